import PyProof.Rows.All
import Wide.All
import OpenK.AllK
import Wide.FinOn
import Lean
import PyProof.EqAt
import PyProof.EqKinds
import PyProof.TupleCall
import PySem.Challenge.RW_queuehold_k31_whole_deals
open List (length_map map_cons getElem?_map length_append map_append getElem?_eq_getElem length_cons mem_cons mem_map size_toArray map_map append_nil length_range mem_append_right mem_singleton all_eq_true mem_cons_of_mem getD_eq_getElem?_getD mem_of_getElem? mem_map_of_mem mem_cons_self mem_range mem_append map_congr_left getElem?_append_right getElem?_append_left find?_cons length_take length_drop sum_append ext_getElem? length_eq_zero_iff nodup_cons any_cons length_singleton take_length getElem?_eq_none all_cons map_id find?_eq_none length_nil map_nil take_succ getElem?_range append_assoc nil_append filterMap_cons mem_reverse range_succ_eq_map all_map take_of_length_le drop_eq_getElem_cons drop_of_length_le range_succ)
open PySem.W (nsIn mg_none_of mg_of findIn keepIn fnOf kia_one emptyDict instObj codeIn plainGet hideAll hasDictIn hideAll_get callWith_K of_hideAll plainGet_of kitx_list kitx_dict methodCall_KW callWith_K0 ked_eqvAll kdu_collect kdl_dict)
open Nat (le_refl le_trans ne_of_lt lt_of_lt_of_le zero_le le_succ lt_trans le_of_ble_eq_true le_of_lt lt_succ_of_lt min_eq_left lt_irrefl ne_of_gt lt_succ_self)
open Bool (and_eq_true not_eq_true')
open PySem.Heap (lt_size get?_push_of_some get?_push_size size_push)
open Int (emod_nonneg emod_lt_of_pos)
open Option (map_eq_none_iff getD_some isSome_iff_exists isSome_map map_eq_some_iff)
open Array (length_toList)
set_option maxHeartbeats 4000000
noncomputable section
abbrev Ht:=PySem.Value->PySem.Shared->Prop
abbrev Hs:=PySem.FuncData
abbrev Hr:=List PySem.PyData
abbrev Hq:=List PySem.Value
abbrev Ho:=List PySem.Str
abbrev Hm:=List Int
abbrev Hl:=Array (Option PySem.Value)
abbrev Hk:=List (Hm)
abbrev Hj:=PySem.Str->Option PySem.Value
abbrev Hi:=List (PySem.Addr × PySem.Obj)
abbrev Hh:=PySem.W.Frag
set_option Elab.async false
set_option linter.all false
set_option maxRecDepth 100000
namespace L2
open PySem PySem.Spec PyProof.Rows
abbrev Key:=Sum Int Str
def o0:Key->Value->Bool
 | .inl k,v=>Value.isInt k v
 | .inr x,v=>Value.isStrOf x v
def HL (w:World):Key->Int
 | .inl k=>hashInt k
 | .inr x=>hashStr w x
def cQ:∀ {k:Key} {v:Value},o0 k v=true->(∃ i t,k=Sum.inl i/\v=Value.int i t)\/(∃ x t,k=Sum.inr x/\v=Value.str x t)
 | .inl i,v,h=>by
  obtain⟨t,e⟩:=Value.isInt_shape (k:=i) (v:=v) h
  exact .inl ⟨i,t,rfl,e⟩
 | .inr x,v,h=>by
  obtain⟨t,e⟩:=Value.isStrOf_shape (x:=x) (v:=v) h
  exact .inr ⟨x,t,rfl,e⟩
def CH (i:Int) (t:Tok):o0 (.inl i) (.int i t)=true:=by simp [o0,Value.isInt]
def oB (x:Str) (t:Tok):o0 (.inr x) (.str x t)=true:=by simp [o0,Value.isStrOf]
def HK (a b:Int):decide ((Sum.inl a:Key)=Sum.inl b)=(a == b):=by
 by_cases e:a=b
 ·subst e; simp
 ·have h:¬ (Sum.inl a:Key)=Sum.inl b:=fun q=>e (Sum.inl.inj q)
  rw[decide_eq_false h]
  exact(beq_eq_false_iff_ne.mpr e).symm
def HH (a b:Str):decide ((Sum.inr a:Key)=Sum.inr b)=decide (a=b):=by
 by_cases e:a=b
 ·subst e; simp
 ·have h:¬ (Sum.inr a:Key)=Sum.inr b:=fun q=>e (Sum.inr.inj q)
  rw[decide_eq_false h,decide_eq_false e]
def HJ (a:Int) (b:Str):decide ((Sum.inl a:Key)=Sum.inr b)=false:=decide_eq_false (fun q=>nomatch q)
def HI (a:Str) (b:Int):decide ((Sum.inr a:Key)=Sum.inl b)=false:=decide_eq_false (fun q=>nomatch q)
def cE (prog:Program) (w:World):PySem.KeyKind prog w Key where
 is:=o0
 hash:=HL w
 inj:=fun v a b ha hb=>by
  rcases cQ ha with ⟨i,t,rfl,rfl⟩ | ⟨x,t,rfl,rfl⟩
  ·rcases cQ hb with ⟨j,u,rfl,e⟩ | ⟨y,u,rfl,e⟩
   ·injection e with e1 _; rw[e1]
   ·exact nomatch e
  ·rcases cQ hb with ⟨j,u,rfl,e⟩ | ⟨y,u,rfl,e⟩
   ·exact nomatch e
   ·injection e with e1 _; rw[e1]
 byValue:=fun k v h=>by
  rcases cQ h with ⟨i,t,rfl,rfl⟩ | ⟨x,t,rfl,rfl⟩ <;> rfl
 pyHash:=fun hv h=>by
  rcases cQ hv with ⟨i,t,rfl,rfl⟩ | ⟨x,t,rfl,rfl⟩
  ·exact wpAny_pyHash_int h
  ·exact wpAny_pyHash_str h
 eqBool:=fun hu hv h=>by
  rcases cQ hu with ⟨i,t,rfl,rfl⟩ | ⟨x,t,rfl,rfl⟩
  ·rcases cQ hv with ⟨j,u,rfl,rfl⟩ | ⟨y,u,rfl,rfl⟩
   ·rw[HK]at h; exact wpAny_eqBool_int h
   ·rw[HJ]at h; exact SeqAt.EqAt.int_str i t y u _ _ _ _ h
  ·rcases cQ hv with ⟨j,u,rfl,rfl⟩ | ⟨y,u,rfl,rfl⟩
   ·rw[HI]at h; exact SeqAt.EqAt.str_int x t j u _ _ _ _ h
   ·rw[HH]at h; exact wpAny_eqBool_str h
 «strs»:=fun k x t v h=>by
  rcases cQ h with ⟨i,u,rfl,e⟩ | ⟨y,u,rfl,e⟩
  ·exact nomatch e
  ·injection e with e1 _
   subst e1
   cases v <;> rfl
def x8 (prog:Program) (w:World) (i:Int) (t:Tok):(cE prog w).is (.inl i) (.int i t)=true:=CH i t
def x6 (prog:Program) (w:World) (x:Str) (t:Tok):(cE prog w).is (.inr x) (.str x t)=true:=oB x t
inductive V where
 | non | bl (b:Bool) | int (i:Int) | str (x:Str) | byt (b:Array UInt8) | flt (b:UInt64) | ref (a:Addr) | ty (n:String)
 deriving DecidableEq
abbrev Hw:=List V
abbrev Hv:=List (Str × V)
abbrev Hu:=List (Key × V)
def bY:V->Value->Prop
 | .non,u=>u=Value.none
 | .bl b,u=>u=Value.bool b
 | .int i,u=>∃ t,u=Value.int i t
 | .str x,u=>∃ t,u=Value.str x t
 | .byt b,u=>∃ t,u=Value.bytes b t
 | .flt b,u=>∃ t,u=Value.float b t
 | .ref a,u=>u=Value.ref a
 | .ty n,u=>u=Value.type n
abbrev bR:Hw->Hq->Prop:=Paired bY
def bR.length (r:bR xs us):xs.length=us.length:=Paired.length r
def bR.get:∀ {xs:Hw} {us:Hq} {i:Nat} {x:V},bR xs us->xs[i]? = some x->∃ u,us[i]? = some u/\bY x u
 | _,_,_,_,.nil,e=>by simp at e
 | _,_,0,_,.cons r _,e=>by simp at e; subst e; exact⟨_,rfl,r⟩
 | _,_,i+1,x,.cons _ t,e=>by
  obtain⟨u,h1,h2⟩:=bR.get (i:=i) (x:=x) t (by simpa using e)
  exact⟨u,by simpa using h1,h2⟩
def bR.append:∀ {xs ys:Hw} {us ws:Hq},bR xs us->bR ys ws->bR (xs++ys) (us++ws)
 | _,_,_,_,.nil,s=>s
 | _,_,_,_,.cons r t,s=>.cons r (bR.append t s)
def bR.take:∀ {xs:Hw} {us:Hq} (n:Nat),bR xs us->bR (xs.take n) (us.take n)
 | _,_,0,_=>.nil
 | _,_,_+1,.nil=>.nil
 | _,_,n+1,.cons r t=>.cons r (bR.take n t)
def bR.drop:∀ {xs:Hw} {us:Hq} (n:Nat),bR xs us->bR (xs.drop n) (us.drop n)
 | _,_,0,r=>r
 | _,_,_+1,.nil=>.nil
 | _,_,n+1,.cons _ t=>bR.drop n t
def j3:Option V->Option Value->Prop
 | some v,some u=>bY v u
 | none,none=>True
 | _,_=>False
def KV {κ : Type}:List (κ × V)->List (κ × Value)->Prop:=Paired fun(p:κ × V) (q:κ × Value)=>p.1=q.1/\bY p.2 q.2
def kV:Key->V
 | .inl i=>.int i
 | .inr x=>.str x
inductive HO where
  | lst (xs:Hw)
  | tup (xs:Hw)
  | dK (kvs:Hu) | dT (kvs:List (List Key × V))
  | set (S:Int->Bool) (n:Nat)
  | ins (C dx:Addr) (fs:Hv)
  | own (x:Addr)
  | xd (fs:Hv)
  | met (f x:Addr)
  | rng (lo hi:Int)
  | frz (o:Obj) (u:HO)
  | tbl (ps:Array Value)
  | ext (φ : Heap->Prop)
abbrev Hp:=Addr->Option HO
def upd (H:Hp) (a:Addr) (o:HO):Hp:=fun b=>if b=a then some o else H b
def aC:upd H a o a=some o:=by unfold upd; rw[if_pos rfl]
def aE (h:b≠a):upd H a o b=H b:=by unfold upd; rw[if_neg h]
def ne_of {H:Hp} {a b:Addr} {o u:HO} (h:H a=some o) (h':H b=some u) (d:o≠u):a≠b:=by
 intro e; subst e; rw[h]at h'; exact d (Option.some.inj h')
def a8 {H:Hp} {a b:Addr} {o:HO} (h:H a=some o) (h':H b=none):a≠b:=by
 intro e; subst e; rw[h]at h'; cases h'
section
variable (P:Program) (w:World)
def dD (H:Hp) (h:Heap) (a:Addr):HO->Prop
 | .lst xs=>xs.length<=sizeLine/\∃ (its:Hq) (n:Nat),bR xs its/\h.get? a=some { cls:=.type "list",data:=.seq its.toArray n }
 | .tup xs=>xs.length<=sizeLine/\∃ its:Hq,bR xs its/\IsTup h a its.toArray
 | .dK kvs=>kvs.length<=sizeLine/\(a == sysModules)=false/\∃ vs,KV kvs vs/\h.DictOf (cE P w) a vs
 | .dT kvs=>kvs.length<=sizeLine/\(a == sysModules)=false/\∃ xs:List (List Key × Addr × Value),
   Paired (fun(p:List Key × V) (q:List Key × Addr × Value)=>p.1=q.1/\H q.2.1=some (.tup (p.1.map kV))/\bY p.2 q.2.2) kvs xs/\
   ∃ o es ep,h.get? a=some o/\o.ExactDict/\o.data = .dict es ep/\es.toList=xs.map (entryOfKey (tupleKind (cE P w)))/\(xs.map (·.1)).Nodup
 | .set S n=>h.SetOf (intKind P w) a S n
 | .ins C dx fs=>H dx=some (.own a)/\fs.length<=1000/\dx≠a/\h.get? a=some (instObj C dx)/\
   ∃ mA,h.Ns1 dx mA/\(∀ f,j3 (fs.lookup f) (mA f))/\PySem.Within mA (fs.map (·.1))
 | .own _=>∃ o,h.get? a=some o
 | .xd fs=>∃ mA,h.Ns1 a mA/\∀ f,j3 (fs.lookup f) (mA f)
 | .rng lo hi=>∃ t u v,h.get? a=some { cls:=.type "range",data:=.fields #[.int lo t,.int hi u,.int 1 v] }
 | .frz o u=>h.get? a=some o/\dD H h a u
 | .tbl ps=>h.get? a=some { cls:=.none,data:=.fields ps }
 | .met f x=>h.get? a=some (PySem.W.methodObj (.ref f) (.ref x))
 | .ext φ=>φ h/\(∃ o,h.get? a=some o)/\∀ h1 h2:Heap,φ h1->(∀ o,h1.get? a=some o->h2.get? a=some o)->φ h2
def HOk (H:Hp) (h:Heap):Prop:=∀ a o,H a=some o->dD P w H h a o
end
section
variable {P:Program} {w:World} {H H':Hp} {h h':Heap} {a:Addr} {o:HO}
def dD.lt (x:dD P w H h a o):a<h.objs.size:=by
 cases o with
 | lst xs=>obtain⟨_,_,_,_,e⟩:=x; exact lt_size e
 | tup xs=>obtain⟨_,_,_,p⟩:=x; exact p.lt
 | dK kvs=>obtain⟨_,_,_,_,o,_,_,e,_⟩:=x; exact lt_size e
 | dT kvs=>obtain⟨_,_,_,_,o,_,_,e,_⟩:=x; exact lt_size e
 | set S n=>obtain⟨o,_,_,_,e,_⟩:=x; exact lt_size e
 | ins C dx fs=>obtain⟨_,_,_,e,_⟩:=x; exact lt_size e
 | own y=>obtain⟨_,e⟩:=x; exact lt_size e
 | xd fs=>obtain⟨_,⟨_,_,_,e,_⟩,_⟩:=x; exact lt_size e
 | rng lo hi=>obtain⟨_,_,_,e⟩:=x; exact lt_size e
 | frz ob u=>obtain⟨e,_⟩:=x; exact lt_size e
 | tbl ps=>exact lt_size (show h.get? a=some _ from x)
 | met f y=>exact lt_size (show h.get? a=some _ from x)
 | ext φ=>obtain⟨_,⟨_,e⟩,_⟩:=x; exact lt_size e
def Paired.mapP {α β : Type} {F G:α->β->Prop}:∀ {l₁ : List α} {l₂ : List β},Paired F l₁ l₂->(∀ a b,F a b->G a b)->Paired G l₁ l₂
 | _,_,.nil,_=>.nil
 | _,_,.cons r t,f=>.cons (f _ _ r) (Paired.mapP t f)
def dD.stay (x:dD P w H h a o) (k:∀ b u,(b=a\/H b=some (.own a))->h.get? b=some u->h'.get? b=some u)
  (ho:∀ b,H b=some (.own a)->H' b=some (.own a)) (ht:∀ b xs,H b=some (.tup xs)->H' b=some (.tup xs)):dD P w H' h' a o:=by
 induction o with
 | lst xs=>obtain⟨z,its,n,r,e⟩:=x; exact⟨z,its,n,r,k _ _ (.inl rfl) e⟩
 | tup xs=>obtain⟨z,its,r,ob,e,c⟩:=x; exact⟨z,its,r,ob,k _ _ (.inl rfl) e,c⟩
 | dK kvs=>obtain⟨z,y,vs,r,ob,es,ep,e,c⟩:=x; exact⟨z,y,vs,r,ob,es,ep,k _ _ (.inl rfl) e,c⟩
 | dT kvs=>
  obtain⟨z,y,xs,r,ob,es,ep,e,c⟩:=x
  exact⟨z,y,xs,Paired.mapP r fun p q z=>⟨z.1,ht _ _ z.2.1,z.2.2⟩,ob,es,ep,k _ _ (.inl rfl) e,c⟩
 | set S n=>obtain⟨ob,es,ep,t,e,c⟩:=x; exact⟨ob,es,ep,t,k _ _ (.inl rfl) e,c⟩
 | ins C dx fs=>
  obtain⟨d,z,ne,e,mA,⟨od,es,ep,e2,c⟩,r⟩:=x
  exact⟨ho _ d,z,ne,k _ _ (.inl rfl) e,mA,⟨od,es,ep,k _ _ (.inr d) e2,c⟩,r⟩
 | own y=>obtain⟨ob,e⟩:=x; exact⟨ob,k _ _ (.inl rfl) e⟩
 | xd fs=>obtain⟨mA,⟨od,es,ep,e,c⟩,r⟩:=x; exact⟨mA,⟨od,es,ep,k _ _ (.inl rfl) e,c⟩,r⟩
 | rng lo hi=>obtain⟨t,u,v,e⟩:=x; exact⟨t,u,v,k _ _ (.inl rfl) e⟩
 | frz ob u ih=>obtain⟨e,q⟩:=x; exact⟨k _ _ (.inl rfl) e,ih q⟩
 | tbl ps=>
  have e:h.get? a=some { cls:=.none,data:=.fields ps }:=x
  show h'.get? a=some { cls:=.none,data:=.fields ps }
  exact k a _ (.inl rfl) e
 | met f y=>
  have e:h.get? a=some (PySem.W.methodObj (.ref f) (.ref y)):=x
  show h'.get? a=some (PySem.W.methodObj (.ref f) (.ref y))
  exact k a _ (.inl rfl) e
 | ext φ=>obtain⟨p,⟨o,e⟩,st⟩:=x; exact⟨st _ _ p fun o q=>k _ _ (.inl rfl) q,⟨o,k _ _ (.inl rfl) e⟩,st⟩
def HOk.lt (x:HOk P w H h) (e:H a=some o):a<h.objs.size:=(x a o e).lt
def HOk.fresh (x:HOk P w H h) (e:h.objs.size<=a):H a=none:=by
 cases q:H a with
 | none=>rfl
 | some u=>exact absurd (lt_of_lt_of_le (x.lt q) e) (lt_irrefl _)
def HOk.kept (x:HOk P w H h) (k:∀ b u,h.get? b=some u->h'.get? b=some u):HOk P w H h':=fun a o e=>
 (x a o e).stay (fun b u _ q=>k b u q) (fun _ q=>q) fun _ _ q=>q
def HOk.laid (x:HOk P w H h) (k:∀ b u,h.get? b=some u->h'.get? b=some u) (hp:h.objs.size<=a) (new:dD P w (upd H a o) h' a o):HOk P w (upd H a o) h':=fun b u e=>by
 have hn:=x.fresh hp
 by_cases hb:b=a
 ·subst hb; rw[aC]at e; cases e; exact new
 ·rw[aE hb]at e
  exact(x b u e).stay (fun c v _ q=>k c v q) (fun c q=>by rw[aE (a8 q hn)]; exact q) fun c xs q=>by rw[aE (a8 q hn)]; exact q
end
def Rd (H:Hp) (a:Addr) (u:HO):Prop:=H a=some u\/∃ o,H a=some (.frz o u)
def Rd.ok (r:Rd H a u) (x:HOk P w H h):dD P w H h a u:=by
 rcases r with r | ⟨o,r⟩
 ·exact x a u r
 ·obtain⟨_,q⟩:=x a _ r
  exact q
def Mut:Option HO->Prop
 | some (.lst _)=>True
 | some (.dK _)=>True
 | some (.dT _)=>True
 | some (.set _ _)=>True
 | some (.ins _ _ _)=>True
 | some (.ext _)=>True
 | _=>False
section
variable {P:Program} {w:World} {H:Hp} {h h':Heap} {x e:Addr} {o':HO}
def HOk.write (ok:HOk P w H h) (mu:Mut (H x)) (he:e=x\/H e=some (.own x)) (k:∀ b u,b≠e->h.get? b=some u->h'.get? b=some u) (heo:∃ u,h'.get? e=some u)
  (new:dD P w (upd H x o') h' x o'):HOk P w (upd H x o') h':=fun b u q=>by
 have nown:∀ c y,H c=some (.own y)->c≠x:=fun c y r z=>by subst z; rw[r]at mu; exact mu
 have ntup:∀ c xs,H c=some (.tup xs)->c≠x:=fun c xs r z=>by subst z; rw[r]at mu; exact mu
 by_cases hb:b=x
 ·subst hb; rw[aC]at q; cases q; exact new
 ·rw[aE hb]at q
  by_cases hbe:b=e
  ·have q':H b=some (.own x):=by
    rcases he with z | z
    ·exact absurd (hbe.trans z) hb
    ·rw[hbe]; exact z
   rw[q]at q'; cases q'
   obtain⟨v,hv⟩:=heo
   exact⟨v,by rw[hbe]; exact hv⟩
  ·refine(ok b u q).stay (fun c v hc r=>k c v ?_ r) (fun c r=>by rw[aE (nown c b r)]; exact r) fun c xs r=>by rw[aE (ntup c xs r)]; exact r
   rcases hc with rfl | hc
   ·exact hbe
   ·rintro rfl
    rcases he with z | z
    ·exact nown c b hc z
    ·rw[hc]at z; cases z; exact hb rfl
end
structure Un (fs ex:List Addr) (H H':Hp) (h h':Heap):Prop where
 keep:∀ b o,h.get? b=some o->H b=none->b ∉ fs->b ∉ ex->h'.get? b=some o
 slot:∀ b o,h.get? b=some o->H b=none->b∈fs->b ∉ ex->∃ sl,h'.get? b=some { o with slots:=sl }
 free:∀ b o,h.get? b=some o->H b=none->b ∉ ex->H' b=none
 there:∀ b o,h.get? b=some o->b ∉ ex->∃ o',h'.get? b=some o'
 tups:∀ b xs,H b=some (.tup xs)->H' b=some (.tup xs)
 frzs:∀ b o u,H b=some (.frz o u)->H' b=some (.frz o u)
 tbls:∀ b ps,H b=some (.tbl ps)->∃ more,H' b=some (.tbl (ps++more))
section
variable {fs fs' ex ex':List Addr} {H H1 H2:Hp} {h h1 h2 h':Heap} {a x e:Addr} {o:HO}
def Un.any (u:Un fs ex H H1 h h1) (q:h.get? b=some ob) (n:H b=none) (hx:b ∉ ex):∃ sl,h1.get? b=some { ob with slots:=sl }:=by
 by_cases hb:b∈fs
 ·exact u.slot b ob q n hb hx
 ·exact⟨ob.slots,u.keep b ob q n hb hx⟩
def Un.kept (k:∀ b u,h.get? b=some u->h'.get? b=some u):Un fs ex H H h h':=
 ⟨fun b ob q _ _ _=>k b ob q,fun b ob q _ _ _=>⟨ob.slots,k b ob q⟩,fun _ _ _ n _=>n,fun b ob q _=>⟨ob,k b ob q⟩,fun _ _ q=>q,fun _ _ _ q=>q,fun _ ps q=>⟨#[],by rw[q]; simp⟩⟩
def Un.refl:Un fs ex H H h h:=Un.kept fun _ _ q=>q
def Un.laid (k:∀ b u,h.get? b=some u->h'.get? b=some u) (hp:h.objs.size<=a) (hn:H a=none):Un fs ex H (upd H a o) h h' where
 keep:=fun b u q _ _ _=>k b u q
 slot:=fun b u q _ _ _=>⟨u.slots,k b u q⟩
 free:=fun b u q n _=>by rw[aE (ne_of_lt (lt_of_lt_of_le (lt_size q) hp))]; exact n
 there:=fun b u q _=>⟨u,k b u q⟩
 tups:=fun b xs q=>by rw[aE (a8 q hn)]; exact q
 frzs:=fun b u xs q=>by rw[aE (a8 q hn)]; exact q
 tbls:=fun b ps q=>⟨#[],by rw[aE (a8 q hn),q]; simp⟩
def Un.write (mu:Mut (H x)) (he:e=x\/H e=some (.own x)) (k:∀ b u,b≠e->h.get? b=some u->h'.get? b=some u) (heo:∃ u,h'.get? e=some u):Un fs ex H (upd H x o) h h':=by
 have hx:∀ b,H b=none->b≠x:=fun b n z=>by subst z; rw[n]at mu; exact mu
 have hb:∀ b,H b=none->b≠e:=fun b n z=>by
  subst z
  rcases he with r | r
  ·exact hx b n r
  ·rw[n]at r; cases r
 have hm:∀ b u,H b=some u->¬ Mut (some u)->b≠x:=fun b u q nm z=>by subst z; rw[q]at mu; exact nm mu
 refine⟨fun b u q n _ _=>k b u (hb b n) q,fun b u q n _ _=>⟨u.slots,k b u (hb b n) q⟩,fun b u q n _=>by rw[aE (hx b n)]; exact n,fun b u q _=>?_,
  fun b xs q=>by rw[aE (hm b _ q fun z=>z)]; exact q,fun b u xs q=>by rw[aE (hm b _ q fun z=>z)]; exact q,fun b ps q=>⟨#[],by rw[aE (hm b _ q fun z=>z),q]; simp⟩⟩
 by_cases hbe:b=e
 ·subst hbe; exact heo
 ·exact⟨u,k b u hbe q⟩
end
def trk (h:Heap) (H:Hp):List Addr:=(List.range h.objs.size).filter fun a=>(H a).isSome
def v4 (h:Heap) (H:Hp):Heap:=hideAll h (trk h H)
def CO (h:Heap) (H:Hp):(v4 h H).objs.size=h.objs.size:=PySem.W.hideAll_size _ _
def EH (e:h.get? b=some o) (n:H b=none):(v4 h H).get? b=some o:=
 hideAll_get _ e fun hm=>by
  have q:(H b).isSome=true:=(List.mem_filter.mp hm).2
  rw[n]at q; simp at q
def Fd (e:(v4 h H).get? b=some o):h.get? b=some o/\H b=none:=by
 have e':h.get? b=some o:=of_hideAll (trk h H) e
 refine⟨e',?_⟩
 cases q:H b with
 | none=>rfl
 | some x=>
  have hm:b∈trk h H:=List.mem_filter.mpr ⟨mem_range.mpr (lt_size e'),by simp [q]⟩
  have z:(v4 h H).get? b=none:=PySem.W.hideAll_none (trk h H) hm
  rw[z]at e; cases e
def Fy (g h:Heap) (L:Addr):Hi:=(List.range h.objs.size).filterMap fun a=>if a=L\/(g.get? a).isSome=true then none else (h.get? a).map fun o=>(a,o)
def rest (g h:Heap) (L d:Addr):Hi:=(Fy g h L).filter fun p=>decide (p.1≠d)
structure Mod (K:Hh) (mg:Hj) (base:Heap):Prop where
 kin:K.In base
 glob:base.Ns mainGlobals mg
 blt:∃ mb,base.Ns builtinsNs mb/\∀ x:Str,x ≠ "__name__"->mb x=bootBuiltins x
 nolimit:base.NoLimit
structure Cx where
 prog:Program
 w:World
 K:Hh
 mg:Hj
 base:Heap
 A:Around
 N:Ho
 s₀ : Shared
 H₀ : Hp
 env:Env
 outer:List Env
 stack:List Env
 ex:List Addr
 fn:Str->Bool
 calm:Bool
 pn:Hi
 xe:Value->Shared->Prop
def frs (l:List Env):List Addr:=l.filterMap (·.frame)
abbrev Cx.fs (X:Cx):List Addr:=frs X.outer
def Vis (sc:Scope) (x:Str):Prop:=sc.names.lookup x=some .local\/sc.names.lookup x=some .cell\/sc.names.lookup x=some .free
def Loc (sc:Scope) (x:Str):Prop:=sc.names.lookup x=some .local\/sc.names.lookup x=some .cell
def Look (env:Env) (h:Heap) (m:Hj) (x:Str) (u:Value):Prop:=
 (env.kindOf x=some .local/\m x=some u)\/((env.kindOf x=some .cell\/env.kindOf x=some .free)/\∃ c,env.cells.lookup x=some c/\h.IsCell c (some u))
structure Cx.Ok (X:Cx):Prop where
 mod:Mod X.K X.mg X.base
 kind:X.env.scope.kind = .function
 glob:X.env.globals=mainGlobals
 blt:X.env.builtins=builtinsNs
 above:X.s₀.heap.objs.size<=X.env.locals
 inj:∀ x y c,X.env.cells.lookup x=some c->X.env.cells.lookup y=some c->x=y
 has:∀ x,(X.env.kindOf x=some .cell\/X.env.kindOf x=some .free)->∃ c,X.env.cells.lookup x=some c
 cab:∀ x c,X.fn x=true->X.env.cells.lookup x=some c->X.s₀.heap.objs.size<=c
 hd:X.calm=true->X.A.handled=none
 frames:X.A.frames=some X.stack
 stk:X.stack=X.outer\/(X.stack=X.env::X.outer/\X.env.frame=some X.env.locals)
 exf:∀ b∈X.ex,b≠X.env.locals/\∀ x c,X.env.cells.lookup x=some c->c≠b
 bs:∀ b o,X.base.get? b=some o->X.s₀.heap.get? b=some o/\X.H₀ b=none
 bsz:X.base.objs.size<=X.s₀.heap.objs.size
 noex:∀ b o,X.base.get? b=some o->b ∉ X.ex
 exfs:∀ b∈X.ex,b ∉ X.fs
 funs:X.s₀.heap.FunFrames X.base X.outer
 frf:∀ b∈X.fs,X.H₀ b=none
structure Inv (X:Cx) (pins:Hi) (σ : List (Option V)) (H:Hp) (s:Shared):Prop where
 ok:X.Ok
 os:s.os=X.s₀.os
 bare:AllBare s.gens
 base:Un X.fs X.ex X.H₀ H X.s₀.heap s.heap
 loc:∃ m,s.heap.Ns X.env.locals m/\∀ (i:Nat) (x:Str) (v:V),X.N[i]? = some x->σ[i]? = some (some v)->Vis X.env.scope x->∃ u,bY v u/\Look X.env s.heap m x u
 cell:∀ x c,X.env.cells.lookup x=some c->∃ v,s.heap.IsCell c v
 free:H X.env.locals=none
 freeC:∀ x c,X.env.cells.lookup x=some c->H c=none
 pin:∀ p∈X.pn++pins,s.heap.get? p.1=some p.2/\H p.1=none/\p.1≠X.env.locals/\p.1 ∉ X.fs/\∀ v,p.2.data ≠ .cell v
 hok:HOk X.prog X.w H s.heap
 len:σ.length=X.N.length
section
variable {X:Cx} {pins:Hi} {σ : List (Option V)} {H H':Hp} {s:Shared} {h':Heap}
def Cx.Ok.nofr (ok:X.Ok) (e:X.base.get? b=some o):b ∉ X.fs:=fun hb=>by
 have:=(ok.funs.mem hb).1
 rw[e]at this; cases this
def Inv.bs (I:Inv X pins σ H s):∀ b o,X.base.get? b=some o->s.heap.get? b=some o/\H b=none:=fun b o e=>
 ⟨I.base.keep b o (I.ok.bs b o e).1 (I.ok.bs b o e).2 (I.ok.nofr e) (I.ok.noex b o e),I.base.free b o (I.ok.bs b o e).1 (I.ok.bs b o e).2 (I.ok.noex b o e)⟩
def Inv.bk (I:Inv X pins σ H s):∀ b o,X.base.get? b=some o->s.heap.get? b=some o:=fun b o e=>(I.bs b o e).1
def Inv.mod (I:Inv X pins σ H s):Mod X.K X.mg X.base:=I.ok.mod
def Inv.kIn (I:Inv X pins σ H s):X.K.In s.heap:=I.ok.mod.kin.keeps I.bk
def Inv.lt (I:Inv X pins σ H s):X.env.locals<s.heap.objs.size:=let ⟨_,hn,_⟩:=I.loc; hn.lt
def Inv.sz (I:Inv X pins σ H s):X.s₀.heap.objs.size<=s.heap.objs.size:=le_trans I.ok.above (le_of_lt I.lt)
def Inv.nofs (I:Inv X pins σ H s) (h:s.heap.objs.size<=a):a ∉ X.fs:=fun hb=>by
 obtain⟨_,o,ho,_⟩:=I.ok.funs.mem hb
 exact absurd (lt_of_lt_of_le (lt_size ho) (le_trans I.sz h)) (lt_irrefl _)
def Inv.cne (I:Inv X pins σ H s):∀ x c,X.env.cells.lookup x=some c->c≠X.env.locals:=fun x c e z=>by
 obtain⟨v,o,ho,hd⟩:=I.cell x c e
 obtain⟨m,⟨o',es,ep,ho',hd',_⟩,_⟩:=I.loc
 rw[z,ho']at ho; cases ho; rw[hd']at hd; cases hd
def Inv.funs (I:Inv X pins σ H s):s.heap.FunFrames X.base X.outer:=by
 have all:∀ (l:List Env),(∀ b∈frs l,b∈X.fs)->X.s₀.heap.FunFrames X.base l->s.heap.FunFrames X.base l:=by
  intro l
  induction l with
  | nil=>intro _ _; trivial
  | cons env r ih=>
   intro hs hl
   obtain⟨hk,⟨L,o,hf,hn,ho,hd⟩,hr⟩:=hl
   have hL:L∈X.fs:=hs L (by unfold frs; rw[filterMap_cons,hf]; exact mem_cons_self)
   obtain⟨sl,e⟩:=I.base.slot L o ho (I.ok.frf L hL) hL fun z=>I.ok.exfs L z hL
   exact⟨hk,⟨L,_,hf,hn,e,hd⟩,ih (fun b hb=>hs b (by unfold frs; rw[filterMap_cons,hf]; exact mem_cons_of_mem _ hb)) hr⟩
 exact all X.outer (fun _ hb=>hb) I.ok.funs
def Inv.stack (I:Inv X pins σ H s):s.heap.FunFrames X.base X.stack:=by
 rcases I.ok.stk with e | ⟨e,hf⟩
 ·rw[e]; exact I.funs
 ·rw[e]
  obtain⟨m,hn,_⟩:=I.loc
  refine .cons (by rw[I.ok.kind]; decide) hf hn ?_ I.funs
  exact Heap.get?_none_of_le (le_trans I.ok.bsz I.ok.above)
def Inv.stkSub (I:Inv X pins σ H s):∀ b∈frs X.stack,b∈X.env.locals::X.fs:=fun b hb=>by
 rcases I.ok.stk with e | ⟨e,hf⟩
 ·rw[e]at hb; exact mem_cons_of_mem _ hb
 ·rw[e]at hb
  unfold frs at hb
  rw[filterMap_cons,hf]at hb
  exact hb
def Inv.stkFree (I:Inv X pins σ H s):∀ b∈frs X.stack,H b=none:=fun b hb=>by
 rcases mem_cons.mp (I.stkSub b hb) with e | hb
 ·rw[e]; exact I.free
 ·obtain⟨_,o,ho,_⟩:=I.ok.funs.mem hb
  exact I.base.free b o ho (I.ok.frf b hb) fun z=>I.ok.exfs b z hb
def Inv.step {g':Array GenState} {t':Nat} {d':Drawn} {ch:List Addr} (I:Inv X pins σ H s)
  (hch:∀ b∈ch,(b∈X.ex\/X.s₀.heap.objs.size<=b)/\b≠X.env.locals/\(∀ x c,X.env.cells.lookup x=some c->c≠b)/\∀ p∈X.pn++pins,p.1≠b)
  (keep:∀ b o,b≠X.env.locals->b ∉ X.fs->b ∉ ch->s.heap.get? b=some o->H b=none->h'.get? b=some o)
  (slot:∀ b o,b≠X.env.locals->b∈X.fs->b ∉ ch->s.heap.get? b=some o->H b=none->∃ sl,h'.get? b=some { o with slots:=sl }) (free:∀ b o,b ∉ ch->s.heap.get? b=some o->H b=none->H' b=none)
  (there:∀ b o,b ∉ ch->s.heap.get? b=some o->∃ o',h'.get? b=some o')
  (tups:∀ b xs,H b=some (.tup xs)->H' b=some (.tup xs)) (frzs:∀ b o u,H b=some (.frz o u)->H' b=some (.frz o u)) (tbls:∀ b ps,H b=some (.tbl ps)->∃ more,H' b=some (.tbl (ps++more)))
  (ns:∀ m,s.heap.Ns X.env.locals m->h'.Ns X.env.locals m) (hok:HOk X.prog X.w H' h') (hg:AllBare g') :
  Inv X pins σ H' { s with heap:=h',gens:=g',drawn:=d',toks:=t' }:=by
 have neL:∀ b o,X.s₀.heap.get? b=some o->b≠X.env.locals:=fun b o e=>ne_of_lt (lt_of_lt_of_le (lt_size e) I.ok.above)
 have neC:∀ b o,X.s₀.heap.get? b=some o->b ∉ X.ex->b ∉ ch:=fun b o e hx hb=>by
  rcases (hch b hb).1 with z | z
  ·exact hx z
  ·exact absurd (lt_of_lt_of_le (lt_size e) z) (lt_irrefl _)
 have cellK:∀ x c,X.env.cells.lookup x=some c->∀ v,s.heap.IsCell c v->h'.IsCell c v:=fun x c e v ⟨o,ho,hd⟩=>by
  have nch:c ∉ ch:=fun z=>(hch c z).2.2.1 x c e rfl
  by_cases hc:c∈X.fs
  ·obtain⟨sl,q⟩:=slot c o (I.cne x c e) hc nch ho (I.freeC x c e)
   exact⟨_,q,hd⟩
  ·exact⟨o,keep c o (I.cne x c e) hc nch ho (I.freeC x c e),hd⟩
 refine⟨I.ok,I.os,hg,⟨fun b o e n hb hx=>?_,fun b o e n hb hx=>?_,fun b o e n hx=>?_,fun b o e hx=>?_,fun b xs e=>tups b xs (I.base.tups b xs e),fun b o xs e=>frzs b o xs (I.base.frzs b o xs e),fun b ps e=>?_⟩,?_,fun x c e=>?_,?_,fun x c e=>?_,fun p hp=>?_,hok,I.len⟩
 ·exact keep b o (neL b o e) hb (neC b o e hx) (I.base.keep b o e n hb hx) (I.base.free b o e n hx)
 ·obtain⟨sl,e1⟩:=I.base.slot b o e n hb hx
  obtain⟨sl',e2⟩:=slot b _ (neL b o e) hb (neC b o e hx) e1 (I.base.free b o e n hx)
  exact⟨sl',e2⟩
 ·obtain⟨o',e1⟩:=I.base.there b o e hx
  exact free b o' (neC b o e hx) e1 (I.base.free b o e n hx)
 ·obtain⟨o',e1⟩:=I.base.there b o e hx
  exact there b o' (neC b o e hx) e1
 ·obtain⟨m1,e1⟩:=I.base.tbls b ps e
  obtain⟨m2,e2⟩:=tbls b _ e1
  exact⟨m1++m2,by rw[e2,Array.append_assoc]⟩
 ·obtain⟨m,hn,hl⟩:=I.loc
  refine⟨m,ns m hn,fun i x v e1 e2 e3=>?_⟩
  obtain⟨u,r,l⟩:=hl i x v e1 e2 e3
  refine⟨u,r,?_⟩
  rcases l with l | ⟨k,c,e,z⟩
  ·exact .inl l
  ·exact .inr ⟨k,c,e,cellK x c e _ z⟩
 ·obtain⟨v,z⟩:=I.cell x c e
  exact⟨v,cellK x c e v z⟩
 ·obtain⟨m,⟨o,_,_,ho,_⟩,_⟩:=I.loc
  exact free _ o (fun z=>(hch _ z).2.1 rfl) ho I.free
 ·obtain⟨v,o,ho,hd⟩:=I.cell x c e
  exact free c o (fun z=>(hch c z).2.2.1 x c e rfl) ho (I.freeC x c e)
 ·obtain⟨e,n,ne,nf,d⟩:=I.pin p hp
  have nch:p.1 ∉ ch:=fun z=>(hch p.1 z).2.2.2 p hp rfl
  exact⟨keep p.1 p.2 ne nf nch e n,free p.1 p.2 nch e n,ne,nf,d⟩
def Inv.un {t':Nat} (I:Inv X pins σ H s) (u:Un X.fs [] H H' s.heap h') (hok:HOk X.prog X.w H' h'):Inv X pins σ H' { s with heap:=h',toks:=t' }:=by
 obtain⟨m,⟨o,es,ep,ho,r⟩,_⟩:=id I.loc
 obtain⟨sl,hL⟩:=u.any ho I.free (by simp)
 exact I.step (g':=s.gens) (d':=s.drawn) (ch:=[]) (fun _ z=>nomatch z) (fun b o _ hb _ e n=>u.keep b o e n hb (by simp)) (fun b o _ hb _ e n=>u.slot b o e n hb (by simp)) (fun b o _ e n=>u.free b o e n (by simp)) (fun b o _ e=>u.there b o e (by simp)) u.tups u.frzs u.tbls (fun m' hm=>by
  obtain⟨o',es',ep',ho',r'⟩:=hm
  rw[ho]at ho'; cases ho'
  exact⟨_,es',ep',hL,r'⟩) hok I.bare
def Inv.call {g':Array GenState} {t':Nat} {d':Drawn} {ch:List Addr} (I:Inv X pins σ H s) (u:Un (frs X.stack) ch H H' s.heap h') (hok:HOk X.prog X.w H' h') (hg:AllBare g')
  (hch:∀ b∈ch,(b∈X.ex\/X.s₀.heap.objs.size<=b)/\b≠X.env.locals/\(∀ x c,X.env.cells.lookup x=some c->c≠b)/\∀ p∈X.pn++pins,p.1≠b) :
  Inv X pins σ H' { s with heap:=h',gens:=g',drawn:=d',toks:=t' }:=by
 obtain⟨m,⟨o,es,ep,ho,r⟩,_⟩:=id I.loc
 obtain⟨sl,hL⟩:=u.any ho I.free fun z=>(hch _ z).2.1 rfl
 exact I.step (ch:=ch) hch (fun b o hL hb hc e n=>u.keep b o e n (fun z=>(mem_cons.mp (I.stkSub b z)).elim hL hb) hc) (fun b o _ _ hc e n=>u.any e n hc) (fun b o hc e n=>u.free b o e n hc) (fun b o hc e=>u.there b o e hc) u.tups u.frzs u.tbls (fun m' hm=>by
  obtain⟨o',es',ep',ho',r'⟩:=hm
  rw[ho]at ho'; cases ho'
  exact⟨_,es',ep',hL,r'⟩) hok hg
def Inv.turned {t':Nat} {it:Addr} (I:Inv X pins σ H s) (k:∀ b o,b≠it->s.heap.get? b=some o->h'.get? b=some o) (hn:H it=none) (hL:it≠X.env.locals)
  (h1:it∈X.ex\/X.s₀.heap.objs.size<=it) (h2:∀ x c,X.env.cells.lookup x=some c->c≠it) (h3:∀ p∈X.pn++pins,p.1≠it):Inv X pins σ H { s with heap:=h',toks:=t' }:=by
 have nit:∀ b u,H b=some u->b≠it:=fun b u e z=>by rw[z,hn]at e; cases e
 refine I.step (g':=s.gens) (d':=s.drawn) (ch:=[it]) (fun b hb=>?_) (fun b o _ _ hc e _=>k b o (fun z=>hc (by simp [z])) e) (fun b o _ _ hc e _=>⟨o.slots,k b o (fun z=>hc (by simp [z])) e⟩) (fun _ _ _ _ n=>n)
  (fun b o hc e=>⟨o,k b o (fun z=>hc (by simp [z])) e⟩) (fun _ _ e=>e) (fun _ _ _ e=>e) (fun b ps e=>⟨#[],by rw[e]; simp⟩) (fun m hm=>?_) (fun b u e=>?_) I.bare
 ·have e:b=it:=by simpa using hb
  subst e
  exact⟨h1,hL,h2,h3⟩
 ·obtain⟨o,es,ep,ho,r⟩:=hm
  exact⟨o,es,ep,k _ o (Ne.symm hL) ho,r⟩
 ·refine(I.hok b u e).stay (fun c v hc q=>k c v ?_ q) (fun _ q=>q) fun _ _ q=>q
  rcases hc with z | z
  ·rw[z]; exact nit b u e
  ·exact nit c _ z
def Inv.tok (I:Inv X pins σ H s) (t:Nat):Inv X pins σ H { s with toks:=t }:=I.un (h':=s.heap) (t':=t) Un.refl I.hok
def Inv.kept (I:Inv X pins σ H s) (k:∀ b u,s.heap.get? b=some u->h'.get? b=some u):Inv X pins σ H { s with heap:=h',toks:=t' }:=I.un (Un.kept k) (I.hok.kept k)
def Inv.laid (I:Inv X pins σ H s) (k:∀ b u,s.heap.get? b=some u->h'.get? b=some u) (hp:s.heap.objs.size<=a) (new:dD X.prog X.w (upd H a o) h' a o) :
  Inv X pins σ (upd H a o) { s with heap:=h',toks:=t' }:=I.un (Un.laid k hp (I.hok.fresh hp)) (I.hok.laid k hp new)
def Inv.write (I:Inv X pins σ H s) (mu:Mut (H x)) (he:e=x\/H e=some (.own x)) (k:∀ b u,b≠e->s.heap.get? b=some u->h'.get? b=some u) (heo:∃ u,h'.get? e=some u)
  (new:dD X.prog X.w (upd H x o) h' x o):Inv X pins σ (upd H x o) { s with heap:=h',toks:=t' }:=I.un (Un.write mu he k heo) (I.hok.write mu he k heo new)
def Inv.pins_of (I:Inv X pins σ H s) (h:∀ p∈pins',s.heap.get? p.1=some p.2/\H p.1=none/\p.1≠X.env.locals/\p.1 ∉ X.fs/\∀ v,p.2.data ≠ .cell v):Inv X pins' σ H s:=
 ⟨I.ok,I.os,I.bare,I.base,I.loc,I.cell,I.free,I.freeC,fun p hp=>(mem_append.mp hp).elim (fun z=>I.pin p (List.mem_append_left _ z)) (h p),I.hok,I.len⟩
def x5 {N:Ho} (hN:N.Nodup) {i j:Nat} {x:Str} (a:N[i]? = some x) (b:N[j]? = some x):i=j:=by
 obtain⟨h1,e1⟩:=List.getElem?_eq_some_iff.mp a
 obtain⟨h2,e2⟩:=List.getElem?_eq_some_iff.mp b
 exact(List.getElem_inj hN).mp (e1.trans e2.symm)
def Bb {M:Model} {A:Around} {E:Ht} {i:Nat} {x:Str} {v:V} {u:Value} {Q:Unit->Shared->Prop} (I:Inv X pins σ H s) (hN:X.N.Nodup) (hi:X.N[i]? = some x) (hx:Loc X.env.scope x) (r:bY v u)
  (h:∀ s',Inv X pins (σ.set i (some v)) H s'->(∃ a,Heap.SameBut a s.heap s'.heap/\(a=X.env.locals\/X.env.cells.lookup x=some a))->Q () s') (hf:X.fn x=true\/X.env.scope.names.lookup x=some .local:=by first | exact .inl rfl | exact .inr rfl | assumption):wpAny M A (storeName X.env x u) Q E s:=by
 obtain⟨m,hn,hl⟩:=id I.loc
 have hcls:(X.env.scope.kind == .class || (X.env.scope.kind == .module && X.env.locals != X.env.globals))=false:=by rw[I.ok.kind]; rfl
 have hiσ : i < σ.length:=by rw[I.len]; exact(List.getElem?_eq_some_iff.mp hi).1
 have cne:=I.cne
 have tracked:∀ {a:Addr} {h':Heap},(∃ o,s.heap.get? a=some o/\H a=none)->Heap.SameBut a s.heap h'->HOk X.prog X.w H h':=fun {a h'} ha hs b ob e=>by
  obtain⟨_,_,hfree⟩:=ha
  refine(I.hok b ob e).stay (fun c w' hc q=>(hs.2 c ?_).trans q) (fun _ q=>q) fun _ _ q=>q
  rintro rfl
  rcases hc with rfl | hc
  ·rw[hfree]at e; cases e
  ·rw[hfree]at hc; cases hc
 rcases hx with hk | hk
 ·refine wpAny_storeName_local hk hn (fun h' hn' hs=>?_) hcls
  obtain⟨oL,_,_,hoL,_⟩:=id hn
  refine h _ ⟨I.ok,I.os,I.bare,⟨fun b o e n hb hx=>?_,fun b o e n hb hx=>?_,I.base.free,fun b o e hx=>?_,I.base.tups,I.base.frzs,I.base.tbls⟩,⟨_,hn',fun j y v' e1 e2 e3=>?_⟩,fun y c e=>?_,I.free,I.freeC,fun p hp=>?_,tracked ⟨oL,hoL,I.free⟩ hs,by simpa using I.len⟩ ⟨_,hs,.inl rfl⟩
  ·exact(hs.2 b (ne_of_lt (lt_of_lt_of_le (lt_size e) I.ok.above))).trans (I.base.keep b o e n hb hx)
  ·obtain⟨sl,e1⟩:=I.base.slot b o e n hb hx
   exact⟨sl,(hs.2 b (ne_of_lt (lt_of_lt_of_le (lt_size e) I.ok.above))).trans e1⟩
  ·obtain⟨o',e1⟩:=I.base.there b o e hx
   exact⟨o',(hs.2 b (ne_of_lt (lt_of_lt_of_le (lt_size e) I.ok.above))).trans e1⟩
  ·by_cases hj:j=i
   ·subst hj
    rw[hi]at e1; cases e1
    rw[List.getElem?_set_self hiσ]at e2
    cases e2
    exact⟨u,r,.inl ⟨hk,by simp⟩⟩
   ·rw[List.getElem?_set_ne (Ne.symm hj)]at e2
    obtain⟨u',r',q⟩:=hl j y v' e1 e2 e3
    refine⟨u',r',?_⟩
    rcases q with ⟨k,e⟩ | ⟨k,c,e,z⟩
    ·refine .inl ⟨k,?_⟩
     have:y≠x:=fun e=>hj (x5 hN e1 (e ▸ hi))
     simp [this,e]
    ·exact .inr ⟨k,c,e,z.sameBut hs (cne y c e)⟩
  ·obtain⟨w',z⟩:=I.cell y c e
   exact⟨w',z.sameBut hs (cne y c e)⟩
  ·obtain⟨e,n,ne,nf,d⟩:=I.pin p hp
   exact⟨(hs.2 p.1 ne).trans e,n,ne,nf,d⟩
 ·have hfn:X.fn x=true:=by
   rcases hf with z | z
   ·exact z
   ·rw[z]at hk; cases hk
  obtain⟨c,hc⟩:=I.ok.has x (.inl hk)
  obtain⟨w',z⟩:=I.cell x c hc
  refine wpAny_storeName_cell I.ok.kind hk hc z (fun h' hc' hs=>?_)
  obtain⟨oc,hoc,hocd⟩:=id z
  refine h { s with heap:=h' } ⟨I.ok,I.os,I.bare,⟨fun b o e n hb hx=>?_,fun b o e n hb hx=>?_,I.base.free,fun b o e hx=>?_,I.base.tups,I.base.frzs,I.base.tbls⟩,⟨m,hn.sameBut hs (Ne.symm (cne x c hc)),fun j y v' e1 e2 e3=>?_⟩,fun y c' e=>?_,I.free,I.freeC,fun p hp=>?_,tracked ⟨oc,hoc,I.freeC x c hc⟩ hs,by simpa using I.len⟩ ⟨c,hs,.inr hc⟩
  ·exact(hs.2 b (ne_of_lt (lt_of_lt_of_le (lt_size e) (I.ok.cab x c hfn hc)))).trans (I.base.keep b o e n hb hx)
  ·obtain⟨sl,e1⟩:=I.base.slot b o e n hb hx
   exact⟨sl,(hs.2 b (ne_of_lt (lt_of_lt_of_le (lt_size e) (I.ok.cab x c hfn hc)))).trans e1⟩
  ·obtain⟨o',e1⟩:=I.base.there b o e hx
   exact⟨o',(hs.2 b (ne_of_lt (lt_of_lt_of_le (lt_size e) (I.ok.cab x c hfn hc)))).trans e1⟩
  ·by_cases hj:j=i
   ·subst hj
    rw[hi]at e1; cases e1
    rw[List.getElem?_set_self hiσ]at e2
    cases e2
    exact⟨u,r,.inr ⟨.inl hk,c,hc,hc'⟩⟩
   ·rw[List.getElem?_set_ne (Ne.symm hj)]at e2
    obtain⟨u',r',q⟩:=hl j y v' e1 e2 e3
    refine⟨u',r',?_⟩
    rcases q with q | ⟨k,c',e,z'⟩
    ·exact .inl q
    ·refine .inr ⟨k,c',e,z'.sameBut hs ?_⟩
     rintro rfl
     exact hj (x5 hN e1 (I.ok.inj _ _ _ e hc ▸ hi))
  ·by_cases hcc:c'=c
   ·subst hcc; exact⟨_,hc'⟩
   ·obtain⟨w2,z2⟩:=I.cell y c' e
    exact⟨w2,z2.sameBut hs hcc⟩
  ·obtain⟨e,n,ne,nf,d⟩:=I.pin p hp
   refine⟨(hs.2 p.1 ?_).trans e,n,ne,nf,d⟩
   intro q
   rw[q,hoc]at e
   have q':oc=p.2:=Option.some.inj e
   exact d w' (by rw[<- q']; exact hocd)
def pU (I:Inv X pins σ H s) (hN:X.N.Nodup) (hi:X.N[i]? = some x) (hx:Loc X.env.scope x) (r:bY v u)
  (h:∀ s',Inv X pins (σ.set i (some v)) H s'->Q () s') (hf:X.fn x=true\/X.env.scope.names.lookup x=some .local:=by first | exact .inl rfl | exact .inr rfl | assumption):wpAny M A (storeName X.env x u) Q E s:=
 Bb I hN hi hx r (fun s' I' _=>h s' I') hf
def Inv.call' (I:Inv X pins σ H s) (ho:s'.os=s.os) (u:Un (frs X.stack) ch H H' s.heap s'.heap) (hok:HOk X.prog X.w H' s'.heap) (hg:AllBare s'.gens)
  (hch:∀ b∈ch,(b∈X.ex\/X.s₀.heap.objs.size<=b)/\b≠X.env.locals/\(∀ x c,X.env.cells.lookup x=some c->c≠b)/\∀ p∈X.pn++pins,p.1≠b):Inv X pins σ H' s':=by
 obtain⟨h',g',d',t',o'⟩:=s'
 have e:o'=s.os:=ho
 subst e
 exact I.call (g':=g') (t':=t') (d':=d') u hok hg hch
end
abbrev XK:=Value->Option Addr->Hp->Prop
abbrev St:=List (Option V)
abbrev VK:=V->Hp->Prop
abbrev TE:=St->Hp->VK->Prop
abbrev TT:=St->Hp->(Bool->Hp->Prop)->Prop
abbrev TA:=St->Hp->(Hw->Hp->Prop)->Prop
structure Ends where
 nx:St->Hp->Prop
 rt:VK
 bk:St->Hp->Prop:=fun _ _=>False
 ct:St->Hp->Prop:=fun _ _=>False
def Ends.next (D:Ends) (f:St->Hp->Prop):Ends:={ D with nx:=f }
def Ends.loop (D:Ends) (N:St->Hp->Prop):Ends:={ D with nx:=N,ct:=N,bk:=D.nx }
def Ends.fn (Q:VK):Ends:={ nx:=fun _ H'=>Q .non H',rt:=Q }
abbrev TS:=Ends->St->Hp->Prop
inductive EP (X:Cx) (pins:Hi) (σ : St) (Q:VK) (u:Value) (s':Shared):Prop
 | mk:∀ v H',Inv X pins σ H' s'->bY v u->Q v H'->EP X pins σ Q u s'
def TP (X:Cx) (pins:Hi) (σ : St) (Q:Bool->Hp->Prop) (b:Bool) (s':Shared):Prop:=∃ H',Inv X pins σ H' s'/\Q b H'
inductive AP (X:Cx) (pins:Hi) (σ : St) (Q:Hw->Hp->Prop) (us:Hq) (s':Shared):Prop
 | mk:∀ vs H',Inv X pins σ H' s'->bR vs us->Q vs H'->AP X pins σ Q us s'
def SP (X:Cx) (pins:Hi) (D:Ends) (f:Flow) (s':Shared):Prop:=
 match f with
 | .next=>∃ σ' H',Inv X pins σ' H' s'/\D.nx σ' H'
 | .brk=>∃ σ' H',Inv X pins σ' H' s'/\D.bk σ' H'
 | .cont=>∃ σ' H',Inv X pins σ' H' s'/\D.ct σ' H'
 | .ret u=>∃ v σ' H',Inv X pins σ' H' s'/\bY v u/\D.rt v H'
def PE (X:Cx) (e:Expr) (t:TE):Prop:=
 ∀ pins s σ H (Q:VK),Inv X pins σ H s->t σ H Q->wpAny (model X.prog X.w) X.A (eval e X.env) (EP X pins σ Q) X.xe s
def PT (X:Cx) (e:Expr) (t:TT):Prop:=
 ∀ pins s σ H (Q:Bool->Hp->Prop),Inv X pins σ H s->t σ H Q->wpAny (model X.prog X.w) X.A (isTrue e X.env (eval e X.env)) (TP X pins σ Q) X.xe s
def PW (X:Cx) (e:Expr) (t:TT):Prop:=
 ∀ (whole:Sem Value) (pins:Hi) (s:Shared) (σ : St) (H:Hp) (Q:Bool->Hp->Prop),Inv X pins σ H s->t σ H Q->wpAny (model X.prog X.w) X.A (isTrue e X.env whole) (TP X pins σ Q) X.xe s
def PW.pt {X:Cx} {e:Expr} {t:TT} (h:PW X e t):PT X e t:=h _
def PA (X:Cx) (es:List Expr) (t:TA):Prop:=
 ∀ (pos:Pos) (pins:Hi) (s:Shared) (σ : St) (H:Hp) (Q:Hw->Hp->Prop),Inv X pins σ H s->t σ H Q->wpAny (model X.prog X.w) X.A (spliced (backTo pos (starEach es X.env))) (AP X pins σ Q) X.xe s
def PS (X:Cx) (st:Stmt) (t:TS):Prop:=
 ∀ pins s σ H (D:Ends),Inv X pins σ H s->t D σ H->wpAny (model X.prog X.w) X.A (exec st X.env) (SP X pins D) X.xe s
def PSs (X:Cx) (st:List Stmt) (t:TS):Prop:=
 ∀ pins s σ H (D:Ends),Inv X pins σ H s->t D σ H->wpAny (model X.prog X.w) X.A (execs st X.env) (SP X pins D) X.xe s
def thn {α : Type} {t:Sem α} {Q Q':α->Shared->Prop} {M:Model} {A:Around} {E:Ht} {s:Shared} (h:wpAny M A t Q E s) (hQ:∀ a s,Q a s->Q' a s):wpAny M A t Q' E s:=wpAny_mono h hQ fun _ _ x=>x
section
variable {X:Cx}
inductive sB (i:Nat) (σ : St) (H:Hp) (Q:VK):Prop
 | mk:∀ v,σ[i]? = some (some v)->Q v H->sB i σ H Q
def tC (v:V):TE:=fun _ H Q=>Q v H
def Gz (hN:X.N[i]? = some x) (hv:Vis X.env.scope x) (hd:(x == ("__debug__" : Str))=false:=by decide) (hcd:(x == ("__classdict__" : Str))=false:=by decide):PE X (.Name x pos) (sB i):=by
 intro pins s σ H Q I h
 obtain⟨v,e,h⟩:=h
 obtain⟨m,hn,hl⟩:=I.loc
 obtain⟨u,r,l⟩:=hl i x v hN e hv
 have fin:EP X pins σ Q u s:=⟨v,H,I,r,h⟩
 rcases l with ⟨hk,hm⟩ | ⟨hk,c,hc,hcell⟩
 ·exact wpAny_Name (wpAny_loadName_local I.ok.kind hk hn hm fin) hd
 ·rcases hk with hk | hk
  ·exact wpAny_Name (wpAny_loadName_cell I.ok.kind hk hc hcell fin) hd
  ·exact wpAny_Name (wpAny_loadName_free I.ok.kind hk hc hcell fin hcd) hd
def aG {i j pos}:PE X (.Constant (.int i) j pos) (tC (.int i)):=fun _ _ _ H _ I h=>wpAny_Constant_int ⟨.int i,H,I.tok _,⟨_,rfl⟩,h⟩
def Ay {b j pos}:PE X (.Constant (.bool b) j pos) (tC (.bl b)):=fun _ _ _ H _ I h=>Constant_bool ⟨.bl b,H,I,rfl,h⟩
def gG {j pos}:PE X (.Constant .none j pos) (tC .non):=fun _ _ _ H _ I h=>Constant_none ⟨.non,H,I,rfl,h⟩
def cY {x j pos}:PE X (.Constant (.str x) j pos) (tC (.str x)):=fun _ _ _ H _ I h=>Calls.Constant_str ⟨.str x,H,I.tok _,⟨_,rfl⟩,h⟩
def Gl (X:Cx) (x:Str):Prop:=X.env.kindOf x=some .globalImplicit
def iG (I:Inv X pins σ H s) (hg:Gl X x) (hm:X.mg x=some u) (h:Q u s)
  (hd:(x == ("__debug__" : Str))=false:=by decide):wpAny (model X.prog X.w) X.A (eval (.Name x pos) X.env) Q E s:=
 Calls.Name_function_global I.ok.kind hg (Calls.loadGlobal_global (by rw[I.ok.glob]; exact I.mod.glob.keeps I.bk) hm h) hd
def jN (I:Inv X pins σ H s) (hg:Gl X x) (hm:X.mg x=none) (hv:bootBuiltins x=some u) (h:Q u s)
  (hn:x ≠ "__name__":=by decide) (hd:(x == ("__debug__" : Str))=false:=by decide):wpAny (model X.prog X.w) X.A (eval (.Name x pos) X.env) Q E s:=by
 obtain⟨mb,h1,h2⟩:=I.mod.blt
 exact Calls.Name_function_global I.ok.kind hg (Calls.loadGlobal_builtin (by rw[I.ok.glob]; exact I.mod.glob.keeps I.bk) hm (by rw[I.ok.blt]; exact h1.keeps I.bk) ((h2 x hn).trans hv) h) hd
def cI (hg:Gl X x) (hm:X.mg x=some u) (r:bY v u) (hd:(x == ("__debug__" : Str))=false:=by decide):PE X (.Name x pos) (tC v):=
 fun _ _ _ H _ I h=>iG I hg hm ⟨v,H,I,r,h⟩ hd
def pH (hg:Gl X x) (hm:X.mg x=none) (hv:bootBuiltins x=some u) (r:bY v u) (hn:x ≠ "__name__":=by decide) (hd:(x == ("__debug__" : Str))=false:=by decide):PE X (.Name x pos) (tC v):=
 fun _ _ _ H _ I h=>jN I hg hm hv ⟨v,H,I,r,h⟩ hn hd
variable {a b:Expr} {ta tb:TE} {pos:Pos}
def PC (X:Cx) (op:CmpOp) (a b:Expr) (t:TE):Prop:=
 ∀ pins s σ H (Q:VK),Inv X pins σ H s->t σ H Q->
  wpAny (model X.prog X.w) X.A (eval a X.env) (fun v s₁=>wpAny (model X.prog X.w) X.A (eval b X.env) (fun u s₂=>wpAny (model X.prog X.w) X.A (compareOp op v u) (EP X pins σ Q) X.xe s₂) X.xe s₁) X.xe s
def Do (b:Expr) (h:op ≠ .In) (h2:op ≠ .NotIn):behindInMarks op b=false:=by
 have e1:(op == CmpOp.In)=false:=by cases op <;> first | rfl | exact absurd rfl h
 have e2:(op == CmpOp.NotIn)=false:=by cases op <;> first | rfl | exact absurd rfl h2
 cases b <;> simp [behindInMarks,e1,e2]
inductive tBX (Q:(Bool->Hp->Prop)) (x:V) (H1:Hp):Prop
 | mk:∀ c,x = .bl c->Q c H1->tBX Q x H1
def tB (t:TE):TT:=fun σ H Q=>t σ H (tBX Q)
def vG (h:PC X op a b t) (h1:behindInMarks op b=false:=by first | exact Do _ (by decide) (by decide) | rfl):PT X (.Compare a [op] [b] pos) (tB t):=by
 intro pins s σ H Q I hw
 refine wpAny_isTrue_Compare1 (thn (h pins s σ H _ I hw) fun v s1 h1=>thn h1 fun u s2 h2=>thn h2 fun c s3 zQq=>?_) h1
 obtain⟨x,H1,I1,r1,q1⟩:=zQq
 obtain⟨d,rfl,q⟩:=q1
 cases r1
 exact wpAny_truthy_bool ⟨H1,I1,q⟩
def cU (h:PE X e t) (he:∀ whole,isTrue e X.env whole=(do let v <- whole; standAt e.pos; holding [v] (truthy v)):=by intro _; rfl):PT X e (tB t):=by
 intro pins s σ H Q I hw
 refine isTrue_plain (thn (h pins s σ H _ I hw) fun v s1 zQq=>?_) (he _)
 obtain⟨x,H1,I1,r1,q1⟩:=zQq
 obtain⟨d,rfl,q⟩:=q1
 cases r1
 exact wpAny_truthy_bool ⟨H1,I1,q⟩
variable {tA tB':TT} {rest:List Expr}
abbrev Gh (u:TT) (σ : St) (Q:(Bool->Hp->Prop)):Bool->Hp->Prop:=fun c H1=>if c=true then u σ H1 Q else Q false H1
def tAnd (t u:TT):TT:=fun σ H Q=>t σ H (Gh u σ Q)
abbrev tOr_1 (u:TT) (σ : St) (Q:(Bool->Hp->Prop)):Bool->Hp->Prop:=fun c H1=>if c=true then Q true H1 else u σ H1 Q
def tOr (t u:TT):TT:=fun σ H Q=>t σ H (tOr_1 u σ Q)
abbrev GV (Q:(Bool->Hp->Prop)):Bool->Hp->Prop:=fun c H1=>Q (!c) H1
def tNot (t:TT):TT:=fun σ H Q=>t σ H (GV Q)
def jI (ha:PT X a tA):PW X (.BoolOp .And [a] pos) tA:=by
 intro wh pins s σ H Q I h
 refine isTrue_and (thn (ha pins s σ H Q I h) fun c s1 e=>?_)
 cases c with
 | true=>exact isTrue_and_nil e
 | false=>exact e
def hJ (ha:PT X a tA):PW X (.BoolOp .Or [a] pos) tA:=by
 intro wh pins s σ H Q I h
 refine isTrue_or (thn (ha pins s σ H Q I h) fun c s1 e=>?_)
 cases c with
 | false=>exact isTrue_or_nil e
 | true=>exact e
def lX (ha:PT X a tA) (hb:PW X (.BoolOp .And (b::rest) pos) tB'):PW X (.BoolOp .And (a::b::rest) pos) (tAnd tA tB'):=by
 intro wh pins s σ H Q I h
 refine isTrue_and (thn (ha pins s σ H _ I h) fun c s1 zQq=>?_)
 obtain⟨H1,I1,q1⟩:=zQq
 cases c with
 | true=>exact hb wh pins s1 σ H1 Q I1 q1
 | false=>exact⟨H1,I1,q1⟩
def kB (ha:PT X a tA) (hb:PW X (.BoolOp .Or (b::rest) pos) tB'):PW X (.BoolOp .Or (a::b::rest) pos) (tOr tA tB'):=by
 intro wh pins s σ H Q I h
 refine isTrue_or (thn (ha pins s σ H _ I h) fun c s1 zQq=>?_)
 obtain⟨H1,I1,q1⟩:=zQq
 cases c with
 | true=>exact⟨H1,I1,q1⟩
 | false=>exact hb wh pins s1 σ H1 Q I1 q1
def cK (ha:PT X a tA):PT X (.UnaryOp .Not a pos) (tNot tA):=by
 intro pins s σ H Q I h
 exact isTrue_not (ha pins s σ H (fun c H1=>Q (!c) H1) I h)
inductive C3 (tb:TE) (σ : St) (Q:VK) (x:V) (H1:Hp):Prop
 | mk:∀ c,x = .bl c->(if c=true then tb σ H1 Q else Q (.bl false) H1)->C3 tb σ Q x H1
def tAndV (ta tb:TE):TE:=fun σ H Q=>ta σ H (C3 tb σ Q)
def qU {op} (h:PE X a t):PE X (.BoolOp op [a] pos) t:=fun pins s σ H Q I hw=>BoolOp_one (h pins s σ H Q I hw)
def lY (ha:PE X a ta) (hb:PE X (.BoolOp .And (b::rest) pos) tb):PE X (.BoolOp .And (a::b::rest) pos) (tAndV ta tb):=by
 intro pins s σ H Q I h
 refine BoolOp_and (thn (ha pins s σ H _ I h) fun v s1 zQq=>?_)
 obtain⟨x,H1,I1,r1,q1⟩:=zQq
 obtain⟨c,rfl,q1⟩:=q1
 cases r1
 refine wpAny_truthy_bool ?_
 cases c with
 | true=>exact hb pins s1 σ H1 Q I1 q1
 | false=>exact⟨.bl false,H1,I1,rfl,q1⟩
abbrev tIf_1 (ta:TE) (tb:TE) (σ : St) (Q:VK):Bool->Hp->Prop:=fun c H1=>if c=true then ta σ H1 Q else tb σ H1 Q
def tIf (t:TT) (ta tb:TE):TE:=fun σ H Q=>t σ H (tIf_1 ta tb σ Q)
def DX (hc:PT X c tA) (ha:PE X a ta) (hb:PE X b tb):PE X (.IfExp c a b pos) (tIf tA ta tb):=by
 intro pins s σ H Q I h
 refine wpAny_IfExp (thn (hc pins s σ H _ I h) fun d s1 zQq=>?_)
 obtain⟨H1,I1,q1⟩:=zQq
 cases d with
 | true=>exact ha pins s1 σ H1 Q I1 q1
 | false=>exact hb pins s1 σ H1 Q I1 q1
end
def SqL (K:Hh) (H:Hp) (a:Addr) (xs:Hw):Prop:=
 Rd H a (.lst xs)\/
  ∃ (o:Obj) (its:Array Value) (n:Nat),K.lookup a=some o/\o.cls = .type "list"/\o.dict=none/\o.data = .seq its n/\its.size<=sizeLine/\bR xs its.toList
def SqT (K:Hh) (H:Hp) (a:Addr) (xs:Hw):Prop:=
 Rd H a (.tup xs)\/
  ∃ (o:Obj) (its:Array Value) (n:Nat),K.lookup a=some o/\o.cls = .type "tuple"/\o.data = .seq its n/\its.size<=sizeLine/\bR xs its.toList
def absV:Value->Option V
 | .none=>some .non
 | .bool b=>some (.bl b)
 | .int i _=>some (.int i)
 | .str x _=>some (.str x)
 | .bytes b _=>some (.byt b)
 | .float b _=>some (.flt b)
 | .ref a=>some (.ref a)
 | .type n=>some (.ty n)
 | _=>none
def bY.abs (r:bY x u):absV u=some x:=by
 cases x with
 | non=>cases r; rfl
 | bl _=>cases r; rfl
 | int _=>obtain⟨t,rfl⟩:=r; rfl
 | str _=>obtain⟨t,rfl⟩:=r; rfl
 | byt _=>obtain⟨t,rfl⟩:=r; rfl
 | flt _=>obtain⟨t,rfl⟩:=r; rfl
 | ref _=>cases r; rfl
 | ty _=>cases r; rfl
def bY.inj (r:bY x u) (q:bY y u):x=y:=Option.some.inj (r.abs.symm.trans q.abs)
def bR.inj:∀ {xs ys:Hw} {us:Hq},bR xs us->bR ys us->xs=ys
 | _,_,_,.nil,.nil=>rfl
 | _,_,_,.cons r t,.cons r' t'=>by rw[r.inj r',bR.inj t t']
section
variable {X:Cx} {pins:Hi} {σ : St} {H:Hp} {s:Shared} {a:Addr} {xs ys:Hw}
def SqL.of {K:Hh} (h:H a=some (.lst xs)):SqL K H a xs:=.inl (.inl h)
def SqT.of {K:Hh} (h:H a=some (.tup xs)):SqT K H a xs:=.inl (.inl h)
def Inv.list (I:Inv X pins σ H s) (h:SqL X.K H a xs):∃ its:Hq,bR xs its/\PlainL s.heap a its.toArray/\xs.length<=sizeLine:=by
 rcases h with h | ⟨o,its,n,hk,hc,hd,hs,hz,r⟩
 ·obtain⟨z,its,n,r,e⟩:=h.ok I.hok
  exact⟨its,r,⟨_,n,e,rfl,rfl,rfl⟩,z⟩
 ·refine⟨its.toList,r,⟨o,n,I.kIn a o hk,hc,hd,by simpa using hs⟩,?_⟩
  have e:=r.length
  simp only[length_toList]at e
  omega
def Inv.tuple (I:Inv X pins σ H s) (h:SqT X.K H a xs):∃ its:Hq,bR xs its/\IsTup s.heap a its.toArray/\xs.length<=sizeLine:=by
 rcases h with h | ⟨o,its,n,hk,hc,hs,hz,r⟩
 ·obtain⟨z,its,r,p⟩:=h.ok I.hok
  exact⟨its,r,p,z⟩
 ·refine⟨its.toList,r,⟨o,I.kIn a o hk,hc,n,by simpa using hs⟩,?_⟩
  have e:=r.length
  simp only[length_toList]at e
  omega
def Inv.list_inj (I:Inv X pins σ H s) (h:SqL X.K H a xs) (h':SqL X.K H a ys):xs=ys:=by
 obtain⟨its,r,⟨o,n,e,_,_,d⟩,_⟩:=I.list h
 obtain⟨its',r',⟨o',n',e',_,_,d'⟩,_⟩:=I.list h'
 rw[e]at e'; cases e'
 rw[d]at d'
 injection d' with d1 _
 have:its=its':=by simpa using congrArg Array.toList d1
 subst this
 exact r.inj r'
def Inv.tuple_inj (I:Inv X pins σ H s) (h:SqT X.K H a xs) (h':SqT X.K H a ys):xs=ys:=by
 obtain⟨its,r,⟨o,e,_,n,d⟩,_⟩:=I.tuple h
 obtain⟨its',r',⟨o',e',_,n',d'⟩,_⟩:=I.tuple h'
 rw[e]at e'; cases e'
 rw[d]at d'
 injection d' with d1 _
 have:its=its':=by simpa using congrArg Array.toList d1
 subst this
 exact r.inj r'
end
abbrev Cx.wish (X:Cx) (E:Ht):Cx:={ X with xe:=E }
abbrev Cx.nox (X:Cx):Cx:=X.wish fun _ _=>False
def Cx.Ok.wish {X:Cx} (ok:X.Ok) (E:Ht):(X.wish E).Ok:=
 ⟨ok.mod,ok.kind,ok.glob,ok.blt,ok.above,ok.inj,ok.has,ok.cab,ok.hd,ok.frames,ok.stk,ok.exf,ok.bs,ok.bsz,ok.noex,ok.exfs,ok.funs,ok.frf⟩
def Cx.Ok.unwish {X:Cx} {E:Ht} (ok:(X.wish E).Ok):X.Ok:=
 ⟨ok.mod,ok.kind,ok.glob,ok.blt,ok.above,ok.inj,ok.has,ok.cab,ok.hd,ok.frames,ok.stk,ok.exf,ok.bs,ok.bsz,ok.noex,ok.exfs,ok.funs,ok.frf⟩
section
variable {X:Cx} {pins:Hi} {σ : St} {H:Hp} {s:Shared} {E:Ht}
def Inv.wish (I:Inv X pins σ H s) (E:Ht):Inv (X.wish E) pins σ H s:=⟨I.ok.wish E,I.os,I.bare,I.base,I.loc,I.cell,I.free,I.freeC,I.pin,I.hok,I.len⟩
def Inv.unwish (I:Inv (X.wish E) pins σ H s):Inv X pins σ H s:=⟨I.ok.unwish,I.os,I.bare,I.base,I.loc,I.cell,I.free,I.freeC,I.pin,I.hok,I.len⟩
def SP.unwish (h:SP (X.wish E) pins D f s'):SP X pins D f s':=by
 cases f with
 | next=>obtain⟨σ',H',I,q⟩:=h; exact⟨σ',H',I.unwish,q⟩
 | brk=>obtain⟨σ',H',I,q⟩:=h; exact⟨σ',H',I.unwish,q⟩
 | cont=>obtain⟨σ',H',I,q⟩:=h; exact⟨σ',H',I.unwish,q⟩
 | ret u=>obtain⟨v,σ',H',I,r,q⟩:=h; exact⟨v,σ',H',I.unwish,r,q⟩
end
section
variable {X:Cx} {st:Stmt} {rest:List Stmt} {t u:TS} {e:Expr} {te:TE} {pos:Pos}
def wU:TS:=fun D σ H=>D.nx σ H
def BY (t u:TS):TS:=fun D σ H=>t (D.next (u D)) σ H
def aO:PSs X [] wU:=fun _ _ σ H _ I h=>wpAny_execs_nil ⟨σ,H,I,h⟩
def aA (h1:PS X st t) (h2:PSs X rest u):PSs X (st::rest) (BY t u):=by
 intro pins s σ H D I h
 refine wpAny_execs_cons (thn (h1 pins s σ H (D.next (u D)) I h) fun f s1 q=>?_)
 cases f with
 | next=>
  obtain⟨σ',H',I',q⟩:=q
  exact h2 pins s1 σ' H' D I' q
 | ret v=>exact q
 | brk=>exact q
 | cont=>exact q
def aB (h1:PS X st t):PSs X [st] t:=by
 intro pins s σ H D I h
 refine wpAny_execs_cons (thn (h1 pins s σ H D I h) fun f s1 q=>?_)
 cases f with
 | next=>exact wpAny_execs_nil q
 | ret v=>exact q
 | brk=>exact q
 | cont=>exact q
def Inv.quiet (I:Inv X pins σ H s):interactive X.env=false:=by simp [interactive,I.ok.kind]
abbrev Eu (D:Ends) (σ : St):V->Hp->Prop:=fun y_0 H1=>D.nx σ H1
def tDrop (te:TE):TS:=fun D σ H=>te σ H (Eu D σ)
def bD (he:PE X e te) (hs:swapsWith e none pos.line X.env=pure false:=by rfl):PS X (.Expr e pos) (tDrop te):=by
 intro pins s σ H D I h
 exact wpAny_Expr_any (thn (he pins s σ H _ I h) fun v s1 ⟨x,H1,I1,r1,q1⟩=>⟨σ,H1,I1,q1⟩) I.quiet hs
def GU (te:TE):TS:=fun D σ H=>te σ H D.rt
def aX (he:PE X e te):PS X (.Return (some e) pos) (GU te):=by
 intro pins s σ H D I h
 exact wpAny_Return_some (thn (he pins s σ H _ I h) fun v s1 ⟨x,H1,I1,r1,q1⟩=>⟨x,σ,H1,I1,r1,q1⟩)
abbrev GY (t:TS) (u:TS) (D:Ends) (σ : St):Bool->Hp->Prop:=fun b H1=>if b=true then t D σ H1 else u D σ H1
def Es (c:TT) (t u:TS):TS:=fun D σ H=>c σ H (GY t u D σ)
def a6 {c:Expr} {a b:List Stmt} {tc:TT} (hc:PT X c tc) (ha:PSs X a t) (hb:PSs X b u):PS X (.If c a b pos) (Es tc t u):=by
 intro pins s σ H D I h
 refine wpAny_If (thn (hc pins s σ H _ I h) fun d s1 zQq=>?_)
 obtain⟨H1,I1,q1⟩:=zQq
 cases d with
 | true=>exact ha pins s1 σ H1 D I1 q1
 | false=>exact hb pins s1 σ H1 D I1 q1
end
abbrev TG:=V->St->Hp->(St->Hp->Prop)->Prop
abbrev TGs:=Hw->St->Hp->(St->Hp->Prop)->Prop
def PG (X:Cx) (target:Expr) (t:TG):Prop:=
 ∀ pins s σ H (v:V) (u:Value) (Q:St->Hp->Prop),Inv X pins σ H s->bY v u->t v σ H Q->
  wpAny (model X.prog X.w) X.A (assign target X.env u) (fun _ s'=>∃ σ' H',Inv X pins σ' H' s'/\Q σ' H') X.xe s
def PGs (X:Cx) (ts:List Expr) (t:TGs):Prop:=
 ∀ pins s σ H (vs:Hw) (us:Hq) (Q:St->Hp->Prop),Inv X pins σ H s->bR vs us->t vs σ H Q->
  wpAny (model X.prog X.w) X.A (assignInOrder ((assignEach ts X.env).map (·.2)) us) (fun _ s'=>∃ σ' H',Inv X pins σ' H' s'/\Q σ' H') X.xe s
abbrev TIp:=V->V->Hp->VK->Prop
def PIp (X:Cx) (op:Operator) (t:TIp):Prop:=
 ∀ pins s σ H (x y:V) (v u:Value) (Q:VK),Inv X pins σ H s->bY x v->bY y u->t x y H Q->
  wpAny (model X.prog X.w) X.A (inplaceOp op v u) (EP X pins σ Q) X.xe s
section
variable {X:Cx} {pos:Pos}
def BD (i:Nat):TG:=fun v σ H Q=>Q (σ.set i (some v)) H
def cH {i:Nat} {x:Str} (hN:X.N.Nodup) (hi:X.N[i]? = some x) (hx:Loc X.env.scope x) (hf:X.fn x=true\/X.env.scope.names.lookup x=some .local:=by first | exact .inl rfl | exact .inr rfl | assumption):PG X (.Name x pos) (BD i):=by
 intro pins s σ H v u Q I r h
 exact wpAny_assign_Name (pU I hN hi hx r (fun s' I'=>⟨_,H,I',h⟩) hf)
def gNil:TGs:=fun vs σ H Q=>vs=[]/\Q σ H
abbrev Fo (u:TGs) (Q:(St->Hp->Prop)) (r:Hw):St->Hp->Prop:=fun σ' H'=>u r σ' H' Q
inductive GN (t:TG) (u:TGs) (vs:Hw) (σ : St) (H:Hp) (Q:(St->Hp->Prop)):Prop
 | mk:∀ v r,vs=v::r->t v σ H (Fo u Q r)->GN t u vs σ H Q
def vI:PGs X [] gNil:=by
 intro pins s σ H vs us Q I r h
 obtain⟨e,h⟩:=h
 subst e
 cases r
 exact assignInOrder_nil ⟨σ,H,I,h⟩
def i5 {e:Expr} {es:List Expr} {t:TG} {u:TGs} (h1:PG X e t) (h2:PGs X es u)
  (hs:(assignEach (e::es) X.env).map (·.2)=assign e X.env::(assignEach es X.env).map (·.2):=by rfl):PGs X (e::es) (GN t u):=by
 intro pins s σ H vs us Q I r h
 obtain⟨v,vr,e1,h⟩:=h
 subst e1
 cases r with
 | cons r rr=>
  rw[hs]
  refine assignInOrder_cons (thn (h1 pins s σ H _ _ _ I r h) fun _ s1 zQq=>?_)
  obtain⟨σ1,H1,I1,q1⟩:=zQq
  exact h2 pins s1 σ1 H1 _ _ Q I1 rr q1
inductive HS (K:Hh) (n:Nat) (t:TGs) (v:V) (σ : St) (H:Hp) (Q:(St->Hp->Prop)):Prop
 | mk:∀ a xs,v = .ref a->SqT K H a xs->xs.length=n->t xs σ H Q->HS K n t v σ H Q
def Gy (hc:X.calm=true) (h:PGs X es t)
  (hn:(assignEach es X.env).length=n:=by rfl) (hst:(assignEach es X.env).findIdx? (·.1)=none:=by rfl):PG X (.Tuple es k pos) (HS X.K n t):=by
 intro pins s σ H v u Q I r hw
 obtain⟨a,xs,e1,hq,hl,hw⟩:=hw
 subst e1
 cases r
 obtain⟨its,rv,ht,hz⟩:=I.tuple hq
 refine assign_Tuple_tuple (I.ok.hd hc) ht (by simp [hn,<- hl,rv.length]) hst fun h' hx=>?_
 have I1:Inv X pins σ H { s with heap:=h' }:=I.kept (t':=s.toks) fun b o e=>hx b o (ne_of_lt (lt_size e)) e
 exact h pins _ σ H xs _ Q I1 (by simpa using rv) hw
abbrev C2 (g:TG) (D:Ends) (σ : St):V->Hp->Prop:=fun x H1=>g x σ H1 D.nx
def tAsg (te:TE) (g:TG):TS:=fun D σ H=>te σ H (C2 g D σ)
def aT {i:Nat} {x:Str} {e:Expr} {te:TE} {pos':Pos} (hN:X.N.Nodup) (hi:X.N[i]? = some x) (hx:Loc X.env.scope x) (he:PE X e te) (hs:swapsWith e (some (.Name x pos')) pos.line X.env=pure false:=by rfl) (hf:X.fn x=true\/X.env.scope.names.lookup x=some .local:=by first | exact .inl rfl | exact .inr rfl | assumption) :
  PS X (.Assign [.Name x pos'] e pos) (tAsg te (BD i)):=by
 intro pins s σ H D I h
 refine wpAny_Assign_Name (thn (he pins s σ H _ I h) fun v s1 zQq=>?_) hs
 obtain⟨y,H1,I1,r1,q1⟩:=zQq
 exact pU I1 hN hi hx r1 (fun s2 I2=>⟨_,H1,I2,q1⟩) hf
abbrev Gf (i:Nat) (D:Ends) (σ : St):V->Hp->Prop:=fun z H2=>D.nx (σ.set i (some z)) H2
abbrev Gg (i:Nat) (ti:TIp) (D:Ends) (σ : St) (x:V):V->Hp->Prop:=fun y H1=>ti x y H1 (Gf i D σ)
inductive tAug (i:Nat) (te:TE) (ti:TIp) (D:Ends) (σ : St) (H:Hp):Prop
 | mk:∀ x,σ[i]? = some (some x)->te σ H (Gg i ti D σ x)->tAug i te ti D σ H
def Gv {i:Nat} {x:Str} {e:Expr} {te:TE} {op:Operator} {ti:TIp} {pos':Pos} (hN:X.N.Nodup) (hi:X.N[i]? = some x) (hx:Loc X.env.scope x) (he:PE X e te) (ho:PIp X op ti) (hf:X.fn x=true\/X.env.scope.names.lookup x=some .local:=by first | exact .inl rfl | exact .inr rfl | assumption) :
  PS X (.AugAssign (.Name x pos') op e pos) (tAug i te ti):=by
 intro pins s σ H D I h
 obtain⟨v,e1,h⟩:=h
 obtain⟨m,hn,hl⟩:=I.loc
 have vis:Vis X.env.scope x:=by rcases hx with k | k; exact .inl k; exact .inr (.inl k)
 obtain⟨u,r,l⟩:=hl i x v hi e1 vis
 refine wpAny_AugAssign_Name ?_
 have go:wpAny (model X.prog X.w) X.A (eval e X.env) (fun w s₂=>wpAny (model X.prog X.w) X.A (inplaceOp op u w) (fun r s₃=>wpAny (model X.prog X.w) X.A (storeName X.env x r) (fun _=>SP X pins D .next) X.xe s₃) X.xe s₂) X.xe s:=by
  refine thn (he pins s σ H _ I h) fun w s1 zQq=>?_
  obtain⟨y,H1,I1,r1,q1⟩:=zQq
  refine thn (ho pins s1 σ H1 v y u w _ I1 r r1 q1) fun z s2 zQq=>?_
  obtain⟨zv,H2,I2,r2,q2⟩:=zQq
  exact pU I2 hN hi hx r2 (fun s3 I3=>⟨_,H2,I3,q2⟩) hf
 rcases l with ⟨hk,hm⟩ | ⟨hk,c,hc,hcell⟩
 ·exact wpAny_loadName_local I.ok.kind hk hn hm go
 ·rcases hk with hk | hk
  ·exact wpAny_loadName_cell I.ok.kind hk hc hcell go
  ·rcases hx with k | k
   ·have:X.env.scope.names.lookup x=some .free:=hk
    rw[k]at this; cases this
   ·have:X.env.scope.names.lookup x=some .free:=hk
    rw[k]at this; cases this
inductive ipI (f:Int->Int->Int) (x:V) (y:V) (H:Hp) (Q:VK):Prop
 | mk:∀ i j,x = .int i->y = .int j->Q (.int (f i j)) H->ipI f x y H Q
def HN:PIp X .Sub (ipI fun i j=>i - j):=by
 intro pins s σ H x y v u Q I r1 r2 h
 obtain⟨i,j,e1,e2,q⟩:=h
 subst e1; subst e2
 obtain⟨t,rfl⟩:=r1
 obtain⟨t',rfl⟩:=r2
 exact isub_int ⟨.int _,H,I.tok _,⟨_,rfl⟩,q⟩
def GS (c:TT) (tb:TS):TS:=fun D σ H=>∃ W:Nat->St->Hp->Prop,(∃ m,W m σ H)/\∀ m σ H,W m σ H->
 c σ H fun b H1=>if b=true then ∃ N:St->Hp->Prop,(∀ σ' H',N σ' H'->∃ m',m'<m/\W m' σ' H')/\tb (D.loop (N)) σ H1 else D.nx σ H1
def xS {c:Expr} {body:List Stmt} {tc:TT} {tb:TS} (hp:PassesOwn (model X.prog X.w) X.A X.env X.xe) (hc:PT X c tc) (hb:PSs X body tb):PS X (.While c body [] pos) (GS tc tb):=by
 intro pins s σ H D I h
 obtain⟨W,⟨m0,w0⟩,turn⟩:=h
 refine wpAny_While (codeAny_whileLoop (fun n s'=>∃ σ' H',Inv X pins σ' H' s'/\W n σ' H') ?_ m0 ⟨σ,H,I,w0⟩)
 rintro n s1 ⟨σ1,H1,I1,w1⟩
 refine wpAny_passesOwn hp (thn (hc pins s1 σ1 H1 _ I1 (turn n σ1 H1 w1)) fun b s2 zQq=>?_)
 obtain⟨H2,I2,q2⟩:=zQq
 cases b with
 | true=>
  obtain⟨N,hN,q2⟩:=q2
  rw[if_pos rfl]
  refine wpAny_passesOwn hp (thn (hb pins s2 σ1 H2 _ I2 q2) fun f s3 q3=>?_)
  cases f with
  | next=>
   obtain⟨σ3,H3,I3,n3⟩:=q3
   obtain⟨m',hm,w3⟩:=hN σ3 H3 n3
   exact⟨m',hm,σ3,H3,I3,w3⟩
  | cont=>
   obtain⟨σ3,H3,I3,n3⟩:=q3
   obtain⟨m',hm,w3⟩:=hN σ3 H3 n3
   exact⟨m',hm,σ3,H3,I3,w3⟩
  | brk=>exact q3
  | ret v=>exact q3
 | false=>
  rw[if_neg Bool.false_ne_true]
  exact wpAny_execs_nil ⟨σ1,H2,I2,q2⟩
end
structure It where
 go:Nat->Hp->Prop
 yld:Nat->Hp->V->Hp->Prop
 stop:Nat->Hp->Prop
def pE (X:Cx) (pins:Hi) (H:Hp) (b:Addr):Prop:=
 H b=none/\b≠X.env.locals/\b ∉ X.fs/\(b∈X.ex\/X.s₀.heap.objs.size<=b)/\(∀ x c,X.env.cells.lookup x=some c->c≠b)/\∀ p∈X.pn++pins,p.1≠b
def Inv.fpOk (I:Inv X pins σ H s) (hb:s.heap.objs.size<=b) (hn:H' b=none):pE X pins H' b:=by
 refine⟨hn,ne_of_gt (lt_of_lt_of_le I.lt hb),I.nofs hb,.inr (le_trans I.sz hb),fun x c e z=>?_,fun p hp z=>?_⟩
 ·obtain⟨v,q⟩:=I.cell x c e
  exact absurd (lt_of_lt_of_le q.lt (by rw[z]; exact hb)) (lt_irrefl _)
 ·exact absurd (lt_of_lt_of_le (lt_size (I.pin p hp).1) (by rw[z]; exact hb)) (lt_irrefl _)
structure Turn (P:Program) (w:World) (K:Hh) (tg:Expr) (J:It) (fp:List Addr) (it:Addr) (tn:Nat->Heap->Prop):Prop where
 mem:it∈fp
 obj:∀ i h,tn i h->∀ b∈fp,∃ o,h.get? b=some o/\∀ v,o.data ≠ .cell v
 keep:∀ i h h',tn i h->(∀ b∈fp,∀ o,h.get? b=some o->h'.get? b=some o)->tn i h'
 item:∀ (X:Cx),X.prog=P->X.w=w->X.K=K->X.calm=true->∀ (i:Nat) (pins:Hi) (s:Shared) (σ : St) (H:Hp) (E:Ht),Inv X pins σ H s->(∀ b∈fp,pE X pins H b)->tn i s.heap->J.go i H->
  wpAny (model P w) X.A (pyNext (.ref it)) (fun r s1=>∃ u,r=some u/\
   wpAny (model P w) X.A (letOwnedTupleGo tg (.ref it) u) (fun _ s2=>∃ x H',Inv X pins σ H' s2/\bY x u/\J.yld i H x H'/\tn (i+1) s2.heap/\∀ b∈fp,H' b=none) E s1) E s
 done:∀ (X:Cx),X.prog=P->X.w=w->X.K=K->X.calm=true->∀ (i:Nat) (pins:Hi) (s:Shared) (σ : St) (H:Hp) (E:Ht),Inv X pins σ H s->(∀ b∈fp,pE X pins H b)->tn i s.heap->J.stop i H->
  wpAny (model P w) X.A (pyNext (.ref it)) (fun r s1=>r=none/\Inv X pins σ H s1) E s
 self:∀ (A:Around) (i:Nat) (s:Shared) (Q:Ht) (E:Ht),tn i s.heap->Q (.ref it) s->wpAny (model P w) A (pyIter (.ref it)) Q E s
abbrev TI:=St->Hp->(It->Hp->Prop)->Prop
inductive PIE (X:Cx) (pins:Hi) (σ : St) (tg:Expr) (R:It->Hp->Prop) (itv:Value) (s2:Shared):Prop
 | mk:∀ (it:Addr) (fp:List Addr) (tn:Nat->Heap->Prop) (J:It) (H':Hp),itv = .ref it->Inv X pins σ H' s2->Turn X.prog X.w X.K tg J fp it tn->tn 0 s2.heap->(∀ b∈fp,pE X pins H' b)->R J H'->PIE X pins σ tg R itv s2
def PI (X:Cx) (tg iter:Expr) (wi:TI):Prop:=
 ∀ pins s σ H (R:It->Hp->Prop),Inv X pins σ H s->wi σ H R->
  wpAny (model X.prog X.w) X.A (eval iter X.env) (fun v s1=>wpAny (model X.prog X.w) X.A (pyIter v) (PIE X pins σ tg R) X.xe s1) X.xe s
def BC (ho:s.heap.get? it=some o) (hc:o.cls = .type n) (hd:o.data = .fields vs)
  (hn:["enumerate","zip","dict_itemiterator","dict_reverseitemiterator","odict_iterator","itertools.zip_longest","itertools.pairwise"].contains n=false) (hQ:Q () s):wpAny M A (letOwnedTupleGo tg (.ref it) u) Q E s:=by
 unfold letOwnedTupleGo
 cases tg <;> first
  | exact wpAny_pure hQ
  | (cases u <;> first
    | exact wpAny_pure hQ
    | (refine wpAny_bind (wpAny_load ho ?_)
       rw[hc,hd]
       show wpAny M A (if (["enumerate","zip","dict_itemiterator","dict_reverseitemiterator","odict_iterator","itertools.zip_longest","itertools.pairwise"].contains n && vs[0]? == some (rawInt _))=true then _ else _) Q E s
       rw[if_neg (by intro h; rw[hn,Bool.false_and]at h; cases h)]
       exact wpAny_pure hQ))
def Itl (K:Hh) (a:Addr):It:=
 ⟨fun i H=>∃ xs x,SqL K H a xs/\xs[i]? = some x,fun i H x H'=>H'=H/\∀ xs,SqL K H a xs->xs[i]? = some x,fun i H=>∃ xs,SqL K H a xs/\xs.length<=i⟩
def Itt (K:Hh) (a:Addr):It:=
 ⟨fun i H=>∃ xs x,SqT K H a xs/\xs[i]? = some x,fun i H x H'=>H'=H/\∀ xs,SqT K H a xs->xs[i]? = some x,fun i H=>∃ xs,SqT K H a xs/\xs.length<=i⟩
def Itr (lo:Int) (n:Nat):It:=⟨fun i _=>i<n,fun i H x H'=>H'=H/\x = .int (lo+i),fun i _=>n<=i⟩
def BV {P:Program} {w:World} {K:Hh} {tg:Expr} (a it:Addr):Turn P w K tg (Itl K a) [it] it (fun i h=>h.IsListIter it a i) where
 mem:=by simp
 obj:=fun i h st b hb=>by
  have e:b=it:=by simpa using hb
  subst e
  obtain⟨o,e,c,d⟩:=st
  exact⟨o,e,fun v z=>by rw[d]at z; cases z⟩
 keep:=fun i h h' st k=>st.at fun o e=>k it (by simp) o e
 item:=by
  intro X hP hw hK hc i pins s σ H E I hf st hg
  subst hP hw hK
  obtain⟨xs,x,hq,hx⟩:=hg
  obtain⟨its,rv,p,hz⟩:=I.list hq
  obtain⟨u,hu,ru⟩:=rv.get hx
  obtain⟨f0,f1,f2,f3,f4,f5⟩:=hf it (by simp)
  refine wpAny_pyNext_list_item st p.isList (x:=u) (by simpa using hu) fun h' st' sb=>?_
  have I1:Inv X pins σ H { s with heap:=h' }:=I.turned (t':=s.toks) (fun b o hb e=>(sb.2 b hb).trans e) f0 f1 f3 f4 f5
  obtain⟨o,e,c,d⟩:=id st'
  exact⟨u,rfl,BC (s:={ s with heap:=h' }) e c d (by decide) ⟨x,H,I1,ru,⟨rfl,fun ys hy=>by rw[I.list_inj hy hq]; exact hx⟩,st',fun b hb=>(hf b hb).1⟩⟩
 done:=by
  intro X hP hw hK hc i pins s σ H E I hf st hg
  subst hP hw hK
  obtain⟨xs,hq,hx⟩:=hg
  obtain⟨its,rv,p,hz⟩:=I.list hq
  obtain⟨f0,f1,f2,f3,f4,f5⟩:=hf it (by simp)
  have hl:=rv.length
  exact wpAny_pyNext_list_end (I.ok.hd hc) st p.isList (by simp; omega) fun h' eb=>⟨rfl,I.turned (t':=s.toks) (fun b o hb e=>eb b o hb e) f0 f1 f3 f4 f5⟩
 self:=fun _ _ _ _ _ st h=>wpAny_pyIter_listiter st h
def zC {P:Program} {w:World} {K:Hh} {tg:Expr} (a it:Addr):Turn P w K tg (Itt K a) [it] it (fun i h=>h.IsTupleIter it a i) where
 mem:=by simp
 obj:=fun i h st b hb=>by
  have e:b=it:=by simpa using hb
  subst e
  obtain⟨o,e,c,d⟩:=st
  exact⟨o,e,fun v z=>by rw[d]at z; cases z⟩
 keep:=fun i h h' st k=>st.at fun o e=>k it (by simp) o e
 item:=by
  intro X hP hw hK hc i pins s σ H E I hf st hg
  subst hP hw hK
  obtain⟨xs,x,hq,hx⟩:=hg
  obtain⟨its,rv,p,hz⟩:=I.tuple hq
  obtain⟨u,hu,ru⟩:=rv.get hx
  obtain⟨f0,f1,f2,f3,f4,f5⟩:=hf it (by simp)
  refine wpAny_pyNext_tuple_item st (show s.heap.IsTuple a its.toArray from p) (x:=u) (by simpa using hu) fun h' st' sb=>?_
  have I1:Inv X pins σ H { s with heap:=h' }:=I.turned (t':=s.toks) (fun b o hb e=>(sb.2 b hb).trans e) f0 f1 f3 f4 f5
  obtain⟨o,e,c,d⟩:=id st'
  exact⟨u,rfl,BC (s:={ s with heap:=h' }) e c d (by decide) ⟨x,H,I1,ru,⟨rfl,fun ys hy=>by rw[I.tuple_inj hy hq]; exact hx⟩,st',fun b hb=>(hf b hb).1⟩⟩
 done:=by
  intro X hP hw hK hc i pins s σ H E I hf st hg
  subst hP hw hK
  obtain⟨xs,hq,hx⟩:=hg
  obtain⟨its,rv,p,hz⟩:=I.tuple hq
  obtain⟨f0,f1,f2,f3,f4,f5⟩:=hf it (by simp)
  have hl:=rv.length
  exact wpAny_pyNext_tuple_end (I.ok.hd hc) st (show s.heap.IsTuple a its.toArray from p) (by simp; omega) fun h' eb=>⟨rfl,I.turned (t':=s.toks) (fun b o hb e=>eb b o hb e) f0 f1 f3 f4 f5⟩
 self:=fun _ _ _ _ _ st h=>wpAny_pyIter_tupleiter st h
def zD {P:Program} {w:World} {K:Hh} {tg:Expr} (it:Addr) (lo:Int) (n:Nat):Turn P w K tg (Itr lo n) [it] it (fun i h=>IsRangeIter h it (lo+(i:Nat) * 1) ((n:Int) - (i:Nat)) 1) where
 mem:=by simp
 obj:=fun i h st b hb=>by
  have e:b=it:=by simpa using hb
  subst e
  exact⟨_,st,fun v z=>by
   have z':Data.fields _=Data.cell v:=z
   cases z'⟩
 keep:=fun i h h' st k=>k it (by simp) _ st
 item:=by
  intro X hP hw hK hc i pins s σ H E I hf st hg
  subst hP hw hK
  obtain⟨f0,f1,f2,f3,f4,f5⟩:=hf it (by simp)
  have W:=Walks.range (prog:=X.prog) (w:=X.w) (I.ok.hd hc) it lo 1 n
  refine W.item i s _ _ hg st fun v h' tk hv st' kk=>?_
  obtain⟨t,rfl⟩:=hv
  have I1:Inv X pins σ H { s with heap:=h',toks:=tk }:=I.turned (fun b o hb e=>kk b o (by simpa using hb) e) f0 f1 f3 f4 f5
  refine⟨_,rfl,BC (s:={ s with heap:=h',toks:=tk }) (n:="range_iterator") st' rfl rfl (by decide) ⟨.int (lo+i),H,I1,⟨t,?_⟩,⟨rfl,rfl⟩,st',fun b hb=>(hf b hb).1⟩⟩
  rw[Int.mul_one]
 done:=by
  intro X hP hw hK hc i pins s σ H E I hf st hg
  subst hP hw hK
  obtain⟨f0,f1,f2,f3,f4,f5⟩:=hf it (by simp)
  exact wpAny_pyNext_range_end (I.ok.hd hc) st (by have:n<=i:=hg; omega) fun h' eb=>⟨rfl,I.turned (t':=s.toks) (fun b o hb e=>eb b o hb e) f0 f1 f3 f4 f5⟩
 self:=fun _ _ _ _ _ st h=>wpAny_pyIter_rangeiter st h
section
variable {X:Cx} {tg:Expr}
inductive EE (K:Hh) (R:(It->Hp->Prop)) (x:V) (H1:Hp):Prop
 | mk:∀ a,x = .ref a->(∃ xs,SqL K H1 a xs)->R (Itl K a) H1->EE K R x H1
def GM (K:Hh) (tl:TE):TI:=fun σ H R=>tl σ H (EE K R)
inductive GK (K:Hh) (R:(It->Hp->Prop)) (x:V) (H1:Hp):Prop
 | mk:∀ a,x = .ref a->(∃ xs,SqT K H1 a xs)->R (Itt K a) H1->GK K R x H1
def iTup (K:Hh) (tl:TE):TI:=fun σ H R=>tl σ H (GK K R)
def FL {l:Expr} {tl:TE} (hl:PE X l tl):PI X tg l (GM X.K tl):=by
 intro pins s σ H R I h
 refine thn (hl pins s σ H _ I h) fun v s1 zQq=>?_
 obtain⟨x,H1,I1,r1,q1⟩:=zQq
 obtain⟨a,e,⟨xs,hq⟩,q⟩:=q1
 subst e
 cases r1
 obtain⟨its,rv,p,hz⟩:=I1.list hq
 refine wpAny_pyIter_list p.isList ?_
 refine⟨s1.heap.objs.size,[s1.heap.objs.size],_,_,H1,rfl,I1.kept (t':=s1.toks) fun b o e=>get?_push_of_some _ e,BV a _,⟨_,get?_push_size _ rfl,rfl,rfl⟩,fun b hb=>?_,q⟩
 have e:b=s1.heap.objs.size:=by simpa using hb
 subst e
 exact I1.fpOk (le_refl _) (I1.hok.fresh (le_refl _))
def Gw {l:Expr} {tl:TE} (hl:PE X l tl):PI X tg l (iTup X.K tl):=by
 intro pins s σ H R I h
 refine thn (hl pins s σ H _ I h) fun v s1 zQq=>?_
 obtain⟨x,H1,I1,r1,q1⟩:=zQq
 obtain⟨a,e,⟨xs,hq⟩,q⟩:=q1
 subst e
 cases r1
 obtain⟨its,rv,p,hz⟩:=I1.tuple hq
 refine wpAny_pyIter_tuple (show s1.heap.IsTuple a its.toArray from p) ?_
 refine⟨s1.heap.objs.size,[s1.heap.objs.size],_,_,H1,rfl,I1.kept (t':=s1.toks) fun b o e=>get?_push_of_some _ e,zC a _,⟨_,get?_push_size _ rfl,rfl,rfl⟩,fun b hb=>?_,q⟩
 have e:b=s1.heap.objs.size:=by simpa using hb
 subst e
 exact I1.fpOk (le_refl _) (I1.hok.fresh (le_refl _))
def DJ {pins:Hi} {σ : St} {H:Hp} {s:Shared} {R:It->Hp->Prop} {E:Ht} {lo hi:Int} {t u v:Tok} {tk:Nat} (I:Inv X pins σ H s) (h1:-(2 ^ 62)<=lo) (h2:lo<2 ^ 62) (h3:-(2 ^ 62)<=hi) (h4:hi<2 ^ 62)
  (q:R (Itr lo (hi - lo).toNat) H):wpAny (model X.prog X.w) X.A (pyIter (.ref s.heap.objs.size)) (PIE X pins σ tg R) E { s with heap:=s.heap.push { cls:=.type "range",data:=.fields #[.int lo t,.int hi u,.int 1 v] },toks:=tk }:=by
 refine wpAny_pyIter_range (IsRange.new ..) (small_one h1 h2 h3 h4) ?_
 have I1:Inv X pins σ H { s with heap:=s.heap.push { cls:=.type "range",data:=.fields #[.int lo t,.int hi u,.int 1 v] },toks:=tk }:=I.kept fun b o e=>get?_push_of_some _ e
 refine⟨(s.heap.push { cls:=.type "range",data:=.fields #[.int lo t,.int hi u,.int 1 v] }).objs.size,[(s.heap.push { cls:=.type "range",data:=.fields #[.int lo t,.int hi u,.int 1 v] }).objs.size],_,_,H,rfl,
  I1.kept (t':=tk) fun b o e=>get?_push_of_some _ e,zD _ lo (hi - lo).toNat,?_,fun b hb=>?_,q⟩
 ·have e1:lo+((0:Nat):Int) * 1=lo:=by simp
  have e2:(((hi - lo).toNat:Nat):Int) - ((0:Nat):Int)=Builtin.Range.rangeSize lo hi 1:=by rw[rangeSize_one]; split <;> omega
  show IsRangeIter _ _ (lo+((0:Nat):Int) * 1) ((((hi - lo).toNat:Nat):Int) - ((0:Nat):Int)) 1
  rw[e1,e2]
  exact get?_push_size _ rfl
 ·have e:b=(s.heap.push { cls:=.type "range",data:=.fields #[.int lo t,.int hi u,.int 1 v] }).objs.size:=by simpa using hb
  subst e
  exact I1.fpOk (le_refl _) (I1.hok.fresh (le_refl _))
inductive ED (R:(It->Hp->Prop)) (vs:Hw) (H1:Hp):Prop
 | mk:∀ j:Int,vs=[.int j]->-(2 ^ 62)<=j->j<2 ^ 62->R (Itr 0 j.toNat) H1->ED R vs H1
def iRng1 (ta:TA):TI:=fun σ H R=>ta σ H (ED R)
def nZ {a:Expr} {ta:TA} {p pos:Pos} (hg:Gl X "range") (hm:X.mg "range" = none) (ha:PA X [a] ta) (hs:starEach [a] X.env=[(false,eval a X.env)]:=by rfl):PI X tg (.Call (.Name "range" p) [a] [] pos) (iRng1 ta):=by
 intro pins s σ H R I h
 refine Call_ (jN I hg hm boot_range (PyProof.Rows.callWith_type1 (thn (ha pos pins s σ H _ I h) fun us s1 zQq=>?_) hs rfl))
 obtain⟨vs,H1,I1,r1,q1⟩:=zQq
 obtain⟨j,e,q1,q2,q⟩:=q1
 subst e
 cases r1 with
 | cons r rr=>
  cases rr
  obtain⟨t,rfl⟩:=r
  exact call_range_1 (DJ I1 (by omega) (by omega) q1 q2 (by simpa using q))
def GZ (g:TG) (tb:TS) (D:Ends) (σ : St):It->Hp->Prop:=fun J H1=>∃ W:Nat->Nat->St->Hp->Prop,(∃ m,W 0 m σ H1)/\∀ i m σ H,W i m σ H->
 (J.stop i H/\D.nx σ H)\/(J.go i H/\∃ N:St->Hp->Prop,(∀ σ' H',N σ' H'->∃ m',m'<m/\W (i+1) m' σ' H')/\∀ x H',J.yld i H x H'->g x σ H' fun σ2 H2=>tb (D.loop (N)) σ2 H2)
def tFor (wi:TI) (g:TG) (tb:TS):TS:=fun D σ H=>wi σ H (GZ g tb D σ)
def qT (fp:List Addr) (h:Heap):Hi:=fp.filterMap fun b=>(h.get? b).map fun o=>(b,o)
def jM (hb:b∈fp) (e:h.get? b=some o):(b,o)∈qT fp h:=List.mem_filterMap.mpr ⟨b,hb,by rw[e]; rfl⟩
def B3 (hp:p∈qT fp h):p.1∈fp/\h.get? p.1=some p.2:=by
 obtain⟨b,hb,e⟩:=List.mem_filterMap.mp hp
 cases q:h.get? b with
 | none=>rw[q]at e; cases e
 | some o=>
  rw[q]at e
  have e':(b,o)=p:=Option.some.inj e
  subst e'
  exact⟨hb,q⟩
def Inv.pinned (I:Inv X pins σ H s) (hf:∀ b∈fp,pE X pins H b) (ho:∀ b∈fp,∃ o,s.heap.get? b=some o/\∀ v,o.data ≠ .cell v):Inv X (pins++qT fp s.heap) σ H s:=
 I.pins_of fun p hp=>(mem_append.mp hp).elim (fun z=>I.pin p (mem_append_right _ z)) fun z=>by
  obtain⟨hb,e⟩:=B3 z
  obtain⟨f0,f1,f2,_⟩:=hf p.1 hb
  obtain⟨o,e',d⟩:=ho p.1 hb
  rw[e]at e'; cases e'
  exact⟨e,f0,f1,f2,d⟩
def Inv.unpinned (I:Inv X (pins++pl) σ H s):Inv X pins σ H s:=I.pins_of fun p hp=>I.pin p (mem_append_right _ (List.mem_append_left _ hp))
def kD {iter:Expr} {body:List Stmt} {wi:TI} {g:TG} {tb:TS} {pos:Pos} (hp:PassesOwn (model X.prog X.w) X.A X.env X.xe) (hc:X.calm=true) (hi:PI X tg iter wi) (hg:PG X tg g) (hb:PSs X body tb)
  (hs:∀ x,foldedSetIterable iter X.env x=pure x:=by intro _; rfl):PS X (.For tg iter body [] pos) (tFor wi g tb):=by
 intro pins s σ H D I h
 refine wpAny_For (thn (hi pins s σ H _ I h) fun v s1 h1=>thn h1 fun itv s2 h2=>?_) hs
 obtain⟨it,fp,tn,J,H2,e,I2,T,st2,f2,W,⟨m0,w0⟩,turn⟩:=h2
 subst e
 -- what stays true of the iterator's objects through the loop
 have stat:∀ {H':Hp},(∀ b∈fp,H' b=none)->∀ b∈fp,pE X pins H' b:=fun hn b hb=>⟨hn b hb,(f2 b hb).2⟩
 refine codeAny_forLoop_any (fun n s'=>∃ i σ' H',Inv X pins σ' H' s'/\tn i s'.heap/\(∀ b∈fp,H' b=none)/\W i n σ' H') ?_ m0 ⟨0,σ,H2,I2,st2,fun b hb=>(f2 b hb).1,w0⟩
 rintro n s3 ⟨i,σ3,H3,I3,st3,fr3,w3⟩
 rcases turn i n σ3 H3 w3 with ⟨stop,qn⟩ | ⟨go,N,hN,step⟩
 ·refine wpAny_passesOwn hp (thn (T.done X rfl rfl rfl hc i pins s3 σ3 H3 X.xe I3 (stat fr3) st3 stop) fun r s4 zQq=>?_)
  obtain⟨hr,I4⟩:=zQq
  subst hr
  exact wpAny_execs_nil ⟨σ3,H3,I4,qn⟩
 ·refine wpAny_passesOwn hp (thn (T.item X rfl rfl rfl hc i pins s3 σ3 H3 X.xe I3 (stat fr3) st3 go) fun r s4 zQq=>?_)
  obtain⟨u,hr,h4⟩:=zQq
  subst hr
  refine wpAny_passesOwn hp (thn h4 fun _ s5 zQq=>?_)
  obtain⟨x,H5,I5,r5,y5,st5,fr5⟩:=zQq
  have I5':=I5.pinned (stat fr5) (T.obj _ _ st5)
  refine wpAny_passesOwn hp (thn (hg _ s5 σ3 H5 x u _ I5' r5 (step x H5 y5)) fun _ s6 zQq=>?_)
  obtain⟨σ6,H6,I6,q6⟩:=zQq
  refine wpAny_passesOwn hp (thn (hb _ s6 σ6 H6 _ I6 q6) fun f s7 q7=>?_)
  have again:∀ {σ7:St} {H7:Hp},Inv X (pins++qT fp s5.heap) σ7 H7 s7->N σ7 H7->∃ m,m<n/\∃ i σ' H',Inv X pins σ' H' s7/\tn i s7.heap/\(∀ b∈fp,H' b=none)/\W i m σ' H':=fun {σ7 H7} I7 n7=>by
   obtain⟨m',hm,w7⟩:=hN σ7 H7 n7
   refine⟨m',hm,i+1,σ7,H7,I7.unpinned,T.keep _ _ _ st5 fun b hb o e=>(I7.pin (b,o) (mem_append_right _ (mem_append_right _ (jM hb e)))).1,fun b hb=>?_,w7⟩
   obtain⟨o,e,d⟩:=T.obj _ _ st5 b hb
   exact(I7.pin (b,o) (mem_append_right _ (mem_append_right _ (jM hb e)))).2.1
  cases f with
  | next=>obtain⟨σ7,H7,I7,n7⟩:=q7; exact again I7 n7
  | cont=>obtain⟨σ7,H7,I7,n7⟩:=q7; exact again I7 n7
  | brk=>obtain⟨σ7,H7,I7,q7⟩:=q7; exact⟨σ7,H7,I7.unpinned,q7⟩
  | ret v=>obtain⟨x7,σ7,H7,I7,r7,q7⟩:=q7; exact⟨x7,σ7,H7,I7.unpinned,r7,q7⟩
end
abbrev R2:=V->V->Hp->VK->Prop
def OpR (X:Cx) (f:Value->Value->Sem Value) (r:R2):Prop:=
 ∀ pins s σ H (x y:V) (v u:Value) (Q:VK),Inv X pins σ H s->bY x v->bY y u->r x y H Q->
  wpAny (model X.prog X.w) X.A (f v u) (EP X pins σ Q) X.xe s
def UnR (X:Cx) (f:Value->Sem Value) (r:V->Hp->VK->Prop):Prop:=
 ∀ pins s σ H (x:V) (v:Value) (Q:VK),Inv X pins σ H s->bY x v->r x H Q->
  wpAny (model X.prog X.w) X.A (f v) (EP X pins σ Q) X.xe s
def fH (X:Cx) (f:Value) (r:Hw->Hp->VK->Prop):Prop:=
 ∀ pins s σ H (xs:Hw) (us:Hq) (Q:VK),Inv X pins σ H s->bR xs us->r xs H Q->
  wpAny (model X.prog X.w) X.A (call f us) (EP X pins σ Q) X.xe s
def TruR (X:Cx) (r:V->Hp->(Bool->Hp->Prop)->Prop):Prop:=
 ∀ pins s σ H (x:V) (v:Value) (Q:Bool->Hp->Prop),Inv X pins σ H s->bY x v->r x H Q->
  wpAny (model X.prog X.w) X.A (truthy v) (TP X pins σ Q) X.xe s
abbrev tOp_2 (r:R2) (Q:VK) (x:V):V->Hp->Prop:=fun y H2=>r x y H2 Q
abbrev tOp_1 (r:R2) (tb:TE) (σ : St) (Q:VK):V->Hp->Prop:=fun x H1=>tb σ H1 (tOp_2 r Q x)
def tOp (r:R2) (ta tb:TE):TE:=fun σ H Q=>ta σ H (tOp_1 r tb σ Q)
abbrev tUn_1 (r:V->Hp->VK->Prop) (Q:VK):V->Hp->Prop:=fun x H1=>r x H1 Q
def tUn (r:V->Hp->VK->Prop) (ta:TE):TE:=fun σ H Q=>ta σ H (tUn_1 r Q)
inductive rI (C:Int->Int->Prop) (g:Int->Int->V) (x:V) (y:V) (H:Hp) (Q:VK):Prop
 | mk:∀ i j,x = .int i->y = .int j->C i j->Q (g i j) H->rI C g x y H Q
inductive rI0 (g:Int->Int->V) (x:V) (y:V) (H:Hp) (Q:VK):Prop
 | mk:∀ i j,x = .int i->y = .int j->Q (g i j) H->rI0 g x y H Q
inductive rU (g:Int->V) (x:V) (H:Hp) (Q:VK):Prop
 | mk:∀ i,x = .int i->Q (g i) H->rU g x H Q
section
variable {X:Cx} {a b c:Expr} {ta tb tc:TE} {pos:Pos}
def Ha (ha:PE X a ta) (hb:PE X b tb) {pins:Hi} {s:Shared} {σ : St} {H:Hp} {R:V->V->Hp->Prop} (I:Inv X pins σ H s)
  (h:ta σ H fun x H1=>tb σ H1 fun y H2=>R x y H2) {Q:Ht} {f:Value->Value->Sem Value}
  (hf:∀ v u s2 x y H2,Inv X pins σ H2 s2->bY x v->bY y u->R x y H2->wpAny (model X.prog X.w) X.A (f v u) Q X.xe s2) :
  wpAny (model X.prog X.w) X.A (eval a X.env) (fun v s₁=>wpAny (model X.prog X.w) X.A (eval b X.env) (fun u s₂=>wpAny (model X.prog X.w) X.A (f v u) Q X.xe s₂) X.xe s₁) X.xe s:=by
 refine thn (ha pins s σ H _ I h) fun v s1 zQq=>?_
 obtain⟨x,H1,I1,r1,q1⟩:=zQq
 refine thn (hb pins s1 σ H1 _ I1 q1) fun u s2 zQq=>?_
 obtain⟨y,H2,I2,r2,q2⟩:=zQq
 exact hf v u s2 x y H2 I2 r1 r2 q2
def aY {op:Operator} {r:R2} (ho:OpR X (binaryOp op) r) (ha:PE X a ta) (hb:PE X b tb):PE X (.BinOp a op b pos) (tOp r ta tb):=by
 intro pins s σ H Q I h
 exact wpAny_BinOp (Ha ha hb I h fun v u s2 x y H2 I2 rx ry q=>ho pins s2 σ H2 x y v u Q I2 rx ry q)
def Aw (ho:UnR X (unaryOp op) r) (ha:PE X a ta):PE X (.UnaryOp op a pos) (tUn r ta):=by
 intro pins s σ H Q I h
 exact UnaryOp_ (thn (ha pins s σ H _ I h) fun v s1 ⟨x,H1,I1,r1,q1⟩=>ho pins s1 σ H1 x v Q I1 r1 q1)
def opI {f:Value->Value->Sem Value} {C:Int->Int->Prop} {g:Int->Int->Int}
  (rule:∀ (i j:Int) (t u:Tok) (s:Shared) (Q:Ht) (E:Ht),C i j->Q (.int (g i j) s.toks) { s with toks:=s.toks+1 }->wpAny (model X.prog X.w) X.A (f (.int i t) (.int j u)) Q E s) :
  OpR X f (rI C fun i j=>.int (g i j)):=by
 intro pins s σ H x y v u Q I rx ry h
 obtain⟨i,j,rfl,rfl,hc,q⟩:=h
 obtain⟨t,rfl⟩:=rx
 obtain⟨t',rfl⟩:=ry
 exact rule i j t t' s _ _ hc ⟨.int (g i j),H,I.tok _,⟨_,rfl⟩,q⟩
def opI0 {f:Value->Value->Sem Value} {g:Int->Int->Int}
  (rule:∀ (i j:Int) (t u:Tok) (s:Shared) (Q:Ht) (E:Ht),Q (.int (g i j) s.toks) { s with toks:=s.toks+1 }->wpAny (model X.prog X.w) X.A (f (.int i t) (.int j u)) Q E s) :
  OpR X f (rI0 fun i j=>.int (g i j)):=by
 intro pins s σ H x y v u Q I rx ry h
 obtain⟨i,j,rfl,rfl,q⟩:=h
 obtain⟨t,rfl⟩:=rx
 obtain⟨t',rfl⟩:=ry
 exact rule i j t t' s _ _ ⟨.int (g i j),H,I.tok _,⟨_,rfl⟩,q⟩
def FU {f:Value->Value->Sem Value} {g:Int->Int->Bool}
  (rule:∀ (i j:Int) (t u:Tok) (s:Shared) (Q:Ht) (E:Ht),Q (.bool (g i j)) s->wpAny (model X.prog X.w) X.A (f (.int i t) (.int j u)) Q E s) :
  OpR X f (rI0 fun i j=>.bl (g i j)):=by
 intro pins s σ H x y v u Q I rx ry h
 obtain⟨i,j,rfl,rfl,q⟩:=h
 obtain⟨t,rfl⟩:=rx
 obtain⟨t',rfl⟩:=ry
 exact rule i j t t' s _ _ ⟨.bl (g i j),H,I,rfl,q⟩
def CDiv (i j:Int):Prop:=0<j/\j<1073741824
def CPow (i j:Int):Prop:=0<=j/\j<=1000000/\i.natAbs<2 ^ 64
def Hg (i j:Int):Prop:=(-(2 ^ 64)<i/\i<2 ^ 64)\/(-(2 ^ 64)<j/\j<2 ^ 64)
def Hg.ok (h:Hg i j):IntMulOk i j:=by
 rcases h with ⟨h1,h2⟩ | ⟨h1,h2⟩
 ·exact .of_left (intBits_le_64 h1 h2)
 ·exact .of_right (intBits_le_64 h1 h2)
def cT:OpR X (binaryOp .Add) (rI0 fun i j=>.int (i+j)):=opI0 fun _ _ _ _ _ _ _ q=>add_int q
def qZ:OpR X (binaryOp .Sub) (rI0 fun i j=>.int (i - j)):=opI0 fun _ _ _ _ _ _ _ q=>sub_int q
def kG:OpR X (binaryOp .Mult) (rI Hg fun i j=>.int (i * j)):=opI fun _ _ _ _ _ _ _ hc q=>mul_int q hc.ok
def iF:OpR X (binaryOp .FloorDiv) (rI CDiv fun i j=>.int (i / j)):=opI fun i j _ _ _ _ _ hc q=>by
 have h1:(0:Int)<j:=hc.1
 have h2:j<1073741824:=hc.2
 exact floordiv_int (by omega) (by rw[Int.fdiv_eq_ediv_of_nonneg i (by omega)]; exact q) (.inl (PyProof.noPylong_small (by omega)))
def dM:OpR X (binaryOp .Mod) (rI (fun _ j=>0<j) fun i j=>.int (i % j)):=opI fun i j _ _ _ _ _ hc q=>by
 have h1:(0:Int)<j:=hc
 exact mod_int' (by omega) (by rw[Int.fmod_eq_emod_of_nonneg i (by omega)]; exact q)
def DZ:OpR X (binaryOp .Pow) (rI CPow fun i j=>.int (i ^ j.toNat)):=opI fun _ _ _ _ _ _ _ hc q=>pow_int_small hc.1 hc.2.1 hc.2.2 q
def unI {f:Value->Sem Value} {g:Int->Int}
  (rule:∀ (i:Int) (t:Tok) (s:Shared) (Q:Ht) (E:Ht),Q (.int (g i) s.toks) { s with toks:=s.toks+1 }->wpAny (model X.prog X.w) X.A (f (.int i t)) Q E s) :
  UnR X f (rU fun i=>.int (g i)):=by
 intro pins s σ H x v Q I rx h
 obtain⟨i,rfl,q⟩:=h
 obtain⟨t,rfl⟩:=rx
 exact rule i t s _ _ ⟨.int (g i),H,I.tok _,⟨_,rfl⟩,q⟩
def uW:UnR X (unaryOp .USub) (rU fun i=>.int (-i)):=unI fun _ _ _ _ _ q=>neg_int q
end
def scal:V->V->Bool
 | .non,.non=>true | .non,.int _=>true | .int _,.non=>true | .non,.bl _=>true | .bl _,.non=>true | .non,.str _=>true | .str _,.non=>true
 | .int _,.int _=>true | .bl _,.bl _=>true | .str _,.str _=>true | .byt _,.byt _=>true
 | .int _,.str _=>true | .str _,.int _=>true | .bl _,.str _=>true | .str _,.bl _=>true
 | _,_=>false
def rEq:R2:=fun x y H Q=>scal x y=true/\Q (.bl (decide (x=y))) H
def rNe:R2:=fun x y H Q=>scal x y=true/\Q (.bl (!decide (x=y))) H
def BK:decide (V.int i=V.int j)=(i == j):=by
 rw[Bool.eq_iff_iff]
 simp
def EY:decide (V.bl i=V.bl j)=(i == j):=by
 rw[Bool.eq_iff_iff]
 simp
def BJ:decide (V.str i=V.str j)=(i == j):=by
 rw[Bool.eq_iff_iff]
 simp
def BL:decide (V.byt i=V.byt j)=(i.toList == j.toList):=by
 rw[Bool.eq_iff_iff]
 cases i
 cases j
 simp
section
variable {X:Cx} {a b c:Expr} {ta tb tc:TE} {pos:Pos}
def bS (I:Inv X pins σ H s) (q:Q (.bl k) H) (e:k=k'):EP X pins σ Q (.bool k') s:=by
 subst e
 exact⟨.bl k,H,I,rfl,q⟩
def i6:OpR X (compareOp .Eq) rEq:=by
 intro pins s σ H x y v u Q I rx ry h
 obtain⟨hs,q⟩:=h
 cases x with
 | non=>
  cases rx
  cases y with
  | non=>cases ry; exact PySem.EqNone.eq_none_none (bS I q (by simp))
  | bl j=>cases ry; exact PySem.EqNone.eq_none_bool (bS I q (by simp))
  | int j=>obtain⟨t',rfl⟩:=ry; exact PySem.EqNone.eq_none_int (bS I q (by simp))
  | str j=>obtain⟨t',rfl⟩:=ry; exact PySem.EqNone.eq_none_str (bS I q (by simp))
  | _=>exact absurd (show false=true from hs) Bool.false_ne_true
 | bl i=>
  cases rx
  cases y with
  | non=>cases ry; exact PySem.EqNone.eq_bool_none (bS I q (by simp))
  | bl j=>cases ry; exact eq_bool (bS I q EY)
  | str j=>obtain⟨t',rfl⟩:=ry; exact PySem.EqMixed.eq_bool_str (bS I q (by simp))
  | _=>exact absurd (show false=true from hs) Bool.false_ne_true
 | int i=>
  obtain⟨t,rfl⟩:=rx
  cases y with
  | non=>cases ry; exact PySem.EqNone.eq_int_none (bS I q (by simp))
  | int j=>obtain⟨t',rfl⟩:=ry; exact eq_int (bS I q BK)
  | str j=>obtain⟨t',rfl⟩:=ry; exact PySem.EqMixed.eq_int_str (bS I q (by simp))
  | _=>exact absurd (show false=true from hs) Bool.false_ne_true
 | str i=>
  obtain⟨t,rfl⟩:=rx
  cases y with
  | non=>cases ry; exact PySem.EqNone.eq_str_none (bS I q (by simp))
  | bl j=>cases ry; exact PySem.EqMixed.eq_str_bool (bS I q (by simp))
  | int j=>obtain⟨t',rfl⟩:=ry; exact PySem.EqMixed.eq_str_int (bS I q (by simp))
  | str j=>obtain⟨t',rfl⟩:=ry; exact eq_str (bS I q BJ)
  | _=>exact absurd (show false=true from hs) Bool.false_ne_true
 | byt i=>
  obtain⟨t,rfl⟩:=rx
  cases y with
  | byt j=>obtain⟨t',rfl⟩:=ry; exact PySem.W.eq_bytes (bS I q BL)
  | _=>exact absurd (show false=true from hs) Bool.false_ne_true
 | _=>cases y <;> exact absurd (show false=true from hs) Bool.false_ne_true
def rA:OpR X (compareOp .NotEq) rNe:=by
 intro pins s σ H x y v u Q I rx ry h
 obtain⟨hs,q⟩:=h
 cases x with
 | non=>
  cases rx
  cases y with
  | non=>cases ry; exact PySem.EqNone.ne_none_none (bS I q (by simp))
  | bl j=>cases ry; exact PySem.EqNone.ne_none_bool (bS I q (by simp))
  | int j=>obtain⟨t',rfl⟩:=ry; exact PySem.EqNone.ne_none_int (bS I q (by simp))
  | str j=>obtain⟨t',rfl⟩:=ry; exact PySem.EqNone.ne_none_str (bS I q (by simp))
  | _=>exact absurd (show false=true from hs) Bool.false_ne_true
 | bl i=>
  cases rx
  cases y with
  | non=>cases ry; exact PySem.EqNone.ne_bool_none (bS I q (by simp))
  | bl j=>cases ry; exact ne_bool (bS I q (congrArg not EY))
  | str j=>obtain⟨t',rfl⟩:=ry; exact PySem.EqMixed.ne_bool_str (bS I q (by simp))
  | _=>exact absurd (show false=true from hs) Bool.false_ne_true
 | int i=>
  obtain⟨t,rfl⟩:=rx
  cases y with
  | non=>cases ry; exact PySem.EqNone.ne_int_none (bS I q (by simp))
  | int j=>obtain⟨t',rfl⟩:=ry; exact ne_int (bS I q (congrArg not BK))
  | str j=>obtain⟨t',rfl⟩:=ry; exact PySem.EqMixed.ne_int_str (bS I q (by simp))
  | _=>exact absurd (show false=true from hs) Bool.false_ne_true
 | str i=>
  obtain⟨t,rfl⟩:=rx
  cases y with
  | non=>cases ry; exact PySem.EqNone.ne_str_none (bS I q (by simp))
  | bl j=>cases ry; exact PySem.EqMixed.ne_str_bool (bS I q (by simp))
  | int j=>obtain⟨t',rfl⟩:=ry; exact PySem.EqMixed.ne_str_int (bS I q (by simp))
  | str j=>obtain⟨t',rfl⟩:=ry; exact ne_str (bS I q (congrArg not BJ))
  | _=>exact absurd (show false=true from hs) Bool.false_ne_true
 | byt i=>
  obtain⟨t,rfl⟩:=rx
  cases y with
  | byt j=>obtain⟨t',rfl⟩:=ry; exact PySem.W.ne_bytes (bS I q (congrArg not BL))
  | _=>exact absurd (show false=true from hs) Bool.false_ne_true
 | _=>cases y <;> exact absurd (show false=true from hs) Bool.false_ne_true
def A0:OpR X (compareOp .Lt) (rI0 fun i j=>.bl (decide (i<j))):=FU fun _ _ _ _ _ _ _ q=>lt_int q
def hW:OpR X (compareOp .LtE) (rI0 fun i j=>.bl (decide (i<=j))):=FU fun _ _ _ _ _ _ _ q=>le_int q
def xU:OpR X (compareOp .Gt) (rI0 fun i j=>.bl (decide (j<i))):=FU fun _ _ _ _ _ _ _ q=>gt_int q
def op_ge:OpR X (compareOp .GtE) (rI0 fun i j=>.bl (decide (j<=i))):=FU fun _ _ _ _ _ _ _ q=>ge_int q
def Bs:OpR X (compareOp .In) (fun x y H Q=>∃ i j,x = .str i/\y = .str j/\Q (.bl (!(Builtin.Str.occurrences j i 0 j.length 1).isEmpty)) H):=by
 intro pins s σ H x y v u Q I rx ry h
 obtain⟨i,j,rfl,rfl,q⟩:=h
 obtain⟨t,rfl⟩:=rx
 obtain⟨t',rfl⟩:=ry
 exact in_str (bS I q rfl)
def Da:OpR X (compareOp .Is) (fun x y H Q=>y = .non/\Q (.bl (decide (x = .non))) H):=by
 intro pins s σ H x y v u Q I rx ry h
 obtain⟨rfl,q⟩:=h
 cases ry
 refine is_none_gen (bS I q ?_)
 cases x <;> first
  | (cases rx; rfl)
  | (obtain⟨t,rfl⟩:=rx; rfl)
def vK:OpR X (compareOp .IsNot) (fun x y H Q=>y = .non/\Q (.bl (!decide (x = .non))) H):=by
 intro pins s σ H x y v u Q I rx ry h
 obtain⟨rfl,q⟩:=h
 cases ry
 refine isnot_none_gen (bS I q ?_)
 cases x <;> first
  | (cases rx; rfl)
  | (obtain⟨t,rfl⟩:=rx; rfl)
def bF (b:Expr) (h:op ≠ .In:=by decide) (h2:op ≠ .NotIn:=by decide):behindInMarks op b=false:=by
 have e1:(op == CmpOp.In)=false:=by cases op <;> first | rfl | exact absurd rfl h
 have e2:(op == CmpOp.NotIn)=false:=by cases op <;> first | rfl | exact absurd rfl h2
 cases b <;> simp [behindInMarks,e1,e2]
def fV (ho:OpR X (compareOp op) r) (ha:PE X a ta) (hb:PE X b tb) (hm:behindInMarks op b=false):PE X (.Compare a [op] [b] pos) (tOp r ta tb):=by
 intro pins s σ H Q I h
 exact wpAny_Compare1 (Ha ha hb I h fun v u s2 x y H2 I2 rx ry q=>ho pins s2 σ H2 x y v u Q I2 rx ry q) hm
inductive Cp (Q:(Bool->Hp->Prop)) (x:V) (H':Hp):Prop
 | mk:∀ k,x = .bl k->Q k H'->Cp Q x H'
def wT (t:TE):TT:=fun σ H Q=>t σ H (Cp Q)
def bA {op:CmpOp} {r:R2} (ho:OpR X (compareOp op) r) (ha:PE X a ta) (hb:PE X b tb) (hm:behindInMarks op b=false):PT X (.Compare a [op] [b] pos) (wT (tOp r ta tb)):=by
 intro pins s σ H Q I h
 refine wpAny_isTrue_Compare1 (thn (ha pins s σ H _ I h) fun v s1 ⟨x,H1,I1,r1,q1⟩=>thn (hb pins s1 σ H1 _ I1 q1) fun u s2 ⟨y,H2,I2,r2,q2⟩=>
  thn (ho pins s2 σ H2 x y v u _ I2 r1 r2 q2) fun c s3 ⟨z,H3,I3,r3,k,e,q3⟩=>?_) hm
 subst e
 cases r3
 exact wpAny_truthy_bool ⟨H3,I3,q3⟩
inductive wW (r':R2) (tc:TE) (σ : St) (Q:VK) (y:V) (z:V) (H3:Hp):Prop
 | mk:∀ k,z = .bl k->(if k=true then tc σ H3 fun w' H4=>r' y w' H4 Q else Q (.bl false) H3)->wW r' tc σ Q y z H3
abbrev Cy (r:R2) (r':R2) (tc:TE) (σ : St) (Q:VK) (x:V):V->Hp->Prop:=fun y H2=>r x y H2 (wW r' tc σ Q y)
abbrev Cz (r:R2) (r':R2) (tb:TE) (tc:TE) (σ : St) (Q:VK):V->Hp->Prop:=fun x H1=>tb σ H1 (Cy r r' tc σ Q x)
def C0 (r r':R2) (ta tb tc:TE):TE:=fun σ H Q=>ta σ H (Cz r r' tb tc σ Q)
def qX (ho:OpR X (compareOp op) r) (ho':OpR X (compareOp op') r') (ha:PE X a ta) (hb:PE X b tb) (hc:PE X c tc)
  (hm:lastMarks [op,op'] [b,c]=false:=by with_unfolding_all rfl):PE X (.Compare a [op,op'] [b,c] pos) (C0 r r' ta tb tc):=by
 intro pins s σ H Q I h
 refine Compare_chain (thn (ha pins s σ H _ I h) fun v s1 ⟨x,H1,I1,r1,q1⟩=>chain_link (thn (hb pins s1 σ H1 _ I1 q1) fun u s2 ⟨y,H2,I2,r2,q2⟩=>
  thn (ho pins s2 σ H2 x y v u _ I2 r1 r2 q2) fun d s3 ⟨z,H3,I3,r3,k,e,q3⟩=>?_)) hm
 subst e
 cases r3
 refine wpAny_truthy_bool ?_
 cases k with
 | false=>exact ite_ff ⟨.bl false,H3,I3,rfl,q3⟩
 | true=>exact ite_tt (chain_last (thn (hc pins s3 σ H3 _ I3 q3) fun w' s4 ⟨z',H4,I4,r4,q4⟩=>ho' pins s4 σ H4 y z' u w' Q I4 r2 r4 q4))
def qS (ho:OpR X (compareOp op) r) (ho':OpR X (compareOp op') r') (ha:PE X a ta) (hb:PE X b tb) (hc:PE X c tc)
  (hm:lastMarks [op,op'] [b,c]=false:=by with_unfolding_all rfl):PT X (.Compare a [op,op'] [b,c] pos) (wT (C0 r r' ta tb tc)):=by
 intro pins s σ H Q I h
 refine isTrue_chain (thn (ha pins s σ H _ I h) fun v s1 ⟨x,H1,I1,r1,q1⟩=>test_link (thn (hb pins s1 σ H1 _ I1 q1) fun u s2 ⟨y,H2,I2,r2,q2⟩=>
  thn (ho pins s2 σ H2 x y v u _ I2 r1 r2 q2) fun d s3 ⟨z,H3,I3,r3,k,e,q3⟩=>?_)) hm
 subst e
 cases r3
 refine wpAny_truthy_bool ?_
 cases k with
 | false=>
  obtain⟨k',e',q'⟩:=q3
  cases e'
  exact ite_ff ⟨H3,I3,q'⟩
 | true=>
  refine ite_tt (test_last (thn (hc pins s3 σ H3 _ I3 q3) fun w' s4 ⟨z',H4,I4,r4,q4⟩=>thn (ho' pins s4 σ H4 y z' u w' _ I4 r2 r4 q4) fun d' s5 zQq=>?_))
  obtain⟨z2,H5,I5,r5,k2,e2,q5⟩:=zQq
  subst e2
  cases r5
  exact wpAny_truthy_bool ⟨H5,I5,q5⟩
def TruV (K:Hh) (x:V) (H:Hp) (k:Bool):Prop:=
 match x with
 | .non=>k=false
 | .bl b=>k=b
 | .int i=>k=(i != 0)
 | .str y=>y.length<=sizeLine/\k=((y.length:Int) != 0)
 | .byt y=>y.size<=sizeLine/\k=((y.size:Int) != 0)
 | .ref p=>(∃ xs,SqL K H p xs/\k = !xs.isEmpty)\/(∃ xs,SqT K H p xs/\k = !xs.isEmpty)\/∃ kvs,H p=some (.dK kvs)/\k = !kvs.isEmpty
 | _=>False
def AM {κ : Type} {kvs:List (κ × V)} {vs:List (κ × Value)} (r:KV kvs vs):(!vs.isEmpty) = !kvs.isEmpty:=by
 cases r <;> rfl
def rL (r:bR xs its):(!its.toArray.isEmpty) = !xs.isEmpty:=by
 cases r <;> simp
def rG:(sizeLine:Nat)<2 ^ 63:=by rw[sizeLine_eq]; decide
def GR:TruR X (fun x H Q=>∃ k,TruV X.K x H k/\Q k H):=by
 intro pins s σ H x v Q I rx h
 obtain⟨k,e,q⟩:=h
 have hl:=rG
 have hs:sizeLine=16777216:=sizeLine_eq
 cases x with
 | non=>
  cases rx
  have e':k=false:=e
  subst e'
  exact truthy_none ⟨H,I,q⟩
 | bl b=>
  cases rx
  have e':k=b:=e
  subst e'
  exact wpAny_truthy_bool ⟨H,I,q⟩
 | int i=>
  obtain⟨t,rfl⟩:=rx
  have e':k=(i != 0):=e
  subst e'
  exact PySem.P.truthy_int ⟨H,I,q⟩
 | str y=>
  obtain⟨t,rfl⟩:=rx
  obtain⟨hy,e'⟩:y.length<=sizeLine/\k=((y.length:Int) != 0):=e
  subst e'
  exact PySem.P.truthy_str (by omega) ⟨H,I.tok _,q⟩
 | byt y=>
  obtain⟨t,rfl⟩:=rx
  obtain⟨hy,e'⟩:y.size<=sizeLine/\k=((y.size:Int) != 0):=e
  subst e'
  exact PySem.W.truthy_bytes (by omega) ⟨H,I.tok _,q⟩
 | ref p=>
  cases rx
  have e':(∃ xs,SqL X.K H p xs/\k = !xs.isEmpty)\/(∃ xs,SqT X.K H p xs/\k = !xs.isEmpty)\/∃ kvs,H p=some (.dK kvs)/\k = !kvs.isEmpty:=e
  rcases e' with ⟨xs,hx,e'⟩ | ⟨xs,hx,e'⟩ | ⟨kvs,hx,e'⟩
  ·subst e'
   obtain⟨its,r,pl,hz⟩:=I.list hx
   have hlen:=r.length
   exact wpAny_truthy_list pl.isList (by simp only[size_toArray]; omega) ⟨H,I.tok _,by rw[rL r]; exact q⟩
  ·subst e'
   obtain⟨its,r,pl,hz⟩:=I.tuple hx
   have hlen:=r.length
   exact truthy_tuple pl (by simp only[size_toArray]; omega) ⟨H,I.tok _,by rw[rL r]; exact q⟩
  ·subst e'
   obtain⟨hz,hS,vs,r,m⟩:kvs.length<=sizeLine/\(p == sysModules)=false/\∃ vs,KV kvs vs/\s.heap.DictOf (cE X.prog X.w) p vs:=I.hok p _ hx
   have hlen:kvs.length=vs.length:=Paired.length r
   exact wpAny_truthy_dict hS m (by omega) ⟨H,I.tok _,by rw[AM r]; exact q⟩
 | _=>exact(show False from e).elim
def pO (r:bR [x] us):∃ u,us=[u]/\bY x u:=by
 cases r with
 | cons r1 r2=>cases r2; exact⟨_,rfl,r1⟩
def vals2 (r:bR [x,y] us):∃ u w',us=[u,w']/\bY x u/\bY y w':=by
 cases r with
 | cons r1 r2=>
  cases r2 with
  | cons r3 r4=>cases r4; exact⟨_,_,rfl,r1,r3⟩
def uM (hc:X.calm=true):fH X (.builtin "max") (fun xs H Q=>∃ i j,xs=[.int i,.int j]/\Q (.int (if j > i then j else i)) H):=by
 intro pins s σ H xs us Q I r h
 obtain⟨i,j,rfl,q⟩:=h
 obtain⟨u,w',rfl,⟨t,rfl⟩,⟨t',rfl⟩⟩:=vals2 r
 refine max_two_ints (I.ok.hd hc) fun h' tk k=>⟨_,H,I.kept k,?_,q⟩
 by_cases hj:j > i
 ·rw[if_pos hj,if_pos hj]; exact⟨_,rfl⟩
 ·rw[if_neg hj,if_neg hj]; exact⟨_,rfl⟩
def Cd:fH X (.type "int") (fun xs H Q=>(∃ i,xs=[.int i]/\Q (.int i) H)\/∃ k,xs=[.bl k]/\Q (.int (if k then 1 else 0)) H):=by
 intro pins s σ H xs us Q I r h
 rcases h with ⟨i,rfl,q⟩ | ⟨k,rfl,q⟩
 ·obtain⟨u,rfl,t,rfl⟩:=pO r
  exact call_int_int ⟨.int i,H,I,⟨_,rfl⟩,q⟩
 ·obtain⟨u,rfl,r1⟩:=pO r
  cases r1
  exact call_int_bool ⟨.int (if k then 1 else 0),H,I.tok _,⟨_,rfl⟩,q⟩
end
structure ObjM (h:Heap) (x dx C:Addr) (mA:Hj):Prop where
 obj:h.get? x=some (instObj C dx)
 ns:h.Ns1 dx mA
 ne:dx≠x
def B8 {h:Heap} {dx:Addr} {mA:Hj} (n:h.Ns1 dx mA):∃ od,h.get? dx=some od/\∀ name,PySem.W.lookIn name od=some (mA name):=by
 obtain⟨o,es,ep,ho,hd,hk,_,hm⟩:=n
 refine⟨o,ho,fun name=>?_⟩
 have e:=hm name
 unfold nsFind findBy at e
 rw[<- Array.find?_toList]at e
 unfold PySem.W.lookIn
 rw[hd]
 dsimp only
 split
 ·rename_i y q
  rw[q]at e
  exact congrArg some e
 ·rename_i q
  rw[q]at e
  have a:es.toList.any (·.refKey)=false:=by
   rw[List.any_eq_false]
   intro y hy
   obtain⟨z,t,hkey⟩:=hk y (Array.mem_toList_iff.mp hy)
   simp [DictEntry.refKey,hkey]
  have a':¬ es.toList.any (·.refKey)=true:=by rw[a]; exact Bool.false_ne_true
  rw[if_neg a']
  exact congrArg some e
def ObjM.look (I:ObjM h x dx C mA):∃ od,PySem.W.InstAt h x (instObj C dx) C (some od)/\∀ name,PySem.W.lookIn name od=some (mA name):=
 let ⟨od,ho,hl⟩:=B8 I.ns
 ⟨od,⟨I.obj,rfl,rfl,ho⟩,hl⟩
section
variable {prog:Program} {w:World} {A:Around} {E:Ht} {s:Shared} {K:Hh} {x dx C f:Addr} {mA:Hj} {name:Str} {v:Value}
def Fm (X:K.In s.heap) (I:ObjM s.heap x dx C mA) (hg:plainGet K C name=true) (hh:hasDictIn K C=true)
  (ha:findIn K (.ref C) name=some none) (hv:mA name=some v) (hv':PySem.W.handedIn v=true) (h:Q v { s with toks:=s.toks+1 }) :
  wpAny (model prog w) A (getAttr (.ref x) name expr) Q E s:=by
 obtain⟨od,J,hl⟩:=I.look
 exact PySem.W.get_value X J (plainGet_of hg).1 (PySem.W.findObj_own hh ha rfl (by rw[hl,hv])) hv' h
def EJ (X:K.In s.heap) (I:ObjM s.heap x dx C mA) (hg:plainGet K C name=true)
  (hf:findIn K (.ref C) name=some (some (.ref f))) (ht:PySem.W.isFn K (.ref f)=true) (hv:mA name=none) (h:Q (.ref f,[.ref x]) s) :
  wpAny (model prog w) A (getMethod (.ref x) name pl) Q E s:=by
 obtain⟨od,J,hl⟩:=I.look
 exact PySem.W.method_fn X J (plainGet_of hg).1 (plainGet_of hg).2 hf (beq_iff_eq.mp ht) (by show (PySem.W.lookIn name od).map (·.isSome)=some false; rw[hl,hv]; rfl) h
def E6 (X:K.In s.heap) (I:ObjM s.heap x dx C mA)
  (hs:findIn K (.ref C) "__setattr__" = some (some (.builtin "object.__setattr__"))) (hp:PySem.W.plainOver K C=true) (ht:PySem.W.takerIn K C name=some none) (hh:hasDictIn K C=true)
  (hw:PySem.Within mA ns) (hsz:ns.length<=sizeLine)
  (h:∀ h',ObjM h' x dx C (fun y=>if y=name then some v else mA y)->Heap.SameBut dx s.heap h'->Q () { s with heap:=h',toks:=s.toks+2 }) :
  wpAny (model prog w) A (setAttr (.ref x) name v) Q E s:=by
 obtain⟨od,J,hl⟩:=I.look
 refine PySem.W.set_plain X J hs (PySem.W.osa_open (s:={ s with toks:=s.toks+1 }) (r:=none) X J hp ht fun b=>?_)
 obtain⟨cd,hc,hd'⟩:=PySem.W.any_some hh
 have hx:s.heap.get? x=some ⟨.ref C,some dx,.plain,#[]⟩:=I.obj
 refine wpAny_bind (wpAny_pure (wpAny_bind (wpAny_bind (wpAny_loadPart hx (wpAny_bind (PySem.W.Looks.here (s:={ s with toks:=s.toks+1 }) (PySem.W.looks_clsIn X hc) ?_))))))
 rw[hd']
 refine wpAny_pure (a:=some dx) (wpAny_bind (wpAny_pure (wpAny_bind ?_)))
 refine wpAny_nsSet1 (s:={ s with toks:=s.toks+1 }) I.ns fun h' hn2 hs2=>?_
 obtain⟨oD,esD,epD,hoD,hdD,hcD⟩:=hn2.count (PySem.Within.cons name v hw)
 refine wpAny_bind (wpAny_lookBehind hoD (by rw[hdD]; exact pastItsLine_dict (le_trans hcD (by rw[length_cons]; omega))) ?_)
 exact wpAny_pure (h _ ⟨(hs2.2 _ (Ne.symm I.ne)).trans I.obj,hn2,I.ne⟩ hs2)
def Du (X:K.In s.heap) (hm:PySem.W.makesIn K C=true)
  (hi:findIn K (.ref C) "__init__" = some (some (.ref f))) (hf:PySem.W.typeIn K (.ref f)=some (.type "function"))
  (h:codeAny (model prog w) (A.under (.builtin "type.__call__" ⟨.ref C::vs,kw⟩)) (.call (.ref f) ⟨.ref (s.heap.objs.size+1)::vs,kw⟩) (PySem.W.InitBack (s.heap.objs.size+1) R)
   { s with heap:=(s.heap.push emptyDict).push (instObj C s.heap.objs.size) }) :
  codeAny (model prog w) A (.call (.ref C) ⟨vs,kw⟩) R s:=by
 obtain⟨hh,g,d,t,os⟩:=s
 exact PySem.W.make_core (PySem.W.makes_of X hm) (PySem.W.looks_findIn X hi) (fun self=>PySem.W.bind_fn X self hf) (.inl rfl) h
end
def cD (f:Str) (v:V):Hv->Hv
 | []=>[(f,v)]
 | (g,x)::r=>if g=f then (g,v)::r else (g,x)::cD f v r
def oX (f g:Str) (v:V):∀ fs:Hv,(cD f v fs).lookup g=if g=f then some v else fs.lookup g
 | []=>by
  show List.lookup g [(f,v)]=_
  by_cases h:g=f
  ·have hb:(g == f)=true:=beq_iff_eq.mpr h
   simp only[List.lookup,hb,if_pos h]
  ·have hb:(g == f)=false:=beq_eq_false_iff_ne.mpr h
   simp only[List.lookup,hb,if_neg h]
 | (k,x)::r=>by
  have ih:=oX f g v r
  rw[show cD f v ((k,x)::r)=(if k=f then (k,v)::r else (k,x)::cD f v r) from rfl]
  by_cases hk:k=f
  ·rw[if_pos hk]
   by_cases h:g=k
   ·have hb:(g == k)=true:=beq_iff_eq.mpr h
    simp only[List.lookup,hb,if_pos (h.trans hk)]
   ·have hb:(g == k)=false:=beq_eq_false_iff_ne.mpr h
    simp only[List.lookup,hb,if_neg (fun e:g=f=>h (e.trans hk.symm))]
  ·rw[if_neg hk]
   by_cases h:g=k
   ·have hb:(g == k)=true:=beq_iff_eq.mpr h
    simp only[List.lookup,hb,if_neg (fun e:g=f=>hk (h.symm.trans e))]
   ·have hb:(g == k)=false:=beq_eq_false_iff_ne.mpr h
    simp only[List.lookup,hb]
    exact ih
def oA (f:Str) (v:V):∀ fs:Hv,f∈(cD f v fs).map (·.1)/\∀ g,g∈fs.map (·.1)->g∈(cD f v fs).map (·.1)
 | []=>⟨by simp [cD],fun g h=>by simp at h⟩
 | (k,x)::r=>by
  obtain⟨i1,i2⟩:=oA f v r
  rw[show cD f v ((k,x)::r)=(if k=f then (k,v)::r else (k,x)::cD f v r) from rfl]
  by_cases hk:k=f
  ·rw[if_pos hk]
   subst hk
   exact⟨by simp,fun g h=>by simpa using h⟩
  ·rw[if_neg hk]
   refine⟨?_,fun g h=>?_⟩
   ·rw[map_cons]
    exact mem_cons_of_mem _ i1
   ·rw[map_cons]at h ⊢
    rcases mem_cons.mp h with e | e
    ·exact mem_cons.mpr (.inl e)
    ·exact mem_cons_of_mem _ (i2 g e)
def oZ (f:Str) (v:V):∀ fs:Hv,(cD f v fs).length<=fs.length+1
 | []=>by simp [cD]
 | (k,x)::r=>by
  have ih:=oZ f v r
  rw[show cD f v ((k,x)::r)=(if k=f then (k,v)::r else (k,x)::cD f v r) from rfl]
  by_cases hk:k=f
  ·rw[if_pos hk,length_cons,length_cons]; omega
  ·rw[if_neg hk,length_cons,length_cons]; omega
def j3.some_of (r:j3 (some v) o):∃ u,o=some u/\bY v u:=by
 cases o with
 | none=>exact(show False from r).elim
 | some u=>exact⟨u,rfl,r⟩
def j3.none_of (r:j3 none o):o=none:=by
 cases o with
 | none=>rfl
 | some u=>exact(show False from r).elim
def CP (r:bY v u):PySem.W.handedIn u=true:=by
 cases v with
 | non=>cases (show u=Value.none from r); rfl
 | bl b=>cases (show u=Value.bool b from r); rfl
 | int i=>obtain⟨t,e⟩:=(show ∃ t,u=Value.int i t from r); cases e; rfl
 | str x=>obtain⟨t,e⟩:=(show ∃ t,u=Value.str x t from r); cases e; rfl
 | byt b=>obtain⟨t,e⟩:=(show ∃ t,u=Value.bytes b t from r); cases e; rfl
 | flt b=>obtain⟨t,e⟩:=(show ∃ t,u=Value.float b t from r); cases e; rfl
 | ref a=>cases (show u=Value.ref a from r); rfl
 | ty n=>cases (show u=Value.type n from r); rfl
section
variable {P:Program} {w:World} {H H':Hp} {h h':Heap} {a C dx:Addr} {fs fs':Hv}
def pK (hok:HOk P w H h) (e:H a=some (.ins C dx fs)):∃ mA,ObjM h a dx C mA/\(∀ f,j3 (fs.lookup f) (mA f))/\PySem.Within mA (fs.map (·.1))/\fs.length<=1000/\H dx=some (.own a):=by
 obtain⟨d,z,ne,ob,mA,n,r,q⟩:=(show dD P w H h a (.ins C dx fs) from hok a _ e)
 exact⟨mA,⟨ob,n,ne⟩,r,q,z,d⟩
end
structure Cls (K:Hh) (C:Addr):Prop where
 pg:plainGet K C Str.empty=true
 hd:hasDictIn K C=true
 po:PySem.W.plainOver K C=true
 sa:findIn K (.ref C) "__setattr__" = some (some (.builtin "object.__setattr__"))
def Cls.get {K:Hh} {C:Addr} (c:Cls K C) (f:Str):plainGet K C f=true:=c.pg
def cO (K:Hh) (C:Addr) (f:Str):Prop:=findIn K (.ref C) f=some none
def cO.taker {K:Hh} {C:Addr} {f:Str} (n:cO K C f):PySem.W.takerIn K C f=some none:=by
 unfold PySem.W.takerIn
 rw[show findIn K (.ref C) f=some none from n]
 rfl
structure Meth (K:Hh) (C:Addr) (m:Str) (f:Addr):Prop where
 at_:findIn K (.ref C) m=some (some (.ref f))
 fn:PySem.W.isFn K (.ref f)=true
 kp:keepIn K (.ref f)=true
section
variable {X:Cx} {pins:Hi} {σ : St} {H:Hp} {s:Shared} {a C dx:Addr} {fs:Hv} {f:Str} {v:V} {A:Around} {E:Ht}
def rN (I:Inv X pins σ H s) (e:H a=some (.ins C dx fs)) (c:Cls X.K C) (n:cO X.K C f) (l:fs.lookup f=some v)
  (h:∀ u s',Inv X pins σ H s'->bY v u->Q u s'):wpAny (model X.prog X.w) A (getAttr (.ref a) f b) Q E s:=by
 obtain⟨mA,O,r,_,_,_⟩:=pK I.hok e
 obtain⟨u,hu,ru⟩:=j3.some_of (v:=v) (o:=mA f) (by rw[<- l]; exact r f)
 exact Fm I.kIn O (c.get f) c.hd n hu (CP ru) (h u _ (I.tok _) ru)
def rM (I:Inv X pins σ H s) (e:H a=some (.ins C dx fs)) (c:Cls X.K C) (k:Meth X.K C m g) (l:fs.lookup m=none)
  (h:Q (.ref g,[.ref a]) s):wpAny (model X.prog X.w) A (getMethod (.ref a) m pl) Q E s:=by
 obtain⟨mA,O,r,_,_,_⟩:=pK I.hok e
 have hn:mA m=none:=j3.none_of (by rw[<- l]; exact r m)
 exact EJ I.kIn O (c.get m) k.at_ k.fn hn h
def qG (I:Inv X pins σ H s) (e:H a=some (.ins C dx fs)) (c:Cls X.K C) (n:cO X.K C f) (hl:fs.length<1000) (ry:bY y u)
  (h:∀ s',Inv X pins σ (upd H a (.ins C dx (cD f y fs))) s'->Q () s'):wpAny (model X.prog X.w) A (setAttr (.ref a) f u) Q E s:=by
 obtain⟨mA,O,r,wi,_,ho⟩:=pK I.hok e
 have hz:(fs.map (·.1)).length<=sizeLine:=by rw[length_map,sizeLine_eq]; omega
 refine E6 I.kIn O c.sa c.po n.taker c.hd wi hz fun h' O' sb=>h _ ?_
 have hd:∃ o,h'.get? dx=some o:=let ⟨o,_,_,e',_⟩:=O'.ns; ⟨o,e'⟩
 refine I.write (x:=a) (e:=dx) (by rw[e]; exact True.intro) (.inr ho) (fun b q hb z=>(sb.2 b hb).trans z) hd ?_
 refine⟨by rw[aE O.ne]; exact ho,?_,O.ne,O'.obj,_,O'.ns,fun g=>?_,fun g hg=>?_⟩
 ·have:=oZ f y fs; omega
 ·show j3 ((cD f y fs).lookup g) (if g=f then some u else mA g)
  rw[oX]
  by_cases q:g=f
  ·rw[if_pos q,if_pos q]; exact ry
  ·rw[if_neg q,if_neg q]; exact r g
 ·by_cases q:g=f
  ·rw[q]; exact(oA f y fs).1
  ·refine(oA f y fs).2 g (wi g fun z=>hg ?_)
   show (if g=f then some u else mA g)=none
   rw[if_neg q]; exact z
def Inv.made (I:Inv X pins σ H s):Inv X pins σ (upd (upd H s.heap.objs.size (.own (s.heap.objs.size+1))) (s.heap.objs.size+1) (.ins C s.heap.objs.size []))
  { s with heap:=(s.heap.push emptyDict).push (instObj C s.heap.objs.size) }:=by
 have e1:(s.heap.push emptyDict).get? s.heap.objs.size=some emptyDict:=get?_push_size s.heap rfl
 have e2:((s.heap.push emptyDict).push (instObj C s.heap.objs.size)).get? (s.heap.objs.size+1)=some (instObj C s.heap.objs.size):=by
  have:=get?_push_size (s.heap.push emptyDict) (o:=instObj C s.heap.objs.size) rfl
  rwa [size_push]at this
 have e3:(s.heap.push emptyDict).Ns s.heap.objs.size (fun _=>none):=⟨emptyDict,#[],_,e1,rfl,(fun e he=>absurd he (by simp)),fun _=>rfl⟩
 have I1:=I.laid (a:=s.heap.objs.size) (o:=.own (s.heap.objs.size+1)) (h':=s.heap.push emptyDict) (t':=s.toks) (fun b u q=>get?_push_of_some _ q) (le_refl _) ⟨_,e1⟩
 refine I1.laid (a:=s.heap.objs.size+1) (o:=.ins C s.heap.objs.size []) (t':=s.toks) (fun b u q=>get?_push_of_some _ q) (Nat.le_of_eq (size_push _ _)) ?_
 have ne:s.heap.objs.size≠s.heap.objs.size+1:=ne_of_lt (lt_succ_self _)
 refine⟨by rw[aE ne,aC],zero_le _,ne,e2,fun _=>none,(Heap.Ns1.of_empty e3).at fun o q=>get?_push_of_some _ q,fun _=>True.intro,fun y hy=>absurd rfl hy⟩
def Fx (hb:attributeBase e f env (eval e env)=eval e env)
  (h:wpAny (model prog w) A (eval e env) (fun o s₁=>wpAny (model prog w) A (getAttr o f true) Q E s₁) E s):wpAny (model prog w) A (eval (.Attribute e f pos) env) Q E s:=
 Attribute_any_ h (by rw[arm_eval_Attribute,hb])
end
inductive F6 (K:Hh) (f:Str) (Q:VK) (x:V) (H1:Hp):Prop
 | mk:∀ a C dx fs v,x = .ref a->H1 a=some (.ins C dx fs)->Cls K C->cO K C f->fs.lookup f=some v->Q v H1->F6 K f Q x H1
def tFld (K:Hh) (ta:TE) (f:Str):TE:=fun σ H Q=>ta σ H (F6 K f Q)
inductive DG (K:Hh) (f:Str) (D:Ends) (σ : St) (y:V) (x:V) (H2:Hp):Prop
 | mk:∀ a C dx fs,x = .ref a->H2 a=some (.ins C dx fs)->Cls K C->cO K C f->fs.length<1000->D.nx σ (upd H2 a (.ins C dx (cD f y fs)))->DG K f D σ y x H2
abbrev Go (K:Hh) (ta:TE) (f:Str) (D:Ends) (σ : St):V->Hp->Prop:=fun y H1=>ta σ H1 (DG K f D σ y)
def sFld (K:Hh) (ta tv:TE) (f:Str):TS:=fun D σ H=>tv σ H (Go K ta f D σ)
def He (X:Cx) (op:Operator) (rd:V->V->Hp->VK->Prop):Prop:=
 ∀ pins s σ H (x y:V) (u v:Value) (Q:VK),Inv X pins σ H s->bY x u->bY y v->rd x y H Q->wpAny (model X.prog X.w) X.A (inplaceOp op u v) (EP X pins σ Q) X.xe s
inductive tV (f:Str) (D:Ends) (σ : St) (a:Addr) (C:Addr) (z:V) (H3:Hp):Prop
 | mk:∀ dx' fs',H3 a=some (.ins C dx' fs')->fs'.length<1000->D.nx σ (upd H3 a (.ins C dx' (cD f z fs')))->tV f D σ a C z H3
abbrev Bf (rd:V->V->Hp->VK->Prop) (f:Str) (D:Ends) (σ : St) (a:Addr) (C:Addr) (v:V):V->Hp->Prop:=fun y H2=>rd v y H2 (tV f D σ a C)
inductive xJ (K:Hh) (tv:TE) (rd:V->V->Hp->VK->Prop) (f:Str) (D:Ends) (σ : St) (x:V) (H1:Hp):Prop
 | mk:∀ a C dx fs v,x = .ref a->H1 a=some (.ins C dx fs)->Cls K C->cO K C f->fs.lookup f=some v->tv σ H1 (Bf rd f D σ a C v)->xJ K tv rd f D σ x H1
def E8 (K:Hh) (ta tv:TE) (rd:V->V->Hp->VK->Prop) (f:Str):TS:=fun D σ H=>ta σ H (xJ K tv rd f D σ)
section
variable {X:Cx} {o e value:Expr} {f:Str} {pos pos' tpos:Pos} {ta tv:TE}
def n5 (he:PE X e ta) (hb:attributeBase e f X.env (eval e X.env)=eval e X.env):PE X (.Attribute e f pos) (tFld X.K ta f):=by
 intro pins s σ H Q I h
 refine Fx hb (thn (he pins s σ H _ I h) fun u s1 zQq=>?_)
 obtain⟨x,H1,I1,rx,a,C,dx,fs,v,ex,ea,c,n,l,q⟩:=zQq
 subst ex
 obtain rfl:u=Value.ref a:=rx
 exact rN I1 ea c n l fun u' s2 I2 ru=>⟨v,H1,I2,ru,q⟩
def cS (ha:PE X o ta) (hv:PE X value tv) (hs:swapsWith value (some (.Attribute o f pos')) pos.line X.env=pure false):PS X (.Assign [.Attribute o f pos'] value pos) (sFld X.K ta tv f):=by
 intro pins s σ H D I h
 refine plainObj_wpAny_Assign_Attribute (thn (hv pins s σ H _ I h) fun u s1 ⟨y,H1,I1,ry,q⟩=>thn (ha pins s1 σ H1 _ I1 q) fun ov s2 zQq=>?_) hs
 obtain⟨x,H2,I2,rx,a,C,dx,fs,ex,ea,c,n,l,q2⟩:=zQq
 subst ex
 obtain rfl:ov=Value.ref a:=rx
 exact qG I2 ea c n l ry fun s3 I3=>⟨σ,_,I3,q2⟩
def nY (ha:PE X o ta) (hv:PE X value tv) (hop:He X op rd):PS X (.AugAssign (.Attribute o f tpos) op value pos) (E8 X.K ta tv rd f):=by
 intro pins s σ H D I h
 refine wpAny_AugAssign_AttributeAny (thn (ha pins s σ H _ I h) fun ov s1 zQq=>?_)
 obtain⟨x,H1,I1,rx,a,C,dx,fs,v,ex,ea,c,n,l,q⟩:=zQq
 subst ex
 obtain rfl:ov=Value.ref a:=rx
 refine rN I1 ea c n l fun u s2 I2 ru=>thn (hv pins s2 σ H1 _ I2 q) fun w3 s3 ⟨y,H2,I3,ry,q3⟩=>thn (hop pins s3 σ H2 v y u w3 _ I3 ru ry q3) fun w4 s4 zQq=>?_
 obtain⟨z,H3,I4,rz,dx',fs',ea',l',q4⟩:=zQq
 exact qG I4 ea' c n l' rz fun s5 I5=>⟨σ,_,I5,q4⟩
inductive rAdd (x:V) (y:V) (H:Hp) (Q:VK):Prop
 | mk:∀ i j,x = .int i->y = .int j->Q (.int (i+j)) H->rAdd x y H Q
inductive rSub (x:V) (y:V) (H:Hp) (Q:VK):Prop
 | mk:∀ i j,x = .int i->y = .int j->Q (.int (i - j)) H->rSub x y H Q
def EB:He X .Add rAdd:=by
 rintro pins s σ H x y u v Q I rx ry ⟨i,j,rfl,rfl,q⟩
 obtain⟨t,rfl⟩:=(show ∃ t,u=Value.int i t from rx)
 obtain⟨t',rfl⟩:=(show ∃ t',v=Value.int j t' from ry)
 exact PyProof.Rows.iadd_int ⟨.int (i+j),H,I.tok _,⟨_,rfl⟩,q⟩
def HP:He X .Sub rSub:=by
 rintro pins s σ H x y u v Q I rx ry ⟨i,j,rfl,rfl,q⟩
 obtain⟨t,rfl⟩:=(show ∃ t,u=Value.int i t from rx)
 obtain⟨t',rfl⟩:=(show ∃ t',v=Value.int j t' from ry)
 exact PyProof.Rows.isub_int ⟨.int (i - j),H,I.tok _,⟨_,rfl⟩,q⟩
end
section
variable {X:Cx} {pins:Hi} {σ : St} {H:Hp} {s:Shared} {A:Around} {E:Ht} {Q:Ht} {c:Value} {b:Bool}
inductive nK (K:Hh) (H:Hp):V->Value->Prop where
 | non:nK K H .non (.type "NoneType")
 | bl (x:Bool):nK K H (.bl x) (.type "bool")
 | int (i:Int):nK K H (.int i) (.type "int")
 | str (x:Str):nK K H (.str x) (.type "str")
 | flt (x:UInt64):nK K H (.flt x) (.type "float")
 | lst {a:Addr} {xs:Hw} (e:H a=some (.lst xs)):nK K H (.ref a) (.type "list")
 | frz {a:Addr} {o:Obj} {xs:Hw} (e:H a=some (.frz o (.lst xs))):nK K H (.ref a) (.type "list")
 | tup {a:Addr} {xs:Hw} (e:H a=some (.tup xs)):nK K H (.ref a) (.type "tuple")
 | dK {a:Addr} {kvs:Hu} (e:H a=some (.dK kvs)):nK K H (.ref a) (.type "dict")
 | dT {a:Addr} {kvs:List (List Key × V)} (e:H a=some (.dT kvs)):nK K H (.ref a) (.type "dict")
 | ins {a C dx:Addr} {fs:Hv} (e:H a=some (.ins C dx fs)) (cl:Cls K C) (ha:findIn K (.ref C) "__class__" = some (some (.builtin "object.__class__")))
   (hn:PySem.W.specialIn K (.builtin "object.__class__") "__get__" = some (some (.builtin "getset_descriptor.__get__"))) (htk:PySem.W.takesIn K (.builtin "object.__class__")=some true)
   (hm:PySem.W.mroIn K C (.type "object")=some true):nK K H (.ref a) (.ref C)
def CI (I:Inv X pins σ H s) (rx:bY x u) (ty:nK X.K H x t) (e:PySem.W.kitOne X.K t c=some b) (h:∀ tk,Q (.bool b) { s with toks:=tk }) :
  wpAny (model X.prog X.w) A (call (.builtin "isinstance") [u,c]) Q E s:=by
 cases ty with
 | non=>cases (show u=Value.none from rx); exact kia_one PySem.W.kitx_none I.kIn True.intro e (fun z=>nomatch z) h
 | bl y=>cases (show u=Value.bool y from rx); exact kia_one PySem.W.kitx_bool I.kIn True.intro e (fun z=>nomatch z) h
 | int i=>obtain⟨t,q⟩:=(show ∃ t,u=Value.int i t from rx); cases q; exact kia_one PySem.W.kitx_int I.kIn True.intro e (fun z=>nomatch z) h
 | str y=>obtain⟨t,q⟩:=(show ∃ t,u=Value.str y t from rx); cases q; exact kia_one PySem.W.kitx_str I.kIn True.intro e (fun z=>nomatch z) h
 | flt y=>obtain⟨t,q⟩:=(show ∃ t,u=Value.float y t from rx); cases q; exact kia_one PySem.W.kitx_float I.kIn True.intro e (fun z=>nomatch z) h
 | @lst a xs ea=>
  cases (show u=Value.ref a from rx)
  obtain⟨_,_,n,_,h1⟩:=(show dD X.prog X.w H s.heap a (.lst xs) from I.hok a _ ea)
  exact kia_one kitx_list I.kIn ⟨_,h1,rfl⟩ e (fun z=>nomatch z) h
 | @frz a ob xs ea=>
  cases (show u=Value.ref a from rx)
  obtain⟨_,_,_,n,_,h1⟩:=(show dD X.prog X.w H s.heap a (.frz ob (.lst xs)) from I.hok a _ ea)
  exact kia_one kitx_list I.kIn ⟨_,h1,rfl⟩ e (fun z=>nomatch z) h
 | @tup a xs ea=>
  cases (show u=Value.ref a from rx)
  obtain⟨_,_,_,p⟩:=(show dD X.prog X.w H s.heap a (.tup xs) from I.hok a _ ea)
  obtain⟨o,h1,h2,_⟩:=p
  exact kia_one PySem.W.kitx_tuple I.kIn ⟨o,h1,h2⟩ e (fun z=>nomatch z) h
 | @dK a kvs ea=>
  cases (show u=Value.ref a from rx)
  obtain⟨_,_,vs,_,p⟩:=(show dD X.prog X.w H s.heap a (.dK kvs) from I.hok a _ ea)
  obtain⟨o,es,ep,h1,h2,_⟩:=p
  exact kia_one kitx_dict I.kIn ⟨o,h1,h2.1⟩ e (fun z=>nomatch z) h
 | @dT a kvs ea=>
  cases (show u=Value.ref a from rx)
  obtain⟨_,_,xs,_,o,es,ep,h1,h2,_⟩:=(show dD X.prog X.w H s.heap a (.dT kvs) from I.hok a _ ea)
  exact kia_one kitx_dict I.kIn ⟨o,h1,h2.1⟩ e (fun z=>nomatch z) h
 | @ins a C dx fs ea cl ha hn htk hm=>
  cases (show u=Value.ref a from rx)
  obtain⟨mA,O,_⟩:=pK I.hok ea
  obtain⟨od,J,_⟩:=O.look
  exact kia_one (PySem.W.kitx_own (cl.get _) cl.hd ha hn htk hm) I.kIn J e (fun z=>nomatch z) h
end
structure Room (k:Nat) (A:Around):Prop where
 hd:A.handled=none
 dp:A.depth+3 * k+5<recursionLimit
 un:A.units+16 * k+200<cLine
def Room.mono (r:Room k A) (h:j<=k):Room j A:=⟨r.hd,by have:=r.dp; omega,by have:=r.un; omega⟩
def Room.deeper (r:Room (k+1) A) (env:Env):Room k (A.deeper env):=
 ⟨r.hd,by have:=r.dp; show A.depth+1+3 * k+5<_; omega,by have:=r.un; show A.units+3+16 * k+200<_; omega⟩
def AH {A:Around} {C:Addr} {us:Hq} {kw:List (Str × Value)}:(A.under (.builtin "type.__call__" ⟨.ref C::us,kw⟩)).depth=A.depth+1:=by
 first | rfl | simp [Around.under,Code.weight,Code.isCreation,Code.isGuard,Code.isCaller,Code.frames,Code.isFrame,guardIds]
def AG {A:Around} {C:Addr} {us:Hq} {kw:List (Str × Value)}:(A.under (.builtin "type.__call__" ⟨.ref C::us,kw⟩)).units=A.units+1:=by
 first | rfl | simp [Around.under,Code.cUnits,Code.frames,Code.isFrame]
def Room.make (r:Room (k+1) A) (C:Addr) (us:Hq) (kw:List (Str × Value)):Room k (A.under (.builtin "type.__call__" ⟨.ref C::us,kw⟩)):=
 ⟨r.hd,by have:=r.dp; rw[AH]; omega,by have:=r.un; rw[AG]; omega⟩
def Room.depth (r:Room k A):A.depth<recursionLimit:=by have:=r.dp; omega
def Room.units (r:Room k A):A.units+64<cLine:=by have:=r.un; omega
def o7:TA:=fun _ H Q=>Q [] H
abbrev Ey (Q:(Hw->Hp->Prop)) (x:V):Hw->Hp->Prop:=fun xs H2=>Q (x::xs) H2
abbrev Ez (tr:TA) (σ : St) (Q:(Hw->Hp->Prop)):V->Hp->Prop:=fun x H1=>tr σ H1 (Ey Q x)
def jU (ta:TE) (tr:TA):TA:=fun σ H Q=>ta σ H (Ez tr σ Q)
section
variable {X:Cx} {e:Expr} {es:List Expr} {te:TE} {t:TA} {pos:Pos}
def aF:PA X [] o7:=fun _ _ _ _ H Q I h=>Calls.spliced_nil ⟨[],H,I,.nil,h⟩
def dZ (ha:PE X e te) (hr:PA X es t) (hs:starEach (e::es) X.env=(false,eval e X.env)::starEach es X.env:=by rfl):PA X (e::es) (jU te t):=by
 intro pos pins s σ H Q I h
 rw[hs]
 show wpAny _ _ (spliced ((false,eval e X.env)::backTo pos (starEach es X.env))) _ _ s
 refine Calls.spliced_cons (thn (ha pins s σ H _ I h) fun u s1 zQq=>?_)
 obtain⟨x,H1,I1,r1,q1⟩:=zQq
 exact thn (hr pos pins s1 σ H1 _ I1 q1) fun us s2 ⟨xs,H2,I2,r2,q2⟩=>⟨x::xs,H2,I2,.cons r1 r2,q2⟩
abbrev GT (Q:VK):Hw->Hp->Prop:=fun xs H1=>xs.length<=sizeLine/\∀ p,H1 p=none->Q (.ref p) (upd H1 p (.tup xs))
def tTup (t:TA):TE:=fun σ H Q=>t σ H (GT Q)
abbrev GX (Q:VK):Hw->Hp->Prop:=fun xs H1=>xs.length<=sizeLine/\∀ p,H1 p=none->Q (.ref p) (upd H1 p (.lst xs))
def tLst (t:TA):TE:=fun σ H Q=>t σ H (GX Q)
def bV {x1} (h:PA X es t):PE X (.Tuple es x1 pos) (tTup t):=by
 intro pins s σ H Q I hq
 refine wpAny_Tuple_spliced (thn (h pos pins s σ H _ I hq) fun us s1 ⟨xs,H1,I1,r,z,q⟩=>⟨by rw[<- r.length]; exact z,?_⟩)
 have hf:H1 s1.heap.objs.size=none:=I1.hok.fresh (le_refl _)
 refine⟨.ref s1.heap.objs.size,upd H1 s1.heap.objs.size (.tup xs),I1.laid (t':=s1.toks) (fun b u e=>get?_push_of_some _ e) (le_refl _) ?_,rfl,q _ hf⟩
 exact⟨z,us,r,⟨_,get?_push_size _ rfl,rfl,_,rfl⟩⟩
def gI (h:PA X es t):PE X (.List es pos) (tLst t):=by
 intro pins s σ H Q I hq
 refine wpAny_List_spliced (thn (h pos pins s σ H _ I hq) fun us s1 ⟨xs,H1,I1,r,z,q⟩=>⟨by rw[<- r.length]; exact z,?_⟩)
 have hf:H1 s1.heap.objs.size=none:=I1.hok.fresh (le_refl _)
 refine⟨.ref s1.heap.objs.size,upd H1 s1.heap.objs.size (.lst xs),I1.laid (t':=s1.toks) (fun b u e=>get?_push_of_some _ e) (le_refl _) ?_,rfl,q _ hf⟩
 exact⟨z,us,0,r,get?_push_size _ rfl⟩
end
abbrev Sp:=Hw->Hp->VK->XK->Prop
abbrev CXT:=List Env->Hp->Shared->XK->Value->Shared->Prop
structure Env0 (P:Program) (w:World) (K:Hh) (mg:Hj) (base:Heap) (A:Around) (outer:List Env) (s:Shared) (H:Hp):Prop where
 frames:A.frames=some outer
 mod:Mod K mg base
 bs:∀ b o,base.get? b=some o->s.heap.get? b=some o/\H b=none
 bsz:base.objs.size<=s.heap.objs.size
 funs:s.heap.FunFrames base outer
 frf:∀ b∈frs outer,H b=none
 hok:HOk P w H s.heap
 bare:AllBare s.gens
inductive CE (outer:List Env) (P:Program) (w:World) (H:Hp) (s:Shared) (Q:VK) (u:Value) (s':Shared):Prop
 | mk:∀ v H',s'.os=s.os->AllBare s'.gens->Un (frs outer) [] H H' s.heap s'.heap->HOk P w H' s'.heap->bY v u->Q v H'->CE outer P w H s Q u s'
def CR (CX:CXT) (outer:List Env) (P:Program) (w:World) (H:Hp) (s:Shared) (Q:VK) (E:XK) (r:Result) (s':Shared):Prop:=
 match r with
 | .ok (.ret u)=>CE outer P w H s Q u s'
 | .ok _=>False
 | .error e=>CX outer H s E e s'
structure FnOk (P:Program) (w:World) (K:Hh) (mg:Hj) (base:Heap) (CX:CXT) (k:Nat) (f:Addr) (fd:Hs) (ps:Ho) (sp:Sp):Prop where
 len:∀ vs H Q E,sp vs H Q E->vs.length=ps.length
 run:∀ (A:Around) (outer:List Env) (s:Shared) (H:Hp) (args:Args) (us:Hq) (vs:Hw) (Q:VK) (E:XK),Room k A->Env0 P w K mg base A outer s H->BindsTo s fd args (ps.zip us)->bR vs us->sp vs H Q E->
  codeAny (model P w) A (.call (.ref f) args) (CR CX outer P w H s Q E) s
def Env0.make {P:Program} {w:World} {K:Hh} {mg:Hj} {base:Heap} {A:Around} {outer:List Env} {s:Shared} {H:Hp} (e:Env0 P w K mg base A outer s H) (C:Addr) (us:Hq) (kw:List (Str × Value)) :
  Env0 P w K mg base (A.under (.builtin "type.__call__" ⟨.ref C::us,kw⟩)) outer s H:=⟨by first | exact e.frames | (simpa [Around.under,Code.envs,Code.isFrame,pushEnvs] using e.frames),e.mod,e.bs,e.bsz,e.funs,e.frf,e.hok,e.bare⟩
section
variable {X:Cx} {pins:Hi} {σ : St} {H:Hp} {s s':Shared}
def Inv.env0 (I:Inv X pins σ H s):Env0 X.prog X.w X.K X.mg X.base X.A X.stack s H:=
 ⟨I.ok.frames,I.ok.mod,I.bs,le_trans I.ok.bsz I.sz,I.stack,I.stkFree,I.hok,I.bare⟩
def Inv.after (I:Inv X pins σ H s) (h:CE X.stack X.prog X.w H s Q u s'):EP X pins σ Q u s':=by
 obtain⟨v,H',os,bare,un,hok,r,q⟩:=h
 obtain⟨hh,g,d,t,os'⟩:=s'
 obtain rfl:os'=s.os:=os
 exact⟨v,H',I.call (h':=hh) (g':=g) (d':=d) (t':=t) (ch:=[]) un hok bare (fun b z=>absurd z (by simp)),r,q⟩
end
abbrev Ab (sp:Sp) (dvs:Hw) (E:XK) (Q:VK):Hw->Hp->Prop:=fun vs H1=>sp (vs++dvs) H1 Q E
def C1 (sp:Sp) (dvs:Hw) (E:XK) (t:TA):TE:=fun σ H Q=>t σ H (Ab sp dvs E Q)
abbrev uY (sp:Sp) (dvs:Hw) (E:XK) (Q:VK) (x:V):Hw->Hp->Prop:=fun vs H2=>sp (x::(vs++dvs)) H2 Q E
inductive zF (C:Addr) (m:Str) (sp:Sp) (dvs:Hw) (E:XK) (t:TA) (σ : St) (Q:VK) (x:V) (H1:Hp):Prop
 | mk:∀ a dx fs,x = .ref a->H1 a=some (.ins C dx fs)->fs.lookup m=none->t σ H1 (uY sp dvs E Q x)->zF C m sp dvs E t σ Q x H1
def AY (C:Addr) (m:Str) (sp:Sp) (dvs:Hw) (E:XK) (ta:TE) (t:TA):TE:=fun σ H Q=>ta σ H (zF C m sp dvs E t σ Q)
abbrev uZ (C:Addr) (sp:Sp) (dvs:Hw) (E:XK) (Q:VK):Hw->Hp->Prop:=fun vs H1=>∀ x dx,H1 x=none->H1 dx=none->dx≠x->
 sp (.ref x::(vs++dvs)) (upd (upd H1 dx (.own x)) x (.ins C dx [])) (fun v H2=>v = .non/\Q (.ref x) H2) E
def AZ (C:Addr) (sp:Sp) (dvs:Hw) (E:XK) (t:TA):TE:=fun σ H Q=>t σ H (uZ C sp dvs E Q)
def iK (K:Hh) (fd:Hs) (ps:Ho) (ds:Hq):Prop:=
 ∀ (s:Shared) (us:Hq),K.In s.heap->(us++ds).length=ps.length->BindsTo s fd ⟨us,[]⟩ (ps.zip (us++ds))
def iK.all {K:Hh} {fd:Hs} {ps:Ho} (h:∀ us:Hq,us.length=ps.length->bindArgs fd ⟨us,[]⟩=pure (ps.zip us)):iK K fd ps []:=fun s us _ hl=>by
 rw[append_nil]at hl ⊢
 exact .of_eq (h us hl)
def eR (CX:CXT) (X:Cx) (E:XK):Prop:=∀ (pins:Hi) (σ : St) (H:Hp) (s:Shared) (e:Value) (s':Shared),Inv X pins σ H s->CX X.stack H s E e s'->X.xe e s'
section
variable {X:Cx} {CX:CXT} {k:Nat} {f C:Addr} {fd:Hs} {ps:Ho} {sp:Sp} {dvs:Hw} {ds:Hq} {E:XK} {x m:Str} {p pos apos:Pos} {e o:Expr} {es:List Expr} {ta:TE} {t:TA}
def zL (F:FnOk X.prog X.w X.K X.mg X.base CX k f fd ps sp) (hr:Room k X.A) (hb:iK X.K fd ps ds) (hd:bR dvs ds) (hx:eR CX X E)
  (I:Inv X pins σ H s) (r:bR vs us) (h:sp (vs++dvs) H Q E):wpAny (model X.prog X.w) X.A (call (.ref f) us) (EP X pins σ Q) X.xe s:=by
 have r2:bR (vs++dvs) (us++ds):=r.append hd
 have hl:(us++ds).length=ps.length:=by rw[<- r2.length]; exact F.len _ _ _ _ h
 refine wpAny_call (codeAny_mono (F.run X.A X.stack s H ⟨us,[]⟩ (us++ds) (vs++dvs) Q E hr I.env0 (hb s us I.kIn hl) r2 h) fun r s' hq=>?_)
 cases r with
 | error e=>exact hx pins σ H s e s' I hq
 | ok fl=>
  cases fl with
  | ret u=>exact I.after hq
  | next=>exact False.elim hq
  | brk=>exact False.elim hq
  | cont=>exact False.elim hq
def FQ (F:FnOk X.prog X.w X.K X.mg X.base CX k f fd ps sp) (hr:Room k X.A) (hg:Gl X x) (hm:X.mg x=some (.ref f)) (hk:keepIn X.K (.ref f)=true) (hb:iK X.K fd ps ds) (hd:bR dvs ds) (hx:eR CX X E)
  (ha:PA X (e::es) t) (hdb:(x == ("__debug__" : Str))=false:=by decide) (he:starEach (e::es) X.env=(false,eval e X.env)::starEach es X.env:=by rfl) (hpl:(backTo pos (starEach es X.env)).any (·.1)=false:=by rfl) :
  PE X (.Call (.Name x p) (e::es) [] pos) (C1 sp dvs E t):=by
 intro pins s σ H Q I h
 refine wpAny_Call_Name_kw (iG I hg hm ?_ hdb)
 refine callWith_K (h₀:=X.base) I.ok.mod.kin hk (thn (ha pos pins s σ H _ I h) fun us s1 ⟨vs,H1,I1,r,q⟩=>⟨I1.kIn,?_⟩) he hpl
 exact zL F hr hb hd hx I1 r q
def FN (he:PE X o ta) (c:Cls X.K C) (hm:Meth X.K C m f) (F:FnOk X.prog X.w X.K X.mg X.base CX k f fd ps sp) (hr:Room k X.A) (hb:iK X.K fd ps ds) (hd:bR dvs ds) (hx:eR CX X E) (ha:PA X (e::es) t)
  (hst:starEach (e::es) X.env=(false,eval e X.env)::starEach es X.env:=by rfl) (hpl:(backTo pos (starEach es X.env)).any (·.1)=false:=by rfl)
  (ht:eval (.Call (.Attribute o m apos) (e::es) [] pos) X.env=(do
   let ov <- eval o X.env
   standAt apos.atName
   let (f,first) <- holding [ov] (getMethod ov m pl)
   callWith pos f first (backTo pos (starEach (e::es) X.env)) (backToKw pos (keywordEach [] X.env))):=by rfl) :
  PE X (.Call (.Attribute o m apos) (e::es) [] pos) (AY C m sp dvs E ta t):=by
 intro pins s σ H Q I h
 refine methodCall_KW (pl:=pl) (thn (he pins s σ H _ I h) fun u s1 zQq=>?_) ht
 obtain⟨x,H1,I1,rx,a,dx,fs,ex,ea,l,q⟩:=zQq
 subst ex
 obtain rfl:u=Value.ref a:=rx
 refine rM I1 ea c hm l ?_
 refine callWith_K (first:=[.ref a]) (h₀:=X.base) I.ok.mod.kin hm.kp (thn (ha pos pins s1 σ H1 _ I1 q) fun us s2 ⟨vs,H2,I2,r,q2⟩=>⟨I2.kIn,?_⟩) hst hpl
 exact zL (us:=.ref a::us) (vs:=.ref a::vs) F hr hb hd hx I2 (.cons rfl r) q2
def DV (he:PE X o ta) (c:Cls X.K C) (hm:Meth X.K C m f) (F:FnOk X.prog X.w X.K X.mg X.base CX k f fd ps sp) (hr:Room k X.A) (hb:iK X.K fd ps ds) (hd:bR dvs ds) (hx:eR CX X E)
  (ht:eval (.Call (.Attribute o m apos) [] [] pos) X.env=(do
   let ov <- eval o X.env
   standAt apos.atName
   let (f,first) <- holding [ov] (getMethod ov m pl)
   callWith pos f first (backTo pos (starEach [] X.env)) (backToKw pos (keywordEach [] X.env))):=by rfl) :
  PE X (.Call (.Attribute o m apos) [] [] pos) (AY C m sp dvs E ta o7):=by
 intro pins s σ H Q I h
 refine methodCall_KW (pl:=pl) (thn (he pins s σ H _ I h) fun u s1 zQq=>?_) ht
 obtain⟨x,H1,I1,rx,a,dx,fs,ex,ea,l,q⟩:=zQq
 subst ex
 obtain rfl:u=Value.ref a:=rx
 refine rM I1 ea c hm l ?_
 exact callWith_K0 (first:=[.ref a]) I1.kIn hm.kp (zL (us:=[.ref a]) (vs:=[.ref a]) F hr hb hd hx I1 (.cons rfl .nil) q)
structure Mk (K:Hh) (C f:Addr):Prop where
 makes:PySem.W.makesIn K C=true
 init:findIn K (.ref C) "__init__" = some (some (.ref f))
 fn:PySem.W.isFn K (.ref f)=true
 kp:keepIn K (.ref C)=true
def xK (M:Mk X.K C f) (F:FnOk X.prog X.w X.K X.mg X.base CX k f fd ps sp) (hr:Room (k+1) X.A) (hb:iK X.K fd ps ds) (hd:bR dvs ds)
  (hx:eR CX X E) (I:Inv X pins σ H s) (r:bR vs us)
  (h:∀ x dx,H x=none->H dx=none->dx≠x->sp (.ref x::(vs++dvs)) (upd (upd H dx (.own x)) x (.ins C dx [])) (fun v H2=>v = .non/\Q (.ref x) H2) E) :
  wpAny (model X.prog X.w) X.A (call (.ref C) us) (EP X pins σ Q) X.xe s:=by
 have hq:=h (s.heap.objs.size+1) s.heap.objs.size (I.hok.fresh (le_succ _)) (I.hok.fresh (le_refl _)) (ne_of_lt (lt_succ_self _))
 have I2:=Inv.made (C:=C) I
 have r2:bR (V.ref (s.heap.objs.size+1)::(vs++dvs)) (Value.ref (s.heap.objs.size+1)::(us++ds)):=.cons rfl (r.append hd)
 have hl:(Value.ref (s.heap.objs.size+1)::us++ds).length=ps.length:=by
  have e:=r2.length
  rw[F.len _ _ _ _ hq]at e
  exact e.symm
 refine wpAny_call (Du (f:=f) I.kIn M.makes M.init (beq_iff_eq.mp M.fn) (codeAny_mono (F.run _ X.stack _ _ ⟨Value.ref (s.heap.objs.size+1)::us,[]⟩ (Value.ref (s.heap.objs.size+1)::(us++ds)) _ _ E (hr.make C us [])
  (I2.env0.make C us []) (hb _ (Value.ref (s.heap.objs.size+1)::us) I2.kIn hl) r2 hq) fun r s' hq'=>?_))
 cases r with
 | error e=>exact hx pins σ _ _ e s' I2 hq'
 | ok fl=>
  cases fl with
  | ret u=>
   obtain⟨v,H',I3,rv,ev,q3⟩:=I2.after hq'
   subst ev
   exact⟨rv,⟨V.ref (s.heap.objs.size+1),H',I3,rfl,q3⟩⟩
  | next=>exact False.elim hq'
  | brk=>exact False.elim hq'
  | cont=>exact False.elim hq'
def FO (M:Mk X.K C f) (F:FnOk X.prog X.w X.K X.mg X.base CX k f fd ps sp) (hr:Room (k+1) X.A) (hg:Gl X x) (hm:X.mg x=some (.ref C)) (hb:iK X.K fd ps ds) (hd:bR dvs ds) (hx:eR CX X E)
  (ha:PA X (e::es) t) (hdb:(x == ("__debug__" : Str))=false:=by decide) (he:starEach (e::es) X.env=(false,eval e X.env)::starEach es X.env:=by rfl) (hpl:(backTo pos (starEach es X.env)).any (·.1)=false:=by rfl) :
  PE X (.Call (.Name x p) (e::es) [] pos) (AZ C sp dvs E t):=by
 intro pins s σ H Q I h
 refine wpAny_Call_Name_kw (iG I hg hm ?_ hdb)
 refine callWith_K (h₀:=X.base) I.ok.mod.kin M.kp (thn (ha pos pins s σ H _ I h) fun us s1 ⟨vs,H1,I1,r,q⟩=>⟨I1.kIn,?_⟩) he hpl
 exact xK M F hr hb hd hx I1 r q
def DW (M:Mk X.K C f) (F:FnOk X.prog X.w X.K X.mg X.base CX k f fd ps sp) (hr:Room (k+1) X.A) (hg:Gl X x) (hm:X.mg x=some (.ref C)) (hb:iK X.K fd ps ds) (hd:bR dvs ds) (hx:eR CX X E)
  (hdb:(x == ("__debug__" : Str))=false:=by decide):PE X (.Call (.Name x p) [] [] pos) (AZ C sp dvs E o7):=by
 intro pins s σ H Q I h
 refine wpAny_Call_Name_kw (iG I hg hm ?_ hdb)
 exact callWith_K0 I.kIn M.kp (xK (us:=[]) M F hr hb hd hx I .nil h)
end
section
variable {X:Cx} {CX:CXT} {k:Nat} {f C:Addr} {fd:Hs} {ps ks:Ho} {sp:Sp} {E:XK} {x m:Str} {p pos apos kpos:Pos} {e o:Expr} {es:List Expr} {kws:List Keyword} {te ta:TE} {t tk:TA} {nm:Option Str}
variable {g:Hq->Hq->Hq} {gV:Hw->Hw->Hw}
end
structure FnScope (N P:Ho) (sc:Scope):Prop where
 kind:sc.kind = .function
 co:sc.isCoroutine=false
 gen:sc.isGenerator=false
 nd:N.Nodup
 pre:N.take P.length=P
 par:∀ x∈P,sc.names.lookup x=some .local\/sc.names.lookup x=some .cell
 nofree:∀ y∈sc.names,y.2 ≠ .free
def uQ {kindOf:Str->Option NameKind} {x:Str}:∀ {binds:List (Str × Value)} {m:Hj},(∀ v,(x,v) ∉ binds)->bindL kindOf binds m x=m x
 | [],_,_=>rfl
 | (n,v)::r,m,h=>by
  unfold bindL
  rw[uQ fun w hw=>h w (mem_cons_of_mem _ hw)]
  split
  ·have:x≠n:=by rintro rfl; exact h v mem_cons_self
   simp [this]
  ·rfl
def uS {kindOf:Str->Option NameKind} {x:Str}:∀ {binds:List (Str × Value)} {m:Hj},(∀ v,(x,v) ∉ binds)->bindC kindOf binds m x=m x
 | [],_,_=>rfl
 | (n,v)::r,m,h=>by
  unfold bindC
  rw[uS fun w hw=>h w (mem_cons_of_mem _ hw)]
  split
  ·rfl
  ·have:x≠n:=by rintro rfl; exact h v mem_cons_self
   simp [this]
def uR {kindOf:Str->Option NameKind} {x:Str} {v:Value}:∀ {P:Ho} {vs:Hq} {i:Nat} {m:Hj},P.Nodup->P[i]? = some x->vs[i]? = some v->kindOf x=some .local->
  bindL kindOf (P.zip vs) m x=some v
 | [],_,_,_,_,h,_,_=>by simp at h
 | _::_,[],_,_,_,_,h,_=>by simp at h
 | p::P,w::vs,0,m,nd,h1,h2,hk=>by
  simp at h1 h2; subst h1; subst h2
  show bindL kindOf ((p,w)::P.zip vs) m p=_
  unfold bindL
  rw[uQ fun v hv=>(nodup_cons.mp nd).1 (List.of_mem_zip hv).1,if_pos hk]
  simp
 | p::P,w::vs,i+1,m,nd,h1,h2,hk=>by
  show bindL kindOf ((p,w)::P.zip vs) m x=_
  unfold bindL
  exact uR (i:=i) (nodup_cons.mp nd).2 (by simpa using h1) (by simpa using h2) hk
def uT {kindOf:Str->Option NameKind} {x:Str} {v:Value}:∀ {P:Ho} {vs:Hq} {i:Nat} {m:Hj},P.Nodup->P[i]? = some x->vs[i]? = some v->kindOf x≠some .local->
  bindC kindOf (P.zip vs) m x=some v
 | [],_,_,_,_,h,_,_=>by simp at h
 | _::_,[],_,_,_,_,h,_=>by simp at h
 | p::P,w::vs,0,m,nd,h1,h2,hk=>by
  simp at h1 h2; subst h1; subst h2
  show bindC kindOf ((p,w)::P.zip vs) m p=_
  unfold bindC
  rw[uS fun v hv=>(nodup_cons.mp nd).1 (List.of_mem_zip hv).1,if_neg hk]
  simp
 | p::P,w::vs,i+1,m,nd,h1,h2,hk=>by
  show bindC kindOf ((p,w)::P.zip vs) m x=_
  unfold bindC
  exact uT (i:=i) (nodup_cons.mp nd).2 (by simpa using h1) (by simpa using h2) hk
def mC (N:Ho) (vs:Hw):St:=vs.map some++List.replicate (N.length - vs.length) none
def wB (CX:CXT) (P:Program) (w:World) (K:Hh) (mg:Hj) (base:Heap) (N:Ho) (qual:Str) (scope:Scope) (f:Addr) (cd:Value) (A:Around) (outer:List Env) (s:Shared) (H:Hp) (E:XK):Cx where
 prog:=P
 w:=w
 K:=K
 mg:=mg
 base:=base
 A:=A.deeper (envOfC qual scope s.heap.objs.size f cd)
 N:=N
 s₀:=s
 H₀:=H
 env:=envOfC qual scope s.heap.objs.size f cd
 outer:=outer
 stack:=envOfC qual scope s.heap.objs.size f cd::outer
 ex:=[]
 calm:=true
 fn:=fun _=>true
 pn:=[]
 xe:=fun e s'=>wpAny (model P w) (A.deeper (envOfC qual scope s.heap.objs.size f cd)) (leaving (envOfC qual scope s.heap.objs.size f cd) e) (fun _ s''=>CX outer H s E e s'') (fun e' s''=>CX outer H s E e' s'') s'
def yS {sc:Scope} {n:Nat} {x:Str} (h:sc.names.lookup x=some .cell):∃ c,(cellsFrom n sc.names []).lookup x=some c:=by
 have q:=PySem.W.cellsFrom_some sc.names n [] (.inl h)
 exact isSome_iff_exists.mp q
def CL {CX:CXT} {P:Program} {w:World} {K:Hh} {mg:Hj} {base:Heap} {N ps:Ho} {qual:Str} {scope:Scope} {f:Addr} {cd:Value} {A:Around} {outer:List Env} {s s1:Shared} {H:Hp} {E:XK} {us:Hq} {vs:Hw}
  (S:FnScope N ps scope) (hd:A.handled=none) (e0:Env0 P w K mg base A outer s H) (hl:vs.length=ps.length) (r:bR vs us)
  (x:InCallC s s.heap.objs.size (bindL (envOfC qual scope s.heap.objs.size f cd).kindOf (ps.zip us) fun _=>none) (cellsFrom (s.heap.objs.size+1) scope.names []) (bindC (envOfC qual scope s.heap.objs.size f cd).kindOf (ps.zip us) fun _=>none) s1) :
  Inv (wB CX P w K mg base N qual scope f cd A outer s H E) [] (mC N vs) H s1:=by
 have hpl:ps.length<=N.length:=by have:=congrArg List.length S.pre; rw[length_take]at this; omega
 obtain⟨h1,tk,rfl,hk⟩:=x.done
 have noA:∀ b:Addr,b ∉ (wB CX P w K mg base N qual scope f cd A outer s H E).ex:=fun b z=>absurd (show b∈([]:List Addr) from z) (by simp)
 refine⟨⟨e0.mod,S.kind,rfl,rfl,le_refl _,fun y z c h1 h2=>?_,fun y hy=>?_,fun y c _ h=>?_,fun _=>hd,Around.frames_deeper e0.frames,.inr ⟨rfl,rfl⟩,fun b z=>absurd z (noA b),e0.bs,e0.bsz,fun b _ _=>noA b,fun b z=>absurd z (noA b),e0.funs,e0.frf⟩,
  rfl,e0.bare,Un.kept hk,⟨_,x.toInCall.ns,fun i y v h1 h2 h3=>?_⟩,fun y c h=>⟨_,x.cell y c h⟩,e0.hok.fresh (le_refl _),fun y c h=>?_,fun p hp=>absurd (show p∈([]:Hi) from hp) (by simp),e0.hok.kept hk,?_⟩
 ·exact name_of_addr x.apart (PySem.mem_of_lookup h1) (PySem.mem_of_lookup h2)
 ·have hy:scope.names.lookup y=some .cell\/scope.names.lookup y=some .free:=hy
  rcases hy with hy | hy
  ·exact yS hy
  ·exact absurd rfl (S.nofree _ (PySem.mem_of_lookup hy))
 ·exact le_of_lt (x.above y c (PySem.mem_of_lookup h))
 ·have hi:i<vs.length:=by
   unfold mC at h2
   by_cases hi:i<vs.length
   ·exact hi
   ·rw[getElem?_append_right (by simpa using hi)]at h2
    rw[List.getElem?_replicate]at h2
    split at h2 <;> cases h2
  have ha:vs[i]? = some v:=by
   unfold mC at h2
   rw[getElem?_append_left (by simpa using hi),getElem?_map]at h2
   cases e:vs[i]? with
   | none=>rw[e]at h2; cases h2
   | some a=>rw[e]at h2; cases h2; rfl
  obtain⟨u,hu,rv⟩:=r.get ha
  have hp:ps[i]? = some y:=by
   rw[<- S.pre,List.getElem?_take_of_lt (by omega)]; exact h1
  have ndP:ps.Nodup:=by rw[<- S.pre]; exact S.nd.sublist (List.take_sublist _ _)
  refine⟨u,rv,?_⟩
  rcases S.par y (mem_of_getElem? hp) with k | k
  ·exact .inl ⟨k,uR ndP hp hu k⟩
  ·obtain⟨c,e⟩:=yS (n:=s.heap.objs.size+1) k
   refine .inr ⟨.inl k,c,e,?_⟩
   have q:=x.cell y c e
   rw[uT ndP hp hu (by show scope.names.lookup y≠_; rw[k]; decide)]at q
   exact q
 ·exact e0.hok.fresh (le_of_lt (x.above y c (PySem.mem_of_lookup h)))
 ·unfold mC
  show _=N.length
  rw[length_append,length_map,List.length_replicate]
  omega
def fn_of {CX:CXT} {P:Program} {w:World} {K:Hh} {mg:Hj} {base:Heap} {k:Nat} {f:Addr} {name qual:Str} {params:Arguments} {body:List Stmt} {scope:Scope} {dV kV doc pm cdv ct oc:Value} {an od:Option Addr}
  {osl:Hl} {N ps:Ho} {sp:Sp} (lk:K.lookup f=some ⟨oc,od,.func (fnOf name qual params body scope dV kV doc pm an cdv ct),osl⟩) (hcd:codeIn K cdv qual=true) (S:FnScope N ps scope)
  (len:∀ vs H Q E,sp vs H Q E->vs.length=ps.length)
  (hbody:∀ (A:Around) (outer:List Env) (s:Shared) (H:Hp) (vs:Hw) (Q:VK) (E:XK),Room k (A.deeper (envOfC qual scope s.heap.objs.size f cdv))->sp vs H Q E->
   ∃ t,PSs (wB CX P w K mg base N qual scope f cdv A outer s H E) body t/\t (Ends.fn Q) (mC N vs) H) :
  FnOk P w K mg base CX (k+1) f (fnOf name qual params body scope dV kV doc pm an cdv ct) ps sp:=by
 refine⟨len,fun A outer s H args us vs Q E hr e0 hb r hsp=>?_⟩
 have hl:=len _ _ _ _ hsp
 have KX:K.In s.heap:=e0.mod.kin.keeps fun b o e=>(e0.bs b o e).1
 have lim:s.heap.NoLimit:=e0.mod.nolimit.keeps fun b o e=>(e0.bs b o e).1
 have hkind:∀ y∈ps.zip us,scope.names.lookup y.1=some .local\/(scope.names.lookup y.1=some .cell/\((cellsFrom (s.heap.objs.size+1) scope.names []).lookup y.1).isSome=true):=fun⟨n,v⟩ hy=>by
  rcases S.par n (List.of_mem_zip hy).1 with q | q
  ·exact .inl q
  ·exact .inr ⟨q,PySem.W.cellsFrom_some _ _ _ (.inl q)⟩
 refine codeAny_call_function hr.depth (KX _ _ lk) rfl S.co S.gen rfl (PySem.W.codeRec_of KX hcd) (hb _ _ _ _ ?_)
 refine wpAny_newFunctionEnv_cells S.kind hkind fun env he s1 x=>?_
 subst he
 refine⟨lim.keeps x.toInCall.keep,codeAny_func ?_⟩
 obtain⟨t,ht,hq⟩:=hbody A outer s H vs Q E (hr.deeper _) hsp
 have I:Inv (wB CX P w K mg base N qual scope f cdv A outer s H E) [] (mC N vs) H s1:=CL S hr.hd e0 hl r x
 refine wpAny_mono (ht [] s1 (mC N vs) H _ I hq) (fun fl s' hs=>?_) fun e s' hs=>hs
 have fin:∀ {σ':St} {H':Hp} {v:V} {u:Value},Inv (wB CX P w K mg base N qual scope f cdv A outer s H E) [] σ' H' s'->bY v u->Q v H'->CE outer P w H s Q u s':=
  fun {σ' H' v u} J rv q=>⟨v,H',J.os,J.bare,J.base,J.hok,rv,q⟩
 cases fl with
 | ret u=>
  obtain⟨v,σ',H',J,rv,q⟩:=hs
  exact fin J rv q
 | next=>
  obtain⟨σ',H',J,q⟩:=hs
  exact fin (v:=V.non) (u:=Value.none) J rfl q
 | brk=>
  obtain⟨_,_,_,q⟩:=hs
  exact False.elim q
 | cont=>
  obtain⟨_,_,_,q⟩:=hs
  exact False.elim q
section
variable {X:Cx} {x:Str} {p pos:Pos} {e:Expr} {es:List Expr} {t:TA} {id T:String} {r:Hw->Hp->VK->Prop}
abbrev tCB_1 (r:Hw->Hp->VK->Prop) (Q:VK):Hw->Hp->Prop:=fun vs H1=>r vs H1 Q
def tCB (r:Hw->Hp->VK->Prop) (t:TA):TE:=fun σ H Q=>t σ H (tCB_1 r Q)
def bE (hc:fH X (.builtin id) r) (hg:Gl X x) (hm:X.mg x=none) (hv:bootBuiltins x=some (.builtin id)) (ha:PA X (e::es) t) (hn:x ≠ "__name__":=by decide) (hdb:(x == ("__debug__" : Str))=false:=by decide)
  (he:starEach (e::es) X.env=(false,eval e X.env)::starEach es X.env:=by rfl) (hpl:(backTo pos (starEach es X.env)).any (·.1)=false:=by rfl):PE X (.Call (.Name x p) (e::es) [] pos) (tCB r t):=by
 intro pins s σ H Q I h
 refine wpAny_Call_Name_kw (jN I hg hm hv ?_ hn hdb)
 exact PyProof.Rows.callWith_builtin1 (thn (ha pos pins s σ H _ I h) fun us s1 ⟨vs,H1,I1,r1,q1⟩=>hc pins s1 σ H1 vs us Q I1 r1 q1) he hpl
def gT (hc:fH X (.type T) r) (hg:Gl X x) (hm:X.mg x=none) (hv:bootBuiltins x=some (.type T)) (ha:PA X (e::es) t) (hn:x ≠ "__name__":=by decide) (hdb:(x == ("__debug__" : Str))=false:=by decide)
  (he:starEach (e::es) X.env=(false,eval e X.env)::starEach es X.env:=by rfl) (hpl:(backTo pos (starEach es X.env)).any (·.1)=false:=by rfl):PE X (.Call (.Name x p) (e::es) [] pos) (tCB r t):=by
 intro pins s σ H Q I h
 refine wpAny_Call_Name_kw (jN I hg hm hv ?_ hn hdb)
 exact PyProof.Rows.callWith_type1 (thn (ha pos pins s σ H _ I h) fun us s1 ⟨vs,H1,I1,r1,q1⟩=>hc pins s1 σ H1 vs us Q I1 r1 q1) he hpl
end
end L2
namespace HT
open PySem PyProof.Rows
section
open PySem.SeqAt
open PySem.AutoSeq1 (wpAny_loadPart')
open PySem.MeetsSeq PySem.MeetsSeq2 PySem.MeetsSeq3
end
section
variable {prog:Program} {w:World} {A:Around} {E:Ht} {s:Shared}
def Fu (ht:IsTup s.heap t vs.toArray) (hb:IsTup s.heap b ws.toArray) (hv:vs≠[])
  (h1:ws=[]->Q (.ref t) s) (h2:ws≠[]->Q (.ref s.heap.objs.size) { s with heap:=s.heap.push { cls:=.type "tuple",data:=.seq (vs++ws).toArray } })
  (hsz:vs.length+ws.length<=sizeLine):wpAny (model prog w) A (binaryOp .Add (.ref t) (.ref b)) Q E s:=by
 obtain⟨⟨cls,dd,data,sl⟩,ho,hc,n,hd⟩:=id ht
 obtain⟨⟨cls2,dd2,data2,sl2⟩,ho2,hc2,n2,hd2⟩:=id hb
 simp only at hc hd hc2 hd2
 subst hc hd hc2 hd2
 have e:vs.toArray++ws.toArray=(vs++ws).toArray:=by simp
 by_cases hw:ws=[]
 ·exact concat_meets ⟨_,ho,rfl⟩ ⟨_,ho2,rfl⟩ noFill_tuple_add seq_tuple_add PySem.F.slot_tuple_add PySem.F.entry_tuple_add (PySem.F.args_tuple_add_2 _ _)
   (tuple_addW1 t b vs.toArray ws.toArray n n2 dd dd2 sl sl2 (by simpa using hv) (by simp [hw])) ⟨ho,ho2,h1 hw⟩
 ·refine concat_meets ⟨_,ho,rfl⟩ ⟨_,ho2,rfl⟩ noFill_tuple_add seq_tuple_add PySem.F.slot_tuple_add PySem.F.entry_tuple_add (PySem.F.args_tuple_add_2 _ _)
   (tuple_addW2 t b vs.toArray ws.toArray n n2 dd dd2 sl sl2 (by simpa using hv) (by simpa using hw) (by rw[size_toArray,size_toArray]; exact hsz)) ⟨ho,ho2,?_⟩
  rw[e]
  exact h2 hw
def sIx (n d:Nat):Option Int->Nat
 | none=>d
 | some v=>if v<0 then (v+(n:Int)).toNat else min v.toNat n
def mS (n d:Nat):sIx n d none=d:=rfl
def iD (n d k:Nat):sIx n d (some (k:Int))=min k n:=by
 show (if (k:Int)<0 then ((k:Int)+(n:Int)).toNat else min (k:Int).toNat n)=min k n
 rw[if_neg (by omega),Int.toNat_natCast]
def Gn (n d:Nat) (hd:d<=n) (o:Option Int):sIx n d o<=n:=by
 cases o with
 | none=>exact hd
 | some v=>
  show (if v<0 then (v+(n:Int)).toNat else min v.toNat n)<=n
  by_cases hv:v<0
  ·rw[if_pos hv]; omega
  ·rw[if_neg hv]; exact Nat.min_le_right _ _
def BO (v:Int) (n d:Nat):(if v<0 then max (v+(n:Int)) 0 else min v (n:Int))=((sIx n d (some v):Nat):Int):=by
 show (if v<0 then max (v+(n:Int)) 0 else min v (n:Int))=(((if v<0 then (v+(n:Int)).toNat else min v.toNat n):Nat):Int)
 by_cases hv:v<0
 ·simp only[if_pos hv]; omega
 ·simp only[if_neg hv]; omega
def AV (lo hi:Option Int) (n:Nat):Builtin.Slice.sliceAdjust lo hi 1 (n:Int)=(((sIx n 0 lo:Nat):Int),((sIx n n hi:Nat):Int)):=by
 have h1:¬ ((1:Int)<0):=by omega
 unfold Builtin.Slice.sliceAdjust
 simp only[h1,if_false]
 refine Prod.ext ?_ ?_
 ·cases lo with
  | none=>rfl
  | some v=>exact BO v n 0
 ·cases hi with
  | none=>rfl
  | some v=>exact BO v n n
def zR (i j:Nat):Builtin.Slice.slicePlaces (i:Int) (j:Int) 1=j - i:=by
 unfold Builtin.Slice.slicePlaces
 have h1:(1:Int) > 0:=by omega
 simp only[h1,if_true,Int.ediv_one]
 split <;> omega
def qD (p:IsPart v o) (h:Q o s):wpAny (model prog w) A (Builtin.Slice.slicePartIndex v) Q E s:=by
 cases p with
 | none=>exact slicePart_none h
 | int i t=>exact slicePart_int h
def iX {sl:Addr} {vl vu:Value} {lo hi:Option Int} {n:Nat} {Q:Int × Int × Nat->Shared->Prop} (hs:s.heap.IsSliceOf sl vl vu .none) (pl:IsPart vl lo) (pu:IsPart vu hi)
  (h:Q (((sIx n 0 lo:Nat):Int),1,sIx n n hi - sIx n 0 lo) s):wpAny (model prog w) A (Builtin.Slice.sliceApplied (.ref sl) (pure (n:Int))) Q E s:=by
 obtain⟨os,hos,hcs,hds⟩:=id hs
 unfold Builtin.Slice.sliceApplied Builtin.Slice.sliceFields
 refine wpAny_bind (wpAny_bind (wpAny_field hos hds (x:=vl) rfl (wpAny_bind (wpAny_field hos hds (x:=vu) rfl (wpAny_bind (wpAny_field hos hds (x:=.none) rfl (wpAny_pure ?_)))))))
 refine wpAny_bind (slicePart_none ?_)
 show wpAny _ _ (if ((1:Int) == 0)=true then _ else _) _ _ s
 rw[if_neg (by decide)]
 refine wpAny_bind (qD pl (wpAny_bind (qD pu (wpAny_bind (wpAny_pure ?_)))))
 show wpAny _ _ (match Builtin.Slice.sliceAdjust lo hi 1 (n:Int) with | (lo,hi)=>pure (lo,(1:Int),Builtin.Slice.slicePlaces lo hi 1)) _ _ s
 rw[AV lo hi n]
 show wpAny _ _ (pure (((sIx n 0 lo:Nat):Int),(1:Int),Builtin.Slice.slicePlaces ((sIx n 0 lo:Nat):Int) ((sIx n n hi:Nat):Int) 1)) _ _ s
 rw[zR]
 exact wpAny_pure h
def DP (xs:Array Value) (i k:Nat):((List.range k).filterMap fun(m:Nat)=>xs[((i:Int)+(m:Int) * 1).toNat]?).toArray=((xs.toList.drop i).take k).toArray:=by
 have e:(fun(m:Nat)=>xs[((i:Int)+(m:Int) * 1).toNat]?)=fun m=>xs[i+m]?:=by
  funext m
  have:((i:Int)+(m:Int) * 1).toNat=i+m:=by omega
  rw[this]
 rw[e]
 have:=pick_run xs i k
 rw[List.filterMap_map]at this
 have e2:((fun x=>xs[x]?) ∘ fun x=>i+x)=fun m=>xs[i+m]?:=rfl
 rw[e2]at this
 rw[this]
def m4 {t sl:Addr} {items:Array Value} {vl vu:Value} {lo hi:Option Int} {Q:Ht} (ht:IsTup s.heap t items) (hs:s.heap.IsSliceOf sl vl vu .none) (pl:IsPart vl lo) (pu:IsPart vu hi)
  (hw:¬ (sIx items.size 0 lo=0/\sIx items.size items.size hi=items.size))
  (h:Q (.ref s.heap.objs.size) { s with heap:=s.heap.push { cls:=.type "tuple",data:=.seq ((items.toList.drop (sIx items.size 0 lo)).take (sIx items.size items.size hi - sIx items.size 0 lo)).toArray } })
  (hsz:items.size<=sizeLine):wpAny (model prog w) A (getItem (.ref t) (.ref sl)) Q E s:=by
 have htake:sizeOk (.seq ((items.toList.drop (sIx items.size 0 lo)).take (sIx items.size items.size hi - sIx items.size 0 lo)).toArray):=by
  show ((items.toList.drop (sIx items.size 0 lo)).take (sIx items.size items.size hi - sIx items.size 0 lo)).toArray.size<=sizeLine
  rw[size_toArray,length_take,length_drop,length_toList]
  omega
 have hj:sIx items.size items.size hi<=items.size:=Gn _ _ (le_refl _) hi
 obtain⟨os,hos,hcs,hds⟩:=id hs
 have hTs:s.TypeIs (.ref sl) "slice":=⟨os,hos,hcs⟩
 unfold getItem
 try with_reducible refine wpAny_holding ?_
 first | refine wpAny_bind (wpAny_pure ?_) | skip
 refine wpAny_bind (wpAny_sequenceKey ht.typeIs (by decide) ?_)
 refine wpAny_bind (wpAny_callSpecial?_slot (name:=Str.ofString "__getitem__") ht.typeIs PyProof.Rows.slot_tuple_getitem
  (wpAny_call_entry PyProof.Rows.slot_tuple_getitem ht.typeIs entry_tuple_getitem ?_ (args_tuple_getitem _ _)))
 show wpAny _ _ (Builtin.Tuple.tupleItemsOf (.ref t) >>= _) _ _ s
 refine wpAny_bind (tupleItemsOf_ ht ?_)
 refine wpAny_bind (wpAny_typeOf hTs ?_)
 rw[if_pos (by decide)]
 refine wpAny_bind (iX hs pl pu ?_)
 have hno:¬ ((((sIx items.size 0 lo:Nat):Int) == 0 && (1:Int) == 1 && (sIx items.size items.size hi - sIx items.size 0 lo) == items.size)=true):=by
  intro q
  rw[and_eq_true,and_eq_true]at q
  have q1:((sIx items.size 0 lo:Nat):Int)=0:=eq_of_beq q.1.1
  have q2:sIx items.size items.size hi - sIx items.size 0 lo=items.size:=eq_of_beq q.2
  exact hw ⟨by omega,by omega⟩
 show wpAny _ _ (if (((sIx items.size 0 lo:Nat):Int) == 0 && (1:Int) == 1 && (sIx items.size items.size hi - sIx items.size 0 lo) == items.size)=true then _ else _) _ _ s
 rw[if_neg hno,DP]
 first
  | exact wpAny_bind (m:=Builtin.Tuple.tupleExact _) (wpAny_newObj_type (wpAny_pure ⟨_,rfl,wpAny_pure h⟩) htake)
  | exact wpAny_bind (m:=Builtin.Tuple.tupleExact _) (wpAny_newObj_type (wpAny_bind (wpAny_pure (wpAny_pure ⟨_,rfl,wpAny_pure h⟩))) htake)
  | exact wpAny_bind (wpAny_bind (m:=Builtin.Tuple.tupleExact _) (wpAny_newObj_type (wpAny_pure (wpAny_pure ⟨_,rfl,wpAny_pure h⟩)) htake))
  | exact wpAny_bind (wpAny_bind (m:=Builtin.Tuple.tupleExact _) (wpAny_newObj_type (wpAny_pure ⟨_,rfl,wpAny_pure h⟩) htake))
end
end HT
namespace L2
open PySem PySem.Spec PyProof.Rows
abbrev TO:=St->Hp->(Option Int->Hp->Prop)->Prop
def PO (X:Cx) (e:Option Expr) (t:TO):Prop:=
 ∀ pins s σ H (Q:Option Int->Hp->Prop),Inv X pins σ H s->t σ H Q->
  wpAny (model X.prog X.w) X.A (evalPart e X.env) (fun u s'=>∃ o H',Inv X pins σ H' s'/\IsPart u o/\Q o H') X.xe s
def uX:TO:=fun _ H Q=>Q none H
inductive Cs (Q:(Option Int->Hp->Prop)) (x:V) (H1:Hp):Prop
 | mk:∀ i,x = .int i->Q (some i) H1->Cs Q x H1
def F3 (t:TE):TO:=fun σ H Q=>t σ H (Cs Q)
section
variable {X:Cx} {e:Expr} {te:TE} {lo hi:Option Expr} {tl th:TO} {pos p2:Pos}
def iE:PO X none uX:=by
 intro pins s σ H Q I h
 rw[evalPart_none]
 exact wpAny_pure ⟨none,H,I,.none,h⟩
def fU (h:PE X e te):PO X (some e) (F3 te):=by
 intro pins s σ H Q I hw
 rw[evalPart_some]
 refine thn (h pins s σ H _ I hw) fun u s1 zQq=>?_
 obtain⟨x,H1,I1,r1,q1⟩:=zQq
 obtain⟨i,rfl,q⟩:=q1
 obtain⟨t,rfl⟩:=r1
 exact⟨some i,H1,I1,.int i t,q⟩
def SlR (X:Cx) (r:V->Option Int->Option Int->Hp->VK->Prop):Prop:=
 ∀ pins s σ H (x:V) (v vl vu:Value) (lo hi:Option Int) (sl:Addr) (Q:VK),Inv X pins σ H s->bY x v->s.heap.IsSliceOf sl vl vu .none->IsPart vl lo->IsPart vu hi->r x lo hi H Q->
  ∃ T id,typeLookup (.type T) "__getitem__" = pure (some (.builtin id))/\s.TypeIs v T/\wpAny (model X.prog X.w) X.A (getItem v (.ref sl)) (EP X pins σ Q) X.xe s
abbrev tSl_3 (r:V->Option Int->Option Int->Hp->VK->Prop) (Q:VK) (x:V) (l:Option Int):Option Int->Hp->Prop:=fun u H3=>r x l u H3 Q
abbrev tSl_2 (r:V->Option Int->Option Int->Hp->VK->Prop) (th:TO) (σ : St) (Q:VK) (x:V):Option Int->Hp->Prop:=fun l H2=>th σ H2 (tSl_3 r Q x l)
abbrev tSl_1 (r:V->Option Int->Option Int->Hp->VK->Prop) (tl:TO) (th:TO) (σ : St) (Q:VK):V->Hp->Prop:=fun x H1=>tl σ H1 (tSl_2 r th σ Q x)
def tSl (r:V->Option Int->Option Int->Hp->VK->Prop) (te:TE) (tl th:TO):TE:=fun σ H Q=>te σ H (tSl_1 r tl th σ Q)
def fA {r:V->Option Int->Option Int->Hp->VK->Prop} (hr:SlR X r) (he:PE X e te) (hl:PO X lo tl) (hu:PO X hi th):PE X (.Subscript e (.Slice lo hi none p2) pos) (tSl r te tl th):=by
 intro pins s σ H Q I h
 refine Subscript_ (thn (he pins s σ H _ I h) fun v s1 zQq=>?_)
 obtain⟨x,H1,I1,r1,q1⟩:=zQq
 refine wpAny_Slice (thn (hl pins s1 σ H1 _ I1 q1) fun vl s2 ⟨l,H2,I2,pl,q2⟩=>thn (hu pins s2 σ H2 _ I2 q2) fun vu s3 zQq=>?_)
 obtain⟨u,H3,I3,pu,q3⟩:=zQq
 rw[evalPart_none]
 refine wpAny_pure ?_
 have I4:Inv X pins σ H3 { s3 with heap:=s3.heap.push { cls:=.type "slice",data:=.fields #[vl,vu,.none] } }:=I3.kept (t':=s3.toks) fun b ob q=>get?_push_of_some _ q
 obtain⟨T,id,hT,ht,hg⟩:=hr pins { s3 with heap:=s3.heap.push { cls:=.type "slice",data:=.fields #[vl,vu,.none] } } σ H3 x v vl vu l u s3.heap.objs.size Q I4 r1 (Heap.IsSliceOf.new ..) pl pu q3
 show wpAny (model X.prog X.w) X.A (subscriptTail e (.Slice lo hi none p2) v (.ref s3.heap.objs.size)) (EP X pins σ Q) X.xe { s3 with heap:=s3.heap.push { cls:=.type "slice",data:=.fields #[vl,vu,.none] } }
 exact tail_any (ops:=[.ref s3.heap.objs.size,v]) ht hT hg (by with_unfolding_all rfl)
def fN (xs:Hw) (lo hi:Option Int):Hw:=(xs.drop (HT.sIx xs.length 0 lo)).take (HT.sIx xs.length xs.length hi - HT.sIx xs.length 0 lo)
def o6 (xs:Hw) (lo hi:Option Int):(fN xs lo hi).length<=xs.length:=by
 unfold fN
 rw[length_take,length_drop]
 omega
inductive rSlT (K:Hh) (x:V) (lo:Option Int) (hi:Option Int) (H:Hp) (Q:VK):Prop
 | mk:∀ a xs,x = .ref a->SqT K H a xs->(¬ (HT.sIx xs.length 0 lo=0/\HT.sIx xs.length xs.length hi=xs.length))->(∀ p,H p=none->Q (.ref p) (upd H p (.tup (fN xs lo hi))))->rSlT K x lo hi H Q
def Gi:SlR X (rSlT X.K):=by
 intro pins s σ H x v vl vu lo hi sl Q I rx hs pl pu h
 obtain⟨a,xs,rfl,hx,hw,q⟩:=h
 cases rx
 obtain⟨its,r,ht,hz⟩:=I.tuple hx
 have hlen:its.toArray.size=xs.length:=by rw[size_toArray]; exact r.length.symm
 refine⟨"tuple",_,PyProof.Rows.slot_tuple_getitem.lookup,ht.typeIs,?_⟩
 refine HT.m4 ht hs pl pu (by rw[hlen]; exact hw) ?_ (by rw[hlen]; exact hz)
 rw[hlen]
 refine⟨.ref s.heap.objs.size,_,I.laid (t':=s.toks) (o:=.tup (fN xs lo hi)) (fun b ob q=>get?_push_of_some _ q) (le_refl _) ?_,rfl,q _ (I.hok.fresh (le_refl _))⟩
 exact⟨le_trans (o6 xs lo hi) hz,_,(r.drop (HT.sIx xs.length 0 lo)).take (HT.sIx xs.length xs.length hi - HT.sIx xs.length 0 lo),IsTup.new _ _⟩
inductive GG (K:Hh) (x:V) (y:V) (H:Hp) (Q:VK):Prop
 | mk:∀ a b xs ys,x = .ref a->y = .ref b->SqT K H a xs->SqT K H b ys->xs≠[]->xs.length+ys.length<=sizeLine->(ys=[]->Q (.ref a) H)->(ys≠[]->∀ p,H p=none->Q (.ref p) (upd H p (.tup (xs++ys))))->GG K x y H Q
def bR.nil_iff (r:bR xs us):us=[] ↔ xs=[]:=by
 cases r with
 | nil=>simp
 | cons _ _=>simp
def FT:OpR X (binaryOp .Add) (GG X.K):=by
 intro pins s σ H x y v u Q I rx ry h
 obtain⟨a,b,xs,ys,rfl,rfl,ha,hb,hx,hz,q1,q2⟩:=h
 cases rx
 cases ry
 obtain⟨its,r1,p1,_⟩:=I.tuple ha
 obtain⟨its2,r2,p2,_⟩:=I.tuple hb
 refine HT.Fu p1 p2 (fun z=>hx (r1.nil_iff.mp z)) (fun z=>⟨.ref a,H,I,rfl,q1 (r2.nil_iff.mp z)⟩) (fun z=>?_) (by rw[<- r1.length,<- r2.length]; exact hz)
 refine⟨.ref s.heap.objs.size,_,I.laid (t':=s.toks) (o:=.tup (xs++ys)) (fun b ob q=>get?_push_of_some _ q) (le_refl _) ?_,rfl,q2 (fun w=>z (r2.nil_iff.mpr w)) _ (I.hok.fresh (le_refl _))⟩
 exact⟨by rw[length_append]; exact hz,_,r1.append r2,IsTup.new _ _⟩
end
def ixN (n:Nat) (i:Int):Option Nat:=if 0<=i then (if i<n then some i.toNat else none) else if -(n:Int)<=i then some (i+n).toNat else none
def atI {α : Type} (xs:List α) (i:Int):Option α:=(ixN xs.length i).bind fun j=>xs[j]?
def Fk (h:ixN n i=some j):seqIndex? i n=some j/\j<n/\-(n:Int)<=i/\i<n:=by
 unfold ixN at h
 by_cases h0:0<=i
 ·rw[if_pos h0]at h
  by_cases h1:i<n
  ·rw[if_pos h1]at h
   have e:i.toNat=j:=Option.some.inj h
   exact⟨by rw[seqIndex_of h0 h1,e],by omega,by omega,h1⟩
  ·rw[if_neg h1]at h; cases h
 ·rw[if_neg h0]at h
  by_cases h1:-(n:Int)<=i
  ·rw[if_pos h1]at h
   have e:(i+n).toNat=j:=Option.some.inj h
   exact⟨by rw[seqIndex_neg (by omega) h1,e],by omega,h1,by omega⟩
  ·rw[if_neg h1]at h; cases h
def BP {α : Type} {xs:List α} {i:Int} {v:α} (h:atI xs i=some v):∃ j,seqIndex? i xs.length=some j/\xs[j]? = some v/\j<xs.length/\-(xs.length:Int)<=i/\i<xs.length:=by
 unfold atI at h
 cases e:ixN xs.length i with
 | none=>rw[e]at h; cases h
 | some j=>
  rw[e]at h
  obtain⟨h1,h2,h3,h4⟩:=Fk e
  exact⟨j,h1,h,h2,h3,h4⟩
def bQ {α : Type} {xs:List α} {j:Nat} {v:α} (h:xs[j]? = some v):atI xs (j:Int)=some v:=by
 have hj:j<xs.length:=(List.getElem?_eq_some_iff.mp h).1
 have e:ixN xs.length (j:Int)=some j:=by
  unfold ixN
  rw[if_pos (by omega),if_pos (by omega)]; simp
 unfold atI; rw[e]; exact h
def yY {α : Type} (xs:List α) (v:α):atI (xs++[v]) (-1)=some v:=by
 have hl:(xs++[v]).length=xs.length+1:=by simp
 have e:ixN (xs++[v]).length (-1)=some xs.length:=by
  unfold ixN
  rw[hl,if_neg (by decide),if_pos (by omega)]
  congr 1
  omega
 unfold atI
 rw[e]
 show (xs++[v])[xs.length]? = some v
 simp
def F1 (b:Expr):Prop:=∀ o i,subscripted b false o i=operate [o,i] (getItem o i)
def IxR (X:Cx) (r:R2):Prop:=
 ∀ (value slice:Expr) (pins:Hi) (s:Shared) (σ : St) (H:Hp) (x y:V) (v u:Value) (Q:VK),Inv X pins σ H s->bY x v->bY y u->r x y H Q->
  subscripted slice false v u=operate [v,u] (getItem v u)->wpAny (model X.prog X.w) X.A (subscriptTail value slice v u) (EP X pins σ Q) X.xe s
def MtR (X:Cx) (id:String) (r:V->Hw->Hp->VK->Prop):Prop:=
 ∀ pins s σ H (x:V) (xs:Hw) (v:Value) (us:Hq) (Q:VK),Inv X pins σ H s->bY x v->bR xs us->r x xs H Q->
  wpAny (model X.prog X.w) X.A (call (.builtin id) (v::us)) (EP X pins σ Q) X.xe s
section
variable {X:Cx} {a b:Expr} {ta tb:TE} {pos:Pos}
def dO {r:R2} (hr:IxR X r) (ha:PE X a ta) (hb:PE X b tb) (hs:F1 b):PE X (.Subscript a b pos) (tOp r ta tb):=by
 intro pins s σ H Q I h
 exact Subscript_ (Ha ha hb I h fun v u s2 x y H2 I2 rx ry q=>hr a b pins s2 σ H2 x y v u Q I2 rx ry q (hs _ _))
inductive FG (K:Hh) (x:V) (y:V) (H:Hp) (Q:VK):Prop
 | mk:∀ p xs i v,x = .ref p->y = .int i->SqL K H p xs->atI xs i=some v->Q v H->FG K x y H Q
inductive FF (K:Hh) (x:V) (y:V) (H:Hp) (Q:VK):Prop
 | mk:∀ p xs i v,x = .ref p->y = .int i->SqT K H p xs->atI xs i=some v->Q v H->FF K x y H Q
def Fj:IxR X (FG X.K):=by
 intro value slice pins s σ H x y v u Q I rx ry h hs
 obtain⟨p,xs,i,z,rfl,rfl,hq,he,q⟩:=h
 cases rx
 obtain⟨t,rfl⟩:=ry
 obtain⟨its,r,pl,hz⟩:=I.list hq
 obtain⟨j,h1,h2,h3,h4,h5⟩:=BP he
 obtain⟨w,ew,rw'⟩:=r.get h2
 have hl:=r.length
 have hn:=rG
 have fin:EP X pins σ Q w s:=⟨z,H,I,rw',q⟩
 by_cases h0:0<=i
 ·have hj:i.toNat=j:=by
   rw[seqIndex_of h0 h5]at h1
   exact Option.some.inj h1
  exact item_listR pl.isList h0 (by omega) (by rw[hj]; simpa using ew) fin hs
 ·have hj:(i+(its.toArray.size:Int)).toNat=j:=by
   rw[seqIndex_neg (by omega) h4]at h1
   rw[size_toArray,<- hl]
   exact Option.some.inj h1
  exact subscriptTail_builtinR (x:=w) pl.isList.typeIs slot_list_getitem.lookup
   (wpAny_getItem_list_neg (Q:=fun r s'=>r=w/\EP X pins σ Q r s') pl.isList (by omega) (by rw[size_toArray] <;> omega) (by omega) (by rw[hj]; simpa using ew) ⟨rfl,fin⟩) hs
def HM:IxR X (FF X.K):=by
 intro value slice pins s σ H x y v u Q I rx ry h hs
 obtain⟨p,xs,i,z,rfl,rfl,hq,he,q⟩:=h
 cases rx
 obtain⟨t,rfl⟩:=ry
 obtain⟨its,r,pl,hz⟩:=I.tuple hq
 obtain⟨j,h1,h2,h3,h4,h5⟩:=BP he
 obtain⟨w,ew,rw'⟩:=r.get h2
 have hl:=r.length
 have hn:=rG
 have fin:EP X pins σ Q w s:=⟨z,H,I,rw',q⟩
 exact subscriptTail_builtinR (x:=w) pl.typeIs slot_tuple_getitem.lookup
  (getItem_tuple (j:=j) (Q:=fun r s'=>r=w/\EP X pins σ Q r s') pl (by omega) (by omega) (by rw[size_toArray,<- hl]; exact h1) (by simpa using ew) ⟨rfl,fin⟩) hs
def vD (lo hi:Option Int) (n:Nat):(sliceBounds lo hi none n).1=((HT.sIx n 0 lo:Nat):Int)/\(sliceBounds lo hi none n).2.1=((HT.sIx n n hi:Nat):Int)/\(sliceBounds lo hi none n).2.2=1:=by
 refine⟨?_,?_,rfl⟩
 ·cases lo with
  | none=>simp [sliceBounds,HT.sIx]
  | some i=>
   simp only[sliceBounds,HT.sIx,Option.getD_none,show (1:Int) > 0 by decide,if_true]
   by_cases h:i<0
   ·simp only[h,if_true] <;> omega
   ·simp only[h,if_false] <;> omega
 ·cases hi with
  | none=>simp [sliceBounds,HT.sIx]
  | some i=>
   simp only[sliceBounds,HT.sIx,Option.getD_none,show (1:Int) > 0 by decide,if_true]
   by_cases h:i<0
   ·simp only[h,if_true] <;> omega
   ·simp only[h,if_false] <;> omega
def sC (its:Hq) (lo hi:Option Int):slicePick its.toArray lo hi none=((its.drop (HT.sIx its.length 0 lo)).take (HT.sIx its.length its.length hi - HT.sIx its.length 0 lo)).toArray:=by
 obtain⟨h1,h2,h3⟩:=vD lo hi its.toArray.size
 unfold slicePick
 rw[h1,h2,h3]
 simp only[sliceRange_one,pick_run,size_toArray] <;> rfl
inductive FD (K:Hh) (x:V) (lo:Option Int) (hi:Option Int) (H:Hp) (Q:VK):Prop
 | mk:∀ a xs,x = .ref a->SqL K H a xs->(∀ p,H p=none->Q (.ref p) (upd H p (.lst (fN xs lo hi))))->FD K x lo hi H Q
def E3:SlR X (FD X.K):=by
 intro pins s σ H x v vl vu lo hi sl Q I rx hs pl pu h
 obtain⟨a,xs,rfl,hx,q⟩:=h
 cases rx
 obtain⟨its,r,ht,hz⟩:=I.list hx
 have hlen:=r.length
 refine⟨"list",_,slot_list_getitem.lookup,ht.isList.typeIs,?_⟩
 refine wpAny_getItem_list_slice ht.isList hs pl pu .none (by simp) ?_ (by rw[size_toArray] <;> omega)
 rw[sC,<- hlen]
 refine⟨.ref s.heap.objs.size,_,I.laid (t':=s.toks) (o:=.lst (fN xs lo hi)) (fun b ob q=>get?_push_of_some _ q) (le_refl _) ?_,rfl,q _ (I.hok.fresh (le_refl _))⟩
 exact⟨le_trans (o6 xs lo hi) hz,_,0,(r.drop (HT.sIx xs.length 0 lo)).take (HT.sIx xs.length xs.length hi - HT.sIx xs.length 0 lo),get?_push_size _ rfl⟩
def m5:V->Bool
 | .non=>true
 | .bl _=>true
 | .int _=>true
 | .str _=>true
 | _=>false
def eqV:V->V->Bool
 | .non,.non=>true
 | .bl a,.bl b=>a == b
 | .bl a,.int b=>(if a then 1 else 0) == b
 | .int a,.bl b=>a == (if b then 1 else 0)
 | .int a,.int b=>a == b
 | .str a,.str b=>a == b
 | _,_=>false
def HV (ry:bY y u) (rx:bY x v) (fy:m5 y=true) (fx:m5 x=true):SeqAt.EqAt A s u v (eqV y x):=by
 cases y with
 | non=>
  cases ry
  cases x with
  | non=>cases rx; exact SeqAt.EqAt.same _
  | bl b=>cases rx; exact SeqAt.EqAt.none_bool b
  | int b=>obtain⟨t,rfl⟩:=rx; exact SeqAt.EqAt.none_int b t
  | str b=>obtain⟨t,rfl⟩:=rx; exact SeqAt.EqAt.none_str b t
  | _=>exact absurd (show false=true from fx) Bool.false_ne_true
 | bl a=>
  cases ry
  cases x with
  | non=>cases rx; exact SeqAt.EqAt.bool_none a
  | bl b=>cases rx; exact SeqAt.EqAt.bool_bool a b
  | int b=>obtain⟨t,rfl⟩:=rx; exact SeqAt.EqAt.bool_int a b t
  | str b=>obtain⟨t,rfl⟩:=rx; exact SeqAt.EqAt.bool_str a b t
  | _=>exact absurd (show false=true from fx) Bool.false_ne_true
 | int a=>
  obtain⟨t',rfl⟩:=ry
  cases x with
  | non=>cases rx; exact SeqAt.EqAt.int_none a t'
  | bl b=>cases rx; exact SeqAt.EqAt.int_bool a t' b
  | int b=>obtain⟨t,rfl⟩:=rx; exact SeqAt.EqAt.int_int a t' b t
  | str b=>obtain⟨t,rfl⟩:=rx; exact SeqAt.EqAt.int_str a t' b t
  | _=>exact absurd (show false=true from fx) Bool.false_ne_true
 | str a=>
  obtain⟨t',rfl⟩:=ry
  cases x with
  | non=>cases rx; exact SeqAt.EqAt.str_none a t'
  | bl b=>cases rx; exact SeqAt.EqAt.str_bool a t' b
  | int b=>obtain⟨t,rfl⟩:=rx; exact SeqAt.EqAt.str_int a t' b t
  | str b=>obtain⟨t,rfl⟩:=rx; exact SeqAt.EqAt.str_str a t' b t
  | _=>exact absurd (show false=true from fx) Bool.false_ne_true
 | _=>exact absurd (show false=true from fy) Bool.false_ne_true
def eqU (x:V) (u:Value):Bool:=match u with
 | .none=>eqV .non x
 | .bool b=>eqV (.bl b) x
 | .int i _=>eqV (.int i) x
 | .str z _=>eqV (.str z) x
 | _=>false
def ES (r:bY y u) (f:m5 y=true):eqU x u=eqV y x:=by
 cases y with
 | non=>cases r; rfl
 | bl b=>cases r; rfl
 | int i=>obtain⟨t,rfl⟩:=r; rfl
 | str z=>obtain⟨t,rfl⟩:=r; rfl
 | _=>exact absurd (show false=true from f) Bool.false_ne_true
def wK:∀ {xs:Hw} {us:Hq},bR xs us->xs.all m5=true->us.any (eqU x)=xs.any fun y=>eqV y x
 | _,_,.nil,_=>rfl
 | y::xs,u::us,.cons r t,f=>by
  rw[all_cons,and_eq_true]at f
  rw[any_cons,any_cons,ES r f.1,wK t f.2]
def rE (rx:bY x v) (fx:m5 x=true):∀ {xs:Hw} {us:Hq},bR xs us->xs.all m5=true->∀ u∈us,SeqAt.EqAt A s u v (eqU x u)
 | _,_,.nil,_=>fun u hu=>by cases hu
 | y::xs,u::us,.cons r t,f=>fun u' hu=>by
  rw[all_cons,and_eq_true]at f
  rcases mem_cons.mp hu with rfl | hu
  ·rw[ES r f.1]; exact HV r rx f.1 fx
  ·exact rE rx fx t f.2 u' hu
def inV (x:V) (xs:Hw):Bool:=xs.any fun y=>eqV y x
inductive rIn (K:Hh) (neg:Bool) (x:V) (y:V) (H:Hp) (Q:VK):Prop
 | mk:∀ p xs,y = .ref p->(SqL K H p xs\/SqT K H p xs)->m5 x=true->xs.all m5=true->Q (.bl (if neg then !inV x xs else inV x xs)) H->rIn K neg x y H Q
def vL:OpR X (compareOp .NotIn) (rIn X.K true):=by
 intro pins s σ H x y v u Q I rx ry h
 obtain⟨p,xs,rfl,hq,fx,fs,q⟩:=h
 cases ry
 rcases hq with hq | hq
 ·obtain⟨its,r,pl,hz⟩:=I.list hq
  refine SeqAt.notIn_listAt (eqU x) pl.isList (fun w hw=>rE rx fx r fs w (by simpa using hw)) ⟨.bl _,H,I,rfl,?_⟩
  rw[show its.toArray.any (eqU x)=its.any (eqU x) by simp,wK r fs]
  exact q
 ·obtain⟨its,r,pl,hz⟩:=I.tuple hq
  refine SeqAt.notIn_tupleAt (eqU x) pl (fun w hw=>rE rx fx r fs w (by simpa using hw)) ⟨.bl _,H,I,rfl,?_⟩
  rw[show its.toArray.any (eqU x)=its.any (eqU x) by simp,wK r fs]
  exact q
def wG:fH X (.builtin "len") (fun xs H Q=>∃ p ys,xs=[.ref p]/\(SqL X.K H p ys\/SqT X.K H p ys)/\Q (.int ys.length) H):=by
 intro pins s σ H xs us Q I r h
 obtain⟨p,ys,rfl,hq,q⟩:=h
 obtain⟨u,rfl,rx⟩:=pO r
 cases rx
 have hn:=rG
 rcases hq with hq | hq
 ·obtain⟨its,r',pl,hz⟩:=I.list hq
  have hlen:=r'.length
  exact Calls.call_len_list pl.isList (by simp only[size_toArray] <;> omega) ⟨.int ys.length,H,I.tok _,⟨s.toks+1,by rw[size_toArray,hlen]⟩,q⟩
 ·obtain⟨its,r',pl,hz⟩:=I.tuple hq
  have hlen:=r'.length
  exact len_tuple pl (by simp only[size_toArray] <;> omega) ⟨.int ys.length,H,I.tok _,⟨s.toks+1,by rw[size_toArray,hlen]⟩,q⟩
def wF:fH X (.builtin "len") (fun xs H Q=>∃ z,xs=[.str z]/\z.length<=sizeLine/\Q (.int z.length) H):=by
 intro pins s σ H xs us Q I r h
 obtain⟨z,rfl,hz,q⟩:=h
 obtain⟨u,rfl,t,rfl⟩:=pO r
 have hn:=rG
 exact len_str (by omega) ⟨.int z.length,H,I.tok _,⟨_,rfl⟩,q⟩
def sO:fH X (.type "tuple") (fun xs H Q=>∃ p ys,xs=[.ref p]/\((SqL X.K H p ys/\∀ l,H l=none->Q (.ref l) (upd H l (.tup ys)))\/(SqT X.K H p ys/\Q (.ref p) H))):=by
 intro pins s σ H xs us Q I r h
 obtain⟨p,ys,rfl,h⟩:=h
 obtain⟨u,rfl,rx⟩:=pO r
 cases rx
 rcases h with ⟨hq,q⟩ | ⟨hq,q⟩
 ·obtain⟨its,r',pl,hz⟩:=I.list hq
  have hlen:=r'.length
  refine call_tuple_list pl.isList (fun h' kp=>?_) (by simp only[size_toArray] <;> omega)
  have I1:Inv X pins σ H { s with heap:=h' }:=I.kept (t':=s.toks) kp
  have I2:Inv X pins σ (upd H h'.objs.size (.tup ys)) { s with heap:=h'.push { cls:=.type "tuple",data:=.seq its.toArray } }:=
   I1.laid (t':=s.toks) (fun b o e=>get?_push_of_some _ e) (le_refl _) (show dD X.prog X.w _ _ _ (.tup ys) from ⟨hz,its,r',IsTup.new _ _⟩)
  exact⟨.ref h'.objs.size,_,I2,rfl,q _ (I1.hok.fresh (le_refl _))⟩
 ·obtain⟨its,r',pl,hz⟩:=I.tuple hq
  exact call_tuple_same pl ⟨.ref p,H,I,rfl,q⟩
def tyV (K:Hh) (T:String) (x:V) (H:Hp):Prop:=match x with
 | .str _=>T = "str"
 | .int _=>T = "int"
 | .ref p=>(T = "list"/\∃ xs,SqL K H p xs)\/(T = "tuple"/\∃ o,K.lookup p=some o/\o.cls = .type "tuple"/\o.dict=none)\/
   (T = "dict"/\((∃ kvs,H p=some (.dK kvs))\/∃ kvs,H p=some (.dT kvs)))\/(T = "set"/\∃ S n,H p=some (.set S n))
 | _=>False
def Cm (I:Inv X pins σ H s) (r:bY x v) (ty:tyV X.K T x H) :
  s.TypeIs v T/\∀ a,v = .ref a->∃ ob,s.heap.get? a=some ob/\ob.dict=none:=by
 cases x with
 | str z=>
  obtain⟨t,rfl⟩:=r
  cases (show T = "str" from ty)
  exact⟨typeIs_str s z t,fun _ e=>nomatch e⟩
 | int i=>
  obtain⟨t,rfl⟩:=r
  cases (show T = "int" from ty)
  exact⟨typeIs_int s i t,fun _ e=>nomatch e⟩
 | ref p=>
  cases r
  rcases ty with ⟨rfl,xs,hq⟩ | ⟨rfl,o,hk,hc,hd⟩ | ⟨rfl,hk⟩ | ⟨rfl,S,n,hk⟩
  ·obtain⟨its,_,pl,_⟩:=I.list hq
   refine⟨pl.isList.typeIs,fun a e=>?_⟩
   cases e
   obtain⟨o,n,e,c,hd,_⟩:=pl
   exact⟨o,e,hd⟩
  ·refine⟨⟨o,I.kIn p o hk,hc⟩,fun a e=>?_⟩
   cases e
   exact⟨o,I.kIn _ o hk,hd⟩
  ·have z:∃ o,s.heap.get? p=some o/\o.ExactDict:=by
    rcases hk with ⟨kvs,hk⟩ | ⟨kvs,hk⟩
    ·obtain⟨_,_,_,_,o,_,_,e,ex,_⟩:=I.hok p _ hk
     exact⟨o,e,ex⟩
    ·obtain⟨_,_,_,_,o,_,_,e,ex,_⟩:=I.hok p _ hk
     exact⟨o,e,ex⟩
   obtain⟨o,e,ex⟩:=z
   refine⟨⟨o,e,ex.1⟩,fun a e2=>?_⟩
   cases e2
   exact⟨o,e,ex.2.1⟩
  ·obtain⟨o,_,_,_,e,ex,_⟩:=I.hok p _ hk
   refine⟨⟨o,e,ex.1⟩,fun a e2=>?_⟩
   cases e2
   exact⟨o,e,ex.2.1⟩
 | _=>exact False.elim ty
abbrev Ge (K:Hh) (T:String) (r:V->Hw->Hp->VK->Prop) (Q:VK):V->Hp->Prop:=fun x H1=>tyV K T x H1/\r x [] H1 Q
def tBM0 (K:Hh) (T:String) (r:V->Hw->Hp->VK->Prop) (to:TE):TE:=fun σ H Q=>to σ H (Ge K T r Q)
abbrev tBM_2 (r:V->Hw->Hp->VK->Prop) (Q:VK) (x:V):Hw->Hp->Prop:=fun xs H2=>r x xs H2 Q
abbrev tBM_1 (K:Hh) (T:String) (r:V->Hw->Hp->VK->Prop) (t:TA) (σ : St) (Q:VK):V->Hp->Prop:=fun x H1=>tyV K T x H1/\t σ H1 (tBM_2 r Q x)
def tBM (K:Hh) (T:String) (r:V->Hw->Hp->VK->Prop) (to:TE) (t:TA):TE:=fun σ H Q=>to σ H (tBM_1 K T r t σ Q)
variable {o e:Expr} {es:List Expr} {to:TE} {t:TA} {name:Str} {apos cpos:Pos} {T id:String} {r:V->Hw->Hp->VK->Prop}
def G4 (pa:PlainAttrs T) (slot:Slot T name id) (hty:typeOf (.builtin id)=pure (.type "method_descriptor")) (hm:MtR X id r) (ho:PE X o to)
  (hbase:attributeBase o name X.env (eval o X.env)=eval o X.env:=by rfl) (hline:(apos.endLine == cpos.line)=true:=by rfl):PE X (.Call (.Attribute o name apos) [] [] cpos) (tBM0 X.K T r to):=by
 intro pins s σ H Q I h
 refine wpAny_Call_method0_late hbase hline (thn (ho pins s σ H _ I h) fun v s1 zQq=>?_)
 obtain⟨x,H1,I1,r1,ty,q1⟩:=zQq
 obtain⟨h1,h2⟩:=Cm I1 r1 ty
 exact⟨T,id,pa,slot,hty,h1,h2,Calls.callWith_builtin rfl (PySem.evalArgs_none (hm pins s1 σ H1 x [] v [] Q I1 r1 .nil q1))⟩
def pe_bm (pa:PlainAttrs T) (slot:Slot T name id) (hty:typeOf (.builtin id)=pure (.type "method_descriptor")) (hm:MtR X id r) (ho:PE X o to) (ha:PA X (e::es) t)
  (hbase:attributeBase o name X.env (eval o X.env)=eval o X.env:=by rfl)
  (hfew:((backTo cpos (starEach (e::es) X.env)).all (fun x=>!x.1) && (backToKw cpos (keywordEach [] X.env)).all (fun x=>x.1.isSome)
   && decide ((e::es).length+([]:List Keyword).length+(if ([]:List Keyword).isEmpty then 0 else 1)<30))=true:=by rfl)
  (hline:(apos.endLine == cpos.line)=true:=by rfl) (hs:starEach (e::es) X.env=(false,eval e X.env)::starEach es X.env:=by rfl) (hplain:(backTo cpos (starEach es X.env)).any (·.1)=false:=by rfl) :
  PE X (.Call (.Attribute o name apos) (e::es) [] cpos) (tBM X.K T r to t):=by
 intro pins s σ H Q I h
 refine wpAny_Call_method_late hbase hfew hline rfl (thn (ho pins s σ H _ I h) fun v s1 zQq=>?_)
 obtain⟨x,H1,I1,r1,ty,q1⟩:=zQq
 obtain⟨h1,h2⟩:=Cm I1 r1 ty
 refine⟨T,id,pa,slot,hty,h1,h2,?_⟩
 have hA:=ha cpos pins s1 σ H1 _ I1 q1
 rw[hs]at hA ⊢
 refine Calls.callWith_builtin (by show (false || (backTo cpos (starEach es X.env)).any (·.1))=false; rw[hplain] <;> rfl) (Calls.evalArgs_plain ?_)
 exact thn hA fun us s2 ⟨vs,H2,I2,r2,q2⟩=>hm pins s2 σ H2 x vs v us Q I2 r1 r2 q2
end
def MtM (X:Cx) (id:String) (r:V->Hw->Hp->VK->Prop):Prop:=
 ∀ pins s σ H (x:V) (xs:Hw) (v:Value) (us:Hq) (Q:VK),Inv X pins σ H s->bY x v->bR xs us->r x xs H Q->
  wpAny (model X.prog X.w) X.A (call (.builtin id) (v::us)) (EP X pins σ Q) X.xe s
def bR.one:∀ {x:V} {us:Hq},bR [x] us->∃ u,us=[u]/\bY x u
 | _,_,.cons r .nil=>⟨_,rfl,r⟩
section
variable {X:Cx} {pins:Hi} {σ : St} {H:Hp} {s:Shared} {l b:Addr} {xs ys zs:Hw}
def Inv.lset {its its':Hq} {n:Nat} {f:Array Value->Array Value} {t':Nat} (I:Inv X pins σ H s) (hH:H l=some (.lst xs))
  (e:s.heap.get? l=some { cls:=.type "list",data:=.seq its.toArray n }) (hf:f its.toArray=its'.toArray) (hv:bR ys its') (hz:ys.length<=sizeLine) :
  Inv X pins σ (upd H l (.lst ys)) { s with heap:=s.heap.update l (Obj.mapSeq f),toks:=t' }:=by
 have q:=PySem.IsL.update e f
 rw[hf]at q
 refine I.write (x:=l) (e:=l) (by rw[hH]; exact trivial) (.inl rfl) (fun b' u hb hu=>(Heap.get?_update_other s.heap (Obj.mapSeq f) (Ne.symm hb)).trans hu) ⟨_,q⟩ ?_
 exact⟨hz,its',_,hv,q⟩
def Inv.lnew (I:Inv X pins σ H s) (hv:bR ys its) (hz:ys.length<=sizeLine) :
  Inv X pins σ (upd H s.heap.objs.size (.lst ys)) { s with heap:=s.heap.push { cls:=.type "list",data:=.seq its.toArray },toks:=t' }:=
 I.laid (fun _ _ q=>get?_push_of_some _ q) (le_refl _) ⟨hz,its,0,hv,get?_push_size _ rfl⟩
def Inv.fresh (I:Inv X pins σ H s):H s.heap.objs.size=none:=I.hok.fresh (le_refl _)
def Inv.lstM (I:Inv X pins σ H s) (hH:H l=some (.lst xs)):xs.length<=sizeLine/\∃ (its:Hq) (n:Nat),bR xs its/\xs.length=its.length/\s.heap.get? l=some { cls:=.type "list",data:=.seq its.toArray n }:=by
 obtain⟨z,its,n,r,e⟩:=I.hok l _ hH
 exact⟨z,its,n,r,r.length,e⟩
end
section
variable {X:Cx}
inductive Au (x:V) (vs:Hw) (H:Hp) (Q:VK):Prop
 | mk:∀ l xs y,x = .ref l->vs=[y]->H l=some (.lst xs)->xs.length<sizeLine->Q .non (upd H l (.lst (xs++[y])))->Au x vs H Q
def lB:MtM X "list.append" Au:=by
 intro pins s σ H x vs v us Q I rx rv h
 obtain⟨l,xs,y,rfl,rfl,hH,hz,q⟩:=h
 cases rx
 obtain⟨u,rfl,ru⟩:=rv.one
 obtain⟨z,its,n,r,hl,e⟩:=I.lstM hH
 refine call_meets F.slot_list_append ⟨_,e,rfl⟩ F.entry_list_append (F.args_list_append_2 _ _) (PySem.list_append l its.toArray n u (by rw[size_toArray]; omega)) ⟨e,?_⟩
 refine⟨.non,_,I.lset (its':=its++[u]) hH e (by simp) (r.append (.cons ru .nil)) ?_,rfl,q⟩
 rw[length_append,length_singleton]
 omega
inductive rCat (x:V) (y:V) (H:Hp) (Q:VK):Prop
 | mk:∀ l b xs zs,x = .ref l->y = .ref b->H l=some (.lst xs)->H b=some (.lst zs)->xs.length+zs.length<=sizeLine->(∀ p,H p=none->Q (.ref p) (upd H p (.lst (xs++zs))))->rCat x y H Q
def Dc:OpR X (binaryOp .Add) rCat:=by
 intro pins s σ H x y v u Q I rx ry h
 obtain⟨l,b,xs,zs,rfl,rfl,hH,hB,hz,q⟩:=h
 cases rx
 cases ry
 obtain⟨z,its,n,r,hl,e⟩:=I.lstM hH
 obtain⟨z2,its2,n2,r2,hl2,e2⟩:=I.lstM hB
 refine PySem.P.add_list e e2 ?_ (by rw[size_toArray,size_toArray]; omega)
 have ea:its.toArray++its2.toArray=(its++its2).toArray:=by simp
 rw[ea]
 exact⟨.ref _,_,I.lnew (t':=s.toks) (r.append r2) (by rw[length_append]; omega),rfl,q _ I.fresh⟩
end
section
variable {prog:Program} {w:World} {A:Around} {E:Ht} {s:Shared}
end
section
variable {X:Cx}
end
section
variable {κ : Type} [DecidableEq κ]
def eE (kvs:List (κ × V)) (k:κ):Option V:=(kvs.find? fun kv=>decide (kv.1=k)).map (·.2)
def iA (kvs:List (κ × V)) (k:κ) (v:V):List (κ × V):=
 if (kvs.any fun kv=>decide (kv.1=k))=true then kvs.map (fun kv=>if kv.1=k then (kv.1,v) else kv) else kvs++[(k,v)]
def hX (kvs:List (κ × V)) (k:κ):List (κ × V):=kvs.filter fun kv=>decide (kv.1≠k)
def iS {p:κ × V} {r:List (κ × V)} {k:κ} (e:p.1=k):eE (p::r) k=some p.2:=by simp [eE,find?_cons,e]
def iT {p:κ × V} {r:List (κ × V)} {k:κ} (e:¬ p.1=k):eE (p::r) k=eE r k:=by simp [eE,find?_cons,e]
def l7 (k:κ):∀ kvs:List (κ × V),(kvs.any fun kv=>decide (kv.1=k))=(eE kvs k).isSome
 | []=>rfl
 | p::r=>by
  rw[any_cons]
  by_cases e:p.1=k
  ·simp only[iS e,decide_eq_true e,Bool.true_or,Option.isSome_some]
  ·rw[iT e,decide_eq_false e,Bool.false_or]; exact l7 k r
def oY (kvs:List (κ × V)) (k:κ) (v:V):(iA kvs k v).length<=kvs.length+1:=by
 unfold iA
 split
 ·rw[length_map]; omega
 ·rw[length_append,length_cons,length_nil]; omega
def DM {kvs:List (κ × V)} {k:κ} (v:V) (h:eE kvs k=none):iA kvs k v=kvs++[(k,v)]:=by
 unfold iA
 rw[l7,h]
 exact if_neg (by decide)
def j3.isSome_eq (r:j3 o u):o.isSome=u.isSome:=by
 cases o with
 | none=>cases u with
  | none=>rfl
  | some _=>exact(show False from r).elim
 | some _=>cases u with
  | none=>exact(show False from r).elim
  | some _=>rfl
def KV.val {kvs:List (κ × V)} {vs:List (κ × Value)} (r:KV kvs vs) (k:κ):j3 (eE kvs k) (valueAt vs k):=by
 unfold KV at r
 induction r with
 | nil=>exact True.intro
 | @cons p q ps qs h t ih=>
  obtain⟨h1,h2⟩:=h
  by_cases e:p.1=k
  ·have e':q.1=k:=h1.symm.trans e
   have b:valueAt (q::qs) k=some q.2:=by simp [valueAt,find?_cons,e']
   rw[iS e,b]; exact h2
  ·have e':¬ q.1=k:=fun z=>e (h1.trans z)
   have b:valueAt (q::qs) k=valueAt qs k:=by simp [valueAt,find?_cons,e']
   rw[iT e,b]; exact ih
def KV.any (r:KV kvs vs) (k:κ):(kvs.any fun kv=>decide (kv.1=k))=vs.any fun kv=>decide (kv.1=k):=by
 unfold KV at r
 induction r with
 | nil=>rfl
 | cons h t ih=>rw[any_cons,any_cons,ih,h.1]
def KV.repl (r:KV kvs vs) (k:κ) (ry:bY y u) :
  KV (kvs.map fun kv=>if kv.1=k then (kv.1,y) else kv) (vs.map fun kv=>if kv.1=k then (kv.1,u) else kv):=by
 unfold KV at r ⊢
 induction r with
 | nil=>exact .nil
 | @cons p q ps qs h t ih=>
  rw[map_cons,map_cons]
  refine .cons ?_ ih
  obtain⟨h1,h2⟩:=h
  by_cases e:p.1=k
  ·rw[if_pos e,if_pos (h1.symm.trans e)]; exact⟨h1,ry⟩
  ·rw[if_neg e,if_neg (fun z=>e (h1.trans z))]; exact⟨h1,h2⟩
def KV.put (r:KV kvs vs) (k:κ) (ry:bY y u):KV (iA kvs k y) (stored vs k u):=by
 unfold iA stored
 rw[r.any k]
 by_cases e:(vs.any fun kv=>decide (kv.1=k))=true
 ·rw[if_pos e,if_pos e]; exact r.repl k ry
 ·rw[if_neg e,if_neg e]; exact Paired.snoc r ⟨rfl,ry⟩
def KV.drop (r:KV kvs vs) (k:κ):KV (hX kvs k) (without vs k):=by
 unfold KV at r ⊢
 unfold hX without
 induction r with
 | nil=>exact .nil
 | @cons p q ps qs h t ih=>
  obtain⟨h1,h2⟩:=h
  rw[List.filter_cons,List.filter_cons]
  by_cases e:p.1=k
  ·have a:¬ decide (p.1≠k)=true:=by simp [e]
   have b:¬ decide (q.1≠k)=true:=by simp [h1.symm.trans e]
   rw[if_neg a,if_neg b]; exact ih
  ·have e':¬ q.1=k:=fun z=>e (h1.trans z)
   have a:decide (p.1≠k)=true:=by simp [e]
   have b:decide (q.1≠k)=true:=by simp [e']
   rw[if_pos a,if_pos b]; exact .cons ⟨h1,h2⟩ ih
def KV.length (r:KV kvs vs):kvs.length=vs.length:=Paired.length r
def EV (kvs:List (κ × V)) (k:κ):(hX kvs k).length<=kvs.length:=List.length_filter_le _ _
end
def o5 (r:bY (kV k) u):(cE P w).is k u=true:=by
 cases k with
 | inl i=>obtain⟨t,e⟩:=(show ∃ t,u=Value.int i t from r); subst e; exact x8 P w i t
 | inr x=>obtain⟨t,e⟩:=(show ∃ t,u=Value.str x t from r); subst e; exact x6 P w x t
def uC:∀ {ks:List Key} {us:Hq},bR (ks.map kV) us->ItemsAre (cE P w) ks us
 | [],_,r=>by rw[map_nil]at r; cases r; exact .nil
 | k::ks,_,r=>by
  rw[map_cons]at r
  cases r with
  | cons h t=>exact .cons (o5 h) (uC t)
abbrev KT (H:Hp):List (List Key × V)->List (List Key × Addr × Value)->Prop:=Paired fun p q=>p.1=q.1/\H q.2.1=some (.tup (p.1.map kV))/\bY p.2 q.2.2
def KT.val {H:Hp} {kvs:List (List Key × V)} {xs:List (List Key × Addr × Value)} (r:KT H kvs xs) (k:List Key):j3 (eE kvs k) ((atKey xs k).map (·.2)):=by
 induction r with
 | nil=>exact True.intro
 | @cons p q ps qs h t ih=>
  obtain⟨h1,_,h2⟩:=h
  by_cases e:p.1=k
  ·have e':q.1=k:=h1.symm.trans e
   have b:atKey (q::qs) k=some q.2:=by simp [atKey,find?_cons,e']
   rw[iS e,b]; exact h2
  ·have e':¬ q.1=k:=fun z=>e (h1.trans z)
   have b:atKey (q::qs) k=atKey qs k:=by simp [atKey,find?_cons,e']
   rw[iT e,b]; exact ih
def KT.repl (r:KT H kvs xs) (k:List Key) (ry:bY y u) :
  KT H (kvs.map fun kv=>if kv.1=k then (kv.1,y) else kv) (xs.map (putAt k u)):=by
 induction r with
 | nil=>exact .nil
 | @cons p q ps qs h t ih=>
  rw[map_cons,map_cons]
  refine .cons ?_ ih
  obtain⟨h1,h2,h3⟩:=h
  unfold putAt
  by_cases e:p.1=k
  ·rw[if_pos e,if_pos (h1.symm.trans e)]; exact⟨h1,h2,ry⟩
  ·rw[if_neg e,if_neg (fun z=>e (h1.trans z))]; exact⟨h1,h2,h3⟩
def KT.put (r:KT H kvs xs) (k:List Key) (hb:H b=some (.tup (k.map kV))) (ry:bY y u) :
  KT H (iA kvs k y) (storedH xs k b u):=by
 have e:(kvs.any fun kv=>decide (kv.1=k))=(atKey xs k).isSome:=by
  rw[l7,(r.val k).isSome_eq,isSome_map]
 unfold iA storedH
 rw[e]
 by_cases q:(atKey xs k).isSome=true
 ·rw[if_pos q,if_pos q]; exact r.repl k ry
 ·rw[if_neg q,if_neg q]; exact Paired.snoc r ⟨rfl,hb,ry⟩
def KT.keeps (r:KT H kvs xs) (ht:∀ b ys,H b=some (.tup ys)->H' b=some (.tup ys)):KT H' kvs xs:=
 Paired.mapP r fun _ _ z=>⟨z.1,ht _ _ z.2.1,z.2.2⟩
section
variable {P:Program} {w:World} {H:Hp} {h:Heap} {a:Addr}
def GC (ok:HOk P w H h) (e:Rd H a u):dD P w H h a u:=e.ok ok
def yI (ok:HOk P w H h) (e:Rd H a (.dK kvs)):kvs.length<=sizeLine/\(a == sysModules)=false/\∃ vs,KV kvs vs/\h.DictOf (cE P w) a vs:=
 show dD P w H h a (.dK kvs) from GC ok e
def BH (ok:HOk P w H h) (e:H a=some (.dK kvs)):kvs.length<=sizeLine/\(a == sysModules)=false/\∃ vs,KV kvs vs/\h.DictOf (cE P w) a vs:=yI ok (.inl e)
def rK (ok:HOk P w H h) (e:H a=some (.tup (ks.map kV))):(tupleKind (cE P w)).is h ks a:=by
 obtain⟨_,its,r,o,h1,h2,n,h3⟩:=(show dD P w H h a (.tup (ks.map kV)) from ok a _ e)
 exact⟨o,its.toArray,n,h1,h2,h3,by simpa using uC r⟩
def yH (ok:HOk P w H h) (e:Rd H a (.dT kvs)):kvs.length<=sizeLine/\(a == sysModules)=false/\
  ∃ xs,KT H kvs xs/\h.DictOfH (tupleKind (cE P w)) a xs:=by
 obtain⟨z,y,xs,r,o,es,ep,h1,h2,h3,h4,h5⟩:=(show dD P w H h a (.dT kvs) from GC ok e)
 refine⟨z,y,xs,r,o,es,ep,h1,h2,h3,h4,fun x hx=>?_,h5⟩
 have all:∀ {l:List (List Key × V)} {m:List (List Key × Addr × Value)},KT H l m->∀ x∈m,(tupleKind (cE P w)).is h x.1 x.2.1:=by
  intro l m q
  induction q with
  | nil=>intro x hx; exact nomatch hx
  | @cons p q ps qs hq t ih=>
   intro x hx
   rcases mem_cons.mp hx with e | hx
   ·subst e
    exact rK ok (by rw[<- hq.1]; exact hq.2.1)
   ·exact ih x hx
 exact all r x hx
def dt_of (ok:HOk P w H h) (e:H a=some (.dT kvs)):kvs.length<=sizeLine/\(a == sysModules)=false/\
  ∃ xs,KT H kvs xs/\h.DictOfH (tupleKind (cE P w)) a xs:=yH ok (.inl e)
end
def gC (H:Hp) (a:Addr) (y:V) (r:Option V):Prop:=
 (∃ kvs k,Rd H a (.dK kvs)/\y=kV k/\r=eE kvs k)\/∃ kvs k b,Rd H a (.dT kvs)/\y = .ref b/\H b=some (.tup (k.map kV))/\r=eE kvs k
def sQ (H:Hp) (a:Addr) (y v:V) (H':Hp):Prop:=
 (∃ kvs k,H a=some (.dK kvs)/\y=kV k/\kvs.length<sizeLine/\H'=upd H a (.dK (iA kvs k v)))\/
 ∃ kvs k b,H a=some (.dT kvs)/\y = .ref b/\H b=some (.tup (k.map kV))/\kvs.length<sizeLine/\H'=upd H a (.dT (iA kvs k v))
def gC.k {H:Hp} {a:Addr} {kvs:Hu} {k:Key} (e:H a=some (.dK kvs)):gC H a (kV k) (eE kvs k):=.inl ⟨kvs,k,.inl e,rfl,rfl⟩
def sQ.k {H:Hp} {a:Addr} {kvs:Hu} {k:Key} {v:V} (e:H a=some (.dK kvs)) (hl:kvs.length<sizeLine):sQ H a (kV k) v (upd H a (.dK (iA kvs k v))):=.inl ⟨kvs,k,e,rfl,hl,rfl⟩
section
variable {X:Cx} {pins:Hi} {σ : St} {H:Hp} {s:Shared} {a:Addr} {y v:V} {u r:Value} {o:Option V} {A:Around} {E:Ht}
def Inv.big (I:Inv X pins σ H s):sysModules<s.heap.objs.size:=by
 have h:mainGlobals<s.heap.objs.size:=(I.mod.glob.keeps I.bk).lt
 exact lt_trans (by decide) h
def CZ (hu:A.units+1<cLine) (I:Inv X pins σ H s) (g:gC H a y (some v)) (ry:bY y u) (h:∀ w' s',Inv X pins σ H s'->bY v w'->Q w' s') :
  wpAny (model X.prog X.w) A (getItem (.ref a) u) Q E s:=by
 rcases g with ⟨kvs,k,e,ey,l⟩ | ⟨kvs,k,b,e,ey,eb,l⟩
 ·subst ey
  obtain⟨z,hd,vs,rel,dd⟩:=yI I.hok e
  obtain⟨w',hw,rw'⟩:=j3.some_of (v:=v) (o:=valueAt vs k) (by rw[l]; exact rel.val k)
  exact wpAny_getItem_of (o5 ry) dd.mapOf hw (h w' _ (I.tok _) rw')
 ·subst ey
  cases (show u=Value.ref b from ry)
  obtain⟨z,hd,xs,rel,dd⟩:=yH I.hok e
  obtain⟨w',hw,rw'⟩:=j3.some_of (v:=v) (o:=(atKey xs k).map (·.2)) (by rw[l]; exact rel.val k)
  obtain⟨p,hp,hp2⟩:=map_eq_some_iff.mp hw
  refine wpAny_getItem_heap (tupleKind_room_in1 hu) (rK I.hok eb) dd hp ?_
  rw[hp2]
  exact h w' _ (I.tok _) rw'
def d_in (hu:A.units+1<cLine) (I:Inv X pins σ H s) (g:gC H a y o) (ry:bY y u) (h:∀ s',Inv X pins σ H s'->Q (.bool o.isSome) s') :
  wpAny (model X.prog X.w) A (compareOp .In u (.ref a)) Q E s:=by
 rcases g with ⟨kvs,k,e,ey,l⟩ | ⟨kvs,k,b,e,ey,eb,l⟩
 ·subst ey
  obtain⟨z,hd,vs,rel,dd⟩:=yI I.hok e
  refine wpAny_in_of (o5 ry) hd dd.mapOf ?_
  rw[<- (rel.val k).isSome_eq,<- l]
  exact h _ (I.tok _)
 ·subst ey
  cases (show u=Value.ref b from ry)
  obtain⟨z,hd,xs,rel,dd⟩:=yH I.hok e
  refine wpAny_in_heap (tupleKind_room_in1 hu) (rK I.hok eb) hd dd ?_
  have q:=(rel.val k).isSome_eq
  rw[isSome_map]at q
  rw[<- q,<- l]
  exact h _ (I.tok _)
def Fr (hu:A.units+1<cLine) (I:Inv X pins σ H s) (g:gC H a y o) (ry:bY y u) (h:∀ s',Inv X pins σ H s'->Q (.bool (!o.isSome)) s') :
  wpAny (model X.prog X.w) A (compareOp .NotIn u (.ref a)) Q E s:=by
 rcases g with ⟨kvs,k,e,ey,l⟩ | ⟨kvs,k,b,e,ey,eb,l⟩
 ·subst ey
  obtain⟨z,hd,vs,rel,dd⟩:=yI I.hok e
  refine wpAny_notIn_of (o5 ry) hd dd.mapOf ?_
  rw[<- (rel.val k).isSome_eq,<- l]
  exact h _ (I.tok _)
 ·subst ey
  cases (show u=Value.ref b from ry)
  obtain⟨z,hd,xs,rel,dd⟩:=yH I.hok e
  refine wpAny_notIn_heap (tupleKind_room_in1 hu) (rK I.hok eb) hd dd ?_
  have q:=(rel.val k).isSome_eq
  rw[isSome_map]at q
  rw[<- q,<- l]
  exact h _ (I.tok _)
def wA (I:Inv X pins σ H s) (mu:Mut (H a)) (hs:Heap.SameBut a s.heap h') (he:∃ q,h'.get? a=some q) (new:dD X.prog X.w (upd H a ob) h' a ob) :
  Inv X pins σ (upd H a ob) { s with heap:=h',toks:=t' }:=
 I.write (x:=a) (e:=a) mu (.inl rfl) (fun b q hb z=>(hs.2 b hb).trans z) he new
def EW (z:kvs.length<=sizeLine) (hd:(a == sysModules)=false) (rel:KV kvs vs) (dd:h'.DictOf (cE P w) a vs) :
  dD P w H' h' a (.dK kvs):=⟨z,hd,vs,rel,dd⟩
def CY (hu:A.units+1<cLine) (I:Inv X pins σ H s) (g:sQ H a y v H') (ry:bY y u) (rv:bY v r) (h:∀ s',Inv X pins σ H' s'->Q () s') :
  wpAny (model X.prog X.w) A (setItem (.ref a) u r) Q E s:=by
 rcases g with ⟨kvs,k,e,ey,l,eH⟩ | ⟨kvs,k,b,e,ey,eb,l,eH⟩
 ·subst ey eH
  obtain⟨z,hd,vs,rel,dd⟩:=BH I.hok e
  have hz:vs.length<=sizeLine:=by rw[<- rel.length]; exact z
  have hl:(iA kvs k v).length<=sizeLine:=by have:=oY kvs k v; omega
  refine wpAny_setItem_pairs (hsz:=hz) (o5 ry) dd fun h' dd' hs=>h _ ?_
  have he:∃ q,h'.get? a=some q:=let ⟨q,_,_,hq,_⟩:=dd'; ⟨q,hq⟩
  exact wA I (by rw[e]; exact True.intro) hs he (EW hl hd (rel.put k rv) dd')
 ·subst ey eH
  cases (show u=Value.ref b from ry)
  obtain⟨z,hd,xs,rel,dd⟩:=dt_of I.hok e
  have hz:xs.length<=sizeLine:=by rw[<- Paired.length rel]; exact z
  have hl:(iA kvs k v).length<=sizeLine:=by have:=oY kvs k v; omega
  refine wpAny_setItem_heap (hsz:=hz) (tupleKind_room_in1 hu) (rK I.hok eb) dd fun h' dd' hs=>h _ ?_
  obtain⟨q,es,ep,hq,h2,h3,h4,_,h5⟩:=dd'
  refine wA I (by rw[e]; exact True.intro) hs ⟨q,hq⟩ ⟨hl,hd,_,(rel.put k eb rv).keeps fun c ys ec=>?_,q,es,ep,hq,h2,h3,h4,h5⟩
  rw[aE (ne_of ec e (fun z=>nomatch z))]
  exact ec
end
section
variable {X:Cx} {pins:Hi} {σ : St} {H:Hp} {s:Shared} {a:Addr} {kvs:Hu} {k:Key} {u:Value} {A:Around} {E:Ht}
def d_pop (I:Inv X pins σ H s) (e:H a=some (.dK kvs)) (ry:bY (kV k) u) (l:eE kvs k=some v) (hm:more=[]\/∃ x,more=[x])
  (h:∀ w' s',Inv X pins σ (upd H a (.dK (hX kvs k))) s'->bY v w'->Q w' s'):wpAny (model X.prog X.w) A (call (.builtin "dict.pop") (.ref a::u::more)) Q E s:=by
 obtain⟨z,hd,vs,rel,dd⟩:=BH I.hok e
 obtain⟨w',hw,rw'⟩:=j3.some_of (v:=v) (o:=valueAt vs k) (by rw[<- l]; exact rel.val k)
 have hp:(keyPart u).isSome=true:=by
  cases k with
  | inl i=>obtain⟨t,q⟩:=(show ∃ t,u=Value.int i t from ry); subst q; rfl
  | inr x=>obtain⟨t,q⟩:=(show ∃ t,u=Value.str x t from ry); subst q; rfl
 have ha:argsOk "dict.pop" ⟨.ref a::u::more,[]⟩:=by
  rcases hm with q | ⟨x,q⟩
  ·subst q; exact PySem.F.args_dict_pop_2 _ _
  ·subst q; exact PySem.F.args_dict_pop_3 _ _ _
 refine call_meetsIn PySem.F.slot_dict_pop dd.typeIs PySem.F.entry_dict_pop ha (meets_dict_pop_there (cE X.prog X.w) a (o5 ry) more hm hp)
  ⟨vs,w',dd,by rw[<- rel.length]; exact z,hw,fun h' dd' hs=>h w' _ ?_ rw'⟩
 have he:∃ q,h'.get? a=some q:=let ⟨q,_,_,hq,_⟩:=dd'; ⟨q,hq⟩
 exact wA I (by rw[e]; exact True.intro) hs he (EW (le_trans (EV kvs k) z) hd (rel.drop k) dd')
end
def Hd (i:Expr):Prop:=∀ ov iv,subscripted i false ov iv=operate [ov,iv] (getItem ov iv)
def Ac {prog:Program} {w:World} {A:Around} {E:Ht} {s:Shared} {env:Env} {value slice:Expr} {pos:Pos} {T id:String} {Q:Ht}
  (hl:typeLookup (.type T) "__getitem__" = pure (some (.builtin id))) (hs:Hd slice)
  (h:wpAny (model prog w) A (eval value env) (fun o s₁=>wpAny (model prog w) A (eval slice env) (fun i s₂=>s₂.TypeIs o T/\wpAny (model prog w) A (getItem o i) Q E s₂) E s₁) E s) :
  wpAny (model prog w) A (eval (.Subscript value slice pos) env) Q E s:=by
 refine Subscript_ (wpAny_mono h (fun o s₁ h₁=>wpAny_mono h₁ (fun i s₂ h₂=>?_) fun _ _ x=>x) fun _ _ x=>x)
 obtain⟨hT,h₂⟩:=h₂
 unfold subscriptTail
 refine wpAny_bind ?_
 rw[getitemInPython_of_ne hT.not_modules]
 refine wpAny_bind (wpAny_specialOf hT hl ?_)
 have fin:wpAny (model prog w) A (subscripted slice false o i) (fun r s₃=>wpAny (model prog w) A (letTemporaryGo value o r >>= fun _=>pure r) Q E s₃) E s₂:=by
  rw[hs o i]
  exact wpAny_operating (wpAny_mono h₂ (fun r s₃ h₃=>wpAny_bind (wpAny_letTemporaryGo (wpAny_pure h₃))) fun _ _ x=>x)
 first
  | exact wpAny_pure (wpAny_bind fin)
  | exact wpAny_bind (wpAny_pure (wpAny_bind fin))
  | exact wpAny_bind fin
def yJ (I:Inv X pins σ H s) (g:gC H a y o):s.TypeIs (.ref a) "dict":=by
 rcases g with ⟨kvs,k,e,_,_⟩ | ⟨kvs,k,b,e,_,_,_⟩
 ·obtain⟨_,_,vs,_,dd⟩:=yI I.hok e
  exact dd.typeIs
 ·obtain⟨_,_,xs,_,dd⟩:=yH I.hok e
  exact dd.typeIs
inductive Aa (Q:VK) (x:V) (y:V) (H2:Hp):Prop
 | mk:∀ a v,x = .ref a->gC H2 a y (some v)->Q v H2->Aa Q x y H2
abbrev Ex (ty:TE) (σ : St) (Q:VK):V->Hp->Prop:=fun x H1=>ty σ H1 (Aa Q x)
def tDGet (td ty:TE):TE:=fun σ H Q=>td σ H (Ex ty σ Q)
inductive Cw (Q:VK) (y:V) (x:V) (H2:Hp):Prop
 | mk:∀ a o,x = .ref a->gC H2 a y o->Q (.bl o.isSome) H2->Cw Q y x H2
abbrev Gb (td:TE) (σ : St) (Q:VK):V->Hp->Prop:=fun y H1=>td σ H1 (Cw Q y)
def tDIn (ty td:TE):TE:=fun σ H Q=>ty σ H (Gb td σ Q)
inductive sY (Q:VK) (y:V) (x:V) (H2:Hp):Prop
 | mk:∀ a o,x = .ref a->gC H2 a y o->Q (.bl (!o.isSome)) H2->sY Q y x H2
abbrev BZ (td:TE) (σ : St) (Q:VK):V->Hp->Prop:=fun y H1=>td σ H1 (sY Q y)
def Ew (ty td:TE):TE:=fun σ H Q=>ty σ H (BZ td σ Q)
inductive Aq (D:Ends) (σ : St) (v:V) (x:V) (y:V) (H3:Hp):Prop
 | mk:∀ a H4,x = .ref a->sQ H3 a y v H4->D.nx σ H4->Aq D σ v x y H3
abbrev E9 (ty:TE) (D:Ends) (σ : St) (v:V):V->Hp->Prop:=fun x H2=>ty σ H2 (Aq D σ v x)
abbrev FA (td:TE) (ty:TE) (D:Ends) (σ : St):V->Hp->Prop:=fun v H1=>td σ H1 (E9 ty D σ v)
def sDPut (td ty tv:TE):TS:=fun D σ H=>tv σ H (FA td ty D σ)
section
variable {X:Cx} {o i e value:Expr} {pos pos' tpos:Pos} {td ty tv:TE}
def Ax (hu:X.A.units+1<cLine) (ho:PE X o td) (hi:PE X i ty) (hs:Hd i):PE X (.Subscript o i pos) (tDGet td ty):=by
 intro pins s σ H Q I h
 refine Ac PySem.F.slot_dict_getitem.lookup hs (thn (ho pins s σ H _ I h) fun u s1 ⟨x,H1,I1,rx,q1⟩=>thn (hi pins s1 σ H1 _ I1 q1) fun iv s2 zQq=>?_)
 obtain⟨y,H2,I2,ry,a,v,ex,g,q2⟩:=zQq
 subst ex
 obtain rfl:u=Value.ref a:=rx
 exact⟨yJ I2 g,CZ hu I2 g ry fun w' s3 I3 rw'=>⟨v,H2,I3,rw',q2⟩⟩
def DY (hu:X.A.units+1<cLine) (hi:PE X i ty) (ho:PE X o td):PC X .In i o (tDIn ty td):=by
 intro pins s σ H Q I h
 refine thn (hi pins s σ H _ I h) fun iv s1 ⟨y,H1,I1,ry,q1⟩=>thn (ho pins s1 σ H1 _ I1 q1) fun u s2 zQq=>?_
 obtain⟨x,H2,I2,rx,a,ov,ex,g,q2⟩:=zQq
 subst ex
 obtain rfl:u=Value.ref a:=rx
 exact d_in hu I2 g ry fun s3 I3=>⟨.bl ov.isSome,H2,I3,rfl,q2⟩
def Bp (hu:X.A.units+1<cLine) (hi:PE X i ty) (ho:PE X o td):PC X .NotIn i o (Ew ty td):=by
 intro pins s σ H Q I h
 refine thn (hi pins s σ H _ I h) fun iv s1 ⟨y,H1,I1,ry,q1⟩=>thn (ho pins s1 σ H1 _ I1 q1) fun u s2 zQq=>?_
 obtain⟨x,H2,I2,rx,a,ov,ex,g,q2⟩:=zQq
 subst ex
 obtain rfl:u=Value.ref a:=rx
 exact Fr hu I2 g ry fun s3 I3=>⟨.bl (!ov.isSome),H2,I3,rfl,q2⟩
def kZ (hu:X.A.units+1<cLine) (ho:PE X o td) (hi:PE X i ty) (hv:PE X value tv) (hs:swapsWith value (some (.Subscript o i pos')) pos.line X.env=pure false) :
  PS X (.Assign [.Subscript o i pos'] value pos) (sDPut td ty tv):=by
 intro pins s σ H D I h
 refine wpAny_Assign_Subscript (thn (hv pins s σ H _ I h) fun r s1 ⟨v,H1,I1,rv,q1⟩=>thn (ho pins s1 σ H1 _ I1 q1) fun u s2 ⟨x,H2,I2,rx,q2⟩=>thn (hi pins s2 σ H2 _ I2 q2) fun iv s3 zQq=>?_) hs
 obtain⟨y,H3,I3,ry,a,H4,ex,g,q3⟩:=zQq
 subst ex
 obtain rfl:u=Value.ref a:=rx
 exact CY hu I3 g ry rv fun s4 I4=>⟨σ,H4,I4,q3⟩
end
def EX (h:Heap) (hb:sysModules<h.objs.size):dD P w H (h.push { cls:=.type "dict",data:=.dict #[] }) h.objs.size (.dK []):=
 ⟨zero_le _,beq_eq_false_iff_ne.mpr (Ne.symm (ne_of_lt hb)),[],.nil,Heap.DictOf.new h⟩
def Ga:TE:=fun _ H Q=>∀ p,H p=none->Q (.ref p) (upd H p (.dK []))
section
variable {X:Cx} {pos:Pos}
def qW:PE X (.Dict [] [] pos) Ga:=fun pins s σ H Q I h=>
 wpAny_Dict_empty ⟨.ref s.heap.objs.size,_,I.laid (a:=s.heap.objs.size) (o:=.dK []) (t':=s.toks) (fun _ _ q=>get?_push_of_some _ q) (le_refl _) (EX s.heap I.big),rfl,h _ (I.hok.fresh (le_refl _))⟩
end
section
variable {X:Cx} {pins:Hi} {σ : St} {H:Hp} {s:Shared} {a:Addr} {y d:V} {u r:Value} {o:Option V} {A:Around} {E:Ht}
end
section
variable {X:Cx} {o e f:Expr} {apos cpos:Pos} {td ty tx:TE}
end
section
variable {X:Cx} {pins:Hi} {σ : St} {H:Hp} {s:Shared} {a:Addr} {kvs:Hu} {A:Around} {E:Ht}
end
section
variable {X:Cx} {pins:Hi} {σ : St} {H:Hp} {s:Shared} {a:Addr} {y:V} {u:Value} {A:Around} {E:Ht}
end
end L2
namespace Att
open PySem PySem.W PySem.Calls PyProof.Rows
def pC:∀ (ns:Hm) (vs:Hq),WellAll P h vs (ns.map WData.int)->IntsAre vs ns:=by
 intro ns
 induction ns with
 | nil=>
  intro vs w
  rw[map_nil]at w
  cases w
  exact .nil
 | cons n ns ih=>
  intro vs w
  rw[map_cons]at w
  cases w with
  | cons a b=>
   cases a
   exact .cons _ _ (ih _ b)
def Be {l:OpenLaw} {n:Nat} (hn:l.most=some n) {P:Params} {h:Heap} {args:List WData} {vals:Hq}
  (hpre:l.row.toRowW.claim.pre args=true) (hwl:WellAll P h vals args) :
  ∃ a vs ns,vals=[Value.ref a]/\args=[WData.list (ns.map WData.int)]/\h.get? a=some { cls:=.type "list",data:=.seq vs.toArray }/\IntsAre vs ns/\ns.length<=n:=by
 have hsh:WShape.hasAll [] args [.list .int]=true:=(pre_splitW hpre).1
 have hc:l.pre.holds [] { args:=args }=true:=(pre_splitW hpre).2
 obtain⟨d,r,rfl,h1,h2⟩:=hasAllW_cons hsh
 obtain rfl:=hasAllW_nil h2
 obtain⟨xs,rfl,h3⟩:=hasW_list h1
 obtain⟨ns,rfl⟩:=items_int h3
 have hlen:ns.length<=n:=by
  unfold OpenLaw.pre at hc
  have h4:(WTm.not (.lt (.lit (.int (n:Int))) (.len (.arg 0)))).holds [] { args:=[.list (ns.map .int)] }=true:=by
   have h4:=(holds_andW hc).1
   rw[hn]at h4
   exact h4
  have h5:=condW_of h4 (w_not (w_lt w_lit (w_len_list (w_arg rfl))))
  rw[length_map]at h5
  refine Nat.le_of_not_lt fun q=>?_
  have q':(n:Int)<((ns.length:Nat):Int):=by omega
  first
   | (rw[decide_eq_true q']at h5; exact absurd h5 (by decide))
   | (simp at h5; omega)
 cases hwl with
 | cons w1 w2=>
  cases w2
  cases w1 with
  | list ho hall=>exact⟨_,_,ns,rfl,rfl,ho,pC ns _ hall,hlen⟩
def Bl (l:OpenLaw) (args:List WData):l.row.toRowW.claim.post args (.bool true) args=true:=
 postW_of (r:=l.row.toRowW) (X:=(true == true))
  (show WShape.has [] (.bool true) .bool=true by first | rfl | decide | simp [WShape.has,WShape.arms,WShape.armsAll])
  (show (WTm.eq .res (.lit (.bool true))).value [] { args:=args,res:=some (.bool true),after:=args }=some (.bool (true == true)) from w_eq_bool (w_res rfl) w_lit) rfl
def yX {l:OpenLaw} {n:Nat} {q:Program} {loose:Ho} {XP:(Hj)->Heap->Prop} {YP:World->Heap->Prop} {d:DefRec}
  (hn:l.most=some n) (hdf:d.params.defaults=[])
  (call:∀ (w:World) (s₀ s₁ : Shared) (mg mb:Hj) (fa:Addr) (o:Obj) (pm cd doc:Value) (a:Addr) (vs:Hq) (ns:Hm),
   Ground q loose [] XP w s₀ mg mb s₁.heap->YP w s₁.heap->
   s₁.heap.get? fa=some o->o.data = .func (docDef d.name d.params d.body d.scope pm cd doc)->s₁.heap.CodeRec cd d.name->mg d.name=some (.ref fa)->
   s₁.heap.get? a=some { cls:=.type "list",data:=.seq vs.toArray }->IntsAre vs ns->ns.length<=n->s₁.gens = #[]->
   codeAny (model l.prog w) callerA (.call (.ref fa) ⟨[.ref a],[]⟩) (fun r s'=>r = .ok (.ret (.bool true))/\OldK s₁.heap s'.heap/\s'.os=s₁.os/\AllBare s'.gens) s₁) :
  WalkO q loose XP YP l.row.toRowW d [] (fun f vs=>PySem.call f vs):=by
 intro w s₀ s₁ mg mb G Y fa o pm cd doc dV kV ho hd hcd hD hmg hg args vals as hpre hlay hrd hwl hlo
 obtain rfl:dV = .none:=Dflts.none hD hdf
 obtain rfl:kV = .none:=Dflts.noKw hD
 obtain⟨a,vs,ns,rfl,rfl,hobj,hints,hlen⟩:=Be hn hpre hwl
 refine enter_call (codeAny_mono (call w s₀ s₁ mg mb fa o pm cd doc a vs ns G Y ho (fd_plain hd) hcd hmg hobj hints hlen hg) fun r s' hq=>?_)
 obtain⟨rfl,h2,h3,h4⟩:=hq
 exact⟨.inl ⟨.bool true,.bool true,[],rfl,fun _=>rfl,.bool true,Bl l _,fun _=>⟨List.Pairwise.nil,fun _ hm=>(nomatch hm)⟩⟩,h2,h3,h4⟩
section
variable {prog:Program} {w:World} {A:Around} {E:Ht} {s:Shared} {K:Frag}
end
end Att
namespace L2
open PySem PySem.Spec PyProof.Rows
def kW:∀ {vs:Hq} {ns:Hm},IntsAre vs ns->bR (ns.map V.int) vs
 | _,_,.nil=>.nil
 | _,_,.cons n t h=>.cons ⟨t,rfl⟩ (kW h)
def Hb (H:Hp):Prop:=∀ b,H b=none\/∃ o xs,H b=some (.frz o (.lst xs))
def Dy {P:Program} {w:World} {K:Hh} {mg mb:Hj} {CX:CXT} {k:Nat} {fa a:Addr} {fd:Hs} {x:Str} {sp:Sp} {s₁ : Shared} {vs:Hq} {ns:Hm}
  (KX:K.In s₁.heap) (hns:s₁.heap.Ns mainGlobals mg) (hb:s₁.heap.Ns builtinsNs mb) (hbb:∀ x:Str,x ≠ "__name__"->mb x=bootBuiltins x) (hlim:s₁.heap.NoLimit) (hg:s₁.gens = #[])
  (ha:s₁.heap.get? a=some { cls:=.type "list",data:=.seq vs.toArray }) (hi:IntsAre vs ns) (hl:ns.length<=sizeLine) (hr:Room k callerA)
  (F:∀ base:Heap,K.In base->base.Ns mainGlobals mg->FnOk P w K mg base CX k fa fd [x] sp) (hbind:∀ (s:Shared) (u:Value),BindsTo s fd ⟨[u],[]⟩ [(x,u)])
  (hsp:∀ H:Hp,Hb H->SqL K H a (ns.map V.int)->sp [.ref a] H (fun v _=>v = .bl true) fun _ _ _=>False)
  (hCX:∀ H e s',CX [] H s₁ (fun _ _ _=>False) e s'->False) :
  codeAny (model P w) callerA (.call (.ref fa) ⟨[.ref a],[]⟩) (fun r s'=>r = .ok (.ret (.bool true))/\OldK s₁.heap s'.heap/\s'.os=s₁.os/\AllBare s'.gens) s₁:=by
 have rv:=kW hi
 have lenV:=hi.length
 -- from an abstract heap in which nothing but the script may be tracked
 have core:∀ H:Hp,Hb H->SqL K H a (ns.map V.int)->HOk P w H s₁.heap->(∀ b,H b≠none->b=a)->(H a≠none->K.lookup a=none)->
   codeAny (model P w) callerA (.call (.ref fa) ⟨[.ref a],[]⟩) (fun r s'=>r = .ok (.ret (.bool true))/\OldK s₁.heap s'.heap/\s'.os=s₁.os/\AllBare s'.gens) s₁:=by
  intro H hO hS hok hA hK
  have base_of:∀ {b:Addr} {o:Obj},s₁.heap.get? b=some o->H b=none->(v4 s₁.heap H).get? b=some o:=fun e n=>EH e n
  have noA:∀ {b:Addr} {o:Obj} {es:Array DictEntry} {ep:Nat},s₁.heap.get? b=some o->o.data = .dict es ep->H b=none:=fun {b o es ep} e d=>by
   cases q:H b with
   | none=>rfl
   | some u=>
    have e':b=a:=hA b (by rw[q]; simp)
    subst e'
    rw[ha]at e; cases e
    have d':Data.seq vs.toArray _=Data.dict es ep:=d
    cases d'
  have nsK:∀ {b:Addr} {m:Hj},s₁.heap.Ns b m->(v4 s₁.heap H).Ns b m:=fun {b m} ⟨o,es,ep,e,d,r⟩=>⟨o,es,ep,base_of e (noA e d),d,r⟩
  have hKb:K.In (v4 s₁.heap H):=fun b o e=>base_of (KX b o e) (by
   cases q:H b with
   | none=>rfl
   | some u=>
    have e':b=a:=hA b (by rw[q]; simp)
    subst e'
    rw[hK (by rw[q]; simp)]at e; cases e)
  have hM:Mod K mg (v4 s₁.heap H):=⟨hKb,nsK hns,⟨mb,nsK hb,hbb⟩,let ⟨mc,h1,h2⟩:=hlim; ⟨mc,nsK h1,h2⟩⟩
  have e0:Env0 P w K mg (v4 s₁.heap H) callerA [] s₁ H:=⟨rfl,hM,fun b o e=>Fd e,Nat.le_of_eq (CO _ _),trivial,fun b hb=>absurd (show b∈([]:List Addr) from hb) (by simp),hok,.of_eq hg⟩
  refine codeAny_mono ((F _ hKb (nsK hns)).run callerA [] s₁ H ⟨[.ref a],[]⟩ [.ref a] [.ref a] _ _ hr e0 (hbind s₁ (.ref a)) (.cons rfl .nil) (hsp H hO hS)) fun r s' h=>?_
  cases r with
  | error e=>exact(hCX H e s' h).elim
  | ok fl=>
   cases fl with
   | next=>exact False.elim h
   | brk=>exact False.elim h
   | cont=>exact False.elim h
   | ret u=>
    obtain⟨v,H',os,bare,un,hok',r',q⟩:=h
    have q':v = .bl true:=q
    subst q'
    obtain rfl:u=Value.bool true:=r'
    refine⟨rfl,OldK.of_keep fun b o e=>?_,os,bare⟩
    cases q:H b with
    | none=>exact un.keep b o e q (by intro z; exact absurd (show b∈([]:List Addr) from z) (by simp)) (by simp)
    | some u=>
     rcases hO b with z | ⟨ob,xs,z⟩
     ·rw[q]at z; cases z
     ·have z2:=un.frzs b ob _ z
      obtain⟨e1,_⟩:=hok b _ z
      obtain⟨e2,_⟩:=hok' b _ z2
      rw[e]at e1; cases e1
      exact e2
 cases hk:K.lookup a with
 | some o=>
  -- the script is one of the module's own objects
  have e:=KX a o hk
  rw[ha]at e
  cases e
  refine core (fun _=>none) (fun _=>.inl rfl) (.inr ⟨_,vs.toArray,_,hk,rfl,rfl,rfl,by rw[size_toArray,lenV]; exact hl,by simpa using rv⟩) (fun b u z=>by have z':(none:Option HO)=some u:=z; cases z') (fun b z=>absurd rfl z) fun z=>absurd rfl z
 | none=>
  refine core (fun b=>if b=a then some (.frz { cls:=.type "list",data:=.seq vs.toArray } (.lst (ns.map V.int))) else none) (fun b=>?_) (.inl (.inr ⟨{ cls:=.type "list",data:=.seq vs.toArray },if_pos rfl⟩)) (fun b u z=>?_) (fun b z=>?_) fun _=>hk
  ·by_cases hb:b=a
   ·exact .inr ⟨_,_,if_pos hb⟩
   ·exact .inl (if_neg hb)
  ·by_cases hb:b=a
   ·have z':=(if_pos hb).symm.trans z
    cases z'
    subst hb
    exact⟨ha,by rw[length_map]; exact hl,vs,_,rv,ha⟩
   ·have z':=(if_neg hb).symm.trans z
    cases z'
  ·by_cases hb:b=a
   ·exact hb
   ·exact absurd (if_neg hb) z
def Eo {l:PySem.W.OpenLaw} {n k:Nat} {q:Program} {loose:Ho} {XP:(Hj)->Heap->Prop} {YP:World->Heap->Prop} {d:DefRec} {K:Params->Hh} {CX:World->CXT} {sp:World->Sp} {x:Str}
  (hn:l.most=some n) (hn2:n<=sizeLine) (hdf:d.params.defaults=[]) (hr:Room k callerA)
  (hY:∀ (w:World) (h:Heap),YP w h->(K w.params).In h)
  (F:∀ (w:World) (mg:Hj) (fa:Addr) (h:Heap),(K w.params).In h->h.Ns mainGlobals mg->mg d.name=some (.ref fa)->
   ∃ fd:Hs,(∀ (s:Shared) (u:Value),BindsTo s fd ⟨[u],[]⟩ [(x,u)])/\
    ∀ base:Heap,(K w.params).In base->base.Ns mainGlobals mg->FnOk l.prog w (K w.params) mg base (CX w) k fa fd [x] (sp w))
  (hsp:∀ (w:World) (H:Hp) (a:Addr) (ns:Hm),ns.length<=n->Hb H->SqL (K w.params) H a (ns.map V.int)->sp w [.ref a] H (fun v _=>v = .bl true) fun _ _ _=>False)
  (hCX:∀ (w:World) (H:Hp) (s:Shared) (e:Value) (s':Shared),CX w [] H s (fun _ _ _=>False) e s'->False) :
  PySem.W.WalkO q loose XP YP l.row.toRowW d [] (fun f vs=>PySem.call f vs):=by
 refine Att.yX hn hdf fun w s₀ s₁ mg mb fa o pm cd doc a vs ns G Y ho hd hcd hmg hobj hints hlen hg=>?_
 have KX:=hY w _ Y
 obtain⟨fd,hb,hF⟩:=F w mg fa _ KX G.T.g hmg
 exact Dy KX G.T.g G.T.b G.T.builtins G.T.nolimit hg hobj hints (le_trans hlen hn2) hr hF hb (fun H hO hS=>hsp w H a ns hlen hO hS) fun H e s'=>hCX w H s₁ e s'
def bJ (s:Stmt) (j:Nat):Stmt:=match s with
 | .ClassDef _ _ _ body _ _ _ _ _ _ _=>body.getD j (.Pass ⟨0,0,0,0⟩)
 | _=>.Pass ⟨0,0,0,0⟩
def fG (s:Stmt):Arguments:=match s with
 | .FunctionDef _ a _ _ _ _ _ _ _ _=>a
 | _=>{ posonlyargs:=[],args:=[],vararg:=none,kwonlyargs:=[],kw_defaults:=[],kwarg:=none,defaults:=[] }
def d8 (s:Stmt):List Stmt:=match s with
 | .FunctionDef _ _ b _ _ _ _ _ _ _=>b
 | _=>[]
def cM (s:Stmt):Scope:=match s with
 | .FunctionDef _ _ _ _ _ _ sc _ _ _=>sc
 | _=>{ kind:=.function,names:=[],isGenerator:=false,isCoroutine:=false }
abbrev E0:XK:=fun _ _ _=>False
structure Fun (K:Hh) (x qual:Str) (st:Stmt) (f:Addr) (fd:Hs):Prop where
 ex:∃ (oc:Value) (od:Option Addr) (kV doc pm:Value) (an:Option Addr) (cdv ct:Value) (osl:Hl),
  fd=fnOf x qual (fG st) (d8 st) (cM st) .none kV doc pm an cdv ct/\K.lookup f=some ⟨oc,od,.func fd,osl⟩/\codeIn K cdv qual=true
 kp:keepIn K (.ref f)=true
section
variable {P:Program} {w:World} {K:Hh} {mg:Hj} {base:Heap}
def Fun.binds {x qual:Str} {st:Stmt} {f:Addr} {fd:Hs} {ps:Ho} (F:Fun K x qual st f fd)
  (h:∀ (kV doc pm:Value) (an:Option Addr) (cdv ct:Value) (us:Hq),us.length=ps.length->bindArgs (fnOf x qual (fG st) (d8 st) (cM st) .none kV doc pm an cdv ct) ⟨us,[]⟩=pure (ps.zip us)):iK K fd ps []:=by
 obtain⟨oc,od,kV,doc,pm,an,cdv,ct,osl,rfl,lk,hcd⟩:=F.ex
 exact .all (h kV doc pm an cdv ct)
def AN {x qual:Str} {st:Stmt} {f:Addr} {oc:Value} {od an:Option Addr} {osl:Hl} {kV doc pm cdv ct:Value} (l:K.lookup f=some ⟨oc,od,.func (fnOf x qual (fG st) (d8 st) (cM st) .none kV doc pm an cdv ct),osl⟩)
  (c:codeIn K cdv qual=true) (k:keepIn K (.ref f)=true):Fun K x qual st f (fnOf x qual (fG st) (d8 st) (cM st) .none kV doc pm an cdv ct):=⟨⟨oc,od,kV,doc,pm,an,cdv,ct,osl,rfl,l,c⟩,k⟩
end
section
variable {X:Cx}
def pv (i:Nat) {x:Str} {pos:Pos} (hN:X.N[i]? = some x:=by rfl) (hv:Vis X.env.scope x:=by first | exact Or.inl rfl | exact Or.inr (Or.inl rfl) | exact Or.inr (Or.inr rfl)) (hd:(x == ("__debug__" : Str))=false:=by decide)
  (hcd:(x == ("__classdict__" : Str))=false:=by decide):PE X (.Name x pos) (sB i):=Gz hN hv hd hcd
end
def a7 {A B:Prop} (h:B):if false=true then A else B:=by
 rw[if_neg Bool.false_ne_true]
 exact h
def aV {A B:Prop} (h:A):if true=true then A else B:=by
 rw[if_pos rfl]
 exact h
def aD (H H':Hp):Prop:=∀ b o,H b=some o->H' b=some o
def aD.refl (H:Hp):aD H H:=fun _ _ h=>h
def aD.trans (a:aD H H1) (b:aD H1 H2):aD H H2:=fun c o h=>b c o (a c o h)
def aD.free (e:aD H H') (h:H' l=Option.none):H l=Option.none:=by
 cases q:H l with
 | none=>rfl
 | some o=>
  rw[e l o q]at h
  cases h
def aD.seq {K:Hh} {H H':Hp} {a:Addr} {xs:Hw} (e:aD H H') (h:SqL K H a xs):SqL K H' a xs:=by
 rcases h with (h | ⟨o,h⟩) | h
 ·exact .inl (.inl (e _ _ h))
 ·exact .inl (.inr ⟨o,e _ _ h⟩)
 ·exact .inr h
section
variable {κ : Type} [DecidableEq κ]
def uH {p:κ × V} {r:List (κ × V)} {k:κ} (e:p.1=k):hX (p::r) k=hX r k:=by
 unfold hX
 rw[List.filter_cons,if_neg (by simp [e])]
def uI {p:κ × V} {r:List (κ × V)} {k:κ} (e:¬ p.1=k):hX (p::r) k=p::hX r k:=by
 unfold hX
 rw[List.filter_cons,if_pos (by simp [e])]
end
def Hf (B:Heap) (l:List Env) (e:Addr) (cls a0 fl:Value) (h:Heap):Prop:=B.StaysIn h/\B.get? e=none/\h.FunFrames B l/\h.TracedAtW B e cls a0 fl
structure Fly (P:Program) (w:World) (l:List Env) (H H':Hp) (s s':Shared) (e:Addr) (cls fl:Value):Prop where
 os:s'.os=s.os
 bare:AllBare s'.gens
 fr:∀ b o,s.heap.get? b=some o->H b=none->H' b=none
 tups:∀ b xs,H b=some (.tup xs)->H' b=some (.tup xs)
 frzs:∀ b o u,H b=some (.frz o u)->H' b=some (.frz o u)
 tbls:∀ b ps,H b=some (.tbl ps)->∃ more,H' b=some (.tbl (ps++more))
 sl:∀ b o,s.heap.get? b=some o->b∈frs l->∃ sl,s'.heap.get? b=some { o with slots:=sl }
 fly:∃ B a0,Hf B l e cls a0 fl s'.heap/\HOk P w H' B/\(∀ b o,s.heap.get? b=some o->H b=none->b ∉ frs l->B.get? b=some o)/\∀ b o,s.heap.get? b=some o->b ∉ frs l->∃ o',B.get? b=some o'
section
variable {P:Program} {w:World} {l:List Env} {H H':Hp} {s s':Shared} {e:Addr} {cls fl:Value}
def Fly.un (F:Fly P w l H H' s s' e cls fl):Un (frs l) [] H H' s.heap s'.heap:=by
 obtain⟨B,a0,fl,hk,kp,th⟩:=F.fly
 refine⟨fun b o q n hb _=>fl.1 _ _ (kp b o q n hb),fun b o q n hb _=>F.sl b o q hb,fun b o q n _=>F.fr b o q n,fun b o q _=>?_,F.tups,F.frzs,F.tbls⟩
 by_cases hb:b∈frs l
 ·obtain⟨sl,z⟩:=F.sl b o q hb
  exact⟨_,z⟩
 ·obtain⟨o',z⟩:=th b o q hb
  exact⟨o',fl.1 _ _ z⟩
def Fly.hok (F:Fly P w l H H' s s' e cls fl):HOk P w H' s'.heap:=by
 obtain⟨B,a0,fl,hk,_⟩:=F.fly
 exact hk.kept fun b o q=>fl.1 b o q
def E2 {h h':Heap} {B:Heap} {l:List Env} (fl:h.FunFrames B l) (u:h.UpToSlots h') {b:Addr} {o:Obj} {sl:Hl} (hb:b∈frs l) (e:h.get? b=some { o with slots:=sl }):∃ sl',h'.get? b=some { o with slots:=sl' }:=by
 obtain⟨_,o',ho,hd⟩:=fl.mem hb
 rw[e]at ho; cases ho
 obtain⟨sl',z⟩:=u b _ e hd
 exact⟨sl',z⟩
def Fly.go (F:Fly P w l H H' s s' e cls fl):∃ B a0,Hf B l e cls a0 fl s'.heap/\∀ h' fl',Hf B l e cls a0 fl' h'->s'.heap.UpToSlots h'->Fly P w l H H' s { s' with heap:=h' } e cls fl':=by
 obtain⟨B,a0,fl,hk,kp,th⟩:=F.fly
 refine⟨B,a0,fl,fun h' fl' f' up=>⟨F.os,F.bare,F.fr,F.tups,F.frzs,F.tbls,fun b o q hb=>?_,B,a0,f',hk,kp,th⟩⟩
 obtain⟨sl,z⟩:=F.sl b o q hb
 exact E2 (o:=o) fl.2.2.1 up hb z
def Fly.drop (F:Fly P w (env::outer) H H' s s' e cls fl) (hf:env.frame=some L)
  (hL:s₀.heap.objs.size<=L) (ho:s.os=s₀.os) (U:Un (frs outer) [] H₀ H s₀.heap s.heap) (hn:∀ b∈frs outer,H₀ b=none):Fly P w outer H₀ H' s₀ s' e cls fl:=by
 obtain⟨B,a0,⟨f1,f2,⟨_,_,f3⟩,f4⟩,hk,kp,th⟩:=F.fly
 have sub:∀ b,b∈frs (env::outer)->b=L\/b∈frs outer:=fun b hb=>by
  unfold frs at hb
  rw[filterMap_cons,hf]at hb
  exact mem_cons.mp hb
 have sup:∀ b,b∈frs outer->b∈frs (env::outer):=fun b hb=>by
  unfold frs
  rw[filterMap_cons,hf]
  exact mem_cons_of_mem _ hb
 have old:∀ b o,s₀.heap.get? b=some o->b ∉ frs outer->b ∉ frs (env::outer):=fun b o q hb z=>by
  rcases sub b z with rfl | z
  ·exact absurd (lt_of_lt_of_le (lt_size q) hL) (lt_irrefl _)
  ·exact hb z
 have nx:∀ b,b ∉ ([]:List Addr):=fun b=>by simp
 refine⟨F.os.trans ho,F.bare,fun b o q n=>?_,fun b xs q=>F.tups b xs (U.tups b xs q),fun b o u q=>F.frzs b o u (U.frzs b o u q),fun b ps q=>?_,fun b o q hb=>?_,B,a0,⟨f1,f2,f3,f4⟩,hk,fun b o q n hb=>?_,fun b o q hb=>?_⟩
 ·obtain⟨o',z⟩:=U.there b o q (nx b)
  exact F.fr b o' z (U.free b o q n (nx b))
 ·obtain⟨m1,z1⟩:=U.tbls b ps q
  obtain⟨m2,z2⟩:=F.tbls b _ z1
  exact⟨m1++m2,by rw[z2,Array.append_assoc]⟩
 ·obtain⟨sl,z⟩:=U.slot b o q (hn b hb) hb (nx b)
  obtain⟨sl',z'⟩:=F.sl b _ z (sup b hb)
  exact⟨sl',z'⟩
 ·exact kp b o (U.keep b o q n hb (nx b)) (U.free b o q n (nx b)) (old b o q hb)
 ·obtain⟨o',z⟩:=U.there b o q (nx b)
  exact th b o' z (old b o q hb)
def EG {P:Program} {w:World} {H:Hp} {h:Heap} {l:List Addr} (x:HOk P w H h) (hl:∀ b∈l,H b=none):HOk P w H (hideAll h l):=fun a o e=>
 (x a o e).stay (fun b u hb q=>hideAll_get _ q fun hm=>by
  have n:=hl b hm
  rcases hb with rfl | hb
  ·rw[e]at n; cases n
  ·rw[hb]at n; cases n) (fun _ q=>q) fun _ _ q=>q
section
variable {M:Model} {A:Around} {E:Ht} {Q:Unit->Shared->Prop} {env:Env} {outer:List Env} {L:Addr}
def rQ (F:Fly P w l H H' s s' e cls fl) (hQ:∀ h',Fly P w l H H' s { s' with heap:=h' } e cls .none->Q () { s' with heap:=h' }):wpAny M A (setFlight (.ref e) none) Q E s':=by
 obtain⟨B,a0,⟨f1,f2,f3,f4⟩,go⟩:=F.go
 exact wpAny_setFlight_noneW f1 f3 f4 fun h' k1 k2 k3 k4=>hQ h' (go h' _ ⟨k1,f2,k2,k3⟩ fun b o hb hn=>⟨o.slots,k4 b o hb hn⟩)
def EN (F:Fly P w l H H' s s' e cls fl) (hQ:∀ h',Fly P w l H H' s { s' with heap:=h' } e cls (rawInt L)->Q () { s' with heap:=h' }):wpAny M A (setFlight (.ref e) (some L)) Q E s':=by
 obtain⟨B,a0,⟨hkb,hen,hl,oe,vs,T,oT,ts,he,hcls,hd,h1,hnT,hTe,hT,hdT,h3⟩,go⟩:=F.go
 have hsz3:3<ts.size:=(Array.getElem?_eq_some_iff.mp h3).1
 have other:∀ b,b≠T->(s'.heap.update T (Obj.mapFields (·.setIfInBounds 3 ((some L).elim Value.none fun f=>rawInt f)))).get? b=s'.heap.get? b:=
  fun b hb=>Heap.get?_update_other _ _ (Ne.symm hb)
 have noRecord:∀ b o,s'.heap.get? b=some o->(∀ vs,o.data ≠ .fields vs)->b≠T:=fun b o hb hnf q=>by
  rw[q,hT]at hb; injection hb with hb; subst hb; exact hnf ts hdT
 unfold setFlight
 refine wpAny_bind (wpAny_field he hd h1 ?_)
 rw[if_pos (show (Value.ref T != Value.none)=true from by simp)]
 refine wpAny_setField hT hdT hsz3 (hQ _ (go _ _ ⟨fun b o hbo=>(other b fun q=>by rw[q,hnT]at hbo; cases hbo).trans (hkb b o hbo),hen,
  hl.of_keeps fun b o hb hnf=>⟨o,(other b (noRecord b o hb hnf)).trans hb,rfl⟩,?_⟩ fun b o hb hnf=>⟨o.slots,(other b (noRecord b o hb hnf)).trans hb⟩))
 exact⟨oe,vs,T,_,_,(other e (Ne.symm hTe)).trans he,hcls,hd,h1,hnT,hTe,Heap.get?_update_self _ hT (Obj.isFreed_of_fields (Obj.data_mapFields hdT _)),Obj.data_mapFields hdT _,by simp [hsz3]⟩
def EO (hfr:A.frames=some (env::outer)) (hf:env.frame=some L) (F:Fly P w (env::outer) H H' s s' e cls .none)
  (hQ:∀ h',Fly P w (env::outer) H H' s { s' with heap:=h' } e cls (rawInt L)->Q () { s' with heap:=h' }):wpAny M A (noteFrame (.ref e) env) Q E s':=by
 obtain⟨B,a0,⟨f1,f2,f3,f4⟩,go⟩:=F.go
 exact wpAny_noteFrame_onW hfr f3 hf f4 f1 f2 fun h' ⟨k1,k2,k3,k4⟩=>hQ h' (go h' _ ⟨k1,f2,k2,k3⟩ k4)
def CS (hf:env.frame=some L) (F:Fly P w l H H' s s' e cls (rawInt L)) (hQ:Q () s'):wpAny M A (noteFrame (.ref e) env) Q E s':=by
 obtain⟨B,a0,⟨f1,f2,f3,f4⟩,go⟩:=F.go
 exact wpAny_noteFrame_againW hf f4 hQ
def AO (F:Fly P w l H H' s s' e cls fl) (hQ:∀ T:Addr,R (.ref T) s'):wpAny M A (field (.ref e) 1) R E s':=by
 obtain⟨B,a0,⟨hkb,hen,hl,oe,vs,T,oT,ts,he,hcls,hd,h1,_⟩,_⟩:=F.go
 exact wpAny_field he hd h1 (hQ T)
end
end
def CXE (P:Program) (w:World):CXT:=fun outer H s E e s'=>∃ (a:Addr) (cls:Value) (H':Hp),e = .ref a/\Fly P w outer H H' s s' a cls .none/\E cls none H'
def AtX (X:Cx) (pins:Hi) (σ : St) (H':Hp) (s':Shared) (e:Addr) (cls:Value):Prop:=
 (∃ s args,Inv X pins σ H' s/\Heap.MadeExcOf s.heap s'.heap e cls args/\s' = { s with heap:=s'.heap })\/
 ∃ H s fl,Inv X pins σ H s/\Fly X.prog X.w X.stack H H' s s' e cls fl/\(fl = .none\/fl=rawInt X.env.locals)
structure Own (X:Cx):Prop where
 stk:X.stack=X.env::X.outer
 fra:X.env.frame=some X.env.locals
 ex:X.ex=[]
section
variable {X:Cx} {pins:Hi} {σ : St} {H':Hp} {s':Shared} {e:Addr} {cls:Value}
def B6 (O:Own X) (hfr:A.frames=some X.stack) (I:Inv X pins σ H' s) (mk:Heap.MadeExcOf s.heap s'.heap e cls args) (es:s' = { s with heap:=s'.heap })
  (hQ:∀ h',Fly X.prog X.w X.stack H' H' s { s' with heap:=h' } e cls (rawInt X.env.locals)->Q () { s' with heap:=h' }):wpAny M A (noteFrame (.ref e) X.env) Q E s':=by
 have hst:=I.stack
 have hfree:=I.stkFree
 have hin:∀ env∈X.stack,∀ a,env.frame=some a->a∈frs X.stack:=fun env he a ha=>List.mem_filterMap.mpr ⟨env,he,ha⟩
 obtain⟨t,he,htn,ht⟩:=mk.there
 have FH:=PySem.W.funFrames_hide (as:=frs X.stack) hst hin
 have hen:(hideAll s.heap (frs X.stack)).get? e=none:=by
  cases q:(hideAll s.heap (frs X.stack)).get? e with
  | none=>rfl
  | some o=>have:=of_hideAll _ q; rw[mk.new]at this; cases this
 have os':s'.os=s.os:=by rw[es]
 have gs':s'.gens=s.gens:=by rw[es]
 unfold noteFrame
 simp only[O.fra]
 refine wpAny_bind (wpAny_field he rfl (x:=Value.none) rfl ?_)
 rw[if_neg (by decide)]
 have FH':s.heap.FunFrames (hideAll s.heap (frs X.stack)) (X.env::X.outer):=by
  have z:=O.stk
  rw[<- z]
  exact FH
 rw[O.stk]at hfr
 refine wpAny_entryW (base:=hideAll s.heap (frs X.stack)) (a0:=.ref t) hfr (FH'.of_keeps fun b o hb _=>⟨o,mk.keeps b o hb,rfl⟩) O.fra he (fun b o z=>mk.keeps b o (of_hideAll _ z)) hen rfl (by simp) rfl fun h2 hN=>?_
 obtain⟨k1,k2,k3,k4⟩:=hN
 refine hQ h2 ⟨os',by rw[gs']; exact I.bare,fun b o z n=>n,fun b xs q=>q,fun b o u q=>q,fun b ps q=>⟨#[],by rw[q]; simp⟩,fun b o z hb=>?_,_,_,⟨k1,hen,(by have z:=O.stk; rw[<- z]at k2; exact k2),k3⟩,EG I.hok hfree,fun b o z n hb=>hideAll_get _ z hb,fun b o z hb=>⟨o,hideAll_get _ z hb⟩⟩
 obtain⟨_,o',ho,hd⟩:=hst.mem hb
 rw[z]at ho; cases ho
 exact k4 b _ (mk.keeps _ _ z) hd
def wJ (O:Own X) (hfr:A.frames=some X.stack) (F:AtX X pins σ H' s' e cls)
  (hQ:∀ H s h',Inv X pins σ H s->Fly X.prog X.w X.stack H H' s { s' with heap:=h' } e cls (rawInt X.env.locals)->Q () { s' with heap:=h' }):wpAny M A (noteFrame (.ref e) X.env) Q E s':=by
 rcases F with ⟨s,args,I,mk,es⟩ | ⟨H,s,fl,I,F,rfl | rfl⟩
 ·exact B6 O hfr I mk es fun h' F=>hQ _ _ h' I F
 ·rw[O.stk]at hfr F
  exact EO hfr O.fra F fun h' F'=>hQ H s h' I (by rw[O.stk]; exact F')
 ·refine CS O.fra F ?_
  have:=hQ H s s'.heap I F
  exact this
def Eg (O:Own X) (hfr:A.frames=some X.stack) (F:AtX X pins σ H' s' e cls)
  (hQ:∀ h',Fly X.prog X.w X.outer X.H₀ H' X.s₀ { s' with heap:=h' } e cls .none->Q () { s' with heap:=h' }):wpAny M A (leaving X.env (.ref e)) Q E s':=by
 unfold leaving
 refine wpAny_bind (wJ O hfr F fun H s h' I F'=>?_)
 refine rQ F' fun h2 F2=>hQ h2 ?_
 rw[O.stk]at F2
 have U:=I.base
 rw[O.ex]at U
 exact F2.drop O.fra I.ok.above I.os U I.ok.frf
end
abbrev XC:=Value->St->Hp->Prop
inductive XP (X:Cx) (R:XC) (e:Value) (s':Shared):Prop
 | mk:∀ (pins:Hi) (a:Addr) (cls:Value) (σ : St) (H':Hp),e = .ref a->AtX X pins σ H' s' a cls->R cls σ H'->XP X R e s'
section
variable {X:Cx} {R:XC}
def AtX.frames (F:AtX X pins σ H' s' e cls):X.A.frames=some X.stack:=by
 rcases F with ⟨s,args,I,_⟩ | ⟨H,s,fl,I,_⟩
 ·exact I.ok.frames
 ·exact I.ok.frames
def GP (O:Own X):PassesOwn (model X.prog X.w) X.A X.env (XP X R):=by
 rintro _ s' ⟨pins,a,cls,σ,H',rfl,F,q⟩
 refine wJ O F.frames F fun H s h' I F'=>?_
 unfold cameBackBy
 refine wpAny_bind (AO F' fun T=>?_)
 rw[if_neg (show ¬ ((Value.ref T == Value.none)=true) from by simp)]
 rw[O.fra]
 exact EN F' fun h2 F2=>⟨pins,a,cls,σ,H',rfl,.inr ⟨H,s,_,I,F2,.inr rfl⟩,q⟩
end
abbrev Cx.bod (X:Cx) (E:XK):Cx:=X.wish (XP X fun c _ H=>E c none H)
section
variable {X:Cx} {E E':XK}
def hV {P:Program} {w:World} {K:Hh} {mg:Hj} {base:Heap} {N:Ho} {qual:Str} {scope:Scope} {f:Addr} {cd:Value} {A:Around} {outer:List Env} {s:Shared} {H:Hp} {CX:CXT} :
  Own (wB CX P w K mg base N qual scope f cd A outer s H E):=⟨rfl,rfl,rfl⟩
def passB (hE:∀ c o H,E' c o H->E c none H):eR (CXE X.prog X.w) (X.bod E) E':=by
 intro pins σ H1 s1 e s' I ⟨a,cls,H',he,F,q⟩
 exact⟨pins,a,cls,σ,H',he,.inr ⟨H1,s1,.none,I.unwish,F,.inl rfl⟩,hE _ _ _ q⟩
def bK:eR (CXE X.prog X.w) (X.bod E) (fun c _ H=>E c none H):=passB fun _ _ _ q=>q
def bB:eR (CXE P w) X E0:=fun _ _ _ _ _ _ _ ⟨_,_,_,_,_,q⟩=>False.elim q
def Ek (X:Cx) (E:Value->Hp->Prop):Prop:=∀ (pins:Hi) (σ : St) (H:Hp) (s:Shared) (h':Heap) (e:Addr) (cls:Value) (args:Hq),Inv X pins σ H s->Heap.MadeExcOf s.heap h' e cls args->E cls H->X.xe (.ref e) { s with heap:=h' }
def eO:Ek (X.bod E) (fun c H=>E c none H):=fun pins σ H s h' e cls args I mk q=>⟨pins,e,cls,σ,H,rfl,.inl ⟨s,args,I.unwish,mk,rfl⟩,q⟩
def sD (O:Own X):PassesOwn (model X.prog X.w) X.A X.env (X.bod E).xe:=GP O
end
section
variable {P:Program} {w:World} {K:Hh} {mg:Hj} {base:Heap}
def PSs.leave {X:Cx} {E:XK} {st:List Stmt} {t:TS} (O:Own X) (hx:X.xe=fun e s'=>wpAny (model X.prog X.w) X.A (leaving X.env e) (fun _ s''=>CXE X.prog X.w X.outer X.H₀ X.s₀ E e s'') (fun e' s''=>CXE X.prog X.w X.outer X.H₀ X.s₀ E e' s'') s')
  (h:PSs (X.bod E) st t):PSs X st t:=fun pins s σ H D I hw=>
 wpAny_mono (h pins s σ H D (I.wish _) hw) (fun _ _ q=>q.unwish) fun e s' ⟨pins,a,cls,σ,H',he,F,q⟩=>by
  subst he
  rw[hx]
  exact Eg O F.frames F fun h' F'=>⟨a,cls,H',rfl,F',q⟩
def Fun.okX {x qual:Str} {st:Stmt} {f:Addr} {fd:Hs} {N ps:Ho} {k:Nat} {sp:Sp} (F:Fun K x qual st f fd) (S:FnScope N ps (cM st)) (len:∀ vs H Q E,sp vs H Q E->vs.length=ps.length)
  (hbody:∀ (cdv:Value) (A:Around) (outer:List Env) (s:Shared) (H:Hp) (vs:Hw) (Q:VK) (E:XK),Room k (A.deeper (envOfC qual (cM st) s.heap.objs.size f cdv))->sp vs H Q E->
   ∃ t,PSs ((wB (CXE P w) P w K mg base N qual (cM st) f cdv A outer s H E).bod E) (d8 st) t/\t (Ends.fn Q) (mC N vs) H):FnOk P w K mg base (CXE P w) (k+1) f fd ps sp:=by
 obtain⟨oc,od,kV,doc,pm,an,cdv,ct,osl,rfl,lk,hcd⟩:=F.ex
 refine fn_of lk hcd S len fun A outer s H vs Q E hr hsp=>?_
 obtain⟨t,h,q⟩:=hbody cdv A outer s H vs Q E hr hsp
 exact⟨t,PSs.leave hV rfl h,q⟩
end
def Fe (K:Hh) (N:Addr):Bool:=match K.lookup N with
 | some ⟨_,_,.dict es _,_⟩=>es.toList.all (fun e=>match e.key with | .str _ _=>true | _=>false) && (es.toList.find? (·.key.isStr "__init__")).isNone
 | _=>false
def A2 {K:Hh} {h:Heap} {N:Addr} (X:K.In h) (e:Fe K N=true):∃ m,h.Ns N m/\m "__init__" = none:=by
 unfold Fe at e
 split at e
 ·rename_i c d es n sl q
  rw[and_eq_true]at e
  obtain⟨e1,e2⟩:=e
  refine⟨nsFind es,⟨_,es,n,X _ _ q,rfl,fun en hen=>?_,fun _=>rfl⟩,?_⟩
  ·have z:=all_eq_true.mp e1 en (by simpa using hen)
   split at z
   ·rename_i a b hk
    exact⟨a,b,hk⟩
   ·cases z
  ·unfold nsFind findBy
   rw[<- Array.find?_toList]
   cases q2:es.toList.find? (·.key.isStr "__init__") with
   | none=>rfl
   | some v=>rw[q2]at e2; cases e2
 ·cases e
abbrev AX:Hq:=[.type "ValueError",.type "Exception",.type "BaseException",.type "object"]
def pT (K:Hh):Hq->Bool
 | []=>false
 | v::tl=>(v::tl == AX) || (match v with
  | .ref a=>(match K.lookup a with | some ⟨_,_,.cls cd,_⟩=>Fe K cd.ns | _=>false) && pT K tl
  | _=>false)
def pR {K:Hh} {h:Heap} (X:K.In h):∀ {l:Hq},pT K l=true->OwnTail h AX l
 | [],e=>by
  unfold pT at e
  cases e
 | v::tl,e=>by
  unfold pT at e
  rw[Bool.or_eq_true]at e
  rcases e with e | e
  ·rw[beq_iff_eq.mp e]
   exact .base
  ·split at e
   ·rw[and_eq_true]at e
    obtain⟨e1,e2⟩:=e
    split at e1
    ·rename_i c d cd sl q
     obtain⟨m,hn,hi⟩:=A2 X e1
     exact .own (X _ _ q) hn hi (pR X e2)
    ·cases e1
   ·cases e
def cR (K:Hh) (C:Addr):Bool:=match K.lookup C with
 | some ⟨.type "type",_,.cls cd,sl⟩=>(match cd.mro,sl.toList with
  | .ref C'::bm,[_,_,_,_,some (.builtin n),_]=>C' == C && !cd.hasDel && n == "ValueError.__new__" && Fe K cd.ns && pT K bm
  | _,_=>false)
 | _=>false
def CU {K:Hh} {h:Heap} {C:Addr} {x:Str} {mg:Hj} (X:K.In h) (hm:mg x=some (.ref C)) (q:cR K C=true):OwnCls x C AX "ValueError.__new__" mg h:=by
 unfold cR at q
 split at q
 ·rename_i dd cd sl ho
  split at q
  ·rename_i C' bm k0 k1 k2 k3 n k5 hmr hs
   simp only[and_eq_true,beq_iff_eq,not_eq_true']at q
   obtain⟨⟨⟨⟨rfl,hdel⟩,rfl⟩,hn⟩,ht⟩:=q
   obtain⟨m,hns,hni⟩:=A2 X hn
   obtain⟨nm,bs,mro,ns,qn,hd,sn,sub,ab,col,del⟩:=cd
   dsimp only at hmr hdel hns
   subst hmr hdel
   have hsl:sl = #[k0,k1,k2,k3,some (.builtin "ValueError.__new__"),k5]:=by
    obtain⟨l⟩:=sl
    simp only at hs
    rw[hs]
   subst hsl
   exact⟨hm,bm,ns,nm,qn,bs,hd,sn,sub,ab,col,dd,k0,k1,k2,k3,k5,m,X _ _ ho,hns,hni,pR X ht⟩
  ·cases q
 ·cases q
abbrev Cq (C:Addr) (E:Value->Hp->Prop):Hw->Hp->Prop:=fun vs H1=>vs.length<=sizeLine/\E (.ref C) H1
def Cr (C:Addr) (E:Value->Hp->Prop) (t:TA):TS:=fun x_0 σ H=>t σ H (Cq C E)
def dF {X:Cx} {x:Str} {C:Addr} {np cpos pos:Pos} {e₀ : Expr} {rest:List Expr} {t:TA} {E:Value->Hp->Prop} (hR:Ek X E) (hc:X.calm=true) (hC:cR X.K C=true) (hg:Gl X x) (hm:X.mg x=some (.ref C)) (ha:PA X (e₀ :: rest) t)
  (he:starEach (e₀ :: rest) X.env=(false,eval e₀ X.env)::starEach rest X.env:=by rfl) (hpl:(backTo cpos (starEach rest X.env)).any (·.1)=false:=by rfl) (hd:(x == ("__debug__" : Str))=false:=by decide) :
  PS X (.Raise (some (.Call (.Name x np) (e₀ :: rest) [] cpos)) none pos) (Cr C E t):=by
 intro pins s σ H D I h
 have O:OwnCls x C AX "ValueError.__new__" X.mg X.base:=CU I.mod.kin hm hC
 obtain⟨tl,N,nm,q,bs,hdct,sn,sub,ab,col,dd,k0,k1,k2,k3,k5,mN,hC',hN,hni,T⟩:=O.obj
 refine wpAny_Raise_call_subU (C:=C) (nm:=nm) (q:=q) (N:=N) (bs:=bs) (bm:=tl) (hdct:=hdct) (sn:=sn) (sub:=sub) (ab:=ab) (col:=col) (dd:=dd) (k0:=k0) (k1:=k1) (k2:=k2) (k3:=k3) (k5:=k5)
  PySem.F.excBase_ValueError (by decide) PySem.F.excBase_ValueError (mN:=mN) (T.hasType PySem.F.excBase_ValueError.hasBase) (I.ok.hd hc) (by rw[he]; show (false || (backTo cpos (starEach rest X.env)).any (·.1))=false; rw[hpl]; rfl) hni (iG I hg hm ⟨rfl,?_⟩ hd)
 have ha':=ha cpos pins s σ H _ I h
 rw[he]at ha' ⊢
 refine Calls.evalArgs_plain (wpAny_mono ha' (fun vs s₂ z=>?_) fun _ _ y=>y)
 obtain⟨ws,H2,I2,r2,z,q2⟩:=z
 exact⟨rfl,by rw[<- r2.length]; exact z,I2.bk _ _ hC',hN.keeps I2.bk,T.keeps I2.bk,fun h' e mk=>hR pins σ H2 s₂ h' e _ _ I2 mk q2⟩
structure Callee (P:Program) (w:World) (K:Hh) (mg:Hj) (base:Heap) (x:Str) (k:Nat) (ps:Ho) (sp:Sp):Prop where
 ex:∃ f fd,FnOk P w K mg base (CXE P w) k f fd ps sp/\mg x=some (.ref f)/\keepIn K (.ref f)=true/\iK K fd ps []
structure Method (P:Program) (w:World) (K:Hh) (mg:Hj) (base:Heap) (C:Addr) (m:Str) (k:Nat) (ps:Ho) (sp:Sp):Prop where
 ex:∃ f fd,FnOk P w K mg base (CXE P w) k f fd ps sp/\Meth K C m f/\iK K fd ps []
structure Maker (P:Program) (w:World) (K:Hh) (mg:Hj) (base:Heap) (x:Str) (C:Addr) (k:Nat) (ps:Ho) (sp:Sp):Prop where
 ex:∃ f fd,FnOk P w K mg base (CXE P w) k f fd ps sp/\Mk K C f/\mg x=some (.ref C)/\iK K fd ps []
abbrev F5 (sp:Sp) (E:XK) (Q:VK):Hw->Hp->Prop:=fun vs H1=>sp vs H1 Q E
def tFn (sp:Sp) (E:XK) (t:TA):TE:=fun σ H Q=>t σ H (F5 sp E Q)
abbrev Cu (sp:Sp) (E:XK) (Q:VK) (x:V):Hw->Hp->Prop:=fun vs H2=>sp (x::vs) H2 Q E
inductive GW (C:Addr) (m:Str) (sp:Sp) (E:XK) (t:TA) (σ : St) (Q:VK) (x:V) (H1:Hp):Prop
 | mk:∀ a dx fs,x = .ref a->H1 a=some (.ins C dx fs)->fs.lookup m=none->t σ H1 (Cu sp E Q x)->GW C m sp E t σ Q x H1
def tMe (C:Addr) (m:Str) (sp:Sp) (E:XK) (ta:TE) (t:TA):TE:=fun σ H Q=>ta σ H (GW C m sp E t σ Q)
abbrev Ct (C:Addr) (sp:Sp) (E:XK) (Q:VK):Hw->Hp->Prop:=fun vs H1=>∀ x dx,H1 x=none->H1 dx=none->dx≠x->
 sp (.ref x::vs) (upd (upd H1 dx (.own x)) x (.ins C dx [])) (fun v H2=>v = .non/\Q (.ref x) H2) E
def tMk (C:Addr) (sp:Sp) (E:XK) (t:TA):TE:=fun σ H Q=>t σ H (Ct C sp E Q)
section
variable {X:Cx} {k:Nat} {C:Addr} {ps:Ho} {sp:Sp} {E:XK} {x m:Str} {p pos apos:Pos} {e o:Expr} {es:List Expr} {ta:TE} {t:TA}
def Ba {st:St} {H:Hp} {Q:VK} (h:tFn sp E t st H Q):C1 sp [] E t st H Q:=by
 unfold C1
 unfold tFn at h
 have e:Ab sp [] E Q=F5 sp E Q:=by
  funext vs H1
  show sp (vs++[]) H1 Q E=_
  rw[append_nil]
 rw[e]
 exact h
def a5 (c:Callee X.prog X.w X.K X.mg X.base x k ps sp) (hr:Room k X.A) (hx:eR (CXE X.prog X.w) X E) (ha:PA X (e::es) t) (hg:Gl X x:=by rfl) (hdb:(x == ("__debug__" : Str))=false:=by decide)
  (he:starEach (e::es) X.env=(false,eval e X.env)::starEach es X.env:=by rfl) (hpl:(backTo pos (starEach es X.env)).any (·.1)=false:=by rfl):PE X (.Call (.Name x p) (e::es) [] pos) (tFn sp E t):=by
 obtain⟨f,fd,F,hm,hk,hb⟩:=c.ex
 intro pins s σ H Q I h
 exact FQ F hr hg hm hk hb .nil hx ha hdb he hpl pins s σ H Q I (Ba h)
def sW {st:St} {H:Hp} {Q:VK} (h:tMe C m sp E ta t st H Q):AY C m sp [] E ta t st H Q:=by
 unfold AY
 unfold tMe at h
 have e:zF C m sp [] E t st Q=GW C m sp E t st Q:=by
  funext x H1
  refine propext ⟨fun⟨a,dx,fs,h1,h2,h3,h4⟩=>⟨a,dx,fs,h1,h2,h3,?_⟩,fun⟨a,dx,fs,h1,h2,h3,h4⟩=>⟨a,dx,fs,h1,h2,h3,?_⟩⟩
  ·rw[show Cu sp E Q x=uY sp [] E Q x by funext vs H2; show _=sp (x::(vs++[])) H2 Q E; rw[append_nil]]
   exact h4
  ·rw[show uY sp [] E Q x=Cu sp E Q x by funext vs H2; show sp (x::(vs++[])) H2 Q E=_; rw[append_nil]]
   exact h4
 rw[e]
 exact h
def cP (c:Method X.prog X.w X.K X.mg X.base C m k ps sp) (cl:Cls X.K C) (hr:Room k X.A) (hx:eR (CXE X.prog X.w) X E) (ho:PE X o ta) (ha:PA X (e::es) t)
  (hst:starEach (e::es) X.env=(false,eval e X.env)::starEach es X.env:=by rfl) (hpl:(backTo pos (starEach es X.env)).any (·.1)=false:=by rfl)
  (ht:eval (.Call (.Attribute o m apos) (e::es) [] pos) X.env=(do
   let ov <- eval o X.env
   standAt apos.atName
   let (f,first) <- holding [ov] (getMethod ov m pl)
   callWith pos f first (backTo pos (starEach (e::es) X.env)) (backToKw pos (keywordEach [] X.env))):=by rfl) :
  PE X (.Call (.Attribute o m apos) (e::es) [] pos) (tMe C m sp E ta t):=by
 obtain⟨f,fd,F,hm,hb⟩:=c.ex
 intro pins s σ H Q I h
 exact FN ho cl hm F hr hb .nil hx ha hst hpl ht pins s σ H Q I (sW h)
def gH (c:Method X.prog X.w X.K X.mg X.base C m k ps sp) (cl:Cls X.K C) (hr:Room k X.A) (hx:eR (CXE X.prog X.w) X E) (ho:PE X o ta)
  (ht:eval (.Call (.Attribute o m apos) [] [] pos) X.env=(do
   let ov <- eval o X.env
   standAt apos.atName
   let (f,first) <- holding [ov] (getMethod ov m pl)
   callWith pos f first (backTo pos (starEach [] X.env)) (backToKw pos (keywordEach [] X.env))):=by rfl) :
  PE X (.Call (.Attribute o m apos) [] [] pos) (tMe C m sp E ta o7):=by
 obtain⟨f,fd,F,hm,hb⟩:=c.ex
 intro pins s σ H Q I h
 exact DV ho cl hm F hr hb .nil hx ht pins s σ H Q I (sW h)
def sX {st:St} {H:Hp} {Q:VK} (h:tMk C sp E t st H Q):AZ C sp [] E t st H Q:=by
 unfold AZ
 unfold tMk at h
 rw[show uZ C sp [] E Q=Ct C sp E Q by unfold uZ Ct; simp only[append_nil]]
 exact h
def GI (c:Maker X.prog X.w X.K X.mg X.base x C k ps sp) (hr:Room (k+1) X.A) (hx:eR (CXE X.prog X.w) X E) (ha:PA X (e::es) t) (hg:Gl X x:=by rfl) (hdb:(x == ("__debug__" : Str))=false:=by decide)
  (he:starEach (e::es) X.env=(false,eval e X.env)::starEach es X.env:=by rfl) (hpl:(backTo pos (starEach es X.env)).any (·.1)=false:=by rfl):PE X (.Call (.Name x p) (e::es) [] pos) (tMk C sp E t):=by
 obtain⟨f,fd,F,M,hm,hb⟩:=c.ex
 intro pins s σ H Q I h
 exact FO M F hr hg hm hb .nil hx ha hdb he hpl pins s σ H Q I (sX h)
end
inductive XPp (X:Cx) (pins:Hi) (R:XC) (e:Value) (s':Shared):Prop
 | mk:∀ (a:Addr) (cls:Value) (σ : St) (H':Hp),e = .ref a->AtX X pins σ H' s' a cls->R cls σ H'->XPp X pins R e s'
abbrev TX:=Ends->XC->St->Hp->Prop
abbrev TEX:=St->Hp->VK->(Value->Hp->Prop)->Prop
def PEx (X:Cx) (e:Expr) (t:TEX):Prop:=
 ∀ pins s σ H (Q:VK) (R:Value->Hp->Prop),Inv X pins σ H s->t σ H Q R->wpAny (model X.prog X.w) X.A (eval e X.env) (EP X pins σ Q) (XPp X pins fun c σ' H'=>σ' = σ/\R c H') s
def PSx (X:Cx) (st:Stmt) (t:TX):Prop:=
 ∀ pins s σ H (D:Ends) (R:XC),Inv X pins σ H s->t D R σ H->wpAny (model X.prog X.w) X.A (exec st X.env) (SP X pins D) (XPp X pins R) s
def El (X:Cx) (st:List Stmt) (t:TX):Prop:=
 ∀ pins s σ H (D:Ends) (R:XC),Inv X pins σ H s->t D R σ H->wpAny (model X.prog X.w) X.A (execs st X.env) (SP X pins D) (XPp X pins R) s
section
variable {X:Cx} {k:Nat} {C:Addr} {ps:Ho} {sp:Sp} {x m:Str} {p pos apos:Pos} {e o:Expr} {es:List Expr} {ta:TE} {t:TA}
def FB {pins:Hi} {σ : St} {H:Hp} {s:Shared} {Q:VK} {us:Hq} {vs:Hw} {f:Addr} {fd:Hs} {R:Value->Hp->Prop} (F:FnOk X.prog X.w X.K X.mg X.base (CXE X.prog X.w) k f fd ps sp) (hr:Room k X.A) (hb:iK X.K fd ps [])
  (I:Inv X pins σ H s) (r:bR vs us) (h:sp vs H Q fun c _ H'=>R c H'):wpAny (model X.prog X.w) X.A (call (.ref f) us) (EP X pins σ Q) (XPp X pins fun c σ' H'=>σ' = σ/\R c H') s:=by
 have hl:(us++[]).length=ps.length:=by rw[append_nil,<- r.length]; exact F.len _ _ _ _ h
 have hb':=hb s us I.kIn hl
 rw[append_nil]at hb'
 refine wpAny_call (codeAny_mono (F.run X.A X.stack s H ⟨us,[]⟩ us vs Q _ hr I.env0 hb' r h) fun r s' hq=>?_)
 cases r with
 | error e=>
  obtain⟨a,cls,H',he,Fl,q⟩:=hq
  exact⟨a,cls,σ,H',he,.inr ⟨H,s,.none,I,Fl,.inl rfl⟩,rfl,q⟩
 | ok fl=>
  cases fl with
  | ret u=>exact I.after hq
  | next=>exact False.elim hq
  | brk=>exact False.elim hq
  | cont=>exact False.elim hq
def G5 (ha:PA X.nox es t) (I:Inv X pins σ H s) (h:t σ H Q):wpAny (model X.prog X.w) X.A (spliced (backTo pos (starEach es X.env))) (AP X pins σ Q) E s:=
 wpAny_mono (ha pos pins s σ H Q (I.wish _) h) (fun _ _ ⟨vs,H',I',r,q⟩=>⟨vs,H',I'.unwish,r,q⟩) fun _ _ z=>False.elim z
abbrev xFn_1 (sp:Sp) (Q:VK) (R:(Value->Hp->Prop)):Hw->Hp->Prop:=fun vs H1=>sp vs H1 Q fun c _ H'=>R c H'
def xFn (sp:Sp) (t:TA):TEX:=fun σ H Q R=>t σ H (xFn_1 sp Q R)
def px_fn (c:Callee X.prog X.w X.K X.mg X.base x k ps sp) (hr:Room k X.A) (ha:PA X.nox (e::es) t) (hg:Gl X x:=by rfl) (hdb:(x == ("__debug__" : Str))=false:=by decide)
  (he:starEach (e::es) X.env=(false,eval e X.env)::starEach es X.env:=by rfl) (hpl:(backTo pos (starEach es X.env)).any (·.1)=false:=by rfl):PEx X (.Call (.Name x p) (e::es) [] pos) (xFn sp t):=by
 obtain⟨f,fd,F,hm,hk,hb⟩:=c.ex
 intro pins s σ H Q R I h
 refine wpAny_Call_Name_kw (iG I hg hm ?_ hdb)
 refine callWith_K (h₀:=X.base) I.ok.mod.kin hk (thn (G5 (pos:=pos) ha I h) fun us s1 ⟨vs,H1,I1,r,q⟩=>⟨I1.kIn,?_⟩) he hpl
 exact FB F hr hb I1 r q
variable {st:Stmt} {sts rest:List Stmt} {tS:TS} {tx ux:TX} {te:TEX}
def Gu (h:PS X.nox st tS):PSx X st (fun D _=>tS D):=fun pins s σ H D R I hw=>
 wpAny_mono (h pins s σ H D (I.wish _) hw) (fun _ _ q=>q.unwish) fun _ _ z=>False.elim z
def FI (h:PEx X e te):PSx X (.Return (some e) pos) (fun D R σ H=>te σ H D.rt (fun c H'=>R c σ H')):=by
 intro pins s σ H D R I hw
 exact wpAny_Return_some (wpAny_mono (h pins s σ H _ _ I hw) (fun v s1 ⟨x,H1,I1,r1,q1⟩=>⟨x,σ,H1,I1,r1,q1⟩) fun ev s' ⟨a,cls,σ',H',he,F,hσ,q⟩=>⟨a,cls,σ',H',he,F,by rw[hσ]; exact q⟩)
def DN:El X [] (fun D _ σ H=>D.nx σ H):=fun _ _ σ H _ _ I h=>wpAny_execs_nil ⟨σ,H,I,h⟩
def Bh (h1:PSx X st tx) (h2:El X rest ux):El X (st::rest) (fun D R σ H=>tx (D.next (ux D R)) R σ H):=by
 intro pins s σ H D R I hw
 refine wpAny_execs_cons (thn (h1 pins s σ H _ R I hw) fun f s1 q1=>?_)
 cases f with
 | next=>obtain⟨σ1,H1,I1,q⟩:=q1; exact h2 pins s1 σ1 H1 D R I1 q
 | brk=>exact q1
 | cont=>exact q1
 | ret v=>exact q1
def xR (h1:PSx X st tx):El X [st] tx:=fun pins s σ H D R I hw=>Bh h1 DN pins s σ H D R I (by
 cases D
 exact hw)
end
def Cx.hand (X:Cx) (e:Addr):Cx:={ X with A:=X.A.mark (some (.ref e)),calm:=false,xe:=fun _ _=>False }
section
variable {X:Cx} {pins:Hi} {σ : St} {H:Hp} {s:Shared} {e:Addr}
def Cx.Ok.hand (ok:X.Ok) (e:Addr):(X.hand e).Ok:=
 ⟨ok.mod,ok.kind,ok.glob,ok.blt,ok.above,ok.inj,ok.has,ok.cab,(fun z=>Bool.noConfusion z),ok.frames,ok.stk,ok.exf,ok.bs,ok.bsz,ok.noex,ok.exfs,ok.funs,ok.frf⟩
def Inv.hand (I:Inv X pins σ H s) (e:Addr):Inv (X.hand e) pins σ H s:=⟨I.ok.hand e,I.os,I.bare,I.base,I.loc,I.cell,I.free,I.freeC,I.pin,I.hok,I.len⟩
def Inv.unhand (ok:X.Ok) (I:Inv (X.hand e) pins σ H s):Inv X pins σ H s:=⟨ok,I.os,I.bare,I.base,I.loc,I.cell,I.free,I.freeC,I.pin,I.hok,I.len⟩
def SP.unhand (ok:X.Ok) (h:SP (X.hand e) pins D f s'):SP X pins D f s':=by
 cases f with
 | next=>obtain⟨σ',H',I,q⟩:=h; exact⟨σ',H',I.unhand ok,q⟩
 | brk=>obtain⟨σ',H',I,q⟩:=h; exact⟨σ',H',I.unhand ok,q⟩
 | cont=>obtain⟨σ',H',I,q⟩:=h; exact⟨σ',H',I.unhand ok,q⟩
 | ret u=>obtain⟨v,σ',H',I,r,q⟩:=h; exact⟨v,σ',H',I.unhand ok,r,q⟩
inductive PH (X:Cx):List ExceptHandler->(Value->TS)->Prop where
 | nil:PH X [] (fun _ _ _ _=>False)
 | cons {x:Str} {c:Value} {np pos:Pos} {b₀ : Stmt} {suite:List Stmt} {rest:List ExceptHandler} {t:TS} {u:Value->TS} (hg:Gl X x) (hm:X.mg x=some c) (hd:(x == ("__debug__" : Str))=false) (hs:∀ e,PSs (X.hand e) (b₀ :: suite) t) (hr:PH X rest u) :
   PH X (.ExceptHandler (some (.Name x np)) none (b₀ :: suite) pos::rest) (fun cls D σ H=>(PySem.W.exmOne X.K cls c=some true/\t D σ H)\/(PySem.W.exmOne X.K cls c=some false/\u cls D σ H))
def Fly.inv (I:Inv X pins σ H s) (F:Fly X.prog X.w X.stack H H' s s' e cls fl):Inv X pins σ H' s':=
 I.call' F.os F.un F.hok F.bare fun b z=>absurd z (by simp)
def Fly.ty (F:Fly P w l H H' s s' e cls fl):PySem.W.Looks M s'.heap (typeOf (.ref e)) cls:=by
 obtain⟨B,a0,⟨_,_,_,oe,vs,T,oT,ts,he,hc,_⟩,_⟩:=F.go
 obtain⟨hc,_⟩:=hc
 subst hc
 exact(PySem.W.Looks.ld he).andThen .now
def HR (hh:PH X hs u):∀ {H':Hp} {s':Shared} {cls:Value} {D:Ends},Inv X pins σ H s->Fly X.prog X.w X.stack H H' s s' e cls .none->u cls D σ H'->
  wpAny (model X.prog X.w) X.A (handleBy (.ref e) X.env hs) (SP X pins D) X.xe s':=by
 induction hh with
 | nil=>intro H' s' cls D I F h; exact False.elim h
 | @cons x c np pos b₀ suite rest t u hg hm hd hsu hr ih=>
  intro H' s' cls D I F h
  have I':=F.inv I
  have tst:∀ (b:Bool) {R:Bool->Shared->Prop} {E:Ht},PySem.W.exmOne X.K cls c=some b->R b s'->wpAny (model X.prog X.w) (X.A.mark (some (.ref e))) (excMatches (.ref e) c) R E s':=fun b R E z q=>
   (PySem.W.exm_one I'.kIn F.ty z).here q
  rcases h with ⟨z,h⟩ | ⟨z,h⟩
  ·refine wpAny_handleBy_cons (codeAny_handlers_test (iG (X:=X.hand e) (I'.hand e) hg hm (tst true z ?_) hd)) (by intro q; cases q)
   refine codeAny_handlers_suite (rQ F fun h2 F2=>?_)
   refine wpAny_mono (hsu e pins _ σ H' D ((F2.inv I).hand e) h) (fun f s2 q=>?_) fun _ _ z=>False.elim z
   exact SP.unhand I.ok q
  ·refine wpAny_handleBy_cons (codeAny_handlers_test (iG (X:=X.hand e) (I'.hand e) hg hm (tst false z ?_) hd)) (by intro q; cases q)
   exact ih I F h
def DO (O:Own X) (hb:El X body tx) (hh:PH X (h₀ :: hs) u):PS X (.Try body (h₀ :: hs) [] [] pos) (fun D σ H=>tx D (fun c σ' H'=>u c D σ' H') σ H):=by
 intro pins s σ H D I h
 refine wpAny_Try_except (wpAny_mono (hb pins s σ H D _ I h) (fun f s1 q=>?_) fun ev s1 ⟨a,cls,σ',H',he,F,q⟩=>?_)
 ·cases f with
  | next=>exact wpAny_execs_nil q
  | brk=>exact q
  | cont=>exact q
  | ret v=>exact q
 ·subst he
  refine wJ O F.frames F fun H s h' I' F'=>?_
  refine rQ F' fun h2 F2=>?_
  exact HR hh I' F2 q
end
section
variable {prog:Program} {w:World} {A:Around} {R:Result->Shared->Prop} {s:Shared}
def yQ (I:Nat->Shared->Prop)
  (turn:∀ n s,I n s->wpAny (model prog w) A (pyNext it) (fun r s₁=>match r with
   | none=>R (.ok .next) s₁
   | some v=>wpAny (model prog w) A (letOwnedTupleGo target it v) (fun _ s₁'=>wpAny (model prog w) A (assign target env v) (fun _ s₂=>
     wpAny (model prog w) A (forIn ifs true fun c r=>if r=true then do let ok <- isTrue c env (eval c env); pure (ForInStep.yield ok) else pure (ForInStep.yield r)) (fun ok s₃=>
      if ok=true then wpAny (model prog w) A (eval elt env) (fun x s₄=>
       wpAny (model prog w) A (call (.builtin "list.append") [acc,x]) (fun _ s₅=>∃ m,m<n/\I m s₅) (fun _ _=>False) s₄) (fun _ _=>False) s₃
      else ∃ m,m<n/\I m s₃) (fun _ _=>False) s₂) (fun _ _=>False) s₁') (fun _ _=>False) s₁) (fun _ _=>False) s)
  (n:Nat) (h:I n s) :
  codeAny (model prog w) A (.compLoop (.ListComp elt [⟨target,iter,ifs,0⟩] scope pos) 0 it acc env) R s:=by
 refine codeAny_loop rfl I (fun n s hI=>?_) n h
 show wpAny _ A ((compTurn (.ListComp elt [⟨target,iter,ifs,0⟩] scope pos) 0 it acc env).onRaise (fun x=>do noteFrame x env; theTreesLotGoes x)) _ _ s
 refine wpAny_noted ?_
 rw[compTurn_list]
 refine wpAny_noRaise ?_
 refine wpAny_bind (wpAny_standAt (wpAny_bind (wpAny_mono (turn n s hI) (fun r s₁ h₁=>?_) fun _ _ h'=>h')))
 cases r with
 | none=>exact wpAny_pure h₁
 | some v=>
  refine wpAny_bind (wpAny_mono h₁ (fun _ s₁' h₁'=>?_) fun _ _ h'=>h')
  refine wpAny_bind (wpAny_mono h₁' (fun _ s₂ h₂=>wpAny_bind (wpAny_mono h₂ (fun ok s₃ h₃=>?_) fun _ _ h'=>h')) fun _ _ h'=>h')
  cases ok with
  | false=>exact wpAny_pure ⟨rfl,h₃⟩
  | true=>
   exact wpAny_bind (wpAny_bind (wpAny_mono h₃ (fun x s₄ h₄=>wpAny_bind (wpAny_mono h₄ (fun _ s₅ h₅=>wpAny_pure (wpAny_pure ⟨rfl,h₅⟩)) fun _ _ h'=>h')) fun _ _ h'=>h'))
end
def rX (scope:Scope) (env:Env):List (Str × Addr):=(scope.names.filterMap fun y=>if y.2 == .free then (env.cells.lookup y.1).map (fun c=>(y.1,c)) else none).reverse
def rF {α β : Type} [BEq α] [LawfulBEq α] {l:List (α × β)} {x:α} {c:β} (h:l.lookup x=some c):(x,c)∈l:=by
 induction l with
 | nil=>cases h
 | cons p r ih=>
  obtain⟨a,b⟩:=p
  rw[List.lookup_cons]at h
  split at h
  ·rename_i e
   cases h
   rw[beq_iff_eq.mp e]
   exact mem_cons_self
  ·exact mem_cons_of_mem _ (ih h)
def Ft (h:(rX scope env).lookup x=some c):env.cells.lookup x=some c:=by
 have m:=rF h
 unfold rX at m
 rw[mem_reverse]at m
 obtain⟨y,_,e⟩:=List.mem_filterMap.mp m
 split at e
 ·cases q:env.cells.lookup y.1 with
  | none=>rw[q]at e; cases e
  | some d=>
   rw[q]at e
   cases e
   exact q
 ·cases e
def dC (X:Cx) (scope:Scope) (Nc:Ho) (C:Addr) (s₂ : Shared) (H₂ : Hp) (ex:List Addr):Cx where
 prog:=X.prog
 w:=X.w
 K:=X.K
 mg:=X.mg
 base:=X.base
 A:=X.A
 N:=Nc
 s₀:=s₂
 H₀:=H₂
 env:=compEnvC scope (rX scope X.env) C X.env
 outer:=X.stack
 stack:=X.stack
 ex:=ex
 fn:=fun _=>false
 calm:=X.calm
 pn:=[]
 xe:=fun _ _=>False
def kP (X:Cx) (scope:Scope) (F:List (Str × Nat)):Bool:=
 scope.names.all (fun y=>y.2 != .cell) && scope.names.all (fun y=>y.2 != .local || scope.names.lookup y.1 == some .local) &&
 (relabel scope X.env).names.all (fun y=>(y.2 != .cell && y.2 != .free) || ((rX scope X.env).lookup y.1).isSome) &&
 F.all (fun p=>X.N[p.2]? == some p.1 && (X.env.kindOf p.1 == some .cell || X.env.kindOf p.1 == some .free) && ((relabel scope X.env).names.lookup p.1 == some .cell || (relabel scope X.env).names.lookup p.1 == some .free))
def kQ (T:Ho) (F:List (Str × Nat)) (σ : St):St:=T.map (fun _=>none)++F.map (fun p=>(σ[p.2]?).join)
def dX (T:Ho) (F:List (Str × Nat)):Ho:=T++F.map (·.1)
section
variable {X:Cx} {pins:Hi} {σ : St} {H:Hp} {s:Shared} {scope:Scope} {T:Ho} {F:List (Str × Nat)} {fp:List Addr}
def AS (I:Inv X pins σ H s) (hk:scope.kind = .function) (ok:kP X scope F=true) (hf:∀ b∈fp,pE X pins H b) (ho:∀ b∈fp,∃ o,s.heap.get? b=some o) 
  (hn:h₁.Ns (s.heap.objs.size+1) (fun _=>none)) (hs:Heap.SameBut (s.heap.objs.size+1) ((s.heap.push { cls:=.type "list",data:=.seq #[] }).push { cls:=.type "dict",data:=.dict #[] }) h₁) :
  Inv (dC X scope (dX T F) (s.heap.objs.size+1) s H fp) [] (kQ T F σ) (upd H s.heap.objs.size (.lst [])) { s with heap:=h₁,toks:=t }:=by
 unfold kP at ok
 simp only[and_eq_true]at ok
 obtain⟨⟨⟨ok1,ok2⟩,ok3⟩,ok4⟩:=ok
 have nH:H s.heap.objs.size=none:=I.hok.fresh (le_refl _)
 have kp:∀ b o,s.heap.get? b=some o->h₁.get? b=some o:=fun b o e=>by
  have l:=lt_size e
  rw[hs.2 b (ne_of_lt (lt_succ_of_lt l))]
  exact get?_push_of_some _ (get?_push_of_some _ e)
 have hD:h₁.get? s.heap.objs.size=some { cls:=.type "list",data:=.seq #[] }:=by
  rw[hs.2 _ (ne_of_lt (lt_succ_self _))]
  exact get?_push_of_some _ (get?_push_size _ rfl)
 have clx:∀ x c,(rX scope X.env).lookup x=some c->X.env.cells.lookup x=some c:=fun x c e=>Ft e
 have celt:∀ x c,X.env.cells.lookup x=some c->c<s.heap.objs.size:=fun x c e=>by
  obtain⟨v,o,ho,_⟩:=I.cell x c e
  exact lt_size ho
 have OK:(dC X scope (dX T F) (s.heap.objs.size+1) s H fp).Ok:=by
  refine⟨I.ok.mod,hk,I.ok.glob,I.ok.blt,le_succ _,fun x y c e1 e2=>I.ok.inj x y c (clx _ _ e1) (clx _ _ e2),fun x hx=>?_,(fun x c z=>Bool.noConfusion z),I.ok.hd,I.ok.frames,.inl rfl,fun b hb=>⟨?_,fun x c e=>?_⟩,I.bs,?_,fun b o e hb=>?_,fun b hb hb2=>?_,I.stack,I.stkFree⟩
  ·have hx:(relabel scope X.env).names.lookup x=some .cell\/(relabel scope X.env).names.lookup x=some .free:=hx
   have q:∀ k,(relabel scope X.env).names.lookup x=some k->(k = .cell\/k = .free)->((rX scope X.env).lookup x).isSome=true:=fun k e hk=>by
    have z:=all_eq_true.mp ok3 (x,k) (rF e)
    rcases hk with rfl | rfl
    ·simpa using z
    ·simpa using z
   rcases hx with hx | hx
   ·exact isSome_iff_exists.mp (q _ hx (.inl rfl))
   ·exact isSome_iff_exists.mp (q _ hx (.inr rfl))
  ·obtain⟨o,e⟩:=ho b hb
   exact ne_of_lt (lt_succ_of_lt (lt_size e))
  ·exact(hf b hb).2.2.2.2.1 x c (clx x c e)
  ·exact le_trans I.ok.bsz I.sz
  ·obtain⟨_,_,_,h4,_⟩:=hf b hb
   rcases h4 with h4 | h4
   ·exact I.ok.noex b o e h4
   ·exact absurd (lt_of_lt_of_le (lt_size e) (le_trans I.ok.bsz h4)) (lt_irrefl _)
  ·rcases mem_cons.mp (I.stkSub b hb2) with z | z
   ·exact(hf b hb).2.1 z
   ·exact(hf b hb).2.2.1 z
 refine⟨OK,rfl,I.bare,Un.laid kp (le_refl _) nH,⟨_,hn,fun i x v e1 e2 hv=>?_⟩,fun x c e=>?_,?_,fun x c e=>?_,fun p hp=>absurd (show p∈([]:Hi) from hp) (by simp),?_,?_⟩
 ·have e1:(dX T F)[i]? = some x:=e1
  unfold dX at e1
  unfold kQ at e2
  by_cases hi:i<T.length
  ·rw[getElem?_append_left (by simpa using hi),getElem?_map]at e2
   cases q:T[i]? with
   | none=>rw[q]at e2; cases e2
   | some z=>rw[q]at e2; cases e2
  ·rw[getElem?_append_right (by simpa using hi),getElem?_map]at e2
   rw[getElem?_append_right (by simpa using hi),getElem?_map]at e1
   rw[length_map]at e2
   cases q:F[i - T.length]? with
   | none=>rw[q]at e2; cases e2
   | some p=>
    rw[q]at e1 e2
    have e1:p.1=x:=Option.some.inj e1
    have e2:(σ[p.2]?).join=some v:=Option.some.inj e2
    subst e1
    have z:=all_eq_true.mp ok4 p (mem_of_getElem? q)
    simp only[and_eq_true,Bool.or_eq_true,beq_iff_eq]at z
    obtain⟨⟨z1,z2⟩,z3⟩:=z
    have e3:σ[p.2]? = some (some v):=by
     cases q2:σ[p.2]? with
     | none=>rw[q2]at e2; cases e2
     | some y=>rw[q2]at e2; exact congrArg some e2
    obtain⟨m,hm,hl⟩:=I.loc
    obtain⟨u,ru,lk⟩:=hl p.2 p.1 v z1 e3 (by rcases z2 with z2 | z2; exact .inr (.inl z2); exact .inr (.inr z2))
    refine⟨u,ru,.inr ⟨z3,?_⟩⟩
    have hc:∃ c,(rX scope X.env).lookup p.1=some c:=OK.has p.1 z3
    obtain⟨c,hc⟩:=hc
    refine⟨c,hc,?_⟩
    rcases lk with ⟨lk,_⟩ | ⟨_,c',hc',hcell⟩
    ·rcases z2 with z2 | z2
     ·rw[z2]at lk; cases lk
     ·rw[z2]at lk; cases lk
    ·rw[clx _ _ hc]at hc'
     cases hc'
     exact hcell.keeps kp
 ·obtain⟨v,q⟩:=I.cell x c (clx x c e)
  exact⟨v,q.keeps kp⟩
 ·show upd H s.heap.objs.size (.lst []) (s.heap.objs.size+1)=none
  rw[aE (ne_of_gt (lt_succ_self _))]
  exact I.hok.fresh (le_succ _)
 ·have l:=celt x c (clx x c e)
  show upd H s.heap.objs.size (.lst []) c=none
  rw[aE (ne_of_lt l)]
  exact I.freeC x c (clx x c e)
 ·exact I.hok.laid kp (le_refl _) ⟨zero_le _,[],0,.nil,hD⟩
 ·show (kQ T F σ).length=(dX T F).length
  unfold kQ dX
  simp
def yR (T:Ho) (F:List (Str × Nat)) (g:TG) (tc:TT) (te:TE) (σ : St) (Q:VK) (J:It) (H1:Hp):Prop:=∀ D,H1 D=none->∃ W:Nat->Nat->Hw->St->Hp->Prop,(∃ m,W 0 m [] (kQ T F σ) (upd H1 D (.lst [])))/\
 ∀ i m ys σc H2,W i m ys σc H2->H2 D=some (.lst ys)/\((J.stop i H2/\Q (.ref D) H2)\/(J.go i H2/\ys.length<sizeLine/\∀ x H3,J.yld i H2 x H3->g x σc H3 fun σ4 H4=>tc σ4 H4 fun b H5=>
  if b=true then te σ4 H5 fun y H6=>H6 D=some (.lst ys)/\∃ m',m'<m/\W (i+1) m' (ys++[y]) σ4 (upd H6 D (.lst (ys++[y]))) else ∃ m',m'<m/\W (i+1) m' ys σ4 H5))
def F8 (T:Ho) (F:List (Str × Nat)) (wi:TI) (g:TG) (tc:TT) (te:TE):TE:=fun σ H Q=>wi σ H (yR T F g tc te σ Q)
def PIf (X:Cx) (ifs:List Expr) (t:TT):Prop:=
 ∀ pins s σ H (Q:Bool->Hp->Prop),Inv X pins σ H s->t σ H Q->wpAny (model X.prog X.w) X.A (forIn ifs true fun c r=>if r=true then do let ok <- isTrue c X.env (eval c X.env); pure (ForInStep.yield ok) else pure (ForInStep.yield r)) (TP X pins σ Q) X.xe s
def Co:TT:=fun _ H Q=>Q true H
def FK {X:Cx}:PIf X [] Co:=fun pins s σ H Q I h=>wpAny_tests_nil ⟨H,I,h⟩
def yP (I:Inv X pins σ H2 s2) (hf:∀ b∈fp,pE X pins H2 b) (I':Inv (dC X scope Nc (s2.heap.objs.size+1) s2 H2 fp) [] σc H' s') (hs:Heap.SameBut (s2.heap.objs.size+1) s'.heap h'):Inv X pins σ H' { s' with heap:=h' }:=by
 have U:Un (frs X.stack) fp H2 H' s2.heap s'.heap:=I'.base
 have ne:∀ b o,s2.heap.get? b=some o->b≠s2.heap.objs.size+1:=fun b o e=>ne_of_lt (lt_succ_of_lt (lt_size e))
 have free:H' (s2.heap.objs.size+1)=none:=I'.free
 refine I.call' (s':={ s' with heap:=h' }) (ch:=fp) I'.os ⟨fun b o q n hb hc=>(hs.2 b (ne b o q)).trans (U.keep b o q n hb hc),fun b o q n hb hc=>?_,U.free,fun b o q hc=>?_,U.tups,U.frzs,U.tbls⟩ ?_ I'.bare fun b hb=>?_
 ·obtain⟨sl,z⟩:=U.slot b o q n hb hc
  exact⟨sl,(hs.2 b (ne b o q)).trans z⟩
 ·obtain⟨o',z⟩:=U.there b o q hc
  exact⟨o',(hs.2 b (ne b o q)).trans z⟩
 ·intro a o e
  refine(I'.hok a o e).stay (fun b u hb q=>(hs.2 b ?_).trans q) (fun _ q=>q) fun _ _ q=>q
  rintro rfl
  rcases hb with hb | hb
  ·rw[<- hb,free]at e; cases e
  ·rw[free]at hb; cases hb
 ·obtain⟨f0,f1,f2,f3,f4,f5⟩:=hf b hb
  exact⟨f3,f1,f4,f5⟩
def uL {elt tg iter:Expr} {ifs:List Expr} {pos:Pos} {g:TG} {tc:TT} {te:TE} {J:It} {it:Addr} {tn:Nat->Heap->Prop} {s2:Shared} {H2:Hp} {RR:Value->Addr->Result->Shared->Prop} {E:Ht} {Q:Addr->Hp->Prop}
  (hc:X.calm=true) (hk:scope.kind = .function) (ok:kP X scope F=true)
  (hg:∀ C s₂ H₂ ex,PG (dC X scope (dX T F) C s₂ H₂ ex) tg g) (hif:∀ C s₂ H₂ ex,PIf (dC X scope (dX T F) C s₂ H₂ ex) ifs tc) (he:∀ C s₂ H₂ ex,PE (dC X scope (dX T F) C s₂ H₂ ex) elt te)
  (I2:Inv X pins σ H2 s2) (Tn:Turn X.prog X.w X.K tg J fp it tn) (st2:tn 0 s2.heap) (f2:∀ b∈fp,pE X pins H2 b)
  (h3:∀ D,H2 D=none->∃ W:Nat->Nat->Hw->St->Hp->Prop,(∃ m,W 0 m [] (kQ T F σ) (upd H2 D (.lst [])))/\
   ∀ i m ys σc H2,W i m ys σc H2->H2 D=some (.lst ys)/\((J.stop i H2/\Q D H2)\/(J.go i H2/\ys.length<sizeLine/\∀ x H3,J.yld i H2 x H3->g x σc H3 fun σ4 H4=>tc σ4 H4 fun b H5=>
    if b=true then te σ4 H5 fun y H6=>H6 D=some (.lst ys)/\∃ m',m'<m/\W (i+1) m' (ys++[y]) σ4 (upd H6 D (.lst (ys++[y]))) else ∃ m',m'<m/\W (i+1) m' ys σ4 H5)))
  (hRR:∀ D s' σc H',Inv (dC X scope (dX T F) (s2.heap.objs.size+1) s2 H2 fp) [] σc H' s'->Q D H'->RR (.ref D) (s2.heap.objs.size+1) (.ok .next) s') :
  wpAny (model X.prog X.w) X.A (newList []) (fun acc s₃=>wpAny (model X.prog X.w) X.A (newFunctionEnv scope X.env.globals (rX scope X.env) [] X.env.qual none .none (some X.env)) (fun cenv s₄=>
   codeAny (model X.prog X.w) X.A (.compStart (.ListComp elt [⟨tg,iter,ifs,0⟩] scope pos) 0 (.ref it) acc { cenv with scope:=relabel scope X.env }) (RR acc cenv.locals) s₄) E s₃) E s2:=by
 have ok':=ok
 unfold kP at ok'
 simp only[and_eq_true]at ok'
 obtain⟨⟨⟨ok1,ok2⟩,ok3⟩,ok4⟩:=ok'
 have hcell:∀ y∈scope.names,y.2 ≠ .cell:=fun y hy z=>by
  have:=all_eq_true.mp ok1 y hy
  rw[z]at this
  cases this
 refine wpAny_newObj_type (wpAny_newFunctionEnv hcell (by intro y hy; simp at hy) (fun h₁ hns₁ hsb₁=>?_) hk)
 dsimp only at hns₁ hsb₁ ⊢
 have hsz:(s2.heap.push { cls:=.type "list",dict:=none,data:=.seq ([]:Hq).toArray }).objs.size=s2.heap.objs.size+1:=size_push _ _
 rw[hsz]at hns₁ hsb₁ ⊢
 have I3:Inv (dC X scope (dX T F) (s2.heap.objs.size+1) s2 H2 fp) [] (kQ T F σ) (upd H2 s2.heap.objs.size (.lst [])) { s2 with heap:=h₁,toks:=s2.toks+([]:List (Str × Value)).length }:=
  AS I2 hk ok f2 (fun b hb=>let ⟨o,e,_⟩:=Tn.obj _ _ st2 b hb; ⟨o,e⟩) hns₁ hsb₁
 obtain⟨W,⟨m0,w0⟩,turn⟩:=h3 s2.heap.objs.size (I2.hok.fresh (le_refl _))
 have stat:∀ {H':Hp},(∀ b∈fp,H' b=none)->∀ b∈fp,pE (dC X scope (dX T F) (s2.heap.objs.size+1) s2 H2 fp) [] H' b:=fun {H'} hn b hb=>
  ⟨hn b hb,(I3.ok.exf b hb).1,I3.ok.exfs b hb,.inl hb,(I3.ok.exf b hb).2,fun p hp=>absurd (show p∈([]:Hi) from hp) (by simp)⟩
 have st3:tn 0 h₁:=Tn.keep _ _ _ st2 fun b hb o e=>by
  have l:=lt_size e
  rw[hsb₁.2 b (ne_of_lt (lt_succ_of_lt l))]
  exact get?_push_of_some _ (get?_push_of_some _ e)
 have fr3:∀ b∈fp,(upd H2 s2.heap.objs.size (.lst [])) b=none:=fun b hb=>by
  obtain⟨o,e,_⟩:=Tn.obj _ _ st2 b hb
  rw[aE (ne_of_lt (lt_size e))]
  exact(f2 b hb).1
 have loop:codeAny (model X.prog X.w) X.A (.compLoop (.ListComp elt [⟨tg,iter,ifs,0⟩] scope pos) 0 (.ref it) (.ref s2.heap.objs.size) (compEnvC scope (rX scope X.env) (s2.heap.objs.size+1) X.env))
   (RR (.ref s2.heap.objs.size) (s2.heap.objs.size+1)) { s2 with heap:=h₁,toks:=s2.toks+([]:List (Str × Value)).length }:=by
  refine yQ (fun n s'=>∃ i ys σ' H',Inv (dC X scope (dX T F) (s2.heap.objs.size+1) s2 H2 fp) [] σ' H' s'/\tn i s'.heap/\(∀ b∈fp,H' b=none)/\W i n ys σ' H') ?_ m0 ⟨0,[],_,_,I3,st3,fr3,w0⟩
  rintro n s4 ⟨i,ys,σ4,H4,I4,st4,fr4,w4⟩
  obtain⟨hD,go⟩:=turn i n ys σ4 H4 w4
  rcases go with ⟨stop,qn⟩ | ⟨go,hz,step⟩
  ·refine thn (Tn.done (dC X scope (dX T F) (s2.heap.objs.size+1) s2 H2 fp) rfl rfl rfl hc i [] s4 σ4 H4 (fun _ _=>False) I4 (stat fr4) st4 stop) fun r s5 zQq=>?_
   obtain⟨hr,I5⟩:=zQq
   subst hr
   exact hRR _ s5 σ4 H4 I5 qn
  ·refine thn (Tn.item (dC X scope (dX T F) (s2.heap.objs.size+1) s2 H2 fp) rfl rfl rfl hc i [] s4 σ4 H4 (fun _ _=>False) I4 (stat fr4) st4 go) fun r s5 zQq=>?_
   obtain⟨u,hr,h5⟩:=zQq
   subst hr
   refine thn h5 fun _ s6 zQq=>?_
   obtain⟨x,H6,I6,r6,y6,st6,fr6⟩:=zQq
   have I6':=I6.pinned (stat fr6) (Tn.obj _ _ st6)
   refine thn (hg _ _ _ _ _ s6 σ4 H6 x u _ I6' r6 (step x H6 y6)) fun _ s7 zQq=>?_
   obtain⟨σ7,H7,I7,q7⟩:=zQq
   refine thn (hif _ _ _ _ _ s7 σ7 H7 _ I7 q7) fun b s8 zQq=>?_
   obtain⟨H8,I8,q8⟩:=zQq
   have again:∀ {s9:Shared} {σ9:St} {H9:Hp} {zs:Hw},Inv (dC X scope (dX T F) (s2.heap.objs.size+1) s2 H2 fp) ([]++qT fp s6.heap) σ9 H9 s9->(∃ m',m'<n/\W (i+1) m' zs σ9 H9)->
     ∃ m,m<n/\∃ i ys σ' H',Inv (dC X scope (dX T F) (s2.heap.objs.size+1) s2 H2 fp) [] σ' H' s9/\tn i s9.heap/\(∀ b∈fp,H' b=none)/\W i m ys σ' H':=fun {s9 σ9 H9 zs} I9 ⟨m',hm,w9⟩=>by
    refine⟨m',hm,i+1,zs,σ9,H9,I9.unpinned,Tn.keep _ _ _ st6 fun b hb o e=>(I9.pin (b,o) (mem_append_right _ (mem_append_right _ (jM hb e)))).1,fun b hb=>?_,w9⟩
    obtain⟨o,e,d⟩:=Tn.obj _ _ st6 b hb
    exact(I9.pin (b,o) (mem_append_right _ (mem_append_right _ (jM hb e)))).2.1
   cases b with
   | false=>
    rw[if_neg Bool.false_ne_true]at q8 ⊢
    exact again I8 q8
   | true=>
    rw[if_pos rfl]at q8 ⊢
    refine thn (he _ _ _ _ _ s8 σ7 H8 _ I8 q8) fun uy s9 zQq=>?_
    obtain⟨y,H9,I9,r9,hD9,q9⟩:=zQq
    refine thn (lB _ s9 σ7 H9 (.ref s2.heap.objs.size) [y] (.ref s2.heap.objs.size) [uy] (fun _ H'=>∃ m',m'<n/\W (i+1) m' (ys++[y]) σ7 H') I9 rfl (.cons r9 .nil) ⟨_,ys,y,rfl,rfl,hD9,hz,q9⟩) fun _ s10 zQq=>?_
    obtain⟨_,H10,I10,_,q10⟩:=zQq
    exact again I10 q10
 exact codeAny_compStart_list loop (Tn.self _ 0 _ _ _ st3 loop)
def fB {elt tg iter:Expr} {ifs:List Expr} {pos:Pos} {wi:TI} {g:TG} {tc:TT} {te:TE} (T:Ho) (F:List (Str × Nat)) (hc:X.calm=true) (hi:PI X tg iter wi)
  (hg:∀ C s₂ H₂ ex,PG (dC X scope (dX T F) C s₂ H₂ ex) tg g) (hif:∀ C s₂ H₂ ex,PIf (dC X scope (dX T F) C s₂ H₂ ex) ifs tc) (he:∀ C s₂ H₂ ex,PE (dC X scope (dX T F) C s₂ H₂ ex) elt te)
  (hclos:closureFor scope X.env=pure (rX scope X.env):=by rfl) (hk:scope.kind = .function:=by rfl) (ok:kP X scope F=true:=by rfl) (hs:∀ x,foldedSetIterable iter X.env x=pure x:=by intro _; rfl) :
  PE X (.ListComp elt [⟨tg,iter,ifs,0⟩] scope pos) (F8 T F wi g tc te):=by
 intro pins s σ H Q I h
 have ok':=ok
 unfold kP at ok'
 simp only[and_eq_true]at ok'
 obtain⟨⟨⟨ok1,ok2⟩,ok3⟩,ok4⟩:=ok'
 have hnames:∀ x∈scope.names,x.2 = .local->scope.names.lookup x.1=some .local:=fun x hx z=>by
  have:=all_eq_true.mp ok2 x hx
  rw[z]at this
  simpa using this
 rw[eval_ListComp]
 refine wpAny_comprehension_free (use:=none) rfl hs hclos hk hnames (thn (hi pins s σ H _ I h) fun v s1 h1=>thn h1 fun itv s2 h2=>?_)
 obtain⟨it,fp,tn,J,H2,e,I2,Tn,st2,f2,h3⟩:=h2
 subst e
 refine uL (RR:=fun acc C=>compPost (model X.prog X.w) X.A X.xe none (EP X pins σ Q) acc C) (Q:=fun D H'=>Q (.ref D) H') hc hk ok hg hif he I2 Tn st2 f2 h3 fun D s' σc H' I' q=>?_
 obtain⟨m,hn,_⟩:=I'.loc
 exact⟨m,hn,fun h' hs'=>⟨.ref D,H',yP I2 f2 I' hs',rfl,q⟩⟩
def FJ {y:Str} {i:Nat} {py spos:Pos} {elt tg iter:Expr} {ifs:List Expr} {pos:Pos} {wi:TI} {g:TG} {tc:TT} {te:TE} (T:Ho) (F:List (Str × Nat)) (hN:X.N.Nodup) (hy:X.N[i]? = some y) (hx:Loc X.env.scope y) (hc:X.calm=true) (hi:PI X tg iter wi)
  (hg:∀ C s₂ H₂ ex,PG (dC X scope (dX T F) C s₂ H₂ ex) tg g) (hif:∀ C s₂ H₂ ex,PIf (dC X scope (dX T F) C s₂ H₂ ex) ifs tc) (he:∀ C s₂ H₂ ex,PE (dC X scope (dX T F) C s₂ H₂ ex) elt te)
  (hsw:swapsWith (.ListComp elt [⟨tg,iter,ifs,0⟩] scope pos) (some (.Name y py)) spos.line X.env=pure true:=by rfl)
  (hclos:closureFor scope X.env=pure (rX scope X.env):=by rfl) (hk:scope.kind = .function:=by rfl) (ok:kP X scope F=true:=by rfl) (hs:∀ x,foldedSetIterable iter X.env x=pure x:=by intro _; rfl)
  (hfn:X.fn y=true\/X.env.scope.names.lookup y=some .local:=by first | exact .inl rfl | exact .inr rfl | assumption) :
  PS X (.Assign [.Name y py] (.ListComp elt [⟨tg,iter,ifs,0⟩] scope pos) spos) (fun D σ H=>F8 T F wi g tc te σ H fun v H'=>D.nx (σ.set i (some v)) H'):=by
 intro pins s σ H D I h
 have ok':=ok
 unfold kP at ok'
 simp only[and_eq_true]at ok'
 obtain⟨⟨⟨ok1,ok2⟩,ok3⟩,ok4⟩:=ok'
 have hnames:∀ x∈scope.names,x.2 = .local->scope.names.lookup x.1=some .local:=fun x hx z=>by
  have:=all_eq_true.mp ok2 x hx
  rw[z]at this
  simpa using this
 rw[exec_Assign_Name_used _ _ _ _ hsw]
 refine wpAny_bind (wpAny_standAt (wpAny_bind ?_))
 show wpAny _ X.A (do let _ <- comprehension (.ListComp elt [⟨tg,iter,ifs,0⟩] scope pos) scope X.env _ (newList []) false (eval iter X.env) (some (assign (.Name y py) X.env))) _ _ s
 refine wpAny_bind (wpAny_mono (wpAny_comprehension_free (use:=some (assign (.Name y py) X.env)) (Q:=fun _ s'=>SP X pins D .next s') rfl hs hclos hk hnames
  (thn (hi pins s σ H _ I h) fun v s1 h1=>thn h1 fun itv s2 h2=>?_)) (fun _ s' hq=>wpAny_pure (wpAny_pure hq)) fun _ _ e=>e)
 obtain⟨it,fp,tn,J,H2,e,I2,Tn,st2,f2,h3⟩:=h2
 subst e
 refine uL (RR:=fun acc C=>compPost (model X.prog X.w) X.A X.xe (some (assign (.Name y py) X.env)) (fun _ s'=>SP X pins D .next s') acc C) (Q:=fun Dd H'=>D.nx (σ.set i (some (.ref Dd))) H') hc hk ok hg hif he I2 Tn st2 f2 h3 fun Dd s' σc H' I' q=>?_
 have I3:Inv X pins σ H' s':=yP I2 f2 I' ⟨rfl,fun _ _=>rfl⟩
 obtain⟨m,hn,_⟩:=I'.loc
 obtain⟨oC,es,ep,hoC,hdC,hkC,hmC⟩:=hn
 have fC:H' (s2.heap.objs.size+1)=none:=I'.free
 have hle:s2.heap.objs.size<=s2.heap.objs.size+1:=le_succ _
 have F0:=I2.fpOk (H':=H') hle fC
 obtain⟨g0,g1,g2,g3,g4,g5⟩:=F0
 have I4:Inv X (pins++[(s2.heap.objs.size+1,oC)]) σ H' s':=I3.pins_of fun p hp=>(mem_append.mp hp).elim (fun z=>I3.pin p (mem_append_right _ z)) fun z=>by
  have e:p=(s2.heap.objs.size+1,oC):=by simpa using z
  subst e
  exact⟨hoC,fC,g1,g2,fun v z=>by rw[hdC]at z; cases z⟩
 show wpAny _ X.A (assign (.Name y py) X.env (.ref Dd)) _ _ _
 refine thn (cH (pos:=py) hN hy hx hfn _ s' σ H' (.ref Dd) (.ref Dd) _ I4 rfl (show BD i (.ref Dd) σ H' D.nx from q)) fun _ s5 zQq=>?_
 obtain⟨σ5,H5,I5,q5⟩:=zQq
 have p5:=I5.pin (s2.heap.objs.size+1,oC) (mem_append_right _ (mem_append_right _ (by simp)))
 refine⟨m,⟨oC,es,ep,p5.1,hdC,hkC,hmC⟩,fun h' hs'=>?_⟩
 refine⟨σ5,H5,?_,q5⟩
 have I6:=I5.unpinned
 exact I6.turned (it:=s2.heap.objs.size+1) (t':=s5.toks) (fun b o hb e=>(hs'.2 b hb).trans e) p5.2.1 g1 g3 g4 g5
end
mutual
def Den (H:Hp):PyData->V->Prop
 | .none,v=>v = .non
 | .bool b,v=>v = .bl b
 | .int i,v=>v = .int i
 | .str x,v=>v = .str x
 | .tuple ds,v=>∃ a xs,v = .ref a/\H a=some (.tup xs)/\aW H ds xs
 | .list ds,v=>∃ a xs,v = .ref a/\H a=some (.lst xs)/\aW H ds xs
 | .dict _,_=>False
def aW (H:Hp):Hr->Hw->Prop
 | [],xs=>xs=[]
 | d::ds,xs=>∃ x r,xs=x::r/\Den H d x/\aW H ds r
end
section
variable {X:Cx} {pins:Hi} {σ : St} {H H':Hp} {s:Shared} {K:Hh}
def aD.seqT (e:aD H H') (h:SqT K H a xs):SqT K H' a xs:=by
 rcases h with (h | ⟨o,h⟩) | h
 ·exact .inl (.inl (e _ _ h))
 ·exact .inl (.inr ⟨o,e _ _ h⟩)
 ·exact .inr h
mutual
def Den.same (e:aD H H'):∀ {d:PyData} {v:V},Den H d v->Den H' d v
 | .none,v,h=>by simp only[Den]at h ⊢; exact h
 | .bool b,v,h=>by simp only[Den]at h ⊢; exact h
 | .int i,v,h=>by simp only[Den]at h ⊢; exact h
 | .str x,v,h=>by simp only[Den]at h ⊢; exact h
 | .tuple ds,v,h=>by
  simp only[Den]at h ⊢
  obtain⟨a,xs,e1,h1,h2⟩:=h
  exact⟨a,xs,e1,e _ _ h1,aW.same e h2⟩
 | .list ds,v,h=>by
  simp only[Den]at h ⊢
  obtain⟨a,xs,e1,h1,h2⟩:=h
  exact⟨a,xs,e1,e _ _ h1,aW.same e h2⟩
 | .dict _,v,h=>by simp only[Den]at h
def aW.same (e:aD H H'):∀ {ds:Hr} {xs:Hw},aW H ds xs->aW H' ds xs
 | [],xs,h=>by simp only[aW]at h ⊢; exact h
 | d::ds,xs,h=>by
  simp only[aW]at h ⊢
  obtain⟨x,r,e1,h1,h2⟩:=h
  exact⟨x,r,e1,Den.same e h1,aW.same e h2⟩
end
mutual
def fM (I:Inv X pins σ H s):∀ {d:PyData} {v:V} {u:Value},Den H d v->bY v u->∃ as,Reads s.heap u d as
 | .none,v,u,h,r=>by
  simp only[Den]at h
  subst h
  cases (show u=Value.none from r)
  exact⟨_,.none⟩
 | .bool b,v,u,h,r=>by
  simp only[Den]at h
  subst h
  cases (show u=Value.bool b from r)
  exact⟨_,.bool b⟩
 | .int i,v,u,h,r=>by
  simp only[Den]at h
  subst h
  obtain⟨t,e⟩:=(show ∃ t,u=Value.int i t from r)
  subst e
  exact⟨_,.int i t⟩
 | .str x,v,u,h,r=>by
  simp only[Den]at h
  subst h
  obtain⟨t,e⟩:=(show ∃ t,u=Value.str x t from r)
  subst e
  exact⟨_,.str x t⟩
 | .tuple ds,v,u,h,r=>by
  simp only[Den]at h
  obtain⟨a,xs,e1,h1,h2⟩:=h
  subst e1
  cases (show u=Value.ref a from r)
  obtain⟨its,rv,⟨o,ho,hc,n,hd⟩,_⟩:=I.tuple (SqT.of h1)
  obtain⟨as,ra⟩:=l5 I h2 rv
  exact⟨as,.tuple ho hc hd (by simpa using ra)⟩
 | .list ds,v,u,h,r=>by
  simp only[Den]at h
  obtain⟨a,xs,e1,h1,h2⟩:=h
  subst e1
  cases (show u=Value.ref a from r)
  obtain⟨its,rv,⟨o,n,ho,hc,_,hd⟩,_⟩:=I.list (SqL.of h1)
  obtain⟨as,ra⟩:=l5 I h2 rv
  exact⟨a::as,.list ho hc hd (by simpa using ra)⟩
 | .dict _,v,u,h,r=>by simp only[Den]at h
def l5 (I:Inv X pins σ H s):∀ {ds:Hr} {xs:Hw} {us:Hq},aW H ds xs->bR xs us->∃ as,ReadsAll s.heap us ds as
 | [],xs,us,h,r=>by
  simp only[aW]at h
  subst h
  cases r
  exact⟨_,.nil⟩
 | d::ds,xs,us,h,r=>by
  simp only[aW]at h
  obtain⟨x,rr,e1,h1,h2⟩:=h
  subst e1
  cases r with
  | cons r1 r2=>
   obtain⟨as,ra⟩:=fM I h1 r1
   obtain⟨bs,rb⟩:=l5 I h2 r2
   exact⟨_,.cons ra rb⟩
end
end
section
variable {X:Cx}
inductive rEqD (x:V) (y:V) (H:Hp) (Q:VK):Prop
 | mk:∀ d e,Den H d x->Den H e y->SeqAt.shaped d=true->SeqAt.shaped e=true->Q (.bl (PyData.eqv d e)) H->rEqD x y H Q
inductive FE (x:V) (y:V) (H:Hp) (Q:VK):Prop
 | mk:∀ d e,Den H d x->Den H e y->SeqAt.shaped d=true->SeqAt.shaped e=true->Q (.bl (!PyData.eqv d e)) H->FE x y H Q
def Db (hu:X.A.units+64<cLine):OpR X (compareOp .Eq) rEqD:=by
 intro pins s σ H x y v u Q I rx ry h
 obtain⟨d,e,h1,h2,s1,s2,q⟩:=h
 obtain⟨as,ra⟩:=fM I h1 rx
 obtain⟨bs,rb⟩:=fM I h2 ry
 exact eq_dataH ra rb s1 s2 hu ⟨.bl _,H,I,rfl,q⟩
def vM (hu:X.A.units+64<cLine):OpR X (compareOp .NotEq) FE:=by
 intro pins s σ H x y v u Q I rx ry h
 obtain⟨d,e,h1,h2,s1,s2,q⟩:=h
 obtain⟨as,ra⟩:=fM I h1 rx
 obtain⟨bs,rb⟩:=fM I h2 ry
 exact ne_dataH ra rb s1 s2 hu ⟨.bl _,H,I,rfl,q⟩
inductive Gr (K:Hh) (xs:Hw) (H:Hp) (Q:VK):Prop
 | mk:∀ x n t b,xs=[x,.ty n]->nK K H x t->PySem.W.kitOne K t (.type n)=some b->Q (.bl b) H->Gr K xs H Q
def Ea:fH X (.builtin "isinstance") (Gr X.K):=by
 intro pins s σ H xs us Q I r h
 obtain⟨x,n,t,b,rfl,ty,hk,q⟩:=h
 cases r with
 | cons r1 r2=>
  cases r2 with
  | cons r2 r3=>
   cases r3
   cases (show _=Value.type n from r2)
   exact CI I r1 ty hk fun tk=>⟨.bl b,H,I.tok tk,rfl,q⟩
def aI (h:H p=none):aD H (upd H p o):=fun b u e=>by
 rw[aE (a8 e h)]
 exact e
inductive GH (x:V) (y:V) (H:Hp) (Q:VK):Prop
 | mk:∀ a b xs ys,x = .ref a->y = .ref b->H a=some (.tup xs)->H b=some (.tup ys)->xs.length+ys.length<=sizeLine->(∀ p H',aD H H'->H' p=some (.tup (xs++ys))->Q (.ref p) H')->GH x y H Q
def mW:OpR X (binaryOp .Add) GH:=by
 intro pins s σ H x y v u Q I rx ry h
 obtain⟨a,b,xs,ys,rfl,rfl,ha,hb,hz,q⟩:=h
 by_cases hx:xs=[]
 ·subst hx
  cases (show v=Value.ref a from rx)
  cases (show u=Value.ref b from ry)
  obtain⟨its,r1,p1,_⟩:=I.tuple (SqT.of ha)
  obtain⟨its2,r2,p2,_⟩:=I.tuple (SqT.of hb)
  cases r1
  obtain⟨⟨cls,dd,data,sl⟩,ho,hc,n,hd⟩:=p1
  obtain⟨⟨cls2,dd2,data2,sl2⟩,ho2,hc2,n2,hd2⟩:=p2
  simp only at hc hd hc2 hd2
  subst hc hd hc2 hd2
  refine concat_meets ⟨_,ho,rfl⟩ ⟨_,ho2,rfl⟩ noFill_tuple_add seq_tuple_add PySem.F.slot_tuple_add PySem.F.entry_tuple_add (PySem.F.args_tuple_add_2 _ _)
   (tuple_addW0 a b _ _ n n2 dd dd2 sl sl2 rfl) ⟨ho,ho2,?_⟩
  exact⟨.ref b,H,I,rfl,q b H (aD.refl H) hb⟩
 ·refine FT pins s σ H (.ref a) (.ref b) v u Q I rx ry ⟨a,b,xs,ys,rfl,rfl,SqT.of ha,SqT.of hb,hx,hz,fun z=>?_,fun z p hp=>q p _ (aI hp) aC⟩
  subst z
  refine q a H (aD.refl H) ?_
  rw[append_nil]
  exact ha
inductive Gq (K:Hh) (xs:Hw) (H:Hp) (Q:VK):Prop
 | mk:∀ (p:Addr) (ns:Hm),xs=[.ref p]->(SqL K H p (ns.map V.int)\/SqT K H p (ns.map V.int))->Q (.int ns.sum) H->Gq K xs H Q
def kE (ns:Hm):∀ n,n<=ns.length->PySem.preSum (fun i=>ns.getD i 0) n=(ns.take n).sum
 | 0,_=>by simp [PySem.preSum]
 | n+1,h=>by
  have e:=kE ns n (by omega)
  have hl:n<ns.length:=by omega
  unfold PySem.preSum
  rw[e,take_succ,sum_append]
  simp [List.getD,hl]
def A9 {ns:Hm}:∀ {us:Hq},bR (ns.map V.int) us->∀ i v,us.toArray[i]? = some v->∃ t,v=Value.int (ns.getD i 0) t:=by
 intro us r i v hv
 have hv:us[i]? = some v:=by simpa using hv
 have hl:i<us.length:=(List.getElem?_eq_some_iff.mp hv).1
 have hn:i<ns.length:=by
  have:=r.length
  rw[length_map]at this
  omega
 obtain⟨u,hu,ru⟩:=r.get (i:=i) (x:=V.int ns[i]) (by simp [hn])
 rw[hv]at hu
 cases hu
 obtain⟨t,e⟩:=ru
 exact⟨t,by rw[e]; simp [List.getD,hn]⟩
def Cc (hc:X.calm=true):fH X (.builtin "sum") (Gq X.K):=by
 intro pins s σ H xs us Q I r h
 obtain⟨p,ns,rfl,hs,q⟩:=h
 cases r with
 | cons r1 r2=>
  cases r2
  cases (show _=Value.ref p from r1)
  have hh:X.A.in1.handled=none:=I.ok.hd hc
  have fin:∀ s',(∀ b o,b ∉ [s.heap.objs.size]->(s.heap.get? b=some o->s'.heap.get? b=some o))->s'.gens=s.gens->s'.os=s.os->∀ t',EP X pins σ Q (.int ns.sum t') s':=fun s' hk hg ho t'=>by
   obtain⟨h',g',d',tk',os'⟩:=s'
   dsimp only at hg ho
   subst hg ho
   refine⟨.int ns.sum,H,I.call (h':=h') (g':=s.gens) (d':=d') (t':=tk') (ch:=[]) (Un.kept fun b u e=>hk b u (by simpa using ne_of_lt (lt_size e)) e) (I.hok.kept fun b u e=>hk b u (by simpa using ne_of_lt (lt_size e)) e) I.bare (fun b z=>absurd z (by simp)),⟨t',rfl⟩,q⟩
  refine call_sum_walkAnyS ?_
  rcases hs with hs | hs
  ·obtain⟨its,rv,pl,hz⟩:=I.list hs
   have hlen:its.toArray.size=ns.length:=by
    have:=rv.length
    rw[length_map]at this
    simp [this]
   have ne:p≠s.heap.objs.size:=by
    obtain⟨o,n,ho,_⟩:=pl
    exact ne_of_lt (lt_size ho)
   refine wpAny_pyIter_list pl.isList ⟨s.heap.objs.size,_,_,_,_,_,_,(fun i=>ns.getD i 0),rfl,(Walks.list hh s.heap.objs.size p ne its.toArray).toS,⟨⟨_,get?_push_size _ rfl,rfl,rfl⟩,?_⟩,?_,fun i v hv=>A9 rv i v hv,fun s' t' mv=>?_⟩
   ·obtain⟨o,n,ho,hc1,hd1,hd2⟩:=pl
    exact⟨o,get?_push_of_some _ ho,hc1,n,hd2⟩
   ·obtain⟨o,n,ho,_⟩:=pl
    intro b hb
    rw[size_push]
    rcases mem_cons.mp hb with rfl | hb
    ·exact lt_succ_self _
    ·have:b=p:=by simpa using hb
     subst this
     exact lt_succ_of_lt (lt_size ho)
   ·rw[hlen,kE ns _ (le_refl _),take_length]
    exact fin s' (fun b o hb e=>mv.heap b o hb (get?_push_of_some _ e)) mv.gens mv.os t'
  ·obtain⟨its,rv,pl,hz⟩:=I.tuple hs
   have hlen:its.toArray.size=ns.length:=by
    have:=rv.length
    rw[length_map]at this
    simp [this]
   have ne:p≠s.heap.objs.size:=ne_of_lt pl.lt
   refine wpAny_pyIter_tuple (show s.heap.IsTuple p its.toArray from pl) ⟨s.heap.objs.size,_,_,_,_,_,_,(fun i=>ns.getD i 0),rfl,(Walks.tuple hh s.heap.objs.size p ne its.toArray).toS,⟨⟨_,get?_push_size _ rfl,rfl,rfl⟩,?_⟩,?_,fun i v hv=>A9 rv i v hv,fun s' t' mv=>?_⟩
   ·obtain⟨o,ho,hc1,n,hd2⟩:=pl
    exact⟨o,get?_push_of_some _ ho,hc1,n,hd2⟩
   ·intro b hb
    rw[size_push]
    rcases mem_cons.mp hb with rfl | hb
    ·exact lt_succ_self _
    ·have:b=p:=by simpa using hb
     subst this
     exact lt_succ_of_lt pl.lt
   ·rw[hlen,kE ns _ (le_refl _),take_length]
    exact fin s' (fun b o hb e=>mv.heap b o hb (get?_push_of_some _ e)) mv.gens mv.os t'
end
section
variable {prog:Program} {w:World} {A:Around} {E:Ht} {s:Shared}
def pP (tc:TypeCalled T nid "object.__init__")
  (hct:checkTypeCall T ⟨as,kw⟩=pure ()) (hcn:checkBuiltinCall nid ⟨.type T::as,kw⟩=pure ()) (ent:entryFor table nid=some Bn) (g:Meets (Bn ⟨.type T::as,kw⟩) S)
  (hi:∀ (obj:Value),argsOk "object.__init__" ⟨obj::as,kw⟩) (gi:∀ (obj:Value),Meets (Builtin.«object.__init__» ⟨obj::as,kw⟩) (fun _ R s=>s.TypeIs obj T/\R (.ok (.ret .none)) s))
  (h:S A.in1 (wants (fun obj s₁=>s₁.TypeIs obj T/\Q obj s₁) E) s):wpAny (model prog w) A (call (.type T) as kw) Q E s:=by
 obtain⟨c0,t0,e0⟩:=tc.mro
 have e1:=tc.made
 have e2:=tc.sub
 refine wpAny_call (codeAny_of_tree ?tree)
 case tree=>
  show wpAny _ _ (callAny (.type T) _) _ _ _
  refine wpAny_pure ⟨Code.quiet_builtin _ (by decide +kernel),codeAny_builtin PySem.F.entry_type_call ?inner⟩
  rw[Around.under_plain (weight_type_call_type T as kw) (units_type_call_type T as kw)]
  have e3:=tc.notType
  have e4:=tc.canCreate
  repeat (any_goals (first | assumption | wp_step))
  refine codeAny_mono (codeAny_call_builtin tc.plain ent (wpAny_of_eq hcn (g prog w A.in1 _ s h))) fun r1 s1 q1=>?_
  cases r1 with
  | error ex=>exact q1
  | ok f1=>
   cases f1 with
   | ret ob=>
    have q1':s1.TypeIs ob T/\Q ob s1:=q1
    obtain⟨ty,q2⟩:=q1'
    have e5:=tc.init.lookup
    have e6:=tc.init.bind ob
    repeat (any_goals (first | assumption | wp_step))
    refine codeAny_mono (codeAny_call_builtin tc.init.plain PySem.F.entry_object_init (tc.init.check _ _ _ _ _ _ _ _ ty (hi ob) (gi ob prog w A.in1 (wants (fun r s₂=>r = .none/\Q ob s₂) E) s1 ⟨ty,rfl,q2⟩))) fun r2 s2 q3=>?_
    cases r2 with
    | error ex=>exact q3
    | ok f2=>
     cases f2 with
     | ret rr=>
      obtain⟨rfl,q4⟩:=q3
      repeat (any_goals (first | assumption | wp_step))
     | _=>exact q3.elim
   | _=>exact q1.elim
def lN (a b:Value):checkTypeCall "enumerate" ⟨[a],[("start",b)]⟩=pure ():=by kernel_rfl
def m8 (a b:Value):checkBuiltinCall "enumerate.__new__" ⟨[.type "enumerate",a],[("start",b)]⟩=pure ():=by kernel_rfl
def yG (l:Addr) (items:Array Value) (n:Nat) (dct:Option Addr) (sl:Hl) (t:Tok) :
  Meets (Builtin.«enumerate.__new__» ⟨[.type "enumerate",.ref l],[("start",.int 1 t)]⟩) (fun _ R s=>s.heap.get? l=some { cls:=.type "tuple",dict:=dct,data:=.seq items n,slots:=sl }/\
   R (.ok (.ret (.ref (s.heap.push { cls:=.type "tuple_iterator",data:=.fields #[.ref l,.int 0 0] }).objs.size)))
    { s with heap:=(s.heap.push { cls:=.type "tuple_iterator",data:=.fields #[.ref l,.int 0 0] }).push { cls:=.type "enumerate",data:=.fields #[.none,.bool false,.ref s.heap.objs.size,rawInt 1,.none,.none] } }):=
 .of_wp fun prog w A R s h=>by
  obtain⟨hp,g,d,tk,os⟩:=s
  obtain⟨hl,h⟩:=h
  have z1:=sub_enumerate
  have z2:Heap.IsTuple (Shared.heap ⟨hp,g,d,tk,os⟩) l items:=⟨_,hl,rfl,n,rfl⟩
  wp_walk using AutoSeq1.wpAny_loadPart' hl
  refine wpAny_stack_any fun st=>wpAny_pure ?_
  split
  ·rename_i c _ _ _ _ _
   cases (c == Value.type "enumerate")
   ·wp_walk using AutoSeq1.wpAny_loadPart' hl,wpAny_pyIter_tuple z2
    exact⟨_,rfl,h⟩
   ·wp_walk using AutoSeq1.wpAny_loadPart' hl,wpAny_pyIter_tuple z2
    exact⟨_,rfl,h⟩
  ·wp_walk using AutoSeq1.wpAny_loadPart' hl,wpAny_pyIter_tuple z2
   exact⟨_,rfl,h⟩
def v8 (l:Addr) (items:Array Value) (n:Nat) (dct:Option Addr) (sl:Hl) :
  Meets (Builtin.«enumerate.__new__» ⟨[.type "enumerate",.ref l],[]⟩) (fun _ R s=>s.heap.get? l=some { cls:=.type "tuple",dict:=dct,data:=.seq items n,slots:=sl }/\
   R (.ok (.ret (.ref (s.heap.push { cls:=.type "tuple_iterator",data:=.fields #[.ref l,.int 0 0] }).objs.size)))
    { s with heap:=(s.heap.push { cls:=.type "tuple_iterator",data:=.fields #[.ref l,.int 0 0] }).push { cls:=.type "enumerate",data:=.fields #[.none,.bool false,.ref s.heap.objs.size,rawInt 0,.none,.none] } }):=
 .of_wp fun prog w A R s h=>by
  obtain⟨hp,g,d,tk,os⟩:=s
  obtain⟨hl,h⟩:=h
  have z1:=sub_enumerate
  have z2:Heap.IsTuple (Shared.heap ⟨hp,g,d,tk,os⟩) l items:=⟨_,hl,rfl,n,rfl⟩
  wp_walk using AutoSeq1.wpAny_loadPart' hl
  refine wpAny_stack_any fun st=>wpAny_pure ?_
  split
  ·rename_i c _ _ _ _ _
   cases (c == Value.type "enumerate")
   ·wp_walk using AutoSeq1.wpAny_loadPart' hl,wpAny_pyIter_tuple z2
    exact⟨_,rfl,h⟩
   ·wp_walk using AutoSeq1.wpAny_loadPart' hl,wpAny_pyIter_tuple z2
    exact⟨_,rfl,h⟩
  ·wp_walk using AutoSeq1.wpAny_loadPart' hl,wpAny_pyIter_tuple z2
   exact⟨_,rfl,h⟩
def BA (obj a b:Value):argsOk "object.__init__" ⟨[obj,a],[("start",b)]⟩:=by
 unfold argsOk
 rw[signature?_of (id:="object.__init__") (n:=['_','_','t','i','n','i','_','_']) (o:=['t','c','e','j','b','o']) (by kernel_rfl) PySem.F.owner_object]
 kernel_rfl
def lM (obj a b:Value):Meets (Builtin.«object.__init__» ⟨[obj,a],[("start",b)]⟩) (fun _ R s=>s.TypeIs obj "enumerate"/\R (.ok (.ret .none)) s):=by
 refine Meets.of_wp fun prog w A R s hs=>?_
 obtain⟨ty,q⟩:=hs
 have e1:=PySem.F.called_enumerate.made
 have e2:=PySem.F.called_enumerate.init.lookup
 repeat (any_goals (first | assumption | wp_step))
 exact⟨_,rfl,q⟩
def Fh (hit:s.heap.IsTupleIter it t i) (ht:s.heap.IsTuple t items) (hx:items[i]? = some x)
  (hQ:∀ h',h'.IsTupleIter it t (i+1)->Heap.SameBut it s.heap h'->Q x { s with heap:=h' }):wpAny (model prog w) A (Builtin.SmallTypes.nextOf (.ref it)) Q E s:=by
 obtain⟨oi,hoi,hci,hdi⟩:=id hit
 obtain⟨ot,hot,_,nt,hdt⟩:=ht
 unfold Builtin.SmallTypes.nextOf
 refine wpAny_bind (wpAny_callSpecial?_slot (name:=Str.ofString "__next__") hit.typeIs PySem.F.slot_tuple_iterator_next (wpAny_call_entry PySem.F.slot_tuple_iterator_next hit.typeIs PySem.F.entry_tuple_iterator_next ?nx (PySem.F.args_tuple_iterator_next_1 _)))
 case nx=>
  show wpAny _ _ (field (.ref it) 0 >>= _) _ _ s
  refine wpAny_bind (wpAny_field hoi hdi (x:=.ref t) rfl ?_)
  show wpAny _ _ (if (Value.ref t == Value.none)=true then _ else _) _ _ s
  rw[if_neg (show ¬ ((Value.ref t == Value.none)=true) from Bool.false_ne_true)]
  show wpAny _ _ (field (.ref it) 1 >>= _) _ _ s
  refine wpAny_bind (wpAny_field hoi hdi (x:=.int i 0) rfl ?_)
  show wpAny _ _ (seqItems? (.ref t) >>= _) _ _ s
  refine wpAny_bind (wpAny_seqItems hot hdt ?_)
  simp only[Int.toNat_natCast,hx]
  refine wpAny_bind (wpAny_setField hoi hdi (by simp) (wpAny_pure ⟨x,rfl,wpAny_pure (hQ _ ⟨_,Heap.get?_update_self _ hoi (Obj.isFreed_of_fields (Obj.data_mapFields hdi _)),(Obj.cls_mapFields ..).trans hci,?_⟩ (Heap.SameBut.update ..))⟩))
  rw[Obj.data_mapFields hdi]
  simp [rawInt]
def ET {e it t:Addr} {i:Nat} {lo:Int} {items:Array Value} {x old:Value} {Q:Option Value->Shared->Prop}
  (he:IsEnum s.heap e it (lo+i) old) (hit:s.heap.IsTupleIter it t i) (ht:s.heap.IsTuple t items) (hx:items[i]? = some x) (hne:e≠it)
  (hQ:∀ h',IsEnumOut h' e it (lo+i+1) x s.heap.objs.size->h'.IsTupleIter it t (i+1)->
   h'.get? s.heap.objs.size=some { cls:=.type "tuple",data:=.seq #[.int (lo+i) s.toks,x] }->(∀ b o,b≠e->b≠it->s.heap.get? b=some o->h'.get? b=some o)->
   Q (some (.ref s.heap.objs.size)) { s with heap:=h',toks:=s.toks+1 }):wpAny (model prog w) A (pyNext (.ref e)) Q E s:=by
 have ty:s.TypeIs (.ref e) "enumerate":=⟨_,he,rfl⟩
 unfold pyNext
 refine wpAny_bind (wpAny_attempt (wpAny_callSpecial?_slot (name:=Str.ofString "__next__") ty PySem.F.slot_enumerate_next (wpAny_call_entry PySem.F.slot_enumerate_next ty PySem.F.entry_enumerate_next ?nx (PySem.F.args_enumerate_next_1 _))))
 case nx=>
  obtain⟨hp,g,d,tk,os⟩:=s
  show wpAny _ _ (field (.ref e) 2 >>= _) _ _ _
  refine wpAny_bind (wpAny_field he rfl (x:=.ref it) rfl ?_)
  refine wpAny_bind (Fh hit ht hx fun k1 hit1 sb1=>?_)
  replace sb1:Heap.SameBut it hp k1:=sb1
  have g1:IsEnum k1 e it (lo+i) old:=(sb1.2 e hne).trans he
  show wpAny _ _ (field (.ref e) 3 >>= _) _ _ ⟨k1,g,d,tk,os⟩
  refine wpAny_bind (wpAny_field g1 rfl (x:=rawInt (lo+i)) rfl ?_)
  show wpAny _ _ (field (.ref e) 4 >>= _) _ _ ⟨k1,g,d,tk,os⟩
  refine wpAny_bind (wpAny_field g1 rfl (x:=.none) rfl ?_)
  show wpAny _ _ (mkInt (lo+i) >>= _) _ _ ⟨k1,g,d,tk,os⟩
  refine wpAny_bind (wpAny_mkInt ?_)
  show wpAny _ _ (setField (.ref e) 3 (rawInt (lo+i+1)) >>= _) _ _ ⟨k1,g,d,tk+1,os⟩
  refine wpAny_bind (wpAny_setField_rec g1 (by simp) fun k2 g2 sb2=>?_)
  replace sb2:Heap.SameBut e k1 k2:=sb2
  replace g2:IsEnum k2 e it (lo+i+1) old:=g2
  show wpAny _ _ (setField (.ref e) 4 .none >>= _) _ _ ⟨k2,g,d,tk+1,os⟩
  refine wpAny_bind (wpAny_setField_rec g2 (by simp) fun k3 g3 sb3=>?_)
  replace sb3:Heap.SameBut e k2 k3:=sb3
  replace g3:IsEnum k3 e it (lo+i+1) old:=g3
  show wpAny _ _ (newTuple [.int (lo+i) tk,x] >>= _) _ _ ⟨k3,g,d,tk+1,os⟩
  refine wpAny_bind (wpAny_newTuple ?_)
  have g4:IsEnum (k3.push { cls:=.type "tuple",data:=.seq #[.int (lo+i) tk,x] }) e it (lo+i+1) old:=get?_push_of_some _ g3
  generalize hk4:k3.push { cls:=.type "tuple",data:=.seq #[.int (lo+i) tk,x] }=k4 at g4
  have sz:k3.objs.size=hp.objs.size:=by rw[sb3.1,sb2.1,sb1.1]
  have el:e<hp.objs.size:=lt_size he
  have t4:k4.get? hp.objs.size=some { cls:=.type "tuple",data:=.seq #[.int (lo+i) tk,x] }:=by
   rw[<- hk4,<- sz]
   exact get?_push_size _ rfl
  have kp4:∀ b o,b≠e->b≠it->hp.get? b=some o->k4.get? b=some o:=fun b o n1 n2 q=>by
   rw[<- hk4]
   exact get?_push_of_some _ (sb3.extBut b o n1 (sb2.extBut b o n1 (sb1.extBut b o n2 q)))
  have hit4:k4.IsTupleIter it t (i+1):=by
   obtain⟨o,ho,r⟩:=hit1
   rw[<- hk4]
   exact⟨o,get?_push_of_some _ (sb3.extBut it o (Ne.symm hne) (sb2.extBut it o (Ne.symm hne) ho)),r⟩
  show wpAny _ _ (Builtin.SmallTypes.ownedTupleIsFree (.ref e) >>= _) _ _ ⟨k4,g,d,tk+1,os⟩
  rw[sz]
  clear hk4 g3 sb3 g2 sb2 g1 sb1 hit1 sz k3 k2 k1
  refine wpAny_bind ?_
  unfold Builtin.SmallTypes.ownedTupleIsFree
  refine wpAny_bind (wpAny_field g4 rfl (x:=.none) rfl (wpAny_pure ?_))
  simp only[if_true]
  refine wpAny_bind (wpAny_rule ?_)
  refine wpAny_bind (wpAny_field g4 rfl (x:=old) rfl ?_)
  refine wpAny_bind (wpAny_setField_rec g4 (by simp) fun k5 g5 sb5=>?_)
  replace sb5:Heap.SameBut e k4 k5:=sb5
  replace g5:IsEnum k5 e it (lo+i+1) x:=g5
  show wpAny _ _ (Builtin.SmallTypes.ownedTupleHandOut (.ref e) (.ref hp.objs.size) >>= _) _ _ ⟨k5,g,d,tk+1,os⟩
  refine wpAny_bind ?_
  unfold Builtin.SmallTypes.ownedTupleHandOut
  refine wpAny_bind (wpAny_setField_rec g5 (by simp) fun k6 g6 sb6=>?_)
  replace sb6:Heap.SameBut e k5 k6:=sb6
  replace g6:IsEnumOut k6 e it (lo+i+1) x hp.objs.size:=g6
  refine wpAny_setField_rec g6 (by simp) fun k7 g7 sb7=>?_
  replace sb7:Heap.SameBut e k6 k7:=sb7
  replace g7:IsEnumOut k7 e it (lo+i+1) x hp.objs.size:=g7
  refine wpAny_bind (wpAny_letGo (wpAny_pure ⟨_,rfl,wpAny_pure (hQ k7 g7 ?_ ?_ ?_)⟩))
  ·obtain⟨o,ho,r⟩:=hit4
   exact⟨o,sb7.extBut it o (Ne.symm hne) (sb6.extBut it o (Ne.symm hne) (sb5.extBut it o (Ne.symm hne) ho)),r⟩
  ·exact sb7.extBut _ _ (ne_of_gt el) (sb6.extBut _ _ (ne_of_gt el) (sb5.extBut _ _ (ne_of_gt el) t4))
  ·exact fun b o n1 n2 q=>sb7.extBut b o n1 (sb6.extBut b o n1 (sb5.extBut b o n1 (kp4 b o n1 n2 q)))
def Fp {e it t:Addr} {i:Nat} {lo:Int} {items:Array Value} {old:Value} {Q:Option Value->Shared->Prop} (hh:A.handled=none)
  (he:IsEnum s.heap e it lo old) (hit:s.heap.IsTupleIter it t i) (ht:s.heap.IsTuple t items) (hx:items[i]? = none)
  (hQ:∀ h',Heap.ExtBut it s.heap h'->Q none { s with heap:=h' }):wpAny (model prog w) A (pyNext (.ref e)) Q E s:=by
 have ty:s.TypeIs (.ref e) "enumerate":=⟨_,he,rfl⟩
 obtain⟨oi,hoi,hci,hdi⟩:=id hit
 obtain⟨ot,hot,_,nt,hdt⟩:=ht
 unfold pyNext
 refine wpAny_bind (wpAny_attempt (wpAny_callSpecial?_slot (name:=Str.ofString "__next__") ty PySem.F.slot_enumerate_next (wpAny_call_entry PySem.F.slot_enumerate_next ty PySem.F.entry_enumerate_next ?nx (PySem.F.args_enumerate_next_1 _))))
 case nx=>
  show wpAny _ _ (field (.ref e) 2 >>= _) _ _ _
  refine wpAny_bind (wpAny_field he rfl (x:=.ref it) rfl ?_)
  refine wpAny_bind ?_
  unfold Builtin.SmallTypes.nextOf
  refine wpAny_bind (wpAny_callSpecial?_slot (name:=Str.ofString "__next__") hit.typeIs PySem.F.slot_tuple_iterator_next (wpAny_call_entry PySem.F.slot_tuple_iterator_next hit.typeIs PySem.F.entry_tuple_iterator_next ?nx2 (PySem.F.args_tuple_iterator_next_1 _)))
  case nx2=>
   show wpAny _ _ (field (.ref it) 0 >>= _) _ _ s
   refine wpAny_bind (wpAny_field hoi hdi (x:=.ref t) rfl ?_)
   show wpAny _ _ (if (Value.ref t == Value.none)=true then _ else _) _ _ s
   rw[if_neg (show ¬ ((Value.ref t == Value.none)=true) from Bool.false_ne_true)]
   show wpAny _ _ (field (.ref it) 1 >>= _) _ _ s
   refine wpAny_bind (wpAny_field hoi hdi (x:=.int i 0) rfl ?_)
   show wpAny _ _ (seqItems? (.ref t) >>= _) _ _ s
   refine wpAny_bind (wpAny_seqItems hot hdt ?_)
   simp only[Int.toNat_natCast,hx]
   refine wpAny_bind (wpAny_rule (wpAny_bind (wpAny_setField hoi hdi (by simp) ?_)))
   show wpAny _ _ (newExc (.type "StopIteration") [] >>= _) _ _ _
   refine wpAny_bind ?_
   simp only[newExc,newTuple]
   refine wpAny_bind (wpAny_newObj_type ?_ (by size_fits))
   refine wpAny_bind (m:=firstArgMember _ _) (wpAny_of_eq (a:=Value.none) (by first | rfl | (simp only[firstArgMember]; rfl)) ?_)
   refine wpAny_newObj_type ?_ (by size_fits)
   simp only[raiseNew]
   refine wpAny_bind (wpAny_handled ?_)
   first | rw[show A.in1.handled=none from hh] | rw[show A.in1.in1.handled=none from hh] | rw[hh]
   refine wpAny_bind (wpAny_pure (wpAny_throw ?_))
   refine wpAny_bind (wpAny_isInstance (T:="StopIteration") (b:=true) ⟨_,get?_push_size _ rfl,rfl⟩ isSubtype_stop ?_)
   exact wpAny_pure (hQ _ (((Heap.SameBut.update ..).extBut.push _).push _))
end
def Ite (K:Hh) (lo:Int) (a:Addr):It:=
 ⟨fun i H=>∃ xs x,SqT K H a xs/\xs[i]? = some x,fun i H x H'=>∃ p v,x = .ref p/\H p=none/\H'=upd H p (.tup [.int (lo+i),v])/\∀ xs,SqT K H a xs->xs[i]? = some v,fun i H=>∃ xs,SqT K H a xs/\xs.length<=i⟩
section
variable {X:Cx} {pins:Hi} {σ : St} {H:Hp} {s:Shared}
def Inv.turned2 (I:Inv X pins σ H s) (fe:pE X pins H e) (fi:pE X pins H it) (hp:s.heap.objs.size<=p) (k:∀ b o,b≠e->b≠it->s.heap.get? b=some o->h'.get? b=some o)
  (th:(∃ o,h'.get? e=some o)/\∃ o,h'.get? it=some o) (new:dD X.prog X.w (upd H p (.tup xs)) h' p (.tup xs)):Inv X pins σ (upd H p (.tup xs)) { s with heap:=h',toks:=t' }:=by
 have hn:=I.hok.fresh hp
 have np:∀ b o,s.heap.get? b=some o->b≠p:=fun b o q=>ne_of_lt (lt_of_lt_of_le (lt_size q) hp)
 refine I.call' (s':={ s with heap:=h',toks:=t' }) (ch:=[e,it]) rfl ⟨fun b o q n _ hc=>?_,fun b o q n _ hc=>⟨o.slots,?_⟩,fun b o q n _=>?_,fun b o q hc=>⟨o,?_⟩,fun b ys q=>?_,fun b u ys q=>?_,fun b ps q=>⟨#[],?_⟩⟩ ?_ I.bare fun b hb=>?_
 ·exact k b o (fun z=>hc (by simp [z])) (fun z=>hc (by simp [z])) q
 ·exact k b o (fun z=>hc (by simp [z])) (fun z=>hc (by simp [z])) q
 ·rw[aE (np b o q)]
  exact n
 ·exact k b o (fun z=>hc (by simp [z])) (fun z=>hc (by simp [z])) q
 ·rw[aE (a8 q hn)]
  exact q
 ·rw[aE (a8 q hn)]
  exact q
 ·rw[aE (a8 q hn),q]
  simp
 ·intro b u q
  by_cases hb:b=p
  ·subst hb
   rw[aC]at q
   cases q
   exact new
  ·rw[aE hb]at q
   refine(I.hok b u q).stay (fun c v hc r=>k c v ?_ ?_ r) (fun c r=>by rw[aE (a8 r hn)]; exact r) fun c ys r=>by rw[aE (a8 r hn)]; exact r
   ·rintro rfl
    rcases hc with hc | hc
    ·rw[<- hc,fe.1]at q; cases q
    ·rw[fe.1]at hc; cases hc
   ·rintro rfl
    rcases hc with hc | hc
    ·rw[<- hc,fi.1]at q; cases q
    ·rw[fi.1]at hc; cases hc
 ·rcases mem_cons.mp hb with rfl | hb
  ·exact⟨fe.2.2.2.1,fe.2.1,fe.2.2.2.2.1,fe.2.2.2.2.2⟩
  ·have:b=it:=by simpa using hb
   subst this
   exact⟨fi.2.2.2.1,fi.2.1,fi.2.2.2.2.1,fi.2.2.2.2.2⟩
def BW {P:Program} {w:World} {K:Hh} {elts:List Expr} {x1:Nat} {tp:Pos} (lo:Int) (a e it:Addr) (hne:e≠it) :
  Turn P w K (.Tuple elts x1 tp) (Ite K lo a) [e,it] e (fun i h=>(∃ old,IsEnum h e it (lo+(i:Nat)) old)/\h.IsTupleIter it a i) where
 mem:=by simp
 obj:=fun i h st b hb=>by
  obtain⟨⟨old,he⟩,o,ho,hc,hd⟩:=st
  rcases mem_cons.mp hb with rfl | hb
  ·exact⟨_,he,fun v z=>by cases (show Data.fields _=Data.cell v from z)⟩
  ·have:b=it:=by simpa using hb
   subst this
   exact⟨o,ho,fun v z=>by rw[hd]at z; cases z⟩
 keep:=fun i h h' st k=>by
  obtain⟨⟨old,he⟩,o,ho,r⟩:=st
  exact⟨⟨old,k e (by simp) _ he⟩,o,k it (by simp) _ ho,r⟩
 item:=by
  intro X hP hw hK hc i pins s σ H E I hf st hg
  subst hP hw hK
  obtain⟨⟨old,he⟩,hit⟩:=st
  obtain⟨xs,x,hq,hx⟩:=hg
  obtain⟨its,rv,p,hz⟩:=I.tuple hq
  obtain⟨u,hu,ru⟩:=rv.get hx
  refine ET he hit (show s.heap.IsTuple a its.toArray from p) (x:=u) (by simpa using hu) hne fun h' ho hit' ht kp=>⟨.ref s.heap.objs.size,rfl,?_⟩
  refine wpAny_letOwnedTupleGo_enum ho fun h2 he2 sb2=>?_
  have el:e<s.heap.objs.size:=lt_size he
  have il:it<s.heap.objs.size:=by
   obtain⟨o,ho',_⟩:=hit
   exact lt_size ho'
  have t2:h2.get? s.heap.objs.size=some { cls:=.type "tuple",data:=.seq #[.int (lo+i) s.toks,u] }:=(sb2.2 _ (ne_of_gt el)).trans ht
  have hit2:h2.IsTupleIter it a (i+1):=by
   obtain⟨o,ho',r⟩:=hit'
   exact⟨o,(sb2.2 it (Ne.symm hne)).trans ho',r⟩
  have eqi:lo+(i:Int)+1=lo+((i+1:Nat):Int):=by omega
  refine⟨.ref s.heap.objs.size,upd H s.heap.objs.size (.tup [.int (lo+i),x]),?_,rfl,⟨_,x,rfl,I.hok.fresh (le_refl _),rfl,fun ys hy=>by rw[I.tuple_inj hy hq]; exact hx⟩,⟨⟨u,by rw[<- eqi]; exact he2⟩,hit2⟩,fun b hb=>?_⟩
  ·refine I.turned2 (t':=s.toks+1) (hf e (by simp)) (hf it (by simp)) (le_refl _) (fun b o n1 n2 q=>(sb2.2 b n1).trans (kp b o n1 n2 q)) ⟨⟨_,he2⟩,let ⟨o,h,_⟩:=hit2; ⟨o,h⟩⟩ ?_
   refine⟨(by show 2<=sizeLine; decide),[.int (lo+i) s.toks,u],.cons ⟨_,rfl⟩ (.cons ru .nil),⟨_,t2,rfl,_,rfl⟩⟩
  ·rw[aE ?_]
   ·exact(hf b hb).1
   ·rcases mem_cons.mp hb with rfl | hb
    ·exact ne_of_lt el
    ·have:b=it:=by simpa using hb
     subst this
     exact ne_of_lt il
 done:=by
  intro X hP hw hK hc i pins s σ H E I hf st hg
  subst hP hw hK
  obtain⟨⟨old,he⟩,hit⟩:=st
  obtain⟨xs,hq,hx⟩:=hg
  obtain⟨its,rv,p,hz⟩:=I.tuple hq
  obtain⟨f0,f1,f2,f3,f4,f5⟩:=hf it (by simp)
  have hl:=rv.length
  exact Fp (I.ok.hd hc) he hit (show s.heap.IsTuple a its.toArray from p) (by simp; omega) fun h' eb=>⟨rfl,I.turned (t':=s.toks) (fun b o hb e=>eb b o hb e) f0 f1 f3 f4 f5⟩
 self:=fun A i s Q E st h=>by
  obtain⟨⟨old,he⟩,_⟩:=st
  exact wpAny_pyIter_enum he h
inductive v0 (K:Hh) (lo:Int) (R:(It->Hp->Prop)) (x:V) (H1:Hp):Prop
 | mk:∀ a xs,x = .ref a->SqT K H1 a xs->R (Ite K lo a) H1->v0 K lo R x H1
def BB (K:Hh) (lo:Int) (ta:TE):TI:=fun σ H R=>ta σ H (v0 K lo R)
def rT {tg:Expr} {elts:List Expr} {x1:Nat} {tp:Pos} {R:It->Hp->Prop} {lo:Int} {a:Addr} {E:Ht} {tk:Nat} (I:Inv X pins σ H s) (q:R (Ite X.K lo a) H) :
  wpAny (model X.prog X.w) X.A (pyIter (.ref (s.heap.objs.size+1))) (PIE X pins σ (.Tuple elts x1 tp) R) E
   { s with heap:=(s.heap.push { cls:=.type "tuple_iterator",data:=.fields #[.ref a,.int 0 0] }).push { cls:=.type "enumerate",data:=.fields #[.none,.bool false,.ref s.heap.objs.size,rawInt lo,.none,.none] },toks:=tk }:=by
 have z:(s.heap.push { cls:=.type "tuple_iterator",data:=.fields #[.ref a,.int 0 0] }).objs.size=s.heap.objs.size+1:=size_push _ _
 have he:IsEnum ((s.heap.push { cls:=.type "tuple_iterator",data:=.fields #[.ref a,.int 0 0] }).push { cls:=.type "enumerate",data:=.fields #[.none,.bool false,.ref s.heap.objs.size,rawInt lo,.none,.none] }) (s.heap.objs.size+1) s.heap.objs.size lo .none:=by
  have q:=get?_push_size (s.heap.push { cls:=.type "tuple_iterator",data:=.fields #[.ref a,.int 0 0] }) (o:={ cls:=.type "enumerate",data:=.fields #[.none,.bool false,.ref s.heap.objs.size,rawInt lo,.none,.none] }) rfl
  rw[z]at q
  exact q
 have I1:Inv X pins σ H { s with heap:=(s.heap.push { cls:=.type "tuple_iterator",data:=.fields #[.ref a,.int 0 0] }).push { cls:=.type "enumerate",data:=.fields #[.none,.bool false,.ref s.heap.objs.size,rawInt lo,.none,.none] },toks:=tk }:=
  I.kept fun b o e=>get?_push_of_some _ (get?_push_of_some _ e)
 refine wpAny_pyIter_enum he ⟨s.heap.objs.size+1,[s.heap.objs.size+1,s.heap.objs.size],_,Ite X.K lo a,H,rfl,I1,BW lo a _ _ (ne_of_gt (lt_succ_self _)),⟨⟨.none,by simpa using he⟩,⟨_,get?_push_of_some _ (get?_push_size _ rfl),rfl,rfl⟩⟩,fun b hb=>?_,q⟩
 rcases mem_cons.mp hb with rfl | hb
 ·exact I.fpOk (le_succ _) (I.hok.fresh (le_succ _))
 ·have:b=s.heap.objs.size:=by simpa using hb
  subst this
  exact I.fpOk (le_refl _) (I.hok.fresh (le_refl _))
def FM {ex:Expr} {elts:List Expr} {x1:Nat} {tp p pos:Pos} {ta:TE} (hm:X.mg "enumerate" = none) (ha:PE X ex ta) (hg:Gl X "enumerate":=by rfl) (hs:starEach [ex] X.env=[(false,eval ex X.env)]:=by rfl) :
  PI X (.Tuple elts x1 tp) (.Call (.Name "enumerate" p) [ex] [] pos) (BB X.K 0 ta):=by
 intro pins s σ H R I h
 refine Call_ (jN I hg hm boot_enumerate (PyProof.Rows.callWith_type1 (thn (dZ ha aF hs pos pins s σ H (fun vs H1=>∃ a xs,vs=[V.ref a]/\SqT X.K H1 a xs/\R (Ite X.K 0 a) H1) I ?_) fun us s1 ⟨vs,H1,I1,r1,q1⟩=>?_) hs rfl))
 ·have e:(fun(x:V) (H1:Hp)=>o7 σ H1 fun xs H2=>∃ a ys,x::xs=[V.ref a]/\SqT X.K H2 a ys/\R (Ite X.K 0 a) H2)=v0 X.K 0 R:=by
   funext x H1
   exact propext ⟨fun⟨a,ys,z,h1,h2⟩=>⟨a,ys,(List.cons.inj z).1,h1,h2⟩,fun⟨a,ys,z,h1,h2⟩=>⟨a,ys,congrArg (· :: []) z,h1,h2⟩⟩
  exact Eq.mpr (congrArg (ta σ H) e) h
 ·obtain⟨a,xs,e,hq,q⟩:=q1
  subst e
  cases r1 with
  | cons r rr=>
   cases rr
   cases (show _=Value.ref a from r)
   obtain⟨its,rv,⟨⟨c,dd,dt,sl⟩,ho,hc1,n,hd1⟩,hz⟩:=I1.tuple hq
   dsimp only at hc1 hd1
   subst hc1 hd1
   refine callType_new PySem.F.called_enumerate (by decide) (PySem.F.typeCall_enumerate_1 _) (PySem.F.newCall_enumerate_1 _) (fun obj=>PySem.F.args_object_init_2 obj _) PySem.F.entry_enumerate_new (v8 a _ n dd sl) ⟨ho,⟨_,get?_push_size _ rfl,rfl⟩,?_⟩
   rw[size_push]
   exact rT (tg:=ex) (tk:=s1.toks) I1 q
def yT {M:Model} {A:Around} {E:Ht} {s:Shared} {pos:Pos} {T:String} {x:Sem Value} {rest:List (Bool × Sem Value)} {kws:List (Option Str × Sem Value)} {Q:Ht} (h1:rest.any (·.1)=false) (h2:kws.any (·.1.isNone)=false) (h3:kws.all (·.1.isSome)=true)
  (h:wpAny M A (spliced ((false,x)::rest)) (fun vs s₁=>wpAny M A (evalAll (kws.map (·.2))) (fun ws s₂=>wpAny M A (call (.type T) vs ((kws.filterMap (·.1)).zip ws)) Q E s₂) E s₁) E s):wpAny M A (callWith pos (.type T) [] ((false,x)::rest) kws) Q E s:=by
 unfold callWith
 refine wpAny_bind (wpAny_holding (evalArgs_kwB h3 (wpAny_mono h (fun vs s1 q1=>wpAny_mono q1 (fun ws s2 q2=>wpAny_bind (wpAny_standAt ?_)) fun _ _ y=>y) fun _ _ y=>y)))
 have h4:(((false,x)::rest).any (·.1))=false:=by
  rw[any_cons,h1]
  rfl
 simp only[h4,h2,Bool.or_false]
 refine wpAny_bind (wpAny_pure ?_)
 exact wpAny_bind (wpAny_mono q2 (fun r s3 q3=>wpAny_bind (wpAny_holding (wpAny_point (wpAny_pure q3)))) fun _ _ y=>y)
def DT {ex:Expr} {elts:List Expr} {x1 k:Nat} {tp p pos cp kp:Pos} {ta:TE} (hm:X.mg "enumerate" = none) (ha:PE X ex ta) (hg:Gl X "enumerate":=by rfl) (hs:starEach [ex] X.env=[(false,eval ex X.env)]:=by rfl) :
  PI X (.Tuple elts x1 tp) (.Call (.Name "enumerate" p) [ex] [⟨some "start",.Constant (.int 1) k cp,kp⟩] pos) (BB X.K 1 ta):=by
 intro pins s σ H R I h
 refine wpAny_Call_Name_kw (jN I hg hm boot_enumerate ?_)
 rw[hs]
 refine yT (x:=eval ex X.env) (rest:=[]) rfl rfl rfl ?_
 have ha':=dZ ha aF hs pos pins s σ H (fun vs H1=>∃ a xs,vs=[V.ref a]/\SqT X.K H1 a xs/\R (Ite X.K 1 a) H1) I (by
  have e:(fun(x:V) (H1:Hp)=>o7 σ H1 fun xs H2=>∃ a ys,x::xs=[V.ref a]/\SqT X.K H2 a ys/\R (Ite X.K 1 a) H2)=v0 X.K 1 R:=by
   funext x H1
   exact propext ⟨fun⟨a,ys,z,h1,h2⟩=>⟨a,ys,(List.cons.inj z).1,h1,h2⟩,fun⟨a,ys,z,h1,h2⟩=>⟨a,ys,congrArg (· :: []) z,h1,h2⟩⟩
  exact Eq.mpr (congrArg (ta σ H) e) h)
 rw[hs]at ha'
 refine thn ha' fun us s1 zQq=>?_
 obtain⟨vs,H1,I1,r1,q1⟩:=zQq
 refine kws_cons (wpAny_Constant_int ?_)
 refine kws_nil ?_
 obtain⟨a,xs,e,hq,q⟩:=q1
 subst e
 cases r1 with
 | cons r rr=>
  cases rr
  cases (show _=Value.ref a from r)
  have I2:=I1.tok (s1.toks+1)
  obtain⟨its,rv,⟨⟨c,dd,dt,sl⟩,ho,hc1,n,hd1⟩,hz⟩:=I2.tuple hq
  dsimp only at hc1 hd1
  subst hc1 hd1
  refine pP (kw:=[("start",_)]) PySem.F.called_enumerate (lN _ _) (m8 _ _) PySem.F.entry_enumerate_new (yG a _ n dd sl _) (fun obj=>BA obj _ _) (fun obj=>lM obj _ _) ⟨ho,⟨_,get?_push_size _ rfl,rfl⟩,?_⟩
  rw[size_push]
  exact rT (tg:=ex) (tk:=s1.toks+1) I2 q
end
section
variable {X:Cx}
inductive Gs (K:Hh) (xs:Hw) (H:Hp) (Q:VK):Prop
 | mk:∀ (p:Addr) (bs:List Bool),xs=[.ref p]->SqL K H p (bs.map V.bl)->Q (.bl (bs.all id)) H->Gs K xs H Q
def Ef {bs:List Bool}:∀ {us:Hq},bR (bs.map V.bl) us->∀ i v,us.toArray[i]? = some v->v=Value.bool (bs.getD i false):=by
 intro us r i v hv
 have hv:us[i]? = some v:=by simpa using hv
 have hl:i<us.length:=(List.getElem?_eq_some_iff.mp hv).1
 have hn:i<bs.length:=by
  have:=r.length
  rw[length_map]at this
  omega
 obtain⟨u,hu,ru⟩:=r.get (i:=i) (x:=V.bl bs[i]) (by simp [hn])
 rw[hv]at hu
 cases hu
 have e:v=Value.bool bs[i]:=ru
 rw[e]
 simp [List.getD,hn]
def Ei (bs:List Bool):((List.range bs.length).all fun i=>bs.getD i false)=bs.all id:=by
 rw[Bool.eq_iff_iff,all_eq_true,all_eq_true]
 constructor
 ·intro h b hb
  obtain⟨i,hi,e⟩:=List.mem_iff_getElem.mp hb
  have:=h i (mem_range.mpr hi)
  simp [List.getD,hi,e]at this
  simpa using this
 ·intro h i hi
  have hi:=mem_range.mp hi
  have:=h bs[i] (List.getElem_mem hi)
  simpa [List.getD,hi] using this
def Ce (hc:X.calm=true):fH X (.builtin "all") (Gs X.K):=by
 intro pins s σ H xs us Q I r h
 obtain⟨p,bs,rfl,hs,q⟩:=h
 cases r with
 | cons r1 r2=>
  cases r2
  cases (show _=Value.ref p from r1)
  have hh:X.A.in1.handled=none:=I.ok.hd hc
  refine call_all_walk ?_
  obtain⟨its,rv,pl,hz⟩:=I.list hs
  have hlen:its.toArray.size=bs.length:=by
   have:=rv.length
   rw[length_map]at this
   simp [this]
  have ne:p≠s.heap.objs.size:=by
   obtain⟨o,n,ho,_⟩:=pl
   exact ne_of_lt (lt_size ho)
  refine wpAny_pyIter_list pl.isList ⟨s.heap.objs.size,_,_,_,_,_,(fun i=>bs.getD i false),rfl,Walks.list hh s.heap.objs.size p ne its.toArray,⟨⟨_,get?_push_size _ rfl,rfl,rfl⟩,?_⟩,fun i v s' Q' E' hv hq=>?_,fun h' tk hk=>?_⟩
  ·obtain⟨o,n,ho,hc1,hd1,hd2⟩:=pl
   exact⟨o,get?_push_of_some _ ho,hc1,n,hd2⟩
  ·rw[Ef rv i v hv]
   exact wpAny_truthy_bool hq
  ·rw[hlen,Ei]
   refine⟨.bl _,H,I.kept (t':=tk) fun b u e=>hk b u (by simpa using ne_of_lt (lt_size e)) (get?_push_of_some _ e),rfl,q⟩
def Gp {M:Model} {A:Around} {E:Ht} {s:Shared} {β : Type} {hi:Nat} (f:Nat->β->Sem (ForInStep β)) (I:List Nat->β->Shared->Prop) (Q:β->Shared->Prop)
  (turn:∀ x rest b s,I (x::rest) b s->wpAny M A (f x b) (fun r s'=>match r with | .yield b'=>I rest b' s' | .done b'=>Q b' s') E s)
  (fin:∀ b s,I [] b s->Q b s) (b:β) (h:I (List.range' 0 hi) b s):wpAny M A (forIn [0:hi] b f) Q E s:=by
 rw[Std.Legacy.Range.forIn_eq_forIn_range']
 refine wpAny_forIn_list f I Q turn fin _ b ?_
 simpa [Std.Legacy.Range.size] using h
def pQ (l:Addr) (items:Array Value) (n:Nat) (dd:Option Addr) (sl:Hl) (x:Value) (e:Value->Bool) (j:Nat) (hj:j<items.size) (hy:e items[j]=true) (hn:∀ i (h:i<j),e items[i]=false) :
  Meets (Builtin.«tuple.index» ⟨[.ref l,x],[]⟩) (fun A R s=>s.heap.get? l=some { cls:=.type "tuple",dict:=dd,data:=.seq items n,slots:=sl }/\(∀ y,y∈items->SeqAt.EqAt A.in1 s y x (e y))/\R (.ok (.ret (.int j s.toks))) { s with toks:=s.toks+1 }):=
 .of_wp fun prog w A R s h=>by
  obtain⟨hp,g,d,tk,os⟩:=s
  obtain⟨hl,he,h⟩:=h
  wp_walk using AutoSeq1.wpAny_loadPart' hl,Gp _ (fun rest b s'=>b.1=none/\s'=⟨hp,g,d,tk,os⟩/\∃ i,i<=j/\rest=List.range' i (items.size - i)) _
  case turn=>
   rintro y rest b s' ⟨hb,rfl,i,hi,hr⟩
   have hlt:i<items.size:=by omega
   have e1:items.size - i=(items.size - (i+1))+1:=by omega
   rw[e1,List.range'_succ]at hr
   obtain⟨rfl,rfl⟩:=List.cons.inj hr
   have hg:items[y]? = some items[y]:=by simp [hlt]
   rw[hg]
   dsimp only
   refine wpAny_bind (he items[y] (Array.getElem_mem hlt) prog w _ _ ?_)
   by_cases hyj:y=j
   ·subst hyj
    rw[hy]
    wp_walk
    exact⟨_,rfl,h⟩
   ·rw[hn y (by omega)]
    wp_walk
    exact⟨rfl,rfl,y+1,by omega,rfl⟩
  case fin=>
   rintro ⟨b1,b2⟩ s' ⟨hb,rfl,i,hi,hr⟩
   have:(List.range' i (items.size - i)).length=0:=by rw[<- hr]; rfl
   rw[List.length_range']at this
   omega
  case h=>
   refine⟨rfl,rfl,0,zero_le _,?_⟩
   simp
inductive zP (K:Hh) (x:V) (vs:Hw) (H:Hp) (Q:VK):Prop
 | mk:∀ (a:Addr) (ks:Ho) (k:Str) (j:Nat),x = .ref a->vs=[.str k]->SqT K H a (ks.map V.str)->ks[j]? = some k->(∀ i,i<j->ks[i]? ≠ some k)->Q (.int j) H->zP K x vs H Q
def Ds:MtR X "tuple.index" (zP X.K):=by
 intro pins s σ H x vs v us Q I rx rv h
 obtain⟨a,ks,k,j,rfl,rfl,hs,hj,hn,q⟩:=h
 cases (show v=Value.ref a from rx)
 cases rv with
 | cons r1 r2=>
  cases r2
  obtain⟨t,e⟩:=r1
  subst e
  obtain⟨its,rv,⟨⟨c,dd,dt,sl⟩,ho,hc1,n,hd1⟩,hz⟩:=I.tuple hs
  dsimp only at hc1 hd1
  subst hc1 hd1
  have hlen:its.length=ks.length:=by
   have:=rv.length
   rw[length_map]at this
   exact this.symm
  have hjl:j<ks.length:=(List.getElem?_eq_some_iff.mp hj).1
  have at_:∀ i (h:i<ks.length),∃ t,its[i]? = some (Value.str ks[i] t):=fun i h=>by
   obtain⟨u,hu,ru⟩:=rv.get (i:=i) (x:=V.str ks[i]) (by simp [h])
   obtain⟨t,e⟩:=ru
   exact⟨t,by rw[hu,e]⟩
  refine call_meets PySem.F.slot_tuple_index ⟨_,ho,rfl⟩ PySem.F.entry_tuple_index (PySem.F.args_tuple_index_2 _ _)
   (pQ a its.toArray n dd sl (.str k t) (fun v=>match v with | .str y _=>y == k | _=>false) j (by simpa [hlen] using hjl) ?_ ?_) ⟨ho,fun y hy=>?_,?_⟩
  ·obtain⟨t',e⟩:=at_ j hjl
   have e2:its.toArray[j]'(by simpa [hlen] using hjl)=Value.str ks[j] t':=by
    have:=List.getElem?_eq_some_iff.mp e
    simpa using this.2
   rw[e2]
   have:ks[j]=k:=by
    have:=List.getElem?_eq_some_iff.mp hj
    exact this.2
   simp [this]
  ·intro i hi
   have hil:i<ks.length:=by omega
   obtain⟨t',e⟩:=at_ i hil
   have e2:its.toArray[i]'(by simp [hlen]; omega)=Value.str ks[i] t':=by
    have:=List.getElem?_eq_some_iff.mp e
    simpa using this.2
   rw[e2]
   have ne:ks[i]≠k:=fun z=>hn i hi (by rw[getElem?_eq_getElem hil,z])
   simpa using ne
  ·obtain⟨i,hi,e⟩:=List.mem_iff_getElem.mp (show y∈its by simpa using hy)
   obtain⟨t',e'⟩:=at_ i (by omega)
   rw[getElem?_eq_getElem hi,e]at e'
   cases e'
   exact SeqAt.EqAt.str_str _ _ _ _
  ·exact⟨.int j,H,I.tok _,⟨_,rfl⟩,q⟩
end
structure Src (J:It) (H:Hp) (n:Nat) (Y:Nat->V->Hp->Prop):Prop where
 go:∀ i H',i<n->aD H H'->J.go i H'
 yld:∀ i H' x H'',i<n->aD H H'->J.yld i H' x H''->aD H' H''/\Y i x H''
 stop:∀ H',aD H H'->J.stop n H'
section
variable {K:Hh} {H:Hp} {a:Addr} {xs:Hw}
def eK (h:SqL K H a xs):Src (Itl K a) H xs.length (fun i x _=>xs[i]? = some x) where
 go:=fun i H' hi s=>⟨xs,xs[i],s.seq h,by simp [hi]⟩
 yld:=fun i H' x H'' hi s y=>⟨by rw[y.1]; exact aD.refl _,y.2 xs (s.seq h)⟩
 stop:=fun H' s=>⟨xs,s.seq h,le_refl _⟩
def u5 (h:SqT K H a xs):Src (Itt K a) H xs.length (fun i x _=>xs[i]? = some x) where
 go:=fun i H' hi s=>⟨xs,xs[i],s.seqT h,by simp [hi]⟩
 yld:=fun i H' x H'' hi s y=>⟨by rw[y.1]; exact aD.refl _,y.2 xs (s.seqT h)⟩
 stop:=fun H' s=>⟨xs,s.seqT h,le_refl _⟩
def nM (lo:Int) (n:Nat):Src (Itr lo n) H n (fun i x _=>x = .int (lo+i)) where
 go:=fun i H' hi s=>hi
 yld:=fun i H' x H'' hi s y=>⟨by rw[y.1]; exact aD.refl _,y.2⟩
 stop:=fun H' s=>le_refl _
def pV (lo:Int) (h:SqT K H a xs):Src (Ite K lo a) H xs.length (fun i x H'=>∃ p v,x = .ref p/\H' p=some (.tup [.int (lo+i),v])/\xs[i]? = some v) where
 go:=fun i H' hi s=>⟨xs,xs[i],s.seqT h,by simp [hi]⟩
 yld:=fun i H' x H'' hi s ⟨p,v,e1,e2,e3,e4⟩=>⟨by rw[e3]; exact aI e2,p,v,e1,by rw[e3]; exact aC,e4 xs (s.seqT h)⟩
 stop:=fun H' s=>⟨xs,s.seqT h,le_refl _⟩
end
def y9 (H H':Hp):Prop:=∀ b o,H b=some o->(∀ zs,o ≠ .lst zs)->H' b=some o
def aD.n (s:aD H H'):y9 H H':=fun b o e _=>s b o e
def tH (h:H D=some (.lst ys)):y9 H (upd H D (.lst zs)):=fun b o e n=>by
 rw[aE (fun z=>by rw[z,h]at e; exact n ys (Option.some.inj e).symm)]
 exact e
def dH (S:Src J H n Y) (hn:n<=sizeLine) (R:Nat->V->Hp->Prop) (stab:∀ i y H1 H2,y9 H1 H2->R i y H1->R i y H2) (Z:St->Prop) (h0:Z (kQ T F σ))
  (step:∀ i x σc H3,i<n->Z σc->aD H H3->Y i x H3->∀ (Q':St->V->Hp->Prop),(∀ σ4 y H6,Z σ4->aD H3 H6->R i y H6->Q' σ4 y H6)->g x σc H3 fun σ4 H4=>te σ4 H4 fun y H6=>Q' σ4 y H6)
  (fin:∀ D ys H',H D=none->aD H H'->H' D=some (.lst ys)->ys.length=n->(∀ i y,ys[i]? = some y->R i y H')->Q (.ref D) H') :
  yR T F g Co te σ Q J H:=by
 intro D hD
 refine⟨fun i m ys σc H2=>m=n - i/\i<=n/\Z σc/\aD H H2/\H2 D=some (.lst ys)/\ys.length=i/\∀ j y,ys[j]? = some y->R j y H2,⟨n,rfl,zero_le _,h0,aI hD,aC,rfl,fun j y e=>by simp at e⟩,?_⟩
 rintro i m ys σc H2 ⟨rfl,hi,hz,hs,hd,hl,hr⟩
 refine⟨hd,?_⟩
 by_cases hlt:i<n
 ·refine .inr ⟨S.go i H2 hlt hs,by omega,fun x H3 y=>?_⟩
  obtain⟨s3,y3⟩:=S.yld i H2 x H3 hlt hs y
  simp only[Co,if_true]
  refine step i x σc H3 hlt hz (hs.trans s3) y3 (fun σ4 y H6=>H6 D=some (.lst ys)/\∃ m',m'<n - i/\m'=n - (i+1)/\i+1<=n/\Z σ4/\aD H (upd H6 D (.lst (ys++[y])))/\(upd H6 D (.lst (ys++[y]))) D=some (.lst (ys++[y]))/\(ys++[y]).length=i+1/\∀ j z,(ys++[y])[j]? = some z->R j z (upd H6 D (.lst (ys++[y])))) fun σ4 y H6 z4 s6 r6=>?_
  have d6:H6 D=some (.lst ys):=s6 _ _ (s3 _ _ hd)
  have sU:∀ {H1:Hp},aD H1 H6->H1 D=none->aD H1 (upd H6 D (.lst (ys++[y]))):=fun {H1} s b=>fun c u e=>by
   rw[aE (a8 e b)]
   exact s c u e
  refine⟨d6,n - (i+1),by omega,rfl,hlt,z4,sU ((hs.trans s3).trans s6) hD,aC,by rw[length_append,hl]; rfl,fun j z e=>?_⟩
  have up:=tH (zs:=ys++[y]) d6
  by_cases hj:j<ys.length
  ·rw[getElem?_append_left hj]at e
   exact stab _ _ _ _ up (stab _ _ _ _ (s3.trans s6).n (hr j z e))
  ·have hj2:j=ys.length:=by
    have:=(List.getElem?_eq_some_iff.mp e).1
    rw[length_append]at this
    simp at this
    omega
   subst hj2
   rw[getElem?_append_right (le_refl _)]at e
   simp at e
   subst e
   rw[hl]
   exact stab _ _ _ _ up r6
 ·have hin:i=n:=by omega
  subst hin
  exact .inl ⟨S.stop H2 hs,fin D ys H2 hD hs hd hl hr⟩
mutual
def iU:PyData->Bool
 | .none | .bool _ | .int _ | .str _=>true
 | .tuple ds=>cW ds
 | _=>false
def cW:Hr->Bool
 | []=>true
 | d::ds=>iU d && cW ds
end
mutual
def Den.n (e:y9 H H'):∀ {d:PyData} {v:V},iU d=true->Den H d v->Den H' d v
 | .none,v,t,h=>by simp only[Den]at h ⊢; exact h
 | .bool b,v,t,h=>by simp only[Den]at h ⊢; exact h
 | .int i,v,t,h=>by simp only[Den]at h ⊢; exact h
 | .str x,v,t,h=>by simp only[Den]at h ⊢; exact h
 | .tuple ds,v,t,h=>by
  simp only[Den]at h ⊢
  simp only[iU]at t
  obtain⟨a,xs,e1,h1,h2⟩:=h
  exact⟨a,xs,e1,e _ _ h1 (fun zs z=>by cases z),aW.n e t h2⟩
 | .list ds,v,t,h=>by simp [iU]at t
 | .dict _,v,t,h=>by simp only[Den]at h
def aW.n (e:y9 H H'):∀ {ds:Hr} {xs:Hw},cW ds=true->aW H ds xs->aW H' ds xs
 | [],xs,t,h=>by simp only[aW]at h ⊢; exact h
 | d::ds,xs,t,h=>by
  simp only[aW]at h ⊢
  simp only[cW,and_eq_true]at t
  obtain⟨x,r,e1,h1,h2⟩:=h
  exact⟨x,r,e1,Den.n e t.1 h1,aW.n e t.2 h2⟩
end
def tyD:PyData->Value
 | .none=>.type "NoneType"
 | .bool _=>.type "bool"
 | .int _=>.type "int"
 | .str _=>.type "str"
 | .tuple _=>.type "tuple"
 | .list _=>.type "list"
 | .dict _=>.type "dict"
def Den.ty {K:Hh} {H:Hp}:∀ {d:PyData} {v:V},Den H d v->nK K H v (tyD d)
 | .none,v,h=>by simp only[Den]at h; subst h; exact .non
 | .bool b,v,h=>by simp only[Den]at h; subst h; exact .bl b
 | .int i,v,h=>by simp only[Den]at h; subst h; exact .int i
 | .str x,v,h=>by simp only[Den]at h; subst h; exact .str x
 | .tuple ds,v,h=>by
  simp only[Den]at h
  obtain⟨a,xs,e1,h1,h2⟩:=h
  subst e1
  exact .tup h1
 | .list ds,v,h=>by
  simp only[Den]at h
  obtain⟨a,xs,e1,h1,h2⟩:=h
  subst e1
  exact .lst h1
 | .dict _,v,h=>by simp only[Den]at h
def bO:∀ {ns:Hm} {xs:Hw},aW H (ns.map PyData.int) xs ↔ xs=ns.map V.int
 | [],xs=>by simp [aW]
 | n::ns,xs=>by
  simp only[map_cons,aW,Den]
  constructor
  ·rintro ⟨x,r,e1,e2,h⟩
   subst e2
   rw[e1,bO.mp h]
  ·intro h
   exact⟨_,_,h,rfl,bO.mpr rfl⟩
def aW.length:∀ {ds:Hr} {xs:Hw},aW H ds xs->xs.length=ds.length
 | [],xs,h=>by simp only[aW]at h; subst h; rfl
 | d::ds,xs,h=>by
  simp only[aW]at h
  obtain⟨x,r,e1,_,h2⟩:=h
  rw[e1,length_cons,length_cons,aW.length h2]
def aW.get:∀ {ds:Hr} {xs:Hw} {i:Nat} {x:V},aW H ds xs->xs[i]? = some x->∃ d,ds[i]? = some d/\Den H d x
 | [],xs,i,x,h,e=>by simp only[aW]at h; subst h; simp at e
 | d::ds,xs,0,x,h,e=>by
  simp only[aW]at h
  obtain⟨y,r,e1,h1,_⟩:=h
  subst e1
  simp at e
  subst e
  exact⟨d,rfl,h1⟩
 | d::ds,xs,i+1,x,h,e=>by
  simp only[aW]at h
  obtain⟨y,r,e1,_,h2⟩:=h
  subst e1
  simp at e
  obtain⟨d',e',h'⟩:=aW.get h2 e
  exact⟨d',by simpa using e',h'⟩
def Dz {K:Hh} (d:PyData):PySem.W.kitOne K (tyD d) (.type "bool")=some (match d with | .bool _=>true | _=>false):=by
 cases d <;> rfl
def lC {K:Hh} (d:PyData):PySem.W.kitOne K (tyD d) (.type "int")=some (match d with | .bool _=>true | .int _=>true | _=>false):=by
 cases d <;> rfl
def A8 {K:Hh} (d:PyData):PySem.W.kitOne K (tyD d) (.type "str")=some (match d with | .str _=>true | _=>false):=by
 cases d <;> rfl
def n8 {K:Hh} (d:PyData):PySem.W.kitOne K (tyD d) (.type "tuple")=some (match d with | .tuple _=>true | _=>false):=by
 cases d <;> rfl
section
variable {X:Cx}
def c6 (K:Hh) (hK:X.K=K:=by rfl):IxR X (FG K):=by
 subst hK
 exact Fj
def fE (K:Hh) (hK:X.K=K:=by rfl):IxR X (FF K):=by
 subst hK
 exact HM
def Br (K:Hh) (hK:X.K=K:=by rfl):OpR X (compareOp .NotIn) (rIn K true):=by
 subst hK
 exact vL
inductive rLen (K:Hh) (xs:Hw) (H:Hp) (Q:VK):Prop
 | mk:∀ p ys,xs=[.ref p]->(SqL K H p ys\/SqT K H p ys)->Q (.int ys.length) H->rLen K xs H Q
def cV (K:Hh) (hK:X.K=K:=by rfl):fH X (.builtin "len") (rLen K):=by
 subst hK
 exact fun p1 s σ H xs us Q I v ⟨p,ys,a,b,c⟩=>wG p1 s σ H xs us Q I v ⟨p,ys,a,b,c⟩
def gW (K:Hh) (hK:X.K=K:=by rfl):fH X (.builtin "isinstance") (Gr K):=by
 subst hK
 exact Ea
def oI (K:Hh) (hc:X.calm=true:=by rfl) (hK:X.K=K:=by rfl):fH X (.builtin "sum") (Gq K):=by
 subst hK
 exact Cc hc
def uO (K:Hh) (hc:X.calm=true:=by rfl) (hK:X.K=K:=by rfl):fH X (.builtin "all") (Gs K):=by
 subst hK
 exact Ce hc
inductive xN (K:Hh) (xs:Hw) (H:Hp) (Q:VK):Prop
 | mk:∀ p ys,xs=[.ref p]->((SqL K H p ys/\∀ l,H l=none->Q (.ref l) (upd H l (.tup ys)))\/(SqT K H p ys/\Q (.ref p) H))->xN K xs H Q
def kR (K:Hh) (hK:X.K=K:=by rfl):fH X (.type "tuple") (xN K):=by
 subst hK
 exact fun p1 s σ H xs us Q I v ⟨p,ys,a,b⟩=>sO p1 s σ H xs us Q I v ⟨p,ys,a,b⟩
def B5 (K:Hh) (hK:X.K=K:=by rfl):MtR X "tuple.index" (zP K):=by
 subst hK
 exact Ds
def qE (K:Hh) (hK:X.K=K:=by rfl):SlR X (FD K):=by
 subst hK
 exact E3
def vJ (K:Hh) {es:List Expr} {k:Nat} {t:TGs} {n:Nat} {pos:Pos} (h:PGs X es t) (hc:X.calm=true:=by rfl) (hK:X.K=K:=by rfl) (hn:(assignEach es X.env).length=n:=by rfl) (hst:(assignEach es X.env).findIdx? (·.1)=none:=by rfl):PG X (.Tuple es k pos) (HS K n t):=by
 subst hK
 exact Gy hc h hn hst
def eM (K:Hh) {tg l:Expr} {tl:TE} (hl:PE X l tl) (hK:X.K=K:=by rfl):PI X tg l (GM K tl):=by
 subst hK
 exact FL hl
def vH (K:Hh) (hl:PE X l tl) (hK:X.K=K:=by rfl):PI X tg l (iTup K tl):=by
 subst hK
 exact Gw hl
def DS (K:Hh) (hm:X.mg "enumerate" = none) (ha:PE X ex ta) (hg:Gl X "enumerate":=by rfl) (hs:starEach [ex] X.env=[(false,eval ex X.env)]:=by rfl) (hK:X.K=K:=by rfl) :
  PI X (.Tuple elts x1 tp) (.Call (.Name "enumerate" p) [ex] [] pos) (BB K 0 ta):=by
 subst hK
 exact FM hm ha hg hs
def Bm (K:Hh) (hm:X.mg "enumerate" = none) (ha:PE X ex ta) (hg:Gl X "enumerate":=by rfl) (hs:starEach [ex] X.env=[(false,eval ex X.env)]:=by rfl) (hK:X.K=K:=by rfl) :
  PI X (.Tuple elts x1 tp) (.Call (.Name "enumerate" p) [ex] [⟨some "start",.Constant (.int 1) k cp,kp⟩] pos) (BB K 1 ta):=by
 subst hK
 exact DT hm ha hg hs
end
inductive TupM (K:Hh) (H:Hp) (x:V):Prop
 | mk:∀ p,x = .ref p->((∃ o u,H p=some (.frz o u)/\o.cls = .type "tuple"/\o.dict=none)\/∃ o,K.lookup p=some o/\o.cls = .type "tuple"/\o.dict=none)->TupM K H x
abbrev Gc (r:V->Hw->Hp->VK->Prop) (Q:VK) (x:V):Hw->Hp->Prop:=fun xs H2=>r x xs H2 Q
abbrev Gd (K:Hh) (r:V->Hw->Hp->VK->Prop) (t:TA) (σ : St) (Q:VK):V->Hp->Prop:=fun x H1=>TupM K H1 x/\t σ H1 (Gc r Q x)
def tBMT (K:Hh) (r:V->Hw->Hp->VK->Prop) (to:TE) (t:TA):TE:=fun σ H Q=>to σ H (Gd K r t σ Q)
section
variable {X:Cx} {o e:Expr} {es:List Expr} {t:TA} {to:TE} {pos apos cpos:Pos} {name:Str} {id:String} {r:V->Hw->Hp->VK->Prop}
def G3 (K:Hh) (slot:Slot "tuple" name id) (hty:typeOf (.builtin id)=pure (.type "method_descriptor")) (hm:MtR X id r) (ho:PE X o to) (ha:PA X (e::es) t) (hK:X.K=K:=by rfl)
  (hbase:attributeBase o name X.env (eval o X.env)=eval o X.env:=by rfl)
  (hfew:((backTo cpos (starEach (e::es) X.env)).all (fun x=>!x.1) && (backToKw cpos (keywordEach [] X.env)).all (fun x=>x.1.isSome)
   && decide ((e::es).length+([]:List Keyword).length+(if ([]:List Keyword).isEmpty then 0 else 1)<30))=true:=by rfl)
  (hline:(apos.endLine == cpos.line)=true:=by rfl) (hs:starEach (e::es) X.env=(false,eval e X.env)::starEach es X.env:=by rfl) (hplain:(backTo cpos (starEach es X.env)).any (·.1)=false:=by rfl) :
  PE X (.Call (.Attribute o name apos) (e::es) [] cpos) (tBMT K r to t):=by
 subst hK
 intro pins s σ H Q I h
 refine wpAny_Call_method_late hbase hfew hline rfl (thn (ho pins s σ H _ I h) fun v s1 zQq=>?_)
 obtain⟨x,H1,I1,r1,ty,q1⟩:=zQq
 obtain⟨p,ex,ty⟩:=ty
 subst ex
 cases (show v=Value.ref p from r1)
 have hob:∃ ob,s1.heap.get? p=some ob/\ob.cls = .type "tuple"/\ob.dict=none:=by
  rcases ty with ⟨ob,u,z1,z2,z3⟩ | ⟨ob,z1,z2,z3⟩
  ·obtain⟨g,_⟩:=I1.hok p _ z1
   exact⟨ob,g,z2,z3⟩
  ·exact⟨ob,I1.kIn _ _ z1,z2,z3⟩
 obtain⟨ob,g1,g2,g3⟩:=hob
 refine⟨"tuple",id,PySem.F.plainAttrs_tuple,slot,hty,⟨ob,g1,g2⟩,(fun b eb=>by cases eb; exact⟨ob,g1,g3⟩),?_⟩
 have hA:=ha cpos pins s1 σ H1 _ I1 q1
 rw[hs]at hA ⊢
 refine Calls.callWith_builtin (by show (false || (backTo cpos (starEach es X.env)).any (·.1))=false; rw[hplain] <;> rfl) (Calls.evalArgs_plain ?_)
 exact thn hA fun us s2 ⟨vs,H2,I2,r2,q2⟩=>hm pins s2 σ H2 (.ref p) vs (.ref p) us Q I2 rfl r2 q2
end
def aW.app:∀ {d1 d2:Hr} {x1 x2:Hw},aW H d1 x1->aW H d2 x2->aW H (d1++d2) (x1++x2)
 | [],d2,x1,x2,h1,h2=>by
  simp only[aW]at h1
  subst h1
  exact h2
 | d::d1,d2,x1,x2,h1,h2=>by
  simp only[aW]at h1
  obtain⟨x,r,e,k1,k2⟩:=h1
  subst e
  show aW H (d::(d1++d2)) (x::(r++x2))
  simp only[aW]
  exact⟨x,_,rfl,k1,k2.app h2⟩
def cJ {α : Type} {xs:List α} {i:Int} {v:α} (h:0<=i) (e:xs[i.toNat]? = some v):atI xs i=some v:=by
 obtain⟨j,rfl⟩:=Int.eq_ofNat_of_zero_le h
 exact bQ (by simpa using e)
def ER (ns ms:Hm):PyData.eqv (.tuple (ns.map .int)) (.tuple (ms.map .int))=decide (ns=ms):=by
 show PyData.eqvAll _ _=_
 exact ked_eqvAll ns ms
def rJ:∀ ns:Hm,PyData.canLayAll0 (ns.map .int)=true
 | []=>rfl
 | n::ns=>by
  show (true && _)=true
  rw[Bool.true_and]
  exact rJ ns
def depth_ints:∀ ns:Hm,PyData.depthAll (ns.map .int)=0
 | []=>rfl
 | n::ns=>by
  show max 0 (PyData.depthAll (ns.map .int))=0
  rw[depth_ints ns]
  rfl
def oM (ns:Hm):SeqAt.shaped (.tuple (ns.map .int))=true:=by
 unfold SeqAt.shaped
 have h1:PyData.canLay0 (.tuple (ns.map .int))=true:=rJ ns
 have h2:PyData.depth (.tuple (ns.map .int))=1:=by
  show PyData.depthAll (ns.map .int)+1=1
  rw[depth_ints]
 rw[h1,h2]
 rfl
section
variable {X:Cx} {es:List Expr} {te:TE} {t:TA}
def aR {v:Const} {k:Nat} {p:Pos} (ha:PE X (.Constant v k p) te) (hr:PA X es t):PA X (.Constant v k p::es) (jU te t):=dZ ha hr rfl
def aJ {x:Str} {p:Pos} (ha:PE X (.Name x p) te) (hr:PA X es t):PA X (.Name x p::es) (jU te t):=dZ ha hr rfl
def cZ {l:List Expr} {k:Nat} {p:Pos} (ha:PE X (.Tuple l k p) te) (hr:PA X es t):PA X (.Tuple l k p::es) (jU te t):=dZ ha hr rfl
def FS {l:List Expr} {p:Pos} (ha:PE X (.List l p) te) (hr:PA X es t):PA X (.List l p::es) (jU te t):=dZ ha hr rfl
def bM (ha:PE X (.BinOp a o b p) te) (hr:PA X es t):PA X (.BinOp a o b p::es) (jU te t):=dZ ha hr rfl
def cC (ha:PE X (.Call f as kw p) te) (hr:PA X es t):PA X (.Call f as kw p::es) (jU te t):=dZ ha hr rfl
def aP {a b:Expr} {p:Pos} (ha:PE X (.Subscript a b p) te) (hr:PA X es t):PA X (.Subscript a b p::es) (jU te t):=dZ ha hr rfl
def gQ (ha:PE X (.Attribute a x p) te) (hr:PA X es t):PA X (.Attribute a x p::es) (jU te t):=dZ ha hr rfl
def zS (ha:PE X (.Compare a ops bs p) te) (hr:PA X es t):PA X (.Compare a ops bs p::es) (jU te t):=dZ ha hr rfl
def dR {a:Expr} {gs:List Comprehension} {sc:Scope} {p:Pos} (ha:PE X (.ListComp a gs sc p) te) (hr:PA X es t):PA X (.ListComp a gs sc p::es) (jU te t):=dZ ha hr rfl
end
def Az {E:XK} {P:Program} {w:World} {K:Hh} {mg:Hj} {base:Heap} {N:Ho} {qual:Str} {scope:Scope} {f:Addr} {cd:Value} {A:Around} {outer:List Env} {s:Shared} {H:Hp} {CX:CXT} :
  Own ((wB CX P w K mg base N qual scope f cd A outer s H E).bod E):=⟨rfl,rfl,rfl⟩
end L2
namespace HT
open PySem PySem.Spec PyProof.Rows
section
variable {prog:Program} {w:World} {A:Around} {E:Ht} {s:Shared}
def lI {t sl:Addr} {items:Array Value} {vl vu:Value} {lo hi:Option Int} {Q:Ht} (ht:IsTup s.heap t items) (hs:s.heap.IsSliceOf sl vl vu .none) (pl:IsPart vl lo) (pu:IsPart vu hi)
  (hw:sIx items.size 0 lo=0/\sIx items.size items.size hi=items.size) (h:Q (.ref t) s):wpAny (model prog w) A (getItem (.ref t) (.ref sl)) Q E s:=by
 obtain⟨os,hos,hcs,hds⟩:=id hs
 have hTs:s.TypeIs (.ref sl) "slice":=⟨os,hos,hcs⟩
 unfold getItem
 try with_reducible refine wpAny_holding ?_
 first | refine wpAny_bind (wpAny_pure ?_) | skip
 refine wpAny_bind (wpAny_sequenceKey ht.typeIs (by decide) ?_)
 refine wpAny_bind (wpAny_callSpecial?_slot (name:=Str.ofString "__getitem__") ht.typeIs PyProof.Rows.slot_tuple_getitem
  (wpAny_call_entry PyProof.Rows.slot_tuple_getitem ht.typeIs entry_tuple_getitem ?_ (args_tuple_getitem _ _)))
 show wpAny _ _ (Builtin.Tuple.tupleItemsOf (.ref t) >>= _) _ _ s
 refine wpAny_bind (tupleItemsOf_ ht ?_)
 refine wpAny_bind (wpAny_typeOf hTs ?_)
 rw[if_pos (by decide)]
 refine wpAny_bind (iX hs pl pu ?_)
 have hyes:(((sIx items.size 0 lo:Nat):Int) == 0 && (1:Int) == 1 && (sIx items.size items.size hi - sIx items.size 0 lo) == items.size)=true:=by
  rw[hw.1,hw.2]
  simp
 show wpAny _ _ (if (((sIx items.size 0 lo:Nat):Int) == 0 && (1:Int) == 1 && (sIx items.size items.size hi - sIx items.size 0 lo) == items.size)=true then _ else _) _ _ s
 rw[if_pos hyes]
 refine wpAny_bind ?_
 unfold Builtin.Tuple.tupleIsExact
 refine wpAny_bind (wpAny_typeOf ht.typeIs (wpAny_pure ?_))
 rw[if_pos (by decide)]
 refine wpAny_bind (wpAny_rule ?_)
 exact wpAny_pure ⟨_,rfl,wpAny_pure h⟩
end
end HT
namespace L2
open PySem PySem.Spec PyProof.Rows
section
variable {X:Cx}
inductive As (K:Hh) (x:V) (lo:Option Int) (hi:Option Int) (H:Hp) (Q:VK):Prop
 | mk:∀ a xs,x = .ref a->SqT K H a xs->((HT.sIx xs.length 0 lo=0/\HT.sIx xs.length xs.length hi=xs.length)->Q (.ref a) H)->(¬ (HT.sIx xs.length 0 lo=0/\HT.sIx xs.length xs.length hi=xs.length)->∀ p,H p=none->Q (.ref p) (upd H p (.tup (fN xs lo hi))))->As K x lo hi H Q
def Bc:SlR X (As X.K):=by
 intro pins s σ H x v vl vu lo hi sl Q I rx hs pl pu h
 obtain⟨a,xs,rfl,hx,q1,q2⟩:=h
 by_cases hw:HT.sIx xs.length 0 lo=0/\HT.sIx xs.length xs.length hi=xs.length
 ·cases rx
  obtain⟨its,r,ht,hz⟩:=I.tuple hx
  have hlen:its.toArray.size=xs.length:=by rw[size_toArray]; exact r.length.symm
  refine⟨"tuple",_,PyProof.Rows.slot_tuple_getitem.lookup,ht.typeIs,?_⟩
  exact HT.lI ht hs pl pu (by rw[hlen]; exact hw) ⟨.ref a,H,I,rfl,q1 hw⟩
 ·exact Gi pins s σ H (.ref a) v vl vu lo hi sl Q I rx hs pl pu ⟨a,xs,rfl,hx,hw,q2 hw⟩
def mH (K:Hh) (hK:X.K=K:=by rfl):SlR X (As K):=by
 subst hK
 exact Bc
end
def fZ {J:It} {H0 H:Hp} {n:Nat} {Y:Nat->V->Hp->Prop} {g:TG} {tb:TS} {D:Ends} {σ : St} (S:Src J H0 n Y) (Pv:Nat->St->Hp->Prop) (h0:Pv 0 σ H) (keep:∀ i σ H',Pv i σ H'->aD H0 H')
  (step:∀ i x σ H1 H2,i<n->Pv i σ H1->aD H1 H2->Y i x H2->g x σ H2 fun σ2 H3=>tb (D.loop (Pv (i+1))) σ2 H3) (fin:∀ σ H',Pv n σ H'->D.nx σ H') :
  ∃ W:Nat->Nat->St->Hp->Prop,(∃ m,W 0 m σ H)/\∀ i m σ H,W i m σ H->
   (J.stop i H/\D.nx σ H)\/(J.go i H/\∃ N:St->Hp->Prop,(∀ σ' H',N σ' H'->∃ m',m'<m/\W (i+1) m' σ' H')/\∀ x H',J.yld i H x H'->g x σ H' fun σ2 H2=>tb (D.loop (N)) σ2 H2):=by
 refine⟨fun i m σ H'=>m=n - i/\i<=n/\Pv i σ H',⟨n,rfl,zero_le _,h0⟩,?_⟩
 rintro i m σ H1 ⟨rfl,hi,p⟩
 have s1:=keep i σ H1 p
 by_cases hlt:i<n
 ·refine .inr ⟨S.go i H1 hlt s1,Pv (i+1),fun σ' H' p'=>⟨n - (i+1),by omega,rfl,hlt,p'⟩,fun x H' y=>?_⟩
  obtain⟨s2,y2⟩:=S.yld i H1 x H' hlt s1 y
  exact step i x σ H1 H' hlt p s2 y2
 ·have hin:i=n:=by omega
  subst hin
  exact .inl ⟨S.stop H1 s1,fin σ H1 p⟩
section
variable {X:Cx} {pins:Hi} {σ : St} {H:Hp} {s:Shared}
end
section
variable {K:Hh} {H:Hp} {a:Addr} {xs:Hw}
end
def mG (a:Value):checkBuiltinCall "sorted" ⟨[a],[]⟩=pure ():=by kernel_rfl
section
variable {X:Cx}
def CG {prog:Program} {w:World} {kvs:List (Key × Value)} {ns:Hm} (hk:kvs.map (·.1)=ns.map Sum.inl):∀ {acc:Hq},acc.length=kvs.length->(∀ (j:Nat) (v:Value),acc[j]? = some v->∃ k x,kvs[j]? = some (k,x)/\(cE prog w).is k v=true)->IntsAre acc ns:=by
 induction kvs generalizing ns with
 | nil=>
  intro acc hl _
  cases ns with
  | nil=>
   cases acc with
   | nil=>exact .nil
   | cons _ _=>simp at hl
  | cons _ _=>simp at hk
 | cons kv kvs ih=>
  intro acc hl h
  cases ns with
  | nil=>simp at hk
  | cons n ns=>
   cases acc with
   | nil=>simp at hl
   | cons v acc=>
    simp only[map_cons,List.cons.injEq]at hk
    obtain⟨k,x,h1,h2⟩:=h 0 v rfl
    have h1:kv=(k,x):=by simpa using h1
    subst h1
    have hk1:k=Sum.inl n:=hk.1
    subst hk1
    have hv:∃ t,v = .int n t:=by
     have h2:Value.isInt n v=true:=h2
     cases v <;> simp_all [Value.isInt]
    obtain⟨t,rfl⟩:=hv
    exact .cons n t (ih hk.2 (by simpa using hl) fun j v hv=>by
     obtain⟨k,x,h1,h2⟩:=h (j+1) v (by simpa using hv)
     exact⟨k,x,by simpa using h1,h2⟩)
def A7 {κ : Type} {kvs:List (κ × V)} {vs:List (κ × Value)} (r:KV kvs vs):kvs.map (·.1)=vs.map (·.1):=by
 induction r with
 | nil=>rfl
 | cons h _ ih=>
  rw[map_cons,map_cons,ih]
  congr 1
  exact h.1
inductive tLRX (Q:VK) (vs:Hw) (H1:Hp):Prop
 | mk:∀ i j:Int,vs=[.int i,.int j]->(-(2 ^ 62)<=i/\i<2 ^ 62/\-(2 ^ 62)<=j/\j<2 ^ 62)->(j - i).toNat<=sizeLine->(∀ p,H1 p=none->Q (.ref p) (upd H1 p (.lst ((List.range (j - i).toNat).map fun k=>.int (i+(k:Nat))))))->tLRX Q vs H1
def tLR (ta:TA):TE:=fun σ H Q=>ta σ H (tLRX Q)
def zB:∀ {n:Nat} {us:Hq},us.length=n->(∀ (j:Nat) v,us[j]? = some v->∃ t,v=Value.int (i+(j:Int) * 1) t)->bR ((List.range n).map fun k=>V.int (i+(k:Nat))) us:=by
 intro n us hl h
 have key:∀ {n:Nat} {us:Hq} {f:Nat->Int},us.length=n->(∀ (j:Nat) v,us[j]? = some v->∃ t,v=Value.int (f j) t)->bR ((List.range n).map fun k=>V.int (f k)) us:=by
  intro n
  induction n with
  | zero=>
   intro us f hl _
   cases us with
   | nil=>exact .nil
   | cons _ _=>simp at hl
  | succ n ih=>
   intro us f hl h
   cases us with
   | nil=>simp at hl
   | cons u us=>
    rw[range_succ_eq_map,map_cons,map_map]
    obtain⟨t,e⟩:=h 0 u rfl
    exact .cons ⟨t,e⟩ (ih (f:=fun k=>f (k+1)) (by simpa using hl) fun j v hv=>h (j+1) v (by simpa using hv))
 exact key hl fun j v hv=>by
  obtain⟨t,e⟩:=h j v hv
  exact⟨t,by rw[e,Int.mul_one]⟩
def qV (hc:X.calm=true) (hgL:Gl X "list") (hmL:X.mg "list" = none) (hg:Gl X "range") (hm:X.mg "range" = none) (ha:PA X [a,b] ta)
  (hs:starEach [a,b] X.env=[(false,eval a X.env),(false,eval b X.env)]:=by rfl) (hs2:starEach [b] X.env=[(false,eval b X.env)]:=by rfl)
  (hs3:starEach [.Call (.Name "range" p2) [a,b] [] pos2] X.env=[(false,eval (.Call (.Name "range" p2) [a,b] [] pos2) X.env)]:=by rfl) :
  PE X (.Call (.Name "list" p) [.Call (.Name "range" p2) [a,b] [] pos2] [] pos) (tLR ta):=by
 intro pins s σ H Q I h
 refine wpAny_Call_Name_kw (jN I hgL hmL boot_list ?_)
 refine PyProof.Rows.callWith_type1 ?_ hs3 rfl
 rw[hs3]
 show wpAny _ _ (spliced ((false,eval (.Call (.Name "range" p2) [a,b] [] pos2) X.env)::[])) _ _ s
 refine Calls.spliced_cons ?_
 refine Call_ (jN I hg hm boot_range (PyProof.Rows.callWith_type1 (thn (ha pos2 pins s σ H _ I h) fun us s1 zQq=>?_) (by rw[hs,hs2]) (by rw[hs2]; rfl)))
 obtain⟨vs,H1,I1,r1,q1⟩:=zQq
 obtain⟨i,j,e,⟨q1,q2,q3,q4⟩,hz,q⟩:=q1
 subst e
 cases r1 with
 | cons r rr=>
  cases rr with
  | cons r' rr=>
   cases rr
   obtain⟨t,rfl⟩:=r
   obtain⟨t',rfl⟩:=r'
   refine call_range_2 ?_
   refine Calls.spliced_nil ?_
   have I2:Inv X pins σ H1 { s1 with heap:=s1.heap.push { cls:=.type "range",data:=.fields #[.int i t,.int j t',.int 1 s1.toks] },toks:=s1.toks+1 }:=I1.kept fun b o e=>get?_push_of_some _ e
   refine call_list_range (n:=(j - i).toNat) (I.ok.hd hc) (IsRange.new ..) (small_one q1 q2 q3 q4) (by rw[rangeSize_one]; split <;> omega) (le_trans hz (by decide)) fun h' tk acc c' kp g' hit=>?_
   refine⟨.ref _,upd H1 _ (.lst ((List.range (j - i).toNat).map fun k=>.int (i+(k:Nat)))),I2.laid (t':=tk) kp (le_refl _) ?_,rfl,q _ (I2.hok.fresh (le_refl _))⟩
   refine⟨by rw[length_map,length_range]; exact hz,acc.toList,c',zB (by have:=hit.1; simpa using this) fun k v hv=>hit.2 k v (by simpa using hv),?_⟩
   simpa using g'
inductive GF (x:V) (vs:Hw) (H:Hp) (Q:VK):Prop
 | mk:∀ a kvs k v,x = .ref a->vs=[kV k]->H a=some (.dK kvs)->eE kvs k=some v->Q v (upd H a (.dK (hX kvs k)))->GF x vs H Q
def A3:MtR X "dict.pop" GF:=by
 intro pins s σ H x vs v us Q I rx rv h
 obtain⟨a,kvs,k,y,rfl,rfl,hd,hk,q⟩:=h
 cases (show v=Value.ref a from rx)
 obtain⟨u,rfl,ru⟩:=pO rv
 exact d_pop I hd ru hk (.inl rfl) fun w' s' I' rw'=>⟨y,_,I',rw',q⟩
def G0 (c:Maker X.prog X.w X.K X.mg X.base x C k ps sp) (hr:Room (k+1) X.A) (hx:eR (CXE X.prog X.w) X E) (hg:Gl X x:=by rfl) (hdb:(x == ("__debug__" : Str))=false:=by decide) :
  PE X (.Call (.Name x p) [] [] pos) (tMk C sp E o7):=by
 obtain⟨f,fd,F,M,hm,hb⟩:=c.ex
 intro pins s σ H Q I h
 exact DW M F hr hg hm hb .nil hx hdb pins s σ H Q I (sX h)
inductive tLTX (K:Hh) (Q:(Bool->Hp->Prop)) (x:V) (H':Hp):Prop
 | mk:∀ a xs,x = .ref a->SqL K H' a xs->Q (!xs.isEmpty) H'->tLTX K Q x H'
def tLT (K:Hh) (ta:TE):TT:=fun σ H Q=>ta σ H (tLTX K Q)
def hU (K:Hh) (ha:PE X a ta) (he:∀ whole,isTrue a X.env whole=(do let v <- whole; standAt a.pos; holding [v] (truthy v)):=by intro _; rfl) (hK:X.K=K:=by rfl):PT X a (tLT K ta):=by
 subst hK
 intro pins s σ H Q I h
 refine isTrue_plain (thn (ha pins s σ H _ I h) fun v s1 ⟨x,H1,I1,r1,a1,xs,ex,hq,q1⟩=>GR pins s1 σ H1 x v Q I1 r1 ?_) (he _)
 subst ex
 exact⟨_,.inl ⟨xs,hq,rfl⟩,q1⟩
def qY (K:Hh) {T id:String} {name:Str} {r:V->Hw->Hp->VK->Prop} {o e:Expr} {es:List Expr} {to:TE} {t:TA} {apos cpos:Pos} (pa:PlainAttrs T) (slot:Slot T name id) (hty:typeOf (.builtin id)=pure (.type "method_descriptor")) (hm:MtR X id r) (ho:PE X o to) (ha:PA X (e::es) t)
  (hbase:attributeBase o name X.env (eval o X.env)=eval o X.env:=by rfl)
  (hfew:((backTo cpos (starEach (e::es) X.env)).all (fun x=>!x.1) && (backToKw cpos (keywordEach [] X.env)).all (fun x=>x.1.isSome)
   && decide ((e::es).length+([]:List Keyword).length+(if ([]:List Keyword).isEmpty then 0 else 1)<30))=true:=by rfl)
  (hline:(apos.endLine == cpos.line)=true:=by rfl) (hs:starEach (e::es) X.env=(false,eval e X.env)::starEach es X.env:=by rfl) (hplain:(backTo cpos (starEach es X.env)).any (·.1)=false:=by rfl) (hK:X.K=K:=by rfl) :
  PE X (.Call (.Attribute o name apos) (e::es) [] cpos) (tBM K T r to t):=by
 subst hK
 exact pe_bm pa slot hty hm ho ha hbase hfew hline hs hplain
def CF {prog:Program} {w:World} {kvs:List (Key × Value)} {ns:Ho} (hk:kvs.map (·.1)=ns.map Sum.inr):∀ {acc:Hq},acc.length=kvs.length->(∀ (j:Nat) (v:Value),acc[j]? = some v->∃ k x,kvs[j]? = some (k,x)/\(cE prog w).is k v=true)->StrsAre acc ns:=by
 induction kvs generalizing ns with
 | nil=>
  intro acc hl _
  cases ns with
  | nil=>
   cases acc with
   | nil=>exact .nil
   | cons _ _=>simp at hl
  | cons _ _=>simp at hk
 | cons kv kvs ih=>
  intro acc hl h
  cases ns with
  | nil=>simp at hk
  | cons n ns=>
   cases acc with
   | nil=>simp at hl
   | cons v acc=>
    simp only[map_cons,List.cons.injEq]at hk
    obtain⟨k,x,h1,h2⟩:=h 0 v rfl
    have h1:kv=(k,x):=by simpa using h1
    subst h1
    have hk1:k=Sum.inr n:=hk.1
    subst hk1
    obtain⟨t,rfl⟩:∃ t,v = .str n t:=by
     rcases cQ (k:=Sum.inr n) (v:=v) h2 with ⟨i,t,e,_⟩ | ⟨y,t,e,e2⟩
     ·cases e
     ·cases e
      exact⟨t,e2⟩
    exact .cons n t (ih hk.2 (by simpa using hl) fun j v hv=>by
     obtain⟨k,x,h1,h2⟩:=h (j+1) v (by simpa using hv)
     exact⟨k,x,by simpa using h1,h2⟩)
def sR:∀ {vs:Hq} {ss:Ho},StrsAre vs ss->bR (ss.map V.str) vs
 | _,_,.nil=>.nil
 | _,_,.cons y t h=>.cons ⟨t,rfl⟩ (sR h)
def CC {v₁ v₂ : Value} {rest:Hq} {ss:Ho} (h:StrsAre (v₁ :: v₂ :: rest) ss):keyKind' (v₁ :: v₂ :: rest).toArray=pure oneType':=by
 exact keyKind_strs h
inductive xO (xs:Hw) (H:Hp) (Q:VK):Prop
 | mk:∀ d kvs ns,xs=[.ref d]->H d=some (.dK kvs)->kvs.map (·.1)=ns.map Sum.inr->ns.length<64->(∀ p ms,List.Perm ms ns->sortedS ms=true->H p=none->Q (.ref p) (upd H p (.lst (ms.map .str))))->xO xs H Q
def wD (hc:X.calm=true):fH X (.builtin "sorted") xO:=by
 intro pins s σ H xs us Q I r h
 obtain⟨d,kvs,ns,rfl,hd,hk,hl,q⟩:=h
 cases r with
 | cons r1 r2=>
  cases r2
  cases (show _=Value.ref d from r1)
  obtain⟨hz,hsm,vs,rel,o,es,ep,dd⟩:=BH I.hok hd
  have hh:X.A.in1.handled=none:=I.ok.hd hc
  have hlen:vs.length=ns.length:=by
   have h1:=rel.length
   have h2:=congrArg List.length hk
   rw[length_map,length_map]at h2
   omega
  have hkv:vs.map (·.1)=ns.map Sum.inr:=by rw[<- A7 rel]; exact hk
  refine wpAny_call (codeAny_call_builtin plain_sorted entry_sorted (wpAny_of_eq (mG _) ?_))
  show wpAny _ _ (checkCount "sorted" 1 1 1 >>= _) _ _ s
  refine wpAny_bind (wpAny_of_eq (a:=()) (by rfl) ?_)
  refine wpAny_bind (kdu_collect (kdl_dict (knd:=cE X.prog X.w) (kvs:=vs) (ep:=ep) hsm) hh ⟨o,es,dd⟩ (by rw[hlen]; exact le_of_lt (lt_trans hl (by decide))) fun h' tk acc keep hit=>?_)
  have hacc:acc.toList.length=vs.length:=by
   have:=hit.1
   simpa using this
  have hstrs:StrsAre acc.toList ns:=CF (prog:=X.prog) (w:=X.w) hkv hacc fun j v hv=>hit.2 j v (by simpa using hv)
  refine wpAny_bind (wpAny_newList ?_ (by rw[hacc,hlen]; exact le_of_lt (lt_trans hl (by decide))))
  generalize eh2:h'.push { cls:=.type "list",data:=.seq acc.toList.toArray }=h2
  have g2:h2.get? h'.objs.size=some (seqObj "list" acc.toList.toArray 0):=by
   rw[<- eh2]
   exact get?_push_size _ rfl
  refine wpAny_bind (wpAny_holding ?_)
  refine wpAny_call_entry (T:="list") PyProof.Rows.slot_list_sort ⟨_,g2,rfl⟩ PyProof.Rows.entry_list_sort ?_ (PyProof.Rows.args_list_sort _)
  refine list_sort_treeK strKind_oneLt g2 hstrs.keysOf (fun v₁ v₂ rest e=>CC (e ▸ hstrs)) (by rw[hacc,hlen]; exact hl) fun st' p1 p2=>?_
  obtain⟨ms,hout,perm,pw⟩:=sorted_out_str hstrs p1 p2
  generalize (arrOf st').map (fun x=>x.snd)=out at hout
  refine⟨_,rfl,wpAny_pure ?_⟩
  obtain⟨ep2,gat⟩:=sortedHeap_at (h:=h2) (a:=h'.objs.size) (vs:=acc.toList) (out:=out) g2
  have hf:H h'.objs.size=none:=(I.kept (t':=tk) keep).hok.fresh (le_refl _)
  refine⟨.ref h'.objs.size,upd H h'.objs.size (.lst (ms.map .str)),(I.kept (t':=tk) keep).laid (t':=tk) (fun b u e=>?_) (le_refl _) ?_,rfl,q _ ms perm pw hf⟩
  ·have hb:b<h'.objs.size:=lt_size e
   have h2s:h2.objs.size=h'.objs.size+1:=by rw[<- eh2]; exact size_push _ _
   rw[sortedHeap_old (ne_of_lt hb) (by rw[h2s]; exact lt_succ_of_lt hb),<- eh2]
   exact get?_push_of_some _ e
  ·refine⟨?_,out.toList,ep2,sR hout,?_⟩
   ·rw[length_map,perm.length_eq]
    exact le_of_lt (lt_trans hl (by decide))
   ·simpa [seqObj] using gat
def Its (x:Str):It:=⟨fun i _=>i<x.cps.size,fun i H v H'=>H'=H/\∃ c,x.cps[i]? = some c/\v = .str ⟨#[c]⟩,fun i _=>x.cps.size<=i⟩
def Cn {P:Program} {w:World} {K:Hh} {tg:Expr} (x:Str) (t:Tok) (it:Addr) (hx:(x.cps.all fun c=>decide (c<128))=true):Turn P w K tg (Its x) [it] it (fun i h=>h.IsStrIter it "str_ascii_iterator" x t i) where
 mem:=by simp
 obj:=fun i h st b hb=>by
  have e:b=it:=by simpa using hb
  subst e
  obtain⟨o,e,c,d⟩:=st
  exact⟨o,e,fun v z=>by rw[d]at z; cases z⟩
 keep:=fun i h h' st k=>by
  obtain⟨o,e,r⟩:=st
  exact⟨o,k it (by simp) o e,r⟩
 item:=by
  intro X hP hw hK hc i pins s σ H E I hf st hg
  subst hP hw hK
  have hg:i<x.cps.size:=hg
  obtain⟨f0,f1,f2,f3,f4,f5⟩:=hf it (by simp)
  refine wpAny_pyNext_ascii_item st (c:=x.cps[i]) (by simp [hg]) fun h' st' sb=>?_
  have I1:Inv X pins σ H { s with heap:=h',toks:=s.toks+1 }:=I.turned (t':=s.toks+1) (fun b o hb e=>(sb.2 b hb).trans e) f0 f1 f3 f4 f5
  obtain⟨o,e,c,d⟩:=id st'
  exact⟨_,rfl,BC (s:={ s with heap:=h',toks:=s.toks+1 }) e c d (by decide) ⟨.str ⟨#[x.cps[i]]⟩,H,I1,⟨_,rfl⟩,⟨rfl,_,by simp [hg],rfl⟩,st',fun b hb=>(hf b hb).1⟩⟩
 done:=by
  intro X hP hw hK hc i pins s σ H E I hf st hg
  subst hP hw hK
  have hg:x.cps.size<=i:=hg
  obtain⟨f0,f1,f2,f3,f4,f5⟩:=hf it (by simp)
  exact wpAny_pyNext_ascii_end (I.ok.hd hc) st (by simp [hg]) fun h' eb=>⟨rfl,I.turned (t':=s.toks) (fun b o hb e=>eb b o hb e) f0 f1 f3 f4 f5⟩
 self:=fun _ _ _ _ _ st h=>wpAny_pyIter_striter_ascii st h
inductive GL (R:(It->Hp->Prop)) (v:V) (H1:Hp):Prop
 | mk:∀ x:Str,v = .str x->(x.cps.all fun c=>decide (c<128))=true->R (Its x) H1->GL R v H1
def iStr (tl:TE):TI:=fun σ H R=>tl σ H (GL R)
def Gx {tg l:Expr} {tl:TE} (hl:PE X l tl):PI X tg l (iStr tl):=by
 intro pins s σ H R I h
 refine thn (hl pins s σ H _ I h) fun v s1 zQq=>?_
 obtain⟨y,H1,I1,r1,q1⟩:=zQq
 obtain⟨x,e,hx,q⟩:=q1
 subst e
 obtain⟨t,rfl⟩:=r1
 refine wpAny_pyIter_strU ?_
 have ht:strIterType x = "str_ascii_iterator":=by unfold strIterType; rw[if_pos hx]
 rw[ht]
 refine⟨s1.heap.objs.size,[s1.heap.objs.size],_,_,H1,rfl,I1.kept (t':=s1.toks) fun b o e=>get?_push_of_some _ e,Cn x t _ hx,⟨_,get?_push_size _ rfl,rfl,rfl⟩,fun b hb=>?_,q⟩
 have e:b=s1.heap.objs.size:=by simpa using hb
 subst e
 exact I1.fpOk (le_refl _) (I1.hok.fresh (le_refl _))
def E1 (x:Str):Src (Its x) H x.cps.size (fun i v _=>∃ c,x.cps[i]? = some c/\v = .str ⟨#[c]⟩) where
 go:=fun i H' hi s=>hi
 yld:=fun i H' v H'' hi s y=>⟨by rw[y.1]; exact aD.refl _,y.2⟩
 stop:=fun H' s=>le_refl _
end
section
variable {X:Cx} {pins:Hi} {σ : St} {H:Hp} {s:Shared}
end
section
variable {X:Cx}
end
end L2
namespace TS
open PySem PyProof.Rows
def kk (κ : KeyKind) (p:Keyed):κ.α:=(κ.keyOf p.1).getD κ.dflt
def Ky (κ : KeyKind) (p:Keyed):Prop:=∃ a,κ.keyOf p.1=some a
def Le (κ : KeyKind) (p q:Keyed):Prop:=κ.kle (kk κ p) (kk κ q)
def AllK (κ : KeyKind) (xs:Array Keyed):Prop:=∀ (i:Nat) p,xs[i]? = some p->Ky κ p
section
variable {prog:Program} {w:World} {A:Around} {E:Ht} {s:Shared} {κ : KeyKind}
def wp_lt (hO:κ.OneLt) {st:SortSt} {x y:Keyed} {Q:Option Bool->SortSt->Prop} (hk:kindOf st=oneType') (hx:Ky κ x) (hy:Ky κ y) (h:Q (some (κ.blt (kk κ x) (kk κ y))) st):wpS (model prog w) A E s (lt' x y) Q st:=by
 obtain⟨a,ha⟩:=hx
 obtain⟨b,hb⟩:=hy
 have h:Q (some (κ.blt a b)) st:=by
  unfold kk at h
  rw[ha,hb]at h
  exact h
 rw[lt'_eq]
 refine wpS_bind (wpS_get ?_)
 rw[hk,keyLt'_oneType]
 exact wpS_bind (wpS_lift (wpAny_attempt (hO prog w A _ s x.1 y.1 a b ha hb ⟨rfl,wpS_pure h⟩)))
def AW {st:SortSt} {xs:Array Keyed} {i:Nat} {p:Keyed} {Q:Keyed->SortSt->Prop} (e:xs[i]? = some p) (h:Q p st):wpS (model prog w) A E s (elem' xs i) Q st:=by
 rw[elem'_eq,e]
 exact wpS_pure h
end
end TS
namespace TS
open PySem PyProof.Rows
def nJ {xs:Array Keyed} {i:Nat} (h:i<xs.size):∃ p,xs[i]? = some p:=⟨_,getElem?_pos xs i h⟩
section
variable {κ : KeyKind} {a b o:Array Keyed} {i j:Nat}
end
section
variable {prog:Program} {w:World} {A:Around} {E:Ht} {s:Shared} {κ : KeyKind} {a b:Array Keyed}
def Fw {m n:Nat} (h:m=n):(m == n)=true:=by simpa using h
end
end TS
namespace TS
open PySem PyProof.Rows
section
variable {κ : KeyKind} {a b o:Array Keyed} {i j:Nat}
end
section
variable {prog:Program} {w:World} {A:Around} {E:Ht} {s:Shared} {κ : KeyKind} {a b:Array Keyed}
end
end TS
namespace TS
open PySem PyProof.Rows
def SR (κ : KeyKind) (xs:Array Keyed) (lo hi:Nat):Prop:=∀ (i j:Nat) p q,lo<=i->i<=j->j<hi->xs[i]? = some p->xs[j]? = some q->Le κ p q
structure SB (κ : KeyKind) (a₀ : Array Keyed) (st:SortSt):Prop where
 kind:kindOf st=oneType'
 failed:failedOf st=none
 perm:(arrOf st).Perm a₀
def SB.size {κ : KeyKind} {a₀ : Array Keyed} {st:SortSt} (h:SB κ a₀ st):(arrOf st).size=a₀.size:=h.perm.size_eq
def SB.keys {κ : KeyKind} {a₀ : Array Keyed} {st:SortSt} (h:SB κ a₀ st) (h0:KeysOf κ a₀):AllK κ (arrOf st):=fun i p e=>by
 refine h0 p ((Array.perm_iff_toList_perm.mp h.perm).mem_iff.mp ?_)
 rw[<- Array.getElem?_toList]at e
 exact mem_of_getElem? e
section
variable {prog:Program} {w:World} {A:Around} {E:Ht} {s:Shared} {κ : KeyKind} {a₀ : Array Keyed}
end
end TS
namespace TS
open PySem PyProof.Rows
def kAt (κ : KeyKind) (xs:Array Keyed) (i:Nat):Option κ.α:=xs[i]?.map (kk κ)
def Up (κ : KeyKind) (xs:Array Keyed) (lo hi:Nat):Prop:=∀ (i j:Nat) x y,lo<=i->i<=j->j<hi->kAt κ xs i=some x->kAt κ xs j=some y->κ.kle x y
def Up.sr {κ : KeyKind} {xs:Array Keyed} {lo hi:Nat} (h:Up κ xs lo hi):SR κ xs lo hi:=fun i j p q h1 h2 h3 e e'=>h i j (kk κ p) (kk κ q) h1 h2 h3 (by unfold kAt; rw[e]; rfl) (by unfold kAt; rw[e']; rfl)
def D7 (e:xs[i]? = some p):kAt κ xs i=some (kk κ p):=by unfold kAt; rw[e]; rfl
section
variable {prog:Program} {w:World} {A:Around} {E:Ht} {s:Shared} {κ : KeyKind} {a₀ : Array Keyed}
def En (hO:κ.OneLt) (h0:KeysOf κ a₀) {st:SortSt} (B:SB κ a₀ st) {i j:Nat} {Q:Option Bool->SortSt->Prop} (hi:i<a₀.size) (hj:j<a₀.size) (h:∀ x y,kAt κ (arrOf st) i=some x->kAt κ (arrOf st) j=some y->Q (some (κ.blt x y)) st):wpS (model prog w) A E s (ltAt' i j) Q st:=by
 obtain⟨p,ep⟩:=nJ (show i<(arrOf st).size by rw[B.size]; exact hi)
 obtain⟨q,eq⟩:=nJ (show j<(arrOf st).size by rw[B.size]; exact hj)
 rw[ltAt'_eq]
 refine wpS_bind (wpS_get ?_)
 dsimp only
 exact wpS_bind (AW ep (wpS_bind (AW eq (wp_lt hO B.kind (B.keys h0 _ _ ep) (B.keys h0 _ _ eq) (h _ _ (D7 ep) (D7 eq))))))
end
end TS
namespace TS
open PySem PyProof.Rows
section
variable {prog:Program} {w:World} {A:Around} {E:Ht} {s:Shared} {κ : KeyKind} {a₀ : Array Keyed}
end
end TS
namespace TS
open PySem PyProof.Rows
def SR.toK (h:SR κ xs 0 n) (hn:n<=xs.size):SortedToK κ xs n:=fun i j hij hj=>by
 obtain⟨p,ep⟩:=nJ (show i<xs.size by omega)
 obtain⟨q,eq⟩:=nJ (show j<xs.size by omega)
 have:=h i j p q (zero_le _) hij hj ep eq
 unfold KK
 rw[ep,eq]
 exact this
section
variable {prog:Program} {w:World} {A:Around} {E:Ht} {s:Shared} {κ : KeyKind}
end
end TS
namespace TS
open PySem PyProof.Rows
def lA:KeyKind where
 α:=Int
 blt a b:=decide (a<b)
 irrefl a:=decide_eq_false (Int.lt_irrefl a)
 trans a b c h1 h2:=decide_eq_true (Int.lt_trans (of_decide_eq_true h1) (of_decide_eq_true h2))
 negTrans a b c h:=by
  have h:=of_decide_eq_true h
  by_cases z:a<b
  ·exact .inl (decide_eq_true z)
  ·exact .inr (decide_eq_true (by omega))
 total a b h1 h2:=by
  have h1:=of_decide_eq_false h1
  have h2:=of_decide_eq_false h2
  omega
 keyOf v:=match v with
  | .int n _=>some n
  | _=>none
 dflt:=0
def HD:lA.OneLt:=by
 intro prog w A E s x y a b Q hx hy q
 cases x with
 | int n t=>
  cases y with
  | int m u=>
   cases (show some n=some a from hx)
   cases (show some m=some b from hy)
   exact oneLt_int q
  | _=>cases hy
 | _=>cases hx
def Dn (h:IntsAre vs ns):KeysOf lA (pairsOf vs):=fun p hp=>by
 obtain⟨n,t,e⟩:=h.intKeys p hp
 exact⟨n,by rw[e]; rfl⟩
def AD (h:SortedToK lA xs n):SortedTo xs n:=fun i j hij hj=>by
 have:=h i j hij hj
 have e:∀ k,KK lA xs k=K xs k:=fun k=>by
  unfold KK K
  cases xs[k]? with
  | none=>rfl
  | some p=>
   dsimp only
   cases p.1 <;> rfl
 rw[e,e]at this
 have this:decide (K xs j<K xs i)=false:=this
 have:=of_decide_eq_false this
 omega
end TS
namespace L2
open PySem PySem.Spec PyProof.Rows
section
variable {X:Cx}
inductive tFwX (a:Str) (Q:VK) (v:V) (H1:Hp):Prop
 | mk:∀ i:Int,v = .int i->0<=i->i<10 ^ 10->Q (.str (a++Str.ofString (toString i))) H1->tFwX a Q v H1
def tFw (a:Str) (te:TE):TE:=fun σ H Q=>te σ H (tFwX a Q)
def CA {a:Int} (h0:0<=a) (h:a<10 ^ 10):a.natAbs.log2<1920:=by
 have h:a.natAbs<10 ^ 10:=by omega
 by_cases h0:a.natAbs=0
 ·rw[h0]; decide
 ·have h1:a.natAbs.log2<64:=(Nat.log2_lt h0).mpr (lt_of_lt_of_le h (by decide))
  omega
def pe_fw {a:Str} {e:Expr} {te:TE} {k:Nat} {p1 p2 pos:Pos} (he:PE X e te) (ha:a.length<=1000:=by decide):PE X (.JoinedStr [.Constant (.str a) k p1,.FormattedValue e (-1) none p2] pos) (tFw a te):=by
 intro pins s σ H Q I h
 refine wpAny_JoinedStr ?_
 have e2:evalEach [.Constant (.str a) k p1,.FormattedValue e (-1) none p2] X.env=[eval (.Constant (.str a) k p1) X.env,eval (.FormattedValue e (-1) none p2) X.env]:=by rfl
 rw[e2]
 unfold Joins
 refine thn (cY pins s σ H (fun v H1=>v = .str a/\H1=H) I ⟨rfl,rfl⟩) fun v s1 zQq=>?_
 obtain⟨x,H1,I1,r1,hx,hH⟩:=zQq
 subst hx hH
 obtain⟨t,rfl⟩:=r1
 refine⟨a,t,rfl,?_,?_⟩
 ·rw[PySem.W.KT.empty_app]
  exact le_trans ha (by decide)
 rw[PySem.W.KT.empty_app]
 unfold Joins
 refine wpAny_FormattedValue_plain (thn (he pins s1 σ _ _ I1 h) fun v s2 zQq=>?_)
 obtain⟨x,H2,I2,r2,i,hx,h0,h1,q⟩:=zQq
 subst hx
 obtain⟨u,rfl⟩:=r2
 have hl:(a++Str.ofString (toString i)).length<=sizeLine:=by
  have:=PySem.W.KT.len_num h0 h1
  rw[strLen_append]
  exact le_trans (show _<=1010 by omega) (by decide)
 refine wpAny_formatField_int (CA h0 h1) ⟨_,_,rfl,hl,hl,?_⟩
 exact⟨.str _,H2,I2.kept (fun _ _ e=>e),⟨_,rfl⟩,q⟩
inductive rSlS (x:V) (lo:Option Int) (hi:Option Int) (H:Hp) (Q:VK):Prop
 | mk:∀ y,x = .str y->y.length<=sizeLine->Q (.str (Txt.slice y lo hi)) H->rSlS x lo hi H Q
def Gj:SlR X rSlS:=by
 intro pins s σ H x v vl vu lo hi sl Q I rx hs pl pu h
 obtain⟨y,rfl,hz,q⟩:=h
 obtain⟨t,rfl⟩:=rx
 obtain⟨o,h1,h2,h3⟩:=hs
 refine⟨"str",_,F.slot_str_getitem.lookup,typeIs_str _ _ _,?_⟩
 have key:∀ (l u:Option (Int × Tok)),s.heap.IsSlice sl l u none->l.map (·.1)=lo->u.map (·.1)=hi->wpAny (model X.prog X.w) X.A (getItem (.str y t) (.ref sl)) (EP X pins σ Q) X.xe s:=by
  intro l u hsl e1 e2
  subst e1 e2
  exact wpAny_getItem_str_slice (l:=l) (u:=u) (st:=none) hsl rfl (post_val_or_str ⟨le_trans (Txt.slice_le y _ _) hz,fun t' k=>⟨.str _,H,I.kept (t':=k) (fun _ _ e=>e),⟨t',rfl⟩,q⟩⟩)
 cases pl with
 | none=>
  cases pu with
  | none=>exact key none none ⟨o,h1,h2,h3⟩ rfl rfl
  | int j u=>exact key none (some (j,u)) ⟨o,h1,h2,h3⟩ rfl rfl
 | int i u=>
  cases pu with
  | none=>exact key (some (i,u)) none ⟨o,h1,h2,h3⟩ rfl rfl
  | int j u'=>exact key (some (i,u)) (some (j,u')) ⟨o,h1,h2,h3⟩ rfl rfl
def AF:MtR X "str.isdigit" (fun x vs H Q=>∃ y,x = .str y/\vs=[]/\Q (.bl (Txt.isdigit y)) H):=by
 intro pins s σ H x vs v us Q I rx rv h
 obtain⟨y,rfl,rfl,q⟩:=h
 obtain⟨t,rfl⟩:=rx
 cases rv
 exact SC.isdigit ⟨.bl _,H,I,rfl,q⟩
def FR (K:Hh) {T id:String} {name:Str} {r:V->Hw->Hp->VK->Prop} {o:Expr} {to:TE} {apos cpos:Pos} (pa:PlainAttrs T) (slot:Slot T name id) (hty:typeOf (.builtin id)=pure (.type "method_descriptor")) (hm:MtR X id r) (ho:PE X o to)
  (hbase:attributeBase o name X.env (eval o X.env)=eval o X.env:=by rfl) (hline:(apos.endLine == cpos.line)=true:=by rfl) (hK:X.K=K:=by rfl):PE X (.Call (.Attribute o name apos) [] [] cpos) (tBM0 K T r to):=by
 subst hK
 exact G4 pa slot hty hm ho hbase hline
inductive GE (xs:Hw) (H:Hp) (Q:VK):Prop
 | mk:∀ x n,xs=[.str x]->PySem.intText? x=some n->x.length<=640->Q (.int n) H->GE xs H Q
def uN:fH X (.type "int") GE:=by
 intro pins s σ H xs us Q I r h
 obtain⟨x,n,rfl,hn,hl,q⟩:=h
 obtain⟨u,rfl,t,rfl⟩:=pO r
 exact PySem.W.KIN.call_text hn hl ⟨.int n,H,I.tok _,⟨_,rfl⟩,q⟩
def uE:∀ {ns:Hm} {vs:Hq},bR (ns.map V.int) vs->IntsAre vs ns
 | [],_,h=>by cases h; exact .nil
 | n::ns,_,h=>by
  cases h with
  | cons r h=>
   obtain⟨t,rfl⟩:=r
   exact .cons n t (uE h)
def CD:∀ {vs:Hq} {ns:Hm},IntsAre vs ns->2<=ns.length->keyKind' vs.toArray=pure oneType'
 | [],_,h,h2=>by cases h; simp at h2
 | [_],_,h,h2=>by
  have:=IntsAre.length h
  simp at this
  omega
 | v₁ :: v₂ :: rest,_,h,_=>keyKind_ints h
inductive tY (xs:Hw) (H:Hp) (Q:VK):Prop
 | mk:∀ l ns,xs=[.ref l]->H l=some (.lst (ns.map .int))->ns.length<64->(∀ p ms,List.Perm ms ns->ms.Pairwise (· <= ·)->H p=none->Q (.ref p) (upd H p (.lst (ms.map .int))))->tY xs H Q
def sP:fH X (.builtin "sorted") tY:=by
 intro pins s σ H xs us Q I r h
 obtain⟨l,ns,rfl,hd,hl,q⟩:=h
 have hl':ns.length<=sizeLine:=le_trans (le_of_lt hl) (by decide)
 cases r with
 | cons r1 r2=>
  cases r2
  cases (show _=Value.ref l from r1)
  obtain⟨vs,rv,hp,hz⟩:=I.list (SqL.of hd)
  have hI:=uE rv
  have hlen:vs.length=ns.length:=by have:=rv.length; rw[length_map]at this; omega
  refine sorted_ints hp.isList hI (by omega) fun out ms hout perm pw=>?_
  obtain⟨ep2,gat⟩:=sortedAll_at s.heap vs out
  have hf:H (s.heap.objs.size+1)=none:=I.hok.fresh (le_succ _)
  refine⟨.ref (s.heap.objs.size+1),upd H (s.heap.objs.size+1) (.lst (ms.map .int)),I.laid (t':=s.toks) (fun b u e=>sortedAll_old e) (le_succ _) ?_,rfl,q _ ms perm pw hf⟩
  refine⟨?_,out.toList,ep2,kW hout,?_⟩
  ·rw[length_map,perm.length_eq]
   exact hl'
  ·simpa [seqObj] using gat
end
def v9 (l:Addr) (items:Array Value) (n:Nat) (dct:Option Addr) (sl:Hl) (lo:Int) (t:Tok) (hlo:0<=lo/\lo<1000000000) :
  Meets (Builtin.«enumerate.__new__» ⟨[.type "enumerate",.ref l],[("start",.int lo t)]⟩) (fun _ R s=>s.heap.get? l=some { cls:=.type "tuple",dict:=dct,data:=.seq items n,slots:=sl }/\
   R (.ok (.ret (.ref (s.heap.push { cls:=.type "tuple_iterator",data:=.fields #[.ref l,.int 0 0] }).objs.size)))
    { s with heap:=(s.heap.push { cls:=.type "tuple_iterator",data:=.fields #[.ref l,.int 0 0] }).push { cls:=.type "enumerate",data:=.fields #[.none,.bool false,.ref s.heap.objs.size,rawInt lo,.none,.none] } }):=
 .of_wp fun prog w A R s h=>by
  obtain⟨hp,g,d,tk,os⟩:=s
  obtain⟨hl,h⟩:=h
  have z1:=sub_enumerate
  have hf:Builtin.SmallTypes.fitsIndex lo=true:=by
   unfold Builtin.SmallTypes.fitsIndex
   simp
   omega
  have z2:Heap.IsTuple (Shared.heap ⟨hp,g,d,tk,os⟩) l items:=⟨_,hl,rfl,n,rfl⟩
  wp_walk using AutoSeq1.wpAny_loadPart' hl
  refine wpAny_stack_any fun st=>wpAny_pure ?_
  split
  ·rename_i c _ _ _ _ _
   cases (c == Value.type "enumerate")
   ·wp_walk using AutoSeq1.wpAny_loadPart' hl,wpAny_pyIter_tuple z2
    exact⟨_,rfl,h⟩
   ·wp_walk using AutoSeq1.wpAny_loadPart' hl,wpAny_pyIter_tuple z2
    exact⟨_,rfl,h⟩
  ·wp_walk using AutoSeq1.wpAny_loadPart' hl,wpAny_pyIter_tuple z2
   exact⟨_,rfl,h⟩
section
variable {X:Cx}
inductive kK (K:Hh) (R:(It->Hp->Prop)) (x:V) (y:V) (H2:Hp):Prop
 | mk:∀ a xs lo,x = .ref a->y = .int lo->0<=lo->lo<1000000000->SqT K H2 a xs->R (Ite K lo a) H2->kK K R x y H2
abbrev EF (K:Hh) (tb:TE) (σ : St) (R:(It->Hp->Prop)):V->Hp->Prop:=fun x H1=>tb σ H1 (kK K R x)
def HQ (K:Hh) (ta tb:TE):TI:=fun σ H R=>ta σ H (EF K tb σ R)
def DR (K:Hh) (hm:X.mg "enumerate" = none) (ha:PE X ex ta) (hb:PE X e2 tb) (hg:Gl X "enumerate":=by rfl) (hs:starEach [ex] X.env=[(false,eval ex X.env)]:=by rfl) (hK:X.K=K:=by rfl) :
  PI X (.Tuple elts x1 tp) (.Call (.Name "enumerate" p) [ex] [⟨some "start",e2,kp⟩] pos) (HQ K ta tb):=by
 subst hK
 intro pins s σ H R I h
 refine wpAny_Call_Name_kw (jN I hg hm boot_enumerate ?_)
 rw[hs]
 refine yT (x:=eval ex X.env) (rest:=[]) rfl rfl rfl ?_
 have ha':=dZ ha aF hs pos pins s σ H (fun vs H1=>∃ x,vs=[x]/\tb σ H1 (kK X.K R x)) I (by
  have e:(fun(x:V) (H1:Hp)=>o7 σ H1 fun xs H2=>∃ z,x::xs=[z]/\tb σ H2 (kK X.K R z))=fun x H1=>tb σ H1 (kK X.K R x):=by
   funext x H1
   simp only[o7,List.cons.injEq,and_true]
   apply propext
   constructor
   ·rintro ⟨z,rfl,h⟩
    exact h
   ·intro h
    exact⟨x,rfl,h⟩
  exact Eq.mpr (congrArg (ta σ H) e) h)
 rw[hs]at ha'
 refine thn ha' fun us s1 zQq=>?_
 obtain⟨vs,H1,I1,r1,x,ev,q1⟩:=zQq
 subst ev
 refine kws_cons (thn (hb pins s1 σ H1 _ I1 q1) fun v2 s2 zQq=>?_)
 obtain⟨y,H2,I2,ry,a,xs,lo,ex',ey,l0,l1,hq,q⟩:=zQq
 refine kws_nil ?_
 subst ex' ey
 cases r1 with
 | cons r rr=>
  cases rr
  cases (show _=Value.ref a from r)
  obtain⟨tt,rfl⟩:∃ tt,v2 = .int lo tt:=ry
  obtain⟨its,rv,⟨⟨c,dd,dt,sl⟩,ho,hc1,n,hd1⟩,hz⟩:=I2.tuple hq
  dsimp only at hc1 hd1
  subst hc1 hd1
  refine pP (kw:=[("start",_)]) PySem.F.called_enumerate (lN _ _) (m8 _ _) PySem.F.entry_enumerate_new (v9 a _ n dd sl lo tt ⟨l0,l1⟩) (fun obj=>BA obj _ _) (fun obj=>lM obj _ _) ⟨ho,⟨_,get?_push_size _ rfl,rfl⟩,?_⟩
  rw[size_push]
  exact rT (tg:=ex) (tk:=s2.toks) I2 q
structure GD (P:Program) (w:World) (K:Hh) (a:Addr) (kvs:Hu):Prop where
 sys:(a == sysModules)=false
 ex:∃ o vs,K.lookup a=some o/\KV kvs vs/\o.IsDictOf (cE P w) vs
def GD.here (g:GD X.prog X.w X.K a kvs) (I:Inv X pins σ H s):∃ vs,KV kvs vs/\s.heap.DictOf (cE X.prog X.w) a vs:=by
 obtain⟨o,vs,h1,h2,h3⟩:=g.ex
 exact⟨vs,h2,Heap.dictOf_iff.mpr ⟨o,I.kIn _ _ h1,h3⟩⟩
inductive Cv (kvs:Hu) (Q:VK) (y:V) (H1:Hp):Prop
 | mk:∀ k v,y=kV k->eE kvs k=some v->Q v H1->Cv kvs Q y H1
def tGGet (kvs:Hu) (ty:TE):TE:=fun σ H Q=>ty σ H (Cv kvs Q)
inductive wV (kvs:Hu) (Q:VK) (y:V) (H1:Hp):Prop
 | mk:∀ k,y=kV k->Q (.bl (!(eE kvs k).isSome)) H1->wV kvs Q y H1
def Et (kvs:Hu) (ty:TE):TE:=fun σ H Q=>ty σ H (wV kvs Q)
def FP {K:Hh} {a:Addr} {kvs:Hu} {o i:Expr} {ty:TE} {pos:Pos} (g:GD X.prog X.w K a kvs) (ho:PE X o (tC (.ref a))) (hi:PE X i ty) (hs:Hd i) (hK:X.K=K:=by rfl):PE X (.Subscript o i pos) (tGGet kvs ty):=by
 subst hK
 intro pins s σ H Q I h
 refine Ac PySem.F.slot_dict_getitem.lookup hs (thn (ho pins s σ H (fun x H1=>x = .ref a/\H1=H) I ⟨rfl,rfl⟩) fun u s1 zQq=>?_)
 obtain⟨x,H1,I1,rx,ex,eH⟩:=zQq
 subst ex eH
 obtain rfl:u=Value.ref a:=rx
 refine thn (hi pins s1 σ H1 _ I1 h) fun iv s2 zQq=>?_
 obtain⟨y,H2,I2,ry,k,v,ey,l,q2⟩:=zQq
 subst ey
 obtain⟨vs,rel,dd⟩:=g.here I2
 obtain⟨w',hw,rw'⟩:=j3.some_of (v:=v) (o:=valueAt vs k) (by rw[<- l]; exact rel.val k)
 exact⟨dd.typeIs,wpAny_getItem_of (o5 ry) dd.mapOf hw ⟨v,H2,I2.tok _,rw',q2⟩⟩
def Bo {K:Hh} {a:Addr} {kvs:Hu} {o i:Expr} {ty:TE} (g:GD X.prog X.w K a kvs) (hi:PE X i ty) (ho:PE X o (tC (.ref a))) (hK:X.K=K:=by rfl):PC X .NotIn i o (Et kvs ty):=by
 subst hK
 intro pins s σ H Q I h
 refine thn (hi pins s σ H _ I h) fun iv s1 ⟨y,H1,I1,ry,k,ey,q1⟩=>thn (ho pins s1 σ H1 (fun x H2=>x = .ref a/\H2=H1) I1 ⟨rfl,rfl⟩) fun u s2 zQq=>?_
 obtain⟨x,H2,I2,rx,ex,eH⟩:=zQq
 subst ex eH ey
 obtain rfl:u=Value.ref a:=rx
 obtain⟨vs,rel,dd⟩:=g.here I2
 refine wpAny_notIn_of (o5 ry) g.sys dd.mapOf ⟨.bl _,H2,I2.tok _,rfl,?_⟩
 rw[<- (rel.val k).isSome_eq]
 exact q1
def AK (x:Str):Value->Bool
 | .str y _=>decide (y=x)
 | _=>false
def AL (n:Int):Value->Bool
 | .int m _=>decide (m=n)
 | _=>false
def CJ (h:AK x v=true):∃ t,v = .str x t:=by
 unfold AK at h
 split at h
 ·exact⟨_,by rw[of_decide_eq_true h]⟩
 ·cases h
def CK (h:AL n v=true):∃ t,v = .int n t:=by
 unfold AL at h
 split at h
 ·exact⟨_,by rw[of_decide_eq_true h]⟩
 ·cases h
def nA:List (Str × Int)->List DictEntry->Bool
 | [],[]=>true
 | p::ps,e::es=>(AK p.1 e.key && AL p.2 e.val) && nA ps es
 | _,_=>false
def Fq:∀ {ps:List (Str × Int)} {es:List DictEntry},es.map (·.hash)=ps.map (fun p=>PyData.keyHash w.params p.1)->nA ps es=true->
  (∀ e∈es,∃ k:Key,o0 k e.key=true/\e.hash=HL w k)/\∃ vs:List (Key × Value),KV (ps.map fun p=>(Sum.inr p.1,V.int p.2)) vs/\(∀ (P:Program),Pairs (cE P w) es vs)/\vs.map (·.1)=ps.map fun p=>Sum.inr p.1:=by
 intro ps
 induction ps with
 | nil=>
  intro es _ he
  cases es with
  | nil=>exact⟨(fun e h=>by cases h),[],.nil,(fun _=>.nil),rfl⟩
  | cons e es=>cases he
 | cons p ps ih=>
  intro es hh he
  cases es with
  | nil=>cases he
  | cons e es=>
   rw[map_cons,map_cons]at hh
   injection hh with h1 h2
   unfold nA at he
   rw[and_eq_true,and_eq_true]at he
   obtain⟨a,vs,b,c,d⟩:=ih h2 he.2
   obtain⟨hash,key,val⟩:=e
   dsimp only at he h1
   obtain⟨t,rfl⟩:=CJ he.1.1
   obtain⟨u,rfl⟩:=CK he.1.2
   have hk:∃ k:Key,o0 k (.str p.1 t)=true/\hash=HL w k:=⟨Sum.inr p.1,oB _ _,by rw[h1]; rfl⟩
   refine⟨fun e h=>?_,(Sum.inr p.1,.int p.2 u)::vs,.cons ⟨rfl,⟨_,rfl⟩⟩ b,fun P=>.cons (oB p.1 t) rfl (c P),by rw[map_cons,map_cons,d]⟩
   rcases mem_cons.mp h with z | z
   ·rw[z]
    exact hk
   ·exact a e z
def gd_of {P:Program} {w:World} {K:Hh} {a:Addr} {es:Array DictEntry} {ep:Nat} {ps:List (Str × Int)} (sys:(a == sysModules)=false) (l:K.lookup a=some ⟨.type "dict",none,.dict es ep,#[]⟩) (hh:es.toList.map (·.hash)=ps.map fun p=>PyData.keyHash w.params p.1) (he:nA ps es.toList=true) (nd:(ps.map fun p=>(Sum.inr p.1:Key)).Nodup) :
  GD P w K a (ps.map fun p=>(Sum.inr p.1,V.int p.2)):=by
 obtain⟨hk,vs,kv,pr,ek⟩:=Fq hh he
 exact⟨sys,_,vs,l,kv,es,ep,⟨rfl,rfl,rfl⟩,rfl,fun e h=>hk e (by simpa using h),pr P,by rw[ek]; exact nd⟩
end
section
variable {X:Cx} {tg:Expr}
end
section
variable {X:Cx} {pins:Hi} {σ : List (Option V)} {H H':Hp} {s:Shared}
end
end L2
namespace TS
open PySem PyProof.Rows
def uA:∀ (f n r:Nat),r<=1->minRun' f n r<=n+r
 | 0,n,r,_=>Nat.le_of_eq rfl
 | f+1,n,r,h=>by
  rw[minRun'_succ]
  split
  ·exact le_refl _
  ·have:=uA f (n / 2) (max r (n % 2)) (by omega)
   omega
section
variable {prog:Program} {w:World} {A:Around} {E:Ht} {s:Shared} {κ : KeyKind} {a₀ : Array Keyed}
def wC (hO:κ.OneLt) (h0:KeysOf κ a₀) {st:SortSt} (B:SB κ a₀ st) (hr:1<=a₀.size) (ua:Up κ (arrOf st) 0 a₀.size) {Q:Option Nat->SortSt->Prop} (h:Q (some a₀.size) st):wpS (model prog w) A E s (countRun' 0 a₀.size) Q st:=by
 rw[countRun'_eq]
 dsimp only
 refine wpS_bind (wpS_mono (wpS_forRange (I:=fun x c st'=>st'=st/\c=(none,x)) (Q:=fun c st'=>st'=st/\c=(none,a₀.size)) ?step ?fin ⟨rfl,rfl⟩) ?post)
 case fin=>
  rintro c st' ⟨rfl,rfl⟩
  rw[show max 1 a₀.size=a₀.size by omega]
  exact⟨rfl,rfl⟩
 case step=>
  rintro x c st' hx1 hx2 ⟨rfl,rfl⟩
  dsimp only
  refine wpS_bind (En hO h0 B (by omega) (by omega) fun x' y' ex ey=>?_)
  have:κ.blt x' y'=false:=ua _ _ _ _ (zero_le _) (by omega) (by omega) ey ex
  rw[this]
  dsimp only
  rw[if_neg (by decide)]
  exact wpS_pure ⟨rfl,rfl⟩
 case post=>
  rintro c st' ⟨rfl,rfl⟩
  dsimp only
  rw[if_pos (Fw rfl)]
  exact wpS_pure h
def vC (hO:κ.OneLt) (h0:KeysOf κ a₀) {st:SortSt} (B:SB κ a₀ st) (hp:pendingOf st = #[]) (h2:2<=a₀.size) (ua:Up κ (arrOf st) 0 a₀.size) {Q:Unit->SortSt->Prop}
  (h:∀ st',arrOf st'=arrOf st->failedOf st'=none->Q () st'):wpS (model prog w) A E s sortRuns' Q st:=by
 rw[sortRuns'_eq]
 refine wpS_bind (wpS_get ?_)
 dsimp only
 rw[B.size]
 have hmr:minRun' a₀.size a₀.size 0<=a₀.size:=uA _ _ _ (by omega)
 generalize minRun' a₀.size a₀.size 0=mr at hmr
 refine wpS_bind (wpS_mono (wpS_forRange (I:=fun x c st'=>(x=0/\c=(none,0)/\st'=st)\/(c=(none,a₀.size)/\arrOf st'=arrOf st/\failedOf st'=none/\(pendingOf st').size<=1)) (Q:=fun c st'=>c=(none,a₀.size)/\arrOf st'=arrOf st/\failedOf st'=none/\(pendingOf st').size<=1) ?step ?fin (.inl ⟨rfl,rfl,rfl⟩)) ?post)
 case fin=>
  rintro c st' (⟨z,_⟩ | hh)
  ·omega
  ·exact hh
 case step=>
  rintro x c st' _ hx (⟨rfl,rfl,rfl⟩ | ⟨rfl,hh⟩)
  ·dsimp only
   rw[if_neg (by omega)]
   refine wpS_bind (wC hO h0 B (by omega) ua ?_)
   dsimp only
   rw[if_neg (by omega)]
   refine wpS_bind (wpS_get ?_)
   rw[hp]
   dsimp only[Array.back?]
   refine wpS_bind (wpS_modify (wpS_pure (.inr ⟨?_,rfl,B.failed,?_⟩)))
   ·rw[Nat.zero_add]
   ·show ((pendingOf st').push _).size<=1
    rw[hp]
    exact le_refl _
  ·dsimp only
   rw[if_pos (le_refl _)]
   exact wpS_pure ⟨rfl,hh⟩
 case post=>
  rintro c st' ⟨rfl,e1,e2,e3⟩
  dsimp only
  refine wpS_bind (wpS_mono (wpS_forRange (I:=fun x c st2=>c=(none,())/\st2=st') (Q:=fun c st2=>c=(none,())/\st2=st') ?s2 (fun _ _ hh=>hh) ⟨rfl,rfl⟩) ?p2)
  case s2=>
   rintro x c st2 _ hx ⟨rfl,rfl⟩
   refine wpS_bind (wpS_get ?_)
   rw[if_pos e3]
   exact wpS_pure ⟨rfl,rfl⟩
  case p2=>
   rintro c st2 ⟨rfl,rfl⟩
   exact wpS_pure (h _ e1 e2)
def C4 (hO:κ.OneLt) {a:Addr} {vs:Hq} {n:Nat} {P:PySem.Fin->Shared->Prop} (ho:s.heap.get? a=some (seqObj "list" vs.toArray n)) (h0:KeysOf κ (pairsOf vs)) (ua:Up κ (pairsOf vs) 0 (pairsOf vs).size) (hkk:keyKind' vs.toArray=pure oneType') (h2:2<=vs.length) (hz:vs.length<=sizeLine)
  (h:∀ st':SortSt,(arrOf st').Perm (pairsOf vs)->SortedToK κ (arrOf st') (pairsOf vs).size->P (.done (.ret .none)) { s with heap:=sortedHeap s.heap a vs ((arrOf st').map (·.2)) }):wpAny (model prog w) A (Builtin.«list.sort» ⟨[.ref a],[]⟩) P E s:=by
 have ha:a<s.heap.objs.size:=lt_size ho; have hza:vs.toArray.size=vs.length:=by simp
 rw[list_sort_plain]; refine wpAny_bind (listItems_at ho rfl (wpAny_bind (listUpdate_at ho rfl ?_ (by rw[hza]; exact hz))))
 have ho1:=get?_update_seq ho (fun _=>#[])
 generalize (if ((fun _=>#[]:Array Value->Array Value) vs.toArray).size == vs.toArray.size then n else n+1)=e1 at ho1
 refine wpAny_bind (seqEpoch_at ho1 rfl (wpAny_bind (wpAny_newTuple (wpAny_bind (wpAny_newList (wpAny_holding ?_))) (by simpa using hz))))
 generalize eh6:((s.heap.update a (Obj.mapSeq fun _=>#[])).push (seqObj "tuple" vs.toArray 0)).push (seqObj "list" #[] 0)=h6
 have ho6:h6.get? a=some (seqObj "list" #[] e1):=by
  rw[<- eh6,Heap.get?_push_ne _ _ _ (by rw[size_push',Heap.size_update]; exact ne_of_lt (lt_succ_of_lt ha)),Heap.get?_push_ne _ _ _ (by rw[Heap.size_update]; exact ne_of_lt ha)]; exact ho1
 have h2':¬ vs.toArray.size<2:=by rw[hza]; omega
 show wpAny (model prog w) A _ P E { s with heap:=h6 }
 dsimp only; rw[if_neg h2',if_neg h2',hkk]
 refine wpAny_bind (wpAny_pure ?_)
 have fin:∀ st':SortSt,(arrOf st').Perm (pairsOf vs)->SortedToK κ (arrOf st') (pairsOf vs).size->P (.done (.ret .none)) { s with heap:=h6.update a (Obj.mapSeq fun _=>(arrOf st').map (·.2)) }:=fun st' a1 a2=>by
  have:=h st' a1 a2
  unfold sortedHeap at this
  rw[eh6]at this
  exact this
 refine wpAny_bind (wpAny_mono (vC (κ:=κ) hO (a₀:=pairsOf vs) (st:=SortSt.mk' oneType' (vs.toArray.zip vs.toArray) #[] 7 none) (Q:=fun _ st'=>(arrOf st').Perm (pairsOf vs)/\failedOf st'=none/\SR κ (arrOf st') 0 (pairsOf vs).size) h0 ⟨rfl,rfl,Array.Perm.refl _⟩ rfl (by rw[pairsOf_size]; exact h2) ua fun st' a1 a2=>⟨by rw[a1]; exact Array.Perm.refl _,a2,by rw[a1]; exact ua.sr⟩) ?_ fun _ _ e=>e)
 rintro ⟨⟨⟩,st'⟩ s' ⟨rfl,hp,hf,hs⟩
 have zo:((arrOf st').map (·.2)).size=vs.length:=by rw[Array.size_map,hp.size_eq,pairsOf_size]
 dsimp only; refine wpAny_bind (seqEpoch_at ho6 rfl (wpAny_bind (listUpdate_at ho6 rfl ?_ (by show 0<=sizeLine; omega) (by show ((arrOf st').map (·.2)).size<=sizeLine+1; omega))))
 rw[hf]; simp only[bne_self_eq_false,Bool.false_eq_true,if_false]
 exact wpAny_pure (fin st' hp (hs.toK (by rw[hp.size_eq]; exact le_refl _)))
end
def HA (h:IntsAre vs ns) (pw:ns.Pairwise (· <= ·)):Up lA (pairsOf vs) 0 (pairsOf vs).size:=by
 intro i j x y _ hij hj ex ey
 rw[pairsOf_size,h.length]at hj
 have key:∀ {k:Nat} {z:Int},(hk:k<ns.length)->kAt lA (pairsOf vs) k=some z->z=ns[k]:=fun {k z} hk e=>by
  obtain⟨t,et⟩:=h.get k ns[k] (getElem?_eq_getElem hk)
  have e2:(pairsOf vs)[k]? = some (Value.int ns[k] t,Value.int ns[k] t):=by
   unfold pairsOf
   rw[Array.getElem?_zip_eq_some]
   exact⟨by simpa using et,by simpa using et⟩
  unfold kAt at e
  rw[e2]at e
  cases e
  rfl
 have e1:=key (by omega) ex
 have e2:=key hj ey
 rw[e1,e2]
 show decide (ns[j]<ns[i])=false
 rw[decide_eq_false_iff_not]
 by_cases z:i=j
 ·subst z
  omega
 ·have:=(List.pairwise_iff_getElem.mp pw) i j (by omega) hj (by omega)
  omega
end TS
namespace L2
open PySem PySem.Spec PyProof.Rows
section
variable {X:Cx}
inductive xP (xs:Hw) (H:Hp) (Q:VK):Prop
 | mk:∀ d kvs ns,xs=[.ref d]->H d=some (.dK kvs)->kvs.map (·.1)=ns.map Sum.inl->(ns.length<64\/ns.Pairwise (· <= ·))->ns.length<=100000->(∀ p ms,List.Perm ms ns->ms.Pairwise (· <= ·)->H p=none->Q (.ref p) (upd H p (.lst (ms.map .int))))->xP xs H Q
def C5 (ho:s.heap.get? a=some (seqObj "list" vs.toArray n)) (hI:IntsAre vs ns) (asc:ns.length<64\/ns.Pairwise (· <= ·)) (hl:vs.length=ns.length) (hz:vs.length<=sizeLine)
  (h:∀ (out:Array Value) (ms:Hm),IntsAre out.toList ms->ms.Perm ns->ms.Pairwise (· <= ·)->P (.done (.ret .none)) { s with heap:=sortedHeap s.heap a vs out }):wpAny (model prog w) A (Builtin.«list.sort» ⟨[.ref a],[]⟩) P E s:=by
 by_cases h64:vs.length<64
 ·exact list_sort_tree ho hI h64 h
 refine TS.C4 TS.HD ho (TS.Dn hI) (TS.HA hI (asc.resolve_left (by omega))) (CD hI (by omega)) (by omega) hz fun st' p1 p2=>?_
 obtain⟨ms,hout,perm,pw⟩:=sorted_out hI p1 (TS.AD p2)
 exact h _ ms hout perm pw
def wE (hc:X.calm=true):fH X (.builtin "sorted") xP:=by
 intro pins s σ H xs us Q I r h
 obtain⟨d,kvs,ns,rfl,hd,hk,asc,hl,q⟩:=h
 have hl':ns.length<=sizeLine:=le_trans hl (by decide)
 cases r with
 | cons r1 r2=>
  cases r2
  cases (show _=Value.ref d from r1)
  obtain⟨hz,hsm,vs,rel,o,es,ep,dd⟩:=BH I.hok hd
  have hh:X.A.in1.handled=none:=I.ok.hd hc
  have hlen:vs.length=ns.length:=by
   have h1:=rel.length
   have h2:=congrArg List.length hk
   rw[length_map,length_map]at h2
   omega
  have hkv:vs.map (·.1)=ns.map Sum.inl:=by rw[<- A7 rel]; exact hk
  refine wpAny_call (codeAny_call_builtin plain_sorted entry_sorted (wpAny_of_eq (mG _) ?_))
  show wpAny _ _ (checkCount "sorted" 1 1 1 >>= _) _ _ s
  refine wpAny_bind (wpAny_of_eq (a:=()) (by rfl) ?_)
  refine wpAny_bind (kdu_collect (kdl_dict (knd:=cE X.prog X.w) (kvs:=vs) (ep:=ep) hsm) hh ⟨o,es,dd⟩ (by rw[hlen]; exact hl') fun h' tk acc keep hit=>?_)
  have hacc:acc.toList.length=vs.length:=by
   have:=hit.1
   simpa using this
  have hints:IntsAre acc.toList ns:=CG (prog:=X.prog) (w:=X.w) hkv hacc fun j v hv=>hit.2 j v (by simpa using hv)
  refine wpAny_bind (wpAny_newList ?_ (by rw[hacc,hlen]; exact hl'))
  generalize eh2:h'.push { cls:=.type "list",data:=.seq acc.toList.toArray }=h2
  have g2:h2.get? h'.objs.size=some (seqObj "list" acc.toList.toArray 0):=by
   rw[<- eh2]
   exact get?_push_size _ rfl
  refine wpAny_bind (wpAny_holding ?_)
  refine wpAny_call_entry (T:="list") PyProof.Rows.slot_list_sort ⟨_,g2,rfl⟩ PyProof.Rows.entry_list_sort ?_ (PyProof.Rows.args_list_sort _)
  refine C5 g2 hints asc (by rw[hacc,hlen]) (by rw[hacc,hlen]; exact hl') fun out ms hout perm pw=>?_
  refine⟨_,rfl,wpAny_pure ?_⟩
  obtain⟨ep2,gat⟩:=sortedHeap_at (h:=h2) (a:=h'.objs.size) (vs:=acc.toList) (out:=out) g2
  have hf:H h'.objs.size=none:=(I.kept (t':=tk) keep).hok.fresh (le_refl _)
  refine⟨.ref h'.objs.size,upd H h'.objs.size (.lst (ms.map .int)),(I.kept (t':=tk) keep).laid (t':=tk) (fun b u e=>?_) (le_refl _) ?_,rfl,q _ ms perm pw hf⟩
  ·have hb:b<h'.objs.size:=lt_size e
   have h2s:h2.objs.size=h'.objs.size+1:=by rw[<- eh2]; exact size_push _ _
   rw[sortedHeap_old (ne_of_lt hb) (by rw[h2s]; exact lt_succ_of_lt hb),<- eh2]
   exact get?_push_of_some _ e
  ·refine⟨?_,out.toList,ep2,kW hout,?_⟩
   ·rw[length_map,perm.length_eq]
    exact hl'
   ·simpa [seqObj] using gat
end
def Fun.okY {P:Program} {w:World} {K:Hh} {mg:Hj} {base:Heap} {x qual:Str} {st:Stmt} {f:Addr} {fd:Hs} {ps:Ho} {k:Nat} {sp:Sp} (F:Fun K x qual st f fd) (N:Ho)
  (hbody:∀ (cdv:Value) (A:Around) (outer:List Env) (s:Shared) (H:Hp) (vs:Hw) (Q:VK) (E:XK),Room k (A.deeper (envOfC qual (cM st) s.heap.objs.size f cdv))->N.Nodup->sp vs H Q E->
   ∃ t,PSs ((wB (CXE P w) P w K mg base N qual (cM st) f cdv A outer s H E).bod E) (d8 st) t/\t (Ends.fn Q) (mC N vs) H) (len:∀ vs H Q E,sp vs H Q E->vs.length=ps.length:=by intro _ _ _ _ h; cases h; subst_vars; rfl) (S:FnScope N ps (cM st):=by exact⟨rfl,rfl,rfl,by decide +kernel,rfl,by decide +kernel,by decide +kernel⟩):FnOk P w K mg base (CXE P w) (k+1) f fd ps sp:=F.okX S len fun cdv A outer s H vs Q E hr h=>hbody cdv A outer s H vs Q E hr S.nd h
end L2
namespace TT
open PySem PySem.W PyProof.Rows
section
variable (key:Nat->Int) (n:Nat)
end
section
variable {key:Nat->Int} {n:Nat} {p:Array Nat} {s:Shared}
variable (hk:∀ i j,i<n->j<n->i≠j->key i≠key j)
include hk
end
open Calls in
section
variable {prog:Program} {w:World} {A:Around} {E:Ht} {s:Shared}
end
end TT
namespace L2
open PySem PySem.Spec PySem.W PyProof.Rows
section
variable {X:Cx}
inductive At (x:V) (y:V) (H:Hp) (Q:VK):Prop
 | mk:∀ ds d,Den H (.tuple ds) y->Den H d x->SeqAt.shaped (.tuple ds)=true->SeqAt.shaped d=true->Q (.bl (!(ds.any fun e=>PyData.eqv e d))) H->At x y H Q
def Bq (hu:X.A.units+64<cLine):OpR X (compareOp .NotIn) At:=by
 intro pins s σ H x y v u Q I rx ry h
 obtain⟨ds,d,h1,h2,s1,s2,q⟩:=h
 obtain⟨as,ra⟩:=fM I h1 ry
 obtain⟨bs,rb⟩:=fM I h2 rx
 exact SeqAt.notIn_tuple_reads ra rb (show PyData.canLayAll0 ds=true from SeqAt.canLay_of_shaped s1) (SeqAt.canLay_of_shaped s2) (by
  have h1:PyData.depthAll ds+1<=64:=SeqAt.depth_of_shaped s1
  have h2:min (PyData.depthAll ds) d.depth<=PyData.depthAll ds:=Nat.min_le_left _ _
  omega) ⟨.bl _,H,I,rfl,q⟩
end
end L2
section
local macro_rules | `(tactic| trivial) => `(tactic| first | rfl | decide | exact .inl rfl | exact .inr rfl | exact .inr (.inl rfl) | exact .inr (.inr rfl) | (intro _; rfl) | with_unfolding_all rfl)
local macro_rules | `(⋯) => `(by trivial)
set_option hygiene false
set_option hygiene true
namespace Qh
open PySem L2
def top (i:Nat):Stmt:=PySem.Challenge.pw_queuehold_k31_whole_deals.main.body.getD i (.Pass ⟨0,0,0,0⟩)
abbrev oR:Stmt:=top 3
abbrev qP:Stmt:=top 4
abbrev oS:Stmt:=top 28
abbrev xH:Stmt:=top 29
abbrev oV:Stmt:=top 30
def fO:bootBuiltins "len" = some (.builtin "len"):=by decide +kernel
def dJ:bootBuiltins "isinstance" = some (.builtin "isinstance"):=by decide +kernel
def Ee:bootBuiltins "all" = some (.builtin "all"):=by decide +kernel
def AT:bootBuiltins "sum" = some (.builtin "sum"):=by decide +kernel
def nI:bootBuiltins "tuple" = some (.type "tuple"):=by decide +kernel
def wH:bootBuiltins "int" = some (.type "int"):=by decide +kernel
def Fv:bootBuiltins "bool" = some (.type "bool"):=by decide +kernel
def HY:bootBuiltins "str" = some (.type "str"):=by decide +kernel
def bW:Ho:=["put","out","done","from","part","deal","carried","new"]
structure TxtR (K:Hh) (mg:Hj) (aa9 aa1:Addr):Prop where
 ad0:mg "len" = none
 ab8:mg "isinstance" = none
 be3:mg "all" = none
 aw6:mg "sum" = none
 ag9:mg "tuple" = none
 au0:mg "int" = none
 be5:mg "bool" = none
 be2:mg "str" = none
 ah0:mg "range" = none
 ae7:mg "enumerate" = none
 am3:∃ t,mg "HIGHEST_BYTE" = some (.int 255 t)
 af3:∃ t,mg "HIGHEST_NUMBER" = some (.int 999999 t)
 ay2:∃ t,mg "LONGEST_BODY" = some (.int 60 t)
 ak3:∃ t,mg "HIGHEST_TIMES" = some (.int 9 t)
 ah1:∃ t,mg "LARGEST_DEAL" = some (.int 9 t)
 bf7:mg "KINDS" = some (.ref aa9)
 au1:∀ H,SqT K H aa9 (bW.map V.str)
 l_KINDS:∃ o,K.lookup aa9=some o/\o.cls = .type "tuple"/\o.dict=none
 af2:cR K aa1=true
 bc0:mg "BadRow" = some (.ref aa1)
def bI (lo hi:Int):PyData->Bool
 | .int i=>decide (lo<=i) && decide (i<=hi)
 | _=>false
def cG:PyData->Bool
 | .tuple ds=>ds.all (bI 0 255)
 | _=>false
def fF (k:Str) (ns:Hm):Bool:=
 if k = "put"\/k = "part" then decide (ns.length<=60)
 else if k = "carried" then decide (1<=ns.length) && decide (ns.length<=61) && decide (ns.headD 0<=9)
 else if k = "deal" then decide (ns.length=1) && decide (1<=ns.headD 0) && decide (ns.headD 0<=9)
 else decide (ns.length=0)
inductive jB (vs:Hw) (H:Hp) (Q:VK) (x_3:XK):Prop
 | mk:∀ v d lo hi,vs=[v,.int lo,.int hi]->Den H d v->Q (.bl (bI lo hi d)) H->jB vs H Q x_3
inductive fX (vs:Hw) (H:Hp) (Q:VK) (x_3:XK):Prop
 | mk:∀ v d,vs=[v]->Den H d v->(∀ ds,d = .tuple ds->ds.length<=sizeLine)->(∀ H',aD H H'->Q (.bl (cG d)) H')->fX vs H Q x_3
inductive jC (vs:Hw) (H:Hp) (Q:VK) (x_3:XK):Prop
 | mk:∀ k a ns,vs=[.str k,.ref a]->H a=some (.tup (ns.map V.int))->Q (.bl (fF k ns)) H->jC vs H Q x_3
def jQ (h:a=b):decide (V.str a=V.str b)=true:=decide_eq_true (by rw[h])
def lD (h:¬ a=b):decide (V.str a=V.str b)=false:=decide_eq_false (fun z=>h (V.str.inj z))
def nC (h:¬ a=b):decide (V.int a=V.int b)=false:=decide_eq_false (fun z=>h (V.int.inj z))
section
variable {P:Program} {w:World} {K:Hh} {mg:Hj} {base:Heap} {aa9 aa1:Addr}
def vR (F:Fun K "is_number" "is_number" oR f fd) (T:TxtR K mg aa9 aa1):(FnOk P w K mg base (CXE P w)) 1 f fd ["thing","least","most"] jB:=by
 refine F.okY ["thing","least","most"] fun cdv A outer s H vs Q E hr nD0 h=>?_
 obtain⟨v,d,lo,hi,rfl,hd,q⟩:=h
 refine⟨_,aA (a6 (kB (cU (bE (gW K) ⋯ T.ab8 dJ (aJ (pv 0) (aJ (pH (v:=.ty "bool") ⋯ T.be5 Fv ⋯) aF)))) (hJ (cK (cU (bE (gW K) ⋯ T.ab8 dJ (aJ (pv 0) (aJ (pH (v:=.ty "int") ⋯ T.au0 wH ⋯) aF))))))).pt
   (aB (aX Ay))
   aO)
  (aB (aX (qX hW hW (pv 1) (pv 0) (pv 2)))),?_⟩
 refine⟨_,rfl,_,_,_,_,rfl,hd.ty,Dz d,_,rfl,?_⟩
 cases d with
 | bool b=>exact aV (aV q)
 | int i=>
  refine a7 ⟨_,rfl,_,_,_,_,rfl,hd.ty,lC _,_,rfl,a7 ?_⟩
  have e:v = .int i:=by simpa only[Den] using hd
  subst e
  refine⟨_,rfl,_,rfl,_,_,rfl,rfl,_,rfl,?_⟩
  simp only[bI]at q
  by_cases h1:lo<=i
  ·rw[if_pos (decide_eq_true h1)]
   refine⟨_,rfl,_,_,rfl,rfl,?_⟩
   rw[decide_eq_true h1,Bool.true_and]at q
   exact q
  ·rw[if_neg (by simpa using h1)]
   rw[decide_eq_false h1,Bool.false_and]at q
   exact q
 | none=>exact a7 ⟨_,rfl,_,_,_,_,rfl,hd.ty,lC _,_,rfl,aV q⟩
 | str x=>exact a7 ⟨_,rfl,_,_,_,_,rfl,hd.ty,lC _,_,rfl,aV q⟩
 | tuple x=>exact a7 ⟨_,rfl,_,_,_,_,rfl,hd.ty,lC _,_,rfl,aV q⟩
 | list x=>exact a7 ⟨_,rfl,_,_,_,_,rfl,hd.ty,lC _,_,rfl,aV q⟩
 | dict x=>exact a7 ⟨_,rfl,_,_,_,_,rfl,hd.ty,lC _,_,rfl,aV q⟩
def x4 (F:Fun K "is_bytes" "is_bytes" qP f fd) (T:TxtR K mg aa9 aa1) (ab2:(Callee P w K mg base "is_number" 1 ["thing", "least", "most"] jB)):(FnOk P w K mg base (CXE P w)) 2 f fd ["thing"] fX:=by
 obtain⟨_,aw7⟩:=T.am3
 refine F.okY ["thing"] fun cdv A outer s H vs Q E hr nD0 h=>?_
 obtain⟨v,d,rfl,hd,hz,q⟩:=h
 refine⟨_,aB (aX (lY (bE (gW K) ⋯ T.ab8 dJ (aJ (pv 0) (aJ (pH (v := .ty "tuple") ⋯ T.ag9 nI ⋯) aF))) (qU (bE (uO K) ⋯ T.be3 Ee (dR (fB ["one"] [] ⋯ (vH K (pv 0)) (fun C s2 H2 ex=>(cH (i:=0) (show List.Nodup (["one"]:Ho) by decide +kernel) ⋯ (Or.inl ⋯))) (fun C s2 H2 ex => FK) (fun C s2 H2 ex=>(a5 ab2 ((hr.mono (by decide))) bB (aJ (pv 0) (aR aG (aJ (cI (v:=.int 255) ⋯ aw7 ⟨_,rfl⟩) aF)))))) aF))))),?_⟩
 refine⟨_,rfl,_,_,_,_,rfl,hd.ty,n8 d,_,rfl,?_⟩
 cases d with
 | tuple ds=>
  refine aV ?_
  have hd':=hd
  simp only[Den]at hd'
  obtain⟨a,xs,rfl,ha,hds⟩:=hd'
  have hl:=hds.length
  refine⟨_,rfl,a,rfl,⟨xs,SqT.of ha⟩,?_⟩
  refine dH (u5 (K:=K) (SqT.of ha)) (by rw[hl]; exact hz ds rfl) (fun i y _=>∃ d,ds[i]? = some d/\y = .bl (bI 0 255 d)) (fun _ _ _ _ _ h=>h) (fun σ=>σ.length=1) ?z0 ?_ ?_
  case z0=>rfl
  ·intro i x σc H3 hi hσ s3 hx Q' hQ'
   obtain⟨d,hdi,hdx⟩:=hds.get hx
   match σc,hσ with
   | [z],_=>
    refine⟨_,rfl,x,d,0,255,rfl,hdx.same s3,?_⟩
    exact hQ' _ _ _ rfl (aD.refl _) ⟨d,hdi,rfl⟩
  ·intro D ys H' hD s' hD' hlen hR
   have ey:ys=(ds.map (bI 0 255)).map V.bl:=by
    apply ext_getElem?
    intro i
    cases e:ys[i]? with
    | none=>
     have:ys.length<=i:=List.getElem?_eq_none_iff.mp e
     rw[getElem?_eq_none (by rw[length_map,length_map]; omega)]
    | some y=>
     obtain⟨d,h1,h2⟩:=hR i y e
     rw[getElem?_map,getElem?_map,h1,h2]
     rfl
   refine⟨D,ds.map (bI 0 255),rfl,SqL.of (by rw[hD',ey]),?_⟩
   have:=q H' s'
   simp only[cG]at this
   rw[all_map]
   exact this
 | none=>exact a7 (q H (aD.refl H))
 | bool x=>exact a7 (q H (aD.refl H))
 | int x=>exact a7 (q H (aD.refl H))
 | str x=>exact a7 (q H (aD.refl H))
 | list x=>exact a7 (q H (aD.refl H))
 | dict x=>exact a7 (q H (aD.refl H))
def vS (F:Fun K "fits_kind" "fits_kind" oS f fd) (T:TxtR K mg aa9 aa1):(FnOk P w K mg base (CXE P w)) 1 f fd ["kind","body"] jC:=by
 obtain⟨_,ak4⟩:=T.ay2
 obtain⟨_,aw1⟩:=T.ak3
 obtain⟨_,ag1⟩:=T.ah1
 refine F.okY ["kind","body"] fun cdv A outer s H vs Q E hr nD0 h=>?_
 obtain⟨k,a,ns,rfl,ha,q⟩:=h
 refine⟨_,aA (a6 (kB (bA i6 (pv 0) cY (bF _)) (hJ (bA i6 (pv 0) cY (bF _)))).pt
   (aB (aX (fV hW (bE (cV K) ⋯ T.ad0 fO (aJ (pv 1) aF)) (cI (v:=.int 60) ⋯ ak4 ⟨_,rfl⟩) (bF _))))
   aO)
  (aA (a6 (bA i6 (pv 0) cY (bF _))
   (aB (aX (lY (qX hW hW aG (bE (cV K) ⋯ T.ad0 fO (aJ (pv 1) aF)) (aY cT aG (cI (v:=.int 60) ⋯ ak4 ⟨_,rfl⟩))) (qU (fV hW (dO (fE K) (pv 1) aG (fun _ _ => rfl)) (cI (v:=.int 9) ⋯ aw1 ⟨_,rfl⟩) (bF _))))))
   aO)
  (aA (a6 (bA i6 (pv 0) cY (bF _))
   (aB (aX (lY (fV i6 (bE (cV K) ⋯ T.ad0 fO (aJ (pv 1) aF)) aG (bF _)) (qU (qX hW hW aG (dO (fE K) (pv 1) aG (fun _ _ => rfl)) (cI (v:=.int 9) ⋯ ag1 ⟨_,rfl⟩))))))
   aO)
  (aB (aX (fV i6 (bE (cV K) ⋯ T.ad0 fO (aJ (pv 1) aF)) aG (bF _)))))),?_⟩
 have hsq:SqT K H a (ns.map V.int):=SqT.of ha
 have at0:∀ x r,ns=x::r->atI (ns.map V.int) 0=some (V.int x):=fun x r e=>by
  subst e
  exact bQ (j:=0) rfl
 have ln:((ns.map V.int).length:Int)=(ns.length:Int):=by rw[length_map]
 unfold fF at q
 refine⟨_,rfl,rfl,_,rfl,?_⟩
 by_cases h1:k = "put"
 ·rw[if_pos (.inl h1)]at q
  rw[jQ h1]
  refine aV (aV ⟨_,rfl,a,_,rfl,.inr hsq,_,_,rfl,rfl,?_⟩)
  have e:decide (((ns.map V.int).length:Int)<=60)=decide (ns.length<=60):=by
   apply decide_eq_decide.mpr
   rw[ln]
   omega
  show Q (.bl (decide (((ns.map V.int).length:Int)<=60))) H
  rw[e]
  exact q
 rw[lD h1]
 refine a7 ⟨_,rfl,rfl,_,rfl,?_⟩
 by_cases h2:k = "part"
 ·rw[if_pos (.inr h2)]at q
  rw[jQ h2]
  refine aV ⟨_,rfl,a,_,rfl,.inr hsq,_,_,rfl,rfl,?_⟩
  have e:decide (((ns.map V.int).length:Int)<=60)=decide (ns.length<=60):=by
   apply decide_eq_decide.mpr
   rw[ln]
   omega
  show Q (.bl (decide (((ns.map V.int).length:Int)<=60))) H
  rw[e]
  exact q
 rw[lD h2]
 rw[if_neg (by rintro (z | z); exact h1 z; exact h2 z)]at q
 refine a7 ⟨_,rfl,rfl,_,rfl,?_⟩
 by_cases h3:k = "carried"
 ·rw[if_pos h3]at q
  rw[jQ h3]
  refine aV ⟨_,rfl,a,_,rfl,.inr hsq,_,_,rfl,rfl,_,rfl,?_⟩
  by_cases l1:1<=ns.length
  ·rw[if_pos (decide_eq_true (by rw[ln]; omega))]
   rw[decide_eq_true l1,Bool.true_and]at q
   refine⟨_,_,rfl,rfl,_,_,rfl,rfl,_,rfl,?_⟩
   by_cases l2:ns.length<=61
   ·rw[if_pos (decide_eq_true (by rw[ln]; omega))]
    rw[decide_eq_true l2,Bool.true_and]at q
    match ns,l1,at0,q,hsq with
    | x::r,_,at0,q,hsq=>
     exact⟨_,rfl,a,_,_,_,rfl,rfl,hsq,at0 x r rfl,_,_,rfl,rfl,q⟩
   ·rw[if_neg (by rw[decide_eq_true_eq,ln]; omega)]
    rw[decide_eq_false l2,Bool.false_and]at q
    exact q
  ·rw[if_neg (by rw[decide_eq_true_eq,ln]; omega)]
   rw[decide_eq_false l1,Bool.false_and,Bool.false_and]at q
   exact⟨_,rfl,a7 q⟩
 rw[lD h3]
 rw[if_neg h3]at q
 refine a7 ⟨_,rfl,rfl,_,rfl,?_⟩
 by_cases h4:k = "deal"
 ·rw[if_pos h4]at q
  rw[jQ h4]
  refine aV ⟨_,rfl,a,_,rfl,.inr hsq,rfl,_,rfl,?_⟩
  match ns,at0,q,hsq with
  | [],at0,q,hsq=>exact a7 q
  | [x],at0,q,hsq=>
   refine aV ⟨_,rfl,a,_,_,_,rfl,rfl,hsq,at0 x [] rfl,_,_,rfl,rfl,_,rfl,?_⟩
   have q:Q (.bl (decide (1<=x) && decide (x<=9))) H:=q
   by_cases l1:1<=x
   ·rw[if_pos (decide_eq_true l1)]
    rw[decide_eq_true l1,Bool.true_and]at q
    exact⟨_,_,rfl,rfl,q⟩
   ·rw[if_neg (by simpa using l1)]
    rw[decide_eq_false l1,Bool.false_and]at q
    exact q
  | x::y::r,at0,q,hsq=>
   have e:decide ((((x::y::r).length:Nat):Int)=1)=false:=decide_eq_false (by simp; omega)
   have e2:decide ((x::y::r).length=1)=false:=decide_eq_false (by simp)
   rw[e2,Bool.false_and,Bool.false_and]at q
   rw[nC (by simp; omega)]
   exact a7 q
 rw[lD h4]
 rw[if_neg h4]at q
 refine a7 ⟨_,rfl,a,_,rfl,.inr hsq,rfl,?_⟩
 show Q (.bl (decide (V.int ((ns.map V.int).length:Int)=V.int 0))) H
 have e:decide (V.int ((ns.map V.int).length:Int)=V.int 0)=decide (ns.length=0):=by
  apply decide_eq_decide.mpr
  rw[ln]
  constructor
  ·intro z
   have:=V.int.inj z
   omega
  ·intro z
   rw[z]
   rfl
 rw[e]
 exact q
def a9:PyData->Hm
 | .tuple ds=>ds.map fun d=>match d with | .int i=>i | _=>0
 | _=>[]
def aQ:PyData->Bool
 | .tuple [.str k,n,b]=>bW.contains k && (bI 0 999999 n && (cG b && fF k (a9 b)))
 | _=>false
def HF {α : Type} {l:List α} (h:l.length=3):∃ a b c,l=[a,b,c]:=by
 match l,h with
 | [a,b,c],_=>exact⟨a,b,c,rfl⟩
def uD (h:ds.length≠3):aQ (.tuple ds)=false:=by
 match ds,h with
 | [],_=>rfl
 | [a],_=>cases a <;> rfl
 | [a,b],_=>cases a <;> rfl
 | [_,_,_],h=>exact absurd rfl h
 | a::b::c::d::r,_=>cases a <;> rfl
def CM (k:Str) (ks:Ho):inV (.str k) (ks.map V.str)=ks.contains k:=by
 unfold inV
 rw[List.any_map,List.contains_eq_any_beq]
 congr 1
 funext y
 show (y == k)=(k == y)
 exact Bool.beq_comm
def CT (ks:Ho):(ks.map V.str).all m5=true:=by
 rw[all_map]
 exact all_eq_true.mpr fun _ _=>rfl
def kS:∀ {bs:Hr} {xs:Hw},aW H bs xs->bs.all (bI 0 255)=true->xs=(a9 (.tuple bs)).map V.int
 | [],xs,h,_=>by
  simp only[aW]at h
  subst h
  rfl
 | d::bs,xs,h,e=>by
  simp only[aW]at h
  obtain⟨x,r,e1,h1,h2⟩:=h
  rw[all_cons,and_eq_true]at e
  have e2:=kS h2 e.2
  cases d with
  | int i=>
   simp only[Den]at h1
   rw[e1,h1,e2]
   rfl
  | _=>exact absurd e.1 (by simp [bI])
inductive iW (vs:Hw) (H:Hp) (Q:VK) (x_3:XK):Prop
 | mk:∀ v d,vs=[v]->Den H d v->(∀ k n bs,d = .tuple [k,n,.tuple bs]->bs.length<=sizeLine)->(∀ H',aD H H'->Q (.bl (aQ d)) H')->iW vs H Q x_3
def By (F:Fun K "is_row" "is_row" xH f fd) (T:TxtR K mg aa9 aa1) (ab2:(Callee P w K mg base "is_number" 1 ["thing", "least", "most"] jB))
  (ac3:(Callee P w K mg base) "is_bytes" 2 ["thing"] fX) (al8:(Callee P w K mg base) "fits_kind" 1 ["kind","body"] jC):(FnOk P w K mg base (CXE P w)) 3 f fd ["thing"] iW:=by
 obtain⟨_,ae6⟩:=T.af3
 refine F.okY ["thing","kind"] fun cdv A outer s H vs Q E hr nD0 h=>?_
 obtain⟨v,d,rfl,hd,hz,q⟩:=h
 refine⟨_,aA (a6 (kB (cK (cU (bE (gW K) ⋯ T.ab8 dJ (aJ (pv 0) (aJ (pH (v := .ty "tuple") ⋯ T.ag9 nI ⋯) aF))))) (hJ (bA rA (bE (cV K) ⋯ T.ad0 fO (aJ (pv 0) aF)) aG (bF _)))).pt
   (aB (aX Ay))
   aO)
  (aA (aT (i:=1) nD0 ⋯ ⋯ (dO (fE K) (pv 0) aG (fun _ _ => rfl)))
  (aA (a6 (kB (cK (cU (bE (gW K) ⋯ T.ab8 dJ (aJ (pv 1) (aJ (pH (v := .ty "str") ⋯ T.be2 HY ⋯) aF))))) (hJ (bA (Br K) (pv 1) (cI (v := .ref aa9) ⋯ T.bf7 ⋯) ⋯))).pt
   (aB (aX Ay))
   aO)
  (aB (aX (lY (a5 ab2 ((hr.mono (by decide))) bB (aP (dO (fE K) (pv 0) aG (fun _ _ => rfl)) (aR aG (aJ (cI (v:=.int 999999) ⋯ ae6 ⟨_,rfl⟩) aF)))) (lY (a5 ac3 ((hr.mono (by decide))) bB (aP (dO (fE K) (pv 0) aG (fun _ _ => rfl)) aF)) (qU (a5 al8 ((hr.mono (by decide))) bB (aJ (pv 1) (aP (dO (fE K) (pv 0) aG (fun _ _ => rfl)) aF)))))))))),?_⟩
 refine⟨_,rfl,_,_,_,_,rfl,hd.ty,n8 d,_,rfl,?_⟩
 cases d with
 | none=>exact aV (aV (q H (aD.refl H)))
 | bool x=>exact aV (aV (q H (aD.refl H)))
 | int x=>exact aV (aV (q H (aD.refl H)))
 | str x=>exact aV (aV (q H (aD.refl H)))
 | list x=>exact aV (aV (q H (aD.refl H)))
 | dict x=>exact aV (aV (q H (aD.refl H)))
 | tuple ds=>
  have hd':=hd
  simp only[Den]at hd'
  obtain⟨a,xs,rfl,ha,hds⟩:=hd'
  have hl:=hds.length
  by_cases h3:ds.length=3
  ·obtain⟨d0,d1,d2,rfl⟩:=HF h3
   obtain⟨x0,x1,x2,rfl⟩:=HF (hl.trans h3)
   ·refine a7 ⟨_,rfl,a,_,rfl,.inr (SqT.of ha),rfl,_,rfl,?_⟩
    refine a7 ?_
    simp only[aW]at hds
    obtain⟨y0,r0,e0,k0,y1,r1,e1,k1,y2,r2,e2,k2,e3⟩:=hds
    subst e3
    cases e2
    cases e1
    cases e0
    have sq:SqT K H a [x0,x1,x2]:=SqT.of ha
    refine⟨_,rfl,a,_,_,_,rfl,rfl,sq,bQ (j:=0) rfl,?_⟩
    refine⟨_,rfl,_,_,_,_,rfl,k0.ty,A8 d0,_,rfl,?_⟩
    cases d0 with
    | none=>exact aV (aV (q H (aD.refl H)))
    | bool x=>exact aV (aV (q H (aD.refl H)))
    | int x=>exact aV (aV (q H (aD.refl H)))
    | tuple x=>exact aV (aV (q H (aD.refl H)))
    | list x=>exact aV (aV (q H (aD.refl H)))
    | dict x=>exact aV (aV (q H (aD.refl H)))
    | str k=>
     simp only[Den]at k0
     subst k0
     refine a7 ⟨_,rfl,aa9,_,rfl,.inr (T.au1 H),rfl,CT bW,_,rfl,?_⟩
     rw[if_pos rfl,CM]
     simp only[aQ]at q
     cases hk:bW.contains k with
     | false=>
      rw[hk]at q
      exact aV (q H (aD.refl H))
     | true=>
      rw[hk]at q
      refine a7 ?_
      refine⟨_,rfl,a,_,_,_,rfl,rfl,sq,bQ (j:=1) rfl,x1,d1,0,999999,rfl,k1,_,rfl,?_⟩
      cases hn:bI 0 999999 d1 with
      | false=>
       rw[hn]at q
       exact a7 (q H (aD.refl H))
      | true=>
       rw[hn]at q
       refine aV ⟨_,rfl,a,_,_,_,rfl,rfl,sq,bQ (j:=2) rfl,x2,d2,rfl,k2,fun bs e=>hz _ _ bs (by rw[e]),fun H' s'=>⟨_,rfl,?_⟩⟩
       cases hb:cG d2 with
       | false=>
        rw[hb]at q
        exact a7 (q H' s')
       | true=>
        rw[hb]at q
        cases d2 with
        | tuple bs=>
         simp only[Den]at k2
         obtain⟨a2,ys,rfl,ha2,hbs⟩:=k2
         have ei:=kS hbs hb
         subst ei
         refine aV ⟨_,rfl,_,rfl,a,_,_,_,rfl,rfl,s'.seqT sq,bQ (j:=2) rfl,k,a2,_,rfl,s' _ _ ha2,q H' s'⟩
        | _=>exact absurd hb (by simp [cG])
  ·have e:(!decide (V.int (xs.length:Int)=V.int 3))=true:=by
    rw[hl,nC (by omega)]
    rfl
   have q':=q H (aD.refl H)
   rw[uD h3]at q'
   refine a7 ⟨_,rfl,a,_,rfl,.inr (SqT.of ha),rfl,_,rfl,?_⟩
   rw[e]
   exact aV q'
def eA (ns:Hm):Int × Int:=(ns.sum % 256,((List.range ns.length).map fun(i:Nat)=>(1+(i:Int)) * ns.getD i 0).sum % 256)
inductive gM (vs:Hw) (H:Hp) (Q:VK) (x_3:XK):Prop
 | mk:∀ a ns,vs=[.ref a]->H a=some (.tup (ns.map V.int))->ns.length<=1000->(∀ p H',aD H H'->H' p=some (.tup [.int (eA ns).1,.int (eA ns).2])->Q (.ref p) H')->gM vs H Q x_3
def vU (F:Fun K "checks_of" "checks_of" oV f fd) (T:TxtR K mg aa9 aa1):(FnOk P w K mg base (CXE P w)) 1 f fd ["behind"] gM:=by
 refine F.okY ["behind","plain","weighed"] fun cdv A outer s H vs Q E hr nD0 h=>?_
 obtain⟨a,ns,rfl,ha,hl,q⟩:=h
 refine⟨_,aA (aT (i:=1) nD0 ⋯ ⋯ (bE (oI K) ⋯ T.aw6 AT (aJ (pv 0) aF)))
  (aA (aT (i:=2) nD0 ⋯ ⋯ (bE (oI K) ⋯ T.aw6 AT (dR (fB ["place","one"] [] ⋯ (Bm K T.ae7 (pv 0)) (fun C s2 H2 ex=>(vJ K (n:=2) (i5 (cH (i:=0) (show List.Nodup (["place","one"]:Ho) by decide +kernel) ⋯ (Or.inl ⋯)) (i5 (cH (i:=1) (show List.Nodup (["place","one"]:Ho) by decide +kernel) ⋯ (Or.inl ⋯)) vI)))) (fun C s2 H2 ex => FK) (fun C s2 H2 ex=>(aY kG (pv 0) (pv 1)))) aF)))
  (aB (aX (bV (bM (aY dM (pv 1) aG) (bM (aY dM (pv 2) aG) aF)))))),?_⟩
 have sq:SqT K H a (ns.map V.int):=SqT.of ha
 refine⟨_,rfl,a,ns,rfl,.inr sq,?_⟩
 refine⟨_,rfl,a,_,rfl,sq,?_⟩
 refine dH (pV (K:=K) 1 sq) (by rw[length_map]; exact le_trans hl (by decide)) (fun i y _=>y = .int ((1+(i:Int)) * ns.getD i 0)) (fun _ _ _ _ _ h=>h) (fun σ=>σ.length=2) ?z0 ?_ ?_
 case z0=>rfl
 ·intro i x σc H3 hi hσ s3 hx Q' hQ'
  obtain⟨p,v,rfl,hp,hv⟩:=hx
  rw[length_map]at hi
  rw[getElem?_map,getElem?_eq_getElem hi]at hv
  cases hv
  match σc,hσ with
  | [z1,z2],_=>
   refine⟨p,_,rfl,SqT.of hp,rfl,_,_,rfl,_,_,rfl,rfl,?_⟩
   refine⟨_,rfl,_,rfl,_,_,rfl,rfl,.inl ⟨by omega,by omega⟩,?_⟩
   refine hQ' _ _ _ rfl (aD.refl _) ?_
   rw[getD_eq_getElem?_getD,getElem?_eq_getElem hi]
   rfl
 ·intro D ys H' hD s' hD' hlen hR
  have ey:ys=((List.range ns.length).map fun(i:Nat)=>(1+(i:Int)) * ns.getD i 0).map V.int:=by
   apply ext_getElem?
   intro i
   rw[length_map]at hlen
   cases e:ys[i]? with
   | none=>
    have:ys.length<=i:=List.getElem?_eq_none_iff.mp e
    rw[getElem?_eq_none (by rw[length_map,length_map,length_range]; omega)]
   | some y=>
    have hi:i<ns.length:=by
     have:=(List.getElem?_eq_some_iff.mp e).1
     omega
    rw[hR i y e,getElem?_map,getElem?_map,getElem?_range hi]
    rfl
  refine⟨D,_,rfl,.inl (SqL.of (by rw[hD',ey])),?_⟩
  refine⟨_,rfl,_,_,rfl,rfl,(by show (0:Int)<256; decide),_,rfl,_,_,rfl,rfl,(by show (0:Int)<256; decide),(by show 2<=sizeLine; decide),fun p hp=>?_⟩
  exact q p _ (s'.trans (aI hp)) aC
def dP (k:Str) (n:Int) (ns:Hm):Hm:=[(bW.idxOf k:Int)+1]++[n / 65536,n / 256 % 256,n % 256]++[(ns.length:Int)]++ns
def bU (k:Str) (n:Int) (ns:Hm):Hm:=[(eA (dP k n ns)).1,(eA (dP k n ns)).2]++dP k n ns
def DI:PyData->Hm
 | .tuple [.str k,.int n,b]=>bU k n (a9 b)
 | _=>[]
def jO (h:aQ d=true):∃ k n bs,d = .tuple [.str k,.int n,.tuple bs]/\bW.contains k=true/\0<=n/\n<=999999/\bs.all (bI 0 255)=true/\fF k (a9 (.tuple bs))=true:=by
 cases d with
 | tuple ds=>
  by_cases h3:ds.length=3
  ·obtain⟨d0,d1,d2,rfl⟩:=HF h3
   cases d0 with
   | str k=>
    simp only[aQ,and_eq_true]at h
    obtain⟨h1,h2,h4,h5⟩:=h
    cases d1 with
    | int n=>
     simp only[bI,and_eq_true,decide_eq_true_eq]at h2
     cases d2 with
     | tuple bs=>exact⟨k,n,bs,rfl,h1,h2.1,h2.2,h4,h5⟩
     | _=>simp [cG]at h4
    | _=>simp [bI]at h2
   | _=>cases h
  ·rw[uD h3]at h
   cases h
 | _=>cases h
def CN (h:bW.contains k=true):bW[bW.idxOf k]? = some k/\∀ i,i<bW.idxOf k->bW[i]? ≠ some k:=by
 have hm:k∈bW:=by simpa using h
 have hl:=List.idxOf_lt_length_of_mem hm
 refine⟨by rw[getElem?_eq_getElem hl,List.getElem_idxOf],fun i hi e=>?_⟩
 have:=List.not_of_lt_findIdx (p:=(· == k)) (xs:=bW) (i:=i) hi
 have hi2:i<bW.length:=lt_trans hi hl
 rw[getElem?_eq_getElem hi2]at e
 have e:=Option.some.inj e
 rw[e]at this
 simp at this
def rR (h:fF k ns=true):ns.length<=61:=by
 unfold fF at h
 split at h
 ·have:=of_decide_eq_true h
  omega
 ·split at h
  ·simp only[and_eq_true,decide_eq_true_eq]at h
   omega
  ·split at h
   ·simp only[and_eq_true,decide_eq_true_eq]at h
    omega
   ·have:=of_decide_eq_true h
    omega
end
abbrev oN:Stmt:=top 31
section
variable {P:Program} {w:World} {K:Hh} {mg:Hj} {base:Heap} {aa9 aa1:Addr}
inductive dY (aa1:Addr) (vs:Hw) (H:Hp) (Q:VK) (E:XK):Prop
 | mk:∀ v d,vs=[v]->Den H d v->(∀ k n bs,d = .tuple [k,n,.tuple bs]->bs.length<=sizeLine)->(aQ d=true->∀ p H',aD H H'->H' p=some (.tup ((DI d).map V.int))->Q (.ref p) H')->(aQ d=false->∀ H',aD H H'->E (.ref aa1) none H')->dY aa1 vs H Q E
def vN (F:Fun K "row_bytes" "row_bytes" oN f fd) (T:TxtR K mg aa9 aa1) (ad5:(Callee P w K mg base) "is_row" 3 ["thing"] iW)
  (ad9:(Callee P w K mg base) "checks_of" 1 ["behind"] gM):(FnOk P w K mg base (CXE P w)) 4 f fd ["row"] (dY aa1):=by
 refine F.okY ["row","number","body","figures","behind"] fun cdv A outer s H vs Q E hr nD0 h=>?_
 obtain⟨v,d,rfl,hd,hz,q,qe⟩:=h
 refine⟨_,aA (a6 (cK (cU (a5 ad5 ((hr.mono (by decide))) bB (aJ (pv 0) aF))))
   (aB (dF eO ⋯ T.af2 ⋯ T.bc0 (aR cY aF)))
   aO)
  (aA (aT (i:=1) nD0 ⋯ ⋯ (dO (fE K) (pv 0) aG (fun _ _ => rfl)))
  (aA (aT (i:=2) nD0 ⋯ ⋯ (dO (fE K) (pv 0) aG (fun _ _ => rfl)))
  (aA (aT (i:=3) nD0 ⋯ ⋯ (bV (bM (aY iF (pv 1) aG) (bM (aY dM (aY iF (pv 1) aG) aG) (bM (aY dM (pv 1) aG) aF)))))
  (aA (aT (i:=4) nD0 ⋯ ⋯ (aY mW (aY mW (aY mW (bV (bM (aY cT (G3 K PySem.F.slot_tuple_index PySem.F.type_tuple_index (B5 K) (cI (v := .ref aa9) ⋯ T.bf7 ⋯) (aP (dO (fE K) (pv 0) aG (fun _ _ => rfl)) aF)) aG) aF)) (pv 3)) (bV (cC (bE (cV K) ⋯ T.ad0 fO (aJ (pv 2) aF)) aF))) (pv 2)))
  (aB (aX (aY mW (a5 ad9 ((hr.mono (by decide))) bB (aJ (pv 4) aF)) (pv 4)))))))),?_⟩
 refine⟨_,rfl,v,d,rfl,hd,hz,fun H1 s1=>⟨_,rfl,?_⟩⟩
 cases hb:aQ d with
 | false=>exact aV ⟨(by show 1<=sizeLine; decide),qe hb H1 s1⟩
 | true=>
  refine a7 ?_
  obtain⟨k,n,bs,rfl,hk,n0,n9,hbs,hf⟩:=jO hb
  have hd1:=hd.same s1
  simp only[Den,aW]at hd1
  obtain⟨a,xs,rfl,ha,y0,r0,e0,k0,y1,r1,e1,k1,y2,r2,e2,⟨a2,ys,k2,ha2,h2⟩,e3⟩:=hd1
  subst e3 k0 k1 k2
  subst e2
  subst e1
  subst e0
  have ei:=kS h2 hbs
  subst ei
  have fl:=rR hf
  have sq:SqT K H1 a [.str k,.int n,.ref a2]:=SqT.of ha
  obtain⟨i1,i2⟩:=CN hk
  refine⟨_,rfl,a,_,_,_,rfl,rfl,sq,bQ (j:=1) rfl,?_⟩
  refine⟨_,rfl,a,_,_,_,rfl,rfl,sq,bQ (j:=2) rfl,?_⟩
  refine⟨_,rfl,_,_,rfl,rfl,⟨by decide,by decide⟩,_,rfl,_,_,rfl,rfl,⟨by decide,by decide⟩,_,_,rfl,rfl,(by show (0:Int)<256; decide),_,rfl,_,_,rfl,rfl,(by show (0:Int)<256; decide),(by show 3<=sizeLine; decide),fun p3 hp3=>?_⟩
  have S2:=aI (o:=.tup [.int (n / 65536),.int (n / 256 % 256),.int (n % 256)]) hp3
  refine⟨⟨aa9,rfl,.inr T.l_KINDS⟩,_,rfl,a,_,_,_,rfl,rfl,S2.seqT sq,bQ (j:=0) rfl,aa9,bW,k,bW.idxOf k,rfl,rfl,T.au1 _,i1,i2,?_⟩
  refine⟨_,_,rfl,rfl,(by show 1<=sizeLine; decide),fun p4 hp4=>?_⟩
  have S3:=aI (o:=.tup [V.int ((bW.idxOf k:Int)+1)]) hp4
  refine⟨_,rfl,p4,p3,_,_,rfl,rfl,aC,S3 _ _ aC,(by show 1+3<=sizeLine; decide),fun p5 H5 S5 g5=>?_⟩
  have g2:H5 a2=some (.tup ((a9 (.tuple bs)).map V.int)):=S5 _ _ (S3 _ _ (S2 _ _ ha2))
  refine⟨_,rfl,a2,_,rfl,.inr (SqT.of g2),(by show 1<=sizeLine; decide),fun p6 hp6=>?_⟩
  have S6:=aI (o:=.tup [V.int (((a9 (.tuple bs)).map V.int).length:Int)]) hp6
  refine⟨p5,p6,_,_,rfl,rfl,S6 _ _ g5,aC,(by show 4+1<=sizeLine; decide),fun p7 H7 S7 g7=>?_⟩
  have zl:(100:Nat)<=sizeLine:=by decide
  refine⟨_,rfl,p7,a2,_,_,rfl,rfl,g7,S7 _ _ (S6 _ _ g2),?_,fun p8 H8 S8 g8=>?_⟩
  ·show 5+((a9 (.tuple bs)).map V.int).length<=sizeLine
   rw[length_map]
   omega
  have eb:([V.int ((bW.idxOf k:Int)+1)]++[V.int (n / 65536),V.int (n / 256 % 256),V.int (n % 256)]++[V.int (((a9 (.tuple bs)).map V.int).length:Int)]++(a9 (.tuple bs)).map V.int)=(dP k n (a9 (.tuple bs))).map V.int:=by
   unfold dP
   rw[length_map]
   simp
  have g8':H8 p8=some (.tup ((dP k n (a9 (.tuple bs))).map V.int)):=by rw[<- eb]; exact g8
  have lb:(dP k n (a9 (.tuple bs))).length=5+(a9 (.tuple bs)).length:=by
   unfold dP
   simp
   omega
  refine⟨_,rfl,p8,_,rfl,g8',by omega,fun p9 H9 S9 g9=>?_⟩
  refine⟨_,rfl,p9,p8,_,_,rfl,rfl,g9,S9 _ _ g8',?_,fun p10 H10 S10 g10=>?_⟩
  ·show 2+((dP k n (a9 (.tuple bs))).map V.int).length<=sizeLine
   rw[length_map]
   omega
  refine q hb p10 H10 (s1.trans (S2.trans (S3.trans (S5.trans (S6.trans (S7.trans (S8.trans (S9.trans S10)))))))) ?_
  rw[g10]
  simp only[DI,bU,map_append]
  rfl
end
def dG (ns:Hm):a9 (.tuple (ns.map .int))=ns:=by
 show (ns.map PyData.int).map _=ns
 rw[map_map]
 exact map_id _
def lF {ns:Hm} (h:∀ b∈ns,0<=b/\b<=255):cG (.tuple (ns.map .int))=true:=by
 show (ns.map PyData.int).all (bI 0 255)=true
 rw[all_map,all_eq_true]
 intro b hb
 have:=h b hb
 show (decide (0<=b) && decide (b<=255))=true
 rw[decide_eq_true this.1,decide_eq_true this.2]
 rfl
def bG (e:D.nx=n) (h:n σ H):wU D σ H:=by
 subst e
 exact h
def bP (h:n<=100:=by exact le_of_ble_eq_true rfl):n<=sizeLine:=le_trans h (by decide)
def i3 (ns:Hm):Option PyData:=
 if ns.take 2=[(eA (ns.drop 2)).1,(eA (ns.drop 2)).2] then
  if 1<=ns.getD 2 0/\ns.getD 2 0<=8 then
   let d:PyData:=.tuple [.str (bW.getD (ns.getD 2 0 - 1).toNat "put"),.int (ns.getD 3 0 * 65536+ns.getD 4 0 * 256+ns.getD 5 0),.tuple ((ns.drop 7).map .int)]
   if aQ d=true then some d else none
  else none
 else none
def j2 (ns:Hm):Option Nat:=if ns.length<7 then none else if 7+(ns.getD 6 0).toNat<=ns.length then some (7+(ns.getD 6 0).toNat) else none
def cA:Nat->Hm->Option (Hr × Nat)
 | 0,_=>none
 | f+1,ns=>match j2 ns with
  | none=>some ([],ns.length)
  | some e=>match i3 (ns.take e) with
   | none=>none
   | some d=>(cA f (ns.drop e)).map fun r=>(d::r.1,r.2)
def BF (h:j2 ns=some e):7<=e/\e<=ns.length:=by
 unfold j2 at h
 split at h
 ·cases h
 ·split at h
  ·have:=Option.some.inj h
   omega
  ·cases h
def tX (h:i3 ns=some d):iU d=true:=by
 have tl:∀ l:Hm,cW (l.map PyData.int)=true:=by
  intro l
  induction l with
  | nil=>rfl
  | cons x l ih=>exact ih
 unfold i3 at h
 split at h
 ·split at h
  ·dsimp only at h
   split at h
   ·have e:=Option.some.inj h
    rw[<- e]
    simp only[iU,cW,Bool.true_and,Bool.and_true]
    exact tl _
   ·cases h
  ·cases h
 ·cases h
def D4:∀ k∈bW,bW.getD (bW.idxOf k) "put" = k/\bW.idxOf k<8:=by decide +kernel
def zO (hr:aQ (.tuple [.str k,.int n,.tuple (ns.map .int)])=true):i3 (bU k n ns)=some (.tuple [.str k,.int n,.tuple (ns.map .int)]):=by
 obtain⟨k',n',bs,e,hk,n0,n9,hb,hf⟩:=jO hr
 injection e with e
 injection e with e1 e
 injection e with e2 e
 injection e1 with e1
 injection e2 with e2
 subst e1 e2
 obtain⟨i1,i2⟩:=D4 k (by simpa using hk)
 have e7:(bU k n ns).drop 7=ns:=rfl
 have e2:(bU k n ns).drop 2=dP k n ns:=rfl
 have g2:(bU k n ns).getD 2 0=(bW.idxOf k:Int)+1:=rfl
 have g3:(bU k n ns).getD 3 0=n / 65536:=rfl
 have g4:(bU k n ns).getD 4 0=n / 256 % 256:=rfl
 have g5:(bU k n ns).getD 5 0=n % 256:=rfl
 have en:n / 65536 * 65536+n / 256 % 256 * 256+n % 256=n:=by omega
 have ek:((bW.idxOf k:Int)+1 - 1).toNat=bW.idxOf k:=by omega
 unfold i3
 rw[e2,if_pos (show (bU k n ns).take 2=[(eA (dP k n ns)).1,(eA (dP k n ns)).2] from rfl),g2,g3,g4,g5,e7,if_pos ⟨by omega,by omega⟩,en,ek,i1]
 try dsimp only
 rw[if_pos hr]
def cB (k:Str) (n:Int) (ns:Hm):(bU k n ns).length=7+ns.length:=by
 unfold bU dP
 simp
 omega
def DH (k:Str) (n:Int) (ns tl:Hm):(bU k n ns++tl).getD 6 0=(ns.length:Int):=rfl
def EU (k:Str) (n:Int) (ns tl:Hm):j2 (bU k n ns++tl)=some (7+ns.length):=by
 unfold j2
 have hl:=cB k n ns
 rw[DH,length_append,hl,if_neg (by omega),if_pos (by omega)]
 rfl
def nX (hr:aQ (.tuple [.str k,.int n,.tuple (ns.map .int)])=true) :
  cA (f+1) (bU k n ns++tl)=(cA f tl).map fun r=>(.tuple [.str k,.int n,.tuple (ns.map .int)]::r.1,r.2):=by
 have hl:=cB k n ns
 have e1:(bU k n ns++tl).take (7+ns.length)=bU k n ns:=by rw[<- hl]; exact List.take_left
 have e2:(bU k n ns++tl).drop (7+ns.length)=tl:=by rw[<- hl]; exact List.drop_left
 show (match j2 (bU k n ns++tl) with
  | none=>some ([],(bU k n ns++tl).length)
  | some e=>match i3 ((bU k n ns++tl).take e) with
   | none=>none
   | some d=>(cA f ((bU k n ns++tl).drop e)).map fun(r:Hr × Nat)=>(d::r.1,r.2))=_
 rw[EU]
 try dsimp only
 rw[e1,e2,zO hr]
def CV (hm:m<7+ns.length):j2 ((bU k n ns).take m)=none:=by
 have hl:=cB k n ns
 have ht:((bU k n ns).take m).length=m:=by rw[length_take,hl]; omega
 unfold j2
 rw[ht]
 by_cases h:m<7
 ·rw[if_pos h]
 ·rw[if_neg h]
  have g6:((bU k n ns).take m).getD 6 0=(ns.length:Int):=by
   rw[getD_eq_getElem?_getD,List.getElem?_take_of_lt (by omega)]
   rfl
  rw[g6,if_neg (by show ¬ (7+ns.length<=m); omega)]
abbrev tM:Stmt:=top 32
abbrev qL:Stmt:=top 33
abbrev tL:Stmt:=top 34
structure TxtB (K:Hh) (mg:Hj) (aa9 aa1 aa3:Addr):Prop extends TxtR K mg aa9 aa1 where
 aq1:mg "list" = none
 bb5:∃ t,mg "CHECKS_SIZE" = some (.int 2 t)
 au4:∃ t,mg "HEAD_SIZE" = some (.int 7 t)
 ae2:cR K aa3=true
 an8:mg "Broken" = some (.ref aa3)
def HW (st:Nat):Option Nat->V
 | none=>.non
 | some e=>.int ((st+e:Nat):Int)
def eC (ns:Hm):Prop:=∀ b∈ns,0<=b/\b<=255
inductive lP (vs:Hw) (H:Hp) (Q:VK) (x_3:XK):Prop
 | mk:∀ (a:Addr) (ns:Hm) (st:Nat),vs=[.ref a,.int (st:Int)]->H a=some (.tup (ns.map V.int))->eC ns->st<=ns.length->Q (HW st (j2 (ns.drop st))) H->lP vs H Q x_3
inductive j5 (aa3:Addr) (vs:Hw) (H:Hp) (Q:VK) (E:XK):Prop
 | mk:∀ (a:Addr) (ns:Hm),vs=[.ref a]->H a=some (.tup (ns.map V.int))->7<=ns.length->ns.length<=300->(∀ d,i3 ns=some d->∀ p H',aD H H'->Den H' d (.ref p)->Q (.ref p) H')->(i3 ns=none->∀ H',aD H H'->E (.ref aa3) none H')->j5 aa3 vs H Q E
def Fs {xs:Hw} {lo hi:Nat} (h1:lo<=hi) (h2:hi<=xs.length):fN xs (some (lo:Int)) (some (hi:Int))=(xs.drop lo).take (hi - lo):=by
 unfold fN
 rw[HT.iD,HT.iD,min_eq_left (show lo<=xs.length by omega),min_eq_left h2]
def yN {xs:Hw} {lo:Nat} (h:lo<=xs.length):fN xs (some (lo:Int)) none=xs.drop lo:=by
 unfold fN
 rw[HT.iD,HT.mS,min_eq_left h,take_of_length_le (by rw[length_drop]; omega)]
def AQ {xs:Hw} {hi:Nat} (h:hi<=xs.length):fN xs none (some (hi:Int))=xs.take hi:=by
 unfold fN
 rw[HT.iD,HT.mS,min_eq_left h,List.drop_zero,Nat.sub_zero]
def D3 (h0:0<=i) (h:i<8):atI (bW.map V.str) i=some (.str (bW.getD i.toNat "put")):=by
 have k1:i.toNat<bW.length:=by show _<8; omega
 refine cJ h0 ?_
 rw[getElem?_map,getD_eq_getElem?_getD,getElem?_eq_getElem k1]
 rfl
def EK {ns:Hm} {i:Nat} (h:i<ns.length):ns[i]? = some (ns.getD i 0):=by
 rw[getD_eq_getElem?_getD,getElem?_eq_getElem h]
 rfl
def Eh {ns:Hm} {i:Nat} (h:i<ns.length):(ns.map V.int)[i]? = some (.int (ns.getD i 0)):=by
 rw[getElem?_map,EK h]
 rfl
def yF {ns:Hm} {i:Nat} (h:i<ns.length):ns.getD i 0∈ns:=by
 rw[getD_eq_getElem?_getD,getElem?_eq_getElem h]
 exact List.getElem_mem h
def oE (ns:Hm) (st i:Nat):(ns.drop st).getD i 0=ns.getD (st+i) 0:=by
 rw[getD_eq_getElem?_getD,getD_eq_getElem?_getD,List.getElem?_drop]
section
variable {P:Program} {w:World} {K:Hh} {mg:Hj} {base:Heap} {aa9 aa1 aa3:Addr}
def zX {f:Addr} {fd:Hs} (F:Fun K "row_end" "row_end" tM f fd) (T:TxtB K mg aa9 aa1 aa3):(FnOk P w K mg base (CXE P w)) 1 f fd ["some","start"] lP:=by
 obtain⟨_,aj1⟩:=T.au4
 refine F.okY ["some","start","end"] fun cdv A outer s H vs Q E hr nD0 h=>?_
 obtain⟨a,ns,st,rfl,ha,hb,hst,q⟩:=h
 refine⟨_,aA (a6 (bA xU (aY cT (pv 1) (cI (v := .int 7) ⋯ aj1 ⟨_, rfl⟩)) (bE (cV K) ⋯ T.ad0 fO (aJ (pv 0) aF)) (bF _))
   (aB (aX gG))
   aO)
  (aA (aT (i:=2) nD0 ⋯ ⋯ (aY cT (aY cT (pv 1) (cI (v := .int 7) ⋯ aj1 ⟨_, rfl⟩)) (dO (fE K) (pv 0) (aY qZ (aY cT (pv 1) (cI (v := .int 7) ⋯ aj1 ⟨_, rfl⟩)) aG) (fun _ _=>rfl))))
  (aB (aX (DX (bA hW (pv 2) (bE (cV K) ⋯ T.ad0 fO (aJ (pv 0) aF)) (bF _)) (pv 2) gG)))),?_⟩
 have sq:SqT K H a (ns.map V.int):=SqT.of ha
 refine⟨_,rfl,_,_,rfl,rfl,_,rfl,a,_,rfl,.inr sq,_,_,rfl,rfl,_,rfl,?_⟩
 rw[length_map]
 show if decide ((ns.length:Int)<(st:Int)+7)=true then _ else _
 unfold j2 at q
 rw[length_drop,oE]at q
 by_cases h1:ns.length - st<7
 ·rw[if_pos h1]at q
  rw[if_pos (decide_eq_true (by omega))]
  exact q
 ·rw[if_neg h1]at q
  rw[if_neg (by rw[decide_eq_true_eq]; omega)]
  have h6:st+6<ns.length:=by omega
  obtain⟨b0,b9⟩:=hb _ (yF h6)
  have e6:((st:Int)+7 - 1)=((st+6:Nat):Int):=by omega
  refine⟨_,rfl,_,_,rfl,rfl,_,rfl,_,rfl,_,_,rfl,rfl,_,_,rfl,rfl,a,_,_,.int (ns.getD (st+6) 0),rfl,rfl,sq,?_,_,_,rfl,rfl,?_⟩
  ·show atI _ ((st:Int)+7 - 1)=_
   rw[e6]
   exact bQ (Eh h6)
  refine⟨_,rfl,_,rfl,a,_,rfl,.inr sq,_,_,rfl,rfl,_,rfl,?_⟩
  rw[length_map]
  show if decide ((st:Int)+7+ns.getD (st+6) 0<=(ns.length:Int))=true then _ else _
  by_cases h2:7+(ns.getD (st+6) 0).toNat<=ns.length - st
  ·rw[if_pos h2]at q
   rw[if_pos (decide_eq_true (by omega))]
   refine⟨_,rfl,?_⟩
   have ee:((st+(7+(ns.getD (st+6) 0).toNat):Nat):Int)=(st:Int)+7+ns.getD (st+6) 0:=by omega
   have q:Q (.int ((st+(7+(ns.getD (st+6) 0).toNat):Nat):Int)) H:=q
   rw[ee]at q
   exact q
  ·rw[if_neg h2]at q
   rw[if_neg (by rw[decide_eq_true_eq]; omega)]
   exact q
def xW (F:Fun K "row_from" "row_from" qL f fd) (T:TxtB K mg aa9 aa1 aa3) (ad5:(Callee P w K mg base) "is_row" 3 ["thing"] iW)
  (ad9:(Callee P w K mg base) "checks_of" 1 ["behind"] gM):(FnOk P w K mg base (CXE P w)) 4 f fd ["whole"] (j5 aa3):=by
 obtain⟨_,aj1⟩:=T.au4
 obtain⟨_,am4⟩:=T.bb5
 refine F.okY ["whole","behind","number","row"] fun cdv A outer s H vs Q E hr nD0 h=>?_
 obtain⟨a,ns,rfl,ha,h7,h3,q,qe⟩:=h
 refine⟨_,aA (aT (i:=1) nD0 ⋯ ⋯ (fA (mH K) (pv 0) (fU (cI (v:=.int 2) ⋯ am4 ⟨_,rfl⟩)) iE))
  (aA (a6 (bA (vM hr.units) (fA (mH K) (pv 0) iE (fU (cI (v:=.int 2) ⋯ am4 ⟨_,rfl⟩))) (a5 ad9 ((hr.mono (by decide))) bB (aJ (pv 1) aF)) (bF _))
   (aB (dF eO ⋯ T.ae2 ⋯ T.an8 (aR cY aF)))
   aO)
  (aA (a6 (cK (qS hW hW aG (dO (fE K) (pv 1) aG (fun _ _ => rfl)) (bE (cV K) ⋯ T.ad0 fO (aJ (cI (v := .ref aa9) ⋯ T.bf7 ⋯) aF))))
   (aB (dF eO ⋯ T.ae2 ⋯ T.an8 (aR cY aF)))
   aO)
  (aA (aT (i:=2) nD0 ⋯ ⋯ (aY cT (aY cT (aY kG (dO (fE K) (pv 1) aG (fun _ _ => rfl)) aG) (aY kG (dO (fE K) (pv 1) aG (fun _ _ => rfl)) aG)) (dO (fE K) (pv 1) aG (fun _ _ => rfl))))
  (aA (aT (i:=3) nD0 ⋯ ⋯ (bV (aP (dO (fE K) (cI (v := .ref aa9) ⋯ T.bf7 ⋯) (aY qZ (dO (fE K) (pv 1) aG (fun _ _ => rfl)) aG) (fun _ _=>rfl)) (aJ (pv 2) (aP (fA (mH K) (pv 0) (fU (cI (v:=.int 7) ⋯ aj1 ⟨_,rfl⟩)) iE) aF)))))
  (aA (a6 (cK (cU (a5 ad5 ((hr.mono (by decide))) bB (aJ (pv 3) aF))))
   (aB (dF eO ⋯ T.ae2 ⋯ T.an8 (aR cY aF)))
   aO)
  (aB (aX (pv 3)))))))),?_⟩
 have sq:SqT K H a (ns.map V.int):=SqT.of ha
 have lm:(ns.map V.int).length=ns.length:=length_map _
 have w2:HT.sIx (ns.map V.int).length 0 (some 2)=2:=by
  rw[lm]
  exact(HT.iD ns.length 0 2).trans (min_eq_left (by omega))
 have w2':HT.sIx (ns.map V.int).length (ns.map V.int).length (some 2)=2:=by
  rw[lm]
  exact(HT.iD ns.length ns.length 2).trans (min_eq_left (by omega))
 have w7:HT.sIx (ns.map V.int).length 0 (some 7)=7:=by
  rw[lm]
  exact(HT.iD ns.length 0 7).trans (min_eq_left (by omega))
 have c2:fN (ns.map V.int) (some 2) none=(ns.drop 2).map V.int:=(yN (lo:=2) (by omega)).trans (List.map_drop ..).symm
 have c2':fN (ns.map V.int) none (some 2)=(ns.take 2).map V.int:=(AQ (hi:=2) (by omega)).trans (List.map_take ..).symm
 have c7:fN (ns.map V.int) (some 7) none=(ns.drop 7).map V.int:=(yN (lo:=7) (by omega)).trans (List.map_drop ..).symm
 refine⟨_,rfl,2,rfl,a,_,rfl,sq,fun z=>absurd z.1 (by rw[w2]; decide),fun _ p1 hp1=>?_⟩
 rw[c2]
 have S1:=aI (o:=.tup ((ns.drop 2).map V.int)) hp1
 generalize eH1:upd H p1 (.tup ((ns.drop 2).map V.int))=H1 at S1 ⊢
 have g1:H1 p1=some (.tup ((ns.drop 2).map V.int)):=by rw[<- eH1]; exact aC
 refine⟨_,rfl,2,rfl,a,_,rfl,S1.seqT sq,fun z=>absurd z.2 (by rw[w2',lm]; omega),fun _ p2 hp2=>?_⟩
 rw[c2']
 have S2:=aI (o:=.tup ((ns.take 2).map V.int)) hp2
 generalize eH2:upd H1 p2 (.tup ((ns.take 2).map V.int))=H2 at S2 ⊢
 have g2:H2 p2=some (.tup ((ns.take 2).map V.int)):=by rw[<- eH2]; exact aC
 refine⟨_,rfl,p1,ns.drop 2,rfl,S2 _ _ g1,by rw[length_drop]; omega,fun p3 H3 S3 g3=>?_⟩
 have den:∀ (p:Addr) (l:Hm),H3 p=some (.tup (l.map V.int))->Den H3 (.tuple (l.map .int)) (.ref p):=fun p l g=>by
  simp only[Den]
  exact⟨p,_,rfl,g,bO.mpr rfl⟩
 refine⟨_,_,den p2 _ (S3 _ _ g2),den p3 [(eA (ns.drop 2)).1,(eA (ns.drop 2)).2] g3,oM _,oM _,_,rfl,?_⟩
 rw[ER]
 have SS:aD H H3:=S1.trans (S2.trans S3)
 unfold i3 at q qe
 by_cases hc:ns.take 2=[(eA (ns.drop 2)).1,(eA (ns.drop 2)).2]
 case neg=>
  rw[if_neg hc]at qe
  rw[decide_eq_false hc]
  exact aV ⟨(by show 1<=sizeLine; decide),qe rfl H3 SS⟩
 rw[if_pos hc]at q qe
 rw[decide_eq_true hc]
 refine a7 ?_
 have sq1:SqT K H3 p1 ((ns.drop 2).map V.int):=SqT.of (S3 _ _ (S2 _ _ g1))
 have bat:∀ i,i<5->atI ((ns.drop 2).map V.int) ((i:Nat):Int)=some (.int (ns.getD (2+i) 0)):=fun i hi=>by
  rw[<- oE]
  exact bQ (Eh (by rw[length_drop]; omega))
 refine⟨_,rfl,p1,_,_,_,rfl,rfl,sq1,bat 0 (by decide),_,_,rfl,rfl,_,rfl,?_⟩
 show if decide (1<=ns.getD 2 0)=true then _ else _
 by_cases h1:1<=ns.getD 2 0
 case neg=>
  rw[if_neg (fun z=>h1 z.1)]at qe
  rw[if_neg (by rw[decide_eq_true_eq]; exact h1)]
  exact⟨_,rfl,aV ⟨(by show 1<=sizeLine; decide),qe rfl H3 SS⟩⟩
 rw[if_pos (decide_eq_true h1)]
 refine⟨aa9,_,rfl,.inr (T.au1 H3),_,_,rfl,rfl,_,rfl,?_⟩
 show if (!decide (ns.getD 2 0<=8))=true then _ else _
 by_cases h8:ns.getD 2 0<=8
 case neg=>
  rw[if_neg (fun z=>h8 z.2)]at qe
  rw[decide_eq_false h8]
  exact aV ⟨(by show 1<=sizeLine; decide),qe rfl H3 SS⟩
 rw[if_pos ⟨h1,h8⟩]at q qe
 rw[decide_eq_true h8]
 refine a7 ?_
 refine⟨_,rfl,p1,_,_,_,rfl,rfl,sq1,bat 1 (by decide),_,_,rfl,rfl,.inr ⟨by decide,by decide⟩,_,rfl,p1,_,_,_,rfl,rfl,sq1,bat 2 (by decide),_,_,rfl,rfl,.inr ⟨by decide,by decide⟩,_,_,rfl,rfl,_,rfl,p1,_,_,_,rfl,rfl,sq1,bat 3 (by decide),_,_,rfl,rfl,?_⟩
 have hk:=D3 (i:=ns.getD 2 0 - 1) (by omega) (by omega)
 refine⟨_,rfl,p1,_,_,_,rfl,rfl,sq1,bat 0 (by decide),_,_,rfl,rfl,aa9,_,_,_,rfl,rfl,T.au1 H3,hk,_,rfl,_,rfl,7,rfl,a,_,rfl,SS.seqT sq,fun z=>absurd z.1 (by rw[w7]; decide),fun _ p4 hp4=>?_⟩
 rw[c7]
 have S4:=aI (o:=.tup ((ns.drop 7).map V.int)) hp4
 generalize eH4:upd H3 p4 (.tup ((ns.drop 7).map V.int))=H4 at S4 ⊢
 have g4:H4 p4=some (.tup ((ns.drop 7).map V.int)):=by rw[<- eH4]; exact aC
 refine⟨(by show 3<=sizeLine; decide),fun p5 hp5=>?_⟩
 have S5:=aI (o:=.tup [.str (bW.getD (ns.getD 2 0 - 1).toNat "put"),.int (ns.getD 3 0 * 65536+ns.getD 4 0 * 256+ns.getD 5 0),.ref p4]) hp5
 dsimp only at q qe
 generalize hd:(PyData.tuple [.str (bW.getD (ns.getD 2 0 - 1).toNat "put"),.int (ns.getD 3 0 * 65536+ns.getD 4 0 * 256+ns.getD 5 0),.tuple ((ns.drop 7).map .int)])=d at q qe
 have dn:Den (upd H4 p5 (.tup [.str (bW.getD (ns.getD 2 0 - 1).toNat "put"),.int (ns.getD 3 0 * 65536+ns.getD 4 0 * 256+ns.getD 5 0),.ref p4])) d (.ref p5):=by
  rw[<- hd]
  simp only[Den,aW]
  exact⟨p5,_,rfl,aC,_,_,rfl,rfl,_,_,rfl,rfl,_,_,rfl,⟨p4,_,rfl,S5 _ _ g4,bO.mpr rfl⟩,rfl⟩
 refine⟨_,rfl,.ref p5,d,rfl,dn,?_,fun H6 S6=>⟨_,rfl,?_⟩⟩
 ·rintro k n bs e
  rw[<- hd]at e
  injection e with e
  injection e with _ e
  injection e with _ e
  injection e with e _
  injection e with e
  rw[<- e,length_map,length_drop]
  exact le_trans (show _<=300 by omega) (by decide)
 cases hb:aQ d with
 | false=>
  rw[if_neg (by rw[hb]; decide)]at qe
  exact aV ⟨(by show 1<=sizeLine; decide),qe rfl H6 (SS.trans (S4.trans (S5.trans S6)))⟩
 | true=>
  rw[if_pos hb]at q
  refine a7 ⟨_,rfl,?_⟩
  exact q d rfl p5 H6 (SS.trans (S4.trans (S5.trans S6))) (dn.same S6)
end
inductive gX (aa1:Addr) (aa3:Addr) (vs:Hw) (H:Hp) (Q:VK) (E:XK):Prop
 | mk:∀ (v:V) (d:PyData),vs=[v]->Den H d v->(∀ bs,d = .tuple bs->bs.length<=sizeLine)->(cG d=false->∀ H',aD H H'->E (.ref aa1) none H')->(cG d=true->(∀ ds (k:Nat),cA ((a9 d).length+1) (a9 d)=some (ds,k)->∀ p H',aD H H'->Den H' (.tuple [.list ds,.int (k:Int)]) (.ref p)->(∀ l x,H' p=some (.tup [.ref l,x])->H l=none)->Q (.ref p) H')/\(cA ((a9 d).length+1) (a9 d)=none->∀ H',aD H H'->E (.ref aa3) none H'))->gX aa1 aa3 vs H Q E
def hG (f:Nat) (ns:Hm):cA (f+1) ns=match j2 ns with
  | none=>some ([],ns.length)
  | some e=>match i3 (ns.take e) with
   | none=>none
   | some d=>(cA f (ns.drop e)).map fun r=>(d::r.1,r.2):=rfl
def sV:∀ {a b:Hr},cW a=true->cW b=true->cW (a++b)=true
 | [],b,_,h=>h
 | d::a,b,h1,h2=>by
  simp only[cW,and_eq_true]at h1
  show (iU d && cW (a++b))=true
  rw[h1.1,sV h1.2 h2]
  rfl
def yK (h:Den H d v):aW H [d] [v]:=by
 simp only[aW]
 exact⟨v,[],rfl,h,rfl⟩
def C7 (h0:H l=none) (s:aD H H2):aD H (upd H2 l (.lst ys)):=fun c u e=>by
 rw[aE (a8 e h0)]
 exact s c u e
def Ec (hd:Den H d v) (hb:cG d=true):∃ a,v = .ref a/\H a=some (.tup ((a9 d).map V.int)):=by
 cases d with
 | tuple bs=>
  simp only[Den]at hd
  obtain⟨a,ys,rfl,ha,hbs⟩:=hd
  have ei:=kS hbs hb
  subst ei
  exact⟨a,rfl,ha⟩
 | _=>exact absurd hb (by simp [cG])
def l6 (hb:cG d=true):eC (a9 d):=by
 cases d with
 | tuple bs=>
  have hb:bs.all (bI 0 255)=true:=hb
  rw[all_eq_true]at hb
  intro b hm
  have hm:b∈bs.map fun d=>match d with | .int i=>i | _=>0:=hm
  rw[mem_map]at hm
  obtain⟨d,h1,h2⟩:=hm
  have h3:=hb d h1
  cases d with
  | int i=>
   have h2:i=b:=h2
   subst h2
   simpa [bI] using h3
  | _=>exact absurd h3 (by simp [bI])
 | _=>exact absurd hb (by simp [cG])
def EA:(a9 (.tuple bs)).length=bs.length:=length_map _
def Af (ha:H a=some (.tup xs)) (h:∀ b H4,aD H H4->H4 b=some (.tup (fN xs lo hi))->Q (.ref b) H4):As K (.ref a) lo hi H Q:=by
 refine⟨a,xs,rfl,SqT.of ha,fun z=>?_,fun _ p hp=>h p _ (aI hp) aC⟩
 refine h a H (aD.refl H) ?_
 rw[ha]
 unfold fN
 rw[z.1,z.2,List.drop_zero,Nat.sub_zero,take_length]
section
variable {P:Program} {w:World} {K:Hh} {mg:Hj} {base:Heap} {aa9 aa1 aa3:Addr}
def zW (F:Fun K "rows_in" "rows_in" tL f fd) (T:TxtB K mg aa9 aa1 aa3) (ac3:(Callee P w K mg base) "is_bytes" 2 ["thing"] fX)
  (ak5:(Callee P w K mg base) "row_end" 1 ["some","start"] lP) (an9:(Callee P w K mg base) "row_from" 4 ["whole"] (j5 aa3)):(FnOk P w K mg base (CXE P w)) 5 f fd ["some"] (gX aa1 aa3):=by
 refine F.okY ["some","rows","start","end"] fun cdv A outer s H vs Q E hr nD0 h=>?_
 obtain⟨v,d,rfl,hd,hz,qb,q⟩:=h
 refine⟨_,aA (a6 (cK (cU (a5 ac3 ((hr.mono (by decide))) bB (aJ (pv 0) aF))))
   (aB (dF eO ⋯ T.af2 ⋯ T.bc0 (aR cY aF)))
   aO)
  (aA (aT (i:=1) nD0 ⋯ ⋯ (gI aF))
  (aA (aT (i:=2) nD0 ⋯ ⋯ aG)
  (aA (aT (i:=3) nD0 ⋯ ⋯ (a5 ak5 ((hr.mono (by decide))) bB (aJ (pv 0) (aJ (pv 2) aF))))
  (aA (xS (sD hV) (bA vK (pv 3) gG (bF _))
   (aA (bD (qY K PySem.F.plainAttrs_list PySem.F.slot_list_append PySem.F.type_list_append lB (pv 1) (cC (a5 an9 ((hr.mono (by decide))) bK (aP (fA (mH K) (pv 0) (fU (pv 2)) (fU (pv 3))) aF)) aF)))
   (aA (aT (i:=2) nD0 ⋯ ⋯ (pv 3))
   (aB (aT (i:=3) nD0 ⋯ ⋯ (a5 ak5 ((hr.mono (by decide))) bB (aJ (pv 0) (aJ (pv 2) aF))))))))
  (aB (aX (bV (aJ (pv 1) (bM (aY qZ (bE (cV K) ⋯ T.ad0 fO (aJ (pv 0) aF)) (pv 2)) aF))))))))),?_⟩
 refine⟨_,rfl,v,d,rfl,hd,hz,fun H1 S1=>⟨_,rfl,?_⟩⟩
 cases hb:cG d with
 | false=>exact aV ⟨(by show 1<=sizeLine; decide),qb hb H1 S1⟩
 | true=>
 refine a7 ?_
 obtain⟨q,qe⟩:=q hb
 obtain⟨a,rfl,ha⟩:=Ec hd hb
 have bo:=l6 hb
 have hns:(a9 d).length<=sizeLine:=by
  cases d with
  | tuple bs=>rw[EA]; exact hz bs rfl
  | _=>exact absurd hb (by simp [cG])
 generalize a9 d=ns at *
 refine⟨(by show 0<=sizeLine; decide),fun rl hrl=>?_⟩
 have S2:=aI (o:=.lst []) hrl
 generalize eH2:upd H1 rl (.lst [])=H2 at S2 ⊢
 have g2:H2 rl=some (.lst []):=by rw[<- eH2]; exact aC
 have hrl0:H rl=none:=S1.free hrl
 have SS:aD H H2:=S1.trans S2
 refine⟨_,rfl,_,rfl,a,ns,0,rfl,SS _ _ ha,bo,zero_le _,?_⟩
 refine⟨fun m σ H3=>∃ (st f:Nat) (ds:Hr) (xs:Hw),m=ns.length - st/\st<=ns.length/\ns.length<st+f/\σ = [some (.ref a),some (.ref rl),some (.int (st:Int)),some (HW st (j2 (ns.drop st)))]/\aD H H3/\
  H3 rl=some (.lst xs)/\aW H3 ds xs/\cW ds=true/\ds.length<=st/\cA (ns.length+1) ns=(cA f (ns.drop st)).map fun r=>(ds++r.1,r.2),⟨_,0,ns.length+1,[],[],rfl,zero_le _,by omega,rfl,SS,g2,by simp only[aW],rfl,le_refl _,?_⟩,?_⟩
 ·simp
 rintro m σ H3 ⟨st,f,ds,xs,rfl,hst,hf,rfl,S3,g3,dn,td,hl,er⟩
 obtain⟨f,rfl⟩:∃ g,f=g+1:=⟨f - 1,by omega⟩
 rw[hG f]at er
 have ldr:(ns.drop st).length=ns.length - st:=length_drop
 refine⟨_,rfl,rfl,_,rfl,?_⟩
 cases he:j2 (ns.drop st) with
 | none=>
  rw[he]at er
  refine a7 ?_
  have er:cA (ns.length+1) ns=some (ds++[],(ns.drop st).length):=er
  rw[append_nil,ldr]at er
  refine⟨_,rfl,_,rfl,a,_,rfl,.inr (SqT.of (S3 _ _ ha)),_,rfl,_,_,rfl,rfl,(by show 2<=sizeLine; decide),fun p hp=>?_⟩
  have S4:=aI (o:=.tup [.ref rl,.int (((ns.map V.int).length:Int) - (st:Int))]) hp
  refine q ds (ns.length - st) er p _ (S3.trans S4) ?_ (fun l x e=>by rw[aC]at e; cases e; exact hrl0)
  have e1:(((ns.map V.int).length:Int) - (st:Int))=((ns.length - st:Nat):Int):=by rw[length_map]; omega
  simp only[Den,aW]
  exact⟨p,_,rfl,aC,_,_,rfl,⟨rl,xs,rfl,S4 _ _ g3,dn.same S4⟩,_,_,rfl,by rw[e1],rfl⟩
 | some e=>
  rw[he]at er
  obtain⟨e7,ele⟩:=BF he
  rw[ldr]at ele
  have hsz:ns.length<=sizeLine:=hns
  refine aV ⟨fun σ' H'=>∃ m',m'<ns.length - st/\∃ (st f:Nat) (ds:Hr) (xs:Hw),m'=ns.length - st/\st<=ns.length/\ns.length<st+f/\σ'=[some (.ref a),some (.ref rl),some (.int (st:Int)),some (HW st (j2 (ns.drop st)))]/\aD H H'/\
   H' rl=some (.lst xs)/\aW H' ds xs/\cW ds=true/\ds.length<=st/\cA (ns.length+1) ns=(cA f (ns.drop st)).map fun r=>(ds++r.1,r.2),fun _ _ h=>h,?_⟩
  refine⟨_,rfl,.inl ⟨rfl,_,SqL.of g3⟩,?_⟩
  refine⟨_,rfl,_,rfl,_,rfl,_,rfl,_,rfl,Af (S3 _ _ ha) fun b H4 S4 g4=>?_⟩
  have ec:fN (ns.map V.int) (some (st:Int)) (some ((st+e:Nat):Int))=((ns.drop st).take e).map V.int:=by
   rw[Fs (by omega) (by rw[length_map]; omega),<- List.map_drop,<- List.map_take,Nat.add_sub_cancel_left]
  rw[ec]at g4
  have er:cA (ns.length+1) ns=Option.map (fun(r:Hr × Nat)=>(ds++r.1,r.2)) (match i3 ((ns.drop st).take e) with
   | none=>none
   | some d=>Option.map (fun r=>(d::r.1,r.2)) (cA f ((ns.drop st).drop e))):=er
  have le:((ns.drop st).take e).length=e:=by rw[length_take,ldr]; omega
  have h262:e<=262:=by
   have h6:st+6<ns.length:=by omega
   have b6:=bo _ (yF h6)
   unfold j2 at he
   rw[ldr,oE,if_neg (by omega)]at he
   split at he
   ·have:=Option.some.inj he
    omega
   ·cases he
  refine⟨b,_,rfl,g4,by rw[le]; omega,by rw[le]; omega,fun d' hd' p H5 S5 dp=>?_,fun hn H5 S5=>?_⟩
  ·rw[hd']at er
   have S35:aD H3 H5:=S4.trans S5
   refine⟨rl,xs,.ref p,rfl,rfl,S35 _ _ g3,?_,?_⟩
   ·rw[dn.length]
    omega
   have N5:=tH (zs:=xs++[.ref p]) (S35 _ _ g3)
   have S6:aD H (upd H5 rl (.lst (xs++[.ref p]))):=C7 hrl0 (S3.trans S35)
   have D6:aW (upd H5 rl (.lst (xs++[.ref p]))) (ds++[d']) (xs++[.ref p]):=((dn.same S35).n N5 td).app (yK (dp.n N5 (tX hd')))
   have g6:upd H5 rl (.lst (xs++[.ref p])) rl=some (.lst (xs++[.ref p])):=aC
   generalize upd H5 rl (.lst (xs++[.ref p]))=H6 at S6 D6 g6 ⊢
   refine⟨_,rfl,_,rfl,_,rfl,a,ns,st+e,rfl,S6 _ _ ha,bo,by omega,?_⟩
   refine⟨_,?_,st+e,f,ds++[d'],xs++[.ref p],rfl,by omega,by omega,rfl,S6,g6,D6,sV td ?_,?_,?_⟩
   ·omega
   ·show (iU d' && true)=true
    rw[tX hd']
    rfl
   ·rw[length_append]
    show _+1<=_
    omega
   ·rw[er,List.drop_drop]
    cases cA f (ns.drop (st+e)) with
    | none=>rfl
    | some r=>simp
  ·rw[hn]at er
   exact qe er H5 (S3.trans (S4.trans S5))
end
mutual
def gZ:PyData->Bool
 | .none | .bool _ | .int _=>true
 | .str x=>PyData.strOk x
 | .tuple ds=>jV ds
 | .list ds=>jV ds
 | .dict _=>false
def jV:Hr->Bool
 | []=>true
 | d::ds=>gZ d && jV ds
end
mutual
def m6:∀ {d:PyData},gZ d=true->PyData.eqv d d=true
 | .none,_=>rfl
 | .bool b,_=>by cases b <;> rfl
 | .int i,_=>by simp [PyData.eqv]
 | .str x,_=>by simp [PyData.eqv]
 | .tuple ds,h=>by
  simp only[gZ]at h
  simp only[PyData.eqv]
  exact oG h
 | .list ds,h=>by
  simp only[gZ]at h
  simp only[PyData.eqv]
  exact oG h
 | .dict _,h=>by simp [gZ]at h
def oG:∀ {ds:Hr},jV ds=true->PyData.eqvAll ds ds=true
 | [],_=>rfl
 | d::ds,h=>by
  simp only[jV,and_eq_true]at h
  simp only[PyData.eqvAll]
  rw[m6 h.1,oG h.2]
  rfl
end
mutual
def A6:∀ {d:PyData},gZ d=true->PyData.canLay0 d=true
 | .none,_=>rfl
 | .bool b,_=>rfl
 | .int i,_=>rfl
 | .str x,h=>by
  simp only[gZ]at h
  simp only[PyData.canLay0]
  exact h
 | .tuple ds,h=>by
  simp only[gZ]at h
  simp only[PyData.canLay0]
  exact rH h
 | .list ds,h=>by
  simp only[gZ]at h
  simp only[PyData.canLay0]
  exact rH h
 | .dict _,h=>by simp [gZ]at h
def rH:∀ {ds:Hr},jV ds=true->PyData.canLayAll0 ds=true
 | [],_=>rfl
 | d::ds,h=>by
  simp only[jV,and_eq_true]at h
  simp only[PyData.canLayAll0]
  rw[A6 h.1,rH h.2]
  rfl
end
def oH:∀ {ds:Hr},(∀ d∈ds,PyData.depth d<=n)->PyData.depthAll ds<=n
 | [],_=>zero_le _
 | d::ds,h=>by
  simp only[PyData.depthAll]
  exact Nat.max_le.mpr ⟨h d (by simp),oH fun x hx=>h x (by simp [hx])⟩
def qH:∀ {ds:Hr},(∀ d∈ds,gZ d=true)->jV ds=true
 | [],_=>rfl
 | d::ds,h=>by
  simp only[jV]
  rw[h d (by simp),qH fun x hx=>h x (by simp [hx])]
  rfl
def C6 (ns:Hm):jV (ns.map .int)=true:=qH fun d hd=>by
 rw[mem_map]at hd
 obtain⟨i,_,rfl⟩:=hd
 rfl
def gR (h:gZ d=true) (hd:PyData.depth d<=64):SeqAt.shaped d=true:=by
 unfold SeqAt.shaped
 rw[A6 h,decide_eq_true hd]
 rfl
def Ed:bootBuiltins "max" = some (.builtin "max"):=by decide +kernel
def oJ:bootBuiltins "sorted" = some (.builtin "sorted"):=by decide +kernel
def hu1 (h:a+64<c):a+1<c:=by omega
abbrev Ent:=Hm × Int × Int
abbrev Hx:=List (Int × Ent)
def gP (k:Str) (n:Int) (ns:Hm):PyData:=.tuple [.str k,.int n,.tuple (ns.map .int)]
structure Bk where
 es:Hx
 up:Int
 parts:List (Int × Hm)
def fY (es:Hx) (n:Int):Option Ent:=(es.find? fun p=>decide (p.1=n)).map (·.2)
def j1 (es:Hx) (n:Int) (e:Ent):Hx:=if (es.any fun p=>decide (p.1=n))=true then es.map (fun p=>if p.1=n then (p.1,e) else p) else es++[(n,e)]
def kO (es:Hx) (n:Int):Hx:=es.filter fun p=>decide (p.1≠n)
def kC (B:Bk) (n:Int) (body:Hm) (seg:Int):Option Bk:=if n<B.up then none else some ⟨j1 B.es n (body,0,seg),n+1,B.parts⟩
def o9 (seg:Int):Bk->List (Int × Hm)->Option Bk
 | B,[]=>some B
 | B,p::ps=>match kC B p.1 p.2 seg with
  | none=>none
  | some B'=>o9 seg B' ps
def uK (B:Bk) (n m:Int) (seg:Int):Option Bk:=if B.parts.map (·.1)=(List.range m.toNat).map (fun(k:Nat)=>n+(k:Int)) then o9 seg ⟨B.es,B.up,[]⟩ B.parts else none
def Dt (i j:Int):Int:=if j > i then j else i
def c8 (B:Bk) (k:Str) (n:Int) (body:Hm) (seg:Int):Option Bk:=
 if k = "part" then some ⟨B.es,B.up,B.parts++[(n,body)]⟩
 else if k = "deal" then uK B n (body.getD 0 0) seg
 else if B.parts≠[] then none
 else if k = "put" then kC B n body seg
 else if k = "from" then some ⟨B.es,Dt B.up n,B.parts⟩
 else if k = "carried" then some ⟨j1 B.es n (body.drop 1,body.getD 0 0,seg),Dt B.up (n+1),B.parts⟩
 else match fY B.es n with
  | none=>some B
  | some e=>if k = "out" then some ⟨j1 B.es n (e.1,e.2.1+1,e.2.2),B.up,B.parts⟩ else if k = "new" then some ⟨j1 B.es n (e.1,0,e.2.2),B.up,B.parts⟩ else some ⟨kO B.es n,B.up,B.parts⟩
def i4 (es:Hx) (n:Int) (e:Ent):(j1 es n e).length<=es.length+1:=by
 unfold j1
 split
 ·rw[length_map]
  omega
 ·rw[length_append]
  exact le_refl _
def gB (H H':Hp):Prop:=∀ b xs,H b=some (.tup xs)->H' b=some (.tup xs)
def aD.tup (s:aD H H'):gB H H':=fun b xs e=>s b _ e
def gB.trans (a:gB H H1) (b:gB H1 H2):gB H H2:=fun c xs e=>b c xs (a c xs e)
mutual
def BI (e:gB H H'):∀ {d:PyData} {v:V},iU d=true->Den H d v->Den H' d v
 | .none,v,t,h=>by simp only[Den]at h ⊢; exact h
 | .bool b,v,t,h=>by simp only[Den]at h ⊢; exact h
 | .int i,v,t,h=>by simp only[Den]at h ⊢; exact h
 | .str x,v,t,h=>by simp only[Den]at h ⊢; exact h
 | .tuple ds,v,t,h=>by
  simp only[Den]at h ⊢
  simp only[iU]at t
  obtain⟨a,xs,e1,h1,h2⟩:=h
  exact⟨a,xs,e1,e _ _ h1,jR e t h2⟩
 | .list ds,v,t,h=>by simp [iU]at t
 | .dict _,v,t,h=>by simp only[Den]at h
def jR (e:gB H H'):∀ {ds:Hr} {xs:Hw},cW ds=true->aW H ds xs->aW H' ds xs
 | [],xs,t,h=>by simp only[aW]at h ⊢; exact h
 | d::ds,xs,t,h=>by
  simp only[aW]at h ⊢
  simp only[cW,and_eq_true]at t
  obtain⟨x,r,e1,h1,h2⟩:=h
  exact⟨x,r,e1,BI e t.1 h1,jR e t.2 h2⟩
end
inductive i7 (H:Hp) (v:V) (e:Ent):Prop
 | mk:∀ t b,v = .ref t->H t=some (.tup [.ref b,.int e.2.1,.int e.2.2])->H b=some (.tup (e.1.map V.int))->i7 H v e
def i7.t (s:gB H H') (h:i7 H v e):i7 H' v e:=by
 obtain⟨t,b,e1,h1,h2⟩:=h
 exact⟨t,b,e1,s _ _ h1,s _ _ h2⟩
def EsR (H:Hp):Hx->Hu->Prop
 | [],[]=>True
 | p::es,q::kvs=>q.1=Sum.inl p.1/\i7 H q.2 p.2/\EsR H es kvs
 | _,_=>False
def EsR.t (s:gB H H'):∀ {es:Hx} {kvs:Hu},EsR H es kvs->EsR H' es kvs
 | [],[],_=>trivial
 | p::es,q::kvs,h=>⟨h.1,h.2.1.t s,EsR.t s h.2.2⟩
 | [],_::_,h=>h.elim
 | _::_,[],h=>h.elim
def EsR.len:∀ {es:Hx} {kvs:Hu},EsR H es kvs->kvs.length=es.length
 | [],[],_=>rfl
 | p::es,q::kvs,h=>by rw[length_cons,length_cons,EsR.len h.2.2]
 | [],_::_,h=>h.elim
 | _::_,[],h=>h.elim
def EsR.keys:∀ {es:Hx} {kvs:Hu},EsR H es kvs->kvs.map (·.1)=(es.map (·.1)).map Sum.inl
 | [],[],_=>rfl
 | p::es,q::kvs,h=>by rw[map_cons,map_cons,map_cons,h.1,EsR.keys h.2.2]
 | [],_::_,h=>h.elim
 | _::_,[],h=>h.elim
def vZ:((Sum.inl a:Key)=Sum.inl b) ↔ a=b:=⟨Sum.inl.inj,fun h=>by rw[h]⟩
def EsR.val:∀ {es:Hx} {kvs:Hu},EsR H es kvs->(match fY es n with | none=>eE kvs (Sum.inl n)=none | some e=>∃ v,eE kvs (Sum.inl n)=some v/\i7 H v e)
 | [],[],_=>rfl
 | p::es,q::kvs,h=>by
  obtain⟨h1,h2,h3⟩:=h
  have ih:=EsR.val (n:=n) h3
  by_cases e:p.1=n
  ·have:fY (p::es) n=some p.2:=by simp [fY,e]
   rw[this]
   exact⟨q.2,iS (by rw[h1,e]),h2⟩
  ·have e1:fY (p::es) n=fY es n:=by simp [fY,e]
   have e2:eE (q::kvs) (Sum.inl n)=eE kvs (Sum.inl n):=iT (by rw[h1,vZ]; exact e)
   rw[e1,e2]
   exact ih
 | [],_::_,h=>h.elim
 | _::_,[],h=>h.elim
def EsR.any:∀ {es:Hx} {kvs:Hu},EsR H es kvs->(kvs.any fun kv=>decide (kv.1=Sum.inl n))=(es.any fun p=>decide (p.1=n))
 | [],[],_=>rfl
 | p::es,q::kvs,h=>by
  obtain⟨h1,h2,h3⟩:=h
  rw[any_cons,any_cons,EsR.any h3,h1]
  congr 1
  exact decide_eq_decide.mpr vZ
 | [],_::_,h=>h.elim
 | _::_,[],h=>h.elim
def EsR.mapP (hv:i7 H v e):∀ {es:Hx} {kvs:Hu},EsR H es kvs->EsR H (es.map fun p=>if p.1=n then (p.1,e) else p) (kvs.map fun kv=>if kv.1=Sum.inl n then (kv.1,v) else kv)
 | [],[],_=>trivial
 | p::es,q::kvs,h=>by
  obtain⟨h1,h2,h3⟩:=h
  rw[map_cons,map_cons]
  by_cases z:p.1=n
  ·rw[if_pos z,if_pos (show q.1=Sum.inl n by rw[h1,z])]
   exact⟨h1,hv,EsR.mapP hv h3⟩
  ·rw[if_neg z,if_neg (show ¬ q.1=Sum.inl n by rw[h1,vZ]; exact z)]
   exact⟨h1,h2,EsR.mapP hv h3⟩
 | [],_::_,h=>h.elim
 | _::_,[],h=>h.elim
def EsR.snoc (hv:i7 H v e):∀ {es:Hx} {kvs:Hu},EsR H es kvs->EsR H (es++[(n,e)]) (kvs++[(Sum.inl n,v)])
 | [],[],_=>⟨rfl,hv,trivial⟩
 | p::es,q::kvs,h=>⟨h.1,h.2.1,EsR.snoc hv h.2.2⟩
 | [],_::_,h=>h.elim
 | _::_,[],h=>h.elim
def EsR.put (h:EsR H es kvs) (hv:i7 H v e):EsR H (j1 es n e) (iA kvs (Sum.inl n) v):=by
 unfold j1 iA
 rw[h.any]
 by_cases z:(es.any fun p=>decide (p.1=n))=true
 ·rw[if_pos z,if_pos z]
  exact h.mapP hv
 ·rw[if_neg z,if_neg z]
  exact h.snoc hv
def EsR.drop:∀ {es:Hx} {kvs:Hu},EsR H es kvs->EsR H (kO es n) (hX kvs (Sum.inl n))
 | [],[],_=>trivial
 | p::es,q::kvs,h=>by
  obtain⟨h1,h2,h3⟩:=h
  have ih:=EsR.drop (n:=n) h3
  by_cases z:p.1=n
  ·have e1:kO (p::es) n=kO es n:=by simp [kO,z]
   rw[e1,uH (by rw[h1,z])]
   exact ih
  ·have e1:kO (p::es) n=p::kO es n:=by simp [kO,z]
   rw[e1,uI (by rw[h1,vZ]; exact z)]
   exact⟨h1,h2,ih⟩
 | [],_::_,h=>h.elim
 | _::_,[],h=>h.elim
def eP (ps:List (Int × Hm)):Hr:=ps.map fun p=>gP "part" p.1 p.2
def mT (k:Str) (n:Int) (ns:Hm):iU (gP k n ns)=true:=by
 have tl:∀ l:Hm,cW (l.map PyData.int)=true:=by
  intro l
  induction l with
  | nil=>rfl
  | cons x l ih=>exact ih
 unfold gP
 simp only[iU,cW,Bool.true_and,Bool.and_true]
 exact tl ns
def gU:∀ ps:List (Int × Hm),cW (eP ps)=true
 | []=>rfl
 | p::ps=>by
  show (iU (gP "part" p.1 p.2) && cW (eP ps))=true
  rw[mT,gU ps]
  rfl
def bkF (de dp:Addr) (up:Int):Hv:=[("entries",.ref de),("upcoming",.int up),("parts",.ref dp)]
structure BookAt (C:Addr) (H:Hp) (bk de dp:Addr) (B:Bk):Prop where
 self:∃ dx,H bk=some (.ins C dx (bkF de dp B.up))
 ent:∃ kvs,H de=some (.dK kvs)/\EsR H B.es kvs
 par:∃ ps,H dp=some (.lst ps)/\aW H (eP B.parts) ps
def Frm (bk de dp:Addr) (H H':Hp):Prop:=∀ b o,H b=some o->b≠bk->b≠de->b≠dp->H' b=some o
def Frm.refl (bk de dp:Addr) (H:Hp):Frm bk de dp H H:=fun _ _ e _ _ _=>e
def Frm.trans (a:Frm bk de dp H H1) (b:Frm bk de dp' H1 H2) (hd:dp'=dp\/H dp'=none):Frm bk de dp H H2:=fun c o e h1 h2 h3=>by
 refine b c o (a c o e h1 h2 h3) h1 h2 ?_
 rintro rfl
 rcases hd with rfl | hd
 ·exact h3 rfl
 ·rw[hd]at e
  cases e
def aD.frm (s:aD H H'):Frm bk de dp H H':=fun b o e _ _ _=>s b o e
def BookAt.tup (h:BookAt C H bk de dp B) (f:Frm bk de dp H H'):gB H H':=fun b xs e=>by
 obtain⟨dx,h1⟩:=h.self
 obtain⟨kvs,h2,_⟩:=h.ent
 obtain⟨ps,h3,_⟩:=h.par
 exact f b _ e (by rintro rfl; rw[h1]at e; cases e) (by rintro rfl; rw[h2]at e; cases e) (by rintro rfl; rw[h3]at e; cases e)
def BookAt.same (h:BookAt C H bk de dp B) (s:aD H H'):BookAt C H' bk de dp B:=by
 obtain⟨dx,h1⟩:=h.self
 obtain⟨kvs,h2,h3⟩:=h.ent
 obtain⟨ps,h4,h5⟩:=h.par
 exact⟨⟨dx,s _ _ h1⟩,⟨kvs,s _ _ h2,h3.t (aD.tup s)⟩,⟨ps,s _ _ h4,h5.same s⟩⟩
def BookAt.ne (h:BookAt C H bk de dp B):bk≠de/\bk≠dp/\de≠dp:=by
 obtain⟨dx,h1⟩:=h.self
 obtain⟨kvs,h2,h3⟩:=h.ent
 obtain⟨ps,h4,h5⟩:=h.par
 refine⟨?_,?_,?_⟩
 ·rintro rfl
  rw[h1]at h2
  cases h2
 ·rintro rfl
  rw[h1]at h4
  cases h4
 ·rintro rfl
  rw[h2]at h4
  cases h4
def l9 (h:H a=some o) (hn:∀ xs,o ≠ .tup xs):gB H (upd H a o'):=fun b xs e=>by
 rw[aE (fun z=>by rw[z,h]at e; exact hn xs (Option.some.inj e))]
 exact e
def rY (h:BookAt C H bk de dp B) (hr:EsR H es' kvs'):BookAt C (upd H de (.dK kvs')) bk de dp ⟨es',B.up,B.parts⟩:=by
 obtain⟨n1,n2,n3⟩:=h.ne
 obtain⟨dx,h1⟩:=h.self
 obtain⟨kvs,h2,h3⟩:=h.ent
 obtain⟨ps,h4,h5⟩:=h.par
 have t:=l9 (o':=.dK kvs') h2 (fun xs z=>by cases z)
 exact⟨⟨dx,by rw[aE n1]; exact h1⟩,⟨kvs',aC,hr.t t⟩,⟨ps,by rw[aE (Ne.symm n3)]; exact h4,jR t (gU _) h5⟩⟩
def pN (h:BookAt C H bk de dp B) (u:Int) (h4:H dp'=some (.lst ps)) (h5:aW H (eP parts) ps):BookAt C (upd H bk (.ins C dx (bkF de dp' u))) bk de dp' ⟨B.es,u,parts⟩:=by
 obtain⟨n1,n2,n3⟩:=h.ne
 obtain⟨dx0,h1⟩:=h.self
 obtain⟨kvs,h2,h3⟩:=h.ent
 have t:=l9 (o':=.ins C dx (bkF de dp' u)) h1 (fun xs z=>by cases z)
 have n4:dp'≠bk:=by
  rintro rfl
  rw[h1]at h4
  cases h4
 exact⟨⟨dx,aC⟩,⟨kvs,by rw[aE (Ne.symm n1)]; exact h2,h3.t t⟩,⟨ps,by rw[aE n4]; exact h4,jR t (gU _) h5⟩⟩
def HZ (h:BookAt C H bk de dp B) (h5:aW H (eP parts) ps):BookAt C (upd H dp (.lst ps)) bk de dp ⟨B.es,B.up,parts⟩:=by
 obtain⟨n1,n2,n3⟩:=h.ne
 obtain⟨dx0,h1⟩:=h.self
 obtain⟨kvs,h2,h3⟩:=h.ent
 obtain⟨ps0,h4,_⟩:=h.par
 have t:=l9 (o':=.lst ps) h4 (fun xs z=>by cases z)
 exact⟨⟨dx0,by rw[aE n2]; exact h1⟩,⟨kvs,by rw[aE n3]; exact h2,h3.t t⟩,⟨ps,aC,jR t (gU _) h5⟩⟩
def v6:Frm bk de dp H (upd H bk o):=fun b u e h1 _ _=>by rw[aE h1]; exact e
def rO:Frm bk de dp H (upd H de o):=fun b u e _ h1 _=>by rw[aE h1]; exact e
def HU:Frm bk de dp H (upd H dp o):=fun b u e _ _ h1=>by rw[aE h1]; exact e
def zQ:cD "parts" (.ref dp') (bkF de dp u)=bkF de dp' u:=rfl
structure TxtK (K:Hh) (mg:Hj) (aa9 aa1 aa3 aa7:Addr):Prop extends TxtR K mg aa9 aa1 where
 aq1:mg "list" = none
 bf4:mg "max" = none
 aj2:mg "sorted" = none
 ae2:cR K aa3=true
 an8:mg "Broken" = some (.ref aa3)
 cl:Cls K aa7
 ac4:cO K aa7 "entries"
 ab3:cO K aa7 "upcoming"
 am5:cO K aa7 "parts"
abbrev DD:Stmt:=bJ (top 36) 0
abbrev An:Stmt:=bJ (top 36) 1
abbrev oU:Stmt:=bJ (top 36) 2
abbrev mL:Stmt:=bJ (top 36) 3
abbrev xI:Stmt:=bJ (top 36) 4
abbrev xG:Stmt:=bJ (top 36) 5
abbrev tR:Stmt:=bJ (top 36) 6
inductive gK (C:Addr) (aa3:Addr) (vs:Hw) (H:Hp) (Q:VK) (E:XK):Prop
 | mk:∀ (bk de dp b:Addr) (B:Bk) (n seg:Int) (body:Hm),vs=[.ref bk,.int n,.ref b,.int seg]->BookAt C H bk de dp B->H b=some (.tup (body.map V.int))->B.es.length<1000->(∀ B',kC B n body seg=some B'->∀ H',Frm bk de dp H H'->BookAt C H' bk de dp B'->Q .non H')->(kC B n body seg=none->∀ H',Frm bk de dp H H'->E (.ref aa3) none H')->gK C aa3 vs H Q E
inductive nQ (C:Addr) (vs:Hw) (H:Hp) (Q:VK) (x_3:XK):Prop
 | mk:∀ (bk de dp:Addr) (B:Bk) (k:Str) (n:Int) (e:Ent),vs=[.ref bk,.str k,.int n]->BookAt C H bk de dp B->fY B.es n=some e->B.es.length<1000->(∀ H',Frm bk de dp H H'->BookAt C H' bk de dp (if k = "out" then ⟨j1 B.es n (e.1,e.2.1+1,e.2.2),B.up,B.parts⟩ else if k = "new" then ⟨j1 B.es n (e.1,0,e.2.2),B.up,B.parts⟩ else ⟨kO B.es n,B.up,B.parts⟩)->Q .non H')->nQ C vs H Q x_3
def sN (n:Int) (e:Ent):PyData:=.tuple [.int n,.tuple (e.1.map .int),.int e.2.1]
inductive nP (C:Addr) (vs:Hw) (H:Hp) (Q:VK) (x_3:XK):Prop
 | mk:∀ (bk de dp:Addr) (B:Bk) (n:Int) (e:Ent),vs=[.ref bk,.int n]->BookAt C H bk de dp B->fY B.es n=some e->(∀ p H',aD H H'->Den H' (sN n e) (.ref p)->Q (.ref p) H')->nP C vs H Q x_3
def gA (h:k=x):decide (V.str k=V.str x)=true:=decide_eq_true (by rw[h])
def f9 (h:¬ k=x):decide (V.str k=V.str x)=false:=decide_eq_false (fun z=>h (V.str.inj z))
section
variable {P:Program} {w:World} {K:Hh} {mg:Hj} {base:Heap} {aa9 aa1 aa3 aa7:Addr}
def vT (F:Fun K "enter_put" "Book.enter_put" oU f fd) (T:(TxtK K mg aa9 aa1 aa3 aa7)):(FnOk P w K mg base (CXE P w)) 1 f fd ["self","number","body","segment"] (gK aa7 aa3):=by
 refine F.okY ["self","number","body","segment"] fun cdv A outer s H vs Q E hr nD0 h=>?_
 obtain⟨bk,de,dp,b,B,n,seg,body,rfl,hB,hb,hl,q,qe⟩:=h
 refine⟨_,aA (a6 (bA A0 (pv 1) (n5 (pv 0) ⋯) (bF _))
   (aB (dF eO ⋯ T.ae2 ⋯ T.an8 (aR cY aF)))
   aO)
  (aA (kZ (hu1 hr.units) (n5 (pv 0) ⋯) (pv 1) (bV (aJ (pv 2) (aR aG (aJ (pv 3) aF)))) ⋯)
  (aB (cS (pv 0) (aY cT (pv 1) aG) ⋯))),?_⟩
 obtain⟨dx,h1⟩:=hB.self
 refine⟨_,rfl,_,rfl,bk,_,dx,_,_,rfl,h1,T.cl,T.ab3,rfl,_,_,rfl,rfl,_,rfl,?_⟩
 show if decide (n<B.up)=true then _ else _
 unfold kC at q qe
 by_cases hn:n<B.up
 ·rw[if_pos (decide_eq_true hn)]
  rw[if_pos hn]at qe
  exact⟨(by show 1<=sizeLine; decide),qe rfl H (Frm.refl _ _ _ _)⟩
 rw[if_neg (by rw[decide_eq_true_eq]; exact hn)]
 rw[if_neg hn]at q
 refine bG rfl ?_
 refine⟨_,rfl,_,rfl,(by show 3<=sizeLine; decide),fun t ht=>?_⟩
 have S1:=aI (o:=.tup [.ref b,.int 0,.int seg]) ht
 generalize eH1:upd H t (.tup [.ref b,.int 0,.int seg])=H1 at S1 ⊢
 have g1:H1 t=some (.tup [.ref b,.int 0,.int seg]):=by rw[<- eH1]; exact aC
 have hB1:=hB.same S1
 obtain⟨kvs,h2,h3⟩:=hB1.ent
 have he:i7 H1 (.ref t) (body,0,seg):=⟨t,b,rfl,g1,S1 _ _ hb⟩
 have hkl:kvs.length<sizeLine:=by rw[h3.len]; exact lt_trans hl (by decide)
 refine⟨_,rfl,bk,_,dx,_,_,rfl,S1 _ _ h1,T.cl,T.ac4,rfl,_,rfl,de,_,rfl,sQ.k (k:=Sum.inl n) h2 hkl,?_⟩
 have hB2:=rY hB1 (h3.put (n:=n) he)
 have F2:Frm bk de dp H1 (upd H1 de (.dK (iA kvs (Sum.inl n) (.ref t)))):=rO
 generalize upd H1 de (.dK (iA kvs (Sum.inl n) (.ref t)))=H2 at hB2 F2 ⊢
 obtain⟨dx2,h12⟩:=hB2.self
 obtain⟨ps2,h42,h52⟩:=hB2.par
 refine⟨_,rfl,_,_,rfl,rfl,_,rfl,bk,_,dx2,_,rfl,h12,T.cl,T.ab3,(by show 3<1000; decide),?_⟩
 exact q _ rfl _ (((aD.frm S1).trans F2 (.inl rfl)).trans v6 (.inl rfl)) (pN hB2 (n+1) h42 h52)
def Bz (F:Fun K "change_entry" "Book.change_entry" xI f fd) (T:(TxtK K mg aa9 aa1 aa3 aa7)):(FnOk P w K mg base (CXE P w)) 1 f fd ["self","kind","number"] (nQ aa7):=by
 refine F.okY ["self","kind","number","entry"] fun cdv A outer s H vs Q E hr nD0 h=>?_
 obtain⟨bk,de,dp,B,k,n,e,rfl,hB,he,hl,q⟩:=h
 refine⟨_,aA (aT (i:=3) nD0 ⋯ ⋯ (Ax (hu1 hr.units) (n5 (pv 0) ⋯) (pv 2) (fun _ _=>rfl)))
  (aB (a6 (bA i6 (pv 1) cY (bF _))
   (aB (kZ (hu1 hr.units) (n5 (pv 0) ⋯) (pv 2) (bV (aP (dO (fE K) (pv 3) aG (fun _ _ => rfl)) (bM (aY cT (dO (fE K) (pv 3) aG (fun _ _ => rfl)) aG) (aP (dO (fE K) (pv 3) aG (fun _ _ => rfl)) aF)))) ⋯))
   (aB (a6 (bA i6 (pv 1) cY (bF _))
    (aB (kZ (hu1 hr.units) (n5 (pv 0) ⋯) (pv 2) (bV (aP (dO (fE K) (pv 3) aG (fun _ _ => rfl)) (aR aG (aP (dO (fE K) (pv 3) aG (fun _ _ => rfl)) aF)))) ⋯))
    (aB (bD (qY K PySem.F.plainAttrs_dict PySem.F.slot_dict_pop PySem.F.type_dict_pop A3 (n5 (pv 0) ⋯) (aJ (pv 2) aF)))))))),?_⟩
 obtain⟨dx,h1⟩:=hB.self
 obtain⟨kvs,h2,h3⟩:=hB.ent
 have hv:=h3.val (n:=n)
 rw[he]at hv
 obtain⟨v,hv1,t,b,rfl,gt,gb⟩:=hv
 have sq:SqT K H t [.ref b,.int e.2.1,.int e.2.2]:=SqT.of gt
 have dg:gC H de (.int n) (some (.ref t)):=by
  have:=gC.k (k:=Sum.inl n) h2
  rw[hv1]at this
  exact this
 have hkl:kvs.length<sizeLine:=by rw[h3.len]; exact lt_trans hl (by decide)
 refine⟨_,rfl,bk,_,dx,_,_,rfl,h1,T.cl,T.ac4,rfl,_,rfl,de,_,rfl,dg,?_⟩
 refine⟨_,rfl,rfl,_,rfl,?_⟩
 by_cases k1:k = "out"
 ·rw[if_pos k1]at q
  rw[gA k1]
  refine aV ?_
  refine⟨_,rfl,t,_,_,_,rfl,rfl,sq,bQ (j:=0) rfl,_,rfl,t,_,_,_,rfl,rfl,sq,bQ (j:=1) rfl,_,_,rfl,rfl,_,rfl,t,_,_,_,rfl,rfl,sq,bQ (j:=2) rfl,(by show 3<=sizeLine; decide),fun u hu=>?_⟩
  have S1:=aI (o:=.tup [.ref b,.int (e.2.1+1),.int e.2.2]) hu
  generalize eH1:upd H u (.tup [.ref b,.int (e.2.1+1),.int e.2.2])=H1 at S1 ⊢
  have g1:H1 u=some (.tup [.ref b,.int (e.2.1+1),.int e.2.2]):=by rw[<- eH1]; exact aC
  have hE:i7 H1 (.ref u) (e.1,e.2.1+1,e.2.2):=⟨u,b,rfl,g1,S1 _ _ gb⟩
  refine⟨_,rfl,bk,_,dx,_,_,rfl,S1 _ _ h1,T.cl,T.ac4,rfl,_,rfl,de,_,rfl,sQ.k (k:=Sum.inl n) (S1 _ _ h2) hkl,?_⟩
  exact q _ ((aD.frm S1).trans rO (.inl rfl)) (rY (hB.same S1) ((h3.t (aD.tup S1)).put hE))
 rw[if_neg k1]at q
 rw[f9 k1]
 refine a7 ⟨_,rfl,rfl,_,rfl,?_⟩
 by_cases k2:k = "new"
 ·rw[if_pos k2]at q
  rw[gA k2]
  refine aV ?_
  refine⟨_,rfl,t,_,_,_,rfl,rfl,sq,bQ (j:=0) rfl,_,rfl,t,_,_,_,rfl,rfl,sq,bQ (j:=2) rfl,(by show 3<=sizeLine; decide),fun u hu=>?_⟩
  have S1:=aI (o:=.tup [.ref b,.int 0,.int e.2.2]) hu
  generalize eH1:upd H u (.tup [.ref b,.int 0,.int e.2.2])=H1 at S1 ⊢
  have g1:H1 u=some (.tup [.ref b,.int 0,.int e.2.2]):=by rw[<- eH1]; exact aC
  have hE:i7 H1 (.ref u) (e.1,0,e.2.2):=⟨u,b,rfl,g1,S1 _ _ gb⟩
  refine⟨_,rfl,bk,_,dx,_,_,rfl,S1 _ _ h1,T.cl,T.ac4,rfl,_,rfl,de,_,rfl,sQ.k (k:=Sum.inl n) (S1 _ _ h2) hkl,?_⟩
  exact q _ ((aD.frm S1).trans rO (.inl rfl)) (rY (hB.same S1) ((h3.t (aD.tup S1)).put hE))
 rw[if_neg k2]at q
 rw[f9 k2]
 refine a7 ?_
 refine⟨_,rfl,bk,_,dx,_,_,rfl,h1,T.cl,T.ac4,rfl,.inr (.inr (.inl ⟨rfl,.inl ⟨kvs,h2⟩⟩)),_,rfl,de,kvs,Sum.inl n,_,rfl,rfl,h2,hv1,?_⟩
 exact q _ rO (rY hB h3.drop)
def Bx (F:Fun K "letter" "Book.letter" xG f fd) (T:(TxtK K mg aa9 aa1 aa3 aa7)):(FnOk P w K mg base (CXE P w)) 1 f fd ["self","number"] (nP aa7):=by
 refine F.okY ["self","number","entry"] fun cdv A outer s H vs Q E hr nD0 h=>?_
 obtain⟨bk,de,dp,B,n,e,rfl,hB,he,q⟩:=h
 refine⟨_,aA (aT (i:=2) nD0 ⋯ ⋯ (Ax (hu1 hr.units) (n5 (pv 0) ⋯) (pv 1) (fun _ _ => rfl)))
  (aB (aX (bV (aJ (pv 1) (aP (dO (fE K) (pv 2) aG (fun _ _=>rfl)) (aP (dO (fE K) (pv 2) aG (fun _ _=>rfl)) aF)))))),?_⟩
 obtain⟨dx,h1⟩:=hB.self
 obtain⟨kvs,h2,h3⟩:=hB.ent
 have hv:=h3.val (n:=n)
 rw[he]at hv
 obtain⟨v,hv1,t,b,rfl,gt,gb⟩:=hv
 have sq:SqT K H t [.ref b,.int e.2.1,.int e.2.2]:=SqT.of gt
 have dg:gC H de (.int n) (some (.ref t)):=by
  have:=gC.k (k:=Sum.inl n) h2
  rw[hv1]at this
  exact this
 refine⟨_,rfl,bk,_,dx,_,_,rfl,h1,T.cl,T.ac4,rfl,_,rfl,de,_,rfl,dg,?_⟩
 refine⟨_,rfl,_,rfl,t,_,_,_,rfl,rfl,sq,bQ (j:=0) rfl,_,rfl,t,_,_,_,rfl,rfl,sq,bQ (j:=1) rfl,(by show 3<=sizeLine; decide),fun p hp=>?_⟩
 have S1:=aI (o:=.tup [.int n,.ref b,.int e.2.1]) hp
 refine q p _ S1 ?_
 unfold sN
 simp only[Den,aW]
 exact⟨p,_,rfl,aC,_,_,rfl,rfl,_,_,rfl,⟨b,_,rfl,S1 _ _ gb,bO.mpr rfl⟩,_,_,rfl,rfl,rfl⟩
end
def CB (es:Hx) (n:Int):PyData:=sN n ((fY es n).getD ([],0,0))
inductive lR (C:Addr) (vs:Hw) (H:Hp) (Q:VK) (x_3:XK):Prop
 | mk:∀ (bk de dp:Addr) (B:Bk),vs=[.ref bk]->BookAt C H bk de dp B->(B.es.length<800/\(B.es.map (·.1)).Pairwise (· <= ·))->(∀ ms,List.Perm ms (B.es.map (·.1))->ms.Pairwise (· <= ·)->∀ p H',aD H H'->H p=none->Den H' (.list (ms.map (CB B.es))) (.ref p)->Q (.ref p) H')->lR C vs H Q x_3
inductive iN (C:Addr) (aa3:Addr) (vs:Hw) (H:Hp) (Q:VK) (E:XK):Prop
 | mk:∀ (bk de dp:Addr) (B:Bk) (n m seg:Int),vs=[.ref bk,.int n,.int m,.int seg]->BookAt C H bk de dp B->0<=n->n<=999999->0<=m->m<=9->B.es.length+B.parts.length<900->(∀ B',uK B n m seg=some B'->∀ dq H',Frm bk de dp H H'->H dq=none->BookAt C H' bk de dq B'->Q .non H')->(uK B n m seg=none->∀ H',Frm bk de dp H H'->E (.ref aa3) none H')->iN C aa3 vs H Q E
def yB (h:n∈es.map (·.1)):∃ e,fY es n=some e:=by
 induction es with
 | nil=>simp at h
 | cons p es ih=>
  by_cases e:p.1=n
  ·exact⟨p.2,by simp [fY,e]⟩
  ·have:n∈es.map (·.1):=by
    rw[map_cons,mem_cons]at h
    rcases h with h | h
    ·exact absurd h.symm e
    ·exact h
   obtain⟨x,hx⟩:=ih this
   exact⟨x,by simpa [fY,e] using hx⟩
def vW (n:Int) (e:Ent):iU (sN n e)=true:=by
 have tl:∀ l:Hm,cW (l.map PyData.int)=true:=by
  intro l
  induction l with
  | nil=>rfl
  | cons x l ih=>exact ih
 unfold sN
 simp only[iU,cW,Bool.true_and,Bool.and_true]
 exact tl _
def nE:∀ {H:Hp} {ds:Hr} {ys:Hw},ys.length=ds.length->(∀ (i:Nat) (y:V),ys[i]? = some y->∃ d,ds[i]? = some d/\Den H d y)->aW H ds ys
 | H,[],[],_,_=>by simp only[aW]
 | H,d::ds,y::ys,hl,h=>by
  simp only[aW]
  obtain⟨d',e,h1⟩:=h 0 y rfl
  cases (Option.some.inj e:d=d')
  exact⟨y,ys,rfl,h1,nE (by simpa using hl) fun i z hz=>h (i+1) z hz⟩
 | H,[],y::ys,hl,_=>by simp at hl
 | H,d::ds,[],hl,_=>by simp at hl
def uG (ns ms:Hm):PyData.eqv (.list (ns.map .int)) (.list (ms.map .int))=decide (ns=ms):=by
 show PyData.eqvAll _ _=_
 exact ked_eqvAll ns ms
def eY (ns:Hm):SeqAt.shaped (.list (ns.map .int))=true:=by
 unfold SeqAt.shaped
 have h1:PyData.canLay0 (.list (ns.map .int))=true:=rJ ns
 have h2:PyData.depth (.list (ns.map .int))=1:=by
  show PyData.depthAll (ns.map .int)+1=1
  rw[depth_ints]
 rw[h1,h2]
 rfl
def qR (seg:Int):∀ {ps:List (Int × Hm)} {B B':Bk},o9 seg B ps=some B'->B'.parts=B.parts
 | [],B,B',h=>by
  cases (Option.some.inj h:B=B')
  rfl
 | p::ps,B,B',h=>by
  unfold o9 at h
  cases e:kC B p.1 p.2 seg with
  | none=>rw[e]at h; cases h
  | some B1=>
   rw[e]at h
   have:=qR seg h
   rw[this]
   unfold kC at e
   split at e
   ·cases e
   ·cases (Option.some.inj e)
    rfl
section
variable {P:Program} {w:World} {K:Hh} {mg:Hj} {base:Heap} {aa9 aa1 aa3 aa7:Addr}
def AA (F:Fun K "letters" "Book.letters" tR f fd) (T:(TxtK K mg aa9 aa1 aa3 aa7)) (bf3:(Method P w K mg base) aa7 "letter" 1 ["self","number"] (nP aa7)):(FnOk P w K mg base (CXE P w)) 2 f fd ["self"] (lR aa7):=by
 refine F.okY ["self"] fun cdv A outer s H vs Q E hr nD0 h=>?_
 obtain⟨bk,de,dp,B,rfl,hB,hl,q⟩:=h
 refine⟨_,aB (aX (fB ["number"] [("self",0)] ⋯ (eM K (bE (wE ⋯) ⋯ T.aj2 oJ (gQ (n5 (pv 0) ⋯) aF))) (fun C s2 H2 ex=>(cH (i:=0) (show List.Nodup (["number","self"]:Ho) by decide +kernel) ⋯ (Or.inl ⋯))) (fun C s2 H2 ex => FK) (fun C s2 H2 ex=>(cP bf3 T.cl ((hr.mono (by decide))) bB (pv 1) (aJ (pv 0) aF))))),?_⟩
 obtain⟨dx,h1⟩:=hB.self
 obtain⟨kvs,h2,h3⟩:=hB.ent
 refine⟨_,rfl,bk,_,dx,_,_,rfl,h1,T.cl,T.ac4,rfl,de,kvs,_,rfl,h2,h3.keys,.inr hl.2,by rw[length_map]; omega,fun p ms perm pw hp=>?_⟩
 have S1:=aI (o:=.lst (ms.map .int)) hp
 generalize eH1:upd H p (.lst (ms.map .int))=H1 at S1 ⊢
 have g1:H1 p=some (.lst (ms.map .int)):=by rw[<- eH1]; exact aC
 have lm:(ms.map V.int).length=ms.length:=length_map _
 have pl:=perm.length_eq
 rw[length_map]at pl
 refine⟨p,rfl,⟨_,SqL.of g1⟩,?_⟩
 refine dH (eK (K:=K) (SqL.of g1)) ?zl (fun i y H'=>∃ n,ms[i]? = some n/\Den H' (CB B.es n) y) (fun i y H1 H2 s h=>by obtain⟨n,e,h⟩:=h; exact⟨n,e,h.n s (vW _ _)⟩) (fun σ=>∃ z,σ = [z,some (.ref bk)]) ?z0 ?_ ?_
 case zl=>
  rw[lm,pl]
  exact le_of_lt (lt_trans hl.1 (by decide))
 case z0=>exact⟨none,rfl⟩
 ·intro i x σc H3 hi hσ s3 hx Q' hQ'
  obtain⟨z,rfl⟩:=hσ
  rw[getElem?_map]at hx
  cases e:ms[i]? with
  | none=>rw[e]at hx; cases hx
  | some n=>
   rw[e]at hx
   cases hx
   have hin:n∈B.es.map (·.1):=perm.mem_iff.mp (mem_of_getElem? e)
   obtain⟨en,hen⟩:=yB hin
   have S13:aD H H3:=S1.trans s3
   refine⟨_,rfl,bk,dx,_,rfl,S13 _ _ h1,rfl,_,rfl,bk,de,dp,B,n,en,rfl,hB.same S13,hen,fun p4 H4 S4 d4=>?_⟩
   refine hQ' _ _ _ ⟨_,rfl⟩ S4 ⟨n,e,?_⟩
   unfold CB
   rw[hen]
   exact d4
 ·intro D ys H' hD s' hD' hlen hR
  refine q ms perm pw D H' (S1.trans s') (S1.free hD) ?_
  simp only[Den]
  refine⟨D,ys,rfl,hD',nE (by rw[length_map,hlen,lm]) fun i y e=>?_⟩
  obtain⟨n,e1,e2⟩:=hR i y e
  exact⟨_,by rw[getElem?_map,e1]; rfl,e2⟩
def sF (F:Fun K "enter_deal" "Book.enter_deal" mL f fd) (T:(TxtK K mg aa9 aa1 aa3 aa7)) (al9:(Method P w K mg base) aa7 "enter_put" 1 ["self","number","body","segment"] (gK aa7 aa3)):(FnOk P w K mg base (CXE P w)) 2 f fd ["self","number","many","segment"] (iN aa7 aa3):=by
 refine F.okY ["self","number","many","segment","parts","part"] fun cdv A outer s H vs Q E hr nD0 h=>?_
 obtain⟨bk,de,dp,B,n,m,seg,rfl,hB,n0,n9,m0,m9,hl,q,qe⟩:=h
 refine⟨_,aA (aT (i:=4) nD0 ⋯ ⋯ (n5 (pv 0) ⋯))
  (aA (cS (pv 0) (gI aF) ⋯)
  (aA (a6 (bA (vM hr.units) (fB ["part"] [] ⋯ (eM K (pv 4)) (fun C s2 H2 ex=>(cH (i:=0) (show List.Nodup (["part"]:Ho) by decide +kernel) ⋯ (Or.inl ⋯))) (fun C s2 H2 ex => FK) (fun C s2 H2 ex=>(dO (fE K) (pv 0) aG (fun _ _ => rfl)))) (qV ⋯ ⋯ T.aq1 ⋯ T.ah0 (aJ (pv 1) (bM (aY cT (pv 1) (pv 2)) aF))) (bF _))
   (aB (dF eO ⋯ T.ae2 ⋯ T.an8 (aR cY aF)))
   aO)
  (aB (kD (sD hV) ⋯ (eM K (pv 4)) (cH (i:=5) nD0 ⋯ ⋯)
   (aB (bD (cP al9 T.cl ((hr.mono (by decide))) bK (pv 0) (aP (dO (fE K) (pv 5) aG (fun _ _ => rfl)) (aP (dO (fE K) (pv 5) aG (fun _ _ => rfl)) (aJ (pv 3) aF)))))))))),?_⟩
 obtain⟨dx,h1⟩:=hB.self
 obtain⟨ps,h4,h5⟩:=hB.par
 obtain⟨ne1,ne2,ne3⟩:=hB.ne
 refine⟨_,rfl,bk,_,dx,_,_,rfl,h1,T.cl,T.am5,rfl,?_⟩
 refine⟨(by show 0<=sizeLine; decide),fun dq hdq=>?_⟩
 have S1:=aI (o:=.lst []) hdq
 generalize eH1:upd H dq (.lst [])=H1 at S1 ⊢
 have g1:H1 dq=some (.lst []):=by rw[<- eH1]; exact aC
 refine⟨_,rfl,bk,_,dx,_,rfl,S1 _ _ h1,T.cl,T.am5,(by show 3<1000; decide),?_⟩
 have hB2:=pN (hB.same S1) (dx:=dx) B.up (parts:=[]) g1 (by simp only[eP,map_nil,aW])
 have F2:Frm bk de dp H (upd H1 bk (.ins aa7 dx (bkF de dq B.up))):=(aD.frm S1).trans v6 (.inl rfl)
 have g2:upd H1 bk (.ins aa7 dx (bkF de dq B.up)) dp=some (.lst ps):=by rw[aE (Ne.symm ne2)]; exact S1 _ _ h4
 have T2:gB H (upd H1 bk (.ins aa7 dx (bkF de dq B.up))):=hB.tup F2
 rw[zQ]
 generalize upd H1 bk (.ins aa7 dx (bkF de dq B.up))=H2 at hB2 F2 g2 T2 ⊢
 have d2:aW H2 (eP B.parts) ps:=jR T2 (gU _) h5
 have lp:ps.length=B.parts.length:=by rw[h5.length]; unfold eP; rw[length_map]
 have hdq0:dq≠dp:=fun z=>by rw[z,h4]at hdq; cases hdq
 refine⟨_,rfl,dp,rfl,⟨_,SqL.of g2⟩,?_⟩
 refine dH (eK (K:=K) (SqL.of g2)) ?zl (fun i y _=>∃ p,B.parts[i]? = some p/\y = .int p.1) (fun i y H1 H2 s h=>h) (fun σ=>σ.length=1) ?z0 ?_ ?_
 case zl=>
  rw[lp]
  exact le_of_lt (lt_trans (show _<900 by omega) (by decide))
 case z0=>rfl
 ·intro i x σc H3 hi hσ s3 hx Q' hQ'
  obtain⟨d,hd,dn⟩:=d2.get hx
  unfold eP at hd
  rw[getElem?_map]at hd
  cases e:B.parts[i]? with
  | none=>rw[e]at hd; cases hd
  | some pr=>
   rw[e]at hd
   cases (Option.some.inj hd:gP "part" pr.1 pr.2=d)
   have dn':=dn.same s3
   unfold gP at dn'
   simp only[Den,aW]at dn'
   obtain⟨t,xt,rfl,gt,y0,r0,f0,f1,y1,r1,f2,f3,y2,r2,f4,⟨pb,yb,f5,gb,db⟩,f6⟩:=dn'
   subst f6 f5 f4 f3 f2 f1 f0
   match σc,hσ with
   | [z],_=>
    refine⟨_,rfl,t,_,_,_,rfl,rfl,SqT.of gt,bQ (j:=1) rfl,?_⟩
    exact hQ' _ _ _ rfl (aD.refl _) ⟨pr,e,rfl⟩
 intro D ys H3 hD S3 g3 hlen hR
 have ey:ys=(B.parts.map (·.1)).map V.int:=by
  apply ext_getElem?
  intro i
  cases e:ys[i]? with
  | none=>
   have:ys.length<=i:=List.getElem?_eq_none_iff.mp e
   rw[getElem?_eq_none (by rw[length_map,length_map]; omega)]
  | some y=>
   obtain⟨p,e1,e2⟩:=hR i y e
   rw[getElem?_map,getElem?_map,e1,e2]
   rfl
 have hmz:(n+m - n).toNat=m.toNat:=by omega
 refine⟨_,rfl,_,rfl,_,rfl,_,_,rfl,rfl,n,n+m,rfl,⟨by omega,by omega,by omega,by omega⟩,le_trans (show _<=9 by omega) (by decide),fun p4 hp4=>?_⟩
 rw[hmz]
 have er:((List.range m.toNat).map fun(k:Nat)=>V.int (n+(k:Int)))=((List.range m.toNat).map fun(k:Nat)=>n+(k:Int)).map V.int:=by rw[map_map]; rfl
 rw[er]
 have S4:=aI (o:=.lst (((List.range m.toNat).map fun(k:Nat)=>n+(k:Int)).map V.int)) hp4
 generalize eH4:upd H3 p4 (.lst (((List.range m.toNat).map fun(k:Nat)=>n+(k:Int)).map V.int))=H4 at S4 ⊢
 have g4:H4 p4=some (.lst (((List.range m.toNat).map fun(k:Nat)=>n+(k:Int)).map V.int)):=by rw[<- eH4]; exact aC
 have dA:Den H4 (.list ((B.parts.map (·.1)).map .int)) (.ref D):=by
  simp only[Den]
  exact⟨D,ys,rfl,S4 _ _ g3,by rw[ey]; exact bO.mpr rfl⟩
 have dB:Den H4 (.list (((List.range m.toNat).map fun(k:Nat)=>n+(k:Int)).map .int)) (.ref p4):=by
  simp only[Den]
  exact⟨p4,_,rfl,g4,bO.mpr rfl⟩
 refine⟨_,_,dA,dB,eY _,eY _,_,rfl,?_⟩
 rw[uG]
 have F4:Frm bk de dp H H4:=F2.trans (aD.frm (S3.trans S4)) (.inl rfl)
 unfold uK at q qe
 by_cases hc:B.parts.map (·.1)=(List.range m.toNat).map fun(k:Nat)=>n+(k:Int)
 case neg=>
  rw[if_neg hc]at qe
  rw[decide_eq_false hc]
  exact aV ⟨(by show 1<=sizeLine; decide),qe rfl H4 F4⟩
 rw[if_pos hc]at q qe
 rw[decide_eq_true hc]
 refine a7 ?_
 refine bG rfl ?_
 have hB4:=hB2.same (S3.trans S4)
 have gd4:H4 dp=some (.lst ps):=S4 _ _ (S3 _ _ g2)
 have d4:aW H4 (eP B.parts) ps:=(d2.same S3).same S4
 refine⟨_,rfl,dp,rfl,⟨_,SqL.of gd4⟩,?_⟩
 have sq0:SqL K (fun a=>if a=dp then some (.lst ps) else none) dp ps:=SqL.of (if_pos rfl)
 refine fZ (H0:=fun a=>if a=dp then some (.lst ps) else none) (eK (K:=K) sq0) (fun i σ H'=>H' dp=some (.lst ps)/\gB H4 H'/\Frm bk de dp H H'/\i<=B.parts.length/\∃ Bi z5,BookAt aa7 H' bk de dq Bi/\Bi.es.length<=B.es.length+i/\o9 seg ⟨B.es,B.up,[]⟩ B.parts=o9 seg Bi (B.parts.drop i)/\σ = [some (.ref bk),some (.int n),some (.int m),some (.int seg),some (.ref dp),z5]) ?i0 ?kp ?_ ?_
 case i0=>exact⟨gd4,fun _ _ e=>e,F4,zero_le _,_,none,hB4,le_refl _,rfl,rfl⟩
 case kp=>
  intro i σ H' h b o e
  by_cases z:b=dp
  ·subst z
   have e:some (HO.lst ps)=some o:=by simpa using e
   rw[<- e]
   exact h.1
  ·have e:none=some o:=by simpa [z] using e
   cases e
 ·rintro i x σ H5 H6 hi ⟨gd5,t5,f5,hiL,Bi,z5,hBi,hle,hpu,rfl⟩ s6 hx
  obtain⟨d,hd,dn⟩:=d4.get hx
  unfold eP at hd
  rw[getElem?_map]at hd
  cases e:B.parts[i]? with
  | none=>rw[e]at hd; cases hd
  | some pr=>
   rw[e]at hd
   cases (Option.some.inj hd:gP "part" pr.1 pr.2=d)
   have dn':=BI (t5.trans (aD.tup s6)) (mT _ _ _) dn
   unfold gP at dn'
   simp only[Den,aW]at dn'
   obtain⟨t,xt,rfl,gt,y0,r0,f0,f1,y1,r1,f2,f3,y2,r2,f4,⟨pb,yb,f5',gb,db⟩,f6⟩:=dn'
   have eb:=bO.mp db
   subst eb f6 f5' f4 f3 f2 f1 f0
   have iL:i<B.parts.length:=(List.getElem?_eq_some_iff.mp e).1
   have ed:B.parts.drop i=pr::B.parts.drop (i+1):=by
    rw[drop_eq_getElem_cons iL]
    have:=(List.getElem?_eq_some_iff.mp e).2
    rw[this]
   rw[ed]at hpu
   have hB6:=hBi.same s6
   obtain⟨dx6,h16⟩:=hB6.self
   refine⟨_,rfl,bk,dx6,_,rfl,h16,rfl,_,rfl,t,_,_,_,rfl,rfl,SqT.of gt,bQ (j:=1) rfl,_,rfl,t,_,_,_,rfl,rfl,SqT.of gt,bQ (j:=2) rfl,_,rfl,bk,de,dq,pb,Bi,pr.1,seg,pr.2,rfl,hB6,gb,by omega,fun B' hB' H7 f7 hB7=>?_,fun hn H7 f7=>?_⟩
   ·have hdq':dq=dp\/H dq=none:=.inr hdq
    have f67:Frm bk de dp H H7:=(f5.trans (aD.frm (dp:=dp) s6) (.inl rfl)).trans f7 hdq'
    refine⟨f7 _ _ (s6 _ _ gd5) (Ne.symm ne2) (fun z=>ne3 z.symm) (Ne.symm hdq0),(t5.trans (aD.tup s6)).trans (hB6.tup f7),f67,iL,B',_,hB7,?_,?_,rfl⟩
    ·unfold kC at hB'
     split at hB'
     ·cases hB'
     ·cases (Option.some.inj hB')
      have:=i4 Bi.es pr.1 (pr.2,0,seg)
      show (j1 Bi.es pr.1 (pr.2,0,seg)).length<=_
      omega
    ·rw[hpu]
     show (match kC Bi pr.1 pr.2 seg with | none=>none | some B'=>o9 seg B' (B.parts.drop (i+1)))=_
     rw[hB']
   ·refine qe ?_ H7 ((f5.trans (aD.frm (dp:=dp) s6) (.inl rfl)).trans f7 (.inr hdq))
    rw[hpu]
    show (match kC Bi pr.1 pr.2 seg with | none=>none | some B'=>o9 seg B' (B.parts.drop (i+1)))=none
    rw[hn]
 ·rintro σ H5 ⟨gd5,t5,f5,hiL,Bi,z5,hBi,hle,hpu,rfl⟩
  rw[lp,drop_of_length_le (le_refl _)]at hpu
  exact q Bi hpu dq H5 f5 hdq hBi
end
inductive mF (C:Addr) (aa3:Addr) (vs:Hw) (H:Hp) (Q:VK) (E:XK):Prop
 | mk:∀ (bk de dp pr:Addr) (B:Bk) (k:Str) (n seg:Int) (body:Hm),vs=[.ref bk,.ref pr,.int seg]->BookAt C H bk de dp B->Den H (gP k n body) (.ref pr)->aQ (gP k n body)=true->B.es.length+B.parts.length<900->(∀ B',c8 B k n body seg=some B'->∀ dq H',Frm bk de dp H H'->(dq=dp\/H dq=none)->BookAt C H' bk de dq B'->Q .non H')->(c8 B k n body seg=none->∀ H',Frm bk de dp H H'->E (.ref aa3) none H')->mF C aa3 vs H Q E
inductive u9 (C:Addr) (vs:Hw) (H:Hp) (Q:VK) (x_3:XK):Prop
 | mk:∀ (bk dx:Addr),vs=[.ref bk]->H bk=some (.ins C dx [])->(∀ de dp H',(∀ b o,H b=some o->b≠bk->H' b=some o)->H de=none->H dp=none->BookAt C H' bk de dp ⟨[],0,[]⟩->Q .non H')->u9 C vs H Q x_3
def Bg (h:aQ (gP k n body)=true):k∈bW/\0<=n/\n<=999999/\(k = "deal"->1<=body.length/\1<=body.getD 0 0/\body.getD 0 0<=9)/\(k = "carried"->1<=body.length)/\body.length<=61:=by
 unfold gP at h
 simp only[aQ,and_eq_true]at h
 obtain⟨h1,h2,h3,h4⟩:=h
 rw[dG]at h4
 simp only[bI,and_eq_true,decide_eq_true_eq]at h2
 refine⟨by simpa using h1,h2.1,h2.2,?_,?_,?_⟩
 ·rintro rfl
  unfold fF at h4
  rw[if_neg (by decide),if_neg (by decide),if_pos rfl]at h4
  simp only[and_eq_true,decide_eq_true_eq]at h4
  obtain⟨⟨l1,l2⟩,l3⟩:=h4
  match body,l1,l2,l3 with
  | [x],_,l2,l3=>exact⟨le_refl _,l2,l3⟩
 ·rintro rfl
  unfold fF at h4
  rw[if_neg (by decide),if_pos rfl]at h4
  simp only[and_eq_true,decide_eq_true_eq]at h4
  exact h4.1.1
 ·unfold fF at h4
  split at h4
  ·have:=of_decide_eq_true h4
   omega
  ·split at h4
   ·simp only[and_eq_true,decide_eq_true_eq]at h4
    omega
   ·split at h4
    ·simp only[and_eq_true,decide_eq_true_eq]at h4
     omega
    ·have:=of_decide_eq_true h4
     omega
def Cb (h:1<=xs.length):fN xs (some 1) none=xs.drop 1:=by
 unfold fN
 have e:HT.sIx xs.length 0 (some 1)=1:=(HT.iD xs.length 0 1).trans (min_eq_left h)
 rw[e,HT.mS,take_of_length_le (by rw[length_drop]; omega)]
section
variable {P:Program} {w:World} {K:Hh} {mg:Hj} {base:Heap} {aa9 aa1 aa3 aa7:Addr}
def Fa (F:Fun K "__init__" "Book.__init__" DD f fd) (T:(TxtK K mg aa9 aa1 aa3 aa7)):(FnOk P w K mg base (CXE P w)) 1 f fd ["self"] (u9 aa7):=by
 refine F.okY ["self"] fun cdv A outer s H vs Q E hr nD0 h=>?_
 obtain⟨bk,dx,rfl,h1,q⟩:=h
 refine⟨_,aA (cS (pv 0) qW ⋯)
  (aA (cS (pv 0) aG ⋯)
  (aB (cS (pv 0) (gI aF) ⋯))),?_⟩
 refine fun de hde=>?_
 have nde:bk≠de:=fun z=>by rw[z,hde]at h1; cases h1
 refine⟨_,rfl,bk,_,dx,_,rfl,by rw[aE nde]; exact h1,T.cl,T.ac4,(by show 0<1000; decide),?_⟩
 refine⟨_,rfl,bk,_,dx,_,rfl,aC,T.cl,T.ab3,(by show 1<1000; decide),?_⟩
 refine⟨(by show 0<=sizeLine; decide),fun dp hdp=>?_⟩
 generalize eH1:upd (upd (upd H de (.dK [])) bk (.ins aa7 dx (cD "entries" (.ref de) []))) bk (.ins aa7 dx (cD "upcoming" (.int 0) (cD "entries" (.ref de) [])))=H1 at hdp ⊢
 have k1:H1 bk=some (.ins aa7 dx (cD "upcoming" (.int 0) (cD "entries" (.ref de) []))):=by rw[<- eH1]; exact aC
 have k2:H1 de=some (.dK []):=by rw[<- eH1,aE (Ne.symm nde),aE (Ne.symm nde)]; exact aC
 have k3:∀ b o,H b=some o->b≠bk->H1 b=some o:=fun b o e nb=>by
  rw[<- eH1,aE nb,aE nb,aE (fun z=>by rw[z,hde]at e; cases e)]
  exact e
 have ndp:bk≠dp:=fun z=>by rw[<- z,k1]at hdp; cases hdp
 have nd2:de≠dp:=fun z=>by rw[<- z,k2]at hdp; cases hdp
 have hdp0:H dp=none:=by
  cases e:H dp with
  | none=>rfl
  | some o=>rw[k3 dp o e (Ne.symm ndp)]at hdp; cases hdp
 refine⟨_,rfl,bk,_,dx,_,rfl,by rw[aE ndp]; exact k1,T.cl,T.am5,(by show 2<1000; decide),?_⟩
 refine q de dp _ (fun b o e nb=>?_) hde hdp0 ⟨⟨dx,?_⟩,⟨[],?_,trivial⟩,⟨[],?_,by simp only[eP,map_nil,aW]⟩⟩
 ·rw[aE nb,aE (fun z=>by rw[z,hdp0]at e; cases e)]
  exact k3 b o e nb
 ·rw[aC]
  rfl
 ·rw[aE (Ne.symm nde),aE nd2]
  exact k2
 ·rw[aE (Ne.symm ndp)]
  exact aC
def Dj (F:Fun K "enter" "Book.enter" An f fd) (T:(TxtK K mg aa9 aa1 aa3 aa7)) (al9:(Method P w K mg base) aa7 "enter_put" 1 ["self","number","body","segment"] (gK aa7 aa3))
  (bc1:(Method P w K mg base) aa7 "enter_deal" 2 ["self","number","many","segment"] (iN aa7 aa3)) (ay3:(Method P w K mg base) aa7 "change_entry" 1 ["self","kind","number"] (nQ aa7)):(FnOk P w K mg base (CXE P w)) 3 f fd ["self","row","segment"] (mF aa7 aa3):=by
 refine F.okY ["self","row","segment","kind","number","body"] fun cdv A outer s H vs Q E hr nD0 h=>?_
 obtain⟨bk,de,dp,pr,B,k,n,seg,body,rfl,hB,hd,hrow,hl,q,qe⟩:=h
 refine⟨_,aA (aT (i:=3) nD0 ⋯ ⋯ (dO (fE K) (pv 1) aG (fun _ _ => rfl)))
  (aA (aT (i:=4) nD0 ⋯ ⋯ (dO (fE K) (pv 1) aG (fun _ _ => rfl)))
  (aA (aT (i:=5) nD0 ⋯ ⋯ (dO (fE K) (pv 1) aG (fun _ _ => rfl)))
  (aB (a6 (bA i6 (pv 3) cY (bF _))
   (aB (bD (qY K PySem.F.plainAttrs_list PySem.F.slot_list_append PySem.F.type_list_append lB (n5 (pv 0) ⋯) (aJ (pv 1) aF))))
   (aB (a6 (bA i6 (pv 3) cY (bF _))
    (aB (bD (cP bc1 T.cl ((hr.mono (by decide))) bK (pv 0) (aJ (pv 4) (aP (dO (fE K) (pv 5) aG (fun _ _ => rfl)) (aJ (pv 2) aF))))))
    (aB (a6 (hU K (n5 (pv 0) ⋯))
     (aB (dF eO ⋯ T.ae2 ⋯ T.an8 (aR cY aF)))
     (aB (a6 (bA i6 (pv 3) cY (bF _))
      (aB (bD (cP al9 T.cl ((hr.mono (by decide))) bK (pv 0) (aJ (pv 4) (aJ (pv 5) (aJ (pv 2) aF))))))
      (aB (a6 (bA i6 (pv 3) cY (bF _))
       (aB (cS (pv 0) (bE (uM ⋯) ⋯ T.bf4 Ed (gQ (n5 (pv 0) ⋯) (aJ (pv 4) aF))) ⋯))
       (aB (a6 (bA i6 (pv 3) cY (bF _))
        (aA (kZ (hu1 hr.units) (n5 (pv 0) ⋯) (pv 4) (bV (aP (fA (mH K) (pv 5) (fU aG) iE) (aP (dO (fE K) (pv 5) aG (fun _ _ => rfl)) (aJ (pv 2) aF)))) ⋯)
        (aB (cS (pv 0) (bE (uM ⋯) ⋯ T.bf4 Ed (gQ (n5 (pv 0) ⋯) (bM (aY cT (pv 4) aG) aF))) ⋯)))
        (aB (a6 (vG (DY (hu1 hr.units) (pv 4) (n5 (pv 0) ⋯)))
         (aB (bD (cP ay3 T.cl ((hr.mono (by decide))) bB (pv 0) (aJ (pv 3) (aJ (pv 4) aF)))))
         aO)))))))))))))))),?_⟩
 obtain⟨hk,n0,n9,hdeal,hcar,hbl⟩:=Bg hrow
 obtain⟨dx,h1⟩:=hB.self
 obtain⟨kvs,h2,h3⟩:=hB.ent
 obtain⟨ps,h4,h5⟩:=hB.par
 have hd':=hd
 unfold gP at hd'
 simp only[Den,aW]at hd'
 obtain⟨t,xt,et,gt,y0,r0,f0,f1,y1,r1,f2,f3,y2,r2,f4,⟨pb,yb,f5,gb,db⟩,f6⟩:=hd'
 have eb:=bO.mp db
 cases et
 subst eb f6 f5 f4 f3 f2 f1 f0
 have sq:SqT K H pr [.str k,.int n,.ref pb]:=SqT.of gt
 have sqb:SqT K H pb (body.map V.int):=SqT.of gb
 have lp:ps.length=B.parts.length:=by rw[h5.length]; unfold eP; rw[length_map]
 have hkl:kvs.length<sizeLine:=by rw[h3.len]; exact lt_trans (show _<900 by omega) (by decide)
 refine⟨_,rfl,pr,_,_,_,rfl,rfl,sq,bQ (j:=0) rfl,_,rfl,pr,_,_,_,rfl,rfl,sq,bQ (j:=1) rfl,_,rfl,pr,_,_,_,rfl,rfl,sq,bQ (j:=2) rfl,?_⟩
 unfold c8 at q qe
 refine⟨_,rfl,rfl,_,rfl,?_⟩
 by_cases k1:k = "part"
 ·rw[if_pos k1]at q
  rw[gA k1]
  refine aV ?_
  refine⟨_,rfl,bk,_,dx,_,_,rfl,h1,T.cl,T.am5,rfl,.inl ⟨rfl,_,SqL.of h4⟩,_,rfl,dp,_,_,rfl,rfl,h4,by rw[lp]; exact lt_trans (show _<900 by omega) (by decide),?_⟩
  refine q _ rfl dp _ HU (.inl rfl) (HZ hB ?_)
  show aW H (eP (B.parts++[(n,body)])) (ps++[.ref pr])
  unfold eP
  rw[map_append]
  refine h5.app (yK ?_)
  rw[<- k1]
  exact hd
 rw[if_neg k1]at q qe
 rw[f9 k1]
 refine a7 ⟨_,rfl,rfl,_,rfl,?_⟩
 by_cases k2:k = "deal"
 ·rw[if_pos k2]at q qe
  rw[gA k2]
  refine aV ?_
  obtain⟨b1,b2,b3⟩:=hdeal k2
  have at0:atI (body.map V.int) 0=some (.int (body.getD 0 0)):=by
   refine bQ (j:=0) ?_
   rw[getElem?_map,getD_eq_getElem?_getD,getElem?_eq_getElem (by omega)]
   rfl
  refine⟨_,rfl,bk,dx,_,rfl,h1,rfl,_,rfl,_,rfl,pb,_,_,_,rfl,rfl,sqb,at0,_,rfl,bk,de,dp,B,n,body.getD 0 0,seg,rfl,hB,n0,n9,by omega,b3,hl,fun B' hB' dq H' f' hq h'=>q B' hB' dq H' f' (.inr hq) h',fun hn H' f'=>qe hn H' f'⟩
 rw[if_neg k2]at q qe
 rw[f9 k2]
 refine a7 ?_
 refine⟨_,rfl,bk,_,dx,_,_,rfl,h1,T.cl,T.am5,rfl,dp,ps,rfl,SqL.of h4,?_⟩
 by_cases kp:B.parts=[]
 case neg=>
  rw[if_pos kp]at qe
  have:(!ps.isEmpty)=true:=by
   cases ps with
   | nil=>
    rw[length_nil]at lp
    exact absurd (length_eq_zero_iff.mp lp.symm) kp
   | cons _ _=>rfl
  rw[this]
  exact aV ⟨(by show 1<=sizeLine; decide),qe rfl H (Frm.refl _ _ _ _)⟩
 rw[if_neg (fun z=>z kp)]at q qe
 have:(!ps.isEmpty)=false:=by
  cases ps with
  | nil=>rfl
  | cons _ _=>
   rw[kp]at lp
   simp at lp
 rw[this]
 refine a7 ⟨_,rfl,rfl,_,rfl,?_⟩
 by_cases k3:k = "put"
 ·rw[if_pos k3]at q qe
  rw[gA k3]
  refine aV ?_
  refine⟨_,rfl,bk,dx,_,rfl,h1,rfl,_,rfl,_,rfl,_,rfl,bk,de,dp,pb,B,n,seg,body,rfl,hB,gb,by omega,fun B' hB' H' f' h'=>q B' hB' dp H' f' (.inl rfl) h',fun hn H' f'=>qe hn H' f'⟩
 rw[if_neg k3]at q qe
 rw[f9 k3]
 refine a7 ⟨_,rfl,rfl,_,rfl,?_⟩
 by_cases k4:k = "from"
 ·rw[if_pos k4]at q
  rw[gA k4]
  refine aV ?_
  refine⟨_,rfl,bk,_,dx,_,_,rfl,h1,T.cl,T.ab3,rfl,_,rfl,_,_,rfl,_,rfl,bk,_,dx,_,rfl,h1,T.cl,T.ab3,(by show 3<1000; decide),?_⟩
  exact q _ rfl dp _ v6 (.inl rfl) (pN hB (Dt B.up n) h4 h5)
 rw[if_neg k4]at q qe
 rw[f9 k4]
 refine a7 ⟨_,rfl,rfl,_,rfl,?_⟩
 by_cases k5:k = "carried"
 ·rw[if_pos k5]at q
  rw[gA k5]
  refine aV ?_
  have b1:=hcar k5
  have at0:atI (body.map V.int) 0=some (.int (body.getD 0 0)):=by
   refine bQ (j:=0) ?_
   rw[getElem?_map,getD_eq_getElem?_getD,getElem?_eq_getElem (by omega)]
   rfl
  refine⟨_,rfl,_,rfl,?_⟩
  dsimp only[uX]
  refine Af gb fun p5 H5 S5 g5=>?_
  rw[Cb (by rw[length_map]; exact b1),<- List.map_drop]at g5
  refine⟨_,rfl,pb,_,_,_,rfl,rfl,S5.seqT sqb,at0,_,rfl,(by show 3<=sizeLine; decide),fun u hu=>?_⟩
  have S6:=aI (o:=.tup [.ref p5,.int (body.getD 0 0),.int seg]) hu
  generalize eH6:upd H5 u (.tup [.ref p5,.int (body.getD 0 0),.int seg])=H6 at S6 ⊢
  have g6:H6 u=some (.tup [.ref p5,.int (body.getD 0 0),.int seg]):=by rw[<- eH6]; exact aC
  have S06:aD H H6:=S5.trans S6
  have hE:i7 H6 (.ref u) (body.drop 1,body.getD 0 0,seg):=⟨u,p5,rfl,g6,S6 _ _ g5⟩
  refine⟨_,rfl,bk,_,dx,_,_,rfl,S06 _ _ h1,T.cl,T.ac4,rfl,_,rfl,de,_,rfl,sQ.k (k:=Sum.inl n) (S06 _ _ h2) hkl,?_⟩
  have hB7:=rY (hB.same S06) ((h3.t (aD.tup S06)).put (n:=n) hE)
  have F7:Frm bk de dp H6 (upd H6 de (.dK (iA kvs (Sum.inl n) (.ref u)))):=rO
  generalize upd H6 de (.dK (iA kvs (Sum.inl n) (.ref u)))=H7 at hB7 F7 ⊢
  obtain⟨dx7,h17⟩:=hB7.self
  obtain⟨ps7,h47,h57⟩:=hB7.par
  refine⟨_,rfl,bk,_,dx7,_,_,rfl,h17,T.cl,T.ab3,rfl,_,rfl,_,_,rfl,rfl,_,_,rfl,_,rfl,bk,_,dx7,_,rfl,h17,T.cl,T.ab3,(by show 3<1000; decide),?_⟩
  exact q _ rfl dp _ (((aD.frm S06).trans F7 (.inl rfl)).trans v6 (.inl rfl)) (.inl rfl) (pN hB7 (Dt B.up (n+1)) h47 h57)
 rw[if_neg k5]at q qe
 rw[f9 k5]
 refine a7 ?_
 refine⟨_,rfl,_,rfl,bk,_,dx,_,_,rfl,h1,T.cl,T.ac4,rfl,de,_,rfl,gC.k (k:=Sum.inl n) h2,_,rfl,?_⟩
 have hv:=h3.val (n:=n)
 cases he:fY B.es n with
 | none=>
  rw[he]at hv q
  have hv:eE kvs (Sum.inl n)=none:=hv
  rw[hv]
  refine a7 ?_
  exact q B rfl dp H (Frm.refl _ _ _ _) (.inl rfl) hB
 | some e=>
  rw[he]at hv q
  obtain⟨v,hv1,_⟩:=hv
  rw[hv1]
  refine aV ?_
  refine⟨_,rfl,bk,dx,_,rfl,h1,rfl,_,rfl,_,rfl,bk,de,dp,B,k,n,e,rfl,hB,he,by omega,fun H' f' h'=>?_⟩
  refine q _ ?_ dp H' f' (.inl rfl) h'
  try dsimp only
  split
  ·rfl
  ·split <;> rfl
end
abbrev Rw:=Str × Int × Hm
abbrev Hy:=List Rw
def bT (r:Rw):PyData:=gP r.1 r.2.1 r.2.2
def bN (seg:Int):Bk->Hy->Option Bk
 | B,[]=>some B
 | B,r::rs=>match c8 B r.1 r.2.1 r.2.2 seg with
  | none=>none
  | some B'=>bN seg B' rs
def tZ (seg:Int):∀ {ps:List (Int × Hm)} {B B':Bk},o9 seg B ps=some B'->B'.es.length<=B.es.length+ps.length
 | [],B,B',h=>by
  cases (Option.some.inj h:B=B')
  exact le_refl _
 | p::ps,B,B',h=>by
  unfold o9 at h
  cases e:kC B p.1 p.2 seg with
  | none=>rw[e]at h; cases h
  | some B1=>
   rw[e]at h
   have h1:=tZ seg h
   unfold kC at e
   split at e
   ·cases e
   ·cases (Option.some.inj e)
    have:=i4 B.es p.1 (p.2,0,seg)
    rw[length_cons]
    have h1:B'.es.length<=(j1 B.es p.1 (p.2,0,seg)).length+ps.length:=h1
    omega
def rV (h:c8 B k n body seg=some B'):B'.es.length+B'.parts.length<=B.es.length+B.parts.length+1:=by
 unfold c8 at h
 split at h
 ·cases (Option.some.inj h)
  show B.es.length+(B.parts++[(n,body)]).length<=_
  rw[length_append]
  exact le_refl _
 ·split at h
  ·unfold uK at h
   split at h
   ·have h1:=tZ seg h
    have h2:=qR seg h
    rw[h2]
    have h1:B'.es.length<=B.es.length+B.parts.length:=h1
    show B'.es.length+0<=_
    omega
   ·cases h
  ·split at h
   ·cases h
   ·split at h
    ·unfold kC at h
     split at h
     ·cases h
     ·cases (Option.some.inj h)
      have:=i4 B.es n (body,0,seg)
      show (j1 B.es n (body,0,seg)).length+B.parts.length<=_
      omega
    ·split at h
     ·cases (Option.some.inj h)
      exact le_succ _
     ·split at h
      ·cases (Option.some.inj h)
       have:=i4 B.es n (body.drop 1,body.getD 0 0,seg)
       show (j1 B.es n (body.drop 1,body.getD 0 0,seg)).length+B.parts.length<=_
       omega
      ·split at h
       ·cases (Option.some.inj h)
        exact le_succ _
       ·rename_i e _
        split at h
        ·cases (Option.some.inj h)
         have:=i4 B.es n (e.1,e.2.1+1,e.2.2)
         show (j1 B.es n (e.1,e.2.1+1,e.2.2)).length+B.parts.length<=_
         omega
        ·split at h
         ·cases (Option.some.inj h)
          have:=i4 B.es n (e.1,0,e.2.2)
          show (j1 B.es n (e.1,0,e.2.2)).length+B.parts.length<=_
          omega
         ·cases (Option.some.inj h)
          have:(kO B.es n).length<=B.es.length:=List.length_filter_le _ _
          show (kO B.es n).length+B.parts.length<=_
          omega
def Ar (h:ds.all aQ=true):∃ rs:Hy,ds=rs.map bT/\∀ r∈rs,aQ (bT r)=true:=by
 induction ds with
 | nil=>exact⟨[],rfl,fun r hr=>absurd hr (by simp)⟩
 | cons d ds ih=>
  rw[all_cons,and_eq_true]at h
  obtain⟨rs,e,hr⟩:=ih h.2
  have h1:=h.1
  have:∃ r:Rw,d=bT r:=by
   match d,h1 with
   | .tuple [.str k,.int n,.tuple bs],h1=>
    simp only[aQ,and_eq_true]at h1
    have hb:bs.all (bI 0 255)=true:=h1.2.2.1
    refine⟨(k,n,a9 (.tuple bs)),?_⟩
    show PyData.tuple [.str k,.int n,.tuple bs] = .tuple [.str k,.int n,.tuple ((a9 (.tuple bs)).map .int)]
    congr 4
    have:∀ l:Hr,l.all (bI 0 255)=true->l=(a9 (.tuple l)).map .int:=by
     intro l hl
     induction l with
     | nil=>rfl
     | cons x l ih=>
      rw[all_cons,and_eq_true]at hl
      have:=ih hl.2
      cases x with
      | int i=>
       show PyData.int i::l=PyData.int i::(a9 (.tuple l)).map .int
       rw[<- this]
      | _=>exact absurd hl.1 (by simp [bI])
    exact congrArg PyData.tuple (this bs hb)
   | .tuple [.str k,.int n,.list _],h1=>simp [aQ,cG]at h1
   | .tuple [.str k,.int n,.int _],h1=>simp [aQ,cG]at h1
   | .tuple [.str k,.int n,.str _],h1=>simp [aQ,cG]at h1
   | .tuple [.str k,.int n,.bool _],h1=>simp [aQ,cG]at h1
   | .tuple [.str k,.int n,.none],h1=>simp [aQ,cG]at h1
   | .tuple [.str k,.int n,.dict _],h1=>simp [aQ,cG]at h1
   | .tuple [.str k,.str _,b],h1=>simp [aQ,bI]at h1
   | .tuple [.str k,.bool _,b],h1=>simp [aQ,bI]at h1
   | .tuple [.str k,.none,b],h1=>simp [aQ,bI]at h1
   | .tuple [.str k,.list _,b],h1=>simp [aQ,bI]at h1
   | .tuple [.str k,.tuple _,b],h1=>simp [aQ,bI]at h1
   | .tuple [.str k,.dict _,b],h1=>simp [aQ,bI]at h1
  obtain⟨r,e1⟩:=this
  refine⟨r::rs,by rw[map_cons,<- e1,<- e],fun x hx=>?_⟩
  rcases mem_cons.mp hx with rfl | hx
  ·rw[<- e1]
   exact h1
  ·exact hr x hx
section
variable {P:Program} {w:World} {K:Hh} {mg:Hj} {base:Heap} {aa9 aa1 aa3 aa7:Addr}
end
def But (pl:Addr) (H H':Hp):Prop:=∀ b o,H b=some o->b≠pl->H' b=some o
def kA (h:Den H (bT r) v):∃ t b,v = .ref t/\H t=some (.tup [.str r.1,.int r.2.1,.ref b])/\H b=some (.tup (r.2.2.map V.int)):=by
 unfold bT gP at h
 simp only[Den,aW]at h
 obtain⟨t,_,rfl,gt,_,_,rfl,rfl,_,_,rfl,rfl,_,_,rfl,⟨b,ys,rfl,gb,hys⟩,rfl⟩:=h
 have:=bO.mp hys
 subst this
 exact⟨t,b,rfl,gt,gb⟩
structure TxtN (K:Hh) (mg:Hj):Prop where
 ad0:mg "len" = none
 ab8:mg "isinstance" = none
 be3:mg "all" = none
 aw6:mg "sum" = none
 ag9:mg "tuple" = none
 au0:mg "int" = none
 be5:mg "bool" = none
 be2:mg "str" = none
 ah0:mg "range" = none
 ae7:mg "enumerate" = none
 aq1:mg "list" = none
 aj2:mg "sorted" = none
 am3:∃ t,mg "HIGHEST_BYTE" = some (.int 255 t)
section
variable {P:Program} {w:World} {K:Hh} {mg:Hj} {base:Heap} 
end
abbrev tT:Stmt:=top 5
abbrev mO:Stmt:=top 60
abbrev lK:Stmt:=top 61
def b8:Str:="abcdefghijklmnopqrstuvwxyz0123456789"
def inS (signs:Str) (c:Nat):Bool:=!(Builtin.Str.occurrences signs ⟨#[c]⟩ 0 signs.length 1).isEmpty
def BQ (x:Str):Bool:=x.cps.all fun c=>decide (c<128)
def eJ (signs:Str) (l:Int):PyData->Bool
 | .str x=>(decide (1<=(x.length:Int)) && decide ((x.length:Int)<=l)) && x.cps.toList.all (inS signs)
 | _=>false
inductive lT (vs:Hw) (H:Hp) (Q:VK) (x_3:XK):Prop
 | mk:∀ (v:V) (d:PyData) (signs:Str) (l:Int),vs=[v,.str signs,.int l]->Den H d v->(∀ x,d = .str x->x.length<=1000/\BQ x=true)->(∀ H',aD H H'->Q (.bl (eJ signs l d)) H')->lT vs H Q x_3
structure TxtD (K:Hh) (mg:Hj) (aa0 aa5 ab6 aa6 aa1 aa4 aa8:Addr):Prop extends TxtN K mg where
 bc2:∃ t,mg "NAME_SIGNS" = some (.str b8 t)
 ay4:∃ t,mg "LONGEST_NAME" = some (.int 8 t)
 bc3:∃ t,mg "MOST_STEPS" = some (.int 100000 t)
 ak6:cR K aa0=true
 be6:mg "BadName" = some (.ref aa0)
 ak7:cR K aa5=true
 be7:mg "Missing" = some (.ref aa5)
 au2:cR K ab6=true
 bf8:mg "There" = some (.ref ab6)
 ak8:cR K aa6=true
 aq2:mg "Stopped" = some (.ref aa6)
 af2:cR K aa1=true
 bc0:mg "BadRow" = some (.ref aa1)
 ac9:cR K aa4=true
 am0:mg "BadNumber" = some (.ref aa4)
 cl:Cls K aa8
 ac5:cO K aa8 "files"
 aj3:cO K aa8 "steps_done"
 ac2:cO K aa8 "steps_ahead"
inductive fS (aa0:Addr) (vs:Hw) (H:Hp) (Q:VK) (E:XK):Prop
 | mk:∀ (v:V) (d:PyData),vs=[v]->Den H d v->(∀ x,d = .str x->x.length<=1000/\BQ x=true)->(eJ b8 8 d=true->∀ H',aD H H'->Q .non H')->(eJ b8 8 d=false->∀ H',aD H H'->E (.ref aa0) none H')->fS aa0 vs H Q E
def fQ:PyData->Bool
 | .none=>true
 | d=>bI 0 100000 d
inductive eW (aa4:Addr) (vs:Hw) (H:Hp) (Q:VK) (E:XK):Prop
 | mk:∀ (v:V) (d:PyData),vs=[v]->Den H d v->(fQ d=true->Q .non H)->(fQ d=false->E (.ref aa4) none H)->eW aa4 vs H Q E
section
variable {P:Program} {w:World} {K:Hh} {mg:Hj} {base:Heap} {aa0 aa5 ab6 aa6 aa1 aa4 aa8:Addr}
def AB (F:Fun K "is_word" "is_word" tT f fd) (T:TxtN K mg):(FnOk P w K mg base (CXE P w)) 1 f fd ["thing","signs","longest"] lT:=by
 refine F.okY ["thing","signs","longest"] fun cdv A outer s H vs Q E hr nD0 h=>?_
 obtain⟨v,d,signs,l,rfl,hd,hz,q⟩:=h
 refine⟨_,aA (a6 (kB (cK (cU (bE (gW K) ⋯ T.ab8 dJ (aJ (pv 0) (aJ (pH (v := .ty "str") ⋯ T.be2 HY ⋯) aF))))) (hJ (cK (qS hW hW aG (bE wF ⋯ T.ad0 fO (aJ (pv 0) aF)) (pv 2))))).pt
   (aB (aX Ay))
   aO)
  (aB (aX (bE (uO K) ⋯ T.be3 Ee (dR (fB ["sign"] [("signs",1)] ⋯ (Gx (pv 0)) (fun C s2 H2 ex=>(cH (i:=0) (show List.Nodup (["sign","signs"]:Ho) by decide +kernel) ⋯ (Or.inl ⋯))) (fun C s2 H2 ex => FK) (fun C s2 H2 ex=>(fV Bs (pv 0) (pv 1) ⋯))) aF)))),?_⟩
 refine⟨_,rfl,_,_,_,_,rfl,hd.ty,A8 d,_,rfl,?_⟩
 cases d with
 | none=>exact aV (aV (q H (aD.refl H)))
 | bool x=>exact aV (aV (q H (aD.refl H)))
 | int x=>exact aV (aV (q H (aD.refl H)))
 | tuple x=>exact aV (aV (q H (aD.refl H)))
 | list x=>exact aV (aV (q H (aD.refl H)))
 | dict x=>exact aV (aV (q H (aD.refl H)))
 | str x=>
 refine a7 ?_
 obtain⟨z1,z2⟩:=hz x rfl
 have e:v = .str x:=by simpa only[Den] using hd
 subst e
 have zl:x.length<=sizeLine:=le_trans z1 (by decide)
 refine⟨_,rfl,x,rfl,zl,_,_,rfl,rfl,_,rfl,?_⟩
 simp only[eJ]at q
 by_cases h1:1<=(x.length:Int)
 case neg=>
  rw[if_neg (by rw[decide_eq_true_eq]; exact h1)]
  rw[decide_eq_false h1,Bool.false_and,Bool.false_and]at q
  exact⟨_,rfl,aV (q H (aD.refl H))⟩
 rw[if_pos (decide_eq_true h1)]
 rw[decide_eq_true h1,Bool.true_and]at q
 refine⟨_,rfl,_,_,rfl,rfl,_,rfl,?_⟩
 show if (!decide ((x.length:Int)<=l))=true then _ else _
 by_cases h2:(x.length:Int)<=l
 case neg=>
  rw[decide_eq_false h2]at q ⊢
  exact aV (q H (aD.refl H))
 rw[decide_eq_true h2]at q ⊢
 rw[Bool.true_and]at q
 refine a7 ?_
 refine bG rfl ?_
 refine⟨_,rfl,x,rfl,z2,?_⟩
 refine dH (E1 (H:=H) x) zl (fun i y _=>∃ c,x.cps[i]? = some c/\y = .bl (inS signs c)) (fun _ _ _ _ _ h=>h) (fun σ=>∃ z,σ = [z,some (.str signs)]) ?z0 ?_ ?_
 case z0=>exact⟨none,rfl⟩
 ·intro i y σc H3 hi hσ s3 hx Q' hQ'
  obtain⟨z,rfl⟩:=hσ
  obtain⟨c,hc,rfl⟩:=hx
  refine⟨_,rfl,_,rfl,_,_,rfl,rfl,?_⟩
  exact hQ' _ _ _ ⟨_,rfl⟩ (aD.refl _) ⟨c,hc,rfl⟩
 intro D ys H' hD s' hD' hlen hR
 have ey:ys=(x.cps.toList.map (inS signs)).map V.bl:=by
  apply ext_getElem?
  intro i
  cases e:ys[i]? with
  | none=>
   have:ys.length<=i:=List.getElem?_eq_none_iff.mp e
   rw[getElem?_eq_none (by rw[length_map,length_map,length_toList]; omega)]
  | some y=>
   obtain⟨c,h1,h2⟩:=hR i y e
   rw[getElem?_map,getElem?_map,Array.getElem?_toList,h1,h2]
   rfl
 refine⟨D,x.cps.toList.map (inS signs),rfl,SqL.of (by rw[hD',ey]),?_⟩
 rw[all_map]
 exact q H' s'
def sI (F:Fun K "check_name" "check_name" mO f fd) (T:(TxtD K mg aa0 aa5 ab6 aa6 aa1 aa4 aa8)) (aq3:(Callee P w K mg base) "is_word" 1 ["thing","signs","longest"] lT):(FnOk P w K mg base (CXE P w)) 2 f fd ["name"] (fS aa0):=by
 obtain⟨_,bb6⟩:=T.bc2
 obtain⟨_,aw8⟩:=T.ay4
 refine F.okY ["name"] fun cdv A outer s H vs Q E hr nD0 h=>?_
 obtain⟨v,d,rfl,hd,hz,q,qe⟩:=h
 refine⟨_,aB (a6 (cK (cU (a5 aq3 ((hr.mono (by decide))) bB (aJ (pv 0) (aJ (cI (v:=.str "abcdefghijklmnopqrstuvwxyz0123456789") ⋯ bb6 ⟨_,rfl⟩) (aJ (cI (v:=.int 8) ⋯ aw8 ⟨_,rfl⟩) aF))))))
   (aB (dF eO ⋯ T.ak6 ⋯ T.be6 (aR cY aF)))
   aO),?_⟩
 refine⟨_,rfl,v,d,b8,8,rfl,hd,hz,fun H1 S1=>⟨_,rfl,?_⟩⟩
 cases hb:eJ b8 8 d with
 | false=>exact aV ⟨(by show 1<=sizeLine; decide),qe hb H1 S1⟩
 | true=>exact a7 (q hb H1 S1)
def rC (F:Fun K "check_steps" "check_steps" lK f fd) (T:(TxtD K mg aa0 aa5 ab6 aa6 aa1 aa4 aa8)) (ab2:(Callee P w K mg base "is_number" 1 ["thing", "least", "most"] jB)):(FnOk P w K mg base (CXE P w)) 2 f fd ["steps"] (eW aa4):=by
 obtain⟨_,bb7⟩:=T.bc3
 refine F.okY ["steps"] fun cdv A outer s H vs Q E hr nD0 h=>?_
 obtain⟨v,d,rfl,hd,q,qe⟩:=h
 refine⟨_,aB (a6 (lX (bA vK (pv 0) gG (bF _)) (jI (cK (cU (a5 ab2 ((hr.mono (by decide))) bB (aJ (pv 0) (aR aG (aJ (cI (v:=.int 100000) ⋯ bb7 ⟨_,rfl⟩) aF)))))))).pt
   (aB (dF eO ⋯ T.ac9 ⋯ T.am0 (aR cY aF)))
   aO),?_⟩
 by_cases hv:v = .non
 ·subst hv
  have:fQ d=true:=by
   cases d with
   | none=>rfl
   | bool b=>simp only[Den]at hd; cases hd
   | int b=>simp only[Den]at hd; cases hd
   | str b=>simp only[Den]at hd; cases hd
   | tuple b=>simp only[Den]at hd; obtain⟨_,_,e,_⟩:=hd; cases e
   | list b=>simp only[Den]at hd; obtain⟨_,_,e,_⟩:=hd; cases e
   | dict b=>simp only[Den]at hd
  exact⟨_,rfl,rfl,_,rfl,a7 (a7 (q this))⟩
 ·have e:fQ d=bI 0 100000 d:=by
   cases d with
   | none=>simp only[Den]at hd; exact absurd hd hv
   | _=>rfl
  rw[e]at q qe
  refine⟨_,rfl,rfl,_,rfl,?_⟩
  rw[decide_eq_false hv]
  refine aV ⟨_,rfl,v,d,0,100000,rfl,hd,_,rfl,?_⟩
  cases hb:bI 0 100000 d with
  | false=>exact aV ⟨(by show 1<=sizeLine; decide),qe hb⟩
  | true=>exact a7 (q hb)
end
structure Dk where
 fs:List (Str × Hm)
 done:Int
 left:Option Int
def GJ:Option Int->V
 | none=>.non
 | some n=>.int n
def aH (fs:List (Str × Hm)) (n:Str):Option (Hm):=(fs.find? fun p=>decide (p.1=n)).map (·.2)
def jY (fs:List (Str × Hm)) (n:Str):List (Str × Hm):=fs.filter fun p=>decide (p.1≠n)
inductive rS (H:Hp) (v:V) (bs:Hm):Prop
 | mk:∀ l,v = .ref l->H l=some (.lst (bs.map V.int))->rS H v bs
def FsR (H:Hp):List (Str × Hm)->Hu->Prop
 | [],[]=>True
 | p::fs,q::kvs=>q.1=Sum.inr p.1/\rS H q.2 p.2/\FsR H fs kvs
 | _,_=>False
def dkF (df:Addr) (done:Int) (left:Option Int):Hv:=[("files",.ref df),("steps_done",.int done),("steps_ahead",GJ left)]
structure DiskAt (C:Addr) (H:Hp) (dk df:Addr) (kvs:Hu) (D:Dk):Prop where
 self:∃ dx,H dk=some (.ins C dx (dkF df D.done D.left))
 files:H df=some (.dK kvs)
 rel:FsR H D.fs kvs
 nd:(kvs.map (·.2)).Nodup
 kn:(D.fs.map (·.1)).Nodup
def own (dk df:Addr) (kvs:Hu) (b:Addr):Prop:=b=dk\/b=df\/V.ref b∈kvs.map (·.2)
def eI (dk df:Addr) (kvs:Hu) (H H':Hp):Prop:=∀ b o,H b=some o->¬ own dk df kvs b->H' b=some o
def i8 (dk df:Addr) (kvs kvs':Hu) (H:Hp):Prop:=∀ b,own dk df kvs' b->own dk df kvs b\/H b=none
def FsR.same:∀ {fs:List (Str × Hm)} {kvs:Hu},(∀ b o,H b=some o->V.ref b∈kvs.map (·.2)->H' b=some o)->FsR H fs kvs->FsR H' fs kvs
 | [],[],_,_=>trivial
 | p::fs,q::kvs,s,h=>by
  obtain⟨h1,⟨l,e,g⟩,h3⟩:=h
  exact⟨h1,⟨l,e,s l _ g (by rw[map_cons,e]; exact mem_cons_self)⟩,FsR.same (fun b o e m=>s b o e (mem_cons_of_mem _ m)) h3⟩
 | [],_::_,_,h=>h.elim
 | _::_,[],_,h=>h.elim
def FsR.len:∀ {fs:List (Str × Hm)} {kvs:Hu},FsR H fs kvs->kvs.length=fs.length
 | [],[],_=>rfl
 | p::fs,q::kvs,h=>by rw[length_cons,length_cons,FsR.len h.2.2]
 | [],_::_,h=>h.elim
 | _::_,[],h=>h.elim
def FsR.keys:∀ {fs:List (Str × Hm)} {kvs:Hu},FsR H fs kvs->kvs.map (·.1)=(fs.map (·.1)).map Sum.inr
 | [],[],_=>rfl
 | p::fs,q::kvs,h=>by rw[map_cons,map_cons,map_cons,h.1,FsR.keys h.2.2]
 | [],_::_,h=>h.elim
 | _::_,[],h=>h.elim
def vY:((Sum.inr a:Key)=Sum.inr b) ↔ a=b:=⟨Sum.inr.inj,fun h=>by rw[h]⟩
def FsR.val:∀ {fs:List (Str × Hm)} {kvs:Hu},FsR H fs kvs->(match aH fs n with | none=>eE kvs (Sum.inr n)=none | some e=>∃ v,eE kvs (Sum.inr n)=some v/\rS H v e)
 | [],[],_=>rfl
 | p::fs,q::kvs,h=>by
  obtain⟨h1,h2,h3⟩:=h
  have ih:=FsR.val (n:=n) h3
  by_cases e:p.1=n
  ·have:aH (p::fs) n=some p.2:=by simp [aH,e]
   rw[this]
   exact⟨q.2,iS (by rw[h1,e]),h2⟩
  ·have e1:aH (p::fs) n=aH fs n:=by simp [aH,e]
   have e2:eE (q::kvs) (Sum.inr n)=eE kvs (Sum.inr n):=iT (by rw[h1,vY]; exact e)
   rw[e1,e2]
   exact ih
 | [],_::_,h=>h.elim
 | _::_,[],h=>h.elim
def kF (h:DiskAt C H dk df kvs D):dk≠df/\V.ref dk ∉ kvs.map (·.2)/\V.ref df ∉ kvs.map (·.2):=by
 have key:∀ {fs:List (Str × Hm)} {kvs:Hu},FsR H fs kvs->∀ b,V.ref b∈kvs.map (·.2)->∃ xs,H b=some (.lst xs):=by
  intro fs
  induction fs with
  | nil=>
   intro kvs hr b hb
   cases kvs with
   | nil=>simp at hb
   | cons _ _=>exact hr.elim
  | cons p fs ih=>
   intro kvs hr b hb
   cases kvs with
   | nil=>exact hr.elim
   | cons q kvs=>
    obtain⟨_,⟨l,e,g⟩,h3⟩:=hr
    rw[map_cons,mem_cons]at hb
    rcases hb with hb | hb
    ·rw[e]at hb
     cases hb
     exact⟨_,g⟩
    ·exact ih h3 b hb
 obtain⟨dx,h1⟩:=h.self
 refine⟨?_,fun hb=>?_,fun hb=>?_⟩
 ·rintro rfl
  rw[h.files]at h1
  cases h1
 ·obtain⟨xs,e⟩:=key h.rel _ hb
  rw[h1]at e
  cases e
 ·obtain⟨xs,e⟩:=key h.rel _ hb
  rw[h.files]at e
  cases e
def lE (h:DiskAt C H dk df kvs D) (done:Int) (left:Option Int):DiskAt C (upd H dk (.ins C dx (dkF df done left))) dk df kvs ⟨D.fs,done,left⟩:=by
 obtain⟨n1,n2,n3⟩:=kF h
 refine⟨⟨dx,aC⟩,by rw[aE (Ne.symm n1)]; exact h.files,h.rel.same fun b o e m=>?_,h.nd,h.kn⟩
 rw[aE (fun z=>by rw[z]at m; exact n2 m)]
 exact e
def DiskAt.same (h:DiskAt C H dk df kvs D) (s:aD H H'):DiskAt C H' dk df kvs D:=by
 obtain⟨dx,h1⟩:=h.self
 exact⟨⟨dx,s _ _ h1⟩,s _ _ h.files,h.rel.same fun b o e _=>s b o e,h.nd,h.kn⟩
def dQ (D:Dk):Option Dk:=match D.left with
 | none=>some ⟨D.fs,D.done+1,none⟩
 | some n=>if n=0 then none else some ⟨D.fs,D.done+1,some (n - 1)⟩
abbrev mM:Stmt:=bJ (top 62) 12
inductive iO (C:Addr) (aa6:Addr) (vs:Hw) (H:Hp) (Q:VK) (E:XK):Prop
 | mk:∀ (dk df:Addr) (kvs:Hu) (D:Dk),vs=[.ref dk]->DiskAt C H dk df kvs D->(∀ D',dQ D=some D'->∀ H',(∀ b o,H b=some o->b≠dk->H' b=some o)->DiskAt C H' dk df kvs D'->Q .non H')->(dQ D=none->E (.ref aa6) none H)->iO C aa6 vs H Q E
section
variable {P:Program} {w:World} {K:Hh} {mg:Hj} {base:Heap} {aa0 aa5 ab6 aa6 aa1 aa4 aa8:Addr}
def sH (F:Fun K "count_step" "Disk.count_step" mM f fd) (T:(TxtD K mg aa0 aa5 ab6 aa6 aa1 aa4 aa8)):(FnOk P w K mg base (CXE P w)) 1 f fd ["self"] (iO aa8 aa6):=by
 refine F.okY ["self"] fun cdv A outer s H vs Q E hr nD0 h=>?_
 obtain⟨dk,df,kvs,D,rfl,hD,q,qe⟩:=h
 refine⟨_,aA (a6 (bA i6 (n5 (pv 0) ⋯) aG (bF _))
   (aB (dF eO ⋯ T.ak8 ⋯ T.aq2 (aR cY aF)))
   aO)
  (aA (a6 (bA vK (n5 (pv 0) ⋯) gG (bF _))
   (aB (nY (pv 0) aG HP))
   aO)
  (aB (nY (pv 0) aG EB))),?_⟩
 obtain⟨dx,h1⟩:=hD.self
 obtain⟨fs,done,left⟩:=D
 unfold dQ at q qe
 cases left with
 | none=>
  refine⟨_,rfl,dk,_,dx,_,_,rfl,h1,T.cl,T.ac2,rfl,rfl,_,rfl,a7 ?_⟩
  refine bG rfl ?_
  refine⟨_,rfl,dk,_,dx,_,_,rfl,h1,T.cl,T.ac2,rfl,rfl,_,rfl,a7 ?_⟩
  refine bG rfl ?_
  refine⟨_,rfl,dk,_,dx,_,_,rfl,h1,T.cl,T.aj3,rfl,_,_,rfl,rfl,dx,_,h1,(by show 3<1000; decide),?_⟩
  exact q _ rfl _ (fun b o e nb=>by rw[aE nb]; exact e) (lE hD (done+1) none)
 | some n=>
  refine⟨_,rfl,dk,_,dx,_,_,rfl,h1,T.cl,T.ac2,rfl,rfl,_,rfl,?_⟩
  by_cases hn:n=0
  ·subst hn
   refine aV ?_
   exact⟨(by show 1<=sizeLine; decide),qe rfl⟩
  ·have e0:decide (V.int n=V.int 0)=false:=decide_eq_false (fun z=>hn (V.int.inj z))
   show if decide (V.int n=V.int 0)=true then _ else _
   rw[e0]
   refine a7 ?_
   refine bG rfl ?_
   refine⟨_,rfl,dk,_,dx,_,_,rfl,h1,T.cl,T.ac2,rfl,rfl,_,rfl,aV ?_⟩
   refine⟨_,rfl,dk,_,dx,_,_,rfl,h1,T.cl,T.ac2,rfl,_,_,rfl,rfl,dx,_,h1,(by show 3<1000; decide),?_⟩
   have h2:=lE (dx:=dx) hD done (some (n - 1))
   have g2:upd H dk (.ins aa8 dx (dkF df done (some (n - 1)))) dk=some (.ins aa8 dx (dkF df done (some (n - 1)))):=aC
   refine⟨_,rfl,dk,_,dx,_,_,rfl,g2,T.cl,T.aj3,rfl,_,_,rfl,rfl,dx,_,g2,(by show 3<1000; decide),?_⟩
   exact q _ (by dsimp only; rw[if_neg hn]) _ (fun b o e nb=>by rw[aE nb,aE nb]; exact e) (lE h2 (done+1) (some (n - 1)))
end
abbrev Ao:Stmt:=bJ (top 62) 0
abbrev Am:Stmt:=bJ (top 62) 1
abbrev DC:Stmt:=bJ (top 62) 2
abbrev DE:Stmt:=bJ (top 62) 5
abbrev Ak:Stmt:=bJ (top 62) 6
abbrev DA:Stmt:=bJ (top 62) 7
abbrev C8:Stmt:=bJ (top 62) 8
abbrev mP:Stmt:=bJ (top 62) 11
def kH (d:PyData):Prop:=∀ x,d = .str x->x.length<=1000/\BQ x=true
def wM (h:eJ signs l d=true):∃ x,d = .str x:=by
 cases d with
 | str x=>exact⟨x,rfl⟩
 | _=>cases h
inductive iP (C:Addr) (aa0:Addr) (aa5:Addr) (vs:Hw) (H:Hp) (Q:VK) (E:XK):Prop
 | mk:∀ (dk df:Addr) (kvs:Hu) (D:Dk) (v:V) (d:PyData),vs=[.ref dk,v]->DiskAt C H dk df kvs D->Den H d v->kH d->(eJ b8 8 d=false->∀ H',aD H H'->E (.ref aa0) none H')->(∀ n,d = .str n->eJ b8 8 d=true->(aH D.fs n=none->∀ H',aD H H'->E (.ref aa5) none H')/\(∀ bs,aH D.fs n=some bs->∀ H',aD H H'->Q .non H'))->iP C aa0 aa5 vs H Q E
inductive mE (C:Addr) (aa0:Addr) (aa5:Addr) (vs:Hw) (H:Hp) (Q:VK) (E:XK):Prop
 | mk:∀ (dk df:Addr) (kvs:Hu) (D:Dk) (v:V) (d:PyData),vs=[.ref dk,v]->DiskAt C H dk df kvs D->Den H d v->kH d->(eJ b8 8 d=false->∀ H',aD H H'->E (.ref aa0) none H')->(∀ n,d = .str n->eJ b8 8 d=true->(aH D.fs n=none->∀ H',aD H H'->E (.ref aa5) none H')/\(∀ bs,aH D.fs n=some bs->∀ p H',aD H H'->H' p=some (.tup (bs.map V.int))->Q (.ref p) H'))->mE C aa0 aa5 vs H Q E
inductive mD (C:Addr) (aa0:Addr) (aa5:Addr) (vs:Hw) (H:Hp) (Q:VK) (E:XK):Prop
 | mk:∀ (dk df:Addr) (kvs:Hu) (D:Dk) (v:V) (d:PyData),vs=[.ref dk,v]->DiskAt C H dk df kvs D->Den H d v->kH d->(eJ b8 8 d=false->∀ H',aD H H'->E (.ref aa0) none H')->(∀ n,d = .str n->eJ b8 8 d=true->(aH D.fs n=none->∀ H',aD H H'->E (.ref aa5) none H')/\(∀ bs,aH D.fs n=some bs->∀ H',aD H H'->Q (.int (bs.length:Int)) H'))->mD C aa0 aa5 vs H Q E
inductive pW (C:Addr) (vs:Hw) (H:Hp) (Q:VK) (x_3:XK):Prop
 | mk:∀ (dk df:Addr) (kvs:Hu) (D:Dk),vs=[.ref dk]->DiskAt C H dk df kvs D->D.fs.length<64->(∀ p ms,List.Perm ms (D.fs.map (·.1))->PyProof.Rows.sortedS ms=true->∀ H',aD H H'->H' p=some (.lst (ms.map V.str))->H p=none->Q (.ref p) H')->pW C vs H Q x_3
def A5:PyData->Option Int
 | .int n=>some n
 | _=>none
inductive pZ (C:Addr) (aa4:Addr) (vs:Hw) (H:Hp) (Q:VK) (E:XK):Prop
 | mk:∀ (dk df:Addr) (kvs:Hu) (D:Dk) (v:V) (d:PyData),vs=[.ref dk,v]->DiskAt C H dk df kvs D->Den H d v->(fQ d=false->E (.ref aa4) none H)->(fQ d=true->∀ H',(∀ b o,H b=some o->b≠dk->H' b=some o)->DiskAt C H' dk df kvs ⟨D.fs,D.done,A5 d⟩->Q .non H')->pZ C aa4 vs H Q E
inductive qA (C:Addr) (aa4:Addr) (vs:Hw) (H:Hp) (Q:VK) (E:XK):Prop
 | mk:∀ (dk dx:Addr) (v:V) (d:PyData),vs=[.ref dk,v]->H dk=some (.ins C dx [])->Den H d v->(fQ d=false->E (.ref aa4) none H)->(fQ d=true->∀ df H',(∀ b o,H b=some o->b≠dk->H' b=some o)->H df=none->DiskAt C H' dk df [] ⟨[],0,A5 d⟩->Q .non H')->qA C aa4 vs H Q E
inductive kY (C:Addr) (aa0:Addr) (ab6:Addr) (aa6:Addr) (vs:Hw) (H:Hp) (Q:VK) (E:XK):Prop
 | mk:∀ (dk df:Addr) (kvs:Hu) (D:Dk) (v:V) (d:PyData),vs=[.ref dk,v]->DiskAt C H dk df kvs D->Den H d v->kH d->D.fs.length<100000->(eJ b8 8 d=false->∀ H',aD H H'->E (.ref aa0) none H')->(∀ n,d = .str n->eJ b8 8 d=true->(∀ bs,aH D.fs n=some bs->∀ H',aD H H'->E (.ref ab6) none H')/\
  (aH D.fs n=none->(dQ D=none->∀ H',aD H H'->E (.ref aa6) none H')/\(∀ D1,dQ D=some D1->∀ kvs' H',eI dk df kvs H H'->i8 dk df kvs kvs' H->DiskAt C H' dk df kvs' ⟨D1.fs++[(n,[])],D1.done,D1.left⟩->Q .non H')))->kY C aa0 ab6 aa6 vs H Q E
inductive pG (C:Addr) (aa0:Addr) (aa5:Addr) (aa6:Addr) (vs:Hw) (H:Hp) (Q:VK) (E:XK):Prop
 | mk:∀ (dk df:Addr) (kvs:Hu) (D:Dk) (v:V) (d:PyData),vs=[.ref dk,v]->DiskAt C H dk df kvs D->Den H d v->kH d->(eJ b8 8 d=false->∀ H',aD H H'->E (.ref aa0) none H')->(∀ n,d = .str n->eJ b8 8 d=true->(aH D.fs n=none->∀ H',aD H H'->E (.ref aa5) none H')/\
  (∀ bs,aH D.fs n=some bs->(dQ D=none->∀ H',aD H H'->E (.ref aa6) none H')/\(∀ D1,dQ D=some D1->∀ kvs' H',eI dk df kvs H H'->i8 dk df kvs kvs' H->DiskAt C H' dk df kvs' ⟨jY D1.fs n,D1.done,D1.left⟩->Q .non H')))->pG C aa0 aa5 aa6 vs H Q E
def fR (h:dQ D=some D1):D1.fs=D.fs:=by
 unfold dQ at h
 split at h
 ·cases (Option.some.inj h)
  rfl
 ·split at h
  ·cases h
  ·cases (Option.some.inj h)
   rfl
def FsR.snoc (hv:rS H v e):∀ {fs:List (Str × Hm)} {kvs:Hu},FsR H fs kvs->FsR H (fs++[(n,e)]) (kvs++[(Sum.inr n,v)])
 | [],[],_=>⟨rfl,hv,trivial⟩
 | p::fs,q::kvs,h=>⟨h.1,h.2.1,FsR.snoc hv h.2.2⟩
 | [],_::_,h=>h.elim
 | _::_,[],h=>h.elim
def FsR.drop:∀ {fs:List (Str × Hm)} {kvs:Hu},FsR H fs kvs->FsR H (jY fs n) (hX kvs (Sum.inr n))
 | [],[],_=>trivial
 | p::fs,q::kvs,h=>by
  obtain⟨h1,h2,h3⟩:=h
  have ih:=FsR.drop (n:=n) h3
  by_cases z:p.1=n
  ·have e1:jY (p::fs) n=jY fs n:=by simp [jY,z]
   rw[e1,uH (by rw[h1,z])]
   exact ih
  ·have e1:jY (p::fs) n=p::jY fs n:=by simp [jY,z]
   rw[e1,uI (by rw[h1,vY]; exact z)]
   exact⟨h1,h2,ih⟩
 | [],_::_,h=>h.elim
 | _::_,[],h=>h.elim
def B7 (h:aH fs n=none):n ∉ fs.map (·.1):=by
 intro hm
 rw[mem_map]at hm
 obtain⟨p,hp,rfl⟩:=hm
 unfold aH at h
 rw[map_eq_none_iff,find?_eq_none]at h
 exact h p hp (decide_eq_true rfl)
section
variable {P:Program} {w:World} {K:Hh} {mg:Hj} {base:Heap} {aa0 aa5 ab6 aa6 aa1 aa4 aa8:Addr}
def sJ (F:Fun K "check_file" "Disk.check_file" mP f fd) (T:(TxtD K mg aa0 aa5 ab6 aa6 aa1 aa4 aa8)) (ad1:(Callee P w K mg base) "check_name" 2 ["name"] (fS aa0)):(FnOk P w K mg base (CXE P w)) 3 f fd ["self","name"] (iP aa8 aa0 aa5):=by
 refine F.okY ["self","name"] fun cdv A outer s H vs Q E hr nD0 h=>?_
 obtain⟨dk,df,kvs,D,v,d,rfl,hD,hd,hn,qb,q⟩:=h
 refine⟨_,aA (bD (a5 ad1 ((hr.mono (by decide))) bK (aJ (pv 1) aF)))
  (aB (a6 (vG (Bp (hu1 hr.units) (pv 1) (n5 (pv 0) ⋯)))
   (aB (dF eO ⋯ T.ak7 ⋯ T.be7 (aR cY aF)))
   aO)),?_⟩
 refine⟨_,rfl,v,d,rfl,hd,hn,fun hw H1 S1=>?_,qb⟩
 obtain⟨n,rfl⟩:=wM hw
 obtain⟨qm,q⟩:=q n rfl hw
 have ev:v = .str n:=by simpa only[Den] using hd
 subst ev
 obtain⟨dx,h1⟩:=hD.self
 refine⟨_,rfl,_,rfl,dk,_,dx,_,_,rfl,S1 _ _ h1,T.cl,T.ac5,rfl,df,_,rfl,gC.k (k:=Sum.inr n) (S1 _ _ hD.files),_,rfl,?_⟩
 have hv:=hD.rel.val (n:=n)
 cases he:aH D.fs n with
 | none=>
  rw[he]at hv
  have hv:eE kvs (Sum.inr n)=none:=hv
  rw[hv]
  exact aV ⟨(by show 1<=sizeLine; decide),qm he H1 S1⟩
 | some bs=>
  rw[he]at hv
  obtain⟨v,hv1,_⟩:=hv
  rw[hv1]
  exact a7 (q bs he H1 S1)
def FX (F:Fun K "read" "Disk.read" DA f fd) (T:(TxtD K mg aa0 aa5 ab6 aa6 aa1 aa4 aa8)) (ae3:(Method P w K mg base aa8 "check_file" 3 ["self", "name"] (iP aa8 aa0 aa5))):(FnOk P w K mg base (CXE P w)) 4 f fd ["self","name"] (mE aa8 aa0 aa5):=by
 refine F.okY ["self","name"] fun cdv A outer s H vs Q E hr nD0 h=>?_
 obtain⟨dk,df,kvs,D,v,d,rfl,hD,hd,hn,qb,q⟩:=h
 refine⟨_,aA (bD (cP ae3 T.cl ((hr.mono (by decide))) bK (pv 0) (aJ (pv 1) aF)))
  (aB (aX (gT (kR K) ⋯ T.ag9 nI (aP (Ax (hu1 hr.units) (n5 (pv 0) ⋯) (pv 1) (fun _ _ => rfl)) aF)))),?_⟩
 obtain⟨dx,h1⟩:=hD.self
 refine⟨_,rfl,dk,dx,_,rfl,h1,rfl,_,rfl,dk,df,kvs,D,v,d,rfl,hD,hd,hn,qb,fun n en hw=>?_⟩
 obtain⟨qm,q2⟩:=q n en hw
 subst en
 have ev:v = .str n:=by simpa only[Den] using hd
 subst ev
 refine⟨qm,fun bs hbs H1 S1=>?_⟩
 have hv:=hD.rel.val (n:=n)
 rw[hbs]at hv
 obtain⟨v,hv1,l,rfl,gl⟩:=hv
 have dg:gC H1 df (.str n) (some (.ref l)):=by
  have:=gC.k (k:=Sum.inr n) (S1 _ _ hD.files)
  rw[hv1]at this
  exact this
 refine⟨_,rfl,dk,_,dx,_,_,rfl,S1 _ _ h1,T.cl,T.ac5,rfl,_,rfl,df,_,rfl,dg,l,_,rfl,.inl ⟨SqL.of (S1 _ _ gl),fun p hp=>?_⟩⟩
 exact q2 bs hbs p _ (S1.trans (aI hp)) aC
def FV (F:Fun K "size" "Disk.size" C8 f fd) (T:(TxtD K mg aa0 aa5 ab6 aa6 aa1 aa4 aa8)) (ae3:(Method P w K mg base aa8 "check_file" 3 ["self", "name"] (iP aa8 aa0 aa5))):(FnOk P w K mg base (CXE P w)) 4 f fd ["self","name"] (mD aa8 aa0 aa5):=by
 refine F.okY ["self","name"] fun cdv A outer s H vs Q E hr nD0 h=>?_
 obtain⟨dk,df,kvs,D,v,d,rfl,hD,hd,hn,qb,q⟩:=h
 refine⟨_,aA (bD (cP ae3 T.cl ((hr.mono (by decide))) bK (pv 0) (aJ (pv 1) aF)))
  (aB (aX (bE (cV K) ⋯ T.ad0 fO (aP (Ax (hu1 hr.units) (n5 (pv 0) ⋯) (pv 1) (fun _ _ => rfl)) aF)))),?_⟩
 obtain⟨dx,h1⟩:=hD.self
 refine⟨_,rfl,dk,dx,_,rfl,h1,rfl,_,rfl,dk,df,kvs,D,v,d,rfl,hD,hd,hn,qb,fun n en hw=>?_⟩
 obtain⟨qm,q2⟩:=q n en hw
 subst en
 have ev:v = .str n:=by simpa only[Den] using hd
 subst ev
 refine⟨qm,fun bs hbs H1 S1=>?_⟩
 have hv:=hD.rel.val (n:=n)
 rw[hbs]at hv
 obtain⟨v,hv1,l,rfl,gl⟩:=hv
 have dg:gC H1 df (.str n) (some (.ref l)):=by
  have:=gC.k (k:=Sum.inr n) (S1 _ _ hD.files)
  rw[hv1]at this
  exact this
 refine⟨_,rfl,dk,_,dx,_,_,rfl,S1 _ _ h1,T.cl,T.ac5,rfl,_,rfl,df,_,rfl,dg,l,_,rfl,.inl (SqL.of (S1 _ _ gl)),?_⟩
 rw[length_map]
 exact q2 bs hbs H1 S1
def Df (F:Fun K "names" "Disk.names" Ak f fd) (T:(TxtD K mg aa0 aa5 ab6 aa6 aa1 aa4 aa8)):(FnOk P w K mg base (CXE P w)) 1 f fd ["self"] (pW aa8):=by
 refine F.okY ["self"] fun cdv A outer s H vs Q E hr nD0 h=>?_
 obtain⟨dk,df,kvs,D,rfl,hD,hl,q⟩:=h
 refine⟨_,aB (aX (bE (wD ⋯) ⋯ T.aj2 oJ (gQ (n5 (pv 0) ⋯) aF))),?_⟩
 obtain⟨dx,h1⟩:=hD.self
 refine⟨_,rfl,dk,_,dx,_,_,rfl,h1,T.cl,T.ac5,rfl,df,kvs,_,rfl,hD.files,hD.rel.keys,by rw[length_map]; omega,fun p ms perm so hp=>?_⟩
 exact q p ms perm so _ (aI hp) aC hp
def Dw (hd:Den H d v) (hs:fQ d=true):v=GJ (A5 d):=by
 cases d with
 | none=>simp only[Den]at hd; exact hd
 | int n=>simp only[Den]at hd; exact hd
 | _=>cases hs
def Dh {f:Addr} {fd:Hs} (F:Fun K "go_on" "Disk.go_on" Am f fd) (T:(TxtD K mg aa0 aa5 ab6 aa6 aa1 aa4 aa8)) (ac6:(Callee P w K mg base) "check_steps" 2 ["steps"] (eW aa4)):(FnOk P w K mg base (CXE P w)) 3 f fd ["self","steps"] (pZ aa8 aa4):=by
 refine F.okY ["self","steps"] fun cdv A outer s H vs Q E hr nD0 h=>?_
 obtain⟨dk,df,kvs,D,v,d,rfl,hD,hd,qb,q⟩:=h
 refine⟨_,aA (bD (a5 ac6 ((hr.mono (by decide))) bK (aJ (pv 1) aF)))
  (aB (cS (pv 0) (pv 1) ⋯)),?_⟩
 obtain⟨dx,h1⟩:=hD.self
 refine⟨_,rfl,v,d,rfl,hd,fun hs=>?_,qb⟩
 refine⟨_,rfl,_,rfl,dk,_,dx,_,rfl,h1,T.cl,T.ac2,(by show 3<1000; decide),?_⟩
 have ev:=Dw hd hs
 subst ev
 exact q hs _ (fun b o e nb=>by rw[aE nb]; exact e) (lE hD D.done (A5 d))
def Dl (F:Fun K "__init__" "Disk.__init__" Ao f fd) (T:(TxtD K mg aa0 aa5 ab6 aa6 aa1 aa4 aa8)) (ac6:(Callee P w K mg base) "check_steps" 2 ["steps"] (eW aa4)):(FnOk P w K mg base (CXE P w)) 3 f fd ["self","steps"] (qA aa8 aa4):=by
 refine F.okY ["self","steps"] fun cdv A outer s H vs Q E hr nD0 h=>?_
 obtain⟨dk,dx,v,d,rfl,h1,hd,qb,q⟩:=h
 refine⟨_,aA (bD (a5 ac6 ((hr.mono (by decide))) bK (aJ (pv 1) aF)))
  (aA (cS (pv 0) qW ⋯)
  (aA (cS (pv 0) aG ⋯)
  (aB (cS (pv 0) (pv 1) ⋯)))),?_⟩
 refine⟨_,rfl,v,d,rfl,hd,fun hs=>?_,qb⟩
 have ev:=Dw hd hs
 subst ev
 refine fun df hdf=>?_
 have ndf:dk≠df:=fun z=>by rw[z,hdf]at h1; cases h1
 refine⟨_,rfl,dk,_,dx,_,rfl,by rw[aE ndf]; exact h1,T.cl,T.ac5,(by show 0<1000; decide),?_⟩
 refine⟨_,rfl,dk,_,dx,_,rfl,aC,T.cl,T.aj3,(by show 1<1000; decide),?_⟩
 refine⟨_,rfl,_,rfl,dk,_,dx,_,rfl,aC,T.cl,T.ac2,(by show 2<1000; decide),?_⟩
 refine q hs df _ (fun b o e nb=>?_) hdf ⟨⟨dx,?_⟩,?_,trivial,List.nodup_nil,List.nodup_nil⟩
 ·rw[aE nb,aE nb,aE nb,aE (fun z=>by rw[z,hdf]at e; cases e)]
  exact e
 ·rw[aC]
  rfl
 ·rw[aE (Ne.symm ndf),aE (Ne.symm ndf),aE (Ne.symm ndf)]
  exact aC
def FZ (F:Fun K "make" "Disk.make" DC f fd) (T:(TxtD K mg aa0 aa5 ab6 aa6 aa1 aa4 aa8)) (ad1:(Callee P w K mg base) "check_name" 2 ["name"] (fS aa0)) (ag0:(Method P w K mg base aa8 "count_step" 1 ["self"] (iO aa8 aa6))):(FnOk P w K mg base (CXE P w)) 3 f fd ["self","name"] (kY aa8 aa0 ab6 aa6):=by
 refine F.okY ["self","name"] fun cdv A outer s H vs Q E hr nD0 h=>?_
 obtain⟨dk,df,kvs,D,v,d,rfl,hD,hd,hn,hl,qb,q⟩:=h
 refine⟨_,aA (bD (a5 ad1 ((hr.mono (by decide))) bK (aJ (pv 1) aF)))
  (aA (a6 (vG (DY (hu1 hr.units) (pv 1) (n5 (pv 0) ⋯)))
   (aB (dF eO ⋯ T.au2 ⋯ T.bf8 (aR cY aF)))
   aO)
  (aA (bD (gH ag0 T.cl ((hr.mono (by decide))) bK (pv 0)))
  (aB (kZ (hu1 hr.units) (n5 (pv 0) ⋯) (pv 1) (gI aF) ⋯)))),?_⟩
 refine⟨_,rfl,v,d,rfl,hd,hn,fun hw H1 S1=>?_,qb⟩
 obtain⟨n,rfl⟩:=wM hw
 obtain⟨qt,q2⟩:=q n rfl hw
 have ev:v = .str n:=by simpa only[Den] using hd
 subst ev
 have hD1:=hD.same S1
 obtain⟨dx,h1⟩:=hD1.self
 refine⟨_,rfl,_,rfl,dk,_,dx,_,_,rfl,h1,T.cl,T.ac5,rfl,df,_,rfl,gC.k (k:=Sum.inr n) hD1.files,_,rfl,?_⟩
 have hv:=hD1.rel.val (n:=n)
 cases he:aH D.fs n with
 | some bs=>
  rw[he]at hv
  obtain⟨v,hv1,_⟩:=hv
  rw[hv1]
  exact aV ⟨(by show 1<=sizeLine; decide),qt bs he H1 S1⟩
 | none=>
  rw[he]at hv
  have hv:eE kvs (Sum.inr n)=none:=hv
  rw[hv]
  refine a7 ?_
  refine bG rfl ?_
  obtain⟨qs,q3⟩:=q2 he
  refine⟨_,rfl,dk,dx,_,rfl,h1,rfl,dk,df,kvs,D,rfl,hD1,fun D1 hs H2 f2 hD2=>?_,fun hs=>qs hs H1 S1⟩
  refine⟨(by show 0<=sizeLine; decide),fun l hl3=>?_⟩
  have S3:=aI (o:=.lst []) hl3
  generalize eH3:upd H2 l (.lst [])=H3 at S3 ⊢
  have g3:H3 l=some (.lst []):=by rw[<- eH3]; exact aC
  have hD3:=hD2.same S3
  obtain⟨dx3,h13⟩:=hD3.self
  have hkl:kvs.length<sizeLine:=by rw[hD.rel.len]; exact lt_trans hl (by decide)
  refine⟨_,rfl,dk,_,dx3,_,_,rfl,h13,T.cl,T.ac5,rfl,_,rfl,df,_,rfl,sQ.k (k:=Sum.inr n) hD3.files hkl,?_⟩
  have epk:iA kvs (Sum.inr n) (V.ref l)=kvs++[(Sum.inr n,V.ref l)]:=DM _ hv
  rw[epk]
  obtain⟨o1,o2,o3⟩:=kF hD3
  have nlm:V.ref l ∉ kvs.map (·.2):=fun hm=>by
   have:∀ {fs:List (Str × Hm)} {kvs:Hu},FsR H2 fs kvs->V.ref l∈kvs.map (·.2)->H2 l≠none:=by
    intro fs
    induction fs with
    | nil=>
     intro kvs hr hb
     cases kvs with
     | nil=>simp at hb
     | cons _ _=>exact hr.elim
    | cons p fs ih=>
     intro kvs hr hb
     cases kvs with
     | nil=>exact hr.elim
     | cons q kvs=>
      obtain⟨_,⟨l',e,g⟩,h3⟩:=hr
      rw[map_cons,mem_cons]at hb
      rcases hb with hb | hb
      ·rw[e]at hb
       cases hb
       rw[g]
       exact fun z=>by cases z
      ·exact ih h3 hb
   exact this hD2.rel hm hl3
  have ldf:l≠df:=fun z=>by rw[z,hD2.files]at hl3; cases hl3
  have hl0:H l=none:=by
   cases e:H l with
   | none=>rfl
   | some o=>
    have ldk:l≠dk:=fun z=>by
     obtain⟨dx2,h12⟩:=hD2.self
     rw[z,h12]at hl3
     cases hl3
    rw[f2 l o (S1 _ _ e) ldk]at hl3
    cases hl3
  refine q3 D1 hs (kvs++[(Sum.inr n,V.ref l)]) _ (fun b o e nb=>?_) (fun b hb=>?_) ⟨⟨dx3,by rw[aE o1]; exact h13⟩,aC,?_,?_,?_⟩
  ·have nb1:b≠dk:=fun z=>nb (.inl z)
   have nb2:b≠df:=fun z=>nb (.inr (.inl z))
   rw[aE nb2]
   exact S3 _ _ (f2 b o (S1 _ _ e) nb1)
  ·rcases hb with hb | hb | hb
   ·exact .inl (.inl hb)
   ·exact .inl (.inr (.inl hb))
   ·rw[map_append,mem_append]at hb
    rcases hb with hb | hb
    ·exact .inl (.inr (.inr hb))
    ·have:b=l:=by simpa using hb
     subst this
     exact .inr hl0
  ·refine(hD3.rel.same fun b o e m=>?_).snoc ⟨l,rfl,by rw[aE ldf]; exact g3⟩
   rw[aE (fun z=>by rw[z]at m; exact o3 m)]
   exact e
  ·rw[map_append,List.nodup_append]
   refine⟨hD.nd,by simp,?_⟩
   intro a ha b hb
   have:b=V.ref l:=by simpa using hb
   subst this
   rintro rfl
   exact nlm ha
  ·show ((D1.fs++[(n,([]:Hm))]).map (·.1)).Nodup
   rw[map_append,List.nodup_append,fR hs]
   refine⟨hD.kn,by simp,?_⟩
   intro a ha b hb
   have:b=n:=by simpa using hb
   subst this
   rintro rfl
   exact B7 he ha
end
abbrev GB:Stmt:=bJ (top 62) 3
abbrev GA:Stmt:=bJ (top 62) 4
def bZ (fs:List (Str × Hm)) (n:Str) (e:Hm):List (Str × Hm):=fs.map fun p=>if p.1=n then (p.1,e) else p
def fJ (fs:List (Str × Hm)) (n:Str) (e:Hm):(bZ fs n e).map (·.1)=fs.map (·.1):=by
 unfold bZ
 rw[map_map]
 apply map_congr_left
 intro p _
 show (if p.1=n then (p.1,e) else p).1=p.1
 split <;> rfl
def Ah (h:n ∉ fs.map (·.1)):bZ fs n e=fs:=by
 unfold bZ
 have:fs.map (fun p=>if p.1=n then (p.1,e) else p)=fs.map id:=by
  apply map_congr_left
  intro p hp
  rw[if_neg (fun z=>h (by rw[<- z]; exact mem_map_of_mem hp))]
  rfl
 rw[this,map_id]
def iY (h:aH fs n=some bs):aH (bZ fs n e) n=some e:=by
 induction fs with
 | nil=>cases h
 | cons p fs ih=>
  unfold bZ
  rw[map_cons]
  by_cases z:p.1=n
  ·rw[if_pos z]
   simp [aH,z]
  ·rw[if_neg z]
   have h':aH fs n=some bs:=by simpa [aH,z] using h
   have:=ih h'
   unfold bZ at this
   simpa [aH,z] using this
def uU {kvs:Hu} {k:Key} {v:V} (h:eE kvs k=some v):v∈kvs.map (·.2):=by
 unfold eE at h
 rw[map_eq_some_iff]at h
 obtain⟨p,hp,rfl⟩:=h
 exact mem_map_of_mem (List.mem_of_find?_eq_some hp)
def FsR.wr {H:Hp} {n:Str} {l:Addr} {e:Hm}:∀ {fs:List (Str × Hm)} {kvs:Hu},FsR H fs kvs->(kvs.map (·.2)).Nodup->(fs.map (·.1)).Nodup->eE kvs (Sum.inr n)=some (.ref l)->FsR (upd H l (.lst (e.map V.int))) (bZ fs n e) kvs
 | [],[],_,_,_,h=>by cases h
 | p::fs,q::kvs,h,nd,kn,hv=>by
  obtain⟨h1,⟨l',e',g⟩,h3⟩:=h
  rw[map_cons,nodup_cons]at nd kn
  by_cases z:p.1=n
  ·have e1:eE (q::kvs) (Sum.inr n)=some q.2:=iS (by rw[h1,z])
   rw[e1]at hv
   have hq:q.2=V.ref l:=Option.some.inj hv
   have es:bZ (p::fs) n e=(p.1,e)::fs:=by
    show (if p.1=n then (p.1,e) else p)::bZ fs n e=_
    rw[if_pos z,Ah (by rw[<- z]; exact kn.1)]
   rw[es]
   refine⟨h1,⟨l,hq,aC⟩,h3.same fun b o eb m=>?_⟩
   rw[aE (fun y=>by rw[y,<- hq]at m; exact nd.1 m)]
   exact eb
  ·have e1:eE (q::kvs) (Sum.inr n)=eE kvs (Sum.inr n):=iT (by rw[h1,vY]; exact z)
   rw[e1]at hv
   have es:bZ (p::fs) n e=p::bZ fs n e:=by
    show (if p.1=n then (p.1,e) else p)::bZ fs n e=_
    rw[if_neg z]
   rw[es]
   have nl:l'≠l:=fun y=>by
    subst y
    exact nd.1 (by rw[e']; exact uU hv)
   exact⟨h1,⟨l',e',by rw[aE nl]; exact g⟩,FsR.wr h3 nd.2 kn.2 hv⟩
 | [],_::_,h,_,_,_=>h.elim
 | _::_,[],h,_,_,_=>h.elim
def Cg (hd:Den H d v) (hb:cG d=true):∃ a bs,d = .tuple bs/\v = .ref a/\H a=some (.tup ((a9 d).map V.int))/\(a9 d).length=bs.length:=by
 cases d with
 | tuple bs=>
  simp only[Den]at hd
  obtain⟨a,ys,rfl,ha,hbs⟩:=hd
  have ei:=kS hbs hb
  subst ei
  exact⟨a,bs,rfl,rfl,ha,length_map _⟩
 | _=>exact absurd hb (by simp [cG])
def eG (n:Str):Dk->Hm->Dk × Bool
 | D,[]=>(D,true)
 | D,b::bs=>match dQ D with
  | none=>(D,false)
  | some D1=>eG n ⟨bZ D1.fs n ((aH D1.fs n).getD []++[b]),D1.done,D1.left⟩ bs
inductive qC (C:Addr) (aa0:Addr) (aa5:Addr) (aa1:Addr) (aa6:Addr) (vs:Hw) (H:Hp) (Q:VK) (E:XK):Prop
 | mk:∀ (dk df:Addr) (kvs:Hu) (D:Dk) (v v2:V) (d d2:PyData),vs=[.ref dk,v,v2]->DiskAt C H dk df kvs D->Den H d v->kH d->Den H d2 v2->(∀ bs,d2 = .tuple bs->bs.length<=100000)->(∀ n bs,aH D.fs n=some bs->bs.length<=100000)->(eJ b8 8 d=false->∀ H',aD H H'->E (.ref aa0) none H')->(∀ n,d = .str n->eJ b8 8 d=true->(aH D.fs n=none->∀ H',aD H H'->E (.ref aa5) none H')/\
  (∀ bs,aH D.fs n=some bs->(cG d2=false->∀ H',aD H H'->E (.ref aa1) none H')/\(cG d2=true->∀ H',eI dk df kvs H H'->DiskAt C H' dk df kvs (eG n D (a9 d2)).1->((eG n D (a9 d2)).2=true->Q .non H')/\((eG n D (a9 d2)).2=false->E (.ref aa6) none H'))))->qC C aa0 aa5 aa1 aa6 vs H Q E
section
variable {P:Program} {w:World} {K:Hh} {mg:Hj} {base:Heap} {aa0 aa5 ab6 aa6 aa1 aa4 aa8:Addr}
def Fb (F:Fun K "drop" "Disk.drop" DE f fd) (T:(TxtD K mg aa0 aa5 ab6 aa6 aa1 aa4 aa8)) (ae3:(Method P w K mg base aa8 "check_file" 3 ["self", "name"] (iP aa8 aa0 aa5))) (ag0:(Method P w K mg base aa8 "count_step" 1 ["self"] (iO aa8 aa6))):(FnOk P w K mg base (CXE P w)) 4 f fd ["self","name"] (pG aa8 aa0 aa5 aa6):=by
 refine F.okY ["self","name"] fun cdv A outer s H vs Q E hr nD0 h=>?_
 obtain⟨dk,df,kvs,D,v,d,rfl,hD,hd,hn,qb,q⟩:=h
 refine⟨_,aA (bD (cP ae3 T.cl ((hr.mono (by decide))) bK (pv 0) (aJ (pv 1) aF)))
  (aA (bD (gH ag0 T.cl ((hr.mono (by decide))) bK (pv 0)))
  (aB (bD (qY K PySem.F.plainAttrs_dict PySem.F.slot_dict_pop PySem.F.type_dict_pop A3 (n5 (pv 0) ⋯) (aJ (pv 1) aF))))),?_⟩
 obtain⟨dx,h1⟩:=hD.self
 refine⟨_,rfl,dk,dx,_,rfl,h1,rfl,_,rfl,dk,df,kvs,D,v,d,rfl,hD,hd,hn,qb,fun n en hw=>?_⟩
 obtain⟨qm,q2⟩:=q n en hw
 subst en
 have ev:v = .str n:=by simpa only[Den] using hd
 subst ev
 refine⟨qm,fun bs hbs H1 S1=>?_⟩
 obtain⟨qs,q3⟩:=q2 bs hbs
 have hD1:=hD.same S1
 refine⟨_,rfl,dk,dx,_,rfl,S1 _ _ h1,rfl,dk,df,kvs,D,rfl,hD1,fun D1 hs H2 f2 hD2=>?_,fun hs=>qs hs H1 S1⟩
 obtain⟨dx2,h12⟩:=hD2.self
 have hv:=hD2.rel.val (n:=n)
 rw[fR hs,hbs]at hv
 obtain⟨v,hv1,_⟩:=hv
 refine⟨_,rfl,dk,_,dx2,_,_,rfl,h12,T.cl,T.ac5,rfl,.inr (.inr (.inl ⟨rfl,.inl ⟨kvs,hD2.files⟩⟩)),_,rfl,df,kvs,Sum.inr n,_,rfl,rfl,hD2.files,hv1,?_⟩
 obtain⟨o1,o2,o3⟩:=kF hD2
 have sub:(hX kvs (Sum.inr n)).Sublist kvs:=List.filter_sublist
 have subf:(jY D1.fs n).Sublist D1.fs:=List.filter_sublist
 refine q3 D1 hs (hX kvs (Sum.inr n)) _ (fun b o e nb=>?_) (fun b hb=>?_) ⟨⟨dx2,by rw[aE o1]; exact h12⟩,aC,?_,?_,?_⟩
 ·rw[aE (fun z=>nb (.inr (.inl z)))]
  exact f2 b o (S1 _ _ e) (fun z=>nb (.inl z))
 ·rcases hb with hb | hb | hb
  ·exact .inl (.inl hb)
  ·exact .inl (.inr (.inl hb))
  ·exact .inl (.inr (.inr ((sub.map _).subset hb)))
 ·refine(hD2.rel.drop (n:=n)).same fun b o e m=>?_
  rw[aE (fun z=>by rw[z]at m; exact o3 ((sub.map _).subset m))]
  exact e
 ·exact hD2.nd.sublist (sub.map _)
 ·exact hD2.kn.sublist (subf.map _)
def G9 {f:Addr} {fd:Hs} (F:Fun K "add" "Disk.add" GB f fd) (T:(TxtD K mg aa0 aa5 ab6 aa6 aa1 aa4 aa8)) (ac3:(Callee P w K mg base) "is_bytes" 2 ["thing"] fX) (ae3:(Method P w K mg base aa8 "check_file" 3 ["self", "name"] (iP aa8 aa0 aa5))) (ag0:(Method P w K mg base aa8 "count_step" 1 ["self"] (iO aa8 aa6))):(FnOk P w K mg base (CXE P w)) 4 f fd ["self","name","some"] (qC aa8 aa0 aa5 aa1 aa6):=by
 refine F.okY ["self","name","some","one"] fun cdv A outer s H vs Q E hr nD0 h=>?_
 obtain⟨dk,df,kvs,D,v,v2,d,d2,rfl,hD,hd,hn,hd2,hz2,hzf,qb,q⟩:=h
 refine⟨_,aA (bD (cP ae3 T.cl ((hr.mono (by decide))) bK (pv 0) (aJ (pv 1) aF)))
  (aA (a6 (cK (cU (a5 ac3 ((hr.mono (by decide))) bB (aJ (pv 2) aF))))
   (aB (dF eO ⋯ T.af2 ⋯ T.bc0 (aR cY aF)))
   aO)
  (aB (kD (sD hV) ⋯ (vH K (pv 2)) (cH (i := 3) nD0 ⋯ ⋯)
   (aA (bD (gH ag0 T.cl ((hr.mono (by decide))) bK (pv 0)))
   (aB (bD (qY K PySem.F.plainAttrs_list PySem.F.slot_list_append PySem.F.type_list_append lB (Ax (hu1 hr.units) (n5 (pv 0) ⋯) (pv 1) (fun _ _ => rfl)) (aJ (pv 3) aF)))))))),?_⟩
 obtain⟨dx,h1⟩:=hD.self
 refine⟨_,rfl,dk,dx,_,rfl,h1,rfl,_,rfl,dk,df,kvs,D,v,d,rfl,hD,hd,hn,qb,fun n en hw=>?_⟩
 obtain⟨qm,q2⟩:=q n en hw
 subst en
 have ev:v = .str n:=by simpa only[Den] using hd
 subst ev
 refine⟨qm,fun bs hbs H1 S1=>?_⟩
 obtain⟨qr,q3⟩:=q2 bs hbs
 refine⟨_,rfl,v2,d2,rfl,hd2.same S1,fun ds e=>le_trans (hz2 ds e) (by decide),fun H2 S2=>⟨_,rfl,?_⟩⟩
 have S02:aD H H2:=S1.trans S2
 cases hb:cG d2 with
 | false=>exact aV ⟨(by show 1<=sizeLine; decide),qr hb H2 S02⟩
 | true=>
 refine a7 ?_
 refine bG rfl ?_
 have q4:=q3 hb
 have hD2:=hD.same S02
 obtain⟨a2,bs2,rfl,rfl,ga2,l2⟩:=Cg hd2 hb
 have z2:=hz2 bs2 rfl
 have zf:=hzf n bs hbs
 generalize a9 (.tuple bs2)=ns at ga2 l2 q4
 have ga:H2 a2=some (.tup (ns.map V.int)):=S02 _ _ ga2
 refine⟨_,rfl,a2,rfl,⟨_,SqT.of ga⟩,?_⟩
 have sq0:SqT K (fun a=>if a=a2 then some (.tup (ns.map V.int)) else none) a2 (ns.map V.int):=SqT.of (if_pos rfl)
 have lm:(ns.map V.int).length=ns.length:=length_map _
 have na:¬ own dk df kvs a2:=by
  rintro (z | z | z)
  ·obtain⟨dx2,h12⟩:=hD2.self
   rw[z,h12]at ga
   cases ga
  ·rw[z,hD2.files]at ga
   cases ga
  ·have key:∀ {fs:List (Str × Hm)} {kvs:Hu},FsR H2 fs kvs->V.ref a2∈kvs.map (·.2)->∃ xs,H2 a2=some (.lst xs):=by
    intro fs
    induction fs with
    | nil=>
     intro kvs hr hb
     cases kvs with
     | nil=>simp at hb
     | cons _ _=>exact hr.elim
    | cons p fs ih=>
     intro kvs hr hb
     cases kvs with
     | nil=>exact hr.elim
     | cons q kvs=>
      obtain⟨_,⟨l',e,g⟩,h3⟩:=hr
      rw[map_cons,mem_cons]at hb
      rcases hb with hb | hb
      ·rw[e]at hb
       cases hb
       exact⟨_,g⟩
      ·exact ih h3 hb
   obtain⟨xs,e⟩:=key hD2.rel z
   rw[ga]at e
   cases e
 refine fZ (H0:=fun a=>if a=a2 then some (.tup (ns.map V.int)) else none) (u5 (K:=K) sq0) (fun i σ H'=>H' a2=some (.tup (ns.map V.int))/\eI dk df kvs H H'/\∃ Di bsi z3,DiskAt aa8 H' dk df kvs Di/\aH Di.fs n=some bsi/\bsi.length<=bs.length+i/\eG n D ns=eG n Di (ns.drop i)/\σ = [some (.ref dk),some (.str n),some (.ref a2),z3]) ?i0 ?kp ?_ ?_
 case i0=>exact⟨ga,fun b o e _=>S02 b o e,D,bs,none,hD2,hbs,le_refl _,rfl,rfl⟩
 case kp=>
  intro i σ H' h b o e
  by_cases z:b=a2
  ·subst z
   have e:some (HO.tup (ns.map V.int))=some o:=by simpa using e
   rw[<- e]
   exact h.1
  ·have e:none=some o:=by simpa [z] using e
   cases e
 ·rintro i x σ H5 H6 hi ⟨g5,f5,Di,bsi,z3,hDi,hlk,hlen,hadd,rfl⟩ s6 hx
  rw[lm]at hi
  rw[getElem?_map,getElem?_eq_getElem hi]at hx
  cases hx
  rw[drop_eq_getElem_cons hi]at hadd
  have hD6:=hDi.same s6
  obtain⟨dx6,h16⟩:=hD6.self
  have f6:eI dk df kvs H H6:=fun b o e nb=>s6 _ _ (f5 b o e nb)
  refine⟨_,rfl,dk,dx6,_,rfl,h16,rfl,dk,df,kvs,Di,rfl,hD6,fun D1 hs H7 f7 hD7=>?_,fun hs=>?_⟩
  ·obtain⟨dx7,h17⟩:=hD7.self
   have hv:=hD7.rel.val (n:=n)
   rw[fR hs,hlk]at hv
   obtain⟨v7,hv1,l,rfl,gl⟩:=hv
   have dg:gC H7 df (.str n) (some (.ref l)):=by
    have:=gC.k (k:=Sum.inr n) hD7.files
    rw[hv1]at this
    exact this
   refine⟨_,rfl,dk,_,dx7,_,_,rfl,h17,T.cl,T.ac5,rfl,_,rfl,df,_,rfl,dg,.inl ⟨rfl,_,SqL.of gl⟩,_,rfl,l,_,_,rfl,rfl,gl,?_,?_⟩
   ·rw[length_map]
    exact Nat.lt_of_le_of_lt (show _<=200000 by omega) (by decide)
   have hlm:=uU hv1
   have em:bsi.map V.int++[V.int ns[i]]=(bsi++[ns[i]]).map V.int:=by rw[map_append]; rfl
   rw[em]
   obtain⟨o1,o2,o3⟩:=kF hD7
   have nl:a2≠l:=fun z=>na (.inr (.inr (by rw[z]; exact hlm)))
   have nk:a2≠dk:=fun z=>na (.inl z)
   refine⟨?_,fun b o e nb=>?_,⟨bZ D1.fs n (bsi++[ns[i]]),D1.done,D1.left⟩,bsi++[ns[i]],_,⟨⟨dx7,?_⟩,?_,hD7.rel.wr hD7.nd hD7.kn hv1,hD7.nd,?_⟩,?_,?_,?_,rfl⟩
   ·rw[aE nl]
    exact f7 _ _ (s6 _ _ g5) nk
   ·rw[aE (fun z=>nb (.inr (.inr (by rw[z]; exact hlm))))]
    exact f7 _ _ (f6 b o e nb) (fun z=>nb (.inl z))
   ·rw[aE (fun z=>by rw[<- z]at hlm; exact o2 hlm)]
    exact h17
   ·rw[aE (fun z=>by rw[<- z]at hlm; exact o3 hlm)]
    exact hD7.files
   ·show ((bZ D1.fs n (bsi++[ns[i]])).map (·.1)).Nodup
    rw[fJ]
    exact hD7.kn
   ·show aH (bZ D1.fs n (bsi++[ns[i]])) n=_
    rw[fR hs]
    exact iY hlk
   ·rw[length_append]
    show bsi.length+1<=_
    omega
   ·rw[hadd]
    show (match dQ Di with | none=>(Di,false) | some D1=>eG n ⟨bZ D1.fs n ((aH D1.fs n).getD []++[ns[i]]),D1.done,D1.left⟩ (ns.drop (i+1)))=_
    rw[hs]
    try dsimp only
    rw[fR hs,hlk]
    rfl
  ·have e1:eG n D ns=(Di,false):=by
    rw[hadd]
    show (match dQ Di with | none=>(Di,false) | some D1=>eG n ⟨bZ D1.fs n ((aH D1.fs n).getD []++[ns[i]]),D1.done,D1.left⟩ (ns.drop (i+1)))=_
    rw[hs]
   rw[e1]at q4
   exact(q4 H6 f6 hD6).2 rfl
 ·rintro σ H5 ⟨g5,f5,Di,bsi,z3,hDi,hlk,hlen,hadd,rfl⟩
  rw[lm,drop_of_length_le (le_refl _)]at hadd
  have e1:eG n D ns=(Di,true):=hadd
  rw[e1]at q4
  exact(q4 H5 f5 hDi).1 rfl
end
def E4:PyData->Nat
 | .int n=>n.toNat
 | _=>0
inductive vA (C:Addr) (aa0:Addr) (aa5:Addr) (aa4:Addr) (aa6:Addr) (vs:Hw) (H:Hp) (Q:VK) (E:XK):Prop
 | mk:∀ (dk df:Addr) (kvs:Hu) (D:Dk) (v v2:V) (d d2:PyData),vs=[.ref dk,v,v2]->DiskAt C H dk df kvs D->Den H d v->kH d->Den H d2 v2->D.fs.length<1000->(eJ b8 8 d=false->∀ H',aD H H'->E (.ref aa0) none H')->(∀ n,d = .str n->eJ b8 8 d=true->(aH D.fs n=none->∀ H',aD H H'->E (.ref aa5) none H')/\
  (∀ bs,aH D.fs n=some bs->(bI 0 bs.length d2=false->∀ H',aD H H'->E (.ref aa4) none H')/\(bI 0 bs.length d2=true->(dQ D=none->∀ H',aD H H'->E (.ref aa6) none H')/\
   (∀ D1,dQ D=some D1->∀ kvs' H',eI dk df kvs H H'->i8 dk df kvs kvs' H->DiskAt C H' dk df kvs' ⟨bZ D1.fs n (bs.take (E4 d2)),D1.done,D1.left⟩->Q .non H'))))->vA C aa0 aa5 aa4 aa6 vs H Q E
def FsR.mapP (hv:rS H v e):∀ {fs:List (Str × Hm)} {kvs:Hu},FsR H fs kvs->FsR H (bZ fs n e) (kvs.map fun kv=>if kv.1=Sum.inr n then (kv.1,v) else kv)
 | [],[],_=>trivial
 | p::fs,q::kvs,h=>by
  obtain⟨h1,h2,h3⟩:=h
  show FsR H ((if p.1=n then (p.1,e) else p)::bZ fs n e) _
  rw[map_cons]
  by_cases z:p.1=n
  ·rw[if_pos z,if_pos (show q.1=Sum.inr n by rw[h1,z])]
   exact⟨h1,hv,FsR.mapP hv h3⟩
  ·rw[if_neg z,if_neg (show ¬ q.1=Sum.inr n by rw[h1,vY]; exact z)]
   exact⟨h1,h2,FsR.mapP hv h3⟩
 | [],_::_,h=>h.elim
 | _::_,[],h=>h.elim
def DL:∀ {kvs:Hu},(kvs.map (·.2)).Nodup->(kvs.map (·.1)).Nodup->v ∉ kvs.map (·.2)->((kvs.map fun kv=>if kv.1=Sum.inr n then (kv.1,v) else kv).map (·.2)).Nodup
 | [],_,_,_=>List.nodup_nil
 | q::kvs,h1,h2,h3=>by
  rw[map_cons,nodup_cons]at h1 h2
  have h3':v ∉ kvs.map (·.2):=fun m=>h3 (by rw[map_cons]; exact mem_cons_of_mem _ m)
  have ih:=DL (n:=n) h1.2 h2.2 h3'
  rw[map_cons,map_cons,nodup_cons]
  by_cases z:q.1=Sum.inr n
  ·have e:(kvs.map fun kv=>if kv.1=Sum.inr n then (kv.1,v) else kv)=kvs.map id:=by
    apply map_congr_left
    intro p hp
    rw[if_neg (fun y=>h2.1 (by rw[z,<- y]; exact mem_map_of_mem hp))]
    rfl
   rw[if_pos z,e,map_id]
   exact⟨h3',h1.2⟩
  ·rw[if_neg z]
   refine⟨fun m=>?_,ih⟩
   rw[mem_map]at m
   obtain⟨p,hp,e⟩:=m
   rw[mem_map]at hp
   obtain⟨r,hr,rfl⟩:=hp
   by_cases y:r.1=Sum.inr n
   ·rw[if_pos y]at e
    exact h3 (by rw[map_cons,<- e]; exact mem_cons_self)
   ·rw[if_neg y]at e
    exact h1.1 (by rw[<- e]; exact mem_map_of_mem hr)
def kN:∀ {fs:List (Str × Hm)} {kvs:Hu},FsR H fs kvs->∀ {b:Addr},V.ref b∈kvs.map (·.2)->∃ xs,H b=some (.lst xs)
 | [],[],_,b,h=>by simp at h
 | p::fs,q::kvs,hr,b,hb=>by
  obtain⟨_,⟨l',e,g⟩,h3⟩:=hr
  rw[map_cons,mem_cons]at hb
  rcases hb with hb | hb
  ·rw[e]at hb
   cases hb
   exact⟨_,g⟩
  ·exact kN h3 hb
 | [],_::_,h,_,_=>h.elim
 | _::_,[],h,_,_=>h.elim
section
variable {P:Program} {w:World} {K:Hh} {mg:Hj} {base:Heap} {aa0 aa5 ab6 aa6 aa1 aa4 aa8:Addr}
def G8 {f:Addr} {fd:Hs} (F:Fun K "cut" "Disk.cut" GA f fd) (T:(TxtD K mg aa0 aa5 ab6 aa6 aa1 aa4 aa8)) (ab2:(Callee P w K mg base "is_number" 1 ["thing", "least", "most"] jB)) (ae3:(Method P w K mg base aa8 "check_file" 3 ["self", "name"] (iP aa8 aa0 aa5))) (ag0:(Method P w K mg base aa8 "count_step" 1 ["self"] (iO aa8 aa6))):(FnOk P w K mg base (CXE P w)) 4 f fd ["self","name","size"] (vA aa8 aa0 aa5 aa4 aa6):=by
 refine F.okY ["self","name","size"] fun cdv A outer s H vs Q E hr nD0 h=>?_
 obtain⟨dk,df,kvs,D,v,v2,d,d2,rfl,hD,hd,hn,hd2,hfl,qb,q⟩:=h
 refine⟨_,aA (bD (cP ae3 T.cl ((hr.mono (by decide))) bK (pv 0) (aJ (pv 1) aF)))
  (aA (a6 (cK (cU (a5 ab2 ((hr.mono (by decide))) bB (aJ (pv 2) (aR aG (cC (bE (cV K) ⋯ T.ad0 fO (aP (Ax (hu1 hr.units) (n5 (pv 0) ⋯) (pv 1) (fun _ _ => rfl)) aF)) aF))))))
   (aB (dF eO ⋯ T.ac9 ⋯ T.am0 (aR cY aF)))
   aO)
  (aA (bD (gH ag0 T.cl ((hr.mono (by decide))) bK (pv 0)))
  (aB (kZ (hu1 hr.units) (n5 (pv 0) ⋯) (pv 1) (fA (qE K) (Ax (hu1 hr.units) (n5 (pv 0) ⋯) (pv 1) (fun _ _ => rfl)) iE (fU (pv 2))) ⋯)))),?_⟩
 obtain⟨dx,h1⟩:=hD.self
 refine⟨_,rfl,dk,dx,_,rfl,h1,rfl,_,rfl,dk,df,kvs,D,v,d,rfl,hD,hd,hn,qb,fun n en hw=>?_⟩
 obtain⟨qm,q2⟩:=q n en hw
 subst en
 have ev:v = .str n:=by simpa only[Den] using hd
 subst ev
 refine⟨qm,fun bs hbs H1 S1=>?_⟩
 obtain⟨qr,q3⟩:=q2 bs hbs
 have hD1:=hD.same S1
 have hv:=hD1.rel.val (n:=n)
 rw[hbs]at hv
 obtain⟨v1,hv1,l,rfl,gl⟩:=hv
 have dg:gC H1 df (.str n) (some (.ref l)):=by
  have:=gC.k (k:=Sum.inr n) hD1.files
  rw[hv1]at this
  exact this
 refine⟨_,rfl,_,rfl,dk,_,dx,_,_,rfl,S1 _ _ h1,T.cl,T.ac5,rfl,_,rfl,df,_,rfl,dg,l,_,rfl,.inl (SqL.of gl),v2,d2,0,_,rfl,hd2.same S1,_,rfl,?_⟩
 rw[length_map]
 cases hb:bI 0 bs.length d2 with
 | false=>exact aV ⟨(by show 1<=sizeLine; decide),qr hb H1 S1⟩
 | true=>
 refine a7 ?_
 refine bG rfl ?_
 obtain⟨qs,q4⟩:=q3 hb
 obtain⟨k,ek,rfl,kb⟩:∃ k:Nat,d2 = .int (k:Int)/\v2 = .int (k:Int)/\k<=bs.length:=by
  cases d2 with
  | int i=>
   simp only[bI,and_eq_true,decide_eq_true_eq]at hb
   obtain⟨k,rfl⟩:=Int.eq_ofNat_of_zero_le hb.1
   exact⟨k,rfl,by simpa only[Den] using hd2,by omega⟩
  | _=>exact absurd hb (by simp [bI])
 subst ek
 refine⟨_,rfl,dk,dx,_,rfl,S1 _ _ h1,rfl,dk,df,kvs,D,rfl,hD1,fun D1 hs H2 f2 hD2=>?_,fun hs=>qs hs H1 S1⟩
 obtain⟨dx2,h12⟩:=hD2.self
 obtain⟨o1,o2,o3⟩:=kF hD2
 have hlm:=uU hv1
 have gl2:H2 l=some (.lst (bs.map V.int)):=f2 _ _ gl (fun z=>by rw[z]at hlm; exact o2 hlm)
 have dg2:gC H2 df (.str n) (some (.ref l)):=by
  have:=gC.k (k:=Sum.inr n) hD2.files
  rw[hv1]at this
  exact this
 refine⟨_,rfl,dk,_,dx2,_,_,rfl,h12,T.cl,T.ac5,rfl,_,rfl,df,_,rfl,dg2,_,rfl,_,rfl,l,_,rfl,SqL.of gl2,fun l3 hl3=>?_⟩
 rw[AQ (by rw[length_map]; exact kb),<- List.map_take]
 have S3:=aI (o:=.lst ((bs.take k).map V.int)) hl3
 generalize eH3:upd H2 l3 (.lst ((bs.take k).map V.int))=H3 at S3 ⊢
 have g3:H3 l3=some (.lst ((bs.take k).map V.int)):=by rw[<- eH3]; exact aC
 have hD3:=hD2.same S3
 obtain⟨dx3,h13⟩:=hD3.self
 have hkl:kvs.length<sizeLine:=by rw[hD.rel.len]; exact lt_trans hfl (by decide)
 refine⟨_,rfl,dk,_,dx3,_,_,rfl,h13,T.cl,T.ac5,rfl,_,rfl,df,_,rfl,sQ.k (k:=Sum.inr n) hD3.files hkl,?_⟩
 have epk:iA kvs (Sum.inr n) (V.ref l3)=kvs.map fun kv=>if kv.1=Sum.inr n then (kv.1,V.ref l3) else kv:=by
  unfold iA
  rw[if_pos (by rw[l7,hv1]; rfl)]
 rw[epk]
 have nlm:V.ref l3 ∉ kvs.map (·.2):=fun hm=>by
  obtain⟨xs,e⟩:=kN hD2.rel hm
  rw[hl3]at e
  cases e
 have ldf:l3≠df:=fun z=>by rw[z,hD2.files]at hl3; cases hl3
 have ldk:l3≠dk:=fun z=>by rw[z,h12]at hl3; cases hl3
 have hl0:H l3=none:=by
  cases e:H l3 with
  | none=>rfl
  | some o=>
   rw[f2 l3 o (S1 _ _ e) ldk]at hl3
   cases hl3
 refine q4 D1 hs _ _ (fun b o e nb=>?_) (fun b hb'=>?_) ⟨⟨dx3,by rw[aE o1]; exact h13⟩,aC,?_,?_,?_⟩
 ·rw[aE (fun z=>nb (.inr (.inl z)))]
  exact S3 _ _ (f2 b o (S1 _ _ e) (fun z=>nb (.inl z)))
 ·rcases hb' with hb' | hb' | hb'
  ·exact .inl (.inl hb')
  ·exact .inl (.inr (.inl hb'))
  ·rw[mem_map]at hb'
   obtain⟨p,hp,e⟩:=hb'
   rw[mem_map]at hp
   obtain⟨r,hr',rfl⟩:=hp
   by_cases y:r.1=Sum.inr n
   ·rw[if_pos y]at e
    have:l3=b:=V.ref.inj e
    rw[<- this]
    exact .inr hl0
   ·rw[if_neg y]at e
    exact .inl (.inr (.inr (by rw[<- e]; exact mem_map_of_mem hr')))
 ·have base3:FsR (upd H3 df (.dK (kvs.map fun kv=>if kv.1=Sum.inr n then (kv.1,V.ref l3) else kv))) D1.fs kvs:=hD3.rel.same fun b o e m=>by
   rw[aE (fun z=>by rw[z]at m; exact o3 m)]
   exact e
  exact base3.mapP ⟨l3,rfl,by rw[aE ldf]; exact g3⟩
 ·refine DL hD.nd ?_ nlm
  rw[hD.rel.keys]
  exact List.Pairwise.map Sum.inr (fun a b h e=>h (Sum.inr.inj e)) hD.kn
 ·show ((bZ D1.fs n (bs.take k)).map (·.1)).Nodup
  rw[fJ]
  exact hD2.kn
end
structure Ad where
 bW:Addr
 badRow:Addr
 broken:Addr
 book:Addr
 badName:Addr
 missing:Addr
 there:Addr
 stopped:Addr
 badNumber:Addr
 disk:Addr
 queue:Addr
 badSettings:Addr
 badBody:Addr
 badHand:Addr
 notHeld:Addr
structure TxtQ (K:Hh) (mg:Hj) (A:Ad):Prop where
 ad0:mg "len" = none
 au0:mg "int" = none
 aj2:mg "sorted" = none
 aw6:mg "sum" = none
 ae2:cR K A.broken=true
 an8:mg "Broken" = some (.ref A.broken)
 af6:Cls K A.book
 ac1:Cls K A.disk
 aa2:Cls K A.queue
 bg7:mg "min" = none
 ay5:∃ t,mg "LARGEST_MOST" = some (.int 2000 t)
 ay6:∃ t,mg "LONGEST_HOLD" = some (.int 99 t)
 aw9:∃ t,mg "HIGHEST_TRIES" = some (.int 9 t)
 bg2:∃ t,mg "HAND_SIGNS" = some (.str "abcdefghijklmnopqrstuvwxyz" t)
 bf9:∃ t,mg "LONGEST_HAND" = some (.int 6 t)
 af3:∃ t,mg "HIGHEST_NUMBER" = some (.int 999999 t)
 ak3:∃ t,mg "HIGHEST_TIMES" = some (.int 9 t)
 af0:cR K A.badSettings=true
 bb4:mg "BadSettings" = some (.ref A.badSettings)
 ah7:cR K A.badBody=true
 ba1:mg "BadBody" = some (.ref A.badBody)
 aq4:cR K A.badHand=true
 bg5:mg "BadHand" = some (.ref A.badHand)
 aq5:cR K A.notHeld=true
 bg6:mg "NotHeld" = some (.ref A.notHeld)
 ab3:cO K A.book "upcoming"
 aq6:cO K A.queue "disk"
 be8:cO K A.queue "most"
 bg3:cO K A.queue "hold"
 bg0:cO K A.queue "tries"
 ah8:cO K A.queue "book"
 bg1:cO K A.queue "first"
 am6:cO K A.queue "last"
 ak9:cO K A.queue "writing"
 be9:cO K A.queue "holders"
 bg4:cO K A.queue "now"
 ab8:mg "isinstance" = none
 ag9:mg "tuple" = none
 ae7:mg "enumerate" = none
 ah0:mg "range" = none
 aq1:mg "list" = none
 ah1:∃ t,mg "LARGEST_DEAL" = some (.int 9 t)
 ac9:cR K A.badNumber=true
 am0:mg "BadNumber" = some (.ref A.badNumber)
def aM (n:Int):Str:=("s" : Str)++Str.ofString (toString n)
abbrev j7:Stmt:=top 48
abbrev mK:Stmt:=top 49
def cX (n:Int):Prop:=0<=n/\n<10000000
def pI (h:cX n):1<=(Str.ofString (toString n)).length/\(Str.ofString (toString n)).length<=7:=⟨PySem.W.KLn.one_le h.1,PyProof.Rows.toString_length_le h.1 (by decide) h.2⟩
def EC (m:Nat):Builtin.Str.strSliceIndices (some 1) none 1 (m+1)=(List.range m).map (· + 1):=by
 have e1:Builtin.Str.strSliceIndices (some 1) none 1 (m+1)=sliceRange (max 0 (min 1 ((m+1:Nat):Int))) ((m+1:Nat):Int) 1:=rfl
 have e2:(max 0 (min 1 ((m+1:Nat):Int)):Int)=1:=by omega
 rw[e1,e2]
 unfold sliceRange
 simp only[show (1:Int) > 0 by decide,if_true]
 have e3:(if (1:Int)<((m+1:Nat):Int) then (((m+1:Nat):Int) - 1+1 - 1) / 1 else 0)=(m:Int):=by
  split <;> omega
 rw[e3,Int.toNat_natCast]
 apply map_congr_left
 intro k _
 omega
def zE (c:Nat):∀ cs:List Nat,((List.range cs.length).map (· + 1)).filterMap (fun i=>(c::cs)[i]?)=cs
 | cs=>by
  rw[List.filterMap_map]
  have:((fun i=>(c::cs)[i]?) ∘ fun x=>x+1)=fun i=>cs[i]?:=by
   funext i
   rfl
  rw[this]
  apply ext_getElem?
  intro i
  have key:∀ (l:List Nat) (k:Nat),k<=l.length->(List.range k).filterMap (fun i=>l[i]?)=l.take k:=by
   intro l k
   induction k with
   | zero=>intro _; rfl
   | succ k ih=>
    intro hk
    rw[range_succ,List.filterMap_append,ih (by omega),take_succ,getElem?_eq_getElem (by omega)]
    simp [getElem?_eq_getElem (show k<l.length by omega)]
  rw[key cs cs.length (le_refl _),take_length]
def zJ (h:x.cps.toList=c::cs):Txt.slice x (some 1) none=⟨cs.toArray⟩:=by
 have hl:x.length=cs.length+1:=by
  show x.cps.size=_
  rw[<- length_toList,h]
  rfl
 unfold Txt.slice
 rw[hl,EC,if_neg (by simp)]
 have e:(fun i:Nat=>x.cps[i]?)=fun i=>(c::cs)[i]?:=by
  funext i
  rw[<- Array.getElem?_toList,h]
 rw[e,zE]
def rD {n:Int} (h:0<=n):∀ c∈(Str.ofString (toString n)).cps.toList,48<=c/\c<=57:=by
 obtain⟨m,rfl⟩:=Int.eq_ofNat_of_zero_le h
 intro c hc
 rw[PySem.W.KIN.signs_num]at hc
 obtain⟨ch,hch,e⟩:=mem_map.mp hc
 have r:=PyProof.Rows.digit_range (Nat.isDigit_of_mem_toDigits (by decide) (by decide) hch)
 rw[<- e]
 exact r
def Ai (n:Int):(aM n).cps.toList=115::(Str.ofString (toString n)).cps.toList:=by
 show ((("s" : Str)).cps++(Str.ofString (toString n)).cps).toList=_
 rw[Array.toList_append]
 rfl
def nS (n:Int):Txt.slice (aM n) (some 1) none=Str.ofString (toString n):=by
 rw[zJ (Ai n),Array.toArray_toList]
def Bd {n:Int} (h:cX n):Txt.isdigit (Str.ofString (toString n))=true:=by
 have hd:∀ c:Nat,c<58->48<=c->Unicode.isDigit c=true:=by decide +kernel
 unfold Txt.isdigit
 rw[decide_eq_true (show (Str.ofString (toString n)).length > 0 from (pI h).1),Bool.true_and,<- Array.all_toList,all_eq_true]
 intro c hc
 obtain⟨h1,h2⟩:=rD h.1 c hc
 exact hd c (by omega) h1
def vF (h:cX n):(aM n).length<=8:=by
 have:=(pI h).2
 unfold aM
 rw[strLen_append]
 show 1+_<=8
 omega
inductive gE (vs:Hw) (H:Hp) (Q:VK) (x_3:XK):Prop
 | mk:∀ n:Int,vs=[.int n]->cX n->Q (.str (aM n)) H->gE vs H Q x_3
inductive iM (vs:Hw) (H:Hp) (Q:VK) (x_3:XK):Prop
 | mk:∀ n:Int,vs=[.str (aM n)]->cX n->Q (.int n) H->iM vs H Q x_3
section
variable {P:Program} {w:World} {K:Hh} {mg:Hj} {base:Heap} {A:Ad}
def pA (F:Fun K "segment_name" "segment_name" j7 f fd):(FnOk P w K mg base (CXE P w)) 1 f fd ["segment"] gE:=by
 refine F.okY ["segment"] fun cdv A outer s H vs Q E hr nD0 h=>?_
 obtain⟨n,rfl,⟨h0,h1⟩,q⟩:=h
 refine⟨_,aB (aX (pe_fw (pv 0))),?_⟩
 exact⟨_,rfl,n,rfl,h0,Int.lt_of_lt_of_le h1 (by decide),q⟩
def sE {f:Addr} {fd:Hs} (F:Fun K "segment_of" "segment_of" mK f fd) (T:TxtQ K mg A) (ab0:(Callee P w K mg base "segment_name" 1 ["segment"] gE)):(FnOk P w K mg base (CXE P w)) 2 f fd ["name"] iM:=by
 refine F.okY ["name","figures"] fun cdv A outer s H vs Q E hr nD0 h=>?_
 obtain⟨n,rfl,hn,q⟩:=h
 refine⟨_,aA (aT (i:=1) nD0 ⋯ ⋯ (fA Gj (pv 0) (fU aG) iE))
  (aA (a6 (kB (cK (cU (FR K PySem.F.plainAttrs_str PySem.F.slot_str_isdigit PySem.F.type_str_isdigit AF (pv 1)))) (hJ (bA rA (pv 0) (a5 ab0 ((hr.mono (by decide))) bB (cC (gT uN ⋯ T.au0 wH (aJ (pv 1) aF)) aF)) (bF _)))).pt
   (aB (dF eO ⋯ T.ae2 ⋯ T.an8 (aR cY aF)))
   aO)
  (aB (aX (gT uN ⋯ T.au0 wH (aJ (pv 1) aF))))),?_⟩
 have hl:=pI hn
 have hr1:=PySem.W.KIN.num_reads hn.1 (Int.lt_of_lt_of_le hn.2 (by decide))
 refine⟨_,rfl,_,rfl,_,rfl,le_trans (vF hn) (by decide),?_⟩
 rw[nS]
 refine⟨_,rfl,rfl,_,rfl,rfl,_,rfl,?_⟩
 rw[Bd hn]
 refine a7 ?_
 refine⟨_,rfl,_,rfl,_,n,rfl,hr1,le_trans hl.2 (by decide),n,rfl,hn,rfl,_,rfl,?_⟩
 rw[jQ rfl]
 exact a7 (bG rfl ⟨_,rfl,_,n,rfl,hr1,le_trans hl.2 (by decide),q⟩)
end
abbrev lJ:Stmt:=top 50
def jP (ms:Hm):Prop:=ms=[]\/ms.getLastD 0 - ms.headD 0+1=(ms.length:Int)
inductive eV (A:Ad) (vs:Hw) (H:Hp) (Q:VK) (E:XK):Prop
 | mk:∀ (dk df:Addr) (kvs:Hu) (D:Dk) (ns:Hm),vs=[.ref dk]->DiskAt A.disk H dk df kvs D->D.fs.map (·.1)=ns.map aM->(∀ n∈ns,cX n)->ns.length<64->(∀ ms,List.Perm ms ns->ms.Pairwise (· <= ·)->jP ms->∀ p H',aD H H'->H p=none->H' p=some (.lst (ms.map V.int))->Q (.ref p) H')->(∀ ms,List.Perm ms ns->ms.Pairwise (· <= ·)->¬ jP ms->∀ H',aD H H'->E (.ref A.broken) none H')->eV A vs H Q E
def DU {α β : Type} (f:α->β):∀ {ns:List α} {ts:List β},List.Perm ts (ns.map f)->∃ ms,List.Perm ms ns/\ts=ms.map f:=by
 intro ns
 induction ns with
 | nil=>
  intro ts h
  exact⟨[],List.Perm.refl _,List.Perm.eq_nil h⟩
 | cons n ns ih=>
  intro ts h
  have hm:f n∈ts:=h.mem_iff.mpr mem_cons_self
  obtain⟨a,b,rfl⟩:=List.append_of_mem hm
  have h1:List.Perm (f n::(a++b)) (f n::ns.map f):=List.perm_middle.symm.trans h
  obtain⟨ms,p,e⟩:=ih (List.perm_cons (f n) |>.mp h1)
  have el:ms=ms.take a.length++ms.drop a.length:=(List.take_append_drop _ _).symm
  have ea:a=(ms.take a.length).map f/\b=(ms.drop a.length).map f:=by
   have e2:=e
   rw[el,map_append]at e2
   refine List.append_inj e2 ?_
   rw[length_map,length_take]
   have:=congrArg List.length e
   rw[length_append,length_map]at this
   omega
  refine⟨ms.take a.length++n::ms.drop a.length,?_,?_⟩
  ·refine List.perm_middle.trans ?_
   rw[List.take_append_drop]
   exact p.cons n
  ·rw[map_append,map_cons,<- ea.1,<- ea.2]
def pJ (h:ms≠[]):atI (ms.map V.int) (-1)=some (.int (ms.getLastD 0)):=by
 obtain⟨l,x,rfl⟩:∃ l x,ms=l++[x]:=⟨ms.dropLast,ms.getLast h,(List.dropLast_concat_getLast h).symm⟩
 rw[map_append,List.getLastD_concat]
 exact yY _ _
section
variable {P:Program} {w:World} {K:Hh} {mg:Hj} {base:Heap} {A:Ad}
def rB (F:Fun K "segments_on" "segments_on" lJ f fd) (T:TxtQ K mg A) (aj4:(Callee P w K mg base) "segment_of" 2 ["name"] iM) (aw2:(Method P w K mg base) A.disk "names" 1 ["self"] (pW A.disk)):(FnOk P w K mg base (CXE P w)) 3 f fd ["disk"] (eV A):=by
 refine F.okY ["disk","segments"] fun cdv A' outer s H vs Q E hr nD0 h=>?_
 obtain⟨dk,df,kvs,D,ns,rfl,hD,hn,hok,hl,q,qe⟩:=h
 refine⟨_,aA (aT (i:=1) nD0 ⋯ ⋯ (bE sP ⋯ T.aj2 oJ (dR (fB ["name"] [] ⋯ (eM K (gH aw2 T.ac1 ((hr.mono (by decide))) bB (pv 0))) (fun C s2 H2 ex=>(cH (i:=0) (show List.Nodup (["name"]:Ho) by decide +kernel) ⋯ (Or.inl ⋯))) (fun C s2 H2 ex => FK) (fun C s2 H2 ex=>(a5 aj4 ((hr.mono (by decide))) bB (aJ (pv 0) aF)))) aF)))
  (aA (a6 (lX (hU K (pv 1)) (jI (bA rA (aY cT (aY qZ (dO (c6 K) (pv 1) (Aw uW aG) (fun _ _ => rfl)) (dO (c6 K) (pv 1) aG (fun _ _=>rfl))) aG) (bE (cV K) ⋯ T.ad0 fO (aJ (pv 1) aF)) (bF _)))).pt
   (aB (dF eO ⋯ T.ae2 ⋯ T.an8 (aR cY aF)))
   aO)
  (aB (aX (pv 1)))),?_⟩
 obtain⟨dx,h1⟩:=hD.self
 have ll:=congrArg List.length hn
 rw[length_map,length_map]at ll
 refine⟨_,rfl,dk,dx,_,rfl,h1,rfl,dk,df,kvs,D,rfl,hD,by omega,fun p1 ts perm1 so1 H1 S1 g1 hp1=>?_⟩
 rw[hn]at perm1
 obtain⟨ks,permk,rfl⟩:=DU aM perm1
 have lk:=permk.length_eq
 refine⟨p1,rfl,⟨_,SqL.of g1⟩,?_⟩
 refine dH (eK (K:=K) (SqL.of g1)) (by rw[length_map,length_map,lk]; exact le_trans (show _<=1000 by omega) (by decide)) (fun i y _=>∃ n,ks[i]? = some n/\y = .int n) (fun _ _ _ _ _ h=>h) (fun σ=>∃ z,σ = [z]) ?z0 ?_ ?_
 case z0=>exact⟨none,rfl⟩
 ·intro i x σc H3 hi hσ s3 hx Q' hQ'
  obtain⟨z,rfl⟩:=hσ
  rw[getElem?_map,getElem?_map]at hx
  cases e:ks[i]? with
  | none=>rw[e]at hx; cases hx
  | some n=>
   rw[e]at hx
   cases hx
   exact⟨_,rfl,n,rfl,hok n (permk.mem_iff.mp (mem_of_getElem? e)),hQ' _ _ _ ⟨_,rfl⟩ (aD.refl _) ⟨n,e,rfl⟩⟩
 intro D2 ys H2 hD2 S2 gD hlen hR
 have ey:ys=ks.map V.int:=by
  apply ext_getElem?
  intro j
  cases ej:ys[j]? with
  | none=>
   have h1:=List.getElem?_eq_none_iff.mp ej
   rw[List.getElem?_eq_none_iff.mpr]
   rw[length_map]
   rw[length_map,length_map]at hlen
   omega
  | some y=>
   obtain⟨n,e1,rfl⟩:=hR j y ej
   rw[getElem?_map,e1]
   rfl
 subst ey
 refine⟨D2,ks,rfl,gD,by omega,fun p ms permm pwm hp=>?_⟩
 have T3:=aI (o:=.lst (ms.map V.int)) hp
 have t3:upd H2 p (.lst (ms.map V.int)) p=some (.lst (ms.map V.int)):=aC
 generalize upd H2 p (.lst (ms.map V.int))=H3 at T3 t3 ⊢
 have perm:=permm.trans permk
 have S03:=S1.trans (S2.trans T3)
 have hp0:H p=none:=by
  cases e:H p with
  | none=>rfl
  | some o=>exact absurd ((S1.trans S2) _ _ e) (by rw[hp]; intro z; cases z)
 refine⟨_,rfl,p,_,rfl,SqL.of t3,?_⟩
 try dsimp only
 by_cases hm:ms=[]
 ·subst hm
  refine a7 (a7 (bG rfl ?_))
  exact⟨_,rfl,q _ perm pwm (.inl rfl) p H3 S03 hp0 t3⟩
 obtain⟨x,ms',em⟩:=List.exists_cons_of_ne_nil hm
 have hem:(!(ms.map V.int).isEmpty)=true:=by rw[em]; rfl
 rw[hem]
 refine aV ?_
 refine⟨_,rfl,1,rfl,p,_,_,.int (ms.getLastD 0),rfl,rfl,SqL.of t3,pJ hm,_,rfl,p,_,_,.int (ms.headD 0),rfl,rfl,SqL.of t3,cJ (by decide) (by rw[em]; rfl),_,_,rfl,rfl,_,_,rfl,rfl,_,rfl,p,_,rfl,.inl (SqL.of t3),rfl,_,rfl,?_⟩
 rw[length_map]
 by_cases hg:ms.getLastD 0 - ms.headD 0+1=(ms.length:Int)
 ·rw[decide_eq_true (show V.int (ms.getLastD 0 - ms.headD 0+1)=V.int (ms.length:Int) by rw[hg])]
  refine a7 (bG rfl ?_)
  exact⟨_,rfl,q _ perm pwm (.inr hg) p H3 S03 hp0 t3⟩
 ·rw[nC hg]
  refine aV ?_
  exact⟨(by show 1<=sizeLine; decide),qe _ perm pwm (fun z=>z.elim hm hg) H3 S03⟩
end
abbrev tI:Stmt:=top 51
def a4 (rs:Hy):Hy:=(rs.reverse.dropWhile fun r=>decide (r.1=("part" : Str))).reverse
def HX:∀ (rs:Hy) (k:Nat),k<=rs.length->(∀ j r,k<=j->rs[j]? = some r->r.1 = "part")->(∀ r,k≠0->rs[k - 1]? = some r->r.1 ≠ "part")->rs.take k=a4 rs:=by
 intro rs k hk h1 h2
 have e:rs.reverse=(rs.drop k).reverse++(rs.take k).reverse:=by
  rw[<- List.reverse_append,List.take_append_drop]
 have hall:∀ r∈(rs.drop k).reverse,decide (r.1 = "part")=true:=by
  intro r hr
  rw[mem_reverse]at hr
  obtain⟨j,hj⟩:=List.mem_iff_getElem?.mp hr
  rw[List.getElem?_drop]at hj
  exact decide_eq_true (h1 _ r (Nat.le_add_right _ _) hj)
 unfold a4
 rw[e,List.dropWhile_append_of_pos hall]
 have:(rs.take k).reverse.dropWhile (fun r=>decide (r.1=("part" : Str)))=(rs.take k).reverse:=by
  by_cases hk0:k=0
  ·subst hk0; rfl
  ·have hlt:k - 1<rs.length:=by omega
   have et:rs.take k=rs.take (k - 1)++[rs[k - 1]]:=by
    have h:=take_succ (l:=rs) (i:=k - 1)
    rw[getElem?_eq_getElem hlt,show k - 1+1=k by omega]at h
    exact h
   rw[et,List.reverse_append,List.reverse_singleton,List.singleton_append,List.dropWhile_cons_of_neg]
   rw[decide_eq_true_eq]
   exact h2 _ hk0 (getElem?_eq_getElem hlt)
 rw[this,List.reverse_reverse]
inductive i9 (vs:Hw) (H:Hp) (Q:VK) (x_3:XK):Prop
 | mk:∀ (a:Addr) (rs:Hy),vs=[.ref a]->Den H (.list (rs.map bT)) (.ref a)->rs.length<=100000->(∀ p H',aD H H'->H p=none->Den H' (.list ((a4 rs).map bT)) (.ref p)->Q (.ref p) H')->i9 vs H Q x_3
def rW:∀ {ds:Hr} {xs:Hw} (k:Nat),aW H ds xs->aW H (ds.take k) (xs.take k)
 | _,_,0,_=>by simp [aW]
 | [],xs,k+1,h=>by
  simp only[aW]at h
  subst h
  simp [aW]
 | d::ds,xs,k+1,h=>by
  simp only[aW]at h
  obtain⟨y,ys,rfl,h1,h2⟩:=h
  rw[List.take_succ_cons,List.take_succ_cons]
  simp only[aW]
  exact⟨_,_,rfl,h1,rW k h2⟩
section
variable {P:Program} {w:World} {K:Hh} {mg:Hj} {base:Heap} {A:Ad}
def zT (F:Fun K "without_last_parts" "without_last_parts" tI f fd) (T:TxtQ K mg A):(FnOk P w K mg base (CXE P w)) 1 f fd ["rows"] i9:=by
 refine F.okY ["rows","many"] fun cdv A' outer s H vs Q E hr nD0 h=>?_
 obtain⟨a,rs,rfl,hd,hl,q⟩:=h
 refine⟨_,aA (aT (i:=1) nD0 ⋯ ⋯ (bE (cV K) ⋯ T.ad0 fO (aJ (pv 0) aF)))
  (aA (xS (sD hV) (lX (bA xU (pv 1) aG (bF _)) (jI (bA i6 (dO (fE K) (dO (c6 K) (pv 0) (aY qZ (pv 1) aG) (fun _ _=>rfl)) aG (fun _ _=>rfl)) cY (bF _)))).pt
   (aB (Gv (i:=1) nD0 ⋯ ⋯ aG HN)))
  (aB (aX (fA (qE K) (pv 0) iE (fU (pv 1)))))),?_⟩
 simp only[Den]at hd
 obtain⟨_,xs,e,ha,hds⟩:=hd
 cases e
 have hx:=hds.length
 rw[length_map]at hx
 refine⟨_,rfl,a,_,rfl,.inl (SqL.of ha),?_⟩
 refine⟨fun m σ H3=>H3=H/\m<=rs.length/\σ = [some (.ref a),some (.int (m:Int))]/\(∀ j r,m<=j->rs[j]? = some r->r.1 = "part"),⟨rs.length,rfl,le_refl _,by rw[hx]; rfl,fun j r hj e=>absurd (List.getElem?_eq_some_iff.mp e).1 (by omega)⟩,?_⟩
 rintro m σ H3 ⟨rfl,hm,rfl,hp⟩
 have fin:(∀ r,m≠0->rs[m - 1]? = some r->r.1 ≠ "part")->GU (tSl (FD K) (sB 0) uX (F3 (sB 1))) ({ nx:=fun x H'=>Q V.non H',rt:=Q }:Ends) [some (.ref a),some (.int (m:Int))] H3:=by
  intro hn
  have ec:=HX rs m hm hp hn
  refine⟨_,rfl,_,rfl,_,rfl,a,xs,rfl,SqL.of ha,fun p hp'=>?_⟩
  have S:=aI (o:=.lst (fN xs none (some (m:Int)))) hp'
  refine q p _ S hp' ?_
  rw[AQ (by omega)]at S ⊢
  simp only[Den]
  refine⟨p,_,rfl,aC,?_⟩
  rw[<- ec,List.map_take]
  exact(rW m hds).same S
 refine⟨_,rfl,_,_,rfl,rfl,_,rfl,?_⟩
 show if decide ((0:Int)<(m:Int))=true then _ else _
 by_cases h0:m=0
 ·rw[if_neg (by rw[decide_eq_true_eq]; omega)]
  exact a7 (fin (fun r z=>absurd h0 z))
 rw[if_pos (decide_eq_true (by omega))]
 have hlt:m - 1<rs.length:=by omega
 have er:rs[m - 1]? = some rs[m - 1]:=getElem?_eq_getElem hlt
 have exm:xs[m - 1]? = some xs[m - 1]:=getElem?_eq_getElem (by omega)
 obtain⟨d,hdm,dn⟩:=hds.get exm
 rw[getElem?_map,er]at hdm
 cases (Option.some.inj hdm:bT rs[m - 1]=d)
 obtain⟨t,b,ev,gt,gb⟩:=kA dn
 rw[ev]at exm
 refine⟨_,rfl,_,rfl,_,_,rfl,rfl,a,_,_,.ref t,rfl,rfl,SqL.of ha,?_,t,_,_,.str rs[m - 1].1,rfl,rfl,SqT.of gt,cJ (by decide) rfl,rfl,_,rfl,?_⟩
 ·have:((m:Int) - 1)=((m - 1:Nat):Int):=by omega
  rw[this]
  exact bQ exm
 by_cases hk:rs[m - 1].1 = "part"
 ·rw[jQ hk]
  refine aV ⟨fun σ' H'=>∃ m',m'<m/\H'=H3/\m'<=rs.length/\σ'=[some (.ref a),some (.int (m':Int))]/\(∀ j r,m'<=j->rs[j]? = some r->r.1 = "part"),fun _ _ h=>h,?_⟩
  refine⟨_,rfl,_,_,rfl,rfl,?_⟩
  refine⟨m - 1,by omega,rfl,by omega,?_,fun j r hj e=>?_⟩
  ·have:((m:Int) - 1)=((m - 1:Nat):Int):=by omega
   rw[<- this]
   rfl
  ·by_cases hj':j=m - 1
   ·rw[hj',er]at e
    rw[<- Option.some.inj e]
    exact hk
   ·exact hp j r (by omega) e
 ·rw[lD hk]
  refine a7 (fin fun r _ e=>?_)
  rw[er]at e
  rw[<- Option.some.inj e]
  exact hk
end
abbrev tK:Stmt:=top 52
def tG (h:cX n):∀ c∈(aM n).cps.toList,c=115\/(48<=c/\c<=57):=by
 intro c hc
 rw[Ai]at hc
 rcases mem_cons.mp hc with z | z
 ·exact .inl z
 ·exact .inr (rD h.1 c z)
def eZ (h:cX n):eJ b8 8 (.str (aM n))=true:=by
 have h1:1<=(aM n).length:=by
  have:=(pI h).1
  unfold aM
  rw[strLen_append]
  omega
 have h2:=vF h
 have hd:∀ c:Nat,c<58->48<=c->inS b8 c=true:=by decide +kernel
 have hs:inS b8 115=true:=by decide +kernel
 show ((decide (1<=((aM n).length:Int)) && decide (((aM n).length:Int)<=8)) && (aM n).cps.toList.all (inS b8))=true
 rw[decide_eq_true (by omega),decide_eq_true (by omega),Bool.true_and,Bool.true_and,all_eq_true]
 intro c hc
 rcases tG h c hc with z | ⟨z1,z2⟩
 ·rw[z]; exact hs
 ·exact hd c (by omega) z1
def jG (h:cX n):kH (.str (aM n)):=by
 intro x e
 injection e with e
 subst e
 refine⟨le_trans (vF h) (by decide),?_⟩
 unfold BQ
 rw[<- Array.all_toList,all_eq_true]
 intro c hc
 rcases tG h c hc with z | ⟨z1,z2⟩ <;> exact decide_eq_true (by omega)
def mU:∀ {f:Nat} {ns:Hm} {ds:Hr} {k:Nat},cA f ns=some (ds,k)->ds.all aQ=true/\7 * ds.length<=ns.length
 | 0,_,_,_,h=>by cases h
 | f+1,ns,ds,k,h=>by
  rw[hG]at h
  cases e:j2 ns with
  | none=>
   rw[e]at h
   cases h
   exact⟨rfl,zero_le _⟩
  | some m=>
   rw[e]at h
   dsimp only at h
   cases e2:i3 (ns.take m) with
   | none=>rw[e2]at h; cases h
   | some d=>
    rw[e2]at h
    dsimp only at h
    rw[map_eq_some_iff]at h
    obtain⟨⟨ds',k'⟩,h1,h2⟩:=h
    cases h2
    obtain⟨i1,i2⟩:=mU h1
    obtain⟨m7,mle⟩:=BF e
    rw[length_drop]at i2
    have hd:aQ d=true:=by
     unfold i3 at e2
     split at e2
     ·split at e2
      ·dsimp only at e2
       split at e2
       ·cases e2; assumption
       ·cases e2
      ·cases e2
     ·cases e2
    rw[all_cons,hd,length_cons]
    exact⟨i1,by show 7 * (ds'.length+1)<=ns.length; omega⟩
def gN (bs:Hm) (last:Bool) (rs:Hy):Option (Hy):=
 match cA (bs.length+1) bs with
 | none=>none
 | some (_,k)=>if last=false/\(0<k\/(a4 rs).length<rs.length) then none else if last=false/\a4 rs=[] then none else if a4 rs≠[]/\((a4 rs).headD ("from",0,[])).1 ≠ "from" then none else some (a4 rs)
inductive lO (A:Ad) (vs:Hw) (H:Hp) (Q:VK) (E:XK):Prop
 | mk:∀ (dk df:Addr) (kvs:Hu) (D:Dk) (seg last:Int) (bs:Hm),vs=[.ref dk,.int seg,.int last]->DiskAt A.disk H dk df kvs D->cX seg->aH D.fs (aM seg)=some bs->(∀ b∈bs,0<=b/\b<=255)->bs.length<=100000->(cA (bs.length+1) bs=none->∀ H',aD H H'->E (.ref A.broken) none H')->(∀ rs k,cA (bs.length+1) bs=some (rs.map bT,k)->(∀ r∈rs,aQ (bT r)=true)->(gN bs (decide (seg=last)) rs=none->∀ H',aD H H'->E (.ref A.broken) none H')/\(∀ rs',gN bs (decide (seg=last)) rs=some rs'->∀ p H',aD H H'->H p=none->Den H' (.list (rs'.map bT)) (.ref p)->Q (.ref p) H'))->lO A vs H Q E
section
variable {P:Program} {w:World} {K:Hh} {mg:Hj} {base:Heap} {A:Ad}
def zV (F:Fun K "rows_of" "rows_of" tK f fd) (T:TxtQ K mg A) (ab0:(Callee P w K mg base "segment_name" 1 ["segment"] gE)) (af7:(Callee P w K mg base) "rows_in" 5 ["some"] (gX A.badRow A.broken)) (ab4:(Callee P w K mg base) "without_last_parts" 1 ["rows"] i9) (ai7:(Method P w K mg base) A.disk "read" 4 ["self","name"] (mE A.disk A.badName A.missing)):(FnOk P w K mg base (CXE P w)) 6 f fd ["disk","segment","last"] (lO A):=by
 refine F.okY ["disk","segment","last","found","rows"] fun cdv A' outer s H vs Q E hr nD0 h=>?_
 obtain⟨dk,df,kvs,D,seg,last,bs,rfl,hD,hs,hb,hby,hbl,qb,q⟩:=h
 refine⟨_,aA (aT (i:=3) nD0 ⋯ ⋯ (a5 af7 ((hr.mono (by decide))) bK (cC (cP ai7 T.ac1 ((hr.mono (by decide))) bK (pv 0) (cC (a5 ab0 ((hr.mono (by decide))) bB (aJ (pv 1) aF)) aF)) aF)))
  (aA (aT (i:=4) nD0 ⋯ ⋯ (a5 ab4 ((hr.mono (by decide))) bB (aP (dO (fE K) (pv 3) aG (fun _ _ => rfl)) aF)))
  (aA (a6 (lX (bA rA (pv 1) (pv 2) (bF _)) (jI (kB (bA xU (dO (fE K) (pv 3) aG (fun _ _ => rfl)) aG (bF _)) (hJ (bA A0 (bE (cV K) ⋯ T.ad0 fO (aJ (pv 4) aF)) (bE (cV K) ⋯ T.ad0 fO (aP (dO (fE K) (pv 3) aG (fun _ _ => rfl)) aF)) (bF _)))).pt)).pt
   (aB (dF eO ⋯ T.ae2 ⋯ T.an8 (aR cY aF)))
   aO)
  (aA (a6 (lX (bA rA (pv 1) (pv 2) (bF _)) (jI (cK (hU K (pv 4))))).pt
   (aB (dF eO ⋯ T.ae2 ⋯ T.an8 (aR cY aF)))
   aO)
  (aA (a6 (lX (hU K (pv 4)) (jI (bA rA (dO (fE K) (dO (c6 K) (pv 4) aG (fun _ _=>rfl)) aG (fun _ _=>rfl)) cY (bF _)))).pt
   (aB (dF eO ⋯ T.ae2 ⋯ T.an8 (aR cY aF)))
   aO)
  (aB (aX (pv 4))))))),?_⟩
 obtain⟨dx,h1⟩:=hD.self
 have hw:=eZ hs
 refine⟨_,rfl,dk,dx,_,rfl,h1,rfl,_,rfl,seg,rfl,hs,dk,df,kvs,D,.str (aM seg),.str (aM seg),rfl,hD,by simp only[Den],jG hs,(fun z=>by rw[hw]at z; cases z),fun n e _=>?_⟩
 injection e with e
 subst e
 refine⟨(fun z=>by rw[hb]at z; cases z),fun bs' e p1 H1 S1 g1=>?_⟩
 rw[hb]at e
 cases e
 have isb:cG (.tuple (bs.map .int))=true:=lF hby
 refine⟨.ref p1,.tuple (bs.map .int),rfl,by simp only[Den]; exact⟨p1,_,rfl,g1,bO.mpr rfl⟩,(fun bs' e=>?_),(fun z=>by rw[isb]at z; cases z),fun _=>?_⟩
 ·injection e with e
  rw[<- e,length_map]
  exact le_trans hbl (by decide)
 rw[dG]
 refine⟨fun ds k er p2 H2 S2 d2 _=>?_,fun er H2 S2=>qb er H2 (S1.trans S2)⟩
 obtain⟨rall,rlen⟩:=mU er
 obtain⟨rs,rfl,hrs⟩:=Ar rall
 rw[length_map]at rlen
 obtain⟨qn,qs⟩:=q rs k er hrs
 have S02:=S1.trans S2
 have d2':=d2
 simp only[Den,aW]at d2'
 obtain⟨_,_,e1,gf,_,_,rfl,⟨pL,ys,rfl,gL,dL⟩,_,_,rfl,rfl,rfl⟩:=d2'
 cases e1
 have lL:=dL.length
 rw[length_map]at lL
 refine⟨_,rfl,p2,_,_,.ref pL,rfl,rfl,SqT.of gf,cJ (by decide) rfl,pL,rs,rfl,by simp only[Den]; exact⟨pL,ys,rfl,gL,dL⟩,by omega,fun p3 H3 S3 hp3 d3=>?_⟩
 have S03:=S02.trans S3
 have h03:H p3=none:=S02.free hp3
 simp only[Den]at d3
 obtain⟨_,zs,e3,g3,dz⟩:=d3
 cases e3
 have lz:=dz.length
 rw[length_map]at lz
 unfold gN at qn qs
 rw[er]at qn qs
 dsimp only at qn qs
 have gf3:=S3 _ _ gf
 have gL3:=S3 _ _ gL
 have one:(1:Nat)<=sizeLine:=by decide
 have fin:(a4 rs≠[]/\((a4 rs).headD ("from",0,[])).1 ≠ "from"->E (.ref A.broken) none H3)->(¬ (a4 rs≠[]/\((a4 rs).headD ("from",0,[])).1 ≠ "from")->Q (.ref p3) H3)->BY (Es (tAnd (tLT K (sB 4)) (wT (tOp rNe (tOp (FF K) (tOp (FG K) (sB 4) (tC (V.int 0))) (tC (V.int 0))) (tC (V.str "from"))))) (Cr A.broken (fun c H=>E c none H) (jU (tC (V.str "a segment begins with another row than from")) o7)) wU) (GU (sB 4)) ({ nx:=fun x H'=>Q V.non H',rt:=Q }:Ends) [some (.ref dk),some (.int seg),some (.int last),some (.ref p2),some (.ref p3)] H3:=by
  intro f1 f2
  refine⟨_,rfl,p3,_,rfl,SqL.of g3,?_⟩
  try dsimp only
  cases hc:a4 rs with
  | nil=>
   rw[hc]at dz lz
   have:zs=[]:=length_eq_zero_iff.mp lz
   subst this
   refine a7 (a7 (bG rfl ?_))
   exact⟨_,rfl,f2 (fun z=>z.1 hc)⟩
  | cons r rs'=>
   rw[hc]at dz lz f1 f2
   cases zs with
   | nil=>simp at lz
   | cons z zs=>
   refine aV ?_
   rw[map_cons]at dz
   simp only[aW]at dz
   obtain⟨_,_,ez,dr,_⟩:=dz
   cases ez
   obtain⟨t,b,rfl,gt,gb⟩:=kA dr
   refine⟨_,rfl,p3,_,_,.ref t,rfl,rfl,SqL.of g3,cJ (by decide) rfl,t,_,_,.str r.1,rfl,rfl,SqT.of gt,cJ (by decide) rfl,rfl,_,rfl,?_⟩
   by_cases hk:r.1 = "from"
   ·rw[jQ hk]
    refine a7 (bG rfl ?_)
    exact⟨_,rfl,f2 (fun z=>z.2 hk)⟩
   ·rw[lD hk]
    exact aV ⟨one,f1 ⟨by simp,hk⟩⟩
 refine⟨_,rfl,_,rfl,rfl,_,rfl,?_⟩
 try dsimp only
 by_cases hsl:seg=last
 ·rw[decide_eq_true hsl]at qn qs
  rw[decide_eq_true (show V.int seg=V.int last by rw[hsl])]
  refine a7 (a7 (bG rfl ?_))
  refine⟨_,rfl,_,rfl,rfl,_,rfl,?_⟩
  rw[decide_eq_true (show V.int seg=V.int last by rw[hsl])]
  refine a7 (a7 (bG rfl ?_))
  rw[if_neg (fun z=>by cases z.1),if_neg (fun z=>by cases z.1)]at qn qs
  refine fin (fun z=>qn (if_pos z) H3 S03) (fun z=>qs _ (if_neg z) p3 H3 S03 h03 ?_)
  simp only[Den]
  exact⟨p3,zs,rfl,g3,dz⟩
 rw[decide_eq_false hsl]at qn qs
 rw[nC hsl]
 refine aV ?_
 refine⟨_,rfl,p2,_,_,.int (k:Int),rfl,rfl,SqT.of gf3,cJ (by decide) rfl,_,_,rfl,rfl,_,rfl,?_⟩
 show if decide ((0:Int)<(k:Int))=true then _ else _
 by_cases hk:0<k
 ·rw[if_pos (decide_eq_true (by omega))]
  rw[if_pos ⟨rfl,.inl hk⟩]at qn
  exact aV ⟨one,qn rfl H3 S03⟩
 rw[if_neg (by rw[decide_eq_true_eq]; omega)]
 refine⟨_,rfl,p3,_,rfl,.inl (SqL.of g3),_,rfl,p2,_,_,.ref pL,rfl,rfl,SqT.of gf3,cJ (by decide) rfl,pL,_,rfl,.inl (SqL.of gL3),_,_,rfl,rfl,_,rfl,?_⟩
 rw[lz,lL]
 by_cases hc:(a4 rs).length<rs.length
 ·rw[if_pos ⟨rfl,.inr hc⟩]at qn
  rw[decide_eq_true (show ((a4 rs).length:Int)<(rs.length:Int) by omega)]
  exact aV ⟨one,qn rfl H3 S03⟩
 rw[if_neg (fun z=>z.2.elim hk hc)]at qn qs
 rw[decide_eq_false (show ¬ ((a4 rs).length:Int)<(rs.length:Int) by omega)]
 refine a7 (bG rfl ?_)
 refine⟨_,rfl,_,rfl,rfl,_,rfl,?_⟩
 rw[nC hsl]
 refine aV ?_
 refine⟨_,rfl,p3,_,rfl,SqL.of g3,?_⟩
 try dsimp only
 by_cases hn:a4 rs=[]
 ·rw[if_pos ⟨rfl,hn⟩]at qn
  have:zs=[]:=length_eq_zero_iff.mp (by rw[lz,hn]; rfl)
  subst this
  exact aV ⟨one,qn rfl H3 S03⟩
 rw[if_neg (fun z=>hn z.2)]at qn qs
 have:(!zs.isEmpty)=true:=by
  cases zs with
  | nil=>exact absurd (length_eq_zero_iff.mp lz.symm) hn
  | cons _ _=>rfl
 rw[this]
 refine a7 (bG rfl ?_)
 refine fin (fun z=>qn (if_pos z) H3 S03) (fun z=>qs _ (if_neg z) p3 H3 S03 h03 ?_)
 simp only[Den]
 exact⟨p3,zs,rfl,g3,dz⟩
end
abbrev tU:Stmt:=top 53
def sT:PyData->Rw
 | .tuple [.str k,.int n,b]=>(k,n,a9 b)
 | _=>("from",0,[])
def GQ (r:Rw):sT (bT r)=r:=by
 obtain⟨k,n,b⟩:=r
 show (k,n,a9 (.tuple (b.map .int)))=_
 rw[dG]
def kX (rs:Hy):(rs.map bT).map sT=rs:=by
 rw[map_map]
 have:sT ∘ bT=id:=funext GQ
 rw[this,map_id]
def o8 (bs:Hm) (last:Bool):Option (Hy):=match cA (bs.length+1) bs with
 | none=>none
 | some r=>gN bs last (r.1.map sT)
def jZ (D:Dk) (last:Int):Hm->Bk->Option Bk
 | [],B=>some B
 | s::ss,B=>match aH D.fs (aM s) with
  | none=>none
  | some bs=>match o8 bs (decide (s=last)) with
   | none=>none
   | some rs=>match bN s B rs with
    | none=>none
    | some B'=>jZ D last ss B'
def jT (D:Dk) (last s:Int) (ss:Hm) (B:Bk):jZ D last (s::ss) B=match aH D.fs (aM s) with
  | none=>none
  | some bs=>match o8 bs (decide (s=last)) with
   | none=>none
   | some rs=>match bN s B rs with
    | none=>none
    | some B'=>jZ D last ss B':=rfl
def qF (D:Dk) (n:Int):Nat:=((aH D.fs (aM n)).getD []).length
def nG (rs:Hy):(a4 rs).length<=rs.length:=by
 unfold a4
 rw[List.length_reverse]
 exact le_trans (List.dropWhile_sublist _).length_le (by rw[List.length_reverse]; exact le_refl _)
def wX (h:gN bs l rs=some rs'):rs'=a4 rs:=by
 unfold gN at h
 split at h
 ·cases h
 ·split at h
  ·cases h
  split at h
  ·cases h
  split at h
  ·cases h
  ·cases h
   rfl
def nF:∀ r∈a4 rs,r∈rs:=fun r h=>by
 unfold a4 at h
 rw[mem_reverse]at h
 have:=(List.dropWhile_sublist _).subset h
 rwa [mem_reverse]at this
structure DiskOk (D:Dk) (ns:Hm):Prop where
 keys:D.fs.map (·.1)=ns.map aM
 nums:∀ n∈ns,cX n
 few:ns.length<64
 bytes:∀ n bs,aH D.fs n=some bs->(∀ b∈bs,0<=b/\b<=255)/\bs.length<=100000
 size:(ns.map (qF D)).sum<=5600
def yA (h:n∈fs.map (·.1)):∃ bs,aH fs n=some bs:=by
 unfold aH
 cases e:fs.find? fun p=>decide (p.1=n) with
 | none=>
  rw[find?_eq_none]at e
  rw[mem_map]at h
  obtain⟨p,hp,he⟩:=h
  exact absurd (decide_eq_true he) (e p hp)
 | some p=>exact⟨p.2,rfl⟩
inductive lU (A:Ad) (vs:Hw) (H:Hp) (Q:VK) (E:XK):Prop
 | mk:∀ (dk df:Addr) (kvs:Hu) (D:Dk) (ns:Hm),vs=[.ref dk]->DiskAt A.disk H dk df kvs D->DiskOk D ns->(∀ ms,List.Perm ms ns->ms.Pairwise (· <= ·)->
 (¬ jP ms->∀ H',aD H H'->E (.ref A.broken) none H')/\(jP ms->(jZ D (ms.getLastD 0) ms ⟨[],0,[]⟩=none->∀ H',aD H H'->E (.ref A.broken) none H')/\
  ∀ B,jZ D (ms.getLastD 0) ms ⟨[],0,[]⟩=some B->7 * (B.es.length+B.parts.length)<=5600->∀ bk de dp H',aD H H'->H bk=none->H de=none->H dp=none->BookAt A.book H' bk de dp B->Q (.ref bk) H'))->lU A vs H Q E
section
variable {P:Program} {w:World} {K:Hh} {mg:Hj} {base:Heap} {A:Ad}
def AC (F:Fun K "book_of" "book_of" tU f fd) (T:TxtQ K mg A) (ac7:(Callee P w K mg base) "segments_on" 3 ["disk"] (eV A)) (aq7:(Callee P w K mg base) "rows_of" 6 ["disk","segment","last"] (lO A)) (bc4:(Maker P w K mg base) "Book" A.book 1 ["self"] (u9 A.book)) (ah2:(Method P w K mg base) A.book "enter" 3 ["self","row","segment"] (mF A.book A.broken)):(FnOk P w K mg base (CXE P w)) 7 f fd ["disk"] (lU A):=by
 refine F.okY ["disk","segments","book","segment","row"] fun cdv A' outer s H vs Q E hr nD0 h=>?_
 obtain⟨dk,df,kvs,D,ns,rfl,hD,ok,q⟩:=h
 refine⟨_,aA (aT (i:=1) nD0 ⋯ ⋯ (a5 ac7 ((hr.mono (by decide))) bK (aJ (pv 0) aF)))
  (aA (aT (i:=2) nD0 ⋯ ⋯ (G0 bc4 ((hr.mono (by decide))) bK))
  (aA (kD (sD hV) ⋯ (eM K (pv 1)) (cH (i := 3) nD0 ⋯ ⋯)
   (aB (kD (sD hV) ⋯ (eM K (a5 aq7 ((hr.mono (by decide))) bK (aJ (pv 0) (aJ (pv 3) (aP (dO (c6 K) (pv 1) (Aw uW aG) (fun _ _ => rfl)) aF))))) (cH (i:=4) nD0 ⋯ ⋯)
    (aB (bD (cP ah2 T.af6 ((hr.mono (by decide))) bK (pv 2) (aJ (pv 4) (aJ (pv 3) aF))))))))
  (aB (aX (pv 2))))),?_⟩
 refine⟨_,rfl,dk,df,kvs,D,ns,rfl,hD,ok.keys,ok.nums,ok.few,fun ms perm pw hg p H1 S1 hp g1=>?_,fun ms perm pw hg H1 S1=>(q ms perm pw).1 hg H1 S1⟩
 obtain⟨qn,qs⟩:=(q ms perm pw).2 hg
 refine fun bk dx hbk hdx ndx=>⟨bk,dx,rfl,aC,fun de dp H2 f2 hde hdp hB2=>⟨rfl,?_⟩⟩
 have S12:aD H1 H2:=fun b o e=>by
  have nb:b≠bk:=fun z=>by rw[z,hbk]at e; cases e
  have nd:b≠dx:=fun z=>by rw[z,hdx]at e; cases e
  exact f2 b o (by rw[aE nb,aE nd]; exact e) nb
 have fr:∀ c,upd (upd H1 dx (.own bk)) bk (.ins A.book dx []) c=none->H1 c=none:=fun c e=>by
  cases e2:H1 c with
  | none=>rfl
  | some o=>
   have nb:c≠bk:=fun z=>by rw[z,hbk]at e2; cases e2
   have nd:c≠dx:=fun z=>by rw[z,hdx]at e2; cases e2
   rw[aE nb,aE nd,e2]at e
   cases e
 have hde1:=fr de hde
 have hdp1:=fr dp hdp
 have lm:=perm.length_eq
 have tot0:∀ k,((ms.take k).map (qF D)).sum<=5600:=fun k=>by
  have h1:=(perm.map (qF D)).sum_nat
  rw[<- List.take_append_drop k ms,map_append,sum_append]at h1
  have:=ok.size
  omega
 refine⟨_,rfl,p,rfl,⟨_,SqL.of (S12 _ _ g1)⟩,?_⟩
 refine fZ (eK (K:=K) (SqL.of g1)) (fun i σ H'=>aD H1 H'/\∃ Bi dpi z3 z4,BookAt A.book H' bk de dpi Bi/\H1 dpi=none/\7 * (Bi.es.length+Bi.parts.length)<=((ms.take i).map (qF D)).sum/\jZ D (ms.getLastD 0) ms ⟨[],0,[]⟩=jZ D (ms.getLastD 0) (ms.drop i) Bi/\σ = [some (.ref dk),some (.ref p),some (.ref bk),z3,z4]) ?i0 (fun i σ H' h=>h.1) ?_ ?_
 case i0=>exact⟨S12,_,dp,none,none,hB2,hdp1,le_refl _,rfl,rfl⟩
 ·rintro i x σ H5 H6 hi ⟨s5,Bi,dpi,z3,z4,hBi,hdpi,hle,hfo,rfl⟩ s6 hx
  rw[getElem?_map]at hx
  cases e:ms[i]? with
  | none=>rw[e]at hx; cases hx
  | some n=>
   rw[e]at hx
   cases hx
   have iL:i<ms.length:=(List.getElem?_eq_some_iff.mp e).1
   have hm:ms≠[]:=fun z=>by rw[z]at iL; simp at iL
   have ed:ms.drop i=n::ms.drop (i+1):=by
    rw[drop_eq_getElem_cons iL,(List.getElem?_eq_some_iff.mp e).2]
   have et:ms.take (i+1)=ms.take i++[n]:=by
    rw[take_succ,e]
    rfl
   have nin:n∈ns:=perm.mem_iff.mp (mem_of_getElem? e)
   obtain⟨bs,hbs⟩:=yA (fs:=D.fs) (n:=aM n) (by rw[ok.keys]; exact mem_map_of_mem nin)
   obtain⟨by1,by2⟩:=ok.bytes _ _ hbs
   rw[ed]at hfo
   rw[jT,hbs]at hfo
   dsimp only at hfo
   have S16:aD H1 H6:=s5.trans s6
   have hD6:=hD.same (S1.trans S16)
   have sz:qF D n=bs.length:=by unfold qF; rw[hbs]; rfl
   have tot:=tot0 (i+1)
   rw[et,map_append,sum_append,List.map_singleton,List.sum_singleton,sz]at tot
   refine⟨_,rfl,_,rfl,_,rfl,1,rfl,p,_,_,.int (ms.getLastD 0),rfl,rfl,SqL.of (S16 _ _ g1),pJ hm,dk,df,kvs,D,n,ms.getLastD 0,bs,rfl,hD6,ok.nums n nin,hbs,by1,by2,fun er H7 S7=>?_,fun rs0 k er hrs=>⟨fun hn H7 S7=>?_,fun rs hsome pr H7 S7 hpr d7=>?_⟩⟩
   ·refine qn ?_ H7 (S1.trans (S16.trans S7))
    rw[hfo]
    unfold o8
    rw[er]
   ·refine qn ?_ H7 (S1.trans (S16.trans S7))
    rw[hfo]
    unfold o8
    rw[er]
    try dsimp only
    rw[kX,hn]
   have hR:o8 bs (decide (n=ms.getLastD 0))=some rs:=by
    unfold o8
    rw[er]
    try dsimp only
    rw[kX]
    exact hsome
   rw[hR]at hfo
   dsimp only at hfo
   have ers:=wX hsome
   have hrs':∀ r∈rs,aQ (bT r)=true:=fun r h=>hrs r (nF r (by rw[<- ers]; exact h))
   have rl:7 * rs.length<=bs.length:=by
    have h1:=(mU er).2
    rw[length_map]at h1
    have h2:=nG rs0
    rw[<- ers]at h2
    omega
   simp only[Den]at d7
   obtain⟨_,xs,e7,g7,dx7⟩:=d7
   cases e7
   have lx:=dx7.length
   rw[length_map]at lx
   have S17:aD H1 H7:=S16.trans S7
   have hB7:=hBi.same (s6.trans S7)
   have hB6:=hBi.same s6
   obtain⟨dx6,h16⟩:=hB6.self
   have npb:pr≠bk:=fun z=>by rw[z,h16]at hpr; cases hpr
   have npe:pr≠de:=fun z=>by
    obtain⟨ks,h26,_⟩:=hB6.ent
    rw[z,h26]at hpr
    cases hpr
   have npd:pr≠dpi:=fun z=>by
    obtain⟨ps,h46,_⟩:=hB6.par
    rw[z,h46]at hpr
    cases hpr
   refine⟨pr,rfl,⟨_,SqL.of g7⟩,?_⟩
   refine fZ (H0:=fun a=>if a=pr then some (.lst xs) else none) (eK (K:=K) (SqL.of (if_pos rfl))) (fun j σ H'=>H' pr=some (.lst xs)/\gB H7 H'/\aD H1 H'/\∃ Bj dpj z4,BookAt A.book H' bk de dpj Bj/\H1 dpj=none/\pr≠dpj/\Bj.es.length+Bj.parts.length<=Bi.es.length+Bi.parts.length+j/\bN n Bi rs=bN n Bj (rs.drop j)/\σ = [some (.ref dk),some (.ref p),some (.ref bk),some (.int n),z4]) ?j0 ?kp ?_ ?_
   case j0=>exact⟨g7,fun _ _ e=>e,S17,Bi,dpi,_,hB7,hdpi,npd,le_refl _,rfl,rfl⟩
   case kp=>
    intro j σ H' h b o eb
    by_cases z:b=pr
    ·subst z
     have eb:some (HO.lst xs)=some o:=by simpa using eb
     rw[<- eb]
     exact h.1
    ·have eb:none=some o:=by simpa [z] using eb
     cases eb
   ·rintro j y σ L1 L2 hj ⟨l1,l2,l3,Bj,dpj,z4',hBj,hdpj,nprj,hlej,hfj,rfl⟩ sL hy
    obtain⟨d,hd,dn⟩:=dx7.get hy
    rw[getElem?_map]at hd
    cases ej:rs[j]? with
    | none=>rw[ej]at hd; cases hd
    | some r=>
     rw[ej]at hd
     cases (Option.some.inj hd:bT r=d)
     have jL:j<rs.length:=(List.getElem?_eq_some_iff.mp ej).1
     have edj:rs.drop j=r::rs.drop (j+1):=by
      rw[drop_eq_getElem_cons jL,(List.getElem?_eq_some_iff.mp ej).2]
     rw[edj]at hfj
     have tu:gB H7 L2:=l2.trans (aD.tup sL)
     obtain⟨t,b,rfl,gt,gb⟩:=kA dn
     have dn':Den L2 (gP r.1 r.2.1 r.2.2) (.ref t):=BI tu (mT _ _ _) dn
     have hB2':=hBj.same sL
     obtain⟨dxL,hL⟩:=hB2'.self
     have S1L:aD H1 L2:=l3.trans sL
     have sf:∀ {H8:Hp},Frm bk de dpj L2 H8->aD H1 H8:=fun f8 c o ec=>f8 c o (S1L c o ec) (a8 ec hbk) (a8 ec hde1) (a8 ec hdpj)
     have efold:bN n Bj (r::rs.drop (j+1))=match c8 Bj r.1 r.2.1 r.2.2 n with | none=>none | some B'=>bN n B' (rs.drop (j+1)):=rfl
     refine⟨_,rfl,bk,dxL,_,rfl,hL,rfl,_,rfl,_,rfl,bk,de,dpj,t,Bj,r.1,r.2.1,n,r.2.2,rfl,hB2',dn',hrs' r (mem_of_getElem? ej),by omega,fun B' hB' dq H8 f8 hdq hB8=>?_,fun hn H8 f8=>?_⟩
     ·refine⟨f8 _ _ (sL _ _ l1) npb npe nprj,tu.trans (hB2'.tup f8),sf f8,B',dq,_,hB8,?_,?_,?_,?_,rfl⟩
      ·rcases hdq with rfl | hdq
       ·exact hdpj
       ·exact S1L.free hdq
      ·rcases hdq with rfl | hdq
       ·exact nprj
       ·exact fun z=>by rw[<- z,sL _ _ l1]at hdq; cases hdq
      ·have:=rV hB'
       omega
      ·rw[hfj,efold,hB']
     ·refine qn ?_ H8 (S1.trans (sf f8))
      rw[hfo,hfj,efold,hn]
   ·rintro σ L1 ⟨l1,l2,l3,Bj,dpj,z4',hBj,hdpj,nprj,hlej,hfj,rfl⟩
    rw[lx,drop_of_length_le (le_refl _)]at hfj
    rw[lx]at hlej
    rw[hfj]at hfo
    refine⟨l3,Bj,dpj,_,_,hBj,hdpj,?_,hfo,rfl⟩
    rw[et,map_append,sum_append,List.map_singleton,List.sum_singleton,sz]
    omega
 ·rintro σ H5 ⟨s5,B,dpi,z3,z4,hB,hdpi,hle,hfo,rfl⟩
  rw[length_map,drop_of_length_le (le_refl _)]at hfo
  rw[length_map,take_length]at hle
  have tot:=tot0 ms.length
  rw[take_length]at tot
  exact⟨_,rfl,qs B hfo (by omega) bk de dpi H5 (S1.trans s5) (S1.free hbk) (S1.free hde1) (S1.free hdpi) hB⟩
end
abbrev iZ:Stmt:=top 44
abbrev mR:Stmt:=top 45
def tF (d1 d2 d3:PyData):Bool:=bI 1 2000 d1 && (bI 0 99 d2 && bI 1 9 d3)
inductive eX (A:Ad) (vs:Hw) (H:Hp) (Q:VK) (E:XK):Prop
 | mk:∀ (v1 v2 v3:V) (d1 d2 d3:PyData),vs=[v1,v2,v3]->Den H d1 v1->Den H d2 v2->Den H d3 v3->(tF d1 d2 d3=true->Q .non H)->(tF d1 d2 d3=false->E (.ref A.badSettings) none H)->eX A vs H Q E
inductive fT (A:Ad) (vs:Hw) (H:Hp) (Q:VK) (E:XK):Prop
 | mk:∀ (v:V) (d:PyData),vs=[v]->Den H d v->(∀ bs,d = .tuple bs->bs.length<=sizeLine)->(aQ (.tuple [.str "put",.int 0,d])=true->∀ H',aD H H'->Q .non H')->(aQ (.tuple [.str "put",.int 0,d])=false->∀ H',aD H H'->E (.ref A.badBody) none H')->fT A vs H Q E
section
variable {P:Program} {w:World} {K:Hh} {mg:Hj} {base:Heap} {A:Ad}
def mX (F:Fun K "check_settings" "check_settings" iZ f fd) (T:TxtQ K mg A) (ab2:(Callee P w K mg base "is_number" 1 ["thing", "least", "most"] jB)):(FnOk P w K mg base (CXE P w)) 2 f fd ["most","hold","tries"] (eX A):=by
 obtain⟨_,ax0⟩:=T.ay5
 obtain⟨_,ax1⟩:=T.ay6
 obtain⟨_,aw3⟩:=T.aw9
 refine F.okY ["most","hold","tries"] fun cdv A' outer s H vs Q E hr nD0 h=>?_
 obtain⟨v1,v2,v3,d1,d2,d3,rfl,h1,h2,h3,q,qe⟩:=h
 refine⟨_,aA (a6 (cK (cU (a5 ab2 ((hr.mono (by decide))) bB (aJ (pv 0) (aR aG (aJ (cI (v:=.int 2000) ⋯ ax0 ⟨_,rfl⟩) aF))))))
   (aB (dF eO ⋯ T.af0 ⋯ T.bb4 (aR cY aF)))
   aO)
  (aA (a6 (cK (cU (a5 ab2 ((hr.mono (by decide))) bB (aJ (pv 1) (aR aG (aJ (cI (v:=.int 99) ⋯ ax1 ⟨_,rfl⟩) aF))))))
   (aB (dF eO ⋯ T.af0 ⋯ T.bb4 (aR cY aF)))
   aO)
  (aB (a6 (cK (cU (a5 ab2 ((hr.mono (by decide))) bB (aJ (pv 2) (aR aG (aJ (cI (v:=.int 9) ⋯ aw3 ⟨_,rfl⟩) aF))))))
   (aB (dF eO ⋯ T.af0 ⋯ T.bb4 (aR cY aF)))
   aO))),?_⟩
 unfold tF at q qe
 have one:(1:Nat)<=sizeLine:=by decide
 refine⟨_,rfl,v1,d1,1,2000,rfl,h1,_,rfl,?_⟩
 cases e1:bI 1 2000 d1 with
 | false=>
  rw[e1]at qe
  exact aV ⟨one,qe rfl⟩
 | true=>
 rw[e1]at q qe
 refine a7 (bG rfl ?_)
 refine⟨_,rfl,v2,d2,0,99,rfl,h2,_,rfl,?_⟩
 cases e2:bI 0 99 d2 with
 | false=>
  rw[e2]at qe
  exact aV ⟨one,qe rfl⟩
 | true=>
 rw[e2]at q qe
 refine a7 (bG rfl ?_)
 refine⟨_,rfl,v3,d3,1,9,rfl,h3,_,rfl,?_⟩
 cases e3:bI 1 9 d3 with
 | false=>
  rw[e3]at qe
  exact aV ⟨one,qe rfl⟩
 | true=>
 rw[e3]at q
 exact a7 (q rfl)
def sM (F:Fun K "check_body" "check_body" mR f fd) (T:TxtQ K mg A) (ad5:(Callee P w K mg base) "is_row" 3 ["thing"] iW):(FnOk P w K mg base (CXE P w)) 4 f fd ["body"] (fT A):=by
 refine F.okY ["body"] fun cdv A' outer s H vs Q E hr nD0 h=>?_
 obtain⟨v,d,rfl,hd,hz,q,qe⟩:=h
 refine⟨_,aB (a6 (cK (cU (a5 ad5 ((hr.mono (by decide))) bB (cZ (bV (aR cY (aR aG (aJ (pv 0) aF)))) aF))))
   (aB (dF eO ⋯ T.ah7 ⋯ T.ba1 (aR cY aF)))
   aO),?_⟩
 refine⟨_,rfl,bP,fun p hp=>?_⟩
 have S:=aI (o:=.tup [.str "put",.int 0,v]) hp
 refine⟨.ref p,.tuple [.str "put",.int 0,d],rfl,?_,fun k n bs e=>?_,fun H1 S1=>⟨_,rfl,?_⟩⟩
 ·simp only[Den,aW]
  exact⟨p,_,rfl,aC,_,_,rfl,rfl,_,_,rfl,rfl,_,_,rfl,hd.same S,rfl⟩
 ·injection e with e
  injection e with _ e
  injection e with _ e
  injection e with e _
  exact hz bs e
 cases hb:aQ (.tuple [.str "put",.int 0,d]) with
 | false=>exact aV ⟨(by show 1<=sizeLine; decide),qe hb H1 (S.trans S1)⟩
 | true=>exact a7 (q hb H1 (S.trans S1))
end
abbrev oP:Stmt:=top 54
def mkN (D:Dk) (n:Str):Dk:=⟨D.fs++[(n,[])],D.done+1,none⟩
def BG (D:Dk) (n:Str):Dk:=⟨jY D.fs n,D.done+1,none⟩
def nR (D:Dk) (n:Str) (bs:Hm) (k:Nat):Dk:=⟨bZ D.fs n bs,D.done+(k:Int),none⟩
def dI (h:D.left=none):dQ D=some ⟨D.fs,D.done+1,none⟩:=by
 unfold dQ
 rw[h]
def mI (fs:List (Str × Hm)) (n:Str) (a b:Hm):bZ (bZ fs n a) n b=bZ fs n b:=by
 unfold bZ
 rw[map_map]
 apply map_congr_left
 intro p _
 by_cases z:p.1=n
 ·simp [z]
 ·simp [z]
def fI:∀ {fs:List (Str × Hm)},(fs.map (·.1)).Nodup->aH fs n=some bs->bZ fs n bs=fs
 | [],_,_=>rfl
 | p::fs,hn,h=>by
  rw[map_cons,nodup_cons]at hn
  show (if p.1=n then (p.1,bs) else p)::bZ fs n bs=_
  by_cases z:p.1=n
  ·have e:aH (p::fs) n=some p.2:=by simp [aH,z]
   rw[e]at h
   cases h
   rw[if_pos z,Ah (fun m=>hn.1 (by rw[z]; exact m))]
  ·have e:aH (p::fs) n=aH fs n:=by simp [aH,z]
   rw[e]at h
   rw[if_neg z,fI hn.2 h]
def lG:∀ {ns:Hm} {D:Dk} {bs:Hm},D.left=none->(D.fs.map (·.1)).Nodup->aH D.fs n=some bs->eG n D ns=(nR D n (bs++ns) ns.length,true)
 | [],D,bs,hl,hk,hb=>by
  obtain⟨fs,done,left⟩:=D
  have hl:left=none:=hl
  subst hl
  show ((⟨fs,done,none⟩:Dk),true)=(⟨bZ fs n (bs++[]),done+((0:Nat):Int),none⟩,true)
  rw[append_nil,fI hk hb]
  simp
 | b::ns,D,bs,hl,hk,hb=>by
  show (match dQ D with | none=>(D,false) | some D1=>eG n ⟨bZ D1.fs n ((aH D1.fs n).getD []++[b]),D1.done,D1.left⟩ ns)=_
  rw[dI hl]
  try dsimp only
  rw[hb,lG (bs:=bs++[b]) rfl (by rw[fJ]; exact hk) (iY hb)]
  unfold nR
  try dsimp only
  rw[getD_some,mI,append_assoc,length_cons]
  have:D.done+1+(ns.length:Int)=D.done+((ns.length+1:Nat):Int):=by omega
  rw[this]
  rfl
def eI.trans (f1:eI dk df k1 H H1) (g1:i8 dk df k1 k2 H) (f2:eI dk df k2 H1 H2):eI dk df k1 H H2:=fun b o e nb=>
 f2 b o (f1 b o e nb) (fun z=>(g1 b z).elim nb (fun y=>by rw[y]at e; cases e))
def i8.trans (f1:eI dk df k1 H H1) (g1:i8 dk df k1 k2 H) (g2:i8 dk df k2 k3 H1):i8 dk df k1 k3 H:=fun b hb=>by
 rcases g2 b hb with z | z
 ·exact g1 b z
 ·by_cases y:own dk df k1 b
  ·exact .inl y
  ·refine .inr ?_
   cases e:H b with
   | none=>rfl
   | some o=>rw[f1 b o e y]at z; cases z
def jJ (h:DiskAt C H dk df kvs D) (hb:own dk df kvs b):∃ o,H b=some o:=by
 rcases hb with rfl | rfl | hb
 ·obtain⟨dx,h1⟩:=h.self
  exact⟨_,h1⟩
 ·exact⟨_,h.files⟩
 ·obtain⟨xs,e⟩:=kN h.rel hb
  exact⟨_,e⟩
def fD (fs:List (Str × Hm)) (n m:Str) (e:Hm) (h:aH fs n=none):aH (fs++[(n,e)]) m=if m=n then some e else aH fs m:=by
 unfold aH at h ⊢
 rw[map_eq_none_iff,find?_eq_none]at h
 rw[List.find?_append]
 by_cases z:m=n
 ·subst z
  have:fs.find? (fun p=>decide (p.1=m))=none:=find?_eq_none.mpr h
  rw[this,if_pos rfl]
  simp
 ·rw[if_neg z]
  have z':¬ n=m:=fun y=>z y.symm
  cases fs.find? (fun p=>decide (p.1=m)) with
  | none=>simp [z']
  | some p=>simp
def kJ (fs:List (Str × Hm)) (n m:Str) (e:Hm):aH (bZ fs n e) m=if m=n then (aH fs n).map (fun _=>e) else aH fs m:=by
 unfold aH bZ
 induction fs with
 | nil=>split <;> rfl
 | cons p fs ih=>
  rw[map_cons,find?_cons,find?_cons,find?_cons]
  by_cases z:m=n
  ·subst z
   rw[if_pos rfl]at ih ⊢
   by_cases y:p.1=m
   ·simp [y]
   ·simp only[y,if_false,decide_false]
    exact ih
  ·rw[if_neg z]at ih ⊢
   by_cases y:p.1=n
   ·have:¬ p.1=m:=fun x=>z (x.symm.trans y)
    simp only[y,if_true]
    rw[decide_eq_false (fun x:n=m=>z x.symm)]
    exact ih
   ·simp only[y,if_false]
    by_cases x:p.1=m
    ·simp [x]
    ·simp only[x,decide_false]
     exact ih
def pM (h0:0<=n) (h1:n<=999999):aQ (bT ("from",n,[]))=true:=by
 show (bW.contains "from" && (bI 0 999999 (.int n) && (cG (.tuple []) && fF "from" (a9 (.tuple [])))))=true
 have:bI 0 999999 (.int n)=true:=by
  simp only[bI,and_eq_true,decide_eq_true_eq]
  exact⟨h0,h1⟩
 rw[this]
 decide +kernel
def eQ (h:k [] H):o7 σ H k:=h
section
variable {C c1 c2 c3 c4 dk df:Addr} {kvs:Hu} {D:Dk} {n:Int} {H:Hp} {Q:V->Hp->Prop} {E:XK} {bs:Hm}
def Cj (hD:DiskAt C H dk df kvs D) (hl:D.left=none) (hn:cX n) (hf:D.fs.length<100000) (hno:aH D.fs (aM n)=none) (q:∀ kvs' H',eI dk df kvs H H'->i8 dk df kvs kvs' H->DiskAt C H' dk df kvs' (mkN D (aM n))->Q .non H'):kY C c1 c2 c3 [.ref dk,.str (aM n)] H Q E:=by
 refine⟨dk,df,kvs,D,_,.str (aM n),rfl,hD,by simp only[Den],jG hn,hf,(fun z=>by rw[eZ hn]at z; cases z),fun n' e _=>?_⟩
 injection e with e
 subst e
 refine⟨(fun bs z=>by rw[hno]at z; cases z),fun _=>⟨(fun z=>by rw[dI hl]at z; cases z),fun D1 hs kvs' H' f g h=>?_⟩⟩
 rw[dI hl]at hs
 cases hs
 exact q _ _ f g h
def Ck (hD:DiskAt C H dk df kvs D) (hl:D.left=none) (hn:cX n) (hb:aH D.fs (aM n)=some bs) (q:∀ kvs' H',eI dk df kvs H H'->i8 dk df kvs kvs' H->DiskAt C H' dk df kvs' (BG D (aM n))->Q .non H'):pG C c1 c2 c3 [.ref dk,.str (aM n)] H Q E:=by
 refine⟨dk,df,kvs,D,_,.str (aM n),rfl,hD,by simp only[Den],jG hn,(fun z=>by rw[eZ hn]at z; cases z),fun n' e _=>?_⟩
 injection e with e
 subst e
 refine⟨(fun z=>by rw[hb]at z; cases z),fun bs' z=>⟨(fun z=>by rw[dI hl]at z; cases z),fun D1 hs kvs' H' f g h=>?_⟩⟩
 rw[dI hl]at hs
 cases hs
 exact q _ _ f g h
def Ep (hD:DiskAt C H dk df kvs D) (hl:D.left=none) (hn:cX n) (hf:D.fs.length<1000) (hb:aH D.fs (aM n)=some bs) (hk:k<=bs.length) (q:∀ kvs' H',eI dk df kvs H H'->i8 dk df kvs kvs' H->DiskAt C H' dk df kvs' (nR D (aM n) (bs.take k) 1)->Q .non H'):vA C c1 c2 c3 c4 [.ref dk,.str (aM n),.int (k:Int)] H Q E:=by
 refine⟨dk,df,kvs,D,_,_,.str (aM n),.int (k:Int),rfl,hD,by simp only[Den],jG hn,by simp only[Den],hf,(fun z=>by rw[eZ hn]at z; cases z),fun n' e _=>?_⟩
 injection e with e
 subst e
 refine⟨(fun z=>by rw[hb]at z; cases z),fun bs' z=>?_⟩
 rw[hb]at z
 cases z
 have hi:bI 0 bs.length (.int (k:Int))=true:=by
  simp only[bI,and_eq_true,decide_eq_true_eq]
  omega
 refine⟨(fun z=>by rw[hi]at z; cases z),fun _=>⟨(fun z=>by rw[dI hl]at z; cases z),fun D1 hs kvs' H' f g h=>?_⟩⟩
 rw[dI hl]at hs
 cases hs
 exact q _ _ f g h
def Er (hD:DiskAt C H dk df kvs D) (hl:D.left=none) (hn:cX n) (hb:aH D.fs (aM n)=some bs) (hz:∀ n bs,aH D.fs n=some bs->bs.length<=100000) (ha:H a=some (.tup (ns.map V.int))) (hby:∀ b∈ns,0<=b/\b<=255) (hln:ns.length<=100000) (q:∀ H',eI dk df kvs H H'->DiskAt C H' dk df kvs (nR D (aM n) (bs++ns) ns.length)->Q .non H'):qC C c1 c2 c3 c4 [.ref dk,.str (aM n),.ref a] H Q E:=by
 refine⟨dk,df,kvs,D,_,_,.str (aM n),.tuple (ns.map .int),rfl,hD,by simp only[Den],jG hn,by simp only[Den]; exact⟨a,_,rfl,ha,bO.mpr rfl⟩,(fun ds e=>by injection e with e; rw[<- e,length_map]; exact hln),hz,(fun z=>by rw[eZ hn]at z; cases z),fun n' e _=>?_⟩
 injection e with e
 subst e
 refine⟨(fun z=>by rw[hb]at z; cases z),fun bs' z=>?_⟩
 rw[hb]at z
 cases z
 have hi:cG (.tuple (ns.map .int))=true:=lF hby
 refine⟨(fun z=>by rw[hi]at z; cases z),fun _ H' f h=>?_⟩
 rw[dG,lG hl hD.kn hb]at h ⊢
 exact⟨fun _=>q H' f h,(fun z=>by cases z)⟩
def wN (hD:DiskAt C H dk df kvs D) (hn:cX n) (hb:aH D.fs (aM n)=some bs) (q:∀ H',aD H H'->Q (.int (bs.length:Int)) H'):mD C c1 c2 [.ref dk,.str (aM n)] H Q E:=by
 refine⟨dk,df,kvs,D,_,.str (aM n),rfl,hD,by simp only[Den],jG hn,(fun z=>by rw[eZ hn]at z; cases z),fun n' e _=>?_⟩
 injection e with e
 subst e
 refine⟨(fun z=>by rw[hb]at z; cases z),fun bs' z=>?_⟩
 rw[hb]at z
 cases z
 exact q
def Ci (hD:DiskAt C H dk df kvs D) (hn:cX n) (hb:aH D.fs (aM n)=some bs) (q:∀ p H',aD H H'->H' p=some (.tup (bs.map V.int))->Q (.ref p) H'):mE C c1 c2 [.ref dk,.str (aM n)] H Q E:=by
 refine⟨dk,df,kvs,D,_,.str (aM n),rfl,hD,by simp only[Den],jG hn,(fun z=>by rw[eZ hn]at z; cases z),fun n' e _=>?_⟩
 injection e with e
 subst e
 refine⟨(fun z=>by rw[hb]at z; cases z),fun bs' z=>?_⟩
 rw[hb]at z
 cases z
 exact q
def Ch {a:Addr} {rs:Hy} {k:Nat} (ha:H a=some (.tup (bs.map V.int))) (hby:∀ b∈bs,0<=b/\b<=255) (hln:bs.length<=100000) (hr:cA (bs.length+1) bs=some (rs.map bT,k)) (q:∀ p pL H',aD H H'->H' p=some (.tup [.ref pL,.int (k:Int)])->Den H' (.list (rs.map bT)) (.ref pL)->Q (.ref p) H'):gX c1 c2 [.ref a] H Q E:=by
 have isb:cG (.tuple (bs.map .int))=true:=lF hby
 refine⟨.ref a,.tuple (bs.map .int),rfl,by simp only[Den]; exact⟨a,_,rfl,ha,bO.mpr rfl⟩,(fun bs' e=>?_),(fun z=>by rw[isb]at z; cases z),fun _=>?_⟩
 ·injection e with e
  rw[<- e,length_map]
  exact le_trans hln (by decide)
 rw[dG]
 refine⟨fun ds k' er p2 H2 S2 d2 _=>?_,(fun z=>by rw[hr]at z; cases z)⟩
 rw[hr]at er
 cases er
 have d2':=d2
 simp only[Den,aW]at d2'
 obtain⟨_,_,e1,gf,_,_,rfl,⟨pL,ys,rfl,gL,dL⟩,_,_,rfl,rfl,rfl⟩:=d2'
 cases e1
 exact q p2 pL H2 S2 gf (by simp only[Den]; exact⟨pL,ys,rfl,gL,dL⟩)
def tW (h:aQ (bT r)=true):bW.contains r.1=true/\0<=r.2.1/\r.2.1<=999999/\eC r.2.2/\fF r.1 r.2.2=true:=by
 obtain⟨k,n,bs,e,hk,h0,h1,hb,hf⟩:=jO h
 unfold bT gP at e
 injection e with e
 injection e with e1 e
 injection e with e2 e
 injection e with e3 e
 injection e1 with e1
 injection e2 with e2
 injection e3 with e3
 have hb':eC (a9 (.tuple bs)):=l6 hb
 rw[<- e3,dG]at hf hb'
 rw[e1,e2]
 exact⟨hk,h0,h1,hb',by rw[<- e1]at hf ⊢; exact hf⟩
def nV (h:aQ (bT r)=true):r.2.2.length<=61:=rR (tW h).2.2.2.2
def gO (h:aQ (bT r)=true):∀ b∈bU r.1 r.2.1 r.2.2,0<=b/\b<=255:=by
 obtain⟨hk,h0,h1,hb,hf⟩:=tW h
 have hl:=rR hf
 have hm:r.1∈bW:=by simpa using hk
 have hi:=List.idxOf_lt_length_of_mem hm
 have hi:bW.idxOf r.1<8:=hi
 intro b hm
 unfold bU dP eA at hm
 simp only[mem_append,mem_cons,List.not_mem_nil,or_false]at hm
 rcases hm with (z | z) | (((z | z | z | z) | z) | z)
 ·omega
 ·omega
 ·omega
 ·omega
 ·omega
 ·omega
 ·omega
 ·exact hb b z
def FC (r:Rw):DI (bT r)=bU r.1 r.2.1 r.2.2:=by
 show bU r.1 r.2.1 (a9 (.tuple (r.2.2.map .int)))=_
 rw[dG]
def uV (hd:Den H (bT r) v) (hr:aQ (bT r)=true) (q:∀ p H',aD H H'->H' p=some (.tup ((bU r.1 r.2.1 r.2.2).map V.int))->Q (.ref p) H'):dY c1 [v] H Q E:=by
 refine⟨v,bT r,rfl,hd,fun k n bs e=>?_,fun _ p H' S g=>q p H' S (by rw[<- FC]; exact g),(fun z=>by rw[hr]at z; cases z)⟩
 have hs:=nV hr
 unfold bT gP at e
 injection e with e
 injection e with e1 e
 injection e with e2 e
 injection e with e3 e
 injection e3 with e3
 rw[<- e3,length_map]
 exact le_trans hs (by decide)
end
def dW (bs:Hm):Hy:=match cA (bs.length+1) bs with
 | none=>[]
 | some r=>a4 (r.1.map sT)
def bX (rs:Hy):Nat:=(rs.map fun r=>7+r.2.2.length).sum
def m3 (D:Dk) (ms:Hm):Dk × Hm:=
 if dW ((aH D.fs (aM (ms.getLastD 0))).getD [])=[]/\1<ms.length then (BG D (aM (ms.getLastD 0)),ms.dropLast)
 else
  let bs:=(aH D.fs (aM (ms.getLastD 0))).getD []
  let D2:=if bX (dW bs)<bs.length then nR D (aM (ms.getLastD 0)) (bs.take (bX (dW bs))) 1 else D
  if dW bs=[] then (nR D2 (aM (ms.getLastD 0)) (bU "from" 0 []) 7,ms) else (D2,ms)
def bH (D:Dk) (ms:Hm):Dk × Hm:=if ms=[] then m3 (mkN D (aM 0)) [0] else m3 D ms
inductive jA (A:Ad) (vs:Hw) (H:Hp) (Q:VK) (x_3:XK):Prop
 | mk:∀ (dk df:Addr) (kvs:Hu) (D:Dk) (ns:Hm),vs=[.ref dk]->DiskAt A.disk H dk df kvs D->D.left=none->DiskOk D ns->(∀ ms,List.Perm ms ns->ms.Pairwise (· <= ·)->jP ms/\(∀ bs,aH D.fs (aM (ms.getLastD 0))=some bs->cA (bs.length+1) bs≠none)/\
 ∀ kvs' H',eI dk df kvs H H'->i8 dk df kvs kvs' H->DiskAt A.disk H' dk df kvs' (bH D ms).1->∀ p,H' p=some (.lst ((bH D ms).2.map V.int))->¬ own dk df kvs' p->Q (.ref p) H')->jA A vs H Q x_3
def v5 {i:Nat} {x:V} {s tl:TS} {D0 D:Ends} {σ : St} {H:Hp} (J:St->Hp->Prop) (h2:∀ n:St->Hp->Prop,(∀ σ' H',J σ' H'->n σ' H')->s (D.next n) (σ.set i (some x)) H) (h1:∀ σ' H',J σ' H'->tl D σ' H'):C2 (BD i) (D0.next (BY s tl D)) σ x H:=h2 _ h1
def A1 {s tl:TS} {D0 D:Ends} {σ : St} {H:Hp} (J:St->Hp->Prop) (h2:∀ n:St->Hp->Prop,(∀ σ' H',J σ' H'->n σ' H')->s (D.next n) σ H) (h1:∀ σ' H',J σ' H'->tl D σ' H'):(D0.next (BY s tl D)).nx σ H:=h2 _ h1
def EZ (h:xs≠[]):fN xs none (some (-1))=xs.dropLast:=by
 have hl:0<xs.length:=List.length_pos_iff.mpr h
 unfold fN
 have e:HT.sIx xs.length xs.length (some (-1))=xs.length - 1:=by
  unfold HT.sIx
  simp
  omega
 rw[HT.mS,e,List.drop_zero,Nat.sub_zero,List.dropLast_eq_take]
section
variable {P:Program} {w:World} {K:Hh} {mg:Hj} {base:Heap} {A:Ad}
def vQ (F:Fun K "make_good" "make_good" oP f fd) (T:TxtQ K mg A) (ab0:(Callee P w K mg base "segment_name" 1 ["segment"] gE)) (ac7:(Callee P w K mg base) "segments_on" 3 ["disk"] (eV A)) (af7:(Callee P w K mg base) "rows_in" 5 ["some"] (gX A.badRow A.broken)) (ab4:(Callee P w K mg base) "without_last_parts" 1 ["rows"] i9) (ab7:(Callee P w K mg base) "row_bytes" 4 ["row"] (dY A.badRow))
  (ai7:(Method P w K mg base) A.disk "read" 4 ["self","name"] (mE A.disk A.badName A.missing)) (ai8:(Method P w K mg base) A.disk "size" 4 ["self","name"] (mD A.disk A.badName A.missing)) (ai9:(Method P w K mg base) A.disk "make" 3 ["self","name"] (kY A.disk A.badName A.there A.stopped)) (ay7:(Method P w K mg base) A.disk "drop" 4 ["self","name"] (pG A.disk A.badName A.missing A.stopped)) (bc5:(Method P w K mg base) A.disk "cut" 4 ["self","name","size"] (vA A.disk A.badName A.missing A.badNumber A.stopped)) (ag2:(Method P w K mg base A.disk "add" 4 ["self", "name", "some"] (qC A.disk A.badName A.missing A.badRow A.stopped))):(FnOk P w K mg base (CXE P w)) 6 f fd ["disk"] (jA A):=by
 refine F.okY ["disk","segments","name","rows","size"] fun cdv A' outer s H vs Q E hr nD0 h=>?_
 obtain⟨dk,df,kvs,D,ns,rfl,hD,hl,ok,q⟩:=h
 refine⟨_,aA (aT (i:=1) nD0 ⋯ ⋯ (a5 ac7 ((hr.mono (by decide))) bK (aJ (pv 0) aF)))
  (aA (a6 (cK (hU K (pv 1)))
   (aA (bD (cP ai9 T.ac1 ((hr.mono (by decide))) bK (pv 0) (cC (a5 ab0 ((hr.mono (by decide))) bB (aR aG aF)) aF)))
   (aB (aT (i:=1) nD0 ⋯ ⋯ (gI (aR aG aF)))))
   aO)
  (aA (aT (i:=2) nD0 ⋯ ⋯ (a5 ab0 ((hr.mono (by decide))) bB (aP (dO (c6 K) (pv 1) (Aw uW aG) (fun _ _ => rfl)) aF)))
  (aA (aT (i:=3) nD0 ⋯ ⋯ (a5 ab4 ((hr.mono (by decide))) bB (aP (dO (fE K) (a5 af7 ((hr.mono (by decide))) bK (cC (cP ai7 T.ac1 ((hr.mono (by decide))) bK (pv 0) (aJ (pv 2) aF)) aF)) aG (fun _ _=>rfl)) aF)))
  (aA (a6 (lX (cK (hU K (pv 3))) (jI (bA xU (bE (cV K) ⋯ T.ad0 fO (aJ (pv 1) aF)) aG (bF _)))).pt
   (aA (bD (cP ay7 T.ac1 ((hr.mono (by decide))) bK (pv 0) (aJ (pv 2) aF)))
   (aB (aX (fA (qE K) (pv 1) iE (fU (Aw uW aG))))))
   aO)
  (aA (aT (i:=4) nD0 ⋯ ⋯ (bE (oI K) ⋯ T.aw6 AT (dR (fB ["row"] [] ⋯ (eM K (pv 3)) (fun C s2 H2 ex=>(cH (i:=0) (show List.Nodup (["row"]:Ho) by decide +kernel) ⋯ (Or.inl ⋯))) (fun C s2 H2 ex => FK) (fun C s2 H2 ex=>(bE (cV K) ⋯ T.ad0 fO (cC (a5 ab7 ((hr.mono (by decide))) bB (aJ (pv 0) aF)) aF)))) aF)))
  (aA (a6 (bA A0 (pv 4) (cP ai8 T.ac1 ((hr.mono (by decide))) bK (pv 0) (aJ (pv 2) aF)) (bF _))
   (aB (bD (cP bc5 T.ac1 ((hr.mono (by decide))) bK (pv 0) (aJ (pv 2) (aJ (pv 4) aF)))))
   aO)
  (aA (a6 (cK (hU K (pv 3)))
   (aB (bD (cP ag2 T.ac1 ((hr.mono (by decide))) bK (pv 0) (aJ (pv 2) (cC (a5 ab7 ((hr.mono (by decide))) bK (cZ (bV (aR cY (aR aG (cZ (bV aF) aF)))) aF)) aF)))))
   aO)
  (aB (aX (pv 1)))))))))),?_⟩
 refine⟨_,rfl,dk,df,kvs,D,ns,rfl,hD,ok.keys,ok.nums,ok.few,fun ms perm pw hg p H1 S1 hp g1=>?_,fun ms perm pw hg=>absurd (q ms perm pw).1 hg⟩
 obtain⟨_,hread,qs⟩:=q ms perm pw
 clear q
 have lm:=perm.length_eq
 have hn0:ms=[]->D.fs=[]:=fun e=>by
  rw[e]at perm
  have:ns=[]:=perm.symm.eq_nil
  have k:=ok.keys
  rw[this]at k
  exact List.map_eq_nil_iff.mp k
 have fl:D.fs.length<900:=by
  have:=congrArg List.length ok.keys
  rw[length_map,length_map]at this
  have:=ok.few
  omega
 have hD1:=hD.same S1
 have np:¬ own dk df kvs p:=fun z=>by
  obtain⟨o,e⟩:=jJ hD z
  rw[hp]at e
  cases e
 try dsimp only
 refine v5 (fun σ' H'=>∃ kvs1 D1 ms1 p1 bs,σ'=[some (.ref dk),some (.ref p1),none,none,none]/\eI dk df kvs H H'/\i8 dk df kvs kvs1 H/\DiskAt A.disk H' dk df kvs1 D1/\D1.left=none/\ms1≠[]/\cX (ms1.getLastD 0)/\aH D1.fs (aM (ms1.getLastD 0))=some bs/\(∀ n bs,aH D1.fs n=some bs->(∀ b∈bs,0<=b/\b<=255)/\bs.length<=100000)/\cA (bs.length+1) bs≠none/\D1.fs.length<1000/\H' p1=some (.lst (ms1.map V.int))/\¬ own dk df kvs1 p1/\bH D ms=m3 D1 ms1) (fun n hn=>?_) ?_
 ·refine⟨_,rfl,p,_,rfl,SqL.of g1,?_⟩
  try dsimp only
  by_cases hm:ms=[]
  ·have hfs:=hn0 hm
   subst hm
   refine aV ?_
   obtain⟨dx1,h11⟩:=hD1.self
   have hno:aH D.fs (aM 0)=none:=by rw[hfs]; rfl
   refine⟨_,rfl,dk,dx1,_,rfl,h11,rfl,0,rfl,⟨by decide,by decide⟩,eQ (Cj hD1 hl ⟨by decide,by decide⟩ (by omega) hno fun kvs' H2 f2 w2 hD2=>?_)⟩
   refine⟨bP,fun p2 hp2=>?_⟩
   have S2:=aI (o:=.lst [.int 0]) hp2
   have g2:upd H2 p2 (.lst [.int 0]) p2=some (.lst [.int 0]):=aC
   generalize upd H2 p2 (.lst [.int 0])=H3 at S2 g2 ⊢
   have f02:eI dk df kvs H H2:=eI.trans (fun b o e _=>S1 b o e) (fun b h=>.inl h) f2
   have hmk:(mkN D (aM 0)).fs=[(aM 0,[])]:=by
    show D.fs++[(aM 0,[])]=_
    rw[hfs]
    rfl
   refine hn _ _ ⟨kvs',mkN D (aM 0),[0],p2,[],rfl,fun b o e nb=>S2 _ _ (f02 b o e nb),i8.trans (fun b o e _=>S1 b o e) (fun b h=>.inl h) w2,hD2.same S2,rfl,by simp,⟨by decide,by decide⟩,?_,fun n bs e=>?_,?_,?_,g2,?_,?_⟩
   ·rw[hmk]
    simp [aH]
   ·rw[hmk]at e
    have:bs=[]:=by
     unfold aH at e
     rw[find?_cons]at e
     split at e
     ·cases e
      rfl
     ·cases e
    rw[this]
    exact⟨(fun b hb=>by cases hb),by decide⟩
   ·intro z
    rw[hG]at z
    cases z
   ·rw[hmk]
    decide
   ·intro z
    obtain⟨o,e⟩:=jJ hD2 z
    rw[e]at hp2
    cases hp2
   ·unfold bH
    rw[if_pos rfl]
  ·obtain⟨x,ms',em⟩:=List.exists_cons_of_ne_nil hm
   have hem:(!(ms.map V.int).isEmpty)=true:=by rw[em]; rfl
   rw[hem]
   refine a7 (bG rfl ?_)
   have lin:ms.getLastD 0∈ns:=by
    refine perm.mem_iff.mp ?_
    rw[List.getLastD_eq_getLast?,List.getLast?_eq_some_getLast hm]
    exact List.getLast_mem hm
   obtain⟨bs,hbs⟩:=yA (fs:=D.fs) (n:=aM (ms.getLastD 0)) (by rw[ok.keys]; exact mem_map_of_mem lin)
   refine hn _ _ ⟨kvs,D,ms,p,bs,rfl,fun b o e _=>S1 b o e,fun b h=>.inl h,hD1,hl,hm,ok.nums _ lin,hbs,ok.bytes,hread bs hbs,by omega,g1,np,?_⟩
   unfold bH
   rw[if_neg hm]
 rintro σ' H2 ⟨kvs1,D1,ms1,p1,bs,rfl,f2,w2,hD2,hl1,hm1,hnum,hbs,hby,hrd,hfl,g1',no1,egood⟩
 rw[egood]at qs
 clear egood
 obtain⟨dx2,h12⟩:=hD2.self
 obtain⟨hby1,hby2⟩:=hby _ _ hbs
 refine⟨_,rfl,1,rfl,p1,_,_,.int (ms1.getLastD 0),rfl,rfl,SqL.of g1',pJ hm1,ms1.getLastD 0,rfl,hnum,?_⟩
 cases er:cA (bs.length+1) bs with
 | none=>exact absurd er hrd
 | some res=>
 obtain⟨ds,k⟩:=res
 obtain⟨rall,rlen⟩:=mU er
 obtain⟨rs,rfl,hrs⟩:=Ar rall
 rw[length_map]at rlen
 have hk:dW bs=a4 rs:=by
  unfold dW
  rw[er]
  show a4 ((rs.map bT).map sT)=_
  rw[kX]
 refine⟨_,rfl,dk,dx2,_,rfl,h12,rfl,_,rfl,eQ (Ci hD2 hnum hbs fun pr H3 S3 g3=>?_)⟩
 refine eQ (Ch g3 hby1 hby2 er fun pf pL H4 S4 g4 d4=>?_)
 refine⟨pf,_,_,.ref pL,rfl,rfl,SqT.of g4,cJ (by decide) rfl,pL,rs,rfl,d4,by omega,fun p5 H5 S5 hp5 d5=>?_⟩
 have hrs':∀ r∈a4 rs,aQ (bT r)=true:=fun r h=>hrs r (nF r h)
 have lcut:=nG rs
 generalize a4 rs=rs' at hk d5 hrs' lcut
 simp only[Den]at d5
 obtain⟨_,zs,e5,g5,dz⟩:=d5
 cases e5
 have lz:=dz.length
 rw[length_map]at lz
 have S25:=S3.trans (S4.trans S5)
 have hD5:=hD2.same S25
 obtain⟨dx5,h15⟩:=hD5.self
 have g15:=S25 _ _ g1'
 have f5:eI dk df kvs H H5:=fun b o e nb=>S25 _ _ (f2 b o e nb)
 have ld:(aH D1.fs (aM (ms1.getLastD 0))).getD []=bs:=by rw[hbs]; rfl
 unfold m3 at qs
 rw[ld,hk]at qs
 have no5:¬ own dk df kvs1 p5:=fun z=>by
  obtain⟨o,e⟩:=jJ hD2 z
  rw[S4 _ _ (S3 _ _ e)]at hp5
  cases hp5
 have bl1:ms1.length<=sizeLine\/True:=.inr trivial
 try dsimp only
 refine v5 (fun σ' H'=>σ'=[some (.ref dk),some (.ref p1),some (.str (aM (ms1.getLastD 0))),some (.ref p5),none]/\H'=H5/\¬ (rs'=[]/\1<ms1.length)) (fun n hn=>?_) ?_
 ·refine⟨_,rfl,p5,_,rfl,SqL.of g5,?_⟩
  try dsimp only
  by_cases hr0:rs'=[]
  ·have:zs=[]:=length_eq_zero_iff.mp (by rw[lz,hr0]; rfl)
   subst this
   refine aV ?_
   refine⟨_,rfl,p1,_,rfl,.inl (SqL.of g15),_,_,rfl,rfl,_,rfl,?_⟩
   rw[length_map]
   show if decide ((1:Int)<(ms1.length:Int))=true then _ else _
   by_cases hlen:1<ms1.length
   ·rw[if_pos (decide_eq_true (by omega))]
    refine⟨_,rfl,dk,dx5,_,rfl,h15,rfl,_,rfl,eQ (Ck hD5 hl1 hnum hbs fun kvs' H6 f6 w6 hD6=>?_)⟩
    have g16:=f6 _ _ g15 no1
    have nown:¬ own dk df kvs' p1:=fun z=>(w6 _ z).elim no1 (fun y=>by rw[y]at g15; cases g15)
    refine⟨_,rfl,1,rfl,_,rfl,p1,_,rfl,SqL.of g16,fun p7 hp7=>?_⟩
    have S7:=aI (o:=.lst (fN (ms1.map V.int) none (some (-1)))) hp7
    have g7:upd H6 p7 (.lst (fN (ms1.map V.int) none (some (-1)))) p7=some (.lst (fN (ms1.map V.int) none (some (-1)))):=aC
    rw[EZ (by simpa using hm1)]at S7 g7 ⊢
    have ed:(ms1.map V.int).dropLast=ms1.dropLast.map V.int:=by rw[List.map_dropLast]
    rw[ed]at S7 g7 ⊢
    rw[if_pos ⟨hr0,hlen⟩]at qs
    have f6':eI dk df kvs H H6:=eI.trans f5 w2 f6
    have w6':i8 dk df kvs kvs' H:=i8.trans f5 w2 w6
    refine qs kvs' _ (fun b o e nb=>S7 _ _ (f6' b o e nb)) w6' (hD6.same S7) p7 g7 (fun z=>?_)
    obtain⟨o,e⟩:=jJ hD6 z
    rw[e]at hp7
    cases hp7
   ·rw[if_neg (by rw[decide_eq_true_eq]; omega)]
    exact bG rfl (hn _ _ ⟨rfl,rfl,fun z=>hlen z.2⟩)
  ·have:(!zs.isEmpty)=true:=by
    cases zs with
    | nil=>exact absurd (length_eq_zero_iff.mp lz.symm) hr0
    | cons _ _=>rfl
   rw[this]
   exact a7 (a7 (bG rfl (hn _ _ ⟨rfl,rfl,fun z=>hr0 z.1⟩)))
 rintro _ _ ⟨rfl,rfl,hnot⟩
 rw[if_neg hnot]at qs
 dsimp only at qs
 rw[hk]at qs
 refine⟨_,rfl,p5,rfl,⟨_,SqL.of g5⟩,?_⟩
 refine dH (eK (K:=K) (SqL.of g5)) (by rw[lz]; exact le_trans (show _<=100000 by omega) (by decide)) (fun i y _=>∃ r,rs'[i]? = some r/\y = .int ((7+r.2.2.length:Nat):Int)) (fun _ _ _ _ _ h=>h) (fun σ=>∃ z,σ = [z]) ?z0 ?_ ?_
 case z0=>exact⟨none,rfl⟩
 ·intro i x σc H6 hi hσ s6 hx Q' hQ'
  obtain⟨z,rfl⟩:=hσ
  obtain⟨d,hd,dn⟩:=dz.get hx
  rw[getElem?_map]at hd
  cases ej:rs'[i]? with
  | none=>rw[ej]at hd; cases hd
  | some r=>
   rw[ej]at hd
   cases (Option.some.inj hd:bT r=d)
   refine⟨_,rfl,eQ (uV (dn.same s6) (hrs' r (mem_of_getElem? ej)) fun pb H7 S7 g7=>?_)⟩
   refine⟨pb,_,rfl,.inr (SqT.of g7),hQ' _ _ _ ⟨_,rfl⟩ S7 ⟨r,ej,?_⟩⟩
   rw[length_map,cB]
 intro pS ys H6 hpS S6 gS hlen hR
 have ey:ys=(rs'.map fun r=>((7+r.2.2.length:Nat):Int)).map V.int:=by
  apply ext_getElem?
  intro j
  cases ej:ys[j]? with
  | none=>
   have h1:=List.getElem?_eq_none_iff.mp ej
   rw[List.getElem?_eq_none_iff.mpr]
   rw[length_map,length_map]
   omega
  | some y=>
   obtain⟨n,e1,rfl⟩:=hR j y ej
   rw[getElem?_map,getElem?_map,e1]
   rfl
 subst ey
 have esum:(rs'.map fun r=>((7+r.2.2.length:Nat):Int)).sum=((bX rs':Nat):Int):=by
  unfold bX
  clear hk dz hrs' lcut lz qs hnot gS hR hlen
  induction rs' with
  | nil=>rfl
  | cons r rs ih=>
   rw[map_cons,map_cons,List.sum_cons,List.sum_cons,ih]
   omega
 refine⟨pS,_,rfl,.inl (SqL.of gS),?_⟩
 rw[esum]
 have hD6:=hD5.same S6
 obtain⟨dx6,h16⟩:=hD6.self
 have f6:eI dk df kvs H H6:=fun b o e nb=>S6 _ _ (f5 b o e nb)
 try dsimp only
 refine v5 (fun σ' H'=>∃ kvs3,σ'=[some (.ref dk),some (.ref p1),some (.str (aM (ms1.getLastD 0))),some (.ref p5),some (.int ((bX rs':Nat):Int))]/\eI dk df kvs H H'/\i8 dk df kvs kvs3 H/\DiskAt A.disk H' dk df kvs3 (if bX rs'<bs.length then nR D1 (aM (ms1.getLastD 0)) (bs.take (bX rs')) 1 else D1)/\H' p1=some (.lst (ms1.map V.int))/\H' p5=some (.lst zs)/\¬ own dk df kvs3 p1) (fun n hn=>?_) ?_
 ·refine⟨_,rfl,_,rfl,dk,dx6,_,rfl,h16,rfl,_,rfl,eQ (wN hD6 hnum hbs fun H7 S7=>?_)⟩
  refine⟨_,_,rfl,rfl,_,rfl,?_⟩
  show if decide (((bX rs':Nat):Int)<(bs.length:Int))=true then _ else _
  have hD7:=hD6.same S7
  have f7:eI dk df kvs H H7:=fun b o e nb=>S7 _ _ (f6 b o e nb)
  have S57:=S6.trans S7
  by_cases hc:bX rs'<bs.length
  ·rw[if_pos (decide_eq_true (by omega))]
   obtain⟨dx7,h17⟩:=hD7.self
   refine⟨_,rfl,dk,dx7,_,rfl,h17,rfl,_,rfl,_,rfl,eQ (Ep (k:=bX rs') hD7 hl1 hnum hfl hbs (le_of_lt hc) fun kvs3 H8 f8 w8 hD8=>?_)⟩
   refine hn _ _ ⟨kvs3,rfl,eI.trans f7 w2 f8,i8.trans f7 w2 w8,by rw[if_pos hc]; exact hD8,f8 _ _ (S57 _ _ g15) no1,f8 _ _ (S57 _ _ g5) no5,fun z=>(w8 _ z).elim no1 (fun y=>by rw[S57 _ _ g15]at y; cases y)⟩
  ·rw[if_neg (by rw[decide_eq_true_eq]; omega)]
   exact bG rfl (hn _ _ ⟨kvs1,rfl,f7,w2,by rw[if_neg hc]; exact hD7,S57 _ _ g15,S57 _ _ g5,no1⟩)
 rintro _ H8 ⟨kvs3,rfl,f8,w8,hD8,g18,g58,no8⟩
 have hl8:(if bX rs'<bs.length then nR D1 (aM (ms1.getLastD 0)) (bs.take (bX rs')) 1 else D1).left=none:=by
  split
  ·rfl
  ·exact hl1
 refine⟨_,rfl,p5,_,rfl,SqL.of g58,?_⟩
 try dsimp only
 by_cases hr0:rs'=[]
 ·have:zs=[]:=length_eq_zero_iff.mp (by rw[lz,hr0]; rfl)
  subst this
  refine aV ?_
  have hks:bX rs'=0:=by rw[hr0]; rfl
  have hlk:aH (if bX rs'<bs.length then nR D1 (aM (ms1.getLastD 0)) (bs.take (bX rs')) 1 else D1).fs (aM (ms1.getLastD 0))=some []:=by
   split
   ·show aH (bZ D1.fs _ _) _=_
    rw[iY hbs,hks]
    rfl
   ·rename_i hc
    have:bs=[]:=length_eq_zero_iff.mp (by omega)
    rw[hbs,this]
  have hlen8:∀ m b',aH (if bX rs'<bs.length then nR D1 (aM (ms1.getLastD 0)) (bs.take (bX rs')) 1 else D1).fs m=some b'->b'.length<=100000:=fun m b' e=>by
   split at e
   ·have e:aH (bZ D1.fs _ _) m=some b':=e
    rw[kJ]at e
    split at e
    ·rw[hbs]at e
     cases e
     rw[hks]
     exact zero_le _
    ·exact(hby _ _ e).2
   ·exact(hby _ _ e).2
  rw[if_pos hr0]at qs
  generalize (if bX rs'<bs.length then nR D1 (aM (ms1.getLastD 0)) (bs.take (bX rs')) 1 else D1)=D8 at hD8 hl8 hlk hlen8 qs
  obtain⟨dx8,h18⟩:=hD8.self
  refine⟨_,rfl,dk,dx8,_,rfl,h18,rfl,_,rfl,bP,fun q0 hq0=>⟨bP,fun q1 hq1=>?_⟩⟩
  have U1:=aI (o:=.tup []) hq0
  have u0:upd H8 q0 (.tup []) q0=some (.tup []):=aC
  generalize upd H8 q0 (.tup [])=H9 at U1 u0 hq1 ⊢
  have U2:=aI (o:=.tup [.str "from",.int 0,.ref q0]) hq1
  have u1:upd H9 q1 (.tup [.str "from",.int 0,.ref q0]) q1=some (.tup [.str "from",.int 0,.ref q0]):=aC
  generalize upd H9 q1 (.tup [.str "from",.int 0,.ref q0])=H10 at U2 u1 ⊢
  have fo:=pM (n:=0) (by decide) (by decide)
  refine eQ (uV (r:=("from",0,[])) ?_ fo fun pb H11 U3 u3=>?_)
  ·unfold bT gP
   simp only[Den,aW]
   exact⟨q1,_,rfl,u1,_,_,rfl,rfl,_,_,rfl,rfl,_,_,rfl,⟨q0,[],rfl,U2 _ _ u0,rfl⟩,rfl⟩
  have U:=U1.trans (U2.trans U3)
  refine eQ (Er (hD8.same U) hl8 hnum hlk hlen8 u3 (gO fo) (by rw[cB]; decide) fun H12 f12 hD12=>?_)
  refine⟨_,rfl,?_⟩
  rw[nil_append,cB]at hD12
  have f11:eI dk df kvs H H11:=fun b o e nb=>U _ _ (f8 b o e nb)
  exact qs kvs3 H12 (eI.trans f11 w8 f12) w8 hD12 p1 (f12 _ _ (U _ _ g18) no8) no8
 ·have:(!zs.isEmpty)=true:=by
   cases zs with
   | nil=>exact absurd (length_eq_zero_iff.mp lz.symm) hr0
   | cons _ _=>rfl
  rw[this]
  refine a7 (bG rfl ?_)
  rw[if_neg hr0]at qs
  exact⟨_,rfl,qs kvs3 H8 f8 w8 hD8 p1 g18 no8⟩
end
structure Qs where
 D:Dk
 B:Bk
 most:Int
 hold:Int
 tries:Int
 first:Int
 last:Int
 now:Int
 hs:List (Int × (Str × Int))
structure Pl where
 qu:Addr
 dk:Addr
 df:Addr
 bk:Addr
 de:Addr
 dp:Addr
 hd:Addr
 kvs:Hu
def quF (L:Pl) (q:Qs) (wr:Bool):Hv:=[("disk",.ref L.dk),("most",.int q.most),("hold",.int q.hold),("tries",.int q.tries),("book",.ref L.bk),("first",.int q.first),("last",.int q.last),("writing",.bl wr),("holders",.ref L.hd),("now",.int q.now)]
def HoR (H:Hp):List (Int × (Str × Int))->Hu->Prop
 | [],[]=>True
 | p::hs,r::kvs=>r.1=Sum.inl p.1/\(∃ t,r.2 = .ref t/\H t=some (.tup [.str p.2.1,.int p.2.2]))/\HoR H hs kvs
 | _,_=>False
def HoR.t (s:gB H H'):∀ {hs:List (Int × (Str × Int))} {kvs:Hu},HoR H hs kvs->HoR H' hs kvs
 | [],[],_=>trivial
 | p::hs,r::kvs,h=>by
  obtain⟨h1,⟨t,e,g⟩,h3⟩:=h
  exact⟨h1,⟨t,e,s _ _ g⟩,HoR.t s h3⟩
 | [],_::_,h=>h.elim
 | _::_,[],h=>h.elim
def yD (L:Pl) (b:Addr):Prop:=b=L.bk\/b=L.de\/b=L.dp
def D9 (L:Pl) (b:Addr):Prop:=own L.dk L.df L.kvs b
def fK (L:Pl) (b:Addr):Prop:=b=L.qu\/b=L.hd\/yD L b\/D9 L b
structure QueueW (A:Ad) (H:Hp) (L:Pl) (q:Qs) (wr:Bool):Prop where
 self:∃ dx,H L.qu=some (.ins A.queue dx (quF L q wr))
 disk:DiskAt A.disk H L.dk L.df L.kvs q.D
 book:BookAt A.book H L.bk L.de L.dp q.B
 held:∃ hk,H L.hd=some (.dK hk)/\HoR H q.hs hk
 a_bd:∀ b,yD L b->¬ D9 L b
 a_qu:¬ yD L L.qu/\¬ D9 L L.qu
 a_hd:L.hd≠L.qu/\¬ yD L L.hd/\¬ D9 L L.hd
structure Step (L L':Pl) (H H':Hp):Prop where
 qu:L'.qu=L.qu
 dk:L'.dk=L.dk
 frm:∀ b o,H b=some o->¬ fK L b->H' b=some o
 grow:∀ b,fK L' b->fK L b\/H b=none
 tup:gB H H'
def Step.trans (a:Step L L1 H H1) (b:Step L1 L2 H1 H2):Step L L2 H H2:=by
 refine⟨b.qu.trans a.qu,b.dk.trans a.dk,fun c o e nc=>b.frm c o (a.frm c o e nc) (fun z=>(a.grow c z).elim nc (fun y=>by rw[y]at e; cases e)),fun c hc=>?_,a.tup.trans b.tup⟩
 rcases b.grow c hc with z | z
 ·exact a.grow c z
 ·by_cases y:fK L c
  ·exact .inl y
  ·refine .inr ?_
   cases e:H c with
   | none=>rfl
   | some o=>rw[a.frm c o e y]at z; cases z
def aD.step (s:aD H H'):Step L L H H':=⟨rfl,rfl,fun b o e _=>s b o e,fun b h=>.inl h,aD.tup s⟩
def DiskAt.keep (h:DiskAt C H dk df kvs D) (s:∀ b o,H b=some o->own dk df kvs b->H' b=some o):DiskAt C H' dk df kvs D:=by
 obtain⟨dx,h1⟩:=h.self
 exact⟨⟨dx,s _ _ h1 (.inl rfl)⟩,s _ _ h.files (.inr (.inl rfl)),h.rel.same fun b o e m=>s b o e (.inr (.inr m)),h.nd,h.kn⟩
def BookAt.keep (h:BookAt C H bk de dp B) (s:∀ b o,H b=some o->b=bk\/b=de\/b=dp->H' b=some o) (t:gB H H'):BookAt C H' bk de dp B:=by
 obtain⟨dx,h1⟩:=h.self
 obtain⟨kvs,h2,h3⟩:=h.ent
 obtain⟨ps,h4,h5⟩:=h.par
 exact⟨⟨dx,s _ _ h1 (.inl rfl)⟩,⟨kvs,s _ _ h2 (.inr (.inl rfl)),h3.t t⟩,⟨ps,s _ _ h4 (.inr (.inr rfl)),jR t (gU _) h5⟩⟩
def eI.tup (h:DiskAt C H dk df kvs D) (f:eI dk df kvs H H'):gB H H':=fun b xs e=>by
 refine f b _ e ?_
 rintro (rfl | rfl | z)
 ·obtain⟨dx,h1⟩:=h.self
  rw[h1]at e
  cases e
 ·rw[h.files]at e
  cases e
 ·obtain⟨ys,e2⟩:=kN h.rel z
  rw[e2]at e
  cases e
section
variable {A:Ad} {H H':Hp} {L:Pl} {q:Qs} {wr:Bool}
def QueueW.same (h:QueueW A H L q wr) (s:aD H H'):QueueW A H' L q wr:=by
 obtain⟨dx,h1⟩:=h.self
 obtain⟨hk,h2,h3⟩:=h.held
 exact⟨⟨dx,s _ _ h1⟩,h.disk.same s,h.book.same s,⟨hk,s _ _ h2,h3.t (aD.tup s)⟩,h.a_bd,h.a_qu,h.a_hd⟩
def QueueW.fields (h:QueueW A H L q wr) (q':Qs) (wr':Bool) (eD:q'.D=q.D) (eB:q'.B=q.B) (eH:q'.hs=q.hs):QueueW A (upd H L.qu (.ins A.queue dx (quF L q' wr'))) L q' wr'/\Step L L H (upd H L.qu (.ins A.queue dx (quF L q' wr'))):=by
 obtain⟨dx0,h1⟩:=h.self
 obtain⟨hk,h2,h3⟩:=h.held
 have t:gB H (upd H L.qu (.ins A.queue dx (quF L q' wr'))):=l9 h1 (fun xs z=>by cases z)
 refine⟨⟨⟨dx,aC⟩,?_,?_,⟨hk,by rw[aE h.a_hd.1]; exact h2,by rw[eH]; exact h3.t t⟩,h.a_bd,h.a_qu,h.a_hd⟩,⟨rfl,rfl,fun b o e nb=>by rw[aE (fun z=>nb (.inl z))]; exact e,fun b hb=>.inl hb,t⟩⟩
 ·rw[eD]
  refine h.disk.keep fun b o e hb=>?_
  rw[aE (fun z=>by rw[z]at hb; exact h.a_qu.2 hb)]
  exact e
 ·rw[eB]
  refine h.book.keep (fun b o e hb=>?_) t
  rw[aE (fun z=>by rw[z]at hb; exact h.a_qu.1 hb)]
  exact e
def QueueW.toDisk (h:QueueW A H L q wr) (f:eI L.dk L.df L.kvs H H') (g:i8 L.dk L.df L.kvs kvs' H) (hD:DiskAt A.disk H' L.dk L.df kvs' D'):QueueW A H' { L with kvs:=kvs' } { q with D:=D' } wr/\Step L { L with kvs:=kvs' } H H':=by
 obtain⟨dx0,h1⟩:=h.self
 obtain⟨hk,h2,h3⟩:=h.held
 have t:gB H H':=f.tup h.disk
 have far:∀ b o,H b=some o->¬ D9 L b->¬ own L.dk L.df kvs' b:=fun b o e nb z=>(g b z).elim nb (fun y=>by rw[y]at e; cases e)
 refine⟨⟨⟨dx0,f _ _ h1 h.a_qu.2⟩,hD,h.book.keep (fun b o e hb=>f b o e (h.a_bd b hb)) t,⟨hk,f _ _ h2 h.a_hd.2.2,h3.t t⟩,fun b hb=>?_,⟨h.a_qu.1,far _ _ h1 h.a_qu.2⟩,⟨h.a_hd.1,h.a_hd.2.1,far _ _ h2 h.a_hd.2.2⟩⟩,⟨rfl,rfl,fun b o e nb=>f b o e (fun z=>nb (.inr (.inr (.inr z)))),fun b hb=>?_,t⟩⟩
 ·obtain⟨dx,g1⟩:=h.book.self
  obtain⟨kvs,g2,_⟩:=h.book.ent
  obtain⟨ps,g3,_⟩:=h.book.par
  have nb:=h.a_bd b hb
  rcases hb with z | z | z
  ·exact far b _ (by rw[z]; exact g1) nb
  ·exact far b _ (by rw[z]; exact g2) nb
  ·exact far b _ (by rw[z]; exact g3) nb
 ·rcases hb with z | z | z | z
  ·exact .inl (.inl z)
  ·exact .inl (.inr (.inl z))
  ·exact .inl (.inr (.inr (.inl z)))
  ·rcases g b z with y | y
   ·exact .inl (.inr (.inr (.inr y)))
   ·exact .inr y
def QueueW.toBook (h:QueueW A H L q wr) (f:Frm L.bk L.de L.dp H H') (hq:dq=L.dp\/H dq=none) (hB:BookAt A.book H' L.bk L.de dq B'):QueueW A H' { L with dp:=dq } { q with B:=B' } wr/\Step L { L with dp:=dq } H H':=by
 obtain⟨dx0,h1⟩:=h.self
 obtain⟨hk,h2,h3⟩:=h.held
 have t:gB H H':=h.book.tup f
 have fr:∀ b o,H b=some o->¬ yD L b->H' b=some o:=fun b o e nb=>f b o e (fun z=>nb (.inl z)) (fun z=>nb (.inr (.inl z))) (fun z=>nb (.inr (.inr z)))
 have nq:∀ b o,H b=some o->¬ yD L b->¬ yD { L with dp:=dq } b:=fun b o e nb z=>by
  rcases z with z | z | z
  ·exact nb (.inl z)
  ·exact nb (.inr (.inl z))
  ·rcases hq with y | y
   ·exact nb (.inr (.inr (z.trans y)))
   ·have z:b=dq:=z
    rw[z,y]at e
    cases e
 refine⟨⟨⟨dx0,fr _ _ h1 h.a_qu.1⟩,h.disk.keep (fun b o e hb=>fr b o e (fun z=>h.a_bd b z hb)),hB,⟨hk,fr _ _ h2 h.a_hd.2.1,h3.t t⟩,fun b hb hd=>?_,⟨nq _ _ h1 h.a_qu.1,h.a_qu.2⟩,⟨h.a_hd.1,nq _ _ h2 h.a_hd.2.1,h.a_hd.2.2⟩⟩,⟨rfl,rfl,fun b o e nb=>fr b o e (fun z=>nb (.inr (.inr (.inl z)))),fun b hb=>?_,t⟩⟩
 ·obtain⟨o,e⟩:=jJ h.disk hd
  by_cases y:yD L b
  ·exact h.a_bd b y hd
  ·exact nq b o e y hb
 ·rcases hb with z | z | z | z
  ·exact .inl (.inl z)
  ·exact .inl (.inr (.inl z))
  ·rcases z with z | z | z
   ·exact .inl (.inr (.inr (.inl (.inl z))))
   ·exact .inl (.inr (.inr (.inl (.inr (.inl z)))))
   ·rcases hq with y | y
    ·exact .inl (.inr (.inr (.inl (.inr (.inr (z.trans y))))))
    ·have z:b=dq:=z
     rw[z]
     exact .inr y
  ·exact .inl (.inr (.inr (.inr z)))
end
abbrev oO:Stmt:=bJ (top 55) 8
abbrev qO:Stmt:=bJ (top 55) 12
inductive gJ (A:Ad) (vs:Hw) (H:Hp) (Q:VK) (x_3:XK):Prop
 | mk:∀ (L:Pl) (q:Qs),vs=[.ref L.qu]->QueueW A H L q false->(q.B.es.length<800/\(q.B.es.map (·.1)).Pairwise (· <= ·))->(∀ ms,List.Perm ms (q.B.es.map (·.1))->ms.Pairwise (· <= ·)->∀ p H',aD H H'->H p=none->Den H' (.list (ms.map (CB q.B.es))) (.ref p)->Q (.ref p) H')->gJ A vs H Q x_3
inductive iB (A:Ad) (vs:Hw) (H:Hp) (Q:VK) (x_3:XK):Prop
 | mk:∀ (L:Pl) (q:Qs),vs=[.ref L.qu]->QueueW A H L q false->Q (.int q.B.up) H->iB A vs H Q x_3
def iC {a b:Hm} (h:List.Perm a b) (ha:a.Pairwise (· <= ·)) (hb:b.Pairwise (· <= ·)):a=b:=List.Perm.eq_of_pairwise (fun x y _ _ h1 h2=>by omega) ha hb h
section
variable {P:Program} {w:World} {K:Hh} {mg:Hj} {base:Heap} {A:Ad}
def vP (F:Fun K "letters" "Queue.letters" oO f fd) (T:TxtQ K mg A) (ao0:(Method P w K mg base) A.book "letters" 2 ["self"] (lR A.book)):(FnOk P w K mg base (CXE P w)) 3 f fd ["self"] (gJ A):=by
 refine F.okY ["self"] fun cdv A' outer s H vs Q E hr nD0 h=>?_
 obtain⟨L,q,rfl,hq,hl,qq⟩:=h
 refine⟨_,aB (aX (gH ao0 T.af6 ((hr.mono (by decide))) bB (n5 (pv 0) ⋯))),?_⟩
 obtain⟨dx,h1⟩:=hq.self
 obtain⟨db,h2⟩:=hq.book.self
 exact⟨_,rfl,L.qu,_,dx,_,_,rfl,h1,T.aa2,T.ah8,rfl,L.bk,db,_,rfl,h2,rfl,L.bk,L.de,L.dp,q.B,rfl,hq.book,hl,qq⟩
def xZ {f:Addr} {fd:Hs} (F:Fun K "coming" "Queue.coming" qO f fd) (T:TxtQ K mg A):(FnOk P w K mg base (CXE P w)) 1 f fd ["self"] (iB A):=by
 refine F.okY ["self"] fun cdv A' outer s H vs Q E hr nD0 h=>?_
 obtain⟨L,q,rfl,hq,qq⟩:=h
 refine⟨_,aB (aX (n5 (n5 (pv 0) ⋯) ⋯)),?_⟩
 obtain⟨dx,h1⟩:=hq.self
 obtain⟨db,h2⟩:=hq.book.self
 exact⟨_,rfl,L.qu,_,dx,_,_,rfl,h1,T.aa2,T.ah8,rfl,L.bk,_,db,_,_,rfl,h2,T.af6,T.ab3,rfl,qq⟩
end
abbrev xB:Stmt:=bJ (top 55) 20
abbrev tQ:Stmt:=bJ (top 55) 21
abbrev tN:Stmt:=bJ (top 55) 19
def aN (rs:Hy):Hm:=(rs.map fun r=>bU r.1 r.2.1 r.2.2).flatten
def iH (q:Qs):Hm:=(aH q.D.fs (aM q.last)).getD []
def kM (q:Qs) (bs:Hm):Bool:=!decide (q.B.up > 999999) && decide ((bs.length:Int) ≥ q.most)
def wI (q:Qs):Qs:={ q with D:=nR (mkN q.D (aM (q.last+1))) (aM (q.last+1)) (bU "from" q.B.up []) 7,last:=q.last+1 }
def eT (q:Qs):Qs:=if kM q (iH q)=true then wI q else q
def Ej (q:Qs) (bs:Hm) (B:Bk):Qs:={ q with D:=nR q.D (aM q.last) (iH q++bs) bs.length,B:=B }
structure WOk (q:Qs) (k:Nat):Prop where
 last:cX q.last
 nxt:cX (q.last+1)
 here:∃ bs,aH q.D.fs (aM q.last)=some bs
 new:aH q.D.fs (aM (q.last+1))=none
 len:∀ n bs,aH q.D.fs n=some bs->bs.length<=100000
 files:q.D.fs.length<90000
 up:0<=q.B.up
 ents:q.B.es.length+q.B.parts.length+k<900
def fP (q:Qs):Qs × Bool:=match dQ q.D with
 | none=>(q,false)
 | some D1=>({ q with D:=(eG (aM (q.last+1)) ⟨D1.fs++[(aM (q.last+1),[])],D1.done,D1.left⟩ (bU "from" q.B.up [])).1,last:=if (eG (aM (q.last+1)) ⟨D1.fs++[(aM (q.last+1),[])],D1.done,D1.left⟩ (bU "from" q.B.up [])).2=true then q.last+1 else q.last },(eG (aM (q.last+1)) ⟨D1.fs++[(aM (q.last+1),[])],D1.done,D1.left⟩ (bU "from" q.B.up [])).2)
section
variable {H:Hp} {C dk df:Addr} {kvs:Hu} {D:Dk} {n:Int} {bs:Hm} {c1 c2 c3 c4:Addr} {Q:VK} {E:XK}
def BU (hD:DiskAt C H dk df kvs D) (hn:cX n) (hf:D.fs.length<100000) (hno:aH D.fs (aM n)=none) (q1:dQ D=none->∀ H',aD H H'->E (.ref c3) none H') (q:∀ D1,dQ D=some D1->∀ kvs' H',eI dk df kvs H H'->i8 dk df kvs kvs' H->DiskAt C H' dk df kvs' ⟨D1.fs++[(aM n,[])],D1.done,D1.left⟩->Q .non H'):kY C c1 c2 c3 [.ref dk,.str (aM n)] H Q E:=by
 refine⟨dk,df,kvs,D,_,.str (aM n),rfl,hD,by simp only[Den],jG hn,hf,(fun z=>by rw[eZ hn]at z; cases z),fun n' e _=>?_⟩
 injection e with e
 subst e
 exact⟨(fun bs z=>by rw[hno]at z; cases z),fun _=>⟨q1,q⟩⟩
def wP {a:Addr} {ns:Hm} (hD:DiskAt C H dk df kvs D) (hn:cX n) (hb:aH D.fs (aM n)=some bs) (hz:∀ n bs,aH D.fs n=some bs->bs.length<=100000) (ha:H a=some (.tup (ns.map V.int))) (hby:∀ b∈ns,0<=b/\b<=255) (hln:ns.length<=100000) (q:∀ H',eI dk df kvs H H'->DiskAt C H' dk df kvs (eG (aM n) D ns).1->((eG (aM n) D ns).2=true->Q .non H')/\((eG (aM n) D ns).2=false->E (.ref c4) none H')):qC C c1 c2 c3 c4 [.ref dk,.str (aM n),.ref a] H Q E:=by
 refine⟨dk,df,kvs,D,_,_,.str (aM n),.tuple (ns.map .int),rfl,hD,by simp only[Den],jG hn,by simp only[Den]; exact⟨a,_,rfl,ha,bO.mpr rfl⟩,(fun ds e=>by injection e with e; rw[<- e,length_map]; exact hln),hz,(fun z=>by rw[eZ hn]at z; cases z),fun n' e _=>?_⟩
 injection e with e
 subst e
 refine⟨(fun z=>by rw[hb]at z; cases z),fun bs' z=>?_⟩
 have hi:cG (.tuple (ns.map .int))=true:=lF hby
 refine⟨(fun z=>by rw[hi]at z; cases z),fun _ H' f h=>?_⟩
 rw[dG]at h ⊢
 exact q H' f h
end
inductive nO (A:Ad) (vs:Hw) (H:Hp) (Q:VK) (x_3:XK):Prop
 | mk:∀ (L:Pl) (q:Qs) (wr:Bool) (bs:Hm),vs=[.ref L.qu]->QueueW A H L q wr->cX q.last->aH q.D.fs (aM q.last)=some bs->(∀ H',aD H H'->Q (.bl (kM q bs)) H')->nO A vs H Q x_3
inductive lQ (A:Ad) (vs:Hw) (H:Hp) (Q:VK) (E:XK):Prop
 | mk:∀ (L:Pl) (q:Qs) (wr:Bool),vs=[.ref L.qu]->QueueW A H L q wr->cX (q.last+1)->aH q.D.fs (aM (q.last+1))=none->q.D.fs.length<100000->(∀ n bs,aH q.D.fs n=some bs->bs.length<=100000)->0<=q.B.up->q.B.up<=999999->(∀ L' H',Step L L' H H'->QueueW A H' L' (fP q).1 wr->((fP q).2=true->Q .non H')/\((fP q).2=false->E (.ref A.stopped) none H'))->lQ A vs H Q E
def bC (q:Qs):Qs × Bool:=if kM q (iH q)=true then fP q else (q,true)
def cN (q:Qs) (rs:Hy) (B':Bk):Qs × Bool:=if (bC q).2=true then ({ (bC q).1 with D:=(eG (aM (bC q).1.last) (bC q).1.D (aN rs)).1,B:=if (eG (aM (bC q).1.last) (bC q).1.D (aN rs)).2=true then B' else q.B },(eG (aM (bC q).1.last) (bC q).1.D (aN rs)).2) else bC q
inductive gY (A:Ad) (vs:Hw) (H:Hp) (Q:VK) (E:XK):Prop
 | mk:∀ (L:Pl) (q:Qs) (a:Addr) (rs:Hy) (B':Bk),vs=[.ref L.qu,.ref a]->QueueW A H L q false->WOk q rs.length->(¬ fK L a)->Den H (.list (rs.map bT)) (.ref a)->(∀ r∈rs,aQ (bT r)=true)->((bC q).2=true->bN (bC q).1.last q.B rs=some B')->((cN q rs B').2=true->∀ L' H',Step L L' H H'->QueueW A H' L' (cN q rs B').1 false->Q .non H')->((cN q rs B').2=false->∀ L' H',Step L L' H H'->QueueW A H' L' (cN q rs B').1 true->E (.ref A.stopped) none H')->gY A vs H Q E
section
variable {P:Program} {w:World} {K:Hh} {mg:Hj} {base:Heap} {A:Ad}
def Bu (F:Fun K "is_last_full" "Queue.is_last_full" xB f fd) (T:TxtQ K mg A) (ab0:(Callee P w K mg base "segment_name" 1 ["segment"] gE)) (ai8:(Method P w K mg base) A.disk "size" 4 ["self","name"] (mD A.disk A.badName A.missing)):(FnOk P w K mg base (CXE P w)) 5 f fd ["self"] (nO A):=by
 obtain⟨_,ae6⟩:=T.af3
 refine F.okY ["self"] fun cdv A' outer s H vs Q E hr nD0 h=>?_
 obtain⟨L,q,wr,bs,rfl,hq,hn,hbs,qq⟩:=h
 refine⟨_,aA (a6 (bA xU (n5 (n5 (pv 0) ⋯) ⋯) (cI (v:=.int 999999) ⋯ ae6 ⟨_,rfl⟩) (bF _))
   (aB (aX Ay))
   aO)
  (aB (aX (fV op_ge (cP ai8 T.ac1 ((hr.mono (by decide))) bK (n5 (pv 0) ⋯) (cC (a5 ab0 ((hr.mono (by decide))) bB (gQ (n5 (pv 0) ⋯) aF)) aF)) (n5 (pv 0) ⋯) (bF _)))),?_⟩
 obtain⟨dx,h1⟩:=hq.self
 obtain⟨db,h2⟩:=hq.book.self
 obtain⟨dd,h3⟩:=hq.disk.self
 unfold kM at qq
 refine⟨_,rfl,L.qu,_,dx,_,_,rfl,h1,T.aa2,T.ah8,rfl,L.bk,_,db,_,_,rfl,h2,T.af6,T.ab3,rfl,_,_,rfl,rfl,_,rfl,?_⟩
 show if decide (q.B.up > 999999)=true then _ else _
 by_cases hu:q.B.up > 999999
 ·rw[if_pos (decide_eq_true hu)]
  rw[decide_eq_true hu]at qq
  exact qq H (aD.refl H)
 ·rw[if_neg (by rw[decide_eq_true_eq]; exact hu)]
  rw[decide_eq_false hu]at qq
  refine bG rfl ?_
  refine⟨_,rfl,L.qu,_,dx,_,_,rfl,h1,T.aa2,T.aq6,rfl,L.dk,dd,_,rfl,h3,rfl,_,rfl,L.qu,_,dx,_,_,rfl,h1,T.aa2,T.am6,rfl,q.last,rfl,hn,eQ (wN hq.disk hn hbs fun H1 S1=>?_)⟩
  exact⟨_,rfl,L.qu,_,dx,_,_,rfl,S1 _ _ h1,T.aa2,T.be8,rfl,_,_,rfl,rfl,qq H1 S1⟩
def z8 (F:Fun K "begin_segment" "Queue.begin_segment" tQ f fd) (T:TxtQ K mg A) (ab0:(Callee P w K mg base "segment_name" 1 ["segment"] gE)) (ab7:(Callee P w K mg base) "row_bytes" 4 ["row"] (dY A.badRow)) (ai9:(Method P w K mg base) A.disk "make" 3 ["self","name"] (kY A.disk A.badName A.there A.stopped)) (ag2:(Method P w K mg base A.disk "add" 4 ["self", "name", "some"] (qC A.disk A.badName A.missing A.badRow A.stopped))):(FnOk P w K mg base (CXE P w)) 5 f fd ["self"] (lQ A):=by
 refine F.okY ["self","some","name"] fun cdv A' outer s H vs Q E hr nD0 h=>?_
 obtain⟨L,q,wr,rfl,hq,hn,hno,hf,hz,u0,u1,qq⟩:=h
 refine⟨_,aA (aT (i:=1) nD0 ⋯ ⋯ (a5 ab7 ((hr.mono (by decide))) bK (cZ (bV (aR cY (gQ (n5 (n5 (pv 0) ⋯) ⋯) (cZ (bV aF) aF)))) aF)))
  (aA (aT (i:=2) nD0 ⋯ ⋯ (a5 ab0 ((hr.mono (by decide))) bB (bM (aY cT (n5 (pv 0) ⋯) aG) aF)))
  (aA (bD (cP ai9 T.ac1 ((hr.mono (by decide))) bK (n5 (pv 0) ⋯) (aJ (pv 2) aF)))
  (aA (bD (cP ag2 T.ac1 ((hr.mono (by decide))) bK (n5 (pv 0) ⋯) (aJ (pv 2) (aJ (pv 1) aF))))
  (aB (nY (pv 0) aG EB))))),?_⟩
 obtain⟨dx,h1⟩:=hq.self
 obtain⟨db,h2⟩:=hq.book.self
 refine⟨_,rfl,L.qu,_,dx,_,_,rfl,h1,T.aa2,T.ah8,rfl,L.bk,_,db,_,_,rfl,h2,T.af6,T.ab3,rfl,bP,fun p0 hp0=>⟨bP,fun p1 hp1=>?_⟩⟩
 have S1:=aI (o:=.tup []) hp0
 have g0:upd H p0 (.tup []) p0=some (.tup []):=aC
 generalize upd H p0 (.tup [])=H1 at S1 g0 hp1 ⊢
 have S2:=aI (o:=.tup [.str "from",.int q.B.up,.ref p0]) hp1
 have g1:upd H1 p1 (.tup [.str "from",.int q.B.up,.ref p0]) p1=some (.tup [.str "from",.int q.B.up,.ref p0]):=aC
 generalize upd H1 p1 (.tup [.str "from",.int q.B.up,.ref p0])=H2 at S2 g1 ⊢
 have fo:=pM u0 u1
 refine eQ (uV (r:=("from",q.B.up,[])) ?_ fo fun pb H3 S3 g3=>?_)
 ·unfold bT gP
  simp only[Den,aW]
  exact⟨p1,_,rfl,g1,_,_,rfl,rfl,_,_,rfl,rfl,_,_,rfl,⟨p0,[],rfl,S2 _ _ g0,rfl⟩,rfl⟩
 have S03:=S1.trans (S2.trans S3)
 have hq3:=hq.same S03
 refine⟨_,rfl,L.qu,_,dx,_,_,rfl,S03 _ _ h1,T.aa2,T.am6,rfl,_,_,rfl,rfl,q.last+1,rfl,hn,?_⟩
 obtain⟨dd,h4⟩:=hq3.disk.self
 refine⟨_,rfl,L.qu,_,dx,_,_,rfl,S03 _ _ h1,T.aa2,T.aq6,rfl,L.dk,dd,_,rfl,h4,rfl,_,rfl,eQ (BU hq3.disk hn hf hno (fun sn H4 S4=>?_) fun D1 sn kvs' H4 f4 w4 hD4=>?_)⟩
 ·have e:fP q=(q,false):=by
   unfold fP
   rw[sn]
  have:=qq L H4 (aD.step (S03.trans S4)) (by rw[e]; exact hq3.same S4)
  rw[e]at this
  exact this.2 rfl
 obtain⟨hq4,st4⟩:=hq3.toDisk f4 w4 hD4
 obtain⟨dx4,h14⟩:=hq4.self
 obtain⟨dd4,h44⟩:=hq4.disk.self
 have e1:D1.fs=q.D.fs:=fR sn
 have hlk:aH (⟨D1.fs++[(aM (q.last+1),[])],D1.done,D1.left⟩:Dk).fs (aM (q.last+1))=some []:=by
  show aH (D1.fs++[(aM (q.last+1),[])]) (aM (q.last+1))=some []
  rw[e1,fD _ _ _ _ hno,if_pos rfl]
 refine⟨_,rfl,L.qu,_,dx4,_,_,rfl,h14,T.aa2,T.aq6,rfl,L.dk,dd4,_,rfl,h44,rfl,_,rfl,_,rfl,eQ (wP hD4 hn hlk (fun m bs hm=>?_) (st4.tup _ _ g3) (gO fo) (by rw[cB]; show 7<=100000; decide) fun H5 f5 hD5=>?_)⟩
 ·have hm:aH (D1.fs++[(aM (q.last+1),[])]) m=some bs:=hm
  rw[e1,fD _ _ _ _ hno]at hm
  split at hm
  ·cases hm
   exact zero_le _
  ·exact hz m bs hm
 obtain⟨hq5,st5⟩:=hq4.toDisk f5 (fun b h=>.inl h) hD5
 have st05:=(aD.step S03).trans (st4.trans st5)
 have eb:fP q=({ q with D:=(eG (aM (q.last+1)) ⟨D1.fs++[(aM (q.last+1),[])],D1.done,D1.left⟩ (bU "from" q.B.up [])).1,last:=if (eG (aM (q.last+1)) ⟨D1.fs++[(aM (q.last+1),[])],D1.done,D1.left⟩ (bU "from" q.B.up [])).2=true then q.last+1 else q.last },(eG (aM (q.last+1)) ⟨D1.fs++[(aM (q.last+1),[])],D1.done,D1.left⟩ (bU "from" q.B.up [])).2):=by
  unfold fP
  rw[sn]
 rw[eb]at qq
 clear eb
 generalize eG (aM (q.last+1)) ⟨D1.fs++[(aM (q.last+1),[])],D1.done,D1.left⟩ (bU "from" q.B.up [])=rr at hD5 hq5 st5 st05 qq ⊢
 obtain⟨D5,ok5⟩:=rr
 cases ok5 with
 | false=>exact⟨fun z=>(by cases z),fun _=>(qq _ H5 st05 hq5).2 rfl⟩
 | true=>
  refine⟨fun _=>?_,fun z=>(by cases z)⟩
  obtain⟨dx5,h15⟩:=hq5.self
  refine⟨_,rfl,L.qu,_,dx5,_,_,rfl,h15,T.aa2,T.am6,rfl,_,_,rfl,rfl,dx5,_,h15,by show 10<1000; decide,?_⟩
  obtain⟨hq6,st6⟩:=hq5.fields (dx:=dx5) { q with D:=D5,last:=q.last+1 } wr rfl rfl rfl
  exact(qq _ _ (st05.trans st6) hq6).1 rfl
end
def mV:cD "writing" (.bl b) (quF L q a)=quF L q b:=rfl
def zM (rs:Hy) (r:Rw):aN (rs++[r])=aN rs++bU r.1 r.2.1 r.2.2:=by
 unfold aN
 rw[map_append,List.flatten_append]
 simp
def nT (h:∀ r∈rs,aQ (bT r)=true):(aN rs).length<=68 * rs.length:=by
 unfold aN
 induction rs with
 | nil=>exact le_refl _
 | cons r rs ih=>
  rw[map_cons,List.flatten_cons,length_append,cB,length_cons]
  have h1:=ih (fun x hx=>h x (mem_cons_of_mem _ hx))
  have h2:=nV (h r mem_cons_self)
  omega
def j9 (h:∀ r∈rs,aQ (bT r)=true):∀ b∈aN rs,0<=b/\b<=255:=by
 intro b hb
 unfold aN at hb
 rw[List.mem_flatten]at hb
 obtain⟨l,hl,hb⟩:=hb
 rw[mem_map]at hl
 obtain⟨r,hr,rfl⟩:=hl
 exact gO (h r hr) b hb
def AU (q:Qs) (h:aH q.D.fs (aM (q.last+1))=none) (m:Str):aH (wI q).D.fs m=if m=aM (q.last+1) then some (bU "from" q.B.up []) else aH q.D.fs m:=by
 show aH (bZ (q.D.fs++[(aM (q.last+1),[])]) (aM (q.last+1)) (bU "from" q.B.up [])) m=_
 rw[kJ,fD _ _ _ _ h,fD _ _ _ _ h]
 by_cases z:m=aM (q.last+1)
 ·rw[if_pos z,if_pos z,if_pos rfl]
  rfl
 ·rw[if_neg z,if_neg z,if_neg z]
structure NOk (q:Qs):Prop where
 last:cX q.last
 here:aH q.D.fs (aM q.last)=some (iH q)
 len:∀ n bs,aH q.D.fs n=some bs->bs.length<=100000
def yC (h:aH q.D.fs (aM q.last)=some bs):iH q=bs:=by
 unfold iH
 rw[h]
 rfl
def wL {n:Str}:∀ {ns:Hm} {D:Dk} {bs:Hm},(D.fs.map (·.1)).Nodup->aH D.fs n=some bs->∃ k d l,eG n D ns=(⟨bZ D.fs n (bs++ns.take k),d,l⟩,decide (k=ns.length))/\k<=ns.length/\(D.left=none->l=none/\k=ns.length)
 | [],D,bs,hk,hb=>⟨0,D.done,D.left,by
   rw[List.take_nil,append_nil,fI hk hb]
   rfl,le_refl _,fun e=>⟨e,rfl⟩⟩
 | b::ns,D,bs,hk,hb=>by
  have e:eG n D (b::ns)=match dQ D with | none=>(D,false) | some D1=>eG n ⟨bZ D1.fs n ((aH D1.fs n).getD []++[b]),D1.done,D1.left⟩ ns:=rfl
  rw[e]
  cases s:dQ D with
  | none=>
   refine⟨0,D.done,D.left,?_,zero_le _,fun y=>by rw[dI y]at s; cases s⟩
   rw[List.take_zero,append_nil,fI hk hb,decide_eq_false (by rw[length_cons]; omega)]
  | some D1=>
   try dsimp only
   rw[fR s,hb]
   obtain⟨k,d,l,h1,h2,h3⟩:=wL (n:=n) (ns:=ns) (D:=⟨bZ D.fs n (bs++[b]),D1.done,D1.left⟩) (bs:=bs++[b]) (by show ((bZ D.fs n _).map (·.1)).Nodup; rw[fJ]; exact hk) (iY hb)
   refine⟨k+1,d,l,?_,by rw[length_cons]; omega,fun y=>?_⟩
   ·show eG n ⟨bZ D.fs n (bs++[b]),D1.done,D1.left⟩ ns=_
    rw[h1,mI,List.take_succ_cons,append_assoc]
    congr 1
    rw[decide_eq_decide,length_cons]
    omega
   ·rw[dI y]at s
    cases s
    obtain⟨a1,a2⟩:=h3 rfl
    exact⟨a1,by rw[length_cons]; omega⟩
def AE {fs:List (Str × Hm)} {n:Str} (h:(fs.map (·.1)).Nodup) (hn:aH fs n=none):((fs++[(n,([]:Hm))]).map (·.1)).Nodup:=by
 rw[map_append,List.nodup_append]
 refine⟨h,by simp,fun a ha b hb=>?_⟩
 rw[mem_singleton.mp (show b∈[n] from hb)]
 intro z
 subst z
 obtain⟨p,hp,e⟩:=mem_map.mp ha
 unfold aH at hn
 rw[map_eq_none_iff,find?_eq_none]at hn
 exact hn p hp (decide_eq_true e)
def Ag {fs:List (Str × Hm)} {n:Str} {b:Hm} (h:aH fs n=none):bZ (fs++[(n,[])]) n b=fs++[(n,b)]:=by
 unfold bZ
 rw[map_append]
 congr 1
 ·refine(map_congr_left fun p hp=>?_).trans (map_id _)
  unfold aH at h
  rw[map_eq_none_iff,find?_eq_none]at h
  exact if_neg fun z=>h p hp (decide_eq_true z)
 ·simp
def rZ {q:Qs} (nd:(q.D.fs.map (·.1)).Nodup) (hno:aH q.D.fs (aM (q.last+1))=none):fP q=(q,false)\/∃ k d l,fP q=({ q with D:=⟨q.D.fs++[(aM (q.last+1),(bU "from" q.B.up []).take k)],d,l⟩,last:=if k=7 then q.last+1 else q.last },decide (k=7))/\k<=7:=by
 unfold fP
 cases s:dQ q.D with
 | none=>exact .inl rfl
 | some D1=>
  right
  try dsimp only
  have hl:(bU "from" q.B.up []).length=7:=by rw[cB]; rfl
  obtain⟨k,d,l,h1,h2,_⟩:=wL (n:=aM (q.last+1)) (ns:=bU "from" q.B.up []) (D:=⟨D1.fs++[(aM (q.last+1),[])],D1.done,D1.left⟩) (bs:=[]) (by rw[fR s]; exact AE nd hno) (by show aH (D1.fs++[(aM (q.last+1),[])]) _=_; rw[fR s,fD _ _ _ _ hno,if_pos rfl])
  rw[hl]at h1 h2
  refine⟨k,d,l,?_,h2⟩
  rw[h1]
  try dsimp only
  rw[fR s,nil_append,show bZ (q.D.fs++[(aM (q.last+1),[])]) (aM (q.last+1)) ((bU "from" q.B.up []).take k)=q.D.fs++[(aM (q.last+1),(bU "from" q.B.up []).take k)] from Ag hno]
  congr 2
  by_cases z:k=7
  ·rw[decide_eq_true z,if_pos rfl,if_pos z]
  ·rw[decide_eq_false z,if_neg (by decide),if_neg z]
def vV {q:Qs} {k:Nat} (h:WOk q k) (nd:(q.D.fs.map (·.1)).Nodup) (hz:(bC q).2=true):NOk (bC q).1/\(bC q).1.B=q.B/\((bC q).1.D.fs.map (·.1)).Nodup:=by
 unfold bC at hz ⊢
 split at hz
 ·rename_i hf
  rw[if_pos hf]
  rcases rZ nd h.new with e | ⟨j,d,l,e,hj⟩
  ·rw[e]at hz
   cases hz
  ·rw[e]at hz ⊢
   have hz:decide (j=7)=true:=hz
   have ej:=of_decide_eq_true hz
   subst ej
   try dsimp only
   rw[if_pos rfl,show (bU "from" q.B.up []).take 7=bU "from" q.B.up [] from take_of_length_le (by rw[cB]; exact le_refl _)]
   refine⟨⟨h.nxt,?_,fun n bs e=>?_⟩,rfl,?_⟩
   ·unfold iH
    show aH (q.D.fs++[(aM (q.last+1),bU "from" q.B.up [])]) (aM (q.last+1))=some ((aH (q.D.fs++[(aM (q.last+1),bU "from" q.B.up [])]) (aM (q.last+1))).getD [])
    rw[fD _ _ _ _ h.new,if_pos rfl]
    rfl
   ·have e:aH (q.D.fs++[(aM (q.last+1),bU "from" q.B.up [])]) n=some bs:=e
    rw[fD _ _ _ _ h.new]at e
    split at e
    ·cases e
     rw[cB]
     decide
    ·exact h.len n bs e
   ·have:=AE nd h.new
    rw[map_append]at this ⊢
    exact this
 ·rename_i hf
  rw[if_neg hf]
  obtain⟨bs,hb⟩:=h.here
  exact⟨⟨h.last,by rw[yC hb]; exact hb,h.len⟩,rfl,nd⟩
section
variable {P:Program} {w:World} {K:Hh} {mg:Hj} {base:Heap} {A:Ad}
def zY (F:Fun K "write" "Queue.write" tN f fd) (T:TxtQ K mg A) (ab0:(Callee P w K mg base "segment_name" 1 ["segment"] gE)) (ab7:(Callee P w K mg base) "row_bytes" 4 ["row"] (dY A.badRow)) (ae0:(Callee P w K mg base) "make_good" 6 ["disk"] spg) (ag2:(Method P w K mg base A.disk "add" 4 ["self", "name", "some"] (qC A.disk A.badName A.missing A.badRow A.stopped))) (ah2:(Method P w K mg base) A.book "enter" 3 ["self","row","segment"] (mF A.book A.broken)) (ag3:(Method P w K mg base) A.queue "is_last_full" 5 ["self"] (nO A)) (af4:(Method P w K mg base) A.queue "begin_segment" 5 ["self"] (lQ A)):(FnOk P w K mg base (CXE P w)) 7 f fd ["self","rows"] (gY A):=by
 refine F.okY ["self","rows","some","row"] fun cdv A' outer s H vs Q E hr nD0 h=>?_
 obtain⟨L,q,a,rs,B',rfl,hq,ok,na,da,hrs,hfo,qq,qe⟩:=h
 refine⟨_,aA (aT (i:=2) nD0 ⋯ ⋯ (bV aF))
  (aA (kD (sD hV) ⋯ (eM K (pv 1)) (cH (i := 3) nD0 ⋯ ⋯)
   (aB (aT (i:=2) nD0 ⋯ ⋯ (aY mW (pv 2) (a5 ab7 ((hr.mono (by decide))) bK (aJ (pv 3) aF))))))
  (aA (a6 (cU (n5 (pv 0) ⋯))
   (aB (bD (a5 ae0 ((hr.mono (by decide))) bK (gQ (n5 (pv 0) ⋯) aF))))
   aO)
  (aA (cS (pv 0) Ay ⋯)
  (aA (a6 (cU (gH ag3 T.aa2 ((hr.mono (by decide))) bK (pv 0)))
   (aB (bD (gH af4 T.aa2 ((hr.mono (by decide))) bK (pv 0))))
   aO)
  (aA (bD (cP ag2 T.ac1 ((hr.mono (by decide))) bK (n5 (pv 0) ⋯) (cC (a5 ab0 ((hr.mono (by decide))) bB (gQ (n5 (pv 0) ⋯) aF)) (aJ (pv 2) aF))))
  (aA (cS (pv 0) Ay ⋯)
  (aB (kD (sD hV) ⋯ (eM K (pv 1)) (cH (i := 3) nD0 ⋯ ⋯)
   (aB (bD (cP ah2 T.af6 ((hr.mono (by decide))) bK (n5 (pv 0) ⋯) (aJ (pv 3) (gQ (n5 (pv 0) ⋯) aF))))))))))))),?_⟩
 have da':=da
 simp only[Den]at da'
 obtain⟨_,xs,e,ga,dxs⟩:=da'
 cases e
 have lx:=dxs.length
 rw[length_map]at lx
 refine⟨bP,fun p0 hp0=>?_⟩
 have S1:=aI (o:=.tup []) hp0
 have g0:upd H p0 (.tup []) p0=some (.tup []):=aC
 generalize upd H p0 (.tup [])=H1 at S1 g0 ⊢
 refine⟨_,rfl,a,rfl,⟨_,SqL.of (S1 _ _ ga)⟩,?_⟩
 refine fZ (eK (K:=K) (SqL.of (S1 _ _ ga))) (fun i σ H'=>aD H1 H'/\∃ pa z3,H' pa=some (.tup ((aN (rs.take i)).map V.int))/\σ = [some (.ref L.qu),some (.ref a),some (.ref pa),z3]) ?i0 (fun _ _ _ h=>h.1) ?_ ?_
 case i0=>exact⟨aD.refl _,p0,none,g0,rfl⟩
 ·rintro i x σ H5 H6 hi ⟨s5,pa,z3,g5,rfl⟩ s6 hx
  obtain⟨d,hd,dn⟩:=dxs.get hx
  rw[getElem?_map]at hd
  cases ej:rs[i]? with
  | none=>rw[ej]at hd; cases hd
  | some r=>
   rw[ej]at hd
   cases (Option.some.inj hd:bT r=d)
   have hr':=hrs r (mem_of_getElem? ej)
   have et:rs.take (i+1)=rs.take i++[r]:=by
    rw[take_succ,ej]
    rfl
   refine⟨_,rfl,_,rfl,eQ (uV (dn.same (S1.trans (s5.trans s6))) hr' fun pb H7 S7 g7=>?_)⟩
   refine⟨pa,pb,_,_,rfl,rfl,S7 _ _ (s6 _ _ g5),g7,?_,fun p8 H8 S8 g8=>?_⟩
   ·have h1:=nT (rs:=rs.take i) (fun r h=>hrs r (List.mem_of_mem_take h))
    have h2:=nV hr'
    have h3:=ok.ents
    rw[length_map,length_map,cB]
    rw[length_take]at h1
    refine le_trans (m:=100000) ?_ (by decide)
    omega
   ·refine⟨s5.trans (s6.trans (S7.trans S8)),p8,_,?_,rfl⟩
    rw[et,zM,map_append]
    exact g8
 rintro σ H2 ⟨S2,pa,z3,g2,rfl⟩
 rw[show rs.take xs.length=rs by rw[lx,take_length]]at g2
 have S02:=S1.trans S2
 have hq2:=hq.same S02
 obtain⟨dx,h1⟩:=hq2.self
 obtain⟨bs,hbs⟩:=ok.here
 refine⟨_,rfl,L.qu,_,dx,_,_,rfl,h1,T.aa2,T.ak9,rfl,_,rfl,a7 (bG rfl ?_)⟩
 refine⟨_,rfl,L.qu,_,dx,_,rfl,h1,T.aa2,T.ak9,by show 10<1000; decide,?_⟩
 rw[mV]
 obtain⟨hq3,st3⟩:=hq2.fields (dx:=dx) q true rfl rfl rfl
 generalize upd H2 L.qu (.ins A.queue dx (quF L q true))=H3 at hq3 st3 ⊢
 obtain⟨dx3,h13⟩:=hq3.self
 have st03:Step L L H H3:=(aD.step S02).trans st3
 have gp3:=st3.tup _ _ g2
 try dsimp only
 refine A1 (fun σ' H'=>σ'=[some (.ref L.qu),some (.ref a),some (.ref pa),z3]/\H' pa=some (.tup ((aN rs).map V.int))/\(bC q).2=true/\∃ L4,Step L L4 H H'/\QueueW A H' L4 (bC q).1 true) (fun n hn=>?_) ?_
 ·refine⟨_,rfl,L.qu,dx3,_,rfl,h13,rfl,L,q,true,bs,rfl,hq3,ok.last,hbs,fun H4 S4=>⟨_,rfl,?_⟩⟩
  have hq4:=hq3.same S4
  obtain⟨dx4,h14⟩:=hq4.self
  have el:iH q=bs:=yC hbs
  cases hb:kM q bs with
  | true=>
   refine aV ?_
   have hu:q.B.up<=999999:=by
    unfold kM at hb
    simp only[and_eq_true,not_eq_true',decide_eq_false_iff_not]at hb
    omega
   have en:bC q=fP q:=by
    unfold bC
    rw[el,if_pos hb]
   refine⟨_,rfl,L.qu,dx4,_,rfl,h14,rfl,L,q,true,rfl,hq4,ok.nxt,ok.new,lt_trans ok.files (by decide),ok.len,ok.up,hu,fun L5 H5 st5 hq5=>?_⟩
   rw[<- en]at hq5 ⊢
   have st:=st03.trans ((aD.step S4).trans st5)
   refine⟨fun ey=>hn _ _ ⟨rfl,st5.tup _ _ (S4 _ _ gp3),ey,L5,st,hq5⟩,fun ez=>?_⟩
   have ew:cN q rs B'=bC q:=by
    unfold cN
    rw[if_neg (by rw[ez]; decide)]
   rw[ew]at qe
   exact qe ez L5 H5 st hq5
  | false=>
   have en:bC q=(q,true):=by
    unfold bC
    rw[el,if_neg (by rw[hb]; decide)]
   exact a7 (bG rfl (hn _ _ ⟨rfl,S4 _ _ gp3,by rw[en],L,st03.trans (aD.step S4),by rw[en]; exact hq4⟩))
 rintro _ H5 ⟨rfl,gp5,ey,L5,st5,hq5⟩
 obtain⟨nok,nB,nd5⟩:=vV ok hq.disk.kn ey
 have hent:(bC q).1.B.es.length+(bC q).1.B.parts.length+rs.length<900:=by rw[nB]; exact ok.ents
 have hfo:=hfo ey
 rw[<- nB]at hfo
 have ew:cN q rs B'=({ (bC q).1 with D:=(eG (aM (bC q).1.last) (bC q).1.D (aN rs)).1,B:=if (eG (aM (bC q).1.last) (bC q).1.D (aN rs)).2=true then B' else (bC q).1.B },(eG (aM (bC q).1.last) (bC q).1.D (aN rs)).2):=by
  unfold cN
  rw[if_pos ey,nB]
 rw[ew]at qq qe
 clear ew
 generalize (bC q).1=r at *
 obtain⟨dx5,h15⟩:=hq5.self
 obtain⟨dd5,h45⟩:=hq5.disk.self
 rw[st5.qu]at h15
 have lb:(aN rs).length<=100000:=by
  have h1:=nT hrs
  have h3:=ok.ents
  omega
 refine⟨_,rfl,L.qu,_,dx5,_,_,rfl,h15,T.aa2,T.aq6,rfl,L5.dk,dd5,_,rfl,h45,rfl,_,rfl,L.qu,_,dx5,_,_,rfl,h15,T.aa2,T.am6,rfl,r.last,rfl,nok.last,_,rfl,eQ (wP hq5.disk nok.last nok.here nok.len gp5 (j9 hrs) lb fun H6 f6 hD6=>?_)⟩
 generalize eG (aM r.last) r.D (aN rs)=rr at hD6 qq qe ⊢
 obtain⟨D6,ok6⟩:=rr
 obtain⟨hq6,st6⟩:=hq5.toDisk f6 (fun b h=>.inl h) hD6
 cases ok6 with
 | false=>exact⟨fun z=>(by cases z),fun _=>qe rfl L5 H6 (st5.trans st6) hq6⟩
 | true=>
 have hq6:QueueW A H6 L5 { r with D:=D6 } true:=hq6
 have st6:Step L5 L5 H5 H6:=st6
 refine⟨fun _=>?_,fun z=>(by cases z)⟩
 obtain⟨dx6,h16⟩:=hq6.self
 have h16':=h16
 rw[st5.qu]at h16'
 refine⟨_,rfl,L.qu,_,dx6,_,rfl,h16',T.aa2,T.ak9,by show 10<1000; decide,?_⟩
 rw[mV]
 obtain⟨hq7,st7⟩:=hq6.fields (dx:=dx6) { r with D:=D6 } false rfl rfl rfl
 rw[st5.qu]at hq7 st7
 generalize upd H6 L.qu (.ins A.queue dx6 (quF L5 { r with D:=D6 } false))=H7 at hq7 st7 ⊢
 have st07:Step L L5 H H7:=st5.trans (st6.trans st7)
 have ga7:=st07.frm _ _ ga na
 refine⟨_,rfl,a,rfl,⟨_,SqL.of ga7⟩,?_⟩
 refine fZ (H0:=fun c=>if c=a then some (.lst xs) else none) (eK (K:=K) (SqL.of (if_pos rfl))) (fun j σ H'=>∃ Lj Bj z3,Step L Lj H H'/\QueueW A H' Lj { r with D:=D6,B:=Bj } false/\Bj.es.length+Bj.parts.length<=r.B.es.length+r.B.parts.length+j/\bN r.last r.B rs=bN r.last Bj (rs.drop j)/\σ = [some (.ref L.qu),some (.ref a),some (.ref pa),z3]) ?j0 ?kp ?_ ?_
 case j0=>exact⟨L5,r.B,_,st07,hq7,le_refl _,rfl,rfl⟩
 case kp=>
  rintro j σ H' ⟨Lj,Bj,z,st,_⟩ b o eb
  by_cases y:b=a
  ·subst y
   have eb:some (HO.lst xs)=some o:=by simpa using eb
   rw[<- eb]
   exact st.frm _ _ ga na
  ·have eb:none=some o:=by simpa [y] using eb
   cases eb
 ·rintro j y σ G1 G2 hj ⟨Lj,Bj,z,stj,hqj,hle,hfj,rfl⟩ sG hy
  obtain⟨d,hd,dn⟩:=dxs.get hy
  rw[getElem?_map]at hd
  cases ej:rs[j]? with
  | none=>rw[ej]at hd; cases hd
  | some ro=>
   rw[ej]at hd
   cases (Option.some.inj hd:bT ro=d)
   have jL:j<rs.length:=(List.getElem?_eq_some_iff.mp ej).1
   have edj:rs.drop j=ro::rs.drop (j+1):=by
    rw[drop_eq_getElem_cons jL,(List.getElem?_eq_some_iff.mp ej).2]
   rw[edj]at hfj
   have efold:bN r.last Bj (ro::rs.drop (j+1))=match c8 Bj ro.1 ro.2.1 ro.2.2 r.last with | none=>none | some B'=>bN r.last B' (rs.drop (j+1)):=rfl
   obtain⟨t,b,rfl,gt,gb⟩:=kA dn
   have st2:=stj.trans (aD.step sG)
   have dn':Den G2 (gP ro.1 ro.2.1 ro.2.2) (.ref t):=BI st2.tup (mT _ _ _) dn
   have hq2:=hqj.same sG
   obtain⟨dxj,h1j⟩:=hq2.self
   obtain⟨dbj,h2j⟩:=hq2.book.self
   rw[stj.qu]at h1j
   refine⟨_,rfl,L.qu,_,dxj,_,_,rfl,h1j,T.aa2,T.ah8,rfl,Lj.bk,dbj,_,rfl,h2j,rfl,_,rfl,_,rfl,L.qu,_,dxj,_,_,rfl,h1j,T.aa2,T.am6,rfl,Lj.bk,Lj.de,Lj.dp,t,Bj,ro.1,ro.2.1,r.last,ro.2.2,rfl,hq2.book,dn',hrs ro (mem_of_getElem? ej),by omega,fun B2 hB2 dq H8 f8 hdq hB8=>?_,fun hno=>?_⟩
   ·obtain⟨hq8,st8⟩:=hq2.toBook f8 hdq hB8
    refine⟨_,B2,_,st2.trans st8,hq8,?_,?_,rfl⟩
    ·have:=rV hB2
     omega
    ·rw[hfj,efold,hB2]
   ·rw[hfj,efold,hno]at hfo
    cases hfo
 ·rintro σ H8 ⟨Lj,Bj,z,stj,hqj,hle,hfj,rfl⟩
  rw[lx,drop_of_length_le (le_refl _)]at hfj
  rw[hfj]at hfo
  cases (Option.some.inj hfo:Bj=B')
  exact qq rfl Lj H8 stj hqj
end
abbrev Aj:Stmt:=bJ (top 55) 1
abbrev qN:Stmt:=bJ (top 55) 2
abbrev j8:Stmt:=top 46
def mZ {A:Ad} {H:Hp} {L:Pl} {q:Qs} {wr:Bool} (h:QueueW A H L q wr) {b:Addr} (hb:fK L b):∃ o,H b=some o:=by
 obtain⟨dx,h1⟩:=h.self
 obtain⟨hk,h2,_⟩:=h.held
 obtain⟨db,h3⟩:=h.book.self
 obtain⟨kb,h4,_⟩:=h.book.ent
 obtain⟨ps,h5,_⟩:=h.book.par
 rcases hb with z | z | (z | z | z) | z
 ·exact⟨_,by rw[z]; exact h1⟩
 ·exact⟨_,by rw[z]; exact h2⟩
 ·exact⟨_,by rw[z]; exact h3⟩
 ·exact⟨_,by rw[z]; exact h4⟩
 ·exact⟨_,by rw[z]; exact h5⟩
 ·exact jJ h.disk z
def kT (d:PyData):Bool:=aQ (.tuple [.str "put",.int 0,d])
def iJ:PyData->Bool
 | .tuple ds=>decide (1<=ds.length) && (decide (ds.length<=9) && ds.all kT)
 | _=>false
def zI (d:PyData):Prop:=∀ bs,d = .tuple bs->bs.length<=1000
def nW {k:Str} {n:Int} {body:Hm} (hk:k = "put"\/k = "part") (h0:0<=n) (h1:n<=999999) (hb:eC body) (hl:body.length<=60):aQ (bT (k,n,body))=true:=by
 have hc:bW.contains k=true:=by rcases hk with rfl | rfl <;> decide +kernel
 show (bW.contains k && (bI 0 999999 (.int n) && (cG (.tuple (body.map .int)) && fF k (a9 (.tuple (body.map .int))))))=true
 have e1:bI 0 999999 (.int n)=true:=by
  simp only[bI,and_eq_true,decide_eq_true_eq]
  exact⟨h0,h1⟩
 have e2:cG (.tuple (body.map .int))=true:=lF hb
 have e3:fF k body=true:=by
  unfold fF
  rw[if_pos hk]
  exact decide_eq_true hl
 rw[hc,e1,e2,dG,e3]
 rfl
def BM {n:Int} {m:Nat} (h0:0<=n) (h1:n<=999999) (m1:1<=m) (m9:m<=9):aQ (bT ("deal",n,[(m:Int)]))=true:=by
 show (bW.contains "deal" && (bI 0 999999 (.int n) && (cG (.tuple [.int (m:Int)]) && fF "deal" (a9 (.tuple [.int (m:Int)])))))=true
 have e1:bI 0 999999 (.int n)=true:=by
  simp only[bI,and_eq_true,decide_eq_true_eq]
  exact⟨h0,h1⟩
 have e2:cG (.tuple [.int (m:Int)])=true:=lF (ns:=[(m:Int)]) (fun b hb=>by rw[mem_singleton.mp hb]; omega)
 have e3:fF "deal" (a9 (.tuple [.int (m:Int)]))=true:=by
  show fF "deal" [(m:Int)]=true
  unfold fF
  rw[if_neg (by decide),if_neg (by decide),if_pos rfl]
  show (decide (1=1) && decide (1<=(m:Int)) && decide ((m:Int)<=9))=true
  rw[decide_eq_true (show 1<=(m:Int) by omega),decide_eq_true (show (m:Int)<=9 by omega)]
  rfl
 rw[e1,e2,e3]
 decide +kernel
def uP (h:kT d=true):∃ body:Hm,d = .tuple (body.map .int)/\eC body/\body.length<=60:=by
 obtain⟨k,n,bs,e,hk,_,_,hb,hf⟩:=jO h
 injection e with e
 injection e with e1 e
 injection e with _ e
 injection e with e3 e
 injection e1 with e1
 subst e1
 have hb':cG (.tuple bs)=true:=hb
 refine⟨a9 (.tuple bs),?_,l6 hb',?_⟩
 ·rw[e3]
  have:bs=(a9 (.tuple bs)).map .int:=by
   rw[all_eq_true]at hb
   show bs=(bs.map _).map _
   rw[map_map]
   conv=>lhs; rw[<- map_id bs]
   apply map_congr_left
   intro x hx
   have:=hb x hx
   cases x with
   | int i=>rfl
   | _=>simp [bI]at this
  rw[<- this]
 ·unfold fF at hf
  rw[if_pos (.inl rfl)]at hf
  exact of_decide_eq_true hf
def zA {q:Qs} {k:Nat} (h:WOk q k) (nd:(q.D.fs.map (·.1)).Nodup) (hl:q.D.left=none) (rs:Hy) (B':Bk):bC q=(eT q,true)/\(eT q).B=q.B/\cN q rs B'=(Ej (eT q) (aN rs) B',true):=by
 have e1:bC q=(eT q,true)/\(eT q).D.left=none:=by
  unfold bC eT
  split
  ·refine⟨?_,rfl⟩
   unfold fP
   rw[dI hl]
   try dsimp only
   rw[lG (bs:=[]) rfl (AE nd h.new) (by show aH (q.D.fs++[(aM (q.last+1),[])]) _=_; rw[fD _ _ _ _ h.new,if_pos rfl])]
   rw[nil_append,show (bU "from" q.B.up []).length=7 by rw[cB]; rfl]
   rfl
  ·exact⟨rfl,hl⟩
 obtain⟨e1,e2⟩:=e1
 obtain⟨a1,a2,a3⟩:=vV h nd (by rw[e1])
 rw[e1]at a1 a2 a3
 refine⟨e1,a2,?_⟩
 unfold cN
 rw[e1,if_pos rfl]
 try dsimp only
 rw[lG e2 a3 a1.here]
 rfl
def BT {A:Ad} {H:Hp} {L:Pl} {q:Qs} {a:Addr} {rs:Hy} {B':Bk} {Q:VK} {E:XK} (hq:QueueW A H L q false) (hl:q.D.left=none) (ok:WOk q rs.length) (na:¬ fK L a) (da:Den H (.list (rs.map bT)) (.ref a)) (hrs:∀ r∈rs,aQ (bT r)=true) (hf:bN (eT q).last (eT q).B rs=some B') (go:∀ L' H',Step L L' H H'->QueueW A H' L' (Ej (eT q) (aN rs) B') false->Q .non H'):gY A [.ref L.qu,.ref a] H Q E:=by
 obtain⟨e1,e2,e3⟩:=zA ok hq.disk.kn hl rs B'
 rw[e2]at hf
 refine⟨L,q,a,rs,B',rfl,hq,ok,na,da,hrs,fun _=>by rw[e1]; exact hf,fun _=>?_,fun z=>?_⟩
 ·rw[e3]
  exact go
 ·rw[e3]at z
  cases z
inductive gF (A:Ad) (vs:Hw) (H:Hp) (Q:VK) (E:XK):Prop
 | mk:∀ (v:V) (d:PyData),vs=[v]->Den H d v->(∀ ds,d = .tuple ds->ds.length<=1000/\∀ e∈ds,zI e)->(iJ d=true->∀ H',aD H H'->Q .non H')->(iJ d=false->∀ H',aD H H'->E (.ref A.badBody) none H')->gF A vs H Q E
def putQ (q:Qs) (body:Hm) (B':Bk):Qs:=Ej (eT q) (aN [("put",q.B.up,body)]) B'
inductive j6 (A:Ad) (vs:Hw) (H:Hp) (Q:VK) (E:XK):Prop
 | mk:∀ (L:Pl) (q:Qs) (v:V) (d:PyData),vs=[.ref L.qu,v]->QueueW A H L q false->Den H d v->zI d->(kT d=false->∀ H',aD H H'->E (.ref A.badBody) none H')->(∀ body:Hm,d = .tuple (body.map .int)->eC body->body.length<=60->WOk q 1/\q.D.left=none/\q.B.up<=999999/\∃ B',bN (eT q).last (eT q).B [("put",q.B.up,body)]=some B'/\∀ L' H',Step L L' H H'->QueueW A H' L' (putQ q body B') false->Q (.int q.B.up) H')->j6 A vs H Q E
def eF (up:Int) (bss:Hk):Hy:=(List.range bss.length).map fun(k:Nat)=>("part",up+(k:Int),bss.getD k [])
def bL (up:Int) (bss:Hk):Hy:=eF up bss++([("deal",up,[(bss.length:Int)])]:Hy)
def eU (bss:Hk):Hr:=bss.map fun b=>.tuple (b.map .int)
def dU (up:Int) (n:Nat):Hm:=(List.range n).map fun(k:Nat)=>up+(k:Int)
inductive fW (A:Ad) (vs:Hw) (H:Hp) (Q:VK) (E:XK):Prop
 | mk:∀ (L:Pl) (q:Qs) (v:V) (d:PyData),vs=[.ref L.qu,v]->QueueW A H L q false->Den H d v->(∀ ds,d = .tuple ds->ds.length<=1000/\∀ e∈ds,zI e)->(iJ d=false->∀ H',aD H H'->E (.ref A.badBody) none H')->(∀ bss:Hk,d = .tuple (eU bss)->1<=bss.length->bss.length<=9->(∀ b∈bss,eC b/\b.length<=60)->WOk q (bss.length+1)/\q.B.up+(bss.length:Int)<=1000000/\∃ B',((bC q).2=true->bN (bC q).1.last q.B (bL q.B.up bss)=some B')/\((cN q (bL q.B.up bss) B').2=false->∀ L' H',Step L L' H H'->QueueW A H' L' (cN q (bL q.B.up bss) B').1 true->E (.ref A.stopped) none H')/\((cN q (bL q.B.up bss) B').2=true->∀ p L' H',Step L L' H H'->QueueW A H' L' (cN q (bL q.B.up bss) B').1 false->¬ fK L' p->(H p=none\/fK L p)->H' p=some (.lst ((dU q.B.up bss.length).map V.int))->Q (.ref p) H'))->fW A vs H Q E
def yW {ds:Hr} (h:ds.all kT=true):∃ bss:Hk,ds=eU bss/\∀ b∈bss,eC b/\b.length<=60:=by
 induction ds with
 | nil=>exact⟨[],rfl,(fun b hb=>by cases hb)⟩
 | cons d ds ih=>
  rw[all_cons,and_eq_true]at h
  obtain⟨bss,e,hb⟩:=ih h.2
  obtain⟨b,e1,h1,h2⟩:=uP h.1
  refine⟨b::bss,by rw[e,e1]; rfl,fun x hx=>?_⟩
  rcases mem_cons.mp hx with rfl | hx
  ·exact⟨h1,h2⟩
  ·exact hb x hx
section
variable {P:Program} {w:World} {K:Hh} {mg:Hj} {base:Heap} {A:Ad}
def pB (F:Fun K "check_bodies" "check_bodies" j8 f fd) (T:TxtQ K mg A) (ad2:(Callee P w K mg base) "check_body" 4 ["body"] (fT A)):(FnOk P w K mg base (CXE P w)) 5 f fd ["bodies"] (gF A):=by
 obtain⟨_,ag1⟩:=T.ah1
 refine F.okY ["bodies","body"] fun cdv A' outer s H vs Q E hr nD0 h=>?_
 obtain⟨v,d,rfl,hd,hz,q,qe⟩:=h
 refine⟨_,aA (a6 (kB (cK (cU (bE (gW K) ⋯ T.ab8 dJ (aJ (pv 0) (aJ (pH (v := .ty "tuple") ⋯ T.ag9 nI ⋯) aF))))) (hJ (cK (qS hW hW aG (bE (cV K) ⋯ T.ad0 fO (aJ (pv 0) aF)) (cI (v:=.int 9) ⋯ ag1 ⟨_,rfl⟩))))).pt
   (aB (dF eO ⋯ T.ah7 ⋯ T.ba1 (aR cY aF)))
   aO)
  (aB (kD (sD hV) ⋯ (vH K (pv 0)) (cH (i:=1) nD0 ⋯ ⋯)
   (aB (bD (a5 ad2 ((hr.mono (by decide))) bK (aJ (pv 1) aF)))))),?_⟩
 have one:(1:Nat)<=sizeLine:=by decide
 refine⟨_,rfl,_,_,_,_,rfl,hd.ty,n8 d,_,rfl,?_⟩
 cases d with
 | none=>exact aV (aV ⟨one,qe rfl H (aD.refl H)⟩)
 | bool x=>exact aV (aV ⟨one,qe rfl H (aD.refl H)⟩)
 | int x=>exact aV (aV ⟨one,qe rfl H (aD.refl H)⟩)
 | str x=>exact aV (aV ⟨one,qe rfl H (aD.refl H)⟩)
 | list x=>exact aV (aV ⟨one,qe rfl H (aD.refl H)⟩)
 | dict x=>exact aV (aV ⟨one,qe rfl H (aD.refl H)⟩)
 | tuple ds=>
 refine a7 ?_
 obtain⟨z1,z2⟩:=hz ds rfl
 have hd':=hd
 simp only[Den]at hd'
 obtain⟨a,xs,rfl,ha,hds⟩:=hd'
 have hl:=hds.length
 refine⟨_,rfl,a,_,rfl,.inr (SqT.of ha),_,_,rfl,rfl,_,rfl,?_⟩
 rw[hl]
 unfold iJ at q qe
 dsimp only at q qe
 by_cases h1:1<=ds.length
 case neg=>
  rw[decide_eq_false h1,Bool.false_and]at qe
  rw[if_neg (by rw[decide_eq_true_eq]; omega)]
  exact⟨_,rfl,aV ⟨one,qe rfl H (aD.refl H)⟩⟩
 rw[decide_eq_true h1,Bool.true_and]at q qe
 rw[if_pos (decide_eq_true (by omega))]
 refine⟨_,_,rfl,rfl,_,rfl,?_⟩
 show if (!decide ((ds.length:Int)<=9))=true then _ else _
 by_cases h2:ds.length<=9
 case neg=>
  rw[decide_eq_false h2,Bool.false_and]at qe
  rw[decide_eq_false (by omega)]
  exact aV ⟨one,qe rfl H (aD.refl H)⟩
 rw[decide_eq_true h2,Bool.true_and]at q qe
 rw[decide_eq_true (show (ds.length:Int)<=9 by omega)]
 refine a7 (bG rfl ?_)
 refine⟨_,rfl,a,rfl,⟨_,SqT.of ha⟩,?_⟩
 refine fZ (u5 (K:=K) (SqT.of ha)) (fun i σ H'=>aD H H'/\(ds.take i).all kT=true/\∃ z,σ = [some (.ref a),z]) ?i0 (fun _ _ _ h=>h.1) ?_ ?_
 case i0=>exact⟨aD.refl _,rfl,none,rfl⟩
 ·rintro i x σ H5 H6 hi ⟨s5,hall,z,rfl⟩ s6 hx
  obtain⟨e,he,dn⟩:=hds.get hx
  have S6:=s5.trans s6
  have ein:e∈ds:=mem_of_getElem? he
  refine⟨_,rfl,x,e,rfl,dn.same S6,fun bs eb=>le_trans (z2 e ein bs eb) (by decide),fun hb H7 S7=>?_,fun hb H7 S7=>?_⟩
  ·refine⟨S6.trans S7,?_,_,rfl⟩
   rw[take_succ,he,List.all_append,hall]
   show (true && (kT e && true))=true
   have:kT e=true:=hb
   rw[this]
   rfl
  ·refine qe ?_ H7 (S6.trans S7)
   rw[<- Bool.not_eq_true,all_eq_true]
   intro hall'
   have:kT e=true:=hall' e ein
   have hb:kT e=false:=hb
   rw[this]at hb
   cases hb
 ·rintro σ H5 ⟨s5,hall,z,rfl⟩
  rw[hl,take_length]at hall
  exact q hall H5 s5
def De (F:Fun K "put" "Queue.put" Aj f fd) (T:TxtQ K mg A) (ad2:(Callee P w K mg base) "check_body" 4 ["body"] (fT A)) (ah3:(Method P w K mg base) A.queue "write" 7 ["self","rows"] (gY A)):(FnOk P w K mg base (CXE P w)) 8 f fd ["self","body"] (j6 A):=by
 refine F.okY ["self","body","number"] fun cdv A' outer s H vs Q E hr nD0 h=>?_
 obtain⟨L,q,v,d,rfl,hq,dv,hz,qe,qg⟩:=h
 refine⟨_,aA (bD (a5 ad2 ((hr.mono (by decide))) bK (aJ (pv 1) aF)))
  (aA (aT (i:=2) nD0 ⋯ ⋯ (n5 (n5 (pv 0) ⋯) ⋯))
  (aA (bD (cP ah3 T.aa2 ((hr.mono (by decide))) bK (pv 0) (FS (gI (cZ (bV (aR cY (aJ (pv 2) (aJ (pv 1) aF)))) aF)) aF)))
  (aB (aX (pv 2))))),?_⟩
 refine⟨_,rfl,v,d,rfl,dv,(fun bs e=>le_trans (hz bs e) (by decide)),fun hg H1 S1=>?_,fun hb H1 S1=>qe hb H1 S1⟩
 obtain⟨body,rfl,hb,hl⟩:=uP hg
 obtain⟨ok,hl0,hu,B',hfo,qq⟩:=qg body rfl hb hl
 have hrow2:aQ (bT ("put",q.B.up,body))=true:=nW (.inl rfl) ok.up hu hb hl
 have hq1:=hq.same S1
 obtain⟨dx,h1⟩:=hq1.self
 obtain⟨db,h2⟩:=hq1.book.self
 refine⟨_,rfl,L.qu,_,dx,_,_,rfl,h1,T.aa2,T.ah8,rfl,L.bk,_,db,_,_,rfl,h2,T.af6,T.ab3,rfl,?_⟩
 refine⟨_,rfl,L.qu,dx,_,rfl,h1,rfl,_,rfl,_,rfl,bP,fun p1 hp1=>⟨bP,fun p2 hp2=>?_⟩⟩
 have S2:=aI (o:=.tup [.str "put",.int q.B.up,v]) hp1
 have g1:upd H1 p1 (.tup [.str "put",.int q.B.up,v]) p1=some (.tup [.str "put",.int q.B.up,v]):=aC
 generalize upd H1 p1 (.tup [.str "put",.int q.B.up,v])=H2 at S2 g1 hp2 ⊢
 have S3:=aI (o:=.lst [.ref p1]) hp2
 have g2:upd H2 p2 (.lst [.ref p1]) p2=some (.lst [.ref p1]):=aC
 generalize upd H2 p2 (.lst [.ref p1])=H3 at S3 g2 ⊢
 have S13:=S2.trans S3
 have hq3:=hq1.same S13
 refine BT (rs:=[("put",q.B.up,body)]) hq3 hl0 ok (fun z=>?_) ?_ (fun r hr'=>?_) hfo fun L' H' st hq'=>⟨_,rfl,qq L' H' ((aD.step (S1.trans S13)).trans st) hq'⟩
 ·obtain⟨o,e⟩:=mZ (hq1.same S2) z
  rw[e]at hp2
  cases hp2
 ·simp only[Den,map_cons,map_nil,aW]
  refine⟨p2,_,rfl,g2,_,_,rfl,?_,rfl⟩
  unfold bT gP
  simp only[Den,aW]
  refine⟨p1,_,rfl,S3 _ _ g1,_,_,rfl,rfl,_,_,rfl,rfl,_,_,rfl,?_,rfl⟩
  have:=dv.same (S1.trans S13)
  simp only[Den]at this
  exact this
 ·rcases mem_cons.mp hr' with rfl | z
  ·exact hrow2
  ·cases z
def xY {f:Addr} {fd:Hs} (F:Fun K "put_all" "Queue.put_all" qN f fd) (T:TxtQ K mg A) (ah4:(Callee P w K mg base) "check_bodies" 5 ["bodies"] (gF A)) (ah3:(Method P w K mg base) A.queue "write" 7 ["self","rows"] (gY A)):(FnOk P w K mg base (CXE P w)) 8 f fd ["self","bodies"] (fW A):=by
 refine F.okY ["self","bodies","first","parts"] fun cdv A' outer s H vs Q E hr nD0 h=>?_
 obtain⟨L,q,v,d,rfl,hq,dv,hz,qe,qg⟩:=h
 refine⟨_,aA (bD (a5 ah4 ((hr.mono (by decide))) bK (aJ (pv 1) aF)))
  (aA (aT (i:=2) nD0 ⋯ ⋯ (n5 (n5 (pv 0) ⋯) ⋯))
  (aA (FJ (i:=3) ["number","body"] [] nD0 ⋯ ⋯ ⋯ (DR K T.ae7 (pv 1) (pv 2)) (fun C s2 H2 ex=>(vJ K (n:=2) (i5 (cH (i:=0) (show List.Nodup (["number","body"]:Ho) by decide +kernel) ⋯ (Or.inl ⋯)) (i5 (cH (i:=1) (show List.Nodup (["number","body"]:Ho) by decide +kernel) ⋯ (Or.inl ⋯)) vI)))) (fun C s2 H2 ex => FK) (fun C s2 H2 ex=>(bV (aR cY (aJ (pv 0) (aJ (pv 1) aF))))))
  (aA (bD (cP ah3 T.aa2 ((hr.mono (by decide))) bK (pv 0) (bM (aY Dc (pv 3) (gI (cZ (bV (aR cY (aJ (pv 2) (cZ (bV (cC (bE (cV K) ⋯ T.ad0 fO (aJ (pv 1) aF)) aF)) aF)))) aF))) aF)))
  (aB (aX (fB ["part"] [] ⋯ (eM K (pv 3)) (fun C s2 H2 ex=>(cH (i:=0) (show List.Nodup (["part"]:Ho) by decide +kernel) ⋯ (Or.inl ⋯))) (fun C s2 H2 ex => FK) (fun C s2 H2 ex=>(dO (fE K) (pv 0) aG (fun _ _ => rfl))))))))),?_⟩
 refine⟨_,rfl,v,d,rfl,dv,hz,fun hg H1 S1=>?_,fun hb H1 S1=>qe hb H1 S1⟩
 cases d with
 | tuple ds=>
 simp only[iJ,and_eq_true,decide_eq_true_eq]at hg
 obtain⟨g1,g9,gall⟩:=hg
 obtain⟨bss,rfl,hbss⟩:=yW gall
 have lb:(eU bss).length=bss.length:=length_map _
 rw[lb]at g1 g9
 obtain⟨ok,hu,B',hfo,qs,qq⟩:=qg bss rfl g1 g9 hbss
 have hq1:=hq.same S1
 obtain⟨dx,h1⟩:=hq1.self
 obtain⟨db,h2⟩:=hq1.book.self
 have dv1:=dv.same S1
 simp only[Den]at dv1
 obtain⟨a,xs,rfl,ha,dxs⟩:=dv1
 have lx:=dxs.length
 rw[lb]at lx
 refine⟨_,rfl,L.qu,_,dx,_,_,rfl,h1,T.aa2,T.ah8,rfl,L.bk,_,db,_,_,rfl,h2,T.af6,T.ab3,rfl,?_⟩
 refine⟨_,rfl,_,rfl,a,_,q.B.up,rfl,rfl,ok.up,by omega,SqT.of ha,?_⟩
 refine dH (pV (K:=K) q.B.up (SqT.of ha)) (by rw[lx]; exact le_trans g9 (by decide)) (fun i y H'=>Den H' (bT ("part",q.B.up+(i:Int),bss.getD i [])) y) (fun i y G1 G2 s h=>h.n s (mT _ _ _)) (fun σ=>σ.length=2) ?z0 ?_ ?_
 case z0=>rfl
 ·intro i x σc H3 hi hσ s3 hx Q' hQ'
  obtain⟨p,u,rfl,hp,hv⟩:=hx
  obtain⟨e,he,dn⟩:=dxs.get hv
  rw[lx]at hi
  have eb:bss[i]? = some (bss.getD i []):=by rw[getD_eq_getElem?_getD,getElem?_eq_getElem hi]; rfl
  unfold eU at he
  rw[getElem?_map,eb]at he
  cases (Option.some.inj he:PyData.tuple ((bss.getD i []).map .int)=e)
  match σc,hσ with
  | [z1,z2],_=>
   refine⟨p,_,rfl,SqT.of hp,rfl,_,_,rfl,_,_,rfl,rfl,?_⟩
   refine⟨_,rfl,_,rfl,bP,fun pt hpt=>?_⟩
   refine hQ' _ _ _ rfl (aI hpt) ?_
   unfold bT gP
   simp only[Den,aW]
   refine⟨pt,_,rfl,aC,_,_,rfl,rfl,_,_,rfl,rfl,_,_,rfl,?_,rfl⟩
   have:=dn.same (s3.trans (aI (o:=.tup [.str "part",.int (q.B.up+(i:Int)),u]) hpt))
   simp only[Den]at this
   exact this
 intro D ys H2 hD S2 gD hlen hR
 rw[lx]at hlen
 have S02:=S1.trans S2
 have hq2:=hq.same S02
 refine⟨_,rfl,L.qu,dx,_,rfl,S2 _ _ h1,rfl,_,rfl,_,rfl,_,rfl,a,_,rfl,.inr (SqT.of (S2 _ _ ha)),bP,fun t1 ht1=>⟨bP,fun t2 ht2=>⟨bP,fun l3 hl3=>?_⟩⟩⟩
 rw[lx]at ht2 hl3 ⊢
 have U1:=aI (o:=.tup [.int (bss.length:Int)]) ht1
 have u1:upd H2 t1 (.tup [.int (bss.length:Int)]) t1=some (.tup [.int (bss.length:Int)]):=aC
 generalize upd H2 t1 (.tup [.int (bss.length:Int)])=H3 at U1 u1 ht2 hl3 ⊢
 have U2:=aI (o:=.tup [.str "deal",.int q.B.up,.ref t1]) ht2
 have u2:upd H3 t2 (.tup [.str "deal",.int q.B.up,.ref t1]) t2=some (.tup [.str "deal",.int q.B.up,.ref t1]):=aC
 generalize upd H3 t2 (.tup [.str "deal",.int q.B.up,.ref t1])=H4 at U2 u2 hl3 ⊢
 have U3:=aI (o:=.lst [.ref t2]) hl3
 have u3:upd H4 l3 (.lst [.ref t2]) l3=some (.lst [.ref t2]):=aC
 generalize upd H4 l3 (.lst [.ref t2])=H5 at U3 u3 ⊢
 have S25:=U1.trans (U2.trans U3)
 refine⟨D,l3,ys,_,rfl,rfl,S25 _ _ gD,u3,?_,fun pc hpc=>?_⟩
 ·rw[hlen]
  exact le_trans (show _<=10 by simp; omega) (by decide)
 have U4:=aI (o:=.lst (ys++[.ref t2])) hpc
 have u4:upd H5 pc (.lst (ys++[.ref t2])) pc=some (.lst (ys++[.ref t2])):=aC
 generalize upd H5 pc (.lst (ys++[.ref t2]))=H6 at U4 u4 ⊢
 have S26:=S25.trans U4
 have hq6:=hq2.same S26
 have dl:(bL q.B.up bss).length=bss.length+1:=by
  unfold bL eF
  rw[length_append,length_map,length_range]
  rfl
 refine⟨L,q,pc,bL q.B.up bss,B',rfl,hq6,by rw[dl]; exact ok,fun z=>?_,?_,fun r hr'=>?_,hfo,fun ht L' H7 st hq7=>?_,fun hf L' H7 st hq7=>qs hf L' H7 ((aD.step (S02.trans S26)).trans st) hq7⟩
 ·obtain⟨o,e⟩:=mZ (hq2.same S25) z
  rw[e]at hpc
  cases hpc
 ·simp only[Den]
  refine⟨pc,_,rfl,u4,nE (by rw[length_map,dl,length_append,hlen]; rfl) fun i y e=>?_⟩
  by_cases hi:i<ys.length
  ·rw[getElem?_append_left hi]at e
   refine⟨bT ("part",q.B.up+(i:Int),bss.getD i []),?_,(hR i y e).same S26⟩
   unfold bL eF
   rw[getElem?_map,getElem?_append_left (by rw[length_map,length_range]; omega),getElem?_map,getElem?_range (by omega)]
   rfl
  ·rw[getElem?_append_right (by omega)]at e
   have hi2:i - ys.length=0:=by
    have:=(List.getElem?_eq_some_iff.mp e).1
    rw[length_singleton]at this
    omega
   rw[hi2]at e
   cases (Option.some.inj e:V.ref t2=y)
   refine⟨bT ("deal",q.B.up,[(bss.length:Int)]),?_,?_⟩
   ·unfold bL eF
    rw[getElem?_map,getElem?_append_right (by rw[length_map,length_range]; omega),length_map,length_range,show i - bss.length=0 by omega]
    rfl
   ·unfold bT gP
    simp only[Den,aW,map_cons,map_nil]
    exact⟨t2,_,rfl,U4 _ _ (U3 _ _ u2),_,_,rfl,rfl,_,_,rfl,rfl,_,_,rfl,⟨t1,_,rfl,U4 _ _ (U3 _ _ (U2 _ _ u1)),_,_,rfl,rfl,rfl⟩,rfl⟩
 ·unfold bL eF at hr'
  rw[mem_append]at hr'
  rcases hr' with z | z
  ·rw[mem_map]at z
   obtain⟨k,hk,rfl⟩:=z
   rw[mem_range]at hk
   have hb:=hbss (bss.getD k []) (by rw[getD_eq_getElem?_getD,getElem?_eq_getElem hk]; exact List.getElem_mem hk)
   have:=ok.up
   exact nW (.inr rfl) (by omega) (by omega) hb.1 hb.2
  ·rw[mem_singleton.mp z]
   exact BM ok.up (by omega) g1 g9
 have nD:¬ fK L D:=fun z=>by
  obtain⟨o,e⟩:=mZ hq1 z
  rw[e]at hD
  cases hD
 have g7:=st.frm _ _ (S26 _ _ gD) nD
 refine⟨_,rfl,D,rfl,⟨_,SqL.of g7⟩,?_⟩
 refine dH (eK (K:=K) (SqL.of g7)) (by rw[hlen]; exact le_trans g9 (by decide)) (fun i y _=>y = .int (q.B.up+(i:Int))) (fun _ _ _ _ _ h=>h) (fun σ=>σ.length=1) ?z1 ?_ ?_
 case z1=>rfl
 ·intro i x σc H8 hi hσ s8 hx Q' hQ'
  obtain⟨t,b,rfl,gt,gb⟩:=kA (hR i x hx)
  match σc,hσ with
  | [z],_=>
   refine⟨_,rfl,t,_,_,.int (q.B.up+(i:Int)),rfl,rfl,SqT.of (s8 _ _ (st.tup _ _ (S26 _ _ gt))),cJ (by decide) rfl,?_⟩
   exact hQ' _ _ _ rfl (aD.refl _) rfl
 intro p zs H9 hp S9 g9' hlz hRz
 have ez:zs=(dU q.B.up bss.length).map V.int:=by
  apply ext_getElem?
  intro j
  cases ej:zs[j]? with
  | none=>
   have h1:=List.getElem?_eq_none_iff.mp ej
   rw[List.getElem?_eq_none_iff.mpr]
   unfold dU
   rw[length_map,length_map,length_range]
   omega
  | some y=>
   have hj:j<bss.length:=by
    have:=(List.getElem?_eq_some_iff.mp ej).1
    omega
   rw[hRz j y ej]
   unfold dU
   rw[getElem?_map,getElem?_map,getElem?_range hj]
   rfl
 rw[ez]at g9'
 refine qq ht p L' H9 ((aD.step (S02.trans S26)).trans (st.trans (aD.step S9))) (hq7.same S9) (fun z=>?_) ?_ g9'
 ·obtain⟨o,e⟩:=mZ hq7 z
  rw[e]at hp
  cases hp
 ·by_cases z:fK L p
  ·exact .inr z
  ·refine .inl ?_
   cases e:H p with
   | none=>rfl
   | some o=>
    rw[st.frm _ _ ((S02.trans S26) _ _ e) z]at hp
    cases hp
 | _=>simp [iJ]at hg
end
abbrev xA:Stmt:=bJ (top 55) 0
def iI (D:Dk) (ms:Hm) (B:Bk) (most hold tries:Int):Qs:=⟨(bH D ms).1,B,most,hold,tries,(bH D ms).2.headD 0,(bH D ms).2.getLastD 0,0,[]⟩
def yE {D:Dk} {ms:Hm} (h:ms≠[]):(m3 D ms).2≠[]:=by
 unfold m3
 split
 ·rename_i z
  intro y
  have:=congrArg List.length y
  rw[List.length_dropLast]at this
  have z2:=z.2
  rw[length_nil]at this
  omega
 ·dsimp only
  split <;> exact h
def EI {D:Dk} {ms:Hm}:(bH D ms).2≠[]:=by
 unfold bH
 split
 ·exact yE (by simp)
 ·exact yE ‹_›
inductive nN (A:Ad) (vs:Hw) (H:Hp) (Q:VK) (x_3:XK):Prop
 | mk:∀ (qu dx dk df:Addr) (kvs:Hu) (D:Dk) (ns ms:Hm) (B:Bk) (most hold tries:Int),vs=[.ref qu,.ref dk,.int most,.int hold,.int tries]->H qu=some (.ins A.queue dx [])->DiskAt A.disk H dk df kvs D->(¬ own dk df kvs qu)->tF (.int most) (.int hold) (.int tries)=true->D.left=none->DiskOk D ns->List.Perm ms ns->ms.Pairwise (· <= ·)->jP ms->(∀ bs,aH D.fs (aM (ms.getLastD 0))=some bs->cA (bs.length+1) bs≠none)->jZ D (ms.getLastD 0) ms ⟨[],0,[]⟩=some B->(∀ L' H',L'.qu=qu->L'.dk=dk->(∀ b o,H b=some o->b≠qu->¬ own dk df kvs b->H' b=some o)->(∀ b,fK L' b->b=qu\/own dk df kvs b\/H b=none)->QueueW A H' L' (iI D ms B most hold tries) false->Q .non H')->nN A vs H Q x_3
section
variable {P:Program} {w:World} {K:Hh} {mg:Hj} {base:Heap} {A:Ad}
def Bt {f:Addr} {fd:Hs} (F:Fun K "__init__" "Queue.__init__" xA f fd) (T:TxtQ K mg A) (af5:(Callee P w K mg base) "check_settings" 2 ["most","hold","tries"] (eX A)) (aq8:(Callee P w K mg base) "book_of" 7 ["disk"] (lU A)) (ae0:(Callee P w K mg base) "make_good" 6 ["disk"] (jA A)):(FnOk P w K mg base (CXE P w)) 8 f fd ["self","disk","most","hold","tries"] (nN A):=by
 refine F.okY ["self","disk","most","hold","tries","segments"] fun cdv A' outer s H vs Q E hr nD0 h=>?_
 obtain⟨qu,dx,dk,df,kvs,D,ns,ms,B,most,hold,tries,rfl,h0,hD,nqu,hset,hl,ok,perm,pw,hg,hread,hbook,qq⟩:=h
 refine⟨_,aA (bD (a5 af5 ((hr.mono (by decide))) bK (aJ (pv 2) (aJ (pv 3) (aJ (pv 4) aF)))))
  (aA (cS (pv 0) (pv 1) ⋯)
  (aA (cS (pv 0) (pv 2) ⋯)
  (aA (cS (pv 0) (pv 3) ⋯)
  (aA (cS (pv 0) (pv 4) ⋯)
  (aA (cS (pv 0) (a5 aq8 ((hr.mono (by decide))) bK (aJ (pv 1) aF)) ⋯)
  (aA (aT (i:=5) nD0 ⋯ ⋯ (a5 ae0 ((hr.mono (by decide))) bK (aJ (pv 1) aF)))
  (aA (cS (pv 0) (dO (c6 K) (pv 5) aG (fun _ _=>rfl)) ⋯)
  (aA (cS (pv 0) (dO (c6 K) (pv 5) (Aw uW aG) (fun _ _=>rfl)) ⋯)
  (aA (cS (pv 0) Ay ⋯)
  (aA (cS (pv 0) qW ⋯)
  (aB (cS (pv 0) aG ⋯)))))))))))),?_⟩
 have ddk:∀ {H':Hp},But qu H H'->DiskAt A.disk H' dk df kvs D:=fun b=>hD.keep fun c o e hc=>b c o e (fun z=>by rw[z]at hc; exact nqu hc)
 refine⟨_,rfl,_,rfl,_,rfl,.int most,.int hold,.int tries,.int most,.int hold,.int tries,rfl,by simp only[Den],by simp only[Den],by simp only[Den],fun _=>?_,(fun z=>by rw[hset]at z; cases z)⟩
 have but:∀ {H1:Hp} {o:HO},But qu H H1->But qu H (upd H1 qu o):=fun b c o e nc=>by rw[aE nc]; exact b c o e nc
 refine⟨_,rfl,_,rfl,qu,_,dx,_,rfl,h0,T.aa2,T.aq6,(le_of_ble_eq_true rfl),?_⟩
 have b1:But qu H (upd H qu (.ins A.queue dx (cD "disk" (.ref dk) []))):=but (fun _ _ e _=>e)
 have h1:upd H qu (.ins A.queue dx (cD "disk" (.ref dk) [])) qu=some (.ins A.queue dx [("disk",.ref dk)]):=aC
 generalize upd H qu (.ins A.queue dx (cD "disk" (.ref dk) []))=H1 at b1 h1 ⊢
 refine⟨_,rfl,_,rfl,qu,_,dx,_,rfl,h1,T.aa2,T.be8,(le_of_ble_eq_true rfl),?_⟩
 have b2:=but (o:=.ins A.queue dx (cD "most" (.int most) [("disk",.ref dk)])) b1
 have h2:upd H1 qu (.ins A.queue dx (cD "most" (.int most) [("disk",.ref dk)])) qu=some (.ins A.queue dx [("disk",.ref dk),("most",.int most)]):=aC
 generalize upd H1 qu (.ins A.queue dx (cD "most" (.int most) [("disk",.ref dk)]))=H2 at b2 h2 ⊢
 refine⟨_,rfl,_,rfl,qu,_,dx,_,rfl,h2,T.aa2,T.bg3,(le_of_ble_eq_true rfl),?_⟩
 have b3:=but (o:=.ins A.queue dx (cD "hold" (.int hold) [("disk",.ref dk),("most",.int most)])) b2
 have h3:upd H2 qu (.ins A.queue dx (cD "hold" (.int hold) [("disk",.ref dk),("most",.int most)])) qu=some (.ins A.queue dx [("disk",.ref dk),("most",.int most),("hold",.int hold)]):=aC
 generalize upd H2 qu (.ins A.queue dx (cD "hold" (.int hold) [("disk",.ref dk),("most",.int most)]))=H3 at b3 h3 ⊢
 refine⟨_,rfl,_,rfl,qu,_,dx,_,rfl,h3,T.aa2,T.bg0,(le_of_ble_eq_true rfl),?_⟩
 have b4:=but (o:=.ins A.queue dx (cD "tries" (.int tries) [("disk",.ref dk),("most",.int most),("hold",.int hold)])) b3
 have h4:upd H3 qu (.ins A.queue dx (cD "tries" (.int tries) [("disk",.ref dk),("most",.int most),("hold",.int hold)])) qu=some (.ins A.queue dx [("disk",.ref dk),("most",.int most),("hold",.int hold),("tries",.int tries)]):=aC
 generalize upd H3 qu (.ins A.queue dx (cD "tries" (.int tries) [("disk",.ref dk),("most",.int most),("hold",.int hold)]))=H4 at b4 h4 ⊢
 refine⟨_,rfl,dk,df,kvs,D,ns,rfl,ddk b4,ok,fun ms' perm' pw'=>?_⟩
 have em:ms'=ms:=iC (perm'.trans perm.symm) pw' pw
 subst ms'
 refine⟨fun z=>absurd hg z,fun _=>⟨(fun z=>by rw[hbook]at z; cases z),fun B' hB' _ bk de dp H5 S5 hbk hde hdp hB5=>?_⟩⟩
 rw[hbook]at hB'
 cases hB'
 have n4:∀ {c:Addr},H4 c=none->c≠qu/\H c=none:=fun {c} z=>by
  refine⟨(fun y=>by rw[y,h4]at z; cases z),?_⟩
  cases e:H c with
  | none=>rfl
  | some o=>
   by_cases y:c=qu
   ·rw[y,h4]at z; cases z
   ·rw[b4 c o e y]at z; cases z
 obtain⟨nbk,ibk⟩:=n4 hbk
 obtain⟨nde,ide⟩:=n4 hde
 obtain⟨ndp,idp⟩:=n4 hdp
 have b5:But qu H H5:=fun c o e nc=>S5 _ _ (b4 c o e nc)
 refine⟨_,rfl,qu,_,dx,_,rfl,S5 _ _ h4,T.aa2,T.ah8,(le_of_ble_eq_true rfl),?_⟩
 have b6:=but (o:=.ins A.queue dx (cD "book" (.ref bk) [("disk",.ref dk),("most",.int most),("hold",.int hold),("tries",.int tries)])) b5
 have h6:upd H5 qu (.ins A.queue dx (cD "book" (.ref bk) [("disk",.ref dk),("most",.int most),("hold",.int hold),("tries",.int tries)])) qu=some (.ins A.queue dx [("disk",.ref dk),("most",.int most),("hold",.int hold),("tries",.int tries),("book",.ref bk)]):=aC
 have t6:gB H5 (upd H5 qu (.ins A.queue dx (cD "book" (.ref bk) [("disk",.ref dk),("most",.int most),("hold",.int hold),("tries",.int tries)]))):=l9 (S5 _ _ h4) (fun xs z=>by cases z)
 have hB6:BookAt A.book (upd H5 qu (.ins A.queue dx (cD "book" (.ref bk) [("disk",.ref dk),("most",.int most),("hold",.int hold),("tries",.int tries)]))) bk de dp B:=hB5.keep (fun c o e hc=>by
  rw[aE (fun z=>by
   rw[z]at hc
   rcases hc with y | y | y
   ·exact nbk y.symm
   ·exact nde y.symm
   ·exact ndp y.symm)]
  exact e) t6
 generalize upd H5 qu (.ins A.queue dx (cD "book" (.ref bk) [("disk",.ref dk),("most",.int most),("hold",.int hold),("tries",.int tries)]))=H6 at b6 h6 t6 hB6 ⊢
 have hD6:=ddk b6
 refine⟨_,rfl,dk,df,kvs,D,ns,rfl,hD6,hl,ok,fun ms' perm' pw'=>?_⟩
 have em:ms'=ms:=iC (perm'.trans perm.symm) pw' pw
 subst ms'
 refine⟨hg,hread,fun kvs' H7 f7 w7 hD7 p gp np=>?_⟩
 have far:∀ {c:Addr} {o:HO},H6 c=some o->¬ own dk df kvs c->¬ own dk df kvs' c:=fun e nc z=>(w7 _ z).elim nc (fun y=>by rw[y]at e; cases e)
 have nown:∀ {c:Addr},H c=none->¬ own dk df kvs c:=fun z y=>by
  obtain⟨o,e⟩:=jJ hD y
  rw[z]at e
  cases e
 have h7:=f7 _ _ h6 nqu
 have t7:gB H6 H7:=f7.tup hD6
 have hB7:BookAt A.book H7 bk de dp B:=hB6.keep (fun c o e hc=>f7 c o e (by
  rcases hc with y | y | y
  ·rw[y]; exact nown ibk
  ·rw[y]; exact nown ide
  ·rw[y]; exact nown idp)) t7
 have npq:p≠qu:=fun z=>by rw[z,h7]at gp; cases gp
 have hne:=EI (D:=D) (ms:=ms)
 obtain⟨s0,ss,es⟩:=List.exists_cons_of_ne_nil hne
 have b7:∀ b o,H b=some o->b≠qu->¬ own dk df kvs b->H7 b=some o:=fun b o e nb no=>f7 b o (b6 b o e nb) no
 have nqu':¬ own dk df kvs' qu:=far h6 nqu
 have nbk':∀ {c:Addr} {o:HO},H6 c=some o->H c=none->¬ own dk df kvs' c:=fun e z=>far e (nown z)
 have base:∀ {G G':Hp} {o:HO},(∀ c u,H7 c=some u->c≠qu->G c=some u)->G'=upd G qu o->∀ c u,H7 c=some u->c≠qu->G' c=some u:=fun h e c u z n=>by rw[e,aE n]; exact h c u z n
 have k7:∀ c u,H7 c=some u->c≠qu->H7 c=some u:=fun _ _ e _=>e
 refine⟨_,rfl,p,_,_,.int ((bH D ms).2.headD 0),rfl,rfl,SqL.of gp,cJ (by decide) (by rw[es]; rfl),_,rfl,qu,_,dx,_,rfl,h7,T.aa2,T.bg1,(le_of_ble_eq_true rfl),?_⟩
 have h8:upd H7 qu (.ins A.queue dx (cD "first" (.int ((bH D ms).2.headD 0)) [("disk",.ref dk),("most",.int most),("hold",.int hold),("tries",.int tries),("book",.ref bk)])) qu=some (.ins A.queue dx [("disk",.ref dk),("most",.int most),("hold",.int hold),("tries",.int tries),("book",.ref bk),("first",.int ((bH D ms).2.headD 0))]):=aC
 have k8:=base (G':=upd H7 qu (.ins A.queue dx (cD "first" (.int ((bH D ms).2.headD 0)) [("disk",.ref dk),("most",.int most),("hold",.int hold),("tries",.int tries),("book",.ref bk)]))) k7 rfl
 generalize upd H7 qu (.ins A.queue dx (cD "first" (.int ((bH D ms).2.headD 0)) [("disk",.ref dk),("most",.int most),("hold",.int hold),("tries",.int tries),("book",.ref bk)]))=H8 at h8 k8 ⊢
 refine⟨_,rfl,1,rfl,p,_,_,.int ((bH D ms).2.getLastD 0),rfl,rfl,SqL.of (k8 _ _ gp npq),pJ hne,_,rfl,qu,_,dx,_,rfl,h8,T.aa2,T.am6,(le_of_ble_eq_true rfl),?_⟩
 have h9:upd H8 qu (.ins A.queue dx (cD "last" (.int ((bH D ms).2.getLastD 0)) [("disk",.ref dk),("most",.int most),("hold",.int hold),("tries",.int tries),("book",.ref bk),("first",.int ((bH D ms).2.headD 0))])) qu=some (.ins A.queue dx [("disk",.ref dk),("most",.int most),("hold",.int hold),("tries",.int tries),("book",.ref bk),("first",.int ((bH D ms).2.headD 0)),("last",.int ((bH D ms).2.getLastD 0))]):=aC
 have k9:=base (G':=upd H8 qu (.ins A.queue dx (cD "last" (.int ((bH D ms).2.getLastD 0)) [("disk",.ref dk),("most",.int most),("hold",.int hold),("tries",.int tries),("book",.ref bk),("first",.int ((bH D ms).2.headD 0))]))) k8 rfl
 generalize upd H8 qu (.ins A.queue dx (cD "last" (.int ((bH D ms).2.getLastD 0)) [("disk",.ref dk),("most",.int most),("hold",.int hold),("tries",.int tries),("book",.ref bk),("first",.int ((bH D ms).2.headD 0))]))=H9 at h9 k9 ⊢
 refine⟨_,rfl,qu,_,dx,_,rfl,h9,T.aa2,T.ak9,(le_of_ble_eq_true rfl),?_⟩
 have h10:upd H9 qu (.ins A.queue dx (cD "writing" (.bl false) [("disk",.ref dk),("most",.int most),("hold",.int hold),("tries",.int tries),("book",.ref bk),("first",.int ((bH D ms).2.headD 0)),("last",.int ((bH D ms).2.getLastD 0))])) qu=some (.ins A.queue dx [("disk",.ref dk),("most",.int most),("hold",.int hold),("tries",.int tries),("book",.ref bk),("first",.int ((bH D ms).2.headD 0)),("last",.int ((bH D ms).2.getLastD 0)),("writing",.bl false)]):=aC
 have k10:=base (G':=upd H9 qu (.ins A.queue dx (cD "writing" (.bl false) [("disk",.ref dk),("most",.int most),("hold",.int hold),("tries",.int tries),("book",.ref bk),("first",.int ((bH D ms).2.headD 0)),("last",.int ((bH D ms).2.getLastD 0))]))) k9 rfl
 generalize upd H9 qu (.ins A.queue dx (cD "writing" (.bl false) [("disk",.ref dk),("most",.int most),("hold",.int hold),("tries",.int tries),("book",.ref bk),("first",.int ((bH D ms).2.headD 0)),("last",.int ((bH D ms).2.getLastD 0))]))=H10 at h10 k10 ⊢
 refine fun hd hhd=>?_
 have nhq:hd≠qu:=fun z=>by rw[z,h10]at hhd; cases hhd
 have hh7:H7 hd=none:=by
  cases e:H7 hd with
  | none=>rfl
  | some o=>rw[k10 _ _ e nhq]at hhd; cases hhd
 have S11:=aI (o:=.dK []) hhd
 have gh:upd H10 hd (.dK []) hd=some (.dK []):=aC
 generalize upd H10 hd (.dK [])=H11 at S11 gh ⊢
 have h11:=S11 _ _ h10
 have k11:∀ c u,H7 c=some u->c≠qu->H11 c=some u:=fun c u e n=>S11 _ _ (k10 c u e n)
 refine⟨_,rfl,qu,_,dx,_,rfl,h11,T.aa2,T.be9,(le_of_ble_eq_true rfl),?_⟩
 have h12:upd H11 qu (.ins A.queue dx (cD "holders" (.ref hd) [("disk",.ref dk),("most",.int most),("hold",.int hold),("tries",.int tries),("book",.ref bk),("first",.int ((bH D ms).2.headD 0)),("last",.int ((bH D ms).2.getLastD 0)),("writing",.bl false)])) qu=some (.ins A.queue dx [("disk",.ref dk),("most",.int most),("hold",.int hold),("tries",.int tries),("book",.ref bk),("first",.int ((bH D ms).2.headD 0)),("last",.int ((bH D ms).2.getLastD 0)),("writing",.bl false),("holders",.ref hd)]):=aC
 have k12:=base (G':=upd H11 qu (.ins A.queue dx (cD "holders" (.ref hd) [("disk",.ref dk),("most",.int most),("hold",.int hold),("tries",.int tries),("book",.ref bk),("first",.int ((bH D ms).2.headD 0)),("last",.int ((bH D ms).2.getLastD 0)),("writing",.bl false)]))) k11 rfl
 have gh12:upd H11 qu (.ins A.queue dx (cD "holders" (.ref hd) [("disk",.ref dk),("most",.int most),("hold",.int hold),("tries",.int tries),("book",.ref bk),("first",.int ((bH D ms).2.headD 0)),("last",.int ((bH D ms).2.getLastD 0)),("writing",.bl false)])) hd=some (.dK []):=by rw[aE nhq]; exact gh
 generalize upd H11 qu (.ins A.queue dx (cD "holders" (.ref hd) [("disk",.ref dk),("most",.int most),("hold",.int hold),("tries",.int tries),("book",.ref bk),("first",.int ((bH D ms).2.headD 0)),("last",.int ((bH D ms).2.getLastD 0)),("writing",.bl false)]))=H12 at h12 k12 gh12 ⊢
 refine⟨_,rfl,qu,_,dx,_,rfl,h12,T.aa2,T.bg4,(le_of_ble_eq_true rfl),?_⟩
 have h13:upd H12 qu (.ins A.queue dx (cD "now" (.int 0) [("disk",.ref dk),("most",.int most),("hold",.int hold),("tries",.int tries),("book",.ref bk),("first",.int ((bH D ms).2.headD 0)),("last",.int ((bH D ms).2.getLastD 0)),("writing",.bl false),("holders",.ref hd)])) qu=some (.ins A.queue dx [("disk",.ref dk),("most",.int most),("hold",.int hold),("tries",.int tries),("book",.ref bk),("first",.int ((bH D ms).2.headD 0)),("last",.int ((bH D ms).2.getLastD 0)),("writing",.bl false),("holders",.ref hd),("now",.int 0)]):=aC
 have k13:=base (G':=upd H12 qu (.ins A.queue dx (cD "now" (.int 0) [("disk",.ref dk),("most",.int most),("hold",.int hold),("tries",.int tries),("book",.ref bk),("first",.int ((bH D ms).2.headD 0)),("last",.int ((bH D ms).2.getLastD 0)),("writing",.bl false),("holders",.ref hd)]))) k12 rfl
 have gh13:upd H12 qu (.ins A.queue dx (cD "now" (.int 0) [("disk",.ref dk),("most",.int most),("hold",.int hold),("tries",.int tries),("book",.ref bk),("first",.int ((bH D ms).2.headD 0)),("last",.int ((bH D ms).2.getLastD 0)),("writing",.bl false),("holders",.ref hd)])) hd=some (.dK []):=by rw[aE nhq]; exact gh12
 generalize upd H12 qu (.ins A.queue dx (cD "now" (.int 0) [("disk",.ref dk),("most",.int most),("hold",.int hold),("tries",.int tries),("book",.ref bk),("first",.int ((bH D ms).2.headD 0)),("last",.int ((bH D ms).2.getLastD 0)),("writing",.bl false),("holders",.ref hd)]))=H13 at h13 k13 gh13 ⊢
 have t13:gB H7 H13:=fun b xs e=>k13 b _ e (fun z=>by rw[z,h7]at e; cases e)
 obtain⟨db,hb1⟩:=hB7.self
 obtain⟨kb,hb2,_⟩:=hB7.ent
 obtain⟨pb,hb3,_⟩:=hB7.par
 obtain⟨dc,hc1⟩:=hB6.self
 obtain⟨kc,hc2,_⟩:=hB6.ent
 obtain⟨pc,hc3,_⟩:=hB6.par
 have nh:∀ {c:Addr} {o:HO},H7 c=some o->hd≠c:=fun e z=>by rw[z,e]at hh7; cases hh7
 have nhd:¬ own dk df kvs' hd:=fun z=>by
  obtain⟨o,e⟩:=jJ hD7 z
  rw[hh7]at e
  cases e
 have hh0:H hd=none\/own dk df kvs hd:=by
  by_cases y:own dk df kvs hd
  ·exact .inr y
  ·refine .inl ?_
   cases e:H hd with
   | none=>rfl
   | some o=>rw[b7 _ _ e nhq y]at hh7; cases hh7
 refine qq ⟨qu,dk,df,bk,de,dp,hd,kvs'⟩ H13 rfl rfl (fun b o e nb no=>k13 b o (b7 b o e nb no) nb) (fun b hb=>?_) ⟨⟨dx,h13⟩,hD7.keep (fun c o e hc=>k13 c o e (fun z=>by rw[z]at hc; exact nqu' hc)),hB7.keep (fun c o e hc=>k13 c o e (fun z=>?_)) t13,⟨[],gh13,trivial⟩,fun b hb=>?_,⟨fun z=>?_,nqu'⟩,⟨nhq,fun z=>?_,nhd⟩⟩
 ·rcases hb with z | z | (z | z | z) | z
  ·exact .inl z
  ·rcases hh0 with y | y
   ·exact .inr (.inr (by rw[z]; exact y))
   ·exact .inr (.inl (by rw[z]; exact y))
  ·exact .inr (.inr (by rw[z]; exact ibk))
  ·exact .inr (.inr (by rw[z]; exact ide))
  ·exact .inr (.inr (by rw[z]; exact idp))
  ·rcases w7 b z with y | y
   ·exact .inr (.inl y)
   ·by_cases x:b=qu
    ·exact .inl x
    ·refine .inr (.inr ?_)
     cases e:H b with
     | none=>rfl
     | some o=>rw[b6 b o e x]at y; cases y
 ·rw[z]at hc
  rcases hc with y | y | y
  ·exact nbk y.symm
  ·exact nde y.symm
  ·exact ndp y.symm
 ·rcases hb with z | z | z
  ·exact nbk' (by rw[z]; exact hc1) (by rw[z]; exact ibk)
  ·exact nbk' (by rw[z]; exact hc2) (by rw[z]; exact ide)
  ·exact nbk' (by rw[z]; exact hc3) (by rw[z]; exact idp)
 ·rcases z with y | y | y
  ·exact nbk y.symm
  ·exact nde y.symm
  ·exact ndp y.symm
 ·rcases z with y | y | y
  ·exact nh hb1 y
  ·exact nh hb2 y
  ·exact nh hb3 y
end
abbrev F9:Stmt:=top 70
abbrev DF:Stmt:=top 69
abbrev C9:Stmt:=top 71
abbrev qJ:Stmt:=top 74
abbrev xF:Stmt:=top 75
def qI (x k:Int):Int:=((x * 1103515245+7919 * k+12345) % 2147483647) ^ 5 % 2147483647
def DK {a b:Int} (h:0<=a) (h2:a<2147483647):a.natAbs<2 ^ 64:=by omega
inductive vB (K:Hh) (vs:Hw) (H:Hp) (Q:VK) (x_3:XK):Prop
 | mk:∀ (a:Addr) (ns:Hm) (k:Int),vs=[.ref a,.int k]->0<=k->SqL K H a (ns.map V.int)->Q (.int (ns.getD k.toNat 0)) H->vB K vs H Q x_3
inductive u7 (vs:Hw) (H:Hp) (Q:VK) (x_3:XK):Prop
 | mk:∀ (x k:Int),vs=[.int x,.int k]->Q (.int (qI x k)) H->u7 vs H Q x_3
def HE (c p m:Int):Int:=(c * 48271 % p) ^ 3 % p % m
inductive zH (vs:Hw) (H:Hp) (Q:VK) (x_3:XK):Prop
 | mk:∀ (c p m:Int),vs=[.int c,.int p,.int m]->0<p->p<2147483647->0<m->Q (.int (HE c p m)) H->zH vs H Q x_3
section
variable {P:Program} {w:World} {K:Hh} {mg:Hj} {base:Heap} {aa9 aa1:Addr} {A:Ad}
def Fc {f:Addr} {fd:Hs} (F:Fun K "_law_cell" "_law_cell" DF f fd) (T:TxtQ K mg A):(FnOk P w K mg base (CXE P w)) 1 f fd ["_law_script","_law_k"] (vB K):=by
 refine F.okY ["_law_script","_law_k"] fun cdv A' outer s H vs Q E hr nD0 h=>?_
 obtain⟨a,ns,k,rfl,k0,hs,q⟩:=h
 refine⟨_,aA (a6 (bA A0 (pv 1) (bE (cV K) ⋯ T.ad0 fO (aJ (pv 0) aF)) (bF _))
   (aB (aX (dO (c6 K) (pv 0) (pv 1) (fun _ _=>rfl))))
   aO)
  (aB (aX aG)),?_⟩
 refine⟨_,rfl,_,rfl,a,_,rfl,.inl hs,_,_,rfl,rfl,_,rfl,?_⟩
 rw[length_map]
 show if decide (k<(ns.length:Int))=true then _ else _
 by_cases hk:k<(ns.length:Int)
 ·rw[if_pos (decide_eq_true hk)]
  have hl:k.toNat<ns.length:=by omega
  have eg:ns.getD k.toNat 0=ns[k.toNat]:=by
   rw[getD_eq_getElem?_getD,getElem?_eq_getElem hl]
   rfl
  rw[eg]at q
  exact⟨_,rfl,_,rfl,a,_,_,_,rfl,rfl,hs,cJ k0 (by rw[getElem?_map,getElem?_eq_getElem hl]; rfl),q⟩
 ·rw[if_neg (by simpa using hk)]
  have eg:ns.getD k.toNat 0=0:=by
   rw[getD_eq_getElem?_getD,getElem?_eq_none (by omega)]
   rfl
  rw[eg]at q
  exact q
def FW {f:Addr} {fd:Hs} (F:Fun K "_law_seed" "_law_seed" C9 f fd):(FnOk P w K mg base (CXE P w)) 1 f fd ["_law_seed_here","_law_k"] u7:=by
 refine F.okY ["_law_seed_here","_law_k"] fun cdv A' outer s H vs Q E hr nD0 h=>?_
 obtain⟨x,k,rfl,q⟩:=h
 refine⟨_,aB (aX (aY dM (aY DZ (aY dM (aY cT (aY cT (aY kG (pv 0) aG) (aY kG aG (pv 1))) aG) aG) aG) aG)),?_⟩
 have e1:=emod_nonneg (x * 1103515245+7919 * k+12345) (show (2147483647:Int)≠0 by decide)
 have e2:=emod_lt_of_pos (x * 1103515245+7919 * k+12345) (show (0:Int)<2147483647 by decide)
 refine⟨_,rfl,_,_,rfl,rfl,.inr ⟨by decide,by decide⟩,_,rfl,_,_,rfl,rfl,.inl ⟨by decide,by decide⟩,_,_,rfl,rfl,_,_,rfl,rfl,_,_,rfl,rfl,(by show (0:Int)<2147483647; decide),_,_,rfl,rfl,⟨by decide,by decide,DK (b:=0) e1 e2⟩,_,_,rfl,rfl,(by show (0:Int)<2147483647; decide),?_⟩
 exact q
def G6 {f:Addr} {fd:Hs} (F:Fun K "_law_mix" "_law_mix" F9 f fd):(FnOk P w K mg base (CXE P w)) 1 f fd ["_law_cell_here","_law_prime","_law_many"] zH:=by
 refine F.okY ["_law_cell_here","_law_prime","_law_many"] fun cdv A' outer s H vs Q E hr nD0 h=>?_
 obtain⟨c,p,m,rfl,p0,p9,m0,q⟩:=h
 refine⟨_,aB (aX (aY dM (aY dM (aY DZ (aY dM (aY kG (pv 0) aG) (pv 1)) aG) (pv 1)) (pv 2))),?_⟩
 have e1:=emod_nonneg (c * 48271) (show p≠0 by omega)
 have e2:=emod_lt_of_pos (c * 48271) p0
 refine⟨_,rfl,_,_,rfl,rfl,.inr ⟨by decide,by decide⟩,_,rfl,_,_,rfl,rfl,p0,_,_,rfl,rfl,⟨by decide,by decide,DK (b:=0) e1 (by omega)⟩,_,rfl,_,_,rfl,rfl,p0,_,rfl,_,_,rfl,rfl,m0,q⟩
end
def at2 {a b k:Int} (h0:0<=k) (h2:k<2):∃ m,atI [V.int a,V.int b] k=some (.int m)/\(m=a\/m=b):=by
 by_cases z:k=0
 ·subst z
  exact⟨a,rfl,.inl rfl⟩
 ·have:k=1:=by omega
  subst this
  exact⟨b,rfl,.inr rfl⟩
def at3 {a b c k:Int} (h0:0<=k) (h3:k<3):∃ m,atI [V.int a,V.int b,V.int c] k=some (.int m)/\(m=a\/m=b\/m=c):=by
 by_cases z:k=0
 ·subst z
  exact⟨a,rfl,.inl rfl⟩
 ·by_cases y:k=1
  ·subst y
   exact⟨b,rfl,.inr (.inl rfl)⟩
  ·have:k=2:=by omega
   subst this
   exact⟨c,rfl,.inr (.inr rfl)⟩
inductive j4 (vs:Hw) (H:Hp) (Q:VK) (x_3:XK):Prop
 | mk:∀ c:Int,vs=[.int c]->(∀ (m h t:Int) (p:Addr) (H':Hp),1<=m->m<=2000->0<=h->h<=99->1<=t->t<=9->aD H H'->H' p=some (.tup [.int m,.int h,.int t])->Q (.ref p) H')->j4 vs H Q x_3
structure DiskGood (D:Dk) (ns ms:Hm) (B:Bk):Prop where
 left:D.left=none
 ok:DiskOk D ns
 perm:List.Perm ms ns
 pw:ms.Pairwise (· <= ·)
 gap:jP ms
 read:∀ bs,aH D.fs (aM (ms.getLastD 0))=some bs->cA (bs.length+1) bs≠none
 book:jZ D (ms.getLastD 0) ms ⟨[],0,[]⟩=some B
inductive iV (A:Ad) (vs:Hw) (H:Hp) (Q:VK) (x_3:XK):Prop
 | mk:∀ (dk df p:Addr) (kvs:Hu) (D:Dk) (ns ms:Hm) (B:Bk) (m h t:Int),vs=[.ref dk,.ref p]->H p=some (.tup [.int m,.int h,.int t])->1<=m->m<=2000->0<=h->h<=99->1<=t->t<=9->DiskAt A.disk H dk df kvs D->DiskGood D ns ms B->(∀ L' H',L'.dk=dk->(∀ b o,H b=some o->¬ own dk df kvs b->H' b=some o)->(∀ b,fK L' b->own dk df kvs b\/H b=none)->QueueW A H' L' (iI D ms B m h t) false->Q (.ref L'.qu) H')->iV A vs H Q x_3
section
variable {P:Program} {w:World} {K:Hh} {mg:Hj} {base:Heap} {A:Ad}
def xV {f:Addr} {fd:Hs} (F:Fun K "_law_settings" "_law_settings" qJ f fd) (T:TxtQ K mg A) (ab9:(Callee P w K mg base "_law_seed" 1 ["_law_seed_here", "_law_k"] u7)):(FnOk P w K mg base (CXE P w)) 2 f fd ["_law_cell_here"] j4:=by
 refine F.okY ["_law_cell_here","_law_seed_here","_law_most"] fun cdv A' outer s H vs Q E hr nD0 h=>?_
 obtain⟨c,rfl,qq⟩:=h
 refine⟨_,aA (aT (i:=1) nD0 ⋯ ⋯ (a5 ab9 ((hr.mono (by decide))) bB (aJ (pv 0) (aR aG aF))))
  (aA (aT (i:=2) nD0 ⋯ ⋯ (dO (c6 K) (gI (bM (aY cT aG (aY dM (aY iF (pv 1) aG) aG)) (bM (aY cT aG (aY dM (aY iF (pv 1) aG) aG)) (aR aG aF)))) (aY dM (aY iF (pv 1) aG) aG) (fun _ _=>rfl)))
  (aB (aX (bV (aJ (pv 2) (bM (aY dM (aY iF (pv 1) aG) (dO (c6 K) (gI (aR aG (aR aG aF))) (gT Cd ⋯ T.au0 wH (zS (fV i6 (aY dM (aY iF (pv 1) aG) aG) aG (bF _)) aF)) (fun _ _=>rfl))) (bM (aY cT aG (aY dM (aY iF (pv 1) aG) (dO (c6 K) (gI (aR aG (aR aG aF))) (aY dM (aY iF (pv 1) aG) aG) (fun _ _=>rfl)))) aF))))))),?_⟩
 refine⟨_,rfl,c,0,rfl,?_⟩
 generalize qI c 0=x
 refine⟨_,rfl,_,_,rfl,rfl,⟨by decide,by decide⟩,_,_,rfl,rfl,(by show (0:Int)<60; decide),_,_,rfl,rfl,_,rfl,_,_,rfl,rfl,⟨by decide,by decide⟩,_,_,rfl,rfl,(by show (0:Int)<200; decide),_,_,rfl,rfl,bP,fun p1 hp1=>?_⟩
 obtain⟨m,e1,hm⟩:=at3 (a:=1+x / 3 % 60) (b:=1+x / 3 % 200) (c:=2000) (k:=x / 7 % 3) (by omega) (by omega)
 refine⟨_,rfl,_,_,rfl,rfl,⟨by decide,by decide⟩,_,_,rfl,rfl,(by show (0:Int)<3; decide),p1,_,_,.int m,rfl,rfl,SqL.of aC,e1,?_⟩
 have S1:=aI (o:=.lst [.int (1+x / 3 % 60),.int (1+x / 3 % 200),.int 2000]) hp1
 generalize upd H p1 (.lst [.int (1+x / 3 % 60),.int (1+x / 3 % 200),.int 2000])=H1 at S1 ⊢
 refine⟨_,rfl,_,rfl,_,_,rfl,rfl,⟨by decide,by decide⟩,bP,fun p2 hp2=>?_⟩
 refine⟨_,rfl,_,_,rfl,rfl,⟨by decide,by decide⟩,_,_,rfl,rfl,(by show (0:Int)<4; decide),rfl,.inr ⟨_,rfl,?_⟩⟩
 obtain⟨h,e2,hh⟩:=at2 (a:=8) (b:=100) (k:=if decide (V.int (x / 19 % 4)=V.int 0)=true then 1 else 0) (by split <;> omega) (by split <;> omega)
 refine⟨p2,_,_,.int h,rfl,rfl,SqL.of aC,e2,_,_,rfl,rfl,(by rcases hh with z | z <;> rw[z] <;> decide),?_⟩
 have S2:=aI (o:=.lst [.int 8,.int 100]) hp2
 generalize upd H1 p2 (.lst [.int 8,.int 100])=H2 at S2 ⊢
 refine⟨_,rfl,_,_,rfl,rfl,⟨by decide,by decide⟩,bP,fun p3 hp3=>?_⟩
 obtain⟨t,e3,ht⟩:=at2 (a:=9) (b:=3) (k:=x / 17 % 2) (by omega) (by omega)
 refine⟨_,rfl,_,_,rfl,rfl,⟨by decide,by decide⟩,_,_,rfl,rfl,(by show (0:Int)<2; decide),p3,_,_,.int t,rfl,rfl,SqL.of aC,e3,_,_,rfl,rfl,(by rcases ht with z | z <;> rw[z] <;> decide),_,_,rfl,rfl,bP,fun p4 hp4=>?_⟩
 have S3:=aI (o:=.lst [.int 9,.int 3]) hp3
 generalize upd H2 p3 (.lst [.int 9,.int 3])=H3 at S3 hp4 ⊢
 have b1:1<=m/\m<=2000:=by
  have h1:=emod_nonneg (x / 3) (show (60:Int)≠0 by decide)
  have h2:=emod_lt_of_pos (x / 3) (show (0:Int)<60 by decide)
  have h3:=emod_nonneg (x / 3) (show (200:Int)≠0 by decide)
  have h4:=emod_lt_of_pos (x / 3) (show (0:Int)<200 by decide)
  omega
 have b2:0<=x / 11 % h/\x / 11 % h<=99:=by
  have h1:=emod_nonneg (x / 11) (show h≠0 by omega)
  have h2:=emod_lt_of_pos (x / 11) (show 0<h by omega)
  omega
 have b3:1<=1+x / 13 % t/\1+x / 13 % t<=9:=by
  have h1:=emod_nonneg (x / 13) (show t≠0 by omega)
  have h2:=emod_lt_of_pos (x / 13) (show 0<t by omega)
  omega
 exact qq m (x / 11 % h) (1+x / 13 % t) p4 _ b1.1 b1.2 b2.1 b2.2 b3.1 b3.2 (S1.trans (S2.trans (S3.trans (aI hp4)))) aC
def Bw {f:Addr} {fd:Hs} (F:Fun K "_law_queue" "_law_queue" xF f fd) (ay8:(Maker P w K mg base) "Queue" A.queue 8 ["self","disk","most","hold","tries"] (nN A)):(FnOk P w K mg base (CXE P w)) 10 f fd ["_law_disk","_law_settings_here"] (iV A):=by
 refine F.okY ["_law_disk","_law_settings_here"] fun cdv A' outer s H vs Q E hr nD0 h=>?_
 obtain⟨dk,df,p,kvs,D,ns,ms,B,m,h,t,rfl,gp,m0,m1,h0,h1,t0,t1,hD,dg,qq⟩:=h
 refine⟨_,aB (aX (GI ay8 ((hr.mono (by decide))) bB (aJ (pv 0) (aP (dO (fE K) (pv 1) aG (fun _ _ => rfl)) (aP (dO (fE K) (pv 1) aG (fun _ _ => rfl)) (aP (dO (fE K) (pv 1) aG (fun _ _ => rfl)) aF)))))),?_⟩
 refine⟨_,rfl,_,rfl,p,_,_,.int m,rfl,rfl,SqT.of gp,cJ (by decide) rfl,_,rfl,p,_,_,.int h,rfl,rfl,SqT.of gp,cJ (by decide) rfl,_,rfl,p,_,_,.int t,rfl,rfl,SqT.of gp,cJ (by decide) rfl,fun qu dx hqu hdx ndx=>?_⟩
 have fr:∀ {c o},H c=some o->upd (upd H dx (.own qu)) qu (.ins A.queue dx []) c=some o:=fun {c o} e=>by
  rw[aE (a8 e hqu),aE (a8 e hdx)]
  exact e
 have hst:tF (.int m) (.int h) (.int t)=true:=by
  unfold tF
  simp only[bI,and_eq_true,decide_eq_true_eq]
  omega
 have nqu:¬ own dk df kvs qu:=fun z=>by
  obtain⟨o,e⟩:=jJ hD z
  rw[hqu]at e
  cases e
 have back:∀ {c},upd (upd H dx (.own qu)) qu (.ins A.queue dx []) c=none->H c=none:=fun {c} e=>by
  cases e2:H c with
  | none=>rfl
  | some o=>rw[fr e2]at e; cases e
 refine⟨qu,dx,dk,df,kvs,D,ns,ms,B,m,h,t,rfl,aC,hD.keep (fun b o e _=>fr e),nqu,hst,dg.left,dg.ok,dg.perm,dg.pw,dg.gap,dg.read,dg.book,fun L' H' eq ed f g hq=>⟨rfl,?_⟩⟩
 subst eq
 refine qq L' H' ed (fun b o e nb=>f b o (fr e) (a8 e hqu) nb) (fun b hb=>?_) hq
 rcases g b hb with z | z | z
 ·rw[z]
  exact .inr hqu
 ·exact .inl z
 ·exact .inr (back z)
end
def dE (r:Rw) (rs:Hy):aN (r::rs)=bU r.1 r.2.1 r.2.2++aN rs:=by
 unfold aN
 rw[map_cons,List.flatten_cons]
def nU (a b:Hy):aN (a++b)=aN a++aN b:=by
 unfold aN
 rw[map_append,List.flatten_append]
def lW:∀ rs:Hy,rs.length<=(aN rs).length
 | []=>le_refl _
 | r::rs=>by
  rw[dE,length_append,cB,length_cons]
  have:=lW rs
  omega
def qQ:∀ (rs:Hy) (f:Nat),(∀ r∈rs,aQ (bT r)=true)->rs.length<f->cA f (aN rs)=some (rs.map bT,0)
 | rs,0,_,h=>absurd h (Nat.not_lt_zero _)
 | [],f+1,_,_=>rfl
 | r::rs,f+1,h,hf=>by
  rw[dE,nX (h r mem_cons_self),qQ rs f (fun x hx=>h x (mem_cons_of_mem _ hx)) (by rw[length_cons]at hf; omega)]
  rfl
structure GoodR (rs:Hy):Prop where
 ok:∀ r∈rs,aQ (bT r)=true
 head:∃ n r,rs=(("from",n,[]):Rw)::r
 cut:a4 rs=rs
def GoodR.read {rs:Hy} (h:GoodR rs):cA ((aN rs).length+1) (aN rs)=some (rs.map bT,0):=qQ rs _ h.ok (by have:=lW rs; omega)
def GoodR.seg {rs:Hy} (h:GoodR rs) (l:Bool):o8 (aN rs) l=some rs:=by
 obtain⟨n,r,e⟩:=h.head
 unfold o8
 rw[h.read]
 try dsimp only
 rw[kX]
 unfold gN
 rw[h.read]
 try dsimp only
 rw[h.cut,if_neg (fun z=>by have:=z.2; omega),if_neg (fun z=>by rw[e]at z; exact absurd z.2 (by simp)),if_neg (fun z=>by rw[e]at z; exact z.2 rfl)]
def zN (rs:Hy):bX rs=(aN rs).length:=by
 unfold bX
 induction rs with
 | nil=>rfl
 | cons r rs ih=>rw[map_cons,List.sum_cons,ih,dE,length_append,cB]
def yM (rs:Hy) (r:Rw) (h:r.1 ≠ "part"):a4 (rs++[r])=rs++[r]:=by
 unfold a4
 rw[List.reverse_append]
 show (List.dropWhile _ (r::rs.reverse)).reverse=_
 rw[List.dropWhile_cons,if_neg (by rw[decide_eq_true_eq]; exact h),List.reverse_cons,List.reverse_reverse]
def jX (s:Int):Bk->List (Hy)->Option Bk
 | B,[]=>some B
 | B,rs::R=>match bN s B rs with
  | none=>none
  | some B'=>jX (s+1) B' R
def uF (s:Int) (b:Hy):∀ (a:Hy) (B B1:Bk),bN s B a=some B1->bN s B (a++b)=bN s B1 b
 | [],B,B1,h=>by
  cases (show some B=some B1 from h)
  rfl
 | r::a,B,B1,h=>by
  have h:(match c8 B r.1 r.2.1 r.2.2 s with | none=>none | some B'=>bN s B' a)=some B1:=h
  show (match c8 B r.1 r.2.1 r.2.2 s with | none=>none | some B'=>bN s B' (a++b))=_
  cases e:c8 B r.1 r.2.1 r.2.2 s with
  | none=>rw[e]at h; cases h
  | some B'=>
   rw[e]at h
   exact uF s b a B' B1 h
def oF:∀ (R:List (Hy)) (s:Int) (B B1:Bk) (x:Hy),jX s B R=some B1->jX s B (R++[x])=bN (s+(R.length:Int)) B1 x
 | [],s,B,B1,x,h=>by
  cases (show some B=some B1 from h)
  show (match bN s B x with | none=>none | some B'=>some B')=_
  rw[show s+((([]:List (Hy)).length:Nat):Int)=s by simp]
  cases bN s B x <;> rfl
 | rs::R,s,B,B1,x,h=>by
  have h:(match bN s B rs with | none=>none | some B'=>jX (s+1) B' R)=some B1:=h
  show (match bN s B rs with | none=>none | some B'=>jX (s+1) B' (R++[x]))=_
  cases e:bN s B rs with
  | none=>rw[e]at h; cases h
  | some B'=>
   rw[e]at h
   try dsimp only
   rw[oF R (s+1) B' B1 x h,length_cons,show s+1+(R.length:Int)=s+((R.length+1:Nat):Int) by omega]
def l4:∀ (R:List (Hy)) (s:Int) (B B1:Bk) (x:Hy),jX s B (R++[x])=some B1->∃ B0,jX s B R=some B0/\bN (s+(R.length:Int)) B0 x=some B1
 | [],s,B,B1,x,h=>by
  refine⟨B,rfl,?_⟩
  have h:(match bN s B x with | none=>none | some B'=>some B')=some B1:=h
  rw[show s+((([]:List (Hy)).length:Nat):Int)=s by simp]
  cases e:bN s B x with
  | none=>rw[e]at h; cases h
  | some B'=>rw[e]at h; exact h
 | rs::R,s,B,B1,x,h=>by
  have h:(match bN s B rs with | none=>none | some B'=>jX (s+1) B' (R++[x]))=some B1:=h
  cases e:bN s B rs with
  | none=>rw[e]at h; cases h
  | some B'=>
   rw[e]at h
   obtain⟨B0,h1,h2⟩:=l4 R (s+1) B' B1 x h
   refine⟨B0,?_,?_⟩
   ·show (match bN s B rs with | none=>none | some B'=>jX (s+1) B' R)=_
    rw[e]
    exact h1
   ·rw[length_cons,show s+((R.length+1:Nat):Int)=s+1+(R.length:Int) by omega]
    exact h2
structure Rs (q:Qs) (f:Int) (Ri:List (Hy)) (rl:Hy) (z:Nat):Prop where
 left:q.D.left=none
 f0:0<=f
 last:q.last=f+(Ri.length:Int)
 keys:q.D.fs.map (·.1)=(List.range (Ri.length+1)).map fun(i:Nat)=>aM (f+(i:Int))
 files:∀ (i:Nat) rs,(Ri++[rl])[i]? = some rs->aH q.D.fs (aM (f+(i:Int)))=some (aN rs)
 good:∀ rs∈Ri++[rl],GoodR rs
 fold:jX f ⟨[],0,[]⟩ (Ri++[rl])=some q.B
 parts:q.B.parts=[]
 up:0<=q.B.up
 size:((Ri++[rl]).map fun rs=>(aN rs).length).sum<=z
def mJ {n m:Int} (hn:cX n) (hm:cX m) (e:aM n=aM m):n=m:=by
 have h1:=PySem.W.KIN.num_reads hn.1 (Int.lt_of_lt_of_le hn.2 (by decide))
 have h2:=PySem.W.KIN.num_reads hm.1 (Int.lt_of_lt_of_le hm.2 (by decide))
 have e':Str.ofString (toString n)=Str.ofString (toString m):=by rw[<- nS n,<- nS m,e]
 rw[e']at h1
 exact Option.some.inj (h1.symm.trans h2)
def mY {fs:List (Str × Hm)} {n:Str} (h:n ∉ fs.map (·.1)):aH fs n=none:=by
 unfold aH
 rw[map_eq_none_iff,find?_eq_none]
 intro p hp z
 exact h (by rw[<- of_decide_eq_true z]; exact mem_map_of_mem hp)
def B9 {fs:List (Str × Hm)} {n:Str} {bs:Hm} (h:aH fs n=some bs):n∈fs.map (·.1):=by
 by_cases z:n∈fs.map (·.1)
 ·exact z
 ·rw[mY z]at h
  cases h
def Dx:∀ {l:List Nat} {x:Nat},x∈l->x<=l.sum
 | [],x,h=>by cases h
 | y::l,x,h=>by
  rw[List.sum_cons]
  rcases mem_cons.mp h with z | z
  ·omega
  ·have:=Dx z
   omega
section
variable {q:Qs} {f:Int} {Ri:List (Hy)} {rl:Hy} {z:Nat}
def Rs.look (h:Rs q f Ri rl z) {x:Str} {bs:Hm} (e:aH q.D.fs x=some bs):∃ (i:Nat) (rs:Hy),i<=Ri.length/\x=aM (f+(i:Int))/\(Ri++[rl])[i]? = some rs/\bs=aN rs:=by
 have hk:=B9 e
 rw[h.keys,mem_map]at hk
 obtain⟨i,hi,rfl⟩:=hk
 rw[mem_range]at hi
 have hl:i<(Ri++[rl]).length:=by rw[length_append,length_singleton]; exact hi
 have e2:=h.files i _ (getElem?_eq_getElem hl)
 rw[e]at e2
 exact⟨i,_,by omega,rfl,getElem?_eq_getElem hl,Option.some.inj e2⟩
def Rs.len (h:Rs q f Ri rl z) {x:Str} {bs:Hm} (e:aH q.D.fs x=some bs):bs.length<=z:=by
 obtain⟨i,rs,_,_,hi,rfl⟩:=h.look e
 exact le_trans (Dx (mem_map_of_mem (f:=fun rs=>(aN rs).length) (mem_of_getElem? hi))) h.size
def Rs.here (h:Rs q f Ri rl z):aH q.D.fs (aM q.last)=some (aN rl):=by
 rw[h.last]
 exact h.files Ri.length rl (by rw[getElem?_append_right (le_refl _),Nat.sub_self]; rfl)
def Rs.fresh (h:Rs q f Ri rl z) (hb:f+(Ri.length:Int)<=100000):aM (q.last+1) ∉ q.D.fs.map (·.1):=by
 have hf:=h.f0
 rw[h.keys,mem_map]
 rintro ⟨i,hi,e⟩
 rw[mem_range]at hi
 rw[h.last]at e
 have:=mJ ⟨by omega,by omega⟩ ⟨by omega,by omega⟩ e
 omega
def Rs.wok (h:Rs q f Ri rl z) {k:Nat} (hb:f+(Ri.length:Int)<=100000) (hn:Ri.length<800) (hz:z<=100000) (he:q.B.es.length+k<900):WOk q k:=by
 have hf:=h.f0
 refine⟨by rw[h.last]; exact⟨by omega,by omega⟩,by rw[h.last]; exact⟨by omega,by omega⟩,⟨_,h.here⟩,mY (h.fresh hb),fun x bs e=>le_trans (h.len e) hz,?_,h.up,by rw[h.parts]; exact he⟩
 have:=congrArg List.length h.keys
 rw[length_map,length_map,length_range]at this
 omega
def Rs.begin (h:Rs q f Ri rl z) (hb:f+(Ri.length:Int)<=100000) (hu:q.B.up<=999999):Rs (wI q) f (Ri++[rl]) [("from",q.B.up,[])] (z+7):=by
 have hfr:=h.fresh hb
 have hno:=mY hfr
 have hlen:(Ri++[rl]).length=Ri.length+1:=by rw[length_append]; rfl
 refine⟨rfl,h.f0,?_,?_,fun i rs e=>?_,fun rs hr=>?_,?_,h.parts,h.up,?_⟩
 ·show q.last+1=_
  rw[h.last,hlen]
  omega
 ·show (bZ (q.D.fs++[(aM (q.last+1),[])]) _ _).map (·.1)=_
  rw[fJ,map_append,h.keys,hlen,range_succ (n:=Ri.length+1),map_append,h.last]
  show _++[aM (f+(Ri.length:Int)+1)]=_++[aM (f+((Ri.length+1:Nat):Int))]
  rw[show f+(Ri.length:Int)+1=f+((Ri.length+1:Nat):Int) by omega]
 ·rw[AU q hno]
  by_cases hi:i<(Ri++[rl]).length
  ·rw[getElem?_append_left hi]at e
   have e2:=h.files i rs e
   rw[if_neg (fun y=>by rw[y,hno]at e2; cases e2)]
   exact e2
  ·rw[getElem?_append_right (by omega)]at e
   have hi2:i - (Ri++[rl]).length=0:=by
    have:=(List.getElem?_eq_some_iff.mp e).1
    rw[length_singleton]at this
    omega
   rw[hi2]at e
   cases e
   rw[if_pos (by rw[h.last]; congr 1; omega)]
   rw[dE]
   show some (bU "from" q.B.up [])=some (bU "from" q.B.up []++[])
   rw[append_nil]
 ·rcases mem_append.mp hr with y | y
  ·exact h.good rs y
  ·rw[mem_singleton.mp y]
   refine⟨fun r hr'=>?_,⟨_,[],rfl⟩,yM [] _ (show ("from" : Str) ≠ "part" by decide)⟩
   rw[mem_singleton.mp hr']
   exact pM h.up hu
 ·rw[oF _ _ _ _ _ h.fold]
  show (match c8 q.B "from" q.B.up [] _ with | none=>none | some B'=>some B')=_
  have:c8 q.B "from" q.B.up [] (f+((Ri++[rl]).length:Int))=some q.B:=by
   unfold c8
   rw[if_neg (by decide),if_neg (by decide),if_neg (fun y=>y h.parts),if_neg (by decide),if_pos rfl]
   unfold Dt
   rw[if_neg (by omega)]
  rw[this]
  rfl
 ·rw[map_append,sum_append]
  have:=h.size
  have e7:([[(("from",q.B.up,[]):Rw)]].map fun rs=>(aN rs).length).sum=7:=by
   show (aN [("from",q.B.up,[])]).length+0=7
   rw[dE,length_append,cB]
   rfl
  omega
def Rs.next (h:Rs q f Ri rl z) (hb:f+(Ri.length:Int)<=100000):∃ Ri' rl',Rs (eT q) f Ri' rl' (z+7)/\Ri'.length<=Ri.length+1:=by
 unfold eT
 split
 ·rename_i hf
  unfold kM at hf
  rw[and_eq_true,not_eq_true',decide_eq_false_iff_not]at hf
  exact⟨_,_,h.begin hb (by omega),by rw[length_append]; exact le_refl _⟩
 ·exact⟨Ri,rl,⟨h.left,h.f0,h.last,h.keys,h.files,h.good,h.fold,h.parts,h.up,le_trans h.size (Nat.le_add_right _ _)⟩,le_succ _⟩
def Rs.add (h:Rs q f Ri rl z) (hb:f+(Ri.length:Int)<=100000) {rs:Hy} {B':Bk} (ok:∀ r∈rs,aQ (bT r)=true) (hc:∃ (a:Hy) (r:Rw),rs=a++[r]/\r.1 ≠ "part") (hf:bN q.last q.B rs=some B') (hp:B'.parts=[]) (hu:0<=B'.up):Rs (Ej q (aN rs) B') f Ri (rl++rs) (z+(aN rs).length):=by
 have hl:=h.last
 have hf0:=h.f0
 have hlast:iH q=aN rl:=by unfold iH; rw[h.here]; rfl
 refine⟨rfl,h.f0,h.last,?_,fun i r e=>?_,fun r hr=>?_,?_,hp,hu,?_⟩
 ·show (bZ q.D.fs _ _).map (·.1)=_
  rw[fJ]
  exact h.keys
 ·show aH (bZ q.D.fs (aM q.last) (iH q++aN rs)) _=_
  rw[kJ,h.here,hlast]
  by_cases hi:i<Ri.length
  ·rw[getElem?_append_left hi]at e
   rw[if_neg (fun y=>by
    rw[hl]at y
    have:=mJ ⟨by omega,by omega⟩ ⟨by omega,by omega⟩ y
    omega)]
   exact h.files i r (by rw[getElem?_append_left hi]; exact e)
  ·rw[getElem?_append_right (by omega)]at e
   have hi2:i - Ri.length=0:=by
    have:=(List.getElem?_eq_some_iff.mp e).1
    rw[length_singleton]at this
    omega
   rw[hi2]at e
   cases e
   rw[if_pos (by rw[hl]; congr 1; omega),nU]
   rfl
 ·rcases mem_append.mp hr with y | y
  ·exact h.good r (List.mem_append_left _ y)
  ·rw[mem_singleton.mp y]
   have g:=h.good rl (mem_append_right _ (mem_singleton.mpr rfl))
   obtain⟨n,r0,e0⟩:=g.head
   obtain⟨a,rr,ea,hn⟩:=hc
   refine⟨fun r hr'=>(mem_append.mp hr').elim (g.ok r) (ok r),⟨n,r0++rs,by rw[e0]; rfl⟩,?_⟩
   rw[ea,<- append_assoc]
   exact yM _ _ hn
 ·obtain⟨B0,h1,h2⟩:=l4 _ _ _ _ _ h.fold
  rw[oF _ _ _ _ _ h1,uF _ _ _ _ _ h2,<- hl]
  exact hf
 ·rw[map_append,sum_append]
  have:=h.size
  rw[map_append,sum_append]at this
  have e1:([rl].map fun rs=>(aN rs).length).sum=(aN rl).length:=by simp
  have e2:([rl++rs].map fun rs=>(aN rs).length).sum=(aN rl).length+(aN rs).length:=by simp [nU]
  omega
def Rs.step (h:Rs q f Ri rl z) (hb:f+(Ri.length:Int)<100000) {rs:Hy} {B':Bk} (ok:∀ r∈rs,aQ (bT r)=true) (hc:∃ (a:Hy) (r:Rw),rs=a++[r]/\r.1 ≠ "part") (hf:bN (eT q).last (eT q).B rs=some B') (hp:B'.parts=[]) (hu:0<=B'.up):∃ Ri' rl',Rs (Ej (eT q) (aN rs) B') f Ri' rl' (z+7+(aN rs).length)/\Ri'.length<=Ri.length+1:=by
 obtain⟨Ri',rl',h1,h2⟩:=h.next (by omega)
 exact⟨Ri',_,h1.add (by omega) ok hc hf hp hu,h2⟩
def cF (f:Int) (n:Nat):Hm:=(List.range n).map fun(i:Nat)=>f+(i:Int)
def jF (f:Int) (n:Nat):cF f (n+1)=f::cF (f+1) n:=by
 unfold cF
 rw[range_succ_eq_map,map_cons,map_map]
 congr 1
 ·simp
 ·apply map_congr_left
  intro x _
  show f+((x+1:Nat):Int)=f+1+(x:Int)
  omega
def jD:∀ (f:Int) (n:Nat),(cF f n).Pairwise (· <= ·)
 | f,0=>List.Pairwise.nil
 | f,n+1=>by
  rw[jF]
  refine List.Pairwise.cons (fun x hx=>?_) (jD (f+1) n)
  unfold cF at hx
  rw[mem_map]at hx
  obtain⟨i,_,rfl⟩:=hx
  omega
def lV (f:Int) (n:Nat):(cF f (n+1)).getLastD 0=f+(n:Int):=by
 unfold cF
 rw[range_succ,map_append]
 show (List.map _ (List.range n)++[f+(n:Int)]).getLastD 0=_
 rw[List.getLastD_concat]
end
def xM:∀ (rl:Hy) (tl:Hm) (f:Nat),(∀ r∈rl,aQ (bT r)=true)->cA (rl.length+f) (aN rl++tl)=(cA f tl).map fun r=>(rl.map bT++r.1,r.2)
 | [],tl,f,_=>by
  rw[length_nil,Nat.zero_add]
  show cA f tl=_
  cases cA f tl <;> rfl
 | r::rl,tl,f,h=>by
  rw[dE,append_assoc,length_cons,show rl.length+1+f=(rl.length+f)+1 by omega,nX (h r mem_cons_self),xM rl tl f fun x hx=>h x (mem_cons_of_mem _ hx)]
  cases cA f tl <;> rfl
def xL:∀ (rs:Hy) (k f:Nat),(∀ r∈rs,aQ (bT r)=true)->k<f->∃ j l,cA f ((aN rs).take k)=some ((rs.take j).map bT,l)/\(k<(aN rs).length->j<rs.length)
 | rs,k,0,_,h=>absurd h (Nat.not_lt_zero _)
 | [],k,f+1,_,_=>⟨0,0,by
   show cA (f+1) (([]:Hm).take k)=_
   rw[List.take_nil]
   rfl,fun z=>absurd z (Nat.not_lt_zero _)⟩
 | r::rs,k,f+1,h,hf=>by
  have hl:=cB r.1 r.2.1 r.2.2
  rw[dE]
  by_cases z:k<7+r.2.2.length
  ·refine⟨0,((bU r.1 r.2.1 r.2.2).take k).length,?_,fun _=>Nat.succ_pos _⟩
   rw[List.take_append_of_le_length (by omega),hG,CV z]
   rfl
  ·obtain⟨j,l,h1,h2⟩:=xL rs (k - (7+r.2.2.length)) f (fun x hx=>h x (mem_cons_of_mem _ hx)) (by omega)
   refine⟨j+1,l,?_,fun y=>?_⟩
   ·rw[List.take_append,take_of_length_le (by omega),hl,nX (h r mem_cons_self),h1]
    rfl
   ·rw[length_append,hl]at y
    have:=h2 (by omega)
    rw[length_cons]
    omega
def Ca {rl ps:Hy} (h:a4 rl=rl) (hp:∀ r∈ps,r.1=("part" : Str)):a4 (rl++ps)=rl:=by
 unfold a4 at h ⊢
 rw[List.reverse_append]
 have:∀ xs:Hy,(∀ r∈xs,r.1=("part" : Str))->(xs++rl.reverse).dropWhile (fun r=>decide (r.1=("part" : Str)))=rl.reverse.dropWhile fun r=>decide (r.1=("part" : Str)):=by
  intro xs
  induction xs with
  | nil=>exact fun _=>rfl
  | cons x xs ih=>
   intro hx
   rw[List.cons_append,List.dropWhile_cons,if_pos (decide_eq_true (hx x mem_cons_self))]
   exact ih fun r hr=>hx r (mem_cons_of_mem _ hr)
 rw[this _ fun r hr=>hp r (mem_reverse.mp hr)]
 exact h
def y8 (rl:Hy) (tl:Hm):Prop:=(∀ b∈tl,0<=b/\b<=255)/\∃ rs l,cA ((aN rl++tl).length+1) (aN rl++tl)=some (rs.map bT,l)/\a4 rs=rl
def wS {rl:Hy} (g:GoodR rl):y8 rl []:=⟨(fun b z=>by cases z),rl,0,by rw[append_nil]; exact g.read,g.cut⟩
def BX {rl:Hy} (g:GoodR rl) {up:Int} {bss:Hk} (ok:∀ r∈bL up bss,aQ (bT r)=true) {k:Nat} (hk:k<(aN (bL up bss)).length):y8 rl ((aN (bL up bss)).take k):=by
 refine⟨fun b hb=>j9 ok b (List.mem_of_mem_take hb),?_⟩
 have hm:=lW rl
 have ht:((aN (bL up bss)).take k).length=k:=by rw[length_take]; omega
 obtain⟨j,l,h1,h2⟩:=xL (bL up bss) k ((aN rl).length+k+1 - rl.length) ok (by omega)
 have hj:=h2 hk
 have dl:(bL up bss).length=bss.length+1:=by
  unfold bL eF
  rw[length_append,length_map,length_range]
  rfl
 refine⟨rl++(bL up bss).take j,l,?_,Ca g.cut fun r hr=>?_⟩
 ·have:=xM rl ((aN (bL up bss)).take k) ((aN rl).length+k+1 - rl.length) g.ok
  rw[h1,show rl.length+((aN rl).length+k+1 - rl.length)=(aN rl).length+k+1 by omega]at this
  rw[length_append,ht,this,map_append]
  rfl
 ·unfold bL at hr
  rw[List.take_append_of_le_length (by unfold eF; rw[length_map,length_range]; omega)]at hr
  have hr:=List.mem_of_mem_take hr
  unfold eF at hr
  obtain⟨i,_,rfl⟩:=mem_map.mp hr
  rfl
def y8.seg {rl:Hy} {tl:Hm} (h:y8 rl tl) (g:GoodR rl):o8 (aN rl++tl) true=some rl/\dW (aN rl++tl)=rl/\cA ((aN rl++tl).length+1) (aN rl++tl)≠none:=by
 obtain⟨_,rs,l,h1,h2⟩:=h
 obtain⟨n,r,e⟩:=g.head
 refine⟨?_,?_,by rw[h1]; exact fun z=>by cases z⟩
 ·unfold o8
  rw[h1]
  try dsimp only
  rw[kX]
  unfold gN
  rw[h1]
  try dsimp only
  rw[h2,if_neg (fun z=>by cases z.1),if_neg (fun z=>by cases z.1),if_neg (fun z=>by rw[e]at z; exact z.2 rfl)]
 ·unfold dW
  rw[h1]
  try dsimp only
  rw[kX,h2]
def jE (f:Int) (n:Nat):cF f (n+1)=cF f n++[f+(n:Int)]:=by
 unfold cF
 rw[range_succ,map_append]
 rfl
def oK {D:Dk} {last:Int} (ss:Hm):∀ (R:List (Hy)) (s:Int) (B:Bk),(∀ (i:Nat) rs,R[i]? = some rs->aH D.fs (aM (s+(i:Int)))=some (aN rs))->(∀ rs∈R,GoodR rs)->jZ D last (cF s R.length++ss) B=match jX s B R with | none=>none | some B'=>jZ D last ss B'
 | [],s,B,_,_=>rfl
 | rs::R,s,B,hf,hg=>by
  rw[length_cons,jF,List.cons_append,jT]
  have e:=hf 0 rs rfl
  rw[show s+((0:Nat):Int)=s by simp]at e
  rw[e]
  try dsimp only
  rw[(hg rs mem_cons_self).seg]
  try dsimp only
  show _=(match (match bN s B rs with | none=>none | some B'=>jX (s+1) B' R) with | none=>none | some B'=>jZ D last ss B')
  cases bN s B rs with
  | none=>rfl
  | some B'=>
   exact oK ss R (s+1) B' (fun i r e=>by
    have:=hf (i+1) r e
    rw[show s+((i+1:Nat):Int)=s+1+(i:Int) by omega]at this
    exact this) (fun r hr=>hg r (mem_cons_of_mem _ hr))
def jH {bs:Hm} (h:bs.length<7):cA (bs.length+1) bs=some ([],bs.length):=by
 rw[hG]
 have:j2 bs=none:=by
  unfold j2
  rw[if_pos h]
 rw[this]
def AJ {bs:Hm} (h:bs.length<7):dW bs=[]:=by
 unfold dW
 rw[jH h]
 rfl
def BE:Hm:=bU "from" 0 []
def lZ {rs:Hy} (g:GoodR rs):∀ b∈aN rs,0<=b/\b<=255:=j9 g.ok
section
variable {q:Qs} {f:Int} {Ri:List (Hy)} {rl:Hy} {z:Nat}
def tD {D:Dk} (R:Hk) (s:Int) (h:∀ (i:Nat) bs,R[i]? = some bs->aH D.fs (aM (s+(i:Int)))=some bs):(cF s R.length).map (qF D)=R.map List.length:=by
 unfold cF
 rw[map_map]
 apply ext_getElem?
 intro i
 rw[getElem?_map,getElem?_map]
 by_cases hi:i<R.length
 ·rw[getElem?_range hi,getElem?_eq_getElem hi]
  show some (((aH D.fs (aM (s+(i:Int)))).getD []).length)=_
  rw[h i _ (getElem?_eq_getElem hi)]
  rfl
 ·rw[getElem?_eq_none (by rw[length_range]; omega),getElem?_eq_none (by omega)]
  rfl
def Rs.nd (h:Rs q f Ri rl z) (hb:f+(Ri.length:Int)<100000):(q.D.fs.map (·.1)).Nodup:=by
 have hf0:=h.f0
 rw[h.keys,List.Nodup,List.pairwise_map]
 refine List.pairwise_lt_range.imp_of_mem fun {i j} hi hj hij e=>?_
 have hi:=mem_range.mp hi
 have hj:=mem_range.mp hj
 have:=mJ (n:=f+(i:Int)) (m:=f+(j:Int)) ⟨by omega,by omega⟩ ⟨by omega,by omega⟩ e
 omega
def Rs.tail (h:Rs q f Ri rl z) (hb:f+(Ri.length:Int)<100000) (hn:Ri.length<60) {tl:Hm} (hz:z+tl.length<=5600) {D:Dk} (hl:D.left=none) (hfs:D.fs=bZ q.D.fs (aM q.last) (aN rl++tl)) (ht:y8 rl tl) (m hh t:Int) :
  DiskGood D (cF f (Ri.length+1)) (cF f (Ri.length+1)) q.B/\Rs (iI D (cF f (Ri.length+1)) q.B m hh t) f Ri rl z:=by
 have hf0:=h.f0
 have gl:=h.good rl (mem_append_right _ (mem_singleton.mpr rfl))
 obtain⟨t1,t2,t3⟩:=ht.seg gl
 have lastE:=lV f Ri.length
 have hlen:(cF f (Ri.length+1)).length=Ri.length+1:=by unfold cF; rw[length_map,length_range]
 have hk:D.fs.map (·.1)=(cF f (Ri.length+1)).map aM:=by
  rw[hfs,fJ,h.keys]
  unfold cF
  rw[map_map]
  rfl
 have here:aH D.fs (aM (f+(Ri.length:Int)))=some (aN rl++tl):=by
  rw[hfs,<- h.last]
  exact iY h.here
 have num:∀ i:Nat,i<=Ri.length->cX (f+(i:Int)):=fun i hi=>⟨by omega,by omega⟩
 have early:∀ (i:Nat) rs,Ri[i]? = some rs->aH D.fs (aM (f+(i:Int)))=some (aN rs):=fun i rs e=>by
  have hi:=(List.getElem?_eq_some_iff.mp e).1
  rw[hfs,kJ,if_neg (fun y=>by
   rw[h.last]at y
   have:=mJ (num i (by omega)) (num _ (le_refl _)) y
   omega)]
  exact h.files i rs (by rw[getElem?_append_left hi]; exact e)
 have sz:=h.size
 rw[map_append,sum_append]at sz
 have e1:([rl].map fun rs=>(aN rs).length).sum=(aN rl).length:=by simp
 rw[e1]at sz
 refine⟨⟨hl,⟨hk,fun n hn'=>?_,by rw[hlen]; omega,fun x bs e=>?_,?_⟩,List.Perm.refl _,jD _ _,.inr ?_,fun bs e=>?_,?_⟩,?_⟩
 ·unfold cF at hn'
  obtain⟨i,hi,rfl⟩:=mem_map.mp hn'
  exact num i (by have:=mem_range.mp hi; omega)
 ·rw[hfs,kJ]at e
  split at e
  ·rw[h.here]at e
   cases e
   refine⟨fun b hb'=>(mem_append.mp hb').elim (lZ gl b) (ht.1 b),?_⟩
   rw[length_append]
   omega
  ·obtain⟨i,rs,_,_,hi,rfl⟩:=h.look e
   exact⟨lZ (h.good rs (mem_of_getElem? hi)),le_trans (h.len e) (by omega)⟩
 ·have:=tD (D:=D) (Ri.map aN++[aN rl++tl]) f fun i bs e=>by
   by_cases hi:i<Ri.length
   ·rw[getElem?_append_left (by rw[length_map]; exact hi),getElem?_map,getElem?_eq_getElem hi]at e
    cases e
    exact early i _ (getElem?_eq_getElem hi)
   ·have hi2:i=Ri.length:=by
     have:=(List.getElem?_eq_some_iff.mp e).1
     rw[length_append,length_map,length_singleton]at this
     omega
    subst hi2
    rw[getElem?_append_right (by rw[length_map]; exact le_refl _),length_map,Nat.sub_self]at e
    cases e
    exact here
  rw[length_append,length_map,length_singleton]at this
  rw[this,map_append,sum_append,map_map]
  have e2:([aN rl++tl].map List.length).sum=(aN rl).length+tl.length:=by simp
  have e3:(Ri.map (List.length ∘ aN)).sum=(Ri.map fun rs=>(aN rs).length).sum:=rfl
  rw[e2,e3]
  omega
 ·rw[lastE,hlen,jF]
  show f+(Ri.length:Int) - f+1=_
  omega
 ·rw[lastE,here]at e
  cases e
  exact t3
 ·rw[lastE,jE,oK _ _ _ _ early fun rs hr=>h.good rs (List.mem_append_left _ hr)]
  obtain⟨B0,f1,f2⟩:=l4 _ _ _ _ _ h.fold
  rw[f1]
  try dsimp only
  rw[jT,here]
  try dsimp only
  rw[decide_eq_true rfl,t1]
  try dsimp only
  rw[f2]
  rfl
 ·obtain⟨n,r,er⟩:=gl.head
  have ne:cF f (Ri.length+1)≠[]:=fun y=>by rw[y]at hlen; cases hlen
  have rn:rl≠[]:=fun y=>by rw[er]at y; cases y
  obtain⟨D2,eg,g1,g2⟩:∃ D2:Dk,bH D (cF f (Ri.length+1))=(D2,cF f (Ri.length+1))/\D2.left=none/\D2.fs=q.D.fs:=by
   unfold bH
   rw[if_neg ne]
   unfold m3
   rw[lastE]
   try dsimp only
   rw[here,getD_some,t2,if_neg (fun y=>rn y.1),zN,if_neg rn]
   have back:bZ D.fs (aM (f+(Ri.length:Int))) (aN rl)=q.D.fs:=by
    rw[hfs,<- h.last,mI]
    exact fI (h.nd hb) h.here
   split
   ·refine⟨_,rfl,rfl,?_⟩
    show bZ D.fs _ ((aN rl++tl).take (aN rl).length)=_
    rw[List.take_left]
    exact back
   ·rename_i y
    refine⟨_,rfl,hl,?_⟩
    have:tl=[]:=by
     rw[length_append]at y
     exact length_eq_zero_iff.mp (by omega)
    rw[hfs,this,append_nil]
    exact fI (h.nd hb) h.here
  unfold iI
  rw[eg]
  try dsimp only
  refine⟨g1,h.f0,lastE,by rw[g2]; exact h.keys,fun i rs e=>by rw[g2]; exact h.files i rs e,h.good,h.fold,h.parts,h.up,h.size⟩
def Rs.half (h:Rs q f Ri rl z) (hb:f+(Ri.length:Int)+1<100000) (hn:Ri.length<60) {bs:Hm} (h7:bs.length<7) (hz:z+7<=5600) (hby:∀ b∈bs,0<=b/\b<=255) {D:Dk} (hl:D.left=none) (hfs:D.fs=q.D.fs++[(aM (q.last+1),bs)]) (m hh t:Int) :
  DiskGood D (cF f (Ri.length+2)) (cF f (Ri.length+2)) q.B/\Rs (iI D (cF f (Ri.length+2)) q.B m hh t) f Ri rl z:=by
 have hf0:=h.f0
 have lastE:(cF f (Ri.length+2)).getLastD 0=f+(Ri.length:Int)+1:=by
  rw[lV]
  omega
 have hlen:(cF f (Ri.length+2)).length=Ri.length+2:=by unfold cF; rw[length_map,length_range]
 have hno:=mY (h.fresh (by omega))
 have el:q.last+1=f+(Ri.length:Int)+1:=by rw[h.last]
 have lk:∀ x,aH D.fs x=if x=aM (q.last+1) then some bs else aH q.D.fs x:=fun x=>by rw[hfs,fD _ _ _ _ hno]
 have here:aH D.fs (aM (f+(Ri.length:Int)+1))=some bs:=by rw[lk,if_pos (by rw[el])]
 have files:∀ (i:Nat) rs,(Ri++[rl])[i]? = some rs->aH D.fs (aM (f+(i:Int)))=some (aN rs):=fun i rs e=>by
  have e2:=h.files i rs e
  rw[lk,if_neg (fun y=>by rw[y,hno]at e2; cases e2)]
  exact e2
 have hl2:(Ri++[rl]).length=Ri.length+1:=by rw[length_append]; rfl
 refine⟨⟨hl,⟨?_,fun n hn'=>?_,by rw[hlen]; omega,fun x b e=>?_,?_⟩,List.Perm.refl _,jD _ _,.inr ?_,fun b e=>?_,?_⟩,?_⟩
 ·rw[hfs,map_append,h.keys,jE,map_append]
  congr 1
  ·unfold cF
   rw[map_map]
   rfl
  ·show [aM (q.last+1)]=[aM (f+((Ri.length+1:Nat):Int))]
   rw[el,show f+((Ri.length+1:Nat):Int)=f+(Ri.length:Int)+1 by omega]
 ·unfold cF at hn'
  obtain⟨i,hi,rfl⟩:=mem_map.mp hn'
  have:=mem_range.mp hi
  exact⟨by omega,by omega⟩
 ·rw[lk]at e
  split at e
  ·cases e
   exact⟨hby,by omega⟩
  ·obtain⟨i,rs,_,_,hi,rfl⟩:=h.look e
   exact⟨lZ (h.good rs (mem_of_getElem? hi)),le_trans (h.len e) (by omega)⟩
 ·have:=tD (D:=D) ((Ri++[rl]).map aN++[bs]) f fun i b e=>by
   by_cases hi:i<(Ri++[rl]).length
   ·rw[getElem?_append_left (by rw[length_map]; exact hi),getElem?_map,getElem?_eq_getElem hi]at e
    cases e
    exact files i _ (getElem?_eq_getElem hi)
   ·have hi2:i=Ri.length+1:=by
     have:=(List.getElem?_eq_some_iff.mp e).1
     rw[length_append,length_map,length_singleton]at this
     omega
    subst hi2
    rw[getElem?_append_right (by rw[length_map]; omega),length_map,hl2,Nat.sub_self]at e
    cases e
    rw[show f+((Ri.length+1:Nat):Int)=f+(Ri.length:Int)+1 by omega]
    exact here
  rw[length_append,length_map,length_singleton,hl2]at this
  rw[this,map_append,sum_append,map_map]
  have e2:([bs].map List.length).sum=bs.length:=by simp
  have e3:((Ri++[rl]).map (List.length ∘ aN)).sum=((Ri++[rl]).map fun rs=>(aN rs).length).sum:=rfl
  have:=h.size
  rw[e2,e3]
  omega
 ·rw[lastE,hlen,jF]
  show f+(Ri.length:Int)+1 - f+1=_
  omega
 ·rw[lastE,here]at e
  cases e
  rw[jH h7]
  exact fun y=>by cases y
 ·have:=oK (D:=D) (last:=(cF f (Ri.length+2)).getLastD 0) [f+((Ri.length+1:Nat):Int)] (Ri++[rl]) f ⟨[],0,[]⟩ files h.good
  rw[hl2,<- jE,h.fold]at this
  rw[this]
  try dsimp only
  rw[jT,show f+((Ri.length+1:Nat):Int)=f+(Ri.length:Int)+1 by omega,here,lastE]
  try dsimp only
  rw[decide_eq_true rfl]
  have:o8 bs true=some []:=by
   unfold o8
   rw[jH h7]
   try dsimp only
   unfold gN
   rw[jH h7]
   rfl
  rw[this]
  rfl
 ·have ne:cF f (Ri.length+2)≠[]:=fun y=>by rw[y]at hlen; cases hlen
  have eg:bH D (cF f (Ri.length+2))=(BG D (aM (q.last+1)),cF f (Ri.length+1)):=by
   unfold bH
   rw[if_neg ne]
   unfold m3
   rw[lastE,here,getD_some,AJ h7,if_pos ⟨rfl,by rw[hlen]; omega⟩,<- el,jE,List.dropLast_concat]
  have ed:(BG D (aM (q.last+1))).fs=q.D.fs:=by
   show jY D.fs _=_
   unfold jY
   rw[hfs,List.filter_append]
   have e1:q.D.fs.filter (fun p=>decide (p.1≠aM (q.last+1)))=q.D.fs:=List.filter_eq_self.mpr fun p hp=>decide_eq_true fun y=>h.fresh (by omega) (by rw[<- y]; exact mem_map_of_mem hp)
   rw[e1]
   simp
  unfold iI
  rw[eg]
  try dsimp only
  exact⟨rfl,h.f0,lV _ _,by rw[ed]; exact h.keys,fun i rs e=>by rw[ed]; exact h.files i rs e,h.good,h.fold,h.parts,h.up,h.size⟩
def jW (D:Dk):Dk:=⟨D.fs,D.done,none⟩
def n6 (q:Qs):Qs:={ q with D:=jW q.D }
def Fg {k:Nat} (hw:WOk q k) (h:Rs (n6 q) f Ri rl z) (hb:f+(Ri.length:Int)+1<100000) (hz:(bC q).2=true):∃ r Ri' rl',Rs r f Ri' rl' (z+7)/\Ri'.length<=Ri.length+1/\r.D.fs=(bC q).1.D.fs/\r.last=(bC q).1.last/\r.B=q.B:=by
 have nd:(q.D.fs.map (·.1)).Nodup:=h.nd (by omega)
 have hmono:Rs (n6 q) f Ri rl (z+7):=⟨h.left,h.f0,h.last,h.keys,h.files,h.good,h.fold,h.parts,h.up,le_trans h.size (Nat.le_add_right _ _)⟩
 unfold bC at hz ⊢
 by_cases hf:kM q (iH q)=true
 ·rw[if_pos hf]at hz ⊢
  have hu:q.B.up<=999999:=by
   unfold kM at hf
   rw[and_eq_true,not_eq_true',decide_eq_false_iff_not]at hf
   omega
  rcases rZ nd hw.new with e | ⟨j,d,l,e,hj⟩
  ·rw[e]at hz
   cases hz
  ·rw[e]at hz ⊢
   have ej:j=7:=of_decide_eq_true hz
   subst ej
   try dsimp only
   rw[if_pos rfl,show (bU "from" q.B.up []).take 7=bU "from" q.B.up [] from take_of_length_le (by rw[cB]; exact le_refl _)]
   refine⟨wI (n6 q),Ri++[rl],_,h.begin (by omega) hu,by rw[length_append]; exact le_refl _,?_,rfl,rfl⟩
   exact Ag hw.new
 ·rw[if_neg hf]
  exact⟨n6 q,Ri,rl,hmono,le_succ _,rfl,rfl,rfl⟩
def BS {k:Nat} (hw:WOk q k) (h:Rs (n6 q) f Ri rl z) (hb:f+(Ri.length:Int)+2<100000) (hn:Ri.length<58) {bss:Hk} (hz:z+14+(aN (bL q.B.up bss)).length<=5600) (ok:∀ r∈bL q.B.up bss,aQ (bT r)=true) {B':Bk} (hf:(bC q).2=true->bN (bC q).1.last q.B (bL q.B.up bss)=some B') (hp:B'.parts=[]) (hu:0<=B'.up) (m hh t:Int) :
  (cN q (bL q.B.up bss) B').1.B=(if (cN q (bL q.B.up bss) B').2=true then B' else q.B)/\∃ ms Ri' rl',DiskGood (jW (cN q (bL q.B.up bss) B').1.D) ms ms (cN q (bL q.B.up bss) B').1.B/\Rs (iI (jW (cN q (bL q.B.up bss) B').1.D) ms (cN q (bL q.B.up bss) B').1.B m hh t) f Ri' rl' (z+7+(aN (bL q.B.up bss)).length)/\Ri'.length<=Ri.length+1:=by
 have nd:(q.D.fs.map (·.1)).Nodup:=h.nd (by omega)
 have mono:∀ {r:Qs} {R:List (Hy)} {l:Hy} {a b:Nat},Rs r f R l a->a<=b->Rs r f R l b:=fun h hab=>⟨h.left,h.f0,h.last,h.keys,h.files,h.good,h.fold,h.parts,h.up,le_trans h.size hab⟩
 have gl:=h.good rl (mem_append_right _ (mem_singleton.mpr rfl))
 cases en:(bC q).2 with
 | false=>
  have ew:cN q (bL q.B.up bss) B'=bC q:=by
   unfold cN
   rw[if_neg (by rw[en]; decide)]
  rw[ew,en]
  unfold bC at en ⊢
  by_cases hfl:kM q (iH q)=true
  ·rw[if_pos hfl]at en ⊢
   rcases rZ nd hw.new with e | ⟨j,d,l,e,hj⟩
   ·rw[e]
    obtain⟨a1,a2⟩:=h.tail (by omega) (by omega) (tl:=[]) (by rw[length_nil]; omega) (D:=jW q.D) rfl (by rw[append_nil]; exact(fI nd h.here).symm) (wS gl) m hh t
    exact⟨rfl,_,Ri,rl,a1,mono a2 (by omega),le_succ _⟩
   ·rw[e]at en ⊢
    have ej:j≠7:=of_decide_eq_false en
    have hu':q.B.up<=999999:=by
     unfold kM at hfl
     rw[and_eq_true,not_eq_true',decide_eq_false_iff_not]at hfl
     omega
    have hby:∀ b∈(bU "from" q.B.up []).take j,0<=b/\b<=255:=fun b hb'=>gO (pM hw.up hu') b (List.mem_of_mem_take hb')
    obtain⟨a1,a2⟩:=h.half (by omega) (by omega) (bs:=(bU "from" q.B.up []).take j) (by rw[length_take]; omega) (by omega) hby (D:=jW ⟨q.D.fs++[(aM (q.last+1),(bU "from" q.B.up []).take j)],d,l⟩) rfl rfl m hh t
    exact⟨rfl,_,Ri,rl,a1,mono a2 (by omega),le_succ _⟩
  ·rw[if_neg hfl]at en
   cases en
 | true=>
  obtain⟨r,Ri',rl',hr,hl,e1,e2,e3⟩:=Fg hw h (by omega) en
  obtain⟨nok,nB,nd2⟩:=vV hw nd en
  have gl':=hr.good rl' (mem_append_right _ (mem_singleton.mpr rfl))
  have hF:=hf en
  have here:aH (bC q).1.D.fs (aM (bC q).1.last)=some (aN rl'):=by
   rw[<- e1,<- e2]
   exact hr.here
  obtain⟨j,d,l,a1,a2,_⟩:=wL (n:=aM (bC q).1.last) (ns:=aN (bL q.B.up bss)) nd2 here
  have ew:cN q (bL q.B.up bss) B'=({ (bC q).1 with D:=⟨bZ (bC q).1.D.fs (aM (bC q).1.last) (aN rl'++(aN (bL q.B.up bss)).take j),d,l⟩,B:=if j=(aN (bL q.B.up bss)).length then B' else q.B },decide (j=(aN (bL q.B.up bss)).length)):=by
   unfold cN
   rw[if_pos en,a1]
   try dsimp only
   congr 2
   by_cases y:j=(aN (bL q.B.up bss)).length
   ·simp [y]
   ·simp [y]
  rw[ew]
  try dsimp only
  by_cases y:j=(aN (bL q.B.up bss)).length
  ·rw[if_pos y,decide_eq_true y,if_pos rfl]
   refine⟨rfl,?_⟩
   rw[y,take_length]
   have hadd:=hr.add (by omega) ok ⟨eF q.B.up bss,_,rfl,show ("deal" : Str) ≠ "part" by decide⟩ (by rw[e3,e2]; exact hF) hp hu
   have gl2:=hadd.good _ (mem_append_right _ (mem_singleton.mpr rfl))
   obtain⟨b1,b2⟩:=hadd.tail (by omega) (by omega) (tl:=[]) (by rw[length_nil]; omega) (D:=jW ⟨bZ (bC q).1.D.fs (aM (bC q).1.last) (aN rl'++aN (bL q.B.up bss)),d,l⟩) rfl (by
    show bZ (bC q).1.D.fs _ _=bZ (bZ r.D.fs (aM r.last) (iH r++_)) (aM r.last) _
    rw[mI,e1,e2,nU,append_nil]) (wS gl2) m hh t
   exact⟨_,Ri',_,b1,b2,hl⟩
  ·rw[if_neg y,decide_eq_false y,if_neg (by decide)]
   refine⟨rfl,?_⟩
   have hlt:(( aN (bL q.B.up bss)).take j).length<=(aN (bL q.B.up bss)).length:=by rw[length_take]; omega
   obtain⟨b1,b2⟩:=hr.tail (by omega) (by omega) (tl:=(aN (bL q.B.up bss)).take j) (by omega) (D:=jW ⟨bZ (bC q).1.D.fs (aM (bC q).1.last) (aN rl'++(aN (bL q.B.up bss)).take j),d,l⟩) rfl (by
    show bZ (bC q).1.D.fs _ _=bZ r.D.fs (aM r.last) _
    rw[e1,e2]) (BX gl' ok (by omega)) m hh t
   rw[e3]at b1 b2
   exact⟨_,Ri',rl',b1,mono b2 (by omega),hl⟩
end
abbrev mQ:Stmt:=top 65
abbrev tJ:Stmt:=top 66
abbrev s_do:Stmt:=top 67
abbrev wZ:Stmt:=bJ (top 55) 3
abbrev xC:Stmt:=bJ (top 55) 4
abbrev xD:Stmt:=bJ (top 55) 5
abbrev wY:Stmt:=bJ (top 55) 6
abbrev qM:Stmt:=bJ (top 55) 7
abbrev tO:Stmt:=bJ (top 55) 15
abbrev tP:Stmt:=bJ (top 55) 16
def spF:Sp:=fun _ _ _ _=>False
def vE:List (Str × Int):=[("put",2),("all",2),("take",2),("done",3),("back",3),("wait",2),("new",2),("sweep",1),("carry",1)]
def Gk:Hu:=vE.map fun p=>(Sum.inr p.1,V.int p.2)
inductive iQ (vs:Hw) (H:Hp) (Q:VK) (x_3:XK):Prop
 | mk:∀ (t:Addr) (x:V),vs=[.ref t]->H t=some (.tup [.str "all",x])->Q .non H->iQ vs H Q x_3
def Gm {x k:Str} {i:Nat} {a b:TS} {D:Ends} {σ : St} {H:Hp} (e:σ[i]? = some (some (.str x))) (h:decide (x=k)=false) (g:b D σ H):BY (Es (wT (tOp rEq (sB i) (tC (V.str k)))) a wU) b D σ H:=by
 refine⟨_,e,rfl,_,rfl,?_⟩
 rw[f9 (of_decide_eq_false h)]
 exact a7 g
def E7 {x k:Str} {i:Nat} {a b:TS} {D:Ends} {σ : St} {H:Hp} (e:σ[i]? = some (some (.str x))) (h:x=k) (g:a { D with nx:=b D } σ H):BY (Es (wT (tOp rEq (sB i) (tC (V.str k)))) a wU) b D σ H:=by
 refine⟨_,e,rfl,_,rfl,?_⟩
 rw[gA h]
 exact aV g
inductive u6 (A:Ad) (vs:Hw) (H:Hp) (Q:VK) (E:XK):Prop
 | mk:∀ (L:Pl) (q:Qs) (t:Addr) (x:V),vs=[.ref L.qu,.ref t]->QueueW A H L q false->H t=some (.tup [.str "all",x])->fW A [.ref L.qu,x] H Q (fun c _ H'=>E c none H')->u6 A vs H Q E
inductive Ae (A:Ad) (vs:Hw) (H:Hp) (Q:VK) (x_3:XK):Prop
 | mk:∀ (L:Pl) (q:Qs) (t:Addr) (x:V),vs=[.ref L.qu,.ref t]->QueueW A H L q false->H t=some (.tup [.str "all",x])->(∀ E':XK,(∀ H',Q (.str "stopped") H'->E' (.ref A.stopped) none H')->fW A [.ref L.qu,x] H Q E')->Ae A vs H Q x_3
structure TxtS (P:Program) (w:World) (K:Hh) (mg:Hj) (A:Ad) (ab5 ac8 ac0:Addr):Prop where
 ad0:mg "len" = none
 ab8:mg "isinstance" = none
 ag9:mg "tuple" = none
 be2:mg "str" = none
 ak2:cR K ac8=true
 be4:mg "BadDeed" = some (.ref ac8)
 aq2:mg "Stopped" = some (.ref A.stopped)
 e_s:PySem.W.exmOne K (.ref A.stopped) (.ref A.stopped)=some true
 bc6:mg "QueueError" = some (.ref ac0)
 g_S:mg "SIZES_OF_DEEDS" = some (.ref ab5)
 G_S:GD P w K ab5 Gk
section
variable {P:Program} {w:World} {K:Hh} {mg:Hj} {base:Heap} {A:Ad} {ab5 ac8 ac0:Addr}
def okF {k:Nat} {f:Addr} {fd:Hs} {ps:Ho}:(FnOk P w K mg base (CXE P w)) k f fd ps spF:=⟨fun _ _ _ _ h=>h.elim,fun _ _ _ _ _ _ _ _ _ _ _ _ _ h=>h.elim⟩
def z6 {f:Addr} {fd:Hs} (F:Fun K "take" "Queue.take" wZ f fd):(FnOk P w K mg base (CXE P w)) 1 f fd ["self","hand"] spF:=by
 exact okF
def z7 {f:Addr} {fd:Hs} (F:Fun K "done" "Queue.done" xC f fd):(FnOk P w K mg base (CXE P w)) 1 f fd ["self","hand","number"] spF:=by
 exact okF
def z9 {f:Addr} {fd:Hs} (F:Fun K "give_back" "Queue.give_back" xD f fd):(FnOk P w K mg base (CXE P w)) 1 f fd ["self","hand","number"] spF:=by
 exact okF
def zZ {f:Addr} {fd:Hs} (F:Fun K "wait" "Queue.wait" wY f fd):(FnOk P w K mg base (CXE P w)) 1 f fd ["self","many"] spF:=by
 exact okF
def vO {f:Addr} {fd:Hs} (F:Fun K "revive" "Queue.revive" qM f fd):(FnOk P w K mg base (CXE P w)) 1 f fd ["self","number"] spF:=by
 exact okF
def xX {f:Addr} {fd:Hs} (F:Fun K "sweep" "Queue.sweep" tO f fd):(FnOk P w K mg base (CXE P w)) 1 f fd ["self"] spF:=by
 exact okF
def x3 {f:Addr} {fd:Hs} (F:Fun K "carry" "Queue.carry" tP f fd):(FnOk P w K mg base (CXE P w)) 1 f fd ["self"] spF:=by
 exact okF
def sK {f:Addr} {fd:Hs} (F:Fun K "check_deed" "check_deed" mQ f fd) (T:TxtS P w K mg A ab5 ac8 ac0):(FnOk P w K mg base (CXE P w)) 1 f fd ["deed"] iQ:=by
 have G_SIZES_OF_DEEDS:=T.G_S
 have g_SIZES_OF_DEEDS:=T.g_S
 refine F.okY ["deed","word"] fun cdv A' outer s H vs Q E hr nD0 h=>?_
 obtain⟨t,x,rfl,gt,q⟩:=h
 refine⟨_,aA (a6 (kB (cK (cU (bE (gW K) ⋯ T.ab8 dJ (aJ (pv 0) (aJ (pH (v := .ty "tuple") ⋯ T.ag9 nI ⋯) aF))))) (hJ (bA i6 (bE (cV K) ⋯ T.ad0 fO (aJ (pv 0) aF)) aG (bF _)))).pt
   (aB (dF eO ⋯ T.ak2 ⋯ T.be4 (aR cY aF)))
   aO)
  (aA (aT (i:=1) nD0 ⋯ ⋯ (dO (fE K) (pv 0) aG (fun _ _ => rfl)))
  (aA (a6 (kB (cK (cU (bE (gW K) ⋯ T.ab8 dJ (aJ (pv 1) (aJ (pH (v := .ty "str") ⋯ T.be2 HY ⋯) aF))))) (hJ (vG (Bo G_SIZES_OF_DEEDS (pv 1) (cI (v:=.ref ab5) ⋯ g_SIZES_OF_DEEDS ⋯))))).pt
   (aB (dF eO ⋯ T.ak2 ⋯ T.be4 (aR cY aF)))
   aO)
  (aB (a6 (bA rA (bE (cV K) ⋯ T.ad0 fO (aJ (pv 0) aF)) (FP G_SIZES_OF_DEEDS (cI (v:=.ref ab5) ⋯ g_SIZES_OF_DEEDS ⋯) (pv 1) (fun _ _=>rfl)) (bF _))
   (aB (dF eO ⋯ T.ak2 ⋯ T.be4 (aR cY aF)))
   aO)))),?_⟩
 refine⟨_,rfl,_,"tuple",_,true,rfl,.tup gt,rfl,_,rfl,a7 ?_⟩
 refine⟨_,rfl,t,_,rfl,.inr (SqT.of gt),rfl,_,rfl,?_⟩
 refine a7 (bG rfl ?_)
 refine⟨_,rfl,t,_,_,.str "all",rfl,rfl,SqT.of gt,cJ (by decide) rfl,?_⟩
 refine⟨_,rfl,_,"str",_,true,rfl,.str _,rfl,_,rfl,a7 ?_⟩
 refine⟨_,rfl,Sum.inr "all",rfl,_,rfl,?_⟩
 refine a7 (bG rfl ?_)
 refine⟨_,rfl,t,_,rfl,.inr (SqT.of gt),_,rfl,Sum.inr "all",.int 2,rfl,rfl,rfl,_,rfl,?_⟩
 exact a7 q
def zU {f:Addr} {fd:Hs} (F:Fun K "told_by" "told_by" tJ f fd) (T:TxtQ K mg A) (aj5:(Method P w K mg base) A.queue "put" 8 ["self","body"] (j6 A)) (ao1:(Method P w K mg base) A.queue "put_all" 8 ["self","bodies"] (fW A)) (ay9:(Method P w K mg base) A.queue "take" 1 ["self","hand"] spF) (az0:(Method P w K mg base) A.queue "done" 1 ["self","hand","number"] spF) (aj6:(Method P w K mg base) A.queue "give_back" 1 ["self","hand","number"] spF) (az1:(Method P w K mg base) A.queue "wait" 1 ["self","many"] spF) (aq9:(Method P w K mg base) A.queue "revive" 1 ["self","number"] spF) (aw4:(Method P w K mg base) A.queue "sweep" 1 ["self"] spF) (aw5:(Method P w K mg base) A.queue "carry" 1 ["self"] spF):(FnOk P w K mg base (CXE P w)) 9 f fd ["queue","deed"] (u6 A):=by
 refine F.okY ["queue","deed","word"] fun cdv A' outer s H vs Q E hr nD0 h=>?_
 obtain⟨L,q,t,x,rfl,hq,gt,hd⟩:=h
 refine⟨_,aA (aT (i:=2) nD0 ⋯ ⋯ (dO (fE K) (pv 1) aG (fun _ _ => rfl)))
  (aA (a6 (bA i6 (pv 2) cY (bF _))
   (aB (aX (cP aj5 T.aa2 ((hr.mono (by decide))) bK (pv 0) (aP (dO (fE K) (pv 1) aG (fun _ _ => rfl)) aF))))
   aO)
  (aA (a6 (bA i6 (pv 2) cY (bF _))
   (aB (aX (cP ao1 T.aa2 ((hr.mono (by decide))) bK (pv 0) (aP (dO (fE K) (pv 1) aG (fun _ _ => rfl)) aF))))
   aO)
  (aA (a6 (bA i6 (pv 2) cY (bF _))
   (aB (aX (cP ay9 T.aa2 ((hr.mono (by decide))) bK (pv 0) (aP (dO (fE K) (pv 1) aG (fun _ _ => rfl)) aF))))
   aO)
  (aA (a6 (bA i6 (pv 2) cY (bF _))
   (aB (aX (cP az0 T.aa2 ((hr.mono (by decide))) bK (pv 0) (aP (dO (fE K) (pv 1) aG (fun _ _ => rfl)) (aP (dO (fE K) (pv 1) aG (fun _ _ => rfl)) aF)))))
   aO)
  (aA (a6 (bA i6 (pv 2) cY (bF _))
   (aB (aX (cP aj6 T.aa2 ((hr.mono (by decide))) bK (pv 0) (aP (dO (fE K) (pv 1) aG (fun _ _ => rfl)) (aP (dO (fE K) (pv 1) aG (fun _ _ => rfl)) aF)))))
   aO)
  (aA (a6 (bA i6 (pv 2) cY (bF _))
   (aB (aX (cP az1 T.aa2 ((hr.mono (by decide))) bK (pv 0) (aP (dO (fE K) (pv 1) aG (fun _ _ => rfl)) aF))))
   aO)
  (aA (a6 (bA i6 (pv 2) cY (bF _))
   (aB (aX (cP aq9 T.aa2 ((hr.mono (by decide))) bK (pv 0) (aP (dO (fE K) (pv 1) aG (fun _ _ => rfl)) aF))))
   aO)
  (aA (a6 (bA i6 (pv 2) cY (bF _))
   (aB (aX (gH aw4 T.aa2 ((hr.mono (by decide))) bK (pv 0))))
   aO)
  (aB (aX (gH aw5 T.aa2 ((hr.mono (by decide))) bK (pv 0)))))))))))),?_⟩
 obtain⟨dx,h1⟩:=hq.self
 refine⟨_,rfl,t,_,_,.str "all",rfl,rfl,SqT.of gt,cJ (by decide) rfl,?_⟩
 exact Gm rfl rfl (E7 rfl rfl ⟨_,rfl,L.qu,dx,_,rfl,h1,rfl,_,rfl,t,_,_,x,rfl,rfl,SqT.of gt,rfl,hd⟩)
def ok_do {f:Addr} {fd:Hs} (F:Fun K "do" "do" s_do f fd) (T0:TxtQ K mg A) (T:TxtS P w K mg A ab5 ac8 ac0) (aj7:(Callee P w K mg base) "check_deed" 1 ["deed"] iQ) (ar0:(Callee P w K mg base) "told_by" 9 ["queue","deed"] (u6 A)):(FnOk P w K mg base (CXE P w)) 10 f fd ["queue","deed"] (Ae A):=by
 refine F.okY ["queue","deed"] fun cdv A' outer s H vs Q E hr nD0 h=>?_
 obtain⟨L,q,t,x,rfl,hq,gt,hd⟩:=h
 refine⟨_,aA (bD (a5 aj7 ((hr.mono (by decide))) bK (aJ (pv 1) aF)))
  (aB (DO Az (xR (FI (px_fn ar0 ((hr.mono (by decide))) (aJ (pv 0) (aJ (pv 1) aF)))))
   (PH.cons ⋯ T.aq2 (by decide) (fun ex=>(aB (aX cY))) (PH.cons ⋯ T.bc6 (by decide) (fun ex=>(aB (aX cY))) PH.nil)))),?_⟩
 refine⟨_,rfl,t,x,rfl,gt,?_⟩
 refine⟨_,rfl,_,rfl,L,q,t,x,rfl,hq,gt,?_⟩
 exact hd _ fun H' h=>.inl ⟨T.e_s,h⟩
end
abbrev DB:Stmt:=top 72
def DQ (x m:Int):Int:=x / 97 % m
inductive u8 (vs:Hw) (H:Hp) (Q:VK) (x_3:XK):Prop
 | mk:∀ (x m:Int),vs=[.int x,.int m]->0<m->Q (.int (DQ x m)) H->u8 vs H Q x_3
section
variable {P:Program} {w:World} {K:Hh} {mg:Hj} {base:Heap} {A:Ad}
def FY {f:Addr} {fd:Hs} (F:Fun K "_law_pick" "_law_pick" DB f fd):(FnOk P w K mg base (CXE P w)) 1 f fd ["_law_seed_here","_law_many"] u8:=by
 refine F.okY ["_law_seed_here","_law_many"] fun cdv A' outer s H vs Q E hr nD0 h=>?_
 obtain⟨x,m,rfl,m0,q⟩:=h
 refine⟨_,aB (aX (aY dM (aY iF (pv 0) aG) (pv 1))),?_⟩
 exact⟨_,rfl,_,_,rfl,rfl,⟨by decide,by decide⟩,_,rfl,_,_,rfl,rfl,m0,q⟩
end
abbrev Ap:Stmt:=top 73
def kI (x m:Int):Int:=if x / 5 % 2=0 then x / 7 % (m+1) else x / 7 % 4
def yU (x:Int) (k:Nat):Int:=if (k:Int) % 2=0 then DQ (qI x k) 256 else x / 11 % 3 * 100
def jS (x m:Int):Hm:=(List.range (kI x m).toNat).map (yU x)
def A4 (h0:0<=m):0<=kI x m/\(kI x m<=m\/kI x m<=3):=by
 unfold kI
 have h1:=emod_nonneg (x / 7) (show m+1≠0 by omega)
 have h2:=emod_lt_of_pos (x / 7) (show 0<m+1 by omega)
 split <;> omega
def Cf (h:3<=m) (h2:m<=60):(jS x m).length<=60:=by
 unfold jS
 rw[length_map,length_range]
 have:=A4 (x:=x) (m:=m) (by omega)
 omega
def Eb (x m:Int):eC (jS x m):=by
 intro b hb
 unfold jS at hb
 obtain⟨k,_,e⟩:=mem_map.mp hb
 rw[<- e]
 unfold yU DQ
 split
 ·have h1:=emod_nonneg (qI x k / 97) (show (256:Int)≠0 by decide)
  have h2:=emod_lt_of_pos (qI x k / 97) (show (0:Int)<256 by decide)
  omega
 ·have h1:=emod_nonneg (x / 11) (show (3:Int)≠0 by decide)
  have h2:=emod_lt_of_pos (x / 11) (show (0:Int)<3 by decide)
  omega
inductive qB (vs:Hw) (H:Hp) (Q:VK) (x_3:XK):Prop
 | mk:∀ (x m:Int),vs=[.int x,.int m]->0<=m->m<=1000->(∀ p H',aD H H'->H' p=some (.tup ((jS x m).map V.int))->Q (.ref p) H')->qB vs H Q x_3
section
variable {P:Program} {w:World} {K:Hh} {mg:Hj} {base:Heap} {A:Ad}
def Dm (F:Fun K "_law_bytes" "_law_bytes" Ap f fd) (T:TxtQ K mg A) (ab9:(Callee P w K mg base "_law_seed" 1 ["_law_seed_here", "_law_k"] u7)) (am1:(Callee P w K mg base) "_law_pick" 1 ["_law_seed_here","_law_many"] u8) :
  (FnOk P w K mg base (CXE P w)) 2 f fd ["_law_seed_here","_law_most"] qB:=by
 refine F.okY ["_law_seed_here","_law_most","_law_many"] fun cdv A' outer s H vs Q E hr nD0 h=>?_
 obtain⟨x,m,rfl,m0,m9,q⟩:=h
 refine⟨_,aA (aT (i:=2) nD0 ⋯ ⋯ (dO (c6 K) (gI (bM (aY dM (aY iF (pv 0) aG) (aY cT (pv 1) aG)) (bM (aY dM (aY iF (pv 0) aG) aG) aF))) (aY dM (aY iF (pv 0) aG) aG) (fun _ _=>rfl)))
  (aB (aX (gT (kR K) ⋯ T.ag9 nI (dR (fB ["_law_k"] [("_law_seed_here",0)] ⋯ (nZ ⋯ T.ah0 (aJ (pv 2) aF)) (fun C s2 H2 ex=>(cH (i:=0) (show List.Nodup (["_law_k","_law_seed_here"]:Ho) by decide +kernel) ⋯ (Or.inl ⋯))) (fun C s2 H2 ex => FK) (fun C s2 H2 ex=>(dO (c6 K) (gI (cC (a5 am1 ((hr.mono (by decide))) bB (cC (a5 ab9 ((hr.mono (by decide))) bB (aJ (pv 1) (aJ (pv 0) aF))) (aR aG aF))) (bM (aY kG (aY dM (aY iF (pv 1) aG) aG) aG) aF))) (aY dM (pv 0) aG) (fun _ _=>rfl)))) aF)))),?_⟩
 have d0:=emod_nonneg (x / 5) (show (2:Int)≠0 by decide)
 have d1:=emod_lt_of_pos (x / 5) (show (0:Int)<2 by decide)
 obtain⟨b0,b1⟩:=A4 (x:=x) m0
 refine⟨_,rfl,_,_,rfl,rfl,⟨by decide,by decide⟩,_,rfl,_,_,rfl,rfl,_,_,rfl,rfl,(by show (0:Int)<m+1; omega),_,rfl,_,_,rfl,rfl,⟨by decide,by decide⟩,_,_,rfl,rfl,(by show (0:Int)<4; decide),(by show 2<=sizeLine; decide),fun p1 hp1=>?_⟩
 refine⟨_,rfl,_,_,rfl,rfl,⟨by decide,by decide⟩,_,_,rfl,rfl,(by show (0:Int)<2; decide),p1,_,_,.int (kI x m),rfl,rfl,SqL.of aC,cJ d0 ?_,?_⟩
 ·unfold kI
  by_cases h:x / 5 % 2=0
  ·rw[h,if_pos rfl]
   rfl
  ·have h1:x / 5 % 2=1:=by omega
   rw[h1,if_neg (by decide)]
   rfl
 have S1:aD H _:=aI (o:=.lst [V.int (x / 7 % (m+1)),V.int (x / 7 % 4)]) hp1
 refine⟨_,rfl,kI x m,rfl,by omega,by omega,?_⟩
 refine dH (nM (H:=upd H p1 (.lst [V.int (x / 7 % (m+1)),V.int (x / 7 % 4)])) 0 (kI x m).toNat) ?zl (fun i y _=>y = .int (yU x i)) (fun _ _ _ _ _ h=>h) (fun σ=>∃ z,σ = [z,some (.int x)]) ?z0 ?_ ?_
 case zl=>exact le_trans (show (kI x m).toNat<=1003 by omega) (by decide)
 case z0=>exact⟨none,rfl⟩
 ·intro i y σc H3 hi hσ s3 hx Q' hQ'
  obtain⟨z,rfl⟩:=hσ
  subst hx
  have e0:(0:Int)+(i:Int)=i:=by omega
  have i0:=emod_nonneg (i:Int) (show (2:Int)≠0 by decide)
  have i1:=emod_lt_of_pos (i:Int) (show (0:Int)<2 by decide)
  refine⟨_,rfl,_,rfl,x,_,rfl,_,256,rfl,by decide,?_⟩
  refine⟨_,rfl,_,_,rfl,rfl,⟨by decide,by decide⟩,_,_,rfl,rfl,(by show (0:Int)<3; decide),_,_,rfl,rfl,.inr ⟨by decide,by decide⟩,(by show 2<=sizeLine; decide),fun p2 hp2=>?_⟩
  refine⟨_,rfl,_,_,rfl,rfl,(by show (0:Int)<2; decide),p2,_,_,.int (yU x i),rfl,rfl,SqL.of aC,?_,?_⟩
  ·rw[e0]
   refine cJ i0 ?_
   unfold yU
   by_cases h:(i:Int) % 2=0
   ·rw[h,if_pos rfl]
    rfl
   ·have h1:(i:Int) % 2=1:=by omega
    rw[h1,if_neg (by decide)]
    rfl
  ·exact hQ' _ _ _ ⟨_,rfl⟩ (aI hp2) rfl
 ·intro D ys H' hD s' hD' hlen hR
  have ey:ys=(jS x m).map V.int:=by
   unfold jS
   apply ext_getElem?
   intro i
   cases e:ys[i]? with
   | none=>
    have:ys.length<=i:=List.getElem?_eq_none_iff.mp e
    rw[getElem?_eq_none (by rw[length_map,length_map,length_range]; omega)]
   | some y=>
    have hi:i<(kI x m).toNat:=by
     have:=(List.getElem?_eq_some_iff.mp e).1
     omega
    rw[hR i y e,getElem?_map,getElem?_map,getElem?_range hi]
    rfl
  refine⟨D,_,rfl,.inl ⟨SqL.of hD',fun l hl=>?_⟩⟩
  refine q l _ ((S1.trans s').trans (aI hl)) ?_
  rw[aC,ey]
end
def Step.keepS {H0 Hc Hn:Hp} {L L':Pl} (st:Step L L' Hc Hn) (S:aD H0 Hc) (fr:∀ b,fK L b->H0 b=none):aD H0 Hn/\∀ b,fK L' b->H0 b=none:=by
 refine⟨fun b o e=>st.frm b o (S b o e) (fun z=>by rw[fr b z]at e; cases e),fun b hb=>?_⟩
 rcases st.grow b hb with z | z
 ·exact fr b z
 ·exact S.free z
structure Kc (A:Ad) (H:Hp) (L0 D0:Addr) (H1:Hp) (L:Pl) (q:Qs):Prop where
 same:aD H H1
 qu:L.qu=L0
 dk:L.dk=D0
 fr:∀ b,fK L b->H b=none
 qw:QueueW A H1 L q false
def Off (H:Hp) (L:Pl) (a:Addr):Prop:=H a=none/\¬ fK L a
section
variable {A:Ad} {H H1 H2:Hp} {L0 D0:Addr} {L L':Pl} {q q':Qs} {n:Nat} {Q:V->Hp->Prop} {E:XK}
def Kc.sames (k:Kc A H L0 D0 H1 L q) (s:aD H1 H2):Kc A H L0 D0 H2 L q:=⟨k.same.trans s,k.qu,k.dk,k.fr,k.qw.same s⟩
def Kc.step (k:Kc A H L0 D0 H1 L q) (st:Step L L' H1 H2) (hq:QueueW A H2 L' q' false):Kc A H L0 D0 H2 L' q':=by
 obtain⟨s,f⟩:=st.keepS k.same k.fr
 exact⟨s,st.qu.trans k.qu,st.dk.trans k.dk,f,hq⟩
def Kc.off (k:Kc A H L0 D0 H1 L q) {a:Addr} (ha:H1 a=none):Off H L a:=⟨k.same.free ha,fun z=>by
 obtain⟨o,e⟩:=mZ k.qw z
 rw[e]at ha
 cases ha⟩
def Kc.self (k:Kc A H L0 D0 H1 L q):∃ dx,H1 L0=some (.ins A.queue dx (quF L q false)):=by
 obtain⟨dx,h⟩:=k.qw.self
 rw[k.qu]at h
 exact⟨dx,h⟩
def Kc.disk (k:Kc A H L0 D0 H1 L q):DiskAt A.disk H1 D0 L.df L.kvs q.D:=by
 have:=k.qw.disk
 rw[k.dk]at this
 exact this
end
open Classical in
noncomputable def pD (H1:Hp) (L:Pl):Hp:=fun b=>if fK L b then none else H1 b
def Ff {A:Ad} {H:Hp} {L:Pl} {q:Qs} (h:QueueW A H L q false) {b:Addr} (hb:fK L b) (xs:Hw):H b≠some (.tup xs):=fun e=>by
 obtain⟨dx,h1⟩:=h.self
 obtain⟨hk,h2,_⟩:=h.held
 obtain⟨db,b1⟩:=h.book.self
 obtain⟨kb,b2,_⟩:=h.book.ent
 obtain⟨ps,b3,_⟩:=h.book.par
 obtain⟨dd,d1⟩:=h.disk.self
 rcases hb with z | z | (z | z | z) | (z | z | z)
 ·rw[z,h1]at e; cases e
 ·rw[z,h2]at e; cases e
 ·rw[z,b1]at e; cases e
 ·rw[z,b2]at e; cases e
 ·rw[z,b3]at e; cases e
 ·rw[z,d1]at e; cases e
 ·rw[z,h.disk.files]at e; cases e
 ·obtain⟨ys,e2⟩:=kN h.disk.rel z
  rw[e2]at e
  cases e
section
variable {A:Ad} {H H1 H2:Hp} {L0 D0:Addr} {L L':Pl} {q q':Qs} {n:Nat} {Q:V->Hp->Prop} {E:XK}
def Kc.base (k:Kc A H L0 D0 H1 L q):Kc A (pD H1 L) L0 D0 H1 L q:=⟨fun b o e=>by unfold pD at e; split at e <;> first | cases e | exact e,k.qu,k.dk,fun b hb=>if_pos hb,k.qw⟩
def AR {b:Addr} {o:HO} (h:H1 b=some o) (n:¬ fK L b):pD H1 L b=some o:=by
 unfold pD
 rw[if_neg n]
 exact h
def Kc.cutS (k:Kc A H L0 D0 H1 L q):aD H (pD H1 L):=fun b o e=>AR (k.same b o e) fun z=>by rw[k.fr b z]at e; cases e
def Kc.cutT (k:Kc A H L0 D0 H1 L q):gB H1 (pD H1 L):=fun b xs e=>AR e fun z=>Ff k.qw z xs e
def Kc.due (k:Kc A H L0 D0 H1 L q) {p:Addr} {ds:Hr} (td:cW ds=true) (o:¬ fK L p) (d:Den H1 (.list ds) (.ref p)):Den (pD H1 L) (.list ds) (.ref p):=by
 simp only[Den]at d ⊢
 obtain⟨p',xs,e,g,dd⟩:=d
 cases e
 exact⟨p,xs,rfl,AR g o,jR k.cutT td dd⟩
end
def depth_ints:∀ ns:Hm,PyData.depthAll (ns.map .int)=0
 | []=>rfl
 | n::ns=>by
  show max 0 (PyData.depthAll (ns.map .int))=0
  rw[depth_ints ns]
  rfl
def zK {ds:Hr} (h:∀ d∈ds,gZ d=true/\PyData.depth d<=2):gZ (.list ds)=true/\PyData.depth (.list ds)<=64:=by
 constructor
 ·show jV ds=true
  exact qH fun d hd=>(h d hd).1
 ·show PyData.depthAll ds+1<=64
  have:=oH fun d hd=>(h d hd).2
  omega
def Dq {G:Hp} {v1 v2:V} {d:PyData} {Q:VK} (h1:Den G d v1) (h2:Den G d v2) (hs:gZ d=true) (hd:PyData.depth d<=64) (q:Q (.bl false) G):FE v1 v2 G Q:=by
 refine⟨d,d,h1,h2,gR hs hd,gR hs hd,?_⟩
 rw[m6 hs]
 exact q
def wR (ns:Hm):iU (.tuple (ns.map .int))=true:=by
 show cW (ns.map .int)=true
 induction ns with
 | nil=>rfl
 | cons x b ih=>exact ih
def md {i j:Int} (h:0<j):0<=i % j/\i % j<j:=⟨emod_nonneg i (by omega),emod_lt_of_pos i h⟩
def yV:∀ bss:Hk,cW (eU bss)=true
 | []=>rfl
 | b::bss=>by
  show (iU (.tuple (b.map .int)) && cW (eU bss))=true
  rw[yV bss,wR]
  rfl
def tE (k:Int) (e:Ent):gZ (sN k e)=true/\PyData.depth (sN k e)<=64:=by
 constructor
 ·unfold sN
  simp only[gZ,jV,C6]
  rfl
 ·show max 0 (max (PyData.depthAll (e.1.map .int)+1) (max 0 0))+1<=64
  rw[depth_ints]
  decide
def wQ {α : Type} {f:α->PyData} (h:∀ x,iU (f x)=true):∀ l:List α,cW (l.map f)=true
 | []=>rfl
 | x::l=>by
  show (iU (f x) && cW (l.map f))=true
  rw[h,wQ h l]
  rfl
def uB (k:Int) (e:Ent):PyData.depth (sN k e)<=2:=by
 show max 0 (max (PyData.depthAll (e.1.map .int)+1) (max 0 0))+1<=2
 rw[depth_ints]
 decide
abbrev Al:Stmt:=top 76
inductive pX (A:Ad) (vs:Hw) (H:Hp) (Q:VK) (x_3:XK):Prop
 | mk:∀ (L:Pl) (q:Qs),vs=[.ref L.qu]->QueueW A H L q false->(q.B.es.length<800/\(q.B.es.map (·.1)).Pairwise (· <= ·))->(∀ p pl H',aD H H'->H pl=none->H' p=some (.tup [.ref pl,.int q.B.up])->Den H' (.list ((q.B.es.map (·.1)).map (CB q.B.es))) (.ref pl)->Q (.ref p) H')->pX A vs H Q x_3
section
variable {P:Program} {w:World} {K:Hh} {mg:Hj} {base:Heap} {A:Ad}
def Dg {f:Addr} {fd:Hs} (F:Fun K "_law_stay" "_law_stay" Al f fd) (T:TxtQ K mg A) (ad6:(Method P w K mg base) A.queue "letters" 3 ["self"] (gJ A)) (af8:(Method P w K mg base) A.queue "coming" 1 ["self"] (iB A)):(FnOk P w K mg base (CXE P w)) 4 f fd ["_law_queue_here"] (pX A):=by
 refine F.okY ["_law_queue_here"] fun cdv A' outer s H vs Q E hr nD0 h=>?_
 obtain⟨L,q,rfl,hq,few,qq⟩:=h
 refine⟨_,aA (a6 (bA Da (pv 0) gG (bF _))
   (aB (aX gG))
   aO)
  (aB (aX (bV (cC (gH ad6 T.aa2 ((hr.mono (by decide))) bB (pv 0)) (cC (gH af8 T.aa2 ((hr.mono (by decide))) bB (pv 0)) aF))))),?_⟩
 obtain⟨dx,h1⟩:=hq.self
 refine⟨_,rfl,rfl,_,rfl,a7 (bG rfl ?_)⟩
 refine⟨_,rfl,L.qu,dx,_,rfl,h1,rfl,L,q,rfl,hq,few,fun ms perm pw p H1 s1 f1 d1=>?_⟩
 obtain rfl:ms=q.B.es.map (·.1):=iC perm pw few.2
 refine⟨_,rfl,L.qu,dx,_,rfl,s1 _ _ h1,rfl,L,q,rfl,hq.same s1,bP,fun pt hpt=>?_⟩
 have s2:=aI (o:=.tup [.ref p,.int q.B.up]) hpt
 exact qq pt p _ (s1.trans s2) f1 aC (d1.same s2)
end
abbrev xE:Stmt:=top 77
def sZ (A:Ad):Sp:=fun vs H Q _=>iV A vs H Q fun _ _ _=>False
section
variable {P:Program} {w:World} {K:Hh} {mg:Hj} {base:Heap} {A:Ad}
def Bv {f:Addr} {fd:Hs} (F:Fun K "_law_opened" "_law_opened" xE f fd) (T:TxtQ K mg A) (ad3:(Callee P w K mg base) "_law_queue" 10 ["_law_disk","_law_settings_here"] (iV A)):(FnOk P w K mg base (CXE P w)) 11 f fd ["_law_disk","_law_settings_here"] (sZ A):=by
 refine F.okY ["_law_disk","_law_settings_here","_law_found"] fun cdv A' outer s H vs Q E hr nD0 h=>?_
 obtain⟨dk,df,p,kvs,D,ns,ms,B,m,hh,t,rfl,gp,m0,m1,h0,h1,t0,t1,hD,dg,qq⟩:=h
 refine⟨_,aA (aT (i:=2) nD0 ⋯ ⋯ gG)
  (aA (DO Az (xR (Gu (aT (i:=2) nD0 ⋯ ⋯ (a5 ad3 ((hr.mono (by decide))) bB (aJ (pv 0) (aJ (pv 1) aF))))))
   (PH.cons ⋯ T.an8 (by decide) (fun ex=>(aB (aT (i:=2) nD0 ⋯ ⋯ gG))) PH.nil))
  (aB (aX (pv 2)))),?_⟩
 exact⟨_,rfl,_,rfl,dk,df,p,kvs,D,ns,ms,B,m,hh,t,rfl,gp,m0,m1,h0,h1,t0,t1,hD,dg,fun L' H' a b c d=>⟨_,rfl,qq L' H' a b c d⟩⟩
end
def Av {es:Hx} {n:Int} (e:Ent) (h:∀ p∈es,p.1<n):j1 es n e=es++[(n,e)]:=by
 unfold j1
 rw[if_neg]
 rw[List.any_eq_true]
 rintro ⟨p,hp,z⟩
 have:=h p hp
 have:=of_decide_eq_true z
 omega
def Fn {B:Bk} {n:Int} (l:Int) (b:Hm) (hp:B.parts=[]) (hk:∀ p∈B.es,p.1<n) (hu:B.up=n):bN l B [("put",n,b)]=some ⟨B.es++[(n,(b,0,l))],n+1,[]⟩:=by
 show (match c8 B "put" n b l with | none=>none | some B'=>some B')=_
 have:c8 B "put" n b l=some ⟨B.es++[(n,(b,0,l))],n+1,[]⟩:=by
  unfold c8
  rw[if_neg (by decide),if_neg (by decide),if_neg (fun y=>y hp),if_pos rfl]
  unfold kC
  rw[if_neg (by omega),Av _ hk,hp]
 rw[this]
def y7 (s:Int):Hx->Int->Hk->Hx
 | es,_,[]=>es
 | es,up,b::r=>y7 s (es++[(up,(b,0,s))]) (up+1) r
def iR (up:Int):Hk->List (Int × Hm)
 | []=>[]
 | b::r=>(up,b)::iR (up+1) r
def B4 (up:Int) (n:Nat):dU up (n+1)=up::dU (up+1) n:=by
 unfold dU
 rw[range_succ_eq_map,map_cons,map_map]
 show (up+((0:Nat):Int))::_=_
 rw[show up+((0:Nat):Int)=up by omega]
 congr 1
 apply map_congr_left
 intro k _
 show up+((k+1:Nat):Int)=_
 omega
def xT (up:Int) (b:Hm) (bss:Hk):eF up (b::bss)=(("part",up,b):Rw)::eF (up+1) bss:=by
 unfold eF
 rw[length_cons,range_succ_eq_map,map_cons,map_map]
 congr 1
 ·simp
 ·apply map_congr_left
  intro x _
  show (("part",up+((x+1:Nat):Int),(b::bss).getD (x+1) []):Rw)=(("part",up+1+(x:Int),bss.getD x []):Rw)
  rw[show up+((x+1:Nat):Int)=up+1+(x:Int) by omega]
  rfl
def oW:∀ (up:Int) (bss:Hk),(iR up bss).map (·.1)=dU up bss.length
 | up,[]=>rfl
 | up,b::bss=>by
  show up::(iR (up+1) bss).map (·.1)=dU up (bss.length+1)
  rw[oW (up+1) bss,B4]
def rP (seg:Int) (es:Hx) (u0:Int) (rest:Hy):∀ (up:Int) (bss:Hk) (ps:List (Int × Hm)),bN seg ⟨es,u0,ps⟩ (eF up bss++rest)=bN seg ⟨es,u0,ps++iR up bss⟩ rest
 | up,[],ps=>by
  show bN seg ⟨es,u0,ps⟩ rest=bN seg ⟨es,u0,ps++[]⟩ rest
  rw[append_nil]
 | up,b::bss,ps=>by
  rw[xT]
  show bN seg ⟨es,u0,ps++[(up,b)]⟩ (eF (up+1) bss++rest)=bN seg ⟨es,u0,ps++(up,b)::iR (up+1) bss⟩ rest
  rw[rP seg es u0 rest (up+1) bss,append_assoc]
  rfl
def xQ (s:Int):∀ (bss:Hk) (es:Hx) (up:Int),(∀ p∈es,p.1<up)->o9 s ⟨es,up,[]⟩ (iR up bss)=some ⟨y7 s es up bss,up+(bss.length:Int),[]⟩
 | [],es,up,_=>by
  show some _=some _
  rw[show up+(([]:Hk).length:Int)=up from Int.add_zero up]
  rfl
 | b::bss,es,up,h=>by
  have e1:kC ⟨es,up,[]⟩ up b s=some ⟨es++[(up,(b,0,s))],up+1,[]⟩:=by
   unfold kC
   rw[if_neg (by show ¬ up<up; omega),Av _ h]
  show (match kC ⟨es,up,[]⟩ up b s with | none=>none | some B'=>o9 s B' (iR (up+1) bss))=_
  rw[e1]
  try dsimp only
  rw[xQ s bss _ _ (fun p hp=>by
   rw[mem_append,mem_singleton]at hp
   rcases hp with hp | rfl
   ·have:=h p hp
    omega
   ·show up<up+1
    omega)]
  rw[length_cons,show up+1+(bss.length:Int)=up+((bss.length+1:Nat):Int) by omega]
  rfl
def EM (s:Int) {es:Hx} {up:Int} {bss:Hk} (h:∀ p∈es,p.1<up):bN s ⟨es,up,[]⟩ (bL up bss)=some ⟨y7 s es up bss,up+(bss.length:Int),[]⟩:=by
 unfold bL
 rw[rP,nil_append]
 show (match c8 ⟨es,up,iR up bss⟩ "deal" up [(bss.length:Int)] s with | none=>none | some B'=>some B')=_
 have:c8 ⟨es,up,iR up bss⟩ "deal" up [(bss.length:Int)] s=some ⟨y7 s es up bss,up+(bss.length:Int),[]⟩:=by
  unfold c8
  rw[if_neg (by decide),if_pos rfl]
  unfold uK
  rw[if_pos (by
   show (iR up bss).map (·.1)=(List.range ((bss.length:Int)).toNat).map _
   rw[oW,Int.toNat_natCast]
   rfl)]
  exact xQ s bss es up h
 rw[this]
section
variable {es:Hx} {n:Int} {e:Ent}
def Dv (h:fY es n=some e):(n,e)∈es:=by
 unfold fY at h
 cases y:es.find? fun p=>decide (p.1=n) with
 | none=>
  rw[y]at h
  cases h
 | some p=>
  rw[y]at h
  cases h
  have h1:=List.mem_of_find?_eq_some y
  have h2:=List.find?_some (p:=fun p:Int × Ent=>decide (p.1=n)) y
  have h2:p.1=n:=of_decide_eq_true h2
  rw[<- h2]
  exact h1
end
def Dr {α : Type}:∀ {es:List (Int × α)} {p r:Int × α},(es.map (·.1)).Nodup->p∈es->r∈es->p.1=r.1->p=r
 | [],_,_,_,hp,_,_=>by cases hp
 | x::es,p,r,nd,hp,hr,e=>by
  rw[map_cons,nodup_cons]at nd
  rcases mem_cons.mp hp with h1 | h1
  ·rcases mem_cons.mp hr with h2 | h2
   ·rw[h1,h2]
   ·exact absurd (by rw[<- h1,e]; exact mem_map_of_mem h2) nd.1
  ·rcases mem_cons.mp hr with h2 | h2
   ·exact absurd (by rw[<- h2,<- e]; exact mem_map_of_mem h1) nd.1
   ·exact Dr nd.2 h1 h2 e
abbrev La:=List (Int × (Hm × Int))
def bare (p:Int × Ent):Int × (Hm × Int):=(p.1,(p.2.1,p.2.2.1))
def hZ (up:Int):Hk->La
 | []=>[]
 | b::bs=>(up,(b,0))::hZ (up+1) bs
def y4 (s:Int):∀ (bss:Hk) (es:Hx) (up:Int),(y7 s es up bss).map bare=es.map bare++hZ up bss
 | [],es,up=>(append_nil _).symm
 | b::bs,es,up=>by
  show (y7 s (es++[(up,(b,0,s))]) (up+1) bs).map bare=_
  rw[y4 s bs _ (up+1),map_append,append_assoc]
  rfl
def yZ:∀ (bss:Hk) (up:Int),(hZ up bss).map (·.1)=dU up bss.length
 | [],_=>rfl
 | b::bs,up=>by
  show up::(hZ (up+1) bs).map (·.1)=_
  rw[yZ bs (up+1)]
  unfold dU
  rw[length_cons,range_succ_eq_map,map_cons,map_map]
  congr 1
  ·show up=up+((0:Nat):Int)
   omega
  ·refine map_congr_left fun k _=>?_
   show up+1+(k:Int)=up+((k+1:Nat):Int)
   omega
def x9 (bs:Hm) (m:Str):aH [(aM 0,bs)] m=if m=aM 0 then some bs else none:=by
 unfold aH
 rw[find?_cons]
 by_cases z:m=aM 0
 ·rw[if_pos z,decide_eq_true z.symm]
  rfl
 ·rw[if_neg z,decide_eq_false (fun y=>z y.symm)]
  rfl
def E5 (a b:Hm):bZ [(aM 0,a)] (aM 0) b=[(aM 0,b)]:=by
 unfold bZ
 rw[map_cons,if_pos rfl]
 rfl
def CQ:∃ d,bH ⟨[],0,none⟩ []=(⟨[(aM 0,BE)],d,none⟩,[0]):=by
 have e1:aH [(aM 0,([]:Hm))] (aM 0)=some []:=by rw[x9,if_pos rfl]
 have e0:(([0]:Hm).getLastD 0)=0:=rfl
 have hm:mkN ⟨[],0,none⟩ (aM 0)=⟨[(aM 0,[])],1,none⟩:=rfl
 unfold bH
 rw[if_pos rfl,hm]
 unfold m3
 rw[e0]
 try dsimp only
 have ek:dW []=[]:=rfl
 rw[e1,getD_some,ek,if_neg (fun z=>absurd z.2 (by decide)),if_pos rfl,if_neg (by decide)]
 refine⟨1+7,?_⟩
 show ((⟨bZ [(aM 0,[])] (aM 0) (bU "from" 0 []),1+((7:Nat):Int),none⟩:Dk),([0]:Hm))=_
 rw[E5]
 rfl
def CW:DiskGood ⟨[],0,none⟩ [] [] ⟨[],0,[]⟩:=⟨rfl,⟨rfl,(fun _ h=>by cases h),by decide,(fun n bs e=>by cases e),by decide⟩,List.Perm.refl _,List.Pairwise.nil,.inl rfl,(fun bs e=>by cases e),rfl⟩
def new_d {H1 H2:Hp} {C dk dx df:Addr} (hdk:H1 dk=none) (hdx:H1 dx=none) (f2:∀ b o,upd (upd H1 dx (.own dk)) dk (.ins C dx []) b=some o->b≠dk->H2 b=some o) (hdf:upd (upd H1 dx (.own dk)) dk (.ins C dx []) df=none):aD H1 H2/\∀ b,own dk df [] b->H1 b=none:=by
 refine⟨fun b o e=>?_,?_⟩
 ·have nb:b≠dk:=a8 e hdk
  have nd:b≠dx:=a8 e hdx
  exact f2 b o (by rw[aE nb,aE nd]; exact e) nb
 ·rintro b (rfl | rfl | hb)
  ·exact hdk
  ·cases e:H1 b with
   | none=>rfl
   | some o=>
    rw[aE (a8 e hdk),aE (a8 e hdx),e]at hdf
    cases hdf
  ·simp at hb
structure Bo3 (B:Bk) (bs:Hk):Prop where
 ls:B.es.map bare=hZ 0 bs
 up:B.up=(bs.length:Int)
 pt:B.parts=[]
def lH (p:Int × (Hm × Int)):PyData:=.tuple [.int p.1,.tuple (p.2.1.map .int),.int p.2.2]
def dN (bs:Hk):PyData:=.tuple [.list ((hZ 0 bs).map lH),.int (bs.length:Int)]
def kU:∀ (a b:Hk) (u:Int),hZ u (a++b)=hZ u a++hZ (u+(a.length:Int)) b
 | [],b,u=>by
  show hZ u b=hZ (u+((0:Nat):Int)) b
  rw[show u+((0:Nat):Int)=u by simp]
 | x::a,b,u=>by
  show (u,(x,0))::hZ (u+1) (a++b)=(u,(x,0))::(hZ (u+1) a++_)
  rw[kU a b (u+1),length_cons,show u+1+(a.length:Int)=u+((a.length+1:Nat):Int) by omega]
def sA:∀ (a:Hk) (u:Int),(hZ u a).length=a.length
 | [],_=>rfl
 | _::a,u=>congrArg (· + 1) (sA a (u+1))
section
variable {B:Bk} {bs:Hk}
def Bo3.keys (h:Bo3 B bs):B.es.map (·.1)=dU 0 bs.length:=by
 rw[<- yZ,<- h.ls,map_map]
 rfl
def Bo3.so (h:Bo3 B bs):(B.es.map (·.1)).Pairwise (· < ·):=by
 rw[h.keys]
 unfold dU
 rw[List.pairwise_map]
 exact List.pairwise_lt_range.imp fun {i j} z=>by omega
def Bo3.lt (h:Bo3 B bs):∀ p∈B.es,p.1<B.up:=fun p hp=>by
 have:=mem_map_of_mem (f:=(·.1)) hp
 rw[h.keys]at this
 unfold dU at this
 obtain⟨i,hi,e⟩:=mem_map.mp this
 have:=mem_range.mp hi
 rw[h.up,<- e]
 omega
def Bo3.len (h:Bo3 B bs):B.es.length=bs.length:=by
 have:=congrArg List.length h.keys
 unfold dU at this
 rw[length_map,length_map,length_range]at this
 exact this
def Bo3.stay (h:Bo3 B bs):(B.es.map (·.1)).map (CB B.es)=(hZ 0 bs).map lH:=by
 rw[<- h.ls,map_map,map_map]
 refine map_congr_left fun p hp=>?_
 obtain⟨e,el⟩:=yB (mem_map_of_mem (f:=(·.1)) hp)
 have nd:(B.es.map (·.1)).Nodup:=h.so.imp fun a b=>by omega
 have e2:=Dr nd (Dv el) hp rfl
 show sN p.1 ((fY B.es p.1).getD ([],0,0))=_
 rw[el,show e=p.2 from congrArg Prod.snd e2]
 rfl
def Bo3.put (h:Bo3 B bs) (l:Int) (b:Hm):∃ B',bN l B [("put",B.up,b)]=some B'/\Bo3 B' (bs++[b]):=by
 refine⟨_,Fn l b h.pt h.lt rfl,?_,?_,rfl⟩
 ·show (B.es++[(B.up,(b,0,l))]).map bare=_
  rw[map_append,h.ls,kU,Int.zero_add,h.up]
  rfl
 ·show B.up+1=_
  rw[h.up,length_append]
  show _=((bs.length+1:Nat):Int)
  omega
def Bo3.all (h:Bo3 B bs) (l:Int) (bss:Hk):∃ B',bN l B (bL B.up bss)=some B'/\Bo3 B' (bs++bss):=by
 refine⟨⟨y7 l B.es B.up bss,B.up+(bss.length:Int),[]⟩,?_,?_,?_,rfl⟩
 ·have:=EM l (bss:=bss) h.lt
  obtain⟨es,up,pt⟩:=B
  cases h.pt
  exact this
 ·show (y7 l B.es B.up bss).map bare=_
  rw[y4,h.ls,kU,Int.zero_add,h.up]
 ·show B.up+(bss.length:Int)=_
  rw[h.up,length_append]
  omega
end
def EQ (m hh t:Int):Rs (iI ⟨[],0,none⟩ [] ⟨[],0,[]⟩ m hh t) 0 [] [("from",0,[])] 7/\Bo3 (iI ⟨[],0,none⟩ [] ⟨[],0,[]⟩ m hh t).B []:=by
 obtain⟨d,e⟩:=CQ
 refine⟨?_,rfl,rfl,rfl⟩
 unfold iI
 rw[e]
 have r1:aN [("from",0,[])]=BE:=by
  rw[dE]
  exact append_nil _
 have r7:BE.length=7:=by decide +kernel
 refine⟨rfl,Int.le_refl _,rfl,rfl,fun i rs y=>?_,fun rs y=>?_,rfl,rfl,Int.le_refl _,?_⟩
 ·have hi:i=0:=by
   have:=(List.getElem?_eq_some_iff.mp y).1
   simp at this
   omega
  subst hi
  cases y
  rw[r1]
  exact(x9 BE (aM (0+((0:Nat):Int)))).trans (if_pos rfl)
 ·rw[nil_append,mem_singleton]at y
  subst y
  refine⟨fun r hr=>?_,⟨0,[],rfl⟩,rfl⟩
  rw[mem_singleton.mp hr]
  decide +kernel
 ·show (aN [("from",0,[])]).length+0<=7
  rw[r1,r7]
  exact le_refl _
abbrev oQ:Stmt:=top 78
inductive pY (K:Hh) (vs:Hw) (H:Hp) (Q:VK) (x_3:XK):Prop
 | mk:∀ (a:Addr) (ns:Hm),vs=[.ref a]->SqL K H a (ns.map V.int)->(∀ H',Q (.bl true) H')->pY K vs H Q x_3
def jK {σ : St} {H:Hp} {k:Hw->Hp->Prop} (h:k [] H):o7 σ H k:=h
def EL {J:It} {H0 H:Hp} {n:Nat} {Y:Nat->V->Hp->Prop} {g:TG} {tb:TS} {D:Ends} {σ : St} (S:Src J H0 n Y) (Pv:Nat->St->Hp->Prop) (h0:Pv 0 σ H) (keep:∀ i σ H',Pv i σ H'->aD H0 H')
  (step:∀ (D':Ends) i x σ H1 H2,(∀ σ H,Pv (i+1) σ H->D'.nx σ H/\D'.ct σ H)->i<n->Pv i σ H1->aD H1 H2->Y i x H2->g x σ H2 fun σ2 H3=>tb D' σ2 H3) (fin:∀ σ H',Pv n σ H'->D.nx σ H') :
  ∃ W:Nat->Nat->St->Hp->Prop,(∃ m,W 0 m σ H)/\∀ i m σ H,W i m σ H->
   (J.stop i H/\D.nx σ H)\/(J.go i H/\∃ N:St->Hp->Prop,(∀ σ' H',N σ' H'->∃ m',m'<m/\W (i+1) m' σ' H')/\∀ x H',J.yld i H x H'->g x σ H' fun σ2 H2=>tb { D with nx:=N,ct:=N,bk:=D.nx } σ2 H2):=
 fZ S Pv h0 keep (fun i x σ H1 H2 h1 h2 h3 h4=>step { D with nx:=Pv (i+1),ct:=Pv (i+1),bk:=D.nx } i x σ H1 H2 (fun _ _ h=>⟨h,h⟩) h1 h2 h3 h4) fin
def new_q {A:Ad} {H H1 H2 H7:Hp} {dk df:Addr} {L:Pl} {q:Qs} (bs:aD H H1) (S2:aD H1 H2) (fr:∀ b,own dk df [] b->H1 b=none) (eL:L.dk=dk) (f7:∀ b o,H2 b=some o->¬ own dk df [] b->H7 b=some o) (w7:∀ b,fK L b->own dk df [] b\/H2 b=none) (hq7:QueueW A H7 L q false):aD H1 H7/\(∀ b,fK L b->H1 b=none)/\Kc A H L.qu dk H7 L q:=by
 have S7:aD H1 H7:=fun b o e=>f7 b o (S2 b o e) (fun ho=>by rw[fr b ho]at e; cases e)
 have fr7:∀ b,fK L b->H1 b=none:=fun b hb=>by
  rcases w7 b hb with y | y
  ·exact fr b y
  ·exact S2.free y
 exact⟨S7,fr7,bs.trans S7,rfl,eL,fun b hb=>bs.free (fr7 b hb),hq7⟩
section
variable {A:Ad} {H H1 H2:Hp} {L0 D0:Addr} {L:Pl} {q:Qs} {f:Int} {Ri:List (Hy)} {rl:Hy} {z:Nat} {bs:Hk} {Q:V->Hp->Prop} {E:XK}
def Dp (q:Qs):(eT q).B=q.B:=by
 unfold eT
 split <;> rfl
def Rs.mono (h:Rs q f Ri rl z) {y:Nat} (hy:z<=y):Rs q f Ri rl y:=⟨h.left,h.f0,h.last,h.keys,h.files,h.good,h.fold,h.parts,h.up,le_trans h.size hy⟩
def wO (k:Kc A H L0 D0 H1 L q) (h:Rs q 0 Ri rl z) (bo:Bo3 q.B bs) (hR:Ri.length<=40) (hz:z<=5000) (hb:bs.length<=30) {b:Hm} (bok:eC b) (bl:b.length<=60) {v:V} (dv:Den H1 (.tuple (b.map .int)) v) (go:∀ L' q' H2 Ri' rl',Step L L' H1 H2->Kc A H L0 D0 H2 L' q'->Rs q' 0 Ri' rl' (z+100)->Ri'.length<=Ri.length+1->Bo3 q'.B (bs++[b])->Q (.int (bs.length:Int)) H2):j6 A [.ref L0,v] H1 Q E:=by
 rw[<- k.qu]
 have up:=bo.up
 have bl2:=bo.len
 obtain⟨B',hf,bo'⟩:=bo.put (eT q).last b
 have gd:kT (.tuple (b.map .int))=true:=nW (k:="put") (n:=0) (.inl rfl) (by decide) (by decide) bok bl
 refine⟨L,q,v,.tuple (b.map .int),rfl,k.qw,dv,(fun bs e=>by injection e with e; rw[<- e,length_map]; omega),(fun y=>by rw[gd]at y; cases y),fun body e hb' hl=>?_⟩
 have eb:body=b:=by
  have:=congrArg a9 e
  rw[dG,dG]at this
  exact this.symm
 subst eb
 refine⟨h.wok (by omega) (by omega) (by omega) (by omega),h.left,by omega,B',by rw[Dp]; exact hf,fun L' H2 st hq=>?_⟩
 have rok:∀ r∈([("put",q.B.up,body)]:Hy),aQ (bT r)=true:=fun r hr=>by
  rw[mem_singleton.mp hr]
  exact nW (.inl rfl) (by omega) (by omega) bok bl
 obtain⟨Ri',rl',r',hl'⟩:=h.step (by omega) rok ⟨[],_,rfl,show ("put" : Str) ≠ "part" by decide⟩ (by rw[Dp]; exact hf) bo'.pt (by rw[bo'.up]; omega)
 rw[up]
 refine go L' _ H2 Ri' rl' st (k.step st hq) (r'.mono ?_) hl' bo'
 rw[dE,length_append,cB]
 show z+7+(7+body.length+0)<=_
 omega
inductive GO (bs:Hk) (bss:Hk) (m:Int) (hh:Int) (t:Int) (v:V) (q':Qs) (H2:Hp) (L':Pl):Prop
 | mk:∀ ok:Bool,Bo3 q'.B (if ok=true then bs++bss else bs)->(∃ ms Ri' rl',DiskGood (jW q'.D) ms ms q'.B/\Rs (iI (jW q'.D) ms q'.B m hh t) 0 Ri' rl' 2000/\Ri'.length<=20)->(ok=false->v = .str "stopped")->(ok=true->∃ p,v = .ref p/\¬ fK L' p/\H2 p=some (.lst ((dU (bs.length:Int) bss.length).map V.int)))->GO bs bss m hh t v q' H2 L'
def Cl (k:Kc A H L0 D0 H1 L q) (h:Rs (n6 q) 0 Ri rl z) (bo:Bo3 q.B bs) (hR:Ri.length<=10) (hz:z<=1000) (hb:bs.length<=10) {bss:Hk} (b1:1<=bss.length) (b9:bss.length<=9) (bok:∀ b∈bss,eC b/\b.length<=60) (m hh t:Int) {tt:Addr} {v:V} (gt:H1 tt=some (.tup [.str "all",v])) (dv:Den H1 (.tuple (eU bss)) v)
  (go:∀ v L' q' wr H2,Step L L' H1 H2->QueueW A H2 L' q' wr->GO bs bss m hh t v q' H2 L'->Q v H2):Ae A [.ref L0,.ref tt] H1 Q E:=by
 rw[<- k.qu]
 have up:=bo.up
 have bl2:=bo.len
 obtain⟨B',hf,bo'⟩:=bo.all (bC q).1.last bss
 have w0:=h.wok (k:=bss.length+1) (by omega) (by omega) (by omega) (by show q.B.es.length+(bss.length+1)<900; omega)
 have w:WOk q (bss.length+1):=⟨w0.last,w0.nxt,w0.here,w0.new,w0.len,w0.files,w0.up,w0.ents⟩
 have lb:(eU bss).length=bss.length:=length_map _
 have gd:iJ (.tuple (eU bss))=true:=by
  have ha:(eU bss).all kT=true:=by
   unfold eU
   rw[all_map,all_eq_true]
   exact fun b hb=>nW (k:="put") (n:=0) (.inl rfl) (by decide) (by decide) (bok b hb).1 (bok b hb).2
  simp [iJ,lb,ha]
  omega
 have rok:∀ r∈bL q.B.up bss,aQ (bT r)=true:=fun r hr'=>by
  unfold bL eF at hr'
  rw[mem_append]at hr'
  rcases hr' with y | y
  ·rw[mem_map]at y
   obtain⟨i,hi,rfl⟩:=y
   rw[mem_range]at hi
   have hb:=bok (bss.getD i []) (by rw[getD_eq_getElem?_getD,getElem?_eq_getElem hi]; exact List.getElem_mem hi)
   exact nW (.inr rfl) (by omega) (by omega) hb.1 hb.2
  ·rw[mem_singleton.mp y]
   exact BM (by omega) (by omega) b1 b9
 have dl:(bL q.B.up bss).length=bss.length+1:=by
  unfold bL eF
  rw[length_append,length_map,length_range]
  rfl
 have rlen:=nT rok
 rw[dl]at rlen
 obtain⟨o1,ms,Ri',rl',o2,o3,o4⟩:=BS w h (by omega) (by omega) (bss:=bss) (by omega) rok (B':=B') (fun _=>hf) bo'.pt (by rw[bo'.up]; omega) m hh t
 refine⟨L,q,tt,v,rfl,k.qw,gt,fun E' hE=>?_⟩
 refine⟨L,q,v,.tuple (eU bss),rfl,k.qw,dv,(fun ds e=>?_),(fun y=>by rw[gd]at y; cases y),fun bss' e h1 h9 hb'=>?_⟩
 ·injection e with e
  rw[<- e]
  refine⟨by rw[lb]; omega,fun x hx=>?_⟩
  unfold eU at hx
  obtain⟨b,hb,rfl⟩:=mem_map.mp hx
  intro bs' e'
  injection e' with e'
  rw[<- e',length_map]
  have:=(bok b hb).2
  omega
 ·have e2:bss'=bss:=by
   injection e with e
   have ff:∀ l:Hk,(eU l).map a9=l:=fun l=>by
    unfold eU
    rw[map_map]
    have:(a9 ∘ fun b:Hm=>PyData.tuple (b.map .int))=id:=funext fun b=>dG b
    rw[this,map_id]
   rw[<- ff bss',<- e,ff]
  subst e2
  refine⟨w,by omega,B',fun _=>hf,fun ez L' H2 st hq=>hE _ (go _ L' _ true H2 st hq ⟨false,?_,⟨ms,Ri',rl',o2,o3.mono (by omega),by omega⟩,fun _=>rfl,fun y=>(by cases y)⟩),fun et p L' H2 st hq np _ gp=>go _ L' _ false H2 st hq ⟨true,?_,⟨ms,Ri',rl',o2,o3.mono (by omega),by omega⟩,fun y=>(by cases y),fun _=>⟨p,rfl,np,by rw[<- up]; exact gp⟩⟩⟩
  ·rw[o1,ez]
   exact bo
  ·rw[o1,et]
   exact bo'
open Classical in
noncomputable def yO (H:Hp) (dk df:Addr) (kvs:Hu):Hp:=fun b=>if own dk df kvs b then none else H b
def BN {dk df:Addr} {kvs:Hu} {b:Addr} {o:HO} (e:H b=some o) (n:¬ own dk df kvs b):yO H dk df kvs b=some o:=by
 unfold yO
 rw[if_neg n]
 exact e
def Fz {dk df:Addr} {kvs:Hu} {L:Pl} {q:Qs} (e:L.dk=dk) (f:∀ b o,H1 b=some o->¬ own dk df kvs b->H2 b=some o) (w:∀ b,fK L b->own dk df kvs b\/H1 b=none) (hq:QueueW A H2 L q false):Kc A (yO H1 dk df kvs) L.qu dk H2 L q:=
 ⟨fun b o e=>by
  unfold yO at e
  split at e
  ·cases e
  ·exact f b o e (by assumption),rfl,e,fun b hb=>by
  unfold yO
  split
  ·rfl
  ·exact(w b hb).resolve_left (by assumption),hq⟩
end
def BR:∀ (l:Hk) (u:Int) {i:Nat},i<l.length->(hZ u l)[i]? = some (u+(i:Int),(l.getD i [],0))
 | [],_,_,h=>absurd h (Nat.not_lt_zero _)
 | b::l,u,0,_=>by
  show some (u,(b,0))=some (u+((0:Nat):Int),_)
  rw[show u+((0:Nat):Int)=u by simp]
  rfl
 | b::l,u,i+1,h=>by
  show (hZ (u+1) l)[i]? = _
  rw[BR l (u+1) (by rw[length_cons]at h; omega),show u+1+(i:Int)=u+((i+1:Nat):Int) by omega]
  rfl
def yL {H:Hp}:∀ {a b:Hr} {x y:Hw},aW H a x->aW H b y->aW H (a++b) (x++y)
 | [],b,x,y,h1,h2=>by
  simp only[aW]at h1
  subst h1
  exact h2
 | d::a,b,x,y,h1,h2=>by
  simp only[aW]at h1
  obtain⟨v,r,rfl,h3,h4⟩:=h1
  simp only[List.cons_append,aW]
  exact⟨v,_,rfl,h3,yL h4 h2⟩
def Fi {G:Hp} {p1 p2:Addr} {ns:Hm} {Q:VK} (h1:G p1=some (.lst (ns.map V.int))) (h2:G p2=some (.lst (ns.map V.int))) (q:Q (.bl false) G):FE (.ref p1) (.ref p2) G Q:=by
 refine⟨.list (ns.map .int),.list (ns.map .int),?_,?_,eY _,eY _,?_⟩
 ·simp only[Den]
  exact⟨p1,_,rfl,h1,bO.mpr rfl⟩
 ·simp only[Den]
  exact⟨p2,_,rfl,h2,bO.mpr rfl⟩
 rw[uG,decide_eq_true rfl]
 exact q
def uJ {H:Hp} {d:PyData}:∀ {a:Hr} {x:Hw},aW H (a++[d]) x->∃ y v,x=y++[v]/\aW H a y/\Den H d v
 | [],x,h=>by
  simp only[nil_append,aW]at h
  obtain⟨v,r,rfl,h1,rfl⟩:=h
  exact⟨[],v,rfl,by simp only[aW],h1⟩
 | e::a,x,h=>by
  simp only[List.cons_append,aW]at h
  obtain⟨v,r,rfl,h1,h2⟩:=h
  obtain⟨y,w,rfl,h3,h4⟩:=uJ h2
  exact⟨v::y,w,rfl,by simp only[aW]; exact⟨v,y,rfl,h1,h3⟩,h4⟩
def nL (bs:Hk):PyData.depth (dN bs)<=4:=by
 have h3:PyData.depthAll ((hZ 0 bs).map lH)<=2:=oH fun d hd=>by
  obtain⟨q,_,rfl⟩:=mem_map.mp hd
  exact uB q.1 (q.2.1,q.2.2,0)
 unfold dN
 show max (PyData.depthAll _+1) (max 0 0)+1<=4
 omega
def zG (bs:Hk):gZ (dN bs)=true/\PyData.depth (dN bs)<=64:=by
 refine⟨?_,le_trans (nL bs) (by decide)⟩
 obtain⟨h1,_⟩:=zK (ds:=(hZ 0 bs).map lH) fun d hd=>by
  obtain⟨q,_,rfl⟩:=mem_map.mp hd
  exact⟨(tE q.1 (q.2.1,q.2.2,0)).1,uB q.1 (q.2.1,q.2.2,0)⟩
 unfold dN
 show (gZ (.list _) && (true && true))=true
 rw[h1]
 rfl
section
variable {P:Program} {w:World} {K:Hh} {mg:Hj} {base:Heap} {A:Ad}
def G7 {f:Addr} {fd:Hs} (F:Fun K "law" "law" oQ f fd) (T:TxtQ K mg A) (bc7:(Maker P w K mg base) "Disk" A.disk 3 ["self","steps"] (qA A.disk A.badNumber)) (ao2:(Method P w K mg base) A.disk "go_on" 3 ["self","steps"] (pZ A.disk A.badNumber)) (c_do:(Callee P w K mg base) "do" 10 ["queue","deed"] (Ae A)) (aj5:(Method P w K mg base) A.queue "put" 8 ["self","body"] (j6 A)) (ad6:(Method P w K mg base) A.queue "letters" 3 ["self"] (gJ A)) (af8:(Method P w K mg base) A.queue "coming" 1 ["self"] (iB A))
  (ah6:(Callee P w K mg base) "_law_cell" 1 ["_law_script","_law_k"] (vB K)) (ao3:(Callee P w K mg base) "_law_mix" 1 ["_law_cell_here","_law_prime","_law_many"] zH) (ab9:(Callee P w K mg base "_law_seed" 1 ["_law_seed_here", "_law_k"] u7)) (aj8:(Callee P w K mg base) "_law_bytes" 2 ["_law_seed_here","_law_most"] qB) (ag4:(Callee P w K mg base) "_law_settings" 2 ["_law_cell_here"] j4) (ad3:(Callee P w K mg base) "_law_queue" 10 ["_law_disk","_law_settings_here"] (iV A)) (ai1:(Callee P w K mg base) "_law_opened" 11 ["_law_disk","_law_settings_here"] (sZ A)) (ae8:(Callee P w K mg base) "_law_stay" 4 ["_law_queue_here"] (pX A)) :
  (FnOk P w K mg base (CXE P w)) 12 f fd ["_law_script"] (pY K):=by
 refine F.okY ["_law_script","_law_settings_here","_law_disk","_law_queue_here","_law_k","_law_ahead","_law_bodies","_law_first","_law_due","_law_told","_law_again","_law_after"] fun cdv A' outer s H vs Q E hr nD0 h=>?_
 obtain⟨a,ns,rfl,hs,hQ⟩:=h
 refine⟨_,aA (aT (i:=1) nD0 ⋯ ⋯ (a5 ag4 ((hr.mono (by decide))) bB (cC (a5 ah6 ((hr.mono (by decide))) bB (aJ (pv 0) (aR aG aF))) aF)))
  (aA (aT (i:=2) nD0 ⋯ ⋯ (GI bc7 ((hr.mono (by decide))) bB (aR gG aF)))
  (aA (aT (i:=3) nD0 ⋯ ⋯ (a5 ad3 ((hr.mono (by decide))) bB (aJ (pv 2) (aJ (pv 1) aF))))
  (aA (kD (sD hV) ⋯ (nZ ⋯ T.ah0 (bM (aY dM (a5 ah6 ((hr.mono (by decide))) bB (aJ (pv 0) (aR aG aF))) aG) aF)) (cH (i:=4) nD0 ⋯ ⋯)
   (aB (bD (cP aj5 T.aa2 ((hr.mono (by decide))) bB (pv 3) (cZ (bV (aJ (pv 4) (aR aG aF))) aF)))))
  (aA (aT (i:=5) nD0 ⋯ ⋯ (a5 ae8 ((hr.mono (by decide))) bB (aJ (pv 3) aF)))
  (aA (aT (i:=6) nD0 ⋯ ⋯ (gT (kR K) ⋯ T.ag9 nI (dR (fB ["_law_k"] [("_law_script",0)] ⋯ (nZ ⋯ T.ah0 (bM (aY cT aG (aY dM (a5 ah6 ((hr.mono (by decide))) bB (aJ (pv 0) (aR aG aF))) aG)) aF)) (fun C s2 H2 ex=>(cH (i:=0) (show List.Nodup (["_law_k","_law_script"]:Ho) by decide +kernel) ⋯ (Or.inl ⋯))) (fun C s2 H2 ex => FK) (fun C s2 H2 ex=>(a5 aj8 ((hr.mono (by decide))) bB (cC (a5 ab9 ((hr.mono (by decide))) bB (cC (a5 ah6 ((hr.mono (by decide))) bB (aJ (pv 1) (aR aG aF))) (aJ (pv 0) aF))) (aR aG aF))))) aF)))
  (aA (aT (i:=7) nD0 ⋯ ⋯ (dO (fE K) (pv 5) aG (fun _ _ => rfl)))
  (aA (aT (i:=8) nD0 ⋯ ⋯ (aY Dc (dO (fE K) (pv 5) aG (fun _ _ => rfl)) (fB ["_law_k","_law_body"] [("_law_first",7)] ⋯ (DS K T.ae7 (pv 6)) (fun C s2 H2 ex=>(vJ K (n:=2) (i5 (cH (i:=0) (show List.Nodup (["_law_k","_law_body","_law_first"]:Ho) by decide +kernel) ⋯ (Or.inl ⋯)) (i5 (cH (i:=1) (show List.Nodup (["_law_k","_law_body","_law_first"]:Ho) by decide +kernel) ⋯ (Or.inl ⋯)) vI)))) (fun C s2 H2 ex => FK) (fun C s2 H2 ex=>(bV (bM (aY cT (pv 2) (pv 0)) (aJ (pv 1) (aR aG aF))))))))
  (aA (bD (cP ao2 T.ac1 ((hr.mono (by decide))) bB (pv 2) (cC (a5 ao3 ((hr.mono (by decide))) bB (cC (a5 ah6 ((hr.mono (by decide))) bB (aJ (pv 0) (aR aG aF))) (aR aG (bM (aY cT (aY kG aG (bE (cV K) ⋯ T.ad0 fO (aJ (pv 6) aF))) aG) aF)))) aF)))
  (aA (aT (i:=9) nD0 ⋯ ⋯ (a5 c_do ((hr.mono (by decide))) bB (aJ (pv 3) (cZ (bV (aR cY (aJ (pv 6) aF))) aF))))
  (aA (bD (cP ao2 T.ac1 ((hr.mono (by decide))) bB (pv 2) (aR gG aF)))
  (aA (aT (i:=10) nD0 ⋯ ⋯ (a5 ai1 ((hr.mono (by decide))) bB (aJ (pv 2) (aJ (pv 1) aF))))
  (aA (a6 (bA Da (pv 10) gG (bF _))
   (aB (aX Ay))
   aO)
  (aA (a6 (bA (Db hr.units) (pv 9) cY (bF _))
   (aB (a6 (bA (Bq hr.units) (a5 ae8 ((hr.mono (by decide))) bB (aJ (pv 10) aF)) (bV (aJ (pv 5) (cZ (bV (aJ (pv 8) (bM (aY cT (pv 7) (bE (cV K) ⋯ T.ad0 fO (aJ (pv 6) aF))) aF))) aF))) ⋯)
    (aB (aX Ay))
    aO))
   (aB (a6 (kB (bA (vM hr.units) (pv 9) (qV ⋯ ⋯ T.aq1 ⋯ T.ah0 (aJ (pv 7) (bM (aY cT (pv 7) (bE (cV K) ⋯ T.ad0 fO (aJ (pv 6) aF))) aF))) (bF _)) (hJ (bA (vM hr.units) (a5 ae8 ((hr.mono (by decide))) bB (aJ (pv 10) aF)) (bV (aJ (pv 8) (bM (aY cT (pv 7) (bE (cV K) ⋯ T.ad0 fO (aJ (pv 6) aF))) aF))) (bF _)))).pt
    (aB (aX Ay))
    aO)))
  (aA (aT (i:=11) nD0 ⋯ ⋯ (gH af8 T.aa2 ((hr.mono (by decide))) bB (pv 10)))
  (aB (aX (lY (fV i6 (cP aj5 T.aa2 ((hr.mono (by decide))) bB (pv 10) (cZ (bV (aR aG aF)) aF)) (pv 11) (bF _)) (lY (fV (Db hr.units) (dO (c6 K) (gH ad6 T.aa2 ((hr.mono (by decide))) bB (pv 10)) (Aw uW aG) (fun _ _=>rfl)) (bV (aJ (pv 11) (cZ (bV (aR aG aF)) (aR aG aF)))) (bF _)) (qU (fV i6 (bE (cV K) ⋯ T.ad0 fO (cC (gH ad6 T.aa2 ((hr.mono (by decide))) bB (pv 10)) aF)) (aY cT (pv 11) aG) (bF _))))))))))))))))))))),?_⟩
 refine⟨_,rfl,a,ns,0,rfl,by decide,hs,_,rfl,fun m hh tr p H2 m1 m2 h1 h2 t1 t2 S1 g1=>?_⟩
 refine fun dk dx hdk hdx ne=>⟨dk,dx,.non,.none,rfl,aC,by simp only[Den],(fun z=>by cases z),fun _ df H4 f4 hdf hD4=>⟨rfl,?_⟩⟩
 obtain⟨S4,fr4⟩:=new_d hdk hdx f4 hdf
 refine⟨_,rfl,_,rfl,dk,df,p,[],⟨[],0,none⟩,[],[],⟨[],0,[]⟩,m,hh,tr,rfl,S4 _ _ g1,m1,m2,h1,h2,t1,t2,hD4,CW,fun L H5 eL f5 w5 hq5=>?_⟩
 obtain⟨S5,fq5,k5⟩:=new_q (H:=H2) (aD.refl _) S4 fr4 eL f5 w5 hq5
 obtain⟨r5,bo5⟩:=EQ m hh tr
 generalize iI ⟨[],0,none⟩ [] ⟨[],0,[]⟩ m hh tr=q5 at k5 r5 bo5 hq5
 obtain⟨L0,eL0⟩:∃ L0,L0=L.qu:=⟨_,rfl⟩
 rw[<- eL0]
 rw[<- eL0]at k5
 clear hq5 fq5 f5 w5 hD4 S4 fr4 hdf f4 hdk hdx
 have c5:=md (i:=ns.getD (Int.toNat 1) 0) (j:=5) (by decide)
 obtain⟨N,eN⟩:∃ N:Nat,(N:Int)=ns.getD (Int.toNat 1) 0 % 5:=⟨(ns.getD (Int.toNat 1) 0 % 5).toNat,by omega⟩
 have N4:N<=4:=by omega
 refine⟨_,rfl,a,ns,1,rfl,by decide,(S1.trans k5.same).seq hs,_,_,rfl,rfl,(by show (0:Int)<5; decide),(N:Int),by rw[eN],by omega,by omega,?_⟩
 refine EL (nM (H:=fun _=>none) 0 (N:Int).toNat) (fun i σ H'=>∃ L q Ri rl z4,σ = [some (.ref a),some (.ref p),some (.ref dk),some (.ref L0),z4,none,none,none,none,none,none,none]/\Kc A H2 L0 dk H' L q/\Rs q 0 Ri rl (7+100 * i)/\Ri.length<=i/\Bo3 q.B ((List.range i).map fun(j:Nat)=>[(j:Int),1])) ⟨L,q5,_,_,_,rfl,k5,r5,le_refl _,bo5⟩ (fun i σ H' hh b u e=>by cases e) ?_ ?_
 ·rintro D' i x σ H5 H6 hD' hi ⟨L,q,Ri,rl,z4,rfl,k,r,hR,bo⟩ s6 rfl
  have k6:=k.sames s6
  obtain⟨dx6,e6⟩:=k6.self
  have hi':i<4:=by omega
  refine⟨_,rfl,L0,dx6,_,rfl,e6,rfl,_,rfl,bP,fun pt hpt=>?_⟩
  have s7:=aI (o:=.tup [.int (0+(i:Int)),.int 1]) hpt
  have lb:((List.range i).map fun(j:Nat)=>[(j:Int),(1:Int)]).length=i:=by rw[length_map,length_range]
  refine jK (σ:=[]) (wO (k6.sames s7) r bo (by omega) (by omega) (by omega) (b:=[(i:Int),1]) (fun y hy=>?_) (show 2<=60 by decide) ?_ fun L' q' H8 Ri' rl' st k' r' hR' bo'=>?_)
  ·rcases mem_cons.mp hy with rfl | hy
   ·exact⟨by omega,by omega⟩
   ·rw[mem_singleton.mp hy]
    decide
  ·simp only[Den]
   refine⟨pt,_,rfl,aC,?_⟩
   rw[show (0:Int)+(i:Int)=i by omega]
   exact bO.mpr rfl
  ·refine(hD' _ _ ⟨L',q',Ri',rl',_,rfl,k',r'.mono (by omega),by omega,?_⟩).1
   rw[range_succ,map_append]
   exact bo'
 rintro σ H5 ⟨L,q,Ri,rl,z4,rfl,k,r,hR,bo⟩
 rw[show (N:Int).toNat=N by omega]at r hR bo
 obtain⟨bs,ebs⟩:∃ bs,bs=(List.range N).map fun(j:Nat)=>[(j:Int),(1:Int)]:=⟨_,rfl⟩
 have lb:bs.length=N:=by rw[ebs,length_map,length_range]
 rw[<- ebs]at bo
 clear ebs
 have few:q.B.es.length<800/\(q.B.es.map (·.1)).Pairwise (· <= ·):=⟨by rw[bo.len]; omega,bo.so.imp Int.le_of_lt⟩
 refine⟨_,rfl,L,q,(by rw[k.qu]),k.qw,few,fun ps pl H6 s6 fpl gs6 dl6=>?_⟩
 rw[bo.stay]at dl6
 rw[bo.up,lb]at gs6
 have npl:=(k.off fpl).2
 have k6:=k.sames s6
 have c9:=md (i:=ns.getD (Int.toNat 3) 0) (j:=9) (by decide)
 obtain⟨nm,enm⟩:∃ nm:Nat,(nm:Int)=1+ns.getD (Int.toNat 3) 0 % 9:=⟨(1+ns.getD (Int.toNat 3) 0 % 9).toNat,by omega⟩
 have nm9:1<=nm/\nm<=9:=by omega
 have hs6:=(S1.trans k6.same).seq hs
 refine⟨_,rfl,a,ns,3,rfl,by decide,hs6,_,_,rfl,rfl,(by show (0:Int)<9; decide),_,_,rfl,rfl,(nm:Int),by rw[enm],by omega,by omega,?_⟩
 refine dH (nM (H:=H6) 0 (nm:Int).toNat) (le_trans (show _<=9 by omega) (by decide)) (fun i y H'=>Den H' (.tuple ((jS (qI (ns.getD (Int.toNat 2) 0) i) 12).map .int)) y) (fun i y G1 G2 s h=>h.n s (wR _)) (fun σ=>∃ z,σ = [z,some (.ref a)]) ⟨none,rfl⟩ ?_ ?_
 ·intro i y σc H7 hi hσ s7 hx Q' hQ'
  obtain⟨z,rfl⟩:=hσ
  subst hx
  have e0:(0:Int)+(i:Int)=i:=by omega
  refine⟨_,rfl,a,ns,2,rfl,by decide,s7.seq hs6,_,rfl,_,_,rfl,_,12,rfl,by decide,by decide,fun pb H8 s8 gb=>?_⟩
  rw[e0]at gb
  refine hQ' _ _ _ ⟨_,rfl⟩ s8 ?_
  simp only[Den]
  exact⟨pb,_,rfl,gb,bO.mpr rfl⟩
 intro D ys H7 hD s7 gD hlen hR7
 refine⟨D,_,rfl,.inl ⟨SqL.of gD,fun pb hpb=>?_⟩⟩
 have s8:=aI (o:=.tup ys) hpb
 have g8:upd H7 pb (.tup ys) pb=some (.tup ys):=aC
 generalize upd H7 pb (.tup ys)=H8 at s8 g8 ⊢
 obtain⟨bss,ebss⟩:∃ bss,bss=(List.range nm).map fun(i:Nat)=>jS (qI (ns.getD (Int.toNat 2) 0) (i:Int)) 12:=⟨_,rfl⟩
 have lbs:bss.length=nm:=by rw[ebss,length_map,length_range]
 have hy:aW H8 (eU bss) ys:=by
  refine nE (by unfold eU; rw[length_map,lbs]; omega) fun i y e=>?_
  have hi:i<nm:=by
   have:=(List.getElem?_eq_some_iff.mp e).1
   omega
  refine⟨_,?_,(hR7 i y e).same s8⟩
  unfold eU
  rw[getElem?_map,ebss,getElem?_map,getElem?_range hi]
  rfl
 have bok:∀ b∈bss,eC b/\b.length<=60:=fun b hb=>by
  rw[ebss]at hb
  obtain⟨i,_,e⟩:=mem_map.mp hb
  rw[<- e]
  exact⟨Eb _ _,Cf (by decide) (by decide)⟩
 clear ebss hR7
 have lys:ys.length=bss.length:=by omega
 have k8:=k6.sames (s7.trans s8)
 have gs8:=(s7.trans s8) _ _ gs6
 have dl8:=dl6.same (s7.trans s8)
 simp only[Den]at dl8
 obtain⟨_,xs,e,gl8,dl8⟩:=dl8
 cases e
 refine⟨_,rfl,ps,_,_,.int (N:Int),rfl,rfl,SqT.of gs8,cJ (by decide) rfl,?_⟩
 refine⟨_,rfl,ps,_,_,.ref pl,rfl,rfl,SqT.of gs8,cJ (by decide) rfl,_,rfl,pb,_,rfl,SqT.of g8,?_⟩
 refine dH (pV (K:=K) 0 (SqT.of g8)) (by rw[lys]; exact le_trans (show _<=9 by omega) (by decide)) (fun i y H'=>Den H' (lH ((N:Int)+(i:Int),(bss.getD i [],0))) y) (fun i y G1 G2 s h=>h.n s (vW _ (_,_,0))) (fun σ=>∃ z1 z2,σ = [z1,z2,some (.int (N:Int))]) ⟨none,none,rfl⟩ ?_ ?_
 ·intro i x σc H9 hi hσ s9 hx Q' hQ'
  obtain⟨z1,z2,rfl⟩:=hσ
  obtain⟨pe,u,rfl,hp,hv⟩:=hx
  obtain⟨e,he,dn⟩:=hy.get hv
  rw[lys]at hi
  have eb:bss[i]? = some (bss.getD i []):=by rw[getD_eq_getElem?_getD,getElem?_eq_getElem hi]; rfl
  unfold eU at he
  rw[getElem?_map,eb]at he
  cases (Option.some.inj he:PyData.tuple ((bss.getD i []).map .int)=e)
  refine⟨pe,_,rfl,SqT.of hp,rfl,_,_,rfl,_,_,rfl,rfl,?_⟩
  refine⟨_,rfl,_,rfl,_,_,rfl,rfl,_,rfl,bP,fun pt hpt=>?_⟩
  have ei:(N:Int)+(0+(i:Int))=(N:Int)+(i:Int):=by omega
  refine hQ' _ _ _ ⟨_,_,rfl⟩ (aI hpt) ?_
  show Den (upd H9 pt (.tup [.int ((N:Int)+(0+(i:Int))),u,.int 0])) _ _
  rw[ei]
  unfold lH
  simp only[Den,aW]
  refine⟨pt,_,rfl,aC,_,_,rfl,rfl,_,_,rfl,?_,_,_,rfl,rfl,rfl⟩
  have:=dn.same (s9.trans (aI (o:=.tup [.int ((N:Int)+(i:Int)),u,.int 0]) hpt))
  simp only[Den]at this
  exact this
 intro D2 ys2 H9 hD2 s9 gD2 hlen2 hR9
 rw[lys]at hlen2
 have dy2:aW H9 ((hZ (N:Int) bss).map lH) ys2:=by
  refine nE (by rw[length_map,sA]; omega) fun i y e=>?_
  have hi:i<bss.length:=by
   have:=(List.getElem?_eq_some_iff.mp e).1
   omega
  refine⟨_,?_,hR9 i y e⟩
  rw[getElem?_map,BR _ _ hi]
  rfl
 refine⟨pl,D2,xs,ys2,rfl,rfl,s9 _ _ gl8,gD2,?_,fun pd hpd=>?_⟩
 ·have:=dl8.length
  rw[length_map,sA]at this
  exact le_trans (show _<=1000 by omega) (by decide)
 have s10:=aI (o:=.lst (xs++ys2)) hpd
 have g10:upd H9 pd (.lst (xs++ys2)) pd=some (.lst (xs++ys2)):=aC
 have k9:=k8.sames s9
 have npd:=(k9.off hpd).2
 generalize upd H9 pd (.lst (xs++ys2))=H10 at s10 g10 ⊢
 have s810:=s9.trans s10
 have k10:=k9.sames s10
 have dd10:aW H10 ((hZ 0 (bs++bss)).map lH) (xs++ys2):=by
  rw[kU,map_append,Int.zero_add,lb]
  exact yL (dl8.same s810) (dy2.same s10)
 have kb:=k10.base
 have hsB:SqL K (pD H10 L) a (ns.map V.int):=(S1.trans k10.cutS).seq hs
 have gpB:=k10.cutS _ _ g1
 have gsB:=k10.cutT _ _ (s810 _ _ gs8)
 have gbB:=k10.cutT _ _ (s810 _ _ g8)
 have hyB:aW (pD H10 L) (eU bss) ys:=jR k10.cutT (yV _) (hy.same s810)
 have ltp:∀ l:La,cW (l.map lH)=true:=fun l=>wQ (f:=lH) (fun q=>vW q.1 (q.2.1,q.2.2,0)) l
 have dlB:Den (pD H10 L) (.list ((hZ 0 bs).map lH)) (.ref pl):=k10.due (ltp _) npl (by simp only[Den]; exact⟨pl,xs,rfl,s810 _ _ gl8,dl8.same s810⟩)
 have ddB:Den (pD H10 L) (.list ((hZ 0 (bs++bss)).map lH)) (.ref pd):=k10.due (ltp _) npd (by simp only[Den]; exact⟨pd,_,rfl,g10,dd10⟩)
 generalize pD H10 L=HB at kb hsB gpB gsB gbB hyB dlB ddB
 clear k10 k9 k8 k6 k dd10 dy2 gD2 hR9 hD2 g8 gD hD gs8 gl8 dl8 gs6 dl6 hy
 obtain⟨mm,emm⟩:∃ mm,mm=HE (ns.getD (Int.toNat 4) 0) 9949 (20 * (ys.length:Int)+20):=⟨_,rfl⟩
 have mmb:=md (i:=(ns.getD (Int.toNat 4) 0 * 48271 % 9949) ^ 3 % 9949) (j:=20 * (ys.length:Int)+20) (by omega)
 have mm2:0<=mm/\mm<=100000:=by
  unfold HE at emm
  omega
 have sok:fQ (.int mm)=true:=by
  show bI 0 100000 (.int mm)=true
  simp only[bI,and_eq_true,decide_eq_true_eq]
  exact mm2
 obtain⟨dd,edk⟩:=kb.disk.self
 refine⟨_,rfl,dk,dd,_,rfl,edk,rfl,_,rfl,a,ns,4,rfl,by decide,kb.same.seq hsB,_,rfl,pb,_,rfl,.inr (SqT.of (kb.same _ _ gbB)),_,_,rfl,rfl,.inl ⟨by decide,by decide⟩,_,_,rfl,rfl,_,9949,20 * (ys.length:Int)+20,rfl,by decide,by decide,by omega,?_⟩
 rw[<- emm]
 refine⟨dk,L.df,L.kvs,q.D,.int mm,.int mm,rfl,kb.disk,by simp only[Den],(fun z=>by rw[sok]at z; cases z),fun _ H11 f11 hD11=>?_⟩
 obtain⟨hq11,st11⟩:=kb.qw.toDisk (kvs':=L.kvs) (H':=H11) (fun b o e n=>f11 b o e fun z=>n (.inl (by rw[z,kb.dk]))) (fun b h=>.inl h) (by rw[kb.dk]; exact hD11)
 have hq11:QueueW A H11 L { q with D:=⟨q.D.fs,q.D.done,some mm⟩ } false:=hq11
 have st11:Step L L H10 H11:=st11
 have k11:=kb.step st11 hq11
 refine⟨_,rfl,_,rfl,bP,fun tt htt=>?_⟩
 have s12:=aI (o:=.tup [.str "all",.ref pb]) htt
 have g12:upd H11 tt (.tup [.str "all",.ref pb]) tt=some (.tup [.str "all",.ref pb]):=aC
 generalize upd H11 tt (.tup [.str "all",.ref pb])=H12 at s12 g12 ⊢
 have k12:=k11.sames s12
 refine jK (σ:=[]) (Cl k12 (Ri:=Ri) (rl:=rl) (z:=7+100 * N) ⟨rfl,r.f0,r.last,r.keys,r.files,r.good,r.fold,r.parts,r.up,r.size⟩ bo (by omega) (by omega) (by omega) (by omega) (by omega) bok m hh tr g12 (by simp only[Den]; exact⟨pb,ys,rfl,k12.same _ _ gbB,hyB.same k12.same⟩) fun v L' q' wr H13 st13 hq13 told=>?_)
 obtain⟨S13,fr13⟩:=st13.keepS k12.same k12.fr
 have edk':L'.dk=dk:=st13.dk.trans k12.dk
 have hD13:DiskAt A.disk H13 dk L'.df L'.kvs q'.D:=by
  have:=hq13.disk
  rw[edk']at this
  exact this
 have ndk:HB dk=none:=fr13 dk (.inr (.inr (.inr (.inl edk'.symm))))
 obtain⟨dd13,e13⟩:=hD13.self
 refine⟨_,rfl,dk,dd13,_,rfl,e13,rfl,jK (σ:=[]) ⟨dk,L'.df,L'.kvs,q'.D,.non,.none,rfl,hD13,by simp only[Den],(fun z=>by cases z),fun _ H14 f14 hD14=>?_⟩⟩
 have S14:aD HB H14:=fun b o e=>f14 b o (S13 b o e) fun z=>by rw[z,ndk]at e; cases e
 obtain⟨ok,boq,⟨ms,Ri9,rl9,dg9,r9,hR9⟩,tf,tt'⟩:=told
 refine⟨_,rfl,_,rfl,dk,L'.df,p,L'.kvs,jW q'.D,ms,ms,q'.B,m,hh,tr,rfl,S14 _ _ gpB,m1,m2,h1,h2,t1,t2,hD14,dg9,fun L9 H15 eL9 f15 w15 hq15=>?_⟩
 have ka:=Fz eL9 f15 w15 hq15
 have own13:∀ b,own dk L'.df L'.kvs b->fK L' b:=fun b hb=>.inr (.inr (.inr (by rw[<- edk']at hb; exact hb)))
 have SC:aD HB (yO H14 dk L'.df L'.kvs):=fun b o e=>BN (S14 b o e) fun z=>by rw[fr13 b (own13 b z)]at e; cases e
 have ttC:ok=true->∃ pt,v = .ref pt/\yO H14 dk L'.df L'.kvs pt=some (.lst ((dU (N:Int) bss.length).map V.int)):=fun eo=>by
  obtain⟨pt,ev,np,gp⟩:=tt' eo
  rw[lb]at gp
  exact⟨pt,ev,BN (f14 _ _ gp fun z=>np (by rw[z]; exact .inr (.inr (.inr (.inl edk'.symm))))) fun z=>np (own13 _ z)⟩
 generalize yO H14 dk L'.df L'.kvs=HC at ka SC ttC
 have bo9:Bo3 (iI (jW q'.D) ms q'.B m hh tr).B (if ok=true then bs++bss else bs):=boq
 generalize iI (jW q'.D) ms q'.B m hh tr=q9 at ka r9 bo9 hq15
 clear hq13 hD13 hD14 dg9 boq tt' f14 f15 w15 st13
 refine⟨_,rfl,rfl,_,rfl,?_⟩
 show if decide (V.ref L9.qu=V.non)=true then _ else _
 rw[decide_eq_false (fun z=>by cases z)]
 refine a7 (bG rfl ?_)
 have len9:(if ok=true then bs++bss else bs).length<=13:=by
  split
  ·rw[length_append]
   omega
  ·omega
 have few9:q9.B.es.length<800/\(q9.B.es.map (·.1)).Pairwise (· <= ·):=⟨by rw[bo9.len]; omega,bo9.so.imp Int.le_of_lt⟩
 refine A1 (fun σ' H'=>σ'=[some (.ref a),some (.ref p),some (.ref dk),some (.ref L0),z4,some (.ref ps),some (.ref pb),some (.int (N:Int)),some (.ref pd),some v,some (.ref L9.qu),none]/\aD H15 H') (fun nx hnx=>?_) ?_
 ·have stF:∀ l:Hk,gZ (dN l)=true/\PyData.depth (dN l)<=64:=zG
  have bl:=lys
  cases ok with
  | false=>
   have bo9:Bo3 q9.B bs:=bo9
   cases tf rfl
   refine⟨_,rfl,.str "stopped",.str "stopped",by simp only[Den],by simp only[Den],by decide +kernel,by decide +kernel,_,rfl,?_⟩
   rw[show PyData.eqv (.str "stopped") (.str "stopped")=true by decide +kernel]
   refine aV ⟨_,rfl,L9,q9,rfl,ka.qw,few9,fun ps9 pl9 H16 s16 f16 gs16 dl16=>?_⟩
   rw[bo9.stay]at dl16
   rw[bo9.up,lb]at gs16
   have S16:=SC.trans (ka.same.trans s16)
   refine⟨_,rfl,_,rfl,_,rfl,_,rfl,pb,_,rfl,.inr (SqT.of (S16 _ _ gbB)),_,_,rfl,rfl,bP,fun t1 ht1=>⟨bP,fun t2 ht2=>?_⟩⟩
   have s17:=aI (o:=.tup [.ref pd,.int ((N:Int)+(ys.length:Int))]) ht1
   have g17:upd H16 t1 (.tup [.ref pd,.int ((N:Int)+(ys.length:Int))]) t1=some (.tup [.ref pd,.int ((N:Int)+(ys.length:Int))]):=aC
   generalize upd H16 t1 (.tup [.ref pd,.int ((N:Int)+(ys.length:Int))])=H17 at s17 g17 ht2 ⊢
   have s18:=aI (o:=.tup [.ref ps,.ref t1]) ht2
   have g18:upd H17 t2 (.tup [.ref ps,.ref t1]) t2=some (.tup [.ref ps,.ref t1]):=aC
   generalize upd H17 t2 (.tup [.ref ps,.ref t1])=H18 at s18 g18 ⊢
   have S18:=S16.trans (s17.trans s18)
   have dS:Den H18 (dN bs) (.ref ps):=by
    unfold dN
    simp only[Den,aW]
    have:=dlB.same S18
    simp only[Den]at this
    exact⟨ps,_,rfl,S18 _ _ gsB,_,_,rfl,this,_,_,rfl,by rw[lb],rfl⟩
   have dT:Den H18 (dN (bs++bss)) (.ref t1):=by
    unfold dN
    simp only[Den,aW]
    have:=ddB.same S18
    simp only[Den]at this
    refine⟨t1,_,rfl,s18 _ _ g17,_,_,rfl,this,_,_,rfl,?_,rfl⟩
    rw[length_append,lb,lys]
    rfl
   have d9:Den H18 (dN bs) (.ref ps9):=by
    unfold dN
    simp only[Den,aW]
    have:=dl16.same (s17.trans s18)
    simp only[Den]at this
    exact⟨ps9,_,rfl,(s17.trans s18) _ _ gs16,_,_,rfl,this,_,_,rfl,by rw[lb],rfl⟩
   refine⟨[dN bs,dN (bs++bss)],dN bs,?_,d9,?_,gR (stF bs).1 (stF bs).2,_,rfl,?_⟩
   ·simp only[Den,aW]
    exact⟨t2,_,rfl,g18,_,_,rfl,dS,_,_,rfl,dT,rfl⟩
   ·have a1:=stF bs
    have a2:=stF (bs++bss)
    refine gR ?_ ?_
    ·show (gZ (dN bs) && (gZ (dN (bs++bss)) && true))=true
     rw[a1.1,a2.1]
     rfl
    ·have b1:=nL bs
     have b2:=nL (bs++bss)
     show max (PyData.depth (dN bs)) (max (PyData.depth (dN (bs++bss))) 0)+1<=64
     omega
   ·rw[any_cons,m6 (stF bs).1]
    exact a7 (bG rfl (hnx _ _ ⟨rfl,s16.trans (s17.trans s18)⟩))
  | true=>
   have bo9:Bo3 q9.B (bs++bss):=bo9
   obtain⟨pt,rfl,gpt⟩:=ttC rfl
   have d15:Den H15 (.list ((dU (N:Int) bss.length).map .int)) (.ref pt):=by
    simp only[Den]
    exact⟨pt,_,rfl,ka.same _ _ gpt,bO.mpr rfl⟩
   refine⟨_,rfl,.list ((dU (N:Int) bss.length).map .int),.str "stopped",d15,by simp only[Den],eY _,by decide +kernel,_,rfl,?_⟩
   rw[show PyData.eqv (.list ((dU (N:Int) bss.length).map .int)) (.str "stopped")=false from rfl]
   refine a7 ⟨_,rfl,_,rfl,_,rfl,_,rfl,pb,_,rfl,.inr (SqT.of (ka.same _ _ (SC _ _ gbB))),_,_,rfl,rfl,(N:Int),(N:Int)+(ys.length:Int),rfl,⟨by omega,by omega,by omega,by omega⟩,le_trans (show _<=1000 by omega) (by decide),fun p16 hp16=>?_⟩
   have er:((List.range ((N:Int)+(ys.length:Int) - (N:Int)).toNat).map fun(j:Nat)=>V.int ((N:Int)+(j:Int)))=(dU (N:Int) bss.length).map V.int:=by
    rw[show ((N:Int)+(ys.length:Int) - (N:Int)).toNat=bss.length by omega]
    unfold dU
    rw[map_map]
    rfl
   have s16:=aI (o:=.lst ((List.range ((N:Int)+(ys.length:Int) - (N:Int)).toNat).map fun(j:Nat)=>V.int ((N:Int)+(j:Int)))) hp16
   have g16:upd H15 p16 (.lst ((List.range ((N:Int)+(ys.length:Int) - (N:Int)).toNat).map fun(j:Nat)=>V.int ((N:Int)+(j:Int)))) p16=some (.lst ((dU (N:Int) bss.length).map V.int)):=by
    rw[aC,er]
   generalize upd H15 p16 (.lst ((List.range ((N:Int)+(ys.length:Int) - (N:Int)).toNat).map fun(j:Nat)=>V.int ((N:Int)+(j:Int))))=H16 at s16 g16 ⊢
   refine Fi (s16 _ _ (ka.same _ _ gpt)) g16 ⟨_,rfl,a7 ?_⟩
   have ka:=ka.sames s16
   refine⟨_,rfl,L9,q9,rfl,ka.qw,few9,fun ps9 pl9 H17 s17 f17 gs17 dl17=>?_⟩
   rw[bo9.stay]at dl17
   rw[bo9.up]at gs17
   have S17:=SC.trans (ka.same.trans s17)
   refine⟨_,rfl,_,rfl,_,rfl,pb,_,rfl,.inr (SqT.of (S17 _ _ gbB)),_,_,rfl,rfl,bP,fun t1 ht1=>?_⟩
   have s18:=aI (o:=.tup [.ref pd,.int ((N:Int)+(ys.length:Int))]) ht1
   have g18:upd H17 t1 (.tup [.ref pd,.int ((N:Int)+(ys.length:Int))]) t1=some (.tup [.ref pd,.int ((N:Int)+(ys.length:Int))]):=aC
   generalize upd H17 t1 (.tup [.ref pd,.int ((N:Int)+(ys.length:Int))])=H18 at s18 g18 ⊢
   have S18:=S17.trans s18
   have dT:Den H18 (dN (bs++bss)) (.ref t1):=by
    unfold dN
    simp only[Den,aW]
    have:=ddB.same S18
    simp only[Den]at this
    refine⟨t1,_,rfl,g18,_,_,rfl,this,_,_,rfl,?_,rfl⟩
    rw[length_append,lb,lys]
    rfl
   have d9:Den H18 (dN (bs++bss)) (.ref ps9):=by
    unfold dN
    simp only[Den,aW]
    have:=dl17.same s18
    simp only[Den]at this
    exact⟨ps9,_,rfl,s18 _ _ gs17,_,_,rfl,this,_,_,rfl,rfl,rfl⟩
   exact Dq d9 dT (stF _).1 (stF _).2 ⟨_,rfl,a7 (bG rfl (hnx _ _ ⟨rfl,s16.trans (s17.trans s18)⟩))⟩
 rintro σ' H16 ⟨rfl,s16⟩
 have ka:=ka.sames s16
 obtain⟨dx16,e16⟩:=ka.self
 have up9:=bo9.up
 refine⟨_,rfl,L9.qu,dx16,_,rfl,e16,rfl,jK (σ:=[]) ⟨L9,q9,rfl,ka.qw,?_⟩⟩
 rw[up9]
 generalize (if ok=true then bs++bss else bs)=bs9 at bo9 len9 up9
 refine⟨_,rfl,L9.qu,dx16,_,rfl,e16,rfl,bP,fun p17 hp17=>?_⟩
 have s17:=aI (o:=.tup [.int 8]) hp17
 refine jK (σ:=[]) (wO (ka.sames s17) r9 bo9 (by omega) (by omega) (by omega) (b:=[8]) (fun y hy=>?_) (show 1<=60 by decide) ?_ fun L8 q8 H18 Ri8 rl8 st8 k8 r8 hR8 bo8=>?_)
 ·rw[mem_singleton.mp hy]
  decide
 ·simp only[Den]
  exact⟨p17,_,rfl,aC,bO.mpr rfl⟩
 refine⟨_,rfl,rfl,_,rfl,?_⟩
 rw[decide_eq_true rfl]
 refine aV ?_
 obtain⟨dx18,e18⟩:=k8.self
 have few8:q8.B.es.length<800/\(q8.B.es.map (·.1)).Pairwise (· <= ·):=⟨by rw[bo8.len,length_append]; show bs9.length+1<800; omega,bo8.so.imp Int.le_of_lt⟩
 refine⟨_,rfl,L9.qu,dx18,_,rfl,e18,rfl,jK (σ:=[]) ⟨L8,q8,(by rw[k8.qu]),k8.qw,few8,fun ms pm pw pL H19 s19 f19 d19=>?_⟩⟩
 obtain rfl:ms=q8.B.es.map (·.1):=iC pm pw few8.2
 rw[bo8.stay,kU,map_append,Int.zero_add]at d19
 simp only[Den]at d19
 obtain⟨_,xs9,e9,g19,dx9⟩:=d19
 cases e9
 obtain⟨yi,yl,rfl,di,dl⟩:=uJ dx9
 refine⟨_,rfl,pL,_,_,yl,rfl,rfl,SqL.of g19,yY _ _,?_⟩
 refine⟨_,rfl,bP,fun t1 ht1=>⟨bP,fun t2 ht2=>?_⟩⟩
 have s20:=aI (o:=.tup [.int 8]) ht1
 have g20:upd H19 t1 (.tup [.int 8]) t1=some (.tup [.int 8]):=aC
 generalize upd H19 t1 (.tup [.int 8])=H20 at s20 g20 ht2 ⊢
 have s21:=aI (o:=.tup [.int (bs9.length:Int),.ref t1,.int 0]) ht2
 have g21:upd H20 t2 (.tup [.int (bs9.length:Int),.ref t1,.int 0]) t2=some (.tup [.int (bs9.length:Int),.ref t1,.int 0]):=aC
 generalize upd H20 t2 (.tup [.int (bs9.length:Int),.ref t1,.int 0])=H21 at s21 g21 ⊢
 have sh:=tE (bs9.length:Int) (([8]:Hm),0,0)
 refine⟨lH ((bs9.length:Int),([8],0)),lH ((bs9.length:Int),([8],0)),dl.same (s20.trans s21),?_,gR sh.1 sh.2,gR sh.1 sh.2,?_⟩
 ·unfold lH
  simp only[Den,aW]
  exact⟨t2,_,rfl,g21,_,_,rfl,rfl,_,_,rfl,⟨t1,_,rfl,s21 _ _ g20,_,_,rfl,rfl,rfl⟩,_,_,rfl,rfl,rfl⟩
 rw[m6 (show gZ (lH ((bs9.length:Int),([8],0)))=true from sh.1)]
 refine⟨_,rfl,aV ?_⟩
 have k21:=k8.sames (s19.trans (s20.trans s21))
 obtain⟨dx21,e21⟩:=k21.self
 refine⟨_,rfl,L9.qu,dx21,_,rfl,e21,rfl,jK (σ:=[]) ⟨L8,q8,(by rw[k21.qu]),k21.qw,few8,fun ms pm pw pL2 H22 s22 f22 d22=>?_⟩⟩
 simp only[Den]at d22
 obtain⟨_,xs8,e8,g22,dx8⟩:=d22
 cases e8
 have l8:=dx8.length
 rw[length_map,pm.length_eq,length_map,bo8.len,length_append]at l8
 refine⟨pL2,_,rfl,.inl (SqL.of g22),_,rfl,_,_,rfl,rfl,rfl,?_⟩
 rw[decide_eq_true (by rw[l8]; rfl)]
 exact hQ _
end
structure DefIn (K:Hh) (x:Str) (st:Stmt):Prop where
 ex:∃ (f:Addr) (oc:Value) (od:Option Addr) (kV doc pm:Value) (an:Option Addr) (cdv ct:Value) (osl:Hl),nsIn K mainGlobals x=some (some (.ref f))/\
  K.lookup f=some ⟨oc,od,.func (fnOf x x (fG st) (d8 st) (cM st) .none kV doc pm an cdv ct),osl⟩/\codeIn K cdv x=true/\keepIn K (.ref f)=true
def aZ {K:Hh} {x:Str} {st:Stmt} {f:Addr} {oc:Value} {od an:Option Addr} {osl:Hl} {kV doc pm cdv ct:Value} (a:nsIn K mainGlobals x=some (some (.ref f)))
  (l:K.lookup f=some ⟨oc,od,.func (fnOf x x (fG st) (d8 st) (cM st) .none kV doc pm an cdv ct),osl⟩) (c:codeIn K cdv x=true) (k:keepIn K (.ref f)=true):DefIn K x st:=⟨⟨f,oc,od,kV,doc,pm,an,cdv,ct,osl,a,l,c,k⟩⟩
def DefIn.get {K:Hh} {h:Heap} {mg:Hj} {x:Str} {st:Stmt} (X:K.In h) (G:h.Ns mainGlobals mg) (D:DefIn K x st):∃ f fd,Fun K x x st f fd/\mg x=some (.ref f)/\keepIn K (.ref f)=true:=by
 obtain⟨f,oc,od,kV,doc,pm,an,cdv,ct,osl,a,l,c,k⟩:=D.ex
 exact⟨f,_,AN l c k,mg_of X G a,k⟩
def pF:Ho->Hq->Bool
 | [],[]=>true
 | k::ks,.str x _::vs=>decide (x=k) && pF ks vs
 | _,_=>false
def mB:∀ {ks:Ho} {vs:Hq},pF ks vs=true->bR (ks.map V.str) vs
 | [],[],_=>.nil
 | k::ks,.str x t::vs,h=>by
  simp only[pF,and_eq_true,decide_eq_true_eq]at h
  obtain⟨h1,h2⟩:=h
  subst h1
  exact .cons ⟨t,rfl⟩ (mB h2)
def vX (K:Hh) (a:Addr):Bool:=match K.lookup a with
 | some ⟨.type t,none,.seq its n,_⟩=>decide (t = "tuple") && (decide (its.size<=100) && pF bW its.toList)
 | _=>false
def AI {K:Hh} {a:Addr} (h:vX K a=true):(∀ H,SqT K H a (bW.map V.str))/\∃ o,K.lookup a=some o/\o.cls = .type "tuple"/\o.dict=none:=by
 unfold vX at h
 split at h
 ·next t its n sl e=>
  simp only[and_eq_true,decide_eq_true_eq]at h
  obtain⟨h1,h2,h3⟩:=h
  subst h1
  exact⟨fun H=>.inr ⟨_,its,n,e,rfl,rfl,bP h2,mB h3⟩,_,e,rfl,rfl⟩
 ·cases h
structure MethIn (K:Hh) (C:Addr) (x qual:Str) (st:Stmt):Prop where
 ex:∃ (f:Addr) (oc:Value) (od:Option Addr) (kV doc pm:Value) (an:Option Addr) (cdv ct:Value) (osl:Hl),findIn K (.ref C) x=some (some (.ref f))/\PySem.W.isFn K (.ref f)=true/\
  K.lookup f=some ⟨oc,od,.func (fnOf x qual (fG st) (d8 st) (cM st) .none kV doc pm an cdv ct),osl⟩/\codeIn K cdv qual=true/\keepIn K (.ref f)=true
def aU {K:Hh} {C:Addr} {x qual:Str} {st:Stmt} {f:Addr} {oc:Value} {od an:Option Addr} {osl:Hl} {kV doc pm cdv ct:Value} (a:findIn K (.ref C) x=some (some (.ref f))) (i:PySem.W.isFn K (.ref f)=true)
  (l:K.lookup f=some ⟨oc,od,.func (fnOf x qual (fG st) (d8 st) (cM st) .none kV doc pm an cdv ct),osl⟩) (c:codeIn K cdv qual=true) (k:keepIn K (.ref f)=true):MethIn K C x qual st:=⟨⟨f,oc,od,kV,doc,pm,an,cdv,ct,osl,a,i,l,c,k⟩⟩
def MethIn.get {K:Hh} {C:Addr} {x qual:Str} {st:Stmt} (D:MethIn K C x qual st):∃ f fd,Fun K x qual st f fd/\findIn K (.ref C) x=some (some (.ref f))/\PySem.W.isFn K (.ref f)=true/\keepIn K (.ref f)=true:=by
 obtain⟨f,oc,od,kV,doc,pm,an,cdv,ct,osl,a,i,l,c,k⟩:=D.ex
 exact⟨f,_,AN l c k,a,i,k⟩
def ucs {P:Hq->Prop} {n:Nat} (h:∀ a us,us.length=n->P (a::us)):∀ us,us.length=n+1->P us:=fun us hl=>by
 cases us with
 | nil=>cases hl
 | cons a r=>exact h a r (Nat.succ.inj hl)
def us0 {P:Hq->Prop} (h:P []):∀ us,us.length=0->P us:=fun us hl=>by
 cases us with
 | nil=>exact h
 | cons a r=>cases hl
def Em (x qual:Str) (st:Stmt) (ps:Ho):Prop:=∀ (kV doc pm:Value) (an:Option Addr) (cdv ct:Value) (us:Hq),us.length=ps.length->bindArgs (fnOf x qual (fG st) (d8 st) (cM st) .none kV doc pm an cdv ct) ⟨us,[]⟩=pure (ps.zip us)
local macro_rules | `(tactic| trivial) => `(tactic| (intro _ _ _ _ _ _; (repeat refine ucs fun _ => ?_); exact us0 rfl))
structure Ev (P:Program) (w:World) (K:Hh) (mg:Hj) (base h:Heap):Prop where
 X:K.In h
 G:h.Ns mainGlobals mg
section
variable {P:Program} {w:World} {K:Hh} {mg:Hj} {base h:Heap} {x qual:Str} {st:Stmt} {C:Addr} {k:Nat} {ps:Ho} {sp:Sp}
def Ev.c (V:Ev P w K mg base h) (D:DefIn K x st) (ok:∀ {f fd},Fun K x x st f fd->(FnOk P w K mg base (CXE P w)) k f fd ps sp) (b:Em x x st ps:=by trivial):(Callee P w K mg base) x k ps sp:=by
 obtain⟨f,fd,F,m,kp⟩:=D.get V.X V.G
 exact⟨f,fd,ok F,m,kp,F.binds b⟩
def Ev.m (V:Ev P w K mg base h) (D:MethIn K C x qual st) (ok:∀ {f fd},Fun K x qual st f fd->(FnOk P w K mg base (CXE P w)) k f fd ps sp) (b:Em x qual st ps:=by trivial):(Method P w K mg base) C x k ps sp:=by
 obtain⟨f,fd,F,a,i,kp⟩:=D.get
 exact⟨f,fd,ok F,⟨a,i,kp⟩,F.binds b⟩
def Ev.mk2 {y:Str} (V:Ev P w K mg base h) (D:MethIn K C "__init__" qual st) (mk:PySem.W.makesIn K C=true) (kc:keepIn K (.ref C)=true) (bn:nsIn K mainGlobals y=some (some (.ref C))) (ok:∀ {f fd},Fun K "__init__" qual st f fd->(FnOk P w K mg base (CXE P w)) k f fd ps sp) (b:Em "__init__" qual st ps:=by trivial):(Maker P w K mg base) y C k ps sp:=by
 obtain⟨f,fd,F,a,i,kp⟩:=D.get
 exact⟨f,fd,ok F,⟨mk,a,i,kc⟩,mg_of V.X V.G bn,F.binds b⟩
end
def HG {l:PySem.W.OpenLaw} {w:World} {K:Hh} {h:Heap} {mg:Hj} {fa fL aa9 aa0 aa5 ab6 aa6 aa3 aa1 ai0 ap8 ap9 aa4 aq0 ac8 ac0 aa8 aa7 ab1:Addr} (X:K.In h) (G:h.Ns mainGlobals mg) (hfa:mg "law" = some (.ref fa))
  {odL anL:Option Addr} {slL:Hl} {ocL kVL dcL pmL cdL ctL:Value} {t0 t1 t2 t3 t4 t5 t6 t7 t8 t9 t10 t11 t12 t13 t14 t15:Tok}
  (au5:DefIn K "is_number" oR)
  (ao7:DefIn K "check_steps" lK)
  (ar1:DefIn K "check_deed" mQ)
  (ax2:DefIn K "is_bytes" qP)
  (au6:DefIn K "fits_kind" oS)
  (bc8:DefIn K "is_row" xH)
  (ar2:DefIn K "check_body" mR)
  (am7:DefIn K "segment_name" j7)
  (au7:DefIn K "checks_of" oV)
  (au8:DefIn K "row_bytes" oN)
  (ar3:DefIn K "segment_of" mK)
  (ao8:DefIn K "segments_on" lJ)
  (ba2:DefIn K "row_end" tM)
  (ax3:DefIn K "row_from" qL)
  (ba3:DefIn K "rows_in" tL)
  (ag5:DefIn K "without_last_parts" tI)
  (ba4:DefIn K "is_word" tT)
  (ar4:DefIn K "check_name" mO)
  (au9:DefIn K "make_good" oP)
  (am8:DefIn K "check_bodies" j8)
  (ba5:DefIn K "told_by" tJ)
  (d_do:DefIn K "do" s_do)
  (av0:DefIn K "_law_cell" DF)
  (ax4:DefIn K "_law_mix" F9)
  (av1:DefIn K "_law_seed" C9)
  (av2:DefIn K "_law_pick" DB)
  (ar5:DefIn K "_law_bytes" Ap)
  (al0:DefIn K "_law_settings" qJ)
  (aj9:DefIn K "check_settings" iZ)
  (ba6:DefIn K "rows_of" tK)
  (ba7:DefIn K "book_of" tU)
  (ar6:DefIn K "_law_queue" xF)
  (ao9:DefIn K "_law_opened" xE)
  (av3:DefIn K "_law_stay" Al)
  (bf0:nsIn K mainGlobals "Disk" = some (some (.ref aa8))) (az2:plainGet K aa8 Str.empty=true) (az3:hasDictIn K aa8=true) (az4:PySem.W.plainOver K aa8=true) (az5:findIn K (.ref aa8) "__setattr__" = some (some (.builtin "object.__setattr__"))) (bd6:PySem.W.makesIn K aa8=true) (bd7:keepIn K (.ref aa8)=true)
  (ar7:findIn K (.ref aa8) "files" = some none)
  (ai2:findIn K (.ref aa8) "steps_done" = some none)
  (ah9:findIn K (.ref aa8) "steps_ahead" = some none)
  (al1:MethIn K aa8 "__init__" "Disk.__init__" Ao)
  (ar8:MethIn K aa8 "go_on" "Disk.go_on" Am)
  (ar9:MethIn K aa8 "names" "Disk.names" Ak)
  (ai3:MethIn K aa8 "check_file" "Disk.check_file" mP)
  (av4:MethIn K aa8 "read" "Disk.read" DA)
  (av5:MethIn K aa8 "size" "Disk.size" C8)
  (ai4:MethIn K aa8 "count_step" "Disk.count_step" mM)
  (av6:MethIn K aa8 "make" "Disk.make" DC)
  (av7:MethIn K aa8 "drop" "Disk.drop" DE)
  (ax5:MethIn K aa8 "cut" "Disk.cut" GA)
  (ax6:MethIn K aa8 "add" "Disk.add" GB)
  (bf1:nsIn K mainGlobals "Book" = some (some (.ref aa7))) (az6:plainGet K aa7 Str.empty=true) (az7:hasDictIn K aa7=true) (az8:PySem.W.plainOver K aa7=true) (az9:findIn K (.ref aa7) "__setattr__" = some (some (.builtin "object.__setattr__"))) (bd8:PySem.W.makesIn K aa7=true) (bd9:keepIn K (.ref aa7)=true)
  (am9:findIn K (.ref aa7) "entries" = some none)
  (ag6:findIn K (.ref aa7) "upcoming" = some none)
  (as0:findIn K (.ref aa7) "parts" = some none)
  (ak0:MethIn K aa7 "enter_put" "Book.enter_put" oU)
  (ai5:MethIn K aa7 "enter_deal" "Book.enter_deal" mL)
  (ag8:MethIn K aa7 "change_entry" "Book.change_entry" xI)
  (as1:MethIn K aa7 "enter" "Book.enter" An)
  (ap0:MethIn K aa7 "letter" "Book.letter" xG)
  (an0:MethIn K aa7 "letters" "Book.letters" tR)
  (al2:MethIn K aa7 "__init__" "Book.__init__" DD)
  (be0:nsIn K mainGlobals "Queue" = some (some (.ref ab1))) (bc9:plainGet K ab1 Str.empty=true) (bd0:hasDictIn K ab1=true) (bd1:PySem.W.plainOver K ab1=true) (bd2:findIn K (.ref ab1) "__setattr__" = some (some (.builtin "object.__setattr__"))) (bd3:PySem.W.makesIn K ab1=true) (bd4:keepIn K (.ref ab1)=true)
  (as2:findIn K (.ref ab1) "disk" = some none)
  (as3:findIn K (.ref ab1) "most" = some none)
  (as4:findIn K (.ref ab1) "hold" = some none)
  (ap1:findIn K (.ref ab1) "tries" = some none)
  (as5:findIn K (.ref ab1) "book" = some none)
  (ap2:findIn K (.ref ab1) "first" = some none)
  (as6:findIn K (.ref ab1) "last" = some none)
  (al3:findIn K (.ref ab1) "writing" = some none)
  (al4:findIn K (.ref ab1) "holders" = some none)
  (av8:findIn K (.ref ab1) "now" = some none)
  (ag7:MethIn K ab1 "is_last_full" "Queue.is_last_full" xB)
  (af9:MethIn K ab1 "begin_segment" "Queue.begin_segment" tQ)
  (ap3:MethIn K ab1 "write" "Queue.write" tN)
  (av9:MethIn K ab1 "put" "Queue.put" Aj)
  (al5:MethIn K ab1 "put_all" "Queue.put_all" qN)
  (as7:MethIn K ab1 "take" "Queue.take" wZ)
  (as8:MethIn K ab1 "done" "Queue.done" xC)
  (ai6:MethIn K ab1 "give_back" "Queue.give_back" xD)
  (as9:MethIn K ab1 "wait" "Queue.wait" wY)
  (an1:MethIn K ab1 "revive" "Queue.revive" qM)
  (ap4:MethIn K ab1 "sweep" "Queue.sweep" tO)
  (ap5:MethIn K ab1 "carry" "Queue.carry" tP)
  (al6:MethIn K ab1 "letters" "Queue.letters" oO)
  (an2:MethIn K ab1 "coming" "Queue.coming" qO)
  (ak1:MethIn K ab1 "__init__" "Queue.__init__" xA)
  (aL:nsIn K mainGlobals "law" = some (some (.ref fL))) (lL:K.lookup fL=some ⟨ocL,odL,.func (fnOf "law" "law" (fG oQ) (d8 oQ) (cM oQ) .none kVL dcL pmL anL cdL ctL),slL⟩) (cL:codeIn K cdL "law" = true) (kL:keepIn K (.ref fL)=true)
  (au3:nsIn K mainGlobals "len" = some none)
  (ad4:nsIn K mainGlobals "isinstance" = some none)
  (bb9:nsIn K mainGlobals "all" = some none)
  (ax7:nsIn K mainGlobals "sum" = some none)
  (aj0:nsIn K mainGlobals "tuple" = some none)
  (ax8:nsIn K mainGlobals "int" = some none)
  (ax9:nsIn K mainGlobals "bool" = some none)
  (ay0:nsIn K mainGlobals "str" = some none)
  (an3:nsIn K mainGlobals "range" = some none)
  (ae9:nsIn K mainGlobals "enumerate" = some none)
  (at1:nsIn K mainGlobals "list" = some none)
  (bf5:nsIn K mainGlobals "max" = some none)
  (bf6:nsIn K mainGlobals "min" = some none)
  (ao4:nsIn K mainGlobals "sorted" = some none)
  (ae4:nsIn K mainGlobals "HIGHEST_BYTE" = some (some (.int 255 t0)))
  (ad7:nsIn K mainGlobals "HIGHEST_NUMBER" = some (some (.int 999999 t1)))
  (ah5:nsIn K mainGlobals "LONGEST_BODY" = some (some (.int 60 t2)))
  (ae1:nsIn K mainGlobals "HIGHEST_TIMES" = some (some (.int 9 t3)))
  (ae5:nsIn K mainGlobals "LARGEST_DEAL" = some (some (.int 9 t4)))
  (ap6:nsIn K mainGlobals "CHECKS_SIZE" = some (some (.int 2 t5)))
  (aw0:nsIn K mainGlobals "HEAD_SIZE" = some (some (.int 7 t6)))
  (an4:nsIn K mainGlobals "LARGEST_MOST" = some (some (.int 2000 t7)))
  (an5:nsIn K mainGlobals "LONGEST_HOLD" = some (some (.int 99 t8)))
  (al7:nsIn K mainGlobals "HIGHEST_TRIES" = some (some (.int 9 t9)))
  (an6:nsIn K mainGlobals "LONGEST_HAND" = some (some (.int 6 t10)))
  (an7:nsIn K mainGlobals "LONGEST_NAME" = some (some (.int 8 t11)))
  (at4:nsIn K mainGlobals "MOST_STEPS" = some (some (.int 100000 t12)))
  (ba0:nsIn K mainGlobals "LONGEST_WAIT" = some (some (.int 99 t13)))
  (at5:nsIn K mainGlobals "NAME_SIGNS" = some (some (.str b8 t14)))
  (at6:nsIn K mainGlobals "HAND_SIGNS" = some (some (.str "abcdefghijklmnopqrstuvwxyz" t15)))
  (aK:nsIn K mainGlobals "KINDS" = some (some (.ref aa9))) (qK:vX K aa9=true)
  (ba8:nsIn K mainGlobals "BadName" = some (some (.ref aa0))) (ak6:cR K aa0=true)
  (ba9:nsIn K mainGlobals "Missing" = some (some (.ref aa5))) (ak7:cR K aa5=true)
  (be1:nsIn K mainGlobals "There" = some (some (.ref ab6))) (au2:cR K ab6=true)
  (at7:nsIn K mainGlobals "Stopped" = some (some (.ref aa6))) (ak8:cR K aa6=true)
  (ao5:nsIn K mainGlobals "Broken" = some (some (.ref aa3))) (ae2:cR K aa3=true)
  (ao6:nsIn K mainGlobals "BadRow" = some (some (.ref aa1))) (af2:cR K aa1=true)
  (ap7:nsIn K mainGlobals "BadSettings" = some (some (.ref ai0))) (af0:cR K ai0=true)
  (bb0:nsIn K mainGlobals "BadBody" = some (some (.ref ap8))) (ah7:cR K ap8=true)
  (bb1:nsIn K mainGlobals "BadHand" = some (some (.ref ap9))) (aq4:cR K ap9=true)
  (am2:nsIn K mainGlobals "BadNumber" = some (some (.ref aa4))) (ac9:cR K aa4=true)
  (bb2:nsIn K mainGlobals "NotHeld" = some (some (.ref aq0))) (aq5:cR K aq0=true)
  (bb3:nsIn K mainGlobals "BadDeed" = some (some (.ref ac8))) (ak2:cR K ac8=true)
  (at8:nsIn K mainGlobals "QueueError" = some (some (.ref ac0))) (bd5:cR K ac0=true)
  (hex0:PySem.W.exmOne K (.ref aa6) (.ref aa6)=some true)
  {a_S:Addr} {esS:Array DictEntry} {epS:Nat}
  (aS:nsIn K mainGlobals "SIZES_OF_DEEDS" = some (some (.ref a_S)))
  (lS:K.lookup a_S=some ⟨.type "dict",none,.dict esS epS,#[]⟩)
  (sS:(a_S == sysModules)=false)
  (hS:esS.toList.map (·.hash)=vE.map fun p=>PyData.keyHash w.params p.1)
  (eS:nA vE esS.toList=true)
  : ∃ fd:Hs,(∀ (s:Shared) (v:Value),BindsTo s fd ⟨[v],[]⟩ [("_law_script",v)])/\∀ base:Heap,K.In base->base.Ns mainGlobals mg->FnOk l.prog w K mg base (CXE l.prog w) 12 fa fd ["_law_script"] (pY K):=by
 have e:=hfa.symm.trans (mg_of X G aL)
 cases e
 obtain⟨kk1,kk2⟩:=AI qK
 have TK:TxtK K mg aa9 aa1 aa3 aa7:=⟨⟨mg_none_of X G au3,mg_none_of X G ad4,mg_none_of X G bb9,mg_none_of X G ax7,mg_none_of X G aj0,mg_none_of X G ax8,mg_none_of X G ax9,mg_none_of X G ay0,mg_none_of X G an3,mg_none_of X G ae9,⟨_,mg_of X G ae4⟩,⟨_,mg_of X G ad7⟩,⟨_,mg_of X G ah5⟩,⟨_,mg_of X G ae1⟩,⟨_,mg_of X G ae5⟩,mg_of X G aK,kk1,kk2,af2,mg_of X G ao6⟩,mg_none_of X G at1,mg_none_of X G bf5,mg_none_of X G ao4,ae2,mg_of X G ao5,⟨az6,az7,az8,az9⟩,am9,ag6,as0⟩
 have TB:TxtB K mg aa9 aa1 aa3:=⟨⟨mg_none_of X G au3,mg_none_of X G ad4,mg_none_of X G bb9,mg_none_of X G ax7,mg_none_of X G aj0,mg_none_of X G ax8,mg_none_of X G ax9,mg_none_of X G ay0,mg_none_of X G an3,mg_none_of X G ae9,⟨_,mg_of X G ae4⟩,⟨_,mg_of X G ad7⟩,⟨_,mg_of X G ah5⟩,⟨_,mg_of X G ae1⟩,⟨_,mg_of X G ae5⟩,mg_of X G aK,kk1,kk2,af2,mg_of X G ao6⟩,mg_none_of X G at1,⟨_,mg_of X G ap6⟩,⟨_,mg_of X G aw0⟩,ae2,mg_of X G ao5⟩
 have TD:TxtD K mg aa0 aa5 ab6 aa6 aa1 aa4 aa8:=⟨⟨mg_none_of X G au3,mg_none_of X G ad4,mg_none_of X G bb9,mg_none_of X G ax7,mg_none_of X G aj0,mg_none_of X G ax8,mg_none_of X G ax9,mg_none_of X G ay0,mg_none_of X G an3,mg_none_of X G ae9,mg_none_of X G at1,mg_none_of X G ao4,⟨_,mg_of X G ae4⟩⟩,⟨_,mg_of X G at5⟩,⟨_,mg_of X G an7⟩,⟨_,mg_of X G at4⟩,ak6,mg_of X G ba8,ak7,mg_of X G ba9,au2,mg_of X G be1,ak8,mg_of X G at7,af2,mg_of X G ao6,ac9,mg_of X G am2,⟨az2,az3,az4,az5⟩,ar7,ai2,ah9⟩
 have TQ:TxtQ K mg (⟨aa9, aa1, aa3, aa7, aa0, aa5, ab6, aa6, aa4, aa8, ab1, ai0, ap8, ap9, aq0⟩ : Ad):=⟨mg_none_of X G au3,mg_none_of X G ax8,mg_none_of X G ao4,mg_none_of X G ax7,ae2,mg_of X G ao5,⟨az6,az7,az8,az9⟩,⟨az2,az3,az4,az5⟩,⟨bc9,bd0,bd1,bd2⟩,mg_none_of X G bf6,⟨_,mg_of X G an4⟩,⟨_,mg_of X G an5⟩,⟨_,mg_of X G al7⟩,⟨_,mg_of X G at6⟩,⟨_,mg_of X G an6⟩,⟨_,mg_of X G ad7⟩,⟨_,mg_of X G ae1⟩,af0,mg_of X G ap7,ah7,mg_of X G bb0,aq4,mg_of X G bb1,aq5,mg_of X G bb2,ag6,as2,as3,as4,ap1,as5,ap2,as6,al3,al4,av8,mg_none_of X G ad4,mg_none_of X G aj0,mg_none_of X G ae9,mg_none_of X G an3,mg_none_of X G at1,⟨_,mg_of X G ae5⟩,ac9,mg_of X G am2⟩
 have TS:TxtS l.prog w K mg (⟨aa9, aa1, aa3, aa7, aa0, aa5, ab6, aa6, aa4, aa8, ab1, ai0, ap8, ap9, aq0⟩ : Ad) a_S ac8 ac0:=⟨mg_none_of X G au3,mg_none_of X G ad4,mg_none_of X G aj0,mg_none_of X G ay0,ak2,mg_of X G bb3,mg_of X G at7,hex0,mg_of X G at8,mg_of X G aS,gd_of (ps:=vE) sS lS hS eS (by decide)⟩
 refine⟨fnOf "law" "law" (fG oQ) (d8 oQ) (cM oQ) .none kVL dcL pmL anL cdL ctL,fun s v=>.of_eq rfl,fun base _ _=>?_⟩
 have V:Ev l.prog w K mg base h:=⟨X,G⟩
 have ab2:=V.c au5 fun F=>vR F TK.toTxtR
 have ac6:=V.c ao7 fun F=>rC F TD ab2
 have bc7:=V.mk2 al1 bd6 bd7 bf0 fun F=>Dl F TD ac6
 have ao2:=V.m ar8 fun F=>Dh F TD ac6
 have aj7:=V.c ar1 fun F=>sK F TS
 have ac3:=V.c ax2 fun F=>x4 F TK.toTxtR ab2
 have al8:=V.c au6 fun F=>vS F TK.toTxtR
 have ad5:=V.c bc8 fun F=>By F TK.toTxtR ab2 ac3 al8
 have ad2:=V.c ar2 fun F=>sM F TQ ad5
 have ab0:=V.c am7 fun F=>pA F 
 have ad9:=V.c au7 fun F=>vU F TK.toTxtR
 have ab7:=V.c au8 fun F=>vN F TK.toTxtR ad5 ad9
 have aj4:=V.c ar3 fun F=>sE F TQ ab0
 have aw2:=V.m ar9 fun F=>Df F TD
 have ac7:=V.c ao8 fun F=>rB F TQ aj4 aw2
 have ak5:=V.c ba2 fun F=>zX F TB
 have an9:=V.c ax3 fun F=>xW F TB ad5 ad9
 have af7:=V.c ba3 fun F=>zW F TB ac3 ak5 an9
 have ab4:=V.c ag5 fun F=>zT F TQ
 have aq3:=V.c ba4 fun F=>AB F TD.toTxtN
 have ad1:=V.c ar4 fun F=>sI F TD aq3
 have ad8:=V.m ai3 fun F=>sJ F TD ad1
 have ai7:=V.m av4 fun F=>FX F TD ad8
 have ai8:=V.m av5 fun F=>FV F TD ad8
 have af1:=V.m ai4 fun F=>sH F TD
 have ai9:=V.m av6 fun F=>FZ F TD ad1 af1
 have ay7:=V.m av7 fun F=>Fb F TD ad8 af1
 have bc5:=V.m ax5 fun F=>G8 F TD ab2 ad8 af1
 have ag2:=V.m ax6 fun F=>G9 F TD ac3 ad8 af1
 have ae0:=V.c au9 fun F=>vQ F TQ ab0 ac7 af7 ab4 ab7 ai7 ai8 ai9 ay7 bc5 ag2
 have at9:=V.m ak0 fun F=>vT F TK
 have bb8:=V.m ai5 fun F=>sF F TK at9
 have ay1:=V.m ag8 fun F=>Bz F TK
 have ah2:=V.m as1 fun F=>Dj F TK at9 bb8 ay1
 have ag3:=V.m ag7 fun F=>Bu F TQ ab0 ai8
 have af4:=V.m af9 fun F=>z8 F TQ ab0 ab7 ai9 ag2
 have ah3:=V.m ap3 fun F=>zY F TQ ab0 ab7 ae0 ag2 ah2 ag3 af4
 have aj5:=V.m av9 fun F=>De F TQ ad2 ah3
 have ah4:=V.c am8 fun F=>pB F TQ ad2
 have ao1:=V.m al5 fun F=>xY F TQ ah4 ah3
 have ay9:=V.m as7 fun F=>z6 F 
 have az0:=V.m as8 fun F=>z7 F 
 have aj6:=V.m ai6 fun F=>z9 F 
 have az1:=V.m as9 fun F=>zZ F 
 have aq9:=V.m an1 fun F=>vO F 
 have aw4:=V.m ap4 fun F=>xX F 
 have aw5:=V.m ap5 fun F=>x3 F 
 have ar0:=V.c ba5 fun F=>zU F TQ aj5 ao1 ay9 az0 aj6 az1 aq9 aw4 aw5
 have c_do:=V.c d_do fun F=>ok_do F TQ TS aj7 ar0
 have bf2:=V.m ap0 fun F=>Bx F TK
 have ao0:=V.m an0 fun F=>AA F TK bf2
 have ad6:=V.m al6 fun F=>vP F TQ ao0
 have af8:=V.m an2 fun F=>xZ F TQ
 have ah6:=V.c av0 fun F=>Fc F TQ
 have ao3:=V.c ax4 fun F=>G6 F 
 have ab9:=V.c av1 fun F=>FW F 
 have am1:=V.c av2 fun F=>FY F 
 have aj8:=V.c ar5 fun F=>Dm F TQ ab9 am1
 have ag4:=V.c al0 fun F=>xV F TQ ab9
 have af5:=V.c aj9 fun F=>mX F TQ ab2
 have aq7:=V.c ba6 fun F=>zV F TQ ab0 af7 ab4 ai7
 have bc4:=V.mk2 al2 bd8 bd9 bf1 fun F=>Fa F TK
 have aq8:=V.c ba7 fun F=>AC F TQ ac7 aq7 bc4 ah2
 have ay8:=V.mk2 ak1 bd3 bd4 be0 fun F=>Bt F TQ af5 aq8 ae0
 have ad3:=V.c ar6 fun F=>Bw (A:=(⟨aa9, aa1, aa3, aa7, aa0, aa5, ab6, aa6, aa4, aa8, ab1, ai0, ap8, ap9, aq0⟩ : Ad)) F ay8
 have ai1:=V.c ao9 fun F=>Bv F TQ ad3
 have ae8:=V.c av3 fun F=>Dg F TQ ad6 af8
 exact G7 (AN (st:=oQ) lL cL kL) TQ bc7 ao2 c_do aj5 ad6 af8 ah6 ao3 ab9 aj8 ag4 ad3 ai1 ae8
def walk {l:PySem.W.OpenLaw} {q:Program} {loose:Ho} {XP:(Hj)->Heap->Prop} {YP:World->Heap->Prop} {d:DefRec} {K:Params->Hh} (hn:l.most=some 63) (hdf:d.params.defaults=[])
  (hY:∀ (w:World) (h:Heap),YP w h->(K w.params).In h)
  (F:∀ (w:World) (mg:Hj) (fa:Addr) (h:Heap),(K w.params).In h->h.Ns mainGlobals mg->mg d.name=some (.ref fa)->
   ∃ fd:Hs,(∀ (s:Shared) (u:Value),BindsTo s fd ⟨[u],[]⟩ [("_law_script",u)])/\∀ base:Heap,(K w.params).In base->base.Ns mainGlobals mg->FnOk l.prog w (K w.params) mg base (CXE l.prog w) 12 fa fd ["_law_script"] (pY (K w.params))) :
  PySem.W.WalkO q loose XP YP l.row.toRowW d [] (fun f vs=>PySem.call f vs):=
 L2.Eo (n:=63) (k:=12) (x:="_law_script") (CX:=fun w=>CXE l.prog w) (sp:=fun w=>pY (K w.params)) hn (by decide) hdf ⟨rfl,by decide,by decide⟩ hY F (fun _ _ a ns hl _ hS=>⟨a,ns,rfl,hS,fun _=>rfl⟩) fun _ _ _ _ _ ⟨_,_,_,_,_,z⟩=>z
end Qh
end
structure PySem.W.Fast:Prop where
 (tw15061559269915744133 tw1683940626293799697 tw7499409214923268436 tw10886719129685058318 tw6311484057435408214 tw15454103694939633680 tw12740796300323048127 tw5603250995758543588 tw15504405914216333060 tw14698744047360684787 tw16830768388644202178 tw18233027047693979034 tw10032991400708071663 tw3223786064518696718 tw2069353023747935468 tw4685752600892417414 tw8549883324729928189 tw17990098162243128853 tw10210199962229538542 tw8520943213529272808 tw11331018255391520669 tw833094656971003585 tw9742564327804212824 tw17251843367715548081 tw8990461328215603410 tw10108144875414635378 tw6910709111190254963 tw14403984926529622991 tw15999179176346942603 tw13346304216010055750 tw10624853512123883778 tw17342189388866516934 tw15678467776969891950 tw14192201871714099701 tw10150933766564625751 tw17637822390000562849 tw11317679655167033654 tw6823521544011335366 tw9455315292092574748 tw12295981034779117016 tw8431431213820695091 tw15854327954482228528 tw5133821744641497274 tw1475265405326069843 tw1734462253655204048 tw2842352502093927985 tw4623837071752615630 tw4171493389937406542 tw13107125242280369043 tw7506874985159742799 tw10238239143905567662 tw3305069762370864803 tw2002943269754671250 tw14681358451772702669 tw7016409731970238949 tw1921607249105033068 tw13936778449476190186 tw6735806690617066643 tw6838678902277122851 tw7052895311990114452 tw5750734749790102439 tw7062302364420416841 tw2248303656707296500 tw10370273167722494125 tw14833288495205224098 tw1595231224607773636 tw11617279978453421696 tw1225633880247615475 tw6705897069214024744 tw17535352651987415370 tw12288002114886737620 tw2656365064156070561 tw10785197358848253069 tw13838825047040573666 tw23270180589456591 tw11470494732093860262 tw3554955555246932232 tw4068553542162283933 tw14955305007702567701 tw8828958701016146776 tw6961137114905457667 tw3982705677650894091 tw967424702526407552 tw4411920631373784594 tw6232641592148151965 tw18087070933059618894 tw7309689487902149941 tw3642456559235117550 tw6968539781700676408 tw6904366534516079037:True)
open PySem PySem.W PyProof.Rows
set_option maxRecDepth 100000 in
set_option maxHeartbeats 0 in
theorem PySem.Challenge.cw_queuehold_k31_whole_deals_holds : PySem.Challenge.rw_queuehold_k31_whole_deals.Holds := by
 w_on; o_law; k_head; (case hw=>w_witness2)
 k_fill
 refine Qh.walk (l:=PySem.Challenge.rw_queuehold_k31_whole_deals) rfl rfl (fun w h Y=>PySem.W.kIn_of Y) ?F
 case F=>
  intro w mg fa h KX G hmg
  refine' Qh.HG KX G hmg ?au5 ?ao7 ?ar1 ?ax2 ?au6 ?bc8 ?ar2 ?am7 ?au7 ?au8 ?ar3 ?ao8 ?ba2 ?ax3 ?ba3 ?ag5 ?ba4 ?ar4 ?au9 ?am8 ?ba5 ?A0 ?av0 ?ax4 ?av1 ?av2 ?ar5 ?al0 ?aj9 ?ba6 ?ba7 ?ar6 ?ao9 ?av3 ?bf0 ?az2 ?az3 ?az4 ?az5 ?bd6 ?bd7 ?ar7 ?ai2 ?ah9 ?al1 ?ar8 ?ar9 ?ai3 ?av4 ?av5 ?ai4 ?av6 ?av7 ?ax5 ?ax6 ?bf1 ?az6 ?az7 ?az8 ?az9 ?bd8 ?bd9 ?am9 ?ag6 ?as0 ?ak0 ?ai5 ?ag8 ?as1 ?ap0 ?an0 ?al2 ?be0 ?bc9 ?bd0 ?bd1 ?bd2 ?bd3 ?bd4 ?as2 ?as3 ?as4 ?ap1 ?as5 ?ap2 ?as6 ?al3 ?al4 ?av8 ?ag7 ?af9 ?ap3 ?av9 ?al5 ?as7 ?as8 ?ai6 ?as9 ?an1 ?ap4 ?ap5 ?al6 ?an2 ?ak1 ?aL ?lL ?cL ?kL ?au3 ?ad4 ?bb9 ?ax7 ?aj0 ?ax8 ?ax9 ?ay0 ?an3 ?ae9 ?at1 ?bf5 ?bf6 ?ao4 ?ae4 ?ad7 ?ah5 ?ae1 ?ae5 ?ap6 ?aw0 ?an4 ?an5 ?al7 ?an6 ?an7 ?at4 ?ba0 ?at5 ?at6 ?aK ?qK ?ba8 ?ak6 ?ba9 ?ak7 ?be1 ?au2 ?at7 ?ak8 ?ao5 ?ae2 ?ao6 ?af2 ?ap7 ?af0 ?bb0 ?ah7 ?bb1 ?aq4 ?am2 ?ac9 ?bb2 ?aq5 ?bb3 ?ak2 ?at8 ?bd5 ?A1 ?aS ?lS ?sS ?hS ?eS
  case au5|ao7|ar1|ax2|au6|bc8|ar2|am7|au7|au8|ar3|ao8|ba2|ax3|ba3|ag5|ba4|ar4|au9|am8|ba5|A0|av0|ax4|av1|av2|ar5|al0|aj9|ba6|ba7|ar6|ao9|av3=>refine' Qh.aZ ?a ?l ?c ?k; case a|l|c|k=>k_is
  case bf0|az2|az3|az4|az5|bd6|bd7|ar7|ai2|ah9=>k_is
  case al1|ar8|ar9|ai3|av4|av5|ai4|av6|av7|ax5|ax6=>refine' Qh.aU ?a ?i ?l ?c ?k; case a|i|l|c|k=>k_is
  case bf1|az6|az7|az8|az9|bd8|bd9|am9|ag6|as0=>k_is
  case ak0|ai5|ag8|as1|ap0|an0|al2=>refine' Qh.aU ?a ?i ?l ?c ?k; case a|i|l|c|k=>k_is
  case be0|bc9|bd0|bd1|bd2|bd3|bd4|as2|as3|as4|ap1|as5|ap2|as6|al3|al4|av8=>k_is
  case ag7|af9|ap3|av9|al5|as7|as8|ai6|as9|an1|ap4|ap5|al6|an2|ak1=>refine' Qh.aU ?a ?i ?l ?c ?k; case a|i|l|c|k=>k_is
  case aL|lL|cL|kL|au3|ad4|bb9|ax7|aj0|ax8|ax9|ay0|an3|ae9|at1|bf5|bf6|ao4|ae4|ad7|ah5|ae1|ae5|ap6|aw0|an4|an5|al7|an6|an7|at4|ba0|at5|at6|aK=>k_is
  (case qK=>exact rfl)
  case ba8=>k_is
  (case ak6=>exact rfl)
  case ba9=>k_is
  (case ak7=>exact rfl)
  case be1=>k_is
  (case au2=>exact rfl)
  case at7=>k_is
  (case ak8=>exact rfl)
  case ao5=>k_is
  (case ae2=>exact rfl)
  case ao6=>k_is
  (case af2=>exact rfl)
  case ap7=>k_is
  (case af0=>exact rfl)
  case bb0=>k_is
  (case ah7=>exact rfl)
  case bb1=>k_is
  (case aq4=>exact rfl)
  case am2=>k_is
  (case ac9=>exact rfl)
  case bb2=>k_is
  (case aq5=>exact rfl)
  case bb3=>k_is
  (case ak2=>exact rfl)
  case at8=>k_is
  (case bd5=>exact rfl)
  (case A1=>kts_exm)
  case aS|lS=>k_is
  (case sS=>exact rfl)
  (case hS=>exact rfl)
  (case eS=>exact rfl)
end

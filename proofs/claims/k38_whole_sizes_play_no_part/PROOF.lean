import PyProof.Rows.All
import Wide.All
import OpenK.AllK
import Wide.FinOn
import Lean
import PyProof.EqAt
import PyProof.EqKinds
import PyProof.TupleCall
import PySem.Challenge.RW_queuehold_k38_whole_sizes_play_no_part
open List (length_map map_cons getElem?_map length_cons mem_cons mem_map mem_singleton length_append mem_cons_of_mem getElem?_eq_getElem mem_cons_self mem_filter map_map map_append getD_eq_getElem?_getD mem_append find?_cons mem_append_right size_toArray mem_of_getElem? map_nil map_congr_left all_eq_true length_range append_nil length_filter_le mem_map_of_mem nodup_cons filter_cons find?_eq_none length_drop take_length getElem?_eq_none ext_getElem? any_eq_true mem_range any_cons take_succ length_take nodup_append append_assoc mem_append_left getElem?_append_right all_cons range_succ_eq_map all_map getElem?_range filter_map filterMap_cons getElem?_append_left length_eq_zero_iff nodup_nil length_eq_one_iff)
open Nat (le_refl le_trans ne_of_lt zero_le lt_of_lt_of_le lt_trans le_of_ble_eq_true le_succ lt_of_le_of_lt lt_succ_of_lt min_eq_left lt_irrefl ne_of_gt lt_succ_self le_succ_of_le)
open PySem.W (nsIn mg_of mg_none_of findIn keepIn fnOf kia_one emptyDict instObj codeIn plainGet hideAll hasDictIn hideAll_get callWith_K of_hideAll plainGet_of callWith_K0 kitx_list kitx_dict methodCall_KW ked_eqvAll)
open Bool (and_eq_true)
open PySem.Heap (lt_size get?_push_of_some get?_push_size size_push)
open Int (emod_nonneg emod_lt_of_pos le_of_lt)
open Array (length_toList)
open Option (map_eq_none_iff isSome_iff_exists isSome_map getD_some)
set_option maxHeartbeats 4000000
noncomputable section
abbrev Lq:=List (Int × (PySem.Str × Int))
abbrev Lk:=PySem.Value->PySem.Shared->Prop
abbrev Lh:=PySem.FuncData
abbrev Lg:=List PySem.PyData
abbrev Lf:=List PySem.Value
abbrev Ld:=List PySem.Str
abbrev Lc:=List Int
abbrev Lb:=Array (Option PySem.Value)
abbrev K9:=List (Lc)
abbrev K8:=PySem.Str->Option PySem.Value
abbrev K7:=List (PySem.Addr × PySem.Obj)
abbrev K6:=PySem.W.Frag
set_option Elab.async false
set_option linter.all false
set_option maxRecDepth 100000
namespace L2
open PySem PySem.Spec PyProof.Rows
abbrev Key:=Sum Int Str
def rQ:Key->Value->Bool
 | .inl k,v=>Value.isInt k v
 | .inr x,v=>Value.isStrOf x v
def Kg (w:World):Key->Int
 | .inl k=>hashInt k
 | .inr x=>hashStr w x
def dI:∀ {k:Key} {v:Value},rQ k v=true->(∃ i t,k=Sum.inl i/\v=Value.int i t)\/(∃ x t,k=Sum.inr x/\v=Value.str x t)
 | .inl i,v,h=>by
  obtain⟨t,e⟩:=Value.isInt_shape (k:=i) (v:=v) h
  exact .inl ⟨i,t,rfl,e⟩
 | .inr x,v,h=>by
  obtain⟨t,e⟩:=Value.isStrOf_shape (x:=x) (v:=v) h
  exact .inr ⟨x,t,rfl,e⟩
def E3 (i:Int) (t:Tok):rQ (.inl i) (.int i t)=true:=by simp [rQ,Value.isInt]
def qS (x:Str) (t:Tok):rQ (.inr x) (.str x t)=true:=by simp [rQ,Value.isStrOf]
def Kf (a b:Int):decide ((Sum.inl a:Key)=Sum.inl b)=(a == b):=by
 by_cases e:a=b
 ·subst e; simp
 ·have h:¬ (Sum.inl a:Key)=Sum.inl b:=fun q=>e (Sum.inl.inj q)
  rw[decide_eq_false h]
  exact(beq_eq_false_iff_ne.mpr e).symm
def Kb (a b:Str):decide ((Sum.inr a:Key)=Sum.inr b)=decide (a=b):=by
 by_cases e:a=b
 ·subst e; simp
 ·have h:¬ (Sum.inr a:Key)=Sum.inr b:=fun q=>e (Sum.inr.inj q)
  rw[decide_eq_false h,decide_eq_false e]
def Ke (a:Int) (b:Str):decide ((Sum.inl a:Key)=Sum.inr b)=false:=decide_eq_false (fun q=>nomatch q)
def Kd (a:Str) (b:Int):decide ((Sum.inr a:Key)=Sum.inl b)=false:=decide_eq_false (fun q=>nomatch q)
def cE (prog:Program) (w:World):PySem.KeyKind prog w Key where
 is:=rQ
 hash:=Kg w
 inj:=fun v a b ha hb=>by
  rcases dI ha with ⟨i,t,rfl,rfl⟩ | ⟨x,t,rfl,rfl⟩
  ·rcases dI hb with ⟨j,u,rfl,e⟩ | ⟨y,u,rfl,e⟩
   ·injection e with e1 _; rw[e1]
   ·exact nomatch e
  ·rcases dI hb with ⟨j,u,rfl,e⟩ | ⟨y,u,rfl,e⟩
   ·exact nomatch e
   ·injection e with e1 _; rw[e1]
 byValue:=fun k v h=>by
  rcases dI h with ⟨i,t,rfl,rfl⟩ | ⟨x,t,rfl,rfl⟩ <;> rfl
 pyHash:=fun hv h=>by
  rcases dI hv with ⟨i,t,rfl,rfl⟩ | ⟨x,t,rfl,rfl⟩
  ·exact wpAny_pyHash_int h
  ·exact wpAny_pyHash_str h
 eqBool:=fun hu hv h=>by
  rcases dI hu with ⟨i,t,rfl,rfl⟩ | ⟨x,t,rfl,rfl⟩
  ·rcases dI hv with ⟨j,u,rfl,rfl⟩ | ⟨y,u,rfl,rfl⟩
   ·rw[Kf]at h; exact wpAny_eqBool_int h
   ·rw[Ke]at h; exact SeqAt.EqAt.int_str i t y u _ _ _ _ h
  ·rcases dI hv with ⟨j,u,rfl,rfl⟩ | ⟨y,u,rfl,rfl⟩
   ·rw[Kd]at h; exact SeqAt.EqAt.str_int x t j u _ _ _ _ h
   ·rw[Kb]at h; exact wpAny_eqBool_str h
 «strs»:=fun k x t v h=>by
  rcases dI h with ⟨i,u,rfl,e⟩ | ⟨y,u,rfl,e⟩
  ·exact nomatch e
  ·injection e with e1 _
   subst e1
   cases v <;> rfl
def BA (prog:Program) (w:World) (i:Int) (t:Tok):(cE prog w).is (.inl i) (.int i t)=true:=E3 i t
def A9 (prog:Program) (w:World) (x:Str) (t:Tok):(cE prog w).is (.inr x) (.str x t)=true:=qS x t
inductive V where
 | non | bl (b:Bool) | int (i:Int) | str (x:Str) | byt (b:Array UInt8) | flt (b:UInt64) | ref (a:Addr) | ty (n:String)
 deriving DecidableEq
abbrev Ln:=List V
abbrev Lm:=List (Str × V)
abbrev Ll:=List (Key × V)
def bX:V->Value->Prop
 | .non,u=>u=Value.none
 | .bl b,u=>u=Value.bool b
 | .int i,u=>∃ t,u=Value.int i t
 | .str x,u=>∃ t,u=Value.str x t
 | .byt b,u=>∃ t,u=Value.bytes b t
 | .flt b,u=>∃ t,u=Value.float b t
 | .ref a,u=>u=Value.ref a
 | .ty n,u=>u=Value.type n
abbrev bZ:Ln->Lf->Prop:=Paired bX
def bZ.length (r:bZ xs us):xs.length=us.length:=Paired.length r
def bZ.get:∀ {xs:Ln} {us:Lf} {i:Nat} {x:V},bZ xs us->xs[i]? = some x->∃ u,us[i]? = some u/\bX x u
 | _,_,_,_,.nil,e=>by simp at e
 | _,_,0,_,.cons r _,e=>by simp at e; subst e; exact⟨_,rfl,r⟩
 | _,_,i+1,x,.cons _ t,e=>by
  obtain⟨u,h1,h2⟩:=bZ.get (i:=i) (x:=x) t (by simpa using e)
  exact⟨u,by simpa using h1,h2⟩
def bZ.append:∀ {xs ys:Ln} {us ws:Lf},bZ xs us->bZ ys ws->bZ (xs++ys) (us++ws)
 | _,_,_,_,.nil,s=>s
 | _,_,_,_,.cons r t,s=>.cons r (bZ.append t s)
def bZ.take:∀ {xs:Ln} {us:Lf} (n:Nat),bZ xs us->bZ (xs.take n) (us.take n)
 | _,_,0,_=>.nil
 | _,_,_+1,.nil=>.nil
 | _,_,n+1,.cons r t=>.cons r (bZ.take n t)
def bZ.drop:∀ {xs:Ln} {us:Lf} (n:Nat),bZ xs us->bZ (xs.drop n) (us.drop n)
 | _,_,0,r=>r
 | _,_,_+1,.nil=>.nil
 | _,_,n+1,.cons _ t=>bZ.drop n t
def kK:Option V->Option Value->Prop
 | some v,some u=>bX v u
 | none,none=>True
 | _,_=>False
def KV {κ : Type}:List (κ × V)->List (κ × Value)->Prop:=Paired fun(p:κ × V) (q:κ × Value)=>p.1=q.1/\bX p.2 q.2
def kV:Key->V
 | .inl i=>.int i
 | .inr x=>.str x
inductive HO where
  | lst (xs:Ln)
  | tup (xs:Ln)
  | dK (kvs:Ll) | dT (kvs:List (List Key × V))
  | set (S:Int->Bool) (n:Nat)
  | ins (C dx:Addr) (fs:Lm)
  | own (x:Addr)
  | xd (fs:Lm)
  | met (f x:Addr)
  | rng (lo hi:Int)
  | frz (o:Obj) (u:HO)
  | tbl (ps:Array Value)
  | ext (φ : Heap->Prop)
abbrev Hp:=Addr->Option HO
def upd (H:Hp) (a:Addr) (o:HO):Hp:=fun b=>if b=a then some o else H b
def aB:upd H a o a=some o:=by unfold upd; rw[if_pos rfl]
def aF (h:b≠a):upd H a o b=H b:=by unfold upd; rw[if_neg h]
def ne_of {H:Hp} {a b:Addr} {o u:HO} (h:H a=some o) (h':H b=some u) (d:o≠u):a≠b:=by
 intro e; subst e; rw[h]at h'; exact d (Option.some.inj h')
def bP {H:Hp} {a b:Addr} {o:HO} (h:H a=some o) (h':H b=none):a≠b:=by
 intro e; subst e; rw[h]at h'; cases h'
section
variable (P:Program) (w:World)
def d8 (H:Hp) (h:Heap) (a:Addr):HO->Prop
 | .lst xs=>xs.length<=sizeLine/\∃ (its:Lf) (n:Nat),bZ xs its/\h.get? a=some { cls:=.type "list",data:=.seq its.toArray n }
 | .tup xs=>xs.length<=sizeLine/\∃ its:Lf,bZ xs its/\IsTup h a its.toArray
 | .dK kvs=>kvs.length<=sizeLine/\(a == sysModules)=false/\∃ vs,KV kvs vs/\h.DictOf (cE P w) a vs
 | .dT kvs=>kvs.length<=sizeLine/\(a == sysModules)=false/\∃ xs:List (List Key × Addr × Value),
   Paired (fun(p:List Key × V) (q:List Key × Addr × Value)=>p.1=q.1/\H q.2.1=some (.tup (p.1.map kV))/\bX p.2 q.2.2) kvs xs/\
   ∃ o es ep,h.get? a=some o/\o.ExactDict/\o.data = .dict es ep/\es.toList=xs.map (entryOfKey (tupleKind (cE P w)))/\(xs.map (·.1)).Nodup
 | .set S n=>h.SetOf (intKind P w) a S n
 | .ins C dx fs=>H dx=some (.own a)/\fs.length<=1000/\dx≠a/\h.get? a=some (instObj C dx)/\
   ∃ mA,h.Ns1 dx mA/\(∀ f,kK (fs.lookup f) (mA f))/\PySem.Within mA (fs.map (·.1))
 | .own _=>∃ o,h.get? a=some o
 | .xd fs=>∃ mA,h.Ns1 a mA/\∀ f,kK (fs.lookup f) (mA f)
 | .rng lo hi=>∃ t u v,h.get? a=some { cls:=.type "range",data:=.fields #[.int lo t,.int hi u,.int 1 v] }
 | .frz o u=>h.get? a=some o/\d8 H h a u
 | .tbl ps=>h.get? a=some { cls:=.none,data:=.fields ps }
 | .met f x=>h.get? a=some (PySem.W.methodObj (.ref f) (.ref x))
 | .ext φ=>φ h/\(∃ o,h.get? a=some o)/\∀ h1 h2:Heap,φ h1->(∀ o,h1.get? a=some o->h2.get? a=some o)->φ h2
def HOk (H:Hp) (h:Heap):Prop:=∀ a o,H a=some o->d8 P w H h a o
end
section
variable {P:Program} {w:World} {H H':Hp} {h h':Heap} {a:Addr} {o:HO}
def d8.lt (x:d8 P w H h a o):a<h.objs.size:=by
 cases o with
 | lst xs=>obtain⟨_,_,_,_,e⟩:=x; exact lt_size e
 | tup xs=>obtain⟨_,_,_,p⟩:=x; exact p.lt
 | dK kvs=>obtain⟨_,_,_,_,o,_,_,e,_⟩:=x; exact lt_size e
 | dT kvs=>obtain⟨_,_,_,_,o,_,_,e,_⟩:=x; exact lt_size e
 | set S n=>obtain⟨o,_,_,_,e,_⟩:=x; exact lt_size e
 | ins C dx fs=>obtain⟨_,_,_,e,_⟩:=x; exact lt_size e
 | own y=>obtain⟨_,e⟩:=x; exact lt_size e
 | xd fs=>obtain⟨_,⟨_,_,_,e,_⟩,_⟩:=x; exact lt_size e
 | rng lo hi=>obtain⟨_,_,_,e⟩:=x; exact lt_size e
 | frz ob u=>obtain⟨e,_⟩:=x; exact lt_size e
 | tbl ps=>exact lt_size (show h.get? a=some _ from x)
 | met f y=>exact lt_size (show h.get? a=some _ from x)
 | ext φ=>obtain⟨_,⟨_,e⟩,_⟩:=x; exact lt_size e
def Paired.mapP {α β : Type} {F G:α->β->Prop}:∀ {l₁ : List α} {l₂ : List β},Paired F l₁ l₂->(∀ a b,F a b->G a b)->Paired G l₁ l₂
 | _,_,.nil,_=>.nil
 | _,_,.cons r t,f=>.cons (f _ _ r) (Paired.mapP t f)
def d8.stay (x:d8 P w H h a o) (k:∀ b u,(b=a\/H b=some (.own a))->h.get? b=some u->h'.get? b=some u)
  (ho:∀ b,H b=some (.own a)->H' b=some (.own a)) (ht:∀ b xs,H b=some (.tup xs)->H' b=some (.tup xs)):d8 P w H' h' a o:=by
 induction o with
 | lst xs=>obtain⟨z,its,n,r,e⟩:=x; exact⟨z,its,n,r,k _ _ (.inl rfl) e⟩
 | tup xs=>obtain⟨z,its,r,ob,e,c⟩:=x; exact⟨z,its,r,ob,k _ _ (.inl rfl) e,c⟩
 | dK kvs=>obtain⟨z,y,vs,r,ob,es,ep,e,c⟩:=x; exact⟨z,y,vs,r,ob,es,ep,k _ _ (.inl rfl) e,c⟩
 | dT kvs=>
  obtain⟨z,y,xs,r,ob,es,ep,e,c⟩:=x
  exact⟨z,y,xs,Paired.mapP r fun p q z=>⟨z.1,ht _ _ z.2.1,z.2.2⟩,ob,es,ep,k _ _ (.inl rfl) e,c⟩
 | set S n=>obtain⟨ob,es,ep,t,e,c⟩:=x; exact⟨ob,es,ep,t,k _ _ (.inl rfl) e,c⟩
 | ins C dx fs=>
  obtain⟨d,z,ne,e,mA,⟨od,es,ep,e2,c⟩,r⟩:=x
  exact⟨ho _ d,z,ne,k _ _ (.inl rfl) e,mA,⟨od,es,ep,k _ _ (.inr d) e2,c⟩,r⟩
 | own y=>obtain⟨ob,e⟩:=x; exact⟨ob,k _ _ (.inl rfl) e⟩
 | xd fs=>obtain⟨mA,⟨od,es,ep,e,c⟩,r⟩:=x; exact⟨mA,⟨od,es,ep,k _ _ (.inl rfl) e,c⟩,r⟩
 | rng lo hi=>obtain⟨t,u,v,e⟩:=x; exact⟨t,u,v,k _ _ (.inl rfl) e⟩
 | frz ob u ih=>obtain⟨e,q⟩:=x; exact⟨k _ _ (.inl rfl) e,ih q⟩
 | tbl ps=>
  have e:h.get? a=some { cls:=.none,data:=.fields ps }:=x
  show h'.get? a=some { cls:=.none,data:=.fields ps }
  exact k a _ (.inl rfl) e
 | met f y=>
  have e:h.get? a=some (PySem.W.methodObj (.ref f) (.ref y)):=x
  show h'.get? a=some (PySem.W.methodObj (.ref f) (.ref y))
  exact k a _ (.inl rfl) e
 | ext φ=>obtain⟨p,⟨o,e⟩,st⟩:=x; exact⟨st _ _ p fun o q=>k _ _ (.inl rfl) q,⟨o,k _ _ (.inl rfl) e⟩,st⟩
def HOk.lt (x:HOk P w H h) (e:H a=some o):a<h.objs.size:=(x a o e).lt
def HOk.fresh (x:HOk P w H h) (e:h.objs.size<=a):H a=none:=by
 cases q:H a with
 | none=>rfl
 | some u=>exact absurd (lt_of_lt_of_le (x.lt q) e) (lt_irrefl _)
def HOk.kept (x:HOk P w H h) (k:∀ b u,h.get? b=some u->h'.get? b=some u):HOk P w H h':=fun a o e=>
 (x a o e).stay (fun b u _ q=>k b u q) (fun _ q=>q) fun _ _ q=>q
def HOk.laid (x:HOk P w H h) (k:∀ b u,h.get? b=some u->h'.get? b=some u) (hp:h.objs.size<=a) (new:d8 P w (upd H a o) h' a o):HOk P w (upd H a o) h':=fun b u e=>by
 have hn:=x.fresh hp
 by_cases hb:b=a
 ·subst hb; rw[aB]at e; cases e; exact new
 ·rw[aF hb]at e
  exact(x b u e).stay (fun c v _ q=>k c v q) (fun c q=>by rw[aF (bP q hn)]; exact q) fun c xs q=>by rw[aF (bP q hn)]; exact q
end
def Rd (H:Hp) (a:Addr) (u:HO):Prop:=H a=some u\/∃ o,H a=some (.frz o u)
def Rd.ok (r:Rd H a u) (x:HOk P w H h):d8 P w H h a u:=by
 rcases r with r | ⟨o,r⟩
 ·exact x a u r
 ·obtain⟨_,q⟩:=x a _ r
  exact q
def Mut:Option HO->Prop
 | some (.lst _)=>True
 | some (.dK _)=>True
 | some (.dT _)=>True
 | some (.set _ _)=>True
 | some (.ins _ _ _)=>True
 | some (.ext _)=>True
 | _=>False
section
variable {P:Program} {w:World} {H:Hp} {h h':Heap} {x e:Addr} {o':HO}
def HOk.write (ok:HOk P w H h) (mu:Mut (H x)) (he:e=x\/H e=some (.own x)) (k:∀ b u,b≠e->h.get? b=some u->h'.get? b=some u) (heo:∃ u,h'.get? e=some u)
  (new:d8 P w (upd H x o') h' x o'):HOk P w (upd H x o') h':=fun b u q=>by
 have nown:∀ c y,H c=some (.own y)->c≠x:=fun c y r z=>by subst z; rw[r]at mu; exact mu
 have ntup:∀ c xs,H c=some (.tup xs)->c≠x:=fun c xs r z=>by subst z; rw[r]at mu; exact mu
 by_cases hb:b=x
 ·subst hb; rw[aB]at q; cases q; exact new
 ·rw[aF hb]at q
  by_cases hbe:b=e
  ·have q':H b=some (.own x):=by
    rcases he with z | z
    ·exact absurd (hbe.trans z) hb
    ·rw[hbe]; exact z
   rw[q]at q'; cases q'
   obtain⟨v,hv⟩:=heo
   exact⟨v,by rw[hbe]; exact hv⟩
  ·refine(ok b u q).stay (fun c v hc r=>k c v ?_ r) (fun c r=>by rw[aF (nown c b r)]; exact r) fun c xs r=>by rw[aF (ntup c xs r)]; exact r
   rcases hc with rfl | hc
   ·exact hbe
   ·rintro rfl
    rcases he with z | z
    ·exact nown c b hc z
    ·rw[hc]at z; cases z; exact hb rfl
end
structure Un (fs ex:List Addr) (H H':Hp) (h h':Heap):Prop where
 keep:∀ b o,h.get? b=some o->H b=none->b ∉ fs->b ∉ ex->h'.get? b=some o
 slot:∀ b o,h.get? b=some o->H b=none->b∈fs->b ∉ ex->∃ sl,h'.get? b=some { o with slots:=sl }
 free:∀ b o,h.get? b=some o->H b=none->b ∉ ex->H' b=none
 there:∀ b o,h.get? b=some o->b ∉ ex->∃ o',h'.get? b=some o'
 tups:∀ b xs,H b=some (.tup xs)->H' b=some (.tup xs)
 frzs:∀ b o u,H b=some (.frz o u)->H' b=some (.frz o u)
 tbls:∀ b ps,H b=some (.tbl ps)->∃ more,H' b=some (.tbl (ps++more))
section
variable {fs fs' ex ex':List Addr} {H H1 H2:Hp} {h h1 h2 h':Heap} {a x e:Addr} {o:HO}
def Un.any (u:Un fs ex H H1 h h1) (q:h.get? b=some ob) (n:H b=none) (hx:b ∉ ex):∃ sl,h1.get? b=some { ob with slots:=sl }:=by
 by_cases hb:b∈fs
 ·exact u.slot b ob q n hb hx
 ·exact⟨ob.slots,u.keep b ob q n hb hx⟩
def Un.kept (k:∀ b u,h.get? b=some u->h'.get? b=some u):Un fs ex H H h h':=
 ⟨fun b ob q _ _ _=>k b ob q,fun b ob q _ _ _=>⟨ob.slots,k b ob q⟩,fun _ _ _ n _=>n,fun b ob q _=>⟨ob,k b ob q⟩,fun _ _ q=>q,fun _ _ _ q=>q,fun _ ps q=>⟨#[],by rw[q]; simp⟩⟩
def Un.refl:Un fs ex H H h h:=Un.kept fun _ _ q=>q
def Un.laid (k:∀ b u,h.get? b=some u->h'.get? b=some u) (hp:h.objs.size<=a) (hn:H a=none):Un fs ex H (upd H a o) h h' where
 keep:=fun b u q _ _ _=>k b u q
 slot:=fun b u q _ _ _=>⟨u.slots,k b u q⟩
 free:=fun b u q n _=>by rw[aF (ne_of_lt (lt_of_lt_of_le (lt_size q) hp))]; exact n
 there:=fun b u q _=>⟨u,k b u q⟩
 tups:=fun b xs q=>by rw[aF (bP q hn)]; exact q
 frzs:=fun b u xs q=>by rw[aF (bP q hn)]; exact q
 tbls:=fun b ps q=>⟨#[],by rw[aF (bP q hn),q]; simp⟩
def Un.write (mu:Mut (H x)) (he:e=x\/H e=some (.own x)) (k:∀ b u,b≠e->h.get? b=some u->h'.get? b=some u) (heo:∃ u,h'.get? e=some u):Un fs ex H (upd H x o) h h':=by
 have hx:∀ b,H b=none->b≠x:=fun b n z=>by subst z; rw[n]at mu; exact mu
 have hb:∀ b,H b=none->b≠e:=fun b n z=>by
  subst z
  rcases he with r | r
  ·exact hx b n r
  ·rw[n]at r; cases r
 have hm:∀ b u,H b=some u->¬ Mut (some u)->b≠x:=fun b u q nm z=>by subst z; rw[q]at mu; exact nm mu
 refine⟨fun b u q n _ _=>k b u (hb b n) q,fun b u q n _ _=>⟨u.slots,k b u (hb b n) q⟩,fun b u q n _=>by rw[aF (hx b n)]; exact n,fun b u q _=>?_,
  fun b xs q=>by rw[aF (hm b _ q fun z=>z)]; exact q,fun b u xs q=>by rw[aF (hm b _ q fun z=>z)]; exact q,fun b ps q=>⟨#[],by rw[aF (hm b _ q fun z=>z),q]; simp⟩⟩
 by_cases hbe:b=e
 ·subst hbe; exact heo
 ·exact⟨u,k b u hbe q⟩
end
def trk (h:Heap) (H:Hp):List Addr:=(List.range h.objs.size).filter fun a=>(H a).isSome
def zR (h:Heap) (H:Hp):Heap:=hideAll h (trk h H)
def E8 (h:Heap) (H:Hp):(zR h H).objs.size=h.objs.size:=PySem.W.hideAll_size _ _
def HA (e:h.get? b=some o) (n:H b=none):(zR h H).get? b=some o:=
 hideAll_get _ e fun hm=>by
  have q:(H b).isSome=true:=(mem_filter.mp hm).2
  rw[n]at q; simp at q
def Id (e:(zR h H).get? b=some o):h.get? b=some o/\H b=none:=by
 have e':h.get? b=some o:=of_hideAll (trk h H) e
 refine⟨e',?_⟩
 cases q:H b with
 | none=>rfl
 | some x=>
  have hm:b∈trk h H:=mem_filter.mpr ⟨mem_range.mpr (lt_size e'),by simp [q]⟩
  have z:(zR h H).get? b=none:=PySem.W.hideAll_none (trk h H) hm
  rw[z]at e; cases e
def JC (g h:Heap) (L:Addr):K7:=(List.range h.objs.size).filterMap fun a=>if a=L\/(g.get? a).isSome=true then none else (h.get? a).map fun o=>(a,o)
def rest (g h:Heap) (L d:Addr):K7:=(JC g h L).filter fun p=>decide (p.1≠d)
structure Mod (K:K6) (mg:K8) (base:Heap):Prop where
 kin:K.In base
 glob:base.Ns mainGlobals mg
 blt:∃ mb,base.Ns builtinsNs mb/\∀ x:Str,x ≠ "__name__"->mb x=bootBuiltins x
 nolimit:base.NoLimit
structure Cx where
 prog:Program
 w:World
 K:K6
 mg:K8
 base:Heap
 A:Around
 N:Ld
 s₀ : Shared
 H₀ : Hp
 env:Env
 outer:List Env
 stack:List Env
 ex:List Addr
 fn:Str->Bool
 calm:Bool
 pn:K7
 xe:Value->Shared->Prop
def frs (l:List Env):List Addr:=l.filterMap (·.frame)
abbrev Cx.fs (X:Cx):List Addr:=frs X.outer
def Vis (sc:Scope) (x:Str):Prop:=sc.names.lookup x=some .local\/sc.names.lookup x=some .cell\/sc.names.lookup x=some .free
def Loc (sc:Scope) (x:Str):Prop:=sc.names.lookup x=some .local\/sc.names.lookup x=some .cell
def Look (env:Env) (h:Heap) (m:K8) (x:Str) (u:Value):Prop:=
 (env.kindOf x=some .local/\m x=some u)\/((env.kindOf x=some .cell\/env.kindOf x=some .free)/\∃ c,env.cells.lookup x=some c/\h.IsCell c (some u))
structure Cx.Ok (X:Cx):Prop where
 mod:Mod X.K X.mg X.base
 kind:X.env.scope.kind = .function
 glob:X.env.globals=mainGlobals
 blt:X.env.builtins=builtinsNs
 above:X.s₀.heap.objs.size<=X.env.locals
 inj:∀ x y c,X.env.cells.lookup x=some c->X.env.cells.lookup y=some c->x=y
 has:∀ x,(X.env.kindOf x=some .cell\/X.env.kindOf x=some .free)->∃ c,X.env.cells.lookup x=some c
 cab:∀ x c,X.fn x=true->X.env.cells.lookup x=some c->X.s₀.heap.objs.size<=c
 hd:X.calm=true->X.A.handled=none
 frames:X.A.frames=some X.stack
 stk:X.stack=X.outer\/(X.stack=X.env::X.outer/\X.env.frame=some X.env.locals)
 exf:∀ b∈X.ex,b≠X.env.locals/\∀ x c,X.env.cells.lookup x=some c->c≠b
 bs:∀ b o,X.base.get? b=some o->X.s₀.heap.get? b=some o/\X.H₀ b=none
 bsz:X.base.objs.size<=X.s₀.heap.objs.size
 noex:∀ b o,X.base.get? b=some o->b ∉ X.ex
 exfs:∀ b∈X.ex,b ∉ X.fs
 funs:X.s₀.heap.FunFrames X.base X.outer
 frf:∀ b∈X.fs,X.H₀ b=none
structure Inv (X:Cx) (pins:K7) (σ : List (Option V)) (H:Hp) (s:Shared):Prop where
 ok:X.Ok
 os:s.os=X.s₀.os
 bare:AllBare s.gens
 base:Un X.fs X.ex X.H₀ H X.s₀.heap s.heap
 loc:∃ m,s.heap.Ns X.env.locals m/\∀ (i:Nat) (x:Str) (v:V),X.N[i]? = some x->σ[i]? = some (some v)->Vis X.env.scope x->∃ u,bX v u/\Look X.env s.heap m x u
 cell:∀ x c,X.env.cells.lookup x=some c->∃ v,s.heap.IsCell c v
 free:H X.env.locals=none
 freeC:∀ x c,X.env.cells.lookup x=some c->H c=none
 pin:∀ p∈X.pn++pins,s.heap.get? p.1=some p.2/\H p.1=none/\p.1≠X.env.locals/\p.1 ∉ X.fs/\∀ v,p.2.data ≠ .cell v
 hok:HOk X.prog X.w H s.heap
 len:σ.length=X.N.length
section
variable {X:Cx} {pins:K7} {σ : List (Option V)} {H H':Hp} {s:Shared} {h':Heap}
def Cx.Ok.nofr (ok:X.Ok) (e:X.base.get? b=some o):b ∉ X.fs:=fun hb=>by
 have:=(ok.funs.mem hb).1
 rw[e]at this; cases this
def Inv.bs (I:Inv X pins σ H s):∀ b o,X.base.get? b=some o->s.heap.get? b=some o/\H b=none:=fun b o e=>
 ⟨I.base.keep b o (I.ok.bs b o e).1 (I.ok.bs b o e).2 (I.ok.nofr e) (I.ok.noex b o e),I.base.free b o (I.ok.bs b o e).1 (I.ok.bs b o e).2 (I.ok.noex b o e)⟩
def Inv.bk (I:Inv X pins σ H s):∀ b o,X.base.get? b=some o->s.heap.get? b=some o:=fun b o e=>(I.bs b o e).1
def Inv.mod (I:Inv X pins σ H s):Mod X.K X.mg X.base:=I.ok.mod
def Inv.kIn (I:Inv X pins σ H s):X.K.In s.heap:=I.ok.mod.kin.keeps I.bk
def Inv.lt (I:Inv X pins σ H s):X.env.locals<s.heap.objs.size:=let ⟨_,hn,_⟩:=I.loc; hn.lt
def Inv.sz (I:Inv X pins σ H s):X.s₀.heap.objs.size<=s.heap.objs.size:=le_trans I.ok.above (Nat.le_of_lt I.lt)
def Inv.nofs (I:Inv X pins σ H s) (h:s.heap.objs.size<=a):a ∉ X.fs:=fun hb=>by
 obtain⟨_,o,ho,_⟩:=I.ok.funs.mem hb
 exact absurd (lt_of_lt_of_le (lt_size ho) (le_trans I.sz h)) (lt_irrefl _)
def Inv.cne (I:Inv X pins σ H s):∀ x c,X.env.cells.lookup x=some c->c≠X.env.locals:=fun x c e z=>by
 obtain⟨v,o,ho,hd⟩:=I.cell x c e
 obtain⟨m,⟨o',es,ep,ho',hd',_⟩,_⟩:=I.loc
 rw[z,ho']at ho; cases ho; rw[hd']at hd; cases hd
def Inv.funs (I:Inv X pins σ H s):s.heap.FunFrames X.base X.outer:=by
 have all:∀ (l:List Env),(∀ b∈frs l,b∈X.fs)->X.s₀.heap.FunFrames X.base l->s.heap.FunFrames X.base l:=by
  intro l
  induction l with
  | nil=>intro _ _; trivial
  | cons env r ih=>
   intro hs hl
   obtain⟨hk,⟨L,o,hf,hn,ho,hd⟩,hr⟩:=hl
   have hL:L∈X.fs:=hs L (by unfold frs; rw[filterMap_cons,hf]; exact mem_cons_self)
   obtain⟨sl,e⟩:=I.base.slot L o ho (I.ok.frf L hL) hL fun z=>I.ok.exfs L z hL
   exact⟨hk,⟨L,_,hf,hn,e,hd⟩,ih (fun b hb=>hs b (by unfold frs; rw[filterMap_cons,hf]; exact mem_cons_of_mem _ hb)) hr⟩
 exact all X.outer (fun _ hb=>hb) I.ok.funs
def Inv.stack (I:Inv X pins σ H s):s.heap.FunFrames X.base X.stack:=by
 rcases I.ok.stk with e | ⟨e,hf⟩
 ·rw[e]; exact I.funs
 ·rw[e]
  obtain⟨m,hn,_⟩:=I.loc
  refine .cons (by rw[I.ok.kind]; decide) hf hn ?_ I.funs
  exact Heap.get?_none_of_le (le_trans I.ok.bsz I.ok.above)
def Inv.stkSub (I:Inv X pins σ H s):∀ b∈frs X.stack,b∈X.env.locals::X.fs:=fun b hb=>by
 rcases I.ok.stk with e | ⟨e,hf⟩
 ·rw[e]at hb; exact mem_cons_of_mem _ hb
 ·rw[e]at hb
  unfold frs at hb
  rw[filterMap_cons,hf]at hb
  exact hb
def Inv.stkFree (I:Inv X pins σ H s):∀ b∈frs X.stack,H b=none:=fun b hb=>by
 rcases mem_cons.mp (I.stkSub b hb) with e | hb
 ·rw[e]; exact I.free
 ·obtain⟨_,o,ho,_⟩:=I.ok.funs.mem hb
  exact I.base.free b o ho (I.ok.frf b hb) fun z=>I.ok.exfs b z hb
def Inv.step {g':Array GenState} {t':Nat} {d':Drawn} {ch:List Addr} (I:Inv X pins σ H s)
  (hch:∀ b∈ch,(b∈X.ex\/X.s₀.heap.objs.size<=b)/\b≠X.env.locals/\(∀ x c,X.env.cells.lookup x=some c->c≠b)/\∀ p∈X.pn++pins,p.1≠b)
  (keep:∀ b o,b≠X.env.locals->b ∉ X.fs->b ∉ ch->s.heap.get? b=some o->H b=none->h'.get? b=some o)
  (slot:∀ b o,b≠X.env.locals->b∈X.fs->b ∉ ch->s.heap.get? b=some o->H b=none->∃ sl,h'.get? b=some { o with slots:=sl }) (free:∀ b o,b ∉ ch->s.heap.get? b=some o->H b=none->H' b=none)
  (there:∀ b o,b ∉ ch->s.heap.get? b=some o->∃ o',h'.get? b=some o')
  (tups:∀ b xs,H b=some (.tup xs)->H' b=some (.tup xs)) (frzs:∀ b o u,H b=some (.frz o u)->H' b=some (.frz o u)) (tbls:∀ b ps,H b=some (.tbl ps)->∃ more,H' b=some (.tbl (ps++more)))
  (ns:∀ m,s.heap.Ns X.env.locals m->h'.Ns X.env.locals m) (hok:HOk X.prog X.w H' h') (hg:AllBare g') :
  Inv X pins σ H' { s with heap:=h',gens:=g',drawn:=d',toks:=t' }:=by
 have neL:∀ b o,X.s₀.heap.get? b=some o->b≠X.env.locals:=fun b o e=>ne_of_lt (lt_of_lt_of_le (lt_size e) I.ok.above)
 have neC:∀ b o,X.s₀.heap.get? b=some o->b ∉ X.ex->b ∉ ch:=fun b o e hx hb=>by
  rcases (hch b hb).1 with z | z
  ·exact hx z
  ·exact absurd (lt_of_lt_of_le (lt_size e) z) (lt_irrefl _)
 have cellK:∀ x c,X.env.cells.lookup x=some c->∀ v,s.heap.IsCell c v->h'.IsCell c v:=fun x c e v ⟨o,ho,hd⟩=>by
  have nch:c ∉ ch:=fun z=>(hch c z).2.2.1 x c e rfl
  by_cases hc:c∈X.fs
  ·obtain⟨sl,q⟩:=slot c o (I.cne x c e) hc nch ho (I.freeC x c e)
   exact⟨_,q,hd⟩
  ·exact⟨o,keep c o (I.cne x c e) hc nch ho (I.freeC x c e),hd⟩
 refine⟨I.ok,I.os,hg,⟨fun b o e n hb hx=>?_,fun b o e n hb hx=>?_,fun b o e n hx=>?_,fun b o e hx=>?_,fun b xs e=>tups b xs (I.base.tups b xs e),fun b o xs e=>frzs b o xs (I.base.frzs b o xs e),fun b ps e=>?_⟩,?_,fun x c e=>?_,?_,fun x c e=>?_,fun p hp=>?_,hok,I.len⟩
 ·exact keep b o (neL b o e) hb (neC b o e hx) (I.base.keep b o e n hb hx) (I.base.free b o e n hx)
 ·obtain⟨sl,e1⟩:=I.base.slot b o e n hb hx
  obtain⟨sl',e2⟩:=slot b _ (neL b o e) hb (neC b o e hx) e1 (I.base.free b o e n hx)
  exact⟨sl',e2⟩
 ·obtain⟨o',e1⟩:=I.base.there b o e hx
  exact free b o' (neC b o e hx) e1 (I.base.free b o e n hx)
 ·obtain⟨o',e1⟩:=I.base.there b o e hx
  exact there b o' (neC b o e hx) e1
 ·obtain⟨m1,e1⟩:=I.base.tbls b ps e
  obtain⟨m2,e2⟩:=tbls b _ e1
  exact⟨m1++m2,by rw[e2,Array.append_assoc]⟩
 ·obtain⟨m,hn,hl⟩:=I.loc
  refine⟨m,ns m hn,fun i x v e1 e2 e3=>?_⟩
  obtain⟨u,r,l⟩:=hl i x v e1 e2 e3
  refine⟨u,r,?_⟩
  rcases l with l | ⟨k,c,e,z⟩
  ·exact .inl l
  ·exact .inr ⟨k,c,e,cellK x c e _ z⟩
 ·obtain⟨v,z⟩:=I.cell x c e
  exact⟨v,cellK x c e v z⟩
 ·obtain⟨m,⟨o,_,_,ho,_⟩,_⟩:=I.loc
  exact free _ o (fun z=>(hch _ z).2.1 rfl) ho I.free
 ·obtain⟨v,o,ho,hd⟩:=I.cell x c e
  exact free c o (fun z=>(hch c z).2.2.1 x c e rfl) ho (I.freeC x c e)
 ·obtain⟨e,n,ne,nf,d⟩:=I.pin p hp
  have nch:p.1 ∉ ch:=fun z=>(hch p.1 z).2.2.2 p hp rfl
  exact⟨keep p.1 p.2 ne nf nch e n,free p.1 p.2 nch e n,ne,nf,d⟩
def Inv.un {t':Nat} (I:Inv X pins σ H s) (u:Un X.fs [] H H' s.heap h') (hok:HOk X.prog X.w H' h'):Inv X pins σ H' { s with heap:=h',toks:=t' }:=by
 obtain⟨m,⟨o,es,ep,ho,r⟩,_⟩:=id I.loc
 obtain⟨sl,hL⟩:=u.any ho I.free (by simp)
 exact I.step (g':=s.gens) (d':=s.drawn) (ch:=[]) (fun _ z=>nomatch z) (fun b o _ hb _ e n=>u.keep b o e n hb (by simp)) (fun b o _ hb _ e n=>u.slot b o e n hb (by simp)) (fun b o _ e n=>u.free b o e n (by simp)) (fun b o _ e=>u.there b o e (by simp)) u.tups u.frzs u.tbls (fun m' hm=>by
  obtain⟨o',es',ep',ho',r'⟩:=hm
  rw[ho]at ho'; cases ho'
  exact⟨_,es',ep',hL,r'⟩) hok I.bare
def Inv.call {g':Array GenState} {t':Nat} {d':Drawn} {ch:List Addr} (I:Inv X pins σ H s) (u:Un (frs X.stack) ch H H' s.heap h') (hok:HOk X.prog X.w H' h') (hg:AllBare g')
  (hch:∀ b∈ch,(b∈X.ex\/X.s₀.heap.objs.size<=b)/\b≠X.env.locals/\(∀ x c,X.env.cells.lookup x=some c->c≠b)/\∀ p∈X.pn++pins,p.1≠b) :
  Inv X pins σ H' { s with heap:=h',gens:=g',drawn:=d',toks:=t' }:=by
 obtain⟨m,⟨o,es,ep,ho,r⟩,_⟩:=id I.loc
 obtain⟨sl,hL⟩:=u.any ho I.free fun z=>(hch _ z).2.1 rfl
 exact I.step (ch:=ch) hch (fun b o hL hb hc e n=>u.keep b o e n (fun z=>(mem_cons.mp (I.stkSub b z)).elim hL hb) hc) (fun b o _ _ hc e n=>u.any e n hc) (fun b o hc e n=>u.free b o e n hc) (fun b o hc e=>u.there b o e hc) u.tups u.frzs u.tbls (fun m' hm=>by
  obtain⟨o',es',ep',ho',r'⟩:=hm
  rw[ho]at ho'; cases ho'
  exact⟨_,es',ep',hL,r'⟩) hok hg
def Inv.turned {t':Nat} {it:Addr} (I:Inv X pins σ H s) (k:∀ b o,b≠it->s.heap.get? b=some o->h'.get? b=some o) (hn:H it=none) (hL:it≠X.env.locals)
  (h1:it∈X.ex\/X.s₀.heap.objs.size<=it) (h2:∀ x c,X.env.cells.lookup x=some c->c≠it) (h3:∀ p∈X.pn++pins,p.1≠it):Inv X pins σ H { s with heap:=h',toks:=t' }:=by
 have nit:∀ b u,H b=some u->b≠it:=fun b u e z=>by rw[z,hn]at e; cases e
 refine I.step (g':=s.gens) (d':=s.drawn) (ch:=[it]) (fun b hb=>?_) (fun b o _ _ hc e _=>k b o (fun z=>hc (by simp [z])) e) (fun b o _ _ hc e _=>⟨o.slots,k b o (fun z=>hc (by simp [z])) e⟩) (fun _ _ _ _ n=>n)
  (fun b o hc e=>⟨o,k b o (fun z=>hc (by simp [z])) e⟩) (fun _ _ e=>e) (fun _ _ _ e=>e) (fun b ps e=>⟨#[],by rw[e]; simp⟩) (fun m hm=>?_) (fun b u e=>?_) I.bare
 ·have e:b=it:=by simpa using hb
  subst e
  exact⟨h1,hL,h2,h3⟩
 ·obtain⟨o,es,ep,ho,r⟩:=hm
  exact⟨o,es,ep,k _ o (Ne.symm hL) ho,r⟩
 ·refine(I.hok b u e).stay (fun c v hc q=>k c v ?_ q) (fun _ q=>q) fun _ _ q=>q
  rcases hc with z | z
  ·rw[z]; exact nit b u e
  ·exact nit c _ z
def Inv.tok (I:Inv X pins σ H s) (t:Nat):Inv X pins σ H { s with toks:=t }:=I.un (h':=s.heap) (t':=t) Un.refl I.hok
def Inv.kept (I:Inv X pins σ H s) (k:∀ b u,s.heap.get? b=some u->h'.get? b=some u):Inv X pins σ H { s with heap:=h',toks:=t' }:=I.un (Un.kept k) (I.hok.kept k)
def Inv.laid (I:Inv X pins σ H s) (k:∀ b u,s.heap.get? b=some u->h'.get? b=some u) (hp:s.heap.objs.size<=a) (new:d8 X.prog X.w (upd H a o) h' a o) :
  Inv X pins σ (upd H a o) { s with heap:=h',toks:=t' }:=I.un (Un.laid k hp (I.hok.fresh hp)) (I.hok.laid k hp new)
def Inv.write (I:Inv X pins σ H s) (mu:Mut (H x)) (he:e=x\/H e=some (.own x)) (k:∀ b u,b≠e->s.heap.get? b=some u->h'.get? b=some u) (heo:∃ u,h'.get? e=some u)
  (new:d8 X.prog X.w (upd H x o) h' x o):Inv X pins σ (upd H x o) { s with heap:=h',toks:=t' }:=I.un (Un.write mu he k heo) (I.hok.write mu he k heo new)
def Inv.pins_of (I:Inv X pins σ H s) (h:∀ p∈pins',s.heap.get? p.1=some p.2/\H p.1=none/\p.1≠X.env.locals/\p.1 ∉ X.fs/\∀ v,p.2.data ≠ .cell v):Inv X pins' σ H s:=
 ⟨I.ok,I.os,I.bare,I.base,I.loc,I.cell,I.free,I.freeC,fun p hp=>(mem_append.mp hp).elim (fun z=>I.pin p (mem_append_left _ z)) (h p),I.hok,I.len⟩
def A8 {N:Ld} (hN:N.Nodup) {i j:Nat} {x:Str} (a:N[i]? = some x) (b:N[j]? = some x):i=j:=by
 obtain⟨h1,e1⟩:=List.getElem?_eq_some_iff.mp a
 obtain⟨h2,e2⟩:=List.getElem?_eq_some_iff.mp b
 exact(List.getElem_inj hN).mp (e1.trans e2.symm)
def EH {M:Model} {A:Around} {E:Lk} {i:Nat} {x:Str} {v:V} {u:Value} {Q:Unit->Shared->Prop} (I:Inv X pins σ H s) (hN:X.N.Nodup) (hi:X.N[i]? = some x) (hx:Loc X.env.scope x) (r:bX v u)
  (h:∀ s',Inv X pins (σ.set i (some v)) H s'->(∃ a,Heap.SameBut a s.heap s'.heap/\(a=X.env.locals\/X.env.cells.lookup x=some a))->Q () s') (hf:X.fn x=true\/X.env.scope.names.lookup x=some .local:=by first | exact .inl rfl | exact .inr rfl | assumption):wpAny M A (storeName X.env x u) Q E s:=by
 obtain⟨m,hn,hl⟩:=id I.loc
 have hcls:(X.env.scope.kind == .class || (X.env.scope.kind == .module && X.env.locals != X.env.globals))=false:=by rw[I.ok.kind]; rfl
 have hiσ : i < σ.length:=by rw[I.len]; exact(List.getElem?_eq_some_iff.mp hi).1
 have cne:=I.cne
 have tracked:∀ {a:Addr} {h':Heap},(∃ o,s.heap.get? a=some o/\H a=none)->Heap.SameBut a s.heap h'->HOk X.prog X.w H h':=fun {a h'} ha hs b ob e=>by
  obtain⟨_,_,hfree⟩:=ha
  refine(I.hok b ob e).stay (fun c w' hc q=>(hs.2 c ?_).trans q) (fun _ q=>q) fun _ _ q=>q
  rintro rfl
  rcases hc with rfl | hc
  ·rw[hfree]at e; cases e
  ·rw[hfree]at hc; cases hc
 rcases hx with hk | hk
 ·refine wpAny_storeName_local hk hn (fun h' hn' hs=>?_) hcls
  obtain⟨oL,_,_,hoL,_⟩:=id hn
  refine h _ ⟨I.ok,I.os,I.bare,⟨fun b o e n hb hx=>?_,fun b o e n hb hx=>?_,I.base.free,fun b o e hx=>?_,I.base.tups,I.base.frzs,I.base.tbls⟩,⟨_,hn',fun j y v' e1 e2 e3=>?_⟩,fun y c e=>?_,I.free,I.freeC,fun p hp=>?_,tracked ⟨oL,hoL,I.free⟩ hs,by simpa using I.len⟩ ⟨_,hs,.inl rfl⟩
  ·exact(hs.2 b (ne_of_lt (lt_of_lt_of_le (lt_size e) I.ok.above))).trans (I.base.keep b o e n hb hx)
  ·obtain⟨sl,e1⟩:=I.base.slot b o e n hb hx
   exact⟨sl,(hs.2 b (ne_of_lt (lt_of_lt_of_le (lt_size e) I.ok.above))).trans e1⟩
  ·obtain⟨o',e1⟩:=I.base.there b o e hx
   exact⟨o',(hs.2 b (ne_of_lt (lt_of_lt_of_le (lt_size e) I.ok.above))).trans e1⟩
  ·by_cases hj:j=i
   ·subst hj
    rw[hi]at e1; cases e1
    rw[List.getElem?_set_self hiσ]at e2
    cases e2
    exact⟨u,r,.inl ⟨hk,by simp⟩⟩
   ·rw[List.getElem?_set_ne (Ne.symm hj)]at e2
    obtain⟨u',r',q⟩:=hl j y v' e1 e2 e3
    refine⟨u',r',?_⟩
    rcases q with ⟨k,e⟩ | ⟨k,c,e,z⟩
    ·refine .inl ⟨k,?_⟩
     have:y≠x:=fun e=>hj (A8 hN e1 (e ▸ hi))
     simp [this,e]
    ·exact .inr ⟨k,c,e,z.sameBut hs (cne y c e)⟩
  ·obtain⟨w',z⟩:=I.cell y c e
   exact⟨w',z.sameBut hs (cne y c e)⟩
  ·obtain⟨e,n,ne,nf,d⟩:=I.pin p hp
   exact⟨(hs.2 p.1 ne).trans e,n,ne,nf,d⟩
 ·have hfn:X.fn x=true:=by
   rcases hf with z | z
   ·exact z
   ·rw[z]at hk; cases hk
  obtain⟨c,hc⟩:=I.ok.has x (.inl hk)
  obtain⟨w',z⟩:=I.cell x c hc
  refine wpAny_storeName_cell I.ok.kind hk hc z (fun h' hc' hs=>?_)
  obtain⟨oc,hoc,hocd⟩:=id z
  refine h { s with heap:=h' } ⟨I.ok,I.os,I.bare,⟨fun b o e n hb hx=>?_,fun b o e n hb hx=>?_,I.base.free,fun b o e hx=>?_,I.base.tups,I.base.frzs,I.base.tbls⟩,⟨m,hn.sameBut hs (Ne.symm (cne x c hc)),fun j y v' e1 e2 e3=>?_⟩,fun y c' e=>?_,I.free,I.freeC,fun p hp=>?_,tracked ⟨oc,hoc,I.freeC x c hc⟩ hs,by simpa using I.len⟩ ⟨c,hs,.inr hc⟩
  ·exact(hs.2 b (ne_of_lt (lt_of_lt_of_le (lt_size e) (I.ok.cab x c hfn hc)))).trans (I.base.keep b o e n hb hx)
  ·obtain⟨sl,e1⟩:=I.base.slot b o e n hb hx
   exact⟨sl,(hs.2 b (ne_of_lt (lt_of_lt_of_le (lt_size e) (I.ok.cab x c hfn hc)))).trans e1⟩
  ·obtain⟨o',e1⟩:=I.base.there b o e hx
   exact⟨o',(hs.2 b (ne_of_lt (lt_of_lt_of_le (lt_size e) (I.ok.cab x c hfn hc)))).trans e1⟩
  ·by_cases hj:j=i
   ·subst hj
    rw[hi]at e1; cases e1
    rw[List.getElem?_set_self hiσ]at e2
    cases e2
    exact⟨u,r,.inr ⟨.inl hk,c,hc,hc'⟩⟩
   ·rw[List.getElem?_set_ne (Ne.symm hj)]at e2
    obtain⟨u',r',q⟩:=hl j y v' e1 e2 e3
    refine⟨u',r',?_⟩
    rcases q with q | ⟨k,c',e,z'⟩
    ·exact .inl q
    ·refine .inr ⟨k,c',e,z'.sameBut hs ?_⟩
     rintro rfl
     exact hj (A8 hN e1 (I.ok.inj _ _ _ e hc ▸ hi))
  ·by_cases hcc:c'=c
   ·subst hcc; exact⟨_,hc'⟩
   ·obtain⟨w2,z2⟩:=I.cell y c' e
    exact⟨w2,z2.sameBut hs hcc⟩
  ·obtain⟨e,n,ne,nf,d⟩:=I.pin p hp
   refine⟨(hs.2 p.1 ?_).trans e,n,ne,nf,d⟩
   intro q
   rw[q,hoc]at e
   have q':oc=p.2:=Option.some.inj e
   exact d w' (by rw[<- q']; exact hocd)
def s0 (I:Inv X pins σ H s) (hN:X.N.Nodup) (hi:X.N[i]? = some x) (hx:Loc X.env.scope x) (r:bX v u)
  (h:∀ s',Inv X pins (σ.set i (some v)) H s'->Q () s') (hf:X.fn x=true\/X.env.scope.names.lookup x=some .local:=by first | exact .inl rfl | exact .inr rfl | assumption):wpAny M A (storeName X.env x u) Q E s:=
 EH I hN hi hx r (fun s' I' _=>h s' I') hf
def Inv.call' (I:Inv X pins σ H s) (ho:s'.os=s.os) (u:Un (frs X.stack) ch H H' s.heap s'.heap) (hok:HOk X.prog X.w H' s'.heap) (hg:AllBare s'.gens)
  (hch:∀ b∈ch,(b∈X.ex\/X.s₀.heap.objs.size<=b)/\b≠X.env.locals/\(∀ x c,X.env.cells.lookup x=some c->c≠b)/\∀ p∈X.pn++pins,p.1≠b):Inv X pins σ H' s':=by
 obtain⟨h',g',d',t',o'⟩:=s'
 have e:o'=s.os:=ho
 subst e
 exact I.call (g':=g') (t':=t') (d':=d') u hok hg hch
end
abbrev XK:=Value->Option Addr->Hp->Prop
abbrev St:=List (Option V)
abbrev VK:=V->Hp->Prop
abbrev TE:=St->Hp->VK->Prop
abbrev TT:=St->Hp->(Bool->Hp->Prop)->Prop
abbrev TA:=St->Hp->(Ln->Hp->Prop)->Prop
structure Ends where
 nx:St->Hp->Prop
 rt:VK
 bk:St->Hp->Prop:=fun _ _=>False
 ct:St->Hp->Prop:=fun _ _=>False
def Ends.next (D:Ends) (f:St->Hp->Prop):Ends:={ D with nx:=f }
def Ends.loop (D:Ends) (N:St->Hp->Prop):Ends:={ D with nx:=N,ct:=N,bk:=D.nx }
def Ends.fn (Q:VK):Ends:={ nx:=fun _ H'=>Q .non H',rt:=Q }
abbrev TS:=Ends->St->Hp->Prop
inductive EP (X:Cx) (pins:K7) (σ : St) (Q:VK) (u:Value) (s':Shared):Prop
 | mk:∀ v H',Inv X pins σ H' s'->bX v u->Q v H'->EP X pins σ Q u s'
def TP (X:Cx) (pins:K7) (σ : St) (Q:Bool->Hp->Prop) (b:Bool) (s':Shared):Prop:=∃ H',Inv X pins σ H' s'/\Q b H'
inductive AP (X:Cx) (pins:K7) (σ : St) (Q:Ln->Hp->Prop) (us:Lf) (s':Shared):Prop
 | mk:∀ vs H',Inv X pins σ H' s'->bZ vs us->Q vs H'->AP X pins σ Q us s'
def SP (X:Cx) (pins:K7) (D:Ends) (f:Flow) (s':Shared):Prop:=
 match f with
 | .next=>∃ σ' H',Inv X pins σ' H' s'/\D.nx σ' H'
 | .brk=>∃ σ' H',Inv X pins σ' H' s'/\D.bk σ' H'
 | .cont=>∃ σ' H',Inv X pins σ' H' s'/\D.ct σ' H'
 | .ret u=>∃ v σ' H',Inv X pins σ' H' s'/\bX v u/\D.rt v H'
def PE (X:Cx) (e:Expr) (t:TE):Prop:=
 ∀ pins s σ H (Q:VK),Inv X pins σ H s->t σ H Q->wpAny (model X.prog X.w) X.A (eval e X.env) (EP X pins σ Q) X.xe s
def PT (X:Cx) (e:Expr) (t:TT):Prop:=
 ∀ pins s σ H (Q:Bool->Hp->Prop),Inv X pins σ H s->t σ H Q->wpAny (model X.prog X.w) X.A (isTrue e X.env (eval e X.env)) (TP X pins σ Q) X.xe s
def PW (X:Cx) (e:Expr) (t:TT):Prop:=
 ∀ (whole:Sem Value) (pins:K7) (s:Shared) (σ : St) (H:Hp) (Q:Bool->Hp->Prop),Inv X pins σ H s->t σ H Q->wpAny (model X.prog X.w) X.A (isTrue e X.env whole) (TP X pins σ Q) X.xe s
def PW.pt {X:Cx} {e:Expr} {t:TT} (h:PW X e t):PT X e t:=h _
def PA (X:Cx) (es:List Expr) (t:TA):Prop:=
 ∀ (pos:Pos) (pins:K7) (s:Shared) (σ : St) (H:Hp) (Q:Ln->Hp->Prop),Inv X pins σ H s->t σ H Q->wpAny (model X.prog X.w) X.A (spliced (backTo pos (starEach es X.env))) (AP X pins σ Q) X.xe s
def PS (X:Cx) (st:Stmt) (t:TS):Prop:=
 ∀ pins s σ H (D:Ends),Inv X pins σ H s->t D σ H->wpAny (model X.prog X.w) X.A (exec st X.env) (SP X pins D) X.xe s
def PSs (X:Cx) (st:List Stmt) (t:TS):Prop:=
 ∀ pins s σ H (D:Ends),Inv X pins σ H s->t D σ H->wpAny (model X.prog X.w) X.A (execs st X.env) (SP X pins D) X.xe s
def thn {α : Type} {t:Sem α} {Q Q':α->Shared->Prop} {M:Model} {A:Around} {E:Lk} {s:Shared} (h:wpAny M A t Q E s) (hQ:∀ a s,Q a s->Q' a s):wpAny M A t Q' E s:=wpAny_mono h hQ fun _ _ x=>x
section
variable {X:Cx}
inductive nM (i:Nat) (σ : St) (H:Hp) (Q:VK):Prop
 | mk:∀ v,σ[i]? = some (some v)->Q v H->nM i σ H Q
def tC (v:V):TE:=fun _ H Q=>Q v H
def KG (hN:X.N[i]? = some x) (hv:Vis X.env.scope x) (hd:(x == ("__debug__" : Str))=false:=by decide) (hcd:(x == ("__classdict__" : Str))=false:=by decide):PE X (.Name x pos) (nM i):=by
 intro pins s σ H Q I h
 obtain⟨v,e,h⟩:=h
 obtain⟨m,hn,hl⟩:=I.loc
 obtain⟨u,r,l⟩:=hl i x v hN e hv
 have fin:EP X pins σ Q u s:=⟨v,H,I,r,h⟩
 rcases l with ⟨hk,hm⟩ | ⟨hk,c,hc,hcell⟩
 ·exact wpAny_Name (wpAny_loadName_local I.ok.kind hk hn hm fin) hd
 ·rcases hk with hk | hk
  ·exact wpAny_Name (wpAny_loadName_cell I.ok.kind hk hc hcell fin) hd
  ·exact wpAny_Name (wpAny_loadName_free I.ok.kind hk hc hcell fin hcd) hd
def aI {i j pos}:PE X (.Constant (.int i) j pos) (tC (.int i)):=fun _ _ _ H _ I h=>wpAny_Constant_int ⟨.int i,H,I.tok _,⟨_,rfl⟩,h⟩
def DX {b j pos}:PE X (.Constant (.bool b) j pos) (tC (.bl b)):=fun _ _ _ H _ I h=>Constant_bool ⟨.bl b,H,I,rfl,h⟩
def jN {j pos}:PE X (.Constant .none j pos) (tC .non):=fun _ _ _ H _ I h=>Constant_none ⟨.non,H,I,rfl,h⟩
def bL {x j pos}:PE X (.Constant (.str x) j pos) (tC (.str x)):=fun _ _ _ H _ I h=>Calls.Constant_str ⟨.str x,H,I.tok _,⟨_,rfl⟩,h⟩
def Gl (X:Cx) (x:Str):Prop:=X.env.kindOf x=some .globalImplicit
def iD (I:Inv X pins σ H s) (hg:Gl X x) (hm:X.mg x=some u) (h:Q u s)
  (hd:(x == ("__debug__" : Str))=false:=by decide):wpAny (model X.prog X.w) X.A (eval (.Name x pos) X.env) Q E s:=
 Calls.Name_function_global I.ok.kind hg (Calls.loadGlobal_global (by rw[I.ok.glob]; exact I.mod.glob.keeps I.bk) hm h) hd
def lG (I:Inv X pins σ H s) (hg:Gl X x) (hm:X.mg x=none) (hv:bootBuiltins x=some u) (h:Q u s)
  (hn:x ≠ "__name__":=by decide) (hd:(x == ("__debug__" : Str))=false:=by decide):wpAny (model X.prog X.w) X.A (eval (.Name x pos) X.env) Q E s:=by
 obtain⟨mb,h1,h2⟩:=I.mod.blt
 exact Calls.Name_function_global I.ok.kind hg (Calls.loadGlobal_builtin (by rw[I.ok.glob]; exact I.mod.glob.keeps I.bk) hm (by rw[I.ok.blt]; exact h1.keeps I.bk) ((h2 x hn).trans hv) h) hd
def cI (hg:Gl X x) (hm:X.mg x=some u) (r:bX v u) (hd:(x == ("__debug__" : Str))=false:=by decide):PE X (.Name x pos) (tC v):=
 fun _ _ _ H _ I h=>iD I hg hm ⟨v,H,I,r,h⟩ hd
def sI (hg:Gl X x) (hm:X.mg x=none) (hv:bootBuiltins x=some u) (r:bX v u) (hn:x ≠ "__name__":=by decide) (hd:(x == ("__debug__" : Str))=false:=by decide):PE X (.Name x pos) (tC v):=
 fun _ _ _ H _ I h=>lG I hg hm hv ⟨v,H,I,r,h⟩ hn hd
variable {a b:Expr} {ta tb:TE} {pos:Pos}
def PC (X:Cx) (op:CmpOp) (a b:Expr) (t:TE):Prop:=
 ∀ pins s σ H (Q:VK),Inv X pins σ H s->t σ H Q->
  wpAny (model X.prog X.w) X.A (eval a X.env) (fun v s₁=>wpAny (model X.prog X.w) X.A (eval b X.env) (fun u s₂=>wpAny (model X.prog X.w) X.A (compareOp op v u) (EP X pins σ Q) X.xe s₂) X.xe s₁) X.xe s
def Gk (b:Expr) (h:op ≠ .In) (h2:op ≠ .NotIn):behindInMarks op b=false:=by
 have e1:(op == CmpOp.In)=false:=by cases op <;> first | rfl | exact absurd rfl h
 have e2:(op == CmpOp.NotIn)=false:=by cases op <;> first | rfl | exact absurd rfl h2
 cases b <;> simp [behindInMarks,e1,e2]
inductive tBX (Q:(Bool->Hp->Prop)) (x:V) (H1:Hp):Prop
 | mk:∀ c,x = .bl c->Q c H1->tBX Q x H1
def tB (t:TE):TT:=fun σ H Q=>t σ H (tBX Q)
def nT (h:PC X op a b t) (h1:behindInMarks op b=false:=by first | exact Gk _ (by decide) (by decide) | rfl):PT X (.Compare a [op] [b] pos) (tB t):=by
 intro pins s σ H Q I hw
 refine wpAny_isTrue_Compare1 (thn (h pins s σ H _ I hw) fun v s1 h1=>thn h1 fun u s2 h2=>thn h2 fun c s3 zQq=>?_) h1
 obtain⟨x,H1,I1,r1,q1⟩:=zQq
 obtain⟨d,rfl,q⟩:=q1
 cases r1
 exact wpAny_truthy_bool ⟨H1,I1,q⟩
def dG (h:PE X e t) (he:∀ whole,isTrue e X.env whole=(do let v <- whole; standAt e.pos; holding [v] (truthy v)):=by intro _; rfl):PT X e (tB t):=by
 intro pins s σ H Q I hw
 refine isTrue_plain (thn (h pins s σ H _ I hw) fun v s1 zQq=>?_) (he _)
 obtain⟨x,H1,I1,r1,q1⟩:=zQq
 obtain⟨d,rfl,q⟩:=q1
 cases r1
 exact wpAny_truthy_bool ⟨H1,I1,q⟩
variable {tA tB':TT} {rest:List Expr}
abbrev Jx (u:TT) (σ : St) (Q:(Bool->Hp->Prop)):Bool->Hp->Prop:=fun c H1=>if c=true then u σ H1 Q else Q false H1
def tAnd (t u:TT):TT:=fun σ H Q=>t σ H (Jx u σ Q)
abbrev tOr_1 (u:TT) (σ : St) (Q:(Bool->Hp->Prop)):Bool->Hp->Prop:=fun c H1=>if c=true then Q true H1 else u σ H1 Q
def tOr (t u:TT):TT:=fun σ H Q=>t σ H (tOr_1 u σ Q)
abbrev Jj (Q:(Bool->Hp->Prop)):Bool->Hp->Prop:=fun c H1=>Q (!c) H1
def tNot (t:TT):TT:=fun σ H Q=>t σ H (Jj Q)
def jD (ha:PT X a tA):PW X (.BoolOp .And [a] pos) tA:=by
 intro wh pins s σ H Q I h
 refine isTrue_and (thn (ha pins s σ H Q I h) fun c s1 e=>?_)
 cases c with
 | true=>exact isTrue_and_nil e
 | false=>exact e
def iR (ha:PT X a tA):PW X (.BoolOp .Or [a] pos) tA:=by
 intro wh pins s σ H Q I h
 refine isTrue_or (thn (ha pins s σ H Q I h) fun c s1 e=>?_)
 cases c with
 | false=>exact isTrue_or_nil e
 | true=>exact e
def l5 (ha:PT X a tA) (hb:PW X (.BoolOp .And (b::rest) pos) tB'):PW X (.BoolOp .And (a::b::rest) pos) (tAnd tA tB'):=by
 intro wh pins s σ H Q I h
 refine isTrue_and (thn (ha pins s σ H _ I h) fun c s1 zQq=>?_)
 obtain⟨H1,I1,q1⟩:=zQq
 cases c with
 | true=>exact hb wh pins s1 σ H1 Q I1 q1
 | false=>exact⟨H1,I1,q1⟩
def lO (ha:PT X a tA) (hb:PW X (.BoolOp .Or (b::rest) pos) tB'):PW X (.BoolOp .Or (a::b::rest) pos) (tOr tA tB'):=by
 intro wh pins s σ H Q I h
 refine isTrue_or (thn (ha pins s σ H _ I h) fun c s1 zQq=>?_)
 obtain⟨H1,I1,q1⟩:=zQq
 cases c with
 | true=>exact⟨H1,I1,q1⟩
 | false=>exact hb wh pins s1 σ H1 Q I1 q1
def cK (ha:PT X a tA):PT X (.UnaryOp .Not a pos) (tNot tA):=by
 intro pins s σ H Q I h
 exact isTrue_not (ha pins s σ H (fun c H1=>Q (!c) H1) I h)
inductive Fg (tb:TE) (σ : St) (Q:VK) (x:V) (H1:Hp):Prop
 | mk:∀ c,x = .bl c->(if c=true then tb σ H1 Q else Q (.bl false) H1)->Fg tb σ Q x H1
def tAndV (ta tb:TE):TE:=fun σ H Q=>ta σ H (Fg tb σ Q)
def uI {op} (h:PE X a t):PE X (.BoolOp op [a] pos) t:=fun pins s σ H Q I hw=>BoolOp_one (h pins s σ H Q I hw)
def nV (ha:PE X a ta) (hb:PE X (.BoolOp .And (b::rest) pos) tb):PE X (.BoolOp .And (a::b::rest) pos) (tAndV ta tb):=by
 intro pins s σ H Q I h
 refine BoolOp_and (thn (ha pins s σ H _ I h) fun v s1 zQq=>?_)
 obtain⟨x,H1,I1,r1,q1⟩:=zQq
 obtain⟨c,rfl,q1⟩:=q1
 cases r1
 refine wpAny_truthy_bool ?_
 cases c with
 | true=>exact hb pins s1 σ H1 Q I1 q1
 | false=>exact⟨.bl false,H1,I1,rfl,q1⟩
abbrev tIf_1 (ta:TE) (tb:TE) (σ : St) (Q:VK):Bool->Hp->Prop:=fun c H1=>if c=true then ta σ H1 Q else tb σ H1 Q
def tIf (t:TT) (ta tb:TE):TE:=fun σ H Q=>t σ H (tIf_1 ta tb σ Q)
def Aw (hc:PT X c tA) (ha:PE X a ta) (hb:PE X b tb):PE X (.IfExp c a b pos) (tIf tA ta tb):=by
 intro pins s σ H Q I h
 refine wpAny_IfExp (thn (hc pins s σ H _ I h) fun d s1 zQq=>?_)
 obtain⟨H1,I1,q1⟩:=zQq
 cases d with
 | true=>exact ha pins s1 σ H1 Q I1 q1
 | false=>exact hb pins s1 σ H1 Q I1 q1
end
def SqL (K:K6) (H:Hp) (a:Addr) (xs:Ln):Prop:=
 Rd H a (.lst xs)\/
  ∃ (o:Obj) (its:Array Value) (n:Nat),K.lookup a=some o/\o.cls = .type "list"/\o.dict=none/\o.data = .seq its n/\its.size<=sizeLine/\bZ xs its.toList
def SqT (K:K6) (H:Hp) (a:Addr) (xs:Ln):Prop:=
 Rd H a (.tup xs)\/
  ∃ (o:Obj) (its:Array Value) (n:Nat),K.lookup a=some o/\o.cls = .type "tuple"/\o.data = .seq its n/\its.size<=sizeLine/\bZ xs its.toList
def absV:Value->Option V
 | .none=>some .non
 | .bool b=>some (.bl b)
 | .int i _=>some (.int i)
 | .str x _=>some (.str x)
 | .bytes b _=>some (.byt b)
 | .float b _=>some (.flt b)
 | .ref a=>some (.ref a)
 | .type n=>some (.ty n)
 | _=>none
def bX.abs (r:bX x u):absV u=some x:=by
 cases x with
 | non=>cases r; rfl
 | bl _=>cases r; rfl
 | int _=>obtain⟨t,rfl⟩:=r; rfl
 | str _=>obtain⟨t,rfl⟩:=r; rfl
 | byt _=>obtain⟨t,rfl⟩:=r; rfl
 | flt _=>obtain⟨t,rfl⟩:=r; rfl
 | ref _=>cases r; rfl
 | ty _=>cases r; rfl
def bX.inj (r:bX x u) (q:bX y u):x=y:=Option.some.inj (r.abs.symm.trans q.abs)
def bZ.inj:∀ {xs ys:Ln} {us:Lf},bZ xs us->bZ ys us->xs=ys
 | _,_,_,.nil,.nil=>rfl
 | _,_,_,.cons r t,.cons r' t'=>by rw[r.inj r',bZ.inj t t']
section
variable {X:Cx} {pins:K7} {σ : St} {H:Hp} {s:Shared} {a:Addr} {xs ys:Ln}
def SqL.of {K:K6} (h:H a=some (.lst xs)):SqL K H a xs:=.inl (.inl h)
def SqT.of {K:K6} (h:H a=some (.tup xs)):SqT K H a xs:=.inl (.inl h)
def Inv.list (I:Inv X pins σ H s) (h:SqL X.K H a xs):∃ its:Lf,bZ xs its/\PlainL s.heap a its.toArray/\xs.length<=sizeLine:=by
 rcases h with h | ⟨o,its,n,hk,hc,hd,hs,hz,r⟩
 ·obtain⟨z,its,n,r,e⟩:=h.ok I.hok
  exact⟨its,r,⟨_,n,e,rfl,rfl,rfl⟩,z⟩
 ·refine⟨its.toList,r,⟨o,n,I.kIn a o hk,hc,hd,by simpa using hs⟩,?_⟩
  have e:=r.length
  simp only[length_toList]at e
  omega
def Inv.tuple (I:Inv X pins σ H s) (h:SqT X.K H a xs):∃ its:Lf,bZ xs its/\IsTup s.heap a its.toArray/\xs.length<=sizeLine:=by
 rcases h with h | ⟨o,its,n,hk,hc,hs,hz,r⟩
 ·obtain⟨z,its,r,p⟩:=h.ok I.hok
  exact⟨its,r,p,z⟩
 ·refine⟨its.toList,r,⟨o,I.kIn a o hk,hc,n,by simpa using hs⟩,?_⟩
  have e:=r.length
  simp only[length_toList]at e
  omega
def Inv.list_inj (I:Inv X pins σ H s) (h:SqL X.K H a xs) (h':SqL X.K H a ys):xs=ys:=by
 obtain⟨its,r,⟨o,n,e,_,_,d⟩,_⟩:=I.list h
 obtain⟨its',r',⟨o',n',e',_,_,d'⟩,_⟩:=I.list h'
 rw[e]at e'; cases e'
 rw[d]at d'
 injection d' with d1 _
 have:its=its':=by simpa using congrArg Array.toList d1
 subst this
 exact r.inj r'
def Inv.tuple_inj (I:Inv X pins σ H s) (h:SqT X.K H a xs) (h':SqT X.K H a ys):xs=ys:=by
 obtain⟨its,r,⟨o,e,_,n,d⟩,_⟩:=I.tuple h
 obtain⟨its',r',⟨o',e',_,n',d'⟩,_⟩:=I.tuple h'
 rw[e]at e'; cases e'
 rw[d]at d'
 injection d' with d1 _
 have:its=its':=by simpa using congrArg Array.toList d1
 subst this
 exact r.inj r'
end
abbrev Cx.wish (X:Cx) (E:Lk):Cx:={ X with xe:=E }
abbrev Cx.nox (X:Cx):Cx:=X.wish fun _ _=>False
def Cx.Ok.wish {X:Cx} (ok:X.Ok) (E:Lk):(X.wish E).Ok:=
 ⟨ok.mod,ok.kind,ok.glob,ok.blt,ok.above,ok.inj,ok.has,ok.cab,ok.hd,ok.frames,ok.stk,ok.exf,ok.bs,ok.bsz,ok.noex,ok.exfs,ok.funs,ok.frf⟩
def Cx.Ok.unwish {X:Cx} {E:Lk} (ok:(X.wish E).Ok):X.Ok:=
 ⟨ok.mod,ok.kind,ok.glob,ok.blt,ok.above,ok.inj,ok.has,ok.cab,ok.hd,ok.frames,ok.stk,ok.exf,ok.bs,ok.bsz,ok.noex,ok.exfs,ok.funs,ok.frf⟩
section
variable {X:Cx} {pins:K7} {σ : St} {H:Hp} {s:Shared} {E:Lk}
def Inv.wish (I:Inv X pins σ H s) (E:Lk):Inv (X.wish E) pins σ H s:=⟨I.ok.wish E,I.os,I.bare,I.base,I.loc,I.cell,I.free,I.freeC,I.pin,I.hok,I.len⟩
def Inv.unwish (I:Inv (X.wish E) pins σ H s):Inv X pins σ H s:=⟨I.ok.unwish,I.os,I.bare,I.base,I.loc,I.cell,I.free,I.freeC,I.pin,I.hok,I.len⟩
def SP.unwish (h:SP (X.wish E) pins D f s'):SP X pins D f s':=by
 cases f with
 | next=>obtain⟨σ',H',I,q⟩:=h; exact⟨σ',H',I.unwish,q⟩
 | brk=>obtain⟨σ',H',I,q⟩:=h; exact⟨σ',H',I.unwish,q⟩
 | cont=>obtain⟨σ',H',I,q⟩:=h; exact⟨σ',H',I.unwish,q⟩
 | ret u=>obtain⟨v,σ',H',I,r,q⟩:=h; exact⟨v,σ',H',I.unwish,r,q⟩
end
section
variable {X:Cx} {st:Stmt} {rest:List Stmt} {t u:TS} {e:Expr} {te:TE} {pos:Pos}
def C2:TS:=fun D σ H=>D.nx σ H
def yP (t u:TS):TS:=fun D σ H=>t (D.next (u D)) σ H
def aO:PSs X [] C2:=fun _ _ σ H _ I h=>wpAny_execs_nil ⟨σ,H,I,h⟩
def aA (h1:PS X st t) (h2:PSs X rest u):PSs X (st::rest) (yP t u):=by
 intro pins s σ H D I h
 refine wpAny_execs_cons (thn (h1 pins s σ H (D.next (u D)) I h) fun f s1 q=>?_)
 cases f with
 | next=>
  obtain⟨σ',H',I',q⟩:=q
  exact h2 pins s1 σ' H' D I' q
 | ret v=>exact q
 | brk=>exact q
 | cont=>exact q
def aC (h1:PS X st t):PSs X [st] t:=by
 intro pins s σ H D I h
 refine wpAny_execs_cons (thn (h1 pins s σ H D I h) fun f s1 q=>?_)
 cases f with
 | next=>exact wpAny_execs_nil q
 | ret v=>exact q
 | brk=>exact q
 | cont=>exact q
def tCont:TS:=fun D σ H=>D.ct σ H
def As:PS X (.Continue pos) tCont:=fun _ _ σ H _ I h=>wpAny_Continue ⟨σ,H,I,h⟩
def Inv.quiet (I:Inv X pins σ H s):interactive X.env=false:=by simp [interactive,I.ok.kind]
abbrev Hj (D:Ends) (σ : St):V->Hp->Prop:=fun y_0 H1=>D.nx σ H1
def JI (te:TE):TS:=fun D σ H=>te σ H (Hj D σ)
def aU (he:PE X e te) (hs:swapsWith e none pos.line X.env=pure false:=by rfl):PS X (.Expr e pos) (JI te):=by
 intro pins s σ H D I h
 exact wpAny_Expr_any (thn (he pins s σ H _ I h) fun v s1 ⟨x,H1,I1,r1,q1⟩=>⟨σ,H1,I1,q1⟩) I.quiet hs
def tRet (te:TE):TS:=fun D σ H=>te σ H D.rt
def aP (he:PE X e te):PS X (.Return (some e) pos) (tRet te):=by
 intro pins s σ H D I h
 exact wpAny_Return_some (thn (he pins s σ H _ I h) fun v s1 ⟨x,H1,I1,r1,q1⟩=>⟨x,σ,H1,I1,r1,q1⟩)
abbrev Jm (t:TS) (u:TS) (D:Ends) (σ : St):Bool->Hp->Prop:=fun b H1=>if b=true then t D σ H1 else u D σ H1
def Jn (c:TT) (t u:TS):TS:=fun D σ H=>c σ H (Jm t u D σ)
def bA {c:Expr} {a b:List Stmt} {tc:TT} (hc:PT X c tc) (ha:PSs X a t) (hb:PSs X b u):PS X (.If c a b pos) (Jn tc t u):=by
 intro pins s σ H D I h
 refine wpAny_If (thn (hc pins s σ H _ I h) fun d s1 zQq=>?_)
 obtain⟨H1,I1,q1⟩:=zQq
 cases d with
 | true=>exact ha pins s1 σ H1 D I1 q1
 | false=>exact hb pins s1 σ H1 D I1 q1
end
abbrev TG:=V->St->Hp->(St->Hp->Prop)->Prop
abbrev TGs:=Ln->St->Hp->(St->Hp->Prop)->Prop
def PG (X:Cx) (target:Expr) (t:TG):Prop:=
 ∀ pins s σ H (v:V) (u:Value) (Q:St->Hp->Prop),Inv X pins σ H s->bX v u->t v σ H Q->
  wpAny (model X.prog X.w) X.A (assign target X.env u) (fun _ s'=>∃ σ' H',Inv X pins σ' H' s'/\Q σ' H') X.xe s
def PGs (X:Cx) (ts:List Expr) (t:TGs):Prop:=
 ∀ pins s σ H (vs:Ln) (us:Lf) (Q:St->Hp->Prop),Inv X pins σ H s->bZ vs us->t vs σ H Q->
  wpAny (model X.prog X.w) X.A (assignInOrder ((assignEach ts X.env).map (·.2)) us) (fun _ s'=>∃ σ' H',Inv X pins σ' H' s'/\Q σ' H') X.xe s
abbrev TIp:=V->V->Hp->VK->Prop
def PIp (X:Cx) (op:Operator) (t:TIp):Prop:=
 ∀ pins s σ H (x y:V) (v u:Value) (Q:VK),Inv X pins σ H s->bX x v->bX y u->t x y H Q->
  wpAny (model X.prog X.w) X.A (inplaceOp op v u) (EP X pins σ Q) X.xe s
section
variable {X:Cx} {pos:Pos}
def u6 (i:Nat):TG:=fun v σ H Q=>Q (σ.set i (some v)) H
def bG {i:Nat} {x:Str} (hN:X.N.Nodup) (hi:X.N[i]? = some x) (hx:Loc X.env.scope x) (hf:X.fn x=true\/X.env.scope.names.lookup x=some .local:=by first | exact .inl rfl | exact .inr rfl | assumption):PG X (.Name x pos) (u6 i):=by
 intro pins s σ H v u Q I r h
 exact wpAny_assign_Name (s0 I hN hi hx r (fun s' I'=>⟨_,H,I',h⟩) hf)
def gNil:TGs:=fun vs σ H Q=>vs=[]/\Q σ H
abbrev Iq (u:TGs) (Q:(St->Hp->Prop)) (r:Ln):St->Hp->Prop:=fun σ' H'=>u r σ' H' Q
inductive Ja (t:TG) (u:TGs) (vs:Ln) (σ : St) (H:Hp) (Q:(St->Hp->Prop)):Prop
 | mk:∀ v r,vs=v::r->t v σ H (Iq u Q r)->Ja t u vs σ H Q
def jE:PGs X [] gNil:=by
 intro pins s σ H vs us Q I r h
 obtain⟨e,h⟩:=h
 subst e
 cases r
 exact assignInOrder_nil ⟨σ,H,I,h⟩
def cM {e:Expr} {es:List Expr} {t:TG} {u:TGs} (h1:PG X e t) (h2:PGs X es u)
  (hs:(assignEach (e::es) X.env).map (·.2)=assign e X.env::(assignEach es X.env).map (·.2):=by rfl):PGs X (e::es) (Ja t u):=by
 intro pins s σ H vs us Q I r h
 obtain⟨v,vr,e1,h⟩:=h
 subst e1
 cases r with
 | cons r rr=>
  rw[hs]
  refine assignInOrder_cons (thn (h1 pins s σ H _ _ _ I r h) fun _ s1 zQq=>?_)
  obtain⟨σ1,H1,I1,q1⟩:=zQq
  exact h2 pins s1 σ1 H1 _ _ Q I1 rr q1
inductive Kp (K:K6) (n:Nat) (t:TGs) (v:V) (σ : St) (H:Hp) (Q:(St->Hp->Prop)):Prop
 | mk:∀ a xs,v = .ref a->SqT K H a xs->xs.length=n->t xs σ H Q->Kp K n t v σ H Q
def KF (hc:X.calm=true) (h:PGs X es t)
  (hn:(assignEach es X.env).length=n:=by rfl) (hst:(assignEach es X.env).findIdx? (·.1)=none:=by rfl):PG X (.Tuple es k pos) (Kp X.K n t):=by
 intro pins s σ H v u Q I r hw
 obtain⟨a,xs,e1,hq,hl,hw⟩:=hw
 subst e1
 cases r
 obtain⟨its,rv,ht,hz⟩:=I.tuple hq
 refine assign_Tuple_tuple (I.ok.hd hc) ht (by simp [hn,<- hl,rv.length]) hst fun h' hx=>?_
 have I1:Inv X pins σ H { s with heap:=h' }:=I.kept (t':=s.toks) fun b o e=>hx b o (ne_of_lt (lt_size e)) e
 exact h pins _ σ H xs _ Q I1 (by simpa using rv) hw
abbrev Jw (g:TG) (D:Ends) (σ : St):V->Hp->Prop:=fun x H1=>g x σ H1 D.nx
def tAsg (te:TE) (g:TG):TS:=fun D σ H=>te σ H (Jw g D σ)
def uF {tg e:Expr} {te:TE} {g:TG} (he:PE X e te) (hg:PG X tg g) (hs:swapsWithSole [tg] e pos.line X.env=pure false:=by rfl) (hw:swappedStores [tg] e X.env=pure none:=by rfl)
  (h1:(assignEach [tg] X.env).map (·.2)=[assign tg X.env]:=by rfl):PS X (.Assign [tg] e pos) (tAsg te g):=by
 intro pins s σ H D I h
 refine wpAny_Assign_stores (thn (he pins s σ H _ I h) fun v s1 zQq=>?_) hs hw
 obtain⟨x,H1,I1,r1,q1⟩:=zQq
 rw[h1]
 exact thn (hg pins s1 σ H1 x v _ I1 r1 q1) fun _ s2 q=>q
def a7 {i:Nat} {x:Str} {e:Expr} {te:TE} {pos':Pos} (hN:X.N.Nodup) (hi:X.N[i]? = some x) (hx:Loc X.env.scope x) (he:PE X e te) (hs:swapsWith e (some (.Name x pos')) pos.line X.env=pure false:=by rfl) (hf:X.fn x=true\/X.env.scope.names.lookup x=some .local:=by first | exact .inl rfl | exact .inr rfl | assumption) :
  PS X (.Assign [.Name x pos'] e pos) (tAsg te (u6 i)):=by
 intro pins s σ H D I h
 refine wpAny_Assign_Name (thn (he pins s σ H _ I h) fun v s1 zQq=>?_) hs
 obtain⟨y,H1,I1,r1,q1⟩:=zQq
 exact s0 I1 hN hi hx r1 (fun s2 I2=>⟨_,H1,I2,q1⟩) hf
abbrev Ju (i:Nat) (D:Ends) (σ : St):V->Hp->Prop:=fun z H2=>D.nx (σ.set i (some z)) H2
abbrev Jv (i:Nat) (ti:TIp) (D:Ends) (σ : St) (x:V):V->Hp->Prop:=fun y H1=>ti x y H1 (Ju i D σ)
inductive tAug (i:Nat) (te:TE) (ti:TIp) (D:Ends) (σ : St) (H:Hp):Prop
 | mk:∀ x,σ[i]? = some (some x)->te σ H (Jv i ti D σ x)->tAug i te ti D σ H
def CH {i:Nat} {x:Str} {e:Expr} {te:TE} {op:Operator} {ti:TIp} {pos':Pos} (hN:X.N.Nodup) (hi:X.N[i]? = some x) (hx:Loc X.env.scope x) (he:PE X e te) (ho:PIp X op ti) (hf:X.fn x=true\/X.env.scope.names.lookup x=some .local:=by first | exact .inl rfl | exact .inr rfl | assumption) :
  PS X (.AugAssign (.Name x pos') op e pos) (tAug i te ti):=by
 intro pins s σ H D I h
 obtain⟨v,e1,h⟩:=h
 obtain⟨m,hn,hl⟩:=I.loc
 have vis:Vis X.env.scope x:=by rcases hx with k | k; exact .inl k; exact .inr (.inl k)
 obtain⟨u,r,l⟩:=hl i x v hi e1 vis
 refine wpAny_AugAssign_Name ?_
 have go:wpAny (model X.prog X.w) X.A (eval e X.env) (fun w s₂=>wpAny (model X.prog X.w) X.A (inplaceOp op u w) (fun r s₃=>wpAny (model X.prog X.w) X.A (storeName X.env x r) (fun _=>SP X pins D .next) X.xe s₃) X.xe s₂) X.xe s:=by
  refine thn (he pins s σ H _ I h) fun w s1 zQq=>?_
  obtain⟨y,H1,I1,r1,q1⟩:=zQq
  refine thn (ho pins s1 σ H1 v y u w _ I1 r r1 q1) fun z s2 zQq=>?_
  obtain⟨zv,H2,I2,r2,q2⟩:=zQq
  exact s0 I2 hN hi hx r2 (fun s3 I3=>⟨_,H2,I3,q2⟩) hf
 rcases l with ⟨hk,hm⟩ | ⟨hk,c,hc,hcell⟩
 ·exact wpAny_loadName_local I.ok.kind hk hn hm go
 ·rcases hk with hk | hk
  ·exact wpAny_loadName_cell I.ok.kind hk hc hcell go
  ·rcases hx with k | k
   ·have:X.env.scope.names.lookup x=some .free:=hk
    rw[k]at this; cases this
   ·have:X.env.scope.names.lookup x=some .free:=hk
    rw[k]at this; cases this
inductive ipI (f:Int->Int->Int) (x:V) (y:V) (H:Hp) (Q:VK):Prop
 | mk:∀ i j,x = .int i->y = .int j->Q (.int (f i j)) H->ipI f x y H Q
def G0:PIp X .Add (ipI fun i j=>i+j):=by
 intro pins s σ H x y v u Q I r1 r2 h
 obtain⟨i,j,e1,e2,q⟩:=h
 subst e1; subst e2
 obtain⟨t,rfl⟩:=r1
 obtain⟨t',rfl⟩:=r2
 exact iadd_int ⟨.int _,H,I.tok _,⟨_,rfl⟩,q⟩
def Ki:PIp X .Sub (ipI fun i j=>i - j):=by
 intro pins s σ H x y v u Q I r1 r2 h
 obtain⟨i,j,e1,e2,q⟩:=h
 subst e1; subst e2
 obtain⟨t,rfl⟩:=r1
 obtain⟨t',rfl⟩:=r2
 exact isub_int ⟨.int _,H,I.tok _,⟨_,rfl⟩,q⟩
def Jf (c:TT) (tb:TS):TS:=fun D σ H=>∃ W:Nat->St->Hp->Prop,(∃ m,W m σ H)/\∀ m σ H,W m σ H->
 c σ H fun b H1=>if b=true then ∃ N:St->Hp->Prop,(∀ σ' H',N σ' H'->∃ m',m'<m/\W m' σ' H')/\tb (D.loop (N)) σ H1 else D.nx σ H1
def o6 {c:Expr} {body:List Stmt} {tc:TT} {tb:TS} (hp:PassesOwn (model X.prog X.w) X.A X.env X.xe) (hc:PT X c tc) (hb:PSs X body tb):PS X (.While c body [] pos) (Jf tc tb):=by
 intro pins s σ H D I h
 obtain⟨W,⟨m0,w0⟩,turn⟩:=h
 refine wpAny_While (codeAny_whileLoop (fun n s'=>∃ σ' H',Inv X pins σ' H' s'/\W n σ' H') ?_ m0 ⟨σ,H,I,w0⟩)
 rintro n s1 ⟨σ1,H1,I1,w1⟩
 refine wpAny_passesOwn hp (thn (hc pins s1 σ1 H1 _ I1 (turn n σ1 H1 w1)) fun b s2 zQq=>?_)
 obtain⟨H2,I2,q2⟩:=zQq
 cases b with
 | true=>
  obtain⟨N,hN,q2⟩:=q2
  rw[if_pos rfl]
  refine wpAny_passesOwn hp (thn (hb pins s2 σ1 H2 _ I2 q2) fun f s3 q3=>?_)
  cases f with
  | next=>
   obtain⟨σ3,H3,I3,n3⟩:=q3
   obtain⟨m',hm,w3⟩:=hN σ3 H3 n3
   exact⟨m',hm,σ3,H3,I3,w3⟩
  | cont=>
   obtain⟨σ3,H3,I3,n3⟩:=q3
   obtain⟨m',hm,w3⟩:=hN σ3 H3 n3
   exact⟨m',hm,σ3,H3,I3,w3⟩
  | brk=>exact q3
  | ret v=>exact q3
 | false=>
  rw[if_neg Bool.false_ne_true]
  exact wpAny_execs_nil ⟨σ1,H2,I2,q2⟩
end
structure It where
 go:Nat->Hp->Prop
 yld:Nat->Hp->V->Hp->Prop
 stop:Nat->Hp->Prop
def qZ (X:Cx) (pins:K7) (H:Hp) (b:Addr):Prop:=
 H b=none/\b≠X.env.locals/\b ∉ X.fs/\(b∈X.ex\/X.s₀.heap.objs.size<=b)/\(∀ x c,X.env.cells.lookup x=some c->c≠b)/\∀ p∈X.pn++pins,p.1≠b
def Inv.fpOk (I:Inv X pins σ H s) (hb:s.heap.objs.size<=b) (hn:H' b=none):qZ X pins H' b:=by
 refine⟨hn,ne_of_gt (lt_of_lt_of_le I.lt hb),I.nofs hb,.inr (le_trans I.sz hb),fun x c e z=>?_,fun p hp z=>?_⟩
 ·obtain⟨v,q⟩:=I.cell x c e
  exact absurd (lt_of_lt_of_le q.lt (by rw[z]; exact hb)) (lt_irrefl _)
 ·exact absurd (lt_of_lt_of_le (lt_size (I.pin p hp).1) (by rw[z]; exact hb)) (lt_irrefl _)
structure Turn (P:Program) (w:World) (K:K6) (tg:Expr) (J:It) (fp:List Addr) (it:Addr) (tn:Nat->Heap->Prop):Prop where
 mem:it∈fp
 obj:∀ i h,tn i h->∀ b∈fp,∃ o,h.get? b=some o/\∀ v,o.data ≠ .cell v
 keep:∀ i h h',tn i h->(∀ b∈fp,∀ o,h.get? b=some o->h'.get? b=some o)->tn i h'
 item:∀ (X:Cx),X.prog=P->X.w=w->X.K=K->X.calm=true->∀ (i:Nat) (pins:K7) (s:Shared) (σ : St) (H:Hp) (E:Lk),Inv X pins σ H s->(∀ b∈fp,qZ X pins H b)->tn i s.heap->J.go i H->
  wpAny (model P w) X.A (pyNext (.ref it)) (fun r s1=>∃ u,r=some u/\
   wpAny (model P w) X.A (letOwnedTupleGo tg (.ref it) u) (fun _ s2=>∃ x H',Inv X pins σ H' s2/\bX x u/\J.yld i H x H'/\tn (i+1) s2.heap/\∀ b∈fp,H' b=none) E s1) E s
 done:∀ (X:Cx),X.prog=P->X.w=w->X.K=K->X.calm=true->∀ (i:Nat) (pins:K7) (s:Shared) (σ : St) (H:Hp) (E:Lk),Inv X pins σ H s->(∀ b∈fp,qZ X pins H b)->tn i s.heap->J.stop i H->
  wpAny (model P w) X.A (pyNext (.ref it)) (fun r s1=>r=none/\Inv X pins σ H s1) E s
 self:∀ (A:Around) (i:Nat) (s:Shared) (Q:Lk) (E:Lk),tn i s.heap->Q (.ref it) s->wpAny (model P w) A (pyIter (.ref it)) Q E s
abbrev TI:=St->Hp->(It->Hp->Prop)->Prop
inductive PIE (X:Cx) (pins:K7) (σ : St) (tg:Expr) (R:It->Hp->Prop) (itv:Value) (s2:Shared):Prop
 | mk:∀ (it:Addr) (fp:List Addr) (tn:Nat->Heap->Prop) (J:It) (H':Hp),itv = .ref it->Inv X pins σ H' s2->Turn X.prog X.w X.K tg J fp it tn->tn 0 s2.heap->(∀ b∈fp,qZ X pins H' b)->R J H'->PIE X pins σ tg R itv s2
def PI (X:Cx) (tg iter:Expr) (wi:TI):Prop:=
 ∀ pins s σ H (R:It->Hp->Prop),Inv X pins σ H s->wi σ H R->
  wpAny (model X.prog X.w) X.A (eval iter X.env) (fun v s1=>wpAny (model X.prog X.w) X.A (pyIter v) (PIE X pins σ tg R) X.xe s1) X.xe s
def BG (ho:s.heap.get? it=some o) (hc:o.cls = .type n) (hd:o.data = .fields vs)
  (hn:["enumerate","zip","dict_itemiterator","dict_reverseitemiterator","odict_iterator","itertools.zip_longest","itertools.pairwise"].contains n=false) (hQ:Q () s):wpAny M A (letOwnedTupleGo tg (.ref it) u) Q E s:=by
 unfold letOwnedTupleGo
 cases tg <;> first
  | exact wpAny_pure hQ
  | (cases u <;> first
    | exact wpAny_pure hQ
    | (refine wpAny_bind (wpAny_load ho ?_)
       rw[hc,hd]
       show wpAny M A (if (["enumerate","zip","dict_itemiterator","dict_reverseitemiterator","odict_iterator","itertools.zip_longest","itertools.pairwise"].contains n && vs[0]? == some (rawInt _))=true then _ else _) Q E s
       rw[if_neg (by intro h; rw[hn,Bool.false_and]at h; cases h)]
       exact wpAny_pure hQ))
def Itl (K:K6) (a:Addr):It:=
 ⟨fun i H=>∃ xs x,SqL K H a xs/\xs[i]? = some x,fun i H x H'=>H'=H/\∀ xs,SqL K H a xs->xs[i]? = some x,fun i H=>∃ xs,SqL K H a xs/\xs.length<=i⟩
def Itt (K:K6) (a:Addr):It:=
 ⟨fun i H=>∃ xs x,SqT K H a xs/\xs[i]? = some x,fun i H x H'=>H'=H/\∀ xs,SqT K H a xs->xs[i]? = some x,fun i H=>∃ xs,SqT K H a xs/\xs.length<=i⟩
def Itr (lo:Int) (n:Nat):It:=⟨fun i _=>i<n,fun i H x H'=>H'=H/\x = .int (lo+i),fun i _=>n<=i⟩
def wC {P:Program} {w:World} {K:K6} {tg:Expr} (a it:Addr):Turn P w K tg (Itl K a) [it] it (fun i h=>h.IsListIter it a i) where
 mem:=by simp
 obj:=fun i h st b hb=>by
  have e:b=it:=by simpa using hb
  subst e
  obtain⟨o,e,c,d⟩:=st
  exact⟨o,e,fun v z=>by rw[d]at z; cases z⟩
 keep:=fun i h h' st k=>st.at fun o e=>k it (by simp) o e
 item:=by
  intro X hP hw hK hc i pins s σ H E I hf st hg
  subst hP hw hK
  obtain⟨xs,x,hq,hx⟩:=hg
  obtain⟨its,rv,p,hz⟩:=I.list hq
  obtain⟨u,hu,ru⟩:=rv.get hx
  obtain⟨f0,f1,f2,f3,f4,f5⟩:=hf it (by simp)
  refine wpAny_pyNext_list_item st p.isList (x:=u) (by simpa using hu) fun h' st' sb=>?_
  have I1:Inv X pins σ H { s with heap:=h' }:=I.turned (t':=s.toks) (fun b o hb e=>(sb.2 b hb).trans e) f0 f1 f3 f4 f5
  obtain⟨o,e,c,d⟩:=id st'
  exact⟨u,rfl,BG (s:={ s with heap:=h' }) e c d (by decide) ⟨x,H,I1,ru,⟨rfl,fun ys hy=>by rw[I.list_inj hy hq]; exact hx⟩,st',fun b hb=>(hf b hb).1⟩⟩
 done:=by
  intro X hP hw hK hc i pins s σ H E I hf st hg
  subst hP hw hK
  obtain⟨xs,hq,hx⟩:=hg
  obtain⟨its,rv,p,hz⟩:=I.list hq
  obtain⟨f0,f1,f2,f3,f4,f5⟩:=hf it (by simp)
  have hl:=rv.length
  exact wpAny_pyNext_list_end (I.ok.hd hc) st p.isList (by simp; omega) fun h' eb=>⟨rfl,I.turned (t':=s.toks) (fun b o hb e=>eb b o hb e) f0 f1 f3 f4 f5⟩
 self:=fun _ _ _ _ _ st h=>wpAny_pyIter_listiter st h
def sV {P:Program} {w:World} {K:K6} {tg:Expr} (a it:Addr):Turn P w K tg (Itt K a) [it] it (fun i h=>h.IsTupleIter it a i) where
 mem:=by simp
 obj:=fun i h st b hb=>by
  have e:b=it:=by simpa using hb
  subst e
  obtain⟨o,e,c,d⟩:=st
  exact⟨o,e,fun v z=>by rw[d]at z; cases z⟩
 keep:=fun i h h' st k=>st.at fun o e=>k it (by simp) o e
 item:=by
  intro X hP hw hK hc i pins s σ H E I hf st hg
  subst hP hw hK
  obtain⟨xs,x,hq,hx⟩:=hg
  obtain⟨its,rv,p,hz⟩:=I.tuple hq
  obtain⟨u,hu,ru⟩:=rv.get hx
  obtain⟨f0,f1,f2,f3,f4,f5⟩:=hf it (by simp)
  refine wpAny_pyNext_tuple_item st (show s.heap.IsTuple a its.toArray from p) (x:=u) (by simpa using hu) fun h' st' sb=>?_
  have I1:Inv X pins σ H { s with heap:=h' }:=I.turned (t':=s.toks) (fun b o hb e=>(sb.2 b hb).trans e) f0 f1 f3 f4 f5
  obtain⟨o,e,c,d⟩:=id st'
  exact⟨u,rfl,BG (s:={ s with heap:=h' }) e c d (by decide) ⟨x,H,I1,ru,⟨rfl,fun ys hy=>by rw[I.tuple_inj hy hq]; exact hx⟩,st',fun b hb=>(hf b hb).1⟩⟩
 done:=by
  intro X hP hw hK hc i pins s σ H E I hf st hg
  subst hP hw hK
  obtain⟨xs,hq,hx⟩:=hg
  obtain⟨its,rv,p,hz⟩:=I.tuple hq
  obtain⟨f0,f1,f2,f3,f4,f5⟩:=hf it (by simp)
  have hl:=rv.length
  exact wpAny_pyNext_tuple_end (I.ok.hd hc) st (show s.heap.IsTuple a its.toArray from p) (by simp; omega) fun h' eb=>⟨rfl,I.turned (t':=s.toks) (fun b o hb e=>eb b o hb e) f0 f1 f3 f4 f5⟩
 self:=fun _ _ _ _ _ st h=>wpAny_pyIter_tupleiter st h
def Bx {P:Program} {w:World} {K:K6} {tg:Expr} (it:Addr) (lo:Int) (n:Nat):Turn P w K tg (Itr lo n) [it] it (fun i h=>IsRangeIter h it (lo+(i:Nat) * 1) ((n:Int) - (i:Nat)) 1) where
 mem:=by simp
 obj:=fun i h st b hb=>by
  have e:b=it:=by simpa using hb
  subst e
  exact⟨_,st,fun v z=>by
   have z':Data.fields _=Data.cell v:=z
   cases z'⟩
 keep:=fun i h h' st k=>k it (by simp) _ st
 item:=by
  intro X hP hw hK hc i pins s σ H E I hf st hg
  subst hP hw hK
  obtain⟨f0,f1,f2,f3,f4,f5⟩:=hf it (by simp)
  have W:=Walks.range (prog:=X.prog) (w:=X.w) (I.ok.hd hc) it lo 1 n
  refine W.item i s _ _ hg st fun v h' tk hv st' kk=>?_
  obtain⟨t,rfl⟩:=hv
  have I1:Inv X pins σ H { s with heap:=h',toks:=tk }:=I.turned (fun b o hb e=>kk b o (by simpa using hb) e) f0 f1 f3 f4 f5
  refine⟨_,rfl,BG (s:={ s with heap:=h',toks:=tk }) (n:="range_iterator") st' rfl rfl (by decide) ⟨.int (lo+i),H,I1,⟨t,?_⟩,⟨rfl,rfl⟩,st',fun b hb=>(hf b hb).1⟩⟩
  rw[Int.mul_one]
 done:=by
  intro X hP hw hK hc i pins s σ H E I hf st hg
  subst hP hw hK
  obtain⟨f0,f1,f2,f3,f4,f5⟩:=hf it (by simp)
  exact wpAny_pyNext_range_end (I.ok.hd hc) st (by have:n<=i:=hg; omega) fun h' eb=>⟨rfl,I.turned (t':=s.toks) (fun b o hb e=>eb b o hb e) f0 f1 f3 f4 f5⟩
 self:=fun _ _ _ _ _ st h=>wpAny_pyIter_rangeiter st h
section
variable {X:Cx} {tg:Expr}
inductive G6 (K:K6) (R:(It->Hp->Prop)) (x:V) (H1:Hp):Prop
 | mk:∀ a,x = .ref a->(∃ xs,SqL K H1 a xs)->R (Itl K a) H1->G6 K R x H1
def JZ (K:K6) (tl:TE):TI:=fun σ H R=>tl σ H (G6 K R)
inductive JW (K:K6) (R:(It->Hp->Prop)) (x:V) (H1:Hp):Prop
 | mk:∀ a,x = .ref a->(∃ xs,SqT K H1 a xs)->R (Itt K a) H1->JW K R x H1
def iTup (K:K6) (tl:TE):TI:=fun σ H R=>tl σ H (JW K R)
def IG {l:Expr} {tl:TE} (hl:PE X l tl):PI X tg l (JZ X.K tl):=by
 intro pins s σ H R I h
 refine thn (hl pins s σ H _ I h) fun v s1 zQq=>?_
 obtain⟨x,H1,I1,r1,q1⟩:=zQq
 obtain⟨a,e,⟨xs,hq⟩,q⟩:=q1
 subst e
 cases r1
 obtain⟨its,rv,p,hz⟩:=I1.list hq
 refine wpAny_pyIter_list p.isList ?_
 refine⟨s1.heap.objs.size,[s1.heap.objs.size],_,_,H1,rfl,I1.kept (t':=s1.toks) fun b o e=>get?_push_of_some _ e,wC a _,⟨_,get?_push_size _ rfl,rfl,rfl⟩,fun b hb=>?_,q⟩
 have e:b=s1.heap.objs.size:=by simpa using hb
 subst e
 exact I1.fpOk (le_refl _) (I1.hok.fresh (le_refl _))
def KD {l:Expr} {tl:TE} (hl:PE X l tl):PI X tg l (iTup X.K tl):=by
 intro pins s σ H R I h
 refine thn (hl pins s σ H _ I h) fun v s1 zQq=>?_
 obtain⟨x,H1,I1,r1,q1⟩:=zQq
 obtain⟨a,e,⟨xs,hq⟩,q⟩:=q1
 subst e
 cases r1
 obtain⟨its,rv,p,hz⟩:=I1.tuple hq
 refine wpAny_pyIter_tuple (show s1.heap.IsTuple a its.toArray from p) ?_
 refine⟨s1.heap.objs.size,[s1.heap.objs.size],_,_,H1,rfl,I1.kept (t':=s1.toks) fun b o e=>get?_push_of_some _ e,sV a _,⟨_,get?_push_size _ rfl,rfl,rfl⟩,fun b hb=>?_,q⟩
 have e:b=s1.heap.objs.size:=by simpa using hb
 subst e
 exact I1.fpOk (le_refl _) (I1.hok.fresh (le_refl _))
def GC {pins:K7} {σ : St} {H:Hp} {s:Shared} {R:It->Hp->Prop} {E:Lk} {lo hi:Int} {t u v:Tok} {tk:Nat} (I:Inv X pins σ H s) (h1:-(2 ^ 62)<=lo) (h2:lo<2 ^ 62) (h3:-(2 ^ 62)<=hi) (h4:hi<2 ^ 62)
  (q:R (Itr lo (hi - lo).toNat) H):wpAny (model X.prog X.w) X.A (pyIter (.ref s.heap.objs.size)) (PIE X pins σ tg R) E { s with heap:=s.heap.push { cls:=.type "range",data:=.fields #[.int lo t,.int hi u,.int 1 v] },toks:=tk }:=by
 refine wpAny_pyIter_range (IsRange.new ..) (small_one h1 h2 h3 h4) ?_
 have I1:Inv X pins σ H { s with heap:=s.heap.push { cls:=.type "range",data:=.fields #[.int lo t,.int hi u,.int 1 v] },toks:=tk }:=I.kept fun b o e=>get?_push_of_some _ e
 refine⟨(s.heap.push { cls:=.type "range",data:=.fields #[.int lo t,.int hi u,.int 1 v] }).objs.size,[(s.heap.push { cls:=.type "range",data:=.fields #[.int lo t,.int hi u,.int 1 v] }).objs.size],_,_,H,rfl,
  I1.kept (t':=tk) fun b o e=>get?_push_of_some _ e,Bx _ lo (hi - lo).toNat,?_,fun b hb=>?_,q⟩
 ·have e1:lo+((0:Nat):Int) * 1=lo:=by simp
  have e2:(((hi - lo).toNat:Nat):Int) - ((0:Nat):Int)=Builtin.Range.rangeSize lo hi 1:=by rw[rangeSize_one]; split <;> omega
  show IsRangeIter _ _ (lo+((0:Nat):Int) * 1) ((((hi - lo).toNat:Nat):Int) - ((0:Nat):Int)) 1
  rw[e1,e2]
  exact get?_push_size _ rfl
 ·have e:b=(s.heap.push { cls:=.type "range",data:=.fields #[.int lo t,.int hi u,.int 1 v] }).objs.size:=by simpa using hb
  subst e
  exact I1.fpOk (le_refl _) (I1.hok.fresh (le_refl _))
inductive G5 (R:(It->Hp->Prop)) (vs:Ln) (H1:Hp):Prop
 | mk:∀ j:Int,vs=[.int j]->-(2 ^ 62)<=j->j<2 ^ 62->R (Itr 0 j.toNat) H1->G5 R vs H1
def iRng1 (ta:TA):TI:=fun σ H R=>ta σ H (G5 R)
def qJ {a:Expr} {ta:TA} {p pos:Pos} (hg:Gl X "range") (hm:X.mg "range" = none) (ha:PA X [a] ta) (hs:starEach [a] X.env=[(false,eval a X.env)]:=by rfl):PI X tg (.Call (.Name "range" p) [a] [] pos) (iRng1 ta):=by
 intro pins s σ H R I h
 refine Call_ (lG I hg hm boot_range (PyProof.Rows.callWith_type1 (thn (ha pos pins s σ H _ I h) fun us s1 zQq=>?_) hs rfl))
 obtain⟨vs,H1,I1,r1,q1⟩:=zQq
 obtain⟨j,e,q1,q2,q⟩:=q1
 subst e
 cases r1 with
 | cons r rr=>
  cases rr
  obtain⟨t,rfl⟩:=r
  exact call_range_1 (GC I1 (by omega) (by omega) q1 q2 (by simpa using q))
def Jo (g:TG) (tb:TS) (D:Ends) (σ : St):It->Hp->Prop:=fun J H1=>∃ W:Nat->Nat->St->Hp->Prop,(∃ m,W 0 m σ H1)/\∀ i m σ H,W i m σ H->
 (J.stop i H/\D.nx σ H)\/(J.go i H/\∃ N:St->Hp->Prop,(∀ σ' H',N σ' H'->∃ m',m'<m/\W (i+1) m' σ' H')/\∀ x H',J.yld i H x H'->g x σ H' fun σ2 H2=>tb (D.loop (N)) σ2 H2)
def Jp (wi:TI) (g:TG) (tb:TS):TS:=fun D σ H=>wi σ H (Jo g tb D σ)
def uG (fp:List Addr) (h:Heap):K7:=fp.filterMap fun b=>(h.get? b).map fun o=>(b,o)
def lE (hb:b∈fp) (e:h.get? b=some o):(b,o)∈uG fp h:=List.mem_filterMap.mpr ⟨b,hb,by rw[e]; rfl⟩
def En (hp:p∈uG fp h):p.1∈fp/\h.get? p.1=some p.2:=by
 obtain⟨b,hb,e⟩:=List.mem_filterMap.mp hp
 cases q:h.get? b with
 | none=>rw[q]at e; cases e
 | some o=>
  rw[q]at e
  have e':(b,o)=p:=Option.some.inj e
  subst e'
  exact⟨hb,q⟩
def Inv.pinned (I:Inv X pins σ H s) (hf:∀ b∈fp,qZ X pins H b) (ho:∀ b∈fp,∃ o,s.heap.get? b=some o/\∀ v,o.data ≠ .cell v):Inv X (pins++uG fp s.heap) σ H s:=
 I.pins_of fun p hp=>(mem_append.mp hp).elim (fun z=>I.pin p (mem_append_right _ z)) fun z=>by
  obtain⟨hb,e⟩:=En z
  obtain⟨f0,f1,f2,_⟩:=hf p.1 hb
  obtain⟨o,e',d⟩:=ho p.1 hb
  rw[e]at e'; cases e'
  exact⟨e,f0,f1,f2,d⟩
def Inv.unpinned (I:Inv X (pins++pl) σ H s):Inv X pins σ H s:=I.pins_of fun p hp=>I.pin p (mem_append_right _ (mem_append_left _ hp))
def fY {iter:Expr} {body:List Stmt} {wi:TI} {g:TG} {tb:TS} {pos:Pos} (hp:PassesOwn (model X.prog X.w) X.A X.env X.xe) (hc:X.calm=true) (hi:PI X tg iter wi) (hg:PG X tg g) (hb:PSs X body tb)
  (hs:∀ x,foldedSetIterable iter X.env x=pure x:=by intro _; rfl):PS X (.For tg iter body [] pos) (Jp wi g tb):=by
 intro pins s σ H D I h
 refine wpAny_For (thn (hi pins s σ H _ I h) fun v s1 h1=>thn h1 fun itv s2 h2=>?_) hs
 obtain⟨it,fp,tn,J,H2,e,I2,T,st2,f2,W,⟨m0,w0⟩,turn⟩:=h2
 subst e
 -- what stays true of the iterator's objects through the loop
 have stat:∀ {H':Hp},(∀ b∈fp,H' b=none)->∀ b∈fp,qZ X pins H' b:=fun hn b hb=>⟨hn b hb,(f2 b hb).2⟩
 refine codeAny_forLoop_any (fun n s'=>∃ i σ' H',Inv X pins σ' H' s'/\tn i s'.heap/\(∀ b∈fp,H' b=none)/\W i n σ' H') ?_ m0 ⟨0,σ,H2,I2,st2,fun b hb=>(f2 b hb).1,w0⟩
 rintro n s3 ⟨i,σ3,H3,I3,st3,fr3,w3⟩
 rcases turn i n σ3 H3 w3 with ⟨stop,qn⟩ | ⟨go,N,hN,step⟩
 ·refine wpAny_passesOwn hp (thn (T.done X rfl rfl rfl hc i pins s3 σ3 H3 X.xe I3 (stat fr3) st3 stop) fun r s4 zQq=>?_)
  obtain⟨hr,I4⟩:=zQq
  subst hr
  exact wpAny_execs_nil ⟨σ3,H3,I4,qn⟩
 ·refine wpAny_passesOwn hp (thn (T.item X rfl rfl rfl hc i pins s3 σ3 H3 X.xe I3 (stat fr3) st3 go) fun r s4 zQq=>?_)
  obtain⟨u,hr,h4⟩:=zQq
  subst hr
  refine wpAny_passesOwn hp (thn h4 fun _ s5 zQq=>?_)
  obtain⟨x,H5,I5,r5,y5,st5,fr5⟩:=zQq
  have I5':=I5.pinned (stat fr5) (T.obj _ _ st5)
  refine wpAny_passesOwn hp (thn (hg _ s5 σ3 H5 x u _ I5' r5 (step x H5 y5)) fun _ s6 zQq=>?_)
  obtain⟨σ6,H6,I6,q6⟩:=zQq
  refine wpAny_passesOwn hp (thn (hb _ s6 σ6 H6 _ I6 q6) fun f s7 q7=>?_)
  have again:∀ {σ7:St} {H7:Hp},Inv X (pins++uG fp s5.heap) σ7 H7 s7->N σ7 H7->∃ m,m<n/\∃ i σ' H',Inv X pins σ' H' s7/\tn i s7.heap/\(∀ b∈fp,H' b=none)/\W i m σ' H':=fun {σ7 H7} I7 n7=>by
   obtain⟨m',hm,w7⟩:=hN σ7 H7 n7
   refine⟨m',hm,i+1,σ7,H7,I7.unpinned,T.keep _ _ _ st5 fun b hb o e=>(I7.pin (b,o) (mem_append_right _ (mem_append_right _ (lE hb e)))).1,fun b hb=>?_,w7⟩
   obtain⟨o,e,d⟩:=T.obj _ _ st5 b hb
   exact(I7.pin (b,o) (mem_append_right _ (mem_append_right _ (lE hb e)))).2.1
  cases f with
  | next=>obtain⟨σ7,H7,I7,n7⟩:=q7; exact again I7 n7
  | cont=>obtain⟨σ7,H7,I7,n7⟩:=q7; exact again I7 n7
  | brk=>obtain⟨σ7,H7,I7,q7⟩:=q7; exact⟨σ7,H7,I7.unpinned,q7⟩
  | ret v=>obtain⟨x7,σ7,H7,I7,r7,q7⟩:=q7; exact⟨x7,σ7,H7,I7.unpinned,r7,q7⟩
end
abbrev R2:=V->V->Hp->VK->Prop
def OpR (X:Cx) (f:Value->Value->Sem Value) (r:R2):Prop:=
 ∀ pins s σ H (x y:V) (v u:Value) (Q:VK),Inv X pins σ H s->bX x v->bX y u->r x y H Q->
  wpAny (model X.prog X.w) X.A (f v u) (EP X pins σ Q) X.xe s
def UnR (X:Cx) (f:Value->Sem Value) (r:V->Hp->VK->Prop):Prop:=
 ∀ pins s σ H (x:V) (v:Value) (Q:VK),Inv X pins σ H s->bX x v->r x H Q->
  wpAny (model X.prog X.w) X.A (f v) (EP X pins σ Q) X.xe s
def gM (X:Cx) (f:Value) (r:Ln->Hp->VK->Prop):Prop:=
 ∀ pins s σ H (xs:Ln) (us:Lf) (Q:VK),Inv X pins σ H s->bZ xs us->r xs H Q->
  wpAny (model X.prog X.w) X.A (call f us) (EP X pins σ Q) X.xe s
def TruR (X:Cx) (r:V->Hp->(Bool->Hp->Prop)->Prop):Prop:=
 ∀ pins s σ H (x:V) (v:Value) (Q:Bool->Hp->Prop),Inv X pins σ H s->bX x v->r x H Q->
  wpAny (model X.prog X.w) X.A (truthy v) (TP X pins σ Q) X.xe s
abbrev tOp_2 (r:R2) (Q:VK) (x:V):V->Hp->Prop:=fun y H2=>r x y H2 Q
abbrev tOp_1 (r:R2) (tb:TE) (σ : St) (Q:VK):V->Hp->Prop:=fun x H1=>tb σ H1 (tOp_2 r Q x)
def tOp (r:R2) (ta tb:TE):TE:=fun σ H Q=>ta σ H (tOp_1 r tb σ Q)
abbrev tUn_1 (r:V->Hp->VK->Prop) (Q:VK):V->Hp->Prop:=fun x H1=>r x H1 Q
def tUn (r:V->Hp->VK->Prop) (ta:TE):TE:=fun σ H Q=>ta σ H (tUn_1 r Q)
inductive rI (C:Int->Int->Prop) (g:Int->Int->V) (x:V) (y:V) (H:Hp) (Q:VK):Prop
 | mk:∀ i j,x = .int i->y = .int j->C i j->Q (g i j) H->rI C g x y H Q
inductive rI0 (g:Int->Int->V) (x:V) (y:V) (H:Hp) (Q:VK):Prop
 | mk:∀ i j,x = .int i->y = .int j->Q (g i j) H->rI0 g x y H Q
inductive rU (g:Int->V) (x:V) (H:Hp) (Q:VK):Prop
 | mk:∀ i,x = .int i->Q (g i) H->rU g x H Q
section
variable {X:Cx} {a b c:Expr} {ta tb tc:TE} {pos:Pos}
def K0 (ha:PE X a ta) (hb:PE X b tb) {pins:K7} {s:Shared} {σ : St} {H:Hp} {R:V->V->Hp->Prop} (I:Inv X pins σ H s)
  (h:ta σ H fun x H1=>tb σ H1 fun y H2=>R x y H2) {Q:Lk} {f:Value->Value->Sem Value}
  (hf:∀ v u s2 x y H2,Inv X pins σ H2 s2->bX x v->bX y u->R x y H2->wpAny (model X.prog X.w) X.A (f v u) Q X.xe s2) :
  wpAny (model X.prog X.w) X.A (eval a X.env) (fun v s₁=>wpAny (model X.prog X.w) X.A (eval b X.env) (fun u s₂=>wpAny (model X.prog X.w) X.A (f v u) Q X.xe s₂) X.xe s₁) X.xe s:=by
 refine thn (ha pins s σ H _ I h) fun v s1 zQq=>?_
 obtain⟨x,H1,I1,r1,q1⟩:=zQq
 refine thn (hb pins s1 σ H1 _ I1 q1) fun u s2 zQq=>?_
 obtain⟨y,H2,I2,r2,q2⟩:=zQq
 exact hf v u s2 x y H2 I2 r1 r2 q2
def bB {op:Operator} {r:R2} (ho:OpR X (binaryOp op) r) (ha:PE X a ta) (hb:PE X b tb):PE X (.BinOp a op b pos) (tOp r ta tb):=by
 intro pins s σ H Q I h
 exact wpAny_BinOp (K0 ha hb I h fun v u s2 x y H2 I2 rx ry q=>ho pins s2 σ H2 x y v u Q I2 rx ry q)
def Av (ho:UnR X (unaryOp op) r) (ha:PE X a ta):PE X (.UnaryOp op a pos) (tUn r ta):=by
 intro pins s σ H Q I h
 exact UnaryOp_ (thn (ha pins s σ H _ I h) fun v s1 ⟨x,H1,I1,r1,q1⟩=>ho pins s1 σ H1 x v Q I1 r1 q1)
def opI {f:Value->Value->Sem Value} {C:Int->Int->Prop} {g:Int->Int->Int}
  (rule:∀ (i j:Int) (t u:Tok) (s:Shared) (Q:Lk) (E:Lk),C i j->Q (.int (g i j) s.toks) { s with toks:=s.toks+1 }->wpAny (model X.prog X.w) X.A (f (.int i t) (.int j u)) Q E s) :
  OpR X f (rI C fun i j=>.int (g i j)):=by
 intro pins s σ H x y v u Q I rx ry h
 obtain⟨i,j,rfl,rfl,hc,q⟩:=h
 obtain⟨t,rfl⟩:=rx
 obtain⟨t',rfl⟩:=ry
 exact rule i j t t' s _ _ hc ⟨.int (g i j),H,I.tok _,⟨_,rfl⟩,q⟩
def opI0 {f:Value->Value->Sem Value} {g:Int->Int->Int}
  (rule:∀ (i j:Int) (t u:Tok) (s:Shared) (Q:Lk) (E:Lk),Q (.int (g i j) s.toks) { s with toks:=s.toks+1 }->wpAny (model X.prog X.w) X.A (f (.int i t) (.int j u)) Q E s) :
  OpR X f (rI0 fun i j=>.int (g i j)):=by
 intro pins s σ H x y v u Q I rx ry h
 obtain⟨i,j,rfl,rfl,q⟩:=h
 obtain⟨t,rfl⟩:=rx
 obtain⟨t',rfl⟩:=ry
 exact rule i j t t' s _ _ ⟨.int (g i j),H,I.tok _,⟨_,rfl⟩,q⟩
def IS {f:Value->Value->Sem Value} {g:Int->Int->Bool}
  (rule:∀ (i j:Int) (t u:Tok) (s:Shared) (Q:Lk) (E:Lk),Q (.bool (g i j)) s->wpAny (model X.prog X.w) X.A (f (.int i t) (.int j u)) Q E s) :
  OpR X f (rI0 fun i j=>.bl (g i j)):=by
 intro pins s σ H x y v u Q I rx ry h
 obtain⟨i,j,rfl,rfl,q⟩:=h
 obtain⟨t,rfl⟩:=rx
 obtain⟨t',rfl⟩:=ry
 exact rule i j t t' s _ _ ⟨.bl (g i j),H,I,rfl,q⟩
def CDiv (i j:Int):Prop:=0<j/\j<1073741824
def CPow (i j:Int):Prop:=0<=j/\j<=1000000/\i.natAbs<2 ^ 64
def K4 (i j:Int):Prop:=(-(2 ^ 64)<i/\i<2 ^ 64)\/(-(2 ^ 64)<j/\j<2 ^ 64)
def K4.ok (h:K4 i j):IntMulOk i j:=by
 rcases h with ⟨h1,h2⟩ | ⟨h1,h2⟩
 ·exact .of_left (intBits_le_64 h1 h2)
 ·exact .of_right (intBits_le_64 h1 h2)
def cO:OpR X (binaryOp .Add) (rI0 fun i j=>.int (i+j)):=opI0 fun _ _ _ _ _ _ _ q=>add_int q
def jP:OpR X (binaryOp .Sub) (rI0 fun i j=>.int (i - j)):=opI0 fun _ _ _ _ _ _ _ q=>sub_int q
def l9:OpR X (binaryOp .Mult) (rI K4 fun i j=>.int (i * j)):=opI fun _ _ _ _ _ _ _ hc q=>mul_int q hc.ok
def mW:OpR X (binaryOp .FloorDiv) (rI CDiv fun i j=>.int (i / j)):=opI fun i j _ _ _ _ _ hc q=>by
 have h1:(0:Int)<j:=hc.1
 have h2:j<1073741824:=hc.2
 exact floordiv_int (by omega) (by rw[Int.fdiv_eq_ediv_of_nonneg i (by omega)]; exact q) (.inl (PyProof.noPylong_small (by omega)))
def dN:OpR X (binaryOp .Mod) (rI (fun _ j=>0<j) fun i j=>.int (i % j)):=opI fun i j _ _ _ _ _ hc q=>by
 have h1:(0:Int)<j:=hc
 exact mod_int' (by omega) (by rw[Int.fmod_eq_emod_of_nonneg i (by omega)]; exact q)
def GW:OpR X (binaryOp .Pow) (rI CPow fun i j=>.int (i ^ j.toNat)):=opI fun _ _ _ _ _ _ _ hc q=>pow_int_small hc.1 hc.2.1 hc.2.2 q
def unI {f:Value->Sem Value} {g:Int->Int}
  (rule:∀ (i:Int) (t:Tok) (s:Shared) (Q:Lk) (E:Lk),Q (.int (g i) s.toks) { s with toks:=s.toks+1 }->wpAny (model X.prog X.w) X.A (f (.int i t)) Q E s) :
  UnR X f (rU fun i=>.int (g i)):=by
 intro pins s σ H x v Q I rx h
 obtain⟨i,rfl,q⟩:=h
 obtain⟨t,rfl⟩:=rx
 exact rule i t s _ _ ⟨.int (g i),H,I.tok _,⟨_,rfl⟩,q⟩
def sR:UnR X (unaryOp .USub) (rU fun i=>.int (-i)):=unI fun _ _ _ _ _ q=>neg_int q
end
def scal:V->V->Bool
 | .non,.non=>true | .non,.int _=>true | .int _,.non=>true | .non,.bl _=>true | .bl _,.non=>true | .non,.str _=>true | .str _,.non=>true
 | .int _,.int _=>true | .bl _,.bl _=>true | .str _,.str _=>true | .byt _,.byt _=>true
 | .int _,.str _=>true | .str _,.int _=>true | .bl _,.str _=>true | .str _,.bl _=>true
 | _,_=>false
def rEq:R2:=fun x y H Q=>scal x y=true/\Q (.bl (decide (x=y))) H
def rNe:R2:=fun x y H Q=>scal x y=true/\Q (.bl (!decide (x=y))) H
def D4:decide (V.int i=V.int j)=(i == j):=by
 rw[Bool.eq_iff_iff]
 simp
def HN:decide (V.bl i=V.bl j)=(i == j):=by
 rw[Bool.eq_iff_iff]
 simp
def D3:decide (V.str i=V.str j)=(i == j):=by
 rw[Bool.eq_iff_iff]
 simp
def D5:decide (V.byt i=V.byt j)=(i.toList == j.toList):=by
 rw[Bool.eq_iff_iff]
 cases i
 cases j
 simp
section
variable {X:Cx} {a b c:Expr} {ta tb tc:TE} {pos:Pos}
def cC (I:Inv X pins σ H s) (q:Q (.bl k) H) (e:k=k'):EP X pins σ Q (.bool k') s:=by
 subst e
 exact⟨.bl k,H,I,rfl,q⟩
def fM:OpR X (compareOp .Eq) rEq:=by
 intro pins s σ H x y v u Q I rx ry h
 obtain⟨hs,q⟩:=h
 cases x with
 | non=>
  cases rx
  cases y with
  | non=>cases ry; exact PySem.EqNone.eq_none_none (cC I q (by simp))
  | bl j=>cases ry; exact PySem.EqNone.eq_none_bool (cC I q (by simp))
  | int j=>obtain⟨t',rfl⟩:=ry; exact PySem.EqNone.eq_none_int (cC I q (by simp))
  | str j=>obtain⟨t',rfl⟩:=ry; exact PySem.EqNone.eq_none_str (cC I q (by simp))
  | _=>exact absurd (show false=true from hs) Bool.false_ne_true
 | bl i=>
  cases rx
  cases y with
  | non=>cases ry; exact PySem.EqNone.eq_bool_none (cC I q (by simp))
  | bl j=>cases ry; exact eq_bool (cC I q HN)
  | str j=>obtain⟨t',rfl⟩:=ry; exact PySem.EqMixed.eq_bool_str (cC I q (by simp))
  | _=>exact absurd (show false=true from hs) Bool.false_ne_true
 | int i=>
  obtain⟨t,rfl⟩:=rx
  cases y with
  | non=>cases ry; exact PySem.EqNone.eq_int_none (cC I q (by simp))
  | int j=>obtain⟨t',rfl⟩:=ry; exact eq_int (cC I q D4)
  | str j=>obtain⟨t',rfl⟩:=ry; exact PySem.EqMixed.eq_int_str (cC I q (by simp))
  | _=>exact absurd (show false=true from hs) Bool.false_ne_true
 | str i=>
  obtain⟨t,rfl⟩:=rx
  cases y with
  | non=>cases ry; exact PySem.EqNone.eq_str_none (cC I q (by simp))
  | bl j=>cases ry; exact PySem.EqMixed.eq_str_bool (cC I q (by simp))
  | int j=>obtain⟨t',rfl⟩:=ry; exact PySem.EqMixed.eq_str_int (cC I q (by simp))
  | str j=>obtain⟨t',rfl⟩:=ry; exact eq_str (cC I q D3)
  | _=>exact absurd (show false=true from hs) Bool.false_ne_true
 | byt i=>
  obtain⟨t,rfl⟩:=rx
  cases y with
  | byt j=>obtain⟨t',rfl⟩:=ry; exact PySem.W.eq_bytes (cC I q D5)
  | _=>exact absurd (show false=true from hs) Bool.false_ne_true
 | _=>cases y <;> exact absurd (show false=true from hs) Bool.false_ne_true
def Ay:OpR X (compareOp .NotEq) rNe:=by
 intro pins s σ H x y v u Q I rx ry h
 obtain⟨hs,q⟩:=h
 cases x with
 | non=>
  cases rx
  cases y with
  | non=>cases ry; exact PySem.EqNone.ne_none_none (cC I q (by simp))
  | bl j=>cases ry; exact PySem.EqNone.ne_none_bool (cC I q (by simp))
  | int j=>obtain⟨t',rfl⟩:=ry; exact PySem.EqNone.ne_none_int (cC I q (by simp))
  | str j=>obtain⟨t',rfl⟩:=ry; exact PySem.EqNone.ne_none_str (cC I q (by simp))
  | _=>exact absurd (show false=true from hs) Bool.false_ne_true
 | bl i=>
  cases rx
  cases y with
  | non=>cases ry; exact PySem.EqNone.ne_bool_none (cC I q (by simp))
  | bl j=>cases ry; exact ne_bool (cC I q (congrArg not HN))
  | str j=>obtain⟨t',rfl⟩:=ry; exact PySem.EqMixed.ne_bool_str (cC I q (by simp))
  | _=>exact absurd (show false=true from hs) Bool.false_ne_true
 | int i=>
  obtain⟨t,rfl⟩:=rx
  cases y with
  | non=>cases ry; exact PySem.EqNone.ne_int_none (cC I q (by simp))
  | int j=>obtain⟨t',rfl⟩:=ry; exact ne_int (cC I q (congrArg not D4))
  | str j=>obtain⟨t',rfl⟩:=ry; exact PySem.EqMixed.ne_int_str (cC I q (by simp))
  | _=>exact absurd (show false=true from hs) Bool.false_ne_true
 | str i=>
  obtain⟨t,rfl⟩:=rx
  cases y with
  | non=>cases ry; exact PySem.EqNone.ne_str_none (cC I q (by simp))
  | bl j=>cases ry; exact PySem.EqMixed.ne_str_bool (cC I q (by simp))
  | int j=>obtain⟨t',rfl⟩:=ry; exact PySem.EqMixed.ne_str_int (cC I q (by simp))
  | str j=>obtain⟨t',rfl⟩:=ry; exact ne_str (cC I q (congrArg not D3))
  | _=>exact absurd (show false=true from hs) Bool.false_ne_true
 | byt i=>
  obtain⟨t,rfl⟩:=rx
  cases y with
  | byt j=>obtain⟨t',rfl⟩:=ry; exact PySem.W.ne_bytes (cC I q (congrArg not D5))
  | _=>exact absurd (show false=true from hs) Bool.false_ne_true
 | _=>cases y <;> exact absurd (show false=true from hs) Bool.false_ne_true
def uM:OpR X (compareOp .Lt) (rI0 fun i j=>.bl (decide (i<j))):=IS fun _ _ _ _ _ _ _ q=>lt_int q
def iW:OpR X (compareOp .LtE) (rI0 fun i j=>.bl (decide (i<=j))):=IS fun _ _ _ _ _ _ _ q=>le_int q
def o8:OpR X (compareOp .Gt) (rI0 fun i j=>.bl (decide (j<i))):=IS fun _ _ _ _ _ _ _ q=>gt_int q
def GX:OpR X (compareOp .GtE) (rI0 fun i j=>.bl (decide (j<=i))):=IS fun _ _ _ _ _ _ _ q=>ge_int q
def EV:OpR X (compareOp .In) (fun x y H Q=>∃ i j,x = .str i/\y = .str j/\Q (.bl (!(Builtin.Str.occurrences j i 0 j.length 1).isEmpty)) H):=by
 intro pins s σ H x y v u Q I rx ry h
 obtain⟨i,j,rfl,rfl,q⟩:=h
 obtain⟨t,rfl⟩:=rx
 obtain⟨t',rfl⟩:=ry
 exact in_str (cC I q rfl)
def KM:OpR X (compareOp .Is) (fun x y H Q=>y = .non/\Q (.bl (decide (x = .non))) H):=by
 intro pins s σ H x y v u Q I rx ry h
 obtain⟨rfl,q⟩:=h
 cases ry
 refine is_none_gen (cC I q ?_)
 cases x <;> first
  | (cases rx; rfl)
  | (obtain⟨t,rfl⟩:=rx; rfl)
def zE:OpR X (compareOp .IsNot) (fun x y H Q=>y = .non/\Q (.bl (!decide (x = .non))) H):=by
 intro pins s σ H x y v u Q I rx ry h
 obtain⟨rfl,q⟩:=h
 cases ry
 refine isnot_none_gen (cC I q ?_)
 cases x <;> first
  | (cases rx; rfl)
  | (obtain⟨t,rfl⟩:=rx; rfl)
def bD (b:Expr) (h:op ≠ .In:=by decide) (h2:op ≠ .NotIn:=by decide):behindInMarks op b=false:=by
 have e1:(op == CmpOp.In)=false:=by cases op <;> first | rfl | exact absurd rfl h
 have e2:(op == CmpOp.NotIn)=false:=by cases op <;> first | rfl | exact absurd rfl h2
 cases b <;> simp [behindInMarks,e1,e2]
def fZ (ho:OpR X (compareOp op) r) (ha:PE X a ta) (hb:PE X b tb) (hm:behindInMarks op b=false):PE X (.Compare a [op] [b] pos) (tOp r ta tb):=by
 intro pins s σ H Q I h
 exact wpAny_Compare1 (K0 ha hb I h fun v u s2 x y H2 I2 rx ry q=>ho pins s2 σ H2 x y v u Q I2 rx ry q) hm
inductive FW (Q:(Bool->Hp->Prop)) (x:V) (H':Hp):Prop
 | mk:∀ k,x = .bl k->Q k H'->FW Q x H'
def C0 (t:TE):TT:=fun σ H Q=>t σ H (FW Q)
def aQ {op:CmpOp} {r:R2} (ho:OpR X (compareOp op) r) (ha:PE X a ta) (hb:PE X b tb) (hm:behindInMarks op b=false):PT X (.Compare a [op] [b] pos) (C0 (tOp r ta tb)):=by
 intro pins s σ H Q I h
 refine wpAny_isTrue_Compare1 (thn (ha pins s σ H _ I h) fun v s1 ⟨x,H1,I1,r1,q1⟩=>thn (hb pins s1 σ H1 _ I1 q1) fun u s2 ⟨y,H2,I2,r2,q2⟩=>
  thn (ho pins s2 σ H2 x y v u _ I2 r1 r2 q2) fun c s3 ⟨z,H3,I3,r3,k,e,q3⟩=>?_) hm
 subst e
 cases r3
 exact wpAny_truthy_bool ⟨H3,I3,q3⟩
inductive AL (r':R2) (tc:TE) (σ : St) (Q:VK) (y:V) (z:V) (H3:Hp):Prop
 | mk:∀ k,z = .bl k->(if k=true then tc σ H3 fun w' H4=>r' y w' H4 Q else Q (.bl false) H3)->AL r' tc σ Q y z H3
abbrev Fd (r:R2) (r':R2) (tc:TE) (σ : St) (Q:VK) (x:V):V->Hp->Prop:=fun y H2=>r x y H2 (AL r' tc σ Q y)
abbrev Fe (r:R2) (r':R2) (tb:TE) (tc:TE) (σ : St) (Q:VK):V->Hp->Prop:=fun x H1=>tb σ H1 (Fd r r' tc σ Q x)
def Ff (r r':R2) (ta tb tc:TE):TE:=fun σ H Q=>ta σ H (Fe r r' tb tc σ Q)
def uK (ho:OpR X (compareOp op) r) (ho':OpR X (compareOp op') r') (ha:PE X a ta) (hb:PE X b tb) (hc:PE X c tc)
  (hm:lastMarks [op,op'] [b,c]=false:=by with_unfolding_all rfl):PE X (.Compare a [op,op'] [b,c] pos) (Ff r r' ta tb tc):=by
 intro pins s σ H Q I h
 refine Compare_chain (thn (ha pins s σ H _ I h) fun v s1 ⟨x,H1,I1,r1,q1⟩=>chain_link (thn (hb pins s1 σ H1 _ I1 q1) fun u s2 ⟨y,H2,I2,r2,q2⟩=>
  thn (ho pins s2 σ H2 x y v u _ I2 r1 r2 q2) fun d s3 ⟨z,H3,I3,r3,k,e,q3⟩=>?_)) hm
 subst e
 cases r3
 refine wpAny_truthy_bool ?_
 cases k with
 | false=>exact ite_ff ⟨.bl false,H3,I3,rfl,q3⟩
 | true=>exact ite_tt (chain_last (thn (hc pins s3 σ H3 _ I3 q3) fun w' s4 ⟨z',H4,I4,r4,q4⟩=>ho' pins s4 σ H4 y z' u w' Q I4 r2 r4 q4))
def uE (ho:OpR X (compareOp op) r) (ho':OpR X (compareOp op') r') (ha:PE X a ta) (hb:PE X b tb) (hc:PE X c tc)
  (hm:lastMarks [op,op'] [b,c]=false:=by with_unfolding_all rfl):PT X (.Compare a [op,op'] [b,c] pos) (C0 (Ff r r' ta tb tc)):=by
 intro pins s σ H Q I h
 refine isTrue_chain (thn (ha pins s σ H _ I h) fun v s1 ⟨x,H1,I1,r1,q1⟩=>test_link (thn (hb pins s1 σ H1 _ I1 q1) fun u s2 ⟨y,H2,I2,r2,q2⟩=>
  thn (ho pins s2 σ H2 x y v u _ I2 r1 r2 q2) fun d s3 ⟨z,H3,I3,r3,k,e,q3⟩=>?_)) hm
 subst e
 cases r3
 refine wpAny_truthy_bool ?_
 cases k with
 | false=>
  obtain⟨k',e',q'⟩:=q3
  cases e'
  exact ite_ff ⟨H3,I3,q'⟩
 | true=>
  refine ite_tt (test_last (thn (hc pins s3 σ H3 _ I3 q3) fun w' s4 ⟨z',H4,I4,r4,q4⟩=>thn (ho' pins s4 σ H4 y z' u w' _ I4 r2 r4 q4) fun d' s5 zQq=>?_))
  obtain⟨z2,H5,I5,r5,k2,e2,q5⟩:=zQq
  subst e2
  cases r5
  exact wpAny_truthy_bool ⟨H5,I5,q5⟩
def TruV (K:K6) (x:V) (H:Hp) (k:Bool):Prop:=
 match x with
 | .non=>k=false
 | .bl b=>k=b
 | .int i=>k=(i != 0)
 | .str y=>y.length<=sizeLine/\k=((y.length:Int) != 0)
 | .byt y=>y.size<=sizeLine/\k=((y.size:Int) != 0)
 | .ref p=>(∃ xs,SqL K H p xs/\k = !xs.isEmpty)\/(∃ xs,SqT K H p xs/\k = !xs.isEmpty)\/∃ kvs,H p=some (.dK kvs)/\k = !kvs.isEmpty
 | _=>False
def Ck {κ : Type} {kvs:List (κ × V)} {vs:List (κ × Value)} (r:KV kvs vs):(!vs.isEmpty) = !kvs.isEmpty:=by
 cases r <;> rfl
def uX (r:bZ xs its):(!its.toArray.isEmpty) = !xs.isEmpty:=by
 cases r <;> simp
def uS:(sizeLine:Nat)<2 ^ 63:=by rw[sizeLine_eq]; decide
def Je:TruR X (fun x H Q=>∃ k,TruV X.K x H k/\Q k H):=by
 intro pins s σ H x v Q I rx h
 obtain⟨k,e,q⟩:=h
 have hl:=uS
 have hs:sizeLine=16777216:=sizeLine_eq
 cases x with
 | non=>
  cases rx
  have e':k=false:=e
  subst e'
  exact truthy_none ⟨H,I,q⟩
 | bl b=>
  cases rx
  have e':k=b:=e
  subst e'
  exact wpAny_truthy_bool ⟨H,I,q⟩
 | int i=>
  obtain⟨t,rfl⟩:=rx
  have e':k=(i != 0):=e
  subst e'
  exact PySem.P.truthy_int ⟨H,I,q⟩
 | str y=>
  obtain⟨t,rfl⟩:=rx
  obtain⟨hy,e'⟩:y.length<=sizeLine/\k=((y.length:Int) != 0):=e
  subst e'
  exact PySem.P.truthy_str (by omega) ⟨H,I.tok _,q⟩
 | byt y=>
  obtain⟨t,rfl⟩:=rx
  obtain⟨hy,e'⟩:y.size<=sizeLine/\k=((y.size:Int) != 0):=e
  subst e'
  exact PySem.W.truthy_bytes (by omega) ⟨H,I.tok _,q⟩
 | ref p=>
  cases rx
  have e':(∃ xs,SqL X.K H p xs/\k = !xs.isEmpty)\/(∃ xs,SqT X.K H p xs/\k = !xs.isEmpty)\/∃ kvs,H p=some (.dK kvs)/\k = !kvs.isEmpty:=e
  rcases e' with ⟨xs,hx,e'⟩ | ⟨xs,hx,e'⟩ | ⟨kvs,hx,e'⟩
  ·subst e'
   obtain⟨its,r,pl,hz⟩:=I.list hx
   have hlen:=r.length
   exact wpAny_truthy_list pl.isList (by simp only[size_toArray]; omega) ⟨H,I.tok _,by rw[uX r]; exact q⟩
  ·subst e'
   obtain⟨its,r,pl,hz⟩:=I.tuple hx
   have hlen:=r.length
   exact truthy_tuple pl (by simp only[size_toArray]; omega) ⟨H,I.tok _,by rw[uX r]; exact q⟩
  ·subst e'
   obtain⟨hz,hS,vs,r,m⟩:kvs.length<=sizeLine/\(p == sysModules)=false/\∃ vs,KV kvs vs/\s.heap.DictOf (cE X.prog X.w) p vs:=I.hok p _ hx
   have hlen:kvs.length=vs.length:=Paired.length r
   exact wpAny_truthy_dict hS m (by omega) ⟨H,I.tok _,by rw[Ck r]; exact q⟩
 | _=>exact(show False from e).elim
def v5 (r:bZ [x] us):∃ u,us=[u]/\bX x u:=by
 cases r with
 | cons r1 r2=>cases r2; exact⟨_,rfl,r1⟩
def FN (r:bZ [x,y] us):∃ u w',us=[u,w']/\bX x u/\bX y w':=by
 cases r with
 | cons r1 r2=>
  cases r2 with
  | cons r3 r4=>cases r4; exact⟨_,_,rfl,r1,r3⟩
def yE (hc:X.calm=true):gM X (.builtin "max") (fun xs H Q=>∃ i j,xs=[.int i,.int j]/\Q (.int (if j > i then j else i)) H):=by
 intro pins s σ H xs us Q I r h
 obtain⟨i,j,rfl,q⟩:=h
 obtain⟨u,w',rfl,⟨t,rfl⟩,⟨t',rfl⟩⟩:=FN r
 refine max_two_ints (I.ok.hd hc) fun h' tk k=>⟨_,H,I.kept k,?_,q⟩
 by_cases hj:j > i
 ·rw[if_pos hj,if_pos hj]; exact⟨_,rfl⟩
 ·rw[if_neg hj,if_neg hj]; exact⟨_,rfl⟩
def FF (hc:X.calm=true):gM X (.builtin "min") (fun xs H Q=>∃ i j,xs=[.int i,.int j]/\Q (.int (if j<i then j else i)) H):=by
 intro pins s σ H xs us Q I r h
 obtain⟨i,j,rfl,q⟩:=h
 obtain⟨u,w',rfl,⟨t,rfl⟩,⟨t',rfl⟩⟩:=FN r
 refine min_two_ints (I.ok.hd hc) fun h' tk k=>⟨_,H,I.kept k,?_,q⟩
 by_cases hj:j<i
 ·rw[if_pos hj,if_pos hj]; exact⟨_,rfl⟩
 ·rw[if_neg hj,if_neg hj]; exact⟨_,rfl⟩
def yF:gM X (.type "int") (fun xs H Q=>(∃ i,xs=[.int i]/\Q (.int i) H)\/∃ k,xs=[.bl k]/\Q (.int (if k then 1 else 0)) H):=by
 intro pins s σ H xs us Q I r h
 rcases h with ⟨i,rfl,q⟩ | ⟨k,rfl,q⟩
 ·obtain⟨u,rfl,t,rfl⟩:=v5 r
  exact call_int_int ⟨.int i,H,I,⟨_,rfl⟩,q⟩
 ·obtain⟨u,rfl,r1⟩:=v5 r
  cases r1
  exact call_int_bool ⟨.int (if k then 1 else 0),H,I.tok _,⟨_,rfl⟩,q⟩
end
structure ObjM (h:Heap) (x dx C:Addr) (mA:K8):Prop where
 obj:h.get? x=some (instObj C dx)
 ns:h.Ns1 dx mA
 ne:dx≠x
def Ex {h:Heap} {dx:Addr} {mA:K8} (n:h.Ns1 dx mA):∃ od,h.get? dx=some od/\∀ name,PySem.W.lookIn name od=some (mA name):=by
 obtain⟨o,es,ep,ho,hd,hk,_,hm⟩:=n
 refine⟨o,ho,fun name=>?_⟩
 have e:=hm name
 unfold nsFind findBy at e
 rw[<- Array.find?_toList]at e
 unfold PySem.W.lookIn
 rw[hd]
 dsimp only
 split
 ·rename_i y q
  rw[q]at e
  exact congrArg some e
 ·rename_i q
  rw[q]at e
  have a:es.toList.any (·.refKey)=false:=by
   rw[List.any_eq_false]
   intro y hy
   obtain⟨z,t,hkey⟩:=hk y (Array.mem_toList_iff.mp hy)
   simp [DictEntry.refKey,hkey]
  have a':¬ es.toList.any (·.refKey)=true:=by rw[a]; exact Bool.false_ne_true
  rw[if_neg a']
  exact congrArg some e
def ObjM.look (I:ObjM h x dx C mA):∃ od,PySem.W.InstAt h x (instObj C dx) C (some od)/\∀ name,PySem.W.lookIn name od=some (mA name):=
 let ⟨od,ho,hl⟩:=Ex I.ns
 ⟨od,⟨I.obj,rfl,rfl,ho⟩,hl⟩
section
variable {prog:Program} {w:World} {A:Around} {E:Lk} {s:Shared} {K:K6} {x dx C f:Addr} {mA:K8} {name:Str} {v:Value}
def Ip (X:K.In s.heap) (I:ObjM s.heap x dx C mA) (hg:plainGet K C name=true) (hh:hasDictIn K C=true)
  (ha:findIn K (.ref C) name=some none) (hv:mA name=some v) (hv':PySem.W.handedIn v=true) (h:Q v { s with toks:=s.toks+1 }) :
  wpAny (model prog w) A (getAttr (.ref x) name expr) Q E s:=by
 obtain⟨od,J,hl⟩:=I.look
 exact PySem.W.get_value X J (plainGet_of hg).1 (PySem.W.findObj_own hh ha rfl (by rw[hl,hv])) hv' h
def HC (X:K.In s.heap) (I:ObjM s.heap x dx C mA) (hg:plainGet K C name=true)
  (hf:findIn K (.ref C) name=some (some (.ref f))) (ht:PySem.W.isFn K (.ref f)=true) (hv:mA name=none) (h:Q (.ref f,[.ref x]) s) :
  wpAny (model prog w) A (getMethod (.ref x) name pl) Q E s:=by
 obtain⟨od,J,hl⟩:=I.look
 exact PySem.W.method_fn X J (plainGet_of hg).1 (plainGet_of hg).2 hf (beq_iff_eq.mp ht) (by show (PySem.W.lookIn name od).map (·.isSome)=some false; rw[hl,hv]; rfl) h
def Hu (X:K.In s.heap) (I:ObjM s.heap x dx C mA)
  (hs:findIn K (.ref C) "__setattr__" = some (some (.builtin "object.__setattr__"))) (hp:PySem.W.plainOver K C=true) (ht:PySem.W.takerIn K C name=some none) (hh:hasDictIn K C=true)
  (hw:PySem.Within mA ns) (hsz:ns.length<=sizeLine)
  (h:∀ h',ObjM h' x dx C (fun y=>if y=name then some v else mA y)->Heap.SameBut dx s.heap h'->Q () { s with heap:=h',toks:=s.toks+2 }) :
  wpAny (model prog w) A (setAttr (.ref x) name v) Q E s:=by
 obtain⟨od,J,hl⟩:=I.look
 refine PySem.W.set_plain X J hs (PySem.W.osa_open (s:={ s with toks:=s.toks+1 }) (r:=none) X J hp ht fun b=>?_)
 obtain⟨cd,hc,hd'⟩:=PySem.W.any_some hh
 have hx:s.heap.get? x=some ⟨.ref C,some dx,.plain,#[]⟩:=I.obj
 refine wpAny_bind (wpAny_pure (wpAny_bind (wpAny_bind (wpAny_loadPart hx (wpAny_bind (PySem.W.Looks.here (s:={ s with toks:=s.toks+1 }) (PySem.W.looks_clsIn X hc) ?_))))))
 rw[hd']
 refine wpAny_pure (a:=some dx) (wpAny_bind (wpAny_pure (wpAny_bind ?_)))
 refine wpAny_nsSet1 (s:={ s with toks:=s.toks+1 }) I.ns fun h' hn2 hs2=>?_
 obtain⟨oD,esD,epD,hoD,hdD,hcD⟩:=hn2.count (PySem.Within.cons name v hw)
 refine wpAny_bind (wpAny_lookBehind hoD (by rw[hdD]; exact pastItsLine_dict (le_trans hcD (by rw[length_cons]; omega))) ?_)
 exact wpAny_pure (h _ ⟨(hs2.2 _ (Ne.symm I.ne)).trans I.obj,hn2,I.ne⟩ hs2)
def Gr (X:K.In s.heap) (hm:PySem.W.makesIn K C=true)
  (hi:findIn K (.ref C) "__init__" = some (some (.ref f))) (hf:PySem.W.typeIn K (.ref f)=some (.type "function"))
  (h:codeAny (model prog w) (A.under (.builtin "type.__call__" ⟨.ref C::vs,kw⟩)) (.call (.ref f) ⟨.ref (s.heap.objs.size+1)::vs,kw⟩) (PySem.W.InitBack (s.heap.objs.size+1) R)
   { s with heap:=(s.heap.push emptyDict).push (instObj C s.heap.objs.size) }) :
  codeAny (model prog w) A (.call (.ref C) ⟨vs,kw⟩) R s:=by
 obtain⟨hh,g,d,t,os⟩:=s
 exact PySem.W.make_core (PySem.W.makes_of X hm) (PySem.W.looks_findIn X hi) (fun self=>PySem.W.bind_fn X self hf) (.inl rfl) h
end
def gY (f:Str) (v:V):Lm->Lm
 | []=>[(f,v)]
 | (g,x)::r=>if g=f then (g,v)::r else (g,x)::gY f v r
def rO (f g:Str) (v:V):∀ fs:Lm,(gY f v fs).lookup g=if g=f then some v else fs.lookup g
 | []=>by
  show List.lookup g [(f,v)]=_
  by_cases h:g=f
  ·have hb:(g == f)=true:=beq_iff_eq.mpr h
   simp only[List.lookup,hb,if_pos h]
  ·have hb:(g == f)=false:=beq_eq_false_iff_ne.mpr h
   simp only[List.lookup,hb,if_neg h]
 | (k,x)::r=>by
  have ih:=rO f g v r
  rw[show gY f v ((k,x)::r)=(if k=f then (k,v)::r else (k,x)::gY f v r) from rfl]
  by_cases hk:k=f
  ·rw[if_pos hk]
   by_cases h:g=k
   ·have hb:(g == k)=true:=beq_iff_eq.mpr h
    simp only[List.lookup,hb,if_pos (h.trans hk)]
   ·have hb:(g == k)=false:=beq_eq_false_iff_ne.mpr h
    simp only[List.lookup,hb,if_neg (fun e:g=f=>h (e.trans hk.symm))]
  ·rw[if_neg hk]
   by_cases h:g=k
   ·have hb:(g == k)=true:=beq_iff_eq.mpr h
    simp only[List.lookup,hb,if_neg (fun e:g=f=>hk (h.symm.trans e))]
   ·have hb:(g == k)=false:=beq_eq_false_iff_ne.mpr h
    simp only[List.lookup,hb]
    exact ih
def qQ (f:Str) (v:V):∀ fs:Lm,f∈(gY f v fs).map (·.1)/\∀ g,g∈fs.map (·.1)->g∈(gY f v fs).map (·.1)
 | []=>⟨by simp [gY],fun g h=>by simp at h⟩
 | (k,x)::r=>by
  obtain⟨i1,i2⟩:=qQ f v r
  rw[show gY f v ((k,x)::r)=(if k=f then (k,v)::r else (k,x)::gY f v r) from rfl]
  by_cases hk:k=f
  ·rw[if_pos hk]
   subst hk
   exact⟨by simp,fun g h=>by simpa using h⟩
  ·rw[if_neg hk]
   refine⟨?_,fun g h=>?_⟩
   ·rw[map_cons]
    exact mem_cons_of_mem _ i1
   ·rw[map_cons]at h ⊢
    rcases mem_cons.mp h with e | e
    ·exact mem_cons.mpr (.inl e)
    ·exact mem_cons_of_mem _ (i2 g e)
def rP (f:Str) (v:V):∀ fs:Lm,(gY f v fs).length<=fs.length+1
 | []=>by simp [gY]
 | (k,x)::r=>by
  have ih:=rP f v r
  rw[show gY f v ((k,x)::r)=(if k=f then (k,v)::r else (k,x)::gY f v r) from rfl]
  by_cases hk:k=f
  ·rw[if_pos hk,length_cons,length_cons]; omega
  ·rw[if_neg hk,length_cons,length_cons]; omega
def kK.some_of (r:kK (some v) o):∃ u,o=some u/\bX v u:=by
 cases o with
 | none=>exact(show False from r).elim
 | some u=>exact⟨u,rfl,r⟩
def kK.none_of (r:kK none o):o=none:=by
 cases o with
 | none=>rfl
 | some u=>exact(show False from r).elim
def E9 (r:bX v u):PySem.W.handedIn u=true:=by
 cases v with
 | non=>cases (show u=Value.none from r); rfl
 | bl b=>cases (show u=Value.bool b from r); rfl
 | int i=>obtain⟨t,e⟩:=(show ∃ t,u=Value.int i t from r); cases e; rfl
 | str x=>obtain⟨t,e⟩:=(show ∃ t,u=Value.str x t from r); cases e; rfl
 | byt b=>obtain⟨t,e⟩:=(show ∃ t,u=Value.bytes b t from r); cases e; rfl
 | flt b=>obtain⟨t,e⟩:=(show ∃ t,u=Value.float b t from r); cases e; rfl
 | ref a=>cases (show u=Value.ref a from r); rfl
 | ty n=>cases (show u=Value.type n from r); rfl
section
variable {P:Program} {w:World} {H H':Hp} {h h':Heap} {a C dx:Addr} {fs fs':Lm}
def sL (hok:HOk P w H h) (e:H a=some (.ins C dx fs)):∃ mA,ObjM h a dx C mA/\(∀ f,kK (fs.lookup f) (mA f))/\PySem.Within mA (fs.map (·.1))/\fs.length<=1000/\H dx=some (.own a):=by
 obtain⟨d,z,ne,ob,mA,n,r,q⟩:=(show d8 P w H h a (.ins C dx fs) from hok a _ e)
 exact⟨mA,⟨ob,n,ne⟩,r,q,z,d⟩
end
structure Cls (K:K6) (C:Addr):Prop where
 pg:plainGet K C Str.empty=true
 hd:hasDictIn K C=true
 po:PySem.W.plainOver K C=true
 sa:findIn K (.ref C) "__setattr__" = some (some (.builtin "object.__setattr__"))
def Cls.get {K:K6} {C:Addr} (c:Cls K C) (f:Str):plainGet K C f=true:=c.pg
def dH (K:K6) (C:Addr) (f:Str):Prop:=findIn K (.ref C) f=some none
def dH.taker {K:K6} {C:Addr} {f:Str} (n:dH K C f):PySem.W.takerIn K C f=some none:=by
 unfold PySem.W.takerIn
 rw[show findIn K (.ref C) f=some none from n]
 rfl
structure Meth (K:K6) (C:Addr) (m:Str) (f:Addr):Prop where
 at_:findIn K (.ref C) m=some (some (.ref f))
 fn:PySem.W.isFn K (.ref f)=true
 kp:keepIn K (.ref f)=true
section
variable {X:Cx} {pins:K7} {σ : St} {H:Hp} {s:Shared} {a C dx:Addr} {fs:Lm} {f:Str} {v:V} {A:Around} {E:Lk}
def u5 (I:Inv X pins σ H s) (e:H a=some (.ins C dx fs)) (c:Cls X.K C) (n:dH X.K C f) (l:fs.lookup f=some v)
  (h:∀ u s',Inv X pins σ H s'->bX v u->Q u s'):wpAny (model X.prog X.w) A (getAttr (.ref a) f b) Q E s:=by
 obtain⟨mA,O,r,_,_,_⟩:=sL I.hok e
 obtain⟨u,hu,ru⟩:=kK.some_of (v:=v) (o:=mA f) (by rw[<- l]; exact r f)
 exact Ip I.kIn O (c.get f) c.hd n hu (E9 ru) (h u _ (I.tok _) ru)
def uZ (I:Inv X pins σ H s) (e:H a=some (.ins C dx fs)) (c:Cls X.K C) (k:Meth X.K C m g) (l:fs.lookup m=none)
  (h:Q (.ref g,[.ref a]) s):wpAny (model X.prog X.w) A (getMethod (.ref a) m pl) Q E s:=by
 obtain⟨mA,O,r,_,_,_⟩:=sL I.hok e
 have hn:mA m=none:=kK.none_of (by rw[<- l]; exact r m)
 exact HC I.kIn O (c.get m) k.at_ k.fn hn h
def tQ (I:Inv X pins σ H s) (e:H a=some (.ins C dx fs)) (c:Cls X.K C) (n:dH X.K C f) (hl:fs.length<1000) (ry:bX y u)
  (h:∀ s',Inv X pins σ (upd H a (.ins C dx (gY f y fs))) s'->Q () s'):wpAny (model X.prog X.w) A (setAttr (.ref a) f u) Q E s:=by
 obtain⟨mA,O,r,wi,_,ho⟩:=sL I.hok e
 have hz:(fs.map (·.1)).length<=sizeLine:=by rw[length_map,sizeLine_eq]; omega
 refine Hu I.kIn O c.sa c.po n.taker c.hd wi hz fun h' O' sb=>h _ ?_
 have hd:∃ o,h'.get? dx=some o:=let ⟨o,_,_,e',_⟩:=O'.ns; ⟨o,e'⟩
 refine I.write (x:=a) (e:=dx) (by rw[e]; exact True.intro) (.inr ho) (fun b q hb z=>(sb.2 b hb).trans z) hd ?_
 refine⟨by rw[aF O.ne]; exact ho,?_,O.ne,O'.obj,_,O'.ns,fun g=>?_,fun g hg=>?_⟩
 ·have:=rP f y fs; omega
 ·show kK ((gY f y fs).lookup g) (if g=f then some u else mA g)
  rw[rO]
  by_cases q:g=f
  ·rw[if_pos q,if_pos q]; exact ry
  ·rw[if_neg q,if_neg q]; exact r g
 ·by_cases q:g=f
  ·rw[q]; exact(qQ f y fs).1
  ·refine(qQ f y fs).2 g (wi g fun z=>hg ?_)
   show (if g=f then some u else mA g)=none
   rw[if_neg q]; exact z
def Inv.made (I:Inv X pins σ H s):Inv X pins σ (upd (upd H s.heap.objs.size (.own (s.heap.objs.size+1))) (s.heap.objs.size+1) (.ins C s.heap.objs.size []))
  { s with heap:=(s.heap.push emptyDict).push (instObj C s.heap.objs.size) }:=by
 have e1:(s.heap.push emptyDict).get? s.heap.objs.size=some emptyDict:=get?_push_size s.heap rfl
 have e2:((s.heap.push emptyDict).push (instObj C s.heap.objs.size)).get? (s.heap.objs.size+1)=some (instObj C s.heap.objs.size):=by
  have:=get?_push_size (s.heap.push emptyDict) (o:=instObj C s.heap.objs.size) rfl
  rwa [size_push]at this
 have e3:(s.heap.push emptyDict).Ns s.heap.objs.size (fun _=>none):=⟨emptyDict,#[],_,e1,rfl,(fun e he=>absurd he (by simp)),fun _=>rfl⟩
 have I1:=I.laid (a:=s.heap.objs.size) (o:=.own (s.heap.objs.size+1)) (h':=s.heap.push emptyDict) (t':=s.toks) (fun b u q=>get?_push_of_some _ q) (le_refl _) ⟨_,e1⟩
 refine I1.laid (a:=s.heap.objs.size+1) (o:=.ins C s.heap.objs.size []) (t':=s.toks) (fun b u q=>get?_push_of_some _ q) (Nat.le_of_eq (size_push _ _)) ?_
 have ne:s.heap.objs.size≠s.heap.objs.size+1:=ne_of_lt (lt_succ_self _)
 refine⟨by rw[aF ne,aB],zero_le _,ne,e2,fun _=>none,(Heap.Ns1.of_empty e3).at fun o q=>get?_push_of_some _ q,fun _=>True.intro,fun y hy=>absurd rfl hy⟩
def JB (hb:attributeBase e f env (eval e env)=eval e env)
  (h:wpAny (model prog w) A (eval e env) (fun o s₁=>wpAny (model prog w) A (getAttr o f true) Q E s₁) E s):wpAny (model prog w) A (eval (.Attribute e f pos) env) Q E s:=
 Attribute_any_ h (by rw[arm_eval_Attribute,hb])
end
inductive JH (K:K6) (f:Str) (Q:VK) (x:V) (H1:Hp):Prop
 | mk:∀ a C dx fs v,x = .ref a->H1 a=some (.ins C dx fs)->Cls K C->dH K C f->fs.lookup f=some v->Q v H1->JH K f Q x H1
def tFld (K:K6) (ta:TE) (f:Str):TE:=fun σ H Q=>ta σ H (JH K f Q)
inductive F8 (K:K6) (f:Str) (D:Ends) (σ : St) (y:V) (x:V) (H2:Hp):Prop
 | mk:∀ a C dx fs,x = .ref a->H2 a=some (.ins C dx fs)->Cls K C->dH K C f->fs.length<1000->D.nx σ (upd H2 a (.ins C dx (gY f y fs)))->F8 K f D σ y x H2
abbrev J2 (K:K6) (ta:TE) (f:Str) (D:Ends) (σ : St):V->Hp->Prop:=fun y H1=>ta σ H1 (F8 K f D σ y)
def sFld (K:K6) (ta tv:TE) (f:Str):TS:=fun D σ H=>tv σ H (J2 K ta f D σ)
def JE (X:Cx) (op:Operator) (rd:V->V->Hp->VK->Prop):Prop:=
 ∀ pins s σ H (x y:V) (u v:Value) (Q:VK),Inv X pins σ H s->bX x u->bX y v->rd x y H Q->wpAny (model X.prog X.w) X.A (inplaceOp op u v) (EP X pins σ Q) X.xe s
inductive xF (f:Str) (D:Ends) (σ : St) (a:Addr) (C:Addr) (z:V) (H3:Hp):Prop
 | mk:∀ dx' fs',H3 a=some (.ins C dx' fs')->fs'.length<1000->D.nx σ (upd H3 a (.ins C dx' (gY f z fs')))->xF f D σ a C z H3
abbrev EK (rd:V->V->Hp->VK->Prop) (f:Str) (D:Ends) (σ : St) (a:Addr) (C:Addr) (v:V):V->Hp->Prop:=fun y H2=>rd v y H2 (xF f D σ a C)
inductive Aj (K:K6) (tv:TE) (rd:V->V->Hp->VK->Prop) (f:Str) (D:Ends) (σ : St) (x:V) (H1:Hp):Prop
 | mk:∀ a C dx fs v,x = .ref a->H1 a=some (.ins C dx fs)->Cls K C->dH K C f->fs.lookup f=some v->tv σ H1 (EK rd f D σ a C v)->Aj K tv rd f D σ x H1
def Hv (K:K6) (ta tv:TE) (rd:V->V->Hp->VK->Prop) (f:Str):TS:=fun D σ H=>ta σ H (Aj K tv rd f D σ)
section
variable {X:Cx} {o e value:Expr} {f:Str} {pos pos' tpos:Pos} {ta tv:TE}
def nU (he:PE X e ta) (hb:attributeBase e f X.env (eval e X.env)=eval e X.env):PE X (.Attribute e f pos) (tFld X.K ta f):=by
 intro pins s σ H Q I h
 refine JB hb (thn (he pins s σ H _ I h) fun u s1 zQq=>?_)
 obtain⟨x,H1,I1,rx,a,C,dx,fs,v,ex,ea,c,n,l,q⟩:=zQq
 subst ex
 obtain rfl:u=Value.ref a:=rx
 exact u5 I1 ea c n l fun u' s2 I2 ru=>⟨v,H1,I2,ru,q⟩
def dS (ha:PE X o ta) (hv:PE X value tv) (hs:swapsWith value (some (.Attribute o f pos')) pos.line X.env=pure false):PS X (.Assign [.Attribute o f pos'] value pos) (sFld X.K ta tv f):=by
 intro pins s σ H D I h
 refine plainObj_wpAny_Assign_Attribute (thn (hv pins s σ H _ I h) fun u s1 ⟨y,H1,I1,ry,q⟩=>thn (ha pins s1 σ H1 _ I1 q) fun ov s2 zQq=>?_) hs
 obtain⟨x,H2,I2,rx,a,C,dx,fs,ex,ea,c,n,l,q2⟩:=zQq
 subst ex
 obtain rfl:ov=Value.ref a:=rx
 exact tQ I2 ea c n l ry fun s3 I3=>⟨σ,_,I3,q2⟩
def qI (ha:PE X o ta) (hv:PE X value tv) (hop:JE X op rd):PS X (.AugAssign (.Attribute o f tpos) op value pos) (Hv X.K ta tv rd f):=by
 intro pins s σ H D I h
 refine wpAny_AugAssign_AttributeAny (thn (ha pins s σ H _ I h) fun ov s1 zQq=>?_)
 obtain⟨x,H1,I1,rx,a,C,dx,fs,v,ex,ea,c,n,l,q⟩:=zQq
 subst ex
 obtain rfl:ov=Value.ref a:=rx
 refine u5 I1 ea c n l fun u s2 I2 ru=>thn (hv pins s2 σ H1 _ I2 q) fun w3 s3 ⟨y,H2,I3,ry,q3⟩=>thn (hop pins s3 σ H2 v y u w3 _ I3 ru ry q3) fun w4 s4 zQq=>?_
 obtain⟨z,H3,I4,rz,dx',fs',ea',l',q4⟩:=zQq
 exact tQ I4 ea' c n l' rz fun s5 I5=>⟨σ,_,I5,q4⟩
inductive KB (x:V) (y:V) (H:Hp) (Q:VK):Prop
 | mk:∀ i j,x = .int i->y = .int j->Q (.int (i+j)) H->KB x y H Q
inductive rSub (x:V) (y:V) (H:Hp) (Q:VK):Prop
 | mk:∀ i j,x = .int i->y = .int j->Q (.int (i - j)) H->rSub x y H Q
def uY:JE X .Add KB:=by
 rintro pins s σ H x y u v Q I rx ry ⟨i,j,rfl,rfl,q⟩
 obtain⟨t,rfl⟩:=(show ∃ t,u=Value.int i t from rx)
 obtain⟨t',rfl⟩:=(show ∃ t',v=Value.int j t' from ry)
 exact PyProof.Rows.iadd_int ⟨.int (i+j),H,I.tok _,⟨_,rfl⟩,q⟩
def Kj:JE X .Sub rSub:=by
 rintro pins s σ H x y u v Q I rx ry ⟨i,j,rfl,rfl,q⟩
 obtain⟨t,rfl⟩:=(show ∃ t,u=Value.int i t from rx)
 obtain⟨t',rfl⟩:=(show ∃ t',v=Value.int j t' from ry)
 exact PyProof.Rows.isub_int ⟨.int (i - j),H,I.tok _,⟨_,rfl⟩,q⟩
end
section
variable {X:Cx} {pins:K7} {σ : St} {H:Hp} {s:Shared} {A:Around} {E:Lk} {Q:Lk} {c:Value} {b:Bool}
inductive pW (K:K6) (H:Hp):V->Value->Prop where
 | non:pW K H .non (.type "NoneType")
 | bl (x:Bool):pW K H (.bl x) (.type "bool")
 | int (i:Int):pW K H (.int i) (.type "int")
 | str (x:Str):pW K H (.str x) (.type "str")
 | flt (x:UInt64):pW K H (.flt x) (.type "float")
 | lst {a:Addr} {xs:Ln} (e:H a=some (.lst xs)):pW K H (.ref a) (.type "list")
 | frz {a:Addr} {o:Obj} {xs:Ln} (e:H a=some (.frz o (.lst xs))):pW K H (.ref a) (.type "list")
 | tup {a:Addr} {xs:Ln} (e:H a=some (.tup xs)):pW K H (.ref a) (.type "tuple")
 | dK {a:Addr} {kvs:Ll} (e:H a=some (.dK kvs)):pW K H (.ref a) (.type "dict")
 | dT {a:Addr} {kvs:List (List Key × V)} (e:H a=some (.dT kvs)):pW K H (.ref a) (.type "dict")
 | ins {a C dx:Addr} {fs:Lm} (e:H a=some (.ins C dx fs)) (cl:Cls K C) (ha:findIn K (.ref C) "__class__" = some (some (.builtin "object.__class__")))
   (hn:PySem.W.specialIn K (.builtin "object.__class__") "__get__" = some (some (.builtin "getset_descriptor.__get__"))) (htk:PySem.W.takesIn K (.builtin "object.__class__")=some true)
   (hm:PySem.W.mroIn K C (.type "object")=some true):pW K H (.ref a) (.ref C)
def E4 (I:Inv X pins σ H s) (rx:bX x u) (ty:pW X.K H x t) (e:PySem.W.kitOne X.K t c=some b) (h:∀ tk,Q (.bool b) { s with toks:=tk }) :
  wpAny (model X.prog X.w) A (call (.builtin "isinstance") [u,c]) Q E s:=by
 cases ty with
 | non=>cases (show u=Value.none from rx); exact kia_one PySem.W.kitx_none I.kIn True.intro e (fun z=>nomatch z) h
 | bl y=>cases (show u=Value.bool y from rx); exact kia_one PySem.W.kitx_bool I.kIn True.intro e (fun z=>nomatch z) h
 | int i=>obtain⟨t,q⟩:=(show ∃ t,u=Value.int i t from rx); cases q; exact kia_one PySem.W.kitx_int I.kIn True.intro e (fun z=>nomatch z) h
 | str y=>obtain⟨t,q⟩:=(show ∃ t,u=Value.str y t from rx); cases q; exact kia_one PySem.W.kitx_str I.kIn True.intro e (fun z=>nomatch z) h
 | flt y=>obtain⟨t,q⟩:=(show ∃ t,u=Value.float y t from rx); cases q; exact kia_one PySem.W.kitx_float I.kIn True.intro e (fun z=>nomatch z) h
 | @lst a xs ea=>
  cases (show u=Value.ref a from rx)
  obtain⟨_,_,n,_,h1⟩:=(show d8 X.prog X.w H s.heap a (.lst xs) from I.hok a _ ea)
  exact kia_one kitx_list I.kIn ⟨_,h1,rfl⟩ e (fun z=>nomatch z) h
 | @frz a ob xs ea=>
  cases (show u=Value.ref a from rx)
  obtain⟨_,_,_,n,_,h1⟩:=(show d8 X.prog X.w H s.heap a (.frz ob (.lst xs)) from I.hok a _ ea)
  exact kia_one kitx_list I.kIn ⟨_,h1,rfl⟩ e (fun z=>nomatch z) h
 | @tup a xs ea=>
  cases (show u=Value.ref a from rx)
  obtain⟨_,_,_,p⟩:=(show d8 X.prog X.w H s.heap a (.tup xs) from I.hok a _ ea)
  obtain⟨o,h1,h2,_⟩:=p
  exact kia_one PySem.W.kitx_tuple I.kIn ⟨o,h1,h2⟩ e (fun z=>nomatch z) h
 | @dK a kvs ea=>
  cases (show u=Value.ref a from rx)
  obtain⟨_,_,vs,_,p⟩:=(show d8 X.prog X.w H s.heap a (.dK kvs) from I.hok a _ ea)
  obtain⟨o,es,ep,h1,h2,_⟩:=p
  exact kia_one kitx_dict I.kIn ⟨o,h1,h2.1⟩ e (fun z=>nomatch z) h
 | @dT a kvs ea=>
  cases (show u=Value.ref a from rx)
  obtain⟨_,_,xs,_,o,es,ep,h1,h2,_⟩:=(show d8 X.prog X.w H s.heap a (.dT kvs) from I.hok a _ ea)
  exact kia_one kitx_dict I.kIn ⟨o,h1,h2.1⟩ e (fun z=>nomatch z) h
 | @ins a C dx fs ea cl ha hn htk hm=>
  cases (show u=Value.ref a from rx)
  obtain⟨mA,O,_⟩:=sL I.hok ea
  obtain⟨od,J,_⟩:=O.look
  exact kia_one (PySem.W.kitx_own (cl.get _) cl.hd ha hn htk hm) I.kIn J e (fun z=>nomatch z) h
end
structure Room (k:Nat) (A:Around):Prop where
 hd:A.handled=none
 dp:A.depth+3 * k+5<recursionLimit
 un:A.units+16 * k+200<cLine
def Room.mono (r:Room k A) (h:j<=k):Room j A:=⟨r.hd,by have:=r.dp; omega,by have:=r.un; omega⟩
def Room.deeper (r:Room (k+1) A) (env:Env):Room k (A.deeper env):=
 ⟨r.hd,by have:=r.dp; show A.depth+1+3 * k+5<_; omega,by have:=r.un; show A.units+3+16 * k+200<_; omega⟩
def Ch {A:Around} {C:Addr} {us:Lf} {kw:List (Str × Value)}:(A.under (.builtin "type.__call__" ⟨.ref C::us,kw⟩)).depth=A.depth+1:=by
 first | rfl | simp [Around.under,Code.weight,Code.isCreation,Code.isGuard,Code.isCaller,Code.frames,Code.isFrame,guardIds]
def Cg {A:Around} {C:Addr} {us:Lf} {kw:List (Str × Value)}:(A.under (.builtin "type.__call__" ⟨.ref C::us,kw⟩)).units=A.units+1:=by
 first | rfl | simp [Around.under,Code.cUnits,Code.frames,Code.isFrame]
def Room.make (r:Room (k+1) A) (C:Addr) (us:Lf) (kw:List (Str × Value)):Room k (A.under (.builtin "type.__call__" ⟨.ref C::us,kw⟩)):=
 ⟨r.hd,by have:=r.dp; rw[Ch]; omega,by have:=r.un; rw[Cg]; omega⟩
def Room.depth (r:Room k A):A.depth<recursionLimit:=by have:=r.dp; omega
def Room.units (r:Room k A):A.units+64<cLine:=by have:=r.un; omega
def lR:TA:=fun _ H Q=>Q [] H
abbrev Hm (Q:(Ln->Hp->Prop)) (x:V):Ln->Hp->Prop:=fun xs H2=>Q (x::xs) H2
abbrev Ho (tr:TA) (σ : St) (Q:(Ln->Hp->Prop)):V->Hp->Prop:=fun x H1=>tr σ H1 (Hm Q x)
def fJ (ta:TE) (tr:TA):TA:=fun σ H Q=>ta σ H (Ho tr σ Q)
section
variable {X:Cx} {e:Expr} {es:List Expr} {te:TE} {t:TA} {pos:Pos}
def aH:PA X [] lR:=fun _ _ _ _ H Q I h=>Calls.spliced_nil ⟨[],H,I,.nil,h⟩
def eW (ha:PE X e te) (hr:PA X es t) (hs:starEach (e::es) X.env=(false,eval e X.env)::starEach es X.env:=by rfl):PA X (e::es) (fJ te t):=by
 intro pos pins s σ H Q I h
 rw[hs]
 show wpAny _ _ (spliced ((false,eval e X.env)::backTo pos (starEach es X.env))) _ _ s
 refine Calls.spliced_cons (thn (ha pins s σ H _ I h) fun u s1 zQq=>?_)
 obtain⟨x,H1,I1,r1,q1⟩:=zQq
 exact thn (hr pos pins s1 σ H1 _ I1 q1) fun us s2 ⟨xs,H2,I2,r2,q2⟩=>⟨x::xs,H2,I2,.cons r1 r2,q2⟩
abbrev Jg (Q:VK):Ln->Hp->Prop:=fun xs H1=>xs.length<=sizeLine/\∀ p,H1 p=none->Q (.ref p) (upd H1 p (.tup xs))
def Jh (t:TA):TE:=fun σ H Q=>t σ H (Jg Q)
abbrev Jl (Q:VK):Ln->Hp->Prop:=fun xs H1=>xs.length<=sizeLine/\∀ p,H1 p=none->Q (.ref p) (upd H1 p (.lst xs))
def tLst (t:TA):TE:=fun σ H Q=>t σ H (Jl Q)
def bE {x1} (h:PA X es t):PE X (.Tuple es x1 pos) (Jh t):=by
 intro pins s σ H Q I hq
 refine wpAny_Tuple_spliced (thn (h pos pins s σ H _ I hq) fun us s1 ⟨xs,H1,I1,r,z,q⟩=>⟨by rw[<- r.length]; exact z,?_⟩)
 have hf:H1 s1.heap.objs.size=none:=I1.hok.fresh (le_refl _)
 refine⟨.ref s1.heap.objs.size,upd H1 s1.heap.objs.size (.tup xs),I1.laid (t':=s1.toks) (fun b u e=>get?_push_of_some _ e) (le_refl _) ?_,rfl,q _ hf⟩
 exact⟨z,us,r,⟨_,get?_push_size _ rfl,rfl,_,rfl⟩⟩
def cB (h:PA X es t):PE X (.List es pos) (tLst t):=by
 intro pins s σ H Q I hq
 refine wpAny_List_spliced (thn (h pos pins s σ H _ I hq) fun us s1 ⟨xs,H1,I1,r,z,q⟩=>⟨by rw[<- r.length]; exact z,?_⟩)
 have hf:H1 s1.heap.objs.size=none:=I1.hok.fresh (le_refl _)
 refine⟨.ref s1.heap.objs.size,upd H1 s1.heap.objs.size (.lst xs),I1.laid (t':=s1.toks) (fun b u e=>get?_push_of_some _ e) (le_refl _) ?_,rfl,q _ hf⟩
 exact⟨z,us,0,r,get?_push_size _ rfl⟩
end
abbrev Sp:=Ln->Hp->VK->XK->Prop
abbrev CXT:=List Env->Hp->Shared->XK->Value->Shared->Prop
structure Env0 (P:Program) (w:World) (K:K6) (mg:K8) (base:Heap) (A:Around) (outer:List Env) (s:Shared) (H:Hp):Prop where
 frames:A.frames=some outer
 mod:Mod K mg base
 bs:∀ b o,base.get? b=some o->s.heap.get? b=some o/\H b=none
 bsz:base.objs.size<=s.heap.objs.size
 funs:s.heap.FunFrames base outer
 frf:∀ b∈frs outer,H b=none
 hok:HOk P w H s.heap
 bare:AllBare s.gens
inductive CE (outer:List Env) (P:Program) (w:World) (H:Hp) (s:Shared) (Q:VK) (u:Value) (s':Shared):Prop
 | mk:∀ v H',s'.os=s.os->AllBare s'.gens->Un (frs outer) [] H H' s.heap s'.heap->HOk P w H' s'.heap->bX v u->Q v H'->CE outer P w H s Q u s'
def CR (CX:CXT) (outer:List Env) (P:Program) (w:World) (H:Hp) (s:Shared) (Q:VK) (E:XK) (r:Result) (s':Shared):Prop:=
 match r with
 | .ok (.ret u)=>CE outer P w H s Q u s'
 | .ok _=>False
 | .error e=>CX outer H s E e s'
structure FnOk (P:Program) (w:World) (K:K6) (mg:K8) (base:Heap) (CX:CXT) (k:Nat) (f:Addr) (fd:Lh) (ps:Ld) (sp:Sp):Prop where
 len:∀ vs H Q E,sp vs H Q E->vs.length=ps.length
 run:∀ (A:Around) (outer:List Env) (s:Shared) (H:Hp) (args:Args) (us:Lf) (vs:Ln) (Q:VK) (E:XK),Room k A->Env0 P w K mg base A outer s H->BindsTo s fd args (ps.zip us)->bZ vs us->sp vs H Q E->
  codeAny (model P w) A (.call (.ref f) args) (CR CX outer P w H s Q E) s
def Env0.make {P:Program} {w:World} {K:K6} {mg:K8} {base:Heap} {A:Around} {outer:List Env} {s:Shared} {H:Hp} (e:Env0 P w K mg base A outer s H) (C:Addr) (us:Lf) (kw:List (Str × Value)) :
  Env0 P w K mg base (A.under (.builtin "type.__call__" ⟨.ref C::us,kw⟩)) outer s H:=⟨by first | exact e.frames | (simpa [Around.under,Code.envs,Code.isFrame,pushEnvs] using e.frames),e.mod,e.bs,e.bsz,e.funs,e.frf,e.hok,e.bare⟩
section
variable {X:Cx} {pins:K7} {σ : St} {H:Hp} {s s':Shared}
def Inv.env0 (I:Inv X pins σ H s):Env0 X.prog X.w X.K X.mg X.base X.A X.stack s H:=
 ⟨I.ok.frames,I.ok.mod,I.bs,le_trans I.ok.bsz I.sz,I.stack,I.stkFree,I.hok,I.bare⟩
def Inv.after (I:Inv X pins σ H s) (h:CE X.stack X.prog X.w H s Q u s'):EP X pins σ Q u s':=by
 obtain⟨v,H',os,bare,un,hok,r,q⟩:=h
 obtain⟨hh,g,d,t,os'⟩:=s'
 obtain rfl:os'=s.os:=os
 exact⟨v,H',I.call (h':=hh) (g':=g) (d':=d) (t':=t) (ch:=[]) un hok bare (fun b z=>absurd z (by simp)),r,q⟩
end
abbrev C7 (sp:Sp) (dvs:Ln) (E:XK) (Q:VK):Ln->Hp->Prop:=fun vs H1=>sp (vs++dvs) H1 Q E
def C8 (sp:Sp) (dvs:Ln) (E:XK) (t:TA):TE:=fun σ H Q=>t σ H (C7 sp dvs E Q)
abbrev yQ (sp:Sp) (dvs:Ln) (E:XK) (Q:VK) (x:V):Ln->Hp->Prop:=fun vs H2=>sp (x::(vs++dvs)) H2 Q E
inductive B3 (C:Addr) (m:Str) (sp:Sp) (dvs:Ln) (E:XK) (t:TA) (σ : St) (Q:VK) (x:V) (H1:Hp):Prop
 | mk:∀ a dx fs,x = .ref a->H1 a=some (.ins C dx fs)->fs.lookup m=none->t σ H1 (yQ sp dvs E Q x)->B3 C m sp dvs E t σ Q x H1
def C3 (C:Addr) (m:Str) (sp:Sp) (dvs:Ln) (E:XK) (ta:TE) (t:TA):TE:=fun σ H Q=>ta σ H (B3 C m sp dvs E t σ Q)
abbrev yR (C:Addr) (sp:Sp) (dvs:Ln) (E:XK) (Q:VK):Ln->Hp->Prop:=fun vs H1=>∀ x dx,H1 x=none->H1 dx=none->dx≠x->
 sp (.ref x::(vs++dvs)) (upd (upd H1 dx (.own x)) x (.ins C dx [])) (fun v H2=>v = .non/\Q (.ref x) H2) E
def C4 (C:Addr) (sp:Sp) (dvs:Ln) (E:XK) (t:TA):TE:=fun σ H Q=>t σ H (yR C sp dvs E Q)
def i3 (K:K6) (fd:Lh) (ps:Ld) (ds:Lf):Prop:=
 ∀ (s:Shared) (us:Lf),K.In s.heap->(us++ds).length=ps.length->BindsTo s fd ⟨us,[]⟩ (ps.zip (us++ds))
def i3.all {K:K6} {fd:Lh} {ps:Ld} (h:∀ us:Lf,us.length=ps.length->bindArgs fd ⟨us,[]⟩=pure (ps.zip us)):i3 K fd ps []:=fun s us _ hl=>by
 rw[append_nil]at hl ⊢
 exact .of_eq (h us hl)
def fF (CX:CXT) (X:Cx) (E:XK):Prop:=∀ (pins:K7) (σ : St) (H:Hp) (s:Shared) (e:Value) (s':Shared),Inv X pins σ H s->CX X.stack H s E e s'->X.xe e s'
section
variable {X:Cx} {CX:CXT} {k:Nat} {f C:Addr} {fd:Lh} {ps:Ld} {sp:Sp} {dvs:Ln} {ds:Lf} {E:XK} {x m:Str} {p pos apos:Pos} {e o:Expr} {es:List Expr} {ta:TE} {t:TA}
def y9 (F:FnOk X.prog X.w X.K X.mg X.base CX k f fd ps sp) (hr:Room k X.A) (hb:i3 X.K fd ps ds) (hd:bZ dvs ds) (hx:fF CX X E)
  (I:Inv X pins σ H s) (r:bZ vs us) (h:sp (vs++dvs) H Q E):wpAny (model X.prog X.w) X.A (call (.ref f) us) (EP X pins σ Q) X.xe s:=by
 have r2:bZ (vs++dvs) (us++ds):=r.append hd
 have hl:(us++ds).length=ps.length:=by rw[<- r2.length]; exact F.len _ _ _ _ h
 refine wpAny_call (codeAny_mono (F.run X.A X.stack s H ⟨us,[]⟩ (us++ds) (vs++dvs) Q E hr I.env0 (hb s us I.kIn hl) r2 h) fun r s' hq=>?_)
 cases r with
 | error e=>exact hx pins σ H s e s' I hq
 | ok fl=>
  cases fl with
  | ret u=>exact I.after hq
  | next=>exact False.elim hq
  | brk=>exact False.elim hq
  | cont=>exact False.elim hq
def IO (F:FnOk X.prog X.w X.K X.mg X.base CX k f fd ps sp) (hr:Room k X.A) (hg:Gl X x) (hm:X.mg x=some (.ref f)) (hk:keepIn X.K (.ref f)=true) (hb:i3 X.K fd ps ds) (hd:bZ dvs ds) (hx:fF CX X E)
  (ha:PA X (e::es) t) (hdb:(x == ("__debug__" : Str))=false:=by decide) (he:starEach (e::es) X.env=(false,eval e X.env)::starEach es X.env:=by rfl) (hpl:(backTo pos (starEach es X.env)).any (·.1)=false:=by rfl) :
  PE X (.Call (.Name x p) (e::es) [] pos) (C8 sp dvs E t):=by
 intro pins s σ H Q I h
 refine wpAny_Call_Name_kw (iD I hg hm ?_ hdb)
 refine callWith_K (h₀:=X.base) I.ok.mod.kin hk (thn (ha pos pins s σ H _ I h) fun us s1 ⟨vs,H1,I1,r,q⟩=>⟨I1.kIn,?_⟩) he hpl
 exact y9 F hr hb hd hx I1 r q
def GT (F:FnOk X.prog X.w X.K X.mg X.base CX k f fd ps sp) (hr:Room k X.A) (hg:Gl X x) (hm:X.mg x=some (.ref f)) (hk:keepIn X.K (.ref f)=true) (hb:i3 X.K fd ps ds) (hd:bZ dvs ds) (hx:fF CX X E)
  (hdb:(x == ("__debug__" : Str))=false:=by decide):PE X (.Call (.Name x p) [] [] pos) (C8 sp dvs E lR):=by
 intro pins s σ H Q I h
 refine wpAny_Call_Name_kw (iD I hg hm ?_ hdb)
 exact callWith_K0 I.kIn hk (y9 (us:=[]) F hr hb hd hx I .nil h)
def IK (he:PE X o ta) (c:Cls X.K C) (hm:Meth X.K C m f) (F:FnOk X.prog X.w X.K X.mg X.base CX k f fd ps sp) (hr:Room k X.A) (hb:i3 X.K fd ps ds) (hd:bZ dvs ds) (hx:fF CX X E) (ha:PA X (e::es) t)
  (hst:starEach (e::es) X.env=(false,eval e X.env)::starEach es X.env:=by rfl) (hpl:(backTo pos (starEach es X.env)).any (·.1)=false:=by rfl)
  (ht:eval (.Call (.Attribute o m apos) (e::es) [] pos) X.env=(do
   let ov <- eval o X.env
   standAt apos.atName
   let (f,first) <- holding [ov] (getMethod ov m pl)
   callWith pos f first (backTo pos (starEach (e::es) X.env)) (backToKw pos (keywordEach [] X.env))):=by rfl) :
  PE X (.Call (.Attribute o m apos) (e::es) [] pos) (C3 C m sp dvs E ta t):=by
 intro pins s σ H Q I h
 refine methodCall_KW (pl:=pl) (thn (he pins s σ H _ I h) fun u s1 zQq=>?_) ht
 obtain⟨x,H1,I1,rx,a,dx,fs,ex,ea,l,q⟩:=zQq
 subst ex
 obtain rfl:u=Value.ref a:=rx
 refine uZ I1 ea c hm l ?_
 refine callWith_K (first:=[.ref a]) (h₀:=X.base) I.ok.mod.kin hm.kp (thn (ha pos pins s1 σ H1 _ I1 q) fun us s2 ⟨vs,H2,I2,r,q2⟩=>⟨I2.kIn,?_⟩) hst hpl
 exact y9 (us:=.ref a::us) (vs:=.ref a::vs) F hr hb hd hx I2 (.cons rfl r) q2
def GR (he:PE X o ta) (c:Cls X.K C) (hm:Meth X.K C m f) (F:FnOk X.prog X.w X.K X.mg X.base CX k f fd ps sp) (hr:Room k X.A) (hb:i3 X.K fd ps ds) (hd:bZ dvs ds) (hx:fF CX X E)
  (ht:eval (.Call (.Attribute o m apos) [] [] pos) X.env=(do
   let ov <- eval o X.env
   standAt apos.atName
   let (f,first) <- holding [ov] (getMethod ov m pl)
   callWith pos f first (backTo pos (starEach [] X.env)) (backToKw pos (keywordEach [] X.env))):=by rfl) :
  PE X (.Call (.Attribute o m apos) [] [] pos) (C3 C m sp dvs E ta lR):=by
 intro pins s σ H Q I h
 refine methodCall_KW (pl:=pl) (thn (he pins s σ H _ I h) fun u s1 zQq=>?_) ht
 obtain⟨x,H1,I1,rx,a,dx,fs,ex,ea,l,q⟩:=zQq
 subst ex
 obtain rfl:u=Value.ref a:=rx
 refine uZ I1 ea c hm l ?_
 exact callWith_K0 (first:=[.ref a]) I1.kIn hm.kp (y9 (us:=[.ref a]) (vs:=[.ref a]) F hr hb hd hx I1 (.cons rfl .nil) q)
structure Mk (K:K6) (C f:Addr):Prop where
 makes:PySem.W.makesIn K C=true
 init:findIn K (.ref C) "__init__" = some (some (.ref f))
 fn:PySem.W.isFn K (.ref f)=true
 kp:keepIn K (.ref C)=true
def Ak (M:Mk X.K C f) (F:FnOk X.prog X.w X.K X.mg X.base CX k f fd ps sp) (hr:Room (k+1) X.A) (hb:i3 X.K fd ps ds) (hd:bZ dvs ds)
  (hx:fF CX X E) (I:Inv X pins σ H s) (r:bZ vs us)
  (h:∀ x dx,H x=none->H dx=none->dx≠x->sp (.ref x::(vs++dvs)) (upd (upd H dx (.own x)) x (.ins C dx [])) (fun v H2=>v = .non/\Q (.ref x) H2) E) :
  wpAny (model X.prog X.w) X.A (call (.ref C) us) (EP X pins σ Q) X.xe s:=by
 have hq:=h (s.heap.objs.size+1) s.heap.objs.size (I.hok.fresh (le_succ _)) (I.hok.fresh (le_refl _)) (ne_of_lt (lt_succ_self _))
 have I2:=Inv.made (C:=C) I
 have r2:bZ (V.ref (s.heap.objs.size+1)::(vs++dvs)) (Value.ref (s.heap.objs.size+1)::(us++ds)):=.cons rfl (r.append hd)
 have hl:(Value.ref (s.heap.objs.size+1)::us++ds).length=ps.length:=by
  have e:=r2.length
  rw[F.len _ _ _ _ hq]at e
  exact e.symm
 refine wpAny_call (Gr (f:=f) I.kIn M.makes M.init (beq_iff_eq.mp M.fn) (codeAny_mono (F.run _ X.stack _ _ ⟨Value.ref (s.heap.objs.size+1)::us,[]⟩ (Value.ref (s.heap.objs.size+1)::(us++ds)) _ _ E (hr.make C us [])
  (I2.env0.make C us []) (hb _ (Value.ref (s.heap.objs.size+1)::us) I2.kIn hl) r2 hq) fun r s' hq'=>?_))
 cases r with
 | error e=>exact hx pins σ _ _ e s' I2 hq'
 | ok fl=>
  cases fl with
  | ret u=>
   obtain⟨v,H',I3,rv,ev,q3⟩:=I2.after hq'
   subst ev
   exact⟨rv,⟨V.ref (s.heap.objs.size+1),H',I3,rfl,q3⟩⟩
  | next=>exact False.elim hq'
  | brk=>exact False.elim hq'
  | cont=>exact False.elim hq'
def IL (M:Mk X.K C f) (F:FnOk X.prog X.w X.K X.mg X.base CX k f fd ps sp) (hr:Room (k+1) X.A) (hg:Gl X x) (hm:X.mg x=some (.ref C)) (hb:i3 X.K fd ps ds) (hd:bZ dvs ds) (hx:fF CX X E)
  (ha:PA X (e::es) t) (hdb:(x == ("__debug__" : Str))=false:=by decide) (he:starEach (e::es) X.env=(false,eval e X.env)::starEach es X.env:=by rfl) (hpl:(backTo pos (starEach es X.env)).any (·.1)=false:=by rfl) :
  PE X (.Call (.Name x p) (e::es) [] pos) (C4 C sp dvs E t):=by
 intro pins s σ H Q I h
 refine wpAny_Call_Name_kw (iD I hg hm ?_ hdb)
 refine callWith_K (h₀:=X.base) I.ok.mod.kin M.kp (thn (ha pos pins s σ H _ I h) fun us s1 ⟨vs,H1,I1,r,q⟩=>⟨I1.kIn,?_⟩) he hpl
 exact Ak M F hr hb hd hx I1 r q
def GS (M:Mk X.K C f) (F:FnOk X.prog X.w X.K X.mg X.base CX k f fd ps sp) (hr:Room (k+1) X.A) (hg:Gl X x) (hm:X.mg x=some (.ref C)) (hb:i3 X.K fd ps ds) (hd:bZ dvs ds) (hx:fF CX X E)
  (hdb:(x == ("__debug__" : Str))=false:=by decide):PE X (.Call (.Name x p) [] [] pos) (C4 C sp dvs E lR):=by
 intro pins s σ H Q I h
 refine wpAny_Call_Name_kw (iD I hg hm ?_ hdb)
 exact callWith_K0 I.kIn M.kp (Ak (us:=[]) M F hr hb hd hx I .nil h)
end
section
variable {X:Cx} {CX:CXT} {k:Nat} {f C:Addr} {fd:Lh} {ps ks:Ld} {sp:Sp} {E:XK} {x m:Str} {p pos apos kpos:Pos} {e o:Expr} {es:List Expr} {kws:List Keyword} {te ta:TE} {t tk:TA} {nm:Option Str}
variable {g:Lf->Lf->Lf} {gV:Ln->Ln->Ln}
end
structure FnScope (N P:Ld) (sc:Scope):Prop where
 kind:sc.kind = .function
 co:sc.isCoroutine=false
 gen:sc.isGenerator=false
 nd:N.Nodup
 pre:N.take P.length=P
 par:∀ x∈P,sc.names.lookup x=some .local\/sc.names.lookup x=some .cell
 nofree:∀ y∈sc.names,y.2 ≠ .free
def yJ {kindOf:Str->Option NameKind} {x:Str}:∀ {binds:List (Str × Value)} {m:K8},(∀ v,(x,v) ∉ binds)->bindL kindOf binds m x=m x
 | [],_,_=>rfl
 | (n,v)::r,m,h=>by
  unfold bindL
  rw[yJ fun w hw=>h w (mem_cons_of_mem _ hw)]
  split
  ·have:x≠n:=by rintro rfl; exact h v mem_cons_self
   simp [this]
  ·rfl
def yL {kindOf:Str->Option NameKind} {x:Str}:∀ {binds:List (Str × Value)} {m:K8},(∀ v,(x,v) ∉ binds)->bindC kindOf binds m x=m x
 | [],_,_=>rfl
 | (n,v)::r,m,h=>by
  unfold bindC
  rw[yL fun w hw=>h w (mem_cons_of_mem _ hw)]
  split
  ·rfl
  ·have:x≠n:=by rintro rfl; exact h v mem_cons_self
   simp [this]
def yK {kindOf:Str->Option NameKind} {x:Str} {v:Value}:∀ {P:Ld} {vs:Lf} {i:Nat} {m:K8},P.Nodup->P[i]? = some x->vs[i]? = some v->kindOf x=some .local->
  bindL kindOf (P.zip vs) m x=some v
 | [],_,_,_,_,h,_,_=>by simp at h
 | _::_,[],_,_,_,_,h,_=>by simp at h
 | p::P,w::vs,0,m,nd,h1,h2,hk=>by
  simp at h1 h2; subst h1; subst h2
  show bindL kindOf ((p,w)::P.zip vs) m p=_
  unfold bindL
  rw[yJ fun v hv=>(nodup_cons.mp nd).1 (List.of_mem_zip hv).1,if_pos hk]
  simp
 | p::P,w::vs,i+1,m,nd,h1,h2,hk=>by
  show bindL kindOf ((p,w)::P.zip vs) m x=_
  unfold bindL
  exact yK (i:=i) (nodup_cons.mp nd).2 (by simpa using h1) (by simpa using h2) hk
def yM {kindOf:Str->Option NameKind} {x:Str} {v:Value}:∀ {P:Ld} {vs:Lf} {i:Nat} {m:K8},P.Nodup->P[i]? = some x->vs[i]? = some v->kindOf x≠some .local->
  bindC kindOf (P.zip vs) m x=some v
 | [],_,_,_,_,h,_,_=>by simp at h
 | _::_,[],_,_,_,_,h,_=>by simp at h
 | p::P,w::vs,0,m,nd,h1,h2,hk=>by
  simp at h1 h2; subst h1; subst h2
  show bindC kindOf ((p,w)::P.zip vs) m p=_
  unfold bindC
  rw[yL fun v hv=>(nodup_cons.mp nd).1 (List.of_mem_zip hv).1,if_neg hk]
  simp
 | p::P,w::vs,i+1,m,nd,h1,h2,hk=>by
  show bindC kindOf ((p,w)::P.zip vs) m x=_
  unfold bindC
  exact yM (i:=i) (nodup_cons.mp nd).2 (by simpa using h1) (by simpa using h2) hk
def oH (N:Ld) (vs:Ln):St:=vs.map some++List.replicate (N.length - vs.length) none
def zY (CX:CXT) (P:Program) (w:World) (K:K6) (mg:K8) (base:Heap) (N:Ld) (qual:Str) (scope:Scope) (f:Addr) (cd:Value) (A:Around) (outer:List Env) (s:Shared) (H:Hp) (E:XK):Cx where
 prog:=P
 w:=w
 K:=K
 mg:=mg
 base:=base
 A:=A.deeper (envOfC qual scope s.heap.objs.size f cd)
 N:=N
 s₀:=s
 H₀:=H
 env:=envOfC qual scope s.heap.objs.size f cd
 outer:=outer
 stack:=envOfC qual scope s.heap.objs.size f cd::outer
 ex:=[]
 calm:=true
 fn:=fun _=>true
 pn:=[]
 xe:=fun e s'=>wpAny (model P w) (A.deeper (envOfC qual scope s.heap.objs.size f cd)) (leaving (envOfC qual scope s.heap.objs.size f cd) e) (fun _ s''=>CX outer H s E e s'') (fun e' s''=>CX outer H s E e' s'') s'
def BZ {sc:Scope} {n:Nat} {x:Str} (h:sc.names.lookup x=some .cell):∃ c,(cellsFrom n sc.names []).lookup x=some c:=by
 have q:=PySem.W.cellsFrom_some sc.names n [] (.inl h)
 exact isSome_iff_exists.mp q
def E5 {CX:CXT} {P:Program} {w:World} {K:K6} {mg:K8} {base:Heap} {N ps:Ld} {qual:Str} {scope:Scope} {f:Addr} {cd:Value} {A:Around} {outer:List Env} {s s1:Shared} {H:Hp} {E:XK} {us:Lf} {vs:Ln}
  (S:FnScope N ps scope) (hd:A.handled=none) (e0:Env0 P w K mg base A outer s H) (hl:vs.length=ps.length) (r:bZ vs us)
  (x:InCallC s s.heap.objs.size (bindL (envOfC qual scope s.heap.objs.size f cd).kindOf (ps.zip us) fun _=>none) (cellsFrom (s.heap.objs.size+1) scope.names []) (bindC (envOfC qual scope s.heap.objs.size f cd).kindOf (ps.zip us) fun _=>none) s1) :
  Inv (zY CX P w K mg base N qual scope f cd A outer s H E) [] (oH N vs) H s1:=by
 have hpl:ps.length<=N.length:=by have:=congrArg List.length S.pre; rw[length_take]at this; omega
 obtain⟨h1,tk,rfl,hk⟩:=x.done
 have noA:∀ b:Addr,b ∉ (zY CX P w K mg base N qual scope f cd A outer s H E).ex:=fun b z=>absurd (show b∈([]:List Addr) from z) (by simp)
 refine⟨⟨e0.mod,S.kind,rfl,rfl,le_refl _,fun y z c h1 h2=>?_,fun y hy=>?_,fun y c _ h=>?_,fun _=>hd,Around.frames_deeper e0.frames,.inr ⟨rfl,rfl⟩,fun b z=>absurd z (noA b),e0.bs,e0.bsz,fun b _ _=>noA b,fun b z=>absurd z (noA b),e0.funs,e0.frf⟩,
  rfl,e0.bare,Un.kept hk,⟨_,x.toInCall.ns,fun i y v h1 h2 h3=>?_⟩,fun y c h=>⟨_,x.cell y c h⟩,e0.hok.fresh (le_refl _),fun y c h=>?_,fun p hp=>absurd (show p∈([]:K7) from hp) (by simp),e0.hok.kept hk,?_⟩
 ·exact name_of_addr x.apart (PySem.mem_of_lookup h1) (PySem.mem_of_lookup h2)
 ·have hy:scope.names.lookup y=some .cell\/scope.names.lookup y=some .free:=hy
  rcases hy with hy | hy
  ·exact BZ hy
  ·exact absurd rfl (S.nofree _ (PySem.mem_of_lookup hy))
 ·exact Nat.le_of_lt (x.above y c (PySem.mem_of_lookup h))
 ·have hi:i<vs.length:=by
   unfold oH at h2
   by_cases hi:i<vs.length
   ·exact hi
   ·rw[getElem?_append_right (by simpa using hi)]at h2
    rw[List.getElem?_replicate]at h2
    split at h2 <;> cases h2
  have ha:vs[i]? = some v:=by
   unfold oH at h2
   rw[getElem?_append_left (by simpa using hi),getElem?_map]at h2
   cases e:vs[i]? with
   | none=>rw[e]at h2; cases h2
   | some a=>rw[e]at h2; cases h2; rfl
  obtain⟨u,hu,rv⟩:=r.get ha
  have hp:ps[i]? = some y:=by
   rw[<- S.pre,List.getElem?_take_of_lt (by omega)]; exact h1
  have ndP:ps.Nodup:=by rw[<- S.pre]; exact S.nd.sublist (List.take_sublist _ _)
  refine⟨u,rv,?_⟩
  rcases S.par y (mem_of_getElem? hp) with k | k
  ·exact .inl ⟨k,yK ndP hp hu k⟩
  ·obtain⟨c,e⟩:=BZ (n:=s.heap.objs.size+1) k
   refine .inr ⟨.inl k,c,e,?_⟩
   have q:=x.cell y c e
   rw[yM ndP hp hu (by show scope.names.lookup y≠_; rw[k]; decide)]at q
   exact q
 ·exact e0.hok.fresh (Nat.le_of_lt (x.above y c (PySem.mem_of_lookup h)))
 ·unfold oH
  show _=N.length
  rw[length_append,length_map,List.length_replicate]
  omega
def fn_of {CX:CXT} {P:Program} {w:World} {K:K6} {mg:K8} {base:Heap} {k:Nat} {f:Addr} {name qual:Str} {params:Arguments} {body:List Stmt} {scope:Scope} {dV kV doc pm cdv ct oc:Value} {an od:Option Addr}
  {osl:Lb} {N ps:Ld} {sp:Sp} (lk:K.lookup f=some ⟨oc,od,.func (fnOf name qual params body scope dV kV doc pm an cdv ct),osl⟩) (hcd:codeIn K cdv qual=true) (S:FnScope N ps scope)
  (len:∀ vs H Q E,sp vs H Q E->vs.length=ps.length)
  (hbody:∀ (A:Around) (outer:List Env) (s:Shared) (H:Hp) (vs:Ln) (Q:VK) (E:XK),Room k (A.deeper (envOfC qual scope s.heap.objs.size f cdv))->sp vs H Q E->
   ∃ t,PSs (zY CX P w K mg base N qual scope f cdv A outer s H E) body t/\t (Ends.fn Q) (oH N vs) H) :
  FnOk P w K mg base CX (k+1) f (fnOf name qual params body scope dV kV doc pm an cdv ct) ps sp:=by
 refine⟨len,fun A outer s H args us vs Q E hr e0 hb r hsp=>?_⟩
 have hl:=len _ _ _ _ hsp
 have KX:K.In s.heap:=e0.mod.kin.keeps fun b o e=>(e0.bs b o e).1
 have lim:s.heap.NoLimit:=e0.mod.nolimit.keeps fun b o e=>(e0.bs b o e).1
 have hkind:∀ y∈ps.zip us,scope.names.lookup y.1=some .local\/(scope.names.lookup y.1=some .cell/\((cellsFrom (s.heap.objs.size+1) scope.names []).lookup y.1).isSome=true):=fun⟨n,v⟩ hy=>by
  rcases S.par n (List.of_mem_zip hy).1 with q | q
  ·exact .inl q
  ·exact .inr ⟨q,PySem.W.cellsFrom_some _ _ _ (.inl q)⟩
 refine codeAny_call_function hr.depth (KX _ _ lk) rfl S.co S.gen rfl (PySem.W.codeRec_of KX hcd) (hb _ _ _ _ ?_)
 refine wpAny_newFunctionEnv_cells S.kind hkind fun env he s1 x=>?_
 subst he
 refine⟨lim.keeps x.toInCall.keep,codeAny_func ?_⟩
 obtain⟨t,ht,hq⟩:=hbody A outer s H vs Q E (hr.deeper _) hsp
 have I:Inv (zY CX P w K mg base N qual scope f cdv A outer s H E) [] (oH N vs) H s1:=E5 S hr.hd e0 hl r x
 refine wpAny_mono (ht [] s1 (oH N vs) H _ I hq) (fun fl s' hs=>?_) fun e s' hs=>hs
 have fin:∀ {σ':St} {H':Hp} {v:V} {u:Value},Inv (zY CX P w K mg base N qual scope f cdv A outer s H E) [] σ' H' s'->bX v u->Q v H'->CE outer P w H s Q u s':=
  fun {σ' H' v u} J rv q=>⟨v,H',J.os,J.bare,J.base,J.hok,rv,q⟩
 cases fl with
 | ret u=>
  obtain⟨v,σ',H',J,rv,q⟩:=hs
  exact fin J rv q
 | next=>
  obtain⟨σ',H',J,q⟩:=hs
  exact fin (v:=V.non) (u:=Value.none) J rfl q
 | brk=>
  obtain⟨_,_,_,q⟩:=hs
  exact False.elim q
 | cont=>
  obtain⟨_,_,_,q⟩:=hs
  exact False.elim q
section
variable {X:Cx} {x:Str} {p pos:Pos} {e:Expr} {es:List Expr} {t:TA} {id T:String} {r:Ln->Hp->VK->Prop}
abbrev tCB_1 (r:Ln->Hp->VK->Prop) (Q:VK):Ln->Hp->Prop:=fun vs H1=>r vs H1 Q
def tCB (r:Ln->Hp->VK->Prop) (t:TA):TE:=fun σ H Q=>t σ H (tCB_1 r Q)
def bF (hc:gM X (.builtin id) r) (hg:Gl X x) (hm:X.mg x=none) (hv:bootBuiltins x=some (.builtin id)) (ha:PA X (e::es) t) (hn:x ≠ "__name__":=by decide) (hdb:(x == ("__debug__" : Str))=false:=by decide)
  (he:starEach (e::es) X.env=(false,eval e X.env)::starEach es X.env:=by rfl) (hpl:(backTo pos (starEach es X.env)).any (·.1)=false:=by rfl):PE X (.Call (.Name x p) (e::es) [] pos) (tCB r t):=by
 intro pins s σ H Q I h
 refine wpAny_Call_Name_kw (lG I hg hm hv ?_ hn hdb)
 exact PyProof.Rows.callWith_builtin1 (thn (ha pos pins s σ H _ I h) fun us s1 ⟨vs,H1,I1,r1,q1⟩=>hc pins s1 σ H1 vs us Q I1 r1 q1) he hpl
def jZ (hc:gM X (.type T) r) (hg:Gl X x) (hm:X.mg x=none) (hv:bootBuiltins x=some (.type T)) (ha:PA X (e::es) t) (hn:x ≠ "__name__":=by decide) (hdb:(x == ("__debug__" : Str))=false:=by decide)
  (he:starEach (e::es) X.env=(false,eval e X.env)::starEach es X.env:=by rfl) (hpl:(backTo pos (starEach es X.env)).any (·.1)=false:=by rfl):PE X (.Call (.Name x p) (e::es) [] pos) (tCB r t):=by
 intro pins s σ H Q I h
 refine wpAny_Call_Name_kw (lG I hg hm hv ?_ hn hdb)
 exact PyProof.Rows.callWith_type1 (thn (ha pos pins s σ H _ I h) fun us s1 ⟨vs,H1,I1,r1,q1⟩=>hc pins s1 σ H1 vs us Q I1 r1 q1) he hpl
end
end L2
namespace HT
open PySem PyProof.Rows
section
open PySem.SeqAt
open PySem.AutoSeq1 (wpAny_loadPart')
open PySem.MeetsSeq PySem.MeetsSeq2 PySem.MeetsSeq3
end
section
variable {prog:Program} {w:World} {A:Around} {E:Lk} {s:Shared}
def Iz (ht:IsTup s.heap t vs.toArray) (hb:IsTup s.heap b ws.toArray) (hv:vs≠[])
  (h1:ws=[]->Q (.ref t) s) (h2:ws≠[]->Q (.ref s.heap.objs.size) { s with heap:=s.heap.push { cls:=.type "tuple",data:=.seq (vs++ws).toArray } })
  (hsz:vs.length+ws.length<=sizeLine):wpAny (model prog w) A (binaryOp .Add (.ref t) (.ref b)) Q E s:=by
 obtain⟨⟨cls,dd,data,sl⟩,ho,hc,n,hd⟩:=id ht
 obtain⟨⟨cls2,dd2,data2,sl2⟩,ho2,hc2,n2,hd2⟩:=id hb
 simp only at hc hd hc2 hd2
 subst hc hd hc2 hd2
 have e:vs.toArray++ws.toArray=(vs++ws).toArray:=by simp
 by_cases hw:ws=[]
 ·exact concat_meets ⟨_,ho,rfl⟩ ⟨_,ho2,rfl⟩ noFill_tuple_add seq_tuple_add PySem.F.slot_tuple_add PySem.F.entry_tuple_add (PySem.F.args_tuple_add_2 _ _)
   (tuple_addW1 t b vs.toArray ws.toArray n n2 dd dd2 sl sl2 (by simpa using hv) (by simp [hw])) ⟨ho,ho2,h1 hw⟩
 ·refine concat_meets ⟨_,ho,rfl⟩ ⟨_,ho2,rfl⟩ noFill_tuple_add seq_tuple_add PySem.F.slot_tuple_add PySem.F.entry_tuple_add (PySem.F.args_tuple_add_2 _ _)
   (tuple_addW2 t b vs.toArray ws.toArray n n2 dd dd2 sl sl2 (by simpa using hv) (by simpa using hw) (by rw[size_toArray,size_toArray]; exact hsz)) ⟨ho,ho2,?_⟩
  rw[e]
  exact h2 hw
def sIx (n d:Nat):Option Int->Nat
 | none=>d
 | some v=>if v<0 then (v+(n:Int)).toNat else min v.toNat n
def uB (n d:Nat):sIx n d none=d:=rfl
def jB (n d k:Nat):sIx n d (some (k:Int))=min k n:=by
 show (if (k:Int)<0 then ((k:Int)+(n:Int)).toNat else min (k:Int).toNat n)=min k n
 rw[if_neg (by omega),Int.toNat_natCast]
def J1 (n d:Nat) (hd:d<=n) (o:Option Int):sIx n d o<=n:=by
 cases o with
 | none=>exact hd
 | some v=>
  show (if v<0 then (v+(n:Int)).toNat else min v.toNat n)<=n
  by_cases hv:v<0
  ·rw[if_pos hv]; omega
  ·rw[if_neg hv]; exact Nat.min_le_right _ _
def D8 (v:Int) (n d:Nat):(if v<0 then max (v+(n:Int)) 0 else min v (n:Int))=((sIx n d (some v):Nat):Int):=by
 show (if v<0 then max (v+(n:Int)) 0 else min v (n:Int))=(((if v<0 then (v+(n:Int)).toNat else min v.toNat n):Nat):Int)
 by_cases hv:v<0
 ·simp only[if_pos hv]; omega
 ·simp only[if_neg hv]; omega
def Ct (lo hi:Option Int) (n:Nat):Builtin.Slice.sliceAdjust lo hi 1 (n:Int)=(((sIx n 0 lo:Nat):Int),((sIx n n hi:Nat):Int)):=by
 have h1:¬ ((1:Int)<0):=by omega
 unfold Builtin.Slice.sliceAdjust
 simp only[h1,if_false]
 refine Prod.ext ?_ ?_
 ·cases lo with
  | none=>rfl
  | some v=>exact D8 v n 0
 ·cases hi with
  | none=>rfl
  | some v=>exact D8 v n n
def CI (i j:Nat):Builtin.Slice.slicePlaces (i:Int) (j:Int) 1=j - i:=by
 unfold Builtin.Slice.slicePlaces
 have h1:(1:Int) > 0:=by omega
 simp only[h1,if_true,Int.ediv_one]
 split <;> omega
def tO (p:IsPart v o) (h:Q o s):wpAny (model prog w) A (Builtin.Slice.slicePartIndex v) Q E s:=by
 cases p with
 | none=>exact slicePart_none h
 | int i t=>exact slicePart_int h
def jU {sl:Addr} {vl vu:Value} {lo hi:Option Int} {n:Nat} {Q:Int × Int × Nat->Shared->Prop} (hs:s.heap.IsSliceOf sl vl vu .none) (pl:IsPart vl lo) (pu:IsPart vu hi)
  (h:Q (((sIx n 0 lo:Nat):Int),1,sIx n n hi - sIx n 0 lo) s):wpAny (model prog w) A (Builtin.Slice.sliceApplied (.ref sl) (pure (n:Int))) Q E s:=by
 obtain⟨os,hos,hcs,hds⟩:=id hs
 unfold Builtin.Slice.sliceApplied Builtin.Slice.sliceFields
 refine wpAny_bind (wpAny_bind (wpAny_field hos hds (x:=vl) rfl (wpAny_bind (wpAny_field hos hds (x:=vu) rfl (wpAny_bind (wpAny_field hos hds (x:=.none) rfl (wpAny_pure ?_)))))))
 refine wpAny_bind (slicePart_none ?_)
 show wpAny _ _ (if ((1:Int) == 0)=true then _ else _) _ _ s
 rw[if_neg (by decide)]
 refine wpAny_bind (tO pl (wpAny_bind (tO pu (wpAny_bind (wpAny_pure ?_)))))
 show wpAny _ _ (match Builtin.Slice.sliceAdjust lo hi 1 (n:Int) with | (lo,hi)=>pure (lo,(1:Int),Builtin.Slice.slicePlaces lo hi 1)) _ _ s
 rw[Ct lo hi n]
 show wpAny _ _ (pure (((sIx n 0 lo:Nat):Int),(1:Int),Builtin.Slice.slicePlaces ((sIx n 0 lo:Nat):Int) ((sIx n n hi:Nat):Int) 1)) _ _ s
 rw[CI]
 exact wpAny_pure h
def GM (xs:Array Value) (i k:Nat):((List.range k).filterMap fun(m:Nat)=>xs[((i:Int)+(m:Int) * 1).toNat]?).toArray=((xs.toList.drop i).take k).toArray:=by
 have e:(fun(m:Nat)=>xs[((i:Int)+(m:Int) * 1).toNat]?)=fun m=>xs[i+m]?:=by
  funext m
  have:((i:Int)+(m:Int) * 1).toNat=i+m:=by omega
  rw[this]
 rw[e]
 have:=pick_run xs i k
 rw[List.filterMap_map]at this
 have e2:((fun x=>xs[x]?) ∘ fun x=>i+x)=fun m=>xs[i+m]?:=rfl
 rw[e2]at this
 rw[this]
def pM {t sl:Addr} {items:Array Value} {vl vu:Value} {lo hi:Option Int} {Q:Lk} (ht:IsTup s.heap t items) (hs:s.heap.IsSliceOf sl vl vu .none) (pl:IsPart vl lo) (pu:IsPart vu hi)
  (hw:¬ (sIx items.size 0 lo=0/\sIx items.size items.size hi=items.size))
  (h:Q (.ref s.heap.objs.size) { s with heap:=s.heap.push { cls:=.type "tuple",data:=.seq ((items.toList.drop (sIx items.size 0 lo)).take (sIx items.size items.size hi - sIx items.size 0 lo)).toArray } })
  (hsz:items.size<=sizeLine):wpAny (model prog w) A (getItem (.ref t) (.ref sl)) Q E s:=by
 have htake:sizeOk (.seq ((items.toList.drop (sIx items.size 0 lo)).take (sIx items.size items.size hi - sIx items.size 0 lo)).toArray):=by
  show ((items.toList.drop (sIx items.size 0 lo)).take (sIx items.size items.size hi - sIx items.size 0 lo)).toArray.size<=sizeLine
  rw[size_toArray,length_take,length_drop,length_toList]
  omega
 have hj:sIx items.size items.size hi<=items.size:=J1 _ _ (le_refl _) hi
 obtain⟨os,hos,hcs,hds⟩:=id hs
 have hTs:s.TypeIs (.ref sl) "slice":=⟨os,hos,hcs⟩
 unfold getItem
 try with_reducible refine wpAny_holding ?_
 first | refine wpAny_bind (wpAny_pure ?_) | skip
 refine wpAny_bind (wpAny_sequenceKey ht.typeIs (by decide) ?_)
 refine wpAny_bind (wpAny_callSpecial?_slot (name:=Str.ofString "__getitem__") ht.typeIs PyProof.Rows.slot_tuple_getitem
  (wpAny_call_entry PyProof.Rows.slot_tuple_getitem ht.typeIs entry_tuple_getitem ?_ (args_tuple_getitem _ _)))
 show wpAny _ _ (Builtin.Tuple.tupleItemsOf (.ref t) >>= _) _ _ s
 refine wpAny_bind (tupleItemsOf_ ht ?_)
 refine wpAny_bind (wpAny_typeOf hTs ?_)
 rw[if_pos (by decide)]
 refine wpAny_bind (jU hs pl pu ?_)
 have hno:¬ ((((sIx items.size 0 lo:Nat):Int) == 0 && (1:Int) == 1 && (sIx items.size items.size hi - sIx items.size 0 lo) == items.size)=true):=by
  intro q
  rw[and_eq_true,and_eq_true]at q
  have q1:((sIx items.size 0 lo:Nat):Int)=0:=eq_of_beq q.1.1
  have q2:sIx items.size items.size hi - sIx items.size 0 lo=items.size:=eq_of_beq q.2
  exact hw ⟨by omega,by omega⟩
 show wpAny _ _ (if (((sIx items.size 0 lo:Nat):Int) == 0 && (1:Int) == 1 && (sIx items.size items.size hi - sIx items.size 0 lo) == items.size)=true then _ else _) _ _ s
 rw[if_neg hno,GM]
 first
  | exact wpAny_bind (m:=Builtin.Tuple.tupleExact _) (wpAny_newObj_type (wpAny_pure ⟨_,rfl,wpAny_pure h⟩) htake)
  | exact wpAny_bind (m:=Builtin.Tuple.tupleExact _) (wpAny_newObj_type (wpAny_bind (wpAny_pure (wpAny_pure ⟨_,rfl,wpAny_pure h⟩))) htake)
  | exact wpAny_bind (wpAny_bind (m:=Builtin.Tuple.tupleExact _) (wpAny_newObj_type (wpAny_pure (wpAny_pure ⟨_,rfl,wpAny_pure h⟩)) htake))
  | exact wpAny_bind (wpAny_bind (m:=Builtin.Tuple.tupleExact _) (wpAny_newObj_type (wpAny_pure ⟨_,rfl,wpAny_pure h⟩) htake))
end
end HT
namespace L2
open PySem PySem.Spec PyProof.Rows
abbrev TO:=St->Hp->(Option Int->Hp->Prop)->Prop
def PO (X:Cx) (e:Option Expr) (t:TO):Prop:=
 ∀ pins s σ H (Q:Option Int->Hp->Prop),Inv X pins σ H s->t σ H Q->
  wpAny (model X.prog X.w) X.A (evalPart e X.env) (fun u s'=>∃ o H',Inv X pins σ H' s'/\IsPart u o/\Q o H') X.xe s
def C1:TO:=fun _ H Q=>Q none H
inductive FY (Q:(Option Int->Hp->Prop)) (x:V) (H1:Hp):Prop
 | mk:∀ i,x = .int i->Q (some i) H1->FY Q x H1
def tPart (t:TE):TO:=fun σ H Q=>t σ H (FY Q)
section
variable {X:Cx} {e:Expr} {te:TE} {lo hi:Option Expr} {tl th:TO} {pos p2:Pos}
def lB:PO X none C1:=by
 intro pins s σ H Q I h
 rw[evalPart_none]
 exact wpAny_pure ⟨none,H,I,.none,h⟩
def iC (h:PE X e te):PO X (some e) (tPart te):=by
 intro pins s σ H Q I hw
 rw[evalPart_some]
 refine thn (h pins s σ H _ I hw) fun u s1 zQq=>?_
 obtain⟨x,H1,I1,r1,q1⟩:=zQq
 obtain⟨i,rfl,q⟩:=q1
 obtain⟨t,rfl⟩:=r1
 exact⟨some i,H1,I1,.int i t,q⟩
def SlR (X:Cx) (r:V->Option Int->Option Int->Hp->VK->Prop):Prop:=
 ∀ pins s σ H (x:V) (v vl vu:Value) (lo hi:Option Int) (sl:Addr) (Q:VK),Inv X pins σ H s->bX x v->s.heap.IsSliceOf sl vl vu .none->IsPart vl lo->IsPart vu hi->r x lo hi H Q->
  ∃ T id,typeLookup (.type T) "__getitem__" = pure (some (.builtin id))/\s.TypeIs v T/\wpAny (model X.prog X.w) X.A (getItem v (.ref sl)) (EP X pins σ Q) X.xe s
abbrev tSl_3 (r:V->Option Int->Option Int->Hp->VK->Prop) (Q:VK) (x:V) (l:Option Int):Option Int->Hp->Prop:=fun u H3=>r x l u H3 Q
abbrev tSl_2 (r:V->Option Int->Option Int->Hp->VK->Prop) (th:TO) (σ : St) (Q:VK) (x:V):Option Int->Hp->Prop:=fun l H2=>th σ H2 (tSl_3 r Q x l)
abbrev tSl_1 (r:V->Option Int->Option Int->Hp->VK->Prop) (tl:TO) (th:TO) (σ : St) (Q:VK):V->Hp->Prop:=fun x H1=>tl σ H1 (tSl_2 r th σ Q x)
def tSl (r:V->Option Int->Option Int->Hp->VK->Prop) (te:TE) (tl th:TO):TE:=fun σ H Q=>te σ H (tSl_1 r tl th σ Q)
def gZ {r:V->Option Int->Option Int->Hp->VK->Prop} (hr:SlR X r) (he:PE X e te) (hl:PO X lo tl) (hu:PO X hi th):PE X (.Subscript e (.Slice lo hi none p2) pos) (tSl r te tl th):=by
 intro pins s σ H Q I h
 refine Subscript_ (thn (he pins s σ H _ I h) fun v s1 zQq=>?_)
 obtain⟨x,H1,I1,r1,q1⟩:=zQq
 refine wpAny_Slice (thn (hl pins s1 σ H1 _ I1 q1) fun vl s2 ⟨l,H2,I2,pl,q2⟩=>thn (hu pins s2 σ H2 _ I2 q2) fun vu s3 zQq=>?_)
 obtain⟨u,H3,I3,pu,q3⟩:=zQq
 rw[evalPart_none]
 refine wpAny_pure ?_
 have I4:Inv X pins σ H3 { s3 with heap:=s3.heap.push { cls:=.type "slice",data:=.fields #[vl,vu,.none] } }:=I3.kept (t':=s3.toks) fun b ob q=>get?_push_of_some _ q
 obtain⟨T,id,hT,ht,hg⟩:=hr pins { s3 with heap:=s3.heap.push { cls:=.type "slice",data:=.fields #[vl,vu,.none] } } σ H3 x v vl vu l u s3.heap.objs.size Q I4 r1 (Heap.IsSliceOf.new ..) pl pu q3
 show wpAny (model X.prog X.w) X.A (subscriptTail e (.Slice lo hi none p2) v (.ref s3.heap.objs.size)) (EP X pins σ Q) X.xe { s3 with heap:=s3.heap.push { cls:=.type "slice",data:=.fields #[vl,vu,.none] } }
 exact tail_any (ops:=[.ref s3.heap.objs.size,v]) ht hT hg (by with_unfolding_all rfl)
def i5 (xs:Ln) (lo hi:Option Int):Ln:=(xs.drop (HT.sIx xs.length 0 lo)).take (HT.sIx xs.length xs.length hi - HT.sIx xs.length 0 lo)
def rR (xs:Ln) (lo hi:Option Int):(i5 xs lo hi).length<=xs.length:=by
 unfold i5
 rw[length_take,length_drop]
 omega
inductive rSlT (K:K6) (x:V) (lo:Option Int) (hi:Option Int) (H:Hp) (Q:VK):Prop
 | mk:∀ a xs,x = .ref a->SqT K H a xs->(¬ (HT.sIx xs.length 0 lo=0/\HT.sIx xs.length xs.length hi=xs.length))->(∀ p,H p=none->Q (.ref p) (upd H p (.tup (i5 xs lo hi))))->rSlT K x lo hi H Q
def J0:SlR X (rSlT X.K):=by
 intro pins s σ H x v vl vu lo hi sl Q I rx hs pl pu h
 obtain⟨a,xs,rfl,hx,hw,q⟩:=h
 cases rx
 obtain⟨its,r,ht,hz⟩:=I.tuple hx
 have hlen:its.toArray.size=xs.length:=by rw[size_toArray]; exact r.length.symm
 refine⟨"tuple",_,PyProof.Rows.slot_tuple_getitem.lookup,ht.typeIs,?_⟩
 refine HT.pM ht hs pl pu (by rw[hlen]; exact hw) ?_ (by rw[hlen]; exact hz)
 rw[hlen]
 refine⟨.ref s.heap.objs.size,_,I.laid (t':=s.toks) (o:=.tup (i5 xs lo hi)) (fun b ob q=>get?_push_of_some _ q) (le_refl _) ?_,rfl,q _ (I.hok.fresh (le_refl _))⟩
 exact⟨le_trans (rR xs lo hi) hz,_,(r.drop (HT.sIx xs.length 0 lo)).take (HT.sIx xs.length xs.length hi - HT.sIx xs.length 0 lo),IsTup.new _ _⟩
inductive JQ (K:K6) (x:V) (y:V) (H:Hp) (Q:VK):Prop
 | mk:∀ a b xs ys,x = .ref a->y = .ref b->SqT K H a xs->SqT K H b ys->xs≠[]->xs.length+ys.length<=sizeLine->(ys=[]->Q (.ref a) H)->(ys≠[]->∀ p,H p=none->Q (.ref p) (upd H p (.tup (xs++ys))))->JQ K x y H Q
def bZ.nil_iff (r:bZ xs us):us=[] ↔ xs=[]:=by
 cases r with
 | nil=>simp
 | cons _ _=>simp
def IR:OpR X (binaryOp .Add) (JQ X.K):=by
 intro pins s σ H x y v u Q I rx ry h
 obtain⟨a,b,xs,ys,rfl,rfl,ha,hb,hx,hz,q1,q2⟩:=h
 cases rx
 cases ry
 obtain⟨its,r1,p1,_⟩:=I.tuple ha
 obtain⟨its2,r2,p2,_⟩:=I.tuple hb
 refine HT.Iz p1 p2 (fun z=>hx (r1.nil_iff.mp z)) (fun z=>⟨.ref a,H,I,rfl,q1 (r2.nil_iff.mp z)⟩) (fun z=>?_) (by rw[<- r1.length,<- r2.length]; exact hz)
 refine⟨.ref s.heap.objs.size,_,I.laid (t':=s.toks) (o:=.tup (xs++ys)) (fun b ob q=>get?_push_of_some _ q) (le_refl _) ?_,rfl,q2 (fun w=>z (r2.nil_iff.mpr w)) _ (I.hok.fresh (le_refl _))⟩
 exact⟨by rw[length_append]; exact hz,_,r1.append r2,IsTup.new _ _⟩
end
def ixN (n:Nat) (i:Int):Option Nat:=if 0<=i then (if i<n then some i.toNat else none) else if -(n:Int)<=i then some (i+n).toNat else none
def atI {α : Type} (xs:List α) (i:Int):Option α:=(ixN xs.length i).bind fun j=>xs[j]?
def Il (h:ixN n i=some j):seqIndex? i n=some j/\j<n/\-(n:Int)<=i/\i<n:=by
 unfold ixN at h
 by_cases h0:0<=i
 ·rw[if_pos h0]at h
  by_cases h1:i<n
  ·rw[if_pos h1]at h
   have e:i.toNat=j:=Option.some.inj h
   exact⟨by rw[seqIndex_of h0 h1,e],by omega,by omega,h1⟩
  ·rw[if_neg h1]at h; cases h
 ·rw[if_neg h0]at h
  by_cases h1:-(n:Int)<=i
  ·rw[if_pos h1]at h
   have e:(i+n).toNat=j:=Option.some.inj h
   exact⟨by rw[seqIndex_neg (by omega) h1,e],by omega,h1,by omega⟩
  ·rw[if_neg h1]at h; cases h
def EA {α : Type} {xs:List α} {i:Int} {v:α} (h:atI xs i=some v):∃ j,seqIndex? i xs.length=some j/\xs[j]? = some v/\j<xs.length/\-(xs.length:Int)<=i/\i<xs.length:=by
 unfold atI at h
 cases e:ixN xs.length i with
 | none=>rw[e]at h; cases h
 | some j=>
  rw[e]at h
  obtain⟨h1,h2,h3,h4⟩:=Il e
  exact⟨j,h1,h,h2,h3,h4⟩
def cF {α : Type} {xs:List α} {j:Nat} {v:α} (h:xs[j]? = some v):atI xs (j:Int)=some v:=by
 have hj:j<xs.length:=(List.getElem?_eq_some_iff.mp h).1
 have e:ixN xs.length (j:Int)=some j:=by
  unfold ixN
  rw[if_pos (by omega),if_pos (by omega)]; simp
 unfold atI; rw[e]; exact h
def Bh {α : Type} (xs:List α) (v:α):atI (xs++[v]) (-1)=some v:=by
 have hl:(xs++[v]).length=xs.length+1:=by simp
 have e:ixN (xs++[v]).length (-1)=some xs.length:=by
  unfold ixN
  rw[hl,if_neg (by decide),if_pos (by omega)]
  congr 1
  omega
 unfold atI
 rw[e]
 show (xs++[v])[xs.length]? = some v
 simp
def JD (b:Expr):Prop:=∀ o i,subscripted b false o i=operate [o,i] (getItem o i)
def IxR (X:Cx) (r:R2):Prop:=
 ∀ (value slice:Expr) (pins:K7) (s:Shared) (σ : St) (H:Hp) (x y:V) (v u:Value) (Q:VK),Inv X pins σ H s->bX x v->bX y u->r x y H Q->
  subscripted slice false v u=operate [v,u] (getItem v u)->wpAny (model X.prog X.w) X.A (subscriptTail value slice v u) (EP X pins σ Q) X.xe s
def MtR (X:Cx) (id:String) (r:V->Ln->Hp->VK->Prop):Prop:=
 ∀ pins s σ H (x:V) (xs:Ln) (v:Value) (us:Lf) (Q:VK),Inv X pins σ H s->bX x v->bZ xs us->r x xs H Q->
  wpAny (model X.prog X.w) X.A (call (.builtin id) (v::us)) (EP X pins σ Q) X.xe s
section
variable {X:Cx} {a b:Expr} {ta tb:TE} {pos:Pos}
def cD {r:R2} (hr:IxR X r) (ha:PE X a ta) (hb:PE X b tb) (hs:JD b):PE X (.Subscript a b pos) (tOp r ta tb):=by
 intro pins s σ H Q I h
 exact Subscript_ (K0 ha hb I h fun v u s2 x y H2 I2 rx ry q=>hr a b pins s2 σ H2 x y v u Q I2 rx ry q (hs _ _))
inductive IC (K:K6) (x:V) (y:V) (H:Hp) (Q:VK):Prop
 | mk:∀ p xs i v,x = .ref p->y = .int i->SqL K H p xs->atI xs i=some v->Q v H->IC K x y H Q
inductive J7 (K:K6) (x:V) (y:V) (H:Hp) (Q:VK):Prop
 | mk:∀ p xs i v,x = .ref p->y = .int i->SqT K H p xs->atI xs i=some v->Q v H->J7 K x y H Q
def Ik:IxR X (IC X.K):=by
 intro value slice pins s σ H x y v u Q I rx ry h hs
 obtain⟨p,xs,i,z,rfl,rfl,hq,he,q⟩:=h
 cases rx
 obtain⟨t,rfl⟩:=ry
 obtain⟨its,r,pl,hz⟩:=I.list hq
 obtain⟨j,h1,h2,h3,h4,h5⟩:=EA he
 obtain⟨w,ew,rw'⟩:=r.get h2
 have hl:=r.length
 have hn:=uS
 have fin:EP X pins σ Q w s:=⟨z,H,I,rw',q⟩
 by_cases h0:0<=i
 ·have hj:i.toNat=j:=by
   rw[seqIndex_of h0 h5]at h1
   exact Option.some.inj h1
  exact item_listR pl.isList h0 (by omega) (by rw[hj]; simpa using ew) fin hs
 ·have hj:(i+(its.toArray.size:Int)).toNat=j:=by
   rw[seqIndex_neg (by omega) h4]at h1
   rw[size_toArray,<- hl]
   exact Option.some.inj h1
  exact subscriptTail_builtinR (x:=w) pl.isList.typeIs slot_list_getitem.lookup
   (wpAny_getItem_list_neg (Q:=fun r s'=>r=w/\EP X pins σ Q r s') pl.isList (by omega) (by rw[size_toArray] <;> omega) (by omega) (by rw[hj]; simpa using ew) ⟨rfl,fin⟩) hs
def Kh:IxR X (J7 X.K):=by
 intro value slice pins s σ H x y v u Q I rx ry h hs
 obtain⟨p,xs,i,z,rfl,rfl,hq,he,q⟩:=h
 cases rx
 obtain⟨t,rfl⟩:=ry
 obtain⟨its,r,pl,hz⟩:=I.tuple hq
 obtain⟨j,h1,h2,h3,h4,h5⟩:=EA he
 obtain⟨w,ew,rw'⟩:=r.get h2
 have hl:=r.length
 have hn:=uS
 have fin:EP X pins σ Q w s:=⟨z,H,I,rw',q⟩
 exact subscriptTail_builtinR (x:=w) pl.typeIs slot_tuple_getitem.lookup
  (getItem_tuple (j:=j) (Q:=fun r s'=>r=w/\EP X pins σ Q r s') pl (by omega) (by omega) (by rw[size_toArray,<- hl]; exact h1) (by simpa using ew) ⟨rfl,fin⟩) hs
def y7 (lo hi:Option Int) (n:Nat):(sliceBounds lo hi none n).1=((HT.sIx n 0 lo:Nat):Int)/\(sliceBounds lo hi none n).2.1=((HT.sIx n n hi:Nat):Int)/\(sliceBounds lo hi none n).2.2=1:=by
 refine⟨?_,?_,rfl⟩
 ·cases lo with
  | none=>simp [sliceBounds,HT.sIx]
  | some i=>
   simp only[sliceBounds,HT.sIx,Option.getD_none,show (1:Int) > 0 by decide,if_true]
   by_cases h:i<0
   ·simp only[h,if_true] <;> omega
   ·simp only[h,if_false] <;> omega
 ·cases hi with
  | none=>simp [sliceBounds,HT.sIx]
  | some i=>
   simp only[sliceBounds,HT.sIx,Option.getD_none,show (1:Int) > 0 by decide,if_true]
   by_cases h:i<0
   ·simp only[h,if_true] <;> omega
   ·simp only[h,if_false] <;> omega
def vO (its:Lf) (lo hi:Option Int):slicePick its.toArray lo hi none=((its.drop (HT.sIx its.length 0 lo)).take (HT.sIx its.length its.length hi - HT.sIx its.length 0 lo)).toArray:=by
 obtain⟨h1,h2,h3⟩:=y7 lo hi its.toArray.size
 unfold slicePick
 rw[h1,h2,h3]
 simp only[sliceRange_one,pick_run,size_toArray] <;> rfl
inductive J5 (K:K6) (x:V) (lo:Option Int) (hi:Option Int) (H:Hp) (Q:VK):Prop
 | mk:∀ a xs,x = .ref a->SqL K H a xs->(∀ p,H p=none->Q (.ref p) (upd H p (.lst (i5 xs lo hi))))->J5 K x lo hi H Q
def Hs:SlR X (J5 X.K):=by
 intro pins s σ H x v vl vu lo hi sl Q I rx hs pl pu h
 obtain⟨a,xs,rfl,hx,q⟩:=h
 cases rx
 obtain⟨its,r,ht,hz⟩:=I.list hx
 have hlen:=r.length
 refine⟨"list",_,slot_list_getitem.lookup,ht.isList.typeIs,?_⟩
 refine wpAny_getItem_list_slice ht.isList hs pl pu .none (by simp) ?_ (by rw[size_toArray] <;> omega)
 rw[vO,<- hlen]
 refine⟨.ref s.heap.objs.size,_,I.laid (t':=s.toks) (o:=.lst (i5 xs lo hi)) (fun b ob q=>get?_push_of_some _ q) (le_refl _) ?_,rfl,q _ (I.hok.fresh (le_refl _))⟩
 exact⟨le_trans (rR xs lo hi) hz,_,0,(r.drop (HT.sIx xs.length 0 lo)).take (HT.sIx xs.length xs.length hi - HT.sIx xs.length 0 lo),get?_push_size _ rfl⟩
def nK:V->Bool
 | .non=>true
 | .bl _=>true
 | .int _=>true
 | .str _=>true
 | _=>false
def eqV:V->V->Bool
 | .non,.non=>true
 | .bl a,.bl b=>a == b
 | .bl a,.int b=>(if a then 1 else 0) == b
 | .int a,.bl b=>a == (if b then 1 else 0)
 | .int a,.int b=>a == b
 | .str a,.str b=>a == b
 | _,_=>false
def Kr (ry:bX y u) (rx:bX x v) (fy:nK y=true) (fx:nK x=true):SeqAt.EqAt A s u v (eqV y x):=by
 cases y with
 | non=>
  cases ry
  cases x with
  | non=>cases rx; exact SeqAt.EqAt.same _
  | bl b=>cases rx; exact SeqAt.EqAt.none_bool b
  | int b=>obtain⟨t,rfl⟩:=rx; exact SeqAt.EqAt.none_int b t
  | str b=>obtain⟨t,rfl⟩:=rx; exact SeqAt.EqAt.none_str b t
  | _=>exact absurd (show false=true from fx) Bool.false_ne_true
 | bl a=>
  cases ry
  cases x with
  | non=>cases rx; exact SeqAt.EqAt.bool_none a
  | bl b=>cases rx; exact SeqAt.EqAt.bool_bool a b
  | int b=>obtain⟨t,rfl⟩:=rx; exact SeqAt.EqAt.bool_int a b t
  | str b=>obtain⟨t,rfl⟩:=rx; exact SeqAt.EqAt.bool_str a b t
  | _=>exact absurd (show false=true from fx) Bool.false_ne_true
 | int a=>
  obtain⟨t',rfl⟩:=ry
  cases x with
  | non=>cases rx; exact SeqAt.EqAt.int_none a t'
  | bl b=>cases rx; exact SeqAt.EqAt.int_bool a t' b
  | int b=>obtain⟨t,rfl⟩:=rx; exact SeqAt.EqAt.int_int a t' b t
  | str b=>obtain⟨t,rfl⟩:=rx; exact SeqAt.EqAt.int_str a t' b t
  | _=>exact absurd (show false=true from fx) Bool.false_ne_true
 | str a=>
  obtain⟨t',rfl⟩:=ry
  cases x with
  | non=>cases rx; exact SeqAt.EqAt.str_none a t'
  | bl b=>cases rx; exact SeqAt.EqAt.str_bool a t' b
  | int b=>obtain⟨t,rfl⟩:=rx; exact SeqAt.EqAt.str_int a t' b t
  | str b=>obtain⟨t,rfl⟩:=rx; exact SeqAt.EqAt.str_str a t' b t
  | _=>exact absurd (show false=true from fx) Bool.false_ne_true
 | _=>exact absurd (show false=true from fy) Bool.false_ne_true
def eqU (x:V) (u:Value):Bool:=match u with
 | .none=>eqV .non x
 | .bool b=>eqV (.bl b) x
 | .int i _=>eqV (.int i) x
 | .str z _=>eqV (.str z) x
 | _=>false
def HJ (r:bX y u) (f:nK y=true):eqU x u=eqV y x:=by
 cases y with
 | non=>cases r; rfl
 | bl b=>cases r; rfl
 | int i=>obtain⟨t,rfl⟩:=r; rfl
 | str z=>obtain⟨t,rfl⟩:=r; rfl
 | _=>exact absurd (show false=true from f) Bool.false_ne_true
def pU:∀ {xs:Ln} {us:Lf},bZ xs us->xs.all nK=true->us.any (eqU x)=xs.any fun y=>eqV y x
 | _,_,.nil,_=>rfl
 | y::xs,u::us,.cons r t,f=>by
  rw[all_cons,and_eq_true]at f
  rw[any_cons,any_cons,HJ r f.1,pU t f.2]
def mB (rx:bX x v) (fx:nK x=true):∀ {xs:Ln} {us:Lf},bZ xs us->xs.all nK=true->∀ u∈us,SeqAt.EqAt A s u v (eqU x u)
 | _,_,.nil,_=>fun u hu=>by cases hu
 | y::xs,u::us,.cons r t,f=>fun u' hu=>by
  rw[all_cons,and_eq_true]at f
  rcases mem_cons.mp hu with rfl | hu
  ·rw[HJ r f.1]; exact Kr r rx f.1 fx
  ·exact mB rx fx t f.2 u' hu
def inV (x:V) (xs:Ln):Bool:=xs.any fun y=>eqV y x
inductive rIn (K:K6) (neg:Bool) (x:V) (y:V) (H:Hp) (Q:VK):Prop
 | mk:∀ p xs,y = .ref p->(SqL K H p xs\/SqT K H p xs)->nK x=true->xs.all nK=true->Q (.bl (if neg then !inV x xs else inV x xs)) H->rIn K neg x y H Q
def EW:OpR X (compareOp .In) (rIn X.K false):=by
 intro pins s σ H x y v u Q I rx ry h
 obtain⟨p,xs,rfl,hq,fx,fs,q⟩:=h
 cases ry
 rcases hq with hq | hq
 ·obtain⟨its,r,pl,hz⟩:=I.list hq
  refine SeqAt.in_listAt (eqU x) pl.isList (fun w hw=>mB rx fx r fs w (by simpa using hw)) ⟨.bl _,H,I,rfl,?_⟩
  rw[show its.toArray.any (eqU x)=its.any (eqU x) by simp,pU r fs]
  exact q
 ·obtain⟨its,r,pl,hz⟩:=I.tuple hq
  refine SeqAt.in_tupleAt (eqU x) pl (fun w hw=>mB rx fx r fs w (by simpa using hw)) ⟨.bl _,H,I,rfl,?_⟩
  rw[show its.toArray.any (eqU x)=its.any (eqU x) by simp,pU r fs]
  exact q
def zF:OpR X (compareOp .NotIn) (rIn X.K true):=by
 intro pins s σ H x y v u Q I rx ry h
 obtain⟨p,xs,rfl,hq,fx,fs,q⟩:=h
 cases ry
 rcases hq with hq | hq
 ·obtain⟨its,r,pl,hz⟩:=I.list hq
  refine SeqAt.notIn_listAt (eqU x) pl.isList (fun w hw=>mB rx fx r fs w (by simpa using hw)) ⟨.bl _,H,I,rfl,?_⟩
  rw[show its.toArray.any (eqU x)=its.any (eqU x) by simp,pU r fs]
  exact q
 ·obtain⟨its,r,pl,hz⟩:=I.tuple hq
  refine SeqAt.notIn_tupleAt (eqU x) pl (fun w hw=>mB rx fx r fs w (by simpa using hw)) ⟨.bl _,H,I,rfl,?_⟩
  rw[show its.toArray.any (eqU x)=its.any (eqU x) by simp,pU r fs]
  exact q
def AA:gM X (.builtin "len") (fun xs H Q=>∃ p ys,xs=[.ref p]/\(SqL X.K H p ys\/SqT X.K H p ys)/\Q (.int ys.length) H):=by
 intro pins s σ H xs us Q I r h
 obtain⟨p,ys,rfl,hq,q⟩:=h
 obtain⟨u,rfl,rx⟩:=v5 r
 cases rx
 have hn:=uS
 rcases hq with hq | hq
 ·obtain⟨its,r',pl,hz⟩:=I.list hq
  have hlen:=r'.length
  exact Calls.call_len_list pl.isList (by simp only[size_toArray] <;> omega) ⟨.int ys.length,H,I.tok _,⟨s.toks+1,by rw[size_toArray,hlen]⟩,q⟩
 ·obtain⟨its,r',pl,hz⟩:=I.tuple hq
  have hlen:=r'.length
  exact len_tuple pl (by simp only[size_toArray] <;> omega) ⟨.int ys.length,H,I.tok _,⟨s.toks+1,by rw[size_toArray,hlen]⟩,q⟩
def z9:gM X (.builtin "len") (fun xs H Q=>∃ z,xs=[.str z]/\z.length<=sizeLine/\Q (.int z.length) H):=by
 intro pins s σ H xs us Q I r h
 obtain⟨z,rfl,hz,q⟩:=h
 obtain⟨u,rfl,t,rfl⟩:=v5 r
 have hn:=uS
 exact len_str (by omega) ⟨.int z.length,H,I.tok _,⟨_,rfl⟩,q⟩
def vX:gM X (.type "tuple") (fun xs H Q=>∃ p ys,xs=[.ref p]/\((SqL X.K H p ys/\∀ l,H l=none->Q (.ref l) (upd H l (.tup ys)))\/(SqT X.K H p ys/\Q (.ref p) H))):=by
 intro pins s σ H xs us Q I r h
 obtain⟨p,ys,rfl,h⟩:=h
 obtain⟨u,rfl,rx⟩:=v5 r
 cases rx
 rcases h with ⟨hq,q⟩ | ⟨hq,q⟩
 ·obtain⟨its,r',pl,hz⟩:=I.list hq
  have hlen:=r'.length
  refine call_tuple_list pl.isList (fun h' kp=>?_) (by simp only[size_toArray] <;> omega)
  have I1:Inv X pins σ H { s with heap:=h' }:=I.kept (t':=s.toks) kp
  have I2:Inv X pins σ (upd H h'.objs.size (.tup ys)) { s with heap:=h'.push { cls:=.type "tuple",data:=.seq its.toArray } }:=
   I1.laid (t':=s.toks) (fun b o e=>get?_push_of_some _ e) (le_refl _) (show d8 X.prog X.w _ _ _ (.tup ys) from ⟨hz,its,r',IsTup.new _ _⟩)
  exact⟨.ref h'.objs.size,_,I2,rfl,q _ (I1.hok.fresh (le_refl _))⟩
 ·obtain⟨its,r',pl,hz⟩:=I.tuple hq
  exact call_tuple_same pl ⟨.ref p,H,I,rfl,q⟩
def tyV (K:K6) (T:String) (x:V) (H:Hp):Prop:=match x with
 | .str _=>T = "str"
 | .int _=>T = "int"
 | .ref p=>(T = "list"/\∃ xs,SqL K H p xs)\/(T = "tuple"/\∃ o,K.lookup p=some o/\o.cls = .type "tuple"/\o.dict=none)\/
   (T = "dict"/\((∃ kvs,H p=some (.dK kvs))\/∃ kvs,H p=some (.dT kvs)))\/(T = "set"/\∃ S n,H p=some (.set S n))
 | _=>False
def Jd (I:Inv X pins σ H s) (r:bX x v) (ty:tyV X.K T x H) :
  s.TypeIs v T/\∀ a,v = .ref a->∃ ob,s.heap.get? a=some ob/\ob.dict=none:=by
 cases x with
 | str z=>
  obtain⟨t,rfl⟩:=r
  cases (show T = "str" from ty)
  exact⟨typeIs_str s z t,fun _ e=>nomatch e⟩
 | int i=>
  obtain⟨t,rfl⟩:=r
  cases (show T = "int" from ty)
  exact⟨typeIs_int s i t,fun _ e=>nomatch e⟩
 | ref p=>
  cases r
  rcases ty with ⟨rfl,xs,hq⟩ | ⟨rfl,o,hk,hc,hd⟩ | ⟨rfl,hk⟩ | ⟨rfl,S,n,hk⟩
  ·obtain⟨its,_,pl,_⟩:=I.list hq
   refine⟨pl.isList.typeIs,fun a e=>?_⟩
   cases e
   obtain⟨o,n,e,c,hd,_⟩:=pl
   exact⟨o,e,hd⟩
  ·refine⟨⟨o,I.kIn p o hk,hc⟩,fun a e=>?_⟩
   cases e
   exact⟨o,I.kIn _ o hk,hd⟩
  ·have z:∃ o,s.heap.get? p=some o/\o.ExactDict:=by
    rcases hk with ⟨kvs,hk⟩ | ⟨kvs,hk⟩
    ·obtain⟨_,_,_,_,o,_,_,e,ex,_⟩:=I.hok p _ hk
     exact⟨o,e,ex⟩
    ·obtain⟨_,_,_,_,o,_,_,e,ex,_⟩:=I.hok p _ hk
     exact⟨o,e,ex⟩
   obtain⟨o,e,ex⟩:=z
   refine⟨⟨o,e,ex.1⟩,fun a e2=>?_⟩
   cases e2
   exact⟨o,e,ex.2.1⟩
  ·obtain⟨o,_,_,_,e,ex,_⟩:=I.hok p _ hk
   refine⟨⟨o,e,ex.1⟩,fun a e2=>?_⟩
   cases e2
   exact⟨o,e,ex.2.1⟩
 | _=>exact False.elim ty
abbrev tBM_2 (r:V->Ln->Hp->VK->Prop) (Q:VK) (x:V):Ln->Hp->Prop:=fun xs H2=>r x xs H2 Q
abbrev tBM_1 (K:K6) (T:String) (r:V->Ln->Hp->VK->Prop) (t:TA) (σ : St) (Q:VK):V->Hp->Prop:=fun x H1=>tyV K T x H1/\t σ H1 (tBM_2 r Q x)
def tBM (K:K6) (T:String) (r:V->Ln->Hp->VK->Prop) (to:TE) (t:TA):TE:=fun σ H Q=>to σ H (tBM_1 K T r t σ Q)
variable {o e:Expr} {es:List Expr} {to:TE} {t:TA} {name:Str} {apos cpos:Pos} {T id:String} {r:V->Ln->Hp->VK->Prop}
def pe_bm (pa:PlainAttrs T) (slot:Slot T name id) (hty:typeOf (.builtin id)=pure (.type "method_descriptor")) (hm:MtR X id r) (ho:PE X o to) (ha:PA X (e::es) t)
  (hbase:attributeBase o name X.env (eval o X.env)=eval o X.env:=by rfl)
  (hfew:((backTo cpos (starEach (e::es) X.env)).all (fun x=>!x.1) && (backToKw cpos (keywordEach [] X.env)).all (fun x=>x.1.isSome)
   && decide ((e::es).length+([]:List Keyword).length+(if ([]:List Keyword).isEmpty then 0 else 1)<30))=true:=by rfl)
  (hline:(apos.endLine == cpos.line)=true:=by rfl) (hs:starEach (e::es) X.env=(false,eval e X.env)::starEach es X.env:=by rfl) (hplain:(backTo cpos (starEach es X.env)).any (·.1)=false:=by rfl) :
  PE X (.Call (.Attribute o name apos) (e::es) [] cpos) (tBM X.K T r to t):=by
 intro pins s σ H Q I h
 refine wpAny_Call_method_late hbase hfew hline rfl (thn (ho pins s σ H _ I h) fun v s1 zQq=>?_)
 obtain⟨x,H1,I1,r1,ty,q1⟩:=zQq
 obtain⟨h1,h2⟩:=Jd I1 r1 ty
 refine⟨T,id,pa,slot,hty,h1,h2,?_⟩
 have hA:=ha cpos pins s1 σ H1 _ I1 q1
 rw[hs]at hA ⊢
 refine Calls.callWith_builtin (by show (false || (backTo cpos (starEach es X.env)).any (·.1))=false; rw[hplain] <;> rfl) (Calls.evalArgs_plain ?_)
 exact thn hA fun us s2 ⟨vs,H2,I2,r2,q2⟩=>hm pins s2 σ H2 x vs v us Q I2 r1 r2 q2
end
def MtM (X:Cx) (id:String) (r:V->Ln->Hp->VK->Prop):Prop:=
 ∀ pins s σ H (x:V) (xs:Ln) (v:Value) (us:Lf) (Q:VK),Inv X pins σ H s->bX x v->bZ xs us->r x xs H Q->
  wpAny (model X.prog X.w) X.A (call (.builtin id) (v::us)) (EP X pins σ Q) X.xe s
def bZ.one:∀ {x:V} {us:Lf},bZ [x] us->∃ u,us=[u]/\bX x u
 | _,_,.cons r .nil=>⟨_,rfl,r⟩
section
variable {X:Cx} {pins:K7} {σ : St} {H:Hp} {s:Shared} {l b:Addr} {xs ys zs:Ln}
def Inv.lset {its its':Lf} {n:Nat} {f:Array Value->Array Value} {t':Nat} (I:Inv X pins σ H s) (hH:H l=some (.lst xs))
  (e:s.heap.get? l=some { cls:=.type "list",data:=.seq its.toArray n }) (hf:f its.toArray=its'.toArray) (hv:bZ ys its') (hz:ys.length<=sizeLine) :
  Inv X pins σ (upd H l (.lst ys)) { s with heap:=s.heap.update l (Obj.mapSeq f),toks:=t' }:=by
 have q:=PySem.IsL.update e f
 rw[hf]at q
 refine I.write (x:=l) (e:=l) (by rw[hH]; exact trivial) (.inl rfl) (fun b' u hb hu=>(Heap.get?_update_other s.heap (Obj.mapSeq f) (Ne.symm hb)).trans hu) ⟨_,q⟩ ?_
 exact⟨hz,its',_,hv,q⟩
def Inv.lnew (I:Inv X pins σ H s) (hv:bZ ys its) (hz:ys.length<=sizeLine) :
  Inv X pins σ (upd H s.heap.objs.size (.lst ys)) { s with heap:=s.heap.push { cls:=.type "list",data:=.seq its.toArray },toks:=t' }:=
 I.laid (fun _ _ q=>get?_push_of_some _ q) (le_refl _) ⟨hz,its,0,hv,get?_push_size _ rfl⟩
def Inv.fresh (I:Inv X pins σ H s):H s.heap.objs.size=none:=I.hok.fresh (le_refl _)
def Inv.lstM (I:Inv X pins σ H s) (hH:H l=some (.lst xs)):xs.length<=sizeLine/\∃ (its:Lf) (n:Nat),bZ xs its/\xs.length=its.length/\s.heap.get? l=some { cls:=.type "list",data:=.seq its.toArray n }:=by
 obtain⟨z,its,n,r,e⟩:=I.hok l _ hH
 exact⟨z,its,n,r,r.length,e⟩
end
section
variable {X:Cx}
inductive DT (x:V) (vs:Ln) (H:Hp) (Q:VK):Prop
 | mk:∀ l xs y,x = .ref l->vs=[y]->H l=some (.lst xs)->xs.length<sizeLine->Q .non (upd H l (.lst (xs++[y])))->DT x vs H Q
def iG:MtM X "list.append" DT:=by
 intro pins s σ H x vs v us Q I rx rv h
 obtain⟨l,xs,y,rfl,rfl,hH,hz,q⟩:=h
 cases rx
 obtain⟨u,rfl,ru⟩:=rv.one
 obtain⟨z,its,n,r,hl,e⟩:=I.lstM hH
 refine call_meets F.slot_list_append ⟨_,e,rfl⟩ F.entry_list_append (F.args_list_append_2 _ _) (PySem.list_append l its.toArray n u (by rw[size_toArray]; omega)) ⟨e,?_⟩
 refine⟨.non,_,I.lset (its':=its++[u]) hH e (by simp) (r.append (.cons ru .nil)) ?_,rfl,q⟩
 rw[length_append,List.length_singleton]
 omega
inductive rCat (x:V) (y:V) (H:Hp) (Q:VK):Prop
 | mk:∀ l b xs zs,x = .ref l->y = .ref b->H l=some (.lst xs)->H b=some (.lst zs)->xs.length+zs.length<=sizeLine->(∀ p,H p=none->Q (.ref p) (upd H p (.lst (xs++zs))))->rCat x y H Q
def GY:OpR X (binaryOp .Add) rCat:=by
 intro pins s σ H x y v u Q I rx ry h
 obtain⟨l,b,xs,zs,rfl,rfl,hH,hB,hz,q⟩:=h
 cases rx
 cases ry
 obtain⟨z,its,n,r,hl,e⟩:=I.lstM hH
 obtain⟨z2,its2,n2,r2,hl2,e2⟩:=I.lstM hB
 refine PySem.P.add_list e e2 ?_ (by rw[size_toArray,size_toArray]; omega)
 have ea:its.toArray++its2.toArray=(its++its2).toArray:=by simp
 rw[ea]
 exact⟨.ref _,_,I.lnew (t':=s.toks) (r.append r2) (by rw[length_append]; omega),rfl,q _ I.fresh⟩
end
section
variable {prog:Program} {w:World} {A:Around} {E:Lk} {s:Shared}
end
section
variable {X:Cx}
end
section
variable {κ : Type} [DecidableEq κ]
def dM (kvs:List (κ × V)) (k:κ):Option V:=(kvs.find? fun kv=>decide (kv.1=k)).map (·.2)
def eI (kvs:List (κ × V)) (k:κ) (v:V):List (κ × V):=
 if (kvs.any fun kv=>decide (kv.1=k))=true then kvs.map (fun kv=>if kv.1=k then (kv.1,v) else kv) else kvs++[(k,v)]
def eZ (kvs:List (κ × V)) (k:κ):List (κ × V):=kvs.filter fun kv=>decide (kv.1≠k)
def iK {p:κ × V} {r:List (κ × V)} {k:κ} (e:p.1=k):dM (p::r) k=some p.2:=by simp [dM,find?_cons,e]
def iM {p:κ × V} {r:List (κ × V)} {k:κ} (e:¬ p.1=k):dM (p::r) k=dM r k:=by simp [dM,find?_cons,e]
def oB (k:κ):∀ kvs:List (κ × V),(kvs.any fun kv=>decide (kv.1=k))=(dM kvs k).isSome
 | []=>rfl
 | p::r=>by
  rw[any_cons]
  by_cases e:p.1=k
  ·simp only[iK e,decide_eq_true e,Bool.true_or,Option.isSome_some]
  ·rw[iM e,decide_eq_false e,Bool.false_or]; exact oB k r
def mD (kvs:List (κ × V)) (k:κ) (v:V):(eI kvs k v).length<=kvs.length+1:=by
 unfold eI
 split
 ·rw[length_map]; omega
 ·rw[length_append,length_cons,List.length_nil]; omega
def GJ {kvs:List (κ × V)} {k:κ} (v:V) (h:dM kvs k=none):eI kvs k v=kvs++[(k,v)]:=by
 unfold eI
 rw[oB,h]
 exact if_neg (by decide)
def kK.isSome_eq (r:kK o u):o.isSome=u.isSome:=by
 cases o with
 | none=>cases u with
  | none=>rfl
  | some _=>exact(show False from r).elim
 | some _=>cases u with
  | none=>exact(show False from r).elim
  | some _=>rfl
def kK.getD (r:kK o u) (rd:bX d d'):bX (o.getD d) (u.getD d'):=by
 cases o with
 | none=>cases u with
  | none=>exact rd
  | some _=>exact(show False from r).elim
 | some _=>cases u with
  | none=>exact(show False from r).elim
  | some _=>exact r
def KV.val {kvs:List (κ × V)} {vs:List (κ × Value)} (r:KV kvs vs) (k:κ):kK (dM kvs k) (valueAt vs k):=by
 unfold KV at r
 induction r with
 | nil=>exact True.intro
 | @cons p q ps qs h t ih=>
  obtain⟨h1,h2⟩:=h
  by_cases e:p.1=k
  ·have e':q.1=k:=h1.symm.trans e
   have b:valueAt (q::qs) k=some q.2:=by simp [valueAt,find?_cons,e']
   rw[iK e,b]; exact h2
  ·have e':¬ q.1=k:=fun z=>e (h1.trans z)
   have b:valueAt (q::qs) k=valueAt qs k:=by simp [valueAt,find?_cons,e']
   rw[iM e,b]; exact ih
def KV.any (r:KV kvs vs) (k:κ):(kvs.any fun kv=>decide (kv.1=k))=vs.any fun kv=>decide (kv.1=k):=by
 unfold KV at r
 induction r with
 | nil=>rfl
 | cons h t ih=>rw[any_cons,any_cons,ih,h.1]
def KV.repl (r:KV kvs vs) (k:κ) (ry:bX y u) :
  KV (kvs.map fun kv=>if kv.1=k then (kv.1,y) else kv) (vs.map fun kv=>if kv.1=k then (kv.1,u) else kv):=by
 unfold KV at r ⊢
 induction r with
 | nil=>exact .nil
 | @cons p q ps qs h t ih=>
  rw[map_cons,map_cons]
  refine .cons ?_ ih
  obtain⟨h1,h2⟩:=h
  by_cases e:p.1=k
  ·rw[if_pos e,if_pos (h1.symm.trans e)]; exact⟨h1,ry⟩
  ·rw[if_neg e,if_neg (fun z=>e (h1.trans z))]; exact⟨h1,h2⟩
def KV.put (r:KV kvs vs) (k:κ) (ry:bX y u):KV (eI kvs k y) (stored vs k u):=by
 unfold eI stored
 rw[r.any k]
 by_cases e:(vs.any fun kv=>decide (kv.1=k))=true
 ·rw[if_pos e,if_pos e]; exact r.repl k ry
 ·rw[if_neg e,if_neg e]; exact Paired.snoc r ⟨rfl,ry⟩
def KV.drop (r:KV kvs vs) (k:κ):KV (eZ kvs k) (without vs k):=by
 unfold KV at r ⊢
 unfold eZ without
 induction r with
 | nil=>exact .nil
 | @cons p q ps qs h t ih=>
  obtain⟨h1,h2⟩:=h
  rw[filter_cons,filter_cons]
  by_cases e:p.1=k
  ·have a:¬ decide (p.1≠k)=true:=by simp [e]
   have b:¬ decide (q.1≠k)=true:=by simp [h1.symm.trans e]
   rw[if_neg a,if_neg b]; exact ih
  ·have e':¬ q.1=k:=fun z=>e (h1.trans z)
   have a:decide (p.1≠k)=true:=by simp [e]
   have b:decide (q.1≠k)=true:=by simp [e']
   rw[if_pos a,if_pos b]; exact .cons ⟨h1,h2⟩ ih
def KV.length (r:KV kvs vs):kvs.length=vs.length:=Paired.length r
def HM (kvs:List (κ × V)) (k:κ):(eZ kvs k).length<=kvs.length:=length_filter_le _ _
end
def nI (r:bX (kV k) u):(cE P w).is k u=true:=by
 cases k with
 | inl i=>obtain⟨t,e⟩:=(show ∃ t,u=Value.int i t from r); subst e; exact BA P w i t
 | inr x=>obtain⟨t,e⟩:=(show ∃ t,u=Value.str x t from r); subst e; exact A9 P w x t
def xR:∀ {ks:List Key} {us:Lf},bZ (ks.map kV) us->ItemsAre (cE P w) ks us
 | [],_,r=>by rw[map_nil]at r; cases r; exact .nil
 | k::ks,_,r=>by
  rw[map_cons]at r
  cases r with
  | cons h t=>exact .cons (nI h) (xR t)
abbrev KT (H:Hp):List (List Key × V)->List (List Key × Addr × Value)->Prop:=Paired fun p q=>p.1=q.1/\H q.2.1=some (.tup (p.1.map kV))/\bX p.2 q.2.2
def KT.val {H:Hp} {kvs:List (List Key × V)} {xs:List (List Key × Addr × Value)} (r:KT H kvs xs) (k:List Key):kK (dM kvs k) ((atKey xs k).map (·.2)):=by
 induction r with
 | nil=>exact True.intro
 | @cons p q ps qs h t ih=>
  obtain⟨h1,_,h2⟩:=h
  by_cases e:p.1=k
  ·have e':q.1=k:=h1.symm.trans e
   have b:atKey (q::qs) k=some q.2:=by simp [atKey,find?_cons,e']
   rw[iK e,b]; exact h2
  ·have e':¬ q.1=k:=fun z=>e (h1.trans z)
   have b:atKey (q::qs) k=atKey qs k:=by simp [atKey,find?_cons,e']
   rw[iM e,b]; exact ih
def KT.repl (r:KT H kvs xs) (k:List Key) (ry:bX y u) :
  KT H (kvs.map fun kv=>if kv.1=k then (kv.1,y) else kv) (xs.map (putAt k u)):=by
 induction r with
 | nil=>exact .nil
 | @cons p q ps qs h t ih=>
  rw[map_cons,map_cons]
  refine .cons ?_ ih
  obtain⟨h1,h2,h3⟩:=h
  unfold putAt
  by_cases e:p.1=k
  ·rw[if_pos e,if_pos (h1.symm.trans e)]; exact⟨h1,h2,ry⟩
  ·rw[if_neg e,if_neg (fun z=>e (h1.trans z))]; exact⟨h1,h2,h3⟩
def KT.put (r:KT H kvs xs) (k:List Key) (hb:H b=some (.tup (k.map kV))) (ry:bX y u) :
  KT H (eI kvs k y) (storedH xs k b u):=by
 have e:(kvs.any fun kv=>decide (kv.1=k))=(atKey xs k).isSome:=by
  rw[oB,(r.val k).isSome_eq,isSome_map]
 unfold eI storedH
 rw[e]
 by_cases q:(atKey xs k).isSome=true
 ·rw[if_pos q,if_pos q]; exact r.repl k ry
 ·rw[if_neg q,if_neg q]; exact Paired.snoc r ⟨rfl,hb,ry⟩
def KT.keeps (r:KT H kvs xs) (ht:∀ b ys,H b=some (.tup ys)->H' b=some (.tup ys)):KT H' kvs xs:=
 Paired.mapP r fun _ _ z=>⟨z.1,ht _ _ z.2.1,z.2.2⟩
section
variable {P:Program} {w:World} {H:Hp} {h:Heap} {a:Addr}
def JP (ok:HOk P w H h) (e:Rd H a u):d8 P w H h a u:=e.ok ok
def x8 (ok:HOk P w H h) (e:Rd H a (.dK kvs)):kvs.length<=sizeLine/\(a == sysModules)=false/\∃ vs,KV kvs vs/\h.DictOf (cE P w) a vs:=
 show d8 P w H h a (.dK kvs) from JP ok e
def BQ (ok:HOk P w H h) (e:H a=some (.dK kvs)):kvs.length<=sizeLine/\(a == sysModules)=false/\∃ vs,KV kvs vs/\h.DictOf (cE P w) a vs:=x8 ok (.inl e)
def qR (ok:HOk P w H h) (e:H a=some (.tup (ks.map kV))):(tupleKind (cE P w)).is h ks a:=by
 obtain⟨_,its,r,o,h1,h2,n,h3⟩:=(show d8 P w H h a (.tup (ks.map kV)) from ok a _ e)
 exact⟨o,its.toArray,n,h1,h2,h3,by simpa using xR r⟩
def x3 (ok:HOk P w H h) (e:Rd H a (.dT kvs)):kvs.length<=sizeLine/\(a == sysModules)=false/\
  ∃ xs,KT H kvs xs/\h.DictOfH (tupleKind (cE P w)) a xs:=by
 obtain⟨z,y,xs,r,o,es,ep,h1,h2,h3,h4,h5⟩:=(show d8 P w H h a (.dT kvs) from JP ok e)
 refine⟨z,y,xs,r,o,es,ep,h1,h2,h3,h4,fun x hx=>?_,h5⟩
 have all:∀ {l:List (List Key × V)} {m:List (List Key × Addr × Value)},KT H l m->∀ x∈m,(tupleKind (cE P w)).is h x.1 x.2.1:=by
  intro l m q
  induction q with
  | nil=>intro x hx; exact nomatch hx
  | @cons p q ps qs hq t ih=>
   intro x hx
   rcases mem_cons.mp hx with e | hx
   ·subst e
    exact qR ok (by rw[<- hq.1]; exact hq.2.1)
   ·exact ih x hx
 exact all r x hx
def dt_of (ok:HOk P w H h) (e:H a=some (.dT kvs)):kvs.length<=sizeLine/\(a == sysModules)=false/\
  ∃ xs,KT H kvs xs/\h.DictOfH (tupleKind (cE P w)) a xs:=x3 ok (.inl e)
end
def cS (H:Hp) (a:Addr) (y:V) (r:Option V):Prop:=
 (∃ kvs k,Rd H a (.dK kvs)/\y=kV k/\r=dM kvs k)\/∃ kvs k b,Rd H a (.dT kvs)/\y = .ref b/\H b=some (.tup (k.map kV))/\r=dM kvs k
def kM (H:Hp) (a:Addr) (y v:V) (H':Hp):Prop:=
 (∃ kvs k,H a=some (.dK kvs)/\y=kV k/\kvs.length<sizeLine/\H'=upd H a (.dK (eI kvs k v)))\/
 ∃ kvs k b,H a=some (.dT kvs)/\y = .ref b/\H b=some (.tup (k.map kV))/\kvs.length<sizeLine/\H'=upd H a (.dT (eI kvs k v))
def cS.k {H:Hp} {a:Addr} {kvs:Ll} {k:Key} (e:H a=some (.dK kvs)):cS H a (kV k) (dM kvs k):=.inl ⟨kvs,k,.inl e,rfl,rfl⟩
def kM.k {H:Hp} {a:Addr} {kvs:Ll} {k:Key} {v:V} (e:H a=some (.dK kvs)) (hl:kvs.length<sizeLine):kM H a (kV k) v (upd H a (.dK (eI kvs k v))):=.inl ⟨kvs,k,e,rfl,hl,rfl⟩
section
variable {X:Cx} {pins:K7} {σ : St} {H:Hp} {s:Shared} {a:Addr} {y v:V} {u r:Value} {o:Option V} {A:Around} {E:Lk}
def Inv.big (I:Inv X pins σ H s):sysModules<s.heap.objs.size:=by
 have h:mainGlobals<s.heap.objs.size:=(I.mod.glob.keeps I.bk).lt
 exact lt_trans (by decide) h
def yB (hu:A.units+1<cLine) (I:Inv X pins σ H s) (g:cS H a y (some v)) (ry:bX y u) (h:∀ w' s',Inv X pins σ H s'->bX v w'->Q w' s') :
  wpAny (model X.prog X.w) A (getItem (.ref a) u) Q E s:=by
 rcases g with ⟨kvs,k,e,ey,l⟩ | ⟨kvs,k,b,e,ey,eb,l⟩
 ·subst ey
  obtain⟨z,hd,vs,rel,dd⟩:=x8 I.hok e
  obtain⟨w',hw,rw'⟩:=kK.some_of (v:=v) (o:=valueAt vs k) (by rw[l]; exact rel.val k)
  exact wpAny_getItem_of (nI ry) dd.mapOf hw (h w' _ (I.tok _) rw')
 ·subst ey
  cases (show u=Value.ref b from ry)
  obtain⟨z,hd,xs,rel,dd⟩:=x3 I.hok e
  obtain⟨w',hw,rw'⟩:=kK.some_of (v:=v) (o:=(atKey xs k).map (·.2)) (by rw[l]; exact rel.val k)
  obtain⟨p,hp,hp2⟩:=Option.map_eq_some_iff.mp hw
  refine wpAny_getItem_heap (tupleKind_room_in1 hu) (qR I.hok eb) dd hp ?_
  rw[hp2]
  exact h w' _ (I.tok _) rw'
def d_in (hu:A.units+1<cLine) (I:Inv X pins σ H s) (g:cS H a y o) (ry:bX y u) (h:∀ s',Inv X pins σ H s'->Q (.bool o.isSome) s') :
  wpAny (model X.prog X.w) A (compareOp .In u (.ref a)) Q E s:=by
 rcases g with ⟨kvs,k,e,ey,l⟩ | ⟨kvs,k,b,e,ey,eb,l⟩
 ·subst ey
  obtain⟨z,hd,vs,rel,dd⟩:=x8 I.hok e
  refine wpAny_in_of (nI ry) hd dd.mapOf ?_
  rw[<- (rel.val k).isSome_eq,<- l]
  exact h _ (I.tok _)
 ·subst ey
  cases (show u=Value.ref b from ry)
  obtain⟨z,hd,xs,rel,dd⟩:=x3 I.hok e
  refine wpAny_in_heap (tupleKind_room_in1 hu) (qR I.hok eb) hd dd ?_
  have q:=(rel.val k).isSome_eq
  rw[isSome_map]at q
  rw[<- q,<- l]
  exact h _ (I.tok _)
def Iw (hu:A.units+1<cLine) (I:Inv X pins σ H s) (g:cS H a y o) (ry:bX y u) (h:∀ s',Inv X pins σ H s'->Q (.bool (!o.isSome)) s') :
  wpAny (model X.prog X.w) A (compareOp .NotIn u (.ref a)) Q E s:=by
 rcases g with ⟨kvs,k,e,ey,l⟩ | ⟨kvs,k,b,e,ey,eb,l⟩
 ·subst ey
  obtain⟨z,hd,vs,rel,dd⟩:=x8 I.hok e
  refine wpAny_notIn_of (nI ry) hd dd.mapOf ?_
  rw[<- (rel.val k).isSome_eq,<- l]
  exact h _ (I.tok _)
 ·subst ey
  cases (show u=Value.ref b from ry)
  obtain⟨z,hd,xs,rel,dd⟩:=x3 I.hok e
  refine wpAny_notIn_heap (tupleKind_room_in1 hu) (qR I.hok eb) hd dd ?_
  have q:=(rel.val k).isSome_eq
  rw[isSome_map]at q
  rw[<- q,<- l]
  exact h _ (I.tok _)
def sO (I:Inv X pins σ H s) (mu:Mut (H a)) (hs:Heap.SameBut a s.heap h') (he:∃ q,h'.get? a=some q) (new:d8 X.prog X.w (upd H a ob) h' a ob) :
  Inv X pins σ (upd H a ob) { s with heap:=h',toks:=t' }:=
 I.write (x:=a) (e:=a) mu (.inl rfl) (fun b q hb z=>(hs.2 b hb).trans z) he new
def Cq (z:kvs.length<=sizeLine) (hd:(a == sysModules)=false) (rel:KV kvs vs) (dd:h'.DictOf (cE P w) a vs) :
  d8 P w H' h' a (.dK kvs):=⟨z,hd,vs,rel,dd⟩
def yA (hu:A.units+1<cLine) (I:Inv X pins σ H s) (g:kM H a y v H') (ry:bX y u) (rv:bX v r) (h:∀ s',Inv X pins σ H' s'->Q () s') :
  wpAny (model X.prog X.w) A (setItem (.ref a) u r) Q E s:=by
 rcases g with ⟨kvs,k,e,ey,l,eH⟩ | ⟨kvs,k,b,e,ey,eb,l,eH⟩
 ·subst ey eH
  obtain⟨z,hd,vs,rel,dd⟩:=BQ I.hok e
  have hz:vs.length<=sizeLine:=by rw[<- rel.length]; exact z
  have hl:(eI kvs k v).length<=sizeLine:=by have:=mD kvs k v; omega
  refine wpAny_setItem_pairs (hsz:=hz) (nI ry) dd fun h' dd' hs=>h _ ?_
  have he:∃ q,h'.get? a=some q:=let ⟨q,_,_,hq,_⟩:=dd'; ⟨q,hq⟩
  exact sO I (by rw[e]; exact True.intro) hs he (Cq hl hd (rel.put k rv) dd')
 ·subst ey eH
  cases (show u=Value.ref b from ry)
  obtain⟨z,hd,xs,rel,dd⟩:=dt_of I.hok e
  have hz:xs.length<=sizeLine:=by rw[<- Paired.length rel]; exact z
  have hl:(eI kvs k v).length<=sizeLine:=by have:=mD kvs k v; omega
  refine wpAny_setItem_heap (hsz:=hz) (tupleKind_room_in1 hu) (qR I.hok eb) dd fun h' dd' hs=>h _ ?_
  obtain⟨q,es,ep,hq,h2,h3,h4,_,h5⟩:=dd'
  refine sO I (by rw[e]; exact True.intro) hs ⟨q,hq⟩ ⟨hl,hd,_,(rel.put k eb rv).keeps fun c ys ec=>?_,q,es,ep,hq,h2,h3,h4,h5⟩
  rw[aF (ne_of ec e (fun z=>nomatch z))]
  exact ec
end
section
variable {X:Cx} {pins:K7} {σ : St} {H:Hp} {s:Shared} {a:Addr} {kvs:Ll} {k:Key} {u:Value} {A:Around} {E:Lk}
def d_pop (I:Inv X pins σ H s) (e:H a=some (.dK kvs)) (ry:bX (kV k) u) (l:dM kvs k=some v) (hm:more=[]\/∃ x,more=[x])
  (h:∀ w' s',Inv X pins σ (upd H a (.dK (eZ kvs k))) s'->bX v w'->Q w' s'):wpAny (model X.prog X.w) A (call (.builtin "dict.pop") (.ref a::u::more)) Q E s:=by
 obtain⟨z,hd,vs,rel,dd⟩:=BQ I.hok e
 obtain⟨w',hw,rw'⟩:=kK.some_of (v:=v) (o:=valueAt vs k) (by rw[<- l]; exact rel.val k)
 have hp:(keyPart u).isSome=true:=by
  cases k with
  | inl i=>obtain⟨t,q⟩:=(show ∃ t,u=Value.int i t from ry); subst q; rfl
  | inr x=>obtain⟨t,q⟩:=(show ∃ t,u=Value.str x t from ry); subst q; rfl
 have ha:argsOk "dict.pop" ⟨.ref a::u::more,[]⟩:=by
  rcases hm with q | ⟨x,q⟩
  ·subst q; exact PySem.F.args_dict_pop_2 _ _
  ·subst q; exact PySem.F.args_dict_pop_3 _ _ _
 refine call_meetsIn PySem.F.slot_dict_pop dd.typeIs PySem.F.entry_dict_pop ha (meets_dict_pop_there (cE X.prog X.w) a (nI ry) more hm hp)
  ⟨vs,w',dd,by rw[<- rel.length]; exact z,hw,fun h' dd' hs=>h w' _ ?_ rw'⟩
 have he:∃ q,h'.get? a=some q:=let ⟨q,_,_,hq,_⟩:=dd'; ⟨q,hq⟩
 exact sO I (by rw[e]; exact True.intro) hs he (Cq (le_trans (HM kvs k) z) hd (rel.drop k) dd')
end
def K2 (i:Expr):Prop:=∀ ov iv,subscripted i false ov iv=operate [ov,iv] (getItem ov iv)
def C9 {prog:Program} {w:World} {A:Around} {E:Lk} {s:Shared} {env:Env} {value slice:Expr} {pos:Pos} {T id:String} {Q:Lk}
  (hl:typeLookup (.type T) "__getitem__" = pure (some (.builtin id))) (hs:K2 slice)
  (h:wpAny (model prog w) A (eval value env) (fun o s₁=>wpAny (model prog w) A (eval slice env) (fun i s₂=>s₂.TypeIs o T/\wpAny (model prog w) A (getItem o i) Q E s₂) E s₁) E s) :
  wpAny (model prog w) A (eval (.Subscript value slice pos) env) Q E s:=by
 refine Subscript_ (wpAny_mono h (fun o s₁ h₁=>wpAny_mono h₁ (fun i s₂ h₂=>?_) fun _ _ x=>x) fun _ _ x=>x)
 obtain⟨hT,h₂⟩:=h₂
 unfold subscriptTail
 refine wpAny_bind ?_
 rw[getitemInPython_of_ne hT.not_modules]
 refine wpAny_bind (wpAny_specialOf hT hl ?_)
 have fin:wpAny (model prog w) A (subscripted slice false o i) (fun r s₃=>wpAny (model prog w) A (letTemporaryGo value o r >>= fun _=>pure r) Q E s₃) E s₂:=by
  rw[hs o i]
  exact wpAny_operating (wpAny_mono h₂ (fun r s₃ h₃=>wpAny_bind (wpAny_letTemporaryGo (wpAny_pure h₃))) fun _ _ x=>x)
 first
  | exact wpAny_pure (wpAny_bind fin)
  | exact wpAny_bind (wpAny_pure (wpAny_bind fin))
  | exact wpAny_bind fin
def BS (I:Inv X pins σ H s) (g:cS H a y o):s.TypeIs (.ref a) "dict":=by
 rcases g with ⟨kvs,k,e,_,_⟩ | ⟨kvs,k,b,e,_,_,_⟩
 ·obtain⟨_,_,vs,_,dd⟩:=x8 I.hok e
  exact dd.typeIs
 ·obtain⟨_,_,xs,_,dd⟩:=x3 I.hok e
  exact dd.typeIs
inductive C5 (Q:VK) (x:V) (y:V) (H2:Hp):Prop
 | mk:∀ a v,x = .ref a->cS H2 a y (some v)->Q v H2->C5 Q x y H2
abbrev Hl (ty:TE) (σ : St) (Q:VK):V->Hp->Prop:=fun x H1=>ty σ H1 (C5 Q x)
def C6 (td ty:TE):TE:=fun σ H Q=>td σ H (Hl ty σ Q)
inductive Fc (Q:VK) (y:V) (x:V) (H2:Hp):Prop
 | mk:∀ a o,x = .ref a->cS H2 a y o->Q (.bl o.isSome) H2->Fc Q y x H2
abbrev Jr (td:TE) (σ : St) (Q:VK):V->Hp->Prop:=fun y H1=>td σ H1 (Fc Q y)
def tDIn (ty td:TE):TE:=fun σ H Q=>ty σ H (Jr td σ Q)
inductive wG (Q:VK) (y:V) (x:V) (H2:Hp):Prop
 | mk:∀ a o,x = .ref a->cS H2 a y o->Q (.bl (!o.isSome)) H2->wG Q y x H2
abbrev EG (td:TE) (σ : St) (Q:VK):V->Hp->Prop:=fun y H1=>td σ H1 (wG Q y)
def Hk (ty td:TE):TE:=fun σ H Q=>ty σ H (EG td σ Q)
inductive DP (D:Ends) (σ : St) (v:V) (x:V) (y:V) (H3:Hp):Prop
 | mk:∀ a H4,x = .ref a->kM H3 a y v H4->D.nx σ H4->DP D σ v x y H3
abbrev Hw (ty:TE) (D:Ends) (σ : St) (v:V):V->Hp->Prop:=fun x H2=>ty σ H2 (DP D σ v x)
abbrev Hx (td:TE) (ty:TE) (D:Ends) (σ : St):V->Hp->Prop:=fun v H1=>td σ H1 (Hw ty D σ v)
def JN (td ty tv:TE):TS:=fun D σ H=>tv σ H (Hx td ty D σ)
inductive DQ (D:Ends) (σ : St) (y:V) (a:Addr) (z:V) (H4:Hp):Prop
 | mk:∀ H5,kM H4 a y z H5->D.nx σ H5->DQ D σ y a z H4
abbrev Hy (rd:V->V->Hp->VK->Prop) (D:Ends) (σ : St) (y:V) (a:Addr) (v:V):V->Hp->Prop:=fun y2 H3=>rd v y2 H3 (DQ D σ y a)
inductive DR (tv:TE) (rd:V->V->Hp->VK->Prop) (D:Ends) (σ : St) (x:V) (y:V) (H2:Hp):Prop
 | mk:∀ a v,x = .ref a->cS H2 a y (some v)->tv σ H2 (Hy rd D σ y a v)->DR tv rd D σ x y H2
abbrev Hz (ty:TE) (tv:TE) (rd:V->V->Hp->VK->Prop) (D:Ends) (σ : St):V->Hp->Prop:=fun x H1=>ty σ H1 (DR tv rd D σ x)
def JO (td ty tv:TE) (rd:V->V->Hp->VK->Prop):TS:=fun D σ H=>td σ H (Hz ty tv rd D σ)
section
variable {X:Cx} {o i e value:Expr} {pos pos' tpos:Pos} {td ty tv:TE}
def eC (hu:X.A.units+1<cLine) (ho:PE X o td) (hi:PE X i ty) (hs:K2 i):PE X (.Subscript o i pos) (C6 td ty):=by
 intro pins s σ H Q I h
 refine C9 PySem.F.slot_dict_getitem.lookup hs (thn (ho pins s σ H _ I h) fun u s1 ⟨x,H1,I1,rx,q1⟩=>thn (hi pins s1 σ H1 _ I1 q1) fun iv s2 zQq=>?_)
 obtain⟨y,H2,I2,ry,a,v,ex,g,q2⟩:=zQq
 subst ex
 obtain rfl:u=Value.ref a:=rx
 exact⟨BS I2 g,yB hu I2 g ry fun w' s3 I3 rw'=>⟨v,H2,I3,rw',q2⟩⟩
def GU (hu:X.A.units+1<cLine) (hi:PE X i ty) (ho:PE X o td):PC X .In i o (tDIn ty td):=by
 intro pins s σ H Q I h
 refine thn (hi pins s σ H _ I h) fun iv s1 ⟨y,H1,I1,ry,q1⟩=>thn (ho pins s1 σ H1 _ I1 q1) fun u s2 zQq=>?_
 obtain⟨x,H2,I2,rx,a,ov,ex,g,q2⟩:=zQq
 subst ex
 obtain rfl:u=Value.ref a:=rx
 exact d_in hu I2 g ry fun s3 I3=>⟨.bl ov.isSome,H2,I3,rfl,q2⟩
def mV (hu:X.A.units+1<cLine) (hi:PE X i ty) (ho:PE X o td):PC X .NotIn i o (Hk ty td):=by
 intro pins s σ H Q I h
 refine thn (hi pins s σ H _ I h) fun iv s1 ⟨y,H1,I1,ry,q1⟩=>thn (ho pins s1 σ H1 _ I1 q1) fun u s2 zQq=>?_
 obtain⟨x,H2,I2,rx,a,ov,ex,g,q2⟩:=zQq
 subst ex
 obtain rfl:u=Value.ref a:=rx
 exact Iw hu I2 g ry fun s3 I3=>⟨.bl (!ov.isSome),H2,I3,rfl,q2⟩
def fT (hu:X.A.units+1<cLine) (ho:PE X o td) (hi:PE X i ty) (hv:PE X value tv) (hs:swapsWith value (some (.Subscript o i pos')) pos.line X.env=pure false) :
  PS X (.Assign [.Subscript o i pos'] value pos) (JN td ty tv):=by
 intro pins s σ H D I h
 refine wpAny_Assign_Subscript (thn (hv pins s σ H _ I h) fun r s1 ⟨v,H1,I1,rv,q1⟩=>thn (ho pins s1 σ H1 _ I1 q1) fun u s2 ⟨x,H2,I2,rx,q2⟩=>thn (hi pins s2 σ H2 _ I2 q2) fun iv s3 zQq=>?_) hs
 obtain⟨y,H3,I3,ry,a,H4,ex,g,q3⟩:=zQq
 subst ex
 obtain rfl:u=Value.ref a:=rx
 exact yA hu I3 g ry rv fun s4 I4=>⟨σ,H4,I4,q3⟩
def zB {op:Operator} {rd:V->V->Hp->VK->Prop} (hu:X.A.units+1<cLine) (ho:PE X o td) (hi:PE X i ty) (hv:PE X value tv) (hop:JE X op rd)
  (ha:∀ ov iv new,augStore i ov iv new=(do holding [new,ov,iv] (setItem ov iv new); release [new,ov,iv] []; pure .next)):PS X (.AugAssign (.Subscript o i tpos) op value pos) (JO td ty tv rd):=by
 intro pins s σ H D I h
 refine wpAny_AugAssign_SubscriptAny (thn (ho pins s σ H _ I h) fun u s1 ⟨x,H1,I1,rx,q1⟩=>thn (hi pins s1 σ H1 _ I1 q1) fun iv s2 zQq=>?_) ha
 obtain⟨y,H2,I2,ry,a,v,ex,g,q2⟩:=zQq
 subst ex
 obtain rfl:u=Value.ref a:=rx
 refine yB hu I2 g ry fun w' s3 I3 rw'=>thn (hv pins s3 σ H2 _ I3 q2) fun w2 s4 ⟨y2,H3,I4,ry2,q3⟩=>thn (hop pins s4 σ H3 v y2 w' w2 _ I4 rw' ry2 q3) fun w3 s5 zQq=>?_
 obtain⟨z,H4,I5,rz,H5,g5,q4⟩:=zQq
 exact yA hu I5 g5 ry rz fun s6 I6=>⟨σ,H5,I6,q4⟩
end
def BR (h:Heap) (hb:sysModules<h.objs.size):d8 P w H (h.push { cls:=.type "dict",data:=.dict #[] }) h.objs.size (.dK []):=
 ⟨zero_le _,beq_eq_false_iff_ne.mpr (Ne.symm (ne_of_lt hb)),[],.nil,Heap.DictOf.new h⟩
def Jq:TE:=fun _ H Q=>∀ p,H p=none->Q (.ref p) (upd H p (.dK []))
section
variable {X:Cx} {pos:Pos}
def jY:PE X (.Dict [] [] pos) Jq:=fun pins s σ H Q I h=>
 wpAny_Dict_empty ⟨.ref s.heap.objs.size,_,I.laid (a:=s.heap.objs.size) (o:=.dK []) (t':=s.toks) (fun _ _ q=>get?_push_of_some _ q) (le_refl _) (BR s.heap I.big),rfl,h _ (I.hok.fresh (le_refl _))⟩
end
def B0:List (TE × TE)->St->Hp->(List (V × V)->Hp->Prop)->Prop
 | [],_,H,Q=>Q [] H
 | (tk,tv)::r,σ,H,Q=>tk σ H fun x H1=>tv σ H1 fun y H2=>B0 r σ H2 fun ps H3=>Q ((x,y)::ps) H3
abbrev VV:List (V × V)->List (Value × Value)->Prop:=Paired fun p q=>bX p.1 q.1/\bX p.2 q.2
def PPs (X:Cx) (pos:Pos) (keys:List (Option Expr)) (values:List Expr) (trs:List (TE × TE)):Prop:=
 ∀ pins s σ H (Q:List (V × V)->Hp->Prop),Inv X pins σ H s->B0 trs σ H Q->
  wpAny (model X.prog X.w) X.A (evalPairs (pairTrees keys values X.env pos)) (fun vs s'=>∃ ps H',Inv X pins σ H' s'/\VV ps vs/\Q ps H') X.xe s
def IE {X:Cx} {pos:Pos}:PPs X pos [] [] []:=fun pins s σ H Q I h=>pairTrees_nil_walk ⟨[],H,I,.nil,h⟩
def iT {X:Cx} {pos:Pos} {k v:Expr} {ks:List (Option Expr)} {vs:List Expr} {tk tv:TE} {trs:List (TE × TE)} (hk:PE X k tk) (hv:PE X v tv) (hr:PPs X pos ks vs trs) :
  PPs X pos (some k::ks) (v::vs) ((tk,tv)::trs):=fun pins s σ H Q I h=>
 pairTrees_cons_walk (thn (hk pins s σ H _ I h) fun u s1 ⟨x,H1,I1,rx,q1⟩=>thn (hv pins s1 σ H1 _ I1 q1) fun w2 s2 ⟨y,H2,I2,ry,q2⟩=>
  thn (hr pins s2 σ H2 _ I2 q2) fun ws s3 ⟨ps,H3,I3,rel,q3⟩=>⟨(x,y)::ps,H3,I3,.cons ⟨rx,ry⟩ rel,q3⟩)
def qM (kvs more:Ll):Ll:=more.foldl (fun acc kv=>eI acc kv.1 kv.2) kvs
def KV.merge:∀ {more:Ll} {rs:List (Key × Value)} {kvs:Ll} {vs:List (Key × Value)},KV more rs->KV kvs vs->KV (qM kvs more) (merged vs rs):=by
 intro more rs kvs vs r
 unfold KV at r
 induction r generalizing kvs vs with
 | nil=>intro q; exact q
 | @cons p q ps qs h t ih=>
  intro r0
  have e:KV (eI kvs p.1 p.2) (stored vs q.1 q.2):=by
   have:=r0.put p.1 h.2
   rw[<- h.1]; exact this
  exact ih e
def nG:∀ (more kvs:Ll),(qM kvs more).length<=kvs.length+more.length
 | [],kvs=>by show kvs.length<=kvs.length+0; omega
 | p::r,kvs=>by
  have h1:=nG r (eI kvs p.1 p.2)
  have h2:=mD kvs p.1 p.2
  show (qM (eI kvs p.1 p.2) r).length<=_
  rw[length_cons]; omega
def vH:∀ {kvs:Ll} {ws:List (Value × Value)},VV (kvs.map fun kv=>(kV kv.1,kv.2)) ws->∃ rs,Carries (cE P w) ws rs/\KV kvs rs
 | [],_,r=>by rw[map_nil]at r; cases r; exact⟨[],True.intro,.nil⟩
 | p::kvs,_,r=>by
  rw[map_cons]at r
  cases r with
  | @cons a b as bs h t=>
   obtain⟨rs,c,q⟩:=vH (P:=P) (w:=w) t
   obtain⟨b1,b2⟩:=b
   exact⟨(p.1,b2)::rs,⟨nI h.1,rfl,c⟩,.cons ⟨rfl,h.2⟩ q⟩
def tDisp (trs:List (TE × TE)):TE:=fun σ H Q=>∀ p,H p=none->B0 trs σ (upd H p (.dK [])) fun ps H2=>H2 p=some (.dK [])/\∃ kvs:Ll,ps=kvs.map (fun kv=>(kV kv.1,kv.2))/\kvs.length<=15/\Q (.ref p) (upd H2 p (.dK (qM [] kvs)))
def IN {X:Cx} {pos:Pos} {keys:List (Option Expr)} {values:List Expr} {trs:List (TE × TE)} (h:PPs X pos keys values trs) (hall:keys.all (·.isSome)=true) (hl:keys.length=values.length) (h0:keys≠[])
  (h15:keys.length<=15):PE X (.Dict keys values pos) (tDisp trs):=by
 intro pins s σ H Q I q
 have hn:=I.hok.fresh (le_refl s.heap.objs.size)
 have I1:=I.laid (a:=s.heap.objs.size) (o:=.dK []) (h':=s.heap.push { cls:=.type "dict",data:=.dict #[] }) (t':=s.toks) (fun _ _ q=>get?_push_of_some _ q) (le_refl _) (BR s.heap I.big)
 refine wpAny_Dict_walk (knd:=cE X.prog X.w) hall hl h0 h15 (thn (h pins _ σ _ _ I1 (q _ hn)) fun ws s2 zQq=>?_)
 obtain⟨ps,H2,I2,rel,e,kvs,ep,lk,q2⟩:=zQq
 subst ep
 obtain⟨rs,c,rk⟩:=vH (P:=X.prog) (w:=X.w) rel
 obtain⟨z,hd,vs0,r0,dd⟩:=BQ I2.hok e
 cases r0
 refine⟨rs,c,dd,fun h' dd' hs=>⟨.ref s.heap.objs.size,_,?_,rfl,q2⟩⟩
 have hz:(qM [] kvs).length<=sizeLine:=by
  have h1:=nG kvs []
  rw[List.length_nil]at h1
  rw[sizeLine_eq]; omega
 have he:∃ q,h'.get? s.heap.objs.size=some q:=let ⟨q,_,_,hq,_⟩:=dd'; ⟨q,hq⟩
 exact sO I2 (by rw[e]; exact True.intro) hs he (Cq hz hd (rk.merge .nil) dd')
structure M1 (X:Cx) (o:Expr) (m:Str) (apos:Pos) (e:Expr) (cpos:Pos):Prop where
 base:attributeBase o m X.env (eval o X.env)=eval o X.env
 few:((backTo cpos (starEach [e] X.env)).all (fun x=>!x.1) && (backToKw cpos (keywordEach [] X.env)).all (fun x=>x.1.isSome)
  && decide (([e]:List Expr).length+([]:List Keyword).length+(if ([]:List Keyword).isEmpty then 0 else 1)<30))=true
 line:(apos.endLine == cpos.line)=true
 trees:backTo cpos (starEach [e] X.env)=[(false,eval e X.env)]
section
variable {X:Cx} {pins:K7} {σ : St} {H:Hp} {s:Shared} {a:Addr} {y d:V} {u r:Value} {o:Option V} {A:Around} {E:Lk}
def Kt (hu:A.units+1<cLine) (I:Inv X pins σ H s) (g:cS H a y o) (ry:bX y u) (rd:bX d r) (h:∀ w' s',Inv X pins σ H s'->bX (o.getD d) w'->Q w' s') :
  wpAny (model X.prog X.w) A (call (.builtin "dict.get") [.ref a,u,r]) Q E s:=by
 rcases g with ⟨kvs,k,e,ey,l⟩ | ⟨kvs,k,b,e,ey,eb,l⟩
 ·subst ey
  obtain⟨z,hd,vs,rel,dd⟩:=x8 I.hok e
  refine call_meetsIn PySem.F.slot_dict_get dd.typeIs PySem.F.entry_dict_get (PySem.F.args_dict_get_3 _ _ _) (meets_dict_get_default (cE X.prog X.w) a (nI ry) hd r) ⟨_,dd.mapOf,h _ _ (I.tok _) ?_⟩
  rw[l]
  exact(rel.val k).getD rd
 ·subst ey
  cases (show u=Value.ref b from ry)
  obtain⟨z,hd,xs,rel,dd⟩:=x3 I.hok e
  refine call_meetsIn PySem.F.slot_dict_get dd.typeIs PySem.F.entry_dict_get (PySem.F.args_dict_get_3 _ _ _) (meetsH_dict_get_default (tupleKind (cE X.prog X.w)) a b hd r) ⟨tupleKind_room_in1 hu,k,xs,qR I.hok eb,dd,h _ _ (I.tok _) ?_⟩
  rw[l]
  exact(rel.val k).getD rd
end
section
variable {X:Cx} {o e f:Expr} {apos cpos:Pos} {td ty tx:TE}
end
section
variable {X:Cx} {pins:K7} {σ : St} {H:Hp} {s:Shared} {a:Addr} {kvs:Ll} {A:Around} {E:Lk}
end
section
variable {X:Cx} {pins:K7} {σ : St} {H:Hp} {s:Shared} {a:Addr} {y:V} {u:Value} {A:Around} {E:Lk}
end
end L2
namespace Att
open PySem PySem.W PySem.Calls PyProof.Rows
def r8:∀ (ns:Lc) (vs:Lf),WellAll P h vs (ns.map WData.int)->IntsAre vs ns:=by
 intro ns
 induction ns with
 | nil=>
  intro vs w
  rw[map_nil]at w
  cases w
  exact .nil
 | cons n ns ih=>
  intro vs w
  rw[map_cons]at w
  cases w with
  | cons a b=>
   cases a
   exact .cons _ _ (ih _ b)
def EJ {l:OpenLaw} {n:Nat} (hn:l.most=some n) {P:Params} {h:Heap} {args:List WData} {vals:Lf}
  (hpre:l.row.toRowW.claim.pre args=true) (hwl:WellAll P h vals args) :
  ∃ a vs ns,vals=[Value.ref a]/\args=[WData.list (ns.map WData.int)]/\h.get? a=some { cls:=.type "list",data:=.seq vs.toArray }/\IntsAre vs ns/\ns.length<=n:=by
 have hsh:WShape.hasAll [] args [.list .int]=true:=(pre_splitW hpre).1
 have hc:l.pre.holds [] { args:=args }=true:=(pre_splitW hpre).2
 obtain⟨d,r,rfl,h1,h2⟩:=hasAllW_cons hsh
 obtain rfl:=hasAllW_nil h2
 obtain⟨xs,rfl,h3⟩:=hasW_list h1
 obtain⟨ns,rfl⟩:=items_int h3
 have hlen:ns.length<=n:=by
  unfold OpenLaw.pre at hc
  have h4:(WTm.not (.lt (.lit (.int (n:Int))) (.len (.arg 0)))).holds [] { args:=[.list (ns.map .int)] }=true:=by
   have h4:=(holds_andW hc).1
   rw[hn]at h4
   exact h4
  have h5:=condW_of h4 (w_not (w_lt w_lit (w_len_list (w_arg rfl))))
  rw[length_map]at h5
  refine Nat.le_of_not_lt fun q=>?_
  have q':(n:Int)<((ns.length:Nat):Int):=by omega
  first
   | (rw[decide_eq_true q']at h5; exact absurd h5 (by decide))
   | (simp at h5; omega)
 cases hwl with
 | cons w1 w2=>
  cases w2
  cases w1 with
  | list ho hall=>exact⟨_,_,ns,rfl,rfl,ho,r8 ns _ hall,hlen⟩
def ER (l:OpenLaw) (args:List WData):l.row.toRowW.claim.post args (.bool true) args=true:=
 postW_of (r:=l.row.toRowW) (X:=(true == true))
  (show WShape.has [] (.bool true) .bool=true by first | rfl | decide | simp [WShape.has,WShape.arms,WShape.armsAll])
  (show (WTm.eq .res (.lit (.bool true))).value [] { args:=args,res:=some (.bool true),after:=args }=some (.bool (true == true)) from w_eq_bool (w_res rfl) w_lit) rfl
def Bg {l:OpenLaw} {n:Nat} {q:Program} {loose:Ld} {XP:(K8)->Heap->Prop} {YP:World->Heap->Prop} {d:DefRec}
  (hn:l.most=some n) (hdf:d.params.defaults=[])
  (call:∀ (w:World) (s₀ s₁ : Shared) (mg mb:K8) (fa:Addr) (o:Obj) (pm cd doc:Value) (a:Addr) (vs:Lf) (ns:Lc),
   Ground q loose [] XP w s₀ mg mb s₁.heap->YP w s₁.heap->
   s₁.heap.get? fa=some o->o.data = .func (docDef d.name d.params d.body d.scope pm cd doc)->s₁.heap.CodeRec cd d.name->mg d.name=some (.ref fa)->
   s₁.heap.get? a=some { cls:=.type "list",data:=.seq vs.toArray }->IntsAre vs ns->ns.length<=n->s₁.gens = #[]->
   codeAny (model l.prog w) callerA (.call (.ref fa) ⟨[.ref a],[]⟩) (fun r s'=>r = .ok (.ret (.bool true))/\OldK s₁.heap s'.heap/\s'.os=s₁.os/\AllBare s'.gens) s₁) :
  WalkO q loose XP YP l.row.toRowW d [] (fun f vs=>PySem.call f vs):=by
 intro w s₀ s₁ mg mb G Y fa o pm cd doc dV kV ho hd hcd hD hmg hg args vals as hpre hlay hrd hwl hlo
 obtain rfl:dV = .none:=Dflts.none hD hdf
 obtain rfl:kV = .none:=Dflts.noKw hD
 obtain⟨a,vs,ns,rfl,rfl,hobj,hints,hlen⟩:=EJ hn hpre hwl
 refine enter_call (codeAny_mono (call w s₀ s₁ mg mb fa o pm cd doc a vs ns G Y ho (fd_plain hd) hcd hmg hobj hints hlen hg) fun r s' hq=>?_)
 obtain⟨rfl,h2,h3,h4⟩:=hq
 exact⟨.inl ⟨.bool true,.bool true,[],rfl,fun _=>rfl,.bool true,ER l _,fun _=>⟨List.Pairwise.nil,fun _ hm=>(nomatch hm)⟩⟩,h2,h3,h4⟩
section
variable {prog:Program} {w:World} {A:Around} {E:Lk} {s:Shared} {K:Frag}
end
end Att
namespace L2
open PySem PySem.Spec PyProof.Rows
def mM:∀ {vs:Lf} {ns:Lc},IntsAre vs ns->bZ (ns.map V.int) vs
 | _,_,.nil=>.nil
 | _,_,.cons n t h=>.cons ⟨t,rfl⟩ (mM h)
def K1 (H:Hp):Prop:=∀ b,H b=none\/∃ o xs,H b=some (.frz o (.lst xs))
def Gv {P:Program} {w:World} {K:K6} {mg mb:K8} {CX:CXT} {k:Nat} {fa a:Addr} {fd:Lh} {x:Str} {sp:Sp} {s₁ : Shared} {vs:Lf} {ns:Lc}
  (KX:K.In s₁.heap) (hns:s₁.heap.Ns mainGlobals mg) (hb:s₁.heap.Ns builtinsNs mb) (hbb:∀ x:Str,x ≠ "__name__"->mb x=bootBuiltins x) (hlim:s₁.heap.NoLimit) (hg:s₁.gens = #[])
  (ha:s₁.heap.get? a=some { cls:=.type "list",data:=.seq vs.toArray }) (hi:IntsAre vs ns) (hl:ns.length<=sizeLine) (hr:Room k callerA)
  (F:∀ base:Heap,K.In base->base.Ns mainGlobals mg->FnOk P w K mg base CX k fa fd [x] sp) (hbind:∀ (s:Shared) (u:Value),BindsTo s fd ⟨[u],[]⟩ [(x,u)])
  (hsp:∀ H:Hp,K1 H->SqL K H a (ns.map V.int)->sp [.ref a] H (fun v _=>v = .bl true) fun _ _ _=>False)
  (hCX:∀ H e s',CX [] H s₁ (fun _ _ _=>False) e s'->False) :
  codeAny (model P w) callerA (.call (.ref fa) ⟨[.ref a],[]⟩) (fun r s'=>r = .ok (.ret (.bool true))/\OldK s₁.heap s'.heap/\s'.os=s₁.os/\AllBare s'.gens) s₁:=by
 have rv:=mM hi
 have lenV:=hi.length
 -- from an abstract heap in which nothing but the script may be tracked
 have core:∀ H:Hp,K1 H->SqL K H a (ns.map V.int)->HOk P w H s₁.heap->(∀ b,H b≠none->b=a)->(H a≠none->K.lookup a=none)->
   codeAny (model P w) callerA (.call (.ref fa) ⟨[.ref a],[]⟩) (fun r s'=>r = .ok (.ret (.bool true))/\OldK s₁.heap s'.heap/\s'.os=s₁.os/\AllBare s'.gens) s₁:=by
  intro H hO hS hok hA hK
  have base_of:∀ {b:Addr} {o:Obj},s₁.heap.get? b=some o->H b=none->(zR s₁.heap H).get? b=some o:=fun e n=>HA e n
  have noA:∀ {b:Addr} {o:Obj} {es:Array DictEntry} {ep:Nat},s₁.heap.get? b=some o->o.data = .dict es ep->H b=none:=fun {b o es ep} e d=>by
   cases q:H b with
   | none=>rfl
   | some u=>
    have e':b=a:=hA b (by rw[q]; simp)
    subst e'
    rw[ha]at e; cases e
    have d':Data.seq vs.toArray _=Data.dict es ep:=d
    cases d'
  have nsK:∀ {b:Addr} {m:K8},s₁.heap.Ns b m->(zR s₁.heap H).Ns b m:=fun {b m} ⟨o,es,ep,e,d,r⟩=>⟨o,es,ep,base_of e (noA e d),d,r⟩
  have hKb:K.In (zR s₁.heap H):=fun b o e=>base_of (KX b o e) (by
   cases q:H b with
   | none=>rfl
   | some u=>
    have e':b=a:=hA b (by rw[q]; simp)
    subst e'
    rw[hK (by rw[q]; simp)]at e; cases e)
  have hM:Mod K mg (zR s₁.heap H):=⟨hKb,nsK hns,⟨mb,nsK hb,hbb⟩,let ⟨mc,h1,h2⟩:=hlim; ⟨mc,nsK h1,h2⟩⟩
  have e0:Env0 P w K mg (zR s₁.heap H) callerA [] s₁ H:=⟨rfl,hM,fun b o e=>Id e,Nat.le_of_eq (E8 _ _),trivial,fun b hb=>absurd (show b∈([]:List Addr) from hb) (by simp),hok,.of_eq hg⟩
  refine codeAny_mono ((F _ hKb (nsK hns)).run callerA [] s₁ H ⟨[.ref a],[]⟩ [.ref a] [.ref a] _ _ hr e0 (hbind s₁ (.ref a)) (.cons rfl .nil) (hsp H hO hS)) fun r s' h=>?_
  cases r with
  | error e=>exact(hCX H e s' h).elim
  | ok fl=>
   cases fl with
   | next=>exact False.elim h
   | brk=>exact False.elim h
   | cont=>exact False.elim h
   | ret u=>
    obtain⟨v,H',os,bare,un,hok',r',q⟩:=h
    have q':v = .bl true:=q
    subst q'
    obtain rfl:u=Value.bool true:=r'
    refine⟨rfl,OldK.of_keep fun b o e=>?_,os,bare⟩
    cases q:H b with
    | none=>exact un.keep b o e q (by intro z; exact absurd (show b∈([]:List Addr) from z) (by simp)) (by simp)
    | some u=>
     rcases hO b with z | ⟨ob,xs,z⟩
     ·rw[q]at z; cases z
     ·have z2:=un.frzs b ob _ z
      obtain⟨e1,_⟩:=hok b _ z
      obtain⟨e2,_⟩:=hok' b _ z2
      rw[e]at e1; cases e1
      exact e2
 cases hk:K.lookup a with
 | some o=>
  -- the script is one of the module's own objects
  have e:=KX a o hk
  rw[ha]at e
  cases e
  refine core (fun _=>none) (fun _=>.inl rfl) (.inr ⟨_,vs.toArray,_,hk,rfl,rfl,rfl,by rw[size_toArray,lenV]; exact hl,by simpa using rv⟩) (fun b u z=>by have z':(none:Option HO)=some u:=z; cases z') (fun b z=>absurd rfl z) fun z=>absurd rfl z
 | none=>
  refine core (fun b=>if b=a then some (.frz { cls:=.type "list",data:=.seq vs.toArray } (.lst (ns.map V.int))) else none) (fun b=>?_) (.inl (.inr ⟨{ cls:=.type "list",data:=.seq vs.toArray },if_pos rfl⟩)) (fun b u z=>?_) (fun b z=>?_) fun _=>hk
  ·by_cases hb:b=a
   ·exact .inr ⟨_,_,if_pos hb⟩
   ·exact .inl (if_neg hb)
  ·by_cases hb:b=a
   ·have z':=(if_pos hb).symm.trans z
    cases z'
    subst hb
    exact⟨ha,by rw[length_map]; exact hl,vs,_,rv,ha⟩
   ·have z':=(if_neg hb).symm.trans z
    cases z'
  ·by_cases hb:b=a
   ·exact hb
   ·exact absurd (if_neg hb) z
def Hh {l:PySem.W.OpenLaw} {n k:Nat} {q:Program} {loose:Ld} {XP:(K8)->Heap->Prop} {YP:World->Heap->Prop} {d:DefRec} {K:Params->K6} {CX:World->CXT} {sp:World->Sp} {x:Str}
  (hn:l.most=some n) (hn2:n<=sizeLine) (hdf:d.params.defaults=[]) (hr:Room k callerA)
  (hY:∀ (w:World) (h:Heap),YP w h->(K w.params).In h)
  (F:∀ (w:World) (mg:K8) (fa:Addr) (h:Heap),(K w.params).In h->h.Ns mainGlobals mg->mg d.name=some (.ref fa)->
   ∃ fd:Lh,(∀ (s:Shared) (u:Value),BindsTo s fd ⟨[u],[]⟩ [(x,u)])/\
    ∀ base:Heap,(K w.params).In base->base.Ns mainGlobals mg->FnOk l.prog w (K w.params) mg base (CX w) k fa fd [x] (sp w))
  (hsp:∀ (w:World) (H:Hp) (a:Addr) (ns:Lc),ns.length<=n->K1 H->SqL (K w.params) H a (ns.map V.int)->sp w [.ref a] H (fun v _=>v = .bl true) fun _ _ _=>False)
  (hCX:∀ (w:World) (H:Hp) (s:Shared) (e:Value) (s':Shared),CX w [] H s (fun _ _ _=>False) e s'->False) :
  PySem.W.WalkO q loose XP YP l.row.toRowW d [] (fun f vs=>PySem.call f vs):=by
 refine Att.Bg hn hdf fun w s₀ s₁ mg mb fa o pm cd doc a vs ns G Y ho hd hcd hmg hobj hints hlen hg=>?_
 have KX:=hY w _ Y
 obtain⟨fd,hb,hF⟩:=F w mg fa _ KX G.T.g hmg
 exact Gv KX G.T.g G.T.b G.T.builtins G.T.nolimit hg hobj hints (le_trans hlen hn2) hr hF hb (fun H hO hS=>hsp w H a ns hlen hO hS) fun H e s'=>hCX w H s₁ e s'
def bH (s:Stmt) (j:Nat):Stmt:=match s with
 | .ClassDef _ _ _ body _ _ _ _ _ _ _=>body.getD j (.Pass ⟨0,0,0,0⟩)
 | _=>.Pass ⟨0,0,0,0⟩
def gF (s:Stmt):Arguments:=match s with
 | .FunctionDef _ a _ _ _ _ _ _ _ _=>a
 | _=>{ posonlyargs:=[],args:=[],vararg:=none,kwonlyargs:=[],kw_defaults:=[],kwarg:=none,defaults:=[] }
def fI (s:Stmt):List Stmt:=match s with
 | .FunctionDef _ _ b _ _ _ _ _ _ _=>b
 | _=>[]
def c8 (s:Stmt):Scope:=match s with
 | .FunctionDef _ _ _ _ _ _ sc _ _ _=>sc
 | _=>{ kind:=.function,names:=[],isGenerator:=false,isCoroutine:=false }
abbrev E0:XK:=fun _ _ _=>False
structure Fun (K:K6) (x qual:Str) (st:Stmt) (f:Addr) (fd:Lh):Prop where
 ex:∃ (oc:Value) (od:Option Addr) (kV doc pm:Value) (an:Option Addr) (cdv ct:Value) (osl:Lb),
  fd=fnOf x qual (gF st) (fI st) (c8 st) .none kV doc pm an cdv ct/\K.lookup f=some ⟨oc,od,.func fd,osl⟩/\codeIn K cdv qual=true
 kp:keepIn K (.ref f)=true
section
variable {P:Program} {w:World} {K:K6} {mg:K8} {base:Heap}
def Fun.binds {x qual:Str} {st:Stmt} {f:Addr} {fd:Lh} {ps:Ld} (F:Fun K x qual st f fd)
  (h:∀ (kV doc pm:Value) (an:Option Addr) (cdv ct:Value) (us:Lf),us.length=ps.length->bindArgs (fnOf x qual (gF st) (fI st) (c8 st) .none kV doc pm an cdv ct) ⟨us,[]⟩=pure (ps.zip us)):i3 K fd ps []:=by
 obtain⟨oc,od,kV,doc,pm,an,cdv,ct,osl,rfl,lk,hcd⟩:=F.ex
 exact .all (h kV doc pm an cdv ct)
def Cn {x qual:Str} {st:Stmt} {f:Addr} {oc:Value} {od an:Option Addr} {osl:Lb} {kV doc pm cdv ct:Value} (l:K.lookup f=some ⟨oc,od,.func (fnOf x qual (gF st) (fI st) (c8 st) .none kV doc pm an cdv ct),osl⟩)
  (c:codeIn K cdv qual=true) (k:keepIn K (.ref f)=true):Fun K x qual st f (fnOf x qual (gF st) (fI st) (c8 st) .none kV doc pm an cdv ct):=⟨⟨oc,od,kV,doc,pm,an,cdv,ct,osl,rfl,l,c⟩,k⟩
end
section
variable {X:Cx}
def pv (i:Nat) {x:Str} {pos:Pos} (hN:X.N[i]? = some x:=by rfl) (hv:Vis X.env.scope x:=by first | exact Or.inl rfl | exact Or.inr (Or.inl rfl) | exact Or.inr (Or.inr rfl)) (hd:(x == ("__debug__" : Str))=false:=by decide)
  (hcd:(x == ("__classdict__" : Str))=false:=by decide):PE X (.Name x pos) (nM i):=KG hN hv hd hcd
end
def bC {A B:Prop} (h:B):if false=true then A else B:=by
 rw[if_neg Bool.false_ne_true]
 exact h
def aT {A B:Prop} (h:A):if true=true then A else B:=by
 rw[if_pos rfl]
 exact h
def aG (H H':Hp):Prop:=∀ b o,H b=some o->H' b=some o
def aG.refl (H:Hp):aG H H:=fun _ _ h=>h
def aG.trans (a:aG H H1) (b:aG H1 H2):aG H H2:=fun c o h=>b c o (a c o h)
def aG.free (e:aG H H') (h:H' l=Option.none):H l=Option.none:=by
 cases q:H l with
 | none=>rfl
 | some o=>
  rw[e l o q]at h
  cases h
def aG.seq {K:K6} {H H':Hp} {a:Addr} {xs:Ln} (e:aG H H') (h:SqL K H a xs):SqL K H' a xs:=by
 rcases h with (h | ⟨o,h⟩) | h
 ·exact .inl (.inl (e _ _ h))
 ·exact .inl (.inr ⟨o,e _ _ h⟩)
 ·exact .inr h
section
variable {κ : Type} [DecidableEq κ]
def x5 {p:κ × V} {r:List (κ × V)} {k:κ} (e:p.1=k):eZ (p::r) k=eZ r k:=by
 unfold eZ
 rw[filter_cons,if_neg (by simp [e])]
def x6 {p:κ × V} {r:List (κ × V)} {k:κ} (e:¬ p.1=k):eZ (p::r) k=p::eZ r k:=by
 unfold eZ
 rw[filter_cons,if_pos (by simp [e])]
end
def K3 (B:Heap) (l:List Env) (e:Addr) (cls a0 fl:Value) (h:Heap):Prop:=B.StaysIn h/\B.get? e=none/\h.FunFrames B l/\h.TracedAtW B e cls a0 fl
structure Fly (P:Program) (w:World) (l:List Env) (H H':Hp) (s s':Shared) (e:Addr) (cls fl:Value):Prop where
 os:s'.os=s.os
 bare:AllBare s'.gens
 fr:∀ b o,s.heap.get? b=some o->H b=none->H' b=none
 tups:∀ b xs,H b=some (.tup xs)->H' b=some (.tup xs)
 frzs:∀ b o u,H b=some (.frz o u)->H' b=some (.frz o u)
 tbls:∀ b ps,H b=some (.tbl ps)->∃ more,H' b=some (.tbl (ps++more))
 sl:∀ b o,s.heap.get? b=some o->b∈frs l->∃ sl,s'.heap.get? b=some { o with slots:=sl }
 fly:∃ B a0,K3 B l e cls a0 fl s'.heap/\HOk P w H' B/\(∀ b o,s.heap.get? b=some o->H b=none->b ∉ frs l->B.get? b=some o)/\∀ b o,s.heap.get? b=some o->b ∉ frs l->∃ o',B.get? b=some o'
section
variable {P:Program} {w:World} {l:List Env} {H H':Hp} {s s':Shared} {e:Addr} {cls fl:Value}
def Fly.un (F:Fly P w l H H' s s' e cls fl):Un (frs l) [] H H' s.heap s'.heap:=by
 obtain⟨B,a0,fl,hk,kp,th⟩:=F.fly
 refine⟨fun b o q n hb _=>fl.1 _ _ (kp b o q n hb),fun b o q n hb _=>F.sl b o q hb,fun b o q n _=>F.fr b o q n,fun b o q _=>?_,F.tups,F.frzs,F.tbls⟩
 by_cases hb:b∈frs l
 ·obtain⟨sl,z⟩:=F.sl b o q hb
  exact⟨_,z⟩
 ·obtain⟨o',z⟩:=th b o q hb
  exact⟨o',fl.1 _ _ z⟩
def Fly.hok (F:Fly P w l H H' s s' e cls fl):HOk P w H' s'.heap:=by
 obtain⟨B,a0,fl,hk,_⟩:=F.fly
 exact hk.kept fun b o q=>fl.1 b o q
def Hr {h h':Heap} {B:Heap} {l:List Env} (fl:h.FunFrames B l) (u:h.UpToSlots h') {b:Addr} {o:Obj} {sl:Lb} (hb:b∈frs l) (e:h.get? b=some { o with slots:=sl }):∃ sl',h'.get? b=some { o with slots:=sl' }:=by
 obtain⟨_,o',ho,hd⟩:=fl.mem hb
 rw[e]at ho; cases ho
 obtain⟨sl',z⟩:=u b _ e hd
 exact⟨sl',z⟩
def Fly.go (F:Fly P w l H H' s s' e cls fl):∃ B a0,K3 B l e cls a0 fl s'.heap/\∀ h' fl',K3 B l e cls a0 fl' h'->s'.heap.UpToSlots h'->Fly P w l H H' s { s' with heap:=h' } e cls fl':=by
 obtain⟨B,a0,fl,hk,kp,th⟩:=F.fly
 refine⟨B,a0,fl,fun h' fl' f' up=>⟨F.os,F.bare,F.fr,F.tups,F.frzs,F.tbls,fun b o q hb=>?_,B,a0,f',hk,kp,th⟩⟩
 obtain⟨sl,z⟩:=F.sl b o q hb
 exact Hr (o:=o) fl.2.2.1 up hb z
def Fly.drop (F:Fly P w (env::outer) H H' s s' e cls fl) (hf:env.frame=some L)
  (hL:s₀.heap.objs.size<=L) (ho:s.os=s₀.os) (U:Un (frs outer) [] H₀ H s₀.heap s.heap) (hn:∀ b∈frs outer,H₀ b=none):Fly P w outer H₀ H' s₀ s' e cls fl:=by
 obtain⟨B,a0,⟨f1,f2,⟨_,_,f3⟩,f4⟩,hk,kp,th⟩:=F.fly
 have sub:∀ b,b∈frs (env::outer)->b=L\/b∈frs outer:=fun b hb=>by
  unfold frs at hb
  rw[filterMap_cons,hf]at hb
  exact mem_cons.mp hb
 have sup:∀ b,b∈frs outer->b∈frs (env::outer):=fun b hb=>by
  unfold frs
  rw[filterMap_cons,hf]
  exact mem_cons_of_mem _ hb
 have old:∀ b o,s₀.heap.get? b=some o->b ∉ frs outer->b ∉ frs (env::outer):=fun b o q hb z=>by
  rcases sub b z with rfl | z
  ·exact absurd (lt_of_lt_of_le (lt_size q) hL) (lt_irrefl _)
  ·exact hb z
 have nx:∀ b,b ∉ ([]:List Addr):=fun b=>by simp
 refine⟨F.os.trans ho,F.bare,fun b o q n=>?_,fun b xs q=>F.tups b xs (U.tups b xs q),fun b o u q=>F.frzs b o u (U.frzs b o u q),fun b ps q=>?_,fun b o q hb=>?_,B,a0,⟨f1,f2,f3,f4⟩,hk,fun b o q n hb=>?_,fun b o q hb=>?_⟩
 ·obtain⟨o',z⟩:=U.there b o q (nx b)
  exact F.fr b o' z (U.free b o q n (nx b))
 ·obtain⟨m1,z1⟩:=U.tbls b ps q
  obtain⟨m2,z2⟩:=F.tbls b _ z1
  exact⟨m1++m2,by rw[z2,Array.append_assoc]⟩
 ·obtain⟨sl,z⟩:=U.slot b o q (hn b hb) hb (nx b)
  obtain⟨sl',z'⟩:=F.sl b _ z (sup b hb)
  exact⟨sl',z'⟩
 ·exact kp b o (U.keep b o q n hb (nx b)) (U.free b o q n (nx b)) (old b o q hb)
 ·obtain⟨o',z⟩:=U.there b o q (nx b)
  exact th b o' z (old b o q hb)
def G9 {P:Program} {w:World} {H:Hp} {h:Heap} {l:List Addr} (x:HOk P w H h) (hl:∀ b∈l,H b=none):HOk P w H (hideAll h l):=fun a o e=>
 (x a o e).stay (fun b u hb q=>hideAll_get _ q fun hm=>by
  have n:=hl b hm
  rcases hb with rfl | hb
  ·rw[e]at n; cases n
  ·rw[hb]at n; cases n) (fun _ q=>q) fun _ _ q=>q
section
variable {M:Model} {A:Around} {E:Lk} {Q:Unit->Shared->Prop} {env:Env} {outer:List Env} {L:Addr}
def u9 (F:Fly P w l H H' s s' e cls fl) (hQ:∀ h',Fly P w l H H' s { s' with heap:=h' } e cls .none->Q () { s' with heap:=h' }):wpAny M A (setFlight (.ref e) none) Q E s':=by
 obtain⟨B,a0,⟨f1,f2,f3,f4⟩,go⟩:=F.go
 exact wpAny_setFlight_noneW f1 f3 f4 fun h' k1 k2 k3 k4=>hQ h' (go h' _ ⟨k1,f2,k2,k3⟩ fun b o hb hn=>⟨o.slots,k4 b o hb hn⟩)
def HF (F:Fly P w l H H' s s' e cls fl) (hQ:∀ h',Fly P w l H H' s { s' with heap:=h' } e cls (rawInt L)->Q () { s' with heap:=h' }):wpAny M A (setFlight (.ref e) (some L)) Q E s':=by
 obtain⟨B,a0,⟨hkb,hen,hl,oe,vs,T,oT,ts,he,hcls,hd,h1,hnT,hTe,hT,hdT,h3⟩,go⟩:=F.go
 have hsz3:3<ts.size:=(Array.getElem?_eq_some_iff.mp h3).1
 have other:∀ b,b≠T->(s'.heap.update T (Obj.mapFields (·.setIfInBounds 3 ((some L).elim Value.none fun f=>rawInt f)))).get? b=s'.heap.get? b:=
  fun b hb=>Heap.get?_update_other _ _ (Ne.symm hb)
 have noRecord:∀ b o,s'.heap.get? b=some o->(∀ vs,o.data ≠ .fields vs)->b≠T:=fun b o hb hnf q=>by
  rw[q,hT]at hb; injection hb with hb; subst hb; exact hnf ts hdT
 unfold setFlight
 refine wpAny_bind (wpAny_field he hd h1 ?_)
 rw[if_pos (show (Value.ref T != Value.none)=true from by simp)]
 refine wpAny_setField hT hdT hsz3 (hQ _ (go _ _ ⟨fun b o hbo=>(other b fun q=>by rw[q,hnT]at hbo; cases hbo).trans (hkb b o hbo),hen,
  hl.of_keeps fun b o hb hnf=>⟨o,(other b (noRecord b o hb hnf)).trans hb,rfl⟩,?_⟩ fun b o hb hnf=>⟨o.slots,(other b (noRecord b o hb hnf)).trans hb⟩))
 exact⟨oe,vs,T,_,_,(other e (Ne.symm hTe)).trans he,hcls,hd,h1,hnT,hTe,Heap.get?_update_self _ hT (Obj.isFreed_of_fields (Obj.data_mapFields hdT _)),Obj.data_mapFields hdT _,by simp [hsz3]⟩
def HG (hfr:A.frames=some (env::outer)) (hf:env.frame=some L) (F:Fly P w (env::outer) H H' s s' e cls .none)
  (hQ:∀ h',Fly P w (env::outer) H H' s { s' with heap:=h' } e cls (rawInt L)->Q () { s' with heap:=h' }):wpAny M A (noteFrame (.ref e) env) Q E s':=by
 obtain⟨B,a0,⟨f1,f2,f3,f4⟩,go⟩:=F.go
 exact wpAny_noteFrame_onW hfr f3 hf f4 f1 f2 fun h' ⟨k1,k2,k3,k4⟩=>hQ h' (go h' _ ⟨k1,f2,k2,k3⟩ k4)
def FA (hf:env.frame=some L) (F:Fly P w l H H' s s' e cls (rawInt L)) (hQ:Q () s'):wpAny M A (noteFrame (.ref e) env) Q E s':=by
 obtain⟨B,a0,⟨f1,f2,f3,f4⟩,go⟩:=F.go
 exact wpAny_noteFrame_againW hf f4 hQ
def Co (F:Fly P w l H H' s s' e cls fl) (hQ:∀ T:Addr,R (.ref T) s'):wpAny M A (field (.ref e) 1) R E s':=by
 obtain⟨B,a0,⟨hkb,hen,hl,oe,vs,T,oT,ts,he,hcls,hd,h1,_⟩,_⟩:=F.go
 exact wpAny_field he hd h1 (hQ T)
end
end
def CXE (P:Program) (w:World):CXT:=fun outer H s E e s'=>∃ (a:Addr) (cls:Value) (H':Hp),e = .ref a/\Fly P w outer H H' s s' a cls .none/\E cls none H'
def AtX (X:Cx) (pins:K7) (σ : St) (H':Hp) (s':Shared) (e:Addr) (cls:Value):Prop:=
 (∃ s args,Inv X pins σ H' s/\Heap.MadeExcOf s.heap s'.heap e cls args/\s' = { s with heap:=s'.heap })\/
 ∃ H s fl,Inv X pins σ H s/\Fly X.prog X.w X.stack H H' s s' e cls fl/\(fl = .none\/fl=rawInt X.env.locals)
structure Own (X:Cx):Prop where
 stk:X.stack=X.env::X.outer
 fra:X.env.frame=some X.env.locals
 ex:X.ex=[]
section
variable {X:Cx} {pins:K7} {σ : St} {H':Hp} {s':Shared} {e:Addr} {cls:Value}
def Es (O:Own X) (hfr:A.frames=some X.stack) (I:Inv X pins σ H' s) (mk:Heap.MadeExcOf s.heap s'.heap e cls args) (es:s' = { s with heap:=s'.heap })
  (hQ:∀ h',Fly X.prog X.w X.stack H' H' s { s' with heap:=h' } e cls (rawInt X.env.locals)->Q () { s' with heap:=h' }):wpAny M A (noteFrame (.ref e) X.env) Q E s':=by
 have hst:=I.stack
 have hfree:=I.stkFree
 have hin:∀ env∈X.stack,∀ a,env.frame=some a->a∈frs X.stack:=fun env he a ha=>List.mem_filterMap.mpr ⟨env,he,ha⟩
 obtain⟨t,he,htn,ht⟩:=mk.there
 have FH:=PySem.W.funFrames_hide (as:=frs X.stack) hst hin
 have hen:(hideAll s.heap (frs X.stack)).get? e=none:=by
  cases q:(hideAll s.heap (frs X.stack)).get? e with
  | none=>rfl
  | some o=>have:=of_hideAll _ q; rw[mk.new]at this; cases this
 have os':s'.os=s.os:=by rw[es]
 have gs':s'.gens=s.gens:=by rw[es]
 unfold noteFrame
 simp only[O.fra]
 refine wpAny_bind (wpAny_field he rfl (x:=Value.none) rfl ?_)
 rw[if_neg (by decide)]
 have FH':s.heap.FunFrames (hideAll s.heap (frs X.stack)) (X.env::X.outer):=by
  have z:=O.stk
  rw[<- z]
  exact FH
 rw[O.stk]at hfr
 refine wpAny_entryW (base:=hideAll s.heap (frs X.stack)) (a0:=.ref t) hfr (FH'.of_keeps fun b o hb _=>⟨o,mk.keeps b o hb,rfl⟩) O.fra he (fun b o z=>mk.keeps b o (of_hideAll _ z)) hen rfl (by simp) rfl fun h2 hN=>?_
 obtain⟨k1,k2,k3,k4⟩:=hN
 refine hQ h2 ⟨os',by rw[gs']; exact I.bare,fun b o z n=>n,fun b xs q=>q,fun b o u q=>q,fun b ps q=>⟨#[],by rw[q]; simp⟩,fun b o z hb=>?_,_,_,⟨k1,hen,(by have z:=O.stk; rw[<- z]at k2; exact k2),k3⟩,G9 I.hok hfree,fun b o z n hb=>hideAll_get _ z hb,fun b o z hb=>⟨o,hideAll_get _ z hb⟩⟩
 obtain⟨_,o',ho,hd⟩:=hst.mem hb
 rw[z]at ho; cases ho
 exact k4 b _ (mk.keeps _ _ z) hd
def AD (O:Own X) (hfr:A.frames=some X.stack) (F:AtX X pins σ H' s' e cls)
  (hQ:∀ H s h',Inv X pins σ H s->Fly X.prog X.w X.stack H H' s { s' with heap:=h' } e cls (rawInt X.env.locals)->Q () { s' with heap:=h' }):wpAny M A (noteFrame (.ref e) X.env) Q E s':=by
 rcases F with ⟨s,args,I,mk,es⟩ | ⟨H,s,fl,I,F,rfl | rfl⟩
 ·exact Es O hfr I mk es fun h' F=>hQ _ _ h' I F
 ·rw[O.stk]at hfr F
  exact HG hfr O.fra F fun h' F'=>hQ H s h' I (by rw[O.stk]; exact F')
 ·refine FA O.fra F ?_
  have:=hQ H s s'.heap I F
  exact this
def HX (O:Own X) (hfr:A.frames=some X.stack) (F:AtX X pins σ H' s' e cls)
  (hQ:∀ h',Fly X.prog X.w X.outer X.H₀ H' X.s₀ { s' with heap:=h' } e cls .none->Q () { s' with heap:=h' }):wpAny M A (leaving X.env (.ref e)) Q E s':=by
 unfold leaving
 refine wpAny_bind (AD O hfr F fun H s h' I F'=>?_)
 refine u9 F' fun h2 F2=>hQ h2 ?_
 rw[O.stk]at F2
 have U:=I.base
 rw[O.ex]at U
 exact F2.drop O.fra I.ok.above I.os U I.ok.frf
end
abbrev XC:=Value->St->Hp->Prop
inductive XP (X:Cx) (R:XC) (e:Value) (s':Shared):Prop
 | mk:∀ (pins:K7) (a:Addr) (cls:Value) (σ : St) (H':Hp),e = .ref a->AtX X pins σ H' s' a cls->R cls σ H'->XP X R e s'
section
variable {X:Cx} {R:XC}
def AtX.frames (F:AtX X pins σ H' s' e cls):X.A.frames=some X.stack:=by
 rcases F with ⟨s,args,I,_⟩ | ⟨H,s,fl,I,_⟩
 ·exact I.ok.frames
 ·exact I.ok.frames
def Jc (O:Own X):PassesOwn (model X.prog X.w) X.A X.env (XP X R):=by
 rintro _ s' ⟨pins,a,cls,σ,H',rfl,F,q⟩
 refine AD O F.frames F fun H s h' I F'=>?_
 unfold cameBackBy
 refine wpAny_bind (Co F' fun T=>?_)
 rw[if_neg (show ¬ ((Value.ref T == Value.none)=true) from by simp)]
 rw[O.fra]
 exact HF F' fun h2 F2=>⟨pins,a,cls,σ,H',rfl,.inr ⟨H,s,_,I,F2,.inr rfl⟩,q⟩
end
abbrev Cx.bod (X:Cx) (E:XK):Cx:=X.wish (XP X fun c _ H=>E c none H)
section
variable {X:Cx} {E E':XK}
def eO {P:Program} {w:World} {K:K6} {mg:K8} {base:Heap} {N:Ld} {qual:Str} {scope:Scope} {f:Addr} {cd:Value} {A:Around} {outer:List Env} {s:Shared} {H:Hp} {CX:CXT} :
  Own (zY CX P w K mg base N qual scope f cd A outer s H E):=⟨rfl,rfl,rfl⟩
def passB (hE:∀ c o H,E' c o H->E c none H):fF (CXE X.prog X.w) (X.bod E) E':=by
 intro pins σ H1 s1 e s' I ⟨a,cls,H',he,F,q⟩
 exact⟨pins,a,cls,σ,H',he,.inr ⟨H1,s1,.none,I.unwish,F,.inl rfl⟩,hE _ _ _ q⟩
def bO:fF (CXE X.prog X.w) (X.bod E) (fun c _ H=>E c none H):=passB fun _ _ _ q=>q
def aX:fF (CXE P w) X E0:=fun _ _ _ _ _ _ _ ⟨_,_,_,_,_,q⟩=>False.elim q
def Ha (X:Cx) (E:Value->Hp->Prop):Prop:=∀ (pins:K7) (σ : St) (H:Hp) (s:Shared) (h':Heap) (e:Addr) (cls:Value) (args:Lf),Inv X pins σ H s->Heap.MadeExcOf s.heap h' e cls args->E cls H->X.xe (.ref e) { s with heap:=h' }
def eV:Ha (X.bod E) (fun c H=>E c none H):=fun pins σ H s h' e cls args I mk q=>⟨pins,e,cls,σ,H,rfl,.inl ⟨s,args,I.unwish,mk,rfl⟩,q⟩
def lQ (O:Own X):PassesOwn (model X.prog X.w) X.A X.env (X.bod E).xe:=Jc O
end
section
variable {P:Program} {w:World} {K:K6} {mg:K8} {base:Heap}
def PSs.leave {X:Cx} {E:XK} {st:List Stmt} {t:TS} (O:Own X) (hx:X.xe=fun e s'=>wpAny (model X.prog X.w) X.A (leaving X.env e) (fun _ s''=>CXE X.prog X.w X.outer X.H₀ X.s₀ E e s'') (fun e' s''=>CXE X.prog X.w X.outer X.H₀ X.s₀ E e' s'') s')
  (h:PSs (X.bod E) st t):PSs X st t:=fun pins s σ H D I hw=>
 wpAny_mono (h pins s σ H D (I.wish _) hw) (fun _ _ q=>q.unwish) fun e s' ⟨pins,a,cls,σ,H',he,F,q⟩=>by
  subst he
  rw[hx]
  exact HX O F.frames F fun h' F'=>⟨a,cls,H',rfl,F',q⟩
def Fun.okX {x qual:Str} {st:Stmt} {f:Addr} {fd:Lh} {N ps:Ld} {k:Nat} {sp:Sp} (F:Fun K x qual st f fd) (S:FnScope N ps (c8 st)) (len:∀ vs H Q E,sp vs H Q E->vs.length=ps.length)
  (hbody:∀ (cdv:Value) (A:Around) (outer:List Env) (s:Shared) (H:Hp) (vs:Ln) (Q:VK) (E:XK),Room k (A.deeper (envOfC qual (c8 st) s.heap.objs.size f cdv))->sp vs H Q E->
   ∃ t,PSs ((zY (CXE P w) P w K mg base N qual (c8 st) f cdv A outer s H E).bod E) (fI st) t/\t (Ends.fn Q) (oH N vs) H):FnOk P w K mg base (CXE P w) (k+1) f fd ps sp:=by
 obtain⟨oc,od,kV,doc,pm,an,cdv,ct,osl,rfl,lk,hcd⟩:=F.ex
 refine fn_of lk hcd S len fun A outer s H vs Q E hr hsp=>?_
 obtain⟨t,h,q⟩:=hbody cdv A outer s H vs Q E hr hsp
 exact⟨t,PSs.leave eO rfl h,q⟩
end
def Ig (K:K6) (N:Addr):Bool:=match K.lookup N with
 | some ⟨_,_,.dict es _,_⟩=>es.toList.all (fun e=>match e.key with | .str _ _=>true | _=>false) && (es.toList.find? (·.key.isStr "__init__")).isNone
 | _=>false
def Db {K:K6} {h:Heap} {N:Addr} (X:K.In h) (e:Ig K N=true):∃ m,h.Ns N m/\m "__init__" = none:=by
 unfold Ig at e
 split at e
 ·rename_i c d es n sl q
  rw[and_eq_true]at e
  obtain⟨e1,e2⟩:=e
  refine⟨nsFind es,⟨_,es,n,X _ _ q,rfl,fun en hen=>?_,fun _=>rfl⟩,?_⟩
  ·have z:=all_eq_true.mp e1 en (by simpa using hen)
   split at z
   ·rename_i a b hk
    exact⟨a,b,hk⟩
   ·cases z
  ·unfold nsFind findBy
   rw[<- Array.find?_toList]
   cases q2:es.toList.find? (·.key.isStr "__init__") with
   | none=>rfl
   | some v=>rw[q2]at e2; cases e2
 ·cases e
abbrev Cz:Lf:=[.type "ValueError",.type "Exception",.type "BaseException",.type "object"]
def sZ (K:K6):Lf->Bool
 | []=>false
 | v::tl=>(v::tl == Cz) || (match v with
  | .ref a=>(match K.lookup a with | some ⟨_,_,.cls cd,_⟩=>Ig K cd.ns | _=>false) && sZ K tl
  | _=>false)
def sY {K:K6} {h:Heap} (X:K.In h):∀ {l:Lf},sZ K l=true->OwnTail h Cz l
 | [],e=>by
  unfold sZ at e
  cases e
 | v::tl,e=>by
  unfold sZ at e
  rw[Bool.or_eq_true]at e
  rcases e with e | e
  ·rw[beq_iff_eq.mp e]
   exact .base
  ·split at e
   ·rw[and_eq_true]at e
    obtain⟨e1,e2⟩:=e
    split at e1
    ·rename_i c d cd sl q
     obtain⟨m,hn,hi⟩:=Db X e1
     exact .own (X _ _ q) hn hi (sY X e2)
    ·cases e1
   ·cases e
def dJ (K:K6) (C:Addr):Bool:=match K.lookup C with
 | some ⟨.type "type",_,.cls cd,sl⟩=>(match cd.mro,sl.toList with
  | .ref C'::bm,[_,_,_,_,some (.builtin n),_]=>C' == C && !cd.hasDel && n == "ValueError.__new__" && Ig K cd.ns && sZ K bm
  | _,_=>false)
 | _=>false
def FC {K:K6} {h:Heap} {C:Addr} {x:Str} {mg:K8} (X:K.In h) (hm:mg x=some (.ref C)) (q:dJ K C=true):OwnCls x C Cz "ValueError.__new__" mg h:=by
 unfold dJ at q
 split at q
 ·rename_i dd cd sl ho
  split at q
  ·rename_i C' bm k0 k1 k2 k3 n k5 hmr hs
   simp only[and_eq_true,beq_iff_eq,Bool.not_eq_true']at q
   obtain⟨⟨⟨⟨rfl,hdel⟩,rfl⟩,hn⟩,ht⟩:=q
   obtain⟨m,hns,hni⟩:=Db X hn
   obtain⟨nm,bs,mro,ns,qn,hd,sn,sub,ab,col,del⟩:=cd
   dsimp only at hmr hdel hns
   subst hmr hdel
   have hsl:sl = #[k0,k1,k2,k3,some (.builtin "ValueError.__new__"),k5]:=by
    obtain⟨l⟩:=sl
    simp only at hs
    rw[hs]
   subst hsl
   exact⟨hm,bm,ns,nm,qn,bs,hd,sn,sub,ab,col,dd,k0,k1,k2,k3,k5,m,X _ _ ho,hns,hni,sY X ht⟩
  ·cases q
 ·cases q
abbrev FX (C:Addr) (E:Value->Hp->Prop):Ln->Hp->Prop:=fun vs H1=>vs.length<=sizeLine/\E (.ref C) H1
def Ji (C:Addr) (E:Value->Hp->Prop) (t:TA):TS:=fun x_0 σ H=>t σ H (FX C E)
def dU {X:Cx} {x:Str} {C:Addr} {np cpos pos:Pos} {e₀ : Expr} {rest:List Expr} {t:TA} {E:Value->Hp->Prop} (hR:Ha X E) (hc:X.calm=true) (hC:dJ X.K C=true) (hg:Gl X x) (hm:X.mg x=some (.ref C)) (ha:PA X (e₀ :: rest) t)
  (he:starEach (e₀ :: rest) X.env=(false,eval e₀ X.env)::starEach rest X.env:=by rfl) (hpl:(backTo cpos (starEach rest X.env)).any (·.1)=false:=by rfl) (hd:(x == ("__debug__" : Str))=false:=by decide) :
  PS X (.Raise (some (.Call (.Name x np) (e₀ :: rest) [] cpos)) none pos) (Ji C E t):=by
 intro pins s σ H D I h
 have O:OwnCls x C Cz "ValueError.__new__" X.mg X.base:=FC I.mod.kin hm hC
 obtain⟨tl,N,nm,q,bs,hdct,sn,sub,ab,col,dd,k0,k1,k2,k3,k5,mN,hC',hN,hni,T⟩:=O.obj
 refine wpAny_Raise_call_subU (C:=C) (nm:=nm) (q:=q) (N:=N) (bs:=bs) (bm:=tl) (hdct:=hdct) (sn:=sn) (sub:=sub) (ab:=ab) (col:=col) (dd:=dd) (k0:=k0) (k1:=k1) (k2:=k2) (k3:=k3) (k5:=k5)
  PySem.F.excBase_ValueError (by decide) PySem.F.excBase_ValueError (mN:=mN) (T.hasType PySem.F.excBase_ValueError.hasBase) (I.ok.hd hc) (by rw[he]; show (false || (backTo cpos (starEach rest X.env)).any (·.1))=false; rw[hpl]; rfl) hni (iD I hg hm ⟨rfl,?_⟩ hd)
 have ha':=ha cpos pins s σ H _ I h
 rw[he]at ha' ⊢
 refine Calls.evalArgs_plain (wpAny_mono ha' (fun vs s₂ z=>?_) fun _ _ y=>y)
 obtain⟨ws,H2,I2,r2,z,q2⟩:=z
 exact⟨rfl,by rw[<- r2.length]; exact z,I2.bk _ _ hC',hN.keeps I2.bk,T.keeps I2.bk,fun h' e mk=>hR pins σ H2 s₂ h' e _ _ I2 mk q2⟩
structure Callee (P:Program) (w:World) (K:K6) (mg:K8) (base:Heap) (x:Str) (k:Nat) (ps:Ld) (sp:Sp):Prop where
 ex:∃ f fd,FnOk P w K mg base (CXE P w) k f fd ps sp/\mg x=some (.ref f)/\keepIn K (.ref f)=true/\i3 K fd ps []
structure Method (P:Program) (w:World) (K:K6) (mg:K8) (base:Heap) (C:Addr) (m:Str) (k:Nat) (ps:Ld) (sp:Sp):Prop where
 ex:∃ f fd,FnOk P w K mg base (CXE P w) k f fd ps sp/\Meth K C m f/\i3 K fd ps []
structure Maker (P:Program) (w:World) (K:K6) (mg:K8) (base:Heap) (x:Str) (C:Addr) (k:Nat) (ps:Ld) (sp:Sp):Prop where
 ex:∃ f fd,FnOk P w K mg base (CXE P w) k f fd ps sp/\Mk K C f/\mg x=some (.ref C)/\i3 K fd ps []
abbrev JG (sp:Sp) (E:XK) (Q:VK):Ln->Hp->Prop:=fun vs H1=>sp vs H1 Q E
def tFn (sp:Sp) (E:XK) (t:TA):TE:=fun σ H Q=>t σ H (JG sp E Q)
abbrev Fa (sp:Sp) (E:XK) (Q:VK) (x:V):Ln->Hp->Prop:=fun vs H2=>sp (x::vs) H2 Q E
inductive Jk (C:Addr) (m:Str) (sp:Sp) (E:XK) (t:TA) (σ : St) (Q:VK) (x:V) (H1:Hp):Prop
 | mk:∀ a dx fs,x = .ref a->H1 a=some (.ins C dx fs)->fs.lookup m=none->t σ H1 (Fa sp E Q x)->Jk C m sp E t σ Q x H1
def tMe (C:Addr) (m:Str) (sp:Sp) (E:XK) (ta:TE) (t:TA):TE:=fun σ H Q=>ta σ H (Jk C m sp E t σ Q)
abbrev FZ (C:Addr) (sp:Sp) (E:XK) (Q:VK):Ln->Hp->Prop:=fun vs H1=>∀ x dx,H1 x=none->H1 dx=none->dx≠x->
 sp (.ref x::vs) (upd (upd H1 dx (.own x)) x (.ins C dx [])) (fun v H2=>v = .non/\Q (.ref x) H2) E
def tMk (C:Addr) (sp:Sp) (E:XK) (t:TA):TE:=fun σ H Q=>t σ H (FZ C sp E Q)
section
variable {X:Cx} {k:Nat} {C:Addr} {ps:Ld} {sp:Sp} {E:XK} {x m:Str} {p pos apos:Pos} {e o:Expr} {es:List Expr} {ta:TE} {t:TA}
def wH {st:St} {H:Hp} {Q:VK} (h:tFn sp E t st H Q):C8 sp [] E t st H Q:=by
 unfold C8
 unfold tFn at h
 have e:C7 sp [] E Q=JG sp E Q:=by
  funext vs H1
  show sp (vs++[]) H1 Q E=_
  rw[append_nil]
 rw[e]
 exact h
def a9 (c:Callee X.prog X.w X.K X.mg X.base x k ps sp) (hr:Room k X.A) (hx:fF (CXE X.prog X.w) X E) (ha:PA X (e::es) t) (hg:Gl X x:=by rfl) (hdb:(x == ("__debug__" : Str))=false:=by decide)
  (he:starEach (e::es) X.env=(false,eval e X.env)::starEach es X.env:=by rfl) (hpl:(backTo pos (starEach es X.env)).any (·.1)=false:=by rfl):PE X (.Call (.Name x p) (e::es) [] pos) (tFn sp E t):=by
 obtain⟨f,fd,F,hm,hk,hb⟩:=c.ex
 intro pins s σ H Q I h
 exact IO F hr hg hm hk hb .nil hx ha hdb he hpl pins s σ H Q I (wH h)
def KI (c:Callee X.prog X.w X.K X.mg X.base x k ps sp) (hr:Room k X.A) (hx:fF (CXE X.prog X.w) X E) (hg:Gl X x:=by rfl) (hdb:(x == ("__debug__" : Str))=false:=by decide):PE X (.Call (.Name x p) [] [] pos) (tFn sp E lR):=by
 obtain⟨f,fd,F,hm,hk,hb⟩:=c.ex
 intro pins s σ H Q I h
 exact GT F hr hg hm hk hb .nil hx hdb pins s σ H Q I (wH h)
def wE {st:St} {H:Hp} {Q:VK} (h:tMe C m sp E ta t st H Q):C3 C m sp [] E ta t st H Q:=by
 unfold C3
 unfold tMe at h
 have e:B3 C m sp [] E t st Q=Jk C m sp E t st Q:=by
  funext x H1
  refine propext ⟨fun⟨a,dx,fs,h1,h2,h3,h4⟩=>⟨a,dx,fs,h1,h2,h3,?_⟩,fun⟨a,dx,fs,h1,h2,h3,h4⟩=>⟨a,dx,fs,h1,h2,h3,?_⟩⟩
  ·rw[show Fa sp E Q x=yQ sp [] E Q x by funext vs H2; show _=sp (x::(vs++[])) H2 Q E; rw[append_nil]]
   exact h4
  ·rw[show yQ sp [] E Q x=Fa sp E Q x by funext vs H2; show sp (x::(vs++[])) H2 Q E=_; rw[append_nil]]
   exact h4
 rw[e]
 exact h
def cN (c:Method X.prog X.w X.K X.mg X.base C m k ps sp) (cl:Cls X.K C) (hr:Room k X.A) (hx:fF (CXE X.prog X.w) X E) (ho:PE X o ta) (ha:PA X (e::es) t)
  (hst:starEach (e::es) X.env=(false,eval e X.env)::starEach es X.env:=by rfl) (hpl:(backTo pos (starEach es X.env)).any (·.1)=false:=by rfl)
  (ht:eval (.Call (.Attribute o m apos) (e::es) [] pos) X.env=(do
   let ov <- eval o X.env
   standAt apos.atName
   let (f,first) <- holding [ov] (getMethod ov m pl)
   callWith pos f first (backTo pos (starEach (e::es) X.env)) (backToKw pos (keywordEach [] X.env))):=by rfl) :
  PE X (.Call (.Attribute o m apos) (e::es) [] pos) (tMe C m sp E ta t):=by
 obtain⟨f,fd,F,hm,hb⟩:=c.ex
 intro pins s σ H Q I h
 exact IK ho cl hm F hr hb .nil hx ha hst hpl ht pins s σ H Q I (wE h)
def cZ (c:Method X.prog X.w X.K X.mg X.base C m k ps sp) (cl:Cls X.K C) (hr:Room k X.A) (hx:fF (CXE X.prog X.w) X E) (ho:PE X o ta)
  (ht:eval (.Call (.Attribute o m apos) [] [] pos) X.env=(do
   let ov <- eval o X.env
   standAt apos.atName
   let (f,first) <- holding [ov] (getMethod ov m pl)
   callWith pos f first (backTo pos (starEach [] X.env)) (backToKw pos (keywordEach [] X.env))):=by rfl) :
  PE X (.Call (.Attribute o m apos) [] [] pos) (tMe C m sp E ta lR):=by
 obtain⟨f,fd,F,hm,hb⟩:=c.ex
 intro pins s σ H Q I h
 exact GR ho cl hm F hr hb .nil hx ht pins s σ H Q I (wE h)
def wF {st:St} {H:Hp} {Q:VK} (h:tMk C sp E t st H Q):C4 C sp [] E t st H Q:=by
 unfold C4
 unfold tMk at h
 rw[show yR C sp [] E Q=FZ C sp E Q by unfold yR FZ; simp only[append_nil]]
 exact h
def GQ (c:Maker X.prog X.w X.K X.mg X.base x C k ps sp) (hr:Room (k+1) X.A) (hx:fF (CXE X.prog X.w) X E) (ha:PA X (e::es) t) (hg:Gl X x:=by rfl) (hdb:(x == ("__debug__" : Str))=false:=by decide)
  (he:starEach (e::es) X.env=(false,eval e X.env)::starEach es X.env:=by rfl) (hpl:(backTo pos (starEach es X.env)).any (·.1)=false:=by rfl):PE X (.Call (.Name x p) (e::es) [] pos) (tMk C sp E t):=by
 obtain⟨f,fd,F,M,hm,hb⟩:=c.ex
 intro pins s σ H Q I h
 exact IL M F hr hg hm hb .nil hx ha hdb he hpl pins s σ H Q I (wF h)
end
inductive XPp (X:Cx) (pins:K7) (R:XC) (e:Value) (s':Shared):Prop
 | mk:∀ (a:Addr) (cls:Value) (σ : St) (H':Hp),e = .ref a->AtX X pins σ H' s' a cls->R cls σ H'->XPp X pins R e s'
abbrev TX:=Ends->XC->St->Hp->Prop
abbrev TEX:=St->Hp->VK->(Value->Hp->Prop)->Prop
def PEx (X:Cx) (e:Expr) (t:TEX):Prop:=
 ∀ pins s σ H (Q:VK) (R:Value->Hp->Prop),Inv X pins σ H s->t σ H Q R->wpAny (model X.prog X.w) X.A (eval e X.env) (EP X pins σ Q) (XPp X pins fun c σ' H'=>σ' = σ/\R c H') s
def PSx (X:Cx) (st:Stmt) (t:TX):Prop:=
 ∀ pins s σ H (D:Ends) (R:XC),Inv X pins σ H s->t D R σ H->wpAny (model X.prog X.w) X.A (exec st X.env) (SP X pins D) (XPp X pins R) s
def Hb (X:Cx) (st:List Stmt) (t:TX):Prop:=
 ∀ pins s σ H (D:Ends) (R:XC),Inv X pins σ H s->t D R σ H->wpAny (model X.prog X.w) X.A (execs st X.env) (SP X pins D) (XPp X pins R) s
section
variable {X:Cx} {k:Nat} {C:Addr} {ps:Ld} {sp:Sp} {x m:Str} {p pos apos:Pos} {e o:Expr} {es:List Expr} {ta:TE} {t:TA}
def IA {pins:K7} {σ : St} {H:Hp} {s:Shared} {Q:VK} {us:Lf} {vs:Ln} {f:Addr} {fd:Lh} {R:Value->Hp->Prop} (F:FnOk X.prog X.w X.K X.mg X.base (CXE X.prog X.w) k f fd ps sp) (hr:Room k X.A) (hb:i3 X.K fd ps [])
  (I:Inv X pins σ H s) (r:bZ vs us) (h:sp vs H Q fun c _ H'=>R c H'):wpAny (model X.prog X.w) X.A (call (.ref f) us) (EP X pins σ Q) (XPp X pins fun c σ' H'=>σ' = σ/\R c H') s:=by
 have hl:(us++[]).length=ps.length:=by rw[append_nil,<- r.length]; exact F.len _ _ _ _ h
 have hb':=hb s us I.kIn hl
 rw[append_nil]at hb'
 refine wpAny_call (codeAny_mono (F.run X.A X.stack s H ⟨us,[]⟩ us vs Q _ hr I.env0 hb' r h) fun r s' hq=>?_)
 cases r with
 | error e=>
  obtain⟨a,cls,H',he,Fl,q⟩:=hq
  exact⟨a,cls,σ,H',he,.inr ⟨H,s,.none,I,Fl,.inl rfl⟩,rfl,q⟩
 | ok fl=>
  cases fl with
  | ret u=>exact I.after hq
  | next=>exact False.elim hq
  | brk=>exact False.elim hq
  | cont=>exact False.elim hq
def KL (ha:PA X.nox es t) (I:Inv X pins σ H s) (h:t σ H Q):wpAny (model X.prog X.w) X.A (spliced (backTo pos (starEach es X.env))) (AP X pins σ Q) E s:=
 wpAny_mono (ha pos pins s σ H Q (I.wish _) h) (fun _ _ ⟨vs,H',I',r,q⟩=>⟨vs,H',I'.unwish,r,q⟩) fun _ _ z=>False.elim z
abbrev xFn_1 (sp:Sp) (Q:VK) (R:(Value->Hp->Prop)):Ln->Hp->Prop:=fun vs H1=>sp vs H1 Q fun c _ H'=>R c H'
def xFn (sp:Sp) (t:TA):TEX:=fun σ H Q R=>t σ H (xFn_1 sp Q R)
def px_fn (c:Callee X.prog X.w X.K X.mg X.base x k ps sp) (hr:Room k X.A) (ha:PA X.nox (e::es) t) (hg:Gl X x:=by rfl) (hdb:(x == ("__debug__" : Str))=false:=by decide)
  (he:starEach (e::es) X.env=(false,eval e X.env)::starEach es X.env:=by rfl) (hpl:(backTo pos (starEach es X.env)).any (·.1)=false:=by rfl):PEx X (.Call (.Name x p) (e::es) [] pos) (xFn sp t):=by
 obtain⟨f,fd,F,hm,hk,hb⟩:=c.ex
 intro pins s σ H Q R I h
 refine wpAny_Call_Name_kw (iD I hg hm ?_ hdb)
 refine callWith_K (h₀:=X.base) I.ok.mod.kin hk (thn (KL (pos:=pos) ha I h) fun us s1 ⟨vs,H1,I1,r,q⟩=>⟨I1.kIn,?_⟩) he hpl
 exact IA F hr hb I1 r q
variable {st:Stmt} {sts rest:List Stmt} {tS:TS} {tx ux:TX} {te:TEX}
def ID (h:PEx X e te):PSx X (.Return (some e) pos) (fun D R σ H=>te σ H D.rt (fun c H'=>R c σ H')):=by
 intro pins s σ H D R I hw
 exact wpAny_Return_some (wpAny_mono (h pins s σ H _ _ I hw) (fun v s1 ⟨x,H1,I1,r1,q1⟩=>⟨x,σ,H1,I1,r1,q1⟩) fun ev s' ⟨a,cls,σ',H',he,F,hσ,q⟩=>⟨a,cls,σ',H',he,F,by rw[hσ]; exact q⟩)
def GL:Hb X [] (fun D _ σ H=>D.nx σ H):=fun _ _ σ H _ _ I h=>wpAny_execs_nil ⟨σ,H,I,h⟩
def EQ (h1:PSx X st tx) (h2:Hb X rest ux):Hb X (st::rest) (fun D R σ H=>tx (D.next (ux D R)) R σ H):=by
 intro pins s σ H D R I hw
 refine wpAny_execs_cons (thn (h1 pins s σ H _ R I hw) fun f s1 q1=>?_)
 cases f with
 | next=>obtain⟨σ1,H1,I1,q⟩:=q1; exact h2 pins s1 σ1 H1 D R I1 q
 | brk=>exact q1
 | cont=>exact q1
 | ret v=>exact q1
def GK (h1:PSx X st tx):Hb X [st] tx:=fun pins s σ H D R I hw=>EQ h1 GL pins s σ H D R I (by
 cases D
 exact hw)
end
def Cx.hand (X:Cx) (e:Addr):Cx:={ X with A:=X.A.mark (some (.ref e)),calm:=false,xe:=fun _ _=>False }
section
variable {X:Cx} {pins:K7} {σ : St} {H:Hp} {s:Shared} {e:Addr}
def Cx.Ok.hand (ok:X.Ok) (e:Addr):(X.hand e).Ok:=
 ⟨ok.mod,ok.kind,ok.glob,ok.blt,ok.above,ok.inj,ok.has,ok.cab,(fun z=>Bool.noConfusion z),ok.frames,ok.stk,ok.exf,ok.bs,ok.bsz,ok.noex,ok.exfs,ok.funs,ok.frf⟩
def Inv.hand (I:Inv X pins σ H s) (e:Addr):Inv (X.hand e) pins σ H s:=⟨I.ok.hand e,I.os,I.bare,I.base,I.loc,I.cell,I.free,I.freeC,I.pin,I.hok,I.len⟩
def Inv.unhand (ok:X.Ok) (I:Inv (X.hand e) pins σ H s):Inv X pins σ H s:=⟨ok,I.os,I.bare,I.base,I.loc,I.cell,I.free,I.freeC,I.pin,I.hok,I.len⟩
def SP.unhand (ok:X.Ok) (h:SP (X.hand e) pins D f s'):SP X pins D f s':=by
 cases f with
 | next=>obtain⟨σ',H',I,q⟩:=h; exact⟨σ',H',I.unhand ok,q⟩
 | brk=>obtain⟨σ',H',I,q⟩:=h; exact⟨σ',H',I.unhand ok,q⟩
 | cont=>obtain⟨σ',H',I,q⟩:=h; exact⟨σ',H',I.unhand ok,q⟩
 | ret u=>obtain⟨v,σ',H',I,r,q⟩:=h; exact⟨v,σ',H',I.unhand ok,r,q⟩
inductive PH (X:Cx):List ExceptHandler->(Value->TS)->Prop where
 | nil:PH X [] (fun _ _ _ _=>False)
 | cons {x:Str} {c:Value} {np pos:Pos} {b₀ : Stmt} {suite:List Stmt} {rest:List ExceptHandler} {t:TS} {u:Value->TS} (hg:Gl X x) (hm:X.mg x=some c) (hd:(x == ("__debug__" : Str))=false) (hs:∀ e,PSs (X.hand e) (b₀ :: suite) t) (hr:PH X rest u) :
   PH X (.ExceptHandler (some (.Name x np)) none (b₀ :: suite) pos::rest) (fun cls D σ H=>(PySem.W.exmOne X.K cls c=some true/\t D σ H)\/(PySem.W.exmOne X.K cls c=some false/\u cls D σ H))
def Fly.inv (I:Inv X pins σ H s) (F:Fly X.prog X.w X.stack H H' s s' e cls fl):Inv X pins σ H' s':=
 I.call' F.os F.un F.hok F.bare fun b z=>absurd z (by simp)
def Fly.ty (F:Fly P w l H H' s s' e cls fl):PySem.W.Looks M s'.heap (typeOf (.ref e)) cls:=by
 obtain⟨B,a0,⟨_,_,_,oe,vs,T,oT,ts,he,hc,_⟩,_⟩:=F.go
 obtain⟨hc,_⟩:=hc
 subst hc
 exact(PySem.W.Looks.ld he).andThen .now
def Kl (hh:PH X hs u):∀ {H':Hp} {s':Shared} {cls:Value} {D:Ends},Inv X pins σ H s->Fly X.prog X.w X.stack H H' s s' e cls .none->u cls D σ H'->
  wpAny (model X.prog X.w) X.A (handleBy (.ref e) X.env hs) (SP X pins D) X.xe s':=by
 induction hh with
 | nil=>intro H' s' cls D I F h; exact False.elim h
 | @cons x c np pos b₀ suite rest t u hg hm hd hsu hr ih=>
  intro H' s' cls D I F h
  have I':=F.inv I
  have tst:∀ (b:Bool) {R:Bool->Shared->Prop} {E:Lk},PySem.W.exmOne X.K cls c=some b->R b s'->wpAny (model X.prog X.w) (X.A.mark (some (.ref e))) (excMatches (.ref e) c) R E s':=fun b R E z q=>
   (PySem.W.exm_one I'.kIn F.ty z).here q
  rcases h with ⟨z,h⟩ | ⟨z,h⟩
  ·refine wpAny_handleBy_cons (codeAny_handlers_test (iD (X:=X.hand e) (I'.hand e) hg hm (tst true z ?_) hd)) (by intro q; cases q)
   refine codeAny_handlers_suite (u9 F fun h2 F2=>?_)
   refine wpAny_mono (hsu e pins _ σ H' D ((F2.inv I).hand e) h) (fun f s2 q=>?_) fun _ _ z=>False.elim z
   exact SP.unhand I.ok q
  ·refine wpAny_handleBy_cons (codeAny_handlers_test (iD (X:=X.hand e) (I'.hand e) hg hm (tst false z ?_) hd)) (by intro q; cases q)
   exact ih I F h
def KC (O:Own X) (hb:Hb X body tx) (hh:PH X (h₀ :: hs) u):PS X (.Try body (h₀ :: hs) [] [] pos) (fun D σ H=>tx D (fun c σ' H'=>u c D σ' H') σ H):=by
 intro pins s σ H D I h
 refine wpAny_Try_except (wpAny_mono (hb pins s σ H D _ I h) (fun f s1 q=>?_) fun ev s1 ⟨a,cls,σ',H',he,F,q⟩=>?_)
 ·cases f with
  | next=>exact wpAny_execs_nil q
  | brk=>exact q
  | cont=>exact q
  | ret v=>exact q
 ·subst he
  refine AD O F.frames F fun H s h' I' F'=>?_
  refine u9 F' fun h2 F2=>?_
  exact Kl hh I' F2 q
end
section
variable {prog:Program} {w:World} {A:Around} {R:Result->Shared->Prop} {s:Shared}
def BY (I:Nat->Shared->Prop)
  (turn:∀ n s,I n s->wpAny (model prog w) A (pyNext it) (fun r s₁=>match r with
   | none=>R (.ok .next) s₁
   | some v=>wpAny (model prog w) A (letOwnedTupleGo target it v) (fun _ s₁'=>wpAny (model prog w) A (assign target env v) (fun _ s₂=>
     wpAny (model prog w) A (forIn ifs true fun c r=>if r=true then do let ok <- isTrue c env (eval c env); pure (ForInStep.yield ok) else pure (ForInStep.yield r)) (fun ok s₃=>
      if ok=true then wpAny (model prog w) A (eval elt env) (fun x s₄=>
       wpAny (model prog w) A (call (.builtin "list.append") [acc,x]) (fun _ s₅=>∃ m,m<n/\I m s₅) (fun _ _=>False) s₄) (fun _ _=>False) s₃
      else ∃ m,m<n/\I m s₃) (fun _ _=>False) s₂) (fun _ _=>False) s₁') (fun _ _=>False) s₁) (fun _ _=>False) s)
  (n:Nat) (h:I n s) :
  codeAny (model prog w) A (.compLoop (.ListComp elt [⟨target,iter,ifs,0⟩] scope pos) 0 it acc env) R s:=by
 refine codeAny_loop rfl I (fun n s hI=>?_) n h
 show wpAny _ A ((compTurn (.ListComp elt [⟨target,iter,ifs,0⟩] scope pos) 0 it acc env).onRaise (fun x=>do noteFrame x env; theTreesLotGoes x)) _ _ s
 refine wpAny_noted ?_
 rw[compTurn_list]
 refine wpAny_noRaise ?_
 refine wpAny_bind (wpAny_standAt (wpAny_bind (wpAny_mono (turn n s hI) (fun r s₁ h₁=>?_) fun _ _ h'=>h')))
 cases r with
 | none=>exact wpAny_pure h₁
 | some v=>
  refine wpAny_bind (wpAny_mono h₁ (fun _ s₁' h₁'=>?_) fun _ _ h'=>h')
  refine wpAny_bind (wpAny_mono h₁' (fun _ s₂ h₂=>wpAny_bind (wpAny_mono h₂ (fun ok s₃ h₃=>?_) fun _ _ h'=>h')) fun _ _ h'=>h')
  cases ok with
  | false=>exact wpAny_pure ⟨rfl,h₃⟩
  | true=>
   exact wpAny_bind (wpAny_bind (wpAny_mono h₃ (fun x s₄ h₄=>wpAny_bind (wpAny_mono h₄ (fun _ s₅ h₅=>wpAny_pure (wpAny_pure ⟨rfl,h₅⟩)) fun _ _ h'=>h')) fun _ _ h'=>h'))
end
def vG (scope:Scope) (env:Env):List (Str × Addr):=(scope.names.filterMap fun y=>if y.2 == .free then (env.cells.lookup y.1).map (fun c=>(y.1,c)) else none).reverse
def uQ {α β : Type} [BEq α] [LawfulBEq α] {l:List (α × β)} {x:α} {c:β} (h:l.lookup x=some c):(x,c)∈l:=by
 induction l with
 | nil=>cases h
 | cons p r ih=>
  obtain⟨a,b⟩:=p
  rw[List.lookup_cons]at h
  split at h
  ·rename_i e
   cases h
   rw[beq_iff_eq.mp e]
   exact mem_cons_self
  ·exact mem_cons_of_mem _ (ih h)
def Iy (h:(vG scope env).lookup x=some c):env.cells.lookup x=some c:=by
 have m:=uQ h
 unfold vG at m
 rw[List.mem_reverse]at m
 obtain⟨y,_,e⟩:=List.mem_filterMap.mp m
 split at e
 ·cases q:env.cells.lookup y.1 with
  | none=>rw[q]at e; cases e
  | some d=>
   rw[q]at e
   cases e
   exact q
 ·cases e
def eG (X:Cx) (scope:Scope) (Nc:Ld) (C:Addr) (s₂ : Shared) (H₂ : Hp) (ex:List Addr):Cx where
 prog:=X.prog
 w:=X.w
 K:=X.K
 mg:=X.mg
 base:=X.base
 A:=X.A
 N:=Nc
 s₀:=s₂
 H₀:=H₂
 env:=compEnvC scope (vG scope X.env) C X.env
 outer:=X.stack
 stack:=X.stack
 ex:=ex
 fn:=fun _=>false
 calm:=X.calm
 pn:=[]
 xe:=fun _ _=>False
def mI (X:Cx) (scope:Scope) (F:List (Str × Nat)):Bool:=
 scope.names.all (fun y=>y.2 != .cell) && scope.names.all (fun y=>y.2 != .local || scope.names.lookup y.1 == some .local) &&
 (relabel scope X.env).names.all (fun y=>(y.2 != .cell && y.2 != .free) || ((vG scope X.env).lookup y.1).isSome) &&
 F.all (fun p=>X.N[p.2]? == some p.1 && (X.env.kindOf p.1 == some .cell || X.env.kindOf p.1 == some .free) && ((relabel scope X.env).names.lookup p.1 == some .cell || (relabel scope X.env).names.lookup p.1 == some .free))
def lJ (T:Ld) (F:List (Str × Nat)) (σ : St):St:=T.map (fun _=>none)++F.map (fun p=>(σ[p.2]?).join)
def fE (T:Ld) (F:List (Str × Nat)):Ld:=T++F.map (·.1)
section
variable {X:Cx} {pins:K7} {σ : St} {H:Hp} {s:Shared} {scope:Scope} {T:Ld} {F:List (Str × Nat)} {fp:List Addr}
def Cr (I:Inv X pins σ H s) (hk:scope.kind = .function) (ok:mI X scope F=true) (hf:∀ b∈fp,qZ X pins H b) (ho:∀ b∈fp,∃ o,s.heap.get? b=some o) 
  (hn:h₁.Ns (s.heap.objs.size+1) (fun _=>none)) (hs:Heap.SameBut (s.heap.objs.size+1) ((s.heap.push { cls:=.type "list",data:=.seq #[] }).push { cls:=.type "dict",data:=.dict #[] }) h₁) :
  Inv (eG X scope (fE T F) (s.heap.objs.size+1) s H fp) [] (lJ T F σ) (upd H s.heap.objs.size (.lst [])) { s with heap:=h₁,toks:=t }:=by
 unfold mI at ok
 simp only[and_eq_true]at ok
 obtain⟨⟨⟨ok1,ok2⟩,ok3⟩,ok4⟩:=ok
 have nH:H s.heap.objs.size=none:=I.hok.fresh (le_refl _)
 have kp:∀ b o,s.heap.get? b=some o->h₁.get? b=some o:=fun b o e=>by
  have l:=lt_size e
  rw[hs.2 b (ne_of_lt (lt_succ_of_lt l))]
  exact get?_push_of_some _ (get?_push_of_some _ e)
 have hD:h₁.get? s.heap.objs.size=some { cls:=.type "list",data:=.seq #[] }:=by
  rw[hs.2 _ (ne_of_lt (lt_succ_self _))]
  exact get?_push_of_some _ (get?_push_size _ rfl)
 have clx:∀ x c,(vG scope X.env).lookup x=some c->X.env.cells.lookup x=some c:=fun x c e=>Iy e
 have celt:∀ x c,X.env.cells.lookup x=some c->c<s.heap.objs.size:=fun x c e=>by
  obtain⟨v,o,ho,_⟩:=I.cell x c e
  exact lt_size ho
 have OK:(eG X scope (fE T F) (s.heap.objs.size+1) s H fp).Ok:=by
  refine⟨I.ok.mod,hk,I.ok.glob,I.ok.blt,le_succ _,fun x y c e1 e2=>I.ok.inj x y c (clx _ _ e1) (clx _ _ e2),fun x hx=>?_,(fun x c z=>Bool.noConfusion z),I.ok.hd,I.ok.frames,.inl rfl,fun b hb=>⟨?_,fun x c e=>?_⟩,I.bs,?_,fun b o e hb=>?_,fun b hb hb2=>?_,I.stack,I.stkFree⟩
  ·have hx:(relabel scope X.env).names.lookup x=some .cell\/(relabel scope X.env).names.lookup x=some .free:=hx
   have q:∀ k,(relabel scope X.env).names.lookup x=some k->(k = .cell\/k = .free)->((vG scope X.env).lookup x).isSome=true:=fun k e hk=>by
    have z:=all_eq_true.mp ok3 (x,k) (uQ e)
    rcases hk with rfl | rfl
    ·simpa using z
    ·simpa using z
   rcases hx with hx | hx
   ·exact isSome_iff_exists.mp (q _ hx (.inl rfl))
   ·exact isSome_iff_exists.mp (q _ hx (.inr rfl))
  ·obtain⟨o,e⟩:=ho b hb
   exact ne_of_lt (lt_succ_of_lt (lt_size e))
  ·exact(hf b hb).2.2.2.2.1 x c (clx x c e)
  ·exact le_trans I.ok.bsz I.sz
  ·obtain⟨_,_,_,h4,_⟩:=hf b hb
   rcases h4 with h4 | h4
   ·exact I.ok.noex b o e h4
   ·exact absurd (lt_of_lt_of_le (lt_size e) (le_trans I.ok.bsz h4)) (lt_irrefl _)
  ·rcases mem_cons.mp (I.stkSub b hb2) with z | z
   ·exact(hf b hb).2.1 z
   ·exact(hf b hb).2.2.1 z
 refine⟨OK,rfl,I.bare,Un.laid kp (le_refl _) nH,⟨_,hn,fun i x v e1 e2 hv=>?_⟩,fun x c e=>?_,?_,fun x c e=>?_,fun p hp=>absurd (show p∈([]:K7) from hp) (by simp),?_,?_⟩
 ·have e1:(fE T F)[i]? = some x:=e1
  unfold fE at e1
  unfold lJ at e2
  by_cases hi:i<T.length
  ·rw[getElem?_append_left (by simpa using hi),getElem?_map]at e2
   cases q:T[i]? with
   | none=>rw[q]at e2; cases e2
   | some z=>rw[q]at e2; cases e2
  ·rw[getElem?_append_right (by simpa using hi),getElem?_map]at e2
   rw[getElem?_append_right (by simpa using hi),getElem?_map]at e1
   rw[length_map]at e2
   cases q:F[i - T.length]? with
   | none=>rw[q]at e2; cases e2
   | some p=>
    rw[q]at e1 e2
    have e1:p.1=x:=Option.some.inj e1
    have e2:(σ[p.2]?).join=some v:=Option.some.inj e2
    subst e1
    have z:=all_eq_true.mp ok4 p (mem_of_getElem? q)
    simp only[and_eq_true,Bool.or_eq_true,beq_iff_eq]at z
    obtain⟨⟨z1,z2⟩,z3⟩:=z
    have e3:σ[p.2]? = some (some v):=by
     cases q2:σ[p.2]? with
     | none=>rw[q2]at e2; cases e2
     | some y=>rw[q2]at e2; exact congrArg some e2
    obtain⟨m,hm,hl⟩:=I.loc
    obtain⟨u,ru,lk⟩:=hl p.2 p.1 v z1 e3 (by rcases z2 with z2 | z2; exact .inr (.inl z2); exact .inr (.inr z2))
    refine⟨u,ru,.inr ⟨z3,?_⟩⟩
    have hc:∃ c,(vG scope X.env).lookup p.1=some c:=OK.has p.1 z3
    obtain⟨c,hc⟩:=hc
    refine⟨c,hc,?_⟩
    rcases lk with ⟨lk,_⟩ | ⟨_,c',hc',hcell⟩
    ·rcases z2 with z2 | z2
     ·rw[z2]at lk; cases lk
     ·rw[z2]at lk; cases lk
    ·rw[clx _ _ hc]at hc'
     cases hc'
     exact hcell.keeps kp
 ·obtain⟨v,q⟩:=I.cell x c (clx x c e)
  exact⟨v,q.keeps kp⟩
 ·show upd H s.heap.objs.size (.lst []) (s.heap.objs.size+1)=none
  rw[aF (ne_of_gt (lt_succ_self _))]
  exact I.hok.fresh (le_succ _)
 ·have l:=celt x c (clx x c e)
  show upd H s.heap.objs.size (.lst []) c=none
  rw[aF (ne_of_lt l)]
  exact I.freeC x c (clx x c e)
 ·exact I.hok.laid kp (le_refl _) ⟨zero_le _,[],0,.nil,hD⟩
 ·show (lJ T F σ).length=(fE T F).length
  unfold lJ fE
  simp
def vF (T:Ld) (F:List (Str × Nat)) (g:TG) (tc:TT) (te:TE) (σ : St) (Q:VK) (J:It) (H1:Hp):Prop:=∀ D,H1 D=none->∃ W:Nat->Nat->Ln->St->Hp->Prop,(∃ m,W 0 m [] (lJ T F σ) (upd H1 D (.lst [])))/\
 ∀ i m ys σc H2,W i m ys σc H2->H2 D=some (.lst ys)/\((J.stop i H2/\Q (.ref D) H2)\/(J.go i H2/\ys.length<sizeLine/\∀ x H3,J.yld i H2 x H3->g x σc H3 fun σ4 H4=>tc σ4 H4 fun b H5=>
  if b=true then te σ4 H5 fun y H6=>H6 D=some (.lst ys)/\∃ m',m'<m/\W (i+1) m' (ys++[y]) σ4 (upd H6 D (.lst (ys++[y]))) else ∃ m',m'<m/\W (i+1) m' ys σ4 H5))
def JJ (T:Ld) (F:List (Str × Nat)) (wi:TI) (g:TG) (tc:TT) (te:TE):TE:=fun σ H Q=>wi σ H (vF T F g tc te σ Q)
def PIf (X:Cx) (ifs:List Expr) (t:TT):Prop:=
 ∀ pins s σ H (Q:Bool->Hp->Prop),Inv X pins σ H s->t σ H Q->wpAny (model X.prog X.w) X.A (forIn ifs true fun c r=>if r=true then do let ok <- isTrue c X.env (eval c X.env); pure (ForInStep.yield ok) else pure (ForInStep.yield r)) (TP X pins σ Q) X.xe s
def FU:TT:=fun _ H Q=>Q true H
def DV {X:Cx}:PIf X [] FU:=fun pins s σ H Q I h=>wpAny_tests_nil ⟨H,I,h⟩
def gW {X:Cx} {c:Expr} {t:TT} (h:PT X c t):PIf X [c] t:=fun pins s σ H Q I q=>wpAny_tests_one (h pins s σ H Q I q)
def BX (I:Inv X pins σ H2 s2) (hf:∀ b∈fp,qZ X pins H2 b) (I':Inv (eG X scope Nc (s2.heap.objs.size+1) s2 H2 fp) [] σc H' s') (hs:Heap.SameBut (s2.heap.objs.size+1) s'.heap h'):Inv X pins σ H' { s' with heap:=h' }:=by
 have U:Un (frs X.stack) fp H2 H' s2.heap s'.heap:=I'.base
 have ne:∀ b o,s2.heap.get? b=some o->b≠s2.heap.objs.size+1:=fun b o e=>ne_of_lt (lt_succ_of_lt (lt_size e))
 have free:H' (s2.heap.objs.size+1)=none:=I'.free
 refine I.call' (s':={ s' with heap:=h' }) (ch:=fp) I'.os ⟨fun b o q n hb hc=>(hs.2 b (ne b o q)).trans (U.keep b o q n hb hc),fun b o q n hb hc=>?_,U.free,fun b o q hc=>?_,U.tups,U.frzs,U.tbls⟩ ?_ I'.bare fun b hb=>?_
 ·obtain⟨sl,z⟩:=U.slot b o q n hb hc
  exact⟨sl,(hs.2 b (ne b o q)).trans z⟩
 ·obtain⟨o',z⟩:=U.there b o q hc
  exact⟨o',(hs.2 b (ne b o q)).trans z⟩
 ·intro a o e
  refine(I'.hok a o e).stay (fun b u hb q=>(hs.2 b ?_).trans q) (fun _ q=>q) fun _ _ q=>q
  rintro rfl
  rcases hb with hb | hb
  ·rw[<- hb,free]at e; cases e
  ·rw[free]at hb; cases hb
 ·obtain⟨f0,f1,f2,f3,f4,f5⟩:=hf b hb
  exact⟨f3,f1,f4,f5⟩
def yD {elt tg iter:Expr} {ifs:List Expr} {pos:Pos} {g:TG} {tc:TT} {te:TE} {J:It} {it:Addr} {tn:Nat->Heap->Prop} {s2:Shared} {H2:Hp} {RR:Value->Addr->Result->Shared->Prop} {E:Lk} {Q:Addr->Hp->Prop}
  (hc:X.calm=true) (hk:scope.kind = .function) (ok:mI X scope F=true)
  (hg:∀ C s₂ H₂ ex,PG (eG X scope (fE T F) C s₂ H₂ ex) tg g) (hif:∀ C s₂ H₂ ex,PIf (eG X scope (fE T F) C s₂ H₂ ex) ifs tc) (he:∀ C s₂ H₂ ex,PE (eG X scope (fE T F) C s₂ H₂ ex) elt te)
  (I2:Inv X pins σ H2 s2) (Tn:Turn X.prog X.w X.K tg J fp it tn) (st2:tn 0 s2.heap) (f2:∀ b∈fp,qZ X pins H2 b)
  (h3:∀ D,H2 D=none->∃ W:Nat->Nat->Ln->St->Hp->Prop,(∃ m,W 0 m [] (lJ T F σ) (upd H2 D (.lst [])))/\
   ∀ i m ys σc H2,W i m ys σc H2->H2 D=some (.lst ys)/\((J.stop i H2/\Q D H2)\/(J.go i H2/\ys.length<sizeLine/\∀ x H3,J.yld i H2 x H3->g x σc H3 fun σ4 H4=>tc σ4 H4 fun b H5=>
    if b=true then te σ4 H5 fun y H6=>H6 D=some (.lst ys)/\∃ m',m'<m/\W (i+1) m' (ys++[y]) σ4 (upd H6 D (.lst (ys++[y]))) else ∃ m',m'<m/\W (i+1) m' ys σ4 H5)))
  (hRR:∀ D s' σc H',Inv (eG X scope (fE T F) (s2.heap.objs.size+1) s2 H2 fp) [] σc H' s'->Q D H'->RR (.ref D) (s2.heap.objs.size+1) (.ok .next) s') :
  wpAny (model X.prog X.w) X.A (newList []) (fun acc s₃=>wpAny (model X.prog X.w) X.A (newFunctionEnv scope X.env.globals (vG scope X.env) [] X.env.qual none .none (some X.env)) (fun cenv s₄=>
   codeAny (model X.prog X.w) X.A (.compStart (.ListComp elt [⟨tg,iter,ifs,0⟩] scope pos) 0 (.ref it) acc { cenv with scope:=relabel scope X.env }) (RR acc cenv.locals) s₄) E s₃) E s2:=by
 have ok':=ok
 unfold mI at ok'
 simp only[and_eq_true]at ok'
 obtain⟨⟨⟨ok1,ok2⟩,ok3⟩,ok4⟩:=ok'
 have hcell:∀ y∈scope.names,y.2 ≠ .cell:=fun y hy z=>by
  have:=all_eq_true.mp ok1 y hy
  rw[z]at this
  cases this
 refine wpAny_newObj_type (wpAny_newFunctionEnv hcell (by intro y hy; simp at hy) (fun h₁ hns₁ hsb₁=>?_) hk)
 dsimp only at hns₁ hsb₁ ⊢
 have hsz:(s2.heap.push { cls:=.type "list",dict:=none,data:=.seq ([]:Lf).toArray }).objs.size=s2.heap.objs.size+1:=size_push _ _
 rw[hsz]at hns₁ hsb₁ ⊢
 have I3:Inv (eG X scope (fE T F) (s2.heap.objs.size+1) s2 H2 fp) [] (lJ T F σ) (upd H2 s2.heap.objs.size (.lst [])) { s2 with heap:=h₁,toks:=s2.toks+([]:List (Str × Value)).length }:=
  Cr I2 hk ok f2 (fun b hb=>let ⟨o,e,_⟩:=Tn.obj _ _ st2 b hb; ⟨o,e⟩) hns₁ hsb₁
 obtain⟨W,⟨m0,w0⟩,turn⟩:=h3 s2.heap.objs.size (I2.hok.fresh (le_refl _))
 have stat:∀ {H':Hp},(∀ b∈fp,H' b=none)->∀ b∈fp,qZ (eG X scope (fE T F) (s2.heap.objs.size+1) s2 H2 fp) [] H' b:=fun {H'} hn b hb=>
  ⟨hn b hb,(I3.ok.exf b hb).1,I3.ok.exfs b hb,.inl hb,(I3.ok.exf b hb).2,fun p hp=>absurd (show p∈([]:K7) from hp) (by simp)⟩
 have st3:tn 0 h₁:=Tn.keep _ _ _ st2 fun b hb o e=>by
  have l:=lt_size e
  rw[hsb₁.2 b (ne_of_lt (lt_succ_of_lt l))]
  exact get?_push_of_some _ (get?_push_of_some _ e)
 have fr3:∀ b∈fp,(upd H2 s2.heap.objs.size (.lst [])) b=none:=fun b hb=>by
  obtain⟨o,e,_⟩:=Tn.obj _ _ st2 b hb
  rw[aF (ne_of_lt (lt_size e))]
  exact(f2 b hb).1
 have loop:codeAny (model X.prog X.w) X.A (.compLoop (.ListComp elt [⟨tg,iter,ifs,0⟩] scope pos) 0 (.ref it) (.ref s2.heap.objs.size) (compEnvC scope (vG scope X.env) (s2.heap.objs.size+1) X.env))
   (RR (.ref s2.heap.objs.size) (s2.heap.objs.size+1)) { s2 with heap:=h₁,toks:=s2.toks+([]:List (Str × Value)).length }:=by
  refine BY (fun n s'=>∃ i ys σ' H',Inv (eG X scope (fE T F) (s2.heap.objs.size+1) s2 H2 fp) [] σ' H' s'/\tn i s'.heap/\(∀ b∈fp,H' b=none)/\W i n ys σ' H') ?_ m0 ⟨0,[],_,_,I3,st3,fr3,w0⟩
  rintro n s4 ⟨i,ys,σ4,H4,I4,st4,fr4,w4⟩
  obtain⟨hD,go⟩:=turn i n ys σ4 H4 w4
  rcases go with ⟨stop,qn⟩ | ⟨go,hz,step⟩
  ·refine thn (Tn.done (eG X scope (fE T F) (s2.heap.objs.size+1) s2 H2 fp) rfl rfl rfl hc i [] s4 σ4 H4 (fun _ _=>False) I4 (stat fr4) st4 stop) fun r s5 zQq=>?_
   obtain⟨hr,I5⟩:=zQq
   subst hr
   exact hRR _ s5 σ4 H4 I5 qn
  ·refine thn (Tn.item (eG X scope (fE T F) (s2.heap.objs.size+1) s2 H2 fp) rfl rfl rfl hc i [] s4 σ4 H4 (fun _ _=>False) I4 (stat fr4) st4 go) fun r s5 zQq=>?_
   obtain⟨u,hr,h5⟩:=zQq
   subst hr
   refine thn h5 fun _ s6 zQq=>?_
   obtain⟨x,H6,I6,r6,y6,st6,fr6⟩:=zQq
   have I6':=I6.pinned (stat fr6) (Tn.obj _ _ st6)
   refine thn (hg _ _ _ _ _ s6 σ4 H6 x u _ I6' r6 (step x H6 y6)) fun _ s7 zQq=>?_
   obtain⟨σ7,H7,I7,q7⟩:=zQq
   refine thn (hif _ _ _ _ _ s7 σ7 H7 _ I7 q7) fun b s8 zQq=>?_
   obtain⟨H8,I8,q8⟩:=zQq
   have again:∀ {s9:Shared} {σ9:St} {H9:Hp} {zs:Ln},Inv (eG X scope (fE T F) (s2.heap.objs.size+1) s2 H2 fp) ([]++uG fp s6.heap) σ9 H9 s9->(∃ m',m'<n/\W (i+1) m' zs σ9 H9)->
     ∃ m,m<n/\∃ i ys σ' H',Inv (eG X scope (fE T F) (s2.heap.objs.size+1) s2 H2 fp) [] σ' H' s9/\tn i s9.heap/\(∀ b∈fp,H' b=none)/\W i m ys σ' H':=fun {s9 σ9 H9 zs} I9 ⟨m',hm,w9⟩=>by
    refine⟨m',hm,i+1,zs,σ9,H9,I9.unpinned,Tn.keep _ _ _ st6 fun b hb o e=>(I9.pin (b,o) (mem_append_right _ (mem_append_right _ (lE hb e)))).1,fun b hb=>?_,w9⟩
    obtain⟨o,e,d⟩:=Tn.obj _ _ st6 b hb
    exact(I9.pin (b,o) (mem_append_right _ (mem_append_right _ (lE hb e)))).2.1
   cases b with
   | false=>
    rw[if_neg Bool.false_ne_true]at q8 ⊢
    exact again I8 q8
   | true=>
    rw[if_pos rfl]at q8 ⊢
    refine thn (he _ _ _ _ _ s8 σ7 H8 _ I8 q8) fun uy s9 zQq=>?_
    obtain⟨y,H9,I9,r9,hD9,q9⟩:=zQq
    refine thn (iG _ s9 σ7 H9 (.ref s2.heap.objs.size) [y] (.ref s2.heap.objs.size) [uy] (fun _ H'=>∃ m',m'<n/\W (i+1) m' (ys++[y]) σ7 H') I9 rfl (.cons r9 .nil) ⟨_,ys,y,rfl,rfl,hD9,hz,q9⟩) fun _ s10 zQq=>?_
    obtain⟨_,H10,I10,_,q10⟩:=zQq
    exact again I10 q10
 exact codeAny_compStart_list loop (Tn.self _ 0 _ _ _ st3 loop)
def c9 {elt tg iter:Expr} {ifs:List Expr} {pos:Pos} {wi:TI} {g:TG} {tc:TT} {te:TE} (T:Ld) (F:List (Str × Nat)) (hc:X.calm=true) (hi:PI X tg iter wi)
  (hg:∀ C s₂ H₂ ex,PG (eG X scope (fE T F) C s₂ H₂ ex) tg g) (hif:∀ C s₂ H₂ ex,PIf (eG X scope (fE T F) C s₂ H₂ ex) ifs tc) (he:∀ C s₂ H₂ ex,PE (eG X scope (fE T F) C s₂ H₂ ex) elt te)
  (hclos:closureFor scope X.env=pure (vG scope X.env):=by rfl) (hk:scope.kind = .function:=by rfl) (ok:mI X scope F=true:=by rfl) (hs:∀ x,foldedSetIterable iter X.env x=pure x:=by intro _; rfl) :
  PE X (.ListComp elt [⟨tg,iter,ifs,0⟩] scope pos) (JJ T F wi g tc te):=by
 intro pins s σ H Q I h
 have ok':=ok
 unfold mI at ok'
 simp only[and_eq_true]at ok'
 obtain⟨⟨⟨ok1,ok2⟩,ok3⟩,ok4⟩:=ok'
 have hnames:∀ x∈scope.names,x.2 = .local->scope.names.lookup x.1=some .local:=fun x hx z=>by
  have:=all_eq_true.mp ok2 x hx
  rw[z]at this
  simpa using this
 rw[eval_ListComp]
 refine wpAny_comprehension_free (use:=none) rfl hs hclos hk hnames (thn (hi pins s σ H _ I h) fun v s1 h1=>thn h1 fun itv s2 h2=>?_)
 obtain⟨it,fp,tn,J,H2,e,I2,Tn,st2,f2,h3⟩:=h2
 subst e
 refine yD (RR:=fun acc C=>compPost (model X.prog X.w) X.A X.xe none (EP X pins σ Q) acc C) (Q:=fun D H'=>Q (.ref D) H') hc hk ok hg hif he I2 Tn st2 f2 h3 fun D s' σc H' I' q=>?_
 obtain⟨m,hn,_⟩:=I'.loc
 exact⟨m,hn,fun h' hs'=>⟨.ref D,H',BX I2 f2 I' hs',rfl,q⟩⟩
def mU {y:Str} {i:Nat} {py spos:Pos} {elt tg iter:Expr} {ifs:List Expr} {pos:Pos} {wi:TI} {g:TG} {tc:TT} {te:TE} (T:Ld) (F:List (Str × Nat)) (hN:X.N.Nodup) (hy:X.N[i]? = some y) (hx:Loc X.env.scope y) (hc:X.calm=true) (hi:PI X tg iter wi)
  (hg:∀ C s₂ H₂ ex,PG (eG X scope (fE T F) C s₂ H₂ ex) tg g) (hif:∀ C s₂ H₂ ex,PIf (eG X scope (fE T F) C s₂ H₂ ex) ifs tc) (he:∀ C s₂ H₂ ex,PE (eG X scope (fE T F) C s₂ H₂ ex) elt te)
  (hsw:swapsWith (.ListComp elt [⟨tg,iter,ifs,0⟩] scope pos) (some (.Name y py)) spos.line X.env=pure true:=by rfl)
  (hclos:closureFor scope X.env=pure (vG scope X.env):=by rfl) (hk:scope.kind = .function:=by rfl) (ok:mI X scope F=true:=by rfl) (hs:∀ x,foldedSetIterable iter X.env x=pure x:=by intro _; rfl)
  (hfn:X.fn y=true\/X.env.scope.names.lookup y=some .local:=by first | exact .inl rfl | exact .inr rfl | assumption) :
  PS X (.Assign [.Name y py] (.ListComp elt [⟨tg,iter,ifs,0⟩] scope pos) spos) (fun D σ H=>JJ T F wi g tc te σ H fun v H'=>D.nx (σ.set i (some v)) H'):=by
 intro pins s σ H D I h
 have ok':=ok
 unfold mI at ok'
 simp only[and_eq_true]at ok'
 obtain⟨⟨⟨ok1,ok2⟩,ok3⟩,ok4⟩:=ok'
 have hnames:∀ x∈scope.names,x.2 = .local->scope.names.lookup x.1=some .local:=fun x hx z=>by
  have:=all_eq_true.mp ok2 x hx
  rw[z]at this
  simpa using this
 rw[exec_Assign_Name_used _ _ _ _ hsw]
 refine wpAny_bind (wpAny_standAt (wpAny_bind ?_))
 show wpAny _ X.A (do let _ <- comprehension (.ListComp elt [⟨tg,iter,ifs,0⟩] scope pos) scope X.env _ (newList []) false (eval iter X.env) (some (assign (.Name y py) X.env))) _ _ s
 refine wpAny_bind (wpAny_mono (wpAny_comprehension_free (use:=some (assign (.Name y py) X.env)) (Q:=fun _ s'=>SP X pins D .next s') rfl hs hclos hk hnames
  (thn (hi pins s σ H _ I h) fun v s1 h1=>thn h1 fun itv s2 h2=>?_)) (fun _ s' hq=>wpAny_pure (wpAny_pure hq)) fun _ _ e=>e)
 obtain⟨it,fp,tn,J,H2,e,I2,Tn,st2,f2,h3⟩:=h2
 subst e
 refine yD (RR:=fun acc C=>compPost (model X.prog X.w) X.A X.xe (some (assign (.Name y py) X.env)) (fun _ s'=>SP X pins D .next s') acc C) (Q:=fun Dd H'=>D.nx (σ.set i (some (.ref Dd))) H') hc hk ok hg hif he I2 Tn st2 f2 h3 fun Dd s' σc H' I' q=>?_
 have I3:Inv X pins σ H' s':=BX I2 f2 I' ⟨rfl,fun _ _=>rfl⟩
 obtain⟨m,hn,_⟩:=I'.loc
 obtain⟨oC,es,ep,hoC,hdC,hkC,hmC⟩:=hn
 have fC:H' (s2.heap.objs.size+1)=none:=I'.free
 have hle:s2.heap.objs.size<=s2.heap.objs.size+1:=le_succ _
 have F0:=I2.fpOk (H':=H') hle fC
 obtain⟨g0,g1,g2,g3,g4,g5⟩:=F0
 have I4:Inv X (pins++[(s2.heap.objs.size+1,oC)]) σ H' s':=I3.pins_of fun p hp=>(mem_append.mp hp).elim (fun z=>I3.pin p (mem_append_right _ z)) fun z=>by
  have e:p=(s2.heap.objs.size+1,oC):=by simpa using z
  subst e
  exact⟨hoC,fC,g1,g2,fun v z=>by rw[hdC]at z; cases z⟩
 show wpAny _ X.A (assign (.Name y py) X.env (.ref Dd)) _ _ _
 refine thn (bG (pos:=py) hN hy hx hfn _ s' σ H' (.ref Dd) (.ref Dd) _ I4 rfl (show u6 i (.ref Dd) σ H' D.nx from q)) fun _ s5 zQq=>?_
 obtain⟨σ5,H5,I5,q5⟩:=zQq
 have p5:=I5.pin (s2.heap.objs.size+1,oC) (mem_append_right _ (mem_append_right _ (by simp)))
 refine⟨m,⟨oC,es,ep,p5.1,hdC,hkC,hmC⟩,fun h' hs'=>?_⟩
 refine⟨σ5,H5,?_,q5⟩
 have I6:=I5.unpinned
 exact I6.turned (it:=s2.heap.objs.size+1) (t':=s5.toks) (fun b o hb e=>(hs'.2 b hb).trans e) p5.2.1 g1 g3 g4 g5
end
mutual
def Den (H:Hp):PyData->V->Prop
 | .none,v=>v = .non
 | .bool b,v=>v = .bl b
 | .int i,v=>v = .int i
 | .str x,v=>v = .str x
 | .tuple ds,v=>∃ a xs,v = .ref a/\H a=some (.tup xs)/\aR H ds xs
 | .list ds,v=>∃ a xs,v = .ref a/\H a=some (.lst xs)/\aR H ds xs
 | .dict _,_=>False
def aR (H:Hp):Lg->Ln->Prop
 | [],xs=>xs=[]
 | d::ds,xs=>∃ x r,xs=x::r/\Den H d x/\aR H ds r
end
section
variable {X:Cx} {pins:K7} {σ : St} {H H':Hp} {s:Shared} {K:K6}
def aG.seqT (e:aG H H') (h:SqT K H a xs):SqT K H' a xs:=by
 rcases h with (h | ⟨o,h⟩) | h
 ·exact .inl (.inl (e _ _ h))
 ·exact .inl (.inr ⟨o,e _ _ h⟩)
 ·exact .inr h
mutual
def Den.same (e:aG H H'):∀ {d:PyData} {v:V},Den H d v->Den H' d v
 | .none,v,h=>by simp only[Den]at h ⊢; exact h
 | .bool b,v,h=>by simp only[Den]at h ⊢; exact h
 | .int i,v,h=>by simp only[Den]at h ⊢; exact h
 | .str x,v,h=>by simp only[Den]at h ⊢; exact h
 | .tuple ds,v,h=>by
  simp only[Den]at h ⊢
  obtain⟨a,xs,e1,h1,h2⟩:=h
  exact⟨a,xs,e1,e _ _ h1,aR.same e h2⟩
 | .list ds,v,h=>by
  simp only[Den]at h ⊢
  obtain⟨a,xs,e1,h1,h2⟩:=h
  exact⟨a,xs,e1,e _ _ h1,aR.same e h2⟩
 | .dict _,v,h=>by simp only[Den]at h
def aR.same (e:aG H H'):∀ {ds:Lg} {xs:Ln},aR H ds xs->aR H' ds xs
 | [],xs,h=>by simp only[aR]at h ⊢; exact h
 | d::ds,xs,h=>by
  simp only[aR]at h ⊢
  obtain⟨x,r,e1,h1,h2⟩:=h
  exact⟨x,r,e1,Den.same e h1,aR.same e h2⟩
end
mutual
def kH (I:Inv X pins σ H s):∀ {d:PyData} {v:V} {u:Value},Den H d v->bX v u->∃ as,Reads s.heap u d as
 | .none,v,u,h,r=>by
  simp only[Den]at h
  subst h
  cases (show u=Value.none from r)
  exact⟨_,.none⟩
 | .bool b,v,u,h,r=>by
  simp only[Den]at h
  subst h
  cases (show u=Value.bool b from r)
  exact⟨_,.bool b⟩
 | .int i,v,u,h,r=>by
  simp only[Den]at h
  subst h
  obtain⟨t,e⟩:=(show ∃ t,u=Value.int i t from r)
  subst e
  exact⟨_,.int i t⟩
 | .str x,v,u,h,r=>by
  simp only[Den]at h
  subst h
  obtain⟨t,e⟩:=(show ∃ t,u=Value.str x t from r)
  subst e
  exact⟨_,.str x t⟩
 | .tuple ds,v,u,h,r=>by
  simp only[Den]at h
  obtain⟨a,xs,e1,h1,h2⟩:=h
  subst e1
  cases (show u=Value.ref a from r)
  obtain⟨its,rv,⟨o,ho,hc,n,hd⟩,_⟩:=I.tuple (SqT.of h1)
  obtain⟨as,ra⟩:=n8 I h2 rv
  exact⟨as,.tuple ho hc hd (by simpa using ra)⟩
 | .list ds,v,u,h,r=>by
  simp only[Den]at h
  obtain⟨a,xs,e1,h1,h2⟩:=h
  subst e1
  cases (show u=Value.ref a from r)
  obtain⟨its,rv,⟨o,n,ho,hc,_,hd⟩,_⟩:=I.list (SqL.of h1)
  obtain⟨as,ra⟩:=n8 I h2 rv
  exact⟨a::as,.list ho hc hd (by simpa using ra)⟩
 | .dict _,v,u,h,r=>by simp only[Den]at h
def n8 (I:Inv X pins σ H s):∀ {ds:Lg} {xs:Ln} {us:Lf},aR H ds xs->bZ xs us->∃ as,ReadsAll s.heap us ds as
 | [],xs,us,h,r=>by
  simp only[aR]at h
  subst h
  cases r
  exact⟨_,.nil⟩
 | d::ds,xs,us,h,r=>by
  simp only[aR]at h
  obtain⟨x,rr,e1,h1,h2⟩:=h
  subst e1
  cases r with
  | cons r1 r2=>
   obtain⟨as,ra⟩:=kH I h1 r1
   obtain⟨bs,rb⟩:=n8 I h2 r2
   exact⟨_,.cons ra rb⟩
end
end
section
variable {X:Cx}
inductive J9 (x:V) (y:V) (H:Hp) (Q:VK):Prop
 | mk:∀ d e,Den H d x->Den H e y->SeqAt.shaped d=true->SeqAt.shaped e=true->Q (.bl (PyData.eqv d e)) H->J9 x y H Q
inductive J6 (x:V) (y:V) (H:Hp) (Q:VK):Prop
 | mk:∀ d e,Den H d x->Den H e y->SeqAt.shaped d=true->SeqAt.shaped e=true->Q (.bl (!PyData.eqv d e)) H->J6 x y H Q
def CK (hu:X.A.units+64<cLine):OpR X (compareOp .Eq) J9:=by
 intro pins s σ H x y v u Q I rx ry h
 obtain⟨d,e,h1,h2,s1,s2,q⟩:=h
 obtain⟨as,ra⟩:=kH I h1 rx
 obtain⟨bs,rb⟩:=kH I h2 ry
 exact eq_dataH ra rb s1 s2 hu ⟨.bl _,H,I,rfl,q⟩
def nX (hu:X.A.units+64<cLine):OpR X (compareOp .NotEq) J6:=by
 intro pins s σ H x y v u Q I rx ry h
 obtain⟨d,e,h1,h2,s1,s2,q⟩:=h
 obtain⟨as,ra⟩:=kH I h1 rx
 obtain⟨bs,rb⟩:=kH I h2 ry
 exact ne_dataH ra rb s1 s2 hu ⟨.bl _,H,I,rfl,q⟩
inductive J8 (K:K6) (xs:Ln) (H:Hp) (Q:VK):Prop
 | mk:∀ x n t b,xs=[x,.ty n]->pW K H x t->PySem.W.kitOne K t (.type n)=some b->Q (.bl b) H->J8 K xs H Q
def HP:gM X (.builtin "isinstance") (J8 X.K):=by
 intro pins s σ H xs us Q I r h
 obtain⟨x,n,t,b,rfl,ty,hk,q⟩:=h
 cases r with
 | cons r1 r2=>
  cases r2 with
  | cons r2 r3=>
   cases r3
   cases (show _=Value.type n from r2)
   exact E4 I r1 ty hk fun tk=>⟨.bl b,H,I.tok tk,rfl,q⟩
def aD (h:H p=none):aG H (upd H p o):=fun b u e=>by
 rw[aF (bP e h)]
 exact e
inductive JR (x:V) (y:V) (H:Hp) (Q:VK):Prop
 | mk:∀ a b xs ys,x = .ref a->y = .ref b->H a=some (.tup xs)->H b=some (.tup ys)->xs.length+ys.length<=sizeLine->(∀ p H',aG H H'->H' p=some (.tup (xs++ys))->Q (.ref p) H')->JR x y H Q
def lD:OpR X (binaryOp .Add) JR:=by
 intro pins s σ H x y v u Q I rx ry h
 obtain⟨a,b,xs,ys,rfl,rfl,ha,hb,hz,q⟩:=h
 by_cases hx:xs=[]
 ·subst hx
  cases (show v=Value.ref a from rx)
  cases (show u=Value.ref b from ry)
  obtain⟨its,r1,p1,_⟩:=I.tuple (SqT.of ha)
  obtain⟨its2,r2,p2,_⟩:=I.tuple (SqT.of hb)
  cases r1
  obtain⟨⟨cls,dd,data,sl⟩,ho,hc,n,hd⟩:=p1
  obtain⟨⟨cls2,dd2,data2,sl2⟩,ho2,hc2,n2,hd2⟩:=p2
  simp only at hc hd hc2 hd2
  subst hc hd hc2 hd2
  refine concat_meets ⟨_,ho,rfl⟩ ⟨_,ho2,rfl⟩ noFill_tuple_add seq_tuple_add PySem.F.slot_tuple_add PySem.F.entry_tuple_add (PySem.F.args_tuple_add_2 _ _)
   (tuple_addW0 a b _ _ n n2 dd dd2 sl sl2 rfl) ⟨ho,ho2,?_⟩
  exact⟨.ref b,H,I,rfl,q b H (aG.refl H) hb⟩
 ·refine IR pins s σ H (.ref a) (.ref b) v u Q I rx ry ⟨a,b,xs,ys,rfl,rfl,SqT.of ha,SqT.of hb,hx,hz,fun z=>?_,fun z p hp=>q p _ (aD hp) aB⟩
  subst z
  refine q a H (aG.refl H) ?_
  rw[append_nil]
  exact ha
inductive J4 (K:K6) (xs:Ln) (H:Hp) (Q:VK):Prop
 | mk:∀ (p:Addr) (ns:Lc),xs=[.ref p]->(SqL K H p (ns.map V.int)\/SqT K H p (ns.map V.int))->Q (.int ns.sum) H->J4 K xs H Q
def l8 (ns:Lc):∀ n,n<=ns.length->PySem.preSum (fun i=>ns.getD i 0) n=(ns.take n).sum
 | 0,_=>by simp [PySem.preSum]
 | n+1,h=>by
  have e:=l8 ns n (by omega)
  have hl:n<ns.length:=by omega
  unfold PySem.preSum
  rw[e,take_succ,List.sum_append]
  simp [List.getD,hl]
def Dm {ns:Lc}:∀ {us:Lf},bZ (ns.map V.int) us->∀ i v,us.toArray[i]? = some v->∃ t,v=Value.int (ns.getD i 0) t:=by
 intro us r i v hv
 have hv:us[i]? = some v:=by simpa using hv
 have hl:i<us.length:=(List.getElem?_eq_some_iff.mp hv).1
 have hn:i<ns.length:=by
  have:=r.length
  rw[length_map]at this
  omega
 obtain⟨u,hu,ru⟩:=r.get (i:=i) (x:=V.int ns[i]) (by simp [hn])
 rw[hv]at hu
 cases hu
 obtain⟨t,e⟩:=ru
 exact⟨t,by rw[e]; simp [List.getD,hn]⟩
def FE (hc:X.calm=true):gM X (.builtin "sum") (J4 X.K):=by
 intro pins s σ H xs us Q I r h
 obtain⟨p,ns,rfl,hs,q⟩:=h
 cases r with
 | cons r1 r2=>
  cases r2
  cases (show _=Value.ref p from r1)
  have hh:X.A.in1.handled=none:=I.ok.hd hc
  have fin:∀ s',(∀ b o,b ∉ [s.heap.objs.size]->(s.heap.get? b=some o->s'.heap.get? b=some o))->s'.gens=s.gens->s'.os=s.os->∀ t',EP X pins σ Q (.int ns.sum t') s':=fun s' hk hg ho t'=>by
   obtain⟨h',g',d',tk',os'⟩:=s'
   dsimp only at hg ho
   subst hg ho
   refine⟨.int ns.sum,H,I.call (h':=h') (g':=s.gens) (d':=d') (t':=tk') (ch:=[]) (Un.kept fun b u e=>hk b u (by simpa using ne_of_lt (lt_size e)) e) (I.hok.kept fun b u e=>hk b u (by simpa using ne_of_lt (lt_size e)) e) I.bare (fun b z=>absurd z (by simp)),⟨t',rfl⟩,q⟩
  refine call_sum_walkAnyS ?_
  rcases hs with hs | hs
  ·obtain⟨its,rv,pl,hz⟩:=I.list hs
   have hlen:its.toArray.size=ns.length:=by
    have:=rv.length
    rw[length_map]at this
    simp [this]
   have ne:p≠s.heap.objs.size:=by
    obtain⟨o,n,ho,_⟩:=pl
    exact ne_of_lt (lt_size ho)
   refine wpAny_pyIter_list pl.isList ⟨s.heap.objs.size,_,_,_,_,_,_,(fun i=>ns.getD i 0),rfl,(Walks.list hh s.heap.objs.size p ne its.toArray).toS,⟨⟨_,get?_push_size _ rfl,rfl,rfl⟩,?_⟩,?_,fun i v hv=>Dm rv i v hv,fun s' t' mv=>?_⟩
   ·obtain⟨o,n,ho,hc1,hd1,hd2⟩:=pl
    exact⟨o,get?_push_of_some _ ho,hc1,n,hd2⟩
   ·obtain⟨o,n,ho,_⟩:=pl
    intro b hb
    rw[size_push]
    rcases mem_cons.mp hb with rfl | hb
    ·exact lt_succ_self _
    ·have:b=p:=by simpa using hb
     subst this
     exact lt_succ_of_lt (lt_size ho)
   ·rw[hlen,l8 ns _ (le_refl _),take_length]
    exact fin s' (fun b o hb e=>mv.heap b o hb (get?_push_of_some _ e)) mv.gens mv.os t'
  ·obtain⟨its,rv,pl,hz⟩:=I.tuple hs
   have hlen:its.toArray.size=ns.length:=by
    have:=rv.length
    rw[length_map]at this
    simp [this]
   have ne:p≠s.heap.objs.size:=ne_of_lt pl.lt
   refine wpAny_pyIter_tuple (show s.heap.IsTuple p its.toArray from pl) ⟨s.heap.objs.size,_,_,_,_,_,_,(fun i=>ns.getD i 0),rfl,(Walks.tuple hh s.heap.objs.size p ne its.toArray).toS,⟨⟨_,get?_push_size _ rfl,rfl,rfl⟩,?_⟩,?_,fun i v hv=>Dm rv i v hv,fun s' t' mv=>?_⟩
   ·obtain⟨o,ho,hc1,n,hd2⟩:=pl
    exact⟨o,get?_push_of_some _ ho,hc1,n,hd2⟩
   ·intro b hb
    rw[size_push]
    rcases mem_cons.mp hb with rfl | hb
    ·exact lt_succ_self _
    ·have:b=p:=by simpa using hb
     subst this
     exact lt_succ_of_lt pl.lt
   ·rw[hlen,l8 ns _ (le_refl _),take_length]
    exact fin s' (fun b o hb e=>mv.heap b o hb (get?_push_of_some _ e)) mv.gens mv.os t'
end
section
variable {prog:Program} {w:World} {A:Around} {E:Lk} {s:Shared}
def sT (tc:TypeCalled T nid "object.__init__")
  (hct:checkTypeCall T ⟨as,kw⟩=pure ()) (hcn:checkBuiltinCall nid ⟨.type T::as,kw⟩=pure ()) (ent:entryFor table nid=some Bn) (g:Meets (Bn ⟨.type T::as,kw⟩) S)
  (hi:∀ (obj:Value),argsOk "object.__init__" ⟨obj::as,kw⟩) (gi:∀ (obj:Value),Meets (Builtin.«object.__init__» ⟨obj::as,kw⟩) (fun _ R s=>s.TypeIs obj T/\R (.ok (.ret .none)) s))
  (h:S A.in1 (wants (fun obj s₁=>s₁.TypeIs obj T/\Q obj s₁) E) s):wpAny (model prog w) A (call (.type T) as kw) Q E s:=by
 obtain⟨c0,t0,e0⟩:=tc.mro
 have e1:=tc.made
 have e2:=tc.sub
 refine wpAny_call (codeAny_of_tree ?tree)
 case tree=>
  show wpAny _ _ (callAny (.type T) _) _ _ _
  refine wpAny_pure ⟨Code.quiet_builtin _ (by decide +kernel),codeAny_builtin PySem.F.entry_type_call ?inner⟩
  rw[Around.under_plain (weight_type_call_type T as kw) (units_type_call_type T as kw)]
  have e3:=tc.notType
  have e4:=tc.canCreate
  repeat (any_goals (first | assumption | wp_step))
  refine codeAny_mono (codeAny_call_builtin tc.plain ent (wpAny_of_eq hcn (g prog w A.in1 _ s h))) fun r1 s1 q1=>?_
  cases r1 with
  | error ex=>exact q1
  | ok f1=>
   cases f1 with
   | ret ob=>
    have q1':s1.TypeIs ob T/\Q ob s1:=q1
    obtain⟨ty,q2⟩:=q1'
    have e5:=tc.init.lookup
    have e6:=tc.init.bind ob
    repeat (any_goals (first | assumption | wp_step))
    refine codeAny_mono (codeAny_call_builtin tc.init.plain PySem.F.entry_object_init (tc.init.check _ _ _ _ _ _ _ _ ty (hi ob) (gi ob prog w A.in1 (wants (fun r s₂=>r = .none/\Q ob s₂) E) s1 ⟨ty,rfl,q2⟩))) fun r2 s2 q3=>?_
    cases r2 with
    | error ex=>exact q3
    | ok f2=>
     cases f2 with
     | ret rr=>
      obtain⟨rfl,q4⟩:=q3
      repeat (any_goals (first | assumption | wp_step))
     | _=>exact q3.elim
   | _=>exact q1.elim
def nL (a b:Value):checkTypeCall "enumerate" ⟨[a],[("start",b)]⟩=pure ():=by kernel_rfl
def pN (a b:Value):checkBuiltinCall "enumerate.__new__" ⟨[.type "enumerate",a],[("start",b)]⟩=pure ():=by kernel_rfl
def BM (l:Addr) (items:Array Value) (n:Nat) (dct:Option Addr) (sl:Lb) (t:Tok) :
  Meets (Builtin.«enumerate.__new__» ⟨[.type "enumerate",.ref l],[("start",.int 1 t)]⟩) (fun _ R s=>s.heap.get? l=some { cls:=.type "tuple",dict:=dct,data:=.seq items n,slots:=sl }/\
   R (.ok (.ret (.ref (s.heap.push { cls:=.type "tuple_iterator",data:=.fields #[.ref l,.int 0 0] }).objs.size)))
    { s with heap:=(s.heap.push { cls:=.type "tuple_iterator",data:=.fields #[.ref l,.int 0 0] }).push { cls:=.type "enumerate",data:=.fields #[.none,.bool false,.ref s.heap.objs.size,rawInt 1,.none,.none] } }):=
 .of_wp fun prog w A R s h=>by
  obtain⟨hp,g,d,tk,os⟩:=s
  obtain⟨hl,h⟩:=h
  have z1:=sub_enumerate
  have z2:Heap.IsTuple (Shared.heap ⟨hp,g,d,tk,os⟩) l items:=⟨_,hl,rfl,n,rfl⟩
  wp_walk using AutoSeq1.wpAny_loadPart' hl
  refine wpAny_stack_any fun st=>wpAny_pure ?_
  split
  ·rename_i c _ _ _ _ _
   cases (c == Value.type "enumerate")
   ·wp_walk using AutoSeq1.wpAny_loadPart' hl,wpAny_pyIter_tuple z2
    exact⟨_,rfl,h⟩
   ·wp_walk using AutoSeq1.wpAny_loadPart' hl,wpAny_pyIter_tuple z2
    exact⟨_,rfl,h⟩
  ·wp_walk using AutoSeq1.wpAny_loadPart' hl,wpAny_pyIter_tuple z2
   exact⟨_,rfl,h⟩
def zV (l:Addr) (items:Array Value) (n:Nat) (dct:Option Addr) (sl:Lb) :
  Meets (Builtin.«enumerate.__new__» ⟨[.type "enumerate",.ref l],[]⟩) (fun _ R s=>s.heap.get? l=some { cls:=.type "tuple",dict:=dct,data:=.seq items n,slots:=sl }/\
   R (.ok (.ret (.ref (s.heap.push { cls:=.type "tuple_iterator",data:=.fields #[.ref l,.int 0 0] }).objs.size)))
    { s with heap:=(s.heap.push { cls:=.type "tuple_iterator",data:=.fields #[.ref l,.int 0 0] }).push { cls:=.type "enumerate",data:=.fields #[.none,.bool false,.ref s.heap.objs.size,rawInt 0,.none,.none] } }):=
 .of_wp fun prog w A R s h=>by
  obtain⟨hp,g,d,tk,os⟩:=s
  obtain⟨hl,h⟩:=h
  have z1:=sub_enumerate
  have z2:Heap.IsTuple (Shared.heap ⟨hp,g,d,tk,os⟩) l items:=⟨_,hl,rfl,n,rfl⟩
  wp_walk using AutoSeq1.wpAny_loadPart' hl
  refine wpAny_stack_any fun st=>wpAny_pure ?_
  split
  ·rename_i c _ _ _ _ _
   cases (c == Value.type "enumerate")
   ·wp_walk using AutoSeq1.wpAny_loadPart' hl,wpAny_pyIter_tuple z2
    exact⟨_,rfl,h⟩
   ·wp_walk using AutoSeq1.wpAny_loadPart' hl,wpAny_pyIter_tuple z2
    exact⟨_,rfl,h⟩
  ·wp_walk using AutoSeq1.wpAny_loadPart' hl,wpAny_pyIter_tuple z2
   exact⟨_,rfl,h⟩
def Dp (obj a b:Value):argsOk "object.__init__" ⟨[obj,a],[("start",b)]⟩:=by
 unfold argsOk
 rw[signature?_of (id:="object.__init__") (n:=['_','_','t','i','n','i','_','_']) (o:=['t','c','e','j','b','o']) (by kernel_rfl) PySem.F.owner_object]
 kernel_rfl
def nJ (obj a b:Value):Meets (Builtin.«object.__init__» ⟨[obj,a],[("start",b)]⟩) (fun _ R s=>s.TypeIs obj "enumerate"/\R (.ok (.ret .none)) s):=by
 refine Meets.of_wp fun prog w A R s hs=>?_
 obtain⟨ty,q⟩:=hs
 have e1:=PySem.F.called_enumerate.made
 have e2:=PySem.F.called_enumerate.init.lookup
 repeat (any_goals (first | assumption | wp_step))
 exact⟨_,rfl,q⟩
def Ih (hit:s.heap.IsTupleIter it t i) (ht:s.heap.IsTuple t items) (hx:items[i]? = some x)
  (hQ:∀ h',h'.IsTupleIter it t (i+1)->Heap.SameBut it s.heap h'->Q x { s with heap:=h' }):wpAny (model prog w) A (Builtin.SmallTypes.nextOf (.ref it)) Q E s:=by
 obtain⟨oi,hoi,hci,hdi⟩:=id hit
 obtain⟨ot,hot,_,nt,hdt⟩:=ht
 unfold Builtin.SmallTypes.nextOf
 refine wpAny_bind (wpAny_callSpecial?_slot (name:=Str.ofString "__next__") hit.typeIs PySem.F.slot_tuple_iterator_next (wpAny_call_entry PySem.F.slot_tuple_iterator_next hit.typeIs PySem.F.entry_tuple_iterator_next ?nx (PySem.F.args_tuple_iterator_next_1 _)))
 case nx=>
  show wpAny _ _ (field (.ref it) 0 >>= _) _ _ s
  refine wpAny_bind (wpAny_field hoi hdi (x:=.ref t) rfl ?_)
  show wpAny _ _ (if (Value.ref t == Value.none)=true then _ else _) _ _ s
  rw[if_neg (show ¬ ((Value.ref t == Value.none)=true) from Bool.false_ne_true)]
  show wpAny _ _ (field (.ref it) 1 >>= _) _ _ s
  refine wpAny_bind (wpAny_field hoi hdi (x:=.int i 0) rfl ?_)
  show wpAny _ _ (seqItems? (.ref t) >>= _) _ _ s
  refine wpAny_bind (wpAny_seqItems hot hdt ?_)
  simp only[Int.toNat_natCast,hx]
  refine wpAny_bind (wpAny_setField hoi hdi (by simp) (wpAny_pure ⟨x,rfl,wpAny_pure (hQ _ ⟨_,Heap.get?_update_self _ hoi (Obj.isFreed_of_fields (Obj.data_mapFields hdi _)),(Obj.cls_mapFields ..).trans hci,?_⟩ (Heap.SameBut.update ..))⟩))
  rw[Obj.data_mapFields hdi]
  simp [rawInt]
def HK {e it t:Addr} {i:Nat} {lo:Int} {items:Array Value} {x old:Value} {Q:Option Value->Shared->Prop}
  (he:IsEnum s.heap e it (lo+i) old) (hit:s.heap.IsTupleIter it t i) (ht:s.heap.IsTuple t items) (hx:items[i]? = some x) (hne:e≠it)
  (hQ:∀ h',IsEnumOut h' e it (lo+i+1) x s.heap.objs.size->h'.IsTupleIter it t (i+1)->
   h'.get? s.heap.objs.size=some { cls:=.type "tuple",data:=.seq #[.int (lo+i) s.toks,x] }->(∀ b o,b≠e->b≠it->s.heap.get? b=some o->h'.get? b=some o)->
   Q (some (.ref s.heap.objs.size)) { s with heap:=h',toks:=s.toks+1 }):wpAny (model prog w) A (pyNext (.ref e)) Q E s:=by
 have ty:s.TypeIs (.ref e) "enumerate":=⟨_,he,rfl⟩
 unfold pyNext
 refine wpAny_bind (wpAny_attempt (wpAny_callSpecial?_slot (name:=Str.ofString "__next__") ty PySem.F.slot_enumerate_next (wpAny_call_entry PySem.F.slot_enumerate_next ty PySem.F.entry_enumerate_next ?nx (PySem.F.args_enumerate_next_1 _))))
 case nx=>
  obtain⟨hp,g,d,tk,os⟩:=s
  show wpAny _ _ (field (.ref e) 2 >>= _) _ _ _
  refine wpAny_bind (wpAny_field he rfl (x:=.ref it) rfl ?_)
  refine wpAny_bind (Ih hit ht hx fun k1 hit1 sb1=>?_)
  replace sb1:Heap.SameBut it hp k1:=sb1
  have g1:IsEnum k1 e it (lo+i) old:=(sb1.2 e hne).trans he
  show wpAny _ _ (field (.ref e) 3 >>= _) _ _ ⟨k1,g,d,tk,os⟩
  refine wpAny_bind (wpAny_field g1 rfl (x:=rawInt (lo+i)) rfl ?_)
  show wpAny _ _ (field (.ref e) 4 >>= _) _ _ ⟨k1,g,d,tk,os⟩
  refine wpAny_bind (wpAny_field g1 rfl (x:=.none) rfl ?_)
  show wpAny _ _ (mkInt (lo+i) >>= _) _ _ ⟨k1,g,d,tk,os⟩
  refine wpAny_bind (wpAny_mkInt ?_)
  show wpAny _ _ (setField (.ref e) 3 (rawInt (lo+i+1)) >>= _) _ _ ⟨k1,g,d,tk+1,os⟩
  refine wpAny_bind (wpAny_setField_rec g1 (by simp) fun k2 g2 sb2=>?_)
  replace sb2:Heap.SameBut e k1 k2:=sb2
  replace g2:IsEnum k2 e it (lo+i+1) old:=g2
  show wpAny _ _ (setField (.ref e) 4 .none >>= _) _ _ ⟨k2,g,d,tk+1,os⟩
  refine wpAny_bind (wpAny_setField_rec g2 (by simp) fun k3 g3 sb3=>?_)
  replace sb3:Heap.SameBut e k2 k3:=sb3
  replace g3:IsEnum k3 e it (lo+i+1) old:=g3
  show wpAny _ _ (newTuple [.int (lo+i) tk,x] >>= _) _ _ ⟨k3,g,d,tk+1,os⟩
  refine wpAny_bind (wpAny_newTuple ?_)
  have g4:IsEnum (k3.push { cls:=.type "tuple",data:=.seq #[.int (lo+i) tk,x] }) e it (lo+i+1) old:=get?_push_of_some _ g3
  generalize hk4:k3.push { cls:=.type "tuple",data:=.seq #[.int (lo+i) tk,x] }=k4 at g4
  have sz:k3.objs.size=hp.objs.size:=by rw[sb3.1,sb2.1,sb1.1]
  have el:e<hp.objs.size:=lt_size he
  have t4:k4.get? hp.objs.size=some { cls:=.type "tuple",data:=.seq #[.int (lo+i) tk,x] }:=by
   rw[<- hk4,<- sz]
   exact get?_push_size _ rfl
  have kp4:∀ b o,b≠e->b≠it->hp.get? b=some o->k4.get? b=some o:=fun b o n1 n2 q=>by
   rw[<- hk4]
   exact get?_push_of_some _ (sb3.extBut b o n1 (sb2.extBut b o n1 (sb1.extBut b o n2 q)))
  have hit4:k4.IsTupleIter it t (i+1):=by
   obtain⟨o,ho,r⟩:=hit1
   rw[<- hk4]
   exact⟨o,get?_push_of_some _ (sb3.extBut it o (Ne.symm hne) (sb2.extBut it o (Ne.symm hne) ho)),r⟩
  show wpAny _ _ (Builtin.SmallTypes.ownedTupleIsFree (.ref e) >>= _) _ _ ⟨k4,g,d,tk+1,os⟩
  rw[sz]
  clear hk4 g3 sb3 g2 sb2 g1 sb1 hit1 sz k3 k2 k1
  refine wpAny_bind ?_
  unfold Builtin.SmallTypes.ownedTupleIsFree
  refine wpAny_bind (wpAny_field g4 rfl (x:=.none) rfl (wpAny_pure ?_))
  simp only[if_true]
  refine wpAny_bind (wpAny_rule ?_)
  refine wpAny_bind (wpAny_field g4 rfl (x:=old) rfl ?_)
  refine wpAny_bind (wpAny_setField_rec g4 (by simp) fun k5 g5 sb5=>?_)
  replace sb5:Heap.SameBut e k4 k5:=sb5
  replace g5:IsEnum k5 e it (lo+i+1) x:=g5
  show wpAny _ _ (Builtin.SmallTypes.ownedTupleHandOut (.ref e) (.ref hp.objs.size) >>= _) _ _ ⟨k5,g,d,tk+1,os⟩
  refine wpAny_bind ?_
  unfold Builtin.SmallTypes.ownedTupleHandOut
  refine wpAny_bind (wpAny_setField_rec g5 (by simp) fun k6 g6 sb6=>?_)
  replace sb6:Heap.SameBut e k5 k6:=sb6
  replace g6:IsEnumOut k6 e it (lo+i+1) x hp.objs.size:=g6
  refine wpAny_setField_rec g6 (by simp) fun k7 g7 sb7=>?_
  replace sb7:Heap.SameBut e k6 k7:=sb7
  replace g7:IsEnumOut k7 e it (lo+i+1) x hp.objs.size:=g7
  refine wpAny_bind (wpAny_letGo (wpAny_pure ⟨_,rfl,wpAny_pure (hQ k7 g7 ?_ ?_ ?_)⟩))
  ·obtain⟨o,ho,r⟩:=hit4
   exact⟨o,sb7.extBut it o (Ne.symm hne) (sb6.extBut it o (Ne.symm hne) (sb5.extBut it o (Ne.symm hne) ho)),r⟩
  ·exact sb7.extBut _ _ (ne_of_gt el) (sb6.extBut _ _ (ne_of_gt el) (sb5.extBut _ _ (ne_of_gt el) t4))
  ·exact fun b o n1 n2 q=>sb7.extBut b o n1 (sb6.extBut b o n1 (sb5.extBut b o n1 (kp4 b o n1 n2 q)))
def Ir {e it t:Addr} {i:Nat} {lo:Int} {items:Array Value} {old:Value} {Q:Option Value->Shared->Prop} (hh:A.handled=none)
  (he:IsEnum s.heap e it lo old) (hit:s.heap.IsTupleIter it t i) (ht:s.heap.IsTuple t items) (hx:items[i]? = none)
  (hQ:∀ h',Heap.ExtBut it s.heap h'->Q none { s with heap:=h' }):wpAny (model prog w) A (pyNext (.ref e)) Q E s:=by
 have ty:s.TypeIs (.ref e) "enumerate":=⟨_,he,rfl⟩
 obtain⟨oi,hoi,hci,hdi⟩:=id hit
 obtain⟨ot,hot,_,nt,hdt⟩:=ht
 unfold pyNext
 refine wpAny_bind (wpAny_attempt (wpAny_callSpecial?_slot (name:=Str.ofString "__next__") ty PySem.F.slot_enumerate_next (wpAny_call_entry PySem.F.slot_enumerate_next ty PySem.F.entry_enumerate_next ?nx (PySem.F.args_enumerate_next_1 _))))
 case nx=>
  show wpAny _ _ (field (.ref e) 2 >>= _) _ _ _
  refine wpAny_bind (wpAny_field he rfl (x:=.ref it) rfl ?_)
  refine wpAny_bind ?_
  unfold Builtin.SmallTypes.nextOf
  refine wpAny_bind (wpAny_callSpecial?_slot (name:=Str.ofString "__next__") hit.typeIs PySem.F.slot_tuple_iterator_next (wpAny_call_entry PySem.F.slot_tuple_iterator_next hit.typeIs PySem.F.entry_tuple_iterator_next ?nx2 (PySem.F.args_tuple_iterator_next_1 _)))
  case nx2=>
   show wpAny _ _ (field (.ref it) 0 >>= _) _ _ s
   refine wpAny_bind (wpAny_field hoi hdi (x:=.ref t) rfl ?_)
   show wpAny _ _ (if (Value.ref t == Value.none)=true then _ else _) _ _ s
   rw[if_neg (show ¬ ((Value.ref t == Value.none)=true) from Bool.false_ne_true)]
   show wpAny _ _ (field (.ref it) 1 >>= _) _ _ s
   refine wpAny_bind (wpAny_field hoi hdi (x:=.int i 0) rfl ?_)
   show wpAny _ _ (seqItems? (.ref t) >>= _) _ _ s
   refine wpAny_bind (wpAny_seqItems hot hdt ?_)
   simp only[Int.toNat_natCast,hx]
   refine wpAny_bind (wpAny_rule (wpAny_bind (wpAny_setField hoi hdi (by simp) ?_)))
   show wpAny _ _ (newExc (.type "StopIteration") [] >>= _) _ _ _
   refine wpAny_bind ?_
   simp only[newExc,newTuple]
   refine wpAny_bind (wpAny_newObj_type ?_ (by size_fits))
   refine wpAny_bind (m:=firstArgMember _ _) (wpAny_of_eq (a:=Value.none) (by first | rfl | (simp only[firstArgMember]; rfl)) ?_)
   refine wpAny_newObj_type ?_ (by size_fits)
   simp only[raiseNew]
   refine wpAny_bind (wpAny_handled ?_)
   first | rw[show A.in1.handled=none from hh] | rw[show A.in1.in1.handled=none from hh] | rw[hh]
   refine wpAny_bind (wpAny_pure (wpAny_throw ?_))
   refine wpAny_bind (wpAny_isInstance (T:="StopIteration") (b:=true) ⟨_,get?_push_size _ rfl,rfl⟩ isSubtype_stop ?_)
   exact wpAny_pure (hQ _ (((Heap.SameBut.update ..).extBut.push _).push _))
end
def Ite (K:K6) (lo:Int) (a:Addr):It:=
 ⟨fun i H=>∃ xs x,SqT K H a xs/\xs[i]? = some x,fun i H x H'=>∃ p v,x = .ref p/\H p=none/\H'=upd H p (.tup [.int (lo+i),v])/\∀ xs,SqT K H a xs->xs[i]? = some v,fun i H=>∃ xs,SqT K H a xs/\xs.length<=i⟩
section
variable {X:Cx} {pins:K7} {σ : St} {H:Hp} {s:Shared}
def Inv.turned2 (I:Inv X pins σ H s) (fe:qZ X pins H e) (fi:qZ X pins H it) (hp:s.heap.objs.size<=p) (k:∀ b o,b≠e->b≠it->s.heap.get? b=some o->h'.get? b=some o)
  (th:(∃ o,h'.get? e=some o)/\∃ o,h'.get? it=some o) (new:d8 X.prog X.w (upd H p (.tup xs)) h' p (.tup xs)):Inv X pins σ (upd H p (.tup xs)) { s with heap:=h',toks:=t' }:=by
 have hn:=I.hok.fresh hp
 have np:∀ b o,s.heap.get? b=some o->b≠p:=fun b o q=>ne_of_lt (lt_of_lt_of_le (lt_size q) hp)
 refine I.call' (s':={ s with heap:=h',toks:=t' }) (ch:=[e,it]) rfl ⟨fun b o q n _ hc=>?_,fun b o q n _ hc=>⟨o.slots,?_⟩,fun b o q n _=>?_,fun b o q hc=>⟨o,?_⟩,fun b ys q=>?_,fun b u ys q=>?_,fun b ps q=>⟨#[],?_⟩⟩ ?_ I.bare fun b hb=>?_
 ·exact k b o (fun z=>hc (by simp [z])) (fun z=>hc (by simp [z])) q
 ·exact k b o (fun z=>hc (by simp [z])) (fun z=>hc (by simp [z])) q
 ·rw[aF (np b o q)]
  exact n
 ·exact k b o (fun z=>hc (by simp [z])) (fun z=>hc (by simp [z])) q
 ·rw[aF (bP q hn)]
  exact q
 ·rw[aF (bP q hn)]
  exact q
 ·rw[aF (bP q hn),q]
  simp
 ·intro b u q
  by_cases hb:b=p
  ·subst hb
   rw[aB]at q
   cases q
   exact new
  ·rw[aF hb]at q
   refine(I.hok b u q).stay (fun c v hc r=>k c v ?_ ?_ r) (fun c r=>by rw[aF (bP r hn)]; exact r) fun c ys r=>by rw[aF (bP r hn)]; exact r
   ·rintro rfl
    rcases hc with hc | hc
    ·rw[<- hc,fe.1]at q; cases q
    ·rw[fe.1]at hc; cases hc
   ·rintro rfl
    rcases hc with hc | hc
    ·rw[<- hc,fi.1]at q; cases q
    ·rw[fi.1]at hc; cases hc
 ·rcases mem_cons.mp hb with rfl | hb
  ·exact⟨fe.2.2.2.1,fe.2.1,fe.2.2.2.2.1,fe.2.2.2.2.2⟩
  ·have:b=it:=by simpa using hb
   subst this
   exact⟨fi.2.2.2.1,fi.2.1,fi.2.2.2.2.1,fi.2.2.2.2.2⟩
def EE {P:Program} {w:World} {K:K6} {elts:List Expr} {x1:Nat} {tp:Pos} (lo:Int) (a e it:Addr) (hne:e≠it) :
  Turn P w K (.Tuple elts x1 tp) (Ite K lo a) [e,it] e (fun i h=>(∃ old,IsEnum h e it (lo+(i:Nat)) old)/\h.IsTupleIter it a i) where
 mem:=by simp
 obj:=fun i h st b hb=>by
  obtain⟨⟨old,he⟩,o,ho,hc,hd⟩:=st
  rcases mem_cons.mp hb with rfl | hb
  ·exact⟨_,he,fun v z=>by cases (show Data.fields _=Data.cell v from z)⟩
  ·have:b=it:=by simpa using hb
   subst this
   exact⟨o,ho,fun v z=>by rw[hd]at z; cases z⟩
 keep:=fun i h h' st k=>by
  obtain⟨⟨old,he⟩,o,ho,r⟩:=st
  exact⟨⟨old,k e (by simp) _ he⟩,o,k it (by simp) _ ho,r⟩
 item:=by
  intro X hP hw hK hc i pins s σ H E I hf st hg
  subst hP hw hK
  obtain⟨⟨old,he⟩,hit⟩:=st
  obtain⟨xs,x,hq,hx⟩:=hg
  obtain⟨its,rv,p,hz⟩:=I.tuple hq
  obtain⟨u,hu,ru⟩:=rv.get hx
  refine HK he hit (show s.heap.IsTuple a its.toArray from p) (x:=u) (by simpa using hu) hne fun h' ho hit' ht kp=>⟨.ref s.heap.objs.size,rfl,?_⟩
  refine wpAny_letOwnedTupleGo_enum ho fun h2 he2 sb2=>?_
  have el:e<s.heap.objs.size:=lt_size he
  have il:it<s.heap.objs.size:=by
   obtain⟨o,ho',_⟩:=hit
   exact lt_size ho'
  have t2:h2.get? s.heap.objs.size=some { cls:=.type "tuple",data:=.seq #[.int (lo+i) s.toks,u] }:=(sb2.2 _ (ne_of_gt el)).trans ht
  have hit2:h2.IsTupleIter it a (i+1):=by
   obtain⟨o,ho',r⟩:=hit'
   exact⟨o,(sb2.2 it (Ne.symm hne)).trans ho',r⟩
  have eqi:lo+(i:Int)+1=lo+((i+1:Nat):Int):=by omega
  refine⟨.ref s.heap.objs.size,upd H s.heap.objs.size (.tup [.int (lo+i),x]),?_,rfl,⟨_,x,rfl,I.hok.fresh (le_refl _),rfl,fun ys hy=>by rw[I.tuple_inj hy hq]; exact hx⟩,⟨⟨u,by rw[<- eqi]; exact he2⟩,hit2⟩,fun b hb=>?_⟩
  ·refine I.turned2 (t':=s.toks+1) (hf e (by simp)) (hf it (by simp)) (le_refl _) (fun b o n1 n2 q=>(sb2.2 b n1).trans (kp b o n1 n2 q)) ⟨⟨_,he2⟩,let ⟨o,h,_⟩:=hit2; ⟨o,h⟩⟩ ?_
   refine⟨(by show 2<=sizeLine; decide),[.int (lo+i) s.toks,u],.cons ⟨_,rfl⟩ (.cons ru .nil),⟨_,t2,rfl,_,rfl⟩⟩
  ·rw[aF ?_]
   ·exact(hf b hb).1
   ·rcases mem_cons.mp hb with rfl | hb
    ·exact ne_of_lt el
    ·have:b=it:=by simpa using hb
     subst this
     exact ne_of_lt il
 done:=by
  intro X hP hw hK hc i pins s σ H E I hf st hg
  subst hP hw hK
  obtain⟨⟨old,he⟩,hit⟩:=st
  obtain⟨xs,hq,hx⟩:=hg
  obtain⟨its,rv,p,hz⟩:=I.tuple hq
  obtain⟨f0,f1,f2,f3,f4,f5⟩:=hf it (by simp)
  have hl:=rv.length
  exact Ir (I.ok.hd hc) he hit (show s.heap.IsTuple a its.toArray from p) (by simp; omega) fun h' eb=>⟨rfl,I.turned (t':=s.toks) (fun b o hb e=>eb b o hb e) f0 f1 f3 f4 f5⟩
 self:=fun A i s Q E st h=>by
  obtain⟨⟨old,he⟩,_⟩:=st
  exact wpAny_pyIter_enum he h
inductive zQ (K:K6) (lo:Int) (R:(It->Hp->Prop)) (x:V) (H1:Hp):Prop
 | mk:∀ a xs,x = .ref a->SqT K H1 a xs->R (Ite K lo a) H1->zQ K lo R x H1
def Dq (K:K6) (lo:Int) (ta:TE):TI:=fun σ H R=>ta σ H (zQ K lo R)
def vD {tg:Expr} {elts:List Expr} {x1:Nat} {tp:Pos} {R:It->Hp->Prop} {lo:Int} {a:Addr} {E:Lk} {tk:Nat} (I:Inv X pins σ H s) (q:R (Ite X.K lo a) H) :
  wpAny (model X.prog X.w) X.A (pyIter (.ref (s.heap.objs.size+1))) (PIE X pins σ (.Tuple elts x1 tp) R) E
   { s with heap:=(s.heap.push { cls:=.type "tuple_iterator",data:=.fields #[.ref a,.int 0 0] }).push { cls:=.type "enumerate",data:=.fields #[.none,.bool false,.ref s.heap.objs.size,rawInt lo,.none,.none] },toks:=tk }:=by
 have z:(s.heap.push { cls:=.type "tuple_iterator",data:=.fields #[.ref a,.int 0 0] }).objs.size=s.heap.objs.size+1:=size_push _ _
 have he:IsEnum ((s.heap.push { cls:=.type "tuple_iterator",data:=.fields #[.ref a,.int 0 0] }).push { cls:=.type "enumerate",data:=.fields #[.none,.bool false,.ref s.heap.objs.size,rawInt lo,.none,.none] }) (s.heap.objs.size+1) s.heap.objs.size lo .none:=by
  have q:=get?_push_size (s.heap.push { cls:=.type "tuple_iterator",data:=.fields #[.ref a,.int 0 0] }) (o:={ cls:=.type "enumerate",data:=.fields #[.none,.bool false,.ref s.heap.objs.size,rawInt lo,.none,.none] }) rfl
  rw[z]at q
  exact q
 have I1:Inv X pins σ H { s with heap:=(s.heap.push { cls:=.type "tuple_iterator",data:=.fields #[.ref a,.int 0 0] }).push { cls:=.type "enumerate",data:=.fields #[.none,.bool false,.ref s.heap.objs.size,rawInt lo,.none,.none] },toks:=tk }:=
  I.kept fun b o e=>get?_push_of_some _ (get?_push_of_some _ e)
 refine wpAny_pyIter_enum he ⟨s.heap.objs.size+1,[s.heap.objs.size+1,s.heap.objs.size],_,Ite X.K lo a,H,rfl,I1,EE lo a _ _ (ne_of_gt (lt_succ_self _)),⟨⟨.none,by simpa using he⟩,⟨_,get?_push_of_some _ (get?_push_size _ rfl),rfl,rfl⟩⟩,fun b hb=>?_,q⟩
 rcases mem_cons.mp hb with rfl | hb
 ·exact I.fpOk (le_succ _) (I.hok.fresh (le_succ _))
 ·have:b=s.heap.objs.size:=by simpa using hb
  subst this
  exact I.fpOk (le_refl _) (I.hok.fresh (le_refl _))
def IH {ex:Expr} {elts:List Expr} {x1:Nat} {tp p pos:Pos} {ta:TE} (hm:X.mg "enumerate" = none) (ha:PE X ex ta) (hg:Gl X "enumerate":=by rfl) (hs:starEach [ex] X.env=[(false,eval ex X.env)]:=by rfl) :
  PI X (.Tuple elts x1 tp) (.Call (.Name "enumerate" p) [ex] [] pos) (Dq X.K 0 ta):=by
 intro pins s σ H R I h
 refine Call_ (lG I hg hm boot_enumerate (PyProof.Rows.callWith_type1 (thn (eW ha aH hs pos pins s σ H (fun vs H1=>∃ a xs,vs=[V.ref a]/\SqT X.K H1 a xs/\R (Ite X.K 0 a) H1) I ?_) fun us s1 ⟨vs,H1,I1,r1,q1⟩=>?_) hs rfl))
 ·have e:(fun(x:V) (H1:Hp)=>lR σ H1 fun xs H2=>∃ a ys,x::xs=[V.ref a]/\SqT X.K H2 a ys/\R (Ite X.K 0 a) H2)=zQ X.K 0 R:=by
   funext x H1
   exact propext ⟨fun⟨a,ys,z,h1,h2⟩=>⟨a,ys,(List.cons.inj z).1,h1,h2⟩,fun⟨a,ys,z,h1,h2⟩=>⟨a,ys,congrArg (· :: []) z,h1,h2⟩⟩
  exact Eq.mpr (congrArg (ta σ H) e) h
 ·obtain⟨a,xs,e,hq,q⟩:=q1
  subst e
  cases r1 with
  | cons r rr=>
   cases rr
   cases (show _=Value.ref a from r)
   obtain⟨its,rv,⟨⟨c,dd,dt,sl⟩,ho,hc1,n,hd1⟩,hz⟩:=I1.tuple hq
   dsimp only at hc1 hd1
   subst hc1 hd1
   refine callType_new PySem.F.called_enumerate (by decide) (PySem.F.typeCall_enumerate_1 _) (PySem.F.newCall_enumerate_1 _) (fun obj=>PySem.F.args_object_init_2 obj _) PySem.F.entry_enumerate_new (zV a _ n dd sl) ⟨ho,⟨_,get?_push_size _ rfl,rfl⟩,?_⟩
   rw[size_push]
   exact vD (tg:=ex) (tk:=s1.toks) I1 q
def Ba {M:Model} {A:Around} {E:Lk} {s:Shared} {pos:Pos} {T:String} {x:Sem Value} {rest:List (Bool × Sem Value)} {kws:List (Option Str × Sem Value)} {Q:Lk} (h1:rest.any (·.1)=false) (h2:kws.any (·.1.isNone)=false) (h3:kws.all (·.1.isSome)=true)
  (h:wpAny M A (spliced ((false,x)::rest)) (fun vs s₁=>wpAny M A (evalAll (kws.map (·.2))) (fun ws s₂=>wpAny M A (call (.type T) vs ((kws.filterMap (·.1)).zip ws)) Q E s₂) E s₁) E s):wpAny M A (callWith pos (.type T) [] ((false,x)::rest) kws) Q E s:=by
 unfold callWith
 refine wpAny_bind (wpAny_holding (evalArgs_kwB h3 (wpAny_mono h (fun vs s1 q1=>wpAny_mono q1 (fun ws s2 q2=>wpAny_bind (wpAny_standAt ?_)) fun _ _ y=>y) fun _ _ y=>y)))
 have h4:(((false,x)::rest).any (·.1))=false:=by
  rw[any_cons,h1]
  rfl
 simp only[h4,h2,Bool.or_false]
 refine wpAny_bind (wpAny_pure ?_)
 exact wpAny_bind (wpAny_mono q2 (fun r s3 q3=>wpAny_bind (wpAny_holding (wpAny_point (wpAny_pure q3)))) fun _ _ y=>y)
def GP {ex:Expr} {elts:List Expr} {x1 k:Nat} {tp p pos cp kp:Pos} {ta:TE} (hm:X.mg "enumerate" = none) (ha:PE X ex ta) (hg:Gl X "enumerate":=by rfl) (hs:starEach [ex] X.env=[(false,eval ex X.env)]:=by rfl) :
  PI X (.Tuple elts x1 tp) (.Call (.Name "enumerate" p) [ex] [⟨some "start",.Constant (.int 1) k cp,kp⟩] pos) (Dq X.K 1 ta):=by
 intro pins s σ H R I h
 refine wpAny_Call_Name_kw (lG I hg hm boot_enumerate ?_)
 rw[hs]
 refine Ba (x:=eval ex X.env) (rest:=[]) rfl rfl rfl ?_
 have ha':=eW ha aH hs pos pins s σ H (fun vs H1=>∃ a xs,vs=[V.ref a]/\SqT X.K H1 a xs/\R (Ite X.K 1 a) H1) I (by
  have e:(fun(x:V) (H1:Hp)=>lR σ H1 fun xs H2=>∃ a ys,x::xs=[V.ref a]/\SqT X.K H2 a ys/\R (Ite X.K 1 a) H2)=zQ X.K 1 R:=by
   funext x H1
   exact propext ⟨fun⟨a,ys,z,h1,h2⟩=>⟨a,ys,(List.cons.inj z).1,h1,h2⟩,fun⟨a,ys,z,h1,h2⟩=>⟨a,ys,congrArg (· :: []) z,h1,h2⟩⟩
  exact Eq.mpr (congrArg (ta σ H) e) h)
 rw[hs]at ha'
 refine thn ha' fun us s1 zQq=>?_
 obtain⟨vs,H1,I1,r1,q1⟩:=zQq
 refine kws_cons (wpAny_Constant_int ?_)
 refine kws_nil ?_
 obtain⟨a,xs,e,hq,q⟩:=q1
 subst e
 cases r1 with
 | cons r rr=>
  cases rr
  cases (show _=Value.ref a from r)
  have I2:=I1.tok (s1.toks+1)
  obtain⟨its,rv,⟨⟨c,dd,dt,sl⟩,ho,hc1,n,hd1⟩,hz⟩:=I2.tuple hq
  dsimp only at hc1 hd1
  subst hc1 hd1
  refine sT (kw:=[("start",_)]) PySem.F.called_enumerate (nL _ _) (pN _ _) PySem.F.entry_enumerate_new (BM a _ n dd sl _) (fun obj=>Dp obj _ _) (fun obj=>nJ obj _ _) ⟨ho,⟨_,get?_push_size _ rfl,rfl⟩,?_⟩
  rw[size_push]
  exact vD (tg:=ex) (tk:=s1.toks+1) I2 q
end
section
variable {X:Cx}
inductive KA (K:K6) (xs:Ln) (H:Hp) (Q:VK):Prop
 | mk:∀ (p:Addr) (bs:List Bool),xs=[.ref p]->SqL K H p (bs.map V.bl)->Q (.bl (bs.all id)) H->KA K xs H Q
def HU {bs:List Bool}:∀ {us:Lf},bZ (bs.map V.bl) us->∀ i v,us.toArray[i]? = some v->v=Value.bool (bs.getD i false):=by
 intro us r i v hv
 have hv:us[i]? = some v:=by simpa using hv
 have hl:i<us.length:=(List.getElem?_eq_some_iff.mp hv).1
 have hn:i<bs.length:=by
  have:=r.length
  rw[length_map]at this
  omega
 obtain⟨u,hu,ru⟩:=r.get (i:=i) (x:=V.bl bs[i]) (by simp [hn])
 rw[hv]at hu
 cases hu
 have e:v=Value.bool bs[i]:=ru
 rw[e]
 simp [List.getD,hn]
def HZ (bs:List Bool):((List.range bs.length).all fun i=>bs.getD i false)=bs.all id:=by
 rw[Bool.eq_iff_iff,all_eq_true,all_eq_true]
 constructor
 ·intro h b hb
  obtain⟨i,hi,e⟩:=List.mem_iff_getElem.mp hb
  have:=h i (mem_range.mpr hi)
  simp [List.getD,hi,e]at this
  simpa using this
 ·intro h i hi
  have hi:=mem_range.mp hi
  have:=h bs[i] (List.getElem_mem hi)
  simpa [List.getD,hi] using this
def FG (hc:X.calm=true):gM X (.builtin "all") (KA X.K):=by
 intro pins s σ H xs us Q I r h
 obtain⟨p,bs,rfl,hs,q⟩:=h
 cases r with
 | cons r1 r2=>
  cases r2
  cases (show _=Value.ref p from r1)
  have hh:X.A.in1.handled=none:=I.ok.hd hc
  refine call_all_walk ?_
  obtain⟨its,rv,pl,hz⟩:=I.list hs
  have hlen:its.toArray.size=bs.length:=by
   have:=rv.length
   rw[length_map]at this
   simp [this]
  have ne:p≠s.heap.objs.size:=by
   obtain⟨o,n,ho,_⟩:=pl
   exact ne_of_lt (lt_size ho)
  refine wpAny_pyIter_list pl.isList ⟨s.heap.objs.size,_,_,_,_,_,(fun i=>bs.getD i false),rfl,Walks.list hh s.heap.objs.size p ne its.toArray,⟨⟨_,get?_push_size _ rfl,rfl,rfl⟩,?_⟩,fun i v s' Q' E' hv hq=>?_,fun h' tk hk=>?_⟩
  ·obtain⟨o,n,ho,hc1,hd1,hd2⟩:=pl
   exact⟨o,get?_push_of_some _ ho,hc1,n,hd2⟩
  ·rw[HU rv i v hv]
   exact wpAny_truthy_bool hq
  ·rw[hlen,HZ]
   refine⟨.bl _,H,I.kept (t':=tk) fun b u e=>hk b u (by simpa using ne_of_lt (lt_size e)) (get?_push_of_some _ e),rfl,q⟩
def J3 {M:Model} {A:Around} {E:Lk} {s:Shared} {β : Type} {hi:Nat} (f:Nat->β->Sem (ForInStep β)) (I:List Nat->β->Shared->Prop) (Q:β->Shared->Prop)
  (turn:∀ x rest b s,I (x::rest) b s->wpAny M A (f x b) (fun r s'=>match r with | .yield b'=>I rest b' s' | .done b'=>Q b' s') E s)
  (fin:∀ b s,I [] b s->Q b s) (b:β) (h:I (List.range' 0 hi) b s):wpAny M A (forIn [0:hi] b f) Q E s:=by
 rw[Std.Legacy.Range.forIn_eq_forIn_range']
 refine wpAny_forIn_list f I Q turn fin _ b ?_
 simpa [Std.Legacy.Range.size] using h
def sW (l:Addr) (items:Array Value) (n:Nat) (dd:Option Addr) (sl:Lb) (x:Value) (e:Value->Bool) (j:Nat) (hj:j<items.size) (hy:e items[j]=true) (hn:∀ i (h:i<j),e items[i]=false) :
  Meets (Builtin.«tuple.index» ⟨[.ref l,x],[]⟩) (fun A R s=>s.heap.get? l=some { cls:=.type "tuple",dict:=dd,data:=.seq items n,slots:=sl }/\(∀ y,y∈items->SeqAt.EqAt A.in1 s y x (e y))/\R (.ok (.ret (.int j s.toks))) { s with toks:=s.toks+1 }):=
 .of_wp fun prog w A R s h=>by
  obtain⟨hp,g,d,tk,os⟩:=s
  obtain⟨hl,he,h⟩:=h
  wp_walk using AutoSeq1.wpAny_loadPart' hl,J3 _ (fun rest b s'=>b.1=none/\s'=⟨hp,g,d,tk,os⟩/\∃ i,i<=j/\rest=List.range' i (items.size - i)) _
  case turn=>
   rintro y rest b s' ⟨hb,rfl,i,hi,hr⟩
   have hlt:i<items.size:=by omega
   have e1:items.size - i=(items.size - (i+1))+1:=by omega
   rw[e1,List.range'_succ]at hr
   obtain⟨rfl,rfl⟩:=List.cons.inj hr
   have hg:items[y]? = some items[y]:=by simp [hlt]
   rw[hg]
   dsimp only
   refine wpAny_bind (he items[y] (Array.getElem_mem hlt) prog w _ _ ?_)
   by_cases hyj:y=j
   ·subst hyj
    rw[hy]
    wp_walk
    exact⟨_,rfl,h⟩
   ·rw[hn y (by omega)]
    wp_walk
    exact⟨rfl,rfl,y+1,by omega,rfl⟩
  case fin=>
   rintro ⟨b1,b2⟩ s' ⟨hb,rfl,i,hi,hr⟩
   have:(List.range' i (items.size - i)).length=0:=by rw[<- hr]; rfl
   rw[List.length_range']at this
   omega
  case h=>
   refine⟨rfl,rfl,0,zero_le _,?_⟩
   simp
inductive CD (K:K6) (x:V) (vs:Ln) (H:Hp) (Q:VK):Prop
 | mk:∀ (a:Addr) (ks:Ld) (k:Str) (j:Nat),x = .ref a->vs=[.str k]->SqT K H a (ks.map V.str)->ks[j]? = some k->(∀ i,i<j->ks[i]? ≠ some k)->Q (.int j) H->CD K x vs H Q
def Gn:MtR X "tuple.index" (CD X.K):=by
 intro pins s σ H x vs v us Q I rx rv h
 obtain⟨a,ks,k,j,rfl,rfl,hs,hj,hn,q⟩:=h
 cases (show v=Value.ref a from rx)
 cases rv with
 | cons r1 r2=>
  cases r2
  obtain⟨t,e⟩:=r1
  subst e
  obtain⟨its,rv,⟨⟨c,dd,dt,sl⟩,ho,hc1,n,hd1⟩,hz⟩:=I.tuple hs
  dsimp only at hc1 hd1
  subst hc1 hd1
  have hlen:its.length=ks.length:=by
   have:=rv.length
   rw[length_map]at this
   exact this.symm
  have hjl:j<ks.length:=(List.getElem?_eq_some_iff.mp hj).1
  have at_:∀ i (h:i<ks.length),∃ t,its[i]? = some (Value.str ks[i] t):=fun i h=>by
   obtain⟨u,hu,ru⟩:=rv.get (i:=i) (x:=V.str ks[i]) (by simp [h])
   obtain⟨t,e⟩:=ru
   exact⟨t,by rw[hu,e]⟩
  refine call_meets PySem.F.slot_tuple_index ⟨_,ho,rfl⟩ PySem.F.entry_tuple_index (PySem.F.args_tuple_index_2 _ _)
   (sW a its.toArray n dd sl (.str k t) (fun v=>match v with | .str y _=>y == k | _=>false) j (by simpa [hlen] using hjl) ?_ ?_) ⟨ho,fun y hy=>?_,?_⟩
  ·obtain⟨t',e⟩:=at_ j hjl
   have e2:its.toArray[j]'(by simpa [hlen] using hjl)=Value.str ks[j] t':=by
    have:=List.getElem?_eq_some_iff.mp e
    simpa using this.2
   rw[e2]
   have:ks[j]=k:=by
    have:=List.getElem?_eq_some_iff.mp hj
    exact this.2
   simp [this]
  ·intro i hi
   have hil:i<ks.length:=by omega
   obtain⟨t',e⟩:=at_ i hil
   have e2:its.toArray[i]'(by simp [hlen]; omega)=Value.str ks[i] t':=by
    have:=List.getElem?_eq_some_iff.mp e
    simpa using this.2
   rw[e2]
   have ne:ks[i]≠k:=fun z=>hn i hi (by rw[getElem?_eq_getElem hil,z])
   simpa using ne
  ·obtain⟨i,hi,e⟩:=List.mem_iff_getElem.mp (show y∈its by simpa using hy)
   obtain⟨t',e'⟩:=at_ i (by omega)
   rw[getElem?_eq_getElem hi,e]at e'
   cases e'
   exact SeqAt.EqAt.str_str _ _ _ _
  ·exact⟨.int j,H,I.tok _,⟨_,rfl⟩,q⟩
end
structure Src (J:It) (H:Hp) (n:Nat) (Y:Nat->V->Hp->Prop):Prop where
 go:∀ i H',i<n->aG H H'->J.go i H'
 yld:∀ i H' x H'',i<n->aG H H'->J.yld i H' x H''->aG H' H''/\Y i x H''
 stop:∀ H',aG H H'->J.stop n H'
section
variable {K:K6} {H:Hp} {a:Addr} {xs:Ln}
def bS (h:SqL K H a xs):Src (Itl K a) H xs.length (fun i x _=>xs[i]? = some x) where
 go:=fun i H' hi s=>⟨xs,xs[i],s.seq h,by simp [hi]⟩
 yld:=fun i H' x H'' hi s y=>⟨by rw[y.1]; exact aG.refl _,y.2 xs (s.seq h)⟩
 stop:=fun H' s=>⟨xs,s.seq h,le_refl _⟩
def sF (h:SqT K H a xs):Src (Itt K a) H xs.length (fun i x _=>xs[i]? = some x) where
 go:=fun i H' hi s=>⟨xs,xs[i],s.seqT h,by simp [hi]⟩
 yld:=fun i H' x H'' hi s y=>⟨by rw[y.1]; exact aG.refl _,y.2 xs (s.seqT h)⟩
 stop:=fun H' s=>⟨xs,s.seqT h,le_refl _⟩
def pX (lo:Int) (n:Nat):Src (Itr lo n) H n (fun i x _=>x = .int (lo+i)) where
 go:=fun i H' hi s=>hi
 yld:=fun i H' x H'' hi s y=>⟨by rw[y.1]; exact aG.refl _,y.2⟩
 stop:=fun H' s=>le_refl _
def tD (lo:Int) (h:SqT K H a xs):Src (Ite K lo a) H xs.length (fun i x H'=>∃ p v,x = .ref p/\H' p=some (.tup [.int (lo+i),v])/\xs[i]? = some v) where
 go:=fun i H' hi s=>⟨xs,xs[i],s.seqT h,by simp [hi]⟩
 yld:=fun i H' x H'' hi s ⟨p,v,e1,e2,e3,e4⟩=>⟨by rw[e3]; exact aD e2,p,v,e1,by rw[e3]; exact aB,e4 xs (s.seqT h)⟩
 stop:=fun H' s=>⟨xs,s.seqT h,le_refl _⟩
end
def Br (H H':Hp):Prop:=∀ b o,H b=some o->(∀ zs,o ≠ .lst zs)->H' b=some o
def aG.n (s:aG H H'):Br H H':=fun b o e _=>s b o e
def wP (h:H D=some (.lst ys)):Br H (upd H D (.lst zs)):=fun b o e n=>by
 rw[aF (fun z=>by rw[z,h]at e; exact n ys (Option.some.inj e).symm)]
 exact e
def dE (S:Src J H n Y) (hn:n<=sizeLine) (R:Nat->V->Hp->Prop) (stab:∀ i y H1 H2,Br H1 H2->R i y H1->R i y H2) (Z:St->Prop) (h0:Z (lJ T F σ))
  (step:∀ i x σc H3,i<n->Z σc->aG H H3->Y i x H3->∀ (Q':St->V->Hp->Prop),(∀ σ4 y H6,Z σ4->aG H3 H6->R i y H6->Q' σ4 y H6)->g x σc H3 fun σ4 H4=>te σ4 H4 fun y H6=>Q' σ4 y H6)
  (fin:∀ D ys H',H D=none->aG H H'->H' D=some (.lst ys)->ys.length=n->(∀ i y,ys[i]? = some y->R i y H')->Q (.ref D) H') :
  vF T F g FU te σ Q J H:=by
 intro D hD
 refine⟨fun i m ys σc H2=>m=n - i/\i<=n/\Z σc/\aG H H2/\H2 D=some (.lst ys)/\ys.length=i/\∀ j y,ys[j]? = some y->R j y H2,⟨n,rfl,zero_le _,h0,aD hD,aB,rfl,fun j y e=>by simp at e⟩,?_⟩
 rintro i m ys σc H2 ⟨rfl,hi,hz,hs,hd,hl,hr⟩
 refine⟨hd,?_⟩
 by_cases hlt:i<n
 ·refine .inr ⟨S.go i H2 hlt hs,by omega,fun x H3 y=>?_⟩
  obtain⟨s3,y3⟩:=S.yld i H2 x H3 hlt hs y
  simp only[FU,if_true]
  refine step i x σc H3 hlt hz (hs.trans s3) y3 (fun σ4 y H6=>H6 D=some (.lst ys)/\∃ m',m'<n - i/\m'=n - (i+1)/\i+1<=n/\Z σ4/\aG H (upd H6 D (.lst (ys++[y])))/\(upd H6 D (.lst (ys++[y]))) D=some (.lst (ys++[y]))/\(ys++[y]).length=i+1/\∀ j z,(ys++[y])[j]? = some z->R j z (upd H6 D (.lst (ys++[y])))) fun σ4 y H6 z4 s6 r6=>?_
  have d6:H6 D=some (.lst ys):=s6 _ _ (s3 _ _ hd)
  have sU:∀ {H1:Hp},aG H1 H6->H1 D=none->aG H1 (upd H6 D (.lst (ys++[y]))):=fun {H1} s b=>fun c u e=>by
   rw[aF (bP e b)]
   exact s c u e
  refine⟨d6,n - (i+1),by omega,rfl,hlt,z4,sU ((hs.trans s3).trans s6) hD,aB,by rw[length_append,hl]; rfl,fun j z e=>?_⟩
  have up:=wP (zs:=ys++[y]) d6
  by_cases hj:j<ys.length
  ·rw[getElem?_append_left hj]at e
   exact stab _ _ _ _ up (stab _ _ _ _ (s3.trans s6).n (hr j z e))
  ·have hj2:j=ys.length:=by
    have:=(List.getElem?_eq_some_iff.mp e).1
    rw[length_append]at this
    simp at this
    omega
   subst hj2
   rw[getElem?_append_right (le_refl _)]at e
   simp at e
   subst e
   rw[hl]
   exact stab _ _ _ _ up r6
 ·have hin:i=n:=by omega
  subst hin
  exact .inl ⟨S.stop H2 hs,fin D ys H2 hD hs hd hl hr⟩
mutual
def hJ:PyData->Bool
 | .none | .bool _ | .int _ | .str _=>true
 | .tuple ds=>cX ds
 | _=>false
def cX:Lg->Bool
 | []=>true
 | d::ds=>hJ d && cX ds
end
mutual
def Den.n (e:Br H H'):∀ {d:PyData} {v:V},hJ d=true->Den H d v->Den H' d v
 | .none,v,t,h=>by simp only[Den]at h ⊢; exact h
 | .bool b,v,t,h=>by simp only[Den]at h ⊢; exact h
 | .int i,v,t,h=>by simp only[Den]at h ⊢; exact h
 | .str x,v,t,h=>by simp only[Den]at h ⊢; exact h
 | .tuple ds,v,t,h=>by
  simp only[Den]at h ⊢
  simp only[hJ]at t
  obtain⟨a,xs,e1,h1,h2⟩:=h
  exact⟨a,xs,e1,e _ _ h1 (fun zs z=>by cases z),aR.n e t h2⟩
 | .list ds,v,t,h=>by simp [hJ]at t
 | .dict _,v,t,h=>by simp only[Den]at h
def aR.n (e:Br H H'):∀ {ds:Lg} {xs:Ln},cX ds=true->aR H ds xs->aR H' ds xs
 | [],xs,t,h=>by simp only[aR]at h ⊢; exact h
 | d::ds,xs,t,h=>by
  simp only[aR]at h ⊢
  simp only[cX,and_eq_true]at t
  obtain⟨x,r,e1,h1,h2⟩:=h
  exact⟨x,r,e1,Den.n e t.1 h1,aR.n e t.2 h2⟩
end
def tyD:PyData->Value
 | .none=>.type "NoneType"
 | .bool _=>.type "bool"
 | .int _=>.type "int"
 | .str _=>.type "str"
 | .tuple _=>.type "tuple"
 | .list _=>.type "list"
 | .dict _=>.type "dict"
def Den.ty {K:K6} {H:Hp}:∀ {d:PyData} {v:V},Den H d v->pW K H v (tyD d)
 | .none,v,h=>by simp only[Den]at h; subst h; exact .non
 | .bool b,v,h=>by simp only[Den]at h; subst h; exact .bl b
 | .int i,v,h=>by simp only[Den]at h; subst h; exact .int i
 | .str x,v,h=>by simp only[Den]at h; subst h; exact .str x
 | .tuple ds,v,h=>by
  simp only[Den]at h
  obtain⟨a,xs,e1,h1,h2⟩:=h
  subst e1
  exact .tup h1
 | .list ds,v,h=>by
  simp only[Den]at h
  obtain⟨a,xs,e1,h1,h2⟩:=h
  subst e1
  exact .lst h1
 | .dict _,v,h=>by simp only[Den]at h
def bQ:∀ {ns:Lc} {xs:Ln},aR H (ns.map PyData.int) xs ↔ xs=ns.map V.int
 | [],xs=>by simp [aR]
 | n::ns,xs=>by
  simp only[map_cons,aR,Den]
  constructor
  ·rintro ⟨x,r,e1,e2,h⟩
   subst e2
   rw[e1,bQ.mp h]
  ·intro h
   exact⟨_,_,h,rfl,bQ.mpr rfl⟩
def aR.length:∀ {ds:Lg} {xs:Ln},aR H ds xs->xs.length=ds.length
 | [],xs,h=>by simp only[aR]at h; subst h; rfl
 | d::ds,xs,h=>by
  simp only[aR]at h
  obtain⟨x,r,e1,_,h2⟩:=h
  rw[e1,length_cons,length_cons,aR.length h2]
def aR.get:∀ {ds:Lg} {xs:Ln} {i:Nat} {x:V},aR H ds xs->xs[i]? = some x->∃ d,ds[i]? = some d/\Den H d x
 | [],xs,i,x,h,e=>by simp only[aR]at h; subst h; simp at e
 | d::ds,xs,0,x,h,e=>by
  simp only[aR]at h
  obtain⟨y,r,e1,h1,_⟩:=h
  subst e1
  simp at e
  subst e
  exact⟨d,rfl,h1⟩
 | d::ds,xs,i+1,x,h,e=>by
  simp only[aR]at h
  obtain⟨y,r,e1,_,h2⟩:=h
  subst e1
  simp at e
  obtain⟨d',e',h'⟩:=aR.get h2 e
  exact⟨d',by simpa using e',h'⟩
def Gw {K:K6} (d:PyData):PySem.W.kitOne K (tyD d) (.type "bool")=some (match d with | .bool _=>true | _=>false):=by
 cases d <;> rfl
def mZ {K:K6} (d:PyData):PySem.W.kitOne K (tyD d) (.type "int")=some (match d with | .bool _=>true | .int _=>true | _=>false):=by
 cases d <;> rfl
def Dl {K:K6} (d:PyData):PySem.W.kitOne K (tyD d) (.type "str")=some (match d with | .str _=>true | _=>false):=by
 cases d <;> rfl
def qP {K:K6} (d:PyData):PySem.W.kitOne K (tyD d) (.type "tuple")=some (match d with | .tuple _=>true | _=>false):=by
 cases d <;> rfl
section
variable {X:Cx}
def cH (K:K6) (hK:X.K=K:=by rfl):IxR X (IC K):=by
 subst hK
 exact Ik
def cR (K:K6) (hK:X.K=K:=by rfl):IxR X (J7 K):=by
 subst hK
 exact Kh
def CJ (K:K6) (hK:X.K=K:=by rfl):OpR X (compareOp .In) (rIn K false):=by
 subst hK
 exact EW
def kB (K:K6) (hK:X.K=K:=by rfl):OpR X (compareOp .NotIn) (rIn K true):=by
 subst hK
 exact zF
inductive rLen (K:K6) (xs:Ln) (H:Hp) (Q:VK):Prop
 | mk:∀ p ys,xs=[.ref p]->(SqL K H p ys\/SqT K H p ys)->Q (.int ys.length) H->rLen K xs H Q
def dC (K:K6) (hK:X.K=K:=by rfl):gM X (.builtin "len") (rLen K):=by
 subst hK
 exact fun p1 s σ H xs us Q I v ⟨p,ys,a,b,c⟩=>AA p1 s σ H xs us Q I v ⟨p,ys,a,b,c⟩
def iI (K:K6) (hK:X.K=K:=by rfl):gM X (.builtin "isinstance") (J8 K):=by
 subst hK
 exact HP
def m5 (K:K6) (hc:X.calm=true:=by rfl) (hK:X.K=K:=by rfl):gM X (.builtin "sum") (J4 K):=by
 subst hK
 exact FE hc
def yG (K:K6) (hc:X.calm=true:=by rfl) (hK:X.K=K:=by rfl):gM X (.builtin "all") (KA K):=by
 subst hK
 exact FG hc
inductive Am (K:K6) (xs:Ln) (H:Hp) (Q:VK):Prop
 | mk:∀ p ys,xs=[.ref p]->((SqL K H p ys/\∀ l,H l=none->Q (.ref l) (upd H l (.tup ys)))\/(SqT K H p ys/\Q (.ref p) H))->Am K xs H Q
def mJ (K:K6) (hK:X.K=K:=by rfl):gM X (.type "tuple") (Am K):=by
 subst hK
 exact fun p1 s σ H xs us Q I v ⟨p,ys,a,b⟩=>vX p1 s σ H xs us Q I v ⟨p,ys,a,b⟩
def Ep (K:K6) (hK:X.K=K:=by rfl):MtR X "tuple.index" (CD K):=by
 subst hK
 exact Gn
def tP (K:K6) (hK:X.K=K:=by rfl):SlR X (J5 K):=by
 subst hK
 exact Hs
def jF (K:K6) {es:List Expr} {k:Nat} {t:TGs} {n:Nat} {pos:Pos} (h:PGs X es t) (hc:X.calm=true:=by rfl) (hK:X.K=K:=by rfl) (hn:(assignEach es X.env).length=n:=by rfl) (hst:(assignEach es X.env).findIdx? (·.1)=none:=by rfl):PG X (.Tuple es k pos) (Kp K n t):=by
 subst hK
 exact KF hc h hn hst
def bT (K:K6) {tg l:Expr} {tl:TE} (hl:PE X l tl) (hK:X.K=K:=by rfl):PI X tg l (JZ K tl):=by
 subst hK
 exact IG hl
def zC (K:K6) (hl:PE X l tl) (hK:X.K=K:=by rfl):PI X tg l (iTup K tl):=by
 subst hK
 exact KD hl
def GO (K:K6) (hm:X.mg "enumerate" = none) (ha:PE X ex ta) (hg:Gl X "enumerate":=by rfl) (hs:starEach [ex] X.env=[(false,eval ex X.env)]:=by rfl) (hK:X.K=K:=by rfl) :
  PI X (.Tuple elts x1 tp) (.Call (.Name "enumerate" p) [ex] [] pos) (Dq K 0 ta):=by
 subst hK
 exact IH hm ha hg hs
def ES (K:K6) (hm:X.mg "enumerate" = none) (ha:PE X ex ta) (hg:Gl X "enumerate":=by rfl) (hs:starEach [ex] X.env=[(false,eval ex X.env)]:=by rfl) (hK:X.K=K:=by rfl) :
  PI X (.Tuple elts x1 tp) (.Call (.Name "enumerate" p) [ex] [⟨some "start",.Constant (.int 1) k cp,kp⟩] pos) (Dq K 1 ta):=by
 subst hK
 exact GP hm ha hg hs
end
inductive TupM (K:K6) (H:Hp) (x:V):Prop
 | mk:∀ p,x = .ref p->((∃ o u,H p=some (.frz o u)/\o.cls = .type "tuple"/\o.dict=none)\/∃ o,K.lookup p=some o/\o.cls = .type "tuple"/\o.dict=none)->TupM K H x
abbrev Js (r:V->Ln->Hp->VK->Prop) (Q:VK) (x:V):Ln->Hp->Prop:=fun xs H2=>r x xs H2 Q
abbrev Jt (K:K6) (r:V->Ln->Hp->VK->Prop) (t:TA) (σ : St) (Q:VK):V->Hp->Prop:=fun x H1=>TupM K H1 x/\t σ H1 (Js r Q x)
def tBMT (K:K6) (r:V->Ln->Hp->VK->Prop) (to:TE) (t:TA):TE:=fun σ H Q=>to σ H (Jt K r t σ Q)
section
variable {X:Cx} {o e:Expr} {es:List Expr} {t:TA} {to:TE} {pos apos cpos:Pos} {name:Str} {id:String} {r:V->Ln->Hp->VK->Prop}
def KJ (K:K6) (slot:Slot "tuple" name id) (hty:typeOf (.builtin id)=pure (.type "method_descriptor")) (hm:MtR X id r) (ho:PE X o to) (ha:PA X (e::es) t) (hK:X.K=K:=by rfl)
  (hbase:attributeBase o name X.env (eval o X.env)=eval o X.env:=by rfl)
  (hfew:((backTo cpos (starEach (e::es) X.env)).all (fun x=>!x.1) && (backToKw cpos (keywordEach [] X.env)).all (fun x=>x.1.isSome)
   && decide ((e::es).length+([]:List Keyword).length+(if ([]:List Keyword).isEmpty then 0 else 1)<30))=true:=by rfl)
  (hline:(apos.endLine == cpos.line)=true:=by rfl) (hs:starEach (e::es) X.env=(false,eval e X.env)::starEach es X.env:=by rfl) (hplain:(backTo cpos (starEach es X.env)).any (·.1)=false:=by rfl) :
  PE X (.Call (.Attribute o name apos) (e::es) [] cpos) (tBMT K r to t):=by
 subst hK
 intro pins s σ H Q I h
 refine wpAny_Call_method_late hbase hfew hline rfl (thn (ho pins s σ H _ I h) fun v s1 zQq=>?_)
 obtain⟨x,H1,I1,r1,ty,q1⟩:=zQq
 obtain⟨p,ex,ty⟩:=ty
 subst ex
 cases (show v=Value.ref p from r1)
 have hob:∃ ob,s1.heap.get? p=some ob/\ob.cls = .type "tuple"/\ob.dict=none:=by
  rcases ty with ⟨ob,u,z1,z2,z3⟩ | ⟨ob,z1,z2,z3⟩
  ·obtain⟨g,_⟩:=I1.hok p _ z1
   exact⟨ob,g,z2,z3⟩
  ·exact⟨ob,I1.kIn _ _ z1,z2,z3⟩
 obtain⟨ob,g1,g2,g3⟩:=hob
 refine⟨"tuple",id,PySem.F.plainAttrs_tuple,slot,hty,⟨ob,g1,g2⟩,(fun b eb=>by cases eb; exact⟨ob,g1,g3⟩),?_⟩
 have hA:=ha cpos pins s1 σ H1 _ I1 q1
 rw[hs]at hA ⊢
 refine Calls.callWith_builtin (by show (false || (backTo cpos (starEach es X.env)).any (·.1))=false; rw[hplain] <;> rfl) (Calls.evalArgs_plain ?_)
 exact thn hA fun us s2 ⟨vs,H2,I2,r2,q2⟩=>hm pins s2 σ H2 (.ref p) vs (.ref p) us Q I2 rfl r2 q2
end
def aR.app:∀ {d1 d2:Lg} {x1 x2:Ln},aR H d1 x1->aR H d2 x2->aR H (d1++d2) (x1++x2)
 | [],d2,x1,x2,h1,h2=>by
  simp only[aR]at h1
  subst h1
  exact h2
 | d::d1,d2,x1,x2,h1,h2=>by
  simp only[aR]at h1
  obtain⟨x,r,e,k1,k2⟩:=h1
  subst e
  show aR H (d::(d1++d2)) (x::(r++x2))
  simp only[aR]
  exact⟨x,_,rfl,k1,k2.app h2⟩
def aW {α : Type} {xs:List α} {i:Int} {v:α} (h:0<=i) (e:xs[i.toNat]? = some v):atI xs i=some v:=by
 obtain⟨j,rfl⟩:=Int.eq_ofNat_of_zero_le h
 exact cF (by simpa using e)
def HI (ns ms:Lc):PyData.eqv (.tuple (ns.map .int)) (.tuple (ms.map .int))=decide (ns=ms):=by
 show PyData.eqvAll _ _=_
 exact ked_eqvAll ns ms
def uV:∀ ns:Lc,PyData.canLayAll0 (ns.map .int)=true
 | []=>rfl
 | n::ns=>by
  show (true && _)=true
  rw[Bool.true_and]
  exact uV ns
def depth_ints:∀ ns:Lc,PyData.depthAll (ns.map .int)=0
 | []=>rfl
 | n::ns=>by
  show max 0 (PyData.depthAll (ns.map .int))=0
  rw[depth_ints ns]
  rfl
def rA (ns:Lc):SeqAt.shaped (.tuple (ns.map .int))=true:=by
 unfold SeqAt.shaped
 have h1:PyData.canLay0 (.tuple (ns.map .int))=true:=uV ns
 have h2:PyData.depth (.tuple (ns.map .int))=1:=by
  show PyData.depthAll (ns.map .int)+1=1
  rw[depth_ints]
 rw[h1,h2]
 rfl
section
variable {X:Cx} {es:List Expr} {te:TE} {t:TA}
def aM {v:Const} {k:Nat} {p:Pos} (ha:PE X (.Constant v k p) te) (hr:PA X es t):PA X (.Constant v k p::es) (fJ te t):=eW ha hr rfl
def aE {x:Str} {p:Pos} (ha:PE X (.Name x p) te) (hr:PA X es t):PA X (.Name x p::es) (fJ te t):=eW ha hr rfl
def bU {l:List Expr} {k:Nat} {p:Pos} (ha:PE X (.Tuple l k p) te) (hr:PA X es t):PA X (.Tuple l k p::es) (fJ te t):=eW ha hr rfl
def fH {l:List Expr} {p:Pos} (ha:PE X (.List l p) te) (hr:PA X es t):PA X (.List l p::es) (fJ te t):=eW ha hr rfl
def bR (ha:PE X (.BinOp a o b p) te) (hr:PA X es t):PA X (.BinOp a o b p::es) (fJ te t):=eW ha hr rfl
def bY (ha:PE X (.Call f as kw p) te) (hr:PA X es t):PA X (.Call f as kw p::es) (fJ te t):=eW ha hr rfl
def aN {a b:Expr} {p:Pos} (ha:PE X (.Subscript a b p) te) (hr:PA X es t):PA X (.Subscript a b p::es) (fJ te t):=eW ha hr rfl
def f9 (ha:PE X (.Attribute a x p) te) (hr:PA X es t):PA X (.Attribute a x p::es) (fJ te t):=eW ha hr rfl
def uL (ha:PE X (.Compare a ops bs p) te) (hr:PA X es t):PA X (.Compare a ops bs p::es) (fJ te t):=eW ha hr rfl
def dW {a:Expr} {gs:List Comprehension} {sc:Scope} {p:Pos} (ha:PE X (.ListComp a gs sc p) te) (hr:PA X es t):PA X (.ListComp a gs sc p::es) (fJ te t):=eW ha hr rfl
def GV (ha:PE X (.IfExp a b c p) te) (hr:PA X es t):PA X (.IfExp a b c p::es) (fJ te t):=eW ha hr rfl
end
def IP {E:XK} {P:Program} {w:World} {K:K6} {mg:K8} {base:Heap} {N:Ld} {qual:Str} {scope:Scope} {f:Addr} {cd:Value} {A:Around} {outer:List Env} {s:Shared} {H:Hp} {CX:CXT} :
  Own ((zY CX P w K mg base N qual scope f cd A outer s H E).bod E):=⟨rfl,rfl,rfl⟩
end L2
namespace HT
open PySem PySem.Spec PyProof.Rows
section
variable {prog:Program} {w:World} {A:Around} {E:Lk} {s:Shared}
def m6 {t sl:Addr} {items:Array Value} {vl vu:Value} {lo hi:Option Int} {Q:Lk} (ht:IsTup s.heap t items) (hs:s.heap.IsSliceOf sl vl vu .none) (pl:IsPart vl lo) (pu:IsPart vu hi)
  (hw:sIx items.size 0 lo=0/\sIx items.size items.size hi=items.size) (h:Q (.ref t) s):wpAny (model prog w) A (getItem (.ref t) (.ref sl)) Q E s:=by
 obtain⟨os,hos,hcs,hds⟩:=id hs
 have hTs:s.TypeIs (.ref sl) "slice":=⟨os,hos,hcs⟩
 unfold getItem
 try with_reducible refine wpAny_holding ?_
 first | refine wpAny_bind (wpAny_pure ?_) | skip
 refine wpAny_bind (wpAny_sequenceKey ht.typeIs (by decide) ?_)
 refine wpAny_bind (wpAny_callSpecial?_slot (name:=Str.ofString "__getitem__") ht.typeIs PyProof.Rows.slot_tuple_getitem
  (wpAny_call_entry PyProof.Rows.slot_tuple_getitem ht.typeIs entry_tuple_getitem ?_ (args_tuple_getitem _ _)))
 show wpAny _ _ (Builtin.Tuple.tupleItemsOf (.ref t) >>= _) _ _ s
 refine wpAny_bind (tupleItemsOf_ ht ?_)
 refine wpAny_bind (wpAny_typeOf hTs ?_)
 rw[if_pos (by decide)]
 refine wpAny_bind (jU hs pl pu ?_)
 have hyes:(((sIx items.size 0 lo:Nat):Int) == 0 && (1:Int) == 1 && (sIx items.size items.size hi - sIx items.size 0 lo) == items.size)=true:=by
  rw[hw.1,hw.2]
  simp
 show wpAny _ _ (if (((sIx items.size 0 lo:Nat):Int) == 0 && (1:Int) == 1 && (sIx items.size items.size hi - sIx items.size 0 lo) == items.size)=true then _ else _) _ _ s
 rw[if_pos hyes]
 refine wpAny_bind ?_
 unfold Builtin.Tuple.tupleIsExact
 refine wpAny_bind (wpAny_typeOf ht.typeIs (wpAny_pure ?_))
 rw[if_pos (by decide)]
 refine wpAny_bind (wpAny_rule ?_)
 exact wpAny_pure ⟨_,rfl,wpAny_pure h⟩
end
end HT
namespace L2
open PySem PySem.Spec PyProof.Rows
section
variable {X:Cx}
inductive DS (K:K6) (x:V) (lo:Option Int) (hi:Option Int) (H:Hp) (Q:VK):Prop
 | mk:∀ a xs,x = .ref a->SqT K H a xs->((HT.sIx xs.length 0 lo=0/\HT.sIx xs.length xs.length hi=xs.length)->Q (.ref a) H)->(¬ (HT.sIx xs.length 0 lo=0/\HT.sIx xs.length xs.length hi=xs.length)->∀ p,H p=none->Q (.ref p) (upd H p (.tup (i5 xs lo hi))))->DS K x lo hi H Q
def EI:SlR X (DS X.K):=by
 intro pins s σ H x v vl vu lo hi sl Q I rx hs pl pu h
 obtain⟨a,xs,rfl,hx,q1,q2⟩:=h
 by_cases hw:HT.sIx xs.length 0 lo=0/\HT.sIx xs.length xs.length hi=xs.length
 ·cases rx
  obtain⟨its,r,ht,hz⟩:=I.tuple hx
  have hlen:its.toArray.size=xs.length:=by rw[size_toArray]; exact r.length.symm
  refine⟨"tuple",_,PyProof.Rows.slot_tuple_getitem.lookup,ht.typeIs,?_⟩
  exact HT.m6 ht hs pl pu (by rw[hlen]; exact hw) ⟨.ref a,H,I,rfl,q1 hw⟩
 ·exact J0 pins s σ H (.ref a) v vl vu lo hi sl Q I rx hs pl pu ⟨a,xs,rfl,hx,hw,q2 hw⟩
def oP (K:K6) (hK:X.K=K:=by rfl):SlR X (DS K):=by
 subst hK
 exact EI
end
def gA {J:It} {H0 H:Hp} {n:Nat} {Y:Nat->V->Hp->Prop} {g:TG} {tb:TS} {D:Ends} {σ : St} (S:Src J H0 n Y) (Pv:Nat->St->Hp->Prop) (h0:Pv 0 σ H) (keep:∀ i σ H',Pv i σ H'->aG H0 H')
  (step:∀ i x σ H1 H2,i<n->Pv i σ H1->aG H1 H2->Y i x H2->g x σ H2 fun σ2 H3=>tb (D.loop (Pv (i+1))) σ2 H3) (fin:∀ σ H',Pv n σ H'->D.nx σ H') :
  ∃ W:Nat->Nat->St->Hp->Prop,(∃ m,W 0 m σ H)/\∀ i m σ H,W i m σ H->
   (J.stop i H/\D.nx σ H)\/(J.go i H/\∃ N:St->Hp->Prop,(∀ σ' H',N σ' H'->∃ m',m'<m/\W (i+1) m' σ' H')/\∀ x H',J.yld i H x H'->g x σ H' fun σ2 H2=>tb (D.loop (N)) σ2 H2):=by
 refine⟨fun i m σ H'=>m=n - i/\i<=n/\Pv i σ H',⟨n,rfl,zero_le _,h0⟩,?_⟩
 rintro i m σ H1 ⟨rfl,hi,p⟩
 have s1:=keep i σ H1 p
 by_cases hlt:i<n
 ·refine .inr ⟨S.go i H1 hlt s1,Pv (i+1),fun σ' H' p'=>⟨n - (i+1),by omega,rfl,hlt,p'⟩,fun x H' y=>?_⟩
  obtain⟨s2,y2⟩:=S.yld i H1 x H' hlt s1 y
  exact step i x σ H1 H' hlt p s2 y2
 ·have hin:i=n:=by omega
  subst hin
  exact .inl ⟨S.stop H1 s1,fin σ H1 p⟩
def fR (S:Src J H n Y) (hn:n<=sizeLine) (t:Nat->Bool) (f:Nat->V) (Z:St->Prop) (h0:Z (lJ T F σ))
  (step:∀ i x σc H3,i<n->Z σc->aG H H3->Y i x H3->∀ (Q1:Hp->Prop) (Q2:St->V->Hp->Prop) (Q3:St->Hp->Prop),(∀ σ4,Z σ4->t i=true->Q2 σ4 (f i) H3)->(∀ σ4,Z σ4->t i=false->Q3 σ4 H3)->
   g x σc H3 fun σ4 H4=>tc σ4 H4 fun b H5=>if b=true then te σ4 H5 fun y H6=>Q2 σ4 y H6 else Q3 σ4 H5)
  (fin:∀ D H',H D=none->aG H H'->H' D=some (.lst (((List.range n).filter t).map f))->Q (.ref D) H') :
  vF T F g tc te σ Q J H:=by
 intro D hD
 refine⟨fun i m ys σc H2=>m=n - i/\i<=n/\Z σc/\aG H H2/\H2 D=some (.lst ys)/\ys=((List.range i).filter t).map f,⟨n,rfl,zero_le _,h0,aD hD,aB,rfl⟩,?_⟩
 rintro i m ys σc H2 ⟨rfl,hi,hz,hs,hd,hy⟩
 refine⟨hd,?_⟩
 by_cases hlt:i<n
 ·refine .inr ⟨S.go i H2 hlt hs,?_,fun x H3 y=>?_⟩
  ·rw[hy,length_map]
   have:=length_filter_le t (List.range i)
   rw[length_range]at this
   omega
  obtain⟨s3,y3⟩:=S.yld i H2 x H3 hlt hs y
  have d3:H3 D=some (.lst ys):=s3 _ _ hd
  refine step i x σc H3 hlt hz (hs.trans s3) y3 (fun _=>True) (fun σ4 y H6=>H6 D=some (.lst ys)/\∃ m',m'<n - i/\m'=n - (i+1)/\i+1<=n/\Z σ4/\aG H (upd H6 D (.lst (ys++[y])))/\(upd H6 D (.lst (ys++[y]))) D=some (.lst (ys++[y]))/\(ys++[y])=((List.range (i+1)).filter t).map f)
   (fun σ4 H5=>∃ m',m'<n - i/\m'=n - (i+1)/\i+1<=n/\Z σ4/\aG H H5/\H5 D=some (.lst ys)/\ys=((List.range (i+1)).filter t).map f) (fun σ4 z4 ht=>?_) fun σ4 z4 ht=>?_
  ·refine⟨d3,n - (i+1),by omega,rfl,hlt,z4,fun c u e=>?_,aB,?_⟩
   ·rw[aF (bP e hD)]
    exact(hs.trans s3) c u e
   ·rw[List.range_succ,List.filter_append,map_append,<- hy]
    simp [ht]
  ·refine⟨n - (i+1),by omega,rfl,hlt,z4,hs.trans s3,d3,?_⟩
   rw[List.range_succ,List.filter_append,map_append,<- hy]
   simp [ht]
 ·have hin:i=n:=by omega
  subst hin
  exact .inl ⟨S.stop H2 hs,fin D H2 hD hs (by rw[hd,hy])⟩
section
variable {X:Cx} {pins:K7} {σ : St} {H:Hp} {s:Shared}
end
section
variable {K:K6} {H:Hp} {a:Addr} {xs:Ln}
end
def yZ (a:Value):checkBuiltinCall "sorted" ⟨[a],[]⟩=pure ():=by kernel_rfl
section
variable {X:Cx}
def E2 {prog:Program} {w:World} {kvs:List (Key × Value)} {ns:Lc} (hk:kvs.map (·.1)=ns.map Sum.inl):∀ {acc:Lf},acc.length=kvs.length->(∀ (j:Nat) (v:Value),acc[j]? = some v->∃ k x,kvs[j]? = some (k,x)/\(cE prog w).is k v=true)->IntsAre acc ns:=by
 induction kvs generalizing ns with
 | nil=>
  intro acc hl _
  cases ns with
  | nil=>
   cases acc with
   | nil=>exact .nil
   | cons _ _=>simp at hl
  | cons _ _=>simp at hk
 | cons kv kvs ih=>
  intro acc hl h
  cases ns with
  | nil=>simp at hk
  | cons n ns=>
   cases acc with
   | nil=>simp at hl
   | cons v acc=>
    simp only[map_cons,List.cons.injEq]at hk
    obtain⟨k,x,h1,h2⟩:=h 0 v rfl
    have h1:kv=(k,x):=by simpa using h1
    subst h1
    have hk1:k=Sum.inl n:=hk.1
    subst hk1
    have hv:∃ t,v = .int n t:=by
     have h2:Value.isInt n v=true:=h2
     cases v <;> simp_all [Value.isInt]
    obtain⟨t,rfl⟩:=hv
    exact .cons n t (ih hk.2 (by simpa using hl) fun j v hv=>by
     obtain⟨k,x,h1,h2⟩:=h (j+1) v (by simpa using hv)
     exact⟨k,x,by simpa using h1,h2⟩)
def Dj {κ : Type} {kvs:List (κ × V)} {vs:List (κ × Value)} (r:KV kvs vs):kvs.map (·.1)=vs.map (·.1):=by
 induction r with
 | nil=>rfl
 | cons h _ ih=>
  rw[map_cons,map_cons,ih]
  congr 1
  exact h.1
inductive tLRX (Q:VK) (vs:Ln) (H1:Hp):Prop
 | mk:∀ i j:Int,vs=[.int i,.int j]->(-(2 ^ 62)<=i/\i<2 ^ 62/\-(2 ^ 62)<=j/\j<2 ^ 62)->(j - i).toNat<=sizeLine->(∀ p,H1 p=none->Q (.ref p) (upd H1 p (.lst ((List.range (j - i).toNat).map fun k=>.int (i+(k:Nat))))))->tLRX Q vs H1
def tLR (ta:TA):TE:=fun σ H Q=>ta σ H (tLRX Q)
def Bu:∀ {n:Nat} {us:Lf},us.length=n->(∀ (j:Nat) v,us[j]? = some v->∃ t,v=Value.int (i+(j:Int) * 1) t)->bZ ((List.range n).map fun k=>V.int (i+(k:Nat))) us:=by
 intro n us hl h
 have key:∀ {n:Nat} {us:Lf} {f:Nat->Int},us.length=n->(∀ (j:Nat) v,us[j]? = some v->∃ t,v=Value.int (f j) t)->bZ ((List.range n).map fun k=>V.int (f k)) us:=by
  intro n
  induction n with
  | zero=>
   intro us f hl _
   cases us with
   | nil=>exact .nil
   | cons _ _=>simp at hl
  | succ n ih=>
   intro us f hl h
   cases us with
   | nil=>simp at hl
   | cons u us=>
    rw[range_succ_eq_map,map_cons,map_map]
    obtain⟨t,e⟩:=h 0 u rfl
    exact .cons ⟨t,e⟩ (ih (f:=fun k=>f (k+1)) (by simpa using hl) fun j v hv=>h (j+1) v (by simpa using hv))
 exact key hl fun j v hv=>by
  obtain⟨t,e⟩:=h j v hv
  exact⟨t,by rw[e,Int.mul_one]⟩
def uJ (hc:X.calm=true) (hgL:Gl X "list") (hmL:X.mg "list" = none) (hg:Gl X "range") (hm:X.mg "range" = none) (ha:PA X [a,b] ta)
  (hs:starEach [a,b] X.env=[(false,eval a X.env),(false,eval b X.env)]:=by rfl) (hs2:starEach [b] X.env=[(false,eval b X.env)]:=by rfl)
  (hs3:starEach [.Call (.Name "range" p2) [a,b] [] pos2] X.env=[(false,eval (.Call (.Name "range" p2) [a,b] [] pos2) X.env)]:=by rfl) :
  PE X (.Call (.Name "list" p) [.Call (.Name "range" p2) [a,b] [] pos2] [] pos) (tLR ta):=by
 intro pins s σ H Q I h
 refine wpAny_Call_Name_kw (lG I hgL hmL boot_list ?_)
 refine PyProof.Rows.callWith_type1 ?_ hs3 rfl
 rw[hs3]
 show wpAny _ _ (spliced ((false,eval (.Call (.Name "range" p2) [a,b] [] pos2) X.env)::[])) _ _ s
 refine Calls.spliced_cons ?_
 refine Call_ (lG I hg hm boot_range (PyProof.Rows.callWith_type1 (thn (ha pos2 pins s σ H _ I h) fun us s1 zQq=>?_) (by rw[hs,hs2]) (by rw[hs2]; rfl)))
 obtain⟨vs,H1,I1,r1,q1⟩:=zQq
 obtain⟨i,j,e,⟨q1,q2,q3,q4⟩,hz,q⟩:=q1
 subst e
 cases r1 with
 | cons r rr=>
  cases rr with
  | cons r' rr=>
   cases rr
   obtain⟨t,rfl⟩:=r
   obtain⟨t',rfl⟩:=r'
   refine call_range_2 ?_
   refine Calls.spliced_nil ?_
   have I2:Inv X pins σ H1 { s1 with heap:=s1.heap.push { cls:=.type "range",data:=.fields #[.int i t,.int j t',.int 1 s1.toks] },toks:=s1.toks+1 }:=I1.kept fun b o e=>get?_push_of_some _ e
   refine call_list_range (n:=(j - i).toNat) (I.ok.hd hc) (IsRange.new ..) (small_one q1 q2 q3 q4) (by rw[rangeSize_one]; split <;> omega) (le_trans hz (by decide)) fun h' tk acc c' kp g' hit=>?_
   refine⟨.ref _,upd H1 _ (.lst ((List.range (j - i).toNat).map fun k=>.int (i+(k:Nat)))),I2.laid (t':=tk) kp (le_refl _) ?_,rfl,q _ (I2.hok.fresh (le_refl _))⟩
   refine⟨by rw[length_map,length_range]; exact hz,acc.toList,c',Bu (by have:=hit.1; simpa using this) fun k v hv=>hit.2 k v (by simpa using hv),?_⟩
   simpa using g'
inductive GE (x:V) (vs:Ln) (H:Hp) (Q:VK):Prop
 | mk:∀ a kvs k v,x = .ref a->vs=[kV k]->H a=some (.dK kvs)->dM kvs k=some v->Q v (upd H a (.dK (eZ kvs k)))->GE x vs H Q
def pA:MtR X "dict.pop" GE:=by
 intro pins s σ H x vs v us Q I rx rv h
 obtain⟨a,kvs,k,y,rfl,rfl,hd,hk,q⟩:=h
 cases (show v=Value.ref a from rx)
 obtain⟨u,rfl,ru⟩:=v5 rv
 exact d_pop I hd ru hk (.inl rfl) fun w' s' I' rw'=>⟨y,_,I',rw',q⟩
def KH (c:Maker X.prog X.w X.K X.mg X.base x C k ps sp) (hr:Room (k+1) X.A) (hx:fF (CXE X.prog X.w) X E) (hg:Gl X x:=by rfl) (hdb:(x == ("__debug__" : Str))=false:=by decide) :
  PE X (.Call (.Name x p) [] [] pos) (tMk C sp E lR):=by
 obtain⟨f,fd,F,M,hm,hb⟩:=c.ex
 intro pins s σ H Q I h
 exact GS M F hr hg hm hb .nil hx hdb pins s σ H Q I (wF h)
inductive tLTX (K:K6) (Q:(Bool->Hp->Prop)) (x:V) (H':Hp):Prop
 | mk:∀ a xs,x = .ref a->SqL K H' a xs->Q (!xs.isEmpty) H'->tLTX K Q x H'
def tLT (K:K6) (ta:TE):TT:=fun σ H Q=>ta σ H (tLTX K Q)
def iS (K:K6) (ha:PE X a ta) (he:∀ whole,isTrue a X.env whole=(do let v <- whole; standAt a.pos; holding [v] (truthy v)):=by intro _; rfl) (hK:X.K=K:=by rfl):PT X a (tLT K ta):=by
 subst hK
 intro pins s σ H Q I h
 refine isTrue_plain (thn (ha pins s σ H _ I h) fun v s1 ⟨x,H1,I1,r1,a1,xs,ex,hq,q1⟩=>Je pins s1 σ H1 x v Q I1 r1 ?_) (he _)
 subst ex
 exact⟨_,.inl ⟨xs,hq,rfl⟩,q1⟩
def iU (K:K6) {T id:String} {name:Str} {r:V->Ln->Hp->VK->Prop} {o e:Expr} {es:List Expr} {to:TE} {t:TA} {apos cpos:Pos} (pa:PlainAttrs T) (slot:Slot T name id) (hty:typeOf (.builtin id)=pure (.type "method_descriptor")) (hm:MtR X id r) (ho:PE X o to) (ha:PA X (e::es) t)
  (hbase:attributeBase o name X.env (eval o X.env)=eval o X.env:=by rfl)
  (hfew:((backTo cpos (starEach (e::es) X.env)).all (fun x=>!x.1) && (backToKw cpos (keywordEach [] X.env)).all (fun x=>x.1.isSome)
   && decide ((e::es).length+([]:List Keyword).length+(if ([]:List Keyword).isEmpty then 0 else 1)<30))=true:=by rfl)
  (hline:(apos.endLine == cpos.line)=true:=by rfl) (hs:starEach (e::es) X.env=(false,eval e X.env)::starEach es X.env:=by rfl) (hplain:(backTo cpos (starEach es X.env)).any (·.1)=false:=by rfl) (hK:X.K=K:=by rfl) :
  PE X (.Call (.Attribute o name apos) (e::es) [] cpos) (tBM K T r to t):=by
 subst hK
 exact pe_bm pa slot hty hm ho ha hbase hfew hline hs hplain
def Its (x:Str):It:=⟨fun i _=>i<x.cps.size,fun i H v H'=>H'=H/\∃ c,x.cps[i]? = some c/\v = .str ⟨#[c]⟩,fun i _=>x.cps.size<=i⟩
def FT {P:Program} {w:World} {K:K6} {tg:Expr} (x:Str) (t:Tok) (it:Addr) (hx:(x.cps.all fun c=>decide (c<128))=true):Turn P w K tg (Its x) [it] it (fun i h=>h.IsStrIter it "str_ascii_iterator" x t i) where
 mem:=by simp
 obj:=fun i h st b hb=>by
  have e:b=it:=by simpa using hb
  subst e
  obtain⟨o,e,c,d⟩:=st
  exact⟨o,e,fun v z=>by rw[d]at z; cases z⟩
 keep:=fun i h h' st k=>by
  obtain⟨o,e,r⟩:=st
  exact⟨o,k it (by simp) o e,r⟩
 item:=by
  intro X hP hw hK hc i pins s σ H E I hf st hg
  subst hP hw hK
  have hg:i<x.cps.size:=hg
  obtain⟨f0,f1,f2,f3,f4,f5⟩:=hf it (by simp)
  refine wpAny_pyNext_ascii_item st (c:=x.cps[i]) (by simp [hg]) fun h' st' sb=>?_
  have I1:Inv X pins σ H { s with heap:=h',toks:=s.toks+1 }:=I.turned (t':=s.toks+1) (fun b o hb e=>(sb.2 b hb).trans e) f0 f1 f3 f4 f5
  obtain⟨o,e,c,d⟩:=id st'
  exact⟨_,rfl,BG (s:={ s with heap:=h',toks:=s.toks+1 }) e c d (by decide) ⟨.str ⟨#[x.cps[i]]⟩,H,I1,⟨_,rfl⟩,⟨rfl,_,by simp [hg],rfl⟩,st',fun b hb=>(hf b hb).1⟩⟩
 done:=by
  intro X hP hw hK hc i pins s σ H E I hf st hg
  subst hP hw hK
  have hg:x.cps.size<=i:=hg
  obtain⟨f0,f1,f2,f3,f4,f5⟩:=hf it (by simp)
  exact wpAny_pyNext_ascii_end (I.ok.hd hc) st (by simp [hg]) fun h' eb=>⟨rfl,I.turned (t':=s.toks) (fun b o hb e=>eb b o hb e) f0 f1 f3 f4 f5⟩
 self:=fun _ _ _ _ _ st h=>wpAny_pyIter_striter_ascii st h
inductive JX (R:(It->Hp->Prop)) (v:V) (H1:Hp):Prop
 | mk:∀ x:Str,v = .str x->(x.cps.all fun c=>decide (c<128))=true->R (Its x) H1->JX R v H1
def iStr (tl:TE):TI:=fun σ H R=>tl σ H (JX R)
def KE {tg l:Expr} {tl:TE} (hl:PE X l tl):PI X tg l (iStr tl):=by
 intro pins s σ H R I h
 refine thn (hl pins s σ H _ I h) fun v s1 zQq=>?_
 obtain⟨y,H1,I1,r1,q1⟩:=zQq
 obtain⟨x,e,hx,q⟩:=q1
 subst e
 obtain⟨t,rfl⟩:=r1
 refine wpAny_pyIter_strU ?_
 have ht:strIterType x = "str_ascii_iterator":=by unfold strIterType; rw[if_pos hx]
 rw[ht]
 refine⟨s1.heap.objs.size,[s1.heap.objs.size],_,_,H1,rfl,I1.kept (t':=s1.toks) fun b o e=>get?_push_of_some _ e,FT x t _ hx,⟨_,get?_push_size _ rfl,rfl,rfl⟩,fun b hb=>?_,q⟩
 have e:b=s1.heap.objs.size:=by simpa using hb
 subst e
 exact I1.fpOk (le_refl _) (I1.hok.fresh (le_refl _))
def Hq (x:Str):Src (Its x) H x.cps.size (fun i v _=>∃ c,x.cps[i]? = some c/\v = .str ⟨#[c]⟩) where
 go:=fun i H' hi s=>hi
 yld:=fun i H' v H'' hi s y=>⟨by rw[y.1]; exact aG.refl _,y.2⟩
 stop:=fun H' s=>le_refl _
end
section
variable {X:Cx} {pins:K7} {σ : St} {H:Hp} {s:Shared}
end
section
variable {X:Cx}
def Itd (a:Addr) (o:Obj) (kvs:Ll):It:=⟨fun i H=>H a=some (.frz o (.dK kvs))/\i<kvs.length,fun i H v H'=>H'=H/\∃ k y,kvs[i]? = some (k,y)/\v=kV k,fun i H=>H a=some (.frz o (.dK kvs))/\kvs.length<=i⟩
def BI (ok:HOk P w H h) (e:H a=some (.frz o (.dK kvs))):h.get? a=some o/\(a == sysModules)=false/\∃ vs es ep,KV kvs vs/\o.data = .dict es ep/\h.DictAt (cE P w) a vs ep:=by
 obtain⟨g,z,n,vs,kv,o',es,ep,g',r1,r2,r3⟩:=(show d8 P w H h a (.frz o (.dK kvs)) from ok a _ e)
 have e':o'=o:=Option.some.inj (g'.symm.trans g)
 subst e'
 exact⟨g,n,vs,es,ep,kv,r2,o',es,g,r1,r2,r3⟩
def EF {P:Program} {w:World} {K:K6} {tg:Expr} (a it:Addr) (o:Obj) (kvs:Ll) (es:Array DictEntry) (ep:Nat) (ho:o.data = .dict es ep):Turn P w K tg (Itd a o kvs) [it] it (fun i h=>h.IsKeyIter it a i kvs.length ep) where
 mem:=by simp
 obj:=fun i h st b hb=>by
  have e:b=it:=by simpa using hb
  subst e
  obtain⟨o,e,c,d⟩:=st
  exact⟨o,e,fun v z=>by rw[d]at z; cases z⟩
 keep:=fun i h h' st k=>by
  obtain⟨o,e,r⟩:=st
  exact⟨o,k it (by simp) o e,r⟩
 item:=by
  intro X hP hw hK hc i pins s σ H E I hf st hg
  subst hP hw hK
  obtain⟨hfz,hlt⟩:=hg
  obtain⟨g,n,vs,es',ep',kv,e1,dat⟩:=BI I.hok hfz
  rw[ho]at e1
  cases e1
  have hl:vs.length=kvs.length:=kv.length.symm
  rw[<- hl]at st
  have hlt':i<vs.length:=by omega
  obtain⟨f0,f1,f2,f3,f4,f5⟩:=hf it (by simp)
  refine wpAny_pyNext_dict_item st dat (k:=vs[i].1) (v:=vs[i].2) (getElem?_eq_getElem hlt') fun key h' hk st' sb=>?_
  have I1:Inv X pins σ H { s with heap:=h' }:=I.turned (t':=s.toks) (fun b o hb e=>(sb.2 b hb).trans e) f0 f1 f3 f4 f5
  obtain⟨o',e,c,d⟩:=id st'
  rw[hl]at st'
  have hkey:kvs[i].1=vs[i].1:=by
   have h1:=congrArg (fun l=>l[i]?) (Dj kv)
   simp only[getElem?_map]at h1
   rw[getElem?_eq_getElem hlt,getElem?_eq_getElem hlt']at h1
   exact Option.some.inj h1
  refine⟨key,rfl,BG (s:={ s with heap:=h' }) e c d (by decide) ⟨kV kvs[i].1,H,I1,?_,⟨rfl,kvs[i].1,kvs[i].2,getElem?_eq_getElem hlt,rfl⟩,st',fun b hb=>(hf b hb).1⟩⟩
  rw[hkey]
  rcases dI (k:=vs[i].1) (v:=key) hk with ⟨j,t,e1,e2⟩ | ⟨y,t,e1,e2⟩
  ·rw[e1,e2]
   exact⟨t,rfl⟩
  ·rw[e1,e2]
   exact⟨t,rfl⟩
 done:=by
  intro X hP hw hK hc i pins s σ H E I hf st hg
  subst hP hw hK
  obtain⟨hfz,hle⟩:=hg
  obtain⟨g,n,vs,es',ep',kv,e1,dat⟩:=BI I.hok hfz
  rw[ho]at e1
  cases e1
  have hl:vs.length=kvs.length:=kv.length.symm
  rw[<- hl]at st
  obtain⟨f0,f1,f2,f3,f4,f5⟩:=hf it (by simp)
  exact wpAny_pyNext_dict_end (I.ok.hd hc) st dat (getElem?_eq_none (by omega)) fun h' eb=>⟨rfl,I.turned (t':=s.toks) (fun b o hb e=>eb b o hb e) f0 f1 f3 f4 f5⟩
 self:=fun _ _ _ _ _ st h=>wpAny_pyIter_keyiter st h
inductive G8 (R:(It->Hp->Prop)) (x:V) (H1:Hp):Prop
 | mk:∀ a kvs,x = .ref a->H1 a=some (.dK kvs)->(∀ o,R (Itd a o kvs) (upd H1 a (.frz o (.dK kvs))))->G8 R x H1
def iDict (tl:TE):TI:=fun σ H R=>tl σ H (G8 R)
def II {tg l:Expr} {tl:TE} (hl:PE X l tl):PI X tg l (iDict tl):=by
 intro pins s σ H R I h
 refine thn (hl pins s σ H _ I h) fun v s1 zQq=>?_
 obtain⟨x,H1,I1,r1,q1⟩:=zQq
 obtain⟨a,kvs,e,hd,q⟩:=q1
 subst e
 cases (show v=Value.ref a from r1)
 obtain⟨z,n,vs,kv,o,es,ep,g,r⟩:=BQ I1.hok hd
 have I2:Inv X pins σ (upd H1 a (.frz o (.dK kvs))) { s1 with heap:=s1.heap,toks:=s1.toks }:=I1.write (x:=a) (e:=a) (by rw[hd]; exact True.intro) (.inl rfl) (fun b u _ e=>e) ⟨o,g⟩ ⟨g,z,n,vs,kv,o,es,ep,g,r⟩
 have dat:s1.heap.DictAt (cE X.prog X.w) a vs ep:=⟨o,es,g,r⟩
 refine wpAny_pyIter_dict n dat ?_
 refine⟨s1.heap.objs.size,[s1.heap.objs.size],_,_,upd H1 a (.frz o (.dK kvs)),rfl,I2.kept (t':=s1.toks) fun b o e=>get?_push_of_some _ e,EF a _ o kvs es ep r.2.1,⟨_,get?_push_size _ rfl,rfl,by rw[kv.length]; rfl⟩,fun b hb=>?_,q o⟩
 have e:b=s1.heap.objs.size:=by simpa using hb
 subst e
 exact I2.fpOk (le_refl _) (I2.hok.fresh (le_refl _))
def Fi (h:H a=some (.frz o (.dK kvs))):Src (Itd a o kvs) H kvs.length (fun i v _=>∃ k y,kvs[i]? = some (k,y)/\v=kV k) where
 go:=fun i H' hi s=>⟨s _ _ h,hi⟩
 yld:=fun i H' v H'' hi s y=>⟨by rw[y.1]; exact aG.refl _,y.2⟩
 stop:=fun H' s=>⟨s _ _ h,le_refl _⟩
end
end L2
namespace TS
open PySem PyProof.Rows
def kk (κ : KeyKind) (p:Keyed):κ.α:=(κ.keyOf p.1).getD κ.dflt
def Ky (κ : KeyKind) (p:Keyed):Prop:=∃ a,κ.keyOf p.1=some a
def Le (κ : KeyKind) (p q:Keyed):Prop:=κ.kle (kk κ p) (kk κ q)
def AllK (κ : KeyKind) (xs:Array Keyed):Prop:=∀ (i:Nat) p,xs[i]? = some p->Ky κ p
section
variable {prog:Program} {w:World} {A:Around} {E:Lk} {s:Shared} {κ : KeyKind}
def wp_lt (hO:κ.OneLt) {st:SortSt} {x y:Keyed} {Q:Option Bool->SortSt->Prop} (hk:kindOf st=oneType') (hx:Ky κ x) (hy:Ky κ y) (h:Q (some (κ.blt (kk κ x) (kk κ y))) st):wpS (model prog w) A E s (lt' x y) Q st:=by
 obtain⟨a,ha⟩:=hx
 obtain⟨b,hb⟩:=hy
 have h:Q (some (κ.blt a b)) st:=by
  unfold kk at h
  rw[ha,hb]at h
  exact h
 rw[lt'_eq]
 refine wpS_bind (wpS_get ?_)
 rw[hk,keyLt'_oneType]
 exact wpS_bind (wpS_lift (wpAny_attempt (hO prog w A _ s x.1 y.1 a b ha hb ⟨rfl,wpS_pure h⟩)))
def Cw {st:SortSt} {xs:Array Keyed} {i:Nat} {p:Keyed} {Q:Keyed->SortSt->Prop} (e:xs[i]? = some p) (h:Q p st):wpS (model prog w) A E s (elem' xs i) Q st:=by
 rw[elem'_eq,e]
 exact wpS_pure h
end
end TS
namespace TS
open PySem PyProof.Rows
def pS {xs:Array Keyed} {i:Nat} (h:i<xs.size):∃ p,xs[i]? = some p:=⟨_,getElem?_pos xs i h⟩
section
variable {κ : KeyKind} {a b o:Array Keyed} {i j:Nat}
end
section
variable {prog:Program} {w:World} {A:Around} {E:Lk} {s:Shared} {κ : KeyKind} {a b:Array Keyed}
def JA {m n:Nat} (h:m=n):(m == n)=true:=by simpa using h
end
end TS
namespace TS
open PySem PyProof.Rows
section
variable {κ : KeyKind} {a b o:Array Keyed} {i j:Nat}
end
section
variable {prog:Program} {w:World} {A:Around} {E:Lk} {s:Shared} {κ : KeyKind} {a b:Array Keyed}
end
end TS
namespace TS
open PySem PyProof.Rows
def SR (κ : KeyKind) (xs:Array Keyed) (lo hi:Nat):Prop:=∀ (i j:Nat) p q,lo<=i->i<=j->j<hi->xs[i]? = some p->xs[j]? = some q->Le κ p q
structure SB (κ : KeyKind) (a₀ : Array Keyed) (st:SortSt):Prop where
 kind:kindOf st=oneType'
 failed:failedOf st=none
 perm:(arrOf st).Perm a₀
def SB.size {κ : KeyKind} {a₀ : Array Keyed} {st:SortSt} (h:SB κ a₀ st):(arrOf st).size=a₀.size:=h.perm.size_eq
def SB.keys {κ : KeyKind} {a₀ : Array Keyed} {st:SortSt} (h:SB κ a₀ st) (h0:KeysOf κ a₀):AllK κ (arrOf st):=fun i p e=>by
 refine h0 p ((Array.perm_iff_toList_perm.mp h.perm).mem_iff.mp ?_)
 rw[<- Array.getElem?_toList]at e
 exact mem_of_getElem? e
section
variable {prog:Program} {w:World} {A:Around} {E:Lk} {s:Shared} {κ : KeyKind} {a₀ : Array Keyed}
end
end TS
namespace TS
open PySem PyProof.Rows
def kAt (κ : KeyKind) (xs:Array Keyed) (i:Nat):Option κ.α:=xs[i]?.map (kk κ)
def Up (κ : KeyKind) (xs:Array Keyed) (lo hi:Nat):Prop:=∀ (i j:Nat) x y,lo<=i->i<=j->j<hi->kAt κ xs i=some x->kAt κ xs j=some y->κ.kle x y
def Up.sr {κ : KeyKind} {xs:Array Keyed} {lo hi:Nat} (h:Up κ xs lo hi):SR κ xs lo hi:=fun i j p q h1 h2 h3 e e'=>h i j (kk κ p) (kk κ q) h1 h2 h3 (by unfold kAt; rw[e]; rfl) (by unfold kAt; rw[e']; rfl)
def Gy (e:xs[i]? = some p):kAt κ xs i=some (kk κ p):=by unfold kAt; rw[e]; rfl
section
variable {prog:Program} {w:World} {A:Around} {E:Lk} {s:Shared} {κ : KeyKind} {a₀ : Array Keyed}
def Hg (hO:κ.OneLt) (h0:KeysOf κ a₀) {st:SortSt} (B:SB κ a₀ st) {i j:Nat} {Q:Option Bool->SortSt->Prop} (hi:i<a₀.size) (hj:j<a₀.size) (h:∀ x y,kAt κ (arrOf st) i=some x->kAt κ (arrOf st) j=some y->Q (some (κ.blt x y)) st):wpS (model prog w) A E s (ltAt' i j) Q st:=by
 obtain⟨p,ep⟩:=pS (show i<(arrOf st).size by rw[B.size]; exact hi)
 obtain⟨q,eq⟩:=pS (show j<(arrOf st).size by rw[B.size]; exact hj)
 rw[ltAt'_eq]
 refine wpS_bind (wpS_get ?_)
 dsimp only
 exact wpS_bind (Cw ep (wpS_bind (Cw eq (wp_lt hO B.kind (B.keys h0 _ _ ep) (B.keys h0 _ _ eq) (h _ _ (Gy ep) (Gy eq))))))
end
end TS
namespace TS
open PySem PyProof.Rows
section
variable {prog:Program} {w:World} {A:Around} {E:Lk} {s:Shared} {κ : KeyKind} {a₀ : Array Keyed}
end
end TS
namespace TS
open PySem PyProof.Rows
def SR.toK (h:SR κ xs 0 n) (hn:n<=xs.size):SortedToK κ xs n:=fun i j hij hj=>by
 obtain⟨p,ep⟩:=pS (show i<xs.size by omega)
 obtain⟨q,eq⟩:=pS (show j<xs.size by omega)
 have:=h i j p q (zero_le _) hij hj ep eq
 unfold KK
 rw[ep,eq]
 exact this
section
variable {prog:Program} {w:World} {A:Around} {E:Lk} {s:Shared} {κ : KeyKind}
end
end TS
namespace TS
open PySem PyProof.Rows
def mX:KeyKind where
 α:=Int
 blt a b:=decide (a<b)
 irrefl a:=decide_eq_false (Int.lt_irrefl a)
 trans a b c h1 h2:=decide_eq_true (Int.lt_trans (of_decide_eq_true h1) (of_decide_eq_true h2))
 negTrans a b c h:=by
  have h:=of_decide_eq_true h
  by_cases z:a<b
  ·exact .inl (decide_eq_true z)
  ·exact .inr (decide_eq_true (by omega))
 total a b h1 h2:=by
  have h1:=of_decide_eq_false h1
  have h2:=of_decide_eq_false h2
  omega
 keyOf v:=match v with
  | .int n _=>some n
  | _=>none
 dflt:=0
def KR:mX.OneLt:=by
 intro prog w A E s x y a b Q hx hy q
 cases x with
 | int n t=>
  cases y with
  | int m u=>
   cases (show some n=some a from hx)
   cases (show some m=some b from hy)
   exact oneLt_int q
  | _=>cases hy
 | _=>cases hx
def Gj (h:IntsAre vs ns):KeysOf mX (pairsOf vs):=fun p hp=>by
 obtain⟨n,t,e⟩:=h.intKeys p hp
 exact⟨n,by rw[e]; rfl⟩
def Cd (h:SortedToK mX xs n):SortedTo xs n:=fun i j hij hj=>by
 have:=h i j hij hj
 have e:∀ k,KK mX xs k=K xs k:=fun k=>by
  unfold KK K
  cases xs[k]? with
  | none=>rfl
  | some p=>
   dsimp only
   cases p.1 <;> rfl
 rw[e,e]at this
 have this:decide (K xs j<K xs i)=false:=this
 have:=of_decide_eq_false this
 omega
end TS
namespace L2
open PySem PySem.Spec PyProof.Rows
section
variable {X:Cx}
inductive tFwX (a:Str) (Q:VK) (v:V) (H1:Hp):Prop
 | mk:∀ i:Int,v = .int i->0<=i->i<10 ^ 10->Q (.str (a++Str.ofString (toString i))) H1->tFwX a Q v H1
def tFw (a:Str) (te:TE):TE:=fun σ H Q=>te σ H (tFwX a Q)
def Ez {a:Int} (h0:0<=a) (h:a<10 ^ 10):a.natAbs.log2<1920:=by
 have h:a.natAbs<10 ^ 10:=by omega
 by_cases h0:a.natAbs=0
 ·rw[h0]; decide
 ·have h1:a.natAbs.log2<64:=(Nat.log2_lt h0).mpr (lt_of_lt_of_le h (by decide))
  omega
def pe_fw {a:Str} {e:Expr} {te:TE} {k:Nat} {p1 p2 pos:Pos} (he:PE X e te) (ha:a.length<=1000:=by decide):PE X (.JoinedStr [.Constant (.str a) k p1,.FormattedValue e (-1) none p2] pos) (tFw a te):=by
 intro pins s σ H Q I h
 refine wpAny_JoinedStr ?_
 have e2:evalEach [.Constant (.str a) k p1,.FormattedValue e (-1) none p2] X.env=[eval (.Constant (.str a) k p1) X.env,eval (.FormattedValue e (-1) none p2) X.env]:=by rfl
 rw[e2]
 unfold Joins
 refine thn (bL pins s σ H (fun v H1=>v = .str a/\H1=H) I ⟨rfl,rfl⟩) fun v s1 zQq=>?_
 obtain⟨x,H1,I1,r1,hx,hH⟩:=zQq
 subst hx hH
 obtain⟨t,rfl⟩:=r1
 refine⟨a,t,rfl,?_,?_⟩
 ·rw[PySem.W.KT.empty_app]
  exact le_trans ha (by decide)
 rw[PySem.W.KT.empty_app]
 unfold Joins
 refine wpAny_FormattedValue_plain (thn (he pins s1 σ _ _ I1 h) fun v s2 zQq=>?_)
 obtain⟨x,H2,I2,r2,i,hx,h0,h1,q⟩:=zQq
 subst hx
 obtain⟨u,rfl⟩:=r2
 have hl:(a++Str.ofString (toString i)).length<=sizeLine:=by
  have:=PySem.W.KT.len_num h0 h1
  rw[strLen_append]
  exact le_trans (show _<=1010 by omega) (by decide)
 refine wpAny_formatField_int (Ez h0 h1) ⟨_,_,rfl,hl,hl,?_⟩
 exact⟨.str _,H2,I2.kept (fun _ _ e=>e),⟨_,rfl⟩,q⟩
def xT:∀ {ns:Lc} {vs:Lf},bZ (ns.map V.int) vs->IntsAre vs ns
 | [],_,h=>by cases h; exact .nil
 | n::ns,_,h=>by
  cases h with
  | cons r h=>
   obtain⟨t,rfl⟩:=r
   exact .cons n t (xT h)
def E1:∀ {vs:Lf} {ns:Lc},IntsAre vs ns->2<=ns.length->keyKind' vs.toArray=pure oneType'
 | [],_,h,h2=>by cases h; simp at h2
 | [_],_,h,h2=>by
  have:=IntsAre.length h
  simp at this
  omega
 | v₁ :: v₂ :: rest,_,h,_=>keyKind_ints h
inductive xK (xs:Ln) (H:Hp) (Q:VK):Prop
 | mk:∀ l ns,xs=[.ref l]->H l=some (.lst (ns.map .int))->ns.length<64->(∀ p ms,List.Perm ms ns->ms.Pairwise (· <= ·)->H p=none->Q (.ref p) (upd H p (.lst (ms.map .int))))->xK xs H Q
def vY:gM X (.builtin "sorted") xK:=by
 intro pins s σ H xs us Q I r h
 obtain⟨l,ns,rfl,hd,hl,q⟩:=h
 have hl':ns.length<=sizeLine:=le_trans (Nat.le_of_lt hl) (by decide)
 cases r with
 | cons r1 r2=>
  cases r2
  cases (show _=Value.ref l from r1)
  obtain⟨vs,rv,hp,hz⟩:=I.list (SqL.of hd)
  have hI:=xT rv
  have hlen:vs.length=ns.length:=by have:=rv.length; rw[length_map]at this; omega
  refine sorted_ints hp.isList hI (by omega) fun out ms hout perm pw=>?_
  obtain⟨ep2,gat⟩:=sortedAll_at s.heap vs out
  have hf:H (s.heap.objs.size+1)=none:=I.hok.fresh (le_succ _)
  refine⟨.ref (s.heap.objs.size+1),upd H (s.heap.objs.size+1) (.lst (ms.map .int)),I.laid (t':=s.toks) (fun b u e=>sortedAll_old e) (le_succ _) ?_,rfl,q _ ms perm pw hf⟩
  refine⟨?_,out.toList,ep2,mM hout,?_⟩
  ·rw[length_map,perm.length_eq]
   exact hl'
  ·simpa [seqObj] using gat
def DW (K:K6) (he:PE X e ta) (hb:attributeBase e f X.env (eval e X.env)=eval e X.env) (hK:X.K=K:=by rfl):PE X (.Attribute e f pos) (tFld K ta f):=by
 subst hK
 exact nU he hb
end
def zW (l:Addr) (items:Array Value) (n:Nat) (dct:Option Addr) (sl:Lb) (lo:Int) (t:Tok) (hlo:0<=lo/\lo<1000000000) :
  Meets (Builtin.«enumerate.__new__» ⟨[.type "enumerate",.ref l],[("start",.int lo t)]⟩) (fun _ R s=>s.heap.get? l=some { cls:=.type "tuple",dict:=dct,data:=.seq items n,slots:=sl }/\
   R (.ok (.ret (.ref (s.heap.push { cls:=.type "tuple_iterator",data:=.fields #[.ref l,.int 0 0] }).objs.size)))
    { s with heap:=(s.heap.push { cls:=.type "tuple_iterator",data:=.fields #[.ref l,.int 0 0] }).push { cls:=.type "enumerate",data:=.fields #[.none,.bool false,.ref s.heap.objs.size,rawInt lo,.none,.none] } }):=
 .of_wp fun prog w A R s h=>by
  obtain⟨hp,g,d,tk,os⟩:=s
  obtain⟨hl,h⟩:=h
  have z1:=sub_enumerate
  have hf:Builtin.SmallTypes.fitsIndex lo=true:=by
   unfold Builtin.SmallTypes.fitsIndex
   simp
   omega
  have z2:Heap.IsTuple (Shared.heap ⟨hp,g,d,tk,os⟩) l items:=⟨_,hl,rfl,n,rfl⟩
  wp_walk using AutoSeq1.wpAny_loadPart' hl
  refine wpAny_stack_any fun st=>wpAny_pure ?_
  split
  ·rename_i c _ _ _ _ _
   cases (c == Value.type "enumerate")
   ·wp_walk using AutoSeq1.wpAny_loadPart' hl,wpAny_pyIter_tuple z2
    exact⟨_,rfl,h⟩
   ·wp_walk using AutoSeq1.wpAny_loadPart' hl,wpAny_pyIter_tuple z2
    exact⟨_,rfl,h⟩
  ·wp_walk using AutoSeq1.wpAny_loadPart' hl,wpAny_pyIter_tuple z2
   exact⟨_,rfl,h⟩
section
variable {X:Cx}
inductive mE (K:K6) (R:(It->Hp->Prop)) (x:V) (y:V) (H2:Hp):Prop
 | mk:∀ a xs lo,x = .ref a->y = .int lo->0<=lo->lo<1000000000->SqT K H2 a xs->R (Ite K lo a) H2->mE K R x y H2
abbrev G7 (K:K6) (tb:TE) (σ : St) (R:(It->Hp->Prop)):V->Hp->Prop:=fun x H1=>tb σ H1 (mE K R x)
def Kk (K:K6) (ta tb:TE):TI:=fun σ H R=>ta σ H (G7 K tb σ R)
def GN (K:K6) (hm:X.mg "enumerate" = none) (ha:PE X ex ta) (hb:PE X e2 tb) (hg:Gl X "enumerate":=by rfl) (hs:starEach [ex] X.env=[(false,eval ex X.env)]:=by rfl) (hK:X.K=K:=by rfl) :
  PI X (.Tuple elts x1 tp) (.Call (.Name "enumerate" p) [ex] [⟨some "start",e2,kp⟩] pos) (Kk K ta tb):=by
 subst hK
 intro pins s σ H R I h
 refine wpAny_Call_Name_kw (lG I hg hm boot_enumerate ?_)
 rw[hs]
 refine Ba (x:=eval ex X.env) (rest:=[]) rfl rfl rfl ?_
 have ha':=eW ha aH hs pos pins s σ H (fun vs H1=>∃ x,vs=[x]/\tb σ H1 (mE X.K R x)) I (by
  have e:(fun(x:V) (H1:Hp)=>lR σ H1 fun xs H2=>∃ z,x::xs=[z]/\tb σ H2 (mE X.K R z))=fun x H1=>tb σ H1 (mE X.K R x):=by
   funext x H1
   simp only[lR,List.cons.injEq,and_true]
   apply propext
   constructor
   ·rintro ⟨z,rfl,h⟩
    exact h
   ·intro h
    exact⟨x,rfl,h⟩
  exact Eq.mpr (congrArg (ta σ H) e) h)
 rw[hs]at ha'
 refine thn ha' fun us s1 zQq=>?_
 obtain⟨vs,H1,I1,r1,x,ev,q1⟩:=zQq
 subst ev
 refine kws_cons (thn (hb pins s1 σ H1 _ I1 q1) fun v2 s2 zQq=>?_)
 obtain⟨y,H2,I2,ry,a,xs,lo,ex',ey,l0,l1,hq,q⟩:=zQq
 refine kws_nil ?_
 subst ex' ey
 cases r1 with
 | cons r rr=>
  cases rr
  cases (show _=Value.ref a from r)
  obtain⟨tt,rfl⟩:∃ tt,v2 = .int lo tt:=ry
  obtain⟨its,rv,⟨⟨c,dd,dt,sl⟩,ho,hc1,n,hd1⟩,hz⟩:=I2.tuple hq
  dsimp only at hc1 hd1
  subst hc1 hd1
  refine sT (kw:=[("start",_)]) PySem.F.called_enumerate (nL _ _) (pN _ _) PySem.F.entry_enumerate_new (zW a _ n dd sl lo tt ⟨l0,l1⟩) (fun obj=>Dp obj _ _) (fun obj=>nJ obj _ _) ⟨ho,⟨_,get?_push_size _ rfl,rfl⟩,?_⟩
  rw[size_push]
  exact vD (tg:=ex) (tk:=s2.toks) I2 q
inductive GF (x:V) (vs:Ln) (H:Hp) (Q:VK):Prop
 | mk:∀ a y z o,x = .ref a->vs=[y,z]->cS H a y o->Q (o.getD z) H->GF x vs H Q
def Go (hu:X.A.units+1<cLine):MtR X "dict.get" GF:=by
 intro pins s σ H x vs v us Q I rx rv h
 obtain⟨a,y,z,o,rfl,rfl,g,q⟩:=h
 cases (show v=Value.ref a from rx)
 obtain⟨u1,u2,rfl,r1,r2⟩:=FN rv
 exact Kt hu I g r1 r2 fun w' s' I' rw'=>⟨_,H,I',rw',q⟩
structure GD (P:Program) (w:World) (K:K6) (a:Addr) (kvs:Ll):Prop where
 sys:(a == sysModules)=false
 ex:∃ o vs,K.lookup a=some o/\KV kvs vs/\o.IsDictOf (cE P w) vs
def GD.here (g:GD X.prog X.w X.K a kvs) (I:Inv X pins σ H s):∃ vs,KV kvs vs/\s.heap.DictOf (cE X.prog X.w) a vs:=by
 obtain⟨o,vs,h1,h2,h3⟩:=g.ex
 exact⟨vs,h2,Heap.dictOf_iff.mpr ⟨o,I.kIn _ _ h1,h3⟩⟩
inductive Fb (kvs:Ll) (Q:VK) (y:V) (H1:Hp):Prop
 | mk:∀ k v,y=kV k->dM kvs k=some v->Q v H1->Fb kvs Q y H1
def tGGet (kvs:Ll) (ty:TE):TE:=fun σ H Q=>ty σ H (Fb kvs Q)
inductive AK (kvs:Ll) (Q:VK) (y:V) (H1:Hp):Prop
 | mk:∀ k,y=kV k->Q (.bl (!(dM kvs k).isSome)) H1->AK kvs Q y H1
def Hi (kvs:Ll) (ty:TE):TE:=fun σ H Q=>ty σ H (AK kvs Q)
def IM {K:K6} {a:Addr} {kvs:Ll} {o i:Expr} {ty:TE} {pos:Pos} (g:GD X.prog X.w K a kvs) (ho:PE X o (tC (.ref a))) (hi:PE X i ty) (hs:K2 i) (hK:X.K=K:=by rfl):PE X (.Subscript o i pos) (tGGet kvs ty):=by
 subst hK
 intro pins s σ H Q I h
 refine C9 PySem.F.slot_dict_getitem.lookup hs (thn (ho pins s σ H (fun x H1=>x = .ref a/\H1=H) I ⟨rfl,rfl⟩) fun u s1 zQq=>?_)
 obtain⟨x,H1,I1,rx,ex,eH⟩:=zQq
 subst ex eH
 obtain rfl:u=Value.ref a:=rx
 refine thn (hi pins s1 σ H1 _ I1 h) fun iv s2 zQq=>?_
 obtain⟨y,H2,I2,ry,k,v,ey,l,q2⟩:=zQq
 subst ey
 obtain⟨vs,rel,dd⟩:=g.here I2
 obtain⟨w',hw,rw'⟩:=kK.some_of (v:=v) (o:=valueAt vs k) (by rw[<- l]; exact rel.val k)
 exact⟨dd.typeIs,wpAny_getItem_of (nI ry) dd.mapOf hw ⟨v,H2,I2.tok _,rw',q2⟩⟩
def ET {K:K6} {a:Addr} {kvs:Ll} {o i:Expr} {ty:TE} (g:GD X.prog X.w K a kvs) (hi:PE X i ty) (ho:PE X o (tC (.ref a))) (hK:X.K=K:=by rfl):PC X .NotIn i o (Hi kvs ty):=by
 subst hK
 intro pins s σ H Q I h
 refine thn (hi pins s σ H _ I h) fun iv s1 ⟨y,H1,I1,ry,k,ey,q1⟩=>thn (ho pins s1 σ H1 (fun x H2=>x = .ref a/\H2=H1) I1 ⟨rfl,rfl⟩) fun u s2 zQq=>?_
 obtain⟨x,H2,I2,rx,ex,eH⟩:=zQq
 subst ex eH ey
 obtain rfl:u=Value.ref a:=rx
 obtain⟨vs,rel,dd⟩:=g.here I2
 refine wpAny_notIn_of (nI ry) g.sys dd.mapOf ⟨.bl _,H2,I2.tok _,rfl,?_⟩
 rw[<- (rel.val k).isSome_eq]
 exact q1
def pO:List (Str × Int)->List DictEntry->Bool
 | [],[]=>true
 | p::ps,e::es=>(match e.key,e.val with | .str x _,.int n _=>decide (x=p.1) && decide (n=p.2) | _,_=>false) && pO ps es
 | _,_=>false
def Dw:∀ {ps:List (Str × Int)} {es:List DictEntry},es.map (·.hash)=ps.map (fun p=>PyData.keyHash w.params p.1)->pO ps es=true->
  (∀ e∈es,∃ k:Key,rQ k e.key=true/\e.hash=Kg w k)/\∃ vs:List (Key × Value),KV (ps.map fun p=>(Sum.inr p.1,V.int p.2)) vs/\(∀ (P:Program),Pairs (cE P w) es vs)/\vs.map (·.1)=ps.map fun p=>Sum.inr p.1
 | [],[],_,_=>⟨(fun e h=>by cases h),[],.nil,(fun _=>.nil),rfl⟩
 | p::ps,e::es,hh,he=>by
  rw[map_cons,map_cons]at hh
  injection hh with h1 h2
  unfold pO at he
  rw[and_eq_true]at he
  obtain⟨he,he2⟩:=he
  obtain⟨a,vs,b,c,d⟩:=Dw h2 he2
  obtain⟨hash,key,val⟩:=e
  dsimp only at he h1
  split at he
  ·rename_i x t n u
   rw[and_eq_true,decide_eq_true_eq,decide_eq_true_eq]at he
   obtain⟨e1,e2⟩:=he
   subst e1 e2
   have hk:∃ k:Key,rQ k (.str p.1 t)=true/\hash=Kg w k:=⟨Sum.inr p.1,qS _ _,by rw[h1]; rfl⟩
   refine⟨fun e h=>?_,(Sum.inr p.1,.int p.2 u)::vs,.cons ⟨rfl,⟨_,rfl⟩⟩ b,fun P=>.cons (qS p.1 t) rfl (c P),by rw[map_cons,map_cons,d]⟩
   rcases mem_cons.mp h with z | z
   ·rw[z]
    exact hk
   ·exact a e z
  ·cases he
def gd_of {P:Program} {w:World} {K:K6} {a:Addr} {es:Array DictEntry} {ep:Nat} {ps:List (Str × Int)} (sys:(a == sysModules)=false) (l:K.lookup a=some ⟨.type "dict",none,.dict es ep,#[]⟩) (hh:es.toList.map (·.hash)=ps.map fun p=>PyData.keyHash w.params p.1) (he:pO ps es.toList=true) (nd:(ps.map fun p=>(Sum.inr p.1:Key)).Nodup) :
  GD P w K a (ps.map fun p=>(Sum.inr p.1,V.int p.2)):=by
 obtain⟨hk,vs,kv,pr,ek⟩:=Dw hh he
 exact⟨sys,_,vs,l,kv,es,ep,⟨rfl,rfl,rfl⟩,rfl,fun e h=>hk e (by simpa using h),pr P,by rw[ek]; exact nd⟩
end
section
variable {X:Cx} {tg:Expr}
inductive JY (K:K6) (R:(It->Hp->Prop)) (x:V) (H1:Hp):Prop
 | mk:∀ a,x = .ref a->(((∃ xs,SqL K H1 a xs)/\R (Itl K a) H1)\/((∃ xs,SqT K H1 a xs)/\R (Itt K a) H1))->JY K R x H1
def iSeq (K:K6) (tl:TE):TI:=fun σ H R=>tl σ H (JY K R)
def IF (K:K6) (hl:PE X l tl) (hK:X.K=K:=by rfl):PI X tg l (iSeq K tl):=by
 subst hK
 intro pins s σ H R I h
 refine thn (hl pins s σ H _ I h) fun v s1 zQq=>?_
 obtain⟨x,H1,I1,r1,q1⟩:=zQq
 obtain⟨a,e,q⟩:=q1
 subst e
 cases r1
 have fp:∀ b∈[s1.heap.objs.size],qZ X pins H1 b:=fun b hb=>by
  have e:b=s1.heap.objs.size:=by simpa using hb
  subst e
  exact I1.fpOk (le_refl _) (I1.hok.fresh (le_refl _))
 rcases q with ⟨⟨xs,hq⟩,q⟩ | ⟨⟨xs,hq⟩,q⟩
 ·obtain⟨its,rv,p,hz⟩:=I1.list hq
  refine wpAny_pyIter_list p.isList ?_
  exact⟨s1.heap.objs.size,[s1.heap.objs.size],_,_,H1,rfl,I1.kept (t':=s1.toks) fun b o e=>get?_push_of_some _ e,wC a _,⟨_,get?_push_size _ rfl,rfl,rfl⟩,fp,q⟩
 ·obtain⟨its,rv,p,hz⟩:=I1.tuple hq
  refine wpAny_pyIter_tuple (show s1.heap.IsTuple a its.toArray from p) ?_
  exact⟨s1.heap.objs.size,[s1.heap.objs.size],_,_,H1,rfl,I1.kept (t':=s1.toks) fun b o e=>get?_push_of_some _ e,sV a _,⟨_,get?_push_size _ rfl,rfl,rfl⟩,fp,q⟩
end
section
variable {X:Cx} {pins:K7} {σ : List (Option V)} {H H':Hp} {s:Shared}
def Inv.thaw (I:Inv X pins σ H' s) (hf:H' a=some (.frz o (.dK kvs))) (h0:∀ o u,X.H₀ a≠some (.frz o u)):Inv X pins σ (upd H' a (.dK kvs)) s:=by
 have nn:∀ {b:Addr},H' b=none->upd H' a (.dK kvs) b=none:=fun {b} e=>by
  rw[aF (fun z=>by rw[z,hf]at e; cases e)]
  exact e
 have nt:∀ {b:Addr} {u:HO},H' b=some u->(∀ o u',u ≠ .frz o u')->upd H' a (.dK kvs) b=some u:=fun {b u} e n=>by
  rw[aF (fun z=>by rw[z,hf]at e; cases e; exact n _ _ rfl)]
  exact e
 refine⟨I.ok,I.os,I.bare,⟨I.base.keep,I.base.slot,fun b ob q n hx=>nn (I.base.free b ob q n hx),I.base.there,fun b xs e=>nt (I.base.tups b xs e) (fun _ _ z=>by cases z),fun b ob u e=>?_,fun b ps e=>?_⟩,I.loc,I.cell,nn I.free,fun x c e=>nn (I.freeC x c e),fun p hp=>?_,fun b u e=>?_,I.len⟩
 ·rw[aF (fun z=>h0 ob u (by rw[<- z]; exact e))]
  exact I.base.frzs b ob u e
 ·obtain⟨more,e1⟩:=I.base.tbls b ps e
  exact⟨more,nt e1 (fun _ _ z=>by cases z)⟩
 ·obtain⟨h1,h2,h3⟩:=I.pin p hp
  exact⟨h1,nn h2,h3⟩
 ·by_cases y:b=a
  ·subst y
   rw[aB]at e
   cases e
   exact(I.hok b _ hf).2
  ·rw[aF y]at e
   exact(I.hok b u e).stay (fun c v _ r=>r) (fun c r=>nt r (fun _ _ z=>by cases z)) fun c xs r=>nt r (fun _ _ z=>by cases z)
inductive FV (H:Hp) (Q:VK) (v:V) (H':Hp):Prop
 | mk:∀ a o kvs,H' a=some (.frz o (.dK kvs))->(∃ kvs0,H a=some (.dK kvs0))->Q v (upd H' a (.dK kvs))->FV H Q v H'
def tThaw (t:TE):TE:=fun σ H Q=>t σ H (FV H Q)
def IJ (h:PE X e t):PE X e (tThaw t):=by
 intro pins s σ H Q I hq
 refine thn (h pins s σ H _ I hq) fun u s1 zQq=>?_
 obtain⟨v,H1,I1,r1,a,o,kvs,hf,⟨k0,hk⟩,q⟩:=zQq
 exact⟨v,_,I1.thaw hf (fun o u z=>by rw[I.base.frzs a o u z]at hk; cases hk),r1,q⟩
end
end L2
namespace TS
open PySem PyProof.Rows
def xP:∀ (f n r:Nat),r<=1->minRun' f n r<=n+r
 | 0,n,r,_=>Nat.le_of_eq rfl
 | f+1,n,r,h=>by
  rw[minRun'_succ]
  split
  ·exact le_refl _
  ·have:=xP f (n / 2) (max r (n % 2)) (by omega)
   omega
section
variable {prog:Program} {w:World} {A:Around} {E:Lk} {s:Shared} {κ : KeyKind} {a₀ : Array Keyed}
def zZ (hO:κ.OneLt) (h0:KeysOf κ a₀) {st:SortSt} (B:SB κ a₀ st) (hr:1<=a₀.size) (ua:Up κ (arrOf st) 0 a₀.size) {Q:Option Nat->SortSt->Prop} (h:Q (some a₀.size) st):wpS (model prog w) A E s (countRun' 0 a₀.size) Q st:=by
 rw[countRun'_eq]
 dsimp only
 refine wpS_bind (wpS_mono (wpS_forRange (I:=fun x c st'=>st'=st/\c=(none,x)) (Q:=fun c st'=>st'=st/\c=(none,a₀.size)) ?step ?fin ⟨rfl,rfl⟩) ?post)
 case fin=>
  rintro c st' ⟨rfl,rfl⟩
  rw[show max 1 a₀.size=a₀.size by omega]
  exact⟨rfl,rfl⟩
 case step=>
  rintro x c st' hx1 hx2 ⟨rfl,rfl⟩
  dsimp only
  refine wpS_bind (Hg hO h0 B (by omega) (by omega) fun x' y' ex ey=>?_)
  have:κ.blt x' y'=false:=ua _ _ _ _ (zero_le _) (by omega) (by omega) ey ex
  rw[this]
  dsimp only
  rw[if_neg (by decide)]
  exact wpS_pure ⟨rfl,rfl⟩
 case post=>
  rintro c st' ⟨rfl,rfl⟩
  dsimp only
  rw[if_pos (JA rfl)]
  exact wpS_pure h
def y4 (hO:κ.OneLt) (h0:KeysOf κ a₀) {st:SortSt} (B:SB κ a₀ st) (hp:pendingOf st = #[]) (h2:2<=a₀.size) (ua:Up κ (arrOf st) 0 a₀.size) {Q:Unit->SortSt->Prop}
  (h:∀ st',arrOf st'=arrOf st->failedOf st'=none->Q () st'):wpS (model prog w) A E s sortRuns' Q st:=by
 rw[sortRuns'_eq]
 refine wpS_bind (wpS_get ?_)
 dsimp only
 rw[B.size]
 have hmr:minRun' a₀.size a₀.size 0<=a₀.size:=xP _ _ _ (by omega)
 generalize minRun' a₀.size a₀.size 0=mr at hmr
 refine wpS_bind (wpS_mono (wpS_forRange (I:=fun x c st'=>(x=0/\c=(none,0)/\st'=st)\/(c=(none,a₀.size)/\arrOf st'=arrOf st/\failedOf st'=none/\(pendingOf st').size<=1)) (Q:=fun c st'=>c=(none,a₀.size)/\arrOf st'=arrOf st/\failedOf st'=none/\(pendingOf st').size<=1) ?step ?fin (.inl ⟨rfl,rfl,rfl⟩)) ?post)
 case fin=>
  rintro c st' (⟨z,_⟩ | hh)
  ·omega
  ·exact hh
 case step=>
  rintro x c st' _ hx (⟨rfl,rfl,rfl⟩ | ⟨rfl,hh⟩)
  ·dsimp only
   rw[if_neg (by omega)]
   refine wpS_bind (zZ hO h0 B (by omega) ua ?_)
   dsimp only
   rw[if_neg (by omega)]
   refine wpS_bind (wpS_get ?_)
   rw[hp]
   dsimp only[Array.back?]
   refine wpS_bind (wpS_modify (wpS_pure (.inr ⟨?_,rfl,B.failed,?_⟩)))
   ·rw[Nat.zero_add]
   ·show ((pendingOf st').push _).size<=1
    rw[hp]
    exact le_refl _
  ·dsimp only
   rw[if_pos (le_refl _)]
   exact wpS_pure ⟨rfl,hh⟩
 case post=>
  rintro c st' ⟨rfl,e1,e2,e3⟩
  dsimp only
  refine wpS_bind (wpS_mono (wpS_forRange (I:=fun x c st2=>c=(none,())/\st2=st') (Q:=fun c st2=>c=(none,())/\st2=st') ?s2 (fun _ _ hh=>hh) ⟨rfl,rfl⟩) ?p2)
  case s2=>
   rintro x c st2 _ hx ⟨rfl,rfl⟩
   refine wpS_bind (wpS_get ?_)
   rw[if_pos e3]
   exact wpS_pure ⟨rfl,rfl⟩
  case p2=>
   rintro c st2 ⟨rfl,rfl⟩
   exact wpS_pure (h _ e1 e2)
def Fj (hO:κ.OneLt) {a:Addr} {vs:Lf} {n:Nat} {P:PySem.Fin->Shared->Prop} (ho:s.heap.get? a=some (seqObj "list" vs.toArray n)) (h0:KeysOf κ (pairsOf vs)) (ua:Up κ (pairsOf vs) 0 (pairsOf vs).size) (hkk:keyKind' vs.toArray=pure oneType') (h2:2<=vs.length) (hz:vs.length<=sizeLine)
  (h:∀ st':SortSt,(arrOf st').Perm (pairsOf vs)->SortedToK κ (arrOf st') (pairsOf vs).size->P (.done (.ret .none)) { s with heap:=sortedHeap s.heap a vs ((arrOf st').map (·.2)) }):wpAny (model prog w) A (Builtin.«list.sort» ⟨[.ref a],[]⟩) P E s:=by
 have ha:a<s.heap.objs.size:=lt_size ho; have hza:vs.toArray.size=vs.length:=by simp
 rw[list_sort_plain]; refine wpAny_bind (listItems_at ho rfl (wpAny_bind (listUpdate_at ho rfl ?_ (by rw[hza]; exact hz))))
 have ho1:=get?_update_seq ho (fun _=>#[])
 generalize (if ((fun _=>#[]:Array Value->Array Value) vs.toArray).size == vs.toArray.size then n else n+1)=e1 at ho1
 refine wpAny_bind (seqEpoch_at ho1 rfl (wpAny_bind (wpAny_newTuple (wpAny_bind (wpAny_newList (wpAny_holding ?_))) (by simpa using hz))))
 generalize eh6:((s.heap.update a (Obj.mapSeq fun _=>#[])).push (seqObj "tuple" vs.toArray 0)).push (seqObj "list" #[] 0)=h6
 have ho6:h6.get? a=some (seqObj "list" #[] e1):=by
  rw[<- eh6,Heap.get?_push_ne _ _ _ (by rw[size_push',Heap.size_update]; exact ne_of_lt (lt_succ_of_lt ha)),Heap.get?_push_ne _ _ _ (by rw[Heap.size_update]; exact ne_of_lt ha)]; exact ho1
 have h2':¬ vs.toArray.size<2:=by rw[hza]; omega
 show wpAny (model prog w) A _ P E { s with heap:=h6 }
 dsimp only; rw[if_neg h2',if_neg h2',hkk]
 refine wpAny_bind (wpAny_pure ?_)
 have fin:∀ st':SortSt,(arrOf st').Perm (pairsOf vs)->SortedToK κ (arrOf st') (pairsOf vs).size->P (.done (.ret .none)) { s with heap:=h6.update a (Obj.mapSeq fun _=>(arrOf st').map (·.2)) }:=fun st' a1 a2=>by
  have:=h st' a1 a2
  unfold sortedHeap at this
  rw[eh6]at this
  exact this
 refine wpAny_bind (wpAny_mono (y4 (κ:=κ) hO (a₀:=pairsOf vs) (st:=SortSt.mk' oneType' (vs.toArray.zip vs.toArray) #[] 7 none) (Q:=fun _ st'=>(arrOf st').Perm (pairsOf vs)/\failedOf st'=none/\SR κ (arrOf st') 0 (pairsOf vs).size) h0 ⟨rfl,rfl,Array.Perm.refl _⟩ rfl (by rw[pairsOf_size]; exact h2) ua fun st' a1 a2=>⟨by rw[a1]; exact Array.Perm.refl _,a2,by rw[a1]; exact ua.sr⟩) ?_ fun _ _ e=>e)
 rintro ⟨⟨⟩,st'⟩ s' ⟨rfl,hp,hf,hs⟩
 have zo:((arrOf st').map (·.2)).size=vs.length:=by rw[Array.size_map,hp.size_eq,pairsOf_size]
 dsimp only; refine wpAny_bind (seqEpoch_at ho6 rfl (wpAny_bind (listUpdate_at ho6 rfl ?_ (by show 0<=sizeLine; omega) (by show ((arrOf st').map (·.2)).size<=sizeLine+1; omega))))
 rw[hf]; simp only[bne_self_eq_false,Bool.false_eq_true,if_false]
 exact wpAny_pure (fin st' hp (hs.toK (by rw[hp.size_eq]; exact le_refl _)))
end
def KQ (h:IntsAre vs ns) (pw:ns.Pairwise (· <= ·)):Up mX (pairsOf vs) 0 (pairsOf vs).size:=by
 intro i j x y _ hij hj ex ey
 rw[pairsOf_size,h.length]at hj
 have key:∀ {k:Nat} {z:Int},(hk:k<ns.length)->kAt mX (pairsOf vs) k=some z->z=ns[k]:=fun {k z} hk e=>by
  obtain⟨t,et⟩:=h.get k ns[k] (getElem?_eq_getElem hk)
  have e2:(pairsOf vs)[k]? = some (Value.int ns[k] t,Value.int ns[k] t):=by
   unfold pairsOf
   rw[Array.getElem?_zip_eq_some]
   exact⟨by simpa using et,by simpa using et⟩
  unfold kAt at e
  rw[e2]at e
  cases e
  rfl
 have e1:=key (by omega) ex
 have e2:=key hj ey
 rw[e1,e2]
 show decide (ns[j]<ns[i])=false
 rw[decide_eq_false_iff_not]
 by_cases z:i=j
 ·subst z
  omega
 ·have:=(List.pairwise_iff_getElem.mp pw) i j (by omega) hj (by omega)
  omega
end TS
namespace L2
open PySem PySem.Spec PyProof.Rows
section
variable {X:Cx}
inductive An (xs:Ln) (H:Hp) (Q:VK):Prop
 | mk:∀ d kvs ns,xs=[.ref d]->H d=some (.dK kvs)->kvs.map (·.1)=ns.map Sum.inl->(ns.length<64\/ns.Pairwise (· <= ·))->ns.length<=100000->(∀ p ms,List.Perm ms ns->ms.Pairwise (· <= ·)->H p=none->Q (.ref p) (upd H p (.lst (ms.map .int))))->An xs H Q
def Fk (ho:s.heap.get? a=some (seqObj "list" vs.toArray n)) (hI:IntsAre vs ns) (asc:ns.length<64\/ns.Pairwise (· <= ·)) (hl:vs.length=ns.length) (hz:vs.length<=sizeLine)
  (h:∀ (out:Array Value) (ms:Lc),IntsAre out.toList ms->ms.Perm ns->ms.Pairwise (· <= ·)->P (.done (.ret .none)) { s with heap:=sortedHeap s.heap a vs out }):wpAny (model prog w) A (Builtin.«list.sort» ⟨[.ref a],[]⟩) P E s:=by
 by_cases h64:vs.length<64
 ·exact list_sort_tree ho hI h64 h
 refine TS.Fj TS.KR ho (TS.Gj hI) (TS.KQ hI (asc.resolve_left (by omega))) (E1 hI (by omega)) (by omega) hz fun st' p1 p2=>?_
 obtain⟨ms,hout,perm,pw⟩:=sorted_out hI p1 (TS.Cd p2)
 exact h _ ms hout perm pw
def gH (hc:X.calm=true):gM X (.builtin "sorted") An:=by
 intro pins s σ H xs us Q I r h
 obtain⟨d,kvs,ns,rfl,hd,hk,asc,hl,q⟩:=h
 have hl':ns.length<=sizeLine:=le_trans hl (by decide)
 cases r with
 | cons r1 r2=>
  cases r2
  cases (show _=Value.ref d from r1)
  obtain⟨hz,hsm,vs,rel,o,es,ep,dd⟩:=BQ I.hok hd
  have hh:X.A.in1.handled=none:=I.ok.hd hc
  have hlen:vs.length=ns.length:=by
   have h1:=rel.length
   have h2:=congrArg List.length hk
   rw[length_map,length_map]at h2
   omega
  have hkv:vs.map (·.1)=ns.map Sum.inl:=by rw[<- Dj rel]; exact hk
  refine wpAny_call (codeAny_call_builtin plain_sorted entry_sorted (wpAny_of_eq (yZ _) ?_))
  show wpAny _ _ (checkCount "sorted" 1 1 1 >>= _) _ _ s
  refine wpAny_bind (wpAny_of_eq (a:=()) (by rfl) ?_)
  refine wpAny_bind (PySem.W.kdu_collect (PySem.W.kdl_dict (knd:=cE X.prog X.w) (kvs:=vs) (ep:=ep) hsm) hh ⟨o,es,dd⟩ (by rw[hlen]; exact hl') fun h' tk acc keep hit=>?_)
  have hacc:acc.toList.length=vs.length:=by
   have:=hit.1
   simpa using this
  have hints:IntsAre acc.toList ns:=E2 (prog:=X.prog) (w:=X.w) hkv hacc fun j v hv=>hit.2 j v (by simpa using hv)
  refine wpAny_bind (wpAny_newList ?_ (by rw[hacc,hlen]; exact hl'))
  generalize eh2:h'.push { cls:=.type "list",data:=.seq acc.toList.toArray }=h2
  have g2:h2.get? h'.objs.size=some (seqObj "list" acc.toList.toArray 0):=by
   rw[<- eh2]
   exact get?_push_size _ rfl
  refine wpAny_bind (wpAny_holding ?_)
  refine wpAny_call_entry (T:="list") PyProof.Rows.slot_list_sort ⟨_,g2,rfl⟩ PyProof.Rows.entry_list_sort ?_ (PyProof.Rows.args_list_sort _)
  refine Fk g2 hints asc (by rw[hacc,hlen]) (by rw[hacc,hlen]; exact hl') fun out ms hout perm pw=>?_
  refine⟨_,rfl,wpAny_pure ?_⟩
  obtain⟨ep2,gat⟩:=sortedHeap_at (h:=h2) (a:=h'.objs.size) (vs:=acc.toList) (out:=out) g2
  have hf:H h'.objs.size=none:=(I.kept (t':=tk) keep).hok.fresh (le_refl _)
  refine⟨.ref h'.objs.size,upd H h'.objs.size (.lst (ms.map .int)),(I.kept (t':=tk) keep).laid (t':=tk) (fun b u e=>?_) (le_refl _) ?_,rfl,q _ ms perm pw hf⟩
  ·have hb:b<h'.objs.size:=lt_size e
   have h2s:h2.objs.size=h'.objs.size+1:=by rw[<- eh2]; exact size_push _ _
   rw[sortedHeap_old (ne_of_lt hb) (by rw[h2s]; exact lt_succ_of_lt hb),<- eh2]
   exact get?_push_of_some _ e
  ·refine⟨?_,out.toList,ep2,mM hout,?_⟩
   ·rw[length_map,perm.length_eq]
    exact hl'
   ·simpa [seqObj] using gat
end
def Fun.okY {P:Program} {w:World} {K:K6} {mg:K8} {base:Heap} {x qual:Str} {st:Stmt} {f:Addr} {fd:Lh} {ps:Ld} {k:Nat} {sp:Sp} (F:Fun K x qual st f fd) (N:Ld)
  (hbody:∀ (cdv:Value) (A:Around) (outer:List Env) (s:Shared) (H:Hp) (vs:Ln) (Q:VK) (E:XK),Room k (A.deeper (envOfC qual (c8 st) s.heap.objs.size f cdv))->N.Nodup->sp vs H Q E->
   ∃ t,PSs ((zY (CXE P w) P w K mg base N qual (c8 st) f cdv A outer s H E).bod E) (fI st) t/\t (Ends.fn Q) (oH N vs) H) (len:∀ vs H Q E,sp vs H Q E->vs.length=ps.length:=by intro _ _ _ _ h; cases h; subst_vars; rfl) (S:FnScope N ps (c8 st):=by exact⟨rfl,rfl,rfl,by decide +kernel,rfl,by decide +kernel,by decide +kernel⟩):FnOk P w K mg base (CXE P w) (k+1) f fd ps sp:=F.okX S len fun cdv A outer s H vs Q E hr h=>hbody cdv A outer s H vs Q E hr S.nd h
end L2
section
local macro_rules | `(tactic| trivial) => `(tactic| first | rfl | decide | exact .inl rfl | exact .inr rfl | exact .inr (.inl rfl) | exact .inr (.inr rfl) | (intro _; rfl) | with_unfolding_all rfl)
local macro_rules | `(⋯) => `(by trivial)
local macro_rules | `(‹0›) => `(⟨rfl, rfl, rfl, by decide +kernel, rfl, by decide +kernel, by decide +kernel⟩)
set_option hygiene false
local macro_rules
 | `(‹1›) => `(TxtD K mg aa2 aa5 ab8 aa6 aa1 aa9 aa7)
 | `(‹2›) => `(Callee P w K mg base "is_number" 1 ["thing", "least", "most"] kY)
 | `(‹3›) => `(TxtQ K mg A)
 | `(‹4›) => `(Method P w K mg base A.queue "write" 7 ["self", "rows"] (nO A))
 | `(‹5›) => `(Method P w K mg base aa7 "check_file" 3 ["self", "name"] (jK aa7 aa2 aa5))
 | `(‹6›) => `(Method P w K mg base A.disk "add" 4 ["self", "name", "some"] (yY A.disk A.badName A.missing A.badRow A.stopped))
 | `(‹7›) => `(Callee P w K mg base "_law_write" 2 ["_law_state", "_law_rows", "_law_most"] jS)
 | `(‹8›) => `(TxtK K mg ab0 aa1 aa3 aa4)
 | `(‹9›) => `(Callee P w K mg base "segment_name" 1 ["segment"] hU)
 | `(‹10›) => `(Callee P w K mg base "_law_seed" 1 ["_law_seed_here", "_law_k"] yT)
 | `(‹11›) => `(Method P w K mg base aa7 "count_step" 1 ["self"] (jJ aa7 aa6))
 | `(‹12›) => `(Method P w K mg base A.book "letter" 1 ["self", "number"] (mR A.book))
 | `(‹13›) => `(Callee P w K mg base "_law_ready" 1 ["_law_state", "_law_tries"] qA)
 | `(‹14›) => `(Callee P w K mg base "_law_pick" 1 ["_law_seed_here", "_law_many"] yU)
 | `(‹15›) => `(FnOk P w K mg base (CXE P w))
 | `(‹16›) => `(Callee P w K mg base)
 | `(‹17›) => `(Method P w K mg base)
 | `(‹18›) => `(Maker P w K mg base)
 | `(‹19›) => `((hr.mono (by decide)))
 | `(‹20›) => `((⟨ab0, aa1, aa3, aa4, aa2, aa5, ab8, aa6, aa9, aa7, aa8, ak3, aj5, as9, aj6⟩ : Ad))
 | `(‹21›) => `(cD (cR K) (pv 1) aI (fun _ _ => rfl))
 | `(‹22›) => `(eC (hu1 hr.units) (pv 0) bL (fun _ _ => rfl))
 | `(‹23›) => `(nU (pv 0) ⋯)
 | `(‹24›) => `(@eC _ _ _ _ _ _ (hu1 hr.units) (@pv _ 0 _ _ ⋯ ⋯ ⋯ ⋯) (@bL _ _ _ _) (fun _ _ => rfl))
 | `(‹25›) => `(aM bL aH)
 | `(‹26›) => `(cD (cR K) (pv 0) aI (fun _ _ => rfl))
 | `(‹27›) => `(bB dN (bB mW (pv 1) aI) aI)
 | `(‹28›) => `(bF (iI K) ⋯ T.ac1 eQ (aE (pv 0) (aE (sI (v := .ty "tuple") ⋯ T.ai3 pR ⋯) aH)))
 | `(‹29›) => `(aE (pv 1) aH)
 | `(‹30›) => `(bF (dC K) ⋯ T.ad2 fV (aE (pv 0) aH))
local macro_rules
 | `(‹31›) => `(bB mW (pv 1) aI)
 | `(‹32›) => `(fun C s2 H2 ex => (bG (i := 0) (show List.Nodup (["number", "self"] : Ld) by decide +kernel) ⋯ (Or.inl ⋯)))
 | `(‹33›) => `(@cD _ _ _ _ _ _ _ (cR K) (@pv _ 1 _ _ ⋯ ⋯ ⋯ ⋯) (@aI _ _ _ _) (fun _ _ => rfl))
 | `(‹34›) => `(aM aI aH)
 | `(‹35›) => `(@pv _ 0 _ _ ⋯ ⋯ ⋯ ⋯)
 | `(‹36›) => `(aE (pv 0) aH)
 | `(‹37›) => `(aE (pv 2) aH)
 | `(‹38›) => `(cD (cR K) (pv 3) aI (fun _ _ => rfl))
 | `(‹39›) => `(@eC _ _ _ _ _ _ (hu1 hr.units) (@pv _ 1 _ _ ⋯ ⋯ ⋯ ⋯) (@bL _ _ _ _) (fun _ _ => rfl))
 | `(‹40›) => `(fun C s2 H2 ex => (bG (i := 0) (show List.Nodup (["letter", "self"] : Ld) by decide +kernel) ⋯ (Or.inl ⋯)))
 | `(‹41›) => `(cD (cR K) (eC (hu1 hr.units) (DW K (pv 1) ⋯) (pv 0) (fun _ _ => rfl)) aI (fun _ _ => rfl))
 | `(‹42›) => `(fun C s2 H2 ex => DV)
 | `(‹43›) => `(@bL _ _ _ _)
 | `(‹44›) => `(aM aI (aE (cI (v := .int 999999) ⋯ ac8 ⟨_, rfl⟩) aH))
 | `(‹45›) => `(aQ fM (pv 2) bL (bD _))
 | `(‹46›) => `(bU (bE aH) aH)
 | `(‹47›) => `(show (cQ (dP q).hs m).map (·.1) = some x from HB el)
 | `(‹48›) => `(@aI _ _ _ _)
 | `(‹49›) => `(cD (cH K) (pv 9) aI (fun _ _ => rfl))
 | `(‹50›) => `(aE (pv 3) aH)
 | `(‹51›) => `(show List.Nodup (["_law_number", "_law_state"] : Ld) by decide +kernel)
 | `(‹52›) => `(bB cO (pv 1) (cI (v := .int 7) ⋯ al8 ⟨_, rfl⟩))
 | `(‹53›) => `(aQ fM (pv 3) bL (bD _))
 | `(‹54›) => `(bG (i := 3) nD0 ⋯ ⋯)
 | `(‹55›) => `(show j ∈ (M.ls.map (·.1)).filter _ from (mem_filter.mp hj).1)
 | `(‹56›) => `(aE (sI (v := .ty "str") ⋯ T.bi8 Kw ⋯) aH)
 | `(‹57›) => `(cD (cH K) (pv 1) (Av sR aI) (fun _ _ => rfl))
 | `(‹58›) => `(cD (cR K) (pv 5) aI (fun _ _ => rfl))
 | `(‹59›) => `(cI (v := .ref ab0) ⋯ T.bk3 ⋯)
 | `(‹60›) => `(aU (cZ al9 T.cl ‹19› bO (pv 0)))
local macro_rules
 | `(‹61›) => `(eC (hu1 hr.units) (pv 1) bL (fun _ _ => rfl))
 | `(‹62›) => `(DW K (pv 1) ⋯)
 | `(‹63›) => `(aQ fM (pv 0) bL (bD _))
 | `(‹64›) => `(aE (pv 4) aH)
 | `(‹65›) => `(fun C s2 H2 ex => (pv 0))
 | `(‹66›) => `(aC (aP jN))
 | `(‹67›) => `(aC (aP DX))
 | `(‹68›) => `(aC (qI (pv 0) aI uY))
 | `(‹69›) => `(aE (pv 5) aH)
 | `(‹70›) => `(aQ fM (pv 6) bL (bD _))
 | `(‹71›) => `(aQ uM (pv 3) aI (bD _))
 | `(‹72›) => `(show _ ≤ 1000 by omega)
 | `(‹73›) => `(bG (i := 4) nD0 ⋯ ⋯)
 | `(‹74›) => `(aC (dU eV ⋯ T.af3 ⋯ T.ba0 ‹25›))
 | `(‹75›) => `(bF (gH ⋯) ⋯ T.af4 iJ (f9 ‹23› aH))
 | `(‹76›) => `(bF (dC K) ⋯ T.ad2 fV ‹29›)
 | `(‹77›) => `(aC (aU (iU K PySem.F.plainAttrs_dict PySem.F.slot_dict_pop PySem.F.type_dict_pop pA ‹23› ‹37›)))
 | `(‹78›) => `(aU (iU K PySem.F.plainAttrs_dict PySem.F.slot_dict_pop PySem.F.type_dict_pop pA ‹22› ‹69›))
 | `(‹79›) => `(f9 ‹23› aH)
 | `(‹80›) => `(aN ‹21› aH)
 | `(‹81›) => `(aU (cN ah0 T.cl ‹19› bO (pv 0) ‹29›))
 | `(‹82›) => `(cD (cH K) (cB (aM aI ‹34›)) ‹27› (fun _ _ => rfl))
 | `(‹83›) => `(@aQ _ _ _ _ _ _ _ _ fM (@pv _ 6 _ _ ⋯ ⋯ ⋯ ⋯) ‹43› (bD _))
 | `(‹84›) => `(a9 aj3 ‹19› aX (aE (pv 0) ‹34›))
 | `(‹85›) => `(aC (dU eV ⋯ T.ag1 ⋯ T.bf8 ‹25›))
 | `(‹86›) => `(eC (hu1 hr.units) ‹23› (pv 1) (fun _ _ => rfl))
 | `(‹87›) => `(aC (dU eV ⋯ T.ae9 ⋯ T.ax9 ‹25›))
 | `(‹88›) => `(aC (dU eV ⋯ T.an0 ⋯ T.bj0 ‹25›))
 | `(‹89›) => `(aC (dU eV ⋯ T.ag3 ⋯ T.bg5 ‹25›))
 | `(‹90›) => `(@aN _ _ _ _ _ _ _ ‹24› (@aH _))
local macro_rules
 | `(‹91›) => `(aM bL (aM bL ‹25›))
 | `(‹92›) => `(aN ‹22› aH)
 | `(‹93›) => `(a9 ab2 ‹19› aX ‹79›)
 | `(‹94›) => `(aN ‹21› ‹80›)
set_option hygiene true
namespace Qh
open PySem L2
def top (i:Nat):Stmt:=PySem.Challenge.pw_queuehold_k38_whole_sizes_play_no_part.main.body.getD i (.Pass ⟨0,0,0,0⟩)
abbrev rF:Stmt:=top 3
abbrev uA:Stmt:=top 4
abbrev rG:Stmt:=top 28
abbrev Ah:Stmt:=top 29
abbrev rJ:Stmt:=top 30
def fV:bootBuiltins "len" = some (.builtin "len"):=by decide +kernel
def eQ:bootBuiltins "isinstance" = some (.builtin "isinstance"):=by decide +kernel
def HS:bootBuiltins "all" = some (.builtin "all"):=by decide +kernel
def AB:bootBuiltins "sum" = some (.builtin "sum"):=by decide +kernel
def pR:bootBuiltins "tuple" = some (.type "tuple"):=by decide +kernel
def Cs:bootBuiltins "int" = some (.type "int"):=by decide +kernel
def I0:bootBuiltins "bool" = some (.type "bool"):=by decide +kernel
def Kw:bootBuiltins "str" = some (.type "str"):=by decide +kernel
def cT:Ld:=["put","out","done","from","part","deal","carried","new"]
structure TxtR (K:K6) (mg:K8) (ab0 aa1:Addr):Prop where
 ad2:mg "len" = none
 ac1:mg "isinstance" = none
 bi9:mg "all" = none
 ax4:mg "sum" = none
 ai3:mg "tuple" = none
 ba3:mg "int" = none
 bj1:mg "bool" = none
 bi8:mg "str" = none
 ai4:mg "range" = none
 af9:mg "enumerate" = none
 ap2:∃ t,mg "HIGHEST_BYTE" = some (.int 255 t)
 ad1:∃ t,mg "HIGHEST_NUMBER" = some (.int 999999 t)
 bc4:∃ t,mg "LONGEST_BODY" = some (.int 60 t)
 ah1:∃ t,mg "HIGHEST_TIMES" = some (.int 9 t)
 ai5:∃ t,mg "LARGEST_DEAL" = some (.int 9 t)
 bk3:mg "KINDS" = some (.ref ab0)
 ax5:∀ H,SqT K H ab0 (cT.map V.str)
 l_KINDS:∃ o,K.lookup ab0=some o/\o.cls = .type "tuple"/\o.dict=none
 ag3:dJ K aa1=true
 bg5:mg "BadRow" = some (.ref aa1)
def bM (lo hi:Int):PyData->Bool
 | .int i=>decide (lo<=i) && decide (i<=hi)
 | _=>false
def cV:PyData->Bool
 | .tuple ds=>ds.all (bM 0 255)
 | _=>false
def fD (k:Str) (ns:Lc):Bool:=
 if k = "put"\/k = "part" then decide (ns.length<=60)
 else if k = "carried" then decide (1<=ns.length) && decide (ns.length<=61) && decide (ns.headD 0<=9)
 else if k = "deal" then decide (ns.length=1) && decide (1<=ns.headD 0) && decide (ns.headD 0<=9)
 else decide (ns.length=0)
inductive kY (vs:Ln) (H:Hp) (Q:VK) (x_3:XK):Prop
 | mk:∀ v d lo hi,vs=[v,.int lo,.int hi]->Den H d v->Q (.bl (bM lo hi d)) H->kY vs H Q x_3
inductive gX (vs:Ln) (H:Hp) (Q:VK) (x_3:XK):Prop
 | mk:∀ v d,vs=[v]->Den H d v->(∀ ds,d = .tuple ds->ds.length<=sizeLine)->(∀ H',aG H H'->Q (.bl (cV d)) H')->gX vs H Q x_3
inductive kZ (vs:Ln) (H:Hp) (Q:VK) (x_3:XK):Prop
 | mk:∀ k a ns,vs=[.str k,.ref a]->H a=some (.tup (ns.map V.int))->Q (.bl (fD k ns)) H->kZ vs H Q x_3
def sN (h:a=b):decide (V.str a=V.str b)=true:=decide_eq_true (by rw[h])
def sM (h:¬ a=b):decide (V.str a=V.str b)=false:=decide_eq_false (fun z=>h (V.str.inj z))
def pP (h:¬ a=b):decide (V.int a=V.int b)=false:=decide_eq_false (fun z=>h (V.int.inj z))
section
variable {P:Program} {w:World} {K:K6} {mg:K8} {base:Heap} {ab0 aa1:Addr}
def zJ (F:Fun K "is_number" "is_number" rF f fd) (T:TxtR K mg ab0 aa1):‹15› 1 f fd ["thing","least","most"] kY:=by
 refine F.okY ["thing","least","most"] fun cdv A outer s H vs Q E hr nD0 h=>?_
 obtain⟨v,d,lo,hi,rfl,hd,q⟩:=h
 refine⟨_,aA (bA (lO (dG (bF (iI K) ⋯ T.ac1 eQ (aE (pv 0) (aE (sI (v:=.ty "bool") ⋯ T.bj1 I0 ⋯) aH)))) (iR (cK (dG (bF (iI K) ⋯ T.ac1 eQ (aE (pv 0) (aE (sI (v:=.ty "int") ⋯ T.ba3 Cs ⋯) aH))))))).pt
   ‹67›
   aO)
  (aC (aP (uK iW iW (pv 1) (pv 0) (pv 2)))),?_⟩
 refine⟨_,rfl,_,_,_,_,rfl,hd.ty,Gw d,_,rfl,?_⟩
 cases d with
 | bool b=>exact aT (aT q)
 | int i=>
  refine bC ⟨_,rfl,_,_,_,_,rfl,hd.ty,mZ _,_,rfl,bC ?_⟩
  have e:v = .int i:=by simpa only[Den] using hd
  subst e
  refine⟨_,rfl,_,rfl,_,_,rfl,rfl,_,rfl,?_⟩
  simp only[bM]at q
  by_cases h1:lo<=i
  ·rw[if_pos (decide_eq_true h1)]
   refine⟨_,rfl,_,_,rfl,rfl,?_⟩
   rw[decide_eq_true h1,Bool.true_and]at q
   exact q
  ·rw[if_neg (by simpa using h1)]
   rw[decide_eq_false h1,Bool.false_and]at q
   exact q
 | none=>exact bC ⟨_,rfl,_,_,_,_,rfl,hd.ty,mZ _,_,rfl,aT q⟩
 | str x=>exact bC ⟨_,rfl,_,_,_,_,rfl,hd.ty,mZ _,_,rfl,aT q⟩
 | tuple x=>exact bC ⟨_,rfl,_,_,_,_,rfl,hd.ty,mZ _,_,rfl,aT q⟩
 | list x=>exact bC ⟨_,rfl,_,_,_,_,rfl,hd.ty,mZ _,_,rfl,aT q⟩
 | dict x=>exact bC ⟨_,rfl,_,_,_,_,rfl,hd.ty,mZ _,_,rfl,aT q⟩
def A7 (F:Fun K "is_bytes" "is_bytes" uA f fd) (T:TxtR K mg ab0 aa1) (ab1:‹2›):‹15› 2 f fd ["thing"] gX:=by
 obtain⟨_,ba4⟩:=T.ap2
 refine F.okY ["thing"] fun cdv A outer s H vs Q E hr nD0 h=>?_
 obtain⟨v,d,rfl,hd,hz,q⟩:=h
 refine⟨_,aC (aP (nV ‹28› (uI (bF (yG K) ⋯ T.bi9 HS (dW (c9 ["one"] [] ⋯ (zC K (pv 0)) (fun C s2 H2 ex=>(bG (i:=0) (show List.Nodup (["one"]:Ld) by decide +kernel) ⋯ (Or.inl ⋯))) ‹42› (fun C s2 H2 ex=>(a9 ab1 ‹19› aX (aE (pv 0) (aM aI (aE (cI (v:=.int 255) ⋯ ba4 ⟨_,rfl⟩) aH)))))) aH))))),?_⟩
 refine⟨_,rfl,_,_,_,_,rfl,hd.ty,qP d,_,rfl,?_⟩
 cases d with
 | tuple ds=>
  refine aT ?_
  have hd':=hd
  simp only[Den]at hd'
  obtain⟨a,xs,rfl,ha,hds⟩:=hd'
  have hl:=hds.length
  refine⟨_,rfl,a,rfl,⟨xs,SqT.of ha⟩,?_⟩
  refine dE (sF (K:=K) (SqT.of ha)) (by rw[hl]; exact hz ds rfl) (fun i y _=>∃ d,ds[i]? = some d/\y = .bl (bM 0 255 d)) (fun _ _ _ _ _ h=>h) (fun σ=>σ.length=1) ?z0 ?_ ?_
  case z0=>rfl
  ·intro i x σc H3 hi hσ s3 hx Q' hQ'
   obtain⟨d,hdi,hdx⟩:=hds.get hx
   match σc,hσ with
   | [z],_=>
    refine⟨_,rfl,x,d,0,255,rfl,hdx.same s3,?_⟩
    exact hQ' _ _ _ rfl (aG.refl _) ⟨d,hdi,rfl⟩
  ·intro D ys H' hD s' hD' hlen hR
   have ey:ys=(ds.map (bM 0 255)).map V.bl:=by
    apply ext_getElem?
    intro i
    cases e:ys[i]? with
    | none=>
     have:ys.length<=i:=List.getElem?_eq_none_iff.mp e
     rw[getElem?_eq_none (by rw[length_map,length_map]; omega)]
    | some y=>
     obtain⟨d,h1,h2⟩:=hR i y e
     rw[getElem?_map,getElem?_map,h1,h2]
     rfl
   refine⟨D,ds.map (bM 0 255),rfl,SqL.of (by rw[hD',ey]),?_⟩
   have:=q H' s'
   simp only[cV]at this
   rw[all_map]
   exact this
 | none=>exact bC (q H (aG.refl H))
 | bool x=>exact bC (q H (aG.refl H))
 | int x=>exact bC (q H (aG.refl H))
 | str x=>exact bC (q H (aG.refl H))
 | list x=>exact bC (q H (aG.refl H))
 | dict x=>exact bC (q H (aG.refl H))
def zK (F:Fun K "fits_kind" "fits_kind" rG f fd) (T:TxtR K mg ab0 aa1):‹15› 1 f fd ["kind","body"] kZ:=by
 obtain⟨_,an1⟩:=T.bc4
 obtain⟨_,ag4⟩:=T.ah1
 obtain⟨_,ah2⟩:=T.ai5
 refine F.okY ["kind","body"] fun cdv A outer s H vs Q E hr nD0 h=>?_
 obtain⟨k,a,ns,rfl,ha,q⟩:=h
 refine⟨_,aA (bA (lO ‹63› (iR ‹63›)).pt
   (aC (aP (fZ iW ‹76› (cI (v:=.int 60) ⋯ an1 ⟨_,rfl⟩) (bD _))))
   aO)
  (aA (bA ‹63›
   (aC (aP (nV (uK iW iW aI ‹76› (bB cO aI (cI (v:=.int 60) ⋯ an1 ⟨_,rfl⟩))) (uI (fZ iW ‹21› (cI (v:=.int 9) ⋯ ag4 ⟨_,rfl⟩) (bD _))))))
   aO)
  (aA (bA ‹63›
   (aC (aP (nV (fZ fM ‹76› aI (bD _)) (uI (uK iW iW aI ‹21› (cI (v:=.int 9) ⋯ ah2 ⟨_,rfl⟩))))))
   aO)
  (aC (aP (fZ fM ‹76› aI (bD _)))))),?_⟩
 have hsq:SqT K H a (ns.map V.int):=SqT.of ha
 have at0:∀ x r,ns=x::r->atI (ns.map V.int) 0=some (V.int x):=fun x r e=>by
  subst e
  exact cF (j:=0) rfl
 have ln:((ns.map V.int).length:Int)=(ns.length:Int):=by rw[length_map]
 unfold fD at q
 refine⟨_,rfl,rfl,_,rfl,?_⟩
 by_cases h1:k = "put"
 ·rw[if_pos (.inl h1)]at q
  rw[sN h1]
  refine aT (aT ⟨_,rfl,a,_,rfl,.inr hsq,_,_,rfl,rfl,?_⟩)
  have e:decide (((ns.map V.int).length:Int)<=60)=decide (ns.length<=60):=by
   apply decide_eq_decide.mpr
   rw[ln]
   omega
  show Q (.bl (decide (((ns.map V.int).length:Int)<=60))) H
  rw[e]
  exact q
 rw[sM h1]
 refine bC ⟨_,rfl,rfl,_,rfl,?_⟩
 by_cases h2:k = "part"
 ·rw[if_pos (.inr h2)]at q
  rw[sN h2]
  refine aT ⟨_,rfl,a,_,rfl,.inr hsq,_,_,rfl,rfl,?_⟩
  have e:decide (((ns.map V.int).length:Int)<=60)=decide (ns.length<=60):=by
   apply decide_eq_decide.mpr
   rw[ln]
   omega
  show Q (.bl (decide (((ns.map V.int).length:Int)<=60))) H
  rw[e]
  exact q
 rw[sM h2]
 rw[if_neg (by rintro (z | z); exact h1 z; exact h2 z)]at q
 refine bC ⟨_,rfl,rfl,_,rfl,?_⟩
 by_cases h3:k = "carried"
 ·rw[if_pos h3]at q
  rw[sN h3]
  refine aT ⟨_,rfl,a,_,rfl,.inr hsq,_,_,rfl,rfl,_,rfl,?_⟩
  by_cases l1:1<=ns.length
  ·rw[if_pos (decide_eq_true (by rw[ln]; omega))]
   rw[decide_eq_true l1,Bool.true_and]at q
   refine⟨_,_,rfl,rfl,_,_,rfl,rfl,_,rfl,?_⟩
   by_cases l2:ns.length<=61
   ·rw[if_pos (decide_eq_true (by rw[ln]; omega))]
    rw[decide_eq_true l2,Bool.true_and]at q
    match ns,l1,at0,q,hsq with
    | x::r,_,at0,q,hsq=>
     exact⟨_,rfl,a,_,_,_,rfl,rfl,hsq,at0 x r rfl,_,_,rfl,rfl,q⟩
   ·rw[if_neg (by rw[decide_eq_true_eq,ln]; omega)]
    rw[decide_eq_false l2,Bool.false_and]at q
    exact q
  ·rw[if_neg (by rw[decide_eq_true_eq,ln]; omega)]
   rw[decide_eq_false l1,Bool.false_and,Bool.false_and]at q
   exact⟨_,rfl,bC q⟩
 rw[sM h3]
 rw[if_neg h3]at q
 refine bC ⟨_,rfl,rfl,_,rfl,?_⟩
 by_cases h4:k = "deal"
 ·rw[if_pos h4]at q
  rw[sN h4]
  refine aT ⟨_,rfl,a,_,rfl,.inr hsq,rfl,_,rfl,?_⟩
  match ns,at0,q,hsq with
  | [],at0,q,hsq=>exact bC q
  | [x],at0,q,hsq=>
   refine aT ⟨_,rfl,a,_,_,_,rfl,rfl,hsq,at0 x [] rfl,_,_,rfl,rfl,_,rfl,?_⟩
   have q:Q (.bl (decide (1<=x) && decide (x<=9))) H:=q
   by_cases l1:1<=x
   ·rw[if_pos (decide_eq_true l1)]
    rw[decide_eq_true l1,Bool.true_and]at q
    exact⟨_,_,rfl,rfl,q⟩
   ·rw[if_neg (by simpa using l1)]
    rw[decide_eq_false l1,Bool.false_and]at q
    exact q
  | x::y::r,at0,q,hsq=>
   have e:decide ((((x::y::r).length:Nat):Int)=1)=false:=decide_eq_false (by simp; omega)
   have e2:decide ((x::y::r).length=1)=false:=decide_eq_false (by simp)
   rw[e2,Bool.false_and,Bool.false_and]at q
   rw[pP (by simp; omega)]
   exact bC q
 rw[sM h4]
 rw[if_neg h4]at q
 refine bC ⟨_,rfl,a,_,rfl,.inr hsq,rfl,?_⟩
 show Q (.bl (decide (V.int ((ns.map V.int).length:Int)=V.int 0))) H
 have e:decide (V.int ((ns.map V.int).length:Int)=V.int 0)=decide (ns.length=0):=by
  apply decide_eq_decide.mpr
  rw[ln]
  constructor
  ·intro z
   have:=V.int.inj z
   omega
  ·intro z
   rw[z]
   rfl
 rw[e]
 exact q
def bN:PyData->Lc
 | .tuple ds=>ds.map fun d=>match d with | .int i=>i | _=>0
 | _=>[]
def bK:PyData->Bool
 | .tuple [.str k,n,b]=>cT.contains k && (bM 0 999999 n && (cV b && fD k (bN b)))
 | _=>false
def KY {α : Type} {l:List α} (h:l.length=3):∃ a b c,l=[a,b,c]:=by
 match l,h with
 | [a,b,c],_=>exact⟨a,b,c,rfl⟩
def xS (h:ds.length≠3):bK (.tuple ds)=false:=by
 match ds,h with
 | [],_=>rfl
 | [a],_=>cases a <;> rfl
 | [a,b],_=>cases a <;> rfl
 | [_,_,_],h=>exact absurd rfl h
 | a::b::c::d::r,_=>cases a <;> rfl
def E6 (k:Str) (ks:Ld):inV (.str k) (ks.map V.str)=ks.contains k:=by
 unfold inV
 rw[List.any_map,List.contains_eq_any_beq]
 congr 1
 funext y
 show (y == k)=(k == y)
 exact Bool.beq_comm
def FB (ks:Ld):(ks.map V.str).all nK=true:=by
 rw[all_map]
 exact all_eq_true.mpr fun _ _=>rfl
def mK:∀ {bs:Lg} {xs:Ln},aR H bs xs->bs.all (bM 0 255)=true->xs=(bN (.tuple bs)).map V.int
 | [],xs,h,_=>by
  simp only[aR]at h
  subst h
  rfl
 | d::bs,xs,h,e=>by
  simp only[aR]at h
  obtain⟨x,r,e1,h1,h2⟩:=h
  rw[all_cons,and_eq_true]at e
  have e2:=mK h2 e.2
  cases d with
  | int i=>
   simp only[Den]at h1
   rw[e1,h1,e2]
   rfl
  | _=>exact absurd e.1 (by simp [bM])
inductive jT (vs:Ln) (H:Hp) (Q:VK) (x_3:XK):Prop
 | mk:∀ v d,vs=[v]->Den H d v->(∀ k n bs,d = .tuple [k,n,.tuple bs]->bs.length<=sizeLine)->(∀ H',aG H H'->Q (.bl (bK d)) H')->jT vs H Q x_3
def El (F:Fun K "is_row" "is_row" Ah f fd) (T:TxtR K mg ab0 aa1) (ab1:‹2›)
  (ac9:‹16› "is_bytes" 2 ["thing"] gX) (ao6:‹16› "fits_kind" 1 ["kind","body"] kZ):‹15› 3 f fd ["thing"] jT:=by
 obtain⟨_,ac8⟩:=T.ad1
 refine F.okY ["thing","kind"] fun cdv A outer s H vs Q E hr nD0 h=>?_
 obtain⟨v,d,rfl,hd,hz,q⟩:=h
 refine⟨_,aA (bA (lO (cK (dG ‹28›)) (iR (aQ Ay ‹30› aI (bD _)))).pt
   ‹67›
   aO)
  (aA (a7 (i:=1) nD0 ⋯ ⋯ ‹26›)
  (aA (bA (lO (cK (dG (bF (iI K) ⋯ T.ac1 eQ (aE (pv 1) ‹56›)))) (iR (aQ (kB K) (pv 1) ‹59› ⋯))).pt
   ‹67›
   aO)
  (aC (aP (nV (a9 ab1 ‹19› aX (aN ‹26› ‹44›)) (nV (a9 ac9 ‹19› aX (aN ‹26› aH)) (uI (a9 ao6 ‹19› aX (aE (pv 1) (aN ‹26› aH)))))))))),?_⟩
 refine⟨_,rfl,_,_,_,_,rfl,hd.ty,qP d,_,rfl,?_⟩
 cases d with
 | none=>exact aT (aT (q H (aG.refl H)))
 | bool x=>exact aT (aT (q H (aG.refl H)))
 | int x=>exact aT (aT (q H (aG.refl H)))
 | str x=>exact aT (aT (q H (aG.refl H)))
 | list x=>exact aT (aT (q H (aG.refl H)))
 | dict x=>exact aT (aT (q H (aG.refl H)))
 | tuple ds=>
  have hd':=hd
  simp only[Den]at hd'
  obtain⟨a,xs,rfl,ha,hds⟩:=hd'
  have hl:=hds.length
  by_cases h3:ds.length=3
  ·obtain⟨d0,d1,d2,rfl⟩:=KY h3
   obtain⟨x0,x1,x2,rfl⟩:=KY (hl.trans h3)
   ·refine bC ⟨_,rfl,a,_,rfl,.inr (SqT.of ha),rfl,_,rfl,?_⟩
    refine bC ?_
    simp only[aR]at hds
    obtain⟨y0,r0,e0,k0,y1,r1,e1,k1,y2,r2,e2,k2,e3⟩:=hds
    subst e3
    cases e2
    cases e1
    cases e0
    have sq:SqT K H a [x0,x1,x2]:=SqT.of ha
    refine⟨_,rfl,a,_,_,_,rfl,rfl,sq,cF (j:=0) rfl,?_⟩
    refine⟨_,rfl,_,_,_,_,rfl,k0.ty,Dl d0,_,rfl,?_⟩
    cases d0 with
    | none=>exact aT (aT (q H (aG.refl H)))
    | bool x=>exact aT (aT (q H (aG.refl H)))
    | int x=>exact aT (aT (q H (aG.refl H)))
    | tuple x=>exact aT (aT (q H (aG.refl H)))
    | list x=>exact aT (aT (q H (aG.refl H)))
    | dict x=>exact aT (aT (q H (aG.refl H)))
    | str k=>
     simp only[Den]at k0
     subst k0
     refine bC ⟨_,rfl,ab0,_,rfl,.inr (T.ax5 H),rfl,FB cT,_,rfl,?_⟩
     rw[if_pos rfl,E6]
     simp only[bK]at q
     cases hk:cT.contains k with
     | false=>
      rw[hk]at q
      exact aT (q H (aG.refl H))
     | true=>
      rw[hk]at q
      refine bC ?_
      refine⟨_,rfl,a,_,_,_,rfl,rfl,sq,cF (j:=1) rfl,x1,d1,0,999999,rfl,k1,_,rfl,?_⟩
      cases hn:bM 0 999999 d1 with
      | false=>
       rw[hn]at q
       exact bC (q H (aG.refl H))
      | true=>
       rw[hn]at q
       refine aT ⟨_,rfl,a,_,_,_,rfl,rfl,sq,cF (j:=2) rfl,x2,d2,rfl,k2,fun bs e=>hz _ _ bs (by rw[e]),fun H' s'=>⟨_,rfl,?_⟩⟩
       cases hb:cV d2 with
       | false=>
        rw[hb]at q
        exact bC (q H' s')
       | true=>
        rw[hb]at q
        cases d2 with
        | tuple bs=>
         simp only[Den]at k2
         obtain⟨a2,ys,rfl,ha2,hbs⟩:=k2
         have ei:=mK hbs hb
         subst ei
         refine aT ⟨_,rfl,_,rfl,a,_,_,_,rfl,rfl,s'.seqT sq,cF (j:=2) rfl,k,a2,_,rfl,s' _ _ ha2,q H' s'⟩
        | _=>exact absurd hb (by simp [cV])
  ·have e:(!decide (V.int (xs.length:Int)=V.int 3))=true:=by
    rw[hl,pP (by omega)]
    rfl
   have q':=q H (aG.refl H)
   rw[xS h3]at q'
   refine bC ⟨_,rfl,a,_,rfl,.inr (SqT.of ha),rfl,_,rfl,?_⟩
   rw[e]
   exact aT q'
def gG (ns:Lc):Int × Int:=(ns.sum % 256,((List.range ns.length).map fun(i:Nat)=>(1+(i:Int)) * ns.getD i 0).sum % 256)
inductive hZ (vs:Ln) (H:Hp) (Q:VK) (x_3:XK):Prop
 | mk:∀ a ns,vs=[.ref a]->H a=some (.tup (ns.map V.int))->ns.length<=1000->(∀ p H',aG H H'->H' p=some (.tup [.int (gG ns).1,.int (gG ns).2])->Q (.ref p) H')->hZ vs H Q x_3
def zM (F:Fun K "checks_of" "checks_of" rJ f fd) (T:TxtR K mg ab0 aa1):‹15› 1 f fd ["behind"] hZ:=by
 refine F.okY ["behind","plain","weighed"] fun cdv A outer s H vs Q E hr nD0 h=>?_
 obtain⟨a,ns,rfl,ha,hl,q⟩:=h
 refine⟨_,aA (a7 (i:=1) nD0 ⋯ ⋯ (bF (m5 K) ⋯ T.ax4 AB ‹36›))
  (aA (a7 (i:=2) nD0 ⋯ ⋯ (bF (m5 K) ⋯ T.ax4 AB (dW (c9 ["place","one"] [] ⋯ (ES K T.af9 (pv 0)) (fun C s2 H2 ex=>(jF K (n:=2) (cM (bG (i:=0) (show List.Nodup (["place","one"]:Ld) by decide +kernel) ⋯ (Or.inl ⋯)) (cM (bG (i:=1) (show List.Nodup (["place","one"]:Ld) by decide +kernel) ⋯ (Or.inl ⋯)) jE)))) ‹42› (fun C s2 H2 ex=>(bB l9 (pv 0) (pv 1)))) aH)))
  (aC (aP (bE (bR (bB dN (pv 1) aI) (bR (bB dN (pv 2) aI) aH)))))),?_⟩
 have sq:SqT K H a (ns.map V.int):=SqT.of ha
 refine⟨_,rfl,a,ns,rfl,.inr sq,?_⟩
 refine⟨_,rfl,a,_,rfl,sq,?_⟩
 refine dE (tD (K:=K) 1 sq) (by rw[length_map]; exact le_trans hl (by decide)) (fun i y _=>y = .int ((1+(i:Int)) * ns.getD i 0)) (fun _ _ _ _ _ h=>h) (fun σ=>σ.length=2) ?z0 ?_ ?_
 case z0=>rfl
 ·intro i x σc H3 hi hσ s3 hx Q' hQ'
  obtain⟨p,v,rfl,hp,hv⟩:=hx
  rw[length_map]at hi
  rw[getElem?_map,getElem?_eq_getElem hi]at hv
  cases hv
  match σc,hσ with
  | [z1,z2],_=>
   refine⟨p,_,rfl,SqT.of hp,rfl,_,_,rfl,_,_,rfl,rfl,?_⟩
   refine⟨_,rfl,_,rfl,_,_,rfl,rfl,.inl ⟨by omega,by omega⟩,?_⟩
   refine hQ' _ _ _ rfl (aG.refl _) ?_
   rw[getD_eq_getElem?_getD,getElem?_eq_getElem hi]
   rfl
 ·intro D ys H' hD s' hD' hlen hR
  have ey:ys=((List.range ns.length).map fun(i:Nat)=>(1+(i:Int)) * ns.getD i 0).map V.int:=by
   apply ext_getElem?
   intro i
   rw[length_map]at hlen
   cases e:ys[i]? with
   | none=>
    have:ys.length<=i:=List.getElem?_eq_none_iff.mp e
    rw[getElem?_eq_none (by rw[length_map,length_map,length_range]; omega)]
   | some y=>
    have hi:i<ns.length:=by
     have:=(List.getElem?_eq_some_iff.mp e).1
     omega
    rw[hR i y e,getElem?_map,getElem?_map,getElem?_range hi]
    rfl
  refine⟨D,_,rfl,.inl (SqL.of (by rw[hD',ey])),?_⟩
  refine⟨_,rfl,_,_,rfl,rfl,(by show (0:Int)<256; decide),_,rfl,_,_,rfl,rfl,(by show (0:Int)<256; decide),(by show 2<=sizeLine; decide),fun p hp=>?_⟩
  exact q p _ (s'.trans (aD hp)) aB
def gJ (k:Str) (n:Int) (ns:Lc):Lc:=[(cT.idxOf k:Int)+1]++[n / 65536,n / 256 % 256,n % 256]++[(ns.length:Int)]++ns
def iA (k:Str) (n:Int) (ns:Lc):Lc:=[(gG (gJ k n ns)).1,(gG (gJ k n ns)).2]++gJ k n ns
def F9:PyData->Lc
 | .tuple [.str k,.int n,b]=>iA k n (bN b)
 | _=>[]
def n5 (h:bK d=true):∃ k n bs,d = .tuple [.str k,.int n,.tuple bs]/\cT.contains k=true/\0<=n/\n<=999999/\bs.all (bM 0 255)=true/\fD k (bN (.tuple bs))=true:=by
 cases d with
 | tuple ds=>
  by_cases h3:ds.length=3
  ·obtain⟨d0,d1,d2,rfl⟩:=KY h3
   cases d0 with
   | str k=>
    simp only[bK,and_eq_true]at h
    obtain⟨h1,h2,h4,h5⟩:=h
    cases d1 with
    | int n=>
     simp only[bM,and_eq_true,decide_eq_true_eq]at h2
     cases d2 with
     | tuple bs=>exact⟨k,n,bs,rfl,h1,h2.1,h2.2,h4,h5⟩
     | _=>simp [cV]at h4
    | _=>simp [bM]at h2
   | _=>cases h
  ·rw[xS h3]at h
   cases h
 | _=>cases h
def E7 (h:cT.contains k=true):cT[cT.idxOf k]? = some k/\∀ i,i<cT.idxOf k->cT[i]? ≠ some k:=by
 have hm:k∈cT:=by simpa using h
 have hl:=List.idxOf_lt_length_of_mem hm
 refine⟨by rw[getElem?_eq_getElem hl,List.getElem_idxOf],fun i hi e=>?_⟩
 have:=List.not_of_lt_findIdx (p:=(· == k)) (xs:=cT) (i:=i) hi
 have hi2:i<cT.length:=lt_trans hi hl
 rw[getElem?_eq_getElem hi2]at e
 have e:=Option.some.inj e
 rw[e]at this
 simp at this
def vB (h:fD k ns=true):ns.length<=61:=by
 unfold fD at h
 split at h
 ·have:=of_decide_eq_true h
  omega
 ·split at h
  ·simp only[and_eq_true,decide_eq_true_eq]at h
   omega
  ·split at h
   ·simp only[and_eq_true,decide_eq_true_eq]at h
    omega
   ·have:=of_decide_eq_true h
    omega
end
abbrev rB:Stmt:=top 31
section
variable {P:Program} {w:World} {K:K6} {mg:K8} {base:Heap} {ab0 aa1:Addr}
inductive fG (aa1:Addr) (vs:Ln) (H:Hp) (Q:VK) (E:XK):Prop
 | mk:∀ v d,vs=[v]->Den H d v->(∀ k n bs,d = .tuple [k,n,.tuple bs]->bs.length<=sizeLine)->(bK d=true->∀ p H',aG H H'->H' p=some (.tup ((F9 d).map V.int))->Q (.ref p) H')->(bK d=false->∀ H',aG H H'->E (.ref aa1) none H')->fG aa1 vs H Q E
def zH (F:Fun K "row_bytes" "row_bytes" rB f fd) (T:TxtR K mg ab0 aa1) (ae6:‹16› "is_row" 3 ["thing"] jT)
  (af0:‹16› "checks_of" 1 ["behind"] hZ):‹15› 4 f fd ["row"] (fG aa1):=by
 refine F.okY ["row","number","body","figures","behind"] fun cdv A outer s H vs Q E hr nD0 h=>?_
 obtain⟨v,d,rfl,hd,hz,q,qe⟩:=h
 refine⟨_,aA (bA (cK (dG (a9 ae6 ‹19› aX ‹36›)))
   ‹89›
   aO)
  (aA (a7 (i:=1) nD0 ⋯ ⋯ ‹26›)
  (aA (a7 (i:=2) nD0 ⋯ ⋯ ‹26›)
  (aA (a7 (i:=3) nD0 ⋯ ⋯ (bE (bR ‹31› (bR ‹27› (bR (bB dN (pv 1) aI) aH)))))
  (aA (a7 (i:=4) nD0 ⋯ ⋯ (bB lD (bB lD (bB lD (bE (bR (bB cO (KJ K PySem.F.slot_tuple_index PySem.F.type_tuple_index (Ep K) ‹59› (aN ‹26› aH)) aI) aH)) (pv 3)) (bE (bY (bF (dC K) ⋯ T.ad2 fV ‹37›) aH))) (pv 2)))
  (aC (aP (bB lD (a9 af0 ‹19› aX ‹64›) (pv 4)))))))),?_⟩
 refine⟨_,rfl,v,d,rfl,hd,hz,fun H1 s1=>⟨_,rfl,?_⟩⟩
 cases hb:bK d with
 | false=>exact aT ⟨(by show 1<=sizeLine; decide),qe hb H1 s1⟩
 | true=>
  refine bC ?_
  obtain⟨k,n,bs,rfl,hk,n0,n9,hbs,hf⟩:=n5 hb
  have hd1:=hd.same s1
  simp only[Den,aR]at hd1
  obtain⟨a,xs,rfl,ha,y0,r0,e0,k0,y1,r1,e1,k1,y2,r2,e2,⟨a2,ys,k2,ha2,h2⟩,e3⟩:=hd1
  subst e3 k0 k1 k2
  subst e2
  subst e1
  subst e0
  have ei:=mK h2 hbs
  subst ei
  have fl:=vB hf
  have sq:SqT K H1 a [.str k,.int n,.ref a2]:=SqT.of ha
  obtain⟨i1,i2⟩:=E7 hk
  refine⟨_,rfl,a,_,_,_,rfl,rfl,sq,cF (j:=1) rfl,?_⟩
  refine⟨_,rfl,a,_,_,_,rfl,rfl,sq,cF (j:=2) rfl,?_⟩
  refine⟨_,rfl,_,_,rfl,rfl,⟨by decide,by decide⟩,_,rfl,_,_,rfl,rfl,⟨by decide,by decide⟩,_,_,rfl,rfl,(by show (0:Int)<256; decide),_,rfl,_,_,rfl,rfl,(by show (0:Int)<256; decide),(by show 3<=sizeLine; decide),fun p3 hp3=>?_⟩
  have S2:=aD (o:=.tup [.int (n / 65536),.int (n / 256 % 256),.int (n % 256)]) hp3
  refine⟨⟨ab0,rfl,.inr T.l_KINDS⟩,_,rfl,a,_,_,_,rfl,rfl,S2.seqT sq,cF (j:=0) rfl,ab0,cT,k,cT.idxOf k,rfl,rfl,T.ax5 _,i1,i2,?_⟩
  refine⟨_,_,rfl,rfl,(by show 1<=sizeLine; decide),fun p4 hp4=>?_⟩
  have S3:=aD (o:=.tup [V.int ((cT.idxOf k:Int)+1)]) hp4
  refine⟨_,rfl,p4,p3,_,_,rfl,rfl,aB,S3 _ _ aB,(by show 1+3<=sizeLine; decide),fun p5 H5 S5 g5=>?_⟩
  have g2:H5 a2=some (.tup ((bN (.tuple bs)).map V.int)):=S5 _ _ (S3 _ _ (S2 _ _ ha2))
  refine⟨_,rfl,a2,_,rfl,.inr (SqT.of g2),(by show 1<=sizeLine; decide),fun p6 hp6=>?_⟩
  have S6:=aD (o:=.tup [V.int (((bN (.tuple bs)).map V.int).length:Int)]) hp6
  refine⟨p5,p6,_,_,rfl,rfl,S6 _ _ g5,aB,(by show 4+1<=sizeLine; decide),fun p7 H7 S7 g7=>?_⟩
  have zl:(100:Nat)<=sizeLine:=by decide
  refine⟨_,rfl,p7,a2,_,_,rfl,rfl,g7,S7 _ _ (S6 _ _ g2),?_,fun p8 H8 S8 g8=>?_⟩
  ·show 5+((bN (.tuple bs)).map V.int).length<=sizeLine
   rw[length_map]
   omega
  have eb:([V.int ((cT.idxOf k:Int)+1)]++[V.int (n / 65536),V.int (n / 256 % 256),V.int (n % 256)]++[V.int (((bN (.tuple bs)).map V.int).length:Int)]++(bN (.tuple bs)).map V.int)=(gJ k n (bN (.tuple bs))).map V.int:=by
   unfold gJ
   rw[length_map]
   simp
  have g8':H8 p8=some (.tup ((gJ k n (bN (.tuple bs))).map V.int)):=by rw[<- eb]; exact g8
  have lb:(gJ k n (bN (.tuple bs))).length=5+(bN (.tuple bs)).length:=by
   unfold gJ
   simp
   omega
  refine⟨_,rfl,p8,_,rfl,g8',by omega,fun p9 H9 S9 g9=>?_⟩
  refine⟨_,rfl,p9,p8,_,_,rfl,rfl,g9,S9 _ _ g8',?_,fun p10 H10 S10 g10=>?_⟩
  ·show 2+((gJ k n (bN (.tuple bs))).map V.int).length<=sizeLine
   rw[length_map]
   omega
  refine q hb p10 H10 (s1.trans (S2.trans (S3.trans (S5.trans (S6.trans (S7.trans (S8.trans (S9.trans S10)))))))) ?_
  rw[g10]
  simp only[F9,iA,map_append]
  rfl
end
def fQ (ns:Lc):bN (.tuple (ns.map .int))=ns:=by
 show (ns.map PyData.int).map _=ns
 rw[map_map]
 exact List.map_id _
def pQ {ns:Lc} (h:∀ b∈ns,0<=b/\b<=255):cV (.tuple (ns.map .int))=true:=by
 show (ns.map PyData.int).all (bM 0 255)=true
 rw[all_map,all_eq_true]
 intro b hb
 have:=h b hb
 show (decide (0<=b) && decide (b<=255))=true
 rw[decide_eq_true this.1,decide_eq_true this.2]
 rfl
def cJ (e:D.nx=n) (h:n σ H):C2 D σ H:=by
 subst e
 exact h
def aJ (h:n<=100:=by exact le_of_ble_eq_true rfl):n<=sizeLine:=le_trans h (by decide)
def rL (ns:Lc):Option PyData:=
 if ns.take 2=[(gG (ns.drop 2)).1,(gG (ns.drop 2)).2] then
  if 1<=ns.getD 2 0/\ns.getD 2 0<=8 then
   let d:PyData:=.tuple [.str (cT.getD (ns.getD 2 0 - 1).toNat "put"),.int (ns.getD 3 0 * 65536+ns.getD 4 0 * 256+ns.getD 5 0),.tuple ((ns.drop 7).map .int)]
   if bK d=true then some d else none
  else none
 else none
def vW (ns:Lc):Option Nat:=if ns.length<7 then none else if 7+(ns.getD 6 0).toNat<=ns.length then some (7+(ns.getD 6 0).toNat) else none
def jC:Nat->Lc->Option (Lg × Nat)
 | 0,_=>none
 | f+1,ns=>match vW ns with
  | none=>some ([],ns.length)
  | some e=>match rL (ns.take e) with
   | none=>none
   | some d=>(jC f (ns.drop e)).map fun r=>(d::r.1,r.2)
def Iu (h:vW ns=some e):7<=e/\e<=ns.length:=by
 unfold vW at h
 split at h
 ·cases h
 ·split at h
  ·have:=Option.some.inj h
   omega
  ·cases h
def xJ (h:rL ns=some d):hJ d=true:=by
 have tl:∀ l:Lc,cX (l.map PyData.int)=true:=by
  intro l
  induction l with
  | nil=>rfl
  | cons x l ih=>exact ih
 unfold rL at h
 split at h
 ·split at h
  ·dsimp only at h
   split at h
   ·have e:=Option.some.inj h
    rw[<- e]
    simp only[hJ,cX,Bool.true_and,Bool.and_true]
    exact tl _
   ·cases h
  ·cases h
 ·cases h
def eF (k:Str) (n:Int) (ns:Lc):(iA k n ns).length=7+ns.length:=by
 unfold iA gJ
 simp
 omega
abbrev wU:Stmt:=top 32
abbrev tW:Stmt:=top 33
abbrev wT:Stmt:=top 34
structure TxtB (K:K6) (mg:K8) (ab0 aa1 aa3:Addr):Prop extends TxtR K mg ab0 aa1 where
 at1:mg "list" = none
 bf9:∃ t,mg "CHECKS_SIZE" = some (.int 2 t)
 ay0:∃ t,mg "HEAD_SIZE" = some (.int 7 t)
 af3:dJ K aa3=true
 ba0:mg "Broken" = some (.ref aa3)
def Ks (st:Nat):Option Nat->V
 | none=>.non
 | some e=>.int ((st+e:Nat):Int)
def dO (ns:Lc):Prop:=∀ b∈ns,0<=b/\b<=255
inductive nN (vs:Ln) (H:Hp) (Q:VK) (x_3:XK):Prop
 | mk:∀ (a:Addr) (ns:Lc) (st:Nat),vs=[.ref a,.int (st:Int)]->H a=some (.tup (ns.map V.int))->dO ns->st<=ns.length->Q (Ks st (vW (ns.drop st))) H->nN vs H Q x_3
inductive lV (aa3:Addr) (vs:Ln) (H:Hp) (Q:VK) (E:XK):Prop
 | mk:∀ (a:Addr) (ns:Lc),vs=[.ref a]->H a=some (.tup (ns.map V.int))->7<=ns.length->ns.length<=300->(∀ d,rL ns=some d->∀ p H',aG H H'->Den H' d (.ref p)->Q (.ref p) H')->(rL ns=none->∀ H',aG H H'->E (.ref aa3) none H')->lV aa3 vs H Q E
def Ix {xs:Ln} {lo hi:Nat} (h1:lo<=hi) (h2:hi<=xs.length):i5 xs (some (lo:Int)) (some (hi:Int))=(xs.drop lo).take (hi - lo):=by
 unfold i5
 rw[HT.jB,HT.jB,min_eq_left (show lo<=xs.length by omega),min_eq_left h2]
def BW {xs:Ln} {lo:Nat} (h:lo<=xs.length):i5 xs (some (lo:Int)) none=xs.drop lo:=by
 unfold i5
 rw[HT.jB,HT.uB,min_eq_left h,List.take_of_length_le (by rw[length_drop]; omega)]
def Ku {xs:Ln} {hi:Nat} (h:hi<=xs.length):i5 xs none (some (hi:Int))=xs.take hi:=by
 unfold i5
 rw[HT.jB,HT.uB,min_eq_left h,List.drop_zero,Nat.sub_zero]
def Gx (h0:0<=i) (h:i<8):atI (cT.map V.str) i=some (.str (cT.getD i.toNat "put")):=by
 have k1:i.toNat<cT.length:=by show _<8; omega
 refine aW h0 ?_
 rw[getElem?_map,getD_eq_getElem?_getD,getElem?_eq_getElem k1]
 rfl
def HD {ns:Lc} {i:Nat} (h:i<ns.length):ns[i]? = some (ns.getD i 0):=by
 rw[getD_eq_getElem?_getD,getElem?_eq_getElem h]
 rfl
def HY {ns:Lc} {i:Nat} (h:i<ns.length):(ns.map V.int)[i]? = some (.int (ns.getD i 0)):=by
 rw[getElem?_map,HD h]
 rfl
def BH {ns:Lc} {i:Nat} (h:i<ns.length):ns.getD i 0∈ns:=by
 rw[getD_eq_getElem?_getD,getElem?_eq_getElem h]
 exact List.getElem_mem h
def qT (ns:Lc) (st i:Nat):(ns.drop st).getD i 0=ns.getD (st+i) 0:=by
 rw[getD_eq_getElem?_getD,getD_eq_getElem?_getD,List.getElem?_drop]
section
variable {P:Program} {w:World} {K:K6} {mg:K8} {base:Heap} {ab0 aa1 aa3:Addr}
def CN {f:Addr} {fd:Lh} (F:Fun K "row_end" "row_end" wU f fd) (T:TxtB K mg ab0 aa1 aa3):‹15› 1 f fd ["some","start"] nN:=by
 obtain⟨_,al8⟩:=T.ay0
 refine F.okY ["some","start","end"] fun cdv A outer s H vs Q E hr nD0 h=>?_
 obtain⟨a,ns,st,rfl,ha,hb,hst,q⟩:=h
 refine⟨_,aA (bA (aQ o8 ‹52› ‹30› (bD _))
   ‹66›
   aO)
  (aA (a7 (i:=2) nD0 ⋯ ⋯ (bB cO ‹52› (cD (cR K) (pv 0) (bB jP ‹52› aI) (fun _ _=>rfl))))
  (aC (aP (Aw (aQ iW (pv 2) ‹30› (bD _)) (pv 2) jN)))),?_⟩
 have sq:SqT K H a (ns.map V.int):=SqT.of ha
 refine⟨_,rfl,_,_,rfl,rfl,_,rfl,a,_,rfl,.inr sq,_,_,rfl,rfl,_,rfl,?_⟩
 rw[length_map]
 show if decide ((ns.length:Int)<(st:Int)+7)=true then _ else _
 unfold vW at q
 rw[length_drop,qT]at q
 by_cases h1:ns.length - st<7
 ·rw[if_pos h1]at q
  rw[if_pos (decide_eq_true (by omega))]
  exact q
 ·rw[if_neg h1]at q
  rw[if_neg (by rw[decide_eq_true_eq]; omega)]
  have h6:st+6<ns.length:=by omega
  obtain⟨b0,b9⟩:=hb _ (BH h6)
  have e6:((st:Int)+7 - 1)=((st+6:Nat):Int):=by omega
  refine⟨_,rfl,_,_,rfl,rfl,_,rfl,_,rfl,_,_,rfl,rfl,_,_,rfl,rfl,a,_,_,.int (ns.getD (st+6) 0),rfl,rfl,sq,?_,_,_,rfl,rfl,?_⟩
  ·show atI _ ((st:Int)+7 - 1)=_
   rw[e6]
   exact cF (HY h6)
  refine⟨_,rfl,_,rfl,a,_,rfl,.inr sq,_,_,rfl,rfl,_,rfl,?_⟩
  rw[length_map]
  show if decide ((st:Int)+7+ns.getD (st+6) 0<=(ns.length:Int))=true then _ else _
  by_cases h2:7+(ns.getD (st+6) 0).toNat<=ns.length - st
  ·rw[if_pos h2]at q
   rw[if_pos (decide_eq_true (by omega))]
   refine⟨_,rfl,?_⟩
   have ee:((st+(7+(ns.getD (st+6) 0).toNat):Nat):Int)=(st:Int)+7+ns.getD (st+6) 0:=by omega
   have q:Q (.int ((st+(7+(ns.getD (st+6) 0).toNat):Nat):Int)) H:=q
   rw[ee]at q
   exact q
  ·rw[if_neg h2]at q
   rw[if_neg (by rw[decide_eq_true_eq]; omega)]
   exact q
def A2 (F:Fun K "row_from" "row_from" tW f fd) (T:TxtB K mg ab0 aa1 aa3) (ae6:‹16› "is_row" 3 ["thing"] jT)
  (af0:‹16› "checks_of" 1 ["behind"] hZ):‹15› 4 f fd ["whole"] (lV aa3):=by
 obtain⟨_,al8⟩:=T.ay0
 obtain⟨_,ap3⟩:=T.bf9
 refine F.okY ["whole","behind","number","row"] fun cdv A outer s H vs Q E hr nD0 h=>?_
 obtain⟨a,ns,rfl,ha,h7,h3,q,qe⟩:=h
 refine⟨_,aA (a7 (i:=1) nD0 ⋯ ⋯ (gZ (oP K) (pv 0) (iC (cI (v:=.int 2) ⋯ ap3 ⟨_,rfl⟩)) lB))
  (aA (bA (aQ (nX hr.units) (gZ (oP K) (pv 0) lB (iC (cI (v:=.int 2) ⋯ ap3 ⟨_,rfl⟩))) (a9 af0 ‹19› aX ‹29›) (bD _))
   ‹74›
   aO)
  (aA (bA (cK (uE iW iW aI ‹21› (bF (dC K) ⋯ T.ad2 fV (aE ‹59› aH))))
   ‹74›
   aO)
  (aA (a7 (i:=2) nD0 ⋯ ⋯ (bB cO (bB cO (bB l9 ‹21› aI) (bB l9 ‹21› aI)) ‹21›))
  (aA (a7 (i:=3) nD0 ⋯ ⋯ (bE (aN (cD (cR K) ‹59› (bB jP ‹21› aI) (fun _ _=>rfl)) (aE (pv 2) (aN (gZ (oP K) (pv 0) (iC (cI (v:=.int 7) ⋯ al8 ⟨_,rfl⟩)) lB) aH)))))
  (aA (bA (cK (dG (a9 ae6 ‹19› aX ‹50›)))
   ‹74›
   aO)
  (aC (aP (pv 3)))))))),?_⟩
 have sq:SqT K H a (ns.map V.int):=SqT.of ha
 have lm:(ns.map V.int).length=ns.length:=length_map _
 have w2:HT.sIx (ns.map V.int).length 0 (some 2)=2:=by
  rw[lm]
  exact(HT.jB ns.length 0 2).trans (min_eq_left (by omega))
 have w2':HT.sIx (ns.map V.int).length (ns.map V.int).length (some 2)=2:=by
  rw[lm]
  exact(HT.jB ns.length ns.length 2).trans (min_eq_left (by omega))
 have w7:HT.sIx (ns.map V.int).length 0 (some 7)=7:=by
  rw[lm]
  exact(HT.jB ns.length 0 7).trans (min_eq_left (by omega))
 have c2:i5 (ns.map V.int) (some 2) none=(ns.drop 2).map V.int:=(BW (lo:=2) (by omega)).trans (List.map_drop ..).symm
 have c2':i5 (ns.map V.int) none (some 2)=(ns.take 2).map V.int:=(Ku (hi:=2) (by omega)).trans (List.map_take ..).symm
 have c7:i5 (ns.map V.int) (some 7) none=(ns.drop 7).map V.int:=(BW (lo:=7) (by omega)).trans (List.map_drop ..).symm
 refine⟨_,rfl,2,rfl,a,_,rfl,sq,fun z=>absurd z.1 (by rw[w2]; decide),fun _ p1 hp1=>?_⟩
 rw[c2]
 have S1:=aD (o:=.tup ((ns.drop 2).map V.int)) hp1
 generalize eH1:upd H p1 (.tup ((ns.drop 2).map V.int))=H1 at S1 ⊢
 have g1:H1 p1=some (.tup ((ns.drop 2).map V.int)):=by rw[<- eH1]; exact aB
 refine⟨_,rfl,2,rfl,a,_,rfl,S1.seqT sq,fun z=>absurd z.2 (by rw[w2',lm]; omega),fun _ p2 hp2=>?_⟩
 rw[c2']
 have S2:=aD (o:=.tup ((ns.take 2).map V.int)) hp2
 generalize eH2:upd H1 p2 (.tup ((ns.take 2).map V.int))=H2 at S2 ⊢
 have g2:H2 p2=some (.tup ((ns.take 2).map V.int)):=by rw[<- eH2]; exact aB
 refine⟨_,rfl,p1,ns.drop 2,rfl,S2 _ _ g1,by rw[length_drop]; omega,fun p3 H3 S3 g3=>?_⟩
 have den:∀ (p:Addr) (l:Lc),H3 p=some (.tup (l.map V.int))->Den H3 (.tuple (l.map .int)) (.ref p):=fun p l g=>by
  simp only[Den]
  exact⟨p,_,rfl,g,bQ.mpr rfl⟩
 refine⟨_,_,den p2 _ (S3 _ _ g2),den p3 [(gG (ns.drop 2)).1,(gG (ns.drop 2)).2] g3,rA _,rA _,_,rfl,?_⟩
 rw[HI]
 have SS:aG H H3:=S1.trans (S2.trans S3)
 unfold rL at q qe
 by_cases hc:ns.take 2=[(gG (ns.drop 2)).1,(gG (ns.drop 2)).2]
 case neg=>
  rw[if_neg hc]at qe
  rw[decide_eq_false hc]
  exact aT ⟨(by show 1<=sizeLine; decide),qe rfl H3 SS⟩
 rw[if_pos hc]at q qe
 rw[decide_eq_true hc]
 refine bC ?_
 have sq1:SqT K H3 p1 ((ns.drop 2).map V.int):=SqT.of (S3 _ _ (S2 _ _ g1))
 have bat:∀ i,i<5->atI ((ns.drop 2).map V.int) ((i:Nat):Int)=some (.int (ns.getD (2+i) 0)):=fun i hi=>by
  rw[<- qT]
  exact cF (HY (by rw[length_drop]; omega))
 refine⟨_,rfl,p1,_,_,_,rfl,rfl,sq1,bat 0 (by decide),_,_,rfl,rfl,_,rfl,?_⟩
 show if decide (1<=ns.getD 2 0)=true then _ else _
 by_cases h1:1<=ns.getD 2 0
 case neg=>
  rw[if_neg (fun z=>h1 z.1)]at qe
  rw[if_neg (by rw[decide_eq_true_eq]; exact h1)]
  exact⟨_,rfl,aT ⟨(by show 1<=sizeLine; decide),qe rfl H3 SS⟩⟩
 rw[if_pos (decide_eq_true h1)]
 refine⟨ab0,_,rfl,.inr (T.ax5 H3),_,_,rfl,rfl,_,rfl,?_⟩
 show if (!decide (ns.getD 2 0<=8))=true then _ else _
 by_cases h8:ns.getD 2 0<=8
 case neg=>
  rw[if_neg (fun z=>h8 z.2)]at qe
  rw[decide_eq_false h8]
  exact aT ⟨(by show 1<=sizeLine; decide),qe rfl H3 SS⟩
 rw[if_pos ⟨h1,h8⟩]at q qe
 rw[decide_eq_true h8]
 refine bC ?_
 refine⟨_,rfl,p1,_,_,_,rfl,rfl,sq1,bat 1 (by decide),_,_,rfl,rfl,.inr ⟨by decide,by decide⟩,_,rfl,p1,_,_,_,rfl,rfl,sq1,bat 2 (by decide),_,_,rfl,rfl,.inr ⟨by decide,by decide⟩,_,_,rfl,rfl,_,rfl,p1,_,_,_,rfl,rfl,sq1,bat 3 (by decide),_,_,rfl,rfl,?_⟩
 have hk:=Gx (i:=ns.getD 2 0 - 1) (by omega) (by omega)
 refine⟨_,rfl,p1,_,_,_,rfl,rfl,sq1,bat 0 (by decide),_,_,rfl,rfl,ab0,_,_,_,rfl,rfl,T.ax5 H3,hk,_,rfl,_,rfl,7,rfl,a,_,rfl,SS.seqT sq,fun z=>absurd z.1 (by rw[w7]; decide),fun _ p4 hp4=>?_⟩
 rw[c7]
 have S4:=aD (o:=.tup ((ns.drop 7).map V.int)) hp4
 generalize eH4:upd H3 p4 (.tup ((ns.drop 7).map V.int))=H4 at S4 ⊢
 have g4:H4 p4=some (.tup ((ns.drop 7).map V.int)):=by rw[<- eH4]; exact aB
 refine⟨(by show 3<=sizeLine; decide),fun p5 hp5=>?_⟩
 have S5:=aD (o:=.tup [.str (cT.getD (ns.getD 2 0 - 1).toNat "put"),.int (ns.getD 3 0 * 65536+ns.getD 4 0 * 256+ns.getD 5 0),.ref p4]) hp5
 dsimp only at q qe
 generalize hd:(PyData.tuple [.str (cT.getD (ns.getD 2 0 - 1).toNat "put"),.int (ns.getD 3 0 * 65536+ns.getD 4 0 * 256+ns.getD 5 0),.tuple ((ns.drop 7).map .int)])=d at q qe
 have dn:Den (upd H4 p5 (.tup [.str (cT.getD (ns.getD 2 0 - 1).toNat "put"),.int (ns.getD 3 0 * 65536+ns.getD 4 0 * 256+ns.getD 5 0),.ref p4])) d (.ref p5):=by
  rw[<- hd]
  simp only[Den,aR]
  exact⟨p5,_,rfl,aB,_,_,rfl,rfl,_,_,rfl,rfl,_,_,rfl,⟨p4,_,rfl,S5 _ _ g4,bQ.mpr rfl⟩,rfl⟩
 refine⟨_,rfl,.ref p5,d,rfl,dn,?_,fun H6 S6=>⟨_,rfl,?_⟩⟩
 ·rintro k n bs e
  rw[<- hd]at e
  injection e with e
  injection e with _ e
  injection e with _ e
  injection e with e _
  injection e with e
  rw[<- e,length_map,length_drop]
  exact le_trans (show _<=300 by omega) (by decide)
 cases hb:bK d with
 | false=>
  rw[if_neg (by rw[hb]; decide)]at qe
  exact aT ⟨(by show 1<=sizeLine; decide),qe rfl H6 (SS.trans (S4.trans (S5.trans S6)))⟩
 | true=>
  rw[if_pos hb]at q
  refine bC ⟨_,rfl,?_⟩
  exact q d rfl p5 H6 (SS.trans (S4.trans (S5.trans S6))) (dn.same S6)
end
inductive kP (aa1:Addr) (aa3:Addr) (vs:Ln) (H:Hp) (Q:VK) (E:XK):Prop
 | mk:∀ (v:V) (d:PyData),vs=[v]->Den H d v->(∀ bs,d = .tuple bs->bs.length<=sizeLine)->(cV d=false->∀ H',aG H H'->E (.ref aa1) none H')->(cV d=true->(∀ ds (k:Nat),jC ((bN d).length+1) (bN d)=some (ds,k)->∀ p H',aG H H'->Den H' (.tuple [.list ds,.int (k:Int)]) (.ref p)->(∀ l x,H' p=some (.tup [.ref l,x])->H l=none)->Q (.ref p) H')/\(jC ((bN d).length+1) (bN d)=none->∀ H',aG H H'->E (.ref aa3) none H'))->kP aa1 aa3 vs H Q E
def CB (f:Nat) (ns:Lc):jC (f+1) ns=match vW ns with
  | none=>some ([],ns.length)
  | some e=>match rL (ns.take e) with
   | none=>none
   | some d=>(jC f (ns.drop e)).map fun r=>(d::r.1,r.2):=rfl
def wD:∀ {a b:Lg},cX a=true->cX b=true->cX (a++b)=true
 | [],b,_,h=>h
 | d::a,b,h1,h2=>by
  simp only[cX,and_eq_true]at h1
  show (hJ d && cX (a++b))=true
  rw[h1.1,wD h1.2 h2]
  rfl
def iZ (h:Den H d v):aR H [d] [v]:=by
 simp only[aR]
 exact⟨v,[],rfl,h,rfl⟩
def Fu (h0:H l=none) (s:aG H H2):aG H (upd H2 l (.lst ys)):=fun c u e=>by
 rw[aF (bP e h0)]
 exact s c u e
def HQ (hd:Den H d v) (hb:cV d=true):∃ a,v = .ref a/\H a=some (.tup ((bN d).map V.int)):=by
 cases d with
 | tuple bs=>
  simp only[Den]at hd
  obtain⟨a,ys,rfl,ha,hbs⟩:=hd
  have ei:=mK hbs hb
  subst ei
  exact⟨a,rfl,ha⟩
 | _=>exact absurd hb (by simp [cV])
def oA (hb:cV d=true):dO (bN d):=by
 cases d with
 | tuple bs=>
  have hb:bs.all (bM 0 255)=true:=hb
  rw[all_eq_true]at hb
  intro b hm
  have hm:b∈bs.map fun d=>match d with | .int i=>i | _=>0:=hm
  rw[mem_map]at hm
  obtain⟨d,h1,h2⟩:=hm
  have h3:=hb d h1
  cases d with
  | int i=>
   have h2:i=b:=h2
   subst h2
   simpa [bM] using h3
  | _=>exact absurd h3 (by simp [bM])
 | _=>exact absurd hb (by simp [cV])
def G3:(bN (.tuple bs)).length=bs.length:=length_map _
def DC (ha:H a=some (.tup xs)) (h:∀ b H4,aG H H4->H4 b=some (.tup (i5 xs lo hi))->Q (.ref b) H4):DS K (.ref a) lo hi H Q:=by
 refine⟨a,xs,rfl,SqT.of ha,fun z=>?_,fun _ p hp=>h p _ (aD hp) aB⟩
 refine h a H (aG.refl H) ?_
 rw[ha]
 unfold i5
 rw[z.1,z.2,List.drop_zero,Nat.sub_zero,take_length]
section
variable {P:Program} {w:World} {K:K6} {mg:K8} {base:Heap} {ab0 aa1 aa3:Addr}
def CM (F:Fun K "rows_in" "rows_in" wT f fd) (T:TxtB K mg ab0 aa1 aa3) (ac9:‹16› "is_bytes" 2 ["thing"] gX)
  (an2:‹16› "row_end" 1 ["some","start"] nN) (aq8:‹16› "row_from" 4 ["whole"] (lV aa3)):‹15› 5 f fd ["some"] (kP aa1 aa3):=by
 refine F.okY ["some","rows","start","end"] fun cdv A outer s H vs Q E hr nD0 h=>?_
 obtain⟨v,d,rfl,hd,hz,qb,q⟩:=h
 refine⟨_,aA (bA (cK (dG (a9 ac9 ‹19› aX ‹36›)))
   ‹89›
   aO)
  (aA (a7 (i:=1) nD0 ⋯ ⋯ (cB aH))
  (aA (a7 (i:=2) nD0 ⋯ ⋯ aI)
  (aA (a7 (i:=3) nD0 ⋯ ⋯ (a9 an2 ‹19› aX (aE (pv 0) ‹37›)))
  (aA (o6 (lQ eO) (aQ zE (pv 3) jN (bD _))
   (aA (aU (iU K PySem.F.plainAttrs_list PySem.F.slot_list_append PySem.F.type_list_append iG (pv 1) (bY (a9 aq8 ‹19› bO (aN (gZ (oP K) (pv 0) (iC (pv 2)) (iC (pv 3))) aH)) aH)))
   (aA (a7 (i:=2) nD0 ⋯ ⋯ (pv 3))
   (aC (a7 (i:=3) nD0 ⋯ ⋯ (a9 an2 ‹19› aX (aE (pv 0) ‹37›)))))))
  (aC (aP (bE (aE (pv 1) (bR (bB jP ‹30› (pv 2)) aH))))))))),?_⟩
 refine⟨_,rfl,v,d,rfl,hd,hz,fun H1 S1=>⟨_,rfl,?_⟩⟩
 cases hb:cV d with
 | false=>exact aT ⟨(by show 1<=sizeLine; decide),qb hb H1 S1⟩
 | true=>
 refine bC ?_
 obtain⟨q,qe⟩:=q hb
 obtain⟨a,rfl,ha⟩:=HQ hd hb
 have bo:=oA hb
 have hns:(bN d).length<=sizeLine:=by
  cases d with
  | tuple bs=>rw[G3]; exact hz bs rfl
  | _=>exact absurd hb (by simp [cV])
 generalize bN d=ns at *
 refine⟨(by show 0<=sizeLine; decide),fun rl hrl=>?_⟩
 have S2:=aD (o:=.lst []) hrl
 generalize eH2:upd H1 rl (.lst [])=H2 at S2 ⊢
 have g2:H2 rl=some (.lst []):=by rw[<- eH2]; exact aB
 have hrl0:H rl=none:=S1.free hrl
 have SS:aG H H2:=S1.trans S2
 refine⟨_,rfl,_,rfl,a,ns,0,rfl,SS _ _ ha,bo,zero_le _,?_⟩
 refine⟨fun m σ H3=>∃ (st f:Nat) (ds:Lg) (xs:Ln),m=ns.length - st/\st<=ns.length/\ns.length<st+f/\σ = [some (.ref a),some (.ref rl),some (.int (st:Int)),some (Ks st (vW (ns.drop st)))]/\aG H H3/\
  H3 rl=some (.lst xs)/\aR H3 ds xs/\cX ds=true/\ds.length<=st/\jC (ns.length+1) ns=(jC f (ns.drop st)).map fun r=>(ds++r.1,r.2),⟨_,0,ns.length+1,[],[],rfl,zero_le _,by omega,rfl,SS,g2,by simp only[aR],rfl,le_refl _,?_⟩,?_⟩
 ·simp
 rintro m σ H3 ⟨st,f,ds,xs,rfl,hst,hf,rfl,S3,g3,dn,td,hl,er⟩
 obtain⟨f,rfl⟩:∃ g,f=g+1:=⟨f - 1,by omega⟩
 rw[CB f]at er
 have ldr:(ns.drop st).length=ns.length - st:=length_drop
 refine⟨_,rfl,rfl,_,rfl,?_⟩
 cases he:vW (ns.drop st) with
 | none=>
  rw[he]at er
  refine bC ?_
  have er:jC (ns.length+1) ns=some (ds++[],(ns.drop st).length):=er
  rw[append_nil,ldr]at er
  refine⟨_,rfl,_,rfl,a,_,rfl,.inr (SqT.of (S3 _ _ ha)),_,rfl,_,_,rfl,rfl,(by show 2<=sizeLine; decide),fun p hp=>?_⟩
  have S4:=aD (o:=.tup [.ref rl,.int (((ns.map V.int).length:Int) - (st:Int))]) hp
  refine q ds (ns.length - st) er p _ (S3.trans S4) ?_ (fun l x e=>by rw[aB]at e; cases e; exact hrl0)
  have e1:(((ns.map V.int).length:Int) - (st:Int))=((ns.length - st:Nat):Int):=by rw[length_map]; omega
  simp only[Den,aR]
  exact⟨p,_,rfl,aB,_,_,rfl,⟨rl,xs,rfl,S4 _ _ g3,dn.same S4⟩,_,_,rfl,by rw[e1],rfl⟩
 | some e=>
  rw[he]at er
  obtain⟨e7,ele⟩:=Iu he
  rw[ldr]at ele
  have hsz:ns.length<=sizeLine:=hns
  refine aT ⟨fun σ' H'=>∃ m',m'<ns.length - st/\∃ (st f:Nat) (ds:Lg) (xs:Ln),m'=ns.length - st/\st<=ns.length/\ns.length<st+f/\σ'=[some (.ref a),some (.ref rl),some (.int (st:Int)),some (Ks st (vW (ns.drop st)))]/\aG H H'/\
   H' rl=some (.lst xs)/\aR H' ds xs/\cX ds=true/\ds.length<=st/\jC (ns.length+1) ns=(jC f (ns.drop st)).map fun r=>(ds++r.1,r.2),fun _ _ h=>h,?_⟩
  refine⟨_,rfl,.inl ⟨rfl,_,SqL.of g3⟩,?_⟩
  refine⟨_,rfl,_,rfl,_,rfl,_,rfl,_,rfl,DC (S3 _ _ ha) fun b H4 S4 g4=>?_⟩
  have ec:i5 (ns.map V.int) (some (st:Int)) (some ((st+e:Nat):Int))=((ns.drop st).take e).map V.int:=by
   rw[Ix (by omega) (by rw[length_map]; omega),<- List.map_drop,<- List.map_take,Nat.add_sub_cancel_left]
  rw[ec]at g4
  have er:jC (ns.length+1) ns=Option.map (fun(r:Lg × Nat)=>(ds++r.1,r.2)) (match rL ((ns.drop st).take e) with
   | none=>none
   | some d=>Option.map (fun r=>(d::r.1,r.2)) (jC f ((ns.drop st).drop e))):=er
  have le:((ns.drop st).take e).length=e:=by rw[length_take,ldr]; omega
  have h262:e<=262:=by
   have h6:st+6<ns.length:=by omega
   have b6:=bo _ (BH h6)
   unfold vW at he
   rw[ldr,qT,if_neg (by omega)]at he
   split at he
   ·have:=Option.some.inj he
    omega
   ·cases he
  refine⟨b,_,rfl,g4,by rw[le]; omega,by rw[le]; omega,fun d' hd' p H5 S5 dp=>?_,fun hn H5 S5=>?_⟩
  ·rw[hd']at er
   have S35:aG H3 H5:=S4.trans S5
   refine⟨rl,xs,.ref p,rfl,rfl,S35 _ _ g3,?_,?_⟩
   ·rw[dn.length]
    omega
   have N5:=wP (zs:=xs++[.ref p]) (S35 _ _ g3)
   have S6:aG H (upd H5 rl (.lst (xs++[.ref p]))):=Fu hrl0 (S3.trans S35)
   have D6:aR (upd H5 rl (.lst (xs++[.ref p]))) (ds++[d']) (xs++[.ref p]):=((dn.same S35).n N5 td).app (iZ (dp.n N5 (xJ hd')))
   have g6:upd H5 rl (.lst (xs++[.ref p])) rl=some (.lst (xs++[.ref p])):=aB
   generalize upd H5 rl (.lst (xs++[.ref p]))=H6 at S6 D6 g6 ⊢
   refine⟨_,rfl,_,rfl,_,rfl,a,ns,st+e,rfl,S6 _ _ ha,bo,by omega,?_⟩
   refine⟨_,?_,st+e,f,ds++[d'],xs++[.ref p],rfl,by omega,by omega,rfl,S6,g6,D6,wD td ?_,?_,?_⟩
   ·omega
   ·show (hJ d' && true)=true
    rw[xJ hd']
    rfl
   ·rw[length_append]
    show _+1<=_
    omega
   ·rw[er,List.drop_drop]
    cases jC f (ns.drop (st+e)) with
    | none=>rfl
    | some r=>simp
  ·rw[hn]at er
   exact qe er H5 (S3.trans (S4.trans S5))
end
mutual
def i4:PyData->Bool
 | .none | .bool _ | .int _=>true
 | .str x=>PyData.strOk x
 | .tuple ds=>lN ds
 | .list ds=>lN ds
 | .dict _=>false
def lN:Lg->Bool
 | []=>true
 | d::ds=>i4 d && lN ds
end
mutual
def BL:∀ {d:PyData},i4 d=true->PyData.eqv d d=true
 | .none,_=>rfl
 | .bool b,_=>by cases b <;> rfl
 | .int i,_=>by simp [PyData.eqv]
 | .str x,_=>by simp [PyData.eqv]
 | .tuple ds,h=>by
  simp only[i4]at h
  simp only[PyData.eqv]
  exact qU h
 | .list ds,h=>by
  simp only[i4]at h
  simp only[PyData.eqv]
  exact qU h
 | .dict _,h=>by simp [i4]at h
def qU:∀ {ds:Lg},lN ds=true->PyData.eqvAll ds ds=true
 | [],_=>rfl
 | d::ds,h=>by
  simp only[lN,and_eq_true]at h
  simp only[PyData.eqvAll]
  rw[BL h.1,qU h.2]
  rfl
end
mutual
def Dg:∀ {d:PyData},i4 d=true->PyData.canLay0 d=true
 | .none,_=>rfl
 | .bool b,_=>rfl
 | .int i,_=>rfl
 | .str x,h=>by
  simp only[i4]at h
  simp only[PyData.canLay0]
  exact h
 | .tuple ds,h=>by
  simp only[i4]at h
  simp only[PyData.canLay0]
  exact uU h
 | .list ds,h=>by
  simp only[i4]at h
  simp only[PyData.canLay0]
  exact uU h
 | .dict _,h=>by simp [i4]at h
def uU:∀ {ds:Lg},lN ds=true->PyData.canLayAll0 ds=true
 | [],_=>rfl
 | d::ds,h=>by
  simp only[lN,and_eq_true]at h
  simp only[PyData.canLayAll0]
  rw[Dg h.1,uU h.2]
  rfl
end
def qX:∀ {ds:Lg},(∀ d∈ds,PyData.depth d<=n)->PyData.depthAll ds<=n
 | [],_=>zero_le _
 | d::ds,h=>by
  simp only[PyData.depthAll]
  exact Nat.max_le.mpr ⟨h d (by simp),qX fun x hx=>h x (by simp [hx])⟩
def tT:∀ {ds:Lg},(∀ d∈ds,i4 d=true)->lN ds=true
 | [],_=>rfl
 | d::ds,h=>by
  simp only[lN]
  rw[h d (by simp),tT fun x hx=>h x (by simp [hx])]
  rfl
def Ft (ns:Lc):lN (ns.map .int)=true:=tT fun d hd=>by
 rw[mem_map]at hd
 obtain⟨i,_,rfl⟩:=hd
 rfl
def wK (h:i4 d=true) (hd:PyData.depth d<=64):SeqAt.shaped d=true:=by
 unfold SeqAt.shaped
 rw[Dg h,decide_eq_true hd]
 rfl
def HR:bootBuiltins "max" = some (.builtin "max"):=by decide +kernel
def iJ:bootBuiltins "sorted" = some (.builtin "sorted"):=by decide +kernel
def hu1 (h:a+64<c):a+1<c:=by omega
abbrev Ent:=Lc × Int × Int
abbrev Lo:=List (Int × Ent)
def fN (k:Str) (n:Int) (ns:Lc):PyData:=.tuple [.str k,.int n,.tuple (ns.map .int)]
structure Bk where
 es:Lo
 up:Int
 parts:List (Int × Lc)
def bJ (es:Lo) (n:Int):Option Ent:=(es.find? fun p=>decide (p.1=n)).map (·.2)
def eK (es:Lo) (n:Int) (e:Ent):Lo:=if (es.any fun p=>decide (p.1=n))=true then es.map (fun p=>if p.1=n then (p.1,e) else p) else es++[(n,e)]
def gE (es:Lo) (n:Int):Lo:=es.filter fun p=>decide (p.1≠n)
def l7 (B:Bk) (n:Int) (body:Lc) (seg:Int):Option Bk:=if n<B.up then none else some ⟨eK B.es n (body,0,seg),n+1,B.parts⟩
def rT (seg:Int):Bk->List (Int × Lc)->Option Bk
 | B,[]=>some B
 | B,p::ps=>match l7 B p.1 p.2 seg with
  | none=>none
  | some B'=>rT seg B' ps
def x9 (B:Bk) (n m:Int) (seg:Int):Option Bk:=if B.parts.map (·.1)=(List.range m.toNat).map (fun(k:Nat)=>n+(k:Int)) then rT seg ⟨B.es,B.up,[]⟩ B.parts else none
def Gq (i j:Int):Int:=if j > i then j else i
def dD (B:Bk) (k:Str) (n:Int) (body:Lc) (seg:Int):Option Bk:=
 if k = "part" then some ⟨B.es,B.up,B.parts++[(n,body)]⟩
 else if k = "deal" then x9 B n (body.getD 0 0) seg
 else if B.parts≠[] then none
 else if k = "put" then l7 B n body seg
 else if k = "from" then some ⟨B.es,Gq B.up n,B.parts⟩
 else if k = "carried" then some ⟨eK B.es n (body.drop 1,body.getD 0 0,seg),Gq B.up (n+1),B.parts⟩
 else match bJ B.es n with
  | none=>some B
  | some e=>if k = "out" then some ⟨eK B.es n (e.1,e.2.1+1,e.2.2),B.up,B.parts⟩ else if k = "new" then some ⟨eK B.es n (e.1,0,e.2.2),B.up,B.parts⟩ else some ⟨gE B.es n,B.up,B.parts⟩
def jX (es:Lo) (n:Int) (e:Ent):(eK es n e).length<=es.length+1:=by
 unfold eK
 split
 ·rw[length_map]
  omega
 ·rw[length_append]
  exact le_refl _
def fS (H H':Hp):Prop:=∀ b xs,H b=some (.tup xs)->H' b=some (.tup xs)
def aG.tup (s:aG H H'):fS H H':=fun b xs e=>s b _ e
def fS.trans (a:fS H H1) (b:fS H1 H2):fS H H2:=fun c xs e=>b c xs (a c xs e)
mutual
def BU (e:fS H H'):∀ {d:PyData} {v:V},hJ d=true->Den H d v->Den H' d v
 | .none,v,t,h=>by simp only[Den]at h ⊢; exact h
 | .bool b,v,t,h=>by simp only[Den]at h ⊢; exact h
 | .int i,v,t,h=>by simp only[Den]at h ⊢; exact h
 | .str x,v,t,h=>by simp only[Den]at h ⊢; exact h
 | .tuple ds,v,t,h=>by
  simp only[Den]at h ⊢
  simp only[hJ]at t
  obtain⟨a,xs,e1,h1,h2⟩:=h
  exact⟨a,xs,e1,e _ _ h1,fO e t h2⟩
 | .list ds,v,t,h=>by simp [hJ]at t
 | .dict _,v,t,h=>by simp only[Den]at h
def fO (e:fS H H'):∀ {ds:Lg} {xs:Ln},cX ds=true->aR H ds xs->aR H' ds xs
 | [],xs,t,h=>by simp only[aR]at h ⊢; exact h
 | d::ds,xs,t,h=>by
  simp only[aR]at h ⊢
  simp only[cX,and_eq_true]at t
  obtain⟨x,r,e1,h1,h2⟩:=h
  exact⟨x,r,e1,BU e t.1 h1,fO e t.2 h2⟩
end
inductive kG (H:Hp) (v:V) (e:Ent):Prop
 | mk:∀ t b,v = .ref t->H t=some (.tup [.ref b,.int e.2.1,.int e.2.2])->H b=some (.tup (e.1.map V.int))->kG H v e
def kG.t (s:fS H H') (h:kG H v e):kG H' v e:=by
 obtain⟨t,b,e1,h1,h2⟩:=h
 exact⟨t,b,e1,s _ _ h1,s _ _ h2⟩
def EsR (H:Hp):Lo->Ll->Prop
 | [],[]=>True
 | p::es,q::kvs=>q.1=Sum.inl p.1/\kG H q.2 p.2/\EsR H es kvs
 | _,_=>False
def EsR.t (s:fS H H'):∀ {es:Lo} {kvs:Ll},EsR H es kvs->EsR H' es kvs
 | [],[],_=>trivial
 | p::es,q::kvs,h=>⟨h.1,h.2.1.t s,EsR.t s h.2.2⟩
 | [],_::_,h=>h.elim
 | _::_,[],h=>h.elim
def EsR.len:∀ {es:Lo} {kvs:Ll},EsR H es kvs->kvs.length=es.length
 | [],[],_=>rfl
 | p::es,q::kvs,h=>by rw[length_cons,length_cons,EsR.len h.2.2]
 | [],_::_,h=>h.elim
 | _::_,[],h=>h.elim
def EsR.keys:∀ {es:Lo} {kvs:Ll},EsR H es kvs->kvs.map (·.1)=(es.map (·.1)).map Sum.inl
 | [],[],_=>rfl
 | p::es,q::kvs,h=>by rw[map_cons,map_cons,map_cons,h.1,EsR.keys h.2.2]
 | [],_::_,h=>h.elim
 | _::_,[],h=>h.elim
def zP:((Sum.inl a:Key)=Sum.inl b) ↔ a=b:=⟨Sum.inl.inj,fun h=>by rw[h]⟩
def EsR.val:∀ {es:Lo} {kvs:Ll},EsR H es kvs->(match bJ es n with | none=>dM kvs (Sum.inl n)=none | some e=>∃ v,dM kvs (Sum.inl n)=some v/\kG H v e)
 | [],[],_=>rfl
 | p::es,q::kvs,h=>by
  obtain⟨h1,h2,h3⟩:=h
  have ih:=EsR.val (n:=n) h3
  by_cases e:p.1=n
  ·have:bJ (p::es) n=some p.2:=by simp [bJ,e]
   rw[this]
   exact⟨q.2,iK (by rw[h1,e]),h2⟩
  ·have e1:bJ (p::es) n=bJ es n:=by simp [bJ,e]
   have e2:dM (q::kvs) (Sum.inl n)=dM kvs (Sum.inl n):=iM (by rw[h1,zP]; exact e)
   rw[e1,e2]
   exact ih
 | [],_::_,h=>h.elim
 | _::_,[],h=>h.elim
def EsR.any:∀ {es:Lo} {kvs:Ll},EsR H es kvs->(kvs.any fun kv=>decide (kv.1=Sum.inl n))=(es.any fun p=>decide (p.1=n))
 | [],[],_=>rfl
 | p::es,q::kvs,h=>by
  obtain⟨h1,h2,h3⟩:=h
  rw[any_cons,any_cons,EsR.any h3,h1]
  congr 1
  exact decide_eq_decide.mpr zP
 | [],_::_,h=>h.elim
 | _::_,[],h=>h.elim
def EsR.mapP (hv:kG H v e):∀ {es:Lo} {kvs:Ll},EsR H es kvs->EsR H (es.map fun p=>if p.1=n then (p.1,e) else p) (kvs.map fun kv=>if kv.1=Sum.inl n then (kv.1,v) else kv)
 | [],[],_=>trivial
 | p::es,q::kvs,h=>by
  obtain⟨h1,h2,h3⟩:=h
  rw[map_cons,map_cons]
  by_cases z:p.1=n
  ·rw[if_pos z,if_pos (show q.1=Sum.inl n by rw[h1,z])]
   exact⟨h1,hv,EsR.mapP hv h3⟩
  ·rw[if_neg z,if_neg (show ¬ q.1=Sum.inl n by rw[h1,zP]; exact z)]
   exact⟨h1,h2,EsR.mapP hv h3⟩
 | [],_::_,h=>h.elim
 | _::_,[],h=>h.elim
def EsR.snoc (hv:kG H v e):∀ {es:Lo} {kvs:Ll},EsR H es kvs->EsR H (es++[(n,e)]) (kvs++[(Sum.inl n,v)])
 | [],[],_=>⟨rfl,hv,trivial⟩
 | p::es,q::kvs,h=>⟨h.1,h.2.1,EsR.snoc hv h.2.2⟩
 | [],_::_,h=>h.elim
 | _::_,[],h=>h.elim
def EsR.put (h:EsR H es kvs) (hv:kG H v e):EsR H (eK es n e) (eI kvs (Sum.inl n) v):=by
 unfold eK eI
 rw[h.any]
 by_cases z:(es.any fun p=>decide (p.1=n))=true
 ·rw[if_pos z,if_pos z]
  exact h.mapP hv
 ·rw[if_neg z,if_neg z]
  exact h.snoc hv
def EsR.drop:∀ {es:Lo} {kvs:Ll},EsR H es kvs->EsR H (gE es n) (eZ kvs (Sum.inl n))
 | [],[],_=>trivial
 | p::es,q::kvs,h=>by
  obtain⟨h1,h2,h3⟩:=h
  have ih:=EsR.drop (n:=n) h3
  by_cases z:p.1=n
  ·have e1:gE (p::es) n=gE es n:=by simp [gE,z]
   rw[e1,x5 (by rw[h1,z])]
   exact ih
  ·have e1:gE (p::es) n=p::gE es n:=by simp [gE,z]
   rw[e1,x6 (by rw[h1,zP]; exact z)]
   exact⟨h1,h2,ih⟩
 | [],_::_,h=>h.elim
 | _::_,[],h=>h.elim
def fU (ps:List (Int × Lc)):Lg:=ps.map fun p=>fN "part" p.1 p.2
def k8 (k:Str) (n:Int) (ns:Lc):hJ (fN k n ns)=true:=by
 have tl:∀ l:Lc,cX (l.map PyData.int)=true:=by
  intro l
  induction l with
  | nil=>rfl
  | cons x l ih=>exact ih
 unfold fN
 simp only[hJ,cX,Bool.true_and,Bool.and_true]
 exact tl ns
def iF:∀ ps:List (Int × Lc),cX (fU ps)=true
 | []=>rfl
 | p::ps=>by
  show (hJ (fN "part" p.1 p.2) && cX (fU ps))=true
  rw[k8,iF ps]
  rfl
def bkF (de dp:Addr) (up:Int):Lm:=[("entries",.ref de),("upcoming",.int up),("parts",.ref dp)]
structure BookAt (C:Addr) (H:Hp) (bk de dp:Addr) (B:Bk):Prop where
 self:∃ dx,H bk=some (.ins C dx (bkF de dp B.up))
 ent:∃ kvs,H de=some (.dK kvs)/\EsR H B.es kvs
 par:∃ ps,H dp=some (.lst ps)/\aR H (fU B.parts) ps
def Frm (bk de dp:Addr) (H H':Hp):Prop:=∀ b o,H b=some o->b≠bk->b≠de->b≠dp->H' b=some o
def Frm.refl (bk de dp:Addr) (H:Hp):Frm bk de dp H H:=fun _ _ e _ _ _=>e
def Frm.trans (a:Frm bk de dp H H1) (b:Frm bk de dp' H1 H2) (hd:dp'=dp\/H dp'=none):Frm bk de dp H H2:=fun c o e h1 h2 h3=>by
 refine b c o (a c o e h1 h2 h3) h1 h2 ?_
 rintro rfl
 rcases hd with rfl | hd
 ·exact h3 rfl
 ·rw[hd]at e
  cases e
def aG.frm (s:aG H H'):Frm bk de dp H H':=fun b o e _ _ _=>s b o e
def BookAt.tup (h:BookAt C H bk de dp B) (f:Frm bk de dp H H'):fS H H':=fun b xs e=>by
 obtain⟨dx,h1⟩:=h.self
 obtain⟨kvs,h2,_⟩:=h.ent
 obtain⟨ps,h3,_⟩:=h.par
 exact f b _ e (by rintro rfl; rw[h1]at e; cases e) (by rintro rfl; rw[h2]at e; cases e) (by rintro rfl; rw[h3]at e; cases e)
def BookAt.same (h:BookAt C H bk de dp B) (s:aG H H'):BookAt C H' bk de dp B:=by
 obtain⟨dx,h1⟩:=h.self
 obtain⟨kvs,h2,h3⟩:=h.ent
 obtain⟨ps,h4,h5⟩:=h.par
 exact⟨⟨dx,s _ _ h1⟩,⟨kvs,s _ _ h2,h3.t (aG.tup s)⟩,⟨ps,s _ _ h4,h5.same s⟩⟩
def BookAt.ne (h:BookAt C H bk de dp B):bk≠de/\bk≠dp/\de≠dp:=by
 obtain⟨dx,h1⟩:=h.self
 obtain⟨kvs,h2,h3⟩:=h.ent
 obtain⟨ps,h4,h5⟩:=h.par
 refine⟨?_,?_,?_⟩
 ·rintro rfl
  rw[h1]at h2
  cases h2
 ·rintro rfl
  rw[h1]at h4
  cases h4
 ·rintro rfl
  rw[h2]at h4
  cases h4
def kN (h:H a=some o) (hn:∀ xs,o ≠ .tup xs):fS H (upd H a o'):=fun b xs e=>by
 rw[aF (fun z=>by rw[z,h]at e; exact hn xs (Option.some.inj e))]
 exact e
def vJ (h:BookAt C H bk de dp B) (hr:EsR H es' kvs'):BookAt C (upd H de (.dK kvs')) bk de dp ⟨es',B.up,B.parts⟩:=by
 obtain⟨n1,n2,n3⟩:=h.ne
 obtain⟨dx,h1⟩:=h.self
 obtain⟨kvs,h2,h3⟩:=h.ent
 obtain⟨ps,h4,h5⟩:=h.par
 have t:=kN (o':=.dK kvs') h2 (fun xs z=>by cases z)
 exact⟨⟨dx,by rw[aF n1]; exact h1⟩,⟨kvs',aB,hr.t t⟩,⟨ps,by rw[aF (Ne.symm n3)]; exact h4,fO t (iF _) h5⟩⟩
def sP (h:BookAt C H bk de dp B) (u:Int) (h4:H dp'=some (.lst ps)) (h5:aR H (fU parts) ps):BookAt C (upd H bk (.ins C dx (bkF de dp' u))) bk de dp' ⟨B.es,u,parts⟩:=by
 obtain⟨n1,n2,n3⟩:=h.ne
 obtain⟨dx0,h1⟩:=h.self
 obtain⟨kvs,h2,h3⟩:=h.ent
 have t:=kN (o':=.ins C dx (bkF de dp' u)) h1 (fun xs z=>by cases z)
 have n4:dp'≠bk:=by
  rintro rfl
  rw[h1]at h4
  cases h4
 exact⟨⟨dx,aB⟩,⟨kvs,by rw[aF (Ne.symm n1)]; exact h2,h3.t t⟩,⟨ps,by rw[aF n4]; exact h4,fO t (iF _) h5⟩⟩
def Kz (h:BookAt C H bk de dp B) (h5:aR H (fU parts) ps):BookAt C (upd H dp (.lst ps)) bk de dp ⟨B.es,B.up,parts⟩:=by
 obtain⟨n1,n2,n3⟩:=h.ne
 obtain⟨dx0,h1⟩:=h.self
 obtain⟨kvs,h2,h3⟩:=h.ent
 obtain⟨ps0,h4,_⟩:=h.par
 have t:=kN (o':=.lst ps) h4 (fun xs z=>by cases z)
 exact⟨⟨dx0,by rw[aF n2]; exact h1⟩,⟨kvs,by rw[aF n3]; exact h2,h3.t t⟩,⟨ps,aB,fO t (iF _) h5⟩⟩
def zS:Frm bk de dp H (upd H bk o):=fun b u e h1 _ _=>by rw[aF h1]; exact e
def u7:Frm bk de dp H (upd H de o):=fun b u e _ h1 _=>by rw[aF h1]; exact e
def Kq:Frm bk de dp H (upd H dp o):=fun b u e _ _ h1=>by rw[aF h1]; exact e
def CG:gY "parts" (.ref dp') (bkF de dp u)=bkF de dp' u:=rfl
structure TxtK (K:K6) (mg:K8) (ab0 aa1 aa3 aa4:Addr):Prop extends TxtR K mg ab0 aa1 where
 at1:mg "list" = none
 bk0:mg "max" = none
 af4:mg "sorted" = none
 af3:dJ K aa3=true
 ba0:mg "Broken" = some (.ref aa3)
 cl:Cls K aa4
 ac3:dH K aa4 "entries"
 ab7:dH K aa4 "upcoming"
 ap4:dH K aa4 "parts"
abbrev F3:Stmt:=bH (top 36) 0
abbrev DM:Stmt:=bH (top 36) 1
abbrev rH:Stmt:=bH (top 36) 2
abbrev oS:Stmt:=bH (top 36) 3
abbrev Ai:Stmt:=bH (top 36) 4
abbrev Af:Stmt:=bH (top 36) 5
abbrev xC:Stmt:=bH (top 36) 6
inductive hX (C:Addr) (aa3:Addr) (vs:Ln) (H:Hp) (Q:VK) (E:XK):Prop
 | mk:∀ (bk de dp b:Addr) (B:Bk) (n seg:Int) (body:Lc),vs=[.ref bk,.int n,.ref b,.int seg]->BookAt C H bk de dp B->H b=some (.tup (body.map V.int))->B.es.length<1000->(∀ B',l7 B n body seg=some B'->∀ H',Frm bk de dp H H'->BookAt C H' bk de dp B'->Q .non H')->(l7 B n body seg=none->∀ H',Frm bk de dp H H'->E (.ref aa3) none H')->hX C aa3 vs H Q E
inductive qF (C:Addr) (vs:Ln) (H:Hp) (Q:VK) (x_3:XK):Prop
 | mk:∀ (bk de dp:Addr) (B:Bk) (k:Str) (n:Int) (e:Ent),vs=[.ref bk,.str k,.int n]->BookAt C H bk de dp B->bJ B.es n=some e->B.es.length<1000->(∀ H',Frm bk de dp H H'->BookAt C H' bk de dp (if k = "out" then ⟨eK B.es n (e.1,e.2.1+1,e.2.2),B.up,B.parts⟩ else if k = "new" then ⟨eK B.es n (e.1,0,e.2.2),B.up,B.parts⟩ else ⟨gE B.es n,B.up,B.parts⟩)->Q .non H')->qF C vs H Q x_3
def nZ (n:Int) (e:Ent):PyData:=.tuple [.int n,.tuple (e.1.map .int),.int e.2.1]
inductive mR (C:Addr) (vs:Ln) (H:Hp) (Q:VK) (x_3:XK):Prop
 | mk:∀ (bk de dp:Addr) (B:Bk) (n:Int) (e:Ent),vs=[.ref bk,.int n]->BookAt C H bk de dp B->bJ B.es n=some e->(∀ p H',aG H H'->Den H' (nZ n e) (.ref p)->Q (.ref p) H')->mR C vs H Q x_3
def hG (h:k=x):decide (V.str k=V.str x)=true:=decide_eq_true (by rw[h])
def gC (h:¬ k=x):decide (V.str k=V.str x)=false:=decide_eq_false (fun z=>h (V.str.inj z))
section
variable {P:Program} {w:World} {K:K6} {mg:K8} {base:Heap} {ab0 aa1 aa3 aa4:Addr}
def zL (F:Fun K "enter_put" "Book.enter_put" rH f fd) (T:‹8›):‹15› 1 f fd ["self","number","body","segment"] (hX aa4 aa3):=by
 refine F.okY ["self","number","body","segment"] fun cdv A outer s H vs Q E hr nD0 h=>?_
 obtain⟨bk,de,dp,b,B,n,seg,body,rfl,hB,hb,hl,q,qe⟩:=h
 refine⟨_,aA (bA (aQ uM (pv 1) ‹23› (bD _))
   ‹74›
   aO)
  (aA (fT (hu1 hr.units) ‹23› (pv 1) (bE (aE (pv 2) (aM aI ‹50›))) ⋯)
  (aC (dS (pv 0) (bB cO (pv 1) aI) ⋯))),?_⟩
 obtain⟨dx,h1⟩:=hB.self
 refine⟨_,rfl,_,rfl,bk,_,dx,_,_,rfl,h1,T.cl,T.ab7,rfl,_,_,rfl,rfl,_,rfl,?_⟩
 show if decide (n<B.up)=true then _ else _
 unfold l7 at q qe
 by_cases hn:n<B.up
 ·rw[if_pos (decide_eq_true hn)]
  rw[if_pos hn]at qe
  exact⟨(by show 1<=sizeLine; decide),qe rfl H (Frm.refl _ _ _ _)⟩
 rw[if_neg (by rw[decide_eq_true_eq]; exact hn)]
 rw[if_neg hn]at q
 refine cJ rfl ?_
 refine⟨_,rfl,_,rfl,(by show 3<=sizeLine; decide),fun t ht=>?_⟩
 have S1:=aD (o:=.tup [.ref b,.int 0,.int seg]) ht
 generalize eH1:upd H t (.tup [.ref b,.int 0,.int seg])=H1 at S1 ⊢
 have g1:H1 t=some (.tup [.ref b,.int 0,.int seg]):=by rw[<- eH1]; exact aB
 have hB1:=hB.same S1
 obtain⟨kvs,h2,h3⟩:=hB1.ent
 have he:kG H1 (.ref t) (body,0,seg):=⟨t,b,rfl,g1,S1 _ _ hb⟩
 have hkl:kvs.length<sizeLine:=by rw[h3.len]; exact lt_trans hl (by decide)
 refine⟨_,rfl,bk,_,dx,_,_,rfl,S1 _ _ h1,T.cl,T.ac3,rfl,_,rfl,de,_,rfl,kM.k (k:=Sum.inl n) h2 hkl,?_⟩
 have hB2:=vJ hB1 (h3.put (n:=n) he)
 have F2:Frm bk de dp H1 (upd H1 de (.dK (eI kvs (Sum.inl n) (.ref t)))):=u7
 generalize upd H1 de (.dK (eI kvs (Sum.inl n) (.ref t)))=H2 at hB2 F2 ⊢
 obtain⟨dx2,h12⟩:=hB2.self
 obtain⟨ps2,h42,h52⟩:=hB2.par
 refine⟨_,rfl,_,_,rfl,rfl,_,rfl,bk,_,dx2,_,rfl,h12,T.cl,T.ab7,(by show 3<1000; decide),?_⟩
 exact q _ rfl _ (((aG.frm S1).trans F2 (.inl rfl)).trans zS (.inl rfl)) (sP hB2 (n+1) h42 h52)
def Em (F:Fun K "change_entry" "Book.change_entry" Ai f fd) (T:‹8›):‹15› 1 f fd ["self","kind","number"] (qF aa4):=by
 refine F.okY ["self","kind","number","entry"] fun cdv A outer s H vs Q E hr nD0 h=>?_
 obtain⟨bk,de,dp,B,k,n,e,rfl,hB,he,hl,q⟩:=h
 refine⟨_,aA (a7 (i:=3) nD0 ⋯ ⋯ (eC (hu1 hr.units) ‹23› (pv 2) (fun _ _=>rfl)))
  (aC (bA (aQ fM (pv 1) bL (bD _))
   (aC (fT (hu1 hr.units) ‹23› (pv 2) (bE (aN ‹38› (bR (bB cO ‹38› aI) (aN ‹38› aH)))) ⋯))
   (aC (bA (aQ fM (pv 1) bL (bD _))
    (aC (fT (hu1 hr.units) ‹23› (pv 2) (bE (aN ‹38› (aM aI (aN ‹38› aH)))) ⋯))
    ‹77›)))),?_⟩
 obtain⟨dx,h1⟩:=hB.self
 obtain⟨kvs,h2,h3⟩:=hB.ent
 have hv:=h3.val (n:=n)
 rw[he]at hv
 obtain⟨v,hv1,t,b,rfl,gt,gb⟩:=hv
 have sq:SqT K H t [.ref b,.int e.2.1,.int e.2.2]:=SqT.of gt
 have dg:cS H de (.int n) (some (.ref t)):=by
  have:=cS.k (k:=Sum.inl n) h2
  rw[hv1]at this
  exact this
 have hkl:kvs.length<sizeLine:=by rw[h3.len]; exact lt_trans hl (by decide)
 refine⟨_,rfl,bk,_,dx,_,_,rfl,h1,T.cl,T.ac3,rfl,_,rfl,de,_,rfl,dg,?_⟩
 refine⟨_,rfl,rfl,_,rfl,?_⟩
 by_cases k1:k = "out"
 ·rw[if_pos k1]at q
  rw[hG k1]
  refine aT ?_
  refine⟨_,rfl,t,_,_,_,rfl,rfl,sq,cF (j:=0) rfl,_,rfl,t,_,_,_,rfl,rfl,sq,cF (j:=1) rfl,_,_,rfl,rfl,_,rfl,t,_,_,_,rfl,rfl,sq,cF (j:=2) rfl,(by show 3<=sizeLine; decide),fun u hu=>?_⟩
  have S1:=aD (o:=.tup [.ref b,.int (e.2.1+1),.int e.2.2]) hu
  generalize eH1:upd H u (.tup [.ref b,.int (e.2.1+1),.int e.2.2])=H1 at S1 ⊢
  have g1:H1 u=some (.tup [.ref b,.int (e.2.1+1),.int e.2.2]):=by rw[<- eH1]; exact aB
  have hE:kG H1 (.ref u) (e.1,e.2.1+1,e.2.2):=⟨u,b,rfl,g1,S1 _ _ gb⟩
  refine⟨_,rfl,bk,_,dx,_,_,rfl,S1 _ _ h1,T.cl,T.ac3,rfl,_,rfl,de,_,rfl,kM.k (k:=Sum.inl n) (S1 _ _ h2) hkl,?_⟩
  exact q _ ((aG.frm S1).trans u7 (.inl rfl)) (vJ (hB.same S1) ((h3.t (aG.tup S1)).put hE))
 rw[if_neg k1]at q
 rw[gC k1]
 refine bC ⟨_,rfl,rfl,_,rfl,?_⟩
 by_cases k2:k = "new"
 ·rw[if_pos k2]at q
  rw[hG k2]
  refine aT ?_
  refine⟨_,rfl,t,_,_,_,rfl,rfl,sq,cF (j:=0) rfl,_,rfl,t,_,_,_,rfl,rfl,sq,cF (j:=2) rfl,(by show 3<=sizeLine; decide),fun u hu=>?_⟩
  have S1:=aD (o:=.tup [.ref b,.int 0,.int e.2.2]) hu
  generalize eH1:upd H u (.tup [.ref b,.int 0,.int e.2.2])=H1 at S1 ⊢
  have g1:H1 u=some (.tup [.ref b,.int 0,.int e.2.2]):=by rw[<- eH1]; exact aB
  have hE:kG H1 (.ref u) (e.1,0,e.2.2):=⟨u,b,rfl,g1,S1 _ _ gb⟩
  refine⟨_,rfl,bk,_,dx,_,_,rfl,S1 _ _ h1,T.cl,T.ac3,rfl,_,rfl,de,_,rfl,kM.k (k:=Sum.inl n) (S1 _ _ h2) hkl,?_⟩
  exact q _ ((aG.frm S1).trans u7 (.inl rfl)) (vJ (hB.same S1) ((h3.t (aG.tup S1)).put hE))
 rw[if_neg k2]at q
 rw[gC k2]
 refine bC ?_
 refine⟨_,rfl,bk,_,dx,_,_,rfl,h1,T.cl,T.ac3,rfl,.inr (.inr (.inl ⟨rfl,.inl ⟨kvs,h2⟩⟩)),_,rfl,de,kvs,Sum.inl n,_,rfl,rfl,h2,hv1,?_⟩
 exact q _ u7 (vJ hB h3.drop)
def Ej (F:Fun K "letter" "Book.letter" Af f fd) (T:‹8›):‹15› 1 f fd ["self","number"] (mR aa4):=by
 refine F.okY ["self","number","entry"] fun cdv A outer s H vs Q E hr nD0 h=>?_
 obtain⟨bk,de,dp,B,n,e,rfl,hB,he,q⟩:=h
 refine⟨_,aA (a7 (i:=2) nD0 ⋯ ⋯ ‹86›)
  (aC (aP (bE (aE (pv 1) (aN (cD (cR K) (pv 2) aI (fun _ _=>rfl)) (aN (cD (cR K) (pv 2) aI (fun _ _=>rfl)) aH)))))),?_⟩
 obtain⟨dx,h1⟩:=hB.self
 obtain⟨kvs,h2,h3⟩:=hB.ent
 have hv:=h3.val (n:=n)
 rw[he]at hv
 obtain⟨v,hv1,t,b,rfl,gt,gb⟩:=hv
 have sq:SqT K H t [.ref b,.int e.2.1,.int e.2.2]:=SqT.of gt
 have dg:cS H de (.int n) (some (.ref t)):=by
  have:=cS.k (k:=Sum.inl n) h2
  rw[hv1]at this
  exact this
 refine⟨_,rfl,bk,_,dx,_,_,rfl,h1,T.cl,T.ac3,rfl,_,rfl,de,_,rfl,dg,?_⟩
 refine⟨_,rfl,_,rfl,t,_,_,_,rfl,rfl,sq,cF (j:=0) rfl,_,rfl,t,_,_,_,rfl,rfl,sq,cF (j:=1) rfl,(by show 3<=sizeLine; decide),fun p hp=>?_⟩
 have S1:=aD (o:=.tup [.int n,.ref b,.int e.2.1]) hp
 refine q p _ S1 ?_
 unfold nZ
 simp only[Den,aR]
 exact⟨p,_,rfl,aB,_,_,rfl,rfl,_,_,rfl,⟨b,_,rfl,S1 _ _ gb,bQ.mpr rfl⟩,_,_,rfl,rfl,rfl⟩
end
def lF (es:Lo) (n:Int):PyData:=nZ n ((bJ es n).getD ([],0,0))
inductive kW (C:Addr) (vs:Ln) (H:Hp) (Q:VK) (x_3:XK):Prop
 | mk:∀ (bk de dp:Addr) (B:Bk),vs=[.ref bk]->BookAt C H bk de dp B->(B.es.length<800/\(B.es.map (·.1)).Pairwise (· <= ·))->(∀ ms,List.Perm ms (B.es.map (·.1))->ms.Pairwise (· <= ·)->∀ p H',aG H H'->H p=none->Den H' (.list (ms.map (lF B.es))) (.ref p)->Q (.ref p) H')->kW C vs H Q x_3
inductive jI (C:Addr) (aa3:Addr) (vs:Ln) (H:Hp) (Q:VK) (E:XK):Prop
 | mk:∀ (bk de dp:Addr) (B:Bk) (n m seg:Int),vs=[.ref bk,.int n,.int m,.int seg]->BookAt C H bk de dp B->0<=n->n<=999999->0<=m->m<=9->B.es.length+B.parts.length<900->(∀ B',x9 B n m seg=some B'->∀ dq H',Frm bk de dp H H'->H dq=none->BookAt C H' bk de dq B'->Q .non H')->(x9 B n m seg=none->∀ H',Frm bk de dp H H'->E (.ref aa3) none H')->jI C aa3 vs H Q E
def kD (h:n∈es.map (·.1)):∃ e,bJ es n=some e:=by
 induction es with
 | nil=>simp at h
 | cons p es ih=>
  by_cases e:p.1=n
  ·exact⟨p.2,by simp [bJ,e]⟩
  ·have:n∈es.map (·.1):=by
    rw[map_cons,mem_cons]at h
    rcases h with h | h
    ·exact absurd h.symm e
    ·exact h
   obtain⟨x,hx⟩:=ih this
   exact⟨x,by simpa [bJ,e] using hx⟩
def sK (n:Int) (e:Ent):hJ (nZ n e)=true:=by
 have tl:∀ l:Lc,cX (l.map PyData.int)=true:=by
  intro l
  induction l with
  | nil=>rfl
  | cons x l ih=>exact ih
 unfold nZ
 simp only[hJ,cX,Bool.true_and,Bool.and_true]
 exact tl _
def lI:∀ {H:Hp} {ds:Lg} {ys:Ln},ys.length=ds.length->(∀ (i:Nat) (y:V),ys[i]? = some y->∃ d,ds[i]? = some d/\Den H d y)->aR H ds ys
 | H,[],[],_,_=>by simp only[aR]
 | H,d::ds,y::ys,hl,h=>by
  simp only[aR]
  obtain⟨d',e,h1⟩:=h 0 y rfl
  cases (Option.some.inj e:d=d')
  exact⟨y,ys,rfl,h1,lI (by simpa using hl) fun i z hz=>h (i+1) z hz⟩
 | H,[],y::ys,hl,_=>by simp at hl
 | H,d::ds,[],hl,_=>by simp at hl
def kF (ns ms:Lc):PyData.eqv (.list (ns.map .int)) (.list (ms.map .int))=decide (ns=ms):=by
 show PyData.eqvAll _ _=_
 exact ked_eqvAll ns ms
def cW (ns:Lc):SeqAt.shaped (.list (ns.map .int))=true:=by
 unfold SeqAt.shaped
 have h1:PyData.canLay0 (.list (ns.map .int))=true:=uV ns
 have h2:PyData.depth (.list (ns.map .int))=1:=by
  show PyData.depthAll (ns.map .int)+1=1
  rw[depth_ints]
 rw[h1,h2]
 rfl
def uC (seg:Int):∀ {ps:List (Int × Lc)} {B B':Bk},rT seg B ps=some B'->B'.parts=B.parts
 | [],B,B',h=>by
  cases (Option.some.inj h:B=B')
  rfl
 | p::ps,B,B',h=>by
  unfold rT at h
  cases e:l7 B p.1 p.2 seg with
  | none=>rw[e]at h; cases h
  | some B1=>
   rw[e]at h
   have:=uC seg h
   rw[this]
   unfold l7 at e
   split at e
   ·cases e
   ·cases (Option.some.inj e)
    rfl
section
variable {P:Program} {w:World} {K:K6} {mg:K8} {base:Heap} {ab0 aa1 aa3 aa4:Addr}
def Cb (F:Fun K "letters" "Book.letters" xC f fd) (T:‹8›) (bj9:‹17› aa4 "letter" 1 ["self","number"] (mR aa4)):‹15› 2 f fd ["self"] (kW aa4):=by
 refine F.okY ["self"] fun cdv A outer s H vs Q E hr nD0 h=>?_
 obtain⟨bk,de,dp,B,rfl,hB,hl,q⟩:=h
 refine⟨_,aC (aP (c9 ["number"] [("self",0)] ⋯ (bT K ‹75›) ‹32› ‹42› (fun C s2 H2 ex=>(cN bj9 T.cl ‹19› aX (pv 1) ‹36›)))),?_⟩
 obtain⟨dx,h1⟩:=hB.self
 obtain⟨kvs,h2,h3⟩:=hB.ent
 refine⟨_,rfl,bk,_,dx,_,_,rfl,h1,T.cl,T.ac3,rfl,de,kvs,_,rfl,h2,h3.keys,.inr hl.2,by rw[length_map]; omega,fun p ms perm pw hp=>?_⟩
 have S1:=aD (o:=.lst (ms.map .int)) hp
 generalize eH1:upd H p (.lst (ms.map .int))=H1 at S1 ⊢
 have g1:H1 p=some (.lst (ms.map .int)):=by rw[<- eH1]; exact aB
 have lm:(ms.map V.int).length=ms.length:=length_map _
 have pl:=perm.length_eq
 rw[length_map]at pl
 refine⟨p,rfl,⟨_,SqL.of g1⟩,?_⟩
 refine dE (bS (K:=K) (SqL.of g1)) ?zl (fun i y H'=>∃ n,ms[i]? = some n/\Den H' (lF B.es n) y) (fun i y H1 H2 s h=>by obtain⟨n,e,h⟩:=h; exact⟨n,e,h.n s (sK _ _)⟩) (fun σ=>∃ z,σ = [z,some (.ref bk)]) ?z0 ?_ ?_
 case zl=>
  rw[lm,pl]
  exact Nat.le_of_lt (lt_trans hl.1 (by decide))
 case z0=>exact⟨none,rfl⟩
 ·intro i x σc H3 hi hσ s3 hx Q' hQ'
  obtain⟨z,rfl⟩:=hσ
  rw[getElem?_map]at hx
  cases e:ms[i]? with
  | none=>rw[e]at hx; cases hx
  | some n=>
   rw[e]at hx
   cases hx
   have hin:n∈B.es.map (·.1):=perm.mem_iff.mp (mem_of_getElem? e)
   obtain⟨en,hen⟩:=kD hin
   have S13:aG H H3:=S1.trans s3
   refine⟨_,rfl,bk,dx,_,rfl,S13 _ _ h1,rfl,_,rfl,bk,de,dp,B,n,en,rfl,hB.same S13,hen,fun p4 H4 S4 d4=>?_⟩
   refine hQ' _ _ _ ⟨_,rfl⟩ S4 ⟨n,e,?_⟩
   unfold lF
   rw[hen]
   exact d4
 ·intro D ys H' hD s' hD' hlen hR
  refine q ms perm pw D H' (S1.trans s') (S1.free hD) ?_
  simp only[Den]
  refine⟨D,ys,rfl,hD',lI (by rw[length_map,hlen,lm]) fun i y e=>?_⟩
  obtain⟨n,e1,e2⟩:=hR i y e
  exact⟨_,by rw[getElem?_map,e1]; rfl,e2⟩
def vP (F:Fun K "enter_deal" "Book.enter_deal" oS f fd) (T:‹8›) (ao7:‹17› aa4 "enter_put" 1 ["self","number","body","segment"] (hX aa4 aa3)):‹15› 2 f fd ["self","number","many","segment"] (jI aa4 aa3):=by
 refine F.okY ["self","number","many","segment","parts","part"] fun cdv A outer s H vs Q E hr nD0 h=>?_
 obtain⟨bk,de,dp,B,n,m,seg,rfl,hB,n0,n9,m0,m9,hl,q,qe⟩:=h
 refine⟨_,aA (a7 (i:=4) nD0 ⋯ ⋯ ‹23›)
  (aA (dS (pv 0) (cB aH) ⋯)
  (aA (bA (aQ (nX hr.units) (c9 ["part"] [] ⋯ (bT K (pv 4)) (fun C s2 H2 ex=>(bG (i:=0) (show List.Nodup (["part"]:Ld) by decide +kernel) ⋯ (Or.inl ⋯))) ‹42› (fun C s2 H2 ex=>‹26›)) (uJ ⋯ ⋯ T.at1 ⋯ T.ai4 (aE (pv 1) (bR (bB cO (pv 1) (pv 2)) aH))) (bD _))
   ‹74›
   aO)
  (aC (fY (lQ eO) ⋯ (bT K (pv 4)) (bG (i:=5) nD0 ⋯ ⋯)
   (aC (aU (cN ao7 T.cl ‹19› bO (pv 0) (aN ‹58› (aN ‹58› ‹50›))))))))),?_⟩
 obtain⟨dx,h1⟩:=hB.self
 obtain⟨ps,h4,h5⟩:=hB.par
 obtain⟨ne1,ne2,ne3⟩:=hB.ne
 refine⟨_,rfl,bk,_,dx,_,_,rfl,h1,T.cl,T.ap4,rfl,?_⟩
 refine⟨(by show 0<=sizeLine; decide),fun dq hdq=>?_⟩
 have S1:=aD (o:=.lst []) hdq
 generalize eH1:upd H dq (.lst [])=H1 at S1 ⊢
 have g1:H1 dq=some (.lst []):=by rw[<- eH1]; exact aB
 refine⟨_,rfl,bk,_,dx,_,rfl,S1 _ _ h1,T.cl,T.ap4,(by show 3<1000; decide),?_⟩
 have hB2:=sP (hB.same S1) (dx:=dx) B.up (parts:=[]) g1 (by simp only[fU,map_nil,aR])
 have F2:Frm bk de dp H (upd H1 bk (.ins aa4 dx (bkF de dq B.up))):=(aG.frm S1).trans zS (.inl rfl)
 have g2:upd H1 bk (.ins aa4 dx (bkF de dq B.up)) dp=some (.lst ps):=by rw[aF (Ne.symm ne2)]; exact S1 _ _ h4
 have T2:fS H (upd H1 bk (.ins aa4 dx (bkF de dq B.up))):=hB.tup F2
 rw[CG]
 generalize upd H1 bk (.ins aa4 dx (bkF de dq B.up))=H2 at hB2 F2 g2 T2 ⊢
 have d2:aR H2 (fU B.parts) ps:=fO T2 (iF _) h5
 have lp:ps.length=B.parts.length:=by rw[h5.length]; unfold fU; rw[length_map]
 have hdq0:dq≠dp:=fun z=>by rw[z,h4]at hdq; cases hdq
 refine⟨_,rfl,dp,rfl,⟨_,SqL.of g2⟩,?_⟩
 refine dE (bS (K:=K) (SqL.of g2)) ?zl (fun i y _=>∃ p,B.parts[i]? = some p/\y = .int p.1) (fun i y H1 H2 s h=>h) (fun σ=>σ.length=1) ?z0 ?_ ?_
 case zl=>
  rw[lp]
  exact Nat.le_of_lt (lt_trans (show _<900 by omega) (by decide))
 case z0=>rfl
 ·intro i x σc H3 hi hσ s3 hx Q' hQ'
  obtain⟨d,hd,dn⟩:=d2.get hx
  unfold fU at hd
  rw[getElem?_map]at hd
  cases e:B.parts[i]? with
  | none=>rw[e]at hd; cases hd
  | some pr=>
   rw[e]at hd
   cases (Option.some.inj hd:fN "part" pr.1 pr.2=d)
   have dn':=dn.same s3
   unfold fN at dn'
   simp only[Den,aR]at dn'
   obtain⟨t,xt,rfl,gt,y0,r0,f0,f1,y1,r1,f2,f3,y2,r2,f4,⟨pb,yb,f5,gb,db⟩,f6⟩:=dn'
   subst f6 f5 f4 f3 f2 f1 f0
   match σc,hσ with
   | [z],_=>
    refine⟨_,rfl,t,_,_,_,rfl,rfl,SqT.of gt,cF (j:=1) rfl,?_⟩
    exact hQ' _ _ _ rfl (aG.refl _) ⟨pr,e,rfl⟩
 intro D ys H3 hD S3 g3 hlen hR
 have ey:ys=(B.parts.map (·.1)).map V.int:=by
  apply ext_getElem?
  intro i
  cases e:ys[i]? with
  | none=>
   have:ys.length<=i:=List.getElem?_eq_none_iff.mp e
   rw[getElem?_eq_none (by rw[length_map,length_map]; omega)]
  | some y=>
   obtain⟨p,e1,e2⟩:=hR i y e
   rw[getElem?_map,getElem?_map,e1,e2]
   rfl
 have hmz:(n+m - n).toNat=m.toNat:=by omega
 refine⟨_,rfl,_,rfl,_,rfl,_,_,rfl,rfl,n,n+m,rfl,⟨by omega,by omega,by omega,by omega⟩,le_trans (show _<=9 by omega) (by decide),fun p4 hp4=>?_⟩
 rw[hmz]
 have er:((List.range m.toNat).map fun(k:Nat)=>V.int (n+(k:Int)))=((List.range m.toNat).map fun(k:Nat)=>n+(k:Int)).map V.int:=by rw[map_map]; rfl
 rw[er]
 have S4:=aD (o:=.lst (((List.range m.toNat).map fun(k:Nat)=>n+(k:Int)).map V.int)) hp4
 generalize eH4:upd H3 p4 (.lst (((List.range m.toNat).map fun(k:Nat)=>n+(k:Int)).map V.int))=H4 at S4 ⊢
 have g4:H4 p4=some (.lst (((List.range m.toNat).map fun(k:Nat)=>n+(k:Int)).map V.int)):=by rw[<- eH4]; exact aB
 have dA:Den H4 (.list ((B.parts.map (·.1)).map .int)) (.ref D):=by
  simp only[Den]
  exact⟨D,ys,rfl,S4 _ _ g3,by rw[ey]; exact bQ.mpr rfl⟩
 have dB:Den H4 (.list (((List.range m.toNat).map fun(k:Nat)=>n+(k:Int)).map .int)) (.ref p4):=by
  simp only[Den]
  exact⟨p4,_,rfl,g4,bQ.mpr rfl⟩
 refine⟨_,_,dA,dB,cW _,cW _,_,rfl,?_⟩
 rw[kF]
 have F4:Frm bk de dp H H4:=F2.trans (aG.frm (S3.trans S4)) (.inl rfl)
 unfold x9 at q qe
 by_cases hc:B.parts.map (·.1)=(List.range m.toNat).map fun(k:Nat)=>n+(k:Int)
 case neg=>
  rw[if_neg hc]at qe
  rw[decide_eq_false hc]
  exact aT ⟨(by show 1<=sizeLine; decide),qe rfl H4 F4⟩
 rw[if_pos hc]at q qe
 rw[decide_eq_true hc]
 refine bC ?_
 refine cJ rfl ?_
 have hB4:=hB2.same (S3.trans S4)
 have gd4:H4 dp=some (.lst ps):=S4 _ _ (S3 _ _ g2)
 have d4:aR H4 (fU B.parts) ps:=(d2.same S3).same S4
 refine⟨_,rfl,dp,rfl,⟨_,SqL.of gd4⟩,?_⟩
 have sq0:SqL K (fun a=>if a=dp then some (.lst ps) else none) dp ps:=SqL.of (if_pos rfl)
 refine gA (H0:=fun a=>if a=dp then some (.lst ps) else none) (bS (K:=K) sq0) (fun i σ H'=>H' dp=some (.lst ps)/\fS H4 H'/\Frm bk de dp H H'/\i<=B.parts.length/\∃ Bi z5,BookAt aa4 H' bk de dq Bi/\Bi.es.length<=B.es.length+i/\rT seg ⟨B.es,B.up,[]⟩ B.parts=rT seg Bi (B.parts.drop i)/\σ = [some (.ref bk),some (.int n),some (.int m),some (.int seg),some (.ref dp),z5]) ?i0 ?kp ?_ ?_
 case i0=>exact⟨gd4,fun _ _ e=>e,F4,zero_le _,_,none,hB4,le_refl _,rfl,rfl⟩
 case kp=>
  intro i σ H' h b o e
  by_cases z:b=dp
  ·subst z
   have e:some (HO.lst ps)=some o:=by simpa using e
   rw[<- e]
   exact h.1
  ·have e:none=some o:=by simpa [z] using e
   cases e
 ·rintro i x σ H5 H6 hi ⟨gd5,t5,f5,hiL,Bi,z5,hBi,hle,hpu,rfl⟩ s6 hx
  obtain⟨d,hd,dn⟩:=d4.get hx
  unfold fU at hd
  rw[getElem?_map]at hd
  cases e:B.parts[i]? with
  | none=>rw[e]at hd; cases hd
  | some pr=>
   rw[e]at hd
   cases (Option.some.inj hd:fN "part" pr.1 pr.2=d)
   have dn':=BU (t5.trans (aG.tup s6)) (k8 _ _ _) dn
   unfold fN at dn'
   simp only[Den,aR]at dn'
   obtain⟨t,xt,rfl,gt,y0,r0,f0,f1,y1,r1,f2,f3,y2,r2,f4,⟨pb,yb,f5',gb,db⟩,f6⟩:=dn'
   have eb:=bQ.mp db
   subst eb f6 f5' f4 f3 f2 f1 f0
   have iL:i<B.parts.length:=(List.getElem?_eq_some_iff.mp e).1
   have ed:B.parts.drop i=pr::B.parts.drop (i+1):=by
    rw[List.drop_eq_getElem_cons iL]
    have:=(List.getElem?_eq_some_iff.mp e).2
    rw[this]
   rw[ed]at hpu
   have hB6:=hBi.same s6
   obtain⟨dx6,h16⟩:=hB6.self
   refine⟨_,rfl,bk,dx6,_,rfl,h16,rfl,_,rfl,t,_,_,_,rfl,rfl,SqT.of gt,cF (j:=1) rfl,_,rfl,t,_,_,_,rfl,rfl,SqT.of gt,cF (j:=2) rfl,_,rfl,bk,de,dq,pb,Bi,pr.1,seg,pr.2,rfl,hB6,gb,by omega,fun B' hB' H7 f7 hB7=>?_,fun hn H7 f7=>?_⟩
   ·have hdq':dq=dp\/H dq=none:=.inr hdq
    have f67:Frm bk de dp H H7:=(f5.trans (aG.frm (dp:=dp) s6) (.inl rfl)).trans f7 hdq'
    refine⟨f7 _ _ (s6 _ _ gd5) (Ne.symm ne2) (fun z=>ne3 z.symm) (Ne.symm hdq0),(t5.trans (aG.tup s6)).trans (hB6.tup f7),f67,iL,B',_,hB7,?_,?_,rfl⟩
    ·unfold l7 at hB'
     split at hB'
     ·cases hB'
     ·cases (Option.some.inj hB')
      have:=jX Bi.es pr.1 (pr.2,0,seg)
      show (eK Bi.es pr.1 (pr.2,0,seg)).length<=_
      omega
    ·rw[hpu]
     show (match l7 Bi pr.1 pr.2 seg with | none=>none | some B'=>rT seg B' (B.parts.drop (i+1)))=_
     rw[hB']
   ·refine qe ?_ H7 ((f5.trans (aG.frm (dp:=dp) s6) (.inl rfl)).trans f7 (.inr hdq))
    rw[hpu]
    show (match l7 Bi pr.1 pr.2 seg with | none=>none | some B'=>rT seg B' (B.parts.drop (i+1)))=none
    rw[hn]
 ·rintro σ H5 ⟨gd5,t5,f5,hiL,Bi,z5,hBi,hle,hpu,rfl⟩
  rw[lp,List.drop_of_length_le (le_refl _)]at hpu
  exact q Bi hpu dq H5 f5 hdq hBi
end
inductive oN (C:Addr) (aa3:Addr) (vs:Ln) (H:Hp) (Q:VK) (E:XK):Prop
 | mk:∀ (bk de dp pr:Addr) (B:Bk) (k:Str) (n seg:Int) (body:Lc),vs=[.ref bk,.ref pr,.int seg]->BookAt C H bk de dp B->Den H (fN k n body) (.ref pr)->bK (fN k n body)=true->B.es.length+B.parts.length<900->(∀ B',dD B k n body seg=some B'->∀ dq H',Frm bk de dp H H'->(dq=dp\/H dq=none)->BookAt C H' bk de dq B'->Q .non H')->(dD B k n body seg=none->∀ H',Frm bk de dp H H'->E (.ref aa3) none H')->oN C aa3 vs H Q E
inductive yW (C:Addr) (vs:Ln) (H:Hp) (Q:VK) (x_3:XK):Prop
 | mk:∀ (bk dx:Addr),vs=[.ref bk]->H bk=some (.ins C dx [])->(∀ de dp H',(∀ b o,H b=some o->b≠bk->H' b=some o)->H de=none->H dp=none->BookAt C H' bk de dp ⟨[],0,[]⟩->Q .non H')->yW C vs H Q x_3
def xI (h:bK (fN k n body)=true):k∈cT/\0<=n/\n<=999999/\(k = "deal"->1<=body.length/\1<=body.getD 0 0/\body.getD 0 0<=9)/\(k = "carried"->1<=body.length)/\body.length<=61:=by
 unfold fN at h
 simp only[bK,and_eq_true]at h
 obtain⟨h1,h2,h3,h4⟩:=h
 rw[fQ]at h4
 simp only[bM,and_eq_true,decide_eq_true_eq]at h2
 refine⟨by simpa using h1,h2.1,h2.2,?_,?_,?_⟩
 ·rintro rfl
  unfold fD at h4
  rw[if_neg (by decide),if_neg (by decide),if_pos rfl]at h4
  simp only[and_eq_true,decide_eq_true_eq]at h4
  obtain⟨⟨l1,l2⟩,l3⟩:=h4
  match body,l1,l2,l3 with
  | [x],_,l2,l3=>exact⟨le_refl _,l2,l3⟩
 ·rintro rfl
  unfold fD at h4
  rw[if_neg (by decide),if_pos rfl]at h4
  simp only[and_eq_true,decide_eq_true_eq]at h4
  exact h4.1.1
 ·unfold fD at h4
  split at h4
  ·have:=of_decide_eq_true h4
   omega
  ·split at h4
   ·simp only[and_eq_true,decide_eq_true_eq]at h4
    omega
   ·split at h4
    ·simp only[and_eq_true,decide_eq_true_eq]at h4
     omega
    ·have:=of_decide_eq_true h4
     omega
def yC (h:1<=xs.length):i5 xs (some 1) none=xs.drop 1:=by
 unfold i5
 have e:HT.sIx xs.length 0 (some 1)=1:=(HT.jB xs.length 0 1).trans (min_eq_left h)
 rw[e,HT.uB,List.take_of_length_le (by rw[length_drop]; omega)]
section
variable {P:Program} {w:World} {K:K6} {mg:K8} {base:Heap} {ab0 aa1 aa3 aa4:Addr}
def IZ (F:Fun K "__init__" "Book.__init__" F3 f fd) (T:‹8›):‹15› 1 f fd ["self"] (yW aa4):=by
 refine F.okY ["self"] fun cdv A outer s H vs Q E hr nD0 h=>?_
 obtain⟨bk,dx,rfl,h1,q⟩:=h
 refine⟨_,aA (dS (pv 0) jY ⋯)
  (aA (dS (pv 0) aI ⋯)
  (aC (dS (pv 0) (cB aH) ⋯))),?_⟩
 refine fun de hde=>?_
 have nde:bk≠de:=fun z=>by rw[z,hde]at h1; cases h1
 refine⟨_,rfl,bk,_,dx,_,rfl,by rw[aF nde]; exact h1,T.cl,T.ac3,(by show 0<1000; decide),?_⟩
 refine⟨_,rfl,bk,_,dx,_,rfl,aB,T.cl,T.ab7,(by show 1<1000; decide),?_⟩
 refine⟨(by show 0<=sizeLine; decide),fun dp hdp=>?_⟩
 generalize eH1:upd (upd (upd H de (.dK [])) bk (.ins aa4 dx (gY "entries" (.ref de) []))) bk (.ins aa4 dx (gY "upcoming" (.int 0) (gY "entries" (.ref de) [])))=H1 at hdp ⊢
 have k1:H1 bk=some (.ins aa4 dx (gY "upcoming" (.int 0) (gY "entries" (.ref de) []))):=by rw[<- eH1]; exact aB
 have k2:H1 de=some (.dK []):=by rw[<- eH1,aF (Ne.symm nde),aF (Ne.symm nde)]; exact aB
 have k3:∀ b o,H b=some o->b≠bk->H1 b=some o:=fun b o e nb=>by
  rw[<- eH1,aF nb,aF nb,aF (fun z=>by rw[z,hde]at e; cases e)]
  exact e
 have ndp:bk≠dp:=fun z=>by rw[<- z,k1]at hdp; cases hdp
 have nd2:de≠dp:=fun z=>by rw[<- z,k2]at hdp; cases hdp
 have hdp0:H dp=none:=by
  cases e:H dp with
  | none=>rfl
  | some o=>rw[k3 dp o e (Ne.symm ndp)]at hdp; cases hdp
 refine⟨_,rfl,bk,_,dx,_,rfl,by rw[aF ndp]; exact k1,T.cl,T.ap4,(by show 2<1000; decide),?_⟩
 refine q de dp _ (fun b o e nb=>?_) hde hdp0 ⟨⟨dx,?_⟩,⟨[],?_,trivial⟩,⟨[],?_,by simp only[fU,map_nil,aR]⟩⟩
 ·rw[aF nb,aF (fun z=>by rw[z,hdp0]at e; cases e)]
  exact k3 b o e nb
 ·rw[aB]
  rfl
 ·rw[aF (Ne.symm nde),aF nd2]
  exact k2
 ·rw[aF (Ne.symm ndp)]
  exact aB
def Gf (F:Fun K "enter" "Book.enter" DM f fd) (T:‹8›) (ao7:‹17› aa4 "enter_put" 1 ["self","number","body","segment"] (hX aa4 aa3))
  (bg6:‹17› aa4 "enter_deal" 2 ["self","number","many","segment"] (jI aa4 aa3)) (bc5:‹17› aa4 "change_entry" 1 ["self","kind","number"] (qF aa4)):‹15› 3 f fd ["self","row","segment"] (oN aa4 aa3):=by
 refine F.okY ["self","row","segment","kind","number","body"] fun cdv A outer s H vs Q E hr nD0 h=>?_
 obtain⟨bk,de,dp,pr,B,k,n,seg,body,rfl,hB,hd,hrow,hl,q,qe⟩:=h
 refine⟨_,aA (a7 (i:=3) nD0 ⋯ ⋯ ‹21›)
  (aA (a7 (i:=4) nD0 ⋯ ⋯ ‹21›)
  (aA (a7 (i:=5) nD0 ⋯ ⋯ ‹21›)
  (aC (bA ‹53›
   (aC (aU (iU K PySem.F.plainAttrs_list PySem.F.slot_list_append PySem.F.type_list_append iG ‹23› ‹29›)))
   (aC (bA ‹53›
    (aC (aU (cN bg6 T.cl ‹19› bO (pv 0) (aE (pv 4) (aN ‹58› ‹37›)))))
    (aC (bA (iS K ‹23›)
     ‹74›
     (aC (bA ‹53›
      (aC (aU (cN ao7 T.cl ‹19› bO (pv 0) (aE (pv 4) (aE (pv 5) ‹37›)))))
      (aC (bA ‹53›
       (aC (dS (pv 0) (bF (yE ⋯) ⋯ T.bk0 HR (f9 ‹23› ‹64›)) ⋯))
       (aC (bA ‹53›
        (aA (fT (hu1 hr.units) ‹23› (pv 4) (bE (aN (gZ (oP K) (pv 5) (iC aI) lB) (aN ‹58› ‹37›))) ⋯)
        (aC (dS (pv 0) (bF (yE ⋯) ⋯ T.bk0 HR (f9 ‹23› (bR (bB cO (pv 4) aI) aH))) ⋯)))
        (aC (bA (nT (GU (hu1 hr.units) (pv 4) ‹23›))
         (aC (aU (cN bc5 T.cl ‹19› aX (pv 0) (aE (pv 3) ‹64›))))
         aO)))))))))))))))),?_⟩
 obtain⟨hk,n0,n9,hdeal,hcar,hbl⟩:=xI hrow
 obtain⟨dx,h1⟩:=hB.self
 obtain⟨kvs,h2,h3⟩:=hB.ent
 obtain⟨ps,h4,h5⟩:=hB.par
 have hd':=hd
 unfold fN at hd'
 simp only[Den,aR]at hd'
 obtain⟨t,xt,et,gt,y0,r0,f0,f1,y1,r1,f2,f3,y2,r2,f4,⟨pb,yb,f5,gb,db⟩,f6⟩:=hd'
 have eb:=bQ.mp db
 cases et
 subst eb f6 f5 f4 f3 f2 f1 f0
 have sq:SqT K H pr [.str k,.int n,.ref pb]:=SqT.of gt
 have sqb:SqT K H pb (body.map V.int):=SqT.of gb
 have lp:ps.length=B.parts.length:=by rw[h5.length]; unfold fU; rw[length_map]
 have hkl:kvs.length<sizeLine:=by rw[h3.len]; exact lt_trans (show _<900 by omega) (by decide)
 refine⟨_,rfl,pr,_,_,_,rfl,rfl,sq,cF (j:=0) rfl,_,rfl,pr,_,_,_,rfl,rfl,sq,cF (j:=1) rfl,_,rfl,pr,_,_,_,rfl,rfl,sq,cF (j:=2) rfl,?_⟩
 unfold dD at q qe
 refine⟨_,rfl,rfl,_,rfl,?_⟩
 by_cases k1:k = "part"
 ·rw[if_pos k1]at q
  rw[hG k1]
  refine aT ?_
  refine⟨_,rfl,bk,_,dx,_,_,rfl,h1,T.cl,T.ap4,rfl,.inl ⟨rfl,_,SqL.of h4⟩,_,rfl,dp,_,_,rfl,rfl,h4,by rw[lp]; exact lt_trans (show _<900 by omega) (by decide),?_⟩
  refine q _ rfl dp _ Kq (.inl rfl) (Kz hB ?_)
  show aR H (fU (B.parts++[(n,body)])) (ps++[.ref pr])
  unfold fU
  rw[map_append]
  refine h5.app (iZ ?_)
  rw[<- k1]
  exact hd
 rw[if_neg k1]at q qe
 rw[gC k1]
 refine bC ⟨_,rfl,rfl,_,rfl,?_⟩
 by_cases k2:k = "deal"
 ·rw[if_pos k2]at q qe
  rw[hG k2]
  refine aT ?_
  obtain⟨b1,b2,b3⟩:=hdeal k2
  have at0:atI (body.map V.int) 0=some (.int (body.getD 0 0)):=by
   refine cF (j:=0) ?_
   rw[getElem?_map,getD_eq_getElem?_getD,getElem?_eq_getElem (by omega)]
   rfl
  refine⟨_,rfl,bk,dx,_,rfl,h1,rfl,_,rfl,_,rfl,pb,_,_,_,rfl,rfl,sqb,at0,_,rfl,bk,de,dp,B,n,body.getD 0 0,seg,rfl,hB,n0,n9,by omega,b3,hl,fun B' hB' dq H' f' hq h'=>q B' hB' dq H' f' (.inr hq) h',fun hn H' f'=>qe hn H' f'⟩
 rw[if_neg k2]at q qe
 rw[gC k2]
 refine bC ?_
 refine⟨_,rfl,bk,_,dx,_,_,rfl,h1,T.cl,T.ap4,rfl,dp,ps,rfl,SqL.of h4,?_⟩
 by_cases kp:B.parts=[]
 case neg=>
  rw[if_pos kp]at qe
  have:(!ps.isEmpty)=true:=by
   cases ps with
   | nil=>
    rw[List.length_nil]at lp
    exact absurd (length_eq_zero_iff.mp lp.symm) kp
   | cons _ _=>rfl
  rw[this]
  exact aT ⟨(by show 1<=sizeLine; decide),qe rfl H (Frm.refl _ _ _ _)⟩
 rw[if_neg (fun z=>z kp)]at q qe
 have:(!ps.isEmpty)=false:=by
  cases ps with
  | nil=>rfl
  | cons _ _=>
   rw[kp]at lp
   simp at lp
 rw[this]
 refine bC ⟨_,rfl,rfl,_,rfl,?_⟩
 by_cases k3:k = "put"
 ·rw[if_pos k3]at q qe
  rw[hG k3]
  refine aT ?_
  refine⟨_,rfl,bk,dx,_,rfl,h1,rfl,_,rfl,_,rfl,_,rfl,bk,de,dp,pb,B,n,seg,body,rfl,hB,gb,by omega,fun B' hB' H' f' h'=>q B' hB' dp H' f' (.inl rfl) h',fun hn H' f'=>qe hn H' f'⟩
 rw[if_neg k3]at q qe
 rw[gC k3]
 refine bC ⟨_,rfl,rfl,_,rfl,?_⟩
 by_cases k4:k = "from"
 ·rw[if_pos k4]at q
  rw[hG k4]
  refine aT ?_
  refine⟨_,rfl,bk,_,dx,_,_,rfl,h1,T.cl,T.ab7,rfl,_,rfl,_,_,rfl,_,rfl,bk,_,dx,_,rfl,h1,T.cl,T.ab7,(by show 3<1000; decide),?_⟩
  exact q _ rfl dp _ zS (.inl rfl) (sP hB (Gq B.up n) h4 h5)
 rw[if_neg k4]at q qe
 rw[gC k4]
 refine bC ⟨_,rfl,rfl,_,rfl,?_⟩
 by_cases k5:k = "carried"
 ·rw[if_pos k5]at q
  rw[hG k5]
  refine aT ?_
  have b1:=hcar k5
  have at0:atI (body.map V.int) 0=some (.int (body.getD 0 0)):=by
   refine cF (j:=0) ?_
   rw[getElem?_map,getD_eq_getElem?_getD,getElem?_eq_getElem (by omega)]
   rfl
  refine⟨_,rfl,_,rfl,?_⟩
  dsimp only[C1]
  refine DC gb fun p5 H5 S5 g5=>?_
  rw[yC (by rw[length_map]; exact b1),<- List.map_drop]at g5
  refine⟨_,rfl,pb,_,_,_,rfl,rfl,S5.seqT sqb,at0,_,rfl,(by show 3<=sizeLine; decide),fun u hu=>?_⟩
  have S6:=aD (o:=.tup [.ref p5,.int (body.getD 0 0),.int seg]) hu
  generalize eH6:upd H5 u (.tup [.ref p5,.int (body.getD 0 0),.int seg])=H6 at S6 ⊢
  have g6:H6 u=some (.tup [.ref p5,.int (body.getD 0 0),.int seg]):=by rw[<- eH6]; exact aB
  have S06:aG H H6:=S5.trans S6
  have hE:kG H6 (.ref u) (body.drop 1,body.getD 0 0,seg):=⟨u,p5,rfl,g6,S6 _ _ g5⟩
  refine⟨_,rfl,bk,_,dx,_,_,rfl,S06 _ _ h1,T.cl,T.ac3,rfl,_,rfl,de,_,rfl,kM.k (k:=Sum.inl n) (S06 _ _ h2) hkl,?_⟩
  have hB7:=vJ (hB.same S06) ((h3.t (aG.tup S06)).put (n:=n) hE)
  have F7:Frm bk de dp H6 (upd H6 de (.dK (eI kvs (Sum.inl n) (.ref u)))):=u7
  generalize upd H6 de (.dK (eI kvs (Sum.inl n) (.ref u)))=H7 at hB7 F7 ⊢
  obtain⟨dx7,h17⟩:=hB7.self
  obtain⟨ps7,h47,h57⟩:=hB7.par
  refine⟨_,rfl,bk,_,dx7,_,_,rfl,h17,T.cl,T.ab7,rfl,_,rfl,_,_,rfl,rfl,_,_,rfl,_,rfl,bk,_,dx7,_,rfl,h17,T.cl,T.ab7,(by show 3<1000; decide),?_⟩
  exact q _ rfl dp _ (((aG.frm S06).trans F7 (.inl rfl)).trans zS (.inl rfl)) (.inl rfl) (sP hB7 (Gq B.up (n+1)) h47 h57)
 rw[if_neg k5]at q qe
 rw[gC k5]
 refine bC ?_
 refine⟨_,rfl,_,rfl,bk,_,dx,_,_,rfl,h1,T.cl,T.ac3,rfl,de,_,rfl,cS.k (k:=Sum.inl n) h2,_,rfl,?_⟩
 have hv:=h3.val (n:=n)
 cases he:bJ B.es n with
 | none=>
  rw[he]at hv q
  have hv:dM kvs (Sum.inl n)=none:=hv
  rw[hv]
  refine bC ?_
  exact q B rfl dp H (Frm.refl _ _ _ _) (.inl rfl) hB
 | some e=>
  rw[he]at hv q
  obtain⟨v,hv1,_⟩:=hv
  rw[hv1]
  refine aT ?_
  refine⟨_,rfl,bk,dx,_,rfl,h1,rfl,_,rfl,_,rfl,bk,de,dp,B,k,n,e,rfl,hB,he,by omega,fun H' f' h'=>?_⟩
  refine q _ ?_ dp H' f' (.inl rfl) h'
  try dsimp only
  split
  ·rfl
  ·split <;> rfl
end
abbrev Rw:=Str × Int × Lc
abbrev Lp:=List Rw
def cA (r:Rw):PyData:=fN r.1 r.2.1 r.2.2
def dR (seg:Int):Bk->Lp->Option Bk
 | B,[]=>some B
 | B,r::rs=>match dD B r.1 r.2.1 r.2.2 seg with
  | none=>none
  | some B'=>dR seg B' rs
def xL (seg:Int):∀ {ps:List (Int × Lc)} {B B':Bk},rT seg B ps=some B'->B'.es.length<=B.es.length+ps.length
 | [],B,B',h=>by
  cases (Option.some.inj h:B=B')
  exact le_refl _
 | p::ps,B,B',h=>by
  unfold rT at h
  cases e:l7 B p.1 p.2 seg with
  | none=>rw[e]at h; cases h
  | some B1=>
   rw[e]at h
   have h1:=xL seg h
   unfold l7 at e
   split at e
   ·cases e
   ·cases (Option.some.inj e)
    have:=jX B.es p.1 (p.2,0,seg)
    rw[length_cons]
    have h1:B'.es.length<=(eK B.es p.1 (p.2,0,seg)).length+ps.length:=h1
    omega
def Cp (h:dD B k n body seg=some B'):B'.es.length+B'.parts.length<=B.es.length+B.parts.length+1:=by
 unfold dD at h
 split at h
 ·cases (Option.some.inj h)
  show B.es.length+(B.parts++[(n,body)]).length<=_
  rw[length_append]
  exact le_refl _
 ·split at h
  ·unfold x9 at h
   split at h
   ·have h1:=xL seg h
    have h2:=uC seg h
    rw[h2]
    have h1:B'.es.length<=B.es.length+B.parts.length:=h1
    show B'.es.length+0<=_
    omega
   ·cases h
  ·split at h
   ·cases h
   ·split at h
    ·unfold l7 at h
     split at h
     ·cases h
     ·cases (Option.some.inj h)
      have:=jX B.es n (body,0,seg)
      show (eK B.es n (body,0,seg)).length+B.parts.length<=_
      omega
    ·split at h
     ·cases (Option.some.inj h)
      exact le_succ _
     ·split at h
      ·cases (Option.some.inj h)
       have:=jX B.es n (body.drop 1,body.getD 0 0,seg)
       show (eK B.es n (body.drop 1,body.getD 0 0,seg)).length+B.parts.length<=_
       omega
      ·split at h
       ·cases (Option.some.inj h)
        exact le_succ _
       ·rename_i e _
        split at h
        ·cases (Option.some.inj h)
         have:=jX B.es n (e.1,e.2.1+1,e.2.2)
         show (eK B.es n (e.1,e.2.1+1,e.2.2)).length+B.parts.length<=_
         omega
        ·split at h
         ·cases (Option.some.inj h)
          have:=jX B.es n (e.1,0,e.2.2)
          show (eK B.es n (e.1,0,e.2.2)).length+B.parts.length<=_
          omega
         ·cases (Option.some.inj h)
          have:(gE B.es n).length<=B.es.length:=length_filter_le _ _
          show (gE B.es n).length+B.parts.length<=_
          omega
def rows_of (h:ds.all bK=true):∃ rs:Lp,ds=rs.map cA/\∀ r∈rs,bK (cA r)=true:=by
 induction ds with
 | nil=>exact⟨[],rfl,fun r hr=>absurd hr (by simp)⟩
 | cons d ds ih=>
  rw[all_cons,and_eq_true]at h
  obtain⟨rs,e,hr⟩:=ih h.2
  have h1:=h.1
  have:∃ r:Rw,d=cA r:=by
   match d,h1 with
   | .tuple [.str k,.int n,.tuple bs],h1=>
    simp only[bK,and_eq_true]at h1
    have hb:bs.all (bM 0 255)=true:=h1.2.2.1
    refine⟨(k,n,bN (.tuple bs)),?_⟩
    show PyData.tuple [.str k,.int n,.tuple bs] = .tuple [.str k,.int n,.tuple ((bN (.tuple bs)).map .int)]
    congr 4
    have:∀ l:Lg,l.all (bM 0 255)=true->l=(bN (.tuple l)).map .int:=by
     intro l hl
     induction l with
     | nil=>rfl
     | cons x l ih=>
      rw[all_cons,and_eq_true]at hl
      have:=ih hl.2
      cases x with
      | int i=>
       show PyData.int i::l=PyData.int i::(bN (.tuple l)).map .int
       rw[<- this]
      | _=>exact absurd hl.1 (by simp [bM])
    exact congrArg PyData.tuple (this bs hb)
   | .tuple [.str k,.int n,.list _],h1=>simp [bK,cV]at h1
   | .tuple [.str k,.int n,.int _],h1=>simp [bK,cV]at h1
   | .tuple [.str k,.int n,.str _],h1=>simp [bK,cV]at h1
   | .tuple [.str k,.int n,.bool _],h1=>simp [bK,cV]at h1
   | .tuple [.str k,.int n,.none],h1=>simp [bK,cV]at h1
   | .tuple [.str k,.int n,.dict _],h1=>simp [bK,cV]at h1
   | .tuple [.str k,.str _,b],h1=>simp [bK,bM]at h1
   | .tuple [.str k,.bool _,b],h1=>simp [bK,bM]at h1
   | .tuple [.str k,.none,b],h1=>simp [bK,bM]at h1
   | .tuple [.str k,.list _,b],h1=>simp [bK,bM]at h1
   | .tuple [.str k,.tuple _,b],h1=>simp [bK,bM]at h1
   | .tuple [.str k,.dict _,b],h1=>simp [bK,bM]at h1
  obtain⟨r,e1⟩:=this
  refine⟨r::rs,by rw[map_cons,<- e1,<- e],fun x hx=>?_⟩
  rcases mem_cons.mp hx with rfl | hx
  ·rw[<- e1]
   exact h1
  ·exact hr x hx
section
variable {P:Program} {w:World} {K:K6} {mg:K8} {base:Heap} {ab0 aa1 aa3 aa4:Addr}
end
def But (pl:Addr) (H H':Hp):Prop:=∀ b o,H b=some o->b≠pl->H' b=some o
def But.refl:But pl H H:=fun b o e _=>e
def o0 (h:Den H (cA r) v):∃ t b,v = .ref t/\H t=some (.tup [.str r.1,.int r.2.1,.ref b])/\H b=some (.tup (r.2.2.map V.int)):=by
 unfold cA fN at h
 simp only[Den,aR]at h
 obtain⟨t,_,rfl,gt,_,_,rfl,rfl,_,_,rfl,rfl,_,_,rfl,⟨b,ys,rfl,gb,hys⟩,rfl⟩:=h
 have:=bQ.mp hys
 subst this
 exact⟨t,b,rfl,gt,gb⟩
structure TxtN (K:K6) (mg:K8):Prop where
 ad2:mg "len" = none
 ac1:mg "isinstance" = none
 bi9:mg "all" = none
 ax4:mg "sum" = none
 ai3:mg "tuple" = none
 ba3:mg "int" = none
 bj1:mg "bool" = none
 bi8:mg "str" = none
 ai4:mg "range" = none
 af9:mg "enumerate" = none
 at1:mg "list" = none
 af4:mg "sorted" = none
 ap2:∃ t,mg "HIGHEST_BYTE" = some (.int 255 t)
section
variable {P:Program} {w:World} {K:K6} {mg:K8} {base:Heap} 
end
abbrev xD:Stmt:=top 5
abbrev oV:Stmt:=top 60
abbrev nF:Stmt:=top 61
def cU:Str:="abcdefghijklmnopqrstuvwxyz0123456789"
def inS (signs:Str) (c:Nat):Bool:=!(Builtin.Str.occurrences signs ⟨#[c]⟩ 0 signs.length 1).isEmpty
def pT (x:Str):Bool:=x.cps.all fun c=>decide (c<128)
def eU (signs:Str) (l:Int):PyData->Bool
 | .str x=>(decide (1<=(x.length:Int)) && decide ((x.length:Int)<=l)) && x.cps.toList.all (inS signs)
 | _=>false
inductive kX (vs:Ln) (H:Hp) (Q:VK) (x_3:XK):Prop
 | mk:∀ (v:V) (d:PyData) (signs:Str) (l:Int),vs=[v,.str signs,.int l]->Den H d v->(∀ x,d = .str x->x.length<=1000/\pT x=true)->(∀ H',aG H H'->Q (.bl (eU signs l d)) H')->kX vs H Q x_3
structure TxtD (K:K6) (mg:K8) (aa2 aa5 ab8 aa6 aa1 aa9 aa7:Addr):Prop extends TxtN K mg where
 bg7:∃ t,mg "NAME_SIGNS" = some (.str cU t)
 bc6:∃ t,mg "LONGEST_NAME" = some (.int 8 t)
 bg8:∃ t,mg "MOST_STEPS" = some (.int 100000 t)
 an3:dJ K aa2=true
 bj2:mg "BadName" = some (.ref aa2)
 an4:dJ K aa5=true
 bj3:mg "Missing" = some (.ref aa5)
 ax6:dJ K ab8=true
 bk4:mg "There" = some (.ref ab8)
 an5:dJ K aa6=true
 at4:mg "Stopped" = some (.ref aa6)
 ag3:dJ K aa1=true
 bg5:mg "BadRow" = some (.ref aa1)
 ae9:dJ K aa9=true
 ax9:mg "BadNumber" = some (.ref aa9)
 cl:Cls K aa7
 af5:dH K aa7 "files"
 am0:dH K aa7 "steps_done"
 ad3:dH K aa7 "steps_ahead"
inductive gS (aa2:Addr) (vs:Ln) (H:Hp) (Q:VK) (E:XK):Prop
 | mk:∀ (v:V) (d:PyData),vs=[v]->Den H d v->(∀ x,d = .str x->x.length<=1000/\pT x=true)->(eU cU 8 d=true->∀ H',aG H H'->Q .non H')->(eU cU 8 d=false->∀ H',aG H H'->E (.ref aa2) none H')->gS aa2 vs H Q E
def kO:PyData->Bool
 | .none=>true
 | d=>bM 0 100000 d
inductive iO (aa9:Addr) (vs:Ln) (H:Hp) (Q:VK) (E:XK):Prop
 | mk:∀ (v:V) (d:PyData),vs=[v]->Den H d v->(kO d=true->Q .non H)->(kO d=false->E (.ref aa9) none H)->iO aa9 vs H Q E
section
variable {P:Program} {w:World} {K:K6} {mg:K8} {base:Heap} {aa2 aa5 ab8 aa6 aa1 aa9 aa7:Addr}
def Cc (F:Fun K "is_word" "is_word" xD f fd) (T:TxtN K mg):‹15› 1 f fd ["thing","signs","longest"] kX:=by
 refine F.okY ["thing","signs","longest"] fun cdv A outer s H vs Q E hr nD0 h=>?_
 obtain⟨v,d,signs,l,rfl,hd,hz,q⟩:=h
 refine⟨_,aA (bA (lO (cK (dG (bF (iI K) ⋯ T.ac1 eQ (aE (pv 0) ‹56›)))) (iR (cK (uE iW iW aI (bF z9 ⋯ T.ad2 fV ‹36›) (pv 2))))).pt
   ‹67›
   aO)
  (aC (aP (bF (yG K) ⋯ T.bi9 HS (dW (c9 ["sign"] [("signs",1)] ⋯ (KE (pv 0)) (fun C s2 H2 ex=>(bG (i:=0) (show List.Nodup (["sign","signs"]:Ld) by decide +kernel) ⋯ (Or.inl ⋯))) ‹42› (fun C s2 H2 ex=>(fZ EV (pv 0) (pv 1) ⋯))) aH)))),?_⟩
 refine⟨_,rfl,_,_,_,_,rfl,hd.ty,Dl d,_,rfl,?_⟩
 cases d with
 | none=>exact aT (aT (q H (aG.refl H)))
 | bool x=>exact aT (aT (q H (aG.refl H)))
 | int x=>exact aT (aT (q H (aG.refl H)))
 | tuple x=>exact aT (aT (q H (aG.refl H)))
 | list x=>exact aT (aT (q H (aG.refl H)))
 | dict x=>exact aT (aT (q H (aG.refl H)))
 | str x=>
 refine bC ?_
 obtain⟨z1,z2⟩:=hz x rfl
 have e:v = .str x:=by simpa only[Den] using hd
 subst e
 have zl:x.length<=sizeLine:=le_trans z1 (by decide)
 refine⟨_,rfl,x,rfl,zl,_,_,rfl,rfl,_,rfl,?_⟩
 simp only[eU]at q
 by_cases h1:1<=(x.length:Int)
 case neg=>
  rw[if_neg (by rw[decide_eq_true_eq]; exact h1)]
  rw[decide_eq_false h1,Bool.false_and,Bool.false_and]at q
  exact⟨_,rfl,aT (q H (aG.refl H))⟩
 rw[if_pos (decide_eq_true h1)]
 rw[decide_eq_true h1,Bool.true_and]at q
 refine⟨_,rfl,_,_,rfl,rfl,_,rfl,?_⟩
 show if (!decide ((x.length:Int)<=l))=true then _ else _
 by_cases h2:(x.length:Int)<=l
 case neg=>
  rw[decide_eq_false h2]at q ⊢
  exact aT (q H (aG.refl H))
 rw[decide_eq_true h2]at q ⊢
 rw[Bool.true_and]at q
 refine bC ?_
 refine cJ rfl ?_
 refine⟨_,rfl,x,rfl,z2,?_⟩
 refine dE (Hq (H:=H) x) zl (fun i y _=>∃ c,x.cps[i]? = some c/\y = .bl (inS signs c)) (fun _ _ _ _ _ h=>h) (fun σ=>∃ z,σ = [z,some (.str signs)]) ?z0 ?_ ?_
 case z0=>exact⟨none,rfl⟩
 ·intro i y σc H3 hi hσ s3 hx Q' hQ'
  obtain⟨z,rfl⟩:=hσ
  obtain⟨c,hc,rfl⟩:=hx
  refine⟨_,rfl,_,rfl,_,_,rfl,rfl,?_⟩
  exact hQ' _ _ _ ⟨_,rfl⟩ (aG.refl _) ⟨c,hc,rfl⟩
 intro D ys H' hD s' hD' hlen hR
 have ey:ys=(x.cps.toList.map (inS signs)).map V.bl:=by
  apply ext_getElem?
  intro i
  cases e:ys[i]? with
  | none=>
   have:ys.length<=i:=List.getElem?_eq_none_iff.mp e
   rw[getElem?_eq_none (by rw[length_map,length_map,length_toList]; omega)]
  | some y=>
   obtain⟨c,h1,h2⟩:=hR i y e
   rw[getElem?_map,getElem?_map,Array.getElem?_toList,h1,h2]
   rfl
 refine⟨D,x.cps.toList.map (inS signs),rfl,SqL.of (by rw[hD',ey]),?_⟩
 rw[all_map]
 exact q H' s'
def vR (F:Fun K "check_name" "check_name" oV f fd) (T:‹1›) (ag8:‹16› "is_word" 1 ["thing","signs","longest"] kX):‹15› 2 f fd ["name"] (gS aa2):=by
 obtain⟨_,bg0⟩:=T.bg7
 obtain⟨_,ba5⟩:=T.bc6
 refine F.okY ["name"] fun cdv A outer s H vs Q E hr nD0 h=>?_
 obtain⟨v,d,rfl,hd,hz,q,qe⟩:=h
 refine⟨_,aC (bA (cK (dG (a9 ag8 ‹19› aX (aE (pv 0) (aE (cI (v:=.str "abcdefghijklmnopqrstuvwxyz0123456789") ⋯ bg0 ⟨_,rfl⟩) (aE (cI (v:=.int 8) ⋯ ba5 ⟨_,rfl⟩) aH))))))
   (aC (dU eV ⋯ T.an3 ⋯ T.bj2 ‹25›))
   aO),?_⟩
 refine⟨_,rfl,v,d,cU,8,rfl,hd,hz,fun H1 S1=>⟨_,rfl,?_⟩⟩
 cases hb:eU cU 8 d with
 | false=>exact aT ⟨(by show 1<=sizeLine; decide),qe hb H1 S1⟩
 | true=>exact bC (q hb H1 S1)
def uO (F:Fun K "check_steps" "check_steps" nF f fd) (T:‹1›) (ab1:‹2›):‹15› 2 f fd ["steps"] (iO aa9):=by
 obtain⟨_,bg1⟩:=T.bg8
 refine F.okY ["steps"] fun cdv A outer s H vs Q E hr nD0 h=>?_
 obtain⟨v,d,rfl,hd,q,qe⟩:=h
 refine⟨_,aC (bA (l5 (aQ zE (pv 0) jN (bD _)) (jD (cK (dG (a9 ab1 ‹19› aX (aE (pv 0) (aM aI (aE (cI (v:=.int 100000) ⋯ bg1 ⟨_,rfl⟩) aH)))))))).pt
   ‹87›
   aO),?_⟩
 by_cases hv:v = .non
 ·subst hv
  have:kO d=true:=by
   cases d with
   | none=>rfl
   | bool b=>simp only[Den]at hd; cases hd
   | int b=>simp only[Den]at hd; cases hd
   | str b=>simp only[Den]at hd; cases hd
   | tuple b=>simp only[Den]at hd; obtain⟨_,_,e,_⟩:=hd; cases e
   | list b=>simp only[Den]at hd; obtain⟨_,_,e,_⟩:=hd; cases e
   | dict b=>simp only[Den]at hd
  exact⟨_,rfl,rfl,_,rfl,bC (bC (q this))⟩
 ·have e:kO d=bM 0 100000 d:=by
   cases d with
   | none=>simp only[Den]at hd; exact absurd hd hv
   | _=>rfl
  rw[e]at q qe
  refine⟨_,rfl,rfl,_,rfl,?_⟩
  rw[decide_eq_false hv]
  refine aT ⟨_,rfl,v,d,0,100000,rfl,hd,_,rfl,?_⟩
  cases hb:bM 0 100000 d with
  | false=>exact aT ⟨(by show 1<=sizeLine; decide),qe hb⟩
  | true=>exact bC (q hb)
end
structure Dk where
 fs:List (Str × Lc)
 done:Int
 left:Option Int
def JU:Option Int->V
 | none=>.non
 | some n=>.int n
def aV (fs:List (Str × Lc)) (n:Str):Option (Lc):=(fs.find? fun p=>decide (p.1=n)).map (·.2)
def gK (fs:List (Str × Lc)) (n:Str):List (Str × Lc):=fs.filter fun p=>decide (p.1≠n)
inductive zU (H:Hp) (v:V) (bs:Lc):Prop
 | mk:∀ l,v = .ref l->H l=some (.lst (bs.map V.int))->zU H v bs
def FsR (H:Hp):List (Str × Lc)->Ll->Prop
 | [],[]=>True
 | p::fs,q::kvs=>q.1=Sum.inr p.1/\zU H q.2 p.2/\FsR H fs kvs
 | _,_=>False
def dkF (df:Addr) (done:Int) (left:Option Int):Lm:=[("files",.ref df),("steps_done",.int done),("steps_ahead",JU left)]
structure DiskAt (C:Addr) (H:Hp) (dk df:Addr) (kvs:Ll) (D:Dk):Prop where
 self:∃ dx,H dk=some (.ins C dx (dkF df D.done D.left))
 files:H df=some (.dK kvs)
 rel:FsR H D.fs kvs
 nd:(kvs.map (·.2)).Nodup
 kn:(D.fs.map (·.1)).Nodup
def own (dk df:Addr) (kvs:Ll) (b:Addr):Prop:=b=dk\/b=df\/V.ref b∈kvs.map (·.2)
def sC (dk df:Addr) (kvs:Ll) (H H':Hp):Prop:=∀ b o,H b=some o->¬ own dk df kvs b->H' b=some o
def FL (dk df:Addr) (kvs kvs':Ll) (H:Hp):Prop:=∀ b,own dk df kvs' b->own dk df kvs b\/H b=none
def FsR.same:∀ {fs:List (Str × Lc)} {kvs:Ll},(∀ b o,H b=some o->V.ref b∈kvs.map (·.2)->H' b=some o)->FsR H fs kvs->FsR H' fs kvs
 | [],[],_,_=>trivial
 | p::fs,q::kvs,s,h=>by
  obtain⟨h1,⟨l,e,g⟩,h3⟩:=h
  exact⟨h1,⟨l,e,s l _ g (by rw[map_cons,e]; exact mem_cons_self)⟩,FsR.same (fun b o e m=>s b o e (mem_cons_of_mem _ m)) h3⟩
 | [],_::_,_,h=>h.elim
 | _::_,[],_,h=>h.elim
def FsR.len:∀ {fs:List (Str × Lc)} {kvs:Ll},FsR H fs kvs->kvs.length=fs.length
 | [],[],_=>rfl
 | p::fs,q::kvs,h=>by rw[length_cons,length_cons,FsR.len h.2.2]
 | [],_::_,h=>h.elim
 | _::_,[],h=>h.elim
def FsR.keys:∀ {fs:List (Str × Lc)} {kvs:Ll},FsR H fs kvs->kvs.map (·.1)=(fs.map (·.1)).map Sum.inr
 | [],[],_=>rfl
 | p::fs,q::kvs,h=>by rw[map_cons,map_cons,map_cons,h.1,FsR.keys h.2.2]
 | [],_::_,h=>h.elim
 | _::_,[],h=>h.elim
def Cl:((Sum.inr a:Key)=Sum.inr b) ↔ a=b:=⟨Sum.inr.inj,fun h=>by rw[h]⟩
def FsR.val:∀ {fs:List (Str × Lc)} {kvs:Ll},FsR H fs kvs->(match aV fs n with | none=>dM kvs (Sum.inr n)=none | some e=>∃ v,dM kvs (Sum.inr n)=some v/\zU H v e)
 | [],[],_=>rfl
 | p::fs,q::kvs,h=>by
  obtain⟨h1,h2,h3⟩:=h
  have ih:=FsR.val (n:=n) h3
  by_cases e:p.1=n
  ·have:aV (p::fs) n=some p.2:=by simp [aV,e]
   rw[this]
   exact⟨q.2,iK (by rw[h1,e]),h2⟩
  ·have e1:aV (p::fs) n=aV fs n:=by simp [aV,e]
   have e2:dM (q::kvs) (Sum.inr n)=dM kvs (Sum.inr n):=iM (by rw[h1,Cl]; exact e)
   rw[e1,e2]
   exact ih
 | [],_::_,h=>h.elim
 | _::_,[],h=>h.elim
def o7 (h:DiskAt C H dk df kvs D):dk≠df/\V.ref dk ∉ kvs.map (·.2)/\V.ref df ∉ kvs.map (·.2):=by
 have key:∀ {fs:List (Str × Lc)} {kvs:Ll},FsR H fs kvs->∀ b,V.ref b∈kvs.map (·.2)->∃ xs,H b=some (.lst xs):=by
  intro fs
  induction fs with
  | nil=>
   intro kvs hr b hb
   cases kvs with
   | nil=>simp at hb
   | cons _ _=>exact hr.elim
  | cons p fs ih=>
   intro kvs hr b hb
   cases kvs with
   | nil=>exact hr.elim
   | cons q kvs=>
    obtain⟨_,⟨l,e,g⟩,h3⟩:=hr
    rw[map_cons,mem_cons]at hb
    rcases hb with hb | hb
    ·rw[e]at hb
     cases hb
     exact⟨_,g⟩
    ·exact ih h3 b hb
 obtain⟨dx,h1⟩:=h.self
 refine⟨?_,fun hb=>?_,fun hb=>?_⟩
 ·rintro rfl
  rw[h.files]at h1
  cases h1
 ·obtain⟨xs,e⟩:=key h.rel _ hb
  rw[h1]at e
  cases e
 ·obtain⟨xs,e⟩:=key h.rel _ hb
  rw[h.files]at e
  cases e
def qW (h:DiskAt C H dk df kvs D) (done:Int) (left:Option Int):DiskAt C (upd H dk (.ins C dx (dkF df done left))) dk df kvs ⟨D.fs,done,left⟩:=by
 obtain⟨n1,n2,n3⟩:=o7 h
 refine⟨⟨dx,aB⟩,by rw[aF (Ne.symm n1)]; exact h.files,h.rel.same fun b o e m=>?_,h.nd,h.kn⟩
 rw[aF (fun z=>by rw[z]at m; exact n2 m)]
 exact e
def DiskAt.same (h:DiskAt C H dk df kvs D) (s:aG H H'):DiskAt C H' dk df kvs D:=by
 obtain⟨dx,h1⟩:=h.self
 exact⟨⟨dx,s _ _ h1⟩,s _ _ h.files,h.rel.same fun b o e _=>s b o e,h.nd,h.kn⟩
def iN (D:Dk):Option Dk:=match D.left with
 | none=>some ⟨D.fs,D.done+1,none⟩
 | some n=>if n=0 then none else some ⟨D.fs,D.done+1,some (n - 1)⟩
abbrev oU:Stmt:=bH (top 62) 12
inductive jJ (C:Addr) (aa6:Addr) (vs:Ln) (H:Hp) (Q:VK) (E:XK):Prop
 | mk:∀ (dk df:Addr) (kvs:Ll) (D:Dk),vs=[.ref dk]->DiskAt C H dk df kvs D->(∀ D',iN D=some D'->∀ H',(∀ b o,H b=some o->b≠dk->H' b=some o)->DiskAt C H' dk df kvs D'->Q .non H')->(iN D=none->E (.ref aa6) none H)->jJ C aa6 vs H Q E
section
variable {P:Program} {w:World} {K:K6} {mg:K8} {base:Heap} {aa2 aa5 ab8 aa6 aa1 aa9 aa7:Addr}
def vQ (F:Fun K "count_step" "Disk.count_step" oU f fd) (T:‹1›):‹15› 1 f fd ["self"] (jJ aa7 aa6):=by
 refine F.okY ["self"] fun cdv A outer s H vs Q E hr nD0 h=>?_
 obtain⟨dk,df,kvs,D,rfl,hD,q,qe⟩:=h
 refine⟨_,aA (bA (aQ fM ‹23› aI (bD _))
   (aC (dU eV ⋯ T.an5 ⋯ T.at4 ‹25›))
   aO)
  (aA (bA (aQ zE ‹23› jN (bD _))
   (aC (qI (pv 0) aI Kj))
   aO)
  ‹68›),?_⟩
 obtain⟨dx,h1⟩:=hD.self
 obtain⟨fs,done,left⟩:=D
 unfold iN at q qe
 cases left with
 | none=>
  refine⟨_,rfl,dk,_,dx,_,_,rfl,h1,T.cl,T.ad3,rfl,rfl,_,rfl,bC ?_⟩
  refine cJ rfl ?_
  refine⟨_,rfl,dk,_,dx,_,_,rfl,h1,T.cl,T.ad3,rfl,rfl,_,rfl,bC ?_⟩
  refine cJ rfl ?_
  refine⟨_,rfl,dk,_,dx,_,_,rfl,h1,T.cl,T.am0,rfl,_,_,rfl,rfl,dx,_,h1,(by show 3<1000; decide),?_⟩
  exact q _ rfl _ (fun b o e nb=>by rw[aF nb]; exact e) (qW hD (done+1) none)
 | some n=>
  refine⟨_,rfl,dk,_,dx,_,_,rfl,h1,T.cl,T.ad3,rfl,rfl,_,rfl,?_⟩
  by_cases hn:n=0
  ·subst hn
   refine aT ?_
   exact⟨(by show 1<=sizeLine; decide),qe rfl⟩
  ·have e0:decide (V.int n=V.int 0)=false:=decide_eq_false (fun z=>hn (V.int.inj z))
   show if decide (V.int n=V.int 0)=true then _ else _
   rw[e0]
   refine bC ?_
   refine cJ rfl ?_
   refine⟨_,rfl,dk,_,dx,_,_,rfl,h1,T.cl,T.ad3,rfl,rfl,_,rfl,aT ?_⟩
   refine⟨_,rfl,dk,_,dx,_,_,rfl,h1,T.cl,T.ad3,rfl,_,_,rfl,rfl,dx,_,h1,(by show 3<1000; decide),?_⟩
   have h2:=qW (dx:=dx) hD done (some (n - 1))
   have g2:upd H dk (.ins aa7 dx (dkF df done (some (n - 1)))) dk=some (.ins aa7 dx (dkF df done (some (n - 1)))):=aB
   refine⟨_,rfl,dk,_,dx,_,_,rfl,g2,T.cl,T.am0,rfl,_,_,rfl,rfl,dx,_,g2,(by show 3<1000; decide),?_⟩
   exact q _ (by dsimp only; rw[if_neg hn]) _ (fun b o e nb=>by rw[aF nb,aF nb]; exact e) (qW h2 (done+1) (some (n - 1)))
end
abbrev DN:Stmt:=bH (top 62) 0
abbrev Fz:Stmt:=bH (top 62) 2
abbrev F5:Stmt:=bH (top 62) 5
abbrev DH:Stmt:=bH (top 62) 6
abbrev Fx:Stmt:=bH (top 62) 7
abbrev Fv:Stmt:=bH (top 62) 8
abbrev oX:Stmt:=bH (top 62) 11
def nY (d:PyData):Prop:=∀ x,d = .str x->x.length<=1000/\pT x=true
def AG (h:eU signs l d=true):∃ x,d = .str x:=by
 cases d with
 | str x=>exact⟨x,rfl⟩
 | _=>cases h
inductive jK (C:Addr) (aa2:Addr) (aa5:Addr) (vs:Ln) (H:Hp) (Q:VK) (E:XK):Prop
 | mk:∀ (dk df:Addr) (kvs:Ll) (D:Dk) (v:V) (d:PyData),vs=[.ref dk,v]->DiskAt C H dk df kvs D->Den H d v->nY d->(eU cU 8 d=false->∀ H',aG H H'->E (.ref aa2) none H')->(∀ n,d = .str n->eU cU 8 d=true->(aV D.fs n=none->∀ H',aG H H'->E (.ref aa5) none H')/\(∀ bs,aV D.fs n=some bs->∀ H',aG H H'->Q .non H'))->jK C aa2 aa5 vs H Q E
inductive sH (C:Addr) (aa2:Addr) (aa5:Addr) (vs:Ln) (H:Hp) (Q:VK) (E:XK):Prop
 | mk:∀ (dk df:Addr) (kvs:Ll) (D:Dk) (v:V) (d:PyData),vs=[.ref dk,v]->DiskAt C H dk df kvs D->Den H d v->nY d->(eU cU 8 d=false->∀ H',aG H H'->E (.ref aa2) none H')->(∀ n,d = .str n->eU cU 8 d=true->(aV D.fs n=none->∀ H',aG H H'->E (.ref aa5) none H')/\(∀ bs,aV D.fs n=some bs->∀ p H',aG H H'->H' p=some (.tup (bs.map V.int))->Q (.ref p) H'))->sH C aa2 aa5 vs H Q E
inductive oI (C:Addr) (aa2:Addr) (aa5:Addr) (vs:Ln) (H:Hp) (Q:VK) (E:XK):Prop
 | mk:∀ (dk df:Addr) (kvs:Ll) (D:Dk) (v:V) (d:PyData),vs=[.ref dk,v]->DiskAt C H dk df kvs D->Den H d v->nY d->(eU cU 8 d=false->∀ H',aG H H'->E (.ref aa2) none H')->(∀ n,d = .str n->eU cU 8 d=true->(aV D.fs n=none->∀ H',aG H H'->E (.ref aa5) none H')/\(∀ bs,aV D.fs n=some bs->∀ H',aG H H'->Q (.int (bs.length:Int)) H'))->oI C aa2 aa5 vs H Q E
def JV:PyData->Option Int
 | .int n=>some n
 | _=>none
inductive tL (C:Addr) (aa9:Addr) (vs:Ln) (H:Hp) (Q:VK) (E:XK):Prop
 | mk:∀ (dk dx:Addr) (v:V) (d:PyData),vs=[.ref dk,v]->H dk=some (.ins C dx [])->Den H d v->(kO d=false->E (.ref aa9) none H)->(kO d=true->∀ df H',(∀ b o,H b=some o->b≠dk->H' b=some o)->H df=none->DiskAt C H' dk df [] ⟨[],0,JV d⟩->Q .non H')->tL C aa9 vs H Q E
inductive oM (C:Addr) (aa2:Addr) (ab8:Addr) (aa6:Addr) (vs:Ln) (H:Hp) (Q:VK) (E:XK):Prop
 | mk:∀ (dk df:Addr) (kvs:Ll) (D:Dk) (v:V) (d:PyData),vs=[.ref dk,v]->DiskAt C H dk df kvs D->Den H d v->nY d->D.fs.length<100000->(eU cU 8 d=false->∀ H',aG H H'->E (.ref aa2) none H')->(∀ n,d = .str n->eU cU 8 d=true->(∀ bs,aV D.fs n=some bs->∀ H',aG H H'->E (.ref ab8) none H')/\
  (aV D.fs n=none->(iN D=none->∀ H',aG H H'->E (.ref aa6) none H')/\(∀ D1,iN D=some D1->∀ kvs' H',sC dk df kvs H H'->FL dk df kvs kvs' H->DiskAt C H' dk df kvs' ⟨D1.fs++[(n,[])],D1.done,D1.left⟩->Q .non H')))->oM C aa2 ab8 aa6 vs H Q E
inductive oO (C:Addr) (aa2:Addr) (aa5:Addr) (aa6:Addr) (vs:Ln) (H:Hp) (Q:VK) (E:XK):Prop
 | mk:∀ (dk df:Addr) (kvs:Ll) (D:Dk) (v:V) (d:PyData),vs=[.ref dk,v]->DiskAt C H dk df kvs D->Den H d v->nY d->(eU cU 8 d=false->∀ H',aG H H'->E (.ref aa2) none H')->(∀ n,d = .str n->eU cU 8 d=true->(aV D.fs n=none->∀ H',aG H H'->E (.ref aa5) none H')/\
  (∀ bs,aV D.fs n=some bs->(iN D=none->∀ H',aG H H'->E (.ref aa6) none H')/\(∀ D1,iN D=some D1->∀ kvs' H',sC dk df kvs H H'->FL dk df kvs kvs' H->DiskAt C H' dk df kvs' ⟨gK D1.fs n,D1.done,D1.left⟩->Q .non H')))->oO C aa2 aa5 aa6 vs H Q E
def oF (h:iN D=some D1):D1.fs=D.fs:=by
 unfold iN at h
 split at h
 ·cases (Option.some.inj h)
  rfl
 ·split at h
  ·cases h
  ·cases (Option.some.inj h)
   rfl
def FsR.snoc (hv:zU H v e):∀ {fs:List (Str × Lc)} {kvs:Ll},FsR H fs kvs->FsR H (fs++[(n,e)]) (kvs++[(Sum.inr n,v)])
 | [],[],_=>⟨rfl,hv,trivial⟩
 | p::fs,q::kvs,h=>⟨h.1,h.2.1,FsR.snoc hv h.2.2⟩
 | [],_::_,h=>h.elim
 | _::_,[],h=>h.elim
def FsR.drop:∀ {fs:List (Str × Lc)} {kvs:Ll},FsR H fs kvs->FsR H (gK fs n) (eZ kvs (Sum.inr n))
 | [],[],_=>trivial
 | p::fs,q::kvs,h=>by
  obtain⟨h1,h2,h3⟩:=h
  have ih:=FsR.drop (n:=n) h3
  by_cases z:p.1=n
  ·have e1:gK (p::fs) n=gK fs n:=by simp [gK,z]
   rw[e1,x5 (by rw[h1,z])]
   exact ih
  ·have e1:gK (p::fs) n=p::gK fs n:=by simp [gK,z]
   rw[e1,x6 (by rw[h1,Cl]; exact z)]
   exact⟨h1,h2,ih⟩
 | [],_::_,h=>h.elim
 | _::_,[],h=>h.elim
def Eu (h:aV fs n=none):n ∉ fs.map (·.1):=by
 intro hm
 rw[mem_map]at hm
 obtain⟨p,hp,rfl⟩:=hm
 unfold aV at h
 rw[map_eq_none_iff,find?_eq_none]at h
 exact h p hp (decide_eq_true rfl)
section
variable {P:Program} {w:World} {K:K6} {mg:K8} {base:Heap} {aa2 aa5 ab8 aa6 aa1 aa9 aa7:Addr}
def vT (F:Fun K "check_file" "Disk.check_file" oX f fd) (T:‹1›) (ae2:‹16› "check_name" 2 ["name"] (gS aa2)):‹15› 3 f fd ["self","name"] (jK aa7 aa2 aa5):=by
 refine F.okY ["self","name"] fun cdv A outer s H vs Q E hr nD0 h=>?_
 obtain⟨dk,df,kvs,D,v,d,rfl,hD,hd,hn,qb,q⟩:=h
 refine⟨_,aA (aU (a9 ae2 ‹19› bO ‹29›))
  (aC (bA (nT (mV (hu1 hr.units) (pv 1) ‹23›))
   (aC (dU eV ⋯ T.an4 ⋯ T.bj3 ‹25›))
   aO)),?_⟩
 refine⟨_,rfl,v,d,rfl,hd,hn,fun hw H1 S1=>?_,qb⟩
 obtain⟨n,rfl⟩:=AG hw
 obtain⟨qm,q⟩:=q n rfl hw
 have ev:v = .str n:=by simpa only[Den] using hd
 subst ev
 obtain⟨dx,h1⟩:=hD.self
 refine⟨_,rfl,_,rfl,dk,_,dx,_,_,rfl,S1 _ _ h1,T.cl,T.af5,rfl,df,_,rfl,cS.k (k:=Sum.inr n) (S1 _ _ hD.files),_,rfl,?_⟩
 have hv:=hD.rel.val (n:=n)
 cases he:aV D.fs n with
 | none=>
  rw[he]at hv
  have hv:dM kvs (Sum.inr n)=none:=hv
  rw[hv]
  exact aT ⟨(by show 1<=sizeLine; decide),qm he H1 S1⟩
 | some bs=>
  rw[he]at hv
  obtain⟨v,hv1,_⟩:=hv
  rw[hv1]
  exact bC (q bs he H1 S1)
def IV (F:Fun K "read" "Disk.read" Fx f fd) (T:‹1›) (ah0:‹5›):‹15› 4 f fd ["self","name"] (sH aa7 aa2 aa5):=by
 refine F.okY ["self","name"] fun cdv A outer s H vs Q E hr nD0 h=>?_
 obtain⟨dk,df,kvs,D,v,d,rfl,hD,hd,hn,qb,q⟩:=h
 refine⟨_,aA ‹81›
  (aC (aP (jZ (mJ K) ⋯ T.ai3 pR (aN ‹86› aH)))),?_⟩
 obtain⟨dx,h1⟩:=hD.self
 refine⟨_,rfl,dk,dx,_,rfl,h1,rfl,_,rfl,dk,df,kvs,D,v,d,rfl,hD,hd,hn,qb,fun n en hw=>?_⟩
 obtain⟨qm,q2⟩:=q n en hw
 subst en
 have ev:v = .str n:=by simpa only[Den] using hd
 subst ev
 refine⟨qm,fun bs hbs H1 S1=>?_⟩
 have hv:=hD.rel.val (n:=n)
 rw[hbs]at hv
 obtain⟨v,hv1,l,rfl,gl⟩:=hv
 have dg:cS H1 df (.str n) (some (.ref l)):=by
  have:=cS.k (k:=Sum.inr n) (S1 _ _ hD.files)
  rw[hv1]at this
  exact this
 refine⟨_,rfl,dk,_,dx,_,_,rfl,S1 _ _ h1,T.cl,T.af5,rfl,_,rfl,df,_,rfl,dg,l,_,rfl,.inl ⟨SqL.of (S1 _ _ gl),fun p hp=>?_⟩⟩
 exact q2 bs hbs p _ (S1.trans (aD hp)) aB
def IT (F:Fun K "size" "Disk.size" Fv f fd) (T:‹1›) (ah0:‹5›):‹15› 4 f fd ["self","name"] (oI aa7 aa2 aa5):=by
 refine F.okY ["self","name"] fun cdv A outer s H vs Q E hr nD0 h=>?_
 obtain⟨dk,df,kvs,D,v,d,rfl,hD,hd,hn,qb,q⟩:=h
 refine⟨_,aA ‹81›
  (aC (aP (bF (dC K) ⋯ T.ad2 fV (aN ‹86› aH)))),?_⟩
 obtain⟨dx,h1⟩:=hD.self
 refine⟨_,rfl,dk,dx,_,rfl,h1,rfl,_,rfl,dk,df,kvs,D,v,d,rfl,hD,hd,hn,qb,fun n en hw=>?_⟩
 obtain⟨qm,q2⟩:=q n en hw
 subst en
 have ev:v = .str n:=by simpa only[Den] using hd
 subst ev
 refine⟨qm,fun bs hbs H1 S1=>?_⟩
 have hv:=hD.rel.val (n:=n)
 rw[hbs]at hv
 obtain⟨v,hv1,l,rfl,gl⟩:=hv
 have dg:cS H1 df (.str n) (some (.ref l)):=by
  have:=cS.k (k:=Sum.inr n) (S1 _ _ hD.files)
  rw[hv1]at this
  exact this
 refine⟨_,rfl,dk,_,dx,_,_,rfl,S1 _ _ h1,T.cl,T.af5,rfl,_,rfl,df,_,rfl,dg,l,_,rfl,.inl (SqL.of (S1 _ _ gl)),?_⟩
 rw[length_map]
 exact q2 bs hbs H1 S1
def KZ (hd:Den H d v) (hs:kO d=true):v=JU (JV d):=by
 cases d with
 | none=>simp only[Den]at hd; exact hd
 | int n=>simp only[Den]at hd; exact hd
 | _=>cases hs
def Gg (F:Fun K "__init__" "Disk.__init__" DN f fd) (T:‹1›) (ak4:‹16› "check_steps" 2 ["steps"] (iO aa9)):‹15› 3 f fd ["self","steps"] (tL aa7 aa9):=by
 refine F.okY ["self","steps"] fun cdv A outer s H vs Q E hr nD0 h=>?_
 obtain⟨dk,dx,v,d,rfl,h1,hd,qb,q⟩:=h
 refine⟨_,aA (aU (a9 ak4 ‹19› bO ‹29›))
  (aA (dS (pv 0) jY ⋯)
  (aA (dS (pv 0) aI ⋯)
  (aC (dS (pv 0) (pv 1) ⋯)))),?_⟩
 refine⟨_,rfl,v,d,rfl,hd,fun hs=>?_,qb⟩
 have ev:=KZ hd hs
 subst ev
 refine fun df hdf=>?_
 have ndf:dk≠df:=fun z=>by rw[z,hdf]at h1; cases h1
 refine⟨_,rfl,dk,_,dx,_,rfl,by rw[aF ndf]; exact h1,T.cl,T.af5,(by show 0<1000; decide),?_⟩
 refine⟨_,rfl,dk,_,dx,_,rfl,aB,T.cl,T.am0,(by show 1<1000; decide),?_⟩
 refine⟨_,rfl,_,rfl,dk,_,dx,_,rfl,aB,T.cl,T.ad3,(by show 2<1000; decide),?_⟩
 refine q hs df _ (fun b o e nb=>?_) hdf ⟨⟨dx,?_⟩,?_,trivial,nodup_nil,nodup_nil⟩
 ·rw[aF nb,aF nb,aF nb,aF (fun z=>by rw[z,hdf]at e; cases e)]
  exact e
 ·rw[aB]
  rfl
 ·rw[aF (Ne.symm ndf),aF (Ne.symm ndf),aF (Ne.symm ndf)]
  exact aB
def IX (F:Fun K "make" "Disk.make" Fz f fd) (T:‹1›) (ae2:‹16› "check_name" 2 ["name"] (gS aa2)) (al9:‹11›):‹15› 3 f fd ["self","name"] (oM aa7 aa2 ab8 aa6):=by
 refine F.okY ["self","name"] fun cdv A outer s H vs Q E hr nD0 h=>?_
 obtain⟨dk,df,kvs,D,v,d,rfl,hD,hd,hn,hl,qb,q⟩:=h
 refine⟨_,aA (aU (a9 ae2 ‹19› bO ‹29›))
  (aA (bA (nT (GU (hu1 hr.units) (pv 1) ‹23›))
   (aC (dU eV ⋯ T.ax6 ⋯ T.bk4 ‹25›))
   aO)
  (aA ‹60›
  (aC (fT (hu1 hr.units) ‹23› (pv 1) (cB aH) ⋯)))),?_⟩
 refine⟨_,rfl,v,d,rfl,hd,hn,fun hw H1 S1=>?_,qb⟩
 obtain⟨n,rfl⟩:=AG hw
 obtain⟨qt,q2⟩:=q n rfl hw
 have ev:v = .str n:=by simpa only[Den] using hd
 subst ev
 have hD1:=hD.same S1
 obtain⟨dx,h1⟩:=hD1.self
 refine⟨_,rfl,_,rfl,dk,_,dx,_,_,rfl,h1,T.cl,T.af5,rfl,df,_,rfl,cS.k (k:=Sum.inr n) hD1.files,_,rfl,?_⟩
 have hv:=hD1.rel.val (n:=n)
 cases he:aV D.fs n with
 | some bs=>
  rw[he]at hv
  obtain⟨v,hv1,_⟩:=hv
  rw[hv1]
  exact aT ⟨(by show 1<=sizeLine; decide),qt bs he H1 S1⟩
 | none=>
  rw[he]at hv
  have hv:dM kvs (Sum.inr n)=none:=hv
  rw[hv]
  refine bC ?_
  refine cJ rfl ?_
  obtain⟨qs,q3⟩:=q2 he
  refine⟨_,rfl,dk,dx,_,rfl,h1,rfl,dk,df,kvs,D,rfl,hD1,fun D1 hs H2 f2 hD2=>?_,fun hs=>qs hs H1 S1⟩
  refine⟨(by show 0<=sizeLine; decide),fun l hl3=>?_⟩
  have S3:=aD (o:=.lst []) hl3
  generalize eH3:upd H2 l (.lst [])=H3 at S3 ⊢
  have g3:H3 l=some (.lst []):=by rw[<- eH3]; exact aB
  have hD3:=hD2.same S3
  obtain⟨dx3,h13⟩:=hD3.self
  have hkl:kvs.length<sizeLine:=by rw[hD.rel.len]; exact lt_trans hl (by decide)
  refine⟨_,rfl,dk,_,dx3,_,_,rfl,h13,T.cl,T.af5,rfl,_,rfl,df,_,rfl,kM.k (k:=Sum.inr n) hD3.files hkl,?_⟩
  have epk:eI kvs (Sum.inr n) (V.ref l)=kvs++[(Sum.inr n,V.ref l)]:=GJ _ hv
  rw[epk]
  obtain⟨o1,o2,o3⟩:=o7 hD3
  have nlm:V.ref l ∉ kvs.map (·.2):=fun hm=>by
   have:∀ {fs:List (Str × Lc)} {kvs:Ll},FsR H2 fs kvs->V.ref l∈kvs.map (·.2)->H2 l≠none:=by
    intro fs
    induction fs with
    | nil=>
     intro kvs hr hb
     cases kvs with
     | nil=>simp at hb
     | cons _ _=>exact hr.elim
    | cons p fs ih=>
     intro kvs hr hb
     cases kvs with
     | nil=>exact hr.elim
     | cons q kvs=>
      obtain⟨_,⟨l',e,g⟩,h3⟩:=hr
      rw[map_cons,mem_cons]at hb
      rcases hb with hb | hb
      ·rw[e]at hb
       cases hb
       rw[g]
       exact fun z=>by cases z
      ·exact ih h3 hb
   exact this hD2.rel hm hl3
  have ldf:l≠df:=fun z=>by rw[z,hD2.files]at hl3; cases hl3
  have hl0:H l=none:=by
   cases e:H l with
   | none=>rfl
   | some o=>
    have ldk:l≠dk:=fun z=>by
     obtain⟨dx2,h12⟩:=hD2.self
     rw[z,h12]at hl3
     cases hl3
    rw[f2 l o (S1 _ _ e) ldk]at hl3
    cases hl3
  refine q3 D1 hs (kvs++[(Sum.inr n,V.ref l)]) _ (fun b o e nb=>?_) (fun b hb=>?_) ⟨⟨dx3,by rw[aF o1]; exact h13⟩,aB,?_,?_,?_⟩
  ·have nb1:b≠dk:=fun z=>nb (.inl z)
   have nb2:b≠df:=fun z=>nb (.inr (.inl z))
   rw[aF nb2]
   exact S3 _ _ (f2 b o (S1 _ _ e) nb1)
  ·rcases hb with hb | hb | hb
   ·exact .inl (.inl hb)
   ·exact .inl (.inr (.inl hb))
   ·rw[map_append,mem_append]at hb
    rcases hb with hb | hb
    ·exact .inl (.inr (.inr hb))
    ·have:b=l:=by simpa using hb
     subst this
     exact .inr hl0
  ·refine(hD3.rel.same fun b o e m=>?_).snoc ⟨l,rfl,by rw[aF ldf]; exact g3⟩
   rw[aF (fun z=>by rw[z]at m; exact o3 m)]
   exact e
  ·rw[map_append,nodup_append]
   refine⟨hD.nd,by simp,?_⟩
   intro a ha b hb
   have:b=V.ref l:=by simpa using hb
   subst this
   rintro rfl
   exact nlm ha
  ·show ((D1.fs++[(n,([]:Lc))]).map (·.1)).Nodup
   rw[map_append,nodup_append,oF hs]
   refine⟨hD.kn,by simp,?_⟩
   intro a ha b hb
   have:b=n:=by simpa using hb
   subst this
   rintro rfl
   exact Eu he ha
end
abbrev JM:Stmt:=bH (top 62) 3
abbrev JL:Stmt:=bH (top 62) 4
def fB (fs:List (Str × Lc)) (n:Str) (e:Lc):List (Str × Lc):=fs.map fun p=>if p.1=n then (p.1,e) else p
def mT (fs:List (Str × Lc)) (n:Str) (e:Lc):(fB fs n e).map (·.1)=fs.map (·.1):=by
 unfold fB
 rw[map_map]
 apply map_congr_left
 intro p _
 show (if p.1=n then (p.1,e) else p).1=p.1
 split <;> rfl
def DD (h:n ∉ fs.map (·.1)):fB fs n e=fs:=by
 unfold fB
 have:fs.map (fun p=>if p.1=n then (p.1,e) else p)=fs.map id:=by
  apply map_congr_left
  intro p hp
  rw[if_neg (fun z=>h (by rw[<- z]; exact mem_map_of_mem hp))]
  rfl
 rw[this,List.map_id]
def wM (h:aV fs n=some bs):aV (fB fs n e) n=some e:=by
 induction fs with
 | nil=>cases h
 | cons p fs ih=>
  unfold fB
  rw[map_cons]
  by_cases z:p.1=n
  ·rw[if_pos z]
   simp [aV,z]
  ·rw[if_neg z]
   have h':aV fs n=some bs:=by simpa [aV,z] using h
   have:=ih h'
   unfold fB at this
   simpa [aV,z] using this
def Cy {kvs:Ll} {k:Key} {v:V} (h:dM kvs k=some v):v∈kvs.map (·.2):=by
 unfold dM at h
 rw[Option.map_eq_some_iff]at h
 obtain⟨p,hp,rfl⟩:=h
 exact mem_map_of_mem (List.mem_of_find?_eq_some hp)
def FsR.wr {H:Hp} {n:Str} {l:Addr} {e:Lc}:∀ {fs:List (Str × Lc)} {kvs:Ll},FsR H fs kvs->(kvs.map (·.2)).Nodup->(fs.map (·.1)).Nodup->dM kvs (Sum.inr n)=some (.ref l)->FsR (upd H l (.lst (e.map V.int))) (fB fs n e) kvs
 | [],[],_,_,_,h=>by cases h
 | p::fs,q::kvs,h,nd,kn,hv=>by
  obtain⟨h1,⟨l',e',g⟩,h3⟩:=h
  rw[map_cons,nodup_cons]at nd kn
  by_cases z:p.1=n
  ·have e1:dM (q::kvs) (Sum.inr n)=some q.2:=iK (by rw[h1,z])
   rw[e1]at hv
   have hq:q.2=V.ref l:=Option.some.inj hv
   have es:fB (p::fs) n e=(p.1,e)::fs:=by
    show (if p.1=n then (p.1,e) else p)::fB fs n e=_
    rw[if_pos z,DD (by rw[<- z]; exact kn.1)]
   rw[es]
   refine⟨h1,⟨l,hq,aB⟩,h3.same fun b o eb m=>?_⟩
   rw[aF (fun y=>by rw[y,<- hq]at m; exact nd.1 m)]
   exact eb
  ·have e1:dM (q::kvs) (Sum.inr n)=dM kvs (Sum.inr n):=iM (by rw[h1,Cl]; exact z)
   rw[e1]at hv
   have es:fB (p::fs) n e=p::fB fs n e:=by
    show (if p.1=n then (p.1,e) else p)::fB fs n e=_
    rw[if_neg z]
   rw[es]
   have nl:l'≠l:=fun y=>by
    subst y
    exact nd.1 (by rw[e']; exact Cy hv)
   exact⟨h1,⟨l',e',by rw[aF nl]; exact g⟩,FsR.wr h3 nd.2 kn.2 hv⟩
 | [],_::_,h,_,_,_=>h.elim
 | _::_,[],h,_,_,_=>h.elim
def FI (hd:Den H d v) (hb:cV d=true):∃ a bs,d = .tuple bs/\v = .ref a/\H a=some (.tup ((bN d).map V.int))/\(bN d).length=bs.length:=by
 cases d with
 | tuple bs=>
  simp only[Den]at hd
  obtain⟨a,ys,rfl,ha,hbs⟩:=hd
  have ei:=mK hbs hb
  subst ei
  exact⟨a,bs,rfl,rfl,ha,length_map _⟩
 | _=>exact absurd hb (by simp [cV])
def sB (n:Str):Dk->Lc->Dk × Bool
 | D,[]=>(D,true)
 | D,b::bs=>match iN D with
  | none=>(D,false)
  | some D1=>sB n ⟨fB D1.fs n ((aV D1.fs n).getD []++[b]),D1.done,D1.left⟩ bs
inductive yY (C:Addr) (aa2:Addr) (aa5:Addr) (aa1:Addr) (aa6:Addr) (vs:Ln) (H:Hp) (Q:VK) (E:XK):Prop
 | mk:∀ (dk df:Addr) (kvs:Ll) (D:Dk) (v v2:V) (d d2:PyData),vs=[.ref dk,v,v2]->DiskAt C H dk df kvs D->Den H d v->nY d->Den H d2 v2->(∀ bs,d2 = .tuple bs->bs.length<=100000)->(∀ n bs,aV D.fs n=some bs->bs.length<=100000)->(eU cU 8 d=false->∀ H',aG H H'->E (.ref aa2) none H')->(∀ n,d = .str n->eU cU 8 d=true->(aV D.fs n=none->∀ H',aG H H'->E (.ref aa5) none H')/\
  (∀ bs,aV D.fs n=some bs->(cV d2=false->∀ H',aG H H'->E (.ref aa1) none H')/\(cV d2=true->∀ H',sC dk df kvs H H'->DiskAt C H' dk df kvs (sB n D (bN d2)).1->((sB n D (bN d2)).2=true->Q .non H')/\((sB n D (bN d2)).2=false->E (.ref aa6) none H'))))->yY C aa2 aa5 aa1 aa6 vs H Q E
section
variable {P:Program} {w:World} {K:K6} {mg:K8} {base:Heap} {aa2 aa5 ab8 aa6 aa1 aa9 aa7:Addr}
def Ia (F:Fun K "drop" "Disk.drop" F5 f fd) (T:‹1›) (ah0:‹5›) (al9:‹11›):‹15› 4 f fd ["self","name"] (oO aa7 aa2 aa5 aa6):=by
 refine F.okY ["self","name"] fun cdv A outer s H vs Q E hr nD0 h=>?_
 obtain⟨dk,df,kvs,D,v,d,rfl,hD,hd,hn,qb,q⟩:=h
 refine⟨_,aA ‹81›
  (aA ‹60›
  (aC (aU (iU K PySem.F.plainAttrs_dict PySem.F.slot_dict_pop PySem.F.type_dict_pop pA ‹23› ‹29›)))),?_⟩
 obtain⟨dx,h1⟩:=hD.self
 refine⟨_,rfl,dk,dx,_,rfl,h1,rfl,_,rfl,dk,df,kvs,D,v,d,rfl,hD,hd,hn,qb,fun n en hw=>?_⟩
 obtain⟨qm,q2⟩:=q n en hw
 subst en
 have ev:v = .str n:=by simpa only[Den] using hd
 subst ev
 refine⟨qm,fun bs hbs H1 S1=>?_⟩
 obtain⟨qs,q3⟩:=q2 bs hbs
 have hD1:=hD.same S1
 refine⟨_,rfl,dk,dx,_,rfl,S1 _ _ h1,rfl,dk,df,kvs,D,rfl,hD1,fun D1 hs H2 f2 hD2=>?_,fun hs=>qs hs H1 S1⟩
 obtain⟨dx2,h12⟩:=hD2.self
 have hv:=hD2.rel.val (n:=n)
 rw[oF hs,hbs]at hv
 obtain⟨v,hv1,_⟩:=hv
 refine⟨_,rfl,dk,_,dx2,_,_,rfl,h12,T.cl,T.af5,rfl,.inr (.inr (.inl ⟨rfl,.inl ⟨kvs,hD2.files⟩⟩)),_,rfl,df,kvs,Sum.inr n,_,rfl,rfl,hD2.files,hv1,?_⟩
 obtain⟨o1,o2,o3⟩:=o7 hD2
 have sub:(eZ kvs (Sum.inr n)).Sublist kvs:=List.filter_sublist
 have subf:(gK D1.fs n).Sublist D1.fs:=List.filter_sublist
 refine q3 D1 hs (eZ kvs (Sum.inr n)) _ (fun b o e nb=>?_) (fun b hb=>?_) ⟨⟨dx2,by rw[aF o1]; exact h12⟩,aB,?_,?_,?_⟩
 ·rw[aF (fun z=>nb (.inr (.inl z)))]
  exact f2 b o (S1 _ _ e) (fun z=>nb (.inl z))
 ·rcases hb with hb | hb | hb
  ·exact .inl (.inl hb)
  ·exact .inl (.inr (.inl hb))
  ·exact .inl (.inr (.inr ((sub.map _).subset hb)))
 ·refine(hD2.rel.drop (n:=n)).same fun b o e m=>?_
  rw[aF (fun z=>by rw[z]at m; exact o3 ((sub.map _).subset m))]
  exact e
 ·exact hD2.nd.sublist (sub.map _)
 ·exact hD2.kn.sublist (subf.map _)
def KP {f:Addr} {fd:Lh} (F:Fun K "add" "Disk.add" JM f fd) (T:‹1›) (ac9:‹16› "is_bytes" 2 ["thing"] gX) (ah0:‹5›) (al9:‹11›):‹15› 4 f fd ["self","name","some"] (yY aa7 aa2 aa5 aa1 aa6):=by
 refine F.okY ["self","name","some","one"] fun cdv A outer s H vs Q E hr nD0 h=>?_
 obtain⟨dk,df,kvs,D,v,v2,d,d2,rfl,hD,hd,hn,hd2,hz2,hzf,qb,q⟩:=h
 refine⟨_,aA ‹81›
  (aA (bA (cK (dG (a9 ac9 ‹19› aX ‹37›)))
   ‹89›
   aO)
  (aC (fY (lQ eO) ⋯ (zC K (pv 2)) ‹54›
   (aA ‹60›
   (aC (aU (iU K PySem.F.plainAttrs_list PySem.F.slot_list_append PySem.F.type_list_append iG ‹86› ‹50›))))))),?_⟩
 obtain⟨dx,h1⟩:=hD.self
 refine⟨_,rfl,dk,dx,_,rfl,h1,rfl,_,rfl,dk,df,kvs,D,v,d,rfl,hD,hd,hn,qb,fun n en hw=>?_⟩
 obtain⟨qm,q2⟩:=q n en hw
 subst en
 have ev:v = .str n:=by simpa only[Den] using hd
 subst ev
 refine⟨qm,fun bs hbs H1 S1=>?_⟩
 obtain⟨qr,q3⟩:=q2 bs hbs
 refine⟨_,rfl,v2,d2,rfl,hd2.same S1,fun ds e=>le_trans (hz2 ds e) (by decide),fun H2 S2=>⟨_,rfl,?_⟩⟩
 have S02:aG H H2:=S1.trans S2
 cases hb:cV d2 with
 | false=>exact aT ⟨(by show 1<=sizeLine; decide),qr hb H2 S02⟩
 | true=>
 refine bC ?_
 refine cJ rfl ?_
 have q4:=q3 hb
 have hD2:=hD.same S02
 obtain⟨a2,bs2,rfl,rfl,ga2,l2⟩:=FI hd2 hb
 have z2:=hz2 bs2 rfl
 have zf:=hzf n bs hbs
 generalize bN (.tuple bs2)=ns at ga2 l2 q4
 have ga:H2 a2=some (.tup (ns.map V.int)):=S02 _ _ ga2
 refine⟨_,rfl,a2,rfl,⟨_,SqT.of ga⟩,?_⟩
 have sq0:SqT K (fun a=>if a=a2 then some (.tup (ns.map V.int)) else none) a2 (ns.map V.int):=SqT.of (if_pos rfl)
 have lm:(ns.map V.int).length=ns.length:=length_map _
 have na:¬ own dk df kvs a2:=by
  rintro (z | z | z)
  ·obtain⟨dx2,h12⟩:=hD2.self
   rw[z,h12]at ga
   cases ga
  ·rw[z,hD2.files]at ga
   cases ga
  ·have key:∀ {fs:List (Str × Lc)} {kvs:Ll},FsR H2 fs kvs->V.ref a2∈kvs.map (·.2)->∃ xs,H2 a2=some (.lst xs):=by
    intro fs
    induction fs with
    | nil=>
     intro kvs hr hb
     cases kvs with
     | nil=>simp at hb
     | cons _ _=>exact hr.elim
    | cons p fs ih=>
     intro kvs hr hb
     cases kvs with
     | nil=>exact hr.elim
     | cons q kvs=>
      obtain⟨_,⟨l',e,g⟩,h3⟩:=hr
      rw[map_cons,mem_cons]at hb
      rcases hb with hb | hb
      ·rw[e]at hb
       cases hb
       exact⟨_,g⟩
      ·exact ih h3 hb
   obtain⟨xs,e⟩:=key hD2.rel z
   rw[ga]at e
   cases e
 refine gA (H0:=fun a=>if a=a2 then some (.tup (ns.map V.int)) else none) (sF (K:=K) sq0) (fun i σ H'=>H' a2=some (.tup (ns.map V.int))/\sC dk df kvs H H'/\∃ Di bsi z3,DiskAt aa7 H' dk df kvs Di/\aV Di.fs n=some bsi/\bsi.length<=bs.length+i/\sB n D ns=sB n Di (ns.drop i)/\σ = [some (.ref dk),some (.str n),some (.ref a2),z3]) ?i0 ?kp ?_ ?_
 case i0=>exact⟨ga,fun b o e _=>S02 b o e,D,bs,none,hD2,hbs,le_refl _,rfl,rfl⟩
 case kp=>
  intro i σ H' h b o e
  by_cases z:b=a2
  ·subst z
   have e:some (HO.tup (ns.map V.int))=some o:=by simpa using e
   rw[<- e]
   exact h.1
  ·have e:none=some o:=by simpa [z] using e
   cases e
 ·rintro i x σ H5 H6 hi ⟨g5,f5,Di,bsi,z3,hDi,hlk,hlen,hadd,rfl⟩ s6 hx
  rw[lm]at hi
  rw[getElem?_map,getElem?_eq_getElem hi]at hx
  cases hx
  rw[List.drop_eq_getElem_cons hi]at hadd
  have hD6:=hDi.same s6
  obtain⟨dx6,h16⟩:=hD6.self
  have f6:sC dk df kvs H H6:=fun b o e nb=>s6 _ _ (f5 b o e nb)
  refine⟨_,rfl,dk,dx6,_,rfl,h16,rfl,dk,df,kvs,Di,rfl,hD6,fun D1 hs H7 f7 hD7=>?_,fun hs=>?_⟩
  ·obtain⟨dx7,h17⟩:=hD7.self
   have hv:=hD7.rel.val (n:=n)
   rw[oF hs,hlk]at hv
   obtain⟨v7,hv1,l,rfl,gl⟩:=hv
   have dg:cS H7 df (.str n) (some (.ref l)):=by
    have:=cS.k (k:=Sum.inr n) hD7.files
    rw[hv1]at this
    exact this
   refine⟨_,rfl,dk,_,dx7,_,_,rfl,h17,T.cl,T.af5,rfl,_,rfl,df,_,rfl,dg,.inl ⟨rfl,_,SqL.of gl⟩,_,rfl,l,_,_,rfl,rfl,gl,?_,?_⟩
   ·rw[length_map]
    exact lt_of_le_of_lt (show _<=200000 by omega) (by decide)
   have hlm:=Cy hv1
   have em:bsi.map V.int++[V.int ns[i]]=(bsi++[ns[i]]).map V.int:=by rw[map_append]; rfl
   rw[em]
   obtain⟨o1,o2,o3⟩:=o7 hD7
   have nl:a2≠l:=fun z=>na (.inr (.inr (by rw[z]; exact hlm)))
   have nk:a2≠dk:=fun z=>na (.inl z)
   refine⟨?_,fun b o e nb=>?_,⟨fB D1.fs n (bsi++[ns[i]]),D1.done,D1.left⟩,bsi++[ns[i]],_,⟨⟨dx7,?_⟩,?_,hD7.rel.wr hD7.nd hD7.kn hv1,hD7.nd,?_⟩,?_,?_,?_,rfl⟩
   ·rw[aF nl]
    exact f7 _ _ (s6 _ _ g5) nk
   ·rw[aF (fun z=>nb (.inr (.inr (by rw[z]; exact hlm))))]
    exact f7 _ _ (f6 b o e nb) (fun z=>nb (.inl z))
   ·rw[aF (fun z=>by rw[<- z]at hlm; exact o2 hlm)]
    exact h17
   ·rw[aF (fun z=>by rw[<- z]at hlm; exact o3 hlm)]
    exact hD7.files
   ·show ((fB D1.fs n (bsi++[ns[i]])).map (·.1)).Nodup
    rw[mT]
    exact hD7.kn
   ·show aV (fB D1.fs n (bsi++[ns[i]])) n=_
    rw[oF hs]
    exact wM hlk
   ·rw[length_append]
    show bsi.length+1<=_
    omega
   ·rw[hadd]
    show (match iN Di with | none=>(Di,false) | some D1=>sB n ⟨fB D1.fs n ((aV D1.fs n).getD []++[ns[i]]),D1.done,D1.left⟩ (ns.drop (i+1)))=_
    rw[hs]
    try dsimp only
    rw[oF hs,hlk]
    rfl
  ·have e1:sB n D ns=(Di,false):=by
    rw[hadd]
    show (match iN Di with | none=>(Di,false) | some D1=>sB n ⟨fB D1.fs n ((aV D1.fs n).getD []++[ns[i]]),D1.done,D1.left⟩ (ns.drop (i+1)))=_
    rw[hs]
   rw[e1]at q4
   exact(q4 H6 f6 hD6).2 rfl
 ·rintro σ H5 ⟨g5,f5,Di,bsi,z3,hDi,hlk,hlen,hadd,rfl⟩
  rw[lm,List.drop_of_length_le (le_refl _)]at hadd
  have e1:sB n D ns=(Di,true):=hadd
  rw[e1]at q4
  exact(q4 H5 f5 hDi).1 rfl
end
def vC:∀ {fs:List (Str × Lc)} {kvs:Ll},FsR H fs kvs->∀ {b:Addr},V.ref b∈kvs.map (·.2)->∃ xs,H b=some (.lst xs)
 | [],[],_,b,h=>by simp at h
 | p::fs,q::kvs,hr,b,hb=>by
  obtain⟨_,⟨l',e,g⟩,h3⟩:=hr
  rw[map_cons,mem_cons]at hb
  rcases hb with hb | hb
  ·rw[e]at hb
   cases hb
   exact⟨_,g⟩
  ·exact vC h3 hb
 | [],_::_,h,_,_=>h.elim
 | _::_,[],h,_,_=>h.elim
section
variable {P:Program} {w:World} {K:K6} {mg:K8} {base:Heap} {aa2 aa5 ab8 aa6 aa1 aa9 aa7:Addr}
end
structure Ad where
 cT:Addr
 badRow:Addr
 broken:Addr
 book:Addr
 badName:Addr
 missing:Addr
 there:Addr
 stopped:Addr
 badNumber:Addr
 disk:Addr
 queue:Addr
 badSettings:Addr
 badBody:Addr
 badHand:Addr
 notHeld:Addr
structure TxtQ (K:K6) (mg:K8) (A:Ad):Prop where
 ad2:mg "len" = none
 ba3:mg "int" = none
 af4:mg "sorted" = none
 ax4:mg "sum" = none
 af3:dJ K A.broken=true
 ba0:mg "Broken" = some (.ref A.broken)
 ac6:Cls K A.book
 ad4:Cls K A.disk
 aa0:Cls K A.queue
 bk5:mg "min" = none
 bc7:∃ t,mg "LARGEST_MOST" = some (.int 2000 t)
 bc8:∃ t,mg "LONGEST_HOLD" = some (.int 99 t)
 ba6:∃ t,mg "HIGHEST_TRIES" = some (.int 9 t)
 bg9:∃ t,mg "HAND_SIGNS" = some (.str "abcdefghijklmnopqrstuvwxyz" t)
 bc9:∃ t,mg "LONGEST_HAND" = some (.int 6 t)
 ad1:∃ t,mg "HIGHEST_NUMBER" = some (.int 999999 t)
 ah1:∃ t,mg "HIGHEST_TIMES" = some (.int 9 t)
 ag1:dJ K A.badSettings=true
 bf8:mg "BadSettings" = some (.ref A.badSettings)
 aj7:dJ K A.badBody=true
 be4:mg "BadBody" = some (.ref A.badBody)
 an6:dJ K A.badHand=true
 bj4:mg "BadHand" = some (.ref A.badHand)
 aj8:dJ K A.notHeld=true
 be5:mg "NotHeld" = some (.ref A.notHeld)
 ab7:dH K A.book "upcoming"
 ap5:dH K A.queue "disk"
 bj5:dH K A.queue "most"
 bj6:dH K A.queue "hold"
 bd0:dH K A.queue "tries"
 ad9:dH K A.queue "book"
 ai6:dH K A.queue "first"
 aj9:dH K A.queue "last"
 an7:dH K A.queue "writing"
 ac4:dH K A.queue "holders"
 ba7:dH K A.queue "now"
 ac1:mg "isinstance" = none
 ai3:mg "tuple" = none
 af9:mg "enumerate" = none
 ai4:mg "range" = none
 at1:mg "list" = none
 ai5:∃ t,mg "LARGEST_DEAL" = some (.int 9 t)
 ae9:dJ K A.badNumber=true
 ax9:mg "BadNumber" = some (.ref A.badNumber)
def bI (n:Int):Str:=("s" : Str)++Str.ofString (toString n)
abbrev lY:Stmt:=top 48
abbrev oR:Stmt:=top 49
def eX (n:Int):Prop:=0<=n/\n<10000000
def Da (h:eX n):1<=(Str.ofString (toString n)).length/\(Str.ofString (toString n)).length<=7:=⟨PySem.W.KLn.one_le h.1,PyProof.Rows.toString_length_le h.1 (by decide) h.2⟩
def G4 (m:Nat):Builtin.Str.strSliceIndices (some 1) none 1 (m+1)=(List.range m).map (· + 1):=by
 have e1:Builtin.Str.strSliceIndices (some 1) none 1 (m+1)=sliceRange (max 0 (min 1 ((m+1:Nat):Int))) ((m+1:Nat):Int) 1:=rfl
 have e2:(max 0 (min 1 ((m+1:Nat):Int)):Int)=1:=by omega
 rw[e1,e2]
 unfold sliceRange
 simp only[show (1:Int) > 0 by decide,if_true]
 have e3:(if (1:Int)<((m+1:Nat):Int) then (((m+1:Nat):Int) - 1+1 - 1) / 1 else 0)=(m:Int):=by
  split <;> omega
 rw[e3,Int.toNat_natCast]
 apply map_congr_left
 intro k _
 omega
def Bz (c:Nat):∀ cs:List Nat,((List.range cs.length).map (· + 1)).filterMap (fun i=>(c::cs)[i]?)=cs
 | cs=>by
  rw[List.filterMap_map]
  have:((fun i=>(c::cs)[i]?) ∘ fun x=>x+1)=fun i=>cs[i]?:=by
   funext i
   rfl
  rw[this]
  apply ext_getElem?
  intro i
  have key:∀ (l:List Nat) (k:Nat),k<=l.length->(List.range k).filterMap (fun i=>l[i]?)=l.take k:=by
   intro l k
   induction k with
   | zero=>intro _; rfl
   | succ k ih=>
    intro hk
    rw[List.range_succ,List.filterMap_append,ih (by omega),take_succ,getElem?_eq_getElem (by omega)]
    simp [getElem?_eq_getElem (show k<l.length by omega)]
  rw[key cs cs.length (le_refl _),take_length]
def B8 (h:x.cps.toList=c::cs):Txt.slice x (some 1) none=⟨cs.toArray⟩:=by
 have hl:x.length=cs.length+1:=by
  show x.cps.size=_
  rw[<- length_toList,h]
  rfl
 unfold Txt.slice
 rw[hl,G4,if_neg (by simp)]
 have e:(fun i:Nat=>x.cps[i]?)=fun i=>(c::cs)[i]?:=by
  funext i
  rw[<- Array.getElem?_toList,h]
 rw[e,Bz]
def Ce {n:Int} (h:0<=n):∀ c∈(Str.ofString (toString n)).cps.toList,48<=c/\c<=57:=by
 obtain⟨m,rfl⟩:=Int.eq_ofNat_of_zero_le h
 intro c hc
 rw[PySem.W.KIN.signs_num]at hc
 obtain⟨ch,hch,e⟩:=mem_map.mp hc
 have r:=PyProof.Rows.digit_range (Nat.isDigit_of_mem_toDigits (by decide) (by decide) hch)
 rw[<- e]
 exact r
def DF (n:Int):(bI n).cps.toList=115::(Str.ofString (toString n)).cps.toList:=by
 show ((("s" : Str)).cps++(Str.ofString (toString n)).cps).toList=_
 rw[Array.toList_append]
 rfl
def wN (n:Int):Txt.slice (bI n) (some 1) none=Str.ofString (toString n):=by
 rw[B8 (DF n),Array.toArray_toList]
def DE (h:eX n):(bI n).length<=8:=by
 have:=(Da h).2
 unfold bI
 rw[strLen_append]
 show 1+_<=8
 omega
inductive hU (vs:Ln) (H:Hp) (Q:VK) (x_3:XK):Prop
 | mk:∀ n:Int,vs=[.int n]->eX n->Q (.str (bI n)) H->hU vs H Q x_3
section
variable {P:Program} {w:World} {K:K6} {mg:K8} {base:Heap} {A:Ad}
def rX (F:Fun K "segment_name" "segment_name" lY f fd):‹15› 1 f fd ["segment"] hU:=by
 refine F.okY ["segment"] fun cdv A outer s H vs Q E hr nD0 h=>?_
 obtain⟨n,rfl,⟨h0,h1⟩,q⟩:=h
 refine⟨_,aC (aP (pe_fw (pv 0))),?_⟩
 exact⟨_,rfl,n,rfl,h0,Int.lt_of_lt_of_le h1 (by decide),q⟩
end
abbrev nE:Stmt:=top 50
section
variable {P:Program} {w:World} {K:K6} {mg:K8} {base:Heap} {A:Ad}
end
abbrev wQ:Stmt:=top 51
section
variable {P:Program} {w:World} {K:K6} {mg:K8} {base:Heap} {A:Ad}
end
abbrev wS:Stmt:=top 52
def wO (h:eX n):∀ c∈(bI n).cps.toList,c=115\/(48<=c/\c<=57):=by
 intro c hc
 rw[DF]at hc
 rcases mem_cons.mp hc with z | z
 ·exact .inl z
 ·exact .inr (Ce h.1 c z)
def lX (h:eX n):eU cU 8 (.str (bI n))=true:=by
 have h1:1<=(bI n).length:=by
  have:=(Da h).1
  unfold bI
  rw[strLen_append]
  omega
 have h2:=DE h
 have hd:∀ c:Nat,c<58->48<=c->inS cU c=true:=by decide +kernel
 have hs:inS cU 115=true:=by decide +kernel
 show ((decide (1<=((bI n).length:Int)) && decide (((bI n).length:Int)<=8)) && (bI n).cps.toList.all (inS cU))=true
 rw[decide_eq_true (by omega),decide_eq_true (by omega),Bool.true_and,Bool.true_and,all_eq_true]
 intro c hc
 rcases wO h c hc with z | ⟨z1,z2⟩
 ·rw[z]; exact hs
 ·exact hd c (by omega) z1
def tU (h:eX n):nY (.str (bI n)):=by
 intro x e
 injection e with e
 subst e
 refine⟨le_trans (DE h) (by decide),?_⟩
 unfold pT
 rw[<- Array.all_toList,all_eq_true]
 intro c hc
 rcases wO h c hc with z | ⟨z1,z2⟩ <;> exact decide_eq_true (by omega)
section
variable {P:Program} {w:World} {K:K6} {mg:K8} {base:Heap} {A:Ad}
end
abbrev xE:Stmt:=top 53
def BE (h:n∈fs.map (·.1)):∃ bs,aV fs n=some bs:=by
 unfold aV
 cases e:fs.find? fun p=>decide (p.1=n) with
 | none=>
  rw[find?_eq_none]at e
  rw[mem_map]at h
  obtain⟨p,hp,he⟩:=h
  exact absurd (decide_eq_true he) (e p hp)
 | some p=>exact⟨p.2,rfl⟩
section
variable {P:Program} {w:World} {K:K6} {mg:K8} {base:Heap} {A:Ad}
end
abbrev jV:Stmt:=top 44
abbrev oZ:Stmt:=top 45
abbrev oW:Stmt:=top 47
def xV:Str:="abcdefghijklmnopqrstuvwxyz"
def oQ (d1 d2 d3:PyData):Bool:=bM 1 2000 d1 && (bM 0 99 d2 && bM 1 9 d3)
inductive fX (A:Ad) (vs:Ln) (H:Hp) (Q:VK) (E:XK):Prop
 | mk:∀ (v1 v2 v3:V) (d1 d2 d3:PyData),vs=[v1,v2,v3]->Den H d1 v1->Den H d2 v2->Den H d3 v3->(oQ d1 d2 d3=true->Q .non H)->(oQ d1 d2 d3=false->E (.ref A.badSettings) none H)->fX A vs H Q E
inductive gT (A:Ad) (vs:Ln) (H:Hp) (Q:VK) (E:XK):Prop
 | mk:∀ (v:V) (d:PyData),vs=[v]->Den H d v->(∀ x,d = .str x->x.length<=1000/\pT x=true)->(eU xV 6 d=true->∀ H',aG H H'->Q .non H')->(eU xV 6 d=false->∀ H',aG H H'->E (.ref A.badHand) none H')->gT A vs H Q E
inductive gU (A:Ad) (vs:Ln) (H:Hp) (Q:VK) (E:XK):Prop
 | mk:∀ (v:V) (d:PyData),vs=[v]->Den H d v->(∀ bs,d = .tuple bs->bs.length<=sizeLine)->(bK (.tuple [.str "put",.int 0,d])=true->∀ H',aG H H'->Q .non H')->(bK (.tuple [.str "put",.int 0,d])=false->∀ H',aG H H'->E (.ref A.badBody) none H')->gU A vs H Q E
section
variable {P:Program} {w:World} {K:K6} {mg:K8} {base:Heap} {A:Ad}
def o9 (F:Fun K "check_settings" "check_settings" jV f fd) (T:‹3›) (ab1:‹2›):‹15› 2 f fd ["most","hold","tries"] (fX A):=by
 obtain⟨_,ba8⟩:=T.bc7
 obtain⟨_,ba9⟩:=T.bc8
 obtain⟨_,ba1⟩:=T.ba6
 refine F.okY ["most","hold","tries"] fun cdv A' outer s H vs Q E hr nD0 h=>?_
 obtain⟨v1,v2,v3,d1,d2,d3,rfl,h1,h2,h3,q,qe⟩:=h
 refine⟨_,aA (bA (cK (dG (a9 ab1 ‹19› aX (aE (pv 0) (aM aI (aE (cI (v:=.int 2000) ⋯ ba8 ⟨_,rfl⟩) aH))))))
   ‹85›
   aO)
  (aA (bA (cK (dG (a9 ab1 ‹19› aX (aE (pv 1) (aM aI (aE (cI (v:=.int 99) ⋯ ba9 ⟨_,rfl⟩) aH))))))
   ‹85›
   aO)
  (aC (bA (cK (dG (a9 ab1 ‹19› aX (aE (pv 2) (aM aI (aE (cI (v:=.int 9) ⋯ ba1 ⟨_,rfl⟩) aH))))))
   ‹85›
   aO))),?_⟩
 unfold oQ at q qe
 have one:(1:Nat)<=sizeLine:=by decide
 refine⟨_,rfl,v1,d1,1,2000,rfl,h1,_,rfl,?_⟩
 cases e1:bM 1 2000 d1 with
 | false=>
  rw[e1]at qe
  exact aT ⟨one,qe rfl⟩
 | true=>
 rw[e1]at q qe
 refine bC (cJ rfl ?_)
 refine⟨_,rfl,v2,d2,0,99,rfl,h2,_,rfl,?_⟩
 cases e2:bM 0 99 d2 with
 | false=>
  rw[e2]at qe
  exact aT ⟨one,qe rfl⟩
 | true=>
 rw[e2]at q qe
 refine bC (cJ rfl ?_)
 refine⟨_,rfl,v3,d3,1,9,rfl,h3,_,rfl,?_⟩
 cases e3:bM 1 9 d3 with
 | false=>
  rw[e3]at qe
  exact aT ⟨one,qe rfl⟩
 | true=>
 rw[e3]at q
 exact bC (q rfl)
def vS (F:Fun K "check_hand" "check_hand" oW f fd) (T:‹3›) (ag8:‹16› "is_word" 1 ["thing","signs","longest"] kX):‹15› 2 f fd ["hand"] (gT A):=by
 obtain⟨_,bg2⟩:=T.bg9
 obtain⟨_,bb0⟩:=T.bc9
 refine F.okY ["hand"] fun cdv A' outer s H vs Q E hr nD0 h=>?_
 obtain⟨v,d,rfl,hd,hz,q,qe⟩:=h
 refine⟨_,aC (bA (cK (dG (a9 ag8 ‹19› aX (aE (pv 0) (aE (cI (v:=.str "abcdefghijklmnopqrstuvwxyz") ⋯ bg2 ⟨_,rfl⟩) (aE (cI (v:=.int 6) ⋯ bb0 ⟨_,rfl⟩) aH))))))
   (aC (dU eV ⋯ T.an6 ⋯ T.bj4 ‹25›))
   aO),?_⟩
 refine⟨_,rfl,v,d,xV,6,rfl,hd,hz,fun H1 S1=>⟨_,rfl,?_⟩⟩
 cases hb:eU xV 6 d with
 | false=>exact aT ⟨(by show 1<=sizeLine; decide),qe hb H1 S1⟩
 | true=>exact bC (q hb H1 S1)
def vV (F:Fun K "check_body" "check_body" oZ f fd) (T:‹3›) (ae6:‹16› "is_row" 3 ["thing"] jT):‹15› 4 f fd ["body"] (gU A):=by
 refine F.okY ["body"] fun cdv A' outer s H vs Q E hr nD0 h=>?_
 obtain⟨v,d,rfl,hd,hz,q,qe⟩:=h
 refine⟨_,aC (bA (cK (dG (a9 ae6 ‹19› aX (bU (bE (aM bL (aM aI ‹36›))) aH))))
   (aC (dU eV ⋯ T.aj7 ⋯ T.be4 ‹25›))
   aO),?_⟩
 refine⟨_,rfl,aJ,fun p hp=>?_⟩
 have S:=aD (o:=.tup [.str "put",.int 0,v]) hp
 refine⟨.ref p,.tuple [.str "put",.int 0,d],rfl,?_,fun k n bs e=>?_,fun H1 S1=>⟨_,rfl,?_⟩⟩
 ·simp only[Den,aR]
  exact⟨p,_,rfl,aB,_,_,rfl,rfl,_,_,rfl,rfl,_,_,rfl,hd.same S,rfl⟩
 ·injection e with e
  injection e with _ e
  injection e with _ e
  injection e with e _
  exact hz bs e
 cases hb:bK (.tuple [.str "put",.int 0,d]) with
 | false=>exact aT ⟨(by show 1<=sizeLine; decide),qe hb H1 (S.trans S1)⟩
 | true=>exact bC (q hb H1 (S.trans S1))
end
abbrev rD:Stmt:=top 54
def mkN (D:Dk) (n:Str):Dk:=⟨D.fs++[(n,[])],D.done+1,none⟩
def Dz (D:Dk) (n:Str):Dk:=⟨gK D.fs n,D.done+1,none⟩
def tR (D:Dk) (n:Str) (bs:Lc) (k:Nat):Dk:=⟨fB D.fs n bs,D.done+(k:Int),none⟩
def jR (h:D.left=none):iN D=some ⟨D.fs,D.done+1,none⟩:=by
 unfold iN
 rw[h]
def Fq (fs:List (Str × Lc)) (n:Str) (a b:Lc):fB (fB fs n a) n b=fB fs n b:=by
 unfold fB
 rw[map_map]
 apply map_congr_left
 intro p _
 by_cases z:p.1=n
 ·simp [z]
 ·simp [z]
def wL:∀ {fs:List (Str × Lc)},(fs.map (·.1)).Nodup->aV fs n=some bs->fB fs n bs=fs
 | [],_,_=>rfl
 | p::fs,hn,h=>by
  rw[map_cons,nodup_cons]at hn
  show (if p.1=n then (p.1,bs) else p)::fB fs n bs=_
  by_cases z:p.1=n
  ·have e:aV (p::fs) n=some p.2:=by simp [aV,z]
   rw[e]at h
   cases h
   rw[if_pos z,DD (fun m=>hn.1 (by rw[z]; exact m))]
  ·have e:aV (p::fs) n=aV fs n:=by simp [aV,z]
   rw[e]at h
   rw[if_neg z,wL hn.2 h]
def yN:∀ {ns:Lc} {D:Dk} {bs:Lc},D.left=none->(D.fs.map (·.1)).Nodup->aV D.fs n=some bs->sB n D ns=(tR D n (bs++ns) ns.length,true)
 | [],D,bs,hl,hk,hb=>by
  obtain⟨fs,done,left⟩:=D
  have hl:left=none:=hl
  subst hl
  show ((⟨fs,done,none⟩:Dk),true)=(⟨fB fs n (bs++[]),done+((0:Nat):Int),none⟩,true)
  rw[append_nil,wL hk hb]
  simp
 | b::ns,D,bs,hl,hk,hb=>by
  show (match iN D with | none=>(D,false) | some D1=>sB n ⟨fB D1.fs n ((aV D1.fs n).getD []++[b]),D1.done,D1.left⟩ ns)=_
  rw[jR hl]
  try dsimp only
  rw[hb,yN (bs:=bs++[b]) rfl (by rw[mT]; exact hk) (wM hb)]
  unfold tR
  try dsimp only
  rw[getD_some,Fq,append_assoc,length_cons]
  have:D.done+1+(ns.length:Int)=D.done+((ns.length+1:Nat):Int):=by omega
  rw[this]
  rfl
def qL (h:DiskAt C H dk df kvs D) (hb:own dk df kvs b):∃ o,H b=some o:=by
 rcases hb with rfl | rfl | hb
 ·obtain⟨dx,h1⟩:=h.self
  exact⟨_,h1⟩
 ·exact⟨_,h.files⟩
 ·obtain⟨xs,e⟩:=vC h.rel hb
  exact⟨_,e⟩
def pC (fs:List (Str × Lc)) (n m:Str) (e:Lc) (h:aV fs n=none):aV (fs++[(n,e)]) m=if m=n then some e else aV fs m:=by
 unfold aV at h ⊢
 rw[map_eq_none_iff,find?_eq_none]at h
 rw[List.find?_append]
 by_cases z:m=n
 ·subst z
  have:fs.find? (fun p=>decide (p.1=m))=none:=find?_eq_none.mpr h
  rw[this,if_pos rfl]
  simp
 ·rw[if_neg z]
  have z':¬ n=m:=fun y=>z y.symm
  cases fs.find? (fun p=>decide (p.1=m)) with
  | none=>simp [z']
  | some p=>simp
def BB (fs:List (Str × Lc)) (n m:Str) (e:Lc):aV (fB fs n e) m=if m=n then (aV fs n).map (fun _=>e) else aV fs m:=by
 unfold aV fB
 induction fs with
 | nil=>split <;> rfl
 | cons p fs ih=>
  rw[map_cons,find?_cons,find?_cons,find?_cons]
  by_cases z:m=n
  ·subst z
   rw[if_pos rfl]at ih ⊢
   by_cases y:p.1=m
   ·simp [y]
   ·simp only[y,if_false,decide_false]
    exact ih
  ·rw[if_neg z]at ih ⊢
   by_cases y:p.1=n
   ·have:¬ p.1=m:=fun x=>z (x.symm.trans y)
    simp only[y,if_true]
    rw[decide_eq_false (fun x:n=m=>z x.symm)]
    exact ih
   ·simp only[y,if_false]
    by_cases x:p.1=m
    ·simp [x]
    ·simp only[x,decide_false]
     exact ih
def Du (h0:0<=n) (h1:n<=999999):bK (cA ("from",n,[]))=true:=by
 show (cT.contains "from" && (bM 0 999999 (.int n) && (cV (.tuple []) && fD "from" (bN (.tuple [])))))=true
 have:bM 0 999999 (.int n)=true:=by
  simp only[bM,and_eq_true,decide_eq_true_eq]
  exact⟨h0,h1⟩
 rw[this]
 decide +kernel
def gQ (h:k [] H):lR σ H k:=h
section
variable {C c1 c2 c3 c4 dk df:Addr} {kvs:Ll} {D:Dk} {n:Int} {H:Hp} {Q:V->Hp->Prop} {E:XK} {bs:Lc}
def AI (hD:DiskAt C H dk df kvs D) (hl:D.left=none) (hn:eX n) (hf:D.fs.length<100000) (hno:aV D.fs (bI n)=none) (q:∀ kvs' H',sC dk df kvs H H'->FL dk df kvs kvs' H->DiskAt C H' dk df kvs' (mkN D (bI n))->Q .non H'):oM C c1 c2 c3 [.ref dk,.str (bI n)] H Q E:=by
 refine⟨dk,df,kvs,D,_,.str (bI n),rfl,hD,by simp only[Den],tU hn,hf,(fun z=>by rw[lX hn]at z; cases z),fun n' e _=>?_⟩
 injection e with e
 subst e
 refine⟨(fun bs z=>by rw[hno]at z; cases z),fun _=>⟨(fun z=>by rw[jR hl]at z; cases z),fun D1 hs kvs' H' f g h=>?_⟩⟩
 rw[jR hl]at hs
 cases hs
 exact q _ _ f g h
def FQ (hD:DiskAt C H dk df kvs D) (hl:D.left=none) (hn:eX n) (hb:aV D.fs (bI n)=some bs) (q:∀ kvs' H',sC dk df kvs H H'->FL dk df kvs kvs' H->DiskAt C H' dk df kvs' (Dz D (bI n))->Q .non H'):oO C c1 c2 c3 [.ref dk,.str (bI n)] H Q E:=by
 refine⟨dk,df,kvs,D,_,.str (bI n),rfl,hD,by simp only[Den],tU hn,(fun z=>by rw[lX hn]at z; cases z),fun n' e _=>?_⟩
 injection e with e
 subst e
 refine⟨(fun z=>by rw[hb]at z; cases z),fun bs' z=>⟨(fun z=>by rw[jR hl]at z; cases z),fun D1 hs kvs' H' f g h=>?_⟩⟩
 rw[jR hl]at hs
 cases hs
 exact q _ _ f g h
def yO (hD:DiskAt C H dk df kvs D) (hl:D.left=none) (hn:eX n) (hb:aV D.fs (bI n)=some bs) (hz:∀ n bs,aV D.fs n=some bs->bs.length<=100000) (ha:H a=some (.tup (ns.map V.int))) (hby:∀ b∈ns,0<=b/\b<=255) (hln:ns.length<=100000) (q:∀ H',sC dk df kvs H H'->DiskAt C H' dk df kvs (tR D (bI n) (bs++ns) ns.length)->Q .non H'):yY C c1 c2 c3 c4 [.ref dk,.str (bI n),.ref a] H Q E:=by
 refine⟨dk,df,kvs,D,_,_,.str (bI n),.tuple (ns.map .int),rfl,hD,by simp only[Den],tU hn,by simp only[Den]; exact⟨a,_,rfl,ha,bQ.mpr rfl⟩,(fun ds e=>by injection e with e; rw[<- e,length_map]; exact hln),hz,(fun z=>by rw[lX hn]at z; cases z),fun n' e _=>?_⟩
 injection e with e
 subst e
 refine⟨(fun z=>by rw[hb]at z; cases z),fun bs' z=>?_⟩
 rw[hb]at z
 cases z
 have hi:cV (.tuple (ns.map .int))=true:=pQ hby
 refine⟨(fun z=>by rw[hi]at z; cases z),fun _ H' f h=>?_⟩
 rw[fQ,yN hl hD.kn hb]at h ⊢
 exact⟨fun _=>q H' f h,(fun z=>by cases z)⟩
def AH (hD:DiskAt C H dk df kvs D) (hn:eX n) (hb:aV D.fs (bI n)=some bs) (q:∀ H',aG H H'->Q (.int (bs.length:Int)) H'):oI C c1 c2 [.ref dk,.str (bI n)] H Q E:=by
 refine⟨dk,df,kvs,D,_,.str (bI n),rfl,hD,by simp only[Den],tU hn,(fun z=>by rw[lX hn]at z; cases z),fun n' e _=>?_⟩
 injection e with e
 subst e
 refine⟨(fun z=>by rw[hb]at z; cases z),fun bs' z=>?_⟩
 rw[hb]at z
 cases z
 exact q
def FP (hD:DiskAt C H dk df kvs D) (hn:eX n) (hb:aV D.fs (bI n)=some bs) (q:∀ p H',aG H H'->H' p=some (.tup (bs.map V.int))->Q (.ref p) H'):sH C c1 c2 [.ref dk,.str (bI n)] H Q E:=by
 refine⟨dk,df,kvs,D,_,.str (bI n),rfl,hD,by simp only[Den],tU hn,(fun z=>by rw[lX hn]at z; cases z),fun n' e _=>?_⟩
 injection e with e
 subst e
 refine⟨(fun z=>by rw[hb]at z; cases z),fun bs' z=>?_⟩
 rw[hb]at z
 cases z
 exact q
def FO {a:Addr} {rs:Lp} {k:Nat} (ha:H a=some (.tup (bs.map V.int))) (hby:∀ b∈bs,0<=b/\b<=255) (hln:bs.length<=100000) (hr:jC (bs.length+1) bs=some (rs.map cA,k)) (q:∀ p pL H',aG H H'->H' p=some (.tup [.ref pL,.int (k:Int)])->Den H' (.list (rs.map cA)) (.ref pL)->Q (.ref p) H'):kP c1 c2 [.ref a] H Q E:=by
 have isb:cV (.tuple (bs.map .int))=true:=pQ hby
 refine⟨.ref a,.tuple (bs.map .int),rfl,by simp only[Den]; exact⟨a,_,rfl,ha,bQ.mpr rfl⟩,(fun bs' e=>?_),(fun z=>by rw[isb]at z; cases z),fun _=>?_⟩
 ·injection e with e
  rw[<- e,length_map]
  exact le_trans hln (by decide)
 rw[fQ]
 refine⟨fun ds k' er p2 H2 S2 d2 _=>?_,(fun z=>by rw[hr]at z; cases z)⟩
 rw[hr]at er
 cases er
 have d2':=d2
 simp only[Den,aR]at d2'
 obtain⟨_,_,e1,gf,_,_,rfl,⟨pL,ys,rfl,gL,dL⟩,_,_,rfl,rfl,rfl⟩:=d2'
 cases e1
 exact q p2 pL H2 S2 gf (by simp only[Den]; exact⟨pL,ys,rfl,gL,dL⟩)
def xH (h:bK (cA r)=true):cT.contains r.1=true/\0<=r.2.1/\r.2.1<=999999/\dO r.2.2/\fD r.1 r.2.2=true:=by
 obtain⟨k,n,bs,e,hk,h0,h1,hb,hf⟩:=n5 h
 unfold cA fN at e
 injection e with e
 injection e with e1 e
 injection e with e2 e
 injection e with e3 e
 injection e1 with e1
 injection e2 with e2
 injection e3 with e3
 have hb':dO (bN (.tuple bs)):=oA hb
 rw[<- e3,fQ]at hf hb'
 rw[e1,e2]
 exact⟨hk,h0,h1,hb',by rw[<- e1]at hf ⊢; exact hf⟩
def qG (h:bK (cA r)=true):r.2.2.length<=61:=vB (xH h).2.2.2.2
def lA (h:bK (cA r)=true):∀ b∈iA r.1 r.2.1 r.2.2,0<=b/\b<=255:=by
 obtain⟨hk,h0,h1,hb,hf⟩:=xH h
 have hl:=vB hf
 have hm:r.1∈cT:=by simpa using hk
 have hi:=List.idxOf_lt_length_of_mem hm
 have hi:cT.idxOf r.1<8:=hi
 intro b hm
 unfold iA gJ gG at hm
 simp only[mem_append,mem_cons,List.not_mem_nil,or_false]at hm
 rcases hm with (z | z) | (((z | z | z | z) | z) | z)
 ·omega
 ·omega
 ·omega
 ·omega
 ·omega
 ·omega
 ·omega
 ·exact hb b z
def IB (r:Rw):F9 (cA r)=iA r.1 r.2.1 r.2.2:=by
 show iA r.1 r.2.1 (bN (.tuple (r.2.2.map .int)))=_
 rw[fQ]
def Bv (hd:Den H (cA r) v) (hr:bK (cA r)=true) (q:∀ p H',aG H H'->H' p=some (.tup ((iA r.1 r.2.1 r.2.2).map V.int))->Q (.ref p) H'):fG c1 [v] H Q E:=by
 refine⟨v,cA r,rfl,hd,fun k n bs e=>?_,fun _ p H' S g=>q p H' S (by rw[<- IB]; exact g),(fun z=>by rw[hr]at z; cases z)⟩
 have hs:=qG hr
 unfold cA fN at e
 injection e with e
 injection e with e1 e
 injection e with e2 e
 injection e with e3 e
 injection e3 with e3
 rw[<- e3,length_map]
 exact le_trans hs (by decide)
end
def Fr (J:St->Hp->Prop) (h2:∀ n:St->Hp->Prop,(∀ σ' H',J σ' H'->n σ' H')->s (D.next n) σ H) (h1:∀ σ' H',J σ' H'->tl D σ' H'):yP s tl D σ H:=h2 _ h1
def Ie {s tl:TS} {D0 D:Ends} {σ : St} {H:Hp} (J:St->Hp->Prop) (h2:∀ n:St->Hp->Prop,(∀ σ' H',J σ' H'->n σ' H')->s (D.next n) σ H) (h1:∀ σ' H',J σ' H'->tl D σ' H'):(D0.next (yP s tl D)).nx σ H:=h2 _ h1
section
variable {P:Program} {w:World} {K:K6} {mg:K8} {base:Heap} {A:Ad}
end
structure Qs where
 D:Dk
 B:Bk
 most:Int
 hold:Int
 tries:Int
 first:Int
 last:Int
 now:Int
 hs:Lq
structure Pl where
 qu:Addr
 dk:Addr
 df:Addr
 bk:Addr
 de:Addr
 dp:Addr
 hd:Addr
 kvs:Ll
def quF (L:Pl) (q:Qs) (wr:Bool):Lm:=[("disk",.ref L.dk),("most",.int q.most),("hold",.int q.hold),("tries",.int q.tries),("book",.ref L.bk),("first",.int q.first),("last",.int q.last),("writing",.bl wr),("holders",.ref L.hd),("now",.int q.now)]
def HoR (H:Hp):Lq->Ll->Prop
 | [],[]=>True
 | p::hs,r::kvs=>r.1=Sum.inl p.1/\(∃ t,r.2 = .ref t/\H t=some (.tup [.str p.2.1,.int p.2.2]))/\HoR H hs kvs
 | _,_=>False
def HoR.t (s:fS H H'):∀ {hs:Lq} {kvs:Ll},HoR H hs kvs->HoR H' hs kvs
 | [],[],_=>trivial
 | p::hs,r::kvs,h=>by
  obtain⟨h1,⟨t,e,g⟩,h3⟩:=h
  exact⟨h1,⟨t,e,s _ _ g⟩,HoR.t s h3⟩
 | [],_::_,h=>h.elim
 | _::_,[],h=>h.elim
def BF (L:Pl) (b:Addr):Prop:=b=L.bk\/b=L.de\/b=L.dp
def Gz (L:Pl) (b:Addr):Prop:=own L.dk L.df L.kvs b
def eT (L:Pl) (b:Addr):Prop:=b=L.qu\/b=L.hd\/BF L b\/Gz L b
structure QueueW (A:Ad) (H:Hp) (L:Pl) (q:Qs) (wr:Bool):Prop where
 self:∃ dx,H L.qu=some (.ins A.queue dx (quF L q wr))
 disk:DiskAt A.disk H L.dk L.df L.kvs q.D
 book:BookAt A.book H L.bk L.de L.dp q.B
 held:∃ hk,H L.hd=some (.dK hk)/\HoR H q.hs hk
 a_bd:∀ b,BF L b->¬ Gz L b
 a_qu:¬ BF L L.qu/\¬ Gz L L.qu
 a_hd:L.hd≠L.qu/\¬ BF L L.hd/\¬ Gz L L.hd
structure Step (L L':Pl) (H H':Hp):Prop where
 qu:L'.qu=L.qu
 dk:L'.dk=L.dk
 frm:∀ b o,H b=some o->¬ eT L b->H' b=some o
 grow:∀ b,eT L' b->eT L b\/H b=none
 tup:fS H H'
def Step.trans (a:Step L L1 H H1) (b:Step L1 L2 H1 H2):Step L L2 H H2:=by
 refine⟨b.qu.trans a.qu,b.dk.trans a.dk,fun c o e nc=>b.frm c o (a.frm c o e nc) (fun z=>(a.grow c z).elim nc (fun y=>by rw[y]at e; cases e)),fun c hc=>?_,a.tup.trans b.tup⟩
 rcases b.grow c hc with z | z
 ·exact a.grow c z
 ·by_cases y:eT L c
  ·exact .inl y
  ·refine .inr ?_
   cases e:H c with
   | none=>rfl
   | some o=>rw[a.frm c o e y]at z; cases z
def aG.step (s:aG H H'):Step L L H H':=⟨rfl,rfl,fun b o e _=>s b o e,fun b h=>.inl h,aG.tup s⟩
def Step.not (a:Step L L' H H') (e:H b=some o) (n:¬ eT L b):¬ eT L' b:=fun z=>(a.grow b z).elim n (fun y=>by rw[y]at e; cases e)
def DiskAt.keep (h:DiskAt C H dk df kvs D) (s:∀ b o,H b=some o->own dk df kvs b->H' b=some o):DiskAt C H' dk df kvs D:=by
 obtain⟨dx,h1⟩:=h.self
 exact⟨⟨dx,s _ _ h1 (.inl rfl)⟩,s _ _ h.files (.inr (.inl rfl)),h.rel.same fun b o e m=>s b o e (.inr (.inr m)),h.nd,h.kn⟩
def BookAt.keep (h:BookAt C H bk de dp B) (s:∀ b o,H b=some o->b=bk\/b=de\/b=dp->H' b=some o) (t:fS H H'):BookAt C H' bk de dp B:=by
 obtain⟨dx,h1⟩:=h.self
 obtain⟨kvs,h2,h3⟩:=h.ent
 obtain⟨ps,h4,h5⟩:=h.par
 exact⟨⟨dx,s _ _ h1 (.inl rfl)⟩,⟨kvs,s _ _ h2 (.inr (.inl rfl)),h3.t t⟩,⟨ps,s _ _ h4 (.inr (.inr rfl)),fO t (iF _) h5⟩⟩
def sC.tup (h:DiskAt C H dk df kvs D) (f:sC dk df kvs H H'):fS H H':=fun b xs e=>by
 refine f b _ e ?_
 rintro (rfl | rfl | z)
 ·obtain⟨dx,h1⟩:=h.self
  rw[h1]at e
  cases e
 ·rw[h.files]at e
  cases e
 ·obtain⟨ys,e2⟩:=vC h.rel z
  rw[e2]at e
  cases e
section
variable {A:Ad} {H H':Hp} {L:Pl} {q:Qs} {wr:Bool}
def QueueW.same (h:QueueW A H L q wr) (s:aG H H'):QueueW A H' L q wr:=by
 obtain⟨dx,h1⟩:=h.self
 obtain⟨hk,h2,h3⟩:=h.held
 exact⟨⟨dx,s _ _ h1⟩,h.disk.same s,h.book.same s,⟨hk,s _ _ h2,h3.t (aG.tup s)⟩,h.a_bd,h.a_qu,h.a_hd⟩
def QueueW.fields (h:QueueW A H L q wr) (q':Qs) (wr':Bool) (eD:q'.D=q.D) (eB:q'.B=q.B) (eH:q'.hs=q.hs):QueueW A (upd H L.qu (.ins A.queue dx (quF L q' wr'))) L q' wr'/\Step L L H (upd H L.qu (.ins A.queue dx (quF L q' wr'))):=by
 obtain⟨dx0,h1⟩:=h.self
 obtain⟨hk,h2,h3⟩:=h.held
 have t:fS H (upd H L.qu (.ins A.queue dx (quF L q' wr'))):=kN h1 (fun xs z=>by cases z)
 refine⟨⟨⟨dx,aB⟩,?_,?_,⟨hk,by rw[aF h.a_hd.1]; exact h2,by rw[eH]; exact h3.t t⟩,h.a_bd,h.a_qu,h.a_hd⟩,⟨rfl,rfl,fun b o e nb=>by rw[aF (fun z=>nb (.inl z))]; exact e,fun b hb=>.inl hb,t⟩⟩
 ·rw[eD]
  refine h.disk.keep fun b o e hb=>?_
  rw[aF (fun z=>by rw[z]at hb; exact h.a_qu.2 hb)]
  exact e
 ·rw[eB]
  refine h.book.keep (fun b o e hb=>?_) t
  rw[aF (fun z=>by rw[z]at hb; exact h.a_qu.1 hb)]
  exact e
def QueueW.toDisk (h:QueueW A H L q wr) (f:sC L.dk L.df L.kvs H H') (g:FL L.dk L.df L.kvs kvs' H) (hD:DiskAt A.disk H' L.dk L.df kvs' D'):QueueW A H' { L with kvs:=kvs' } { q with D:=D' } wr/\Step L { L with kvs:=kvs' } H H':=by
 obtain⟨dx0,h1⟩:=h.self
 obtain⟨hk,h2,h3⟩:=h.held
 have t:fS H H':=f.tup h.disk
 have far:∀ b o,H b=some o->¬ Gz L b->¬ own L.dk L.df kvs' b:=fun b o e nb z=>(g b z).elim nb (fun y=>by rw[y]at e; cases e)
 refine⟨⟨⟨dx0,f _ _ h1 h.a_qu.2⟩,hD,h.book.keep (fun b o e hb=>f b o e (h.a_bd b hb)) t,⟨hk,f _ _ h2 h.a_hd.2.2,h3.t t⟩,fun b hb=>?_,⟨h.a_qu.1,far _ _ h1 h.a_qu.2⟩,⟨h.a_hd.1,h.a_hd.2.1,far _ _ h2 h.a_hd.2.2⟩⟩,⟨rfl,rfl,fun b o e nb=>f b o e (fun z=>nb (.inr (.inr (.inr z)))),fun b hb=>?_,t⟩⟩
 ·obtain⟨dx,g1⟩:=h.book.self
  obtain⟨kvs,g2,_⟩:=h.book.ent
  obtain⟨ps,g3,_⟩:=h.book.par
  have nb:=h.a_bd b hb
  rcases hb with z | z | z
  ·exact far b _ (by rw[z]; exact g1) nb
  ·exact far b _ (by rw[z]; exact g2) nb
  ·exact far b _ (by rw[z]; exact g3) nb
 ·rcases hb with z | z | z | z
  ·exact .inl (.inl z)
  ·exact .inl (.inr (.inl z))
  ·exact .inl (.inr (.inr (.inl z)))
  ·rcases g b z with y | y
   ·exact .inl (.inr (.inr (.inr y)))
   ·exact .inr y
def QueueW.toBook (h:QueueW A H L q wr) (f:Frm L.bk L.de L.dp H H') (hq:dq=L.dp\/H dq=none) (hB:BookAt A.book H' L.bk L.de dq B'):QueueW A H' { L with dp:=dq } { q with B:=B' } wr/\Step L { L with dp:=dq } H H':=by
 obtain⟨dx0,h1⟩:=h.self
 obtain⟨hk,h2,h3⟩:=h.held
 have t:fS H H':=h.book.tup f
 have fr:∀ b o,H b=some o->¬ BF L b->H' b=some o:=fun b o e nb=>f b o e (fun z=>nb (.inl z)) (fun z=>nb (.inr (.inl z))) (fun z=>nb (.inr (.inr z)))
 have nq:∀ b o,H b=some o->¬ BF L b->¬ BF { L with dp:=dq } b:=fun b o e nb z=>by
  rcases z with z | z | z
  ·exact nb (.inl z)
  ·exact nb (.inr (.inl z))
  ·rcases hq with y | y
   ·exact nb (.inr (.inr (z.trans y)))
   ·have z:b=dq:=z
    rw[z,y]at e
    cases e
 refine⟨⟨⟨dx0,fr _ _ h1 h.a_qu.1⟩,h.disk.keep (fun b o e hb=>fr b o e (fun z=>h.a_bd b z hb)),hB,⟨hk,fr _ _ h2 h.a_hd.2.1,h3.t t⟩,fun b hb hd=>?_,⟨nq _ _ h1 h.a_qu.1,h.a_qu.2⟩,⟨h.a_hd.1,nq _ _ h2 h.a_hd.2.1,h.a_hd.2.2⟩⟩,⟨rfl,rfl,fun b o e nb=>fr b o e (fun z=>nb (.inr (.inr (.inl z)))),fun b hb=>?_,t⟩⟩
 ·obtain⟨o,e⟩:=qL h.disk hd
  by_cases y:BF L b
  ·exact h.a_bd b y hd
  ·exact nq b o e y hb
 ·rcases hb with z | z | z | z
  ·exact .inl (.inl z)
  ·exact .inl (.inr (.inl z))
  ·rcases z with z | z | z
   ·exact .inl (.inr (.inr (.inl (.inl z))))
   ·exact .inl (.inr (.inr (.inl (.inr (.inl z)))))
   ·rcases hq with y | y
    ·exact .inl (.inr (.inr (.inl (.inr (.inr (z.trans y))))))
    ·have z:b=dq:=z
     rw[z]
     exact .inr y
  ·exact .inl (.inr (.inr (.inr z)))
end
abbrev rC:Stmt:=bH (top 55) 8
abbrev AT:Stmt:=bH (top 55) 17
abbrev wX:Stmt:=bH (top 55) 9
abbrev AV:Stmt:=bH (top 55) 10
abbrev AR:Stmt:=bH (top 55) 11
abbrev tZ:Stmt:=bH (top 55) 12
abbrev wZ:Stmt:=bH (top 55) 13
def pG (h:Den H (nZ n e) v):∃ t b,v = .ref t/\H t=some (.tup [.int n,.ref b,.int e.2.1])/\H b=some (.tup (e.1.map V.int)):=by
 unfold nZ at h
 simp only[Den,aR]at h
 obtain⟨t,_,rfl,h1,_,_,rfl,rfl,_,_,rfl,⟨b,ys,rfl,h2,h3⟩,_,_,rfl,rfl,rfl⟩:=h
 rw[bQ.mp h3]at h2
 exact⟨t,b,rfl,h1,h2⟩
def CC {α : Type} (xs:List α) (d:α):(List.range xs.length).map (fun j=>xs.getD j d)=xs:=by
 apply ext_getElem?
 intro i
 rw[getElem?_map]
 by_cases h:i<xs.length
 ·rw[getElem?_range h,Option.map_some,getD_eq_getElem?_getD,getElem?_eq_getElem h]
  rfl
 ·rw[getElem?_eq_none (by rw[length_range]; omega),getElem?_eq_none (by omega)]
  rfl
def gB (ms:Lc) (t:Int->Bool):((List.range ms.length).filter (fun j=>t (ms.getD j 0))).map (fun j=>V.int (ms.getD j 0))=(ms.filter t).map V.int:=by
 have h:=congrArg (fun l=>(l.filter t).map V.int) (CC ms 0)
 rw[filter_map,map_map]at h
 exact h
def eE (es:Lo) (n:Int):Int:=((bJ es n).getD ([],0,0)).2.1
inductive kQ (A:Ad) (vs:Ln) (H:Hp) (Q:VK) (x_3:XK):Prop
 | mk:∀ (L:Pl) (q:Qs),vs=[.ref L.qu]->QueueW A H L q false->(q.B.es.length<800/\(q.B.es.map (·.1)).Pairwise (· <= ·))->(∀ ms,List.Perm ms (q.B.es.map (·.1))->ms.Pairwise (· <= ·)->∀ p H',aG H H'->H p=none->Den H' (.list (ms.map (lF q.B.es))) (.ref p)->Q (.ref p) H')->kQ A vs H Q x_3
def cQ (hs:Lq) (n:Int):Option (Str × Int):=(hs.find? fun p=>decide (p.1=n)).map (·.2)
def kE (hs:Lq) (n:Int):Bool:=(cQ hs n).isNone
inductive mQ (A:Ad) (vs:Ln) (H:Hp) (Q:VK) (x_3:XK):Prop
 | mk:∀ (L:Pl) (q:Qs),vs=[.ref L.qu]->QueueW A H L q false->(q.B.es.length<800/\(q.B.es.map (·.1)).Pairwise (· <= ·))->(∀ ms,List.Perm ms (q.B.es.map (·.1))->ms.Pairwise (· <= ·)->∀ p H',aG H H'->Den H' (.list ((ms.filter (kE q.hs)).map (lF q.B.es))) (.ref p)->Q (.ref p) H')->mQ A vs H Q x_3
inductive gO (A:Ad) (t:Int->Int->Bool) (vs:Ln) (H:Hp) (Q:VK) (x_3:XK):Prop
 | mk:∀ (L:Pl) (q:Qs),vs=[.ref L.qu]->QueueW A H L q false->(q.B.es.length<800/\(q.B.es.map (·.1)).Pairwise (· <= ·))->(∀ ms,List.Perm ms (q.B.es.map (·.1))->ms.Pairwise (· <= ·)->∀ p H',aG H H'->H p=none->H' p=some (.lst (((ms.filter (kE q.hs)).filter fun n=>t (eE q.B.es n) q.tries).map V.int))->Q (.ref p) H')->gO A t vs H Q x_3
def ltB (i j:Int):Bool:=decide (i<j)
def geB (i j:Int):Bool:=decide (i ≥ j)
inductive lW (A:Ad) (vs:Ln) (H:Hp) (Q:VK) (x_3:XK):Prop
 | mk:∀ (L:Pl) (q:Qs),vs=[.ref L.qu]->QueueW A H L q false->Q (.int q.B.up) H->lW A vs H Q x_3
inductive nQ (A:Ad) (vs:Ln) (H:Hp) (Q:VK) (x_3:XK):Prop
 | mk:∀ (L:Pl) (q:Qs),vs=[.ref L.qu]->QueueW A H L q false->Q (.int q.now) H->nQ A vs H Q x_3
def HoR.look:∀ {hs:Lq} {hk:Ll},HoR H hs hk->(cQ hs n=none->dM hk (Sum.inl n)=none)/\∀ x tm,cQ hs n=some (x,tm)->∃ t,dM hk (Sum.inl n)=some (.ref t)/\H t=some (.tup [.str x,.int tm])
 | [],[],_=>⟨fun _=>rfl,fun x tm e=>by cases e⟩
 | p::hs,r::hk,h=>by
  obtain⟨h1,⟨t,e2,g⟩,h3⟩:=h
  have ih:=HoR.look (n:=n) h3
  by_cases e:p.1=n
  ·have e1:cQ (p::hs) n=some p.2:=by
    unfold cQ
    rw[find?_cons,decide_eq_true e]
    rfl
   rw[e1,iK (by rw[h1,e])]
   refine⟨(fun z=>by cases z),fun x tm z=>⟨t,by rw[e2],?_⟩⟩
   rw[Option.some.inj z]at g
   exact g
  ·have e1:cQ (p::hs) n=cQ hs n:=by
    unfold cQ
    rw[find?_cons,decide_eq_false e]
   rw[e1,iM (fun z=>e (Sum.inl.inj (h1.symm.trans z)))]
   exact ih
 | [],_::_,h=>h.elim
 | _::_,[],h=>h.elim
def HoR.snoc {H:Hp} {n:Int} {x:Str} {tm:Int} {t:Addr} (g:H t=some (.tup [.str x,.int tm])):∀ {hs:Lq} {hk:Ll},HoR H hs hk->HoR H (hs++[(n,(x,tm))]) (hk++[(Sum.inl n,.ref t)])
 | [],[],_=>⟨rfl,⟨t,rfl,g⟩,trivial⟩
 | _::_,_::_,⟨h1,h2,h3⟩=>⟨h1,h2,HoR.snoc g h3⟩
 | [],_::_,h=>h.elim
 | _::_,[],h=>h.elim
def dropH (hs:Lq) (n:Int):Lq:=hs.filter fun p=>decide (p.1≠n)
def HoR.drop:∀ {hs:Lq} {hk:Ll},HoR H hs hk->HoR H (dropH hs n) (eZ hk (Sum.inl n))
 | [],[],_=>trivial
 | p::hs,r::hk,h=>by
  obtain⟨h1,h2,h3⟩:=h
  have ih:=HoR.drop (n:=n) h3
  unfold dropH eZ at ih ⊢
  rw[filter_cons,filter_cons]
  by_cases e:p.1=n
  ·rw[if_neg (by rw[decide_eq_true_eq]; exact fun z=>z e),if_neg (by rw[decide_eq_true_eq,h1,e]; exact fun z=>z rfl)]
   exact ih
  ·rw[if_pos (show decide (p.1≠n)=true from decide_eq_true e),if_pos (show decide (r.1≠Sum.inl n)=true from decide_eq_true (fun z=>e (Sum.inl.inj (h1.symm.trans z))))]
   exact⟨h1,h2,ih⟩
 | [],_::_,h=>h.elim
 | _::_,[],h=>h.elim
def HoR.len:∀ {hs:Lq} {hk:Ll},HoR H hs hk->hk.length=hs.length
 | [],[],_=>rfl
 | _::_,_::_,⟨_,_,h3⟩=>by rw[length_cons,length_cons,HoR.len h3]
 | [],_::_,h=>h.elim
 | _::_,[],h=>h.elim
def BT:∀ {ms:Lc} {xs:Ln},aR H (ms.map f) xs->aR H ((ms.filter p).map f) (((List.range xs.length).filter fun j=>p (ms.getD j 0)).map fun j=>xs.getD j .non)
 | [],xs,h=>by
  have h:aR H [] xs:=h
  simp only[aR]at h
  subst h
  simp only[List.filter_nil,map_nil,List.length_nil,List.range_zero,aR]
 | m::ms,xs,h=>by
  rw[map_cons]at h
  simp only[aR]at h
  obtain⟨x,r,rfl,h1,h2⟩:=h
  have ih:=BT (p:=p) h2
  rw[length_cons,range_succ_eq_map,filter_cons,filter_cons,filter_map]
  have e0:((m::ms).getD 0 0)=m:=rfl
  have e1:((fun j=>p ((m::ms).getD j 0)) ∘ Nat.succ)=fun j=>p (ms.getD j 0):=rfl
  rw[e0,e1]
  cases hp:p m with
  | true=>
   rw[if_pos rfl,if_pos rfl,map_cons,map_cons,map_map]
   simp only[aR]
   exact⟨x,_,rfl,h1,ih⟩
  | false=>
   rw[if_neg (by decide),if_neg (by decide),map_map]
   exact ih
def cY {a b:Lc} (h:List.Perm a b) (ha:a.Pairwise (· <= ·)) (hb:b.Pairwise (· <= ·)):a=b:=List.Perm.eq_of_pairwise (fun x y _ _ h1 h2=>by omega) ha hb h
section
variable {P:Program} {w:World} {K:K6} {mg:K8} {base:Heap} {A:Ad}
def zI (F:Fun K "letters" "Queue.letters" rC f fd) (T:‹3›) (af6:‹17› A.book "letters" 2 ["self"] (kW A.book)):‹15› 3 f fd ["self"] (kQ A):=by
 refine F.okY ["self"] fun cdv A' outer s H vs Q E hr nD0 h=>?_
 obtain⟨L,q,rfl,hq,hl,qq⟩:=h
 refine⟨_,aC (aP (cZ af6 T.ac6 ‹19› aX ‹23›)),?_⟩
 obtain⟨dx,h1⟩:=hq.self
 obtain⟨db,h2⟩:=hq.book.self
 exact⟨_,rfl,L.qu,_,dx,_,_,rfl,h1,T.aa0,T.ad9,rfl,L.bk,db,_,rfl,h2,rfl,L.bk,L.de,L.dp,q.B,rfl,hq.book,hl,qq⟩
def A5 {f:Addr} {fd:Lh} (F:Fun K "coming" "Queue.coming" tZ f fd) (T:‹3›):‹15› 1 f fd ["self"] (lW A):=by
 refine F.okY ["self"] fun cdv A' outer s H vs Q E hr nD0 h=>?_
 obtain⟨L,q,rfl,hq,qq⟩:=h
 refine⟨_,aC (aP (nU ‹23› ⋯)),?_⟩
 obtain⟨dx,h1⟩:=hq.self
 obtain⟨db,h2⟩:=hq.book.self
 exact⟨_,rfl,L.qu,_,dx,_,_,rfl,h1,T.aa0,T.ad9,rfl,L.bk,_,db,_,_,rfl,h2,T.ac6,T.ab7,rfl,qq⟩
def CW {f:Addr} {fd:Lh} (F:Fun K "clock" "Queue.clock" wZ f fd) (T:‹3›):‹15› 1 f fd ["self"] (nQ A):=by
 refine F.okY ["self"] fun cdv A' outer s H vs Q E hr nD0 h=>?_
 obtain⟨L,q,rfl,hq,qq⟩:=h
 refine⟨_,aC (aP ‹23›),?_⟩
 obtain⟨dx,h1⟩:=hq.self
 exact⟨_,rfl,L.qu,_,dx,_,_,rfl,h1,T.aa0,T.ba7,rfl,qq⟩
def Ea (F:Fun K "free_letters" "Queue.free_letters" AT f fd) (T:‹3›) (af6:‹17› A.book "letters" 2 ["self"] (kW A.book)):‹15› 3 f fd ["self"] (mQ A):=by
 refine F.okY ["self"] fun cdv A' outer s H vs Q E hr nD0 h=>?_
 obtain⟨L,q,rfl,hq,hl,qq⟩:=h
 refine⟨_,aC (aP (c9 ["letter"] [("self",0)] ⋯ (bT K (cZ af6 T.ac6 ‹19› aX ‹23›)) ‹40› (fun C s2 H2 ex=>(gW (nT (mV (hu1 hr.units) ‹26› ‹62›)))) ‹65›)),?_⟩
 obtain⟨dx,h1⟩:=hq.self
 obtain⟨db,h2⟩:=hq.book.self
 obtain⟨hk,h3,h4⟩:=hq.held
 refine⟨_,rfl,L.qu,_,dx,_,_,rfl,h1,T.aa0,T.ad9,rfl,L.bk,db,_,rfl,h2,rfl,L.bk,L.de,L.dp,q.B,rfl,hq.book,hl,fun ms perm pw p H1 S1 _ d1=>?_⟩
 have d1':=d1
 simp only[Den]at d1'
 obtain⟨_,xs,e1,g1,dx1⟩:=d1'
 cases e1
 have lx:=dx1.length
 rw[length_map]at lx
 have pl:=perm.length_eq
 rw[length_map]at pl
 refine⟨p,rfl,⟨_,SqL.of g1⟩,?_⟩
 refine fR (bS (K:=K) (SqL.of g1)) (by rw[lx,pl]; exact Nat.le_of_lt (lt_trans hl.1 (by decide))) (fun j=>kE q.hs (ms.getD j 0)) (fun j=>xs.getD j .non) (fun σ=>∃ z,σ = [z,some (.ref L.qu)]) ?z0 ?_ ?_
 case z0=>exact⟨none,rfl⟩
 ·intro j x σc H3 hj hσ s3 hx Q1 Q2 Q3 h2' h3'
  obtain⟨z,rfl⟩:=hσ
  obtain⟨d,hd,dn⟩:=dx1.get hx
  rw[getElem?_map]at hd
  cases ej:ms[j]? with
  | none=>rw[ej]at hd; cases hd
  | some n=>
   rw[ej]at hd
   cases (Option.some.inj hd:lF q.B.es n=d)
   obtain⟨t,b,rfl,gt,gb⟩:=pG dn
   have eg:xs.getD j .non = .ref t:=by rw[getD_eq_getElem?_getD,hx]; rfl
   have em:ms.getD j 0=n:=by rw[getD_eq_getElem?_getD,ej]; rfl
   rw[eg,em]at h2'
   rw[em]at h3'
   have dg:cS H3 L.hd (.int n) (dM hk (Sum.inl n)):=cS.k (k:=Sum.inl n) (s3 _ _ (S1 _ _ h3))
   refine⟨_,rfl,t,_,_,.int n,rfl,rfl,SqT.of (s3 _ _ gt),aW (by decide) rfl,_,rfl,L.qu,_,dx,_,_,rfl,s3 _ _ (S1 _ _ h1),T.aa0,T.ac4,rfl,L.hd,_,rfl,dg,_,rfl,?_⟩
   cases el:cQ q.hs n with
   | none=>
    rw[(h4.look (n:=n)).1 el]
    exact aT ⟨_,rfl,h2' _ ⟨_,rfl⟩ (by unfold kE; rw[el]; rfl)⟩
   | some o=>
    obtain⟨t',ev,_⟩:=(h4.look (n:=n)).2 o.1 o.2 el
    rw[ev]
    exact bC (h3' _ ⟨_,rfl⟩ (by unfold kE; rw[el]; rfl))
 intro D H2 hD S2 g2
 refine qq ms perm pw D H2 (S1.trans S2) ?_
 simp only[Den]
 exact⟨D,_,rfl,g2,(BT dx1).same S2⟩
def CQ (F:Fun K "ready" "Queue.ready" wX f fd) (T:‹3›) (ac7:‹17› A.queue "free_letters" 3 ["self"] (mQ A)):‹15› 4 f fd ["self"] (gO A ltB):=by
 refine F.okY ["self"] fun cdv A' outer s H vs Q E hr nD0 h=>?_
 obtain⟨L,q,rfl,hq,hl,qq⟩:=h
 refine⟨_,aC (aP (c9 ["letter"] [("self",0)] ⋯ (bT K (cZ ac7 T.aa0 ‹19› aX (pv 0))) ‹40› (fun C s2 H2 ex=>(gW (aQ uM ‹26› ‹62› (bD _)))) (fun C s2 H2 ex=>‹26›))),?_⟩
 obtain⟨dx,h1⟩:=hq.self
 refine⟨_,rfl,L.qu,dx,_,rfl,h1,rfl,L,q,rfl,hq,hl,fun ms0 perm pw p H1 S1 d1=>?_⟩
 obtain⟨ms,hms⟩:∃ ms,ms=ms0.filter (kE q.hs):=⟨_,rfl⟩
 rw[<- hms]at d1
 have d1':=d1
 simp only[Den]at d1'
 obtain⟨_,xs,e1,g1,dx1⟩:=d1'
 cases e1
 have lx:=dx1.length
 rw[length_map]at lx
 have pl:=perm.length_eq
 rw[length_map]at pl
 have pl2:ms.length<=ms0.length:=by rw[hms]; exact length_filter_le _ _
 refine⟨p,rfl,⟨_,SqL.of g1⟩,?_⟩
 refine fR (bS (K:=K) (SqL.of g1)) (by rw[lx]; exact Nat.le_of_lt (lt_of_le_of_lt (show _<=q.B.es.length by omega) (lt_trans hl.1 (by decide)))) (fun j=>ltB (eE q.B.es (ms.getD j 0)) q.tries) (fun j=>V.int (ms.getD j 0)) (fun σ=>∃ z,σ = [z,some (.ref L.qu)]) ?z0 ?_ ?_
 case z0=>exact⟨none,rfl⟩
 ·intro j x σc H3 hj hσ s3 hx Q1 Q2 Q3 h2' h3'
  obtain⟨z,rfl⟩:=hσ
  obtain⟨d,hd,dn⟩:=dx1.get hx
  rw[getElem?_map]at hd
  cases ej:ms[j]? with
  | none=>rw[ej]at hd; cases hd
  | some n=>
   rw[ej]at hd
   cases (Option.some.inj hd:lF q.B.es n=d)
   obtain⟨t,b,rfl,gt,gb⟩:=pG dn
   have eg:ms.getD j 0=n:=by rw[getD_eq_getElem?_getD,ej]; rfl
   rw[eg]at h2' h3'
   refine⟨_,rfl,t,_,_,.int (eE q.B.es n),rfl,rfl,SqT.of (s3 _ _ gt),aW (by decide) rfl,_,rfl,L.qu,_,dx,_,_,rfl,s3 _ _ (S1 _ _ h1),T.aa0,T.bd0,rfl,_,_,rfl,rfl,_,rfl,?_⟩
   show if ltB (eE q.B.es n) q.tries=true then _ else _
   cases hb:ltB (eE q.B.es n) q.tries with
   | true=>exact aT ⟨_,rfl,t,_,_,.int n,rfl,rfl,SqT.of (s3 _ _ gt),aW (by decide) rfl,h2' _ ⟨_,rfl⟩ hb⟩
   | false=>exact bC (h3' _ ⟨_,rfl⟩ hb)
 intro D H2 hD S2 g2
 rw[lx,gB ms (fun n=>ltB (eE q.B.es n) q.tries)]at g2
 rw[hms]at g2
 exact qq ms0 perm pw D H2 (S1.trans S2) (S1.free hD) g2
def Eb (F:Fun K "dead" "Queue.dead" AV f fd) (T:‹3›) (ac7:‹17› A.queue "free_letters" 3 ["self"] (mQ A)):‹15› 4 f fd ["self"] (gO A geB):=by
 refine F.okY ["self"] fun cdv A' outer s H vs Q E hr nD0 h=>?_
 obtain⟨L,q,rfl,hq,hl,qq⟩:=h
 refine⟨_,aC (aP (c9 ["letter"] [("self",0)] ⋯ (bT K (cZ ac7 T.aa0 ‹19› aX (pv 0))) ‹40› (fun C s2 H2 ex=>(gW (aQ GX ‹26› ‹62› (bD _)))) (fun C s2 H2 ex=>‹26›))),?_⟩
 obtain⟨dx,h1⟩:=hq.self
 refine⟨_,rfl,L.qu,dx,_,rfl,h1,rfl,L,q,rfl,hq,hl,fun ms0 perm pw p H1 S1 d1=>?_⟩
 obtain⟨ms,hms⟩:∃ ms,ms=ms0.filter (kE q.hs):=⟨_,rfl⟩
 rw[<- hms]at d1
 have d1':=d1
 simp only[Den]at d1'
 obtain⟨_,xs,e1,g1,dx1⟩:=d1'
 cases e1
 have lx:=dx1.length
 rw[length_map]at lx
 have pl:=perm.length_eq
 rw[length_map]at pl
 have pl2:ms.length<=ms0.length:=by rw[hms]; exact length_filter_le _ _
 refine⟨p,rfl,⟨_,SqL.of g1⟩,?_⟩
 refine fR (bS (K:=K) (SqL.of g1)) (by rw[lx]; exact Nat.le_of_lt (lt_of_le_of_lt (show _<=q.B.es.length by omega) (lt_trans hl.1 (by decide)))) (fun j=>geB (eE q.B.es (ms.getD j 0)) q.tries) (fun j=>V.int (ms.getD j 0)) (fun σ=>∃ z,σ = [z,some (.ref L.qu)]) ?z0 ?_ ?_
 case z0=>exact⟨none,rfl⟩
 ·intro j x σc H3 hj hσ s3 hx Q1 Q2 Q3 h2' h3'
  obtain⟨z,rfl⟩:=hσ
  obtain⟨d,hd,dn⟩:=dx1.get hx
  rw[getElem?_map]at hd
  cases ej:ms[j]? with
  | none=>rw[ej]at hd; cases hd
  | some n=>
   rw[ej]at hd
   cases (Option.some.inj hd:lF q.B.es n=d)
   obtain⟨t,b,rfl,gt,gb⟩:=pG dn
   have eg:ms.getD j 0=n:=by rw[getD_eq_getElem?_getD,ej]; rfl
   rw[eg]at h2' h3'
   refine⟨_,rfl,t,_,_,.int (eE q.B.es n),rfl,rfl,SqT.of (s3 _ _ gt),aW (by decide) rfl,_,rfl,L.qu,_,dx,_,_,rfl,s3 _ _ (S1 _ _ h1),T.aa0,T.bd0,rfl,_,_,rfl,rfl,_,rfl,?_⟩
   show if geB (eE q.B.es n) q.tries=true then _ else _
   cases hb:geB (eE q.B.es n) q.tries with
   | true=>exact aT ⟨_,rfl,t,_,_,.int n,rfl,rfl,SqT.of (s3 _ _ gt),aW (by decide) rfl,h2' _ ⟨_,rfl⟩ hb⟩
   | false=>exact bC (h3' _ ⟨_,rfl⟩ hb)
 intro D H2 hD S2 g2
 rw[lx,gB ms (fun n=>geB (eE q.B.es n) q.tries)]at g2
 rw[hms]at g2
 exact qq ms0 perm pw D H2 (S1.trans S2) (S1.free hD) g2
end
abbrev AS:Stmt:=bH (top 55) 20
abbrev xB:Stmt:=bH (top 55) 21
abbrev wY:Stmt:=bH (top 55) 22
abbrev wV:Stmt:=bH (top 55) 19
def cG (rs:Lp):Lc:=(rs.map fun r=>iA r.1 r.2.1 r.2.2).flatten
def hW (q:Qs):Lc:=(aV q.D.fs (bI q.last)).getD []
def xW (q:Qs) (bs:Lc):Bool:=!decide (q.B.up > 999999) && decide ((bs.length:Int) ≥ q.most)
def vK (q:Qs):Qs:={ q with D:=tR (mkN q.D (bI (q.last+1))) (bI (q.last+1)) (iA "from" q.B.up []) 7,last:=q.last+1 }
def aZ (q:Qs):Qs:=if xW q (hW q)=true then vK q else q
def m7 (q:Qs) (bs:Lc) (B:Bk):Qs:={ q with D:=tR q.D (bI q.last) (hW q++bs) bs.length,B:=B }
structure WOk (q:Qs) (k:Nat):Prop where
 left:q.D.left=none
 last:eX q.last
 nxt:eX (q.last+1)
 here:∃ bs,aV q.D.fs (bI q.last)=some bs
 new:aV q.D.fs (bI (q.last+1))=none
 len:∀ n bs,aV q.D.fs n=some bs->bs.length<=100000
 files:q.D.fs.length<90000
 up:0<=q.B.up
 ents:q.B.es.length+q.B.parts.length+k<900
inductive pY (A:Ad) (vs:Ln) (H:Hp) (Q:VK) (x_3:XK):Prop
 | mk:∀ (L:Pl) (q:Qs) (wr:Bool) (bs:Lc),vs=[.ref L.qu]->QueueW A H L q wr->eX q.last->aV q.D.fs (bI q.last)=some bs->(∀ H',aG H H'->Q (.bl (xW q bs)) H')->pY A vs H Q x_3
inductive nR (A:Ad) (vs:Ln) (H:Hp) (Q:VK) (x_3:XK):Prop
 | mk:∀ (L:Pl) (q:Qs) (wr:Bool),vs=[.ref L.qu]->QueueW A H L q wr->q.D.left=none->eX (q.last+1)->aV q.D.fs (bI (q.last+1))=none->q.D.fs.length<100000->(∀ n bs,aV q.D.fs n=some bs->bs.length<=100000)->0<=q.B.up->q.B.up<=999999->(∀ L' H',Step L L' H H'->QueueW A H' L' (vK q) wr->Q .non H')->nR A vs H Q x_3
inductive kR (A:Ad) (vs:Ln) (H:Hp) (Q:VK) (x_3:XK):Prop
 | mk:∀ (L:Pl) (q:Qs) (wr:Bool) (bs:Lc),vs=[.ref L.qu]->QueueW A H L q wr->q.D.left=none->eX q.first->aV q.D.fs (bI q.first)=some bs->(∀ L' H',Step L L' H H'->QueueW A H' L' { q with D:=Dz q.D (bI q.first),first:=q.first+1 } wr->Q .non H')->kR A vs H Q x_3
inductive nO (A:Ad) (vs:Ln) (H:Hp) (Q:VK) (x_3:XK):Prop
 | mk:∀ (L:Pl) (q:Qs) (a:Addr) (rs:Lp) (B':Bk),vs=[.ref L.qu,.ref a]->QueueW A H L q false->WOk q rs.length->(¬ eT L a)->Den H (.list (rs.map cA)) (.ref a)->(∀ r∈rs,bK (cA r)=true)->dR (aZ q).last (aZ q).B rs=some B'->(∀ L' H',Step L L' H H'->QueueW A H' L' (m7 (aZ q) (cG rs) B') false->Q .non H')->nO A vs H Q x_3
section
variable {P:Program} {w:World} {K:K6} {mg:K8} {base:Heap} {A:Ad}
def EZ (F:Fun K "is_last_full" "Queue.is_last_full" AS f fd) (T:‹3›) (ab2:‹9›) (al4:‹17› A.disk "size" 4 ["self","name"] (oI A.disk A.badName A.missing)):‹15› 5 f fd ["self"] (pY A):=by
 obtain⟨_,ac8⟩:=T.ad1
 refine F.okY ["self"] fun cdv A' outer s H vs Q E hr nD0 h=>?_
 obtain⟨L,q,wr,bs,rfl,hq,hn,hbs,qq⟩:=h
 refine⟨_,aA (bA (aQ o8 (nU ‹23› ⋯) (cI (v:=.int 999999) ⋯ ac8 ⟨_,rfl⟩) (bD _))
   ‹67›
   aO)
  (aC (aP (fZ GX (cN al4 T.ad4 ‹19› bO ‹23› (bY ‹93› aH)) ‹23› (bD _)))),?_⟩
 obtain⟨dx,h1⟩:=hq.self
 obtain⟨db,h2⟩:=hq.book.self
 obtain⟨dd,h3⟩:=hq.disk.self
 unfold xW at qq
 refine⟨_,rfl,L.qu,_,dx,_,_,rfl,h1,T.aa0,T.ad9,rfl,L.bk,_,db,_,_,rfl,h2,T.ac6,T.ab7,rfl,_,_,rfl,rfl,_,rfl,?_⟩
 show if decide (q.B.up > 999999)=true then _ else _
 by_cases hu:q.B.up > 999999
 ·rw[if_pos (decide_eq_true hu)]
  rw[decide_eq_true hu]at qq
  exact qq H (aG.refl H)
 ·rw[if_neg (by rw[decide_eq_true_eq]; exact hu)]
  rw[decide_eq_false hu]at qq
  refine cJ rfl ?_
  refine⟨_,rfl,L.qu,_,dx,_,_,rfl,h1,T.aa0,T.ap5,rfl,L.dk,dd,_,rfl,h3,rfl,_,rfl,L.qu,_,dx,_,_,rfl,h1,T.aa0,T.aj9,rfl,q.last,rfl,hn,gQ (AH hq.disk hn hbs fun H1 S1=>?_)⟩
  exact⟨_,rfl,L.qu,_,dx,_,_,rfl,S1 _ _ h1,T.aa0,T.bj5,rfl,_,_,rfl,rfl,qq H1 S1⟩
def CZ (F:Fun K "begin_segment" "Queue.begin_segment" xB f fd) (T:‹3›) (ab2:‹9›) (ac0:‹16› "row_bytes" 4 ["row"] (fG A.badRow)) (al5:‹17› A.disk "make" 3 ["self","name"] (oM A.disk A.badName A.there A.stopped)) (ah3:‹6›):‹15› 5 f fd ["self"] (nR A):=by
 refine F.okY ["self","some","name"] fun cdv A' outer s H vs Q E hr nD0 h=>?_
 obtain⟨L,q,wr,rfl,hq,hl,hn,hno,hf,hz,u0,u1,qq⟩:=h
 refine⟨_,aA (a7 (i:=1) nD0 ⋯ ⋯ (a9 ac0 ‹19› bO (bU (bE (aM bL (f9 (nU ‹23› ⋯) ‹46›))) aH)))
  (aA (a7 (i:=2) nD0 ⋯ ⋯ (a9 ab2 ‹19› aX (bR (bB cO ‹23› aI) aH)))
  (aA (aU (cN al5 T.ad4 ‹19› bO ‹23› ‹37›))
  (aA (aU (cN ah3 T.ad4 ‹19› bO ‹23› (aE (pv 2) ‹29›)))
  ‹68›))),?_⟩
 obtain⟨dx,h1⟩:=hq.self
 obtain⟨db,h2⟩:=hq.book.self
 refine⟨_,rfl,L.qu,_,dx,_,_,rfl,h1,T.aa0,T.ad9,rfl,L.bk,_,db,_,_,rfl,h2,T.ac6,T.ab7,rfl,aJ,fun p0 hp0=>⟨aJ,fun p1 hp1=>?_⟩⟩
 have S1:=aD (o:=.tup []) hp0
 have g0:upd H p0 (.tup []) p0=some (.tup []):=aB
 generalize upd H p0 (.tup [])=H1 at S1 g0 hp1 ⊢
 have S2:=aD (o:=.tup [.str "from",.int q.B.up,.ref p0]) hp1
 have g1:upd H1 p1 (.tup [.str "from",.int q.B.up,.ref p0]) p1=some (.tup [.str "from",.int q.B.up,.ref p0]):=aB
 generalize upd H1 p1 (.tup [.str "from",.int q.B.up,.ref p0])=H2 at S2 g1 ⊢
 have fo:=Du u0 u1
 refine gQ (Bv (r:=("from",q.B.up,[])) ?_ fo fun pb H3 S3 g3=>?_)
 ·unfold cA fN
  simp only[Den,aR]
  exact⟨p1,_,rfl,g1,_,_,rfl,rfl,_,_,rfl,rfl,_,_,rfl,⟨p0,[],rfl,S2 _ _ g0,rfl⟩,rfl⟩
 have S03:=S1.trans (S2.trans S3)
 have hq3:=hq.same S03
 refine⟨_,rfl,L.qu,_,dx,_,_,rfl,S03 _ _ h1,T.aa0,T.aj9,rfl,_,_,rfl,rfl,q.last+1,rfl,hn,?_⟩
 obtain⟨dd,h4⟩:=hq3.disk.self
 refine⟨_,rfl,L.qu,_,dx,_,_,rfl,S03 _ _ h1,T.aa0,T.ap5,rfl,L.dk,dd,_,rfl,h4,rfl,_,rfl,gQ (AI hq3.disk hl hn hf hno fun kvs' H4 f4 w4 hD4=>?_)⟩
 obtain⟨hq4,st4⟩:=hq3.toDisk f4 w4 hD4
 obtain⟨dx4,h14⟩:=hq4.self
 obtain⟨dd4,h44⟩:=hq4.disk.self
 have hlk:aV (mkN q.D (bI (q.last+1))).fs (bI (q.last+1))=some []:=by
  show aV (q.D.fs++[(bI (q.last+1),[])]) (bI (q.last+1))=some []
  rw[pC _ _ _ _ hno,if_pos rfl]
 refine⟨_,rfl,L.qu,_,dx4,_,_,rfl,h14,T.aa0,T.ap5,rfl,L.dk,dd4,_,rfl,h44,rfl,_,rfl,_,rfl,gQ (yO hD4 rfl hn hlk (fun m bs hm=>?_) (st4.tup _ _ g3) (lA fo) (by rw[eF]; show 7<=100000; decide) fun H5 f5 hD5=>?_)⟩
 ·have hm:aV (q.D.fs++[(bI (q.last+1),[])]) m=some bs:=hm
  rw[pC _ _ _ _ hno]at hm
  split at hm
  ·cases hm
   exact zero_le _
  ·exact hz m bs hm
 obtain⟨hq5,st5⟩:=hq4.toDisk f5 (fun b h=>.inl h) hD5
 obtain⟨dx5,h15⟩:=hq5.self
 have hlen:(iA "from" q.B.up []).length=7:=by rw[eF]; rfl
 refine⟨_,rfl,L.qu,_,dx5,_,_,rfl,h15,T.aa0,T.aj9,rfl,_,_,rfl,rfl,dx5,_,h15,by show 10<1000; decide,?_⟩
 obtain⟨hq6,st6⟩:=hq5.fields (dx:=dx5) (vK q) wr (by rw[hlen]; rfl) rfl rfl
 exact qq _ _ ((aG.step S03).trans (st4.trans (st5.trans st6))) hq6
def CU (F:Fun K "drop_first" "Queue.drop_first" wY f fd) (T:‹3›) (ab2:‹9›) (al6:‹17› A.disk "drop" 4 ["self","name"] (oO A.disk A.badName A.missing A.stopped)):‹15› 5 f fd ["self"] (kR A):=by
 refine F.okY ["self"] fun cdv A' outer s H vs Q E hr nD0 h=>?_
 obtain⟨L,q,wr,bs,rfl,hq,hl,hn,hb,qq⟩:=h
 refine⟨_,aA (aU (cN al6 T.ad4 ‹19› bO ‹23› (bY ‹93› aH)))
  ‹68›,?_⟩
 obtain⟨dx,h1⟩:=hq.self
 obtain⟨dd,h4⟩:=hq.disk.self
 refine⟨_,rfl,L.qu,_,dx,_,_,rfl,h1,T.aa0,T.ap5,rfl,L.dk,dd,_,rfl,h4,rfl,_,rfl,L.qu,_,dx,_,_,rfl,h1,T.aa0,T.ai6,rfl,q.first,rfl,hn,gQ (FQ hq.disk hl hn hb fun kvs' H4 f4 w4 hD4=>?_)⟩
 obtain⟨hq4,st4⟩:=hq.toDisk f4 w4 hD4
 obtain⟨dx4,h14⟩:=hq4.self
 refine⟨_,rfl,L.qu,_,dx4,_,_,rfl,h14,T.aa0,T.ai6,rfl,_,_,rfl,rfl,dx4,_,h14,by show 10<1000; decide,?_⟩
 obtain⟨hq6,st6⟩:=hq4.fields (dx:=dx4) { q with D:=Dz q.D (bI q.first),first:=q.first+1 } wr rfl rfl rfl
 exact qq _ _ (st4.trans st6) hq6
end
def o5:gY "writing" (.bl b) (quF L q a)=quF L q b:=rfl
def CA (rs:Lp) (r:Rw):cG (rs++[r])=cG rs++iA r.1 r.2.1 r.2.2:=by
 unfold cG
 rw[map_append,List.flatten_append]
 simp
def xG (h:∀ r∈rs,bK (cA r)=true):(cG rs).length<=68 * rs.length:=by
 unfold cG
 induction rs with
 | nil=>exact le_refl _
 | cons r rs ih=>
  rw[map_cons,List.flatten_cons,length_append,eF,length_cons]
  have h1:=ih (fun x hx=>h x (mem_cons_of_mem _ hx))
  have h2:=qG (h r mem_cons_self)
  omega
def Al (h:∀ r∈rs,bK (cA r)=true):∀ b∈cG rs,0<=b/\b<=255:=by
 intro b hb
 unfold cG at hb
 rw[List.mem_flatten]at hb
 obtain⟨l,hl,hb⟩:=hb
 rw[mem_map]at hl
 obtain⟨r,hr,rfl⟩:=hl
 exact lA (h r hr) b hb
def lK (q:Qs) (h:aV q.D.fs (bI (q.last+1))=none) (m:Str):aV (vK q).D.fs m=if m=bI (q.last+1) then some (iA "from" q.B.up []) else aV q.D.fs m:=by
 show aV (fB (q.D.fs++[(bI (q.last+1),[])]) (bI (q.last+1)) (iA "from" q.B.up [])) m=_
 rw[BB,pC _ _ _ _ h,pC _ _ _ _ h]
 by_cases z:m=bI (q.last+1)
 ·rw[if_pos z,if_pos z,if_pos rfl]
  rfl
 ·rw[if_neg z,if_neg z,if_neg z]
structure NOk (q:Qs):Prop where
 left:q.D.left=none
 last:eX q.last
 here:aV q.D.fs (bI q.last)=some (hW q)
 len:∀ n bs,aV q.D.fs n=some bs->bs.length<=100000
def uW (h:aV q.D.fs (bI q.last)=some bs):hW q=bs:=by
 unfold hW
 rw[h]
 rfl
def WOk.next (h:WOk q k):NOk (aZ q)/\(aZ q).B=q.B:=by
 unfold aZ
 split
 ·refine⟨⟨rfl,h.nxt,?_,fun n bs e=>?_⟩,rfl⟩
  ·have e:=lK q h.new (bI (q.last+1))
   rw[if_pos rfl]at e
   have e2:hW (vK q)=iA "from" q.B.up []:=uW e
   rw[e2]
   exact e
  ·rw[lK q h.new]at e
   split at e
   ·cases e
    rw[eF]
    decide
   ·exact h.len n bs e
 ·obtain⟨bs,hb⟩:=h.here
  exact⟨⟨h.left,h.last,by rw[uW hb]; exact hb,h.len⟩,rfl⟩
section
variable {P:Program} {w:World} {K:K6} {mg:K8} {base:Heap} {A:Ad}
def CO (F:Fun K "write" "Queue.write" wV f fd) (T:‹3›) (ab2:‹9›) (ac0:‹16› "row_bytes" 4 ["row"] (fG A.badRow)) (af1:‹16› "make_good" 6 ["disk"] spg) (ah3:‹6›) (ai7:‹17› A.book "enter" 3 ["self","row","segment"] (oN A.book A.broken)) (ah4:‹17› A.queue "is_last_full" 5 ["self"] (pY A)) (ag5:‹17› A.queue "begin_segment" 5 ["self"] (nR A)):‹15› 7 f fd ["self","rows"] (nO A):=by
 refine F.okY ["self","rows","some","row"] fun cdv A' outer s H vs Q E hr nD0 h=>?_
 obtain⟨L,q,a,rs,B',rfl,hq,ok,na,da,hrs,hfo,qq⟩:=h
 refine⟨_,aA (a7 (i:=2) nD0 ⋯ ⋯ (bE aH))
  (aA (fY (lQ eO) ⋯ (bT K (pv 1)) ‹54›
   (aC (a7 (i:=2) nD0 ⋯ ⋯ (bB lD (pv 2) (a9 ac0 ‹19› bO ‹50›)))))
  (aA (bA (dG ‹23›)
   (aC (aU (a9 af1 ‹19› bO ‹79›)))
   aO)
  (aA (dS (pv 0) DX ⋯)
  (aA (bA (dG (cZ ah4 T.aa0 ‹19› bO (pv 0)))
   (aC (aU (cZ ag5 T.aa0 ‹19› bO (pv 0))))
   aO)
  (aA (aU (cN ah3 T.ad4 ‹19› bO ‹23› (bY ‹93› ‹37›)))
  (aA (dS (pv 0) DX ⋯)
  (aC (fY (lQ eO) ⋯ (bT K (pv 1)) ‹54›
   (aC (aU (cN ai7 T.ac6 ‹19› bO ‹23› (aE (pv 3) ‹79›)))))))))))),?_⟩
 have da':=da
 simp only[Den]at da'
 obtain⟨_,xs,e,ga,dxs⟩:=da'
 cases e
 have lx:=dxs.length
 rw[length_map]at lx
 refine⟨aJ,fun p0 hp0=>?_⟩
 have S1:=aD (o:=.tup []) hp0
 have g0:upd H p0 (.tup []) p0=some (.tup []):=aB
 generalize upd H p0 (.tup [])=H1 at S1 g0 ⊢
 refine⟨_,rfl,a,rfl,⟨_,SqL.of (S1 _ _ ga)⟩,?_⟩
 refine gA (bS (K:=K) (SqL.of (S1 _ _ ga))) (fun i σ H'=>aG H1 H'/\∃ pa z3,H' pa=some (.tup ((cG (rs.take i)).map V.int))/\σ = [some (.ref L.qu),some (.ref a),some (.ref pa),z3]) ?i0 (fun _ _ _ h=>h.1) ?_ ?_
 case i0=>exact⟨aG.refl _,p0,none,g0,rfl⟩
 ·rintro i x σ H5 H6 hi ⟨s5,pa,z3,g5,rfl⟩ s6 hx
  obtain⟨d,hd,dn⟩:=dxs.get hx
  rw[getElem?_map]at hd
  cases ej:rs[i]? with
  | none=>rw[ej]at hd; cases hd
  | some r=>
   rw[ej]at hd
   cases (Option.some.inj hd:cA r=d)
   have hr':=hrs r (mem_of_getElem? ej)
   have et:rs.take (i+1)=rs.take i++[r]:=by
    rw[take_succ,ej]
    rfl
   refine⟨_,rfl,_,rfl,gQ (Bv (dn.same (S1.trans (s5.trans s6))) hr' fun pb H7 S7 g7=>?_)⟩
   refine⟨pa,pb,_,_,rfl,rfl,S7 _ _ (s6 _ _ g5),g7,?_,fun p8 H8 S8 g8=>?_⟩
   ·have h1:=xG (rs:=rs.take i) (fun r h=>hrs r (List.mem_of_mem_take h))
    have h2:=qG hr'
    have h3:=ok.ents
    rw[length_map,length_map,eF]
    rw[length_take]at h1
    refine le_trans (m:=100000) ?_ (by decide)
    omega
   ·refine⟨s5.trans (s6.trans (S7.trans S8)),p8,_,?_,rfl⟩
    rw[et,CA,map_append]
    exact g8
 rintro σ H2 ⟨S2,pa,z3,g2,rfl⟩
 rw[show rs.take xs.length=rs by rw[lx,take_length]]at g2
 have S02:=S1.trans S2
 have hq2:=hq.same S02
 obtain⟨dx,h1⟩:=hq2.self
 obtain⟨bs,hbs⟩:=ok.here
 refine⟨_,rfl,L.qu,_,dx,_,_,rfl,h1,T.aa0,T.an7,rfl,_,rfl,bC (cJ rfl ?_)⟩
 refine⟨_,rfl,L.qu,_,dx,_,rfl,h1,T.aa0,T.an7,by show 10<1000; decide,?_⟩
 rw[o5]
 obtain⟨hq3,st3⟩:=hq2.fields (dx:=dx) q true rfl rfl rfl
 generalize upd H2 L.qu (.ins A.queue dx (quF L q true))=H3 at hq3 st3 ⊢
 obtain⟨dx3,h13⟩:=hq3.self
 have st03:Step L L H H3:=(aG.step S02).trans st3
 have gp3:=st3.tup _ _ g2
 obtain⟨nok,nB⟩:=ok.next
 try dsimp only
 refine Ie (fun σ' H'=>σ'=[some (.ref L.qu),some (.ref a),some (.ref pa),z3]/\H' pa=some (.tup ((cG rs).map V.int))/\∃ L4,Step L L4 H H'/\QueueW A H' L4 (aZ q) true) (fun n hn=>?_) ?_
 ·refine⟨_,rfl,L.qu,dx3,_,rfl,h13,rfl,L,q,true,bs,rfl,hq3,ok.last,hbs,fun H4 S4=>⟨_,rfl,?_⟩⟩
  have hq4:=hq3.same S4
  obtain⟨dx4,h14⟩:=hq4.self
  have el:hW q=bs:=uW hbs
  cases hb:xW q bs with
  | true=>
   refine aT ?_
   have hu:q.B.up<=999999:=by
    unfold xW at hb
    simp only[and_eq_true,Bool.not_eq_true',decide_eq_false_iff_not]at hb
    omega
   refine⟨_,rfl,L.qu,dx4,_,rfl,h14,rfl,L,q,true,rfl,hq4,ok.left,ok.nxt,ok.new,lt_trans ok.files (by decide),ok.len,ok.up,hu,fun L5 H5 st5 hq5=>?_⟩
   refine hn _ _ ⟨rfl,st5.tup _ _ (S4 _ _ gp3),L5,st03.trans ((aG.step S4).trans st5),?_⟩
   unfold aZ
   rw[el,if_pos hb]
   exact hq5
  | false=>
   refine bC (cJ rfl (hn _ _ ⟨rfl,S4 _ _ gp3,L,st03.trans (aG.step S4),?_⟩))
   unfold aZ
   rw[el,if_neg (by rw[hb]; decide)]
   exact hq4
 rintro _ H5 ⟨rfl,gp5,L5,st5,hq5⟩
 have hent:(aZ q).B.es.length+(aZ q).B.parts.length+rs.length<900:=by rw[nB]; exact ok.ents
 generalize aZ q=r at *
 obtain⟨dx5,h15⟩:=hq5.self
 obtain⟨dd5,h45⟩:=hq5.disk.self
 rw[st5.qu]at h15
 have lb:(cG rs).length<=100000:=by
  have h1:=xG hrs
  have h3:=ok.ents
  omega
 refine⟨_,rfl,L.qu,_,dx5,_,_,rfl,h15,T.aa0,T.ap5,rfl,L5.dk,dd5,_,rfl,h45,rfl,_,rfl,L.qu,_,dx5,_,_,rfl,h15,T.aa0,T.aj9,rfl,r.last,rfl,nok.last,_,rfl,gQ (yO hq5.disk nok.left nok.last nok.here nok.len gp5 (Al hrs) lb fun H6 f6 hD6=>?_)⟩
 obtain⟨hq6,st6⟩:=hq5.toDisk f6 (fun b h=>.inl h) hD6
 obtain⟨dx6,h16⟩:=hq6.self
 have h16:H6 L5.qu=some (.ins A.queue dx6 (quF L5 { r with D:=tR r.D (bI r.last) (hW r++cG rs) (cG rs).length } true)):=h16
 have h16':=h16
 rw[st5.qu]at h16'
 refine⟨_,rfl,L.qu,_,dx6,_,rfl,h16',T.aa0,T.an7,by show 10<1000; decide,?_⟩
 rw[o5]
 have hq6:QueueW A H6 L5 { r with D:=tR r.D (bI r.last) (hW r++cG rs) (cG rs).length } true:=hq6
 have st6:Step L5 L5 H5 H6:=st6
 obtain⟨hq7,st7⟩:=hq6.fields (dx:=dx6) { r with D:=tR r.D (bI r.last) (hW r++cG rs) (cG rs).length } false rfl rfl rfl
 rw[st5.qu]at hq7 st7
 generalize upd H6 L.qu (.ins A.queue dx6 (quF L5 { r with D:=tR r.D (bI r.last) (hW r++cG rs) (cG rs).length } false))=H7 at hq7 st7 ⊢
 have st07:Step L L5 H H7:=st5.trans (st6.trans st7)
 have ga7:=st07.frm _ _ ga na
 refine⟨_,rfl,a,rfl,⟨_,SqL.of ga7⟩,?_⟩
 refine gA (H0:=fun c=>if c=a then some (.lst xs) else none) (bS (K:=K) (SqL.of (if_pos rfl))) (fun j σ H'=>∃ Lj Bj z3,Step L Lj H H'/\QueueW A H' Lj (m7 r (cG rs) Bj) false/\Bj.es.length+Bj.parts.length<=r.B.es.length+r.B.parts.length+j/\dR r.last r.B rs=dR r.last Bj (rs.drop j)/\σ = [some (.ref L.qu),some (.ref a),some (.ref pa),z3]) ?j0 ?kp ?_ ?_
 case j0=>exact⟨L5,r.B,_,st07,hq7,le_refl _,rfl,rfl⟩
 case kp=>
  rintro j σ H' ⟨Lj,Bj,z,st,_⟩ b o eb
  by_cases y:b=a
  ·subst y
   have eb:some (HO.lst xs)=some o:=by simpa using eb
   rw[<- eb]
   exact st.frm _ _ ga na
  ·have eb:none=some o:=by simpa [y] using eb
   cases eb
 ·rintro j y σ G1 G2 hj ⟨Lj,Bj,z,stj,hqj,hle,hfj,rfl⟩ sG hy
  obtain⟨d,hd,dn⟩:=dxs.get hy
  rw[getElem?_map]at hd
  cases ej:rs[j]? with
  | none=>rw[ej]at hd; cases hd
  | some ro=>
   rw[ej]at hd
   cases (Option.some.inj hd:cA ro=d)
   have jL:j<rs.length:=(List.getElem?_eq_some_iff.mp ej).1
   have edj:rs.drop j=ro::rs.drop (j+1):=by
    rw[List.drop_eq_getElem_cons jL,(List.getElem?_eq_some_iff.mp ej).2]
   rw[edj]at hfj
   have efold:dR r.last Bj (ro::rs.drop (j+1))=match dD Bj ro.1 ro.2.1 ro.2.2 r.last with | none=>none | some B'=>dR r.last B' (rs.drop (j+1)):=rfl
   obtain⟨t,b,rfl,gt,gb⟩:=o0 dn
   have st2:=stj.trans (aG.step sG)
   have dn':Den G2 (fN ro.1 ro.2.1 ro.2.2) (.ref t):=BU st2.tup (k8 _ _ _) dn
   have hq2:=hqj.same sG
   obtain⟨dxj,h1j⟩:=hq2.self
   obtain⟨dbj,h2j⟩:=hq2.book.self
   rw[stj.qu]at h1j
   refine⟨_,rfl,L.qu,_,dxj,_,_,rfl,h1j,T.aa0,T.ad9,rfl,Lj.bk,dbj,_,rfl,h2j,rfl,_,rfl,_,rfl,L.qu,_,dxj,_,_,rfl,h1j,T.aa0,T.aj9,rfl,Lj.bk,Lj.de,Lj.dp,t,Bj,ro.1,ro.2.1,r.last,ro.2.2,rfl,hq2.book,dn',hrs ro (mem_of_getElem? ej),by omega,fun B2 hB2 dq H8 f8 hdq hB8=>?_,fun hno=>?_⟩
   ·obtain⟨hq8,st8⟩:=hq2.toBook f8 hdq hB8
    refine⟨_,B2,_,st2.trans st8,hq8,?_,?_,rfl⟩
    ·have:=Cp hB2
     omega
    ·rw[hfj,efold,hB2]
   ·rw[hfj,efold,hno]at hfo
    cases hfo
 ·rintro σ H8 ⟨Lj,Bj,z,stj,hqj,hle,hfj,rfl⟩
  rw[lx,List.drop_of_length_le (le_refl _)]at hfj
  rw[hfj]at hfo
  cases (Option.some.inj hfo:Bj=B')
  exact qq Lj H8 stj hqj
end
abbrev DG:Stmt:=bH (top 55) 1
abbrev tY:Stmt:=bH (top 55) 2
abbrev lZ:Stmt:=top 46
def eY {A:Ad} {H:Hp} {L:Pl} {q:Qs} {wr:Bool} (h:QueueW A H L q wr) {b:Addr} (hb:eT L b):∃ o,H b=some o:=by
 obtain⟨dx,h1⟩:=h.self
 obtain⟨hk,h2,_⟩:=h.held
 obtain⟨db,h3⟩:=h.book.self
 obtain⟨kb,h4,_⟩:=h.book.ent
 obtain⟨ps,h5,_⟩:=h.book.par
 rcases hb with z | z | (z | z | z) | z
 ·exact⟨_,by rw[z]; exact h1⟩
 ·exact⟨_,by rw[z]; exact h2⟩
 ·exact⟨_,by rw[z]; exact h3⟩
 ·exact⟨_,by rw[z]; exact h4⟩
 ·exact⟨_,by rw[z]; exact h5⟩
 ·exact qL h.disk z
def mL (d:PyData):Bool:=bK (.tuple [.str "put",.int 0,d])
def jH:PyData->Bool
 | .tuple ds=>decide (1<=ds.length) && (decide (ds.length<=9) && ds.all mL)
 | _=>false
def B7 (d:PyData):Prop:=∀ bs,d = .tuple bs->bs.length<=1000
def zA {k:Str} {n:Int} {body:Lc} (hk:k = "put"\/k = "part") (h0:0<=n) (h1:n<=999999) (hb:dO body) (hl:body.length<=60):bK (cA (k,n,body))=true:=by
 have hc:cT.contains k=true:=by rcases hk with rfl | rfl <;> decide +kernel
 show (cT.contains k && (bM 0 999999 (.int n) && (cV (.tuple (body.map .int)) && fD k (bN (.tuple (body.map .int))))))=true
 have e1:bM 0 999999 (.int n)=true:=by
  simp only[bM,and_eq_true,decide_eq_true_eq]
  exact⟨h0,h1⟩
 have e2:cV (.tuple (body.map .int))=true:=pQ hb
 have e3:fD k body=true:=by
  unfold fD
  rw[if_pos hk]
  exact decide_eq_true hl
 rw[hc,e1,e2,fQ,e3]
 rfl
def Iv {n:Int} {m:Nat} (h0:0<=n) (h1:n<=999999) (m1:1<=m) (m9:m<=9):bK (cA ("deal",n,[(m:Int)]))=true:=by
 show (cT.contains "deal" && (bM 0 999999 (.int n) && (cV (.tuple [.int (m:Int)]) && fD "deal" (bN (.tuple [.int (m:Int)])))))=true
 have e1:bM 0 999999 (.int n)=true:=by
  simp only[bM,and_eq_true,decide_eq_true_eq]
  exact⟨h0,h1⟩
 have e2:cV (.tuple [.int (m:Int)])=true:=pQ (ns:=[(m:Int)]) (fun b hb=>by rw[mem_singleton.mp hb]; omega)
 have e3:fD "deal" (bN (.tuple [.int (m:Int)]))=true:=by
  show fD "deal" [(m:Int)]=true
  unfold fD
  rw[if_neg (by decide),if_neg (by decide),if_pos rfl]
  show (decide (1=1) && decide (1<=(m:Int)) && decide ((m:Int)<=9))=true
  rw[decide_eq_true (show 1<=(m:Int) by omega),decide_eq_true (show (m:Int)<=9 by omega)]
  rfl
 rw[e1,e2,e3]
 decide +kernel
def yI (h:mL d=true):∃ body:Lc,d = .tuple (body.map .int)/\dO body/\body.length<=60:=by
 obtain⟨k,n,bs,e,hk,_,_,hb,hf⟩:=n5 h
 injection e with e
 injection e with e1 e
 injection e with _ e
 injection e with e3 e
 injection e1 with e1
 subst e1
 have hb':cV (.tuple bs)=true:=hb
 refine⟨bN (.tuple bs),?_,oA hb',?_⟩
 ·rw[e3]
  have:bs=(bN (.tuple bs)).map .int:=by
   rw[all_eq_true]at hb
   show bs=(bs.map _).map _
   rw[map_map]
   conv=>lhs; rw[<- List.map_id bs]
   apply map_congr_left
   intro x hx
   have:=hb x hx
   cases x with
   | int i=>rfl
   | _=>simp [bM]at this
  rw[<- this]
 ·unfold fD at hf
  rw[if_pos (.inl rfl)]at hf
  exact of_decide_eq_true hf
inductive hV (A:Ad) (vs:Ln) (H:Hp) (Q:VK) (E:XK):Prop
 | mk:∀ (v:V) (d:PyData),vs=[v]->Den H d v->(∀ ds,d = .tuple ds->ds.length<=1000/\∀ e∈ds,B7 e)->(jH d=true->∀ H',aG H H'->Q .non H')->(jH d=false->∀ H',aG H H'->E (.ref A.badBody) none H')->hV A vs H Q E
def putQ (q:Qs) (body:Lc) (B':Bk):Qs:=m7 (aZ q) (cG [("put",q.B.up,body)]) B'
inductive oK (A:Ad) (vs:Ln) (H:Hp) (Q:VK) (E:XK):Prop
 | mk:∀ (L:Pl) (q:Qs) (v:V) (d:PyData),vs=[.ref L.qu,v]->QueueW A H L q false->Den H d v->B7 d->(mL d=false->∀ H',aG H H'->E (.ref A.badBody) none H')->(∀ body:Lc,d = .tuple (body.map .int)->dO body->body.length<=60->WOk q 1/\q.B.up<=999999/\∃ B',dR (aZ q).last (aZ q).B [("put",q.B.up,body)]=some B'/\∀ L' H',Step L L' H H'->QueueW A H' L' (putQ q body B') false->Q (.int q.B.up) H')->oK A vs H Q E
def iV (up:Int) (bss:K9):Lp:=(List.range bss.length).map fun(k:Nat)=>("part",up+(k:Int),bss.getD k [])
def kJ (up:Int) (bss:K9):Lp:=iV up bss++([("deal",up,[(bss.length:Int)])]:Lp)
def allQ (q:Qs) (bss:K9) (B':Bk):Qs:=m7 (aZ q) (cG (kJ q.B.up bss)) B'
def dX (bss:K9):Lg:=bss.map fun b=>.tuple (b.map .int)
def lP (up:Int) (n:Nat):Lc:=(List.range n).map fun(k:Nat)=>up+(k:Int)
inductive i8 (A:Ad) (vs:Ln) (H:Hp) (Q:VK) (E:XK):Prop
 | mk:∀ (L:Pl) (q:Qs) (v:V) (d:PyData),vs=[.ref L.qu,v]->QueueW A H L q false->Den H d v->(∀ ds,d = .tuple ds->ds.length<=1000/\∀ e∈ds,B7 e)->(jH d=false->∀ H',aG H H'->E (.ref A.badBody) none H')->(∀ bss:K9,d = .tuple (dX bss)->1<=bss.length->bss.length<=9->(∀ b∈bss,dO b/\b.length<=60)->WOk q (bss.length+1)/\q.B.up+(bss.length:Int)<=1000000/\∃ B',dR (aZ q).last (aZ q).B (kJ q.B.up bss)=some B'/\∀ p L' H',Step L L' H H'->QueueW A H' L' (allQ q bss B') false->¬ eT L' p->(H p=none\/eT L p)->H' p=some (.lst ((lP q.B.up bss.length).map V.int))->Q (.ref p) H')->i8 A vs H Q E
def Be {ds:Lg} (h:ds.all mL=true):∃ bss:K9,ds=dX bss/\∀ b∈bss,dO b/\b.length<=60:=by
 induction ds with
 | nil=>exact⟨[],rfl,(fun b hb=>by cases hb)⟩
 | cons d ds ih=>
  rw[all_cons,and_eq_true]at h
  obtain⟨bss,e,hb⟩:=ih h.2
  obtain⟨b,e1,h1,h2⟩:=yI h.1
  refine⟨b::bss,by rw[e,e1]; rfl,fun x hx=>?_⟩
  rcases mem_cons.mp hx with rfl | hx
  ·exact⟨h1,h2⟩
  ·exact hb x hx
section
variable {P:Program} {w:World} {K:K6} {mg:K8} {base:Heap} {A:Ad}
def rY (F:Fun K "check_bodies" "check_bodies" lZ f fd) (T:‹3›) (ae3:‹16› "check_body" 4 ["body"] (gU A)):‹15› 5 f fd ["bodies"] (hV A):=by
 obtain⟨_,ah2⟩:=T.ai5
 refine F.okY ["bodies","body"] fun cdv A' outer s H vs Q E hr nD0 h=>?_
 obtain⟨v,d,rfl,hd,hz,q,qe⟩:=h
 refine⟨_,aA (bA (lO (cK (dG ‹28›)) (iR (cK (uE iW iW aI ‹30› (cI (v:=.int 9) ⋯ ah2 ⟨_,rfl⟩))))).pt
   (aC (dU eV ⋯ T.aj7 ⋯ T.be4 ‹25›))
   aO)
  (aC (fY (lQ eO) ⋯ (zC K (pv 0)) (bG (i:=1) nD0 ⋯ ⋯)
   (aC (aU (a9 ae3 ‹19› bO ‹29›))))),?_⟩
 have one:(1:Nat)<=sizeLine:=by decide
 refine⟨_,rfl,_,_,_,_,rfl,hd.ty,qP d,_,rfl,?_⟩
 cases d with
 | none=>exact aT (aT ⟨one,qe rfl H (aG.refl H)⟩)
 | bool x=>exact aT (aT ⟨one,qe rfl H (aG.refl H)⟩)
 | int x=>exact aT (aT ⟨one,qe rfl H (aG.refl H)⟩)
 | str x=>exact aT (aT ⟨one,qe rfl H (aG.refl H)⟩)
 | list x=>exact aT (aT ⟨one,qe rfl H (aG.refl H)⟩)
 | dict x=>exact aT (aT ⟨one,qe rfl H (aG.refl H)⟩)
 | tuple ds=>
 refine bC ?_
 obtain⟨z1,z2⟩:=hz ds rfl
 have hd':=hd
 simp only[Den]at hd'
 obtain⟨a,xs,rfl,ha,hds⟩:=hd'
 have hl:=hds.length
 refine⟨_,rfl,a,_,rfl,.inr (SqT.of ha),_,_,rfl,rfl,_,rfl,?_⟩
 rw[hl]
 unfold jH at q qe
 dsimp only at q qe
 by_cases h1:1<=ds.length
 case neg=>
  rw[decide_eq_false h1,Bool.false_and]at qe
  rw[if_neg (by rw[decide_eq_true_eq]; omega)]
  exact⟨_,rfl,aT ⟨one,qe rfl H (aG.refl H)⟩⟩
 rw[decide_eq_true h1,Bool.true_and]at q qe
 rw[if_pos (decide_eq_true (by omega))]
 refine⟨_,_,rfl,rfl,_,rfl,?_⟩
 show if (!decide ((ds.length:Int)<=9))=true then _ else _
 by_cases h2:ds.length<=9
 case neg=>
  rw[decide_eq_false h2,Bool.false_and]at qe
  rw[decide_eq_false (by omega)]
  exact aT ⟨one,qe rfl H (aG.refl H)⟩
 rw[decide_eq_true h2,Bool.true_and]at q qe
 rw[decide_eq_true (show (ds.length:Int)<=9 by omega)]
 refine bC (cJ rfl ?_)
 refine⟨_,rfl,a,rfl,⟨_,SqT.of ha⟩,?_⟩
 refine gA (sF (K:=K) (SqT.of ha)) (fun i σ H'=>aG H H'/\(ds.take i).all mL=true/\∃ z,σ = [some (.ref a),z]) ?i0 (fun _ _ _ h=>h.1) ?_ ?_
 case i0=>exact⟨aG.refl _,rfl,none,rfl⟩
 ·rintro i x σ H5 H6 hi ⟨s5,hall,z,rfl⟩ s6 hx
  obtain⟨e,he,dn⟩:=hds.get hx
  have S6:=s5.trans s6
  have ein:e∈ds:=mem_of_getElem? he
  refine⟨_,rfl,x,e,rfl,dn.same S6,fun bs eb=>le_trans (z2 e ein bs eb) (by decide),fun hb H7 S7=>?_,fun hb H7 S7=>?_⟩
  ·refine⟨S6.trans S7,?_,_,rfl⟩
   rw[take_succ,he,List.all_append,hall]
   show (true && (mL e && true))=true
   have:mL e=true:=hb
   rw[this]
   rfl
  ·refine qe ?_ H7 (S6.trans S7)
   rw[<- Bool.not_eq_true,all_eq_true]
   intro hall'
   have:mL e=true:=hall' e ein
   have hb:mL e=false:=hb
   rw[this]at hb
   cases hb
 ·rintro σ H5 ⟨s5,hall,z,rfl⟩
  rw[hl,take_length]at hall
  exact q hall H5 s5
def GZ (F:Fun K "put" "Queue.put" DG f fd) (T:‹3›) (ae3:‹16› "check_body" 4 ["body"] (gU A)) (ab6:‹4›):‹15› 8 f fd ["self","body"] (oK A):=by
 refine F.okY ["self","body","number"] fun cdv A' outer s H vs Q E hr nD0 h=>?_
 obtain⟨L,q,v,d,rfl,hq,dv,hz,qe,qg⟩:=h
 refine⟨_,aA (aU (a9 ae3 ‹19› bO ‹29›))
  (aA (a7 (i:=2) nD0 ⋯ ⋯ (nU ‹23› ⋯))
  (aA (aU (cN ab6 T.aa0 ‹19› bO (pv 0) (fH (cB (bU (bE (aM bL (aE (pv 2) ‹29›))) aH)) aH)))
  (aC (aP (pv 2))))),?_⟩
 refine⟨_,rfl,v,d,rfl,dv,(fun bs e=>le_trans (hz bs e) (by decide)),fun hg H1 S1=>?_,fun hb H1 S1=>qe hb H1 S1⟩
 obtain⟨body,rfl,hb,hl⟩:=yI hg
 obtain⟨ok,hu,B',hfo,qq⟩:=qg body rfl hb hl
 have hrow2:bK (cA ("put",q.B.up,body))=true:=zA (.inl rfl) ok.up hu hb hl
 have hq1:=hq.same S1
 obtain⟨dx,h1⟩:=hq1.self
 obtain⟨db,h2⟩:=hq1.book.self
 refine⟨_,rfl,L.qu,_,dx,_,_,rfl,h1,T.aa0,T.ad9,rfl,L.bk,_,db,_,_,rfl,h2,T.ac6,T.ab7,rfl,?_⟩
 refine⟨_,rfl,L.qu,dx,_,rfl,h1,rfl,_,rfl,_,rfl,aJ,fun p1 hp1=>⟨aJ,fun p2 hp2=>?_⟩⟩
 have S2:=aD (o:=.tup [.str "put",.int q.B.up,v]) hp1
 have g1:upd H1 p1 (.tup [.str "put",.int q.B.up,v]) p1=some (.tup [.str "put",.int q.B.up,v]):=aB
 generalize upd H1 p1 (.tup [.str "put",.int q.B.up,v])=H2 at S2 g1 hp2 ⊢
 have S3:=aD (o:=.lst [.ref p1]) hp2
 have g2:upd H2 p2 (.lst [.ref p1]) p2=some (.lst [.ref p1]):=aB
 generalize upd H2 p2 (.lst [.ref p1])=H3 at S3 g2 ⊢
 have S13:=S2.trans S3
 have hq3:=hq1.same S13
 refine⟨L,q,p2,[("put",q.B.up,body)],B',rfl,hq3,ok,fun z=>?_,?_,fun r hr'=>?_,hfo,fun L' H' st hq'=>⟨_,rfl,qq L' H' ((aG.step (S1.trans S13)).trans st) hq'⟩⟩
 ·obtain⟨o,e⟩:=eY (hq1.same S2) z
  rw[e]at hp2
  cases hp2
 ·simp only[Den,map_cons,map_nil,aR]
  refine⟨p2,_,rfl,g2,_,_,rfl,?_,rfl⟩
  unfold cA fN
  simp only[Den,aR]
  refine⟨p1,_,rfl,S3 _ _ g1,_,_,rfl,rfl,_,_,rfl,rfl,_,_,rfl,?_,rfl⟩
  have:=dv.same (S1.trans S13)
  simp only[Den]at this
  exact this
 ·rcases mem_cons.mp hr' with rfl | z
  ·exact hrow2
  ·cases z
def A4 {f:Addr} {fd:Lh} (F:Fun K "put_all" "Queue.put_all" tY f fd) (T:‹3›) (ai8:‹16› "check_bodies" 5 ["bodies"] (hV A)) (ab6:‹4›):‹15› 8 f fd ["self","bodies"] (i8 A):=by
 refine F.okY ["self","bodies","first","parts"] fun cdv A' outer s H vs Q E hr nD0 h=>?_
 obtain⟨L,q,v,d,rfl,hq,dv,hz,qe,qg⟩:=h
 refine⟨_,aA (aU (a9 ai8 ‹19› bO ‹29›))
  (aA (a7 (i:=2) nD0 ⋯ ⋯ (nU ‹23› ⋯))
  (aA (mU (i:=3) ["number","body"] [] nD0 ⋯ ⋯ ⋯ (GN K T.af9 (pv 1) (pv 2)) (fun C s2 H2 ex=>(jF K (n:=2) (cM (bG (i:=0) (show List.Nodup (["number","body"]:Ld) by decide +kernel) ⋯ (Or.inl ⋯)) (cM (bG (i:=1) (show List.Nodup (["number","body"]:Ld) by decide +kernel) ⋯ (Or.inl ⋯)) jE)))) ‹42› (fun C s2 H2 ex=>(bE (aM bL (aE (pv 0) ‹29›)))))
  (aA (aU (cN ab6 T.aa0 ‹19› bO (pv 0) (bR (bB GY (pv 3) (cB (bU (bE (aM bL (aE (pv 2) (bU (bE (bY ‹76› aH)) aH)))) aH))) aH)))
  (aC (aP (c9 ["part"] [] ⋯ (bT K (pv 3)) (fun C s2 H2 ex=>(bG (i:=0) (show List.Nodup (["part"]:Ld) by decide +kernel) ⋯ (Or.inl ⋯))) ‹42› (fun C s2 H2 ex=>‹26›))))))),?_⟩
 refine⟨_,rfl,v,d,rfl,dv,hz,fun hg H1 S1=>?_,fun hb H1 S1=>qe hb H1 S1⟩
 cases d with
 | tuple ds=>
 simp only[jH,and_eq_true,decide_eq_true_eq]at hg
 obtain⟨g1,g9,gall⟩:=hg
 obtain⟨bss,rfl,hbss⟩:=Be gall
 have lb:(dX bss).length=bss.length:=length_map _
 rw[lb]at g1 g9
 obtain⟨ok,hu,B',hfo,qq⟩:=qg bss rfl g1 g9 hbss
 have hq1:=hq.same S1
 obtain⟨dx,h1⟩:=hq1.self
 obtain⟨db,h2⟩:=hq1.book.self
 have dv1:=dv.same S1
 simp only[Den]at dv1
 obtain⟨a,xs,rfl,ha,dxs⟩:=dv1
 have lx:=dxs.length
 rw[lb]at lx
 refine⟨_,rfl,L.qu,_,dx,_,_,rfl,h1,T.aa0,T.ad9,rfl,L.bk,_,db,_,_,rfl,h2,T.ac6,T.ab7,rfl,?_⟩
 refine⟨_,rfl,_,rfl,a,_,q.B.up,rfl,rfl,ok.up,by omega,SqT.of ha,?_⟩
 refine dE (tD (K:=K) q.B.up (SqT.of ha)) (by rw[lx]; exact le_trans g9 (by decide)) (fun i y H'=>Den H' (cA ("part",q.B.up+(i:Int),bss.getD i [])) y) (fun i y G1 G2 s h=>h.n s (k8 _ _ _)) (fun σ=>σ.length=2) ?z0 ?_ ?_
 case z0=>rfl
 ·intro i x σc H3 hi hσ s3 hx Q' hQ'
  obtain⟨p,u,rfl,hp,hv⟩:=hx
  obtain⟨e,he,dn⟩:=dxs.get hv
  rw[lx]at hi
  have eb:bss[i]? = some (bss.getD i []):=by rw[getD_eq_getElem?_getD,getElem?_eq_getElem hi]; rfl
  unfold dX at he
  rw[getElem?_map,eb]at he
  cases (Option.some.inj he:PyData.tuple ((bss.getD i []).map .int)=e)
  match σc,hσ with
  | [z1,z2],_=>
   refine⟨p,_,rfl,SqT.of hp,rfl,_,_,rfl,_,_,rfl,rfl,?_⟩
   refine⟨_,rfl,_,rfl,aJ,fun pt hpt=>?_⟩
   refine hQ' _ _ _ rfl (aD hpt) ?_
   unfold cA fN
   simp only[Den,aR]
   refine⟨pt,_,rfl,aB,_,_,rfl,rfl,_,_,rfl,rfl,_,_,rfl,?_,rfl⟩
   have:=dn.same (s3.trans (aD (o:=.tup [.str "part",.int (q.B.up+(i:Int)),u]) hpt))
   simp only[Den]at this
   exact this
 intro D ys H2 hD S2 gD hlen hR
 rw[lx]at hlen
 have S02:=S1.trans S2
 have hq2:=hq.same S02
 refine⟨_,rfl,L.qu,dx,_,rfl,S2 _ _ h1,rfl,_,rfl,_,rfl,_,rfl,a,_,rfl,.inr (SqT.of (S2 _ _ ha)),aJ,fun t1 ht1=>⟨aJ,fun t2 ht2=>⟨aJ,fun l3 hl3=>?_⟩⟩⟩
 rw[lx]at ht2 hl3 ⊢
 have U1:=aD (o:=.tup [.int (bss.length:Int)]) ht1
 have u1:upd H2 t1 (.tup [.int (bss.length:Int)]) t1=some (.tup [.int (bss.length:Int)]):=aB
 generalize upd H2 t1 (.tup [.int (bss.length:Int)])=H3 at U1 u1 ht2 hl3 ⊢
 have U2:=aD (o:=.tup [.str "deal",.int q.B.up,.ref t1]) ht2
 have u2:upd H3 t2 (.tup [.str "deal",.int q.B.up,.ref t1]) t2=some (.tup [.str "deal",.int q.B.up,.ref t1]):=aB
 generalize upd H3 t2 (.tup [.str "deal",.int q.B.up,.ref t1])=H4 at U2 u2 hl3 ⊢
 have U3:=aD (o:=.lst [.ref t2]) hl3
 have u3:upd H4 l3 (.lst [.ref t2]) l3=some (.lst [.ref t2]):=aB
 generalize upd H4 l3 (.lst [.ref t2])=H5 at U3 u3 ⊢
 have S25:=U1.trans (U2.trans U3)
 refine⟨D,l3,ys,_,rfl,rfl,S25 _ _ gD,u3,?_,fun pc hpc=>?_⟩
 ·rw[hlen]
  exact le_trans (show _<=10 by simp; omega) (by decide)
 have U4:=aD (o:=.lst (ys++[.ref t2])) hpc
 have u4:upd H5 pc (.lst (ys++[.ref t2])) pc=some (.lst (ys++[.ref t2])):=aB
 generalize upd H5 pc (.lst (ys++[.ref t2]))=H6 at U4 u4 ⊢
 have S26:=S25.trans U4
 have hq6:=hq2.same S26
 have dl:(kJ q.B.up bss).length=bss.length+1:=by
  unfold kJ iV
  rw[length_append,length_map,length_range]
  rfl
 refine⟨L,q,pc,kJ q.B.up bss,B',rfl,hq6,by rw[dl]; exact ok,fun z=>?_,?_,fun r hr'=>?_,hfo,fun L' H7 st hq7=>?_⟩
 ·obtain⟨o,e⟩:=eY (hq2.same S25) z
  rw[e]at hpc
  cases hpc
 ·simp only[Den]
  refine⟨pc,_,rfl,u4,lI (by rw[length_map,dl,length_append,hlen]; rfl) fun i y e=>?_⟩
  by_cases hi:i<ys.length
  ·rw[getElem?_append_left hi]at e
   refine⟨cA ("part",q.B.up+(i:Int),bss.getD i []),?_,(hR i y e).same S26⟩
   unfold kJ iV
   rw[getElem?_map,getElem?_append_left (by rw[length_map,length_range]; omega),getElem?_map,getElem?_range (by omega)]
   rfl
  ·rw[getElem?_append_right (by omega)]at e
   have hi2:i - ys.length=0:=by
    have:=(List.getElem?_eq_some_iff.mp e).1
    rw[List.length_singleton]at this
    omega
   rw[hi2]at e
   cases (Option.some.inj e:V.ref t2=y)
   refine⟨cA ("deal",q.B.up,[(bss.length:Int)]),?_,?_⟩
   ·unfold kJ iV
    rw[getElem?_map,getElem?_append_right (by rw[length_map,length_range]; omega),length_map,length_range,show i - bss.length=0 by omega]
    rfl
   ·unfold cA fN
    simp only[Den,aR,map_cons,map_nil]
    exact⟨t2,_,rfl,U4 _ _ (U3 _ _ u2),_,_,rfl,rfl,_,_,rfl,rfl,_,_,rfl,⟨t1,_,rfl,U4 _ _ (U3 _ _ (U2 _ _ u1)),_,_,rfl,rfl,rfl⟩,rfl⟩
 ·unfold kJ iV at hr'
  rw[mem_append]at hr'
  rcases hr' with z | z
  ·rw[mem_map]at z
   obtain⟨k,hk,rfl⟩:=z
   rw[mem_range]at hk
   have hb:=hbss (bss.getD k []) (by rw[getD_eq_getElem?_getD,getElem?_eq_getElem hk]; exact List.getElem_mem hk)
   have:=ok.up
   exact zA (.inr rfl) (by omega) (by omega) hb.1 hb.2
  ·rw[mem_singleton.mp z]
   exact Iv ok.up (by omega) g1 g9
 have nD:¬ eT L D:=fun z=>by
  obtain⟨o,e⟩:=eY hq1 z
  rw[e]at hD
  cases hD
 have g7:=st.frm _ _ (S26 _ _ gD) nD
 refine⟨_,rfl,D,rfl,⟨_,SqL.of g7⟩,?_⟩
 refine dE (bS (K:=K) (SqL.of g7)) (by rw[hlen]; exact le_trans g9 (by decide)) (fun i y _=>y = .int (q.B.up+(i:Int))) (fun _ _ _ _ _ h=>h) (fun σ=>σ.length=1) ?z1 ?_ ?_
 case z1=>rfl
 ·intro i x σc H8 hi hσ s8 hx Q' hQ'
  obtain⟨t,b,rfl,gt,gb⟩:=o0 (hR i x hx)
  match σc,hσ with
  | [z],_=>
   refine⟨_,rfl,t,_,_,.int (q.B.up+(i:Int)),rfl,rfl,SqT.of (s8 _ _ (st.tup _ _ (S26 _ _ gt))),aW (by decide) rfl,?_⟩
   exact hQ' _ _ _ rfl (aG.refl _) rfl
 intro p zs H9 hp S9 g9' hlz hRz
 have ez:zs=(lP q.B.up bss.length).map V.int:=by
  apply ext_getElem?
  intro j
  cases ej:zs[j]? with
  | none=>
   have h1:=List.getElem?_eq_none_iff.mp ej
   rw[List.getElem?_eq_none_iff.mpr]
   unfold lP
   rw[length_map,length_map,length_range]
   omega
  | some y=>
   have hj:j<bss.length:=by
    have:=(List.getElem?_eq_some_iff.mp ej).1
    omega
   rw[hRz j y ej]
   unfold lP
   rw[getElem?_map,getElem?_map,getElem?_range hj]
   rfl
 rw[ez]at g9'
 refine qq p L' H9 ((aG.step (S02.trans S26)).trans (st.trans (aG.step S9))) (hq7.same S9) (fun z=>?_) ?_ g9'
 ·obtain⟨o,e⟩:=eY hq7 z
  rw[e]at hp
  cases hp
 ·by_cases z:eT L p
  ·exact .inr z
  ·refine .inl ?_
   cases e:H p with
   | none=>rfl
   | some o=>
    rw[st.frm _ _ ((S02.trans S26) _ _ e) z]at hp
    cases hp
 | _=>simp [jH]at hg
end
abbrev AO:Stmt:=bH (top 55) 3
abbrev AW:Stmt:=bH (top 55) 5
abbrev w6:Stmt:=bH (top 55) 18
abbrev tX:Stmt:=bH (top 55) 7
def qH (q:Qs) (ms:Lc):Lc:=(ms.filter (kE q.hs)).filter fun n=>ltB (eE q.B.es n) q.tries
def BV (q:Qs) (ms:Lc):Lc:=(ms.filter (kE q.hs)).filter fun n=>geB (eE q.B.es n) q.tries
def outQ (q:Qs) (n:Int) (x:Str) (B':Bk):Qs:={ m7 (aZ q) (cG [("out",n,[])]) B' with hs:=q.hs++[(n,(x,q.now))] }
def newQ (q:Qs) (n:Int) (B':Bk):Qs:=m7 (aZ q) (cG [("new",n,[])]) B'
def backQ (q:Qs) (n:Int):Qs:={ q with hs:=dropH q.hs n }
inductive mP (A:Ad) (vs:Ln) (H:Hp) (Q:VK) (x_3:XK):Prop
 | mk:∀ (L:Pl) (q:Qs) (x:Str) (ms:Lc),vs=[.ref L.qu,.str x]->QueueW A H L q false->(q.B.es.length<800/\(q.B.es.map (·.1)).Pairwise (· <= ·))->q.hs.length<900->eU xV 6 (.str x)=true->(x.length<=1000/\pT x=true)->List.Perm ms (q.B.es.map (·.1))->ms.Pairwise (· <= ·)->(qH q ms=[]->∀ H',aG H H'->Q .non H')->(∀ n r,qH q ms=n::r->WOk q 1/\0<=n/\n<=999999/\∃ B' e,dR (aZ q).last (aZ q).B [("out",n,[])]=some B'/\bJ B'.es n=some e/\∀ p L' H',Step L L' H H'->QueueW A H' L' (outQ q n x B') false->Den H' (nZ n e) (.ref p)->Q (.ref p) H')->mP A vs H Q x_3
inductive i6 (A:Ad) (vs:Ln) (H:Hp) (Q:VK) (E:XK):Prop
 | mk:∀ (L:Pl) (q:Qs) (v:V) (d:PyData) (ms:Lc),vs=[.ref L.qu,v]->QueueW A H L q false->(q.B.es.length<800/\(q.B.es.map (·.1)).Pairwise (· <= ·))->Den H d v->List.Perm ms (q.B.es.map (·.1))->ms.Pairwise (· <= ·)->((∀ n∈BV q ms,bM 0 999999 (.int n)=true->d ≠ .int n)->∀ H',aG H H'->E (.ref A.badNumber) none H')->(∀ n,d = .int n->n∈BV q ms->0<=n->n<=999999->WOk q 1/\∃ B',dR (aZ q).last (aZ q).B [("new",n,[])]=some B'/\∀ L' H',Step L L' H H'->QueueW A H' L' (newQ q n B') false->Q .non H')->i6 A vs H Q E
def m4 (ns:Lc):(ns.map V.int).all nK=true:=by
 rw[all_map]
 exact all_eq_true.mpr fun _ _=>rfl
def pJ (n:Int) (ns:Lc):inV (.int n) (ns.map V.int)=decide (n∈ns):=by
 unfold inV
 rw[List.any_map]
 by_cases h:n∈ns
 ·rw[decide_eq_true h,any_eq_true]
  exact⟨n,h,beq_self_eq_true n⟩
 ·rw[decide_eq_false h,<- Bool.not_eq_true,any_eq_true]
  rintro ⟨x,hx,e⟩
  have e:(x == n)=true:=e
  rw[beq_iff_eq]at e
  rw[e]at hx
  exact h hx
def AC (hk:k = "out"\/k = "new"\/k = "done") (h0:0<=n) (h1:n<=999999):bK (cA (k,n,[]))=true:=by
 have e1:bM 0 999999 (.int n)=true:=by
  simp only[bM,and_eq_true,decide_eq_true_eq]
  exact⟨h0,h1⟩
 show (cT.contains k && (bM 0 999999 (.int n) && (cV (.tuple []) && fD k (bN (.tuple [])))))=true
 rw[e1]
 rcases hk with rfl | rfl | rfl <;> decide +kernel
def QueueW.toHeld (h:QueueW A H L q wr) (r:HoR H hs' hk'):QueueW A (upd H L.hd (.dK hk')) L { q with hs:=hs' } wr/\Step L L H (upd H L.hd (.dK hk')):=by
 obtain⟨dx,h1⟩:=h.self
 obtain⟨hk,h2,h3⟩:=h.held
 have t:fS H (upd H L.hd (.dK hk')):=kN h2 (fun xs z=>by cases z)
 refine⟨⟨⟨dx,by rw[aF (fun z=>h.a_hd.1 z.symm)]; exact h1⟩,h.disk.keep fun b o e hb=>?_,h.book.keep (fun b o e hb=>?_) t,⟨hk',aB,r.t t⟩,h.a_bd,h.a_qu,h.a_hd⟩,⟨rfl,rfl,fun b o e nb=>by rw[aF (fun z=>nb (.inr (.inl z)))]; exact e,fun b hb=>.inl hb,t⟩⟩
 ·rw[aF (fun z=>by rw[z]at hb; exact h.a_hd.2.2 hb)]
  exact e
 ·rw[aF (fun z=>by rw[z]at hb; exact h.a_hd.2.1 hb)]
  exact e
def cP (q:Qs):(aZ q).now=q.now/\(aZ q).hs=q.hs/\(aZ q).tries=q.tries/\(aZ q).B=q.B:=by
 unfold aZ
 split <;> exact⟨rfl,rfl,rfl,rfl⟩
section
variable {P:Program} {w:World} {K:K6} {mg:K8} {base:Heap} {A:Ad}
def EY (F:Fun K "take" "Queue.take" AO f fd) (T:‹3›) (ae4:‹16› "check_hand" 2 ["hand"] (gT A)) (ad0:‹12›) (ag6:‹17› A.queue "ready" 4 ["self"] (gO A ltB)) (ab6:‹4›):‹15› 8 f fd ["self","hand"] (mP A):=by
 refine F.okY ["self","hand","numbers","number"] fun cdv A' outer s H vs Q E hr nD0 h=>?_
 obtain⟨L,q,x,ms,rfl,hq,hl,hh,hw,hz,perm,pw,qn,qs⟩:=h
 refine⟨_,aA (aU (a9 ae4 ‹19› bO ‹29›))
  (aA (a7 (i:=2) nD0 ⋯ ⋯ (cZ ag6 T.aa0 ‹19› aX (pv 0)))
  (aA (bA (cK (iS K (pv 2)))
   ‹66›
   aO)
  (aA (a7 (i:=3) nD0 ⋯ ⋯ (cD (cH K) (pv 2) aI (fun _ _=>rfl)))
  (aA (aU (cN ab6 T.aa0 ‹19› bO (pv 0) (fH (cB (bU (bE (aM bL (aE (pv 3) ‹46›))) aH)) aH)))
  (aA (fT (hu1 hr.units) ‹23› (pv 3) (bE (aE (pv 1) ‹79›)) ⋯)
  (aC (aP (cN ad0 T.ac6 ‹19› aX ‹23› ‹50›)))))))),?_⟩
 refine⟨_,rfl,.str x,.str x,rfl,by simp only[Den],(fun y e=>by injection e with e; rw[<- e]; exact hz),fun _ H1 S1=>?_,(fun z=>by rw[hw]at z; cases z)⟩
 have hq1:=hq.same S1
 obtain⟨dx,h1⟩:=hq1.self
 refine⟨_,rfl,L.qu,dx,_,rfl,h1,rfl,L,q,rfl,hq1,hl,fun ms' perm' pw' p H2 S2 hp g2=>?_⟩
 have em:ms'=ms:=cY (perm'.trans perm.symm) pw' pw
 subst em
 have g2:H2 p=some (.lst ((qH q ms').map V.int)):=g2
 cases er:qH q ms' with
 | nil=>
  rw[er]at g2
  exact⟨_,rfl,p,_,rfl,SqL.of g2,aT (qn er H2 (S1.trans S2))⟩
 | cons n r=>
  rw[er]at g2
  obtain⟨ok,n0,n9,B',e,hfo,hle,qq⟩:=qs n r er
  refine⟨_,rfl,p,_,rfl,SqL.of g2,bC (cJ rfl ?_)⟩
  refine⟨_,rfl,p,_,_,.int n,rfl,rfl,SqL.of g2,aW (by decide) rfl,?_⟩
  have S12:=S1.trans S2
  have hq2:=hq.same S12
  obtain⟨dx2,h2⟩:=hq2.self
  refine⟨_,rfl,L.qu,dx2,_,rfl,h2,rfl,_,rfl,aJ,fun p0 hp0=>⟨aJ,fun p1 hp1=>⟨aJ,fun p2 hp2=>?_⟩⟩⟩
  have V0:=aD (o:=.tup []) hp0
  have v0:upd H2 p0 (.tup []) p0=some (.tup []):=aB
  generalize upd H2 p0 (.tup [])=H3 at V0 v0 hp1 hp2 ⊢
  have V1:=aD (o:=.tup [.str "out",.int n,.ref p0]) hp1
  have v1:upd H3 p1 (.tup [.str "out",.int n,.ref p0]) p1=some (.tup [.str "out",.int n,.ref p0]):=aB
  generalize upd H3 p1 (.tup [.str "out",.int n,.ref p0])=H4 at V1 v1 hp2 ⊢
  have V2:=aD (o:=.lst [.ref p1]) hp2
  have v2:upd H4 p2 (.lst [.ref p1]) p2=some (.lst [.ref p1]):=aB
  generalize upd H4 p2 (.lst [.ref p1])=H5 at V2 v2 ⊢
  have S25:=V0.trans (V1.trans V2)
  have hq5:=hq2.same S25
  refine⟨L,q,p2,[("out",n,[])],B',rfl,hq5,ok,fun z=>?_,?_,fun r hr'=>?_,hfo,fun L' H6 st hq6=>?_⟩
  ·obtain⟨o,e⟩:=eY (hq2.same (V0.trans V1)) z
   rw[e]at hp2
   cases hp2
  ·simp only[Den,map_cons,map_nil,aR]
   refine⟨p2,_,rfl,v2,_,_,rfl,?_,rfl⟩
   unfold cA fN
   simp only[Den,aR,map_nil]
   exact⟨p1,_,rfl,V2 _ _ v1,_,_,rfl,rfl,_,_,rfl,rfl,_,_,rfl,⟨p0,_,rfl,V2 _ _ (V1 _ _ v0),rfl⟩,rfl⟩
  ·rw[mem_singleton.mp hr']
   exact AC (.inl rfl) n0 n9
  obtain⟨nn,nh,_,_⟩:=cP q
  have st05:=(aG.step (S12.trans S25)).trans st
  obtain⟨dx6,h6⟩:=hq6.self
  obtain⟨hk,g6,r6⟩:=hq6.held
  rw[show (m7 (aZ q) (cG [("out",n,[])]) B').hs=q.hs from nh]at r6
  rw[st.qu]at h6
  refine⟨_,rfl,_,rfl,L.qu,_,dx6,_,_,rfl,h6,T.aa0,T.ba7,rfl,aJ,fun pt hpt=>?_⟩
  have nowE:(m7 (aZ q) (cG [("out",n,[])]) B').now=q.now:=nn
  rw[nowE]
  have V6:=aD (o:=.tup [.str x,.int q.now]) hpt
  have v6:upd H6 pt (.tup [.str x,.int q.now]) pt=some (.tup [.str x,.int q.now]):=aB
  generalize upd H6 pt (.tup [.str x,.int q.now])=H7 at V6 v6 ⊢
  have fr:cQ q.hs n=none:=by
   have hm:n∈qH q ms':=by rw[er]; exact mem_cons_self
   have:=(mem_filter.mp (mem_filter.mp hm).1).2
   exact Option.isNone_iff_eq_none.mp this
  have ev:=(r6.look (n:=n)).1 fr
  have ep:eI hk (Sum.inl n) (V.ref pt)=hk++[(Sum.inl n,V.ref pt)]:=by
   unfold eI
   rw[oB,ev]
   rfl
  have hkl:hk.length<sizeLine:=by
   rw[r6.len]
   exact lt_trans hh (by decide)
  refine⟨_,rfl,L.qu,_,dx6,_,_,rfl,V6 _ _ h6,T.aa0,T.ac4,rfl,_,rfl,L'.hd,_,rfl,kM.k (k:=Sum.inl n) (V6 _ _ g6) hkl,?_⟩
  rw[ep]
  obtain⟨hq8,st8⟩:=(hq6.same V6).toHeld (HoR.snoc v6 (r6.t (aG.tup V6)):HoR H7 (q.hs++[(n,(x,q.now))]) (hk++[(Sum.inl n,.ref pt)]))
  generalize upd H7 L'.hd (.dK (hk++[(Sum.inl n,.ref pt)]))=H8 at hq8 st8 ⊢
  obtain⟨dx8,h8⟩:=hq8.self
  obtain⟨db8,hb8⟩:=hq8.book.self
  rw[st.qu]at h8
  refine⟨_,rfl,L.qu,_,dx8,_,_,rfl,h8,T.aa0,T.ad9,rfl,L'.bk,db8,_,rfl,hb8,rfl,_,rfl,L'.bk,L'.de,L'.dp,B',n,e,rfl,hq8.book,hle,fun pr H9 S9 d9=>?_⟩
  exact qq pr L' H9 (st05.trans ((aG.step V6).trans (st8.trans (aG.step S9)))) (hq8.same S9) d9
def A3 (F:Fun K "revive" "Queue.revive" tX f fd) (T:‹3›) (ab1:‹2›) (ai9:‹17› A.queue "dead" 4 ["self"] (gO A geB)) (ab6:‹4›):‹15› 8 f fd ["self","number"] (i6 A):=by
 obtain⟨_,ac8⟩:=T.ad1
 refine F.okY ["self","number"] fun cdv A' outer s H vs Q E hr nD0 h=>?_
 obtain⟨L,q,v,d,ms,rfl,hq,hl,dv,perm,pw,qe,qs⟩:=h
 refine⟨_,aA (bA (lO (cK (dG (a9 ab1 ‹19› aX (aE (pv 1) ‹44›)))) (iR (aQ (kB K) (pv 1) (cZ ai9 T.aa0 ‹19› aX (pv 0)) ⋯))).pt
   ‹87›
   aO)
  (aC (aU (cN ab6 T.aa0 ‹19› bO (pv 0) (fH (cB (bU (bE (aM bL (aE (pv 1) ‹46›))) aH)) aH)))),?_⟩
 have fail:bM 0 999999 d=false->∀ H',aG H H'->E (.ref A.badNumber) none H':=fun z=>qe (fun n _ hn e=>by rw[e,hn]at z; cases z)
 refine⟨_,rfl,v,d,0,999999,rfl,dv,_,rfl,?_⟩
 cases hn:bM 0 999999 d with
 | false=>
  refine aT (aT ?_)
  exact⟨aJ,fail hn H (aG.refl H)⟩
 | true=>
  obtain⟨n,rfl,n0,n9⟩:∃ n,d = .int n/\0<=n/\n<=999999:=by
   cases d with
   | int n=>
    simp only[bM,and_eq_true,decide_eq_true_eq]at hn
    exact⟨n,rfl,hn.1,hn.2⟩
   | _=>cases hn
  simp only[Den]at dv
  subst dv
  obtain⟨dx,h1⟩:=hq.self
  refine bC ⟨_,rfl,_,rfl,L.qu,dx,_,rfl,h1,rfl,L,q,rfl,hq,hl,fun ms' perm' pw' p H2 S2 hp g2=>?_⟩
  have em:ms'=ms:=cY (perm'.trans perm.symm) pw' pw
  subst em
  have g2:H2 p=some (.lst ((BV q ms').map V.int)):=g2
  refine⟨p,_,rfl,.inl (SqL.of g2),rfl,m4 _,_,rfl,?_⟩
  rw[if_pos rfl,pJ]
  by_cases hd:n∈BV q ms'
  ·rw[decide_eq_true hd]
   refine bC (cJ rfl ?_)
   obtain⟨ok,B',hfo,qq⟩:=qs n rfl hd n0 n9
   have hq2:=hq.same S2
   obtain⟨dx2,h2⟩:=hq2.self
   refine⟨_,rfl,L.qu,dx2,_,rfl,h2,rfl,_,rfl,aJ,fun p0 hp0=>⟨aJ,fun p1 hp1=>⟨aJ,fun p2 hp2=>?_⟩⟩⟩
   have V0:=aD (o:=.tup []) hp0
   have v0:upd H2 p0 (.tup []) p0=some (.tup []):=aB
   generalize upd H2 p0 (.tup [])=H3 at V0 v0 hp1 hp2 ⊢
   have V1:=aD (o:=.tup [.str "new",.int n,.ref p0]) hp1
   have v1:upd H3 p1 (.tup [.str "new",.int n,.ref p0]) p1=some (.tup [.str "new",.int n,.ref p0]):=aB
   generalize upd H3 p1 (.tup [.str "new",.int n,.ref p0])=H4 at V1 v1 hp2 ⊢
   have V2:=aD (o:=.lst [.ref p1]) hp2
   have v2:upd H4 p2 (.lst [.ref p1]) p2=some (.lst [.ref p1]):=aB
   generalize upd H4 p2 (.lst [.ref p1])=H5 at V2 v2 ⊢
   have S25:=V0.trans (V1.trans V2)
   have hq5:=hq2.same S25
   refine⟨L,q,p2,[("new",n,[])],B',rfl,hq5,ok,fun z=>?_,?_,fun r hr'=>?_,hfo,fun L' H6 st hq6=>qq L' H6 ((aG.step (S2.trans S25)).trans st) hq6⟩
   ·obtain⟨o,e⟩:=eY (hq2.same (V0.trans V1)) z
    rw[e]at hp2
    cases hp2
   ·simp only[Den,map_cons,map_nil,aR]
    refine⟨p2,_,rfl,v2,_,_,rfl,?_,rfl⟩
    unfold cA fN
    simp only[Den,aR,map_nil]
    exact⟨p1,_,rfl,V2 _ _ v1,_,_,rfl,rfl,_,_,rfl,rfl,_,_,rfl,⟨p0,_,rfl,V2 _ _ (V1 _ _ v0),rfl⟩,rfl⟩
   ·rw[mem_singleton.mp hr']
    exact AC (.inr (.inl rfl)) n0 n9
  ·rw[decide_eq_false hd]
   refine aT ⟨aJ,?_⟩
   exact qe (fun m hm _ e=>by injection e with e; rw[e]at hd; exact hd hm) H2 S2
end
abbrev AU:Stmt:=bH (top 55) 4
abbrev wW:Stmt:=bH (top 55) 15
abbrev rK:Stmt:=bH (top 36) 7
def Jb (q:Qs) (n:Int) (B':Bk):Qs:={ m7 (aZ q) (cG [("done",n,[])]) B' with hs:=dropH q.hs n }
def BP (q:Qs):Qs:={ q with D:=Dz q.D (bI q.first),first:=q.first+1 }
def rS (es:Lo) (n:Int):Int:=((bJ es n).getD ([],0,0)).2.2
inductive kU (C:Addr) (vs:Ln) (H:Hp) (Q:VK) (x_3:XK):Prop
 | mk:∀ (bk de dp:Addr) (B:Bk) (seg:Int),vs=[.ref bk,.int seg]->BookAt C H bk de dp B->(B.es.length<800/\(B.es.map (·.1)).Pairwise (· <= ·))->(∀ ms,List.Perm ms (B.es.map (·.1))->ms.Pairwise (· <= ·)->∀ p H',aG H H'->H p=none->H' p=some (.lst ((ms.filter fun n=>decide (rS B.es n=seg)).map V.int))->Q (.ref p) H')->kU C vs H Q x_3
def zT (q:Qs):Lc:=(q.B.es.map (·.1)).filter fun n=>decide (rS q.B.es n=q.first)
inductive gN (A:Ad) (vs:Ln) (H:Hp) (Q:VK) (x_3:XK):Prop
 | mk:∀ (L:Pl) (q:Qs) (I:Qs->Prop),vs=[.ref L.qu]->QueueW A H L q false->I q->(∀ q',I q'->(q'.B.es.length<800/\(q'.B.es.map (·.1)).Pairwise (· <= ·))/\(q'.first<q'.last->zT q'=[]->q'.D.left=none/\eX q'.first/\(∃ bs,aV q'.D.fs (bI q'.first)=some bs)/\I (BP q')))->(∀ L' q' H',Step L L' H H'->QueueW A H' L' q' false->I q'->(¬ q'.first<q'.last\/zT q'≠[])->Q (.int (q'.first - q.first)) H')->gN A vs H Q x_3
section
variable {P:Program} {w:World} {K:K6} {mg:K8} {base:Heap} {A:Ad}
def zN (F:Fun K "numbers_in" "Book.numbers_in" rK f fd) (T:‹8›):‹15› 1 f fd ["self","segment"] (kU aa4):=by
 refine F.okY ["self","segment"] fun cdv A' outer s H vs Q E hr nD0 h=>?_
 obtain⟨bk,de,dp,B,seg,rfl,hB,hl,qq⟩:=h
 refine⟨_,aC (aP (c9 ["number"] [("self",0),("segment",1)] ⋯ (bT K ‹75›) (fun C s2 H2 ex=>(bG (i:=0) (show List.Nodup (["number","self","segment"]:Ld) by decide +kernel) ⋯ (Or.inl ⋯))) (fun C s2 H2 ex=>(gW (aQ fM ‹41› (pv 2) (bD _)))) ‹65›)),?_⟩
 obtain⟨dx,h1⟩:=hB.self
 obtain⟨kvs,h2,h3⟩:=hB.ent
 refine⟨_,rfl,bk,_,dx,_,_,rfl,h1,T.cl,T.ac3,rfl,de,kvs,_,rfl,h2,h3.keys,.inr hl.2,by rw[length_map]; omega,fun p ms perm pw hp=>?_⟩
 have S1:=aD (o:=.lst (ms.map .int)) hp
 have g1:upd H p (.lst (ms.map .int)) p=some (.lst (ms.map .int)):=aB
 generalize upd H p (.lst (ms.map .int))=H1 at S1 g1 ⊢
 have lm:(ms.map V.int).length=ms.length:=length_map _
 have pl:=perm.length_eq
 rw[length_map]at pl
 refine⟨p,rfl,⟨_,SqL.of g1⟩,?_⟩
 refine fR (bS (K:=K) (SqL.of g1)) (by rw[lm,pl]; exact Nat.le_of_lt (lt_trans hl.1 (by decide))) (fun j=>decide (rS B.es (ms.getD j 0)=seg)) (fun j=>V.int (ms.getD j 0)) (fun σ=>∃ z,σ = [z,some (.ref bk),some (.int seg)]) ⟨none,rfl⟩ ?_ ?_
 ·intro j x σc H3 hj hσ s3 hx Q1 Q2 Q3 h2' h3'
  obtain⟨z,rfl⟩:=hσ
  rw[getElem?_map]at hx
  cases e:ms[j]? with
  | none=>rw[e]at hx; cases hx
  | some n=>
   rw[e]at hx
   cases hx
   have eg:ms.getD j 0=n:=by rw[getD_eq_getElem?_getD,e]; rfl
   rw[eg]at h2' h3'
   have hin:n∈B.es.map (·.1):=perm.mem_iff.mp (mem_of_getElem? e)
   obtain⟨en,hen⟩:=kD hin
   have S13:aG H H3:=S1.trans s3
   have hv:=h3.val (n:=n)
   rw[hen]at hv
   obtain⟨v,hv1,t,b,rfl,gt,gb⟩:=hv
   have dg:cS H3 de (.int n) (some (.ref t)):=by
    have:=cS.k (k:=Sum.inl n) (S13 _ _ h2)
    rw[hv1]at this
    exact this
   have es:rS B.es n=en.2.2:=by
    unfold rS
    rw[hen]
    rfl
   rw[es]at h2' h3'
   refine⟨_,rfl,bk,_,dx,_,_,rfl,S13 _ _ h1,T.cl,T.ac3,rfl,_,rfl,de,_,rfl,dg,t,_,_,.int en.2.2,rfl,rfl,SqT.of (S13 _ _ gt),aW (by decide) rfl,_,rfl,rfl,_,rfl,?_⟩
   by_cases y:en.2.2=seg
   ·rw[decide_eq_true (show V.int en.2.2=V.int seg by rw[y])]
    exact aT ⟨_,rfl,h2' _ ⟨_,rfl⟩ (decide_eq_true y)⟩
   ·rw[pP y]
    exact bC (h3' _ ⟨_,rfl⟩ (decide_eq_false y))
 intro D H2 hD S2 g2
 rw[lm,gB ms (fun n=>decide (rS B.es n=seg))]at g2
 exact qq ms perm pw D H2 (S1.trans S2) (S1.free hD) g2
def CP (F:Fun K "sweep" "Queue.sweep" wW f fd) (T:‹3›) (ad5:‹17› A.book "numbers_in" 1 ["self","segment"] (kU A.book)) (ad6:‹17› A.queue "drop_first" 5 ["self"] (kR A)):‹15› 6 f fd ["self"] (gN A):=by
 refine F.okY ["self","went"] fun cdv A' outer s H vs Q E hr nD0 h=>?_
 obtain⟨L,q,I,rfl,hq,hI,hst,qq⟩:=h
 refine⟨_,aA (a7 (i:=1) nD0 ⋯ ⋯ aI)
  (aA (o6 (lQ eO) (l5 (aQ uM ‹23› ‹23› (bD _)) (jD (cK (iS K (cN ad5 T.ac6 ‹19› aX ‹23› ‹79›))))).pt
   (aA (aU (cZ ad6 T.aa0 ‹19› bO (pv 0)))
   (aC (CH (i:=1) nD0 ⋯ ⋯ aI G0))))
  (aC (aP (pv 1)))),?_⟩
 refine⟨fun m σ H3=>∃ L' q',m=(q'.last - q'.first).toNat/\Step L L' H H3/\QueueW A H3 L' q' false/\I q'/\σ = [some (.ref L.qu),some (.int (q'.first - q.first))],⟨_,L,q,rfl,aG.step (aG.refl H),hq,hI,by rw[Int.sub_self]; rfl⟩,?_⟩
 rintro m σ H3 ⟨L',q',rfl,st,hq3,hI3,rfl⟩
 obtain⟨e1,e3⟩:=hst q' hI3
 obtain⟨dx,h1⟩:=hq3.self
 obtain⟨db,hb⟩:=hq3.book.self
 rw[st.qu]at h1
 refine⟨_,rfl,L.qu,_,dx,_,_,rfl,h1,T.aa0,T.ai6,rfl,_,rfl,L.qu,_,dx,_,_,rfl,h1,T.aa0,T.aj9,rfl,_,_,rfl,rfl,_,rfl,?_⟩
 show if decide (q'.first<q'.last)=true then _ else _
 by_cases hlt:q'.first<q'.last
 ·rw[if_pos (decide_eq_true hlt)]
  refine⟨_,rfl,L.qu,_,dx,_,_,rfl,h1,T.aa0,T.ad9,rfl,L'.bk,db,_,rfl,hb,rfl,_,rfl,L.qu,_,dx,_,_,rfl,h1,T.aa0,T.ai6,rfl,L'.bk,L'.de,L'.dp,q'.B,_,rfl,hq3.book,e1,fun ms perm pw p H4 S4 hp4 g4=>?_⟩
  have pf:List.Perm (ms.filter fun n=>decide (rS q'.B.es n=q'.first)) (zT q'):=perm.filter _
  have hq4:=hq3.same S4
  refine⟨p,_,rfl,SqL.of g4,?_⟩
  cases er:ms.filter (fun n=>decide (rS q'.B.es n=q'.first)) with
  | nil=>
   rw[er]at pf
   have ef:zT q'=[]:=List.Perm.eq_nil pf.symm
   obtain⟨l1,l2,⟨bs,l3⟩,l4⟩:=e3 hlt ef
   refine aT ⟨fun σ' H'=>∃ L'' q'',(q''.last - q''.first).toNat<(q'.last - q'.first).toNat/\Step L L'' H H'/\QueueW A H' L'' q'' false/\I q''/\σ'=[some (.ref L.qu),some (.int (q''.first - q.first))],fun σ' H' ⟨L'',q'',w1,w2,w3,w4,w5⟩=>⟨_,w1,L'',q'',rfl,w2,w3,w4,w5⟩,?_⟩
   obtain⟨dx4,h4⟩:=hq4.self
   rw[st.qu]at h4
   refine⟨_,rfl,L.qu,dx4,_,rfl,h4,rfl,L',q',false,bs,by rw[st.qu],hq4,l1,l2,l3,fun L5 H5 st5 hq5=>?_⟩
   refine⟨.int (q'.first - q.first),rfl,_,_,rfl,rfl,L5,BP q',by show (q'.last - (q'.first+1)).toNat<_; omega,st.trans ((aG.step S4).trans st5),hq5,l4,?_⟩
   show [_,some (V.int (q'.first - q.first+1))]=[_,some (V.int (q'.first+1 - q.first))]
   rw[show q'.first - q.first+1=q'.first+1 - q.first by omega]
  | cons n r=>
   rw[er]at pf
   refine bC ⟨_,rfl,qq L' q' H4 (st.trans (aG.step S4)) hq4 hI3 (.inr fun y=>?_)⟩
   rw[y]at pf
   have:=pf.eq_nil
   cases this
 ·rw[if_neg (by rw[decide_eq_true_eq]; exact hlt)]
  exact bC ⟨_,rfl,qq L' q' H3 st hq3 hI3 (.inl hlt)⟩
end
def mF {J:It} {H0 H:Hp} {n:Nat} {Y:Nat->V->Hp->Prop} {g:TG} {tb:TS} {D:Ends} {σ : St} (S:Src J H0 n Y) (Pv:Nat->St->Hp->Prop) (h0:Pv 0 σ H) (keep:∀ i σ H',Pv i σ H'->aG H0 H')
  (step:∀ (D':Ends) i x σ H1 H2,(∀ σ H,Pv (i+1) σ H->D'.nx σ H)->D'.rt=D.rt->i<n->Pv i σ H1->aG H1 H2->Y i x H2->g x σ H2 fun σ2 H3=>tb D' σ2 H3) (fin:∀ σ H',Pv n σ H'->D.nx σ H') :
  ∃ W:Nat->Nat->St->Hp->Prop,(∃ m,W 0 m σ H)/\∀ i m σ H,W i m σ H->
   (J.stop i H/\D.nx σ H)\/(J.go i H/\∃ N:St->Hp->Prop,(∀ σ' H',N σ' H'->∃ m',m'<m/\W (i+1) m' σ' H')/\∀ x H',J.yld i H x H'->g x σ H' fun σ2 H2=>tb { D with nx:=N,ct:=N,bk:=D.nx } σ2 H2):=
 gA S Pv h0 keep (fun i x σ H1 H2 h1 h2 h3 h4=>step { D with nx:=Pv (i+1),ct:=Pv (i+1),bk:=D.nx } i x σ H1 H2 (fun _ _ h=>h) rfl h1 h2 h3 h4) fin
abbrev xA:Stmt:=bH (top 55) 16
def Kx:bootBuiltins "min" = some (.builtin "min"):=by decide +kernel
def sA (n:Int) (e:Ent):Rw:=("carried",n,(if (9:Int)<e.2.1 then 9 else e.2.1)::e.1)
inductive gP (A:Ad) (vs:Ln) (H:Hp) (Q:VK) (x_3:XK):Prop
 | mk:∀ (L:Pl) (q:Qs) (I:Nat->Qs->Prop) (ns:Lc),vs=[.ref L.qu]->QueueW A H L q false->(q.B.es.length<800/\(q.B.es.map (·.1)).Pairwise (· <= ·))->(q.first=q.last->Q .non H)->(q.first≠q.last->(∀ ms,List.Perm ms (q.B.es.map (·.1))->ms.Pairwise (· <= ·)->(ms.filter fun n=>decide (rS q.B.es n=q.first))=ns)/\I 0 q/\
 (∀ i n q',ns[i]? = some n->I i q'->∃ e B',bJ q'.B.es n=some e/\bK (cA (sA n e))=true/\WOk q' 1/\dR (aZ q').last (aZ q').B [sA n e]=some B'/\I (i+1) (m7 (aZ q') (cG [sA n e]) B'))/\
 ∀ q',I ns.length q'->q'.D.left=none/\eX q'.first/\(∃ bs,aV q'.D.fs (bI q'.first)=some bs)/\∀ L' H',Step L L' H H'->QueueW A H' L' (BP q') false->Q (.int (ns.length:Int)) H')->gP A vs H Q x_3
section
variable {P:Program} {w:World} {K:K6} {mg:K8} {base:Heap} {A:Ad}
def CY (F:Fun K "carry" "Queue.carry" xA f fd) (T:‹3›) (ad5:‹17› A.book "numbers_in" 1 ["self","segment"] (kU A.book)) (ad0:‹12›) (ad6:‹17› A.queue "drop_first" 5 ["self"] (kR A)) (ab6:‹4›):‹15› 8 f fd ["self"] (gP A):=by
 obtain⟨_,ag4⟩:=T.ah1
 refine F.okY ["self","numbers","number","letter","times"] fun cdv A' outer s H vs Q E hr nD0 h=>?_
 obtain⟨L,q,I,ns,rfl,hq,he,q1,q2⟩:=h
 refine⟨_,aA (bA (aQ fM ‹23› ‹23› (bD _))
   ‹66›
   aO)
  (aA (a7 (i:=1) nD0 ⋯ ⋯ (cN ad5 T.ac6 ‹19› aX ‹23› ‹79›))
  (aA (fY (lQ eO) ⋯ (bT K (pv 1)) (bG (i:=2) nD0 ⋯ ⋯)
   (aA (a7 (i:=3) nD0 ⋯ ⋯ (cN ad0 T.ac6 ‹19› aX ‹23› ‹37›))
   (aA (a7 (i:=4) nD0 ⋯ ⋯ (bF (FF ⋯) ⋯ T.bk5 Kx (aN ‹38› (aE (cI (v:=.int 9) ⋯ ag4 ⟨_,rfl⟩) aH))))
   (aC (aU (cN ab6 T.aa0 ‹19› bO (pv 0) (fH (cB (bU (bE (aM bL (aE (pv 2) (bR (bB lD (bE ‹64›) ‹38›) aH)))) aH)) aH)))))))
  (aA (aU (cZ ad6 T.aa0 ‹19› bO (pv 0)))
  (aC (aP ‹76›))))),?_⟩
 obtain⟨dx,h1⟩:=hq.self
 refine⟨_,rfl,L.qu,_,dx,_,_,rfl,h1,T.aa0,T.ai6,rfl,_,rfl,L.qu,_,dx,_,_,rfl,h1,T.aa0,T.aj9,rfl,rfl,_,rfl,?_⟩
 by_cases hfl:q.first=q.last
 ·rw[decide_eq_true (show V.int q.first=V.int q.last by rw[hfl])]
  exact aT (q1 hfl)
 rw[pP hfl]
 refine bC (cJ rfl ?_)
 obtain⟨hns,i0,istep,iend⟩:=q2 hfl
 obtain⟨db,h2⟩:=hq.book.self
 refine⟨_,rfl,L.qu,_,dx,_,_,rfl,h1,T.aa0,T.ad9,rfl,L.bk,db,_,rfl,h2,rfl,_,rfl,L.qu,_,dx,_,_,rfl,h1,T.aa0,T.ai6,rfl,L.bk,L.de,L.dp,q.B,_,rfl,hq.book,he,fun ms perm pw p H4 S4 hp4 g4=>?_⟩
 rw[hns ms perm pw]at g4
 clear hns perm pw ms
 have np:¬ eT L p:=fun z=>by
  obtain⟨o,e⟩:=eY hq z
  rw[e]at hp4
  cases hp4
 refine⟨_,rfl,p,rfl,⟨_,SqL.of g4⟩,?_⟩
 refine mF (bS (K:=K) (H:=upd (fun _=>none) p (.lst (ns.map V.int))) (SqL.of aB)) (fun i σ H'=>∃ Li qi z2 z3 z4,Step L Li H H'/\QueueW A H' Li qi false/\I i qi/\¬ eT Li p/\H' p=some (.lst (ns.map V.int))/\σ = [some (.ref L.qu),some (.ref p),z2,z3,z4]) ⟨L,q,_,_,_,aG.step S4,hq.same S4,i0,np,g4,rfl⟩ (fun i σ H' hh b o e=>?_) ?_ ?_
 ·obtain⟨_,_,_,_,_,_,_,_,_,g,_⟩:=hh
  by_cases y:b=p
  ·subst y
   rw[aB]at e
   injection e with e
   rw[<- e]
   exact g
  ·rw[aF y]at e
   cases e
 ·rintro D' i x σ H5 H6 hD' - hi ⟨Li,qi,z2,z3,z4,st,hqi,ii,npi,gi,rfl⟩ s6 hx
  rw[length_map]at hi
  have hx:(ns.map V.int)[i]? = some x:=hx
  rw[getElem?_map]at hx
  obtain⟨n,en⟩:∃ n,ns[i]? = some n:=⟨_,getElem?_eq_getElem hi⟩
  rw[en]at hx
  cases hx
  obtain⟨e,B',el,rok,wok,hfo,inx⟩:=istep i n qi en ii
  have hq6:=hqi.same s6
  have st6:=st.trans (aG.step s6)
  obtain⟨dx6,h6⟩:=hq6.self
  rw[st.qu]at h6
  obtain⟨db6,hb6⟩:=hq6.book.self
  refine⟨_,rfl,L.qu,_,dx6,_,_,rfl,h6,T.aa0,T.ad9,rfl,Li.bk,db6,_,rfl,hb6,rfl,_,rfl,Li.bk,Li.de,Li.dp,qi.B,n,e,rfl,hq6.book,el,fun pt H7 S7 d7=>?_⟩
  obtain⟨t,b,et,gt,gb⟩:=pG d7
  cases et
  refine⟨_,rfl,pt,_,_,.int e.2.1,rfl,rfl,SqT.of gt,aW (by decide) rfl,_,_,rfl,?_⟩
  have hq7:=hq6.same S7
  obtain⟨dx7,h7⟩:=hq7.self
  rw[st.qu]at h7
  have rf:=xI (k:="carried") (n:=n) (body:=(sA n e).2.2) rok
  refine⟨_,rfl,L.qu,dx7,_,rfl,h7,rfl,_,rfl,_,rfl,aJ,fun p0 hp0=>?_⟩
  obtain⟨tm,etm⟩:∃ tm:Int,tm=if (9:Int)<e.2.1 then 9 else e.2.1:=⟨_,rfl⟩
  rw[<- etm]
  have V0:=aD (o:=.tup [.int tm]) hp0
  have v0:upd H7 p0 (.tup [.int tm]) p0=some (.tup [.int tm]):=aB
  generalize upd H7 p0 (.tup [.int tm])=H8 at V0 v0 ⊢
  refine⟨_,rfl,pt,_,_,.ref b,rfl,rfl,SqT.of (V0 _ _ gt),aW (by decide) rfl,p0,b,_,_,rfl,rfl,v0,V0 _ _ gb,?_,fun p9 H9 S9 g9=>⟨aJ,fun p1 hp1=>⟨aJ,fun p2 hp2=>?_⟩⟩⟩
  ·rw[length_map]
   have:=rf.2.2.2.2.2
   have:1+e.1.length<=61:=by
    have h:(sA n e).2.2.length=e.1.length+1:=rfl
    omega
   exact le_trans this (by decide)
  have V1:=aD (o:=.tup [.str "carried",.int n,.ref p9]) hp1
  have v1:upd H9 p1 (.tup [.str "carried",.int n,.ref p9]) p1=some (.tup [.str "carried",.int n,.ref p9]):=aB
  generalize upd H9 p1 (.tup [.str "carried",.int n,.ref p9])=H10 at V1 v1 hp2 ⊢
  have V2:=aD (o:=.lst [.ref p1]) hp2
  have v2:upd H10 p2 (.lst [.ref p1]) p2=some (.lst [.ref p1]):=aB
  generalize upd H10 p2 (.lst [.ref p1])=H11 at V2 v2 ⊢
  have S611:=S7.trans (V0.trans (S9.trans (V1.trans V2)))
  refine⟨Li,qi,p2,[sA n e],B',by rw[st.qu],hq6.same S611,wok,fun z=>?_,?_,fun r hr'=>?_,hfo,fun L' H12 st12 hq12=>?_⟩
  ·obtain⟨o,e⟩:=eY (hq6.same (S7.trans (V0.trans (S9.trans V1)))) z
   rw[e]at hp2
   cases hp2
  ·simp only[Den,map_cons,map_nil,aR]
   refine⟨p2,_,rfl,v2,_,_,rfl,?_,rfl⟩
   unfold cA fN sA
   rw[<- etm]
   simp only[Den,aR]
   refine⟨p1,_,rfl,V2 _ _ v1,_,_,rfl,rfl,_,_,rfl,rfl,_,_,rfl,⟨p9,_,rfl,V2 _ _ (V1 _ _ g9),?_⟩,rfl⟩
   exact bQ.mpr rfl
  ·rw[mem_singleton.mp hr']
   exact rok
  have npn:¬ eT L' p:=st12.not (S611 _ _ (s6 _ _ gi)) npi
  exact hD' _ _ ⟨L',_,_,_,_,st6.trans ((aG.step S611).trans st12),hq12,inx,npn,st12.frm _ _ (S611 _ _ (s6 _ _ gi)) npi,rfl⟩
 rintro σ H5 ⟨Li,qi,z2,z3,z4,st,hqi,ii,npi,gi,rfl⟩
 rw[length_map]at ii
 obtain⟨l1,l2,⟨bs,l3⟩,qq⟩:=iend qi ii
 obtain⟨dx5,h5⟩:=hqi.self
 rw[st.qu]at h5
 refine⟨_,rfl,L.qu,dx5,_,rfl,h5,rfl,Li,qi,false,bs,by rw[st.qu],hqi,l1,l2,l3,fun L' H6 st6 hq6=>?_⟩
 have g6:=st6.frm _ _ gi npi
 refine⟨_,rfl,p,_,rfl,.inl (SqL.of g6),?_⟩
 rw[length_map]
 exact qq L' H6 (st.trans st6) hq6
end
def spF:Sp:=fun _ _ _ _=>False
def xX:Lc:=iA "from" 0 []
abbrev AQ:Stmt:=bH (top 55) 0
def qV (D:Dk):Prop:=D.fs=[]/\D.left=none
inductive oJ (A:Ad) (vs:Ln) (H:Hp) (Q:VK) (x_3:XK):Prop
 | mk:∀ (dk df:Addr) (kvs:Ll) (D:Dk),vs=[.ref dk]->DiskAt A.disk H dk df kvs D->qV D->(∀ p H',aG H H'->H p=none->H' p=some (.lst [])->Q (.ref p) H')->oJ A vs H Q x_3
inductive pZ (C:Addr) (vs:Ln) (H:Hp) (Q:VK) (x_3:XK):Prop
 | mk:∀ (dk df:Addr) (kvs:Ll) (D:Dk),vs=[.ref dk]->DiskAt C H dk df kvs D->qV D->(∀ p H',aG H H'->H p=none->H' p=some (.lst [])->Q (.ref p) H')->pZ C vs H Q x_3
inductive lT (vs:Ln) (H:Hp) (Q:VK) (x_3:XK):Prop
 | mk:∀ (p:Addr),vs=[.ref p]->H p=some (.lst [])->(∀ p H',aG H H'->H' p=some (.lst [])->Q (.ref p) H')->lT vs H Q x_3
inductive tN (A:Ad) (vs:Ln) (H:Hp) (Q:VK) (x_3:XK):Prop
 | mk:∀ (dk df:Addr) (kvs:Ll) (D:Dk),vs=[.ref dk]->DiskAt A.disk H dk df kvs D->qV D->(∀ bk de dp H',aG H H'->H bk=none->H de=none->H dp=none->BookAt A.book H' bk de dp ⟨[],0,[]⟩->Q (.ref bk) H')->tN A vs H Q x_3
inductive tK (A:Ad) (vs:Ln) (H:Hp) (Q:VK) (x_3:XK):Prop
 | mk:∀ (dk df:Addr) (kvs:Ll) (D:Dk),vs=[.ref dk]->DiskAt A.disk H dk df kvs D->qV D->(∀ kvs' d p H',sC dk df kvs H H'->FL dk df kvs kvs' H->DiskAt A.disk H' dk df kvs' ⟨[(bI 0,xX)],d,none⟩->H' p=some (.lst [.int 0])->¬ own dk df kvs' p->Q (.ref p) H')->tK A vs H Q x_3
def iX (m h t d:Int):Qs:=⟨⟨[(bI 0,xX)],d,none⟩,⟨[],0,[]⟩,m,h,t,0,0,0,[]⟩
inductive tJ (A:Ad) (vs:Ln) (H:Hp) (Q:VK) (x_3:XK):Prop
 | mk:∀ (qu dx dk df:Addr) (kvs:Ll) (D:Dk) (m h t:Int),vs=[.ref qu,.ref dk,.int m,.int h,.int t]->H qu=some (.ins A.queue dx [])->DiskAt A.disk H dk df kvs D->(¬ own dk df kvs qu)->oQ (.int m) (.int h) (.int t)=true->qV D->(∀ L' d H',L'.qu=qu->L'.dk=dk->(∀ b o,H b=some o->b≠qu->¬ own dk df kvs b->H' b=some o)->(∀ b,eT L' b->b=qu\/own dk df kvs b\/H b=none)->QueueW A H' L' (iX m h t d) false->Q .non H')->tJ A vs H Q x_3
structure Fs (C qu dx:Addr) (H0 H1:Hp) (fs:Lm):Prop where
 at_:H1 qu=some (.ins C dx fs)
 but:But qu H0 H1
def Fs.set (j:Fs C qu dx H0 H1 fs) (f:Str) (v:V):∃ G,G=upd H1 qu (.ins C dx (gY f v fs))/\Fs C qu dx H0 G (gY f v fs):=
 ⟨_,rfl,aB,fun c o e nc=>by rw[aF nc]; exact j.but c o e nc⟩
def Fs.new (j:Fs C qu dx H0 H1 fs) (hp:H1 p=none):∃ G,G=upd H1 p o/\Fs C qu dx H0 G fs/\G p=some o/\aG H1 G/\p≠qu:=
 ⟨_,rfl,⟨aD hp _ _ j.at_,fun c u e nc=>aD hp _ _ (j.but c u e nc)⟩,aB,aD hp,fun z=>by rw[z,j.at_]at hp; cases hp⟩
section
variable {P:Program} {w:World} {K:K6} {mg:K8} {base:Heap} {A:Ad}
def okF:‹15› k f fd ps spF:=⟨fun _ _ _ _ h=>h.elim,fun _ _ _ _ _ _ _ _ _ _ _ _ _ h=>h.elim⟩
def uN (F:Fun K "segment_of" "segment_of" oR f fd):‹15› 2 f fd ["name"] spF:=by
 exact okF
def A1 (F:Fun K "rows_of" "rows_of" wS f fd):‹15› 6 f fd ["disk","segment","last"] spF:=by
 exact okF
def Ib (F:Fun K "cut" "Disk.cut" JL f fd):‹15› 4 f fd ["self","name","size"] spF:=by
 exact okF
def Ec {aa2 aa5 ab8 aa6 aa1 aa9 aa7 f:Addr} {fd:Lh} (F:Fun K "names" "Disk.names" DH f fd) (T:‹1›):‹15› 1 f fd ["self"] (pZ aa7):=by
 refine F.okY ["self"] fun cdv A' outer s H vs Q E hr nD0 h=>?_
 obtain⟨dk,df,kvs,D,rfl,hD,he,q⟩:=h
 refine⟨_,aC (aP ‹75›),?_⟩
 obtain⟨dx,h1⟩:=hD.self
 refine⟨_,rfl,dk,_,dx,_,_,rfl,h1,T.cl,T.af5,rfl,df,kvs,[],rfl,hD.files,(by rw[hD.rel.keys,he.1]; rfl),.inl (by decide),by decide,fun p ms perm so hp=>?_⟩
 have em:ms=[]:=perm.eq_nil
 subst em
 exact q p _ (aD hp) hp aB
def rW (F:Fun K "segments_on" "segments_on" nE f fd) (T:‹3›) (am1:‹16› "segment_of" 2 ["name"] spF) (ba2:‹17› A.disk "names" 1 ["self"] (pZ A.disk)):‹15› 3 f fd ["disk"] (oJ A):=by
 refine F.okY ["disk","segments"] fun cdv A' outer s H vs Q E hr nD0 h=>?_
 obtain⟨dk,df,kvs,D,rfl,hD,he,q⟩:=h
 refine⟨_,aA (a7 (i:=1) nD0 ⋯ ⋯ (bF vY ⋯ T.af4 iJ (dW (c9 ["name"] [] ⋯ (bT K (cZ ba2 T.ad4 ‹19› aX (pv 0))) (fun C s2 H2 ex=>(bG (i:=0) (show List.Nodup (["name"]:Ld) by decide +kernel) ⋯ (Or.inl ⋯))) ‹42› (fun C s2 H2 ex=>(a9 am1 ‹19› aX ‹36›))) aH)))
  (aA (bA (l5 (iS K (pv 1)) (jD (aQ Ay (bB cO (bB jP ‹57› (cD (cH K) (pv 1) aI (fun _ _=>rfl))) aI) ‹76› (bD _)))).pt
   ‹74›
   aO)
  (aC (aP (pv 1)))),?_⟩
 obtain⟨dx,h1⟩:=hD.self
 refine⟨_,rfl,dk,dx,_,rfl,h1,rfl,dk,df,kvs,D,rfl,hD,he,fun p1 H1 S1 hp1 g1=>?_⟩
 refine⟨p1,rfl,⟨_,SqL.of g1⟩,?_⟩
 refine dE (bS (K:=K) (SqL.of g1)) (zero_le _) (fun i y _=>False) (fun _ _ _ _ _ h=>h) (fun σ=>True) trivial (fun i x σc H3 hi=>absurd hi (Nat.not_lt_zero _)) ?_
 intro D2 ys H2 hD2 S2 gD hlen hR
 have ey:ys=[]:=length_eq_zero_iff.mp hlen
 subst ey
 refine⟨D2,[],rfl,gD,by decide,fun p ms permm pwm hp=>?_⟩
 have em:ms=[]:=permm.eq_nil
 subst em
 have S3:=aD (o:=.lst ([].map V.int)) hp
 refine⟨_,rfl,p,_,rfl,SqL.of aB,?_⟩
 exact bC ⟨_,rfl,q p _ (S1.trans (S2.trans S3)) ((S1.trans S2).free hp) aB⟩
def Az (F:Fun K "without_last_parts" "without_last_parts" wQ f fd) (T:‹3›):‹15› 1 f fd ["rows"] lT:=by
 refine F.okY ["rows","many"] fun cdv A' outer s H vs Q E hr nD0 h=>?_
 obtain⟨a,rfl,ha,q⟩:=h
 refine⟨_,aA (a7 (i:=1) nD0 ⋯ ⋯ ‹30›)
  (aA (o6 (lQ eO) (l5 (aQ o8 (pv 1) aI (bD _)) (jD (aQ fM (cD (cR K) (cD (cH K) (pv 0) (bB jP (pv 1) aI) (fun _ _=>rfl)) aI (fun _ _=>rfl)) bL (bD _)))).pt
   (aC (CH (i:=1) nD0 ⋯ ⋯ aI Ki)))
  (aC (aP (gZ (tP K) (pv 0) lB (iC (pv 1)))))),?_⟩
 refine⟨_,rfl,a,_,rfl,.inl (SqL.of ha),?_⟩
 refine⟨fun m σ H3=>H3=H/\σ = [some (.ref a),some (.int 0)],⟨0,rfl,rfl⟩,?_⟩
 rintro m σ H3 ⟨rfl,rfl⟩
 refine⟨_,rfl,_,_,rfl,rfl,_,rfl,?_⟩
 refine bC (bC ⟨_,rfl,_,rfl,_,rfl,a,_,rfl,SqL.of ha,fun p hp'=>?_⟩)
 exact q p _ (aD hp') aB
def Gi (F:Fun K "book_of" "book_of" xE f fd) (T:‹3›) (ad7:‹16› "segments_on" 3 ["disk"] (oJ A)) (at5:‹16› "rows_of" 6 ["disk","segment","last"] spF) (bh0:‹18› "Book" A.book 1 ["self"] (yW A.book)) (ai7:‹17› A.book "enter" 3 ["self","row","segment"] (oN A.book A.broken)):‹15› 7 f fd ["disk"] (tN A):=by
 refine F.okY ["disk","segments","book","segment","row"] fun cdv A' outer s H vs Q E hr nD0 h=>?_
 obtain⟨dk,df,kvs,D,rfl,hD,ok,q⟩:=h
 refine⟨_,aA (a7 (i:=1) nD0 ⋯ ⋯ (a9 ad7 ‹19› bO ‹36›))
  (aA (a7 (i:=2) nD0 ⋯ ⋯ (KH bh0 ‹19› bO))
  (aA (fY (lQ eO) ⋯ (bT K (pv 1)) ‹54›
   (aC (fY (lQ eO) ⋯ (bT K (a9 at5 ‹19› bO (aE (pv 0) (aE (pv 3) (aN ‹57› aH))))) ‹73›
    (aC (aU (cN ai7 T.ac6 ‹19› bO (pv 2) (aE (pv 4) ‹50›)))))))
  (aC (aP (pv 2))))),?_⟩
 refine⟨_,rfl,dk,df,kvs,D,rfl,hD,ok,fun p H1 S1 hp g1=>?_⟩
 refine fun bk dx hbk hdx ndx=>⟨bk,dx,rfl,aB,fun de dp H2 f2 hde hdp hB2=>⟨rfl,?_⟩⟩
 have S12:aG H1 H2:=fun b o e=>by
  have nb:b≠bk:=fun z=>by rw[z,hbk]at e; cases e
  have nd:b≠dx:=fun z=>by rw[z,hdx]at e; cases e
  exact f2 b o (by rw[aF nb,aF nd]; exact e) nb
 have fr:∀ c,upd (upd H1 dx (.own bk)) bk (.ins A.book dx []) c=none->H1 c=none:=fun c e=>by
  cases e2:H1 c with
  | none=>rfl
  | some o=>
   have nb:c≠bk:=fun z=>by rw[z,hbk]at e2; cases e2
   have nd:c≠dx:=fun z=>by rw[z,hdx]at e2; cases e2
   rw[aF nb,aF nd,e2]at e
   cases e
 refine⟨_,rfl,p,rfl,⟨_,SqL.of (S12 _ _ g1)⟩,?_⟩
 refine gA (bS (K:=K) (SqL.of g1)) (fun i σ H'=>H'=H2/\σ = [some (.ref dk),some (.ref p),some (.ref bk),none,none]) ⟨rfl,rfl⟩ (fun i σ H' h=>by rw[h.1]; exact S12) (fun i x σ H1 H2 hi=>absurd hi (Nat.not_lt_zero _)) ?_
 rintro σ H' ⟨rfl,rfl⟩
 exact⟨_,rfl,q bk de dp _ (S1.trans S12) (S1.free hbk) (S1.free (fr _ hde)) (S1.free (fr _ hdp)) hB2⟩
def Ge (F:Fun K "make_good" "make_good" rD f fd) (T:‹3›) (ab2:‹9›) (ad7:‹16› "segments_on" 3 ["disk"] (oJ A)) (at6:‹16› "rows_in" 5 ["some"] (kP A.badRow A.broken)) (ae7:‹16› "without_last_parts" 1 ["rows"] lT) (ac0:‹16› "row_bytes" 4 ["row"] (fG A.badRow))
  (bd1:‹17› A.disk "read" 4 ["self","name"] (sH A.disk A.badName A.missing)) (al4:‹17› A.disk "size" 4 ["self","name"] (oI A.disk A.badName A.missing)) (al5:‹17› A.disk "make" 3 ["self","name"] (oM A.disk A.badName A.there A.stopped)) (al6:‹17› A.disk "drop" 4 ["self","name"] (oO A.disk A.badName A.missing A.stopped)) (bh1:‹17› A.disk "cut" 4 ["self","name","size"] spF) (ah3:‹6›):‹15› 6 f fd ["disk"] (tK A):=by
 refine F.okY ["disk","segments","name","rows","size"] fun cdv A' outer s H vs Q E hr nD0 h=>?_
 obtain⟨dk,df,kvs,⟨fs,dd,left⟩,rfl,hD,⟨rfl,rfl⟩,q⟩:=h
 refine⟨_,aA (a7 (i:=1) nD0 ⋯ ⋯ (a9 ad7 ‹19› bO ‹36›))
  (aA (bA (cK (iS K (pv 1)))
   (aA (aU (cN al5 T.ad4 ‹19› bO (pv 0) (bY (a9 ab2 ‹19› aX ‹34›) aH)))
   (aC (a7 (i:=1) nD0 ⋯ ⋯ (cB ‹34›))))
   aO)
  (aA (a7 (i:=2) nD0 ⋯ ⋯ (a9 ab2 ‹19› aX (aN ‹57› aH)))
  (aA (a7 (i:=3) nD0 ⋯ ⋯ (a9 ae7 ‹19› aX (aN (cD (cR K) (a9 at6 ‹19› bO (bY (cN bd1 T.ad4 ‹19› bO (pv 0) ‹37›) aH)) aI (fun _ _=>rfl)) aH)))
  (aA (bA (l5 (cK (iS K (pv 3))) (jD (aQ o8 ‹76› aI (bD _)))).pt
   (aA (aU (cN al6 T.ad4 ‹19› bO (pv 0) ‹37›))
   (aC (aP (gZ (tP K) (pv 1) lB (iC (Av sR aI))))))
   aO)
  (aA (a7 (i:=4) nD0 ⋯ ⋯ (bF (m5 K) ⋯ T.ax4 AB (dW (c9 ["row"] [] ⋯ (bT K (pv 3)) (fun C s2 H2 ex=>(bG (i:=0) (show List.Nodup (["row"]:Ld) by decide +kernel) ⋯ (Or.inl ⋯))) ‹42› (fun C s2 H2 ex=>(bF (dC K) ⋯ T.ad2 fV (bY (a9 ac0 ‹19› aX ‹36›) aH)))) aH)))
  (aA (bA (aQ uM (pv 4) (cN al4 T.ad4 ‹19› bO (pv 0) ‹37›) (bD _))
   (aC (aU (cN bh1 T.ad4 ‹19› bO (pv 0) (aE (pv 2) ‹64›))))
   aO)
  (aA (bA (cK (iS K (pv 3)))
   (aC (aU (cN ah3 T.ad4 ‹19› bO (pv 0) (aE (pv 2) (bY (a9 ac0 ‹19› bO (bU (bE (aM bL (aM aI ‹46›))) aH)) aH)))))
   aO)
  (aC (aP (pv 1)))))))))),?_⟩
 refine⟨_,rfl,dk,df,kvs,_,rfl,hD,⟨rfl,rfl⟩,fun p H1 S1 hp g1=>?_⟩
 have hD1:=hD.same S1
 obtain⟨dx1,h11⟩:=hD1.self
 have num0:eX 0:=⟨by decide,by decide⟩
 refine⟨_,rfl,p,_,rfl,SqL.of g1,aT ?_⟩
 refine⟨_,rfl,dk,dx1,_,rfl,h11,rfl,0,rfl,num0,gQ (AI hD1 rfl num0 (le_of_ble_eq_true rfl) rfl fun kvs2 H2 f2 w2 hD2=>?_)⟩
 refine⟨aJ,fun p2 hp2=>?_⟩
 have S2:=aD (o:=.lst [.int 0]) hp2
 have g2:upd H2 p2 (.lst [.int 0]) p2=some (.lst [.int 0]):=aB
 generalize upd H2 p2 (.lst [.int 0])=H3 at S2 g2 ⊢
 have hD3:=hD2.same S2
 have np2:¬ own dk df kvs2 p2:=fun z=>by
  obtain⟨o,e⟩:=qL hD2 z
  rw[e]at hp2
  cases hp2
 have l0:aV (mkN ⟨[],dd,none⟩ (bI 0)).fs (bI 0)=some []:=by
  show aV [(bI 0,[])] (bI 0)=some []
  simp [aV]
 obtain⟨dx3,h13⟩:=hD3.self
 try dsimp only
 refine⟨_,rfl,1,rfl,p2,_,_,.int 0,rfl,rfl,SqL.of g2,rfl,0,rfl,num0,?_⟩
 refine⟨_,rfl,dk,dx3,_,rfl,h13,rfl,_,rfl,gQ (FP hD3 num0 l0 fun p4 H4 S4 g4=>?_)⟩
 refine gQ (FO (bs:=[]) (rs:=[]) (k:=0) g4 (fun b hb=>by cases hb) (by decide) rfl fun p5 pL H5 S5 g5 d5=>?_)
 simp only[Den]at d5
 obtain⟨_,xs,e,gx,dx⟩:=d5
 cases e
 have ex:xs=[]:=by simpa [aR] using dx
 subst ex
 refine⟨p5,_,_,.ref pL,rfl,rfl,SqT.of g5,aW (by decide) rfl,pL,rfl,gx,fun p6 H6 S6 g6=>?_⟩
 have hD6:=hD3.same (S4.trans (S5.trans S6))
 try dsimp only
 refine⟨_,rfl,p6,_,rfl,SqL.of g6,aT ⟨_,rfl,p2,_,rfl,.inl (SqL.of (S6 _ _ (S5 _ _ (S4 _ _ g2)))),_,_,rfl,rfl,_,rfl,bC (cJ rfl ?_)⟩⟩
 refine⟨_,rfl,p6,rfl,⟨_,SqL.of g6⟩,?_⟩
 refine dE (bS (K:=K) (SqL.of g6)) (zero_le _) (fun i y _=>False) (fun _ _ _ _ _ h=>h) (fun σ=>True) trivial (fun i x σc H3 hi=>absurd hi (Nat.not_lt_zero _)) ?_
 intro D7 ys H7 _ S7 g7 hlen _
 have ey:ys=[]:=length_eq_zero_iff.mp hlen
 subst ey
 have hD7:=hD6.same S7
 obtain⟨dx7,h17⟩:=hD7.self
 refine⟨D7,[],rfl,.inl (SqL.of g7),?_⟩
 refine⟨_,rfl,_,rfl,dk,dx7,_,rfl,h17,rfl,_,rfl,gQ (AH hD7 num0 l0 fun H8 S8=>?_)⟩
 refine⟨_,_,rfl,rfl,_,rfl,bC (cJ rfl ?_)⟩
 have hD8:=hD7.same S8
 obtain⟨dx8,h18⟩:=hD8.self
 refine⟨_,rfl,p6,_,rfl,SqL.of (S8 _ _ (S7 _ _ g6)),aT ?_⟩
 refine⟨_,rfl,dk,dx8,_,rfl,h18,rfl,_,rfl,aJ,fun p9 hp9=>⟨aJ,fun p10 hp10=>?_⟩⟩
 have V9:=aD (o:=.tup []) hp9
 have v9:upd H8 p9 (.tup []) p9=some (.tup []):=aB
 generalize upd H8 p9 (.tup [])=H9 at V9 v9 hp10 ⊢
 have V10:=aD (o:=.tup [.str "from",.int 0,.ref p9]) hp10
 have v10:upd H9 p10 (.tup [.str "from",.int 0,.ref p9]) p10=some (.tup [.str "from",.int 0,.ref p9]):=aB
 generalize upd H9 p10 (.tup [.str "from",.int 0,.ref p9])=H10 at V10 v10 ⊢
 have fo:bK (cA ("from",0,[]))=true:=Du (by decide) (by decide)
 refine gQ (Bv (r:=("from",0,[])) (by
  unfold cA fN
  simp only[Den,aR,map_nil]
  exact⟨p10,_,rfl,v10,_,_,rfl,rfl,_,_,rfl,rfl,_,_,rfl,⟨p9,[],rfl,V10 _ _ v9,rfl⟩,rfl⟩) fo fun p11 H11 S11 g11=>?_)
 have S611:=S8.trans (V9.trans (V10.trans S11))
 have hD11:=hD7.same S611
 have b4:=lA (r:=("from",0,[])) fo
 refine gQ (yO hD11 rfl num0 l0 (fun n bs e=>?_) g11 b4 (by rw[eF]; decide) fun H12 f12 hD12=>?_)
 ·have e:aV [(bI 0,[])] n=some bs:=e
  unfold aV at e
  rw[find?_cons]at e
  split at e
  ·cases e
   decide
  ·cases e
 have S311:=S4.trans (S5.trans (S6.trans (S7.trans S611)))
 refine⟨_,rfl,q kvs2 (dd+1+(((iA "from" 0 []).length:Nat):Int)) p2 H12 (fun b o e nb=>?_) (fun b hb=>?_) ?_ ?_ np2⟩
 ·have n2:¬ own dk df kvs2 b:=fun z=>(w2 b z).elim nb (fun y=>by rw[S1 _ _ e]at y; cases y)
  exact f12 b o (S311 _ _ (S2 _ _ (f2 b o (S1 _ _ e) nb))) n2
 ·rcases w2 b hb with y | y
  ·exact .inl y
  ·exact .inr (S1.free y)
 ·have e1:(tR (mkN ⟨[],dd,none⟩ (bI 0)) (bI 0) ([]++iA "from" 0 []) (iA "from" 0 []).length)=⟨[(bI 0,xX)],dd+1+(((iA "from" 0 []).length:Nat):Int),none⟩:=by
   unfold tR mkN fB
   show (⟨[((if bI 0=bI 0 then (bI 0,[]++iA "from" 0 []) else (bI 0,[])):Str × Lc)],_,none⟩:Dk)=_
   rw[if_pos rfl]
   rfl
  rw[e1]at hD12
  exact hD12
 ·exact f12 _ _ (S311 _ _ g2) np2
def CS (F:Fun K "__init__" "Queue.__init__" AQ f fd) (T:‹3›) (ag7:‹16› "check_settings" 2 ["most","hold","tries"] (fX A)) (at7:‹16› "book_of" 7 ["disk"] (tN A)) (af1:‹16› "make_good" 6 ["disk"] (tK A)):‹15› 8 f fd ["self","disk","most","hold","tries"] (tJ A):=by
 refine F.okY ["self","disk","most","hold","tries","segments"] fun cdv A' outer s H vs Q E hr nD0 h=>?_
 obtain⟨qu,dx,dk,df,kvs,D,m,h,t,rfl,h0,hD,nqu,hset,he,qq⟩:=h
 refine⟨_,aA (aU (a9 ag7 ‹19› bO (aE (pv 2) (aE (pv 3) ‹64›))))
  (aA (dS (pv 0) (pv 1) ⋯)
  (aA (dS (pv 0) (pv 2) ⋯)
  (aA (dS (pv 0) (pv 3) ⋯)
  (aA (dS (pv 0) (pv 4) ⋯)
  (aA (dS (pv 0) (a9 at7 ‹19› bO ‹29›) ⋯)
  (aA (a7 (i:=5) nD0 ⋯ ⋯ (a9 af1 ‹19› bO ‹29›))
  (aA (dS (pv 0) (cD (cH K) (pv 5) aI (fun _ _=>rfl)) ⋯)
  (aA (dS (pv 0) (cD (cH K) (pv 5) (Av sR aI) (fun _ _=>rfl)) ⋯)
  (aA (dS (pv 0) DX ⋯)
  (aA (dS (pv 0) jY ⋯)
  (aC (dS (pv 0) aI ⋯)))))))))))),?_⟩
 have ddk:∀ {H':Hp},But qu H H'->DiskAt A.disk H' dk df kvs D:=fun b=>hD.keep fun c o e hc=>b c o e (fun z=>by rw[z]at hc; exact nqu hc)
 have j0:Fs A.queue qu dx H H []:=⟨h0,But.refl⟩
 refine⟨_,rfl,_,rfl,_,rfl,.int m,.int h,.int t,.int m,.int h,.int t,rfl,by simp only[Den],by simp only[Den],by simp only[Den],fun _=>?_,(fun z=>by rw[hset]at z; cases z)⟩
 refine⟨_,rfl,_,rfl,qu,_,dx,_,rfl,j0.at_,T.aa0,T.ap5,(le_of_ble_eq_true rfl),?_⟩
 obtain⟨H1,e1,j1⟩:=j0.set "disk" (.ref dk)
 rw[<- e1]
 refine⟨_,rfl,_,rfl,qu,_,dx,_,rfl,j1.at_,T.aa0,T.bj5,(le_of_ble_eq_true rfl),?_⟩
 obtain⟨H2,e2,j2⟩:=j1.set "most" (.int m)
 rw[<- e2]
 refine⟨_,rfl,_,rfl,qu,_,dx,_,rfl,j2.at_,T.aa0,T.bj6,(le_of_ble_eq_true rfl),?_⟩
 obtain⟨H3,e3,j3⟩:=j2.set "hold" (.int h)
 rw[<- e3]
 try dsimp only
 refine⟨_,rfl,_,rfl,qu,_,dx,_,rfl,j3.at_,T.aa0,T.bd0,(le_of_ble_eq_true rfl),?_⟩
 obtain⟨H4,e4,j4⟩:=j3.set "tries" (.int t)
 rw[<- e4]
 refine⟨_,rfl,dk,df,kvs,D,rfl,ddk j4.but,he,fun bk de dp H5 S5 hbk hde hdp hB5=>?_⟩
 have n4:∀ {c:Addr},H4 c=none->c≠qu/\H c=none:=fun {c} z=>by
  refine⟨(fun y=>by rw[y,j4.at_]at z; cases z),?_⟩
  cases e:H c with
  | none=>rfl
  | some o=>
   by_cases y:c=qu
   ·rw[y,j4.at_]at z; cases z
   ·rw[j4.but c o e y]at z; cases z
 obtain⟨nbk,ibk⟩:=n4 hbk
 obtain⟨nde,ide⟩:=n4 hde
 obtain⟨ndp,idp⟩:=n4 hdp
 have j5:Fs A.queue qu dx H H5 _:=⟨S5 _ _ j4.at_,fun c o e nc=>S5 _ _ (j4.but c o e nc)⟩
 refine⟨_,rfl,qu,_,dx,_,rfl,j5.at_,T.aa0,T.ad9,(le_of_ble_eq_true rfl),?_⟩
 obtain⟨H6,e6,j6⟩:=j5.set "book" (.ref bk)
 rw[<- e6]
 have k6:∀ c o,H5 c=some o->c≠qu->H6 c=some o:=fun c o e n=>by rw[e6,aF n]; exact e
 have t6:fS H5 H6:=by rw[e6]; exact kN j5.at_ (fun xs z=>by cases z)
 have isb:∀ {c:Addr},c=bk\/c=de\/c=dp->c≠qu/\H c=none:=fun hc=>by
  rcases hc with y | y | y
  ·rw[y]; exact⟨nbk,ibk⟩
  ·rw[y]; exact⟨nde,ide⟩
  ·rw[y]; exact⟨ndp,idp⟩
 have hB6:BookAt A.book H6 bk de dp ⟨[],0,[]⟩:=hB5.keep (fun c o e hc=>k6 c o e (isb hc).1) t6
 have hD6:=ddk j6.but
 try dsimp only
 refine⟨_,rfl,dk,df,kvs,D,rfl,hD6,he,fun kvs' d p H7 f7 w7 hD7 gp np=>?_⟩
 have nown:∀ {c:Addr},H c=none->¬ own dk df kvs c:=fun z y=>by
  obtain⟨o,e⟩:=qL hD y
  rw[z]at e
  cases e
 have far:∀ {c:Addr} {o:HO},H6 c=some o->¬ own dk df kvs c->¬ own dk df kvs' c:=fun e nc z=>(w7 _ z).elim nc (fun y=>by rw[y]at e; cases e)
 have h7:=f7 _ _ j6.at_ nqu
 have b7:∀ b o,H b=some o->b≠qu->¬ own dk df kvs b->H7 b=some o:=fun b o e nb no=>f7 b o (j6.but b o e nb) no
 have hB7:BookAt A.book H7 bk de dp ⟨[],0,[]⟩:=hB6.keep (fun c o e hc=>f7 c o e (nown (isb hc).2)) (f7.tup hD6)
 have nqu':¬ own dk df kvs' qu:=far j6.at_ nqu
 have npq:p≠qu:=fun z=>by rw[z,h7]at gp; cases gp
 have j7:Fs A.queue qu dx H7 H7 _:=⟨h7,But.refl⟩
 refine⟨_,rfl,p,_,_,.int 0,rfl,rfl,SqL.of gp,aW (by decide) rfl,_,rfl,qu,_,dx,_,rfl,j7.at_,T.aa0,T.ai6,(le_of_ble_eq_true rfl),?_⟩
 obtain⟨H8,e8,j8⟩:=j7.set "first" (.int 0)
 rw[<- e8]
 refine⟨_,rfl,1,rfl,p,_,_,.int 0,rfl,rfl,SqL.of (j8.but _ _ gp npq),rfl,_,rfl,qu,_,dx,_,rfl,j8.at_,T.aa0,T.aj9,(le_of_ble_eq_true rfl),?_⟩
 obtain⟨H9,e9,j9⟩:=j8.set "last" (.int 0)
 rw[<- e9]
 refine⟨_,rfl,qu,_,dx,_,rfl,j9.at_,T.aa0,T.an7,(le_of_ble_eq_true rfl),?_⟩
 obtain⟨H10,e10,j10⟩:=j9.set "writing" (.bl false)
 rw[<- e10]
 refine fun hd hhd=>?_
 obtain⟨H11,e11,j11,gh,S11,nhq⟩:=j10.new (o:=.dK []) hhd
 rw[<- e11]
 have hh7:H7 hd=none:=by
  cases e:H7 hd with
  | none=>rfl
  | some o=>rw[j10.but _ _ e nhq]at hhd; cases hhd
 refine⟨_,rfl,qu,_,dx,_,rfl,j11.at_,T.aa0,T.ac4,(le_of_ble_eq_true rfl),?_⟩
 obtain⟨H12,e12,j12⟩:=j11.set "holders" (.ref hd)
 rw[<- e12]
 refine⟨_,rfl,qu,_,dx,_,rfl,j12.at_,T.aa0,T.ba7,(le_of_ble_eq_true rfl),?_⟩
 obtain⟨H13,e13,j13⟩:=j12.set "now" (.int 0)
 rw[<- e13]
 have gh13:H13 hd=some (.dK []):=by rw[e13,aF nhq,e12,aF nhq]; exact gh
 have t13:fS H7 H13:=fun b xs e=>j13.but b _ e (fun z=>by rw[z,h7]at e; cases e)
 obtain⟨db,hb1⟩:=hB7.self
 obtain⟨kb,hb2,_⟩:=hB7.ent
 obtain⟨pb,hb3,_⟩:=hB7.par
 obtain⟨dc,hc1⟩:=hB6.self
 obtain⟨kc,hc2,_⟩:=hB6.ent
 obtain⟨pc,hc3,_⟩:=hB6.par
 have in7:∀ {c:Addr},c=bk\/c=de\/c=dp->(∃ o,H7 c=some o)/\∃ o,H6 c=some o:=fun hc=>by
  rcases hc with y | y | y
  ·rw[y]; exact⟨⟨_,hb1⟩,_,hc1⟩
  ·rw[y]; exact⟨⟨_,hb2⟩,_,hc2⟩
  ·rw[y]; exact⟨⟨_,hb3⟩,_,hc3⟩
 have nhd:¬ own dk df kvs' hd:=fun z=>by
  obtain⟨o,e⟩:=qL hD7 z
  rw[hh7]at e
  cases e
 refine qq ⟨qu,dk,df,bk,de,dp,hd,kvs'⟩ d H13 rfl rfl (fun b o e nb no=>j13.but b o (b7 b o e nb no) nb) (fun b hb=>?_) ⟨⟨dx,j13.at_⟩,hD7.keep (fun c o e hc=>j13.but c o e (fun z=>by rw[z]at hc; exact nqu' hc)),hB7.keep (fun c o e hc=>j13.but c o e (isb hc).1) t13,⟨[],gh13,trivial⟩,fun b hb=>?_,⟨fun z=>(isb z).1 rfl,nqu'⟩,⟨nhq,fun z=>?_,nhd⟩⟩
 ·rcases hb with z | z | z | z
  ·exact .inl z
  ·have z:b=hd:=z
   rw[z]
   by_cases y:own dk df kvs hd
   ·exact .inr (.inl y)
   ·refine .inr (.inr ?_)
    cases e:H hd with
    | none=>rfl
    | some o=>rw[b7 _ _ e nhq y]at hh7; cases hh7
  ·exact .inr (.inr (isb z).2)
  ·rcases w7 b z with y | y
   ·exact .inr (.inl y)
   ·by_cases x:b=qu
    ·exact .inl x
    ·refine .inr (.inr ?_)
     cases e:H b with
     | none=>rfl
     | some o=>rw[j6.but b o e x]at y; cases y
 ·obtain⟨_,o,e⟩:=in7 hb
  exact far e (nown (isb hb).2)
 ·obtain⟨⟨o,e⟩,_⟩:=in7 z
  rw[hh7]at e
  cases e
end
abbrev AN:Stmt:=bH (top 55) 6
def dZ (x:Str):Prop:=eU xV 6 (.str x)=true/\(x.length<=1000/\pT x=true)
inductive i9 (A:Ad) (vs:Ln) (H:Hp) (Q:VK) (E:XK):Prop
 | mk:∀ (L:Pl) (q:Qs) (x:Str) (n:Int),vs=[.ref L.qu,.str x,.int n]->QueueW A H L q false->dZ x->0<=n->n<=999999->(∀ tm,cQ q.hs n=some (x,tm)->∀ H',aG H H'->Q .non H')->((∀ tm,cQ q.hs n≠some (x,tm))->∀ H',aG H H'->E (.ref A.notHeld) none H')->i9 A vs H Q E
inductive kS (A:Ad) (vs:Ln) (H:Hp) (Q:VK) (E:XK):Prop
 | mk:∀ (L:Pl) (q:Qs) (x:Str) (n:Int),vs=[.ref L.qu,.str x,.int n]->QueueW A H L q false->dZ x->0<=n->n<=999999->(∀ tm,cQ q.hs n=some (x,tm)->WOk q 1/\∃ B',dR (aZ q).last (aZ q).B [("done",n,[])]=some B'/\∀ L' H',Step L L' H H'->QueueW A H' L' (Jb q n B') false->Q .non H')->((∀ tm,cQ q.hs n≠some (x,tm))->∀ H',aG H H'->E (.ref A.notHeld) none H')->kS A vs H Q E
inductive kT (A:Ad) (vs:Ln) (H:Hp) (Q:VK) (E:XK):Prop
 | mk:∀ (L:Pl) (q:Qs) (x:Str) (n:Int),vs=[.ref L.qu,.str x,.int n]->QueueW A H L q false->dZ x->0<=n->n<=999999->(∀ tm,cQ q.hs n=some (x,tm)->∀ H',Step L L H H'->QueueW A H' L (backQ q n) false->Q .non H')->((∀ tm,cQ q.hs n≠some (x,tm))->∀ H',aG H H'->E (.ref A.notHeld) none H')->kT A vs H Q E
def xU (hs:Lq) (ms:Lc):Lg:=ms.map fun n=>.tuple [.int n,.str ((cQ hs n).getD ("",0)).1]
inductive nP (A:Ad) (vs:Ln) (H:Hp) (Q:VK) (x_3:XK):Prop
 | mk:∀ (L:Pl) (q:Qs),vs=[.ref L.qu]->QueueW A H L q false->q.hs.length<64->(∀ ms,List.Perm ms (q.hs.map (·.1))->ms.Pairwise (· <= ·)->∀ p H',aG H H'->H p=none->Den H' (.list (xU q.hs ms)) (.ref p)->Q (.ref p) H')->nP A vs H Q x_3
def pI (q:Qs) (m n:Int):Bool:=decide (q.now+m - ((cQ q.hs n).getD ("",0)).2 > q.hold)
def JF (q:Qs) (m:Int) (l:Lc):Qs:={ q with now:=q.now+m,hs:=q.hs.filter fun p=>decide (p.1 ∉ l) }
inductive mO (A:Ad) (vs:Ln) (H:Hp) (Q:VK) (x_3:XK):Prop
 | mk:∀ (L:Pl) (q:Qs) (m:Int),vs=[.ref L.qu,.int m]->QueueW A H L q false->1<=m->m<=99->q.hs.length<64->(q.hs.map (·.1)).Nodup->(∀ p∈q.hs,∃ e,bJ q.B.es p.1=some e)->(∀ ms,List.Perm ms (q.hs.map (·.1))->ms.Pairwise (· <= ·)->∀ p H',Step L L H H'->QueueW A H' L (JF q m (ms.filter (pI q m))) false->H p=none->Den H' (.list ((ms.filter (pI q m)).map (lF q.B.es))) (.ref p)->Q (.ref p) H')->mO A vs H Q x_3
def HoR.keys:∀ {hs:Lq} {hk:Ll},HoR H hs hk->hk.map (·.1)=(hs.map (·.1)).map Sum.inl
 | [],[],_=>rfl
 | _::_,_::_,⟨h1,_,h3⟩=>by rw[map_cons,map_cons,map_cons,HoR.keys h3,h1]
 | [],_::_,h=>h.elim
 | _::_,[],h=>h.elim
def pF (h:n∈hs.map (·.1)):∃ x tm,cQ hs n=some (x,tm):=by
 unfold cQ
 cases y:hs.find? fun p=>decide (p.1=n) with
 | none=>
  rw[find?_eq_none]at y
  obtain⟨p,hp,e⟩:=mem_map.mp h
  exact absurd (decide_eq_true e) (y p hp)
 | some p=>exact⟨p.2.1,p.2.2,rfl⟩
section
variable {P:Program} {w:World} {K:K6} {mg:K8} {base:Heap} {A:Ad}
def A6 (F:Fun K "check_held" "Queue.check_held" w6 f fd) (T:‹3›) (ab1:‹2›) (ae4:‹16› "check_hand" 2 ["hand"] (gT A)):‹15› 3 f fd ["self","hand","number"] (i9 A):=by
 obtain⟨_,ac8⟩:=T.ad1
 refine F.okY ["self","hand","number"] fun cdv A' outer s H vs Q E hr nD0 h=>?_
 obtain⟨L,q,x,n,rfl,hq,hw,n0,n9,qq,qe⟩:=h
 refine⟨_,aA (aU (a9 ae4 ‹19› bO ‹29›))
  (aA (bA (lO (cK (dG (a9 ab1 ‹19› aX (aE (pv 2) ‹44›)))) (iR (nT (mV (hu1 hr.units) (pv 2) ‹23›)))).pt
   (aC (dU eV ⋯ T.aj8 ⋯ T.be5 ‹25›))
   aO)
  (aC (bA (aQ Ay (cD (cR K) (eC (hu1 hr.units) ‹23› (pv 2) (fun _ _=>rfl)) aI (fun _ _=>rfl)) (pv 1) (bD _))
   (aC (dU eV ⋯ T.aj8 ⋯ T.be5 ‹25›))
   aO))),?_⟩
 refine⟨_,rfl,.str x,.str x,rfl,by simp only[Den],(fun y e=>by injection e with e; rw[<- e]; exact hw.2),fun _ H1 S1=>?_,(fun z=>by rw[hw.1]at z; cases z)⟩
 have hq1:=hq.same S1
 obtain⟨dx,h1⟩:=hq1.self
 obtain⟨hk,g1,r1⟩:=hq1.held
 have isn:bM 0 999999 (.int n)=true:=by
  simp only[bM,and_eq_true,decide_eq_true_eq]
  exact⟨n0,n9⟩
 have dg:=cS.k (k:=Sum.inl n) g1
 refine⟨_,rfl,.int n,.int n,0,999999,rfl,by simp only[Den],_,rfl,?_⟩
 rw[isn]
 refine bC ⟨_,rfl,_,rfl,L.qu,_,dx,_,_,rfl,h1,T.aa0,T.ac4,rfl,L.hd,_,rfl,dg,_,rfl,?_⟩
 cases el:cQ q.hs n with
 | none=>
  rw[(r1.look (n:=n)).1 el]
  exact aT ⟨aJ,qe (fun tm z=>by rw[el]at z; cases z) H1 S1⟩
 | some o=>
  obtain⟨y,tm⟩:=o
  obtain⟨t,ev,gt⟩:=(r1.look (n:=n)).2 y tm el
  rw[ev]at dg ⊢
  refine bC (cJ rfl ?_)
  refine⟨_,rfl,L.qu,_,dx,_,_,rfl,h1,T.aa0,T.ac4,rfl,_,rfl,L.hd,_,rfl,dg,?_⟩
  refine⟨t,_,_,.str y,rfl,rfl,SqT.of gt,aW (by decide) rfl,_,rfl,rfl,_,rfl,?_⟩
  by_cases e:y=x
  ·subst e
   rw[decide_eq_true rfl]
   exact bC (qq tm el H1 S1)
  ·rw[gC e]
   exact aT ⟨aJ,qe (fun tm' z=>e (by rw[el]at z; exact congrArg (·.1) (Option.some.inj z))) H1 S1⟩
def Ca (F:Fun K "give_back" "Queue.give_back" AW f fd) (T:‹3›) (ad8:‹17› A.queue "check_held" 3 ["self","hand","number"] (i9 A)):‹15› 4 f fd ["self","hand","number"] (kT A):=by
 refine F.okY ["self","hand","number"] fun cdv A' outer s H vs Q E hr nD0 h=>?_
 obtain⟨L,q,x,n,rfl,hq,hw,n0,n9,qq,qe⟩:=h
 refine⟨_,aA (aU (cN ad8 T.aa0 ‹19› bO (pv 0) (aE (pv 1) ‹37›)))
  ‹77›,?_⟩
 obtain⟨dx0,h0⟩:=hq.self
 refine⟨_,rfl,L.qu,dx0,_,rfl,h0,rfl,_,rfl,_,rfl,L,q,x,n,rfl,hq,hw,n0,n9,fun tm el H1 S1=>?_,fun el H1 S1=>qe el H1 S1⟩
 have hq1:=hq.same S1
 obtain⟨dx,h1⟩:=hq1.self
 obtain⟨hk,g1,r1⟩:=hq1.held
 obtain⟨t,ev,gt⟩:=(r1.look (n:=n)).2 x tm el
 refine⟨_,rfl,L.qu,_,dx,_,_,rfl,h1,T.aa0,T.ac4,rfl,?_⟩
 refine⟨.inr (.inr (.inl ⟨rfl,.inl ⟨_,g1⟩⟩)),_,rfl,L.hd,hk,Sum.inl n,_,rfl,rfl,g1,ev,?_⟩
 obtain⟨hq2,st2⟩:=hq1.toHeld (r1.drop (n:=n))
 exact qq tm el _ ((aG.step S1).trans st2) hq2
def CV (F:Fun K "done" "Queue.done" AU f fd) (T:‹3›) (ad8:‹17› A.queue "check_held" 3 ["self","hand","number"] (i9 A)) (ab6:‹4›):‹15› 8 f fd ["self","hand","number"] (kS A):=by
 refine F.okY ["self","hand","number"] fun cdv A' outer s H vs Q E hr nD0 h=>?_
 obtain⟨L,q,x,n,rfl,hq,hw,n0,n9,qq,qe⟩:=h
 refine⟨_,aA (aU (cN ad8 T.aa0 ‹19› bO (pv 0) (aE (pv 1) ‹37›)))
  (aA (aU (cN ab6 T.aa0 ‹19› bO (pv 0) (fH (cB (bU (bE (aM bL (aE (pv 2) ‹46›))) aH)) aH)))
  ‹77›),?_⟩
 obtain⟨dx0,h0⟩:=hq.self
 refine⟨_,rfl,L.qu,dx0,_,rfl,h0,rfl,_,rfl,_,rfl,L,q,x,n,rfl,hq,hw,n0,n9,fun tm el H2 S2=>?_,fun el H1 S1=>qe el H1 S1⟩
 obtain⟨ok,B',hfo,qq⟩:=qq tm el
 have hq2:=hq.same S2
 obtain⟨dx2,h2⟩:=hq2.self
 refine⟨_,rfl,L.qu,dx2,_,rfl,h2,rfl,_,rfl,aJ,fun p0 hp0=>⟨aJ,fun p1 hp1=>⟨aJ,fun p2 hp2=>?_⟩⟩⟩
 have V0:=aD (o:=.tup []) hp0
 have v0:upd H2 p0 (.tup []) p0=some (.tup []):=aB
 generalize upd H2 p0 (.tup [])=H3 at V0 v0 hp1 hp2 ⊢
 have V1:=aD (o:=.tup [.str "done",.int n,.ref p0]) hp1
 have v1:upd H3 p1 (.tup [.str "done",.int n,.ref p0]) p1=some (.tup [.str "done",.int n,.ref p0]):=aB
 generalize upd H3 p1 (.tup [.str "done",.int n,.ref p0])=H4 at V1 v1 hp2 ⊢
 have V2:=aD (o:=.lst [.ref p1]) hp2
 have v2:upd H4 p2 (.lst [.ref p1]) p2=some (.lst [.ref p1]):=aB
 generalize upd H4 p2 (.lst [.ref p1])=H5 at V2 v2 ⊢
 have S25:=V0.trans (V1.trans V2)
 have hq5:=hq2.same S25
 refine⟨L,q,p2,[("done",n,[])],B',rfl,hq5,ok,fun z=>?_,?_,fun r hr'=>?_,hfo,fun L' H6 st hq6=>?_⟩
 ·obtain⟨o,e⟩:=eY (hq2.same (V0.trans V1)) z
  rw[e]at hp2
  cases hp2
 ·simp only[Den,map_cons,map_nil,aR]
  refine⟨p2,_,rfl,v2,_,_,rfl,?_,rfl⟩
  unfold cA fN
  simp only[Den,aR,map_nil]
  exact⟨p1,_,rfl,V2 _ _ v1,_,_,rfl,rfl,_,_,rfl,rfl,_,_,rfl,⟨p0,_,rfl,V2 _ _ (V1 _ _ v0),rfl⟩,rfl⟩
 ·rw[mem_singleton.mp hr']
  exact AC (.inr (.inr rfl)) n0 n9
 obtain⟨dx6,h6⟩:=hq6.self
 obtain⟨hk,g6,r6⟩:=hq6.held
 rw[show (m7 (aZ q) (cG [("done",n,[])]) B').hs=q.hs from (cP q).2.1]at r6
 obtain⟨t,ev,gt⟩:=(r6.look (n:=n)).2 x tm el
 rw[st.qu]at h6
 refine⟨_,rfl,L.qu,_,dx6,_,_,rfl,h6,T.aa0,T.ac4,rfl,.inr (.inr (.inl ⟨rfl,.inl ⟨_,g6⟩⟩)),_,rfl,L'.hd,hk,Sum.inl n,_,rfl,rfl,g6,ev,?_⟩
 obtain⟨hq7,st7⟩:=hq6.toHeld (r6.drop (n:=n))
 exact qq L' _ ((aG.step (S2.trans S25)).trans (st.trans st7)) hq7
def CT (F:Fun K "held" "Queue.held" AR f fd) (T:‹3›):‹15› 1 f fd ["self"] (nP A):=by
 refine F.okY ["self"] fun cdv A' outer s H vs Q E hr nD0 h=>?_
 obtain⟨L,q,rfl,hq,hl,qq⟩:=h
 refine⟨_,aC (aP (c9 ["number"] [("self",0)] ⋯ (bT K ‹75›) ‹32› ‹42› (fun C s2 H2 ex=>(bE (aE (pv 0) (aN ‹41› aH)))))),?_⟩
 obtain⟨dx,h1⟩:=hq.self
 obtain⟨hk,g1,r1⟩:=hq.held
 refine⟨_,rfl,L.qu,_,dx,_,_,rfl,h1,T.aa0,T.ac4,rfl,L.hd,hk,q.hs.map (·.1),rfl,g1,r1.keys,.inl (by rw[length_map]; omega),by rw[length_map]; omega,fun p ms perm pw hp=>?_⟩
 have S1:=aD (o:=.lst (ms.map .int)) hp
 have g2:upd H p (.lst (ms.map .int)) p=some (.lst (ms.map .int)):=aB
 generalize upd H p (.lst (ms.map .int))=H1 at S1 g2 ⊢
 have pl:=perm.length_eq
 rw[length_map]at pl
 refine⟨p,rfl,⟨_,SqL.of g2⟩,?_⟩
 refine dE (bS (K:=K) (SqL.of g2)) (by rw[length_map]; exact le_trans ‹72› (by decide)) (fun i y H'=>∃ n,ms[i]? = some n/\Den H' (.tuple [.int n,.str ((cQ q.hs n).getD ("",0)).1]) y) (fun i y H1 H2 s h=>by obtain⟨n,e,h⟩:=h; exact⟨n,e,h.n s rfl⟩) (fun σ=>∃ z,σ = [z,some (.ref L.qu)]) ⟨none,rfl⟩ ?_ ?_
 ·intro i x σc H3 hi hσ s3 hx Q' hQ'
  obtain⟨z,rfl⟩:=hσ
  rw[getElem?_map]at hx
  cases e:ms[i]? with
  | none=>rw[e]at hx; cases hx
  | some n=>
   rw[e]at hx
   cases hx
   obtain⟨x,tm,el⟩:=pF (perm.mem_iff.mp (mem_of_getElem? e))
   obtain⟨t,ev,gt⟩:=(r1.look (n:=n)).2 x tm el
   have S:=S1.trans s3
   have dg:=cS.k (k:=Sum.inl n) (S _ _ g1)
   rw[ev]at dg
   refine⟨_,rfl,_,rfl,L.qu,_,dx,_,_,rfl,S _ _ h1,T.aa0,T.ac4,rfl,_,rfl,L.hd,_,rfl,dg,t,_,_,.str x,rfl,rfl,SqT.of (S _ _ gt),aW (by decide) rfl,aJ,fun p4 hp4=>?_⟩
   refine hQ' _ _ _ ⟨_,rfl⟩ (aD hp4) ⟨n,e,?_⟩
   rw[el]
   simp only[Den,aR]
   exact⟨p4,_,rfl,aB,_,_,rfl,rfl,_,_,rfl,rfl,rfl⟩
 intro D ys H2 hD S2 gD hlen hR
 refine qq ms perm pw D H2 (S1.trans S2) (S1.free hD) ?_
 simp only[Den]
 refine⟨D,ys,rfl,gD,lI (by unfold xU; rw[length_map]; rw[length_map]at hlen; exact hlen) fun i y e=>?_⟩
 obtain⟨n,e1,e2⟩:=hR i y e
 exact⟨_,by unfold xU; rw[getElem?_map,e1]; rfl,e2⟩
def EX {f:Addr} {fd:Lh} (F:Fun K "wait" "Queue.wait" AN f fd) (T:‹3›) (ab1:‹2›) (ad0:‹12›) {hw:∃ t,mg "LONGEST_WAIT" = some (.int 99 t)}:‹15› 3 f fd ["self","many"] (mO A):=by
 obtain⟨_,bb1⟩:=hw
 refine F.okY ["self","many","late","number"] fun cdv A' outer s H vs Q E hr nD0 h=>?_
 obtain⟨L,q,m,rfl,hq,m1,m99,hl,hn,he,qq⟩:=h
 refine⟨_,aA (bA (cK (dG (a9 ab1 ‹19› aX (aE (pv 1) (aM aI (aE (cI (v:=.int 99) ⋯ bb1 ⟨_,rfl⟩) aH))))))
   ‹87›
   aO)
  (aA (qI (pv 0) (pv 1) uY)
  (aA (mU (i:=2) ["number"] [("self",0)] nD0 ⋯ ⋯ ⋯ (bT K ‹75›) ‹32› (fun C s2 H2 ex=>(gW (aQ o8 (bB jP ‹62› ‹41›) ‹62› (bD _)))) ‹65›)
  (aA (fY (lQ eO) ⋯ (bT K (pv 2)) ‹54›
   (aC (aU (iU K PySem.F.plainAttrs_dict PySem.F.slot_dict_pop PySem.F.type_dict_pop pA ‹23› ‹50›))))
  (aC (aP (c9 ["number"] [("self",0)] ⋯ (bT K (pv 2)) ‹32› ‹42› (fun C s2 H2 ex=>(cN ad0 T.ac6 ‹19› aX ‹62› ‹36›)))))))),?_⟩
 obtain⟨dx,h1⟩:=hq.self
 have isn:bM 1 99 (.int m)=true:=by
  simp only[bM,and_eq_true,decide_eq_true_eq]
  exact⟨m1,m99⟩
 refine⟨_,rfl,.int m,.int m,1,99,rfl,by simp only[Den],_,rfl,?_⟩
 rw[isn]
 refine bC (cJ rfl ?_)
 refine⟨_,rfl,L.qu,_,dx,_,_,rfl,h1,T.aa0,T.ba7,rfl,_,rfl,_,_,rfl,rfl,dx,_,h1,(le_of_ble_eq_true rfl),?_⟩
 obtain⟨hq1,st1⟩:=hq.fields (dx:=dx) { q with now:=q.now+m } false rfl rfl rfl
 show yP _ _ _ _ (upd H L.qu (.ins A.queue dx (quF L { q with now:=q.now+m } false)))
 generalize upd H L.qu (.ins A.queue dx (quF L { q with now:=q.now+m } false))=H1 at hq1 st1 ⊢
 obtain⟨q1,eq1⟩:∃ q1:Qs,q1 = { q with now:=q.now+m }:=⟨_,rfl⟩
 rw[<- eq1]at hq1
 obtain⟨dx1,h11⟩:=hq1.self
 obtain⟨hk,g1,r1⟩:=hq1.held
 have eh:q1.hs=q.hs:=by rw[eq1]
 rw[eh]at r1
 refine⟨_,rfl,L.qu,_,dx1,_,_,rfl,h11,T.aa0,T.ac4,rfl,L.hd,hk,q.hs.map (·.1),rfl,g1,r1.keys,.inl (by rw[length_map]; omega),by rw[length_map]; omega,fun p ms perm pw hp=>?_⟩
 have S2:=aD (o:=.lst (ms.map .int)) hp
 have g2:upd H1 p (.lst (ms.map .int)) p=some (.lst (ms.map .int)):=aB
 generalize upd H1 p (.lst (ms.map .int))=H2 at S2 g2 ⊢
 have pl:=perm.length_eq
 rw[length_map]at pl
 refine⟨p,rfl,⟨_,SqL.of g2⟩,?_⟩
 refine fR (bS (K:=K) (SqL.of g2)) (by rw[length_map]; exact le_trans ‹72› (by decide)) (fun j=>pI q m (ms.getD j 0)) (fun j=>V.int (ms.getD j 0)) (fun σ=>∃ z,σ = [z,some (.ref L.qu)]) ⟨none,rfl⟩ ?_ ?_
 ·intro j x σc H3 hj hσ s3 hx Q1 Q2 Q3 h2' h3'
  obtain⟨z,rfl⟩:=hσ
  rw[getElem?_map]at hx
  cases e:ms[j]? with
  | none=>rw[e]at hx; cases hx
  | some n=>
   rw[e]at hx
   cases hx
   have eg:ms.getD j 0=n:=by rw[getD_eq_getElem?_getD,e]; rfl
   rw[eg]at h2' h3'
   obtain⟨x,tm,el⟩:=pF (perm.mem_iff.mp (mem_of_getElem? e))
   obtain⟨t,ev,gt⟩:=(r1.look (n:=n)).2 x tm el
   have S:=S2.trans s3
   have dg:=cS.k (k:=Sum.inl n) (S _ _ g1)
   rw[ev]at dg
   refine⟨_,rfl,L.qu,_,dx1,_,_,rfl,S _ _ h11,T.aa0,T.ba7,rfl,_,rfl,L.qu,_,dx1,_,_,rfl,S _ _ h11,T.aa0,T.ac4,rfl,_,rfl,L.hd,_,rfl,dg,t,_,_,.int tm,rfl,rfl,SqT.of (S _ _ gt),aW (by decide) rfl,_,_,rfl,rfl,_,rfl,L.qu,_,dx1,_,_,rfl,S _ _ h11,T.aa0,T.bj6,rfl,_,_,rfl,rfl,_,rfl,?_⟩
   have eb:pI q m n=decide (q1.hold<q1.now - tm):=by
    unfold pI
    rw[el,eq1]
    rfl
   cases hb:pI q m n with
   | true=>
    rw[<- eb,hb]
    exact aT ⟨_,rfl,h2' _ ⟨_,rfl⟩ hb⟩
   | false=>
    rw[<- eb,hb]
    exact bC (h3' _ ⟨_,rfl⟩ hb)
 intro pl2 H3 hD3 S3 g3
 rw[length_map,gB ms (pI q m)]at g3
 obtain⟨ls,els⟩:∃ ls,ls=ms.filter (pI q m):=⟨_,rfl⟩
 rw[<- els]at g3
 have lsN:ls.Nodup:=by
  rw[els]
  exact List.Pairwise.filter _ (perm.nodup_iff.mpr hn)
 have lsl:ls.length<=1000:=by
  rw[els]
  have:=length_filter_le (pI q m) ms
  omega
 have lsm:∀ n∈ls,n∈q.hs.map (·.1):=fun n h=>by
  rw[els]at h
  exact perm.mem_iff.mp (mem_filter.mp h).1
 have hq3:=hq1.same (S2.trans S3)
 have st3:=st1.trans (aG.step (L:=L) (S2.trans S3))
 have npl:¬ eT L pl2:=fun z=>by
  obtain⟨o,e⟩:=eY (hq1.same S2) z
  rw[e]at hD3
  cases hD3
 have fin0:H pl2=none:=by
  cases e:H pl2 with
  | none=>rfl
  | some o=>
   rw[S2 _ _ (st1.frm _ _ e npl)]at hD3
   cases hD3
 refine⟨_,rfl,pl2,rfl,⟨_,SqL.of g3⟩,?_⟩
 refine gA (bS (K:=K) (H:=upd (fun _=>none) pl2 (.lst (ls.map V.int))) (SqL.of aB)) (fun i σ H'=>∃ z3,Step L L H H'/\QueueW A H' L { q1 with hs:=q.hs.filter fun p=>decide (p.1 ∉ ls.take i) } false/\H' pl2=some (.lst (ls.map V.int))/\σ = [some (.ref L.qu),some (.int m),some (.ref pl2),z3]) ⟨_,st3,?_,g3,rfl⟩ (fun i σ H' hh b o e=>?_) ?_ ?_
 ·rw[List.take_zero,List.filter_eq_self.mpr (fun p _=>decide_eq_true (by simp)),<- eh]
  exact hq3
 ·obtain⟨_,_,_,g,_⟩:=hh
  by_cases y:b=pl2
  ·subst y
   rw[aB]at e
   injection e with e
   rw[<- e]
   exact g
  ·rw[aF y]at e
   cases e
 ·rintro i x σ H5 H6 hi ⟨z3,st,hqi,gi,rfl⟩ s6 hx
  rw[length_map]at hi
  have hx:(ls.map V.int)[i]? = some x:=hx
  rw[getElem?_map]at hx
  obtain⟨n,en⟩:∃ n,ls[i]? = some n:=⟨_,getElem?_eq_getElem hi⟩
  rw[en]at hx
  cases hx
  have hq6:=hqi.same s6
  obtain⟨dx6,h6⟩:=hq6.self
  obtain⟨hk6,g6,r6⟩:=hq6.held
  have tk:ls.take (i+1)=ls.take i++[n]:=by rw[take_succ,en]; rfl
  have nin:n ∉ ls.take i:=fun z=>by
   have hd:ls.take i++ls.drop i=ls:=List.take_append_drop _ _
   have nd:=lsN
   rw[<- hd,nodup_append]at nd
   have h2:n∈ls.drop i:=by
    rw[List.drop_eq_getElem_cons hi]
    have:ls[i]=n:=(List.getElem?_eq_some_iff.mp en).2
    rw[this]
    exact mem_cons_self
   exact nd.2.2 n z n h2 rfl
  have hin:n∈(q.hs.filter fun p=>decide (p.1 ∉ ls.take i)).map (·.1):=by
   obtain⟨p,hp,ep⟩:=mem_map.mp (lsm n (mem_of_getElem? en))
   exact mem_map.mpr ⟨p,mem_filter.mpr ⟨hp,decide_eq_true (by rw[ep]; exact nin)⟩,ep⟩
  obtain⟨x,tm,el⟩:=pF hin
  obtain⟨t,ev,gt⟩:=(r6.look (n:=n)).2 x tm el
  refine⟨_,rfl,L.qu,_,dx6,_,_,rfl,h6,T.aa0,T.ac4,rfl,.inr (.inr (.inl ⟨rfl,.inl ⟨_,g6⟩⟩)),_,rfl,L.hd,hk6,Sum.inl n,_,rfl,rfl,g6,ev,?_⟩
  obtain⟨hq7,st7⟩:=hq6.toHeld (r6.drop (n:=n))
  refine⟨_,st.trans ((aG.step s6).trans st7),?_,st7.frm _ _ (s6 _ _ gi) npl,rfl⟩
  have e1:dropH (q.hs.filter fun p=>decide (p.1 ∉ ls.take i)) n=q.hs.filter fun p=>decide (p.1 ∉ ls.take (i+1)):=by
   unfold dropH
   rw[List.filter_filter]
   refine List.filter_congr fun p _=>?_
   rw[tk,<- Bool.decide_and]
   refine decide_eq_decide.mpr ?_
   rw[mem_append,mem_singleton]
   exact⟨fun h z=>z.elim h.2 h.1,fun h=>⟨fun z=>h (.inr z),fun z=>h (.inl z)⟩⟩
  rw[<- e1]
  exact hq7
 rintro σ H5 ⟨z3,st,hqi,gi,rfl⟩
 rw[length_map,take_length]at hqi
 obtain⟨dx5,h5⟩:=hqi.self
 obtain⟨db5,hb5⟩:=hqi.book.self
 refine⟨_,rfl,pl2,rfl,⟨_,SqL.of gi⟩,?_⟩
 refine dE (bS (K:=K) (SqL.of gi)) (by rw[length_map]; exact le_trans lsl (by decide)) (fun i y H'=>∃ n,ls[i]? = some n/\Den H' (lF q.B.es n) y) (fun i y H1 H2 s h=>by obtain⟨n,e,h⟩:=h; exact⟨n,e,h.n s (sK _ _)⟩) (fun σ=>∃ z,σ = [z,some (.ref L.qu)]) ⟨none,rfl⟩ ?_ ?_
 ·intro i x σc H6 hi hσ s6 hx Q' hQ'
  obtain⟨z,rfl⟩:=hσ
  rw[getElem?_map]at hx
  cases e:ls[i]? with
  | none=>rw[e]at hx; cases hx
  | some n=>
   rw[e]at hx
   cases hx
   obtain⟨p,hp,ep⟩:=mem_map.mp (lsm n (mem_of_getElem? e))
   obtain⟨en,hen⟩:=he p hp
   rw[ep]at hen
   have bk6:BookAt A.book H6 L.bk L.de L.dp q.B:=by
    have:=(hqi.same s6).book
    rw[show ({ q1 with hs:=q.hs.filter fun p=>decide (p.1 ∉ ls) }:Qs).B=q.B by rw[eq1]]at this
    exact this
   refine⟨_,rfl,L.qu,_,dx5,_,_,rfl,s6 _ _ h5,T.aa0,T.ad9,rfl,L.bk,db5,_,rfl,s6 _ _ hb5,rfl,_,rfl,L.bk,L.de,L.dp,q.B,n,en,rfl,bk6,hen,fun p7 H7 S7 d7=>?_⟩
   refine hQ' _ _ _ ⟨_,rfl⟩ S7 ⟨n,e,?_⟩
   unfold lF
   rw[hen]
   exact d7
 intro D ys H6 hD S6 gD hlen hR
 have hD0:H D=none:=by
  cases e:H D with
  | none=>rfl
  | some o=>
   by_cases y:eT L D
   ·obtain⟨o',e'⟩:=eY hqi y
    rw[e']at hD
    cases hD
   ·rw[st.frm _ _ e y]at hD
    cases hD
 refine qq ms perm pw D H6 (st.trans (aG.step S6)) ?_ hD0 ?_
 ·rw[<- els]
  unfold JF
  have:=hqi.same S6
  rw[eq1]at this
  exact this
 ·rw[<- els]
  simp only[Den]
  refine⟨D,ys,rfl,gD,lI (by rw[length_map]; rw[length_map]at hlen; exact hlen) fun i y e=>?_⟩
  obtain⟨n,e1,e2⟩:=hR i y e
  exact⟨_,by rw[getElem?_map,e1]; rfl,e2⟩
end
abbrev oY:Stmt:=top 65
abbrev wR:Stmt:=top 66
abbrev s_do:Stmt:=top 67
inductive nA where
 | put (b:Lc) | all (bs:K9) | take (x:Str) | done (x:Str) (n:Int) | back (x:Str) (n:Int) | wait (m:Int) | new (n:Int) | sweep | carry
def dY:nA->Str
 | .put _=>"put"
 | .all _=>"all"
 | .take _=>"take"
 | .done _ _=>"done"
 | .back _ _=>"back"
 | .wait _=>"wait"
 | .new _=>"new"
 | .sweep=>"sweep"
 | .carry=>"carry"
def dF:nA->Lg
 | .put b=>[.tuple (b.map .int)]
 | .all bs=>[.tuple (dX bs)]
 | .take x=>[.str x]
 | .done x n=>[.str x,.int n]
 | .back x n=>[.str x,.int n]
 | .wait m=>[.int m]
 | .new n=>[.int n]
 | .sweep=>[]
 | .carry=>[]
def y8:List (Str × Int):=[("put",2),("all",2),("take",2),("done",3),("back",3),("wait",2),("new",2),("sweep",1),("carry",1)]
def Fn:Ll:=y8.map fun p=>(Sum.inr p.1,V.int p.2)
inductive jM (vs:Ln) (H:Hp) (Q:VK) (x_3:XK):Prop
 | mk:∀ (t:Addr) (args:Ln) (d:nA),vs=[.ref t]->H t=some (.tup (.str (dY d)::args))->args.length=(dF d).length->Q .non H->jM vs H Q x_3
def Ht (d:nA):dM Fn (Sum.inr (dY d))=some (.int ((dF d).length+1:Nat)):=by
 cases d <;> rfl
def bV (e:σ[i]? = some (some (.str x))) (h:decide (x=k)=false) (g:b D σ H):yP (Jn (C0 (tOp rEq (nM i) (tC (V.str k)))) a C2) b D σ H:=by
 refine⟨_,e,rfl,_,rfl,?_⟩
 rw[gC (of_decide_eq_false h)]
 exact bC g
def jA (e:σ[i]? = some (some (.str x))) (h:x=k) (g:a { D with nx:=b D } σ H):yP (Jn (C0 (tOp rEq (nM i) (tC (V.str k)))) a C2) b D σ H:=by
 refine⟨_,e,rfl,_,rfl,?_⟩
 rw[hG h]
 exact aT g
def Jz (A:Ad):nA->Sp
 | .put _=>oK A
 | .all _=>i8 A
 | .take _=>mP A
 | .done _ _=>kS A
 | .back _ _=>kT A
 | .wait _=>mO A
 | .new _=>i6 A
 | .sweep=>gN A
 | .carry=>gP A
inductive yS (A:Ad) (vs:Ln) (H:Hp) (Q:VK) (E:XK):Prop
 | mk:∀ (L:Pl) (q:Qs) (t:Addr) (args:Ln) (d:nA),vs=[.ref L.qu,.ref t]->QueueW A H L q false->H t=some (.tup (.str (dY d)::args))->args.length=(dF d).length->Jz A d (.ref L.qu::args) H Q (fun c _ H'=>E c none H')->yS A vs H Q E
inductive DA (A:Ad) (vs:Ln) (H:Hp) (Q:VK) (x_3:XK):Prop
 | mk:∀ (L:Pl) (q:Qs) (t:Addr) (args:Ln) (d:nA),vs=[.ref L.qu,.ref t]->QueueW A H L q false->H t=some (.tup (.str (dY d)::args))->aR H (dF d) args->(∀ E':XK,(∀ a H',a∈[A.notHeld,A.badNumber,A.badBody]->Q (.str "refused") H'->E' (.ref a) none H')->Jz A d (.ref L.qu::args) H Q E')->DA A vs H Q x_3
structure TxtS (P:Program) (w:World) (K:K6) (mg:K8) (A:Ad) (ab9 ae0 ab5:Addr):Prop where
 ad2:mg "len" = none
 ac1:mg "isinstance" = none
 ai3:mg "tuple" = none
 bi8:mg "str" = none
 an0:dJ K ae0=true
 bj0:mg "BadDeed" = some (.ref ae0)
 at4:mg "Stopped" = some (.ref A.stopped)
 e_s:∀ c∈[A.notHeld,A.badNumber,A.badBody],PySem.W.exmOne K (.ref c) (.ref A.stopped)=some false/\PySem.W.exmOne K (.ref c) (.ref ab5)=some true
 bh2:mg "QueueError" = some (.ref ab5)
 g_S:mg "SIZES_OF_DEEDS" = some (.ref ab9)
 G_S:GD P w K ab9 Fn
section
variable {P:Program} {w:World} {K:K6} {mg:K8} {base:Heap} {A:Ad} {ab9 ae0 ab5:Addr}
def vU (F:Fun K "check_deed" "check_deed" oY f fd) (T:TxtS P w K mg A ab9 ae0 ab5):‹15› 1 f fd ["deed"] jM:=by
 have G_SIZES_OF_DEEDS:=T.G_S
 have g_SIZES_OF_DEEDS:=T.g_S
 refine F.okY ["deed","word"] fun cdv A' outer s H vs Q E hr nD0 h=>?_
 obtain⟨t,args,d,rfl,gt,la,q⟩:=h
 refine⟨_,aA (bA (lO (cK (dG ‹28›)) (iR (aQ fM ‹30› aI (bD _)))).pt
   ‹88›
   aO)
  (aA (a7 (i:=1) nD0 ⋯ ⋯ ‹26›)
  (aA (bA (lO (cK (dG (bF (iI K) ⋯ T.ac1 eQ (aE (pv 1) ‹56›)))) (iR (nT (ET G_SIZES_OF_DEEDS (pv 1) (cI (v:=.ref ab9) ⋯ g_SIZES_OF_DEEDS ⋯))))).pt
   ‹88›
   aO)
  (aC (bA (aQ Ay ‹30› (IM G_SIZES_OF_DEEDS (cI (v:=.ref ab9) ⋯ g_SIZES_OF_DEEDS ⋯) (pv 1) (fun _ _=>rfl)) (bD _))
   ‹88›
   aO)))),?_⟩
 refine⟨_,rfl,_,"tuple",_,true,rfl,.tup gt,rfl,_,rfl,bC ?_⟩
 refine⟨_,rfl,t,_,rfl,.inr (SqT.of gt),rfl,_,rfl,?_⟩
 rw[length_cons,pP (show ((args.length+1:Nat):Int)≠0 by omega)]
 refine bC (cJ rfl ?_)
 refine⟨_,rfl,t,_,_,.str (dY d),rfl,rfl,SqT.of gt,aW (by decide) rfl,?_⟩
 refine⟨_,rfl,_,"str",_,true,rfl,.str _,rfl,_,rfl,bC ?_⟩
 have hz:=Ht d
 refine⟨_,rfl,Sum.inr (dY d),rfl,_,rfl,?_⟩
 rw[hz]
 refine bC (cJ rfl ?_)
 refine⟨_,rfl,t,_,rfl,.inr (SqT.of gt),_,rfl,Sum.inr (dY d),_,rfl,hz,rfl,_,rfl,?_⟩
 rw[length_cons,la,decide_eq_true rfl]
 exact bC q
def Df {α : Type}:∀ {l:List α},l.length=2->∃ x y,l=[x,y]
 | [x,y],_=>⟨x,y,rfl⟩
def CL (F:Fun K "told_by" "told_by" wR f fd) (T:‹3›) (bh3:‹17› A.queue "put" 8 ["self","body"] (oK A)) (aq9:‹17› A.queue "put_all" 8 ["self","bodies"] (i8 A)) (bd2:‹17› A.queue "take" 8 ["self","hand"] (mP A)) (bd3:‹17› A.queue "done" 8 ["self","hand","number"] (kS A)) (am2:‹17› A.queue "give_back" 4 ["self","hand","number"] (kT A)) (bd4:‹17› A.queue "wait" 3 ["self","many"] (mO A)) (at8:‹17› A.queue "revive" 8 ["self","number"] (i6 A)) (aj0:‹17› A.queue "sweep" 6 ["self"] (gN A)) (aj1:‹17› A.queue "carry" 8 ["self"] (gP A)):‹15› 9 f fd ["queue","deed"] (yS A):=by
 refine F.okY ["queue","deed","word"] fun cdv A' outer s H vs Q E hr nD0 h=>?_
 obtain⟨L,q,t,args,d,rfl,hq,gt,la,hd⟩:=h
 refine⟨_,aA (a7 (i:=2) nD0 ⋯ ⋯ ‹21›)
  (aA (bA ‹45›
   (aC (aP (cN bh3 T.aa0 ‹19› bO (pv 0) ‹80›)))
   aO)
  (aA (bA ‹45›
   (aC (aP (cN aq9 T.aa0 ‹19› bO (pv 0) ‹80›)))
   aO)
  (aA (bA ‹45›
   (aC (aP (cN bd2 T.aa0 ‹19› bO (pv 0) ‹80›)))
   aO)
  (aA (bA ‹45›
   (aC (aP (cN bd3 T.aa0 ‹19› bO (pv 0) ‹94›)))
   aO)
  (aA (bA ‹45›
   (aC (aP (cN am2 T.aa0 ‹19› bO (pv 0) ‹94›)))
   aO)
  (aA (bA ‹45›
   (aC (aP (cN bd4 T.aa0 ‹19› bO (pv 0) ‹80›)))
   aO)
  (aA (bA ‹45›
   (aC (aP (cN at8 T.aa0 ‹19› bO (pv 0) ‹80›)))
   aO)
  (aA (bA ‹45›
   (aC (aP (cZ aj0 T.aa0 ‹19› bO (pv 0))))
   aO)
  (aC (aP (cZ aj1 T.aa0 ‹19› bO (pv 0)))))))))))),?_⟩
 obtain⟨dx,h1⟩:=hq.self
 refine⟨_,rfl,t,_,_,.str (dY d),rfl,rfl,SqT.of gt,aW (by decide) rfl,?_⟩
 cases d with
 | put b=>
  obtain⟨x,rfl⟩:=length_eq_one_iff.mp la
  exact jA rfl rfl ⟨_,rfl,L.qu,dx,_,rfl,h1,rfl,_,rfl,t,_,_,x,rfl,rfl,SqT.of gt,rfl,hd⟩
 | all bs=>
  obtain⟨x,rfl⟩:=length_eq_one_iff.mp la
  exact bV rfl rfl (jA rfl rfl ⟨_,rfl,L.qu,dx,_,rfl,h1,rfl,_,rfl,t,_,_,x,rfl,rfl,SqT.of gt,rfl,hd⟩)
 | take y=>
  obtain⟨x,rfl⟩:=length_eq_one_iff.mp la
  exact bV rfl rfl (bV rfl rfl (jA rfl rfl ⟨_,rfl,L.qu,dx,_,rfl,h1,rfl,_,rfl,t,_,_,x,rfl,rfl,SqT.of gt,rfl,hd⟩))
 | done y n=>
  obtain⟨x,z,rfl⟩:=Df la
  exact bV rfl rfl (bV rfl rfl (bV rfl rfl (jA rfl rfl ⟨_,rfl,L.qu,dx,_,rfl,h1,rfl,_,rfl,t,_,_,x,rfl,rfl,SqT.of gt,rfl,_,rfl,t,_,_,z,rfl,rfl,SqT.of gt,rfl,hd⟩)))
 | back y n=>
  obtain⟨x,z,rfl⟩:=Df la
  exact bV rfl rfl (bV rfl rfl (bV rfl rfl (bV rfl rfl (jA rfl rfl ⟨_,rfl,L.qu,dx,_,rfl,h1,rfl,_,rfl,t,_,_,x,rfl,rfl,SqT.of gt,rfl,_,rfl,t,_,_,z,rfl,rfl,SqT.of gt,rfl,hd⟩))))
 | wait n=>
  obtain⟨x,rfl⟩:=length_eq_one_iff.mp la
  exact bV rfl rfl (bV rfl rfl (bV rfl rfl (bV rfl rfl (bV rfl rfl (jA rfl rfl ⟨_,rfl,L.qu,dx,_,rfl,h1,rfl,_,rfl,t,_,_,x,rfl,rfl,SqT.of gt,rfl,hd⟩)))))
 | new n=>
  obtain⟨x,rfl⟩:=length_eq_one_iff.mp la
  exact bV rfl rfl (bV rfl rfl (bV rfl rfl (bV rfl rfl (bV rfl rfl (bV rfl rfl (jA rfl rfl ⟨_,rfl,L.qu,dx,_,rfl,h1,rfl,_,rfl,t,_,_,x,rfl,rfl,SqT.of gt,rfl,hd⟩))))))
 | sweep=>
  obtain rfl:=length_eq_zero_iff.mp la
  exact bV rfl rfl (bV rfl rfl (bV rfl rfl (bV rfl rfl (bV rfl rfl (bV rfl rfl (bV rfl rfl (jA rfl rfl ⟨_,rfl,L.qu,dx,_,rfl,h1,rfl,hd⟩)))))))
 | carry=>
  obtain rfl:=length_eq_zero_iff.mp la
  exact bV rfl rfl (bV rfl rfl (bV rfl rfl (bV rfl rfl (bV rfl rfl (bV rfl rfl (bV rfl rfl (bV rfl rfl ⟨_,rfl,L.qu,dx,_,rfl,h1,rfl,hd⟩)))))))
def ok_do (F:Fun K "do" "do" s_do f fd) (T0:‹3›) (T:TxtS P w K mg A ab9 ae0 ab5) (am3:‹16› "check_deed" 1 ["deed"] jM) (at9:‹16› "told_by" 9 ["queue","deed"] (yS A)):‹15› 10 f fd ["queue","deed"] (DA A):=by
 refine F.okY ["queue","deed"] fun cdv A' outer s H vs Q E hr nD0 h=>?_
 obtain⟨L,q,t,args,d,rfl,hq,gt,da,hd⟩:=h
 refine⟨_,aA (aU (a9 am3 ‹19› bO ‹29›))
  (aC (KC IP (GK (ID (px_fn at9 ‹19› (aE (pv 0) ‹29›))))
   (PH.cons ⋯ T.at4 (by decide) (fun ex=>(aC (aP bL))) (PH.cons ⋯ T.bh2 (by decide) (fun ex=>(aC (aP bL))) PH.nil)))),?_⟩
 have la:=da.length
 refine⟨_,rfl,t,args,d,rfl,gt,la,?_⟩
 refine⟨_,rfl,_,rfl,L,q,t,args,d,rfl,hq,gt,la,?_⟩
 refine hd _ fun a H' ha h=>?_
 obtain⟨e1,e2⟩:=T.e_s a ha
 exact .inr ⟨e1,.inl ⟨e2,h⟩⟩
end
def iQ (r:Rw) (rs:Lp):cG (r::rs)=iA r.1 r.2.1 r.2.2++cG rs:=by
 unfold cG
 rw[map_cons,List.flatten_cons]
def AM (hn:eX n) (hm:eX m) (e:bI n=bI m):n=m:=by
 have h1:=PySem.W.KIN.num_reads hn.1 (Int.lt_of_lt_of_le hn.2 (by decide))
 have h2:=PySem.W.KIN.num_reads hm.1 (Int.lt_of_lt_of_le hm.2 (by decide))
 have e':Str.ofString (toString n)=Str.ofString (toString m):=by rw[<- wN n,<- wN m,e]
 rw[e']at h1
 exact Option.some.inj (h1.symm.trans h2)
def BD (h:n ∉ fs.map (·.1)):aV fs n=none:=by
 unfold aV
 rw[map_eq_none_iff,find?_eq_none]
 intro p hp z
 exact h (by rw[<- of_decide_eq_true z]; exact mem_map_of_mem hp)
def Ci (fs:List (Str × Lc)) (h:x≠n):aV (gK fs n) x=aV fs x:=by
 unfold aV gK
 congr 1
 rw[List.find?_filter]
 congr 1
 funext p
 by_cases y:p.1=x
 ·rw[decide_eq_true y,decide_eq_true (show p.1≠n from fun w=>h (y.symm.trans w))]
  rfl
 ·rw[decide_eq_false y]
  exact decide_eq_false (fun w=>by cases w.2)
def DU (e:Ent) (h:∀ p∈es,p.1<n):eK es n e=es++[(n,e)]:=by
 unfold eK
 rw[if_neg]
 rw[any_eq_true]
 rintro ⟨p,hp,z⟩
 have:=h p hp
 have:=of_decide_eq_true z
 omega
def Dt (l:Int) (b:Lc) (hp:B.parts=[]) (hk:∀ p∈B.es,p.1<n) (hu:B.up=n):dR l B [("put",n,b)]=some ⟨B.es++[(n,(b,0,l))],n+1,[]⟩:=by
 show (match dD B "put" n b l with | none=>none | some B'=>some B')=_
 have:dD B "put" n b l=some ⟨B.es++[(n,(b,0,l))],n+1,[]⟩:=by
  unfold dD
  rw[if_neg (by decide),if_neg (by decide),if_neg (fun y=>y hp),if_pos rfl]
  unfold l7
  rw[if_neg (by omega),DU _ hk,hp]
 rw[this]
def HW (k:Str) (n:Int):(cG [(k,n,[])]).length=7:=by
 rw[iQ,length_append,eF]
 rfl
structure Sz (q:Qs) (n:Nat):Prop where
 left:q.D.left=none
 f0:0<=q.first
 top:q.last<=(n:Int)
 keys:∃ k:Nat,q.last=q.first+(k:Int)/\q.D.fs.map (·.1)=(List.range (k+1)).map fun(i:Nat)=>bI (q.first+(i:Int))
 len:∀ x bs,aV q.D.fs x=some bs->(bs.length:Int)<=q.most+706
 m8:1<=q.most
 m67:q.most<=2000
section
variable {q:Qs} {n:Nat}
def Sz.here (h:Sz q n):∃ bs,aV q.D.fs (bI q.last)=some bs:=by
 obtain⟨k,e,ky⟩:=h.keys
 refine BE ?_
 rw[ky,mem_map]
 exact⟨k,mem_range.mpr (by omega),by rw[e]⟩
def Sz.wok (h:Sz q n) (hn:n<=80000) (hu:0<=q.B.up) (he:q.B.es.length+q.B.parts.length+m<900):WOk q m:=by
 obtain⟨k,e,ky⟩:=h.keys
 have f0:=h.f0
 have top:=h.top
 have m67:=h.m67
 refine⟨h.left,⟨by omega,by omega⟩,⟨by omega,by omega⟩,h.here,BD ?_,fun x bs y=>?_,?_,hu,he⟩
 ·rw[ky,mem_map]
  rintro ⟨i,hi,y⟩
  rw[mem_range]at hi
  have:=AM ⟨by omega,by omega⟩ ⟨by omega,by omega⟩ y
  omega
 ·have:=h.len x bs y
  omega
 ·have:=congrArg List.length ky
  rw[length_map,length_map,length_range]at this
  omega
def Sz.step (h:Sz q n) (hn:n<=80000) (hu:0<=q.B.up) (hu9:q.B.up<=999999) (he:q.B.es.length+q.B.parts.length<800) (hl:bs.length<=700) (B':Bk) (hs:Lq):Sz { m7 (aZ q) bs B' with hs:=hs } (n+1)/\(aZ q).last<=(n:Int)+1:=by
 have wok:=h.wok hn (m:=0) hu (by omega)
 obtain⟨k,e,ky⟩:=h.keys
 have m8:=h.m8
 have m67:=h.m67
 have nx:Sz (aZ q) (n+1)/\∃ b0,aV (aZ q).D.fs (bI (aZ q).last)=some b0/\(b0.length:Int)<=(aZ q).most+6:=by
  obtain⟨b0,hb0⟩:=h.here
  have hlast:hW q=b0:=by unfold hW; rw[hb0]; rfl
  unfold aZ
  split
  ·refine⟨⟨rfl,h.f0,by show q.last+1<=_; have:=h.top; omega,⟨k+1,by show q.last+1=q.first+((k+1:Nat):Int); omega,?_⟩,fun x bs y=>?_,m8,m67⟩,iA "from" q.B.up [],?_,by rw[eF]; show ((7+0:Nat):Int)<=q.most+6; omega⟩
   ·show (fB (q.D.fs++[(bI (q.last+1),[])]) _ _).map (·.1)=_
    rw[mT,map_append,ky,List.range_succ (n:=k+1),map_append,e]
    show _++[bI (q.first+(k:Int)+1)]=_++[bI (q.first+((k+1:Nat):Int))]
    rw[show q.first+(k:Int)+1=q.first+((k+1:Nat):Int) by omega]
    rfl
   ·rw[lK q wok.new]at y
    split at y
    ·cases y
     rw[eF]
     show ((7+0:Nat):Int)<=q.most+706
     omega
    ·exact h.len x bs y
   ·rw[lK q wok.new]
    exact if_pos rfl
  ·rename_i hf
   refine⟨⟨h.left,h.f0,Int.le_trans h.top (by omega),⟨k,e,ky⟩,h.len,m8,m67⟩,b0,hb0,?_⟩
   rw[hlast]at hf
   unfold xW at hf
   rw[and_eq_true,not_and]at hf
   have:=hf (by rw[Bool.not_eq_true',decide_eq_false_iff_not]; omega)
   rw[decide_eq_true_eq]at this
   omega
 obtain⟨sn,b0,hb0,hb1⟩:=nx
 obtain⟨k',e',ky'⟩:=sn.keys
 have hlast:hW (aZ q)=b0:=by unfold hW; rw[hb0]; rfl
 refine⟨⟨rfl,sn.f0,sn.top,⟨k',e',?_⟩,fun x bs' y=>?_,sn.m8,sn.m67⟩,by have:=sn.top; omega⟩
 ·show (fB (aZ q).D.fs _ _).map (·.1)=_
  rw[mT]
  exact ky'
 ·have y:aV (fB (aZ q).D.fs (bI (aZ q).last) (hW (aZ q)++bs)) x=some bs':=y
  rw[BB,hb0,hlast]at y
  split at y
  ·cases y
   rw[length_append]
   show (((b0.length+bs.length:Nat)):Int)<=(aZ q).most+706
   omega
  ·exact sn.len x bs' y
def Sz.drop (h:Sz q n) (hn:n<=80000) (hlt:q.first<q.last):q.D.left=none/\eX q.first/\(∃ bs,aV q.D.fs (bI q.first)=some bs)/\Sz (BP q) n:=by
 obtain⟨k,e,ky⟩:=h.keys
 have f0:=h.f0
 have top:=h.top
 obtain⟨k',rfl⟩:∃ k',k=k'+1:=⟨k - 1,by omega⟩
 have ne:∀ i:Nat,i<k'+1->bI (q.first+1+(i:Int))≠bI q.first:=fun i hi y=>by
  have:=AM ⟨by omega,by omega⟩ ⟨by omega,by omega⟩ y
  omega
 refine⟨h.left,⟨by omega,by omega⟩,BE ?_,⟨rfl,by show 0<=q.first+1; omega,h.top,⟨k',by show q.last=q.first+1+_; omega,?_⟩,fun x bs y=>?_,h.m8,h.m67⟩⟩
 ·rw[ky,mem_map]
  exact⟨0,mem_range.mpr (by omega),by rw[show q.first+((0:Nat):Int)=q.first by omega]⟩
 ·show (gK q.D.fs (bI q.first)).map (·.1)=_
  have e1:(gK q.D.fs (bI q.first)).map (·.1)=(q.D.fs.map (·.1)).filter fun x=>decide (x≠bI q.first):=by
   unfold gK
   rw[filter_map]
   rfl
  rw[e1,ky,range_succ_eq_map,map_cons,filter_cons,if_neg (by simp),map_map,List.filter_eq_self.mpr]
  ·apply map_congr_left
   intro i _
   show bI (q.first+((i+1:Nat):Int))=bI (q.first+1+(i:Int))
   rw[show q.first+((i+1:Nat):Int)=q.first+1+(i:Int) by omega]
  ·intro x hx
   rw[mem_map]at hx
   obtain⟨i,hi,rfl⟩:=hx
   rw[mem_range]at hi
   refine decide_eq_true ?_
   have:=ne i hi
   show bI (q.first+((i+1:Nat):Int))≠bI q.first
   rw[show q.first+((i+1:Nat):Int)=q.first+1+(i:Int) by omega]
   exact this
 ·have y:aV (gK q.D.fs (bI q.first)) x=some bs:=y
  by_cases z:x=bI q.first
  ·subst z
   have:aV (gK q.D.fs (bI q.first)) (bI q.first)=none:=BD (by
    unfold gK
    rw[mem_map]
    rintro ⟨p,hp,ep⟩
    have:=of_decide_eq_true (mem_filter.mp hp).2
    exact this ep)
   rw[this]at y
   cases y
  ·rw[Ci _ z]at y
   exact h.len x bs y
end
section
variable {es:Lo} {n up:Int} {e:Ent}
def BC (h:bJ es n=some e):(n,e)∈es:=by
 unfold bJ at h
 cases y:es.find? fun p=>decide (p.1=n) with
 | none=>
  rw[y]at h
  cases h
 | some p=>
  rw[y]at h
  cases h
  have h1:=List.mem_of_find?_eq_some y
  have h2:=List.find?_some (p:=fun p:Int × Ent=>decide (p.1=n)) y
  have h2:p.1=n:=of_decide_eq_true h2
  rw[<- h2]
  exact h1
def pD (h:bJ es n=some e):(es.any fun p=>decide (p.1=n))=true:=any_eq_true.mpr ⟨_,BC h,decide_eq_true rfl⟩
def uD (h:bJ es n=some e) (e':Ent):(eK es n e').map (·.1)=es.map (·.1):=by
 unfold eK
 rw[if_pos (pD h),map_map]
 apply map_congr_left
 intro p _
 show (if p.1=n then (p.1,e') else p).1=p.1
 split <;> rfl
def BK:∀ (es:Lo) (n k:Int) (e':Ent),bJ (es.map fun p=>if p.1=n then (p.1,e') else p) k=if k=n then (bJ es n).map (fun _=>e') else bJ es k
 | [],n,k,e'=>by
  split <;> rfl
 | p::r,n,k,e'=>by
  have ih:=BK r n k e'
  unfold bJ at ih ⊢
  rw[map_cons,find?_cons,find?_cons,find?_cons]
  have e1:(if p.1=n then (p.1,e') else p).1=p.1:=by split <;> rfl
  rw[e1]
  by_cases h1:p.1=k
  ·rw[decide_eq_true h1]
   by_cases h2:k=n
   ·subst h2
    rw[if_pos h1,if_pos rfl,decide_eq_true h1]
    rfl
   ·rw[if_neg (fun z=>h2 (h1.symm.trans z)),if_neg h2]
  ·rw[decide_eq_false h1]
   by_cases h2:k=n
   ·subst h2
    rw[if_pos rfl,decide_eq_false h1]
    rw[if_pos rfl]at ih
    exact ih
   ·rw[if_neg h2]
    rw[if_neg h2]at ih
    exact ih
def pB (h:bJ es n=some e) (e':Ent) (k:Int):bJ (eK es n e') k=if k=n then some e' else bJ es k:=by
 unfold eK
 rw[if_pos (pD h),BK,h]
 rfl
def uR (es:Lo) (n k:Int):bJ (gE es n) k=if k=n then none else bJ es k:=by
 unfold bJ gE
 rw[List.find?_filter]
 by_cases h:k=n
 ·subst h
  rw[if_pos rfl,find?_eq_none.mpr fun p _=>by simp]
  rfl
 ·rw[if_neg h]
  have e1:(fun a:Int × Ent=>decide (decide (a.1≠n)=true/\decide (a.1=k)=true))=fun a=>decide (a.1=k):=by
   funext p
   by_cases z:p.1=k
   ·rw[decide_eq_true z]
    exact decide_eq_true ⟨decide_eq_true (fun y=>h (z.symm.trans y)),rfl⟩
   ·rw[decide_eq_false z]
    exact decide_eq_false (fun y=>Bool.false_ne_true y.2)
  exact congrArg (fun f=>Option.map (·.2) (es.find? f)) e1
def Bo (l:Int) (b:Lc) (t:Int) (hu:n+1<=up):dR l ⟨es,up,[]⟩ [("carried",n,t::b)]=some ⟨eK es n (b,t,l),up,[]⟩:=by
 show (match dD ⟨es,up,[]⟩ "carried" n (t::b) l with | none=>none | some B'=>some B')=_
 have:dD ⟨es,up,[]⟩ "carried" n (t::b) l=some ⟨eK es n (b,t,l),up,[]⟩:=by
  unfold dD
  rw[if_neg (by decide),if_neg (by decide),if_neg (fun y=>y rfl),if_neg (by decide),if_neg (by decide),if_pos rfl]
  unfold Gq
  rw[if_neg (show ¬ n+1 > up by omega)]
  rfl
 rw[this]
def EB (l:Int) (h:bJ es n=some e):dR l ⟨es,up,[]⟩ [("out",n,[])]=some ⟨eK es n (e.1,e.2.1+1,e.2.2),up,[]⟩:=by
 show (match dD ⟨es,up,[]⟩ "out" n [] l with | none=>none | some B'=>some B')=_
 have:dD ⟨es,up,[]⟩ "out" n [] l=some ⟨eK es n (e.1,e.2.1+1,e.2.2),up,[]⟩:=by
  unfold dD
  rw[if_neg (by decide),if_neg (by decide),if_neg (fun y=>y rfl),if_neg (by decide),if_neg (by decide),if_neg (by decide)]
  show (match bJ es n with | none=>_ | some e=>_)=_
  rw[h]
  rfl
 rw[this]
def Bm (l:Int) (h:bJ es n=some e):dR l ⟨es,up,[]⟩ [("done",n,[])]=some ⟨gE es n,up,[]⟩:=by
 show (match dD ⟨es,up,[]⟩ "done" n [] l with | none=>none | some B'=>some B')=_
 have:dD ⟨es,up,[]⟩ "done" n [] l=some ⟨gE es n,up,[]⟩:=by
  unfold dD
  rw[if_neg (by decide),if_neg (by decide),if_neg (fun y=>y rfl),if_neg (by decide),if_neg (by decide),if_neg (by decide)]
  show (match bJ es n with | none=>_ | some e=>_)=_
  rw[h]
  rfl
 rw[this]
end
structure EntOk (es:Lo) (up:Int) (c:Nat):Prop where
 up0:0<=up/\up<=9 * (c:Int)
 so:(es.map (·.1)).Pairwise (· < ·)
 ent:∀ k e,bJ es k=some e->0<=k/\k+1<=up/\0<=e.2.1/\e.2.1<=9/\dO e.1/\e.1.length<=60
 cnt:es.length<=9 * c
structure Qi (q:Qs) (n c:Nat):Prop where
 sz:Sz q n
 pt:q.B.parts=[]
 eo:EntOk q.B.es q.B.up c
 hk:∀ p∈q.hs,∃ e,bJ q.B.es p.1=some e
 hn:(q.hs.map (·.1)).Nodup
 hl:q.hs.length<=c
 tr:1<=q.tries/\q.tries<=9
def EntOk.mono {es:Lo} {up:Int} {c c':Nat} (h:EntOk es up c) (hc:c<=c'):EntOk es up c':=⟨⟨h.up0.1,by have:=h.up0.2; omega⟩,h.so,h.ent,by have:=h.cnt; omega⟩
section
variable {q:Qs} {n c:Nat}
def Qi.mono (h:Qi q n c) {n' c':Nat} (h1:n<=n') (h2:c<=c'):Qi q n' c':=⟨⟨h.sz.left,h.sz.f0,Int.le_trans h.sz.top (by omega),h.sz.keys,h.sz.len,h.sz.m8,h.sz.m67⟩,h.pt,h.eo.mono h2,h.hk,h.hn,le_trans h.hl h2,h.tr⟩
def Qi.wok (h:Qi q n c) (hn:n<=70000) (hc:c<=50) (hm:m<=50):WOk q m:=by
 have:=h.eo.cnt
 have:=h.eo.up0
 have pl:q.B.parts.length=0:=by rw[h.pt]; rfl
 exact h.sz.wok (by omega) h.eo.up0.1 (by omega)
def Qi.write (h:Qi q n c) (hn:n<=70000) (hc:c<=50) {rs:Lp} (len:(cG rs).length<=700) (B':Bk) (hs:Lq) {c':Nat} (pt:B'.parts=[]) (eo:EntOk B'.es B'.up c') (hk:∀ p∈hs,∃ e,bJ B'.es p.1=some e) (hnd:(hs.map (·.1)).Nodup) (hl:hs.length<=c'):Qi { m7 (aZ q) (cG rs) B' with hs:=hs } (n+1) c':=by
 have:=h.eo.cnt
 have:=h.eo.up0
 have pl:q.B.parts.length=0:=by rw[h.pt]; rfl
 refine⟨(h.sz.step (by omega) h.eo.up0.1 (by omega) (by omega) len B' hs).1,pt,eo,hk,hnd,hl,?_⟩
 have:=(cP q).2.2.1
 show 1<=(aZ q).tries/\(aZ q).tries<=9
 rw[this]
 exact h.tr
def Qi.bk (h:Qi q n c):(aZ q).B=⟨q.B.es,q.B.up,[]⟩:=by
 rw[(cP q).2.2.2,<- h.pt]
def mG (h:EntOk es up c):∀ p∈es,p.1<up:=fun p hp=>by
 obtain⟨e,el⟩:=kD (mem_map_of_mem (f:=(·.1)) hp)
 have:=(h.ent _ e el).2.1
 omega
def xQ (e:Ent) (h:∀ p∈es,p.1<m) (k:Int):bJ (es++[(m,e)]) k=if k=m then some e else bJ es k:=by
 unfold bJ
 rw[List.find?_append]
 by_cases z:k=m
 ·subst z
  have h0:es.find? (fun p=>decide (p.1=k))=none:=by
   rw[find?_eq_none]
   intro p hp y
   have:=h p hp
   have:=of_decide_eq_true y
   omega
  rw[h0,if_pos rfl,find?_cons,decide_eq_true rfl]
  rfl
 ·rw[if_neg z,find?_cons,decide_eq_false (fun y=>z y.symm)]
  cases es.find? (fun p=>decide (p.1=k)) <;> rfl
def BN (h:EntOk es up c) (bok:dO b) (bl:b.length<=60) (d:Nat) (hu:up+1<=9 * (d:Int)) (hl:es.length+1<=9 * d):EntOk (es++[(up,(b,0,s))]) (up+1) d:=by
 refine⟨⟨by have:=h.up0.1; omega,hu⟩,?_,fun k e y=>?_,by rw[length_append]; exact hl⟩
 ·rw[map_append,List.pairwise_append]
  refine⟨h.so,List.pairwise_singleton _ _,fun x hx y hy=>?_⟩
  rw[mem_singleton.mp hy]
  obtain⟨p,hp,rfl⟩:=mem_map.mp hx
  exact mG h p hp
 ·rw[xQ _ (mG h)]at y
  split at y
  ·cases y
   rename_i z
   have:=h.up0.1
   exact⟨by omega,by omega,Int.le_refl _,by show (0:Int)<=9; decide,bok,bl⟩
  ·obtain⟨a1,a2,a3⟩:=h.ent k e y
   exact⟨a1,by omega,a3⟩
def Dr {es:Lo} {m:Int} {e:Ent} (hm:∀ p∈es,p.1<m) {hs:Lq} (h:∀ p∈hs,∃ e,bJ es p.1=some e):∀ p∈hs,∃ e',bJ (es++[(m,e)]) p.1=some e':=fun p hp=>by
 obtain⟨e0,el⟩:=h p hp
 rw[xQ _ hm]
 split
 ·exact⟨_,rfl⟩
 ·exact⟨e0,el⟩
def Qi.put (h:Qi q n c) (hn:n<=70000) (hc:c<=49) {b:Lc} (bok:dO b) (bl:b.length<=60):∃ B',dR (aZ q).last (aZ q).B [("put",q.B.up,b)]=some B'/\Qi (putQ q b B') (n+1) (c+1):=by
 have u:=h.eo.up0
 have cn:=h.eo.cnt
 refine⟨⟨q.B.es++[(q.B.up,(b,0,(aZ q).last))],q.B.up+1,[]⟩,?_,?_⟩
 ·rw[h.bk]
  exact Dt (B:=⟨q.B.es,q.B.up,[]⟩) _ b rfl (mG h.eo) rfl
 ·have:=h.write (c':=c+1) hn (by omega) (rs:=[("put",q.B.up,b)]) (by rw[iQ,length_append,eF]; show 7+b.length+0<=700; omega) ⟨q.B.es++[(q.B.up,(b,0,(aZ q).last))],q.B.up+1,[]⟩ (aZ q).hs rfl (BN h.eo bok bl (c+1) (by omega) (by omega)) ?_ ?_ ?_
  ·exact this
  ·rw[(cP q).2.1]
   exact Dr (mG h.eo) h.hk
  ·rw[(cP q).2.1]
   exact h.hn
  ·rw[(cP q).2.1]
   exact le_succ_of_le h.hl
def vZ (s:Int):Lo->Int->K9->Lo
 | es,_,[]=>es
 | es,up,b::r=>vZ s (es++[(up,(b,0,s))]) (up+1) r
def jO (up:Int):K9->List (Int × Lc)
 | []=>[]
 | b::r=>(up,b)::jO (up+1) r
def Eo (up:Int) (n:Nat):lP up (n+1)=up::lP (up+1) n:=by
 unfold lP
 rw[range_succ_eq_map,map_cons,map_map]
 show (up+((0:Nat):Int))::_=_
 rw[show up+((0:Nat):Int)=up by omega]
 congr 1
 apply map_congr_left
 intro k _
 show up+((k+1:Nat):Int)=_
 omega
def rM (up:Int) (b:Lc) (bss:K9):iV up (b::bss)=(("part",up,b):Rw)::iV (up+1) bss:=by
 unfold iV
 rw[length_cons,range_succ_eq_map,map_cons,map_map]
 congr 1
 ·simp
 ·apply map_congr_left
  intro x _
  show (("part",up+((x+1:Nat):Int),(b::bss).getD (x+1) []):Rw)=(("part",up+1+(x:Int),bss.getD x []):Rw)
  rw[show up+((x+1:Nat):Int)=up+1+(x:Int) by omega]
  rfl
def rN:∀ (up:Int) (bss:K9),(jO up bss).map (·.1)=lP up bss.length
 | up,[]=>rfl
 | up,b::bss=>by
  show up::(jO (up+1) bss).map (·.1)=lP up (bss.length+1)
  rw[rN (up+1) bss,Eo]
def u8 (seg:Int) (es:Lo) (u0:Int) (rest:Lp):∀ (up:Int) (bss:K9) (ps:List (Int × Lc)),dR seg ⟨es,u0,ps⟩ (iV up bss++rest)=dR seg ⟨es,u0,ps++jO up bss⟩ rest
 | up,[],ps=>by
  show dR seg ⟨es,u0,ps⟩ rest=dR seg ⟨es,u0,ps++[]⟩ rest
  rw[append_nil]
 | up,b::bss,ps=>by
  rw[rM]
  show dR seg ⟨es,u0,ps++[(up,b)]⟩ (iV (up+1) bss++rest)=dR seg ⟨es,u0,ps++(up,b)::jO (up+1) bss⟩ rest
  rw[u8 seg es u0 rest (up+1) bss,append_assoc]
  rfl
def Ao (s:Int):∀ (bss:K9) (es:Lo) (up:Int),(∀ p∈es,p.1<up)->rT s ⟨es,up,[]⟩ (jO up bss)=some ⟨vZ s es up bss,up+(bss.length:Int),[]⟩
 | [],es,up,_=>by
  show some _=some _
  rw[show up+(([]:K9).length:Int)=up from Int.add_zero up]
  rfl
 | b::bss,es,up,h=>by
  have e1:l7 ⟨es,up,[]⟩ up b s=some ⟨es++[(up,(b,0,s))],up+1,[]⟩:=by
   unfold l7
   rw[if_neg (by show ¬ up<up; omega),DU _ h]
  show (match l7 ⟨es,up,[]⟩ up b s with | none=>none | some B'=>rT s B' (jO (up+1) bss))=_
  rw[e1]
  try dsimp only
  rw[Ao s bss _ _ (fun p hp=>by
   rw[mem_append,mem_singleton]at hp
   rcases hp with hp | rfl
   ·have:=h p hp
    omega
   ·show up<up+1
    omega)]
  rw[length_cons,show up+1+(bss.length:Int)=up+((bss.length+1:Nat):Int) by omega]
  rfl
def BJ (s:Int) (h:∀ p∈es,p.1<up):dR s ⟨es,up,[]⟩ (kJ up bss)=some ⟨vZ s es up bss,up+(bss.length:Int),[]⟩:=by
 unfold kJ
 rw[u8,List.nil_append]
 show (match dD ⟨es,up,jO up bss⟩ "deal" up [(bss.length:Int)] s with | none=>none | some B'=>some B')=_
 have:dD ⟨es,up,jO up bss⟩ "deal" up [(bss.length:Int)] s=some ⟨vZ s es up bss,up+(bss.length:Int),[]⟩:=by
  unfold dD
  rw[if_neg (by decide),if_pos rfl]
  unfold x9
  rw[if_pos (by
   show (jO up bss).map (·.1)=(List.range ((bss.length:Int)).toNat).map _
   rw[rN,Int.toNat_natCast]
   rfl)]
  exact Ao s bss es up h
 rw[this]
def Dx (s:Int) {d:Nat}:∀ (bss:K9) (es:Lo) (up:Int) (hs:Lq),EntOk es up d->(∀ b∈bss,dO b/\b.length<=60)->up+(bss.length:Int)<=9 * (d:Int)->es.length+bss.length<=9 * d->(∀ p∈hs,∃ e,bJ es p.1=some e)->
  EntOk (vZ s es up bss) (up+(bss.length:Int)) d/\∀ p∈hs,∃ e,bJ (vZ s es up bss) p.1=some e
 | [],es,up,hs,h,_,_,_,hk=>⟨by rw[show up+(([]:K9).length:Int)=up from Int.add_zero up]; exact h,hk⟩
 | b::bss,es,up,hs,h,hb,hu,hl,hk=>by
  rw[length_cons]at hu hl
  have hb0:=hb b mem_cons_self
  have h1:=BN h (s:=s) hb0.1 hb0.2 d (by omega) (by omega)
  have r:=Dx s bss _ _ hs h1 (fun x hx=>hb x (mem_cons_of_mem _ hx)) (by omega) (by rw[length_append]; show es.length+1+bss.length<=_; omega) (Dr (mG h) hk)
  rw[length_cons,show up+((bss.length+1:Nat):Int)=up+1+(bss.length:Int) by omega]
  exact r
def EL (a b:Lp):cG (a++b)=cG a++cG b:=by
 unfold cG
 rw[map_append,List.flatten_append]
def xN:∀ (bss:K9) (up:Int),(∀ b∈bss,b.length<=60)->(cG (iV up bss)).length<=67 * bss.length
 | [],up,_=>le_refl _
 | b::bss,up,h=>by
  rw[rM,iQ,length_append,eF,length_cons]
  have:=xN bss (up+1) (fun x hx=>h x (mem_cons_of_mem _ hx))
  have:=h b mem_cons_self
  show 7+b.length+_<=_
  omega
def Qi.all (h:Qi q n c) (hn:n<=70000) (hc:c<=49) (h9:bss.length<=9) (hb:∀ b∈bss,dO b/\b.length<=60):∃ B',dR (aZ q).last (aZ q).B (kJ q.B.up bss)=some B'/\Qi (allQ q bss B') (n+1) (c+1):=by
 have u:=h.eo.up0
 have cn:=h.eo.cnt
 obtain⟨e1,e2⟩:=Dx (aZ q).last (d:=c+1) bss q.B.es q.B.up q.hs (h.eo.mono (by omega)) hb (by omega) (by omega) h.hk
 refine⟨⟨vZ (aZ q).last q.B.es q.B.up bss,q.B.up+(bss.length:Int),[]⟩,?_,?_⟩
 ·rw[h.bk]
  exact BJ _ (mG h.eo)
 ·have:=h.write (c':=c+1) hn (by omega) (rs:=kJ q.B.up bss) ?_ ⟨vZ (aZ q).last q.B.es q.B.up bss,q.B.up+(bss.length:Int),[]⟩ (aZ q).hs rfl e1 ?_ ?_ ?_
  ·exact this
  ·unfold kJ
   rw[EL,length_append]
   have:=xN bss q.B.up fun b hb'=>(hb b hb').2
   have:(cG ([("deal",q.B.up,[(bss.length:Int)])]:Lp)).length=8:=by rw[iQ,length_append,eF]; rfl
   omega
  ·rw[(cP q).2.1]
   exact e2
  ·rw[(cP q).2.1]
   exact h.hn
  ·rw[(cP q).2.1]
   exact le_succ_of_le h.hl
def zX {es:Lo} {up:Int} {d:Nat} (h:EntOk es up d) {k:Int} {e e':Ent} (el:bJ es k=some e) (hb:e'.1=e.1) (h0:0<=e'.2.1) (h9:e'.2.1<=9):EntOk (eK es k e') up d:=by
 refine⟨h.up0,by rw[uD el]; exact h.so,fun m em y=>?_,?_⟩
 ·rw[pB el]at y
  split at y
  ·cases y
   rename_i z
   subst z
   obtain⟨a1,a2,a3,a4,a5,a6⟩:=h.ent _ e el
   exact⟨a1,a2,h0,h9,by rw[hb]; exact a5,by rw[hb]; exact a6⟩
  ·exact h.ent m em y
 ·have:=congrArg List.length (uD el e')
  rw[length_map,length_map]at this
  rw[this]
  exact h.cnt
def Cm {es:Lo} {k:Int} {e e':Ent} (el:bJ es k=some e) {hs:Lq} (h:∀ p∈hs,∃ e,bJ es p.1=some e):∀ p∈hs,∃ e'',bJ (eK es k e') p.1=some e'':=fun p hp=>by
 obtain⟨e0,e1⟩:=h p hp
 rw[pB el]
 split
 ·exact⟨_,rfl⟩
 ·exact⟨e0,e1⟩
def vL (k:Str) (m:Int):(cG [(k,m,[])]).length<=700:=by
 rw[HW]
 decide
def Qi.out (h:Qi q n c) (hn:n<=70000) (hc:c<=49) {k:Int} {e:Ent} (el:bJ q.B.es k=some e) (ht:e.2.1<q.tries) (hf:cQ q.hs k=none) (x:Str):∃ B',dR (aZ q).last (aZ q).B [("out",k,[])]=some B'/\B'.es=eK q.B.es k (e.1,e.2.1+1,e.2.2)/\Qi (outQ q k x B') (n+1) (c+1):=by
 obtain⟨_,_,a3,_⟩:=h.eo.ent k e el
 have tr:=h.tr
 refine⟨_,by rw[h.bk]; exact EB _ el,rfl,?_⟩
 have eo:=zX (e':=(e.1,e.2.1+1,e.2.2)) (h.eo.mono (show c<=c+1 by omega)) el rfl (by show 0<=e.2.1+1; omega) (by show e.2.1+1<=9; omega)
 refine h.write hn (by omega) (vL _ _) ⟨_,_,[]⟩ (q.hs++[(k,(x,q.now))]) rfl eo (fun p hp=>?_) ?_ ?_
 ·rw[mem_append,mem_singleton]at hp
  rcases hp with hp | rfl
  ·exact Cm el h.hk p hp
  ·exact⟨_,by rw[pB el,if_pos rfl]⟩
 ·rw[map_append,nodup_append]
  refine⟨h.hn,by simp,fun a ha b hb=>?_⟩
  have hb:b∈[k]:=hb
  rw[mem_singleton.mp hb]
  intro z
  subst z
  obtain⟨y,tm,e1⟩:=pF ha
  rw[hf]at e1
  cases e1
 ·rw[length_append]
  have:=h.hl
  show q.hs.length+1<=_
  omega
def EC {es:Lo} {n up:Int} {e:Ent} (l:Int) (h:bJ es n=some e):dR l ⟨es,up,[]⟩ [("new",n,[])]=some ⟨eK es n (e.1,0,e.2.2),up,[]⟩:=by
 show (match dD ⟨es,up,[]⟩ "new" n [] l with | none=>none | some B'=>some B')=_
 have:dD ⟨es,up,[]⟩ "new" n [] l=some ⟨eK es n (e.1,0,e.2.2),up,[]⟩:=by
  unfold dD
  rw[if_neg (by decide),if_neg (by decide),if_neg (fun y=>y rfl),if_neg (by decide),if_neg (by decide),if_neg (by decide)]
  show (match bJ es n with | none=>_ | some e=>_)=_
  rw[h]
  rfl
 rw[this]
def Qi.new (h:Qi q n c) (hn:n<=70000) (hc:c<=49) {k:Int} {e:Ent} (el:bJ q.B.es k=some e):∃ B',dR (aZ q).last (aZ q).B [("new",k,[])]=some B'/\Qi (newQ q k B') (n+1) (c+1):=by
 refine⟨_,by rw[h.bk]; exact EC _ el,?_⟩
 have eo:=zX (e':=(e.1,0,e.2.2)) (h.eo.mono (show c<=c+1 by omega)) el rfl (Int.le_refl _) (by show (0:Int)<=9; decide)
 refine h.write hn (by omega) (vL _ _) ⟨_,_,[]⟩ (aZ q).hs rfl eo ?_ ?_ ?_
 ·rw[(cP q).2.1]
  exact Cm el h.hk
 ·rw[(cP q).2.1]
  exact h.hn
 ·rw[(cP q).2.1]
  exact le_succ_of_le h.hl
def HL (h:p∈dropH hs k):p∈hs/\p.1≠k:=by
 obtain⟨h1,h2⟩:=mem_filter.mp h
 exact⟨h1,of_decide_eq_true h2⟩
def Dy {hs:Lq} (P:Int × (Str × Int)->Bool) (h:(hs.map (·.1)).Nodup):((hs.filter P).map (·.1)).Nodup:=h.sublist (List.filter_sublist.map _)
def Qi.done (h:Qi q n c) (hn:n<=70000) (hc:c<=49) {k:Int} {e:Ent} (el:bJ q.B.es k=some e):∃ B',dR (aZ q).last (aZ q).B [("done",k,[])]=some B'/\Qi (Jb q k B') (n+1) (c+1):=by
 refine⟨_,by rw[h.bk]; exact Bm _ el,?_⟩
 have eo:EntOk (gE q.B.es k) q.B.up (c+1):=by
  refine(EntOk.mono ⟨h.eo.up0,?_,fun m em y=>?_,?_⟩ (show c<=c+1 by omega))
  ·unfold gE
   exact h.eo.so.sublist (List.filter_sublist.map _)
  ·rw[uR]at y
   split at y
   ·cases y
   ·exact h.eo.ent m em y
  ·exact le_trans (length_filter_le _ _) h.eo.cnt
 refine h.write hn (by omega) (vL _ _) ⟨_,_,[]⟩ (dropH q.hs k) rfl eo (fun p hp=>?_) (Dy _ h.hn) ?_
 ·obtain⟨h1,h2⟩:=HL hp
  obtain⟨e0,e1⟩:=h.hk p h1
  exact⟨e0,by rw[uR,if_neg h2]; exact e1⟩
 ·exact le_trans (length_filter_le _ _) (le_succ_of_le h.hl)
def Qi.held (h:Qi q n c) (P:Int × (Str × Int)->Bool) (now:Int):Qi { q with now:=now,hs:=q.hs.filter P } n (c+1):=
 ⟨⟨h.sz.left,h.sz.f0,h.sz.top,h.sz.keys,h.sz.len,h.sz.m8,h.sz.m67⟩,h.pt,h.eo.mono (by omega),fun p hp=>h.hk p (mem_filter.mp hp).1,Dy _ h.hn,le_trans (length_filter_le _ _) (le_succ_of_le h.hl),h.tr⟩
def Qi.drop (h:Qi q n c) (hn:n<=70000) (hlt:q.first<q.last):q.D.left=none/\eX q.first/\(∃ bs,aV q.D.fs (bI q.first)=some bs)/\Qi (BP q) n c:=by
 obtain⟨a,b,c',d⟩:=h.sz.drop (by omega) hlt
 exact⟨a,b,c',⟨d,h.pt,h.eo,h.hk,h.hn,h.hl,h.tr⟩⟩
def Kv {n t:Int} {b:Lc} (h0:0<=n) (h1:n<=999999) (t0:0<=t) (t9:t<=9) (hb:dO b) (hl:b.length<=60):bK (cA ("carried",n,t::b))=true:=by
 show (cT.contains "carried" && (bM 0 999999 (.int n) && (cV (.tuple ((t::b).map .int)) && fD "carried" (bN (.tuple ((t::b).map .int))))))=true
 have e1:bM 0 999999 (.int n)=true:=by
  simp only[bM,and_eq_true,decide_eq_true_eq]
  exact⟨h0,h1⟩
 have e2:cV (.tuple ((t::b).map .int))=true:=pQ (ns:=t::b) (fun x hx=>by
  rcases mem_cons.mp hx with rfl | hx
  ·omega
  ·exact hb x hx)
 have e3:fD "carried" (t::b)=true:=by
  unfold fD
  rw[if_neg (by decide),if_pos rfl]
  rw[decide_eq_true (show 1<=(t::b).length by rw[length_cons]; omega),decide_eq_true (show (t::b).length<=61 by rw[length_cons]; omega),decide_eq_true (show (t::b).headD 0<=9 from t9)]
  rfl
 rw[e1,e2,fQ,e3]
 decide +kernel
def Cf (q:Qs):(aZ q).first=q.first/\q.last<=(aZ q).last:=by
 unfold aZ
 split
 ·exact⟨rfl,by show q.last<=q.last+1; omega⟩
 ·exact⟨rfl,Int.le_refl _⟩
def Qi.car (h:Qi q n c) (hn:n<=70000) (hc:c<=49) {k:Int} {e:Ent} (el:bJ q.B.es k=some e):bK (cA (sA k e))=true/\WOk q 1/\dR (aZ q).last (aZ q).B [sA k e]=some ⟨eK q.B.es k (e.1,e.2.1,(aZ q).last),q.B.up,[]⟩/\Qi (m7 (aZ q) (cG [sA k e]) ⟨eK q.B.es k (e.1,e.2.1,(aZ q).last),q.B.up,[]⟩) (n+1) c:=by
 obtain⟨a1,a2,a3,a4,a5,a6⟩:=h.eo.ent k e el
 have u:=h.eo.up0
 have ec:sA k e=(("carried",k,e.2.1::e.1):Rw):=by
  unfold sA
  rw[if_neg (show ¬ (9:Int)<e.2.1 by omega)]
 rw[ec]
 refine⟨Kv a1 (by omega) a3 a4 a5 a6,h.wok hn (by omega) (by omega),by rw[h.bk]; exact Bo _ _ _ a2,?_⟩
 have eo:=zX (e':=(e.1,e.2.1,(aZ q).last)) h.eo el rfl a3 a4
 refine h.write hn (by omega) (rs:=[("carried",k,e.2.1::e.1)]) (by rw[iQ,length_append,eF]; show 7+(e.1.length+1)+0<=700; omega) ⟨_,_,[]⟩ (aZ q).hs rfl eo ?_ ?_ ?_
 ·rw[(cP q).2.1]
  exact Cm el h.hk
 ·rw[(cP q).2.1]
  exact h.hn
 ·rw[(cP q).2.1]
  exact h.hl
def Qi.first (m1:1<=m) (m2:m<=2000) (t1:1<=t) (t9:t<=9):Qi (iX m h t d) 0 0:=by
 unfold iX
 refine⟨⟨rfl,Int.le_refl _,Int.le_refl _,⟨0,rfl,rfl⟩,fun x bs e=>?_,m1,m2⟩,rfl,⟨⟨Int.le_refl _,Int.le_refl _⟩,List.Pairwise.nil,(fun k e y=>by cases y),le_refl _⟩,(fun p hp=>by cases hp),nodup_nil,le_refl _,t1,t9⟩
 have e:aV [(bI 0,xX)] x=some bs:=e
 unfold aV at e
 rw[find?_cons]at e
 split at e
 ·cases e
  show ((xX.length:Nat):Int)<=m+706
  have:xX.length=7:=by decide +kernel
  omega
 ·cases e
end
abbrev La:=List (Int × (Lc × Int))
structure Ab where
 ls:La
 up:Int
 hs:Lq
 now:Int
def bare (p:Int × Ent):Int × (Lc × Int):=(p.1,(p.2.1,p.2.2.1))
def dP (q:Qs):Ab:=⟨q.B.es.map bare,q.B.up,q.hs,q.now⟩
def iY (ls:La) (n:Int):Option (Lc × Int):=(ls.find? fun p=>decide (p.1=n)).map (·.2)
def setL (ls:La) (n:Int) (e:Lc × Int):La:=ls.map fun p=>if p.1=n then (p.1,e) else p
def dropL (ls:La) (n:Int):La:=ls.filter fun p=>decide (p.1≠n)
def Cu (up:Int):K9->La
 | []=>[]
 | b::bs=>(up,(b,0))::Cu (up+1) bs
def Gu (ls:La) (n:Int):PyData:=.tuple [.int n,.tuple (((iY ls n).getD ([],0)).1.map .int),.int ((iY ls n).getD ([],0)).2]
def DB (l:Lc):Lc:=l.mergeSort fun a b=>decide (a<=b)
def uH (a:Ab) (t:Int->Bool):Lc:=((a.ls.map (·.1)).filter (kE a.hs)).filter fun n=>t ((iY a.ls n).getD ([],0)).2
def Dh (hold:Int) (a:Ab) (m:Int):Lc:=(DB (a.hs.map (·.1))).filter fun n=>decide (a.now+m - ((cQ a.hs n).getD ("",0)).2 > hold)
def EN:PyData:=.str "refused"
def fP (hold tries:Int) (a:Ab):nA->PyData × Ab
 | .put b=>(.int a.up,{ a with ls:=a.ls++[(a.up,(b,0))],up:=a.up+1 })
 | .all bs=>(.list ((Cu a.up bs).map fun p=>.int p.1),{ a with ls:=a.ls++Cu a.up bs,up:=a.up+(bs.length:Int) })
 | .take x=>match uH a fun t=>decide (t<tries) with
  | []=>(.none,a)
  | m::_=>(.tuple [.int m,.tuple (((iY a.ls m).getD ([],0)).1.map .int),.int (((iY a.ls m).getD ([],0)).2+1)],{ a with ls:=setL a.ls m (((iY a.ls m).getD ([],0)).1,((iY a.ls m).getD ([],0)).2+1),hs:=a.hs++[(m,(x,a.now))] })
 | .done x m=>if ((cQ a.hs m).map (·.1))=some x then (.none,{ a with ls:=dropL a.ls m,hs:=a.hs.filter fun p=>decide (p.1≠m) }) else (EN,a)
 | .back x m=>if ((cQ a.hs m).map (·.1))=some x then (.none,{ a with hs:=a.hs.filter fun p=>decide (p.1≠m) }) else (EN,a)
 | .wait m=>(.list ((Dh hold a m).map (Gu a.ls)),{ a with now:=a.now+m,hs:=a.hs.filter fun p=>decide (p.1 ∉ Dh hold a m) })
 | .new m=>if m∈uH a (fun t=>decide (t ≥ tries)) then (.none,{ a with ls:=setL a.ls m (((iY a.ls m).getD ([],0)).1,0) }) else (EN,a)
 | .sweep=>(.none,a)
 | .carry=>(.none,a)
def B6 (l:Lc):List.Perm (DB l) l:=List.mergeSort_perm l _
def Fm (l:Lc):(DB l).Pairwise (· <= ·):=by
 have h:=List.pairwise_mergeSort (le:=fun a b:Int=>decide (a<=b)) (fun a b c h1 h2=>by simp only[decide_eq_true_eq]at *; omega) (fun a b=>by simp only[Bool.or_eq_true,decide_eq_true_eq]; omega) l
 exact h.imp fun h=>of_decide_eq_true h
def B5 {l ms:Lc} (p:List.Perm ms l) (h:ms.Pairwise (· <= ·)):ms=DB l:=cY (p.trans (B6 l).symm) h (Fm l)
section
variable {es:Lo}
def qY (es:Lo):(es.map bare).map (·.1)=es.map (·.1):=by
 rw[map_map]
 rfl
def mY (es:Lo) (n:Int):iY (es.map bare) n=(bJ es n).map fun e=>(e.1,e.2.1):=by
 unfold iY bJ
 rw[List.find?_map,Option.map_map,Option.map_map]
 rfl
def By (es:Lo) (n:Int):eE es n=((iY (es.map bare) n).getD ([],0)).2:=by
 rw[mY]
 unfold eE
 cases bJ es n <;> rfl
def uT (es:Lo) (n:Int):lF es n=Gu (es.map bare) n:=by
 unfold lF Gu
 rw[mY]
 cases bJ es n <;> rfl
def Ap {n:Int} {e:Ent} (h:bJ es n=some e) (e':Ent):(eK es n e').map bare=setL (es.map bare) n (e'.1,e'.2.1):=by
 unfold eK setL
 rw[if_pos (pD h),map_map,map_map]
 refine map_congr_left fun p _=>?_
 show bare (if p.1=n then _ else _)=if (bare p).1=n then _ else _
 by_cases z:p.1=n
 ·rw[if_pos z,if_pos (show (bare p).1=n from z)]
  rfl
 ·rw[if_neg z,if_neg (show ¬ (bare p).1=n from z)]
def FD (es:Lo) (n:Int):(gE es n).map bare=dropL (es.map bare) n:=by
 unfold gE dropL
 rw[filter_map]
 rfl
def iE (q:Qs) (t:Int->Int->Bool):(((q.B.es.map (·.1)).filter (kE q.hs)).filter fun n=>t (eE q.B.es n) q.tries)=uH (dP q) fun x=>t x q.tries:=by
 unfold uH dP
 try dsimp only
 rw[qY]
 congr 1
 funext n
 rw[By]
def Bq (s:Int):∀ (bss:K9) (es:Lo) (up:Int),(vZ s es up bss).map bare=es.map bare++Cu up bss
 | [],es,up=>(append_nil _).symm
 | b::bs,es,up=>by
  show (vZ s (es++[(up,(b,0,s))]) (up+1) bs).map bare=_
  rw[Bq s bs _ (up+1),map_append,append_assoc]
  rfl
end
def Step.keepS (st:Step L L' Hc Hn) (S:aG H0 Hc) (fr:∀ b,eT L b->H0 b=none):aG H0 Hn/\∀ b,eT L' b->H0 b=none:=by
 refine⟨fun b o e=>st.frm b o (S b o e) (fun z=>by rw[fr b z]at e; cases e),fun b hb=>?_⟩
 rcases st.grow b hb with z | z
 ·exact fr b z
 ·exact S.free z
def QueueW.keep (h:QueueW A H L q wr) (s:∀ b o,H b=some o->eT L b->H' b=some o) (t:fS H H'):QueueW A H' L q wr:=by
 obtain⟨dx,h1⟩:=h.self
 obtain⟨hk,h2,h3⟩:=h.held
 exact⟨⟨dx,s _ _ h1 (.inl rfl)⟩,h.disk.keep fun b o e hb=>s b o e (.inr (.inr (.inr hb))),h.book.keep (fun b o e hb=>s b o e (.inr (.inr (.inl hb)))) t,⟨hk,s _ _ h2 (.inr (.inl rfl)),h3.t t⟩,h.a_bd,h.a_qu,h.a_hd⟩
structure Kc (A:Ad) (H:Hp) (L0 D0:Addr) (H1:Hp) (L:Pl) (q:Qs):Prop where
 same:aG H H1
 qu:L.qu=L0
 dk:L.dk=D0
 fr:∀ b,eT L b->H b=none
 qw:QueueW A H1 L q false
def Off (H:Hp) (L:Pl) (a:Addr):Prop:=H a=none/\¬ eT L a
section
variable {A:Ad} {H H1 H2:Hp} {L0 D0:Addr} {L L':Pl} {q q':Qs} {n:Nat} {Q:V->Hp->Prop} {E:XK}
def Kc.sames (k:Kc A H L0 D0 H1 L q) (s:aG H1 H2):Kc A H L0 D0 H2 L q:=⟨k.same.trans s,k.qu,k.dk,k.fr,k.qw.same s⟩
def Kc.step (k:Kc A H L0 D0 H1 L q) (st:Step L L' H1 H2) (hq:QueueW A H2 L' q' false):Kc A H L0 D0 H2 L' q':=by
 obtain⟨s,f⟩:=st.keepS k.same k.fr
 exact⟨s,st.qu.trans k.qu,st.dk.trans k.dk,f,hq⟩
def Off.step (f:Off H L a) (st:Step L L' H1 H2) (ha:H1 a=some o):Off H L' a/\H2 a=some o:=⟨⟨f.1,st.not ha f.2⟩,st.frm _ _ ha f.2⟩
def Kc.off (k:Kc A H L0 D0 H1 L q) (ha:H1 a=none):Off H L a:=⟨k.same.free ha,fun z=>by
 obtain⟨o,e⟩:=eY k.qw z
 rw[e]at ha
 cases ha⟩
def Kc.self (k:Kc A H L0 D0 H1 L q):∃ dx,H1 L0=some (.ins A.queue dx (quF L q false)):=by
 obtain⟨dx,h⟩:=k.qw.self
 rw[k.qu]at h
 exact⟨dx,h⟩
end
def K5 (S:Addr->Prop) (H H':Hp):Prop:=∀ b o,H b=some o->¬ S b->H' b=some o
def K5.tup (s:K5 S H H1) (nt:∀ b,S b->∀ xs,H b≠some (.tup xs)):fS H H1:=fun b xs e=>s b _ e fun z=>nt b z xs e
open Classical in
section
variable {A:Ad} {H H1 H2:Hp} {L0 D0:Addr} {L L':Pl} {q q':Qs} {n:Nat} {Q:V->Hp->Prop} {E:XK}
def Kc.buts (k:Kc A H L0 D0 H1 L q) (bt:K5 S H1 H2) (off:∀ b,S b->Off H L b) (nt:∀ b,S b->∀ xs,H1 b≠some (.tup xs)):Kc A H L0 D0 H2 L q:=
 ⟨fun b o e=>bt b o (k.same b o e) (fun z=>by rw[(off b z).1]at e; cases e),k.qu,k.dk,k.fr,k.qw.keep (fun b o e hb=>bt b o e fun z=>(off b z).2 hb) (bt.tup nt)⟩
end
def vN:nA->Prop
 | .put b=>dO b/\b.length<=60
 | .all bs=>1<=bs.length/\bs.length<=9/\∀ b∈bs,dO b/\b.length<=60
 | .take x=>dZ x
 | .done x n=>dZ x/\0<=n/\n<=999999
 | .back x n=>dZ x/\0<=n/\n<=999999
 | .wait m=>1<=m/\m<=99
 | .new n=>0<=n/\n<=999999
 | .sweep=>True
 | .carry=>True
def GA:nA->Bool
 | .sweep=>true
 | .carry=>true
 | _=>false
def FK (q q':Qs):Prop:=q'.tries=q.tries/\q'.hold=q.hold/\q'.most=q.most
def DoR (q:Qs) (d:nA) (q':Qs) (v:V) (H2:Hp):Prop:=FK q q'/\dP q'=(fP q.hold q.tries (dP q) d).2/\(GA d=false->Den H2 (fP q.hold q.tries (dP q) d).1 v)
def Out (L L':Pl) (H1 H2:Hp) (v:V):Prop:=∀ p xs,v = .ref p->H2 p=some (.lst xs)->¬ eT L' p/\(H1 p=none\/eT L p)
def kC (q:Qs):(aZ q).tries=q.tries/\(aZ q).hold=q.hold/\(aZ q).most=q.most:=by
 unfold aZ
 split <;> exact⟨rfl,rfl,rfl⟩
def ED (q:Qs) (bs:Lc) (B':Bk) (hs:Lq):dP { m7 (aZ q) bs B' with hs:=hs }=⟨B'.es.map bare,B'.up,hs,q.now⟩:=by
 show Ab.mk _ _ _ (aZ q).now=_
 rw[(cP q).1]
 rfl
def pV (q:Qs) (bs:Lc) (B':Bk):dP (m7 (aZ q) bs B')=⟨B'.es.map bare,B'.up,q.hs,q.now⟩:=by
 show Ab.mk _ _ (aZ q).hs (aZ q).now=_
 rw[(cP q).1,(cP q).2.1]
 rfl
def Ew (z:Qi q n c) (h:cQ q.hs k=some o):∃ e,bJ q.B.es k=some e:=by
 unfold cQ at h
 cases y:q.hs.find? fun p=>decide (p.1=k) with
 | none=>
  rw[y]at h
  cases h
 | some p=>
  have h1:=List.mem_of_find?_eq_some y
  have h2:=List.find?_some (p:=fun p:Int × (Str × Int)=>decide (p.1=k)) y
  have h2:p.1=k:=of_decide_eq_true h2
  rw[<- h2]
  exact z.hk p h1
def Ij {H2:Hp} {m:Int} {e:Ent} {p:Addr} (h:Den H2 (nZ m e) (.ref p)) (xs:Ln):¬ H2 p=some (.lst xs):=fun g=>by
 unfold nZ at h
 simp only[Den]at h
 obtain⟨a,ys,e,g2,_⟩:=h
 cases e
 rw[g]at g2
 cases g2
def HB {hs:Lq} {m tm:Int} {x:Str} (h:cQ hs m=some (x,tm)):(cQ hs m).map (·.1)=some x:=by rw[h]; rfl
def Ds {hs:Lq} {m:Int} {x:Str} (h:∀ tm,cQ hs m≠some (x,tm)):¬ (cQ hs m).map (·.1)=some x:=by
 intro e
 cases y:cQ hs m with
 | none=>rw[y]at e; cases e
 | some p=>
  rw[y]at e
  injection e with e
  exact h p.2 (by rw[y,<- e])
def Bp:∀ (bss:K9) (up:Int),(Cu up bss).map (·.1)=lP up bss.length
 | [],_=>rfl
 | b::bs,up=>by
  show up::(Cu (up+1) bs).map (·.1)=_
  rw[Bp bs (up+1)]
  unfold lP
  rw[length_cons,range_succ_eq_map,map_cons,map_map]
  congr 1
  ·show up=up+((0:Nat):Int)
   omega
  ·refine map_congr_left fun k _=>?_
   show up+1+(k:Int)=up+((k+1:Nat):Int)
   omega
def Gm {α : Type}:∀ {es:List (Int × α)} {p r:Int × α},(es.map (·.1)).Nodup->p∈es->r∈es->p.1=r.1->p=r
 | [],_,_,_,hp,_,_=>by cases hp
 | x::es,p,r,nd,hp,hr,e=>by
  rw[map_cons,nodup_cons]at nd
  rcases mem_cons.mp hp with h1 | h1
  ·rcases mem_cons.mp hr with h2 | h2
   ·rw[h1,h2]
   ·exact absurd (by rw[<- h1,e]; exact mem_map_of_mem h2) nd.1
  ·rcases mem_cons.mp hr with h2 | h2
   ·exact absurd (by rw[<- h2,<- e]; exact mem_map_of_mem h1) nd.1
   ·exact Gm nd.2 h1 h2 e
def Fp {es:Lo} (so:(es.map (·.1)).Pairwise (· < ·)) {n s:Int} {e:Ent} (h:bJ es n=some e):(eK es n (e.1,e.2.1,s)).map bare=es.map bare:=by
 unfold eK
 rw[if_pos (pD h),map_map]
 refine map_congr_left fun p hp=>?_
 show bare (if p.1=n then _ else _)=bare p
 by_cases y:p.1=n
 ·have e1:p.2=e:=by
   have hm:=BC h
   have nd:(es.map (·.1)).Nodup:=so.imp fun a b=>by omega
   exact congrArg Prod.snd (Gm nd hp hm y)
  rw[if_pos y]
  unfold bare
  rw[e1]
 ·rw[if_neg y]
def Er (h:m∈qH q ms):m∈ms/\cQ q.hs m=none/\eE q.B.es m<q.tries:=by
 obtain⟨h1,h2⟩:=mem_filter.mp h
 obtain⟨h3,h4⟩:=mem_filter.mp h1
 exact⟨h3,Option.isNone_iff_eq_none.mp h4,of_decide_eq_true h2⟩
section
variable {A:Ad} {H H1:Hp} {L0 D0:Addr} {L:Pl} {q:Qs} {n c:Nat} {Q:V->Hp->Prop} {E:XK}
def wA (k:Kc A H L0 D0 H1 L q) (z:Qi q n c) (hn:n<=60000) (hc:c<=48) (go:∀ v L' q' H2,Step L L' H1 H2->Kc A H L0 D0 H2 L' q'->Qi q' (n+500) c->FK q q'/\dP q'=dP q->(∀ p,v ≠ .ref p)->Q v H2):gN A [.ref L0] H1 Q E:=by
 have cn:=z.eo.cnt
 have so:(q.B.es.map (·.1)).Pairwise (· <= ·):=z.eo.so.imp le_of_lt
 rw[<- k.qu]
 refine⟨L,q,fun q'=>Qi q' n c/\FK q q'/\dP q'=dP q,rfl,k.qw,⟨z,⟨rfl,rfl,rfl⟩,rfl⟩,fun q' zz=>?_,fun L' q' H2 st hq zz _=>?_⟩
 ·have z':=zz.1
  have:=z'.eo.cnt
  refine⟨⟨by omega,z'.eo.so.imp le_of_lt⟩,fun lt _=>?_⟩
  obtain⟨a1,a2,a3,a4⟩:=z'.drop (by omega) lt
  exact⟨a1,a2,a3,a4,zz.2⟩
 ·exact go _ L' _ H2 st (k.step st hq) (zz.1.mono (by omega) (le_refl _)) zz.2 fun p e=>by cases e
def wB (k:Kc A H L0 D0 H1 L q) (z:Qi q n c) (hn:n<=60000) (hc:c<=48) (go:∀ v L' q' H2,Step L L' H1 H2->Kc A H L0 D0 H2 L' q'->Qi q' (n+500) c->FK q q'/\dP q'=dP q->(∀ p,v ≠ .ref p)->Q v H2):gP A [.ref L0] H1 Q E:=by
 have cn:=z.eo.cnt
 have so:(q.B.es.map (·.1)).Pairwise (· <= ·):=z.eo.so.imp le_of_lt
 rw[<- k.qu]
 have hll:((q.B.es.map (·.1)).filter fun n=>decide (rS q.B.es n=q.first)).length<=9 * c:=by
  have:=length_filter_le (fun n=>decide (rS q.B.es n=q.first)) (q.B.es.map (·.1))
  rw[length_map]at this
  omega
 obtain⟨kk,ek,_⟩:=z.sz.keys
 refine⟨L,q,fun i q'=>Qi q' (n+i) c/\q'.first=q.first/\q.last<=q'.last/\q'.B.es.map (·.1)=q.B.es.map (·.1)/\FK q q'/\dP q'=dP q,((q.B.es.map (·.1)).filter fun n=>decide (rS q.B.es n=q.first)),rfl,k.qw,⟨by omega,so⟩,fun _=>?_,fun ne=>⟨fun ms perm pw=>?_,⟨z,rfl,Int.le_refl _,rfl,⟨rfl,rfl,rfl⟩,rfl⟩,fun i m q' hi ⟨z',e1,e2,e3,e4,e5⟩=>?_,fun q' ⟨z',e1,e2,e3,e4,e5⟩=>?_⟩⟩
 ·exact go _ L q H1 (aG.step (aG.refl _)) k (z.mono (by omega) (le_refl _)) ⟨⟨rfl,rfl,rfl⟩,rfl⟩ fun p e=>by cases e
 ·have em:ms=q.B.es.map (·.1):=cY perm pw so
  rw[em]
 ·obtain⟨hi',_⟩:=List.getElem?_eq_some_iff.mp hi
  obtain⟨e,el⟩:=kD (es:=q'.B.es) (n:=m) (by rw[e3]; exact(mem_filter.mp (mem_of_getElem? hi)).1)
  obtain⟨rok,wok,hf,z2⟩:=z'.car (by omega) (by omega) el
  obtain⟨nf,nl⟩:=Cf q'
  refine⟨e,_,el,rok,wok,hf,z2,nf.trans e1,Int.le_trans e2 nl,?_,?_,?_⟩
  ·show (eK q'.B.es m (e.1,e.2.1,(aZ q').last)).map (·.1)=_
   rw[uD el]
   exact e3
  ·have y:=kC q'
   exact⟨y.1.trans e4.1,y.2.1.trans e4.2.1,y.2.2.trans e4.2.2⟩
  ·refine(pV q' _ _).trans (Eq.trans ?_ e5)
   show Ab.mk ((eK q'.B.es m (e.1,e.2.1,(aZ q').last)).map bare) _ _ _=dP q'
   rw[Fp z'.eo.so el]
   rfl
 ·obtain⟨a,b,c',z2⟩:=z'.drop (by omega) (by omega)
  exact⟨a,b,c',fun L' H2 st hq=>go _ L' _ H2 st (k.step st hq) (z2.mono (by omega) (le_refl _)) ⟨e4,e5⟩ fun p e=>by cases e⟩
def FS (k:Kc A H L0 D0 H1 L q) (z:Qi q n c) (hn:n<=60000) (hc:c<=48) {d:nA} (ok:vN d) {args:Ln} (da:aR H1 (dF d) args)
  (go:∀ v L' q' H2,Step L L' H1 H2->Kc A H L0 D0 H2 L' q'->Qi q' (n+500) (c+1)->DoR q d q' v H2->Out L L' H1 H2 v->Q v H2) (E':XK) (hE:∀ a H',a∈[A.notHeld,A.badNumber,A.badBody]->Q (.str "refused") H'->E' (.ref a) none H'):Jz A d (.ref L0::args) H1 Q E':=by
 have cn:=z.eo.cnt
 have up:=z.eo.up0
 have hl:=z.hl
 have so:(q.B.es.map (·.1)).Pairwise (· <= ·):=z.eo.so.imp le_of_lt
 rw[<- k.qu]
 have nost:∀ {H2:Hp} {v:V},(∀ p,v ≠ .ref p)->∀ L',Out L L' H1 H2 v:=fun nr _ p _ e=>absurd e (nr p)
 have ref:∀ {a:Addr},a∈[A.notHeld,A.badNumber,A.badBody]->fP q.hold q.tries (dP q) d=(EN,dP q)->∀ H',aG H1 H'->E' (.ref a) none H':=fun ha nt H' s=>hE _ H' ha (go _ L q H' (aG.step s) (k.sames s) (z.mono (by omega) (by omega)) ⟨⟨rfl,rfl,rfl⟩,by rw[nt],fun _=>by rw[nt]; simp only[EN,Den]⟩ (nost (fun p e=>by cases e) _))
 cases d with
 | put b=>
  obtain⟨bok,bl⟩:=ok
  simp only[dF,aR]at da
  obtain⟨vb,r,rfl,db,rfl⟩:=da
  obtain⟨B',hf,z'⟩:=z.put (by omega) (by omega) bok bl
  have gd:mL (.tuple (b.map .int))=true:=zA (k:="put") (n:=0) (.inl rfl) (by decide) (by decide) bok bl
  refine⟨L,q,vb,.tuple (b.map .int),rfl,k.qw,db,(fun bs e=>by injection e with e; rw[<- e,length_map]; omega),(fun y=>by rw[gd]at y; cases y),fun body e hb hl=>?_⟩
  have eb:body=b:=by
   have:=congrArg bN e
   rw[fQ,fQ]at this
   exact this.symm
  subst eb
  refine⟨z.wok (by omega) (by omega) (by omega),by omega,B',hf,fun L' H2 st hq=>go _ L' _ H2 st (k.step st hq) (z'.mono (by omega) (by omega)) ⟨kC q,?_,fun _=>by simp only[fP,Den]; rfl⟩ (nost (fun p e=>by cases e) _)⟩
  have e:=Option.some.inj (hf.symm.trans (by rw[z.bk]; exact Dt (B:=⟨q.B.es,q.B.up,[]⟩) _ body rfl (mG z.eo) rfl))
  subst e
  refine(pV q _ _).trans ?_
  simp only[fP,dP,map_append]
  rfl
 | all bs=>
  obtain⟨b1,b9,bok⟩:=ok
  simp only[dF,aR]at da
  obtain⟨vb,r,rfl,db,rfl⟩:=da
  obtain⟨B',hf,z'⟩:=z.all (by omega) (by omega) b9 bok
  have inj:∀ {bss:K9},PyData.tuple (dX bs) = .tuple (dX bss)->bss=bs:=fun {bss} e=>by
   injection e with e
   have f:∀ l:K9,(dX l).map bN=l:=fun l=>by
    unfold dX
    rw[map_map]
    have:(bN ∘ fun b:Lc=>PyData.tuple (b.map .int))=id:=funext fun b=>fQ b
    rw[this,List.map_id]
   rw[<- f bss,<- e,f]
  have gd:jH (.tuple (dX bs))=true:=by
   have hl:(dX bs).length=bs.length:=length_map _
   have ha:(dX bs).all mL=true:=by
    unfold dX
    rw[all_map,all_eq_true]
    exact fun b hb=>zA (k:="put") (n:=0) (.inl rfl) (by decide) (by decide) (bok b hb).1 (bok b hb).2
   simp [jH,hl,ha]
   omega
  refine⟨L,q,vb,.tuple (dX bs),rfl,k.qw,db,(fun ds e=>?_),(fun y=>by rw[gd]at y; cases y),fun bss e h1 h9 hb=>?_⟩
  ·injection e with e
   rw[<- e]
   refine⟨by unfold dX; rw[length_map]; omega,fun x hx=>?_⟩
   unfold dX at hx
   obtain⟨b,hb,rfl⟩:=mem_map.mp hx
   intro bs' e'
   injection e' with e'
   rw[<- e',length_map]
   have:=(bok b hb).2
   omega
  ·have:=inj e
   subst this
   refine⟨z.wok (by omega) (by omega) (by omega),by omega,B',hf,fun p L' H2 st hq fp fn gp=>go _ L' _ H2 st (k.step st hq) (z'.mono (by omega) (by omega)) ⟨kC q,?_,fun _=>?_⟩ fun p' _ e _=>by cases e; exact⟨fp,fn⟩⟩
   ·have e:=Option.some.inj (hf.symm.trans (by rw[z.bk]; exact BJ _ (mG z.eo)))
    subst e
    refine(pV q _ _).trans ?_
    simp only[fP,dP]
    rw[Bq]
   ·simp only[fP]
    rw[show (Cu (dP q).up bss).map (fun p=>PyData.int p.1)=(lP q.B.up bss.length).map .int by rw[<- Bp,map_map]; rfl]
    simp only[Den]
    exact⟨p,_,rfl,gp,bQ.mpr rfl⟩
 | take x=>
  simp only[dF,aR,Den]at da
  obtain⟨vb,r,rfl,rfl,rfl⟩:=da
  refine⟨L,q,x,q.B.es.map (·.1),rfl,k.qw,⟨by omega,so⟩,by omega,ok.1,ok.2,List.Perm.refl _,so,fun e H' s=>?_,fun m r er=>?_⟩
  ·have e':uH (dP q) (fun t=>decide (t<q.tries))=[]:=(iE q ltB).symm.trans e
   refine go _ L q H' (aG.step s) (k.sames s) (z.mono (by omega) (by omega)) ⟨⟨rfl,rfl,rfl⟩,?_,fun _=>?_⟩ (nost (fun p e=>by cases e) _) <;> simp only[fP,e',Den]
  ·obtain⟨h1,h2,h3⟩:=Er (q:=q) (ms:=q.B.es.map (·.1)) (m:=m) (by rw[er]; exact mem_cons_self)
   obtain⟨e,el⟩:=kD h1
   have ht:e.2.1<q.tries:=by
    unfold eE at h3
    rw[el]at h3
    exact h3
   obtain⟨B',hf,eB,z'⟩:=z.out (by omega) (by omega) el ht h2 x
   obtain⟨a1,a2,_⟩:=z.eo.ent m e el
   have hl:bJ B'.es m=some (e.1,e.2.1+1,e.2.2):=by rw[eB,pB el,if_pos rfl]
   have e':uH (dP q) (fun t=>decide (t<q.tries))=m::r:=(iE q ltB).symm.trans er
   have ll:iY (dP q).ls m=some (e.1,e.2.1):=by
    show iY (q.B.es.map bare) m=_
    rw[mY,el]
    rfl
   refine⟨z.wok (by omega) (by omega) (by omega),a1,by omega,B',_,hf,hl,fun p L' H2 st hq dp=>go _ L' _ H2 st (k.step st hq) (z'.mono (by omega) (by omega)) ⟨kC q,?_,fun _=>?_⟩ fun p' _ e g=>by cases e; exact absurd g (Ij dp _)⟩
   ·refine(ED q _ B' _).trans ?_
    simp only[fP,e',ll,getD_some]
    have e1:=Option.some.inj (hf.symm.trans (by rw[z.bk]; exact EB _ el))
    rw[e1,Ap el]
    rfl
   ·simp only[fP,e',ll,getD_some]
    exact dp
 | done x m=>
  obtain⟨ho,m0,m9⟩:=ok
  simp only[dF,aR,Den]at da
  obtain⟨_,_,rfl,rfl,_,_,rfl,rfl,rfl⟩:=da
  refine⟨L,q,x,m,rfl,k.qw,ho,m0,m9,fun tm el=>?_,fun nx H' s=>ref mem_cons_self (by simp only[fP]; exact if_neg (Ds nx)) H' s⟩
  obtain⟨e,ee⟩:=Ew z el
  obtain⟨B',hf,z'⟩:=z.done (by omega) (by omega) ee
  refine⟨z.wok (by omega) (by omega) (by omega),B',hf,fun L' H2 st hq=>go _ L' _ H2 st (k.step st hq) (z'.mono (by omega) (by omega)) ⟨kC q,?_,fun _=>?_⟩ (nost (fun p e=>by cases e) _)⟩
  ·have e1:=Option.some.inj (hf.symm.trans (by rw[z.bk]; exact Bm _ ee))
   subst e1
   refine(ED q _ _ _).trans ?_
   simp only[fP]
   rw[if_pos ‹47›,FD]
   rfl
  ·simp only[fP]
   rw[if_pos ‹47›]
   simp only[Den]
 | back x m=>
  obtain⟨ho,m0,m9⟩:=ok
  simp only[dF,aR,Den]at da
  obtain⟨_,_,rfl,rfl,_,_,rfl,rfl,rfl⟩:=da
  refine⟨L,q,x,m,rfl,k.qw,ho,m0,m9,fun tm el H2 st hq=>?_,fun nx H' s=>ref mem_cons_self (by simp only[fP]; exact if_neg (Ds nx)) H' s⟩
  refine go _ L _ H2 st (k.step st hq) ((z.held (fun p=>decide (p.1≠m)) q.now).mono (by omega) (by omega)) ⟨⟨rfl,rfl,rfl⟩,?_,fun _=>?_⟩ (nost (fun p e=>by cases e) _)
  ·simp only[fP]
   rw[if_pos ‹47›]
   rfl
  ·simp only[fP]
   rw[if_pos ‹47›]
   simp only[Den]
 | wait m=>
  simp only[dF,aR,Den]at da
  obtain⟨_,_,rfl,rfl,rfl⟩:=da
  refine⟨L,q,m,rfl,k.qw,ok.1,ok.2,by omega,z.hn,z.hk,fun ms perm pw p H2 st hq fp dp=>?_⟩
  have em:=B5 perm pw
  subst em
  refine go _ L _ H2 st (k.step st hq) ((z.held _ _).mono (by omega) (by omega)) ⟨⟨rfl,rfl,rfl⟩,rfl,fun _=>?_⟩ fun p' _ e _=>by cases e; exact⟨(k.off fp).2,.inl fp⟩
  simp only[fP]
  rw[show (Dh q.hold (dP q) m).map (Gu (dP q).ls)=(Dh q.hold (dP q) m).map (lF q.B.es) from map_congr_left fun n _=>(uT _ n).symm]
  exact dp
 | new m=>
  simp only[dF,aR,Den]at da
  obtain⟨_,_,rfl,rfl,rfl⟩:=da
  refine⟨L,q,.int m,.int m,q.B.es.map (·.1),rfl,k.qw,⟨by omega,so⟩,by simp only[Den],List.Perm.refl _,so,fun nx H' s=>ref (mem_cons_of_mem _ mem_cons_self) (by simp only[fP]; exact if_neg fun hm=>nx m (show m∈BV q _ from Eq.mpr (congrArg (m ∈ ·) (iE q geB)) hm) (by simp only[bM,decide_eq_true_eq,and_eq_true]; exact ok) rfl) H' s,fun m' e hm m0 m9=>?_⟩
  cases e
  obtain⟨e,el⟩:=kD (mem_filter.mp (mem_filter.mp hm).1).1
  obtain⟨B',hf,z'⟩:=z.new (by omega) (by omega) el
  have hm':m∈uH (dP q) (fun t=>decide (t ≥ q.tries)):=(iE q geB) ▸ hm
  refine⟨z.wok (by omega) (by omega) (by omega),B',hf,fun L' H2 st hq=>go _ L' _ H2 st (k.step st hq) (z'.mono (by omega) (by omega)) ⟨kC q,?_,fun _=>?_⟩ (nost (fun p e=>by cases e) _)⟩
  ·have e1:=Option.some.inj (hf.symm.trans (by rw[z.bk]; exact EC _ el))
   subst e1
   refine(pV q _ _).trans ?_
   simp only[fP]
   have ll:iY (dP q).ls m=some (e.1,e.2.1):=by
    show iY (q.B.es.map bare) m=_
    rw[mY,el]
    rfl
   rw[if_pos hm',Ap el,ll]
   rfl
  ·simp only[fP]
   rw[if_pos hm']
   simp only[Den]
 | sweep=>
  simp only[dF,aR]at da
  subst da
  exact k.qu.symm ▸ wA k z hn hc fun v L' q' H2 st k' z' e nr=>go v L' q' H2 st k' (z'.mono (le_refl _) (by omega)) ⟨e.1,e.2,fun y=>by cases y⟩ (nost nr _)
 | carry=>
  simp only[dF,aR]at da
  subst da
  exact k.qu.symm ▸ wB k z hn hc fun v L' q' H2 st k' z' e nr=>go v L' q' H2 st k' (z'.mono (le_refl _) (by omega)) ⟨e.1,e.2,fun y=>by cases y⟩ (nost nr _)
def FR (k:Kc A H L0 D0 H1 L q) (z:Qi q n c) (hn:n<=60000) (hc:c<=48) (ok:vN d) (gt:H1 t=some (.tup (.str (dY d)::args))) (da:aR H1 (dF d) args)
  (go:∀ v L' q' H2,Step L L' H1 H2->Kc A H L0 D0 H2 L' q'->Qi q' (n+500) (c+1)->DoR q d q' v H2->Out L L' H1 H2 v->Q v H2):DA A [.ref L0,.ref t] H1 Q E:=
 ⟨L,q,t,args,d,by rw[k.qu],k.qw,gt,da,fun E' hE=>k.qu.symm ▸ FS k z hn hc ok da go E' hE⟩
end
abbrev JK:Stmt:=top 70
abbrev F6:Stmt:=top 69
abbrev Fw:Stmt:=top 71
abbrev tV:Stmt:=top 84
abbrev AZ:Stmt:=top 85
def nC (x k:Int):Int:=((x * 1103515245+7919 * k+12345) % 2147483647) ^ 5 % 2147483647
def GG {a b:Int} (h:0<=a) (h2:a<2147483647):a.natAbs<2 ^ 64:=by omega
inductive yX (K:K6) (vs:Ln) (H:Hp) (Q:VK) (x_3:XK):Prop
 | mk:∀ (a:Addr) (ns:Lc) (k:Int),vs=[.ref a,.int k]->0<=k->SqL K H a (ns.map V.int)->Q (.int (ns.getD k.toNat 0)) H->yX K vs H Q x_3
inductive yT (vs:Ln) (H:Hp) (Q:VK) (x_3:XK):Prop
 | mk:∀ (x k:Int),vs=[.int x,.int k]->Q (.int (nC x k)) H->yT vs H Q x_3
def Gp (c p m:Int):Int:=(c * 48271 % p) ^ 3 % p % m
inductive B4 (vs:Ln) (H:Hp) (Q:VK) (x_3:XK):Prop
 | mk:∀ (c p m:Int),vs=[.int c,.int p,.int m]->0<p->p<2147483647->0<m->Q (.int (Gp c p m)) H->B4 vs H Q x_3
section
variable {P:Program} {w:World} {K:K6} {mg:K8} {base:Heap} {ab0 aa1:Addr} {A:Ad}
def Ic (F:Fun K "_law_cell" "_law_cell" F6 f fd) (T:‹3›):‹15› 1 f fd ["_law_script","_law_k"] (yX K):=by
 refine F.okY ["_law_script","_law_k"] fun cdv A' outer s H vs Q E hr nD0 h=>?_
 obtain⟨a,ns,k,rfl,k0,hs,q⟩:=h
 refine⟨_,aA (bA (aQ uM (pv 1) ‹30› (bD _))
   (aC (aP (cD (cH K) (pv 0) (pv 1) (fun _ _=>rfl))))
   aO)
  (aC (aP aI)),?_⟩
 refine⟨_,rfl,_,rfl,a,_,rfl,.inl hs,_,_,rfl,rfl,_,rfl,?_⟩
 rw[length_map]
 show if decide (k<(ns.length:Int))=true then _ else _
 by_cases hk:k<(ns.length:Int)
 ·rw[if_pos (decide_eq_true hk)]
  have hl:k.toNat<ns.length:=by omega
  have eg:ns.getD k.toNat 0=ns[k.toNat]:=by
   rw[getD_eq_getElem?_getD,getElem?_eq_getElem hl]
   rfl
  rw[eg]at q
  exact⟨_,rfl,_,rfl,a,_,_,_,rfl,rfl,hs,aW k0 (by rw[getElem?_map,getElem?_eq_getElem hl]; rfl),q⟩
 ·rw[if_neg (by simpa using hk)]
  have eg:ns.getD k.toNat 0=0:=by
   rw[getD_eq_getElem?_getD,getElem?_eq_none (by omega)]
   rfl
  rw[eg]at q
  exact q
def IU {f:Addr} {fd:Lh} (F:Fun K "_law_seed" "_law_seed" Fw f fd):‹15› 1 f fd ["_law_seed_here","_law_k"] yT:=by
 refine F.okY ["_law_seed_here","_law_k"] fun cdv A' outer s H vs Q E hr nD0 h=>?_
 obtain⟨x,k,rfl,q⟩:=h
 refine⟨_,aC (aP (bB dN (bB GW (bB dN (bB cO (bB cO (bB l9 (pv 0) aI) (bB l9 aI (pv 1))) aI) aI) aI) aI)),?_⟩
 have e1:=emod_nonneg (x * 1103515245+7919 * k+12345) (show (2147483647:Int)≠0 by decide)
 have e2:=emod_lt_of_pos (x * 1103515245+7919 * k+12345) (show (0:Int)<2147483647 by decide)
 refine⟨_,rfl,_,_,rfl,rfl,.inr ⟨by decide,by decide⟩,_,rfl,_,_,rfl,rfl,.inl ⟨by decide,by decide⟩,_,_,rfl,rfl,_,_,rfl,rfl,_,_,rfl,rfl,(by show (0:Int)<2147483647; decide),_,_,rfl,rfl,⟨by decide,by decide,GG (b:=0) e1 e2⟩,_,_,rfl,rfl,(by show (0:Int)<2147483647; decide),?_⟩
 exact q
def KN {f:Addr} {fd:Lh} (F:Fun K "_law_mix" "_law_mix" JK f fd):‹15› 1 f fd ["_law_cell_here","_law_prime","_law_many"] B4:=by
 refine F.okY ["_law_cell_here","_law_prime","_law_many"] fun cdv A' outer s H vs Q E hr nD0 h=>?_
 obtain⟨c,p,m,rfl,p0,p9,m0,q⟩:=h
 refine⟨_,aC (aP (bB dN (bB dN (bB GW (bB dN (bB l9 (pv 0) aI) (pv 1)) aI) (pv 1)) (pv 2))),?_⟩
 have e1:=emod_nonneg (c * 48271) (show p≠0 by omega)
 have e2:=emod_lt_of_pos (c * 48271) p0
 refine⟨_,rfl,_,_,rfl,rfl,.inr ⟨by decide,by decide⟩,_,rfl,_,_,rfl,rfl,p0,_,_,rfl,rfl,⟨by decide,by decide,GG (b:=0) e1 (by omega)⟩,_,rfl,_,_,rfl,rfl,p0,_,rfl,_,_,rfl,rfl,m0,q⟩
end
def at2 (h0:0<=k) (h2:k<2):∃ m,atI [V.int a,V.int b] k=some (.int m)/\(m=a\/m=b):=by
 by_cases z:k=0
 ·subst z
  exact⟨a,rfl,.inl rfl⟩
 ·have:k=1:=by omega
  subst this
  exact⟨b,rfl,.inr rfl⟩
def at3 (h0:0<=k) (h3:k<3):∃ m,atI [V.int a,V.int b,V.int c] k=some (.int m)/\(m=a\/m=b\/m=c):=by
 by_cases z:k=0
 ·subst z
  exact⟨a,rfl,.inl rfl⟩
 ·by_cases y:k=1
  ·subst y
   exact⟨b,rfl,.inr (.inl rfl)⟩
  ·have:k=2:=by omega
   subst this
   exact⟨c,rfl,.inr (.inr rfl)⟩
inductive lU (vs:Ln) (H:Hp) (Q:VK) (x_3:XK):Prop
 | mk:∀ c:Int,vs=[.int c]->(∀ (m h t:Int) (p:Addr) (H':Hp),1<=m->m<=2000->0<=h->h<=99->1<=t->t<=9->aG H H'->H' p=some (.tup [.int m,.int h,.int t])->Q (.ref p) H')->lU vs H Q x_3
inductive qB (A:Ad) (vs:Ln) (H:Hp) (Q:VK) (x_3:XK):Prop
 | mk:∀ (dk df p:Addr) (kvs:Ll) (D:Dk) (m h t:Int),vs=[.ref dk,.ref p]->H p=some (.tup [.int m,.int h,.int t])->oQ (.int m) (.int h) (.int t)=true->DiskAt A.disk H dk df kvs D->qV D->(∀ L' d H',L'.dk=dk->(∀ b o,H b=some o->¬ own dk df kvs b->H' b=some o)->(∀ b,eT L' b->own dk df kvs b\/H b=none)->QueueW A H' L' (iX m h t d) false->Q (.ref L'.qu) H')->qB A vs H Q x_3
section
variable {P:Program} {w:World} {K:K6} {mg:K8} {base:Heap} {A:Ad}
def A0 (F:Fun K "_law_settings" "_law_settings" tV f fd) (T:‹3›) (ab4:‹10›):‹15› 2 f fd ["_law_cell_here"] lU:=by
 refine F.okY ["_law_cell_here","_law_seed_here","_law_most"] fun cdv A' outer s H vs Q E hr nD0 h=>?_
 obtain⟨c,rfl,qq⟩:=h
 refine⟨_,aA (a7 (i:=1) nD0 ⋯ ⋯ (a9 ab4 ‹19› aX (aE (pv 0) ‹34›)))
  (aA (a7 (i:=2) nD0 ⋯ ⋯ (cD (cH K) (cB (bR (bB cO aI ‹27›) (bR (bB cO aI ‹27›) ‹34›))) ‹27› (fun _ _=>rfl)))
  (aC (aP (bE (aE (pv 2) (bR (bB dN ‹31› (cD (cH K) (cB (aM aI ‹34›)) (jZ yF ⋯ T.ba3 Cs (uL (fZ fM ‹27› aI (bD _)) aH)) (fun _ _=>rfl))) (bR (bB cO aI (bB dN ‹31› ‹82›)) aH))))))),?_⟩
 refine⟨_,rfl,c,0,rfl,?_⟩
 generalize nC c 0=x
 refine⟨_,rfl,_,_,rfl,rfl,⟨by decide,by decide⟩,_,_,rfl,rfl,(by show (0:Int)<60; decide),_,_,rfl,rfl,_,rfl,_,_,rfl,rfl,⟨by decide,by decide⟩,_,_,rfl,rfl,(by show (0:Int)<200; decide),_,_,rfl,rfl,aJ,fun p1 hp1=>?_⟩
 obtain⟨m,e1,hm⟩:=at3 (a:=1+x / 3 % 60) (b:=1+x / 3 % 200) (c:=2000) (k:=x / 7 % 3) (by omega) (by omega)
 refine⟨_,rfl,_,_,rfl,rfl,⟨by decide,by decide⟩,_,_,rfl,rfl,(by show (0:Int)<3; decide),p1,_,_,.int m,rfl,rfl,SqL.of aB,e1,?_⟩
 have S1:=aD (o:=.lst [.int (1+x / 3 % 60),.int (1+x / 3 % 200),.int 2000]) hp1
 generalize upd H p1 (.lst [.int (1+x / 3 % 60),.int (1+x / 3 % 200),.int 2000])=H1 at S1 ⊢
 refine⟨_,rfl,_,rfl,_,_,rfl,rfl,⟨by decide,by decide⟩,aJ,fun p2 hp2=>?_⟩
 refine⟨_,rfl,_,_,rfl,rfl,⟨by decide,by decide⟩,_,_,rfl,rfl,(by show (0:Int)<4; decide),rfl,.inr ⟨_,rfl,?_⟩⟩
 obtain⟨h,e2,hh⟩:=at2 (a:=8) (b:=100) (k:=if decide (V.int (x / 19 % 4)=V.int 0)=true then 1 else 0) (by split <;> omega) (by split <;> omega)
 refine⟨p2,_,_,.int h,rfl,rfl,SqL.of aB,e2,_,_,rfl,rfl,(by rcases hh with z | z <;> rw[z] <;> decide),?_⟩
 have S2:=aD (o:=.lst [.int 8,.int 100]) hp2
 generalize upd H1 p2 (.lst [.int 8,.int 100])=H2 at S2 ⊢
 refine⟨_,rfl,_,_,rfl,rfl,⟨by decide,by decide⟩,aJ,fun p3 hp3=>?_⟩
 obtain⟨t,e3,ht⟩:=at2 (a:=9) (b:=3) (k:=x / 17 % 2) (by omega) (by omega)
 refine⟨_,rfl,_,_,rfl,rfl,⟨by decide,by decide⟩,_,_,rfl,rfl,(by show (0:Int)<2; decide),p3,_,_,.int t,rfl,rfl,SqL.of aB,e3,_,_,rfl,rfl,(by rcases ht with z | z <;> rw[z] <;> decide),_,_,rfl,rfl,aJ,fun p4 hp4=>?_⟩
 have S3:=aD (o:=.lst [.int 9,.int 3]) hp3
 generalize upd H2 p3 (.lst [.int 9,.int 3])=H3 at S3 hp4 ⊢
 have b1:1<=m/\m<=2000:=by
  have h1:=emod_nonneg (x / 3) (show (60:Int)≠0 by decide)
  have h2:=emod_lt_of_pos (x / 3) (show (0:Int)<60 by decide)
  have h3:=emod_nonneg (x / 3) (show (200:Int)≠0 by decide)
  have h4:=emod_lt_of_pos (x / 3) (show (0:Int)<200 by decide)
  omega
 have b2:0<=x / 11 % h/\x / 11 % h<=99:=by
  have h1:=emod_nonneg (x / 11) (show h≠0 by omega)
  have h2:=emod_lt_of_pos (x / 11) (show 0<h by omega)
  omega
 have b3:1<=1+x / 13 % t/\1+x / 13 % t<=9:=by
  have h1:=emod_nonneg (x / 13) (show t≠0 by omega)
  have h2:=emod_lt_of_pos (x / 13) (show 0<t by omega)
  omega
 exact qq m (x / 11 % h) (1+x / 13 % t) p4 _ b1.1 b1.2 b2.1 b2.2 b3.1 b3.2 (S1.trans (S2.trans (S3.trans (aD hp4)))) aB
def Ef (F:Fun K "_law_queue" "_law_queue" AZ f fd) (bd5:‹18› "Queue" A.queue 8 ["self","disk","most","hold","tries"] (tJ A)):‹15› 10 f fd ["_law_disk","_law_settings_here"] (qB A):=by
 refine F.okY ["_law_disk","_law_settings_here"] fun cdv A' outer s H vs Q E hr nD0 h=>?_
 obtain⟨dk,df,p,kvs,D,m,h,t,rfl,gp,hst,hD,he,qq⟩:=h
 refine⟨_,aC (aP (GQ bd5 ‹19› aX (aE (pv 0) (aN ‹21› ‹94›)))),?_⟩
 refine⟨_,rfl,_,rfl,p,_,_,.int m,rfl,rfl,SqT.of gp,aW (by decide) rfl,_,rfl,p,_,_,.int h,rfl,rfl,SqT.of gp,aW (by decide) rfl,_,rfl,p,_,_,.int t,rfl,rfl,SqT.of gp,aW (by decide) rfl,fun qu dx hqu hdx ndx=>?_⟩
 have fr:∀ {c o},H c=some o->upd (upd H dx (.own qu)) qu (.ins A.queue dx []) c=some o:=fun {c o} e=>by
  rw[aF (bP e hqu),aF (bP e hdx)]
  exact e
 have nqu:¬ own dk df kvs qu:=fun z=>by
  obtain⟨o,e⟩:=qL hD z
  rw[hqu]at e
  cases e
 have back:∀ {c},upd (upd H dx (.own qu)) qu (.ins A.queue dx []) c=none->H c=none:=fun {c} e=>by
  cases e2:H c with
  | none=>rfl
  | some o=>rw[fr e2]at e; cases e
 refine⟨qu,dx,dk,df,kvs,D,m,h,t,rfl,aB,hD.keep (fun b o e _=>fr e),nqu,hst,he,fun L' d H' eq ed f g hq=>⟨rfl,?_⟩⟩
 subst eq
 refine qq L' d H' ed (fun b o e nb=>f b o (fr e) (bP e hqu) nb) (fun b hb=>?_) hq
 rcases g b hb with z | z | z
 ·rw[z]
  exact .inr hqu
 ·exact .inl z
 ·exact .inr (back z)
end
abbrev Fy:Stmt:=top 72
def Au (x m:Int):Int:=x / 97 % m
inductive yU (vs:Ln) (H:Hp) (Q:VK) (x_3:XK):Prop
 | mk:∀ (x m:Int),vs=[.int x,.int m]->0<m->Q (.int (Au x m)) H->yU vs H Q x_3
section
variable {P:Program} {w:World} {K:K6} {mg:K8} {base:Heap} {A:Ad}
def IW (F:Fun K "_law_pick" "_law_pick" Fy f fd):‹15› 1 f fd ["_law_seed_here","_law_many"] yU:=by
 refine F.okY ["_law_seed_here","_law_many"] fun cdv A' outer s H vs Q E hr nD0 h=>?_
 obtain⟨x,m,rfl,m0,q⟩:=h
 refine⟨_,aC (aP (bB dN (bB mW (pv 0) aI) (pv 1))),?_⟩
 exact⟨_,rfl,_,_,rfl,rfl,⟨by decide,by decide⟩,_,rfl,_,_,rfl,rfl,m0,q⟩
end
def wsK (ws:List (Int × Int)):Ll:=ws.map fun p=>(Sum.inl p.1,V.int p.2)
def pE (ws:List (Int × Int)) (k:Int):Option Int:=(ws.find? fun p=>decide (p.1=k)).map (·.2)
def rV (ws:List (Int × Int)) (k s:Int):List (Int × Int):=if (ws.any fun p=>decide (p.1=k))=true then ws.map (fun p=>if p.1=k then (p.1,s) else p) else ws++[(k,s)]
def Do (a b:Int):decide ((Sum.inl a:Key)=Sum.inl b)=decide (a=b):=by
 by_cases h:a=b
 ·rw[decide_eq_true h,decide_eq_true (by rw[h])]
 ·rw[decide_eq_false h,decide_eq_false (fun z=>h (Sum.inl.inj z))]
def Hf (ws:List (Int × Int)) (k s:Int):eI (wsK ws) (Sum.inl k) (V.int s)=wsK (rV ws k s):=by
 have e1:((wsK ws).any fun kv=>decide (kv.1=Sum.inl k))=(ws.any fun p=>decide (p.1=k)):=by
  unfold wsK
  rw[List.any_map]
  congr 1
  funext p
  exact Do p.1 k
 unfold eI rV
 rw[e1]
 split
 ·unfold wsK
  rw[map_map,map_map]
  apply map_congr_left
  intro p _
  show (if (Sum.inl p.1:Key)=Sum.inl k then _ else _)=((Sum.inl (if p.1=k then (p.1,s) else p).1:Key),V.int (if p.1=k then (p.1,s) else p).2)
  by_cases h:p.1=k
  ·rw[if_pos h,if_pos (by rw[h])]
  ·rw[if_neg h,if_neg (fun z=>h (Sum.inl.inj z))]
 ·unfold wsK
  rw[map_append]
  rfl
def sD:∀ (ws:List (Int × Int)) (k:Int),dM (wsK ws) (Sum.inl k)=(pE ws k).map V.int
 | [],k=>rfl
 | p::r,k=>by
  have ih:=sD r k
  unfold dM pE wsK at *
  rw[map_cons,find?_cons,find?_cons]
  show Option.map _ (match decide ((Sum.inl p.1:Key)=Sum.inl k) with | true=>_ | false=>_)=_
  rw[Do]
  cases decide (p.1=k) with
  | true=>rfl
  | false=>exact ih
def AE (ws:List (Int × Int)):(wsK ws).map (·.1)=(ws.map (·.1)).map Sum.inl:=by
 unfold wsK
 rw[map_map,map_map]
 rfl
def qN (h:k∈ws.map (·.1)):∃ s,pE ws k=some s:=by
 unfold pE
 cases y:ws.find? fun p=>decide (p.1=k) with
 | none=>
  rw[find?_eq_none]at y
  obtain⟨p,hp,e⟩:=mem_map.mp h
  exact absurd (decide_eq_true e) (y p hp)
 | some p=>exact⟨_,rfl⟩
def Ar {ws:List (Int × Int)} {k:Int}:(ws.any fun p=>decide (p.1=k))=true ↔ k∈ws.map (·.1):=by
 rw[any_eq_true,mem_map]
 exact⟨fun⟨p,h1,h2⟩=>⟨p,h1,of_decide_eq_true h2⟩,fun⟨p,h1,h2⟩=>⟨p,h1,decide_eq_true h2⟩⟩
def EO {ws:List (Int × Int)} {k:Int} (s:Int) (h:k∈ws.map (·.1)):(rV ws k s).map (·.1)=ws.map (·.1):=by
 unfold rV
 rw[if_pos (Ar.mpr h),map_map]
 apply map_congr_left
 intro p _
 show (if p.1=k then (p.1,s) else p).1=p.1
 split <;> rfl
def GI {ws:List (Int × Int)} {k:Int} (s:Int) (h:k ∉ ws.map (·.1)):rV ws k s=ws++[(k,s)]:=by
 unfold rV
 rw[if_neg (fun z=>h (Ar.mp z))]
def FM (ws:List (Int × Int)) (k:Int):eZ (wsK ws) (Sum.inl k)=wsK (ws.filter fun p=>decide (p.1≠k)):=by
 unfold eZ wsK
 rw[filter_map]
 congr 1
 refine List.filter_congr fun p _=>decide_eq_decide.mpr ?_
 exact⟨fun h z=>h (by show (Sum.inl p.1:Key)=Sum.inl k; rw[z]),fun h z=>h (Sum.inl.inj z)⟩
def TR {α : Type} (f:α->V->Prop):List (Int × α)->Ll->Prop
 | [],[]=>True
 | p::es,r::kvs=>r.1=Sum.inl p.1/\f p.2 r.2/\TR f es kvs
 | _,_=>False
section
variable {α : Type} {f g:α->V->Prop}
def TR.imp (h:∀ a v,f a v->g a v):∀ {es:List (Int × α)} {kvs:Ll},TR f es kvs->TR g es kvs
 | [],[],_=>trivial
 | _::_,_::_,⟨h1,h2,h3⟩=>⟨h1,h _ _ h2,TR.imp h h3⟩
 | [],_::_,h=>h.elim
 | _::_,[],h=>h.elim
def TR.keys:∀ {es:List (Int × α)} {kvs:Ll},TR f es kvs->kvs.map (·.1)=(es.map (·.1)).map Sum.inl
 | [],[],_=>rfl
 | _::_,_::_,⟨h1,_,h3⟩=>by rw[map_cons,map_cons,map_cons,TR.keys h3,h1]
 | [],_::_,h=>h.elim
 | _::_,[],h=>h.elim
def TR.len (h:TR f es kvs):kvs.length=es.length:=by
 have:=congrArg List.length h.keys
 rw[length_map,length_map,length_map]at this
 exact this
def TR.look:∀ {es:List (Int × α)} {kvs:Ll},TR f es kvs->n∈es.map (·.1)->∃ a v,(n,a)∈es/\dM kvs (Sum.inl n)=some v/\f a v
 | [],[],_,h=>by cases h
 | p::es,r::kvs,⟨h1,h2,h3⟩,h=>by
  by_cases e:p.1=n
  ·refine⟨p.2,r.2,by rw[<- e]; exact mem_cons_self,?_,h2⟩
   unfold dM
   rw[find?_cons,decide_eq_true (by rw[h1,e])]
   rfl
  ·rw[map_cons]at h
   rcases mem_cons.mp h with z | z
   ·exact absurd z.symm e
   ·obtain⟨a,v,m1,m2,m3⟩:=TR.look h3 z
    refine⟨a,v,mem_cons_of_mem _ m1,?_,m3⟩
    unfold dM at m2 ⊢
    rw[find?_cons,decide_eq_false (fun y=>e (Sum.inl.inj (h1.symm.trans y)))]
    exact m2
 | [],_::_,h,_=>h.elim
 | _::_,[],h,_=>h.elim
def TR.no (h:TR f es kvs) (hn:n ∉ es.map (·.1)):dM kvs (Sum.inl n)=none/\(kvs.any fun kv=>decide (kv.1=Sum.inl n))=false:=by
 have key:∀ kv∈kvs,kv.1≠Sum.inl n:=fun kv hkv z=>by
  have:kv.1∈kvs.map (·.1):=mem_map_of_mem hkv
  rw[h.keys,z]at this
  obtain⟨m,hm,e⟩:=mem_map.mp this
  exact hn (by rw[<- Sum.inl.inj e]; exact hm)
 constructor
 ·unfold dM
  rw[map_eq_none_iff,find?_eq_none]
  exact fun kv hkv z=>key kv hkv (of_decide_eq_true z)
 ·rw[List.any_eq_false]
  exact fun kv hkv z=>key kv hkv (of_decide_eq_true z)
def iB (es:List (Int × α)) (n:Int) (a:α):List (Int × α):=if (es.any fun p=>decide (p.1=n))=true then es.map (fun p=>if p.1=n then (p.1,a) else p) else es++[(n,a)]
def xM (a:α) (h:n∈es.map (·.1)):(iB es n a).map (·.1)=es.map (·.1):=by
 have:(es.any fun p=>decide (p.1=n))=true:=by
  obtain⟨p,hp,e⟩:=mem_map.mp h
  exact any_eq_true.mpr ⟨p,hp,decide_eq_true e⟩
 unfold iB
 rw[if_pos this,map_map]
 apply map_congr_left
 intro p _
 show (if p.1=n then (p.1,a) else p).1=p.1
 split <;> rfl
def Aq (a:α) (h:n ∉ es.map (·.1)):iB es n a=es++[(n,a)]:=by
 unfold iB
 rw[if_neg]
 rw[any_eq_true]
 rintro ⟨p,hp,e⟩
 exact h (by rw[<- of_decide_eq_true e]; exact mem_map_of_mem hp)
def GH (h:p∈iB es n a):p∈es\/p.2=a:=by
 unfold iB at h
 split at h
 ·obtain⟨p0,h0,e0⟩:=mem_map.mp h
  split at e0
  ·rw[<- e0]
   exact .inr rfl
  ·rw[<- e0]
   exact .inl h0
 ·rw[mem_append,mem_singleton]at h
  rcases h with h | rfl
  ·exact .inl h
  ·exact .inr rfl
def TR.mapP (hv:f a v):∀ {es:List (Int × α)} {kvs:Ll},TR f es kvs->TR f (es.map fun p=>if p.1=n then (p.1,a) else p) (kvs.map fun kv=>if kv.1=Sum.inl n then (kv.1,v) else kv)
 | [],[],_=>trivial
 | p::es,r::kvs,⟨h1,h2,h3⟩=>by
  rw[map_cons,map_cons]
  by_cases e:p.1=n
  ·rw[if_pos e,if_pos (show r.1=Sum.inl n by rw[h1,e])]
   exact⟨h1,hv,TR.mapP hv h3⟩
  ·rw[if_neg e,if_neg (fun z=>e (Sum.inl.inj (h1.symm.trans z)))]
   exact⟨h1,h2,TR.mapP hv h3⟩
 | [],_::_,h=>h.elim
 | _::_,[],h=>h.elim
def TR.snoc (hv:f a v):∀ {es:List (Int × α)} {kvs:Ll},TR f es kvs->TR f (es++[(n,a)]) (kvs++[(Sum.inl n,v)])
 | [],[],_=>⟨rfl,hv,trivial⟩
 | _::_,_::_,⟨h1,h2,h3⟩=>⟨h1,h2,TR.snoc hv h3⟩
 | [],_::_,h=>h.elim
 | _::_,[],h=>h.elim
def TR.any (h:TR f es kvs):(kvs.any fun kv=>decide (kv.1=Sum.inl n))=(es.any fun p=>decide (p.1=n)):=by
 by_cases hn:n∈es.map (·.1)
 ·obtain⟨p,hp,e⟩:=mem_map.mp hn
  have h2:Sum.inl n∈kvs.map (·.1):=by
   rw[h.keys]
   exact mem_map_of_mem hn
  obtain⟨r,hr,e2⟩:=mem_map.mp h2
  rw[any_eq_true.mpr ⟨p,hp,decide_eq_true e⟩,any_eq_true.mpr ⟨r,hr,decide_eq_true e2⟩]
 ·rw[(h.no hn).2]
  refine(List.any_eq_false.mpr fun p hp z=>hn ?_).symm
  rw[<- of_decide_eq_true z]
  exact mem_map_of_mem hp
def TR.put (h:TR f es kvs) (hv:f a v):TR f (iB es n a) (eI kvs (Sum.inl n) v):=by
 unfold eI iB
 rw[h.any]
 split
 ·exact h.mapP hv
 ·exact h.snoc hv
def TR.drop:∀ {es:List (Int × α)} {kvs:Ll},TR f es kvs->TR f (es.filter fun p=>decide (p.1≠n)) (eZ kvs (Sum.inl n))
 | [],[],_=>trivial
 | p::es,r::kvs,⟨h1,h2,h3⟩=>by
  have ih:=TR.drop (n:=n) h3
  unfold eZ at ih ⊢
  rw[filter_cons,filter_cons]
  by_cases e:p.1=n
  ·rw[if_neg (by rw[decide_eq_true_eq]; exact fun z=>z e),if_neg (by rw[decide_eq_true_eq,h1,e]; exact fun z=>z rfl)]
   exact ih
  ·rw[if_pos (show decide (p.1≠n)=true from decide_eq_true e),if_pos (show decide (r.1≠Sum.inl n)=true from decide_eq_true (fun z=>e (Sum.inl.inj (h1.symm.trans z))))]
   exact⟨h1,h2,ih⟩
 | [],_::_,h=>h.elim
 | _::_,[],h=>h.elim
end
structure Ms where
 ls:List (Int × (Lc × Int))
 after:Int
 hs:Lq
 time:Int
 rows:List (Lp)
 first:Int
 wh:List (Int × Int)
structure Sl where
 ps:Addr
 pl:Addr
 ph:Addr
 pr:Addr
 pw:Addr
 rs:List Addr
def stK (S:Sl) (M:Ms):Ll:=[(Sum.inr "letters",.ref S.pl),(Sum.inr "after",.int M.after),(Sum.inr "hands",.ref S.ph),(Sum.inr "time",.int M.time),(Sum.inr "rows",.ref S.pr),(Sum.inr "first",.int M.first),(Sum.inr "where",.ref S.pw)]
inductive pH (H:Hp) (e:Lc × Int) (v:V):Prop
 | mk:∀ t b,v = .ref t->H t=some (.tup [.ref b,.int e.2])->H b=some (.tup (e.1.map V.int))->pH H e v
inductive pK (H:Hp) (e:Str × Int) (v:V):Prop
 | mk:∀ t,v = .ref t->H t=some (.tup [.str e.1,.int e.2])->pK H e v
def RsR (H:Hp):List (Lp)->List Addr->Prop
 | [],[]=>True
 | r::rs,a::as=>(∃ xs,H a=some (.lst xs)/\aR H (r.map cA) xs)/\RsR H rs as
 | _,_=>False
def stL (S:Sl):List Addr:=S.ps::S.pl::S.ph::S.pr::S.pw::S.rs
structure StAt (H:Hp) (S:Sl) (M:Ms):Prop where
 st:H S.ps=some (.dK (stK S M))
 ls:∃ kl,H S.pl=some (.dK kl)/\TR (pH H) M.ls kl
 hs:∃ kh,H S.ph=some (.dK kh)/\TR (pK H) M.hs kh
 rw:H S.pr=some (.lst (S.rs.map V.ref))
 rr:RsR H M.rows S.rs
 wh:H S.pw=some (.dK (wsK M.wh))
 nd:(stL S).Nodup
structure StepS (S S':Sl) (H H':Hp):Prop where
 ps:S'.ps=S.ps
 frm:∀ b o,H b=some o->b ∉ stL S->H' b=some o
 grow:∀ b,b∈stL S'->b∈stL S\/H b=none
 tup:fS H H'
def StepS.trans (a:StepS S S1 H H1) (b:StepS S1 S2 H1 H2):StepS S S2 H H2:=by
 refine⟨b.ps.trans a.ps,fun c o e nc=>b.frm c o (a.frm c o e nc) (fun z=>(a.grow c z).elim nc (fun y=>by rw[y]at e; cases e)),fun c hc=>?_,a.tup.trans b.tup⟩
 rcases b.grow c hc with z | z
 ·exact a.grow c z
 ·by_cases y:c∈stL S
  ·exact .inl y
  ·refine .inr ?_
   cases e:H c with
   | none=>rfl
   | some o=>rw[a.frm c o e y]at z; cases z
def aG.stepS (s:aG H H'):StepS S S H H':=⟨rfl,fun b o e _=>s b o e,fun b h=>.inl h,aG.tup s⟩
def StepS.not (a:StepS S S' H H') (e:H b=some o) (n:b ∉ stL S):b ∉ stL S':=fun z=>(a.grow b z).elim n (fun y=>by rw[y]at e; cases e)
def pH.t (s:fS H H') (h:pH H e v):pH H' e v:=by
 obtain⟨t,b,e1,e2,e3⟩:=h
 exact⟨t,b,e1,s _ _ e2,s _ _ e3⟩
def pK.t (s:fS H H') (h:pK H e v):pK H' e v:=by
 obtain⟨t,e1,e2⟩:=h
 exact⟨t,e1,s _ _ e2⟩
def jW:∀ rs:Lp,cX (rs.map cA)=true
 | []=>rfl
 | r::rs=>by
  show (hJ (cA r) && cX (rs.map cA))=true
  rw[jW rs]
  unfold cA
  rw[k8]
  rfl
def RsR.keep (t:fS H H'):∀ {rs:List (Lp)} {as:List Addr},RsR H rs as->(∀ a∈as,∀ o,H a=some o->H' a=some o)->RsR H' rs as
 | [],[],_,_=>trivial
 | _::_,a::_,⟨⟨xs,h1,h2⟩,h3⟩,k=>⟨⟨xs,k a mem_cons_self _ h1,fO t (jW _) h2⟩,RsR.keep t h3 fun b hb=>k b (mem_cons_of_mem _ hb)⟩
 | [],_::_,h,_=>h.elim
 | _::_,[],h,_=>h.elim
def RsR.len:∀ {rs:List (Lp)} {as:List Addr},RsR H rs as->as.length=rs.length
 | [],[],_=>rfl
 | _::_,_::_,⟨_,h⟩=>by rw[length_cons,length_cons,RsR.len h]
 | [],_::_,h=>h.elim
 | _::_,[],h=>h.elim
def RsR.snoc (g:H a=some (.lst xs)) (d:aR H (r.map cA) xs):∀ {rs:List (Lp)} {as:List Addr},RsR H rs as->RsR H (rs++[r]) (as++[a])
 | [],[],_=>⟨⟨xs,g,d⟩,trivial⟩
 | _::_,_::_,⟨h1,h2⟩=>⟨h1,RsR.snoc g d h2⟩
 | [],_::_,h=>h.elim
 | _::_,[],h=>h.elim
def RsR.split:∀ {rs:List (Lp)} {as:List Addr} {r:Lp},RsR H (rs++[r]) as->∃ as' a xs,as=as'++[a]/\RsR H rs as'/\H a=some (.lst xs)/\aR H (r.map cA) xs
 | [],[a],r,⟨⟨xs,g,d⟩,_⟩=>⟨[],a,xs,rfl,trivial,g,d⟩
 | _::rs,a::as,r,⟨h1,h2⟩=>by
  obtain⟨as',b,xs,e,h3,g,d⟩:=RsR.split h2
  exact⟨a::as',b,xs,by rw[e]; rfl,⟨h1,h3⟩,g,d⟩
 | [],[],_,h=>h.elim
 | [],_::_::_,_,h=>h.2.elim
 | _::_,[],_,h=>h.elim
section
variable {H H':Hp} {S:Sl} {M:Ms}
def StAt.keep (h:StAt H S M) (k:∀ b o,H b=some o->b∈stL S->H' b=some o) (t:fS H H'):StAt H' S M:=by
 obtain⟨kl,h1,h2⟩:=h.ls
 obtain⟨kh,h3,h4⟩:=h.hs
 have m:∀ b,b∈[S.ps,S.pl,S.ph,S.pr,S.pw]->b∈stL S:=fun b hb=>mem_append_left S.rs hb
 exact⟨k _ _ h.st (m _ (by simp)),⟨kl,k _ _ h1 (m _ (by simp)),h2.imp fun a v=>pH.t t⟩,⟨kh,k _ _ h3 (m _ (by simp)),h4.imp fun a v=>pK.t t⟩,k _ _ h.rw (m _ (by simp)),h.rr.keep t (fun a ha o e=>k a o e (mem_append_right [S.ps,S.pl,S.ph,S.pr,S.pw] ha)),k _ _ h.wh (m _ (by simp)),h.nd⟩
def StAt.same (h:StAt H S M) (s:aG H H'):StAt H' S M:=h.keep (fun b o e _=>s b o e) (aG.tup s)
def StAt.here (h:StAt H S M) (hb:b∈stL S):∃ o,H b=some o/\∀ xs,o ≠ .tup xs:=by
 obtain⟨kl,h1,_⟩:=h.ls
 obtain⟨kh,h3,_⟩:=h.hs
 have rr:∀ {rs:List (Lp)} {as:List Addr},RsR H rs as->b∈as->∃ o,H b=some o/\∀ xs,o ≠ .tup xs:=by
  intro rs
  induction rs with
  | nil=>
   intro as h hb
   cases as with
   | nil=>cases hb
   | cons a as=>exact h.elim
  | cons r rs ih=>
   intro as h hb
   cases as with
   | nil=>exact h.elim
   | cons a as=>
    rcases mem_cons.mp hb with z | z
    ·obtain⟨⟨xs,g,_⟩,_⟩:=h
     exact⟨_,by rw[z]; exact g,fun xs z=>by cases z⟩
    ·exact ih h.2 z
 rcases mem_append.mp (show b∈[S.ps,S.pl,S.ph,S.pr,S.pw]++S.rs from hb) with z | z
 ·simp only[mem_cons,List.not_mem_nil,or_false]at z
  rcases z with z | z | z | z | z
  ·exact⟨_,by rw[z]; exact h.st,fun xs z=>by cases z⟩
  ·exact⟨_,by rw[z]; exact h1,fun xs z=>by cases z⟩
  ·exact⟨_,by rw[z]; exact h3,fun xs z=>by cases z⟩
  ·exact⟨_,by rw[z]; exact h.rw,fun xs z=>by cases z⟩
  ·exact⟨_,by rw[z]; exact h.wh,fun xs z=>by cases z⟩
 ·exact rr h.rr z
def StAt.off (h:StAt H S M) (hb:H b=none):b ∉ stL S:=fun z=>by
 obtain⟨o,e,_⟩:=h.here z
 rw[hb]at e
 cases e
def bW (h:StAt H S M) (hb:b∈stL S) (o':HO):StepS S S H (upd H b o'):=by
 obtain⟨o,e,nt⟩:=h.here hb
 exact⟨rfl,fun c u ec nc=>by rw[aF (fun z=>nc (by rw[z]; exact hb))]; exact ec,fun c hc=>.inl hc,kN e nt⟩
end
abbrev Ag:Stmt:=top 74
abbrev DK:Stmt:=top 75
abbrev Ae:Stmt:=top 82
structure MsOk (M:Ms) (c n:Nat):Prop where
 af:0<=M.after/\M.after<=9 * (c:Int)
 so:(M.ls.map (·.1)).Pairwise (· < ·)
 lt:∀ p∈M.ls,0<=p.1/\p.1<M.after/\p.2.1.length<=60
 cnt:M.ls.length<=9 * c
 wk:M.wh.map (·.1)=M.ls.map (·.1)
 hn:(M.hs.map (·.1)).Nodup
 hl:M.hs.length<=c
 hk:∀ p∈M.hs,p.1∈M.ls.map (·.1)/\dZ p.2.1
 ne:M.rows≠[]
 rl:M.rows.length<=n
 sg:∀ s∈M.rows,s.length<=n/\∀ r∈s,r.2.2.length<=61
def MsOk.mono {M:Ms} {c n c' n':Nat} (h:MsOk M c n) (hc:c<=c') (hn:n<=n'):MsOk M c' n':=⟨⟨h.af.1,by have:=h.af.2; omega⟩,h.so,h.lt,by have:=h.cnt; omega,h.wk,h.hn,le_trans h.hl hc,h.hk,h.ne,le_trans h.rl hn,fun s hs=>⟨le_trans (h.sg s hs).1 hn,(h.sg s hs).2⟩⟩
def M0:Ms:=⟨[],0,[],0,[[("from",0,[])]],0,[]⟩
def M0_ok:MsOk M0 0 1:=⟨⟨Int.le_refl _,Int.le_refl _⟩,List.Pairwise.nil,(fun p hp=>by cases hp),le_refl _,rfl,nodup_nil,le_refl _,(fun p hp=>by cases hp),by decide,le_refl _,fun s hs=>by
 rw[mem_singleton.mp hs]
 exact⟨le_refl _,fun r hr=>by rw[mem_singleton.mp hr]; exact zero_le _⟩⟩
def Fo (rs:Lp):Int:=(rs.map fun r=>7+(r.2.2.length:Int)).sum
def wJ:Sp:=fun vs H Q _=>vs=[]/\∀ S H',aG H H'->(∀ b∈stL S,H b=none)->StAt H' S M0->Q (.ref S.ps) H'
inductive tG (vs:Ln) (H:Hp) (Q:VK) (x_3:XK):Prop
 | mk:∀ (l:Addr) (rs:Lp) (xs:Ln),vs=[.ref l]->H l=some (.lst xs)->aR H (rs.map cA) xs->rs.length<=100000->(∀ H',aG H H'->Q (.int (Fo rs)) H')->tG vs H Q x_3
inductive qE (vs:Ln) (H:Hp) (Q:VK) (x_3:XK):Prop
 | mk:∀ (S:Sl) (M:Ms) (r:Lp) (rs:List (Lp)),vs=[.ref S.ps]->StAt H S M->M.rows=r::rs->(∀ S' H',StepS S S' H H'->StAt H' S' { M with rows:=rs,first:=M.first+1 }->Q .non H')->qE vs H Q x_3
section
variable {H:Hp} {S:Sl} {M:Ms}
def StAt.g_letters (h:StAt H S M):cS H S.ps (.str "letters") (some (.ref S.pl)):=cS.k (k:=Sum.inr "letters") h.st
def StAt.g_after (h:StAt H S M):cS H S.ps (.str "after") (some (.int M.after)):=cS.k (k:=Sum.inr "after") h.st
def StAt.g_hands (h:StAt H S M):cS H S.ps (.str "hands") (some (.ref S.ph)):=cS.k (k:=Sum.inr "hands") h.st
def StAt.g_time (h:StAt H S M):cS H S.ps (.str "time") (some (.int M.time)):=cS.k (k:=Sum.inr "time") h.st
def StAt.g_rows (h:StAt H S M):cS H S.ps (.str "rows") (some (.ref S.pr)):=cS.k (k:=Sum.inr "rows") h.st
def StAt.g_first (h:StAt H S M):cS H S.ps (.str "first") (some (.int M.first)):=cS.k (k:=Sum.inr "first") h.st
def StAt.g_where (h:StAt H S M):cS H S.ps (.str "where") (some (.ref S.pw)):=cS.k (k:=Sum.inr "where") h.st
end
section
variable {P:Program} {w:World} {K:K6} {mg:K8} {base:Heap} {A:Ad}
def Ek {f:Addr} {fd:Lh} (F:Fun K "_law_begin" "_law_begin" Ag f fd):‹15› 1 f fd [] wJ:=by
 refine F.okY [] fun cdv A' outer s H vs Q E hr nD0 h=>?_
 obtain⟨rfl,q⟩:=h
 refine⟨_,@aC _ _ _ (@aP _ _ _ _ (@IN _ _ _ _ _ (@iT _ _ _ _ _ _ _ _ _ ‹43› (@jY _ _) (@iT _ _ _ _ _ _ _ _ _ ‹43› ‹48› (@iT _ _ _ _ _ _ _ _ _ ‹43› (@jY _ _) (@iT _ _ _ _ _ _ _ _ _ ‹43› ‹48› (@iT _ _ _ _ _ _ _ _ _ ‹43› (@cB _ _ _ _ (@fH _ _ _ _ _ _ (@cB _ _ _ _ (@bU _ _ _ _ _ _ _ (@bE _ _ _ _ _ (@aM _ _ _ _ _ _ _ ‹43› (@aM _ _ _ _ _ _ _ ‹48› (@bU _ _ _ _ _ _ _ (@bE _ _ _ _ _ (@aH _)) (@aH _))))) (@aH _))) (@aH _))) (@iT _ _ _ _ _ _ _ _ _ ‹43› ‹48› (@iT _ _ _ _ _ _ _ _ _ ‹43› (@jY _ _) (@IE _ _)))))))) ⋯ ⋯ (List.cons_ne_nil _ _) (by decide))),?_⟩
 refine fun ps hps pl hpl ph hph=>⟨aJ,fun pe hpe=>⟨aJ,fun pt hpt=>⟨aJ,fun pg hpg=>⟨aJ,fun pr hpr pw hpw=>?_⟩⟩⟩⟩
 have s1:=aD (o:=.dK []) hps
 have g1:upd H ps (.dK []) ps=some (.dK []):=aB
 generalize upd H ps (.dK [])=H1 at s1 g1 hpl hph hpe hpt hpg hpr hpw ⊢
 have s2:=aD (o:=.dK []) hpl
 have g2:upd H1 pl (.dK []) pl=some (.dK []):=aB
 generalize upd H1 pl (.dK [])=H2 at s2 g2 hph hpe hpt hpg hpr hpw ⊢
 have s3:=aD (o:=.dK []) hph
 have g3:upd H2 ph (.dK []) ph=some (.dK []):=aB
 generalize upd H2 ph (.dK [])=H3 at s3 g3 hpe hpt hpg hpr hpw ⊢
 have s4:=aD (o:=.tup []) hpe
 have g4:upd H3 pe (.tup []) pe=some (.tup []):=aB
 generalize upd H3 pe (.tup [])=H4 at s4 g4 hpt hpg hpr hpw ⊢
 have s5:=aD (o:=.tup [.str "from",.int 0,.ref pe]) hpt
 have g5:upd H4 pt (.tup [.str "from",.int 0,.ref pe]) pt=some (.tup [.str "from",.int 0,.ref pe]):=aB
 generalize upd H4 pt (.tup [.str "from",.int 0,.ref pe])=H5 at s5 g5 hpg hpr hpw ⊢
 have s6:=aD (o:=.lst [.ref pt]) hpg
 have g6:upd H5 pg (.lst [.ref pt]) pg=some (.lst [.ref pt]):=aB
 generalize upd H5 pg (.lst [.ref pt])=H6 at s6 g6 hpr hpw ⊢
 have s7:=aD (o:=.lst [.ref pg]) hpr
 have g7:upd H6 pr (.lst [.ref pg]) pr=some (.lst [.ref pg]):=aB
 generalize upd H6 pr (.lst [.ref pg])=H7 at s7 g7 hpw ⊢
 have s8:=aD (o:=.dK []) hpw
 have g8:upd H7 pw (.dK []) pw=some (.dK []):=aB
 generalize upd H7 pw (.dK [])=H8 at s8 g8 ⊢
 have s78:=s7.trans s8
 have s68:=s6.trans s78
 have s58:=s5.trans s68
 have s48:=s4.trans s58
 have s38:=s3.trans s48
 have s28:=s2.trans s38
 have n1:∀ {c:Addr},H1 c=none->c≠ps:=fun h z=>by rw[z,g1]at h; cases h
 have n2:∀ {c:Addr},H2 c=none->c≠pl:=fun h z=>by rw[z,g2]at h; cases h
 have n3:∀ {c:Addr},H3 c=none->c≠ph:=fun h z=>by rw[z,g3]at h; cases h
 have n6:∀ {c:Addr},H6 c=none->c≠pg:=fun h z=>by rw[z,g6]at h; cases h
 have n7:∀ {c:Addr},H7 c=none->c≠pr:=fun h z=>by rw[z,g7]at h; cases h
 have f3:=s2.trans s3
 have f5:=f3.trans (s4.trans s5)
 have f6:=f5.trans s6
 have f7:=f6.trans s7
 have h1pg:=f5.free hpg
 have h1pr:=f6.free hpr
 have h1pw:=f7.free hpw
 refine⟨s28 _ _ g1,[(Sum.inr "letters",.ref pl),(Sum.inr "after",.int 0),(Sum.inr "hands",.ref ph),(Sum.inr "time",.int 0),(Sum.inr "rows",.ref pr),(Sum.inr "first",.int 0),(Sum.inr "where",.ref pw)],rfl,le_of_ble_eq_true rfl,?_⟩
 have em:qM [] [((Sum.inr "letters" : Key),V.ref pl),(Sum.inr "after",.int 0),(Sum.inr "hands",.ref ph),(Sum.inr "time",.int 0),(Sum.inr "rows",.ref pr),(Sum.inr "first",.int 0),(Sum.inr "where",.ref pw)]=stK ⟨ps,pl,ph,pr,pw,[pg]⟩ M0:=rfl
 rw[em]
 have up:∀ {c:Addr} {o:HO},H8 c=some o->c≠ps->upd H8 ps (.dK (stK ⟨ps,pl,ph,pr,pw,[pg]⟩ M0)) c=some o:=fun e n=>by rw[aF n]; exact e
 refine q ⟨ps,pl,ph,pr,pw,[pg]⟩ _ (fun b o e=>up ((s1.trans s28) b o e) (bP e hps)) (fun b hb=>?_) ⟨aB,⟨[],up (s38 _ _ g2) (n1 hpl),trivial⟩,⟨[],up (s48 _ _ g3) (n1 (s2.free hph)),trivial⟩,up (s8 _ _ g7) (n1 h1pr),⟨⟨[.ref pt],up (s78 _ _ g6) (n1 h1pg),?_⟩,trivial⟩,up g8 (n1 h1pw),?_⟩
 ·have hb:b∈[ps,pl,ph,pr,pw,pg]:=hb
  simp only[mem_cons,List.not_mem_nil,or_false]at hb
  rcases hb with rfl | rfl | rfl | rfl | rfl | rfl
  ·exact hps
  ·exact s1.free hpl
  ·exact(s1.trans s2).free hph
  ·exact s1.free h1pr
  ·exact s1.free h1pw
  ·exact s1.free h1pg
 ·have npt:pt≠ps:=n1 ((f3.trans s4).free hpt)
  have npe:pe≠ps:=n1 (f3.free hpe)
  show aR _ [cA ("from",0,[])] [.ref pt]
  unfold cA fN
  simp only[Den,aR,map_nil]
  exact⟨_,_,rfl,⟨pt,_,rfl,up (s68 _ _ g5) npt,_,_,rfl,rfl,_,_,rfl,rfl,_,_,rfl,⟨pe,_,rfl,up (s58 _ _ g4) npe,rfl⟩,rfl⟩,rfl⟩
 ·show List.Nodup [ps,pl,ph,pr,pw,pg]
  have a1:=n1 hpl
  have a2:=n1 (s2.free hph)
  have a3:=n1 h1pr
  have a4:=n1 h1pw
  have a5:=n1 h1pg
  have b1:=n2 hph
  have b2:=n2 ((s3.trans (s4.trans (s5.trans s6))).free hpr)
  have b3:=n2 ((s3.trans (s4.trans (s5.trans (s6.trans s7)))).free hpw)
  have b4:=n2 ((s3.trans (s4.trans s5)).free hpg)
  have c1:=n3 ((s4.trans (s5.trans s6)).free hpr)
  have c2:=n3 ((s4.trans (s5.trans (s6.trans s7))).free hpw)
  have c3:=n3 ((s4.trans s5).free hpg)
  have d1:=n7 hpw
  have d2:=n6 hpr
  have d3:=n6 (s7.free hpw)
  simp only[nodup_cons,mem_cons,List.not_mem_nil,or_false,not_or,nodup_nil,and_true,not_false_eq_true]
  exact⟨⟨fun z=>a1 z.symm,fun z=>a2 z.symm,fun z=>a3 z.symm,fun z=>a4 z.symm,fun z=>a5 z.symm⟩,⟨fun z=>b1 z.symm,fun z=>b2 z.symm,fun z=>b3 z.symm,fun z=>b4 z.symm⟩,⟨fun z=>c1 z.symm,fun z=>c2 z.symm,fun z=>c3 z.symm⟩,⟨fun z=>d1 z.symm,d2⟩,d3⟩
def Gc {f:Addr} {fd:Lh} (F:Fun K "_law_size" "_law_size" DK f fd) (T:‹3›):‹15› 1 f fd ["_law_rows"] tG:=by
 refine F.okY ["_law_rows"] fun cdv A' outer s H vs Q E hr nD0 h=>?_
 obtain⟨l,rs,xs,rfl,g,d,hl,q⟩:=h
 refine⟨_,@aC _ _ _ (@aP _ _ _ _ (@bF _ _ _ _ _ _ _ _ _ (m5 K) ⋯ T.ax4 AB (@dW _ _ _ _ _ _ _ _ (@c9 _ _ _ _ _ _ _ _ _ _ _ ["_law_row"] [] ⋯ (@bT _ K _ _ _ ‹35› ⋯) (fun C s2 H2 ex=>(@bG _ _ (0) _ (show List.Nodup (["_law_row"]:Ld) by decide +kernel) ⋯ (Or.inl ⋯) ⋯)) (fun C s2 H2 ex=>(@DV _)) (fun C s2 H2 ex=>(@bB _ _ _ _ _ _ _ _ cO ‹48› (@bF _ _ _ _ _ _ _ _ _ (dC K) ⋯ T.ad2 fV (@aN _ _ _ _ _ _ _ (@cD _ _ _ _ _ _ _ (cR K) ‹35› ‹48› (fun _ _=>rfl)) (@aH _)) ⋯ ⋯ ⋯ ⋯))) ⋯ ⋯ ⋯ ⋯) (@aH _)) ⋯ ⋯ ⋯ ⋯)),?_⟩
 have ln:=d.length
 rw[length_map]at ln
 refine⟨_,rfl,l,rfl,⟨_,SqL.of g⟩,?_⟩
 refine dE (bS (K:=K) (SqL.of g)) (le_trans (show _<=100000 by omega) (by decide)) (fun i y _=>∃ r,rs[i]? = some r/\y = .int (7+(r.2.2.length:Int))) (fun _ _ _ _ _ h=>h) (fun σ=>∃ z,σ = [z]) ⟨none,rfl⟩ ?_ ?_
 ·intro i x σc H3 hi hσ s3 hx Q' hQ'
  obtain⟨z,rfl⟩:=hσ
  obtain⟨dd,hdd,dr⟩:=d.get hx
  rw[getElem?_map]at hdd
  cases e:rs[i]? with
  | none=>rw[e]at hdd; cases hdd
  | some r=>
   rw[e]at hdd
   cases hdd
   obtain⟨t,b,rfl,gt,gb⟩:=o0 dr
   refine⟨_,rfl,t,_,_,.ref b,rfl,rfl,SqT.of (s3 _ _ gt),aW (by decide) rfl,b,_,rfl,.inr (SqT.of (s3 _ _ gb)),_,_,rfl,rfl,?_⟩
   rw[length_map]
   exact hQ' _ _ _ ⟨_,rfl⟩ (aG.refl _) ⟨r,e,rfl⟩
 intro D ys H2 hD S2 gD hlen hR
 have ey:ys=(rs.map fun r=>7+(r.2.2.length:Int)).map V.int:=by
  apply ext_getElem?
  intro j
  cases ej:ys[j]? with
  | none=>
   have h1:=List.getElem?_eq_none_iff.mp ej
   rw[List.getElem?_eq_none_iff.mpr]
   rw[length_map,length_map]
   omega
  | some y=>
   obtain⟨r,e1,rfl⟩:=hR j y ej
   rw[getElem?_map,getElem?_map,e1]
   rfl
 subst ey
 exact⟨D,_,rfl,.inl (SqL.of gD),q H2 S2⟩
def Ei {f:Addr} {fd:Lh} (F:Fun K "_law_front_goes" "_law_front_goes" Ae f fd):‹15› 1 f fd ["_law_state"] qE:=by
 refine F.okY ["_law_state"] fun cdv A' outer s H vs Q E hr nD0 h=>?_
 obtain⟨S,M,r,rs,rfl,h,er,q⟩:=h
 refine⟨_,@aA _ _ _ _ _ (@fT _ _ _ _ _ _ _ _ _ (hu1 hr.units) ‹35› ‹43› (@gZ _ _ _ _ _ _ _ _ _ _ (tP K) ‹24› (@iC _ _ _ ‹48›) (@lB _)) ⋯) (@aC _ _ _ (@zB _ _ _ _ _ _ _ _ _ _ _ (hu1 hr.units) ‹35› ‹43› ‹48› (@uY _) (fun _ _ _=>⋯))),?_⟩
 refine⟨_,rfl,S.ps,_,rfl,h.g_rows,_,rfl,S.pr,_,rfl,SqL.of h.rw,fun p hp=>?_⟩
 obtain⟨a0,as,eas⟩:∃ a0 as,S.rs=a0::as:=by
  have:=h.rr.len
  rw[er,length_cons]at this
  exact List.exists_cons_of_length_eq_add_one this
 have ec:i5 (S.rs.map V.ref) (some 1) none=as.map V.ref:=by
  rw[yC (by rw[eas,map_cons,length_cons]; omega),eas]
  rfl
 rw[ec]
 have s1:=aD (o:=.lst (as.map V.ref)) hp
 have g1:upd H p (.lst (as.map V.ref)) p=some (.lst (as.map V.ref)):=aB
 generalize upd H p (.lst (as.map V.ref))=H1 at s1 g1 ⊢
 have h1:=h.same s1
 have np:=h.off hp
 refine⟨_,rfl,S.ps,_,rfl,kM.k (k:=Sum.inr "rows") h1.st (by show 7<sizeLine; decide),?_⟩
 have e2:eI (stK S M) (Sum.inr "rows") (.ref p)=stK { S with pr:=p,rs:=as } M:=rfl
 rw[e2]
 have g2:upd H1 S.ps (.dK (stK { S with pr:=p,rs:=as } M)) S.ps=some (.dK (stK { S with pr:=p,rs:=as } M)):=aB
 have st2:=bW h1 (b:=S.ps) (by unfold stL; simp) (.dK (stK { S with pr:=p,rs:=as } M))
 have k2:∀ c o,H1 c=some o->c≠S.ps->upd H1 S.ps (.dK (stK { S with pr:=p,rs:=as } M)) c=some o:=fun c o e n=>by rw[aF n]; exact e
 generalize upd H1 S.ps (.dK (stK { S with pr:=p,rs:=as } M))=H2 at g2 st2 k2 ⊢
 refine⟨_,rfl,S.ps,_,rfl,cS.k (k:=Sum.inr "first") g2,_,_,rfl,rfl,_,kM.k (k:=Sum.inr "first") g2 (by show 7<sizeLine; decide),?_⟩
 have e3:eI (stK { S with pr:=p,rs:=as } M) (Sum.inr "first") (.int (M.first+1))=stK { S with pr:=p,rs:=as } { M with rows:=rs,first:=M.first+1 }:=rfl
 rw[e3]
 have nd:=h.nd
 unfold stL at nd
 rw[eas]at nd
 simp only[nodup_cons,mem_cons,not_or]at nd
 obtain⟨⟨n01,n02,n03,n04,n05,n06⟩,⟨n12,n13,n14,n15,n16⟩,⟨n23,n24,n25,n26⟩,⟨n34,n35,n36⟩,⟨n45,n46⟩,n56,ndas⟩:=nd
 unfold stL at np
 rw[eas]at np
 simp only[mem_cons,not_or]at np
 obtain⟨p0,p1,p2,p3,p4,p5,p6⟩:=np
 have k3:∀ c o,H1 c=some o->c≠S.ps->upd H2 S.ps (.dK (stK { S with pr:=p,rs:=as } { M with rows:=rs,first:=M.first+1 })) c=some o:=fun c o e n=>by rw[aF n]; exact k2 c o e n
 have t3:fS H1 (upd H2 S.ps (.dK (stK { S with pr:=p,rs:=as } { M with rows:=rs,first:=M.first+1 }))):=fun b xs e=>k3 b _ e (fun z=>by rw[z,h1.st]at e; cases e)
 obtain⟨kl,l1,l2⟩:=h1.ls
 obtain⟨kh,l3,l4⟩:=h1.hs
 have rr:=h1.rr
 rw[er,eas]at rr
 refine q { S with pr:=p,rs:=as } _ ⟨rfl,fun b o e nb=>k3 b o (s1 _ _ e) (fun z=>nb (by unfold stL; rw[z]; exact mem_cons_self)),fun b hb=>?_,(aG.tup s1).trans t3⟩ ⟨aB,⟨kl,k3 _ _ l1 (fun z=>n01 z.symm),l2.imp fun a v=>pH.t t3⟩,⟨kh,k3 _ _ l3 (fun z=>n02 z.symm),l4.imp fun a v=>pK.t t3⟩,k3 _ _ g1 p0,rr.2.keep t3 (fun a ha o e=>k3 a o e (fun z=>n06 (by rw[<- z]; exact ha))),k3 _ _ h1.wh (fun z=>n04 z.symm),?_⟩
 ·have hb:b∈S.ps::S.pl::S.ph::p::S.pw::as:=hb
  simp only[mem_cons]at hb
  unfold stL
  rw[eas]
  simp only[mem_cons]
  rcases hb with z | z | z | z | z | z
  ·exact .inl (.inl z)
  ·exact .inl (.inr (.inl z))
  ·exact .inl (.inr (.inr (.inl z)))
  ·exact .inr (by rw[z]; exact hp)
  ·exact .inl (.inr (.inr (.inr (.inr (.inl z)))))
  ·exact .inl (.inr (.inr (.inr (.inr (.inr (.inr z))))))
 ·show (S.ps::S.pl::S.ph::p::S.pw::as).Nodup
  simp only[nodup_cons,mem_cons,not_or]
  exact⟨⟨n01,n02,fun z=>p0 z.symm,n04,n06⟩,⟨n12,fun z=>p1 z.symm,n14,n16⟩,⟨fun z=>p2 z.symm,n24,n26⟩,⟨p4,p6⟩,n46,ndas⟩
end
structure Nds (S:Sl):Prop where
 ps:S.ps≠S.pl/\S.ps≠S.ph/\S.ps≠S.pr/\S.ps≠S.pw/\S.ps ∉ S.rs
 pl:S.pl≠S.ph/\S.pl≠S.pr/\S.pl≠S.pw/\S.pl ∉ S.rs
 ph:S.ph≠S.pr/\S.ph≠S.pw/\S.ph ∉ S.rs
 pr:S.pr≠S.pw/\S.pr ∉ S.rs
 pw:S.pw ∉ S.rs
 rs:S.rs.Nodup
def nds:(stL S).Nodup ↔ Nds S:=by
 unfold stL
 simp only[nodup_cons,mem_cons,not_or]
 exact⟨fun⟨a,b,c,d,e,f⟩=>⟨a,b,c,d,e,f⟩,fun⟨a,b,c,d,e,f⟩=>⟨a,b,c,d,e,f⟩⟩
section
variable {H:Hp} {S:Sl} {M:Ms}
def KU:S.ps∈stL S:=mem_cons_self
def Gs:S.pl∈stL S:=mem_cons_of_mem _ mem_cons_self
def Ii:S.ph∈stL S:=mem_cons_of_mem _ (mem_cons_of_mem _ mem_cons_self)
def KW:S.pr∈stL S:=mem_cons_of_mem _ (mem_cons_of_mem _ (mem_cons_of_mem _ mem_cons_self))
def KS:S.pw∈stL S:=mem_cons_of_mem _ (mem_cons_of_mem _ (mem_cons_of_mem _ (mem_cons_of_mem _ mem_cons_self)))
def m_rs (h:a∈S.rs):a∈stL S:=mem_append_right [S.ps,S.pl,S.ph,S.pr,S.pw] h
def StAt.setF (h:StAt H S M) (M':Ms) (e1:M'.ls=M.ls) (e2:M'.hs=M.hs) (e3:M'.rows=M.rows) (e4:M'.wh=M.wh):StAt (upd H S.ps (.dK (stK S M'))) S M':=by
 have n:=nds.mp h.nd
 have st:=bW h KU (.dK (stK S M'))
 obtain⟨kl,l1,l2⟩:=h.ls
 obtain⟨kh,l3,l4⟩:=h.hs
 refine⟨aB,⟨kl,by rw[aF n.ps.1.symm]; exact l1,by rw[e1]; exact l2.imp fun a v=>pH.t st.tup⟩,⟨kh,by rw[aF n.ps.2.1.symm]; exact l3,by rw[e2]; exact l4.imp fun a v=>pK.t st.tup⟩,by rw[aF n.ps.2.2.1.symm]; exact h.rw,by rw[e3]; exact h.rr.keep st.tup (fun a ha o e=>by rw[aF (fun z=>n.ps.2.2.2.2 (by rw[<- z]; exact ha))]; exact e),by rw[aF n.ps.2.2.2.1.symm,e4]; exact h.wh,h.nd⟩
def StAt.setL (h:StAt H S M) (r:TR (pH H) ls' kl'):StAt (upd H S.pl (.dK kl')) S { M with ls:=ls' }:=by
 have n:=nds.mp h.nd
 have st:=bW h Gs (.dK kl')
 obtain⟨kh,l3,l4⟩:=h.hs
 exact⟨by rw[aF n.ps.1]; exact h.st,⟨kl',aB,r.imp fun a v=>pH.t st.tup⟩,⟨kh,by rw[aF n.pl.1.symm]; exact l3,l4.imp fun a v=>pK.t st.tup⟩,by rw[aF n.pl.2.1.symm]; exact h.rw,h.rr.keep st.tup (fun a ha o e=>by rw[aF (fun z=>n.pl.2.2.2 (by rw[<- z]; exact ha))]; exact e),by rw[aF n.pl.2.2.1.symm]; exact h.wh,h.nd⟩
def StAt.setH (h:StAt H S M) (r:TR (pK H) hs' kh'):StAt (upd H S.ph (.dK kh')) S { M with hs:=hs' }:=by
 have n:=nds.mp h.nd
 have st:=bW h Ii (.dK kh')
 obtain⟨kl,l1,l2⟩:=h.ls
 exact⟨by rw[aF n.ps.2.1]; exact h.st,⟨kl,by rw[aF n.pl.1]; exact l1,l2.imp fun a v=>pH.t st.tup⟩,⟨kh',aB,r.imp fun a v=>pK.t st.tup⟩,by rw[aF n.ph.1.symm]; exact h.rw,h.rr.keep st.tup (fun a ha o e=>by rw[aF (fun z=>n.ph.2.2 (by rw[<- z]; exact ha))]; exact e),by rw[aF n.ph.2.1.symm]; exact h.wh,h.nd⟩
def StAt.setW (h:StAt H S M) (wh':List (Int × Int)):StAt (upd H S.pw (.dK (wsK wh'))) S { M with wh:=wh' }:=by
 have n:=nds.mp h.nd
 have st:=bW h KS (.dK (wsK wh'))
 obtain⟨kl,l1,l2⟩:=h.ls
 obtain⟨kh,l3,l4⟩:=h.hs
 exact⟨by rw[aF n.ps.2.2.2.1]; exact h.st,⟨kl,by rw[aF n.pl.2.2.1]; exact l1,l2.imp fun a v=>pH.t st.tup⟩,⟨kh,by rw[aF n.ph.2.1]; exact l3,l4.imp fun a v=>pK.t st.tup⟩,by rw[aF n.pr.1]; exact h.rw,h.rr.keep st.tup (fun a ha o e=>by rw[aF (fun z=>n.pw (by rw[<- z]; exact ha))]; exact e),aB,h.nd⟩
def StAt.addSeg (h:StAt H S M) (g:H pg=some (.lst xs)) (d:aR H (r.map cA) xs) (np:pg ∉ stL S):StAt (upd H S.pr (.lst ((S.rs++[pg]).map V.ref))) { S with rs:=S.rs++[pg] } { M with rows:=M.rows++[r] }:=by
 have n:=nds.mp h.nd
 have st:=bW h KW (.lst ((S.rs++[pg]).map V.ref))
 obtain⟨kl,l1,l2⟩:=h.ls
 obtain⟨kh,l3,l4⟩:=h.hs
 have np':=np
 unfold stL at np'
 simp only[mem_cons,not_or]at np'
 obtain⟨p1,p2,p3,p4,p5,p6⟩:=np'
 refine⟨by rw[aF n.ps.2.2.1]; exact h.st,⟨kl,by rw[aF n.pl.2.1]; exact l1,l2.imp fun a v=>pH.t st.tup⟩,⟨kh,by rw[aF n.ph.1]; exact l3,l4.imp fun a v=>pK.t st.tup⟩,aB,RsR.snoc (by rw[aF p4]; exact g) (fO st.tup (jW _) d) (h.rr.keep st.tup (fun a ha o e=>by rw[aF (fun z=>n.pr.2 (by rw[<- z]; exact ha))]; exact e)),by rw[aF n.pr.1.symm]; exact h.wh,nds.mpr ?_⟩
 have ap:∀ {x:Addr},x ∉ S.rs->pg≠x->x ∉ S.rs++[pg]:=fun a b z=>by
  rw[mem_append,mem_singleton]at z
  exact z.elim a (fun y=>b y.symm)
 refine⟨⟨n.ps.1,n.ps.2.1,n.ps.2.2.1,n.ps.2.2.2.1,ap n.ps.2.2.2.2 p1⟩,⟨n.pl.1,n.pl.2.1,n.pl.2.2.1,ap n.pl.2.2.2 p2⟩,⟨n.ph.1,n.ph.2.1,ap n.ph.2.2 p3⟩,⟨n.pr.1,ap n.pr.2 p4⟩,ap n.pw p5,?_⟩
 rw[nodup_append]
 refine⟨n.rs,by simp,fun a ha b hb=>?_⟩
 rw[mem_singleton.mp hb]
 exact fun z=>p6 (by rw[<- z]; exact ha)
def StAt.addRow (h:StAt H S M) (eM:M.rows=rows0++[r0]) (eS:S.rs=as++[a]) (hr:RsR H rows0 as) (ga:H a=some (.lst xs0)) (d0:aR H (r0.map cA) xs0) (dv:Den H (cA r) v):StAt (upd H a (.lst (xs0++[v]))) S { M with rows:=rows0++[r0++[r]] }:=by
 have n:=nds.mp h.nd
 have ma:a∈S.rs:=by rw[eS]; exact mem_append_right _ (mem_singleton.mpr rfl)
 have st:=bW h (m_rs ma) (.lst (xs0++[v]))
 obtain⟨kl,l1,l2⟩:=h.ls
 obtain⟨kh,l3,l4⟩:=h.hs
 have na:∀ {x:Addr},x ∉ S.rs->x≠a:=fun hx z=>hx (by rw[z]; exact ma)
 have nas:∀ x∈as,x≠a:=fun x hx z=>by
  have:=n.rs
  rw[eS,nodup_append]at this
  exact this.2.2 x hx a (mem_singleton.mpr rfl) z
 refine⟨by rw[aF (na n.ps.2.2.2.2)]; exact h.st,⟨kl,by rw[aF (na n.pl.2.2.2)]; exact l1,l2.imp fun a v=>pH.t st.tup⟩,⟨kh,by rw[aF (na n.ph.2.2)]; exact l3,l4.imp fun a v=>pK.t st.tup⟩,by rw[aF (na n.pr.2)]; exact h.rw,?_,by rw[aF (na n.pw)]; exact h.wh,h.nd⟩
 rw[eS]
 refine RsR.snoc aB ?_ (hr.keep st.tup fun x hx o e=>by rw[aF (nas x hx)]; exact e)
 rw[map_append]
 exact(fO st.tup (jW _) d0).app (iZ (BU st.tup (k8 _ _ _) dv))
end
abbrev AX:Stmt:=top 76
def jG (M:Ms):Lp:=M.rows.getLastD []
def dQ (M:Ms) (most:Int):Ms:=if most<=Fo (jG M) then { M with rows:=M.rows++[([("from",M.after,[])]:Lp)] } else M
def rZ (k:Str):Bool:=inV (.str k) [V.str "put",.str "part",.str "carried"]
def fA (M:Ms) (r:Rw):Ms:={ M with rows:=M.rows.dropLast++[jG M++[r]],wh:=if rZ r.1=true then rV M.wh r.2.1 (M.first+(M.rows.length:Int) - 1) else M.wh }
def eJ (M:Ms) (rs:Lp) (most:Int):Ms:=rs.foldl fA (dQ M most)
inductive jS (vs:Ln) (H:Hp) (Q:VK) (x_3:XK):Prop
 | mk:∀ (S:Sl) (M:Ms) (l:Addr) (rs:Lp) (xs:Ln) (most:Int) (n:Nat),vs=[.ref S.ps,.ref l,.int most]->StAt H S M->M.rows≠[]->M.rows.length<=n->(∀ s∈M.rows,s.length<=n)->n+rs.length<=90000->M.wh.length+rs.length<=90000->H l=some (.lst xs)->l ∉ stL S->aR H (rs.map cA) xs->(∀ S' H',StepS S S' H H'->StAt H' S' (eJ M rs most)->Q .non H')->jS vs H Q x_3
def lH {α : Type} {l:List α} (h:l≠[]) (d:α):l=l.dropLast++[l.getLastD d]:=by
 obtain⟨a,x,rfl⟩:∃ a x,l=a++[x]:=⟨l.dropLast,l.getLast h,(List.dropLast_concat_getLast h).symm⟩
 rw[List.dropLast_concat,List.getLastD_concat]
def DZ (h1:M.rows≠[]) (h2:M.rows.length<=n) (h3:∀ s∈M.rows,s.length<=n):(dQ M most).rows≠[]/\(dQ M most).rows.length<=n+1/\(∀ s∈(dQ M most).rows,s.length<=n+1)/\(dQ M most).wh=M.wh:=by
 unfold dQ
 split
 ·refine⟨by simp,by rw[length_append]; show M.rows.length+1<=_; omega,fun s hs=>?_,rfl⟩
  rcases mem_append.mp hs with z | z
  ·have:=h3 s z
   omega
  ·rw[mem_singleton.mp z]
   show 1<=n+1
   omega
 ·exact⟨h1,by omega,fun s hs=>by have:=h3 s hs; omega,rfl⟩
def vM (M:Ms) (r:Rw) (h:M.rows≠[]):(fA M r).rows≠[]/\(fA M r).rows.length=M.rows.length/\(fA M r).wh.length<=M.wh.length+1/\∀ n,(∀ s∈M.rows,s.length<=n)->∀ s∈(fA M r).rows,s.length<=n+1:=by
 have e:=lH h []
 refine⟨by unfold fA; simp,?_,?_,fun n hn s hs=>?_⟩
 ·show (M.rows.dropLast++[jG M++[r]]).length=_
  have:=congrArg List.length e
  rw[length_append]at this
  rw[length_append]
  show M.rows.dropLast.length+1=_
  exact this.symm
 ·unfold fA
  show (if rZ r.1=true then rV M.wh r.2.1 (M.first+(M.rows.length:Int) - 1) else M.wh).length<=_
  split
  ·unfold rV
   split
   ·rw[length_map]; omega
   ·rw[length_append]; exact le_refl _
  ·omega
 ·have hs:s∈M.rows.dropLast++[jG M++[r]]:=hs
  rcases mem_append.mp hs with z | z
  ·have:=hn s (by rw[e]; exact mem_append_left _ z)
   omega
  ·rw[mem_singleton.mp z,length_append]
   have:=hn (jG M) (by rw[e]; exact mem_append_right _ (mem_singleton.mpr rfl))
   show (jG M).length+1<=_
   omega
section
variable {P:Program} {w:World} {K:K6} {mg:K8} {base:Heap} {A:Ad}
def Ed (F:Fun K "_law_write" "_law_write" AX f fd) (T:‹3›) (ao8:‹16› "_law_size" 1 ["_law_rows"] tG):‹15› 2 f fd ["_law_state","_law_rows","_law_most"] jS:=by
 refine F.okY ["_law_state","_law_rows","_law_most","_law_row"] fun cdv A' outer s H vs Q E hr nD0 h=>?_
 obtain⟨S,M,l,rs,xs,most,n,rfl,h,hne,hrl,hsl,hn,hw,gl,nl,dl,q⟩:=h
 refine⟨_,aA (bA (aQ GX (a9 ao8 ‹19› aX (aN (cD (cH K) ‹22› (Av sR aI) (fun _ _=>rfl)) aH)) (pv 2) (bD _))
   (aC (aU (iU K PySem.F.plainAttrs_list PySem.F.slot_list_append PySem.F.type_list_append iG ‹22› (fH (cB (bU (bE (aM bL (aN ‹22› ‹46›))) aH)) aH))))
   aO)
  (aC (fY (lQ eO) ⋯ (bT K (pv 1)) ‹54›
   (aA (aU (iU K PySem.F.plainAttrs_list PySem.F.slot_list_append PySem.F.type_list_append iG (cD (cH K) ‹22› (Av sR aI) (fun _ _=>rfl)) ‹50›))
   (aC (bA (aQ (CJ K) ‹38› (bE ‹91›) ⋯)
    (aC (fT (hu1 hr.units) ‹22› ‹38› (bB jP (bB cO ‹22› (bF (dC K) ⋯ T.ad2 fV ‹92›)) aI) ⋯))
    aO))))),?_⟩
 obtain⟨rows0,erows⟩:∃ rows0,rows0=M.rows.dropLast:=⟨_,rfl⟩
 have eM:M.rows=rows0++[jG M]:=by rw[erows]; exact lH hne []
 obtain⟨as,a,xs0,eS,hr0,ga,d0⟩:=RsR.split (by rw[<- eM]; exact h.rr)
 have lrn:(jG M).length<=n:=hsl _ (by rw[eM]; exact mem_append_right _ (mem_singleton.mpr rfl))
 obtain⟨o1,o2,o3,o4⟩:=DZ (most:=most) hne hrl hsl
 refine Fr (fun σ' H'=>∃ S1,σ'=[some (.ref S.ps),some (.ref l),some (.int most),none]/\StepS S S1 H H'/\StAt H' S1 (dQ M most)/\H' l=some (.lst xs)/\l ∉ stL S1/\aR H' (rs.map cA) xs) (fun nx hnx=>?_) ?_
 ·refine⟨_,rfl,S.ps,_,rfl,h.g_rows,1,rfl,S.pr,_,_,.ref a,rfl,rfl,SqL.of h.rw,(by rw[eS,map_append]; exact Bh _ _),a,jG M,xs0,rfl,ga,d0,by omega,fun H1 s1=>?_⟩
  have h1:=h.same s1
  refine⟨_,rfl,_,_,rfl,rfl,_,rfl,?_⟩
  by_cases hm:most<=Fo (jG M)
  ·rw[decide_eq_true hm]
   refine aT ⟨_,rfl,S.ps,_,rfl,h1.g_rows,.inl ⟨rfl,_,SqL.of h1.rw⟩,_,rfl,S.ps,_,rfl,h1.g_after,aJ,fun pe hpe=>⟨aJ,fun pt hpt=>⟨aJ,fun pg hpg=>?_⟩⟩⟩
   have v1:=aD (o:=.tup []) hpe
   have w1:upd H1 pe (.tup []) pe=some (.tup []):=aB
   generalize upd H1 pe (.tup [])=H2 at v1 w1 hpt hpg ⊢
   have v2:=aD (o:=.tup [.str "from",.int M.after,.ref pe]) hpt
   have w2:upd H2 pt (.tup [.str "from",.int M.after,.ref pe]) pt=some (.tup [.str "from",.int M.after,.ref pe]):=aB
   generalize upd H2 pt (.tup [.str "from",.int M.after,.ref pe])=H3 at v2 w2 hpg ⊢
   have v3:=aD (o:=.lst [.ref pt]) hpg
   have w3:upd H3 pg (.lst [.ref pt]) pg=some (.lst [.ref pt]):=aB
   have h3:=h1.same (v1.trans v2)
   have np:=h3.off hpg
   generalize upd H3 pg (.lst [.ref pt])=H4 at v3 w3 ⊢
   have s4:=s1.trans (v1.trans (v2.trans v3))
   have h4:=h.same s4
   have dg:aR H4 (([("from",M.after,[])]:Lp).map cA) [.ref pt]:=by
    show aR _ [cA ("from",M.after,[])] [.ref pt]
    unfold cA fN
    simp only[Den,aR,map_nil]
    exact⟨_,_,rfl,⟨pt,_,rfl,v3 _ _ w2,_,_,rfl,rfl,_,_,rfl,rfl,_,_,rfl,⟨pe,_,rfl,v3 _ _ (v2 _ _ w1),rfl⟩,rfl⟩,rfl⟩
   refine⟨S.pr,_,.ref pg,rfl,rfl,h4.rw,?_,?_⟩
   ·rw[length_map,h4.rr.len]
    exact lt_of_le_of_lt (show _<=90000 by omega) (by decide)
   rw[show S.rs.map V.ref++[.ref pg]=(S.rs++[pg]).map V.ref by rw[map_append]; rfl]
   have h5:=h4.addSeg w3 dg np
   have st5:=bW h4 KW (.lst ((S.rs++[pg]).map V.ref))
   have nlp:l≠S.pr:=fun z=>nl (by rw[z]; exact KW)
   refine hnx _ _ ⟨{ S with rs:=S.rs++[pg] },rfl,⟨rfl,fun b o e nb=>st5.frm b o (s4 _ _ e) nb,fun b hb=>?_,(aG.tup s4).trans st5.tup⟩,?_,by rw[aF nlp]; exact s4 _ _ gl,fun z=>?_,fO ((aG.tup s4).trans st5.tup) (jW _) dl⟩
   ·have hb:b∈[S.ps,S.pl,S.ph,S.pr,S.pw]++(S.rs++[pg]):=hb
    rw[<- append_assoc,mem_append,mem_singleton]at hb
    rcases hb with z | z
    ·exact .inl z
    ·rw[z]
     exact .inr ((s1.trans (v1.trans v2)).free hpg)
   ·unfold dQ
    rw[if_pos hm]
    exact h5
   ·have hb:l∈[S.ps,S.pl,S.ph,S.pr,S.pw]++(S.rs++[pg]):=z
    rw[<- append_assoc,mem_append,mem_singleton]at hb
    rcases hb with z | z
    ·exact nl z
    ·rw[z]at gl
     rw[(s1.trans (v1.trans v2)) _ _ gl]at hpg
     cases hpg
  ·rw[decide_eq_false hm]
   refine bC (hnx _ _ ⟨S,rfl,aG.stepS s1,?_,s1 _ _ gl,nl,dl.same s1⟩)
   unfold dQ
   rw[if_neg hm]
   exact h1
 rintro σ' H1 ⟨S1,rfl,st1,h1,gl1,nl1,dl1⟩
 have ln:=dl1.length
 rw[length_map]at ln
 obtain⟨M1,eM1⟩:∃ M1,M1=dQ M most:=⟨_,rfl⟩
 rw[<- eM1]at h1 o1 o2 o3 o4
 refine⟨_,rfl,l,rfl,⟨_,SqL.of gl1⟩,?_⟩
 refine mF (bS (K:=K) (H:=upd (fun _=>none) l (.lst xs)) (SqL.of aB)) (fun i σ H'=>∃ z3,σ = [some (.ref S.ps),some (.ref l),some (.int most),z3]/\StepS S1 S1 H1 H'/\StAt H' S1 ((rs.take i).foldl fA M1)/\((rs.take i).foldl fA M1).rows≠[]/\((rs.take i).foldl fA M1).rows.length=M1.rows.length/\((rs.take i).foldl fA M1).wh.length<=M.wh.length+i/\(∀ s∈((rs.take i).foldl fA M1).rows,s.length<=n+1+i)) ⟨none,rfl,aG.stepS (aG.refl _),h1,o1,rfl,by rw[<- o4]; exact le_refl _,o3⟩ (fun i σ H' hh b o e=>?_) ?_ ?_
 ·obtain⟨_,_,st,_⟩:=hh
  by_cases y:b=l
  ·subst y
   rw[aB]at e
   injection e with e
   rw[<- e]
   exact st.frm _ _ gl1 nl1
  ·rw[aF y]at e
   cases e
 ·rintro D' i x σ H5 H6 hD' - hi ⟨z3,rfl,st,hi5,ne5,rl5,wl5,sl5⟩ s6 hx
  have hx:xs[i]? = some x:=hx
  have hi:i<xs.length:=hi
  have st6:=st.trans (aG.stepS s6)
  obtain⟨dd,hdd,dr⟩:=(fO st6.tup (jW _) dl1).get hx
  rw[getElem?_map]at hdd
  obtain⟨r,er⟩:∃ r,rs[i]? = some r:=⟨_,getElem?_eq_getElem (by omega)⟩
  rw[er]at hdd
  cases hdd
  obtain⟨t,bb,rfl,gt,gb⟩:=o0 dr
  have tk:(rs.take (i+1)).foldl fA M1=fA ((rs.take i).foldl fA M1) r:=by
   rw[take_succ,er]
   show ((rs.take i++[r]).foldl fA M1)=_
   rw[List.foldl_append]
   rfl
  have h6:=hi5.same s6
  obtain⟨Mi,eMi⟩:∃ Mi,Mi=(rs.take i).foldl fA M1:=⟨_,rfl⟩
  rw[<- eMi]at h6 ne5 rl5 wl5 sl5 tk
  have eMr:Mi.rows=Mi.rows.dropLast++[jG Mi]:=lH ne5 []
  obtain⟨as6,a6,xs6,eS6,hr6,ga6,d6⟩:=RsR.split (by rw[<- eMr]; exact h6.rr)
  have lrn6:(jG Mi).length<=n+1+i:=sl5 _ (by rw[eMr]; exact mem_append_right _ (mem_singleton.mpr rfl))
  have l6:=d6.length
  rw[length_map]at l6
  refine⟨_,rfl,S1.ps,_,(by rw[st1.ps]),h6.g_rows,1,rfl,S1.pr,_,_,.ref a6,rfl,rfl,SqL.of h6.rw,(by rw[eS6,map_append]; exact Bh _ _),.inl ⟨rfl,_,SqL.of ga6⟩,_,rfl,a6,xs6,.ref t,rfl,rfl,ga6,lt_of_le_of_lt (show _<=200000 by omega) (by decide),?_⟩
  have h7:=h6.addRow (v:=.ref t) (r:=r) eMr eS6 hr6 ga6 d6 dr
  have st7:=bW h6 (m_rs (by rw[eS6]; exact mem_append_right _ (mem_singleton.mpr rfl))) (.lst (xs6++[.ref t]))
  generalize upd H6 a6 (.lst (xs6++[.ref t]))=H7 at h7 st7 ⊢
  have gt7:=st7.tup _ _ gt
  refine⟨_,rfl,t,_,_,.str r.1,rfl,rfl,SqT.of gt7,aW (by decide) rfl,aJ,fun pk hpk=>?_⟩
  have v8:=aD (o:=.tup [.str "put",.str "part",.str "carried"]) hpk
  have w8:upd H7 pk (.tup [.str "put",.str "part",.str "carried"]) pk=some (.tup [.str "put",.str "part",.str "carried"]):=aB
  generalize upd H7 pk (.tup [.str "put",.str "part",.str "carried"])=H8 at v8 w8 ⊢
  have h8:=h7.same v8
  have st8:=st6.trans (st7.trans (aG.stepS v8))
  obtain⟨b1,b2,b3,b4⟩:=vM Mi r ne5
  refine⟨pk,_,rfl,.inr (SqT.of w8),rfl,rfl,_,rfl,?_⟩
  show if rZ r.1=true then _ else _
  cases hb:rZ r.1 with
  | true=>
   refine aT ⟨_,rfl,S1.ps,_,(by rw[st1.ps]),h8.g_first,_,rfl,S1.ps,_,(by rw[st1.ps]),h8.g_rows,S1.pr,_,rfl,.inl (SqL.of h8.rw),_,_,rfl,rfl,_,_,rfl,rfl,_,rfl,S1.ps,_,(by rw[st1.ps]),h8.g_where,_,rfl,t,_,_,.int r.2.1,rfl,rfl,SqT.of (v8 _ _ gt7),aW (by decide) rfl,S1.pw,_,rfl,kM.k (k:=Sum.inl r.2.1) h8.wh ?_,?_⟩
   ·unfold wsK
    rw[length_map]
    exact lt_of_le_of_lt (show Mi.wh.length<=90000 by omega) (by decide)
   have el:((S1.rs.map V.ref).length:Int)=(Mi.rows.length:Int):=by rw[length_map,h6.rr.len]
   rw[el,Hf]
   have h9:=h8.setW (rV Mi.wh r.2.1 (Mi.first+(Mi.rows.length:Int) - 1))
   have st9:=bW h8 KS (.dK (wsK (rV Mi.wh r.2.1 (Mi.first+(Mi.rows.length:Int) - 1))))
   refine hD' _ _ ⟨_,rfl,st8.trans st9,?_,by rw[tk]; exact b1,by rw[tk,b2]; exact rl5,by rw[tk]; omega,by rw[tk]; exact fun s hs=>b4 _ sl5 s hs⟩
   rw[tk]
   unfold fA
   rw[if_pos hb]
   exact h9
  | false=>
   refine bC (hD' _ _ ⟨_,rfl,st8,?_,by rw[tk]; exact b1,by rw[tk,b2]; exact rl5,by rw[tk]; omega,by rw[tk]; exact fun s hs=>b4 _ sl5 s hs⟩)
   rw[tk]
   unfold fA
   rw[if_neg (by rw[hb]; decide)]
   exact h8
 rintro σ H5 ⟨z3,rfl,st,h5,_⟩
 rw[ln,take_length,eM1]at h5
 exact q S1 H5 (st1.trans st) h5
end
abbrev AY:Stmt:=top 77
abbrev F1:Stmt:=top 78
def iP (M:Ms):Lc:=(M.ls.map (·.1)).filter fun n=>decide (n ∉ M.hs.map (·.1))
inductive qA (vs:Ln) (H:Hp) (Q:VK) (x_3:XK):Prop
 | mk:∀ (S:Sl) (M:Ms) (tries:Int),vs=[.ref S.ps,.int tries]->StAt H S M->(M.ls.map (·.1)).Pairwise (· < ·)->M.ls.length<=1000->(∀ (P:Int->Bool) p p1 p2 H',aG H H'->H' p=some (.tup [.ref p1,.ref p2])->H' p1=some (.lst (((iP M).filter P).map V.int))->H' p2=some (.lst (((iP M).filter fun n=>decide (n ∉ (iP M).filter P)).map V.int))->H p1=none->H p2=none->Q (.ref p) H')->qA vs H Q x_3
def gI (M:Ms) (b:Lc):Ms:={ M with ls:=iB M.ls M.after (b,0),after:=M.after+1 }
def CF (M:Ms) (bss:K9) (rs:Lp) (most:Int):Ms:=bss.foldl gI (eJ M rs most)
inductive yV (vs:Ln) (H:Hp) (Q:VK) (x_3:XK):Prop
 | mk:∀ (S:Sl) (M:Ms) (ab l:Addr) (bss:K9) (ys:Ln) (rs:Lp) (xs:Ln) (most:Int) (n:Nat),vs=[.ref S.ps,.ref ab,.int most,.ref l]->StAt H S M->M.rows≠[]->M.rows.length<=n->(∀ s∈M.rows,s.length<=n)->n+rs.length<=90000->M.wh.length+rs.length<=90000->H l=some (.lst xs)->l ∉ stL S->aR H (rs.map cA) xs->(H ab=some (.lst ys)\/H ab=some (.tup ys))->ab ∉ stL S->aR H (dX bss) ys->M.ls.length+bss.length<=90000->(∀ S' H',StepS S S' H H'->StAt H' S' (CF M bss rs most)->Q .non H')->yV vs H Q x_3
def AF:∀ (rs:Lp) (M:Ms),(rs.foldl fA M).ls=M.ls/\(rs.foldl fA M).hs=M.hs/\(rs.foldl fA M).after=M.after/\(rs.foldl fA M).time=M.time/\(rs.foldl fA M).first=M.first
 | [],M=>⟨rfl,rfl,rfl,rfl,rfl⟩
 | r::rs,M=>AF rs (fA M r)
def IQ (M:Ms) (most:Int):(dQ M most).ls=M.ls/\(dQ M most).hs=M.hs/\(dQ M most).after=M.after/\(dQ M most).time=M.time/\(dQ M most).first=M.first:=by
 unfold dQ
 split <;> exact⟨rfl,rfl,rfl,rfl,rfl⟩
def fW (M:Ms) (rs:Lp) (most:Int):(eJ M rs most).ls=M.ls/\(eJ M rs most).hs=M.hs/\(eJ M rs most).after=M.after/\(eJ M rs most).time=M.time/\(eJ M rs most).first=M.first:=by
 obtain⟨a,b,c,d,e⟩:=AF rs (dQ M most)
 obtain⟨a',b',c',d',e'⟩:=IQ M most
 exact⟨a.trans a',b.trans b',c.trans c',d.trans d',e.trans e'⟩
def Bf:∀ (bss:K9) (M:Ms),(bss.foldl gI M).ls.length<=M.ls.length+bss.length
 | [],M=>le_refl _
 | b::bss,M=>by
  have h:=Bf bss (gI M b)
  have:(gI M b).ls.length<=M.ls.length+1:=by
   show (iB M.ls M.after (b,0)).length<=_
   unfold iB
   split
   ·rw[length_map]; omega
   ·rw[length_append]; exact le_refl _
  rw[length_cons]
  show (bss.foldl gI (gI M b)).ls.length<=_
  omega
section
variable {P:Program} {w:World} {K:K6} {mg:K8} {base:Heap} {A:Ad}
def Ee (F:Fun K "_law_ready" "_law_ready" AY f fd) (T:‹3›):‹15› 1 f fd ["_law_state","_law_tries"] qA:=by
 refine F.okY ["_law_state","_law_tries","_law_some","_law_ready_here"] fun cdv A' outer s H vs Q E hr nD0 h=>?_
 obtain⟨S,M,tries,rfl,h,so,hl,q⟩:=h
 refine⟨_,aA (mU (i:=2) ["_law_number"] [("_law_state",0)] nD0 ⋯ ⋯ ⋯ (bT K (bF (gH ⋯) ⋯ T.af4 iJ ‹92›)) (fun C s2 H2 ex=>(bG (i:=0) ‹51› ⋯ (Or.inl ⋯))) (fun C s2 H2 ex=>(gW (nT (mV (hu1 hr.units) (pv 0) ‹61›)))) ‹65›)
  (aA (a7 (i:=3) nD0 ⋯ ⋯ (c9 ["_law_number"] [("_law_state",0),("_law_tries",1)] ⋯ (bT K (pv 2)) (fun C s2 H2 ex=>(bG (i:=0) (show List.Nodup (["_law_number","_law_state","_law_tries"]:Ld) by decide +kernel) ⋯ (Or.inl ⋯))) (fun C s2 H2 ex=>(gW (aQ uM (cD (cR K) (eC (hu1 hr.units) ‹61› (pv 0) (fun _ _=>rfl)) aI (fun _ _=>rfl)) (pv 2) (bD _)))) ‹65›))
  (aC (aP (bE (aE (pv 3) (dW (c9 ["_law_number"] [("_law_ready_here",3)] ⋯ (bT K (pv 2)) (fun C s2 H2 ex=>(bG (i:=0) (show List.Nodup (["_law_number","_law_ready_here"]:Ld) by decide +kernel) ⋯ (Or.inl ⋯))) (fun C s2 H2 ex=>(gW (aQ (kB K) (pv 0) (pv 1) ⋯))) ‹65›) aH)))))),?_⟩
 obtain⟨kl,l1,l2⟩:=h.ls
 obtain⟨kh,l3,l4⟩:=h.hs
 refine⟨_,rfl,S.ps,_,rfl,h.g_letters,S.pl,kl,M.ls.map (·.1),rfl,l1,l2.keys,.inr (so.imp le_of_lt),by rw[length_map]; omega,fun p ms perm pw hp=>?_⟩
 have em:ms=M.ls.map (·.1):=cY perm pw (so.imp le_of_lt)
 subst em
 have s1:=aD (o:=.lst ((M.ls.map (·.1)).map V.int)) hp
 have g1:upd H p (.lst ((M.ls.map (·.1)).map V.int)) p=some (.lst ((M.ls.map (·.1)).map V.int)):=aB
 generalize upd H p (.lst ((M.ls.map (·.1)).map V.int))=H1 at s1 g1 ⊢
 obtain⟨ks,eks⟩:∃ ks,ks=M.ls.map (·.1):=⟨_,rfl⟩
 have lk:ks.length<=1000:=by rw[eks,length_map]; exact hl
 rw[<- eks]at g1
 have esm:iP M=ks.filter fun n=>decide (n ∉ M.hs.map (·.1)):=by rw[eks]; rfl
 refine⟨p,rfl,⟨_,SqL.of g1⟩,?_⟩
 refine fR (bS (K:=K) (SqL.of g1)) (by rw[length_map]; exact le_trans lk (by decide)) (fun j=>decide (ks.getD j 0 ∉ M.hs.map (·.1))) (fun j=>V.int (ks.getD j 0)) (fun σ=>∃ z,σ = [z,some (.ref S.ps)]) ⟨none,rfl⟩ ?_ ?_
 ·intro j x σc H3 hj hσ s3 hx Q1 Q2 Q3 h2' h3'
  obtain⟨z,rfl⟩:=hσ
  rw[getElem?_map]at hx
  cases e:ks[j]? with
  | none=>rw[e]at hx; cases hx
  | some n=>
   rw[e]at hx
   cases hx
   have eg:ks.getD j 0=n:=by rw[getD_eq_getElem?_getD,e]; rfl
   rw[eg]at h2' h3'
   have hs3:=h.same (s1.trans s3)
   have dg:=cS.k (k:=Sum.inl n) ((s1.trans s3) _ _ l3)
   refine⟨_,rfl,_,rfl,S.ps,_,rfl,hs3.g_hands,S.ph,_,rfl,dg,_,rfl,?_⟩
   by_cases hn:n∈M.hs.map (·.1)
   ·obtain⟨a,v,_,ev,_⟩:=l4.look hn
    rw[ev]
    exact bC (h3' _ ⟨_,rfl⟩ (decide_eq_false (fun z=>z hn)))
   ·rw[(l4.no hn).1]
    exact aT ⟨_,rfl,h2' _ ⟨_,rfl⟩ (decide_eq_true hn)⟩
 intro ps2 H2 hps2 s2 g2
 rw[length_map,gB ks (fun n=>decide (n ∉ M.hs.map (·.1))),<- esm]at g2
 obtain⟨sm,hsm⟩:∃ sm,sm=iP M:=⟨_,rfl⟩
 rw[<- hsm]at g2 q
 have smk:∀ n∈sm,n∈M.ls.map (·.1):=fun n hn=>by
  rw[hsm]at hn
  exact(mem_filter.mp hn).1
 have sml:sm.length<=1000:=by
  rw[hsm,esm]
  exact le_trans (length_filter_le _ _) lk
 have S2:=s1.trans s2
 have ht:∀ n:Int,∃ k:Int,n∈M.ls.map (·.1)->∃ t b,dM kl (Sum.inl n)=some (.ref t)/\H t=some (.tup [.ref b,.int k]):=fun n=>by
  by_cases hn:n∈M.ls.map (·.1)
  ·obtain⟨a,v,_,ev,t,b,e1,e2,_⟩:=l2.look hn
   exact⟨a.2,fun _=>⟨t,b,by rw[ev,e1],e2⟩⟩
  ·exact⟨0,fun z=>absurd z hn⟩
 obtain⟨tm,htm⟩:=Classical.axiomOfChoice ht
 refine⟨_,rfl,ps2,rfl,⟨_,SqL.of g2⟩,?_⟩
 refine fR (bS (K:=K) (SqL.of g2)) (by rw[length_map]; exact le_trans sml (by decide)) (fun j=>decide (tm (sm.getD j 0)<tries)) (fun j=>V.int (sm.getD j 0)) (fun σ=>∃ z,σ = [z,some (.ref S.ps),some (.int tries)]) ⟨none,rfl⟩ ?_ ?_
 ·intro j x σc H3 hj hσ s3 hx Q1 Q2 Q3 h2' h3'
  obtain⟨z,rfl⟩:=hσ
  rw[getElem?_map]at hx
  cases e:sm[j]? with
  | none=>rw[e]at hx; cases hx
  | some n=>
   rw[e]at hx
   cases hx
   have eg:sm.getD j 0=n:=by rw[getD_eq_getElem?_getD,e]; rfl
   rw[eg]at h2' h3'
   have hs3:=h.same (S2.trans s3)
   obtain⟨t,b,ev,gt⟩:=htm n (smk n (mem_of_getElem? e))
   have dg:=cS.k (k:=Sum.inl n) ((S2.trans s3) _ _ l1)
   rw[ev]at dg
   refine⟨_,rfl,S.ps,_,rfl,hs3.g_letters,_,rfl,S.pl,_,rfl,dg,t,_,_,.int (tm n),rfl,rfl,SqT.of ((S2.trans s3) _ _ gt),aW (by decide) rfl,_,rfl,_,_,rfl,rfl,_,rfl,?_⟩
   by_cases hn:tm n<tries
   ·rw[decide_eq_true hn]
    exact aT ⟨_,rfl,h2' _ ⟨_,rfl⟩ (decide_eq_true hn)⟩
   ·rw[decide_eq_false hn]
    exact bC (h3' _ ⟨_,rfl⟩ (decide_eq_false hn))
 intro pr3 H3 hpr3 s3 g3
 rw[length_map,gB sm (fun n=>decide (tm n<tries))]at g3
 have S3:=S2.trans s3
 refine⟨_,rfl,_,rfl,ps2,rfl,⟨_,SqL.of (s3 _ _ g2)⟩,?_⟩
 obtain⟨rd,erd⟩:∃ rd,rd=sm.filter (fun n=>decide (tm n<tries)):=⟨_,rfl⟩
 rw[<- erd]at g3
 refine fR (bS (K:=K) (SqL.of (s3 _ _ g2))) (by rw[length_map]; exact le_trans sml (by decide)) (fun j=>decide (sm.getD j 0 ∉ rd)) (fun j=>V.int (sm.getD j 0)) (fun σ=>∃ z,σ = [z,some (.ref pr3)]) ⟨none,rfl⟩ ?_ ?_
 ·intro j x σc H4 hj hσ s4 hx Q1 Q2 Q3 h2' h3'
  obtain⟨z,rfl⟩:=hσ
  rw[getElem?_map]at hx
  cases e:sm[j]? with
  | none=>rw[e]at hx; cases hx
  | some n=>
   rw[e]at hx
   cases hx
   have eg:sm.getD j 0=n:=by rw[getD_eq_getElem?_getD,e]; rfl
   rw[eg]at h2' h3'
   refine⟨_,rfl,_,rfl,pr3,_,rfl,.inl (SqL.of (s4 _ _ g3)),rfl,m4 _,_,rfl,?_⟩
   rw[if_pos rfl,pJ]
   by_cases hn:n∈rd
   ·rw[decide_eq_true hn]
    exact bC (h3' _ ⟨_,rfl⟩ (decide_eq_false (fun z=>z hn)))
   ·rw[decide_eq_false hn]
    exact aT ⟨_,rfl,h2' _ ⟨_,rfl⟩ (decide_eq_true hn)⟩
 intro pd4 H4 hpd4 s4 g4
 rw[length_map,gB sm (fun n=>decide (n ∉ rd))]at g4
 refine⟨aJ,fun pt hpt=>?_⟩
 have s5:=aD (o:=.tup [.ref pr3,.ref pd4]) hpt
 have S5:=S3.trans (s4.trans s5)
 refine q (fun n=>decide (tm n<tries)) pt pr3 pd4 _ S5 aB ?_ ?_ (S2.free hpr3) (S3.free hpd4)
 ·rw[<- erd]
  exact s5 _ _ (s4 _ _ g3)
 ·rw[<- erd]
  exact s5 _ _ g4
def Et (h:StAt H1 S M) (db:aR H1 (dX bss) ys) (hl:M.ls.length+bss.length<=90000) (k0:∀ H',StepS S S H1 H'->aG H0 H')
  (hwi:∀ R:It->Hp->Prop,(∀ J,Src J H0 ys.length (fun i x _=>ys[i]? = some x)->R J H1)->wi [some (.ref S.ps),some (.ref ab),some most,some (.ref l),z4] H1 R)
  (go:∀ H' z4,StepS S S H1 H'->StAt H' S (bss.foldl gI M)->D.nx [some (.ref S.ps),some (.ref ab),some most,some (.ref l),z4] H') :
  Jp wi (u6 4) (yP (JN (C6 (nM 0) (tC (V.str "letters"))) (C6 (nM 0) (tC (V.str "after"))) (Jh (fJ (nM 4) (fJ (tC (V.int 0)) lR)))) (JO (nM 0) (tC (V.str "after")) (tC (V.int 1)) KB)) D [some (.ref S.ps),some (.ref ab),some most,some (.ref l),z4] H1:=by
 have ln:=db.length
 unfold dX at ln
 rw[length_map]at ln
 refine hwi _ fun J S0=>?_
 refine mF S0 (fun i σ H'=>∃ z4,σ = [some (.ref S.ps),some (.ref ab),some most,some (.ref l),z4]/\StepS S S H1 H'/\StAt H' S ((bss.take i).foldl gI M)) ⟨_,rfl,aG.stepS (aG.refl _),h⟩ (fun i σ H' hh=>by obtain⟨_,_,st,_⟩:=hh; exact k0 H' st) ?_ ?_
 ·rintro D' i x σ H5 H6 hD' - hi ⟨z4,rfl,st,h5⟩ s6 hx
  have st6:=st.trans (aG.stepS s6)
  have h6:=h5.same s6
  obtain⟨dd,hdd,dr⟩:=db.get hx
  unfold dX at hdd
  rw[getElem?_map]at hdd
  obtain⟨b,eb⟩:∃ b,bss[i]? = some b:=⟨_,getElem?_eq_getElem (by omega)⟩
  rw[eb]at hdd
  cases hdd
  simp only[Den]at dr
  obtain⟨pb,zs,rfl,gb,dz⟩:=dr
  have ez:=bQ.mp dz
  subst ez
  have tk:(bss.take (i+1)).foldl gI M=gI ((bss.take i).foldl gI M) b:=by
   rw[take_succ,eb]
   show ((bss.take i++[b]).foldl gI M)=_
   rw[List.foldl_append]
   rfl
  have hlen:((bss.take i).foldl gI M).ls.length<=90000:=by
   have:=Bf (bss.take i) M
   rw[length_take]at this
   omega
  obtain⟨Mi,eMi⟩:∃ Mi,Mi=(bss.take i).foldl gI M:=⟨_,rfl⟩
  rw[<- eMi]at h6 tk hlen
  refine⟨_,rfl,aJ,fun pt hpt=>?_⟩
  have v1:=aD (o:=.tup [.ref pb,.int 0]) hpt
  have w1:upd H6 pt (.tup [.ref pb,.int 0]) pt=some (.tup [.ref pb,.int 0]):=aB
  generalize upd H6 pt (.tup [.ref pb,.int 0])=H7 at v1 w1 ⊢
  have h7:=h6.same v1
  obtain⟨kl,l1,l2⟩:=h7.ls
  refine⟨_,rfl,S.ps,_,rfl,h7.g_letters,_,rfl,S.ps,_,rfl,h7.g_after,S.pl,_,rfl,kM.k (k:=Sum.inl Mi.after) l1 (by rw[l2.len]; exact lt_of_le_of_lt hlen (by decide)),?_⟩
  have h8:=h7.setL (l2.put (n:=Mi.after) (a:=(b,0)) (v:=.ref pt) ⟨pt,pb,rfl,w1,v1 _ _ (st6.tup _ _ gb)⟩)
  have st8:=bW h7 Gs (.dK (eI kl (Sum.inl Mi.after) (.ref pt)))
  generalize upd H7 S.pl (.dK (eI kl (Sum.inl Mi.after) (.ref pt)))=H8 at h8 st8 ⊢
  refine⟨_,rfl,S.ps,_,rfl,h8.g_after,_,_,rfl,rfl,_,kM.k (k:=Sum.inr "after") h8.st (by show 7<sizeLine; decide),?_⟩
  have e9:eI (stK S { Mi with ls:=iB Mi.ls Mi.after (b,0) }) (Sum.inr "after") (.int (Mi.after+1))=stK S (gI Mi b):=rfl
  rw[e9]
  refine hD' _ _ ⟨_,rfl,st6.trans ((aG.stepS v1).trans (st8.trans (bW h8 KU _))),?_⟩
  rw[tk]
  exact h8.setF (gI Mi b) rfl rfl rfl rfl
 ·rintro σ H5 ⟨z4,rfl,st,h5⟩
  rw[ln,take_length]at h5
  exact go H5 _ st h5
def IY (F:Fun K "_law_put" "_law_put" F1 f fd) (T:‹3›) (ab3:‹7›):‹15› 3 f fd ["_law_state","_law_bodies","_law_most","_law_rows"] yV:=by
 refine F.okY ["_law_state","_law_bodies","_law_most","_law_rows","_law_body"] fun cdv A' outer s H vs Q E hr nD0 h=>?_
 obtain⟨S,M,ab,l,bss,ys,rs,xs,most,n,rfl,h,hne,hrl,hsl,hn,hw,gl,nl,dl,hab,nab,dab,hlb,q⟩:=h
 refine⟨_,aA (aU (a9 ab3 ‹19› aX (aE (pv 0) (aE (pv 3) ‹37›))))
  (aC (fY (lQ eO) ⋯ (IF K (pv 1)) ‹73›
   (aA (fT (hu1 hr.units) ‹22› ‹22› (bE (aE (pv 4) ‹34›)) ⋯)
   (aC (zB (hu1 hr.units) (pv 0) bL aI uY (fun _ _ _=>⋯)))))),?_⟩
 refine⟨_,rfl,_,rfl,_,rfl,S,M,l,rs,xs,most,n,rfl,h,hne,hrl,hsl,hn,hw,gl,nl,dl,fun S1 H1 st1 h1=>?_⟩
 have e1:=(fW M rs most).1
 have tbs:cX (dX bss)=true:=by
  clear dab hlb q
  induction bss with
  | nil=>rfl
  | cons b bss ih=>
   show (hJ (.tuple (b.map .int)) && cX (dX bss))=true
   rw[ih]
   have:cX (b.map PyData.int)=true:=by
    clear ih
    induction b with
    | nil=>rfl
    | cons x b ih=>exact ih
   show (cX (b.map PyData.int) && true)=true
   rw[this]
   rfl
 have db1:=fO st1.tup tbs dab
 have hab1:H1 ab=some (.lst ys)\/H1 ab=some (.tup ys):=hab.imp (fun g=>st1.frm _ _ g nab) (fun g=>st1.frm _ _ g nab)
 obtain⟨o,eo,go1⟩:∃ o,H1 ab=some o/\(o = .lst ys\/o = .tup ys):=by
  rcases hab1 with g | g
  ·exact⟨_,g,.inl rfl⟩
  ·exact⟨_,g,.inr rfl⟩
 have nab1:ab ∉ stL S1:=by
  rcases hab with g | g
  ·exact st1.not g nab
  ·exact st1.not g nab
 rw[<- st1.ps]
 show Jp (iSeq K (nM 1)) (u6 4) _ { nx:=fun x H'=>Q V.non H',rt:=Q } [some (.ref S1.ps),some (.ref ab),some (.int most),some (.ref l),none] H1
 refine Et (D:={ nx:=fun x H'=>Q V.non H',rt:=Q }) (ab:=ab) (l:=l) (most:=.int most) (H0:=upd (fun _=>none) ab o) h1 db1 (by rw[e1]; exact hlb) (fun H' st b u e=>?_) (fun R hR=>?_) fun H' z4 st h'=>q S1 H' (st1.trans st) h'
 ·by_cases y:b=ab
  ·subst y
   rw[aB]at e
   injection e with e
   rw[<- e]
   exact st.frm _ _ eo nab1
  ·rw[aF y]at e
   cases e
 ·refine⟨_,rfl,ab,rfl,?_⟩
  rcases go1 with rfl | rfl
  ·exact .inl ⟨⟨_,SqL.of eo⟩,hR _ (bS (SqL.of aB))⟩
  ·exact .inr ⟨⟨_,SqT.of eo⟩,hR _ (sF (SqT.of aB))⟩
end
def lM (rows:List (Lp)) (n:Nat):Prop:=rows≠[]/\rows.length<=n/\∀ s∈rows,s.length<=n/\∀ r∈s,r.2.2.length<=61
def MsOk.rows (h:MsOk M c n):lM M.rows n:=⟨h.ne,h.rl,h.sg⟩
def EU (h:lM M.rows n):lM (dQ M most).rows (n+1):=by
 obtain⟨a,b,c,_⟩:=DZ (most:=most) h.1 h.2.1 fun s hs=>(h.2.2 s hs).1
 refine⟨a,b,fun s hs=>⟨c s hs,?_⟩⟩
 unfold dQ at hs
 split at hs
 ·rcases mem_append.mp hs with z | z
  ·exact(h.2.2 s z).2
  ·rw[mem_singleton.mp z]
   intro r hr
   rw[mem_singleton.mp hr]
   exact zero_le _
 ·exact(h.2.2 s hs).2
def FJ (h:lM M.rows n) (hr:r.2.2.length<=61):lM (fA M r).rows (n+1):=by
 obtain⟨a,b,_,d⟩:=vM M r h.1
 refine⟨a,by rw[b]; exact le_succ_of_le h.2.1,fun s hs=>⟨d n (fun s hs=>(h.2.2 s hs).1) s hs,?_⟩⟩
 have e:=lH h.1 []
 have hs:s∈M.rows.dropLast++[jG M++[r]]:=hs
 rcases mem_append.mp hs with z | z
 ·exact(h.2.2 s (by rw[e]; exact mem_append_left _ z)).2
 ·rw[mem_singleton.mp z]
  intro x hx
  rcases mem_append.mp hx with y | y
  ·exact(h.2.2 (jG M) (by rw[e]; exact mem_append_right _ (mem_singleton.mpr rfl))).2 x y
  ·rw[mem_singleton.mp y]
   exact hr
def xY:∀ {rs:Lp} {M:Ms} {n:Nat},lM M.rows n->(∀ r∈rs,r.2.2.length<=61)->lM (rs.foldl fA M).rows (n+rs.length)
 | [],M,n,h,_=>h
 | r::rs,M,n,h,hr=>by
  have:=xY (rs:=rs) (FJ (r:=r) h (hr r mem_cons_self)) fun x hx=>hr x (mem_cons_of_mem _ hx)
  rw[length_cons]
  rw[show n+(rs.length+1)=n+1+rs.length by omega]
  exact this
def sQ (h:lM M.rows n) (hr:∀ r∈rs,r.2.2.length<=61):lM (eJ M rs most).rows (n+1+rs.length):=xY (EU h) hr
def zD (M:Ms) (most:Int):(dQ M most).wh=M.wh:=by
 unfold dQ
 split <;> rfl
def MsOk.write1 (h:MsOk M c n) (hb:r.2.2.length<=61) (hm:rZ r.1=true->r.2.1∈M.ls.map (·.1)):MsOk (eJ M [r] most) c (n+2):=by
 obtain⟨e1,e2,e3,e4,e5⟩:=fW M [r] most
 have hr:=sQ (rs:=[r]) (most:=most) h.rows (fun x hx=>by rw[mem_singleton.mp hx]; exact hb)
 have ew:(eJ M [r] most).wh.map (·.1)=M.ls.map (·.1):=by
  show (if rZ r.1=true then rV (dQ M most).wh r.2.1 ((dQ M most).first+((dQ M most).rows.length:Int) - 1) else (dQ M most).wh).map (·.1)=_
  rw[zD]
  split
  ·rename_i hy
   rw[EO _ (by rw[h.wk]; exact hm hy),h.wk]
  ·exact h.wk
 exact⟨by rw[e3]; exact h.af,by rw[e1]; exact h.so,by rw[e1,e3]; exact h.lt,by rw[e1]; exact h.cnt,by rw[e1]; exact ew,by rw[e2]; exact h.hn,by rw[e2]; exact h.hl,by rw[e1,e2]; exact h.hk,hr.1,hr.2.1,hr.2.2⟩
def fK (w:Str) (k:Int):K9->Lp
 | []=>[]
 | b::bs=>(w,k,b)::fK w (k+1) bs
def kA (w:Str):∀ (k:Int) (bs:K9),(fK w k bs).length=bs.length
 | _,[]=>rfl
 | k,b::bs=>by rw[length_cons,<- kA w (k+1) bs]; rfl
def nW:∀ {k:Int} {bs:K9} {r:Rw},r∈fK w k bs->r.2.2∈bs
 | _,[],_,h=>by cases h
 | k,b::bs,r,h=>by
  rcases mem_cons.mp h with z | z
  ·rw[z]
   exact mem_cons_self
  ·exact mem_cons_of_mem _ (nW z)
def xO:∀ {bs:K9} {k:Int} {i:Nat} {b:Lc},bs[i]? = some b->(fK w k bs)[i]? = some (w,k+(i:Int),b)
 | [],_,i,b,h=>by cases h
 | b0::bs,k,0,b,h=>by
  cases h
  show some (w,k,b0)=some (w,k+((0:Nat):Int),b0)
  rw[show k+((0:Nat):Int)=k by omega]
 | b0::bs,k,i+1,b,h=>by
  have:=xO (w:=w) (k:=k+1) (bs:=bs) (i:=i) (b:=b) h
  show (fK w (k+1) bs)[i]? = _
  rw[this,show k+1+(i:Int)=k+((i+1:Nat):Int) by omega]
def DY (hw:rZ w=true):∀ (bs:K9) (k:Int) (M:Ms),(∀ p∈M.wh,p.1<k)->((fK w k bs).foldl fA M).wh.map (·.1)=M.wh.map (·.1)++(fK w k bs).map (·.2.1)
 | [],k,M,_=>by
  show M.wh.map (·.1)=M.wh.map (·.1)++[]
  rw[append_nil]
 | b::bs,k,M,h=>by
  have hn:k ∉ M.wh.map (·.1):=fun z=>by
   obtain⟨p,hp,e⟩:=mem_map.mp z
   have:=h p hp
   omega
  have ew:(fA M (w,k,b)).wh=M.wh++[(k,M.first+(M.rows.length:Int) - 1)]:=by
   show (if rZ w=true then _ else _)=_
   rw[if_pos hw,GI _ hn]
  have ih:=DY hw bs (k+1) (fA M (w,k,b)) (fun p hp=>by
   rw[ew]at hp
   rcases mem_append.mp hp with z | z
   ·have:=h p z
    omega
   ·rw[mem_singleton.mp z]
    show k<k+1
    omega)
  show ((fK w (k+1) bs).foldl fA (fA M (w,k,b))).wh.map (·.1)=_
  rw[ih,ew,map_append,append_assoc]
  rfl
def HV:∀ (bs:K9) (M:Ms) (w:Str),(∀ p∈M.ls,p.1<M.after)->((bs.foldl gI M).ls=M.ls++(fK w M.after bs).map (fun r=>(r.2.1,(r.2.2,(0:Int)))))
 | [],M,w,_=>by
  show M.ls=M.ls++[]
  rw[append_nil]
 | b::bs,M,w,h=>by
  have hn:M.after ∉ M.ls.map (·.1):=fun z=>by
   obtain⟨p,hp,e⟩:=mem_map.mp z
   have:=h p hp
   omega
  have el:(gI M b).ls=M.ls++[(M.after,(b,0))]:=Aq _ hn
  have ih:=HV bs (gI M b) w (fun p hp=>by
   rw[el]at hp
   show p.1<M.after+1
   rcases mem_append.mp hp with z | z
   ·have:=h p z
    omega
   ·rw[mem_singleton.mp z]
    show M.after<M.after+1
    omega)
  show (bs.foldl gI (gI M b)).ls=_
  rw[ih,el,append_assoc]
  rfl
def vI:∀ (bs:K9) (M:Ms),(bs.foldl gI M).after=M.after+(bs.length:Int)/\(bs.foldl gI M).hs=M.hs/\(bs.foldl gI M).time=M.time/\(bs.foldl gI M).rows=M.rows/\(bs.foldl gI M).first=M.first/\(bs.foldl gI M).wh=M.wh
 | [],M=>⟨(Int.add_zero _).symm,rfl,rfl,rfl,rfl,rfl⟩
 | b::bs,M=>by
  obtain⟨a,b',c,d,e,f⟩:=vI bs (gI M b)
  refine⟨a.trans ?_,b',c,d,e,f⟩
  rw[length_cons]
  show M.after+1+(bs.length:Int)=M.after+((bs.length+1:Nat):Int)
  omega
def lC:∀ {bs:K9} {k:Int} {x:Int},x∈(fK w k bs).map (·.2.1)->k<=x/\x<k+(bs.length:Int)
 | [],k,x,h=>by cases h
 | b::bs,k,x,h=>by
  rw[length_cons]
  rcases mem_cons.mp (show x∈k::(fK w (k+1) bs).map (·.2.1) from h) with z | z
  ·omega
  ·have:=lC z
   omega
def Ax:∀ (bs:K9) (k:Int),((fK w k bs).map (·.2.1)).Pairwise (· < ·)
 | [],k=>List.Pairwise.nil
 | b::bs,k=>by
  show (k::(fK w (k+1) bs).map (·.2.1)).Pairwise (· < ·)
  refine List.pairwise_cons.mpr ⟨fun x hx=>?_,Ax bs (k+1)⟩
  have:=lC hx
  omega
def MsOk.put (h:MsOk M c n) (hw:rZ w=true) (hb:∀ b∈bs,b.length<=60) (hl:bs.length<=9) (ht:tl.length<=1) (htl:∀ r∈tl,rZ r.1=false/\r.2.2.length<=61):MsOk (CF M bs (fK w M.after bs++tl) most) (c+1) (n+11):=by
 unfold CF
 obtain⟨e1,e2,e3,e4,e5⟩:=fW M (fK w M.after bs++tl) most
 have hrl:(fK w M.after bs++tl).length<=10:=by rw[length_append,kA]; omega
 have hr:=sQ (rs:=fK w M.after bs++tl) (most:=most) h.rows (fun x hx=>by
  rcases mem_append.mp hx with z | z
  ·exact le_succ_of_le (hb _ (nW z))
  ·exact(htl x z).2)
 have hlt:∀ p∈M.wh,p.1<M.after:=fun p hp=>by
  have:p.1∈M.wh.map (·.1):=mem_map_of_mem hp
  rw[h.wk]at this
  obtain⟨q,hq,e⟩:=mem_map.mp this
  rw[<- e]
  exact(h.lt q hq).2.1
 have tw:∀ (tl:Lp) (M':Ms),(∀ r∈tl,rZ r.1=false/\r.2.2.length<=61)->(tl.foldl fA M').wh=M'.wh:=by
  intro tl
  induction tl with
  | nil=>intro M' _; rfl
  | cons r tl ih=>
   intro M' hh
   show (tl.foldl fA (fA M' r)).wh=_
   rw[ih _ fun x hx=>hh x (mem_cons_of_mem _ hx)]
   show (if rZ r.1=true then _ else _)=_
   rw[(hh r mem_cons_self).1]
   rfl
 have ew:(eJ M (fK w M.after bs++tl) most).wh.map (·.1)=M.ls.map (·.1)++(fK w M.after bs).map (·.2.1):=by
  unfold eJ
  rw[List.foldl_append,tw _ _ htl,DY hw bs M.after (dQ M most) (by rw[zD]; exact hlt),zD,h.wk]
 generalize eJ M (fK w M.after bs++tl) most=M1 at e1 e2 e3 e4 e5 hr ew ⊢
 obtain⟨f1,f2,f3,f4,f5,f6⟩:=vI bs M1
 have fl:=HV bs M1 w (by rw[e1,e3]; exact fun p hp=>(h.lt p hp).2.1)
 rw[e1,e3]at fl
 rw[e3]at f1
 have fk:(bs.foldl gI M1).ls.map (·.1)=M.ls.map (·.1)++(fK w M.after bs).map (·.2.1):=by
  rw[fl,map_append,map_map]
  rfl
 have haf:=h.af
 refine⟨⟨by rw[f1]; omega,by rw[f1]; omega⟩,?_,fun p hp=>?_,?_,by rw[f6,ew,fk],by rw[f2,e2]; exact h.hn,by rw[f2,e2]; have:=h.hl; omega,fun p hp=>?_,by rw[f4]; exact hr.1,by rw[f4]; have:=hr.2.1; omega,fun s hs=>?_⟩
 ·rw[fk,List.pairwise_append]
  refine⟨h.so,Ax _ _,fun a ha b hb=>?_⟩
  obtain⟨q,hq,e⟩:=mem_map.mp ha
  have:=(h.lt q hq).2.1
  have:=lC hb
  omega
 ·rw[fl]at hp
  rw[f1]
  rcases mem_append.mp hp with z | z
  ·have:=h.lt p z
   exact⟨this.1,by have:=this.2.1; omega,this.2.2⟩
  ·obtain⟨r,hr',e⟩:=mem_map.mp z
   have k1:=lC (mem_map_of_mem (f:=fun r:Rw=>r.2.1) hr')
   rw[<- e]
   exact⟨by show 0<=r.2.1; omega,k1.2,hb _ (nW hr')⟩
 ·rw[fl,length_append,length_map,kA]
  have:=h.cnt
  omega
 ·rw[f2,e2]at hp
  rw[fk]
  exact⟨mem_append_left _ (h.hk p hp).1,(h.hk p hp).2⟩
 ·rw[f4]at hs
  exact⟨by have:=(hr.2.2 s hs).1; omega,(hr.2.2 s hs).2⟩
def gR {α : Type} (es:List (Int × α)) (n:Int):(es.filter fun p=>decide (p.1≠n)).map (·.1)=(es.map (·.1)).filter fun k=>decide (k≠n):=by
 rw[filter_map]
 rfl
def MsOk.dropH (h:MsOk M c n):MsOk { M with hs:=M.hs.filter fun p=>decide (p.1≠k) } c n:=
 ⟨h.af,h.so,h.lt,h.cnt,h.wk,by show ((M.hs.filter fun p=>decide (p.1≠k)).map (·.1)).Nodup; rw[gR]; exact h.hn.filter _,le_trans (length_filter_le _ _) h.hl,fun p hp=>h.hk p (mem_filter.mp hp).1,h.ne,h.rl,h.sg⟩
def MsOk.dropL (h:MsOk M c n) (nk:k ∉ M.hs.map (·.1)):MsOk { M with ls:=M.ls.filter (fun p=>decide (p.1≠k)),wh:=M.wh.filter fun p=>decide (p.1≠k) } c n:=by
 refine⟨h.af,?_,fun p hp=>h.lt p (mem_filter.mp hp).1,le_trans (length_filter_le _ _) h.cnt,?_,h.hn,h.hl,fun p hp=>⟨?_,(h.hk p hp).2⟩,h.ne,h.rl,h.sg⟩
 ·show ((M.ls.filter fun p=>decide (p.1≠k)).map (·.1)).Pairwise _
  rw[gR]
  exact h.so.filter _
 ·show (M.wh.filter fun p=>decide (p.1≠k)).map (·.1)=(M.ls.filter fun p=>decide (p.1≠k)).map (·.1)
  rw[gR,gR,h.wk]
 ·show p.1∈(M.ls.filter fun p=>decide (p.1≠k)).map (·.1)
  rw[gR]
  exact mem_filter.mpr ⟨(h.hk p hp).1,decide_eq_true fun z=>nk (by rw[<- z]; exact mem_map_of_mem hp)⟩
abbrev Ac:Stmt:=top 80
section
variable {P:Program} {w:World} {K:K6} {mg:K8} {base:Heap} {A:Ad}
def De {ps:Addr} {H H3:Hp} {S:Sl} {M:Ms} {c n:Nat} {x:Str} {k most:Int} {ns:Lc} {p0 p1 p2:Addr} {R:Hp->Prop} {E:XK} (eps:ps=S.ps) (h:StAt H S M) (ok:MsOk M c n) (hn:n<=80000) (hc:c<=100) (s3:aG H H3) (g2:H3 p2=some (.lst [.ref p1])) (g1:H3 p1=some (.tup [.str x,.int k,.ref p0])) (g0:H3 p0=some (.tup (ns.map V.int))) (f2:H p2=none)
  (go:∀ S' H',StepS S S' H H'->StAt H' S' (eJ M [(x,k,ns)] most)->R H'):jS [.ref ps,.ref p2,.int most] H3 (fun _ H'=>R H') E:=by
 refine⟨S,M,p2,[(x,k,ns)],[.ref p1],most,n,by rw[eps],h.same s3,ok.ne,ok.rl,fun s hs=>(ok.sg s hs).1,?_,?_,g2,h.off f2,?_,fun S' H' st h'=>go S' H' ((aG.stepS s3).trans st) h'⟩
 ·show n+1<=90000
  omega
 ·have:=congrArg List.length ok.wk
  rw[length_map,length_map]at this
  have:=ok.cnt
  show M.wh.length+1<=90000
  omega
 ·refine iZ ?_
  unfold cA fN
  simp only[Den,aR]
  exact⟨p1,_,rfl,g1,_,_,rfl,rfl,_,_,rfl,rfl,_,_,rfl,⟨p0,_,rfl,g0,bQ.mpr rfl⟩,rfl⟩
def zG {H:Hp} {S:Sl} {M:Ms} {c n:Nat} {x:Str} {k most:Int} {R:Hp->Prop} {E:XK} (h:StAt H S M) (ok:MsOk M c n) (hn:n<=80000) (hc:c<=100) (go:∀ S' H',StepS S S' H H'->StAt H' S' (eJ M [(x,k,[])] most)->R H') {p0 p1 p2:Addr} (hp0:H p0=none) (hp1:upd H p0 (.tup []) p1=none) (hp2:upd (upd H p0 (.tup [])) p1 (.tup [.str x,.int k,.ref p0]) p2=none) :
  jS [.ref S.ps,.ref p2,.int most] (upd (upd (upd H p0 (.tup [])) p1 (.tup [.str x,.int k,.ref p0])) p2 (.lst [.ref p1])) (fun _ H'=>R H') E:=by
 have s1:=aD (o:=.tup []) hp0
 have g1:upd H p0 (.tup []) p0=some (.tup []):=aB
 generalize upd H p0 (.tup [])=H1 at s1 g1 hp1 hp2 ⊢
 have s2:=aD (o:=.tup [.str x,.int k,.ref p0]) hp1
 have g2:upd H1 p1 (.tup [.str x,.int k,.ref p0]) p1=some (.tup [.str x,.int k,.ref p0]):=aB
 generalize upd H1 p1 (.tup [.str x,.int k,.ref p0])=H2 at s2 g2 hp2 ⊢
 have s3:=aD (o:=.lst [.ref p1]) hp2
 exact De (ns:=[]) rfl h ok hn hc (s1.trans (s2.trans s3)) aB (s3 _ _ g2) ((s2.trans s3) _ _ g1) ((s1.trans s2).free hp2) go
def Hd (S:Sl) (H:Hp) (c n:Nat) (Q:VK):Prop:=∀ S' M' H' v,StepS S S' H H'->StAt H' S' M'->MsOk M' c n->Q v H'
inductive qD (vs:Ln) (H:Hp) (Q:VK) (x_3:XK):Prop
 | mk:∀ (S:Sl) (M:Ms) (d:Addr) (most:Int) (y x:Str) (k:Int) (c n:Nat),vs=[.ref S.ps,.ref d,.int most]->StAt H S M->MsOk M c n->n<=80000->c<=100->H d=some (.tup [.str y,.str x,.int k])->x ≠ ""->Hd S H c (n+2) Q->qD vs H Q x_3
def Eh (F:Fun K "_law_given" "_law_given" Ac f fd) (T:‹3›) (ab3:‹7›):‹15› 3 f fd ["_law_state","_law_deed_here","_law_most"] qD:=by
 refine F.okY ["_law_state","_law_deed_here","_law_most","_law_word","_law_hand","_law_number"] fun cdv A' outer s H vs Q E hr nD0 h=>?_
 obtain⟨S,M,d,most,y,x,k,c,n,rfl,h,ok,hn,hc,gd,hx,q⟩:=h
 refine⟨_,aA (uF (pv 1) (jF K (n:=3) (cM ‹54› (cM ‹73› (cM (bG (i:=5) nD0 ⋯ ⋯) jE)))))
  (aA (bA (aQ Ay (cD (cR K) (iU K PySem.F.plainAttrs_dict PySem.F.slot_dict_get PySem.F.type_dict_get (Go (hu1 hr.units)) ‹22› (aE (pv 5) (bU (bE (aM bL ‹34›)) aH))) aI (fun _ _=>rfl)) (pv 4) (bD _))
   (aC (aP bL))
   aO)
  (aA (bA ‹53›
   (aA (aU (a9 ab3 ‹19› aX (aE (pv 0) (fH (cB (bU (bE (aM bL (aE (pv 5) ‹46›))) aH)) ‹37›))))
   (aA ‹78›
   (aC ‹78›)))
   aO)
  (aA ‹78›
  ‹66›))),?_⟩
 obtain⟨kl,l1,l2⟩:=h.ls
 obtain⟨kh,l3,l4⟩:=h.hs
 refine⟨_,rfl,d,_,rfl,SqT.of gd,rfl,_,_,rfl,_,_,rfl,_,_,rfl,rfl,?_⟩
 refine⟨_,rfl,S.ps,_,rfl,h.g_hands,.inr (.inr (.inl ⟨rfl,.inl ⟨_,l3⟩⟩)),_,rfl,aJ,fun pt hpt=>?_⟩
 have s1:=aD (o:=.tup [.str "",.int 0]) hpt
 have g1:upd H pt (.tup [.str "",.int 0]) pt=some (.tup [.str "",.int 0]):=aB
 generalize upd H pt (.tup [.str "",.int 0])=H1 at s1 g1 ⊢
 have hv:∃ t z tt,(dM kh (Sum.inl k)).getD (.ref pt) = .ref t/\H1 t=some (.tup [.str z,.int tt])/\(k ∉ M.hs.map (·.1)->z = ""):=by
  by_cases hk:k∈M.hs.map (·.1)
  ·obtain⟨a,v,_,ev,t,e1,e2⟩:=l4.look hk
   exact⟨t,a.1,a.2,by rw[ev,e1]; rfl,s1 _ _ e2,fun z=>absurd hk z⟩
  ·rw[(l4.no hk).1]
   exact⟨pt,"",0,rfl,g1,fun _=>rfl⟩
 obtain⟨t,z,tt,et,gt,hz⟩:=hv
 have h1:=h.same s1
 refine⟨S.ph,_,_,_,rfl,rfl,cS.k (k:=Sum.inl k) (s1 _ _ l3),t,_,_,.str z,et,rfl,SqT.of gt,aW (by decide) rfl,?_⟩
 refine⟨_,rfl,rfl,_,rfl,?_⟩
 show if (!decide (V.str z=V.str x))=true then _ else _
 by_cases hxz:z=x
 ·rw[show (!decide (V.str z=V.str x))=false by rw[decide_eq_true (by rw[hxz])]; rfl]
  refine bC ?_
  have hk:k∈M.hs.map (·.1):=by
   apply Classical.byContradiction
   intro y
   exact hx (by rw[<- hxz]; exact hz y)
  have tail:∀ S1 M1 H2,StepS S S1 H H2->StAt H2 S1 M1->M1.hs=M.hs->MsOk { M1 with hs:=M1.hs.filter fun p=>decide (p.1≠k) } c (n+2)->yP (JI (tBM K "dict" GE (C6 (nM 0) (tC (V.str "hands"))) (fJ (nM 5) lR))) (tRet (tC V.non)) { nx:=fun x H'=>Q V.non H',rt:=Q } [some (.ref S.ps),some (.ref d),some (.int most),some (.str y),some (.str x),some (.int k)] H2:=by
   intro S1 M1 H2 st h2 e2 ok2
   obtain⟨kh2,a3,a4⟩:=h2.hs
   obtain⟨_,v,_,ev,_⟩:=a4.look (n:=k) (by rw[e2]; exact hk)
   exact⟨_,rfl,S1.ps,_,(by rw[st.ps]),h2.g_hands,.inr (.inr (.inl ⟨rfl,.inl ⟨_,a3⟩⟩)),_,rfl,S1.ph,kh2,Sum.inl k,v,rfl,rfl,a3,ev,q S1 _ _ _ (st.trans (bW h2 Ii _)) (h2.setH a4.drop) ok2⟩
  refine⟨_,rfl,rfl,_,rfl,?_⟩
  show if decide (V.str y=V.str "done")=true then _ else _
  cases decide (V.str y=V.str "done") with
  | false=>exact bC (tail S M H1 (aG.stepS s1) h1 rfl (ok.dropH.mono (le_refl _) (by omega)))
  | true=>
   refine aT ⟨_,rfl,_,rfl,aJ,fun p0 hp0=>⟨aJ,fun p1 hp1=>⟨aJ,fun p2 hp2=>⟨_,rfl,?_⟩⟩⟩⟩
   refine zG (E:=E0) h1 ok hn hc (fun S1 H2 st2 h2=>?_) hp0 hp1 hp2
   have ok1:=ok.write1 (r:=("done",k,[])) (most:=most) (zero_le _) (fun z=>by cases z)
   obtain⟨e1,e2,e3,e4,e5⟩:=fW M [("done",k,[])] most
   generalize eJ M [("done",k,[])] most=M1 at h2 ok1 e1 e2 e3 e4 e5
   have st:=(aG.stepS s1).trans st2
   obtain⟨kl2,a1,a2⟩:=h2.ls
   have hkl:k∈M1.ls.map (·.1):=by
    obtain⟨p,hp,e⟩:=mem_map.mp hk
    rw[e1,<- e]
    exact(ok.hk p hp).1
   obtain⟨_,v,_,ev,_⟩:=a2.look hkl
   refine⟨_,rfl,S1.ps,_,(by rw[st.ps]),h2.g_letters,.inr (.inr (.inl ⟨rfl,.inl ⟨_,a1⟩⟩)),_,rfl,S1.pl,kl2,Sum.inl k,v,rfl,rfl,a1,ev,?_⟩
   have h3:=h2.setL (a2.drop (n:=k))
   have st3:=st.trans (bW h2 Gs (.dK (eZ kl2 (Sum.inl k))))
   generalize upd H2 S1.pl (.dK (eZ kl2 (Sum.inl k)))=H3 at h3 st3 ⊢
   obtain⟨sk,esk⟩:=qN (ws:=M1.wh) (k:=k) (by rw[ok1.wk]; exact hkl)
   have ew:dM (wsK M1.wh) (Sum.inl k)=some (.int sk):=by rw[sD,esk]; rfl
   refine⟨_,rfl,S1.ps,_,(by rw[st.ps]),h3.g_where,.inr (.inr (.inl ⟨rfl,.inl ⟨_,h3.wh⟩⟩)),_,rfl,S1.pw,_,Sum.inl k,_,rfl,rfl,h3.wh,ew,?_⟩
   show yP _ _ _ _ (upd H3 S1.pw (.dK (eZ (wsK M1.wh) (Sum.inl k))))
   rw[FM]
   have h4:=h3.setW (M1.wh.filter fun p=>decide (p.1≠k))
   have st4:=st3.trans (bW h3 KS (.dK (wsK (M1.wh.filter fun p=>decide (p.1≠k)))))
   refine tail S1 _ _ st4 h4 e2 (ok1.dropH.dropL (k:=k) fun z=>?_)
   have z:k∈(M1.hs.filter fun p=>decide (p.1≠k)).map (·.1):=z
   rw[gR]at z
   exact of_decide_eq_true (mem_filter.mp z).2 rfl
 ·rw[show (!decide (V.str z=V.str x))=true by rw[decide_eq_false (fun e=>hxz (by injection e))]; rfl]
  exact aT (q S M H1 _ (aG.stepS s1) h1 (ok.mono (le_refl _) (by omega)))
end
abbrev Aa:Stmt:=top 81
def mH (M:Ms) (k:Int):Ms:={ M with hs:=M.hs.filter fun p=>decide (p.1≠k) }
def x4 {k:Int}:∀ {ks:Lc} {M:Ms},k∈M.hs.map (·.1)->k ∉ ks->k∈((ks.foldl mH M).hs).map (·.1)
 | [],M,h,_=>h
 | j::ks,M,h,hn=>by
  refine x4 (ks:=ks) (M:=mH M j) ?_ (fun z=>hn (mem_cons_of_mem _ z))
  show k∈(M.hs.filter fun p=>decide (p.1≠j)).map (·.1)
  rw[gR]
  exact mem_filter.mpr ⟨h,decide_eq_true fun z=>hn (by rw[z]; exact mem_cons_self)⟩
def BO {c n:Nat}:∀ {ks:Lc} {M:Ms},MsOk M c n->MsOk (ks.foldl mH M) c n
 | [],M,h=>h
 | j::ks,M,h=>BO (ks:=ks) (M:=mH M j) h.dropH
def MsOk.setL1 {M:Ms} {c n:Nat} {k:Int} {a:Lc × Int} (h:MsOk M c n) (hk:k∈M.ls.map (·.1)) (ha:a.1.length<=60):MsOk { M with ls:=iB M.ls k a } c n:=by
 have e:(iB M.ls k a).map (·.1)=M.ls.map (·.1):=xM a hk
 have el:(iB M.ls k a).length=M.ls.length:=by
  have:=congrArg List.length e
  rw[length_map,length_map]at this
  exact this
 refine⟨h.af,by show ((iB M.ls k a).map (·.1)).Pairwise _; rw[e]; exact h.so,fun p hp=>?_,by show (iB M.ls k a).length<=_; rw[el]; exact h.cnt,by show _=(iB M.ls k a).map (·.1); rw[e]; exact h.wk,h.hn,h.hl,fun p hp=>⟨by show p.1∈(iB M.ls k a).map (·.1); rw[e]; exact(h.hk p hp).1,(h.hk p hp).2⟩,h.ne,h.rl,h.sg⟩
 have hp:p∈iB M.ls k a:=hp
 have h1:p.1∈M.ls.map (·.1):=by
  rw[<- e]
  exact mem_map_of_mem hp
 obtain⟨q,hq,eq⟩:=mem_map.mp h1
 have:=h.lt q hq
 rw[eq]at this
 refine⟨this.1,this.2.1,?_⟩
 rcases GH hp with z | z
 ·exact(h.lt p z).2.2
 ·rw[z]
  exact ha
def MsOk.front {M:Ms} {c n:Nat} {r:Lp} {rs:List (Lp)} (h:MsOk M c n) (e:M.rows=r::rs) (ne:rs≠[]):MsOk { M with rows:=rs,first:=M.first+1 } c n:=
 ⟨h.af,h.so,h.lt,h.cnt,h.wk,h.hn,h.hl,h.hk,ne,by have:=h.rl; rw[e,length_cons]at this; show rs.length<=n; omega,fun s hs=>h.sg s (by rw[e]; exact mem_cons_of_mem _ hs)⟩
def Bs (M:Ms) (r:Rw) (most:Int) (h:M.rows≠[]):M.rows.length<=(eJ M [r] most).rows.length:=by
 have h1:M.rows.length<=(dQ M most).rows.length/\(dQ M most).rows≠[]:=by
  unfold dQ
  split
  ·exact⟨by rw[length_append]; omega,by simp⟩
  ·exact⟨le_refl _,h⟩
 show M.rows.length<=(fA (dQ M most) r).rows.length
 rw[(vM _ r h1.2).2.1]
 exact h1.1
inductive qC (vs:Ln) (H:Hp) (Q:VK) (x_3:XK):Prop
 | mk:∀ (S:Sl) (M:Ms) (d se:Addr) (most hold tries:Int) (y:Str) (args:Ln) (c n:Nat),vs=[.ref S.ps,.ref d,.ref se]->StAt H S M->MsOk M c n->n<=70000->c<=50->H se=some (.tup [.int most,.int hold,.int tries])->H d=some (.tup (.str y::args))->(y = "wait"->∃ m,args=[.int m])->(y = "new"->∃ k,args=[.int k])->Hd S H c (n+1000) Q->qC vs H Q x_3
section
variable {P:Program} {w:World} {K:K6} {mg:K8} {base:Heap} {A:Ad}
def Eg {f:Addr} {fd:Lh} (F:Fun K "_law_other" "_law_other" Aa f fd) (T:‹3›) (ab3:‹7›) (ac2:‹13›) (ae1:‹16› "_law_front_goes" 1 ["_law_state"] qE):‹15› 3 f fd ["_law_state","_law_deed_here","_law_settings_here"] qC:=by
 refine F.okY ["_law_state","_law_deed_here","_law_settings_here","_law_most","_law_hold","_law_tries","_law_word","_law_late","_law_number","_law_moved","_law_body","_law_times","_law_many"] fun cdv A' outer s H vs Q E hr nD0 h=>?_
 obtain⟨S,M,d,se,most,hold,tries,y,args,c,n,rfl,h,ok,hn,hc,gs,gd,hw,hne,q⟩:=h
 refine⟨_,@aA _ _ _ _ _ (@uF _ _ _ _ _ _ (@pv _ 2 _ _ ⋯ ⋯ ⋯ ⋯) (@jF _ K _ _ _ (3) _ (@cM _ _ _ _ _ (@bG _ _ (3) _ nD0 ⋯ ⋯ ⋯) (@cM _ _ _ _ _ (@bG _ _ (4) _ nD0 ⋯ ⋯ ⋯) (@cM _ _ _ _ _ (@bG _ _ (5) _ nD0 ⋯ ⋯ ⋯) (@jE _) ⋯) ⋯) ⋯) ⋯ ⋯ ⋯ ⋯) ⋯ ⋯ ⋯) (@aA _ _ _ _ _ (@a7 _ _ (6) _ _ _ _ nD0 ⋯ ⋯ ‹33› ⋯ ⋯) (@aA _ _ _ _ _ (@bA _ _ _ _ _ _ _ _ ‹83› (@aA _ _ _ _ _ (@zB _ _ _ _ _ _ _ _ _ _ _ (hu1 hr.units) ‹35› ‹43› ‹33› (@uY _) (fun _ _ _=>⋯)) (@aA _ _ _ _ _ (@mU _ _ _ (7) _ _ _ _ _ _ _ _ _ _ _ ["_law_number"] [("_law_state",0),("_law_hold",4)] nD0 ⋯ ⋯ ⋯ (@bT _ K _ _ _ (@bF _ _ _ _ _ _ _ _ _ (@gH _ ⋯) ⋯ T.af4 iJ ‹90› ⋯ ⋯ ⋯ ⋯) ⋯) (fun C s2 H2 ex=>(@bG _ _ (0) _ (show List.Nodup (["_law_number","_law_state","_law_hold"]:Ld) by decide +kernel) ⋯ (Or.inl ⋯) ⋯)) (fun C s2 H2 ex=>(@gW _ _ _ (@aQ _ _ _ _ _ _ _ _ o8 (@bB _ _ _ _ _ _ _ _ jP ‹39› (@cD _ _ _ _ _ _ _ (cR K) (@eC _ _ _ _ _ _ (hu1 hr.units) ‹39› ‹35› (fun _ _=>rfl)) ‹48› (fun _ _=>rfl))) (@pv _ 2 _ _ ⋯ ⋯ ⋯ ⋯) (bD _)))) (fun C s2 H2 ex=>‹35›) ⋯ ⋯ ⋯ ⋯ ⋯ ⋯) (@aA _ _ _ _ _ (@fY _ _ _ _ _ _ _ _ (lQ eO) ⋯ (@bT _ K _ _ _ (@pv _ 7 _ _ ⋯ ⋯ ⋯ ⋯) ⋯) (@bG _ _ (8) _ nD0 ⋯ ⋯ ⋯) (@aC _ _ _ (aU (iU K PySem.F.plainAttrs_dict PySem.F.slot_dict_pop PySem.F.type_dict_pop pA ‹22› (aE (pv 8) aH)))) ⋯) (@aC _ _ _ (@aP _ _ _ _ (@pv _ 7 _ _ ⋯ ⋯ ⋯ ⋯)))))) (@aO _)) (@aA _ _ _ _ _ (@bA _ _ _ _ _ _ _ _ ‹83› (@aA _ _ _ _ _ (@bA _ _ _ _ _ _ _ _ (@aQ _ _ _ _ _ _ _ _ (kB K) ‹33› (@cD _ _ _ _ _ _ _ (cR K) (@a9 _ _ _ _ _ _ _ _ _ _ _ ac2 ‹19› aX (@aE _ _ _ _ _ _ ‹35› (@aE _ _ _ _ _ _ (@pv _ 5 _ _ ⋯ ⋯ ⋯ ⋯) (@aH _))) ⋯ ⋯ ⋯ ⋯) ‹48› (fun _ _=>rfl)) ⋯) (@aC _ _ _ (@aP _ _ _ _ ‹43›)) (@aO _)) (@aA _ _ _ _ _ (aU (a9 ab3 ‹19› aX (aE (pv 0) (fH (cB (bU (bE (aM bL (aN ‹21› ‹46›))) aH)) ‹50›)))) (@aA _ _ _ _ _ (@fT _ _ _ _ _ _ _ _ _ (hu1 hr.units) ‹24› ‹33› (@bE _ _ _ _ _ (@aN _ _ _ _ _ _ _ (@cD _ _ _ _ _ _ _ (cR K) (@eC _ _ _ _ _ _ (hu1 hr.units) ‹24› ‹33› (fun _ _=>rfl)) ‹48› (fun _ _=>rfl)) (@aM _ _ _ _ _ _ _ ‹48› (@aH _)))) ⋯) (@aC _ _ _ (@aP _ _ _ _ (@jN _ _ _)))))) (@aO _)) (@aA _ _ _ _ _ (@bA _ _ _ _ _ _ _ _ ‹83› (@aA _ _ _ _ _ (@bA _ _ _ _ _ _ _ _ (@aQ _ _ _ _ _ _ _ _ fM (@bF _ _ _ _ _ _ _ _ _ (dC K) ⋯ T.ad2 fV ‹90› ⋯ ⋯ ⋯ ⋯) ‹48› (bD _)) (@aC _ _ _ (@aP _ _ _ _ (@jN _ _ _))) (@aO _)) (@aA _ _ _ _ _ (@mU _ _ _ (9) _ _ _ _ _ _ _ _ _ _ _ ["_law_number"] [("_law_state",0)] nD0 ⋯ ⋯ ⋯ (@bT _ K _ _ _ (@bF _ _ _ _ _ _ _ _ _ (@gH _ ⋯) ⋯ T.af4 iJ ‹90› ⋯ ⋯ ⋯ ⋯) ⋯) (fun C s2 H2 ex=>(@bG _ _ (0) _ ‹51› ⋯ (Or.inl ⋯) ⋯)) (fun C s2 H2 ex=>(@gW _ _ _ (@aQ _ _ _ _ _ _ _ _ fM (@eC _ _ _ _ _ _ (hu1 hr.units) ‹39› ‹35› (fun _ _=>rfl)) ‹39› (bD _)))) (fun C s2 H2 ex=>‹35›) ⋯ ⋯ ⋯ ⋯ ⋯ ⋯) (@aA _ _ _ _ _ (@fY _ _ _ _ _ _ _ _ (lQ eO) ⋯ (@bT _ K _ _ _ (@pv _ 9 _ _ ⋯ ⋯ ⋯ ⋯) ⋯) (@bG _ _ (8) _ nD0 ⋯ ⋯ ⋯) (@aA _ _ _ _ _ (@uF _ _ _ _ _ _ (@eC _ _ _ _ _ _ (hu1 hr.units) ‹24› (@pv _ 8 _ _ ⋯ ⋯ ⋯ ⋯) (fun _ _=>rfl)) (@jF _ K _ _ _ (2) _ (@cM _ _ _ _ _ (@bG _ _ (10) _ nD0 ⋯ ⋯ ⋯) (@cM _ _ _ _ _ (@bG _ _ (11) _ nD0 ⋯ ⋯ ⋯) (@jE _) ⋯) ⋯) ⋯ ⋯ ⋯ ⋯) ⋯ ⋯ ⋯) (@aC _ _ _ (aU (a9 ab3 ‹19› aX (aE (pv 0) (fH (cB (bU (bE (aM bL (aE (pv 8) (bR (bB lD (bE (aE (pv 11) aH)) (pv 10)) aH)))) aH)) ‹50›)))))) ⋯) (@aA _ _ _ _ _ (aU (a9 ae1 ‹19› aX ‹36›)) (@aC _ _ _ (@aP _ _ _ _ (@bF _ _ _ _ _ _ _ _ _ (dC K) ⋯ T.ad2 fV (@aE _ _ _ _ _ _ (@pv _ 9 _ _ ⋯ ⋯ ⋯ ⋯) (@aH _)) ⋯ ⋯ ⋯ ⋯))))))) (@aO _)) (@aA _ _ _ _ _ (@a7 _ _ (12) _ _ _ _ nD0 ⋯ ⋯ ‹48› ⋯ ⋯) (@aA _ _ _ _ _ (@o6 _ _ _ _ _ _ (lQ eO) (@PW.pt _ _ _ (@l5 _ _ _ _ _ _ _ (@aQ _ _ _ _ _ _ _ _ o8 (@bF _ _ _ _ _ _ _ _ _ (dC K) ⋯ T.ad2 fV ‹90› ⋯ ⋯ ⋯ ⋯) ‹48› (bD _)) (@jD _ _ _ _ (@aQ _ _ _ _ _ _ _ _ (kB K) ‹24› (IJ (c9 ["_law_number"] [("_law_state",0)] ⋯ (II ‹22›) (fun C s2 H2 ex=>(bG (i:=0) ‹51› ⋯ (Or.inl ⋯))) ‹42› (fun C s2 H2 ex=>(eC (hu1 hr.units) ‹61› (pv 0) (fun _ _=>rfl))))) ⋯)))) (@aA _ _ _ _ _ (aU (a9 ae1 ‹19› aX ‹36›)) (@aC _ _ _ (@CH _ _ (12) _ _ _ _ _ _ nD0 ⋯ ⋯ ‹48› G0 ⋯)))) (@aC _ _ _ (@aP _ _ _ _ (@pv _ 12 _ _ ⋯ ⋯ ⋯ ⋯))))))))),?_⟩
 obtain⟨kl,l1,l2⟩:=h.ls
 obtain⟨kh,l3,l4⟩:=h.hs
 have cnt:=ok.cnt
 have hl:=ok.hl
 refine⟨_,rfl,se,_,rfl,SqT.of gs,rfl,_,_,rfl,_,_,rfl,_,_,rfl,rfl,_,rfl,d,_,_,.str y,rfl,rfl,SqT.of gd,aW (by decide) rfl,?_⟩
 refine⟨_,rfl,rfl,_,rfl,?_⟩
 show if decide (V.str y=V.str "wait")=true then _ else _
 by_cases e1:y = "wait"
 ·rw[decide_eq_true (by rw[e1])]
  obtain⟨m,rfl⟩:=hw e1
  refine aT ⟨_,rfl,S.ps,_,rfl,h.g_time,_,rfl,d,_,_,.int m,rfl,rfl,SqT.of gd,aW (by decide) rfl,_,_,rfl,rfl,_,kM.k (k:=Sum.inr "time") h.st (by show 7<sizeLine; decide),?_⟩
  have e2:eI (stK S M) (Sum.inr "time") (.int (M.time+m))=stK S { M with time:=M.time+m }:=rfl
  rw[e2]
  have h1:=h.setF { M with time:=M.time+m } rfl rfl rfl rfl
  have st1:=bW h KU (.dK (stK S { M with time:=M.time+m }))
  have ok1:MsOk { M with time:=M.time+m } c n:=⟨ok.af,ok.so,ok.lt,ok.cnt,ok.wk,ok.hn,ok.hl,ok.hk,ok.ne,ok.rl,ok.sg⟩
  generalize ({ M with time:=M.time+m }:Ms)=M1 at h1 st1 ok1 ⊢
  generalize upd H S.ps (.dK (stK S M1))=H1 at h1 st1 ⊢
  obtain⟨kh1,a3,a4⟩:=h1.hs
  have hl1:=ok1.hl
  refine⟨_,rfl,S.ps,_,rfl,h1.g_hands,S.ph,kh1,M1.hs.map (·.1),rfl,a3,a4.keys,.inl (by rw[length_map]; omega),by rw[length_map]; omega,fun p ms perm pw hp=>?_⟩
  have nd:ms.Nodup:=perm.nodup_iff.mpr ok1.hn
  have lk:ms.length<=1000:=by rw[perm.length_eq,length_map]; omega
  have mk:∀ k∈ms,k∈M1.hs.map (·.1):=fun k hk=>perm.mem_iff.mp hk
  have s2:=aD (o:=.lst (ms.map V.int)) hp
  have g2:upd H1 p (.lst (ms.map V.int)) p=some (.lst (ms.map V.int)):=aB
  generalize upd H1 p (.lst (ms.map V.int))=H2 at s2 g2 ⊢
  have ht:∀ n:Int,∃ k:Int,n∈M1.hs.map (·.1)->∃ t b,dM kh1 (Sum.inl n)=some (.ref t)/\H1 t=some (.tup [.str b,.int k]):=fun n=>by
   by_cases hn:n∈M1.hs.map (·.1)
   ·obtain⟨a,v,_,ev,t,e1,e2⟩:=a4.look hn
    exact⟨a.2,fun _=>⟨t,a.1,by rw[ev,e1],e2⟩⟩
   ·exact⟨0,fun z=>absurd z hn⟩
  obtain⟨tm,htm⟩:=Classical.axiomOfChoice ht
  refine⟨p,rfl,⟨_,SqL.of g2⟩,?_⟩
  refine fR (bS (K:=K) (SqL.of g2)) (by rw[length_map]; exact le_trans lk (by decide)) (fun j=>decide (hold<M1.time - tm (ms.getD j 0))) (fun j=>V.int (ms.getD j 0)) (fun σ=>∃ z,σ = [z,some (.ref S.ps),some (.int hold)]) ⟨none,rfl⟩ ?_ ?_
  ·intro j x σc H3 hj hσ s3 hx Q1 Q2 Q3 h2' h3'
   obtain⟨z,rfl⟩:=hσ
   rw[getElem?_map]at hx
   cases e:ms[j]? with
   | none=>rw[e]at hx; cases hx
   | some k=>
    rw[e]at hx
    cases hx
    have eg:ms.getD j 0=k:=by rw[getD_eq_getElem?_getD,e]; rfl
    rw[eg]at h2' h3'
    have hs3:=h1.same (s2.trans s3)
    obtain⟨t,b,ev,gt⟩:=htm k (mk k (mem_of_getElem? e))
    have dg:=cS.k (k:=Sum.inl k) ((s2.trans s3) _ _ a3)
    rw[ev]at dg
    refine⟨_,rfl,S.ps,_,rfl,hs3.g_time,_,rfl,S.ps,_,rfl,hs3.g_hands,_,rfl,S.ph,_,rfl,dg,t,_,_,.int (tm k),rfl,rfl,SqT.of ((s2.trans s3) _ _ gt),aW (by decide) rfl,_,_,rfl,rfl,_,rfl,_,_,rfl,rfl,_,rfl,?_⟩
    by_cases hn:hold<M1.time - tm k
    ·rw[decide_eq_true hn]
     exact aT ⟨_,rfl,h2' _ ⟨_,rfl⟩ (decide_eq_true hn)⟩
    ·rw[decide_eq_false hn]
     exact bC (h3' _ ⟨_,rfl⟩ (decide_eq_false hn))
  intro pl3 H3 hpl3 s3 g3
  rw[length_map,gB ms (fun k=>decide (hold<M1.time - tm k))]at g3
  have hsub:∀ k∈ms.filter (fun k=>decide (hold<M1.time - tm k)),k∈M1.hs.map (·.1):=fun k hk=>mk k (mem_filter.mp hk).1
  have nd2:(ms.filter fun k=>decide (hold<M1.time - tm k)).Nodup:=nd.filter _
  generalize ms.filter (fun k=>decide (hold<M1.time - tm k))=la at g3 hsub nd2
  have h3:=h1.same (s2.trans s3)
  have st3:=st1.trans (aG.stepS (s2.trans s3))
  have np3:pl3 ∉ stL S:=h1.off (s2.free hpl3)
  refine⟨_,rfl,pl3,rfl,⟨_,SqL.of g3⟩,?_⟩
  refine mF (bS (K:=K) (H:=upd (fun _=>none) pl3 (.lst (la.map V.int))) (SqL.of aB)) (fun i σ H'=>∃ z8,σ = [some (.ref S.ps),some (.ref d),some (.ref se),some (.int most),some (.int hold),some (.int tries),some (.str y),some (.ref pl3),z8,none,none,none,none]/\StepS S S H3 H'/\StAt H' S ((la.take i).foldl mH M1)) ⟨_,rfl,aG.stepS (aG.refl _),h3⟩ (fun i σ H' hh b u e=>?_) ?_ ?_
  ·obtain⟨_,_,st,_⟩:=hh
   by_cases yb:b=pl3
   ·subst yb
    rw[aB]at e
    injection e with e
    rw[<- e]
    exact st.frm _ _ g3 np3
   ·rw[aF yb]at e
    cases e
  ·rintro D' i x σ H5 H6 hD' - hi ⟨z8,rfl,st,h5⟩ s6 hx
   have st6:=st.trans (aG.stepS s6)
   have h6:=h5.same s6
   rw[getElem?_map]at hx
   cases e:la[i]? with
   | none=>rw[e]at hx; cases hx
   | some k=>
    rw[e]at hx
    cases hx
    have tk:(la.take (i+1)).foldl mH M1=mH ((la.take i).foldl mH M1) k:=by
     rw[take_succ,e]
     show ((la.take i++[k]).foldl mH M1)=_
     rw[List.foldl_append]
     rfl
    have hk:k∈(((la.take i).foldl mH M1).hs).map (·.1):=x4 (hsub k (mem_of_getElem? e)) (fun z=>by
     obtain⟨j,hj,ej⟩:=List.mem_iff_getElem.mp z
     rw[length_take]at hj
     rw[List.getElem_take]at ej
     obtain⟨hi2,ei⟩:=List.getElem?_eq_some_iff.mp e
     have:=(List.getElem_inj nd2).mp (ej.trans ei.symm)
     omega)
    generalize (la.take i).foldl mH M1=Mi at h6 tk hk
    obtain⟨khi,b3,b4⟩:=h6.hs
    obtain⟨_,v,_,ev,_⟩:=b4.look hk
    refine⟨_,rfl,S.ps,_,rfl,h6.g_hands,.inr (.inr (.inl ⟨rfl,.inl ⟨_,b3⟩⟩)),_,rfl,S.ph,khi,Sum.inl k,v,rfl,rfl,b3,ev,?_⟩
    refine hD' _ _ ⟨_,rfl,st6.trans (bW h6 Ii _),?_⟩
    rw[tk]
    exact h6.setH b4.drop
  ·rintro σ H5 ⟨z8,rfl,st,h5⟩
   exact⟨_,rfl,q S _ H5 _ (st3.trans st) h5 (BO (ok1.mono (le_refl _) (by omega)))⟩
 rw[decide_eq_false (fun e=>e1 (by injection e))]
 refine bC ⟨_,rfl,rfl,_,rfl,?_⟩
 show if decide (V.str y=V.str "new")=true then _ else _
 by_cases e2:y = "new"
 ·rw[decide_eq_true (by rw[e2])]
  obtain⟨k,rfl⟩:=hne e2
  refine aT ⟨_,rfl,d,_,_,.int k,rfl,rfl,SqT.of gd,aW (by decide) rfl,_,rfl,_,rfl,S,M,tries,rfl,h,ok.so,by omega,fun P' p p1 p2 H1 s1 gp g1 g2 f1 f2=>?_⟩
  have hsm:∀ j∈((iP M).filter fun n=>decide (n ∉ (iP M).filter P')),j∈M.ls.map (·.1):=fun j hj=>(mem_filter.mp ‹55›).1
  generalize ((iP M).filter fun n=>decide (n ∉ (iP M).filter P'))=dl at g2 hsm
  refine⟨p,_,_,.ref p2,rfl,rfl,SqT.of gp,aW (by decide) rfl,p2,_,rfl,.inl (SqL.of g2),rfl,m4 _,_,rfl,?_⟩
  rw[if_pos rfl,pJ]
  have h1:=h.same s1
  by_cases hk:k∈dl
  ·rw[decide_eq_true hk]
   have gd1:=s1 _ _ gd
   refine bC ⟨_,rfl,_,rfl,d,_,_,.int k,rfl,rfl,SqT.of gd1,aW (by decide) rfl,aJ,fun p0 hp0=>⟨aJ,fun p1 hp1=>⟨aJ,fun p2 hp2=>⟨_,rfl,?_⟩⟩⟩⟩
   refine zG (E:=E0) h1 ok (by omega) (by omega) (fun S1 H2 st2 h2=>?_) hp0 hp1 hp2
   have ok1:=ok.write1 (r:=("new",k,[])) (most:=most) (zero_le _) (fun z=>by cases z)
   obtain⟨w1,w2,w3,w4,w5⟩:=fW M [("new",k,[])] most
   generalize eJ M [("new",k,[])] most=M1 at h2 ok1 w1 w2 w3 w4 w5
   have st:=(aG.stepS s1).trans st2
   have gd2:=st.tup _ _ gd
   obtain⟨kl2,a1,a2⟩:=h2.ls
   have hkl:k∈M1.ls.map (·.1):=by rw[w1]; exact hsm k hk
   obtain⟨a,v,ha,ev,t,b,ev2,gt,gb⟩:=a2.look hkl
   have dg:=cS.k (k:=Sum.inl k) a1
   rw[ev,ev2]at dg
   refine⟨_,rfl,S1.ps,_,(by rw[st.ps]),h2.g_letters,_,rfl,d,_,_,.int k,rfl,rfl,SqT.of gd2,aW (by decide) rfl,S1.pl,_,rfl,dg,t,_,_,.ref b,rfl,rfl,SqT.of gt,aW (by decide) rfl,aJ,fun pt hpt=>?_⟩
   have s3:=aD (o:=.tup [.ref b,.int 0]) hpt
   have g3:upd H2 pt (.tup [.ref b,.int 0]) pt=some (.tup [.ref b,.int 0]):=aB
   generalize upd H2 pt (.tup [.ref b,.int 0])=H3 at s3 g3 ⊢
   have h3:=h2.same s3
   obtain⟨kl3,a5,a6⟩:=h3.ls
   have cn1:=ok1.cnt
   refine⟨_,rfl,S1.ps,_,(by rw[st.ps]),h3.g_letters,_,rfl,d,_,_,.int k,rfl,rfl,SqT.of (s3 _ _ gd2),aW (by decide) rfl,S1.pl,_,rfl,kM.k (k:=Sum.inl k) a5 (by rw[a6.len]; exact lt_of_le_of_lt ‹72› (by decide)),?_⟩
   exact q S1 _ _ _ (st.trans ((aG.stepS s3).trans (bW h3 Gs _))) (h3.setL (a6.put (n:=k) (a:=(a.1,0)) (v:=.ref pt) ⟨pt,b,rfl,g3,s3 _ _ gb⟩)) ((ok1.setL1 (a:=(a.1,0)) hkl (show a.1.length<=60 from (ok1.lt _ ha).2.2)).mono (le_refl _) (by omega))
  ·rw[decide_eq_false hk]
   exact aT (q S M H1 _ (aG.stepS s1) h1 (ok.mono (le_refl _) (by omega)))
 rw[decide_eq_false (fun e=>e2 (by injection e))]
 refine bC ⟨_,rfl,rfl,_,rfl,?_⟩
 show if decide (V.str y=V.str "carry")=true then _ else _
 by_cases e3:y = "carry"
 ·rw[decide_eq_true (by rw[e3])]
  refine aT ⟨_,rfl,S.ps,_,rfl,h.g_rows,S.pr,_,rfl,.inl (SqL.of h.rw),rfl,_,rfl,?_⟩
  have el:((S.rs.map V.ref).length:Int)=(M.rows.length:Int):=by rw[length_map,h.rr.len]
  rw[el]
  by_cases one:M.rows.length=1
  ·rw[decide_eq_true (by rw[one]; rfl)]
   exact aT (q S M H _ (aG.stepS (aG.refl _)) h (ok.mono (le_refl _) (by omega)))
  rw[decide_eq_false (fun e=>one (by injection e with e; omega))]
  refine bC ?_
  have two:2<=M.rows.length:=by
   have:=ok.ne
   cases e:M.rows with
   | nil=>exact absurd e this
   | cons r rs=>
    rw[e]at one
    cases rs with
    | nil=>exact absurd rfl one
    | cons r2 rs=>rw[length_cons,length_cons]; omega
  have wl:M.wh.length=M.ls.length:=by
   have:=congrArg List.length ok.wk
   rw[length_map,length_map]at this
   exact this
  refine⟨_,rfl,S.ps,_,rfl,h.g_where,S.pw,wsK M.wh,M.wh.map (·.1),rfl,h.wh,AE _,.inr (by rw[ok.wk]; exact ok.so.imp le_of_lt),by rw[length_map]; omega,fun p ms perm pw hp=>?_⟩
  have lk:ms.length<=9 * c:=by rw[perm.length_eq,length_map]; omega
  have mk:∀ k∈ms,k∈M.wh.map (·.1):=fun k hk=>perm.mem_iff.mp hk
  have s2:=aD (o:=.lst (ms.map V.int)) hp
  have g2:upd H p (.lst (ms.map V.int)) p=some (.lst (ms.map V.int)):=aB
  generalize upd H p (.lst (ms.map V.int))=H2 at s2 g2 ⊢
  refine⟨p,rfl,⟨_,SqL.of g2⟩,?_⟩
  refine fR (bS (K:=K) (SqL.of g2)) (by rw[length_map]; exact le_trans ‹72› (by decide)) (fun j=>decide (V.int ((pE M.wh (ms.getD j 0)).getD 0)=V.int M.first)) (fun j=>V.int (ms.getD j 0)) (fun σ=>∃ z,σ = [z,some (.ref S.ps)]) ⟨none,rfl⟩ ?_ ?_
  ·intro j x σc H3 hj hσ s3 hx Q1 Q2 Q3 h2' h3'
   obtain⟨z,rfl⟩:=hσ
   rw[getElem?_map]at hx
   cases e:ms[j]? with
   | none=>rw[e]at hx; cases hx
   | some k=>
    rw[e]at hx
    cases hx
    have eg:ms.getD j 0=k:=by rw[getD_eq_getElem?_getD,e]; rfl
    rw[eg]at h2' h3'
    have hs3:=h.same (s2.trans s3)
    obtain⟨wk,ewk⟩:=qN (mk k (mem_of_getElem? e))
    have dg:=cS.k (k:=Sum.inl k) hs3.wh
    rw[sD,ewk]at dg
    rw[ewk]at h2' h3'
    refine⟨_,rfl,S.ps,_,rfl,hs3.g_where,_,rfl,S.pw,_,rfl,dg,_,rfl,S.ps,_,rfl,hs3.g_first,rfl,_,rfl,?_⟩
    cases hb:decide (V.int wk=V.int M.first) with
    | true=>exact aT ⟨_,rfl,h2' _ ⟨_,rfl⟩ hb⟩
    | false=>exact bC (h3' _ ⟨_,rfl⟩ hb)
  intro pl3 H3 hpl3 s3 g3
  rw[length_map,gB ms (fun k=>decide (V.int ((pE M.wh k).getD 0)=V.int M.first))]at g3
  have hsub:∀ k∈ms.filter (fun k=>decide (V.int ((pE M.wh k).getD 0)=V.int M.first)),k∈M.ls.map (·.1):=fun k hk=>by
   rw[<- ok.wk]
   exact mk k (mem_filter.mp hk).1
  have lla:(ms.filter (fun k=>decide (V.int ((pE M.wh k).getD 0)=V.int M.first))).length<=9 * c:=le_trans (length_filter_le _ _) lk
  generalize ms.filter (fun k=>decide (V.int ((pE M.wh k).getD 0)=V.int M.first))=la at g3 hsub lla
  have h3:=h.same (s2.trans s3)
  have st3:StepS S S H H3:=aG.stepS (s2.trans s3)
  have np3:pl3 ∉ stL S:=h.off (s2.free hpl3)
  refine⟨_,rfl,pl3,rfl,⟨_,SqL.of g3⟩,?_⟩
  refine mF (bS (K:=K) (H:=upd (fun _=>none) pl3 (.lst (la.map V.int))) (SqL.of aB)) (fun i σ H'=>∃ z8 z10 z11 S1 M1,σ = [some (.ref S.ps),some (.ref d),some (.ref se),some (.int most),some (.int hold),some (.int tries),some (.str y),none,z8,some (.ref pl3),z10,z11,none]/\StepS S S1 H3 H'/\StAt H' S1 M1/\MsOk M1 c (n+2 * i)/\M1.ls=M.ls/\2<=M1.rows.length) ⟨_,_,_,S,M,rfl,aG.stepS (aG.refl _),h3,ok,rfl,two⟩ (fun i σ H' hh b u e=>?_) ?_ ?_
  ·obtain⟨_,_,_,_,_,_,st,_⟩:=hh
   by_cases yb:b=pl3
   ·subst yb
    rw[aB]at e
    injection e with e
    rw[<- e]
    exact st.frm _ _ g3 np3
   ·rw[aF yb]at e
    cases e
  ·rintro D' i x σ H5 H6 hD' - hi ⟨z8,z10,z11,S1,M1,rfl,st,h5,ok5,els,tw5⟩ s6 hx
   have st6:=st.trans (aG.stepS s6)
   have h6:=h5.same s6
   rw[getElem?_map]at hx
   rw[length_map]at hi
   cases e:la[i]? with
   | none=>rw[e]at hx; cases hx
   | some k=>
    rw[e]at hx
    cases hx
    have hk:k∈M1.ls.map (·.1):=by rw[els]; exact hsub k (mem_of_getElem? e)
    obtain⟨kl1,b1,b2⟩:=h6.ls
    obtain⟨a,v,ha,ev,t,b,ev2,gt,gb⟩:=b2.look hk
    have dg:=cS.k (k:=Sum.inl k) b1
    rw[ev,ev2]at dg
    have hbl:a.1.length<=60:=(ok5.lt _ ha).2.2
    refine⟨_,rfl,S1.ps,_,(by rw[st.ps]),h6.g_letters,_,rfl,S1.pl,_,rfl,dg,t,_,rfl,SqT.of gt,rfl,_,_,rfl,_,_,rfl,rfl,?_⟩
    refine⟨_,rfl,_,rfl,_,rfl,aJ,fun pa hpa=>?_⟩
    have v1:=aD (o:=.tup [.int a.2]) hpa
    have u1:upd H6 pa (.tup [.int a.2]) pa=some (.tup [.int a.2]):=aB
    generalize upd H6 pa (.tup [.int a.2])=H7 at v1 u1 ⊢
    refine⟨_,rfl,pa,b,_,_,rfl,rfl,u1,v1 _ _ gb,le_trans (show _<=100 by rw[length_map]; show 1+a.1.length<=100; omega) (by decide),fun pc H8 v2 u2=>⟨aJ,fun p1 hp1=>⟨aJ,fun p2 hp2=>⟨_,rfl,?_⟩⟩⟩⟩
    have v3:=aD (o:=.tup [.str "carried",.int k,.ref pc]) hp1
    have u3:upd H8 p1 (.tup [.str "carried",.int k,.ref pc]) p1=some (.tup [.str "carried",.int k,.ref pc]):=aB
    generalize upd H8 p1 (.tup [.str "carried",.int k,.ref pc])=H9 at v3 u3 hp2 ⊢
    have v4:=aD (o:=.lst [.ref p1]) hp2
    refine De (E:=E0) (ns:=a.2::a.1) (H:=H6) (S:=S1) (M:=M1) st.ps.symm h6 ok5 (by omega) (by omega) (v1.trans (v2.trans (v3.trans v4))) aB (v4 _ _ u3) ((v3.trans v4) _ _ u2) ((v1.trans (v2.trans v3)).free hp2) fun S2 H' st2 h'=>?_
    have okw:=ok5.write1 (r:=("carried",k,a.2::a.1)) (most:=most) (show a.1.length+1<=61 by omega) (fun _=>hk)
    have wls:=(fW M1 [("carried",k,a.2::a.1)] most).1
    have wl1:=Bs M1 ("carried",k,a.2::a.1) most ok5.ne
    refine hD' _ _ ⟨_,_,_,S2,_,rfl,st6.trans st2,h',okw.mono (le_refl _) (by omega),wls.trans els,by omega⟩
  ·rintro σ H5 ⟨z8,z10,z11,S1,M1,rfl,st,h5,ok5,els,tw5⟩
   rw[length_map]at ok5
   cases er:M1.rows with
   | nil=>exact absurd er ok5.ne
   | cons r rs=>
    refine⟨_,rfl,S1,M1,r,rs,(by rw[st.ps]),h5,er,fun S2 H6 st6 h6=>?_⟩
    refine⟨_,rfl,pl3,_,rfl,.inl (SqL.of (st6.frm _ _ (st.frm _ _ g3 np3) (st.not g3 np3))),q S2 _ H6 _ (st3.trans (st.trans st6)) h6 ((ok5.front er ?_).mono (le_refl _) (by omega))⟩
    intro z
    rw[er,z]at tw5
    exact absurd (show 2<=1 from tw5) (by decide)
 rw[decide_eq_false (fun e=>e3 (by injection e))]
 refine bC ?_
 refine⟨fun m σ H'=>∃ j S1 M1,σ = [some (.ref S.ps),some (.ref d),some (.ref se),some (.int most),some (.int hold),some (.int tries),some (.str y),none,none,none,none,none,some (.int j)]/\StepS S S1 H H'/\StAt H' S1 M1/\MsOk M1 c n/\M1.rows.length=m,⟨_,0,S,M,rfl,aG.stepS (aG.refl _),h,ok,rfl⟩,?_⟩
 rintro m σ H1 ⟨j,S1,M1,rfl,st,h1,ok1,rfl⟩
 have el:((S1.rs.map V.ref).length:Int)=(M1.rows.length:Int):=by rw[length_map,h1.rr.len]
 refine⟨_,rfl,S1.ps,_,(by rw[st.ps]),h1.g_rows,S1.pr,_,rfl,.inl (SqL.of h1.rw),_,_,rfl,rfl,_,rfl,?_⟩
 rw[el]
 by_cases hgt:(1:Int)<(M1.rows.length:Int)
 ·rw[decide_eq_true hgt]
  refine aT ⟨_,rfl,S1.ps,_,(by rw[st.ps]),h1.g_first,_,rfl,S1.ps,_,(by rw[st.ps]),h1.g_where,S1.pw,wsK M1.wh,rfl,h1.wh,fun o=>?_⟩
  have g0:upd H1 S1.pw (.frz o (.dK (wsK M1.wh))) S1.pw=some (.frz o (.dK (wsK M1.wh))):=aB
  have u0:∀ b u,H1 b=some u->b≠S1.pw->upd H1 S1.pw (.frz o (.dK (wsK M1.wh))) b=some u:=fun b u e nb=>by rw[aF nb]; exact e
  have nps:S1.ps≠S1.pw:=(nds.mp h1.nd).ps.2.2.2.1
  generalize upd H1 S1.pw (.frz o (.dK (wsK M1.wh)))=H2 at g0 u0 ⊢
  have g_st:=u0 _ _ h1.st nps
  have wl:(wsK M1.wh).length<=1000:=by
   have:=congrArg List.length ok1.wk
   rw[length_map,length_map]at this
   have:=ok1.cnt
   unfold wsK
   rw[length_map]
   omega
  refine dE (Fi g0) (le_trans wl (by decide)) (fun i v _=>∃ z,v = .int z) (fun _ _ _ _ _ h=>h) (fun σ=>∃ z,σ = [z,some (.ref S.ps)]) ⟨none,rfl⟩ ?_ ?_
  ·rintro i x σc H3 hi ⟨z,rfl⟩ s3 ⟨kk,v,ek,rfl⟩ Q' hQ'
   have hk:kk∈(wsK M1.wh).map (·.1):=mem_map.mpr ⟨_,mem_of_getElem? ek,rfl⟩
   rw[AE]at hk
   obtain⟨k,hk2,rfl⟩:=mem_map.mp hk
   obtain⟨wk,ewk⟩:=qN hk2
   have dg:cS H3 S1.pw (.int k) (some (.int wk)):=.inl ⟨wsK M1.wh,Sum.inl k,.inr ⟨o,s3 _ _ g0⟩,rfl,by rw[sD,ewk]; rfl⟩
   exact⟨_,rfl,S1.ps,_,(by rw[st.ps]),cS.k (k:=Sum.inr "where") (s3 _ _ g_st),_,rfl,S1.pw,_,rfl,dg,hQ' _ _ _ ⟨_,rfl⟩ (aG.refl _) ⟨_,rfl⟩⟩
  intro D ys H3 hD s3 gD hlen hR
  obtain⟨ns,rfl⟩:∃ ns:Lc,ys=ns.map V.int:=by
   clear hlen gD
   have:∀ y∈ys,∃ z,y=V.int z:=fun y hy=>by
    obtain⟨i,hi⟩:=List.mem_iff_getElem?.mp hy
    exact hR i y hi
   clear hR
   induction ys with
   | nil=>exact⟨[],rfl⟩
   | cons y ys ih=>
    obtain⟨ns,e⟩:=ih fun z hz=>this z (mem_cons_of_mem _ hz)
    obtain⟨z,ez⟩:=this y mem_cons_self
    exact⟨z::ns,by rw[map_cons,e,ez]⟩
  have nD:D≠S1.pw:=fun z=>by rw[z,g0]at hD; cases hD
  have s4:aG H1 (upd H3 S1.pw (.dK (wsK M1.wh))):=fun b u e=>by
   by_cases yb:b=S1.pw
   ·subst yb
    rw[aB,<- e,h1.wh]
   ·rw[aF yb]
    exact s3 _ _ (u0 b u e yb)
  refine⟨S1.pw,o,_,s3 _ _ g0,⟨_,h1.wh⟩,?_⟩
  have gD4:upd H3 S1.pw (.dK (wsK M1.wh)) D=some (.lst (ns.map V.int)):=by rw[aF nD]; exact gD
  generalize upd H3 S1.pw (.dK (wsK M1.wh))=H4 at s4 gD4 ⊢
  have h4:=h1.same s4
  refine⟨D,_,rfl,.inl (SqL.of gD4),rfl,m4 _,_,rfl,?_⟩
  rw[if_pos rfl,pJ]
  cases hb:decide (M1.first∈ns) with
  | true=>exact bC ⟨_,rfl,q S1 M1 H4 _ (st.trans (aG.stepS s4)) h4 (ok1.mono (le_refl _) (by omega))⟩
  | false=>
   cases er:M1.rows with
   | nil=>exact absurd er ok1.ne
   | cons r rs=>
    refine aT ⟨fun σ' H'=>∃ j S1 M1,σ'=[some (.ref S.ps),some (.ref d),some (.ref se),some (.int most),some (.int hold),some (.int tries),some (.str y),none,none,none,none,none,some (.int j)]/\StepS S S1 H H'/\StAt H' S1 M1/\MsOk M1 c n/\M1.rows.length=rs.length,fun σ' H' hh=>⟨rs.length,by rw[length_cons]; omega,hh⟩,?_⟩
    refine⟨_,rfl,S1,M1,r,rs,(by rw[st.ps]),h4,er,fun S2 H6 st6 h6=>?_⟩
    refine⟨_,rfl,_,_,rfl,rfl,_,S2,_,rfl,st.trans ((aG.stepS s4).trans st6),h6,ok1.front er ?_,rfl⟩
    intro z
    rw[er,z]at hgt
    exact absurd (show (1:Int)<1 from hgt) (by decide)
 ·rw[decide_eq_false hgt]
  refine bC (bC ?_)
  exact⟨_,rfl,q S1 M1 H1 _ st h1 (ok1.mono (le_refl _) (by omega))⟩
end
abbrev DI:Stmt:=top 79
def MsOk.addH (h:MsOk M c n) (hj:j∈M.ls.map (·.1)) (nj:j ∉ M.hs.map (·.1)) (ha:dZ a.1):MsOk { M with hs:=iB M.hs j a } (c+1) n:=by
 have e:iB M.hs j a=M.hs++[(j,a)]:=Aq a nj
 rw[e]
 have af:=h.af
 refine⟨⟨af.1,by show M.after<=9 * ((c+1:Nat):Int); omega⟩,h.so,h.lt,le_trans h.cnt (by omega),h.wk,?_,?_,fun p hp=>?_,h.ne,h.rl,h.sg⟩
 ·show ((M.hs++[(j,a)]).map (·.1)).Nodup
  rw[map_append,nodup_append]
  refine⟨h.hn,by simp,fun x hx y hy=>?_⟩
  rw[mem_singleton.mp (show y∈[j] from hy)]
  exact fun z=>nj (by rw[<- z]; exact hx)
 ·show (M.hs++[(j,a)]).length<=c+1
  rw[length_append]
  exact Nat.add_le_add_right h.hl 1
 ·have hp:p∈M.hs++[(j,a)]:=hp
  rcases mem_append.mp hp with z | z
  ·exact h.hk p z
  ·rw[mem_singleton.mp z]
   exact⟨hj,ha⟩
def kI {H:Hp} {p:Addr} {ns:Lc} (g:H p=some (.lst (ns.map V.int))):Den H (.list (ns.map .int)) (.ref p):=by
 simp only[Den]
 exact⟨p,_,rfl,g,bQ.mpr rfl⟩
def Im (h:dZ x):x ≠ "":=fun z=>by
 rw[z]at h
 exact absurd h.1 (by decide +kernel)
def vE (k:Int) (bss:K9):Lp:=fK "part" k bss++[(("deal",k,[(bss.length:Int)]):Rw)]
inductive tE (vs:Ln) (H:Hp) (Q:VK) (x_3:XK):Prop
 | mk:∀ (S:Sl) (M:Ms) (t se:Addr) (d:nA) (args:Ln) (most hold tries:Int) (c n:Nat),vs=[.ref S.ps,.ref t,.ref se]->StAt H S M->MsOk M c n->n<=70000->c<=49->H se=some (.tup [.int most,.int hold,.int tries])->H t=some (.tup (.str (dY d)::args))->aR H (dF d) args->vN d->Hd S H (c+1) (n+1000) Q->tE vs H Q x_3
section
variable {P:Program} {w:World} {K:K6} {mg:K8} {base:Heap} {A:Ad}
def Ga {f:Addr} {fd:Lh} (F:Fun K "_law_told" "_law_told" DI f fd) (T:‹3›) (al3:‹16› "_law_put" 3 ["_law_state","_law_bodies","_law_most","_law_rows"] yV) (ab3:‹7›) (ac2:‹13›) (am4:‹16› "_law_given" 3 ["_law_state","_law_deed_here","_law_most"] qD) (am5:‹16› "_law_other" 3 ["_law_state","_law_deed_here","_law_settings_here"] qC):‹15› 4 f fd ["_law_state","_law_deed_here","_law_settings_here"] tE:=by
 refine F.okY ["_law_state","_law_deed_here","_law_settings_here","_law_most","_law_hold","_law_tries","_law_word","_law_first","_law_rows","_law_ready_here","_law_body","_law_times"] fun cdv A' outer s H vs Q E hr nD0 h=>?_
 obtain⟨S,M,t,se,d,args,most,hold,tries,c,n,rfl,h,ok,hn,hc,gs,gt,da,dok,q⟩:=h
 refine⟨_,aA (uF (pv 2) (jF K (n:=3) (cM ‹54› (cM ‹73› (cM (bG (i:=5) nD0 ⋯ ⋯) jE)))))
  (aA (a7 (i:=6) nD0 ⋯ ⋯ ‹21›)
  (aA (a7 (i:=7) nD0 ⋯ ⋯ ‹22›)
  (aA (bA ‹70›
   (aA (aU (a9 al3 ‹19› aX (aE (pv 0) (fH (cB ‹80›) (aE (pv 3) (fH (cB (bU (bE (aM bL (aE (pv 7) ‹80›))) aH)) aH))))))
   (aC (aP (pv 7))))
   aO)
  (aA (bA ‹70›
   (aA (mU (i:=8) ["_law_k","_law_body"] [("_law_first",7)] nD0 ⋯ ⋯ ⋯ (GO K T.af9 ‹21›) (fun C s2 H2 ex=>(jF K (n:=2) (cM (bG (i:=0) (show List.Nodup (["_law_k","_law_body","_law_first"]:Ld) by decide +kernel) ⋯ (Or.inl ⋯)) (cM (bG (i:=1) (show List.Nodup (["_law_k","_law_body","_law_first"]:Ld) by decide +kernel) ⋯ (Or.inl ⋯)) jE)))) ‹42› (fun C s2 H2 ex=>(bE (aM bL (bR (bB cO (pv 2) (pv 0)) ‹29›)))))
   (aA (aU (a9 al3 ‹19› aX (aE (pv 0) (aN ‹21› (aE (pv 3) (bR (bB GY (pv 8) (cB (bU (bE (aM bL (aE (pv 7) (bU (bE (bY (bF (dC K) ⋯ T.ad2 fV ‹80›) aH)) aH)))) aH))) aH))))))
   (aC (aP (uJ ⋯ ⋯ T.at1 ⋯ T.ai4 (aE (pv 7) ‹92›))))))
   aO)
  (aA (bA ‹70›
   (aA (a7 (i:=9) nD0 ⋯ ⋯ (cD (cR K) (a9 ac2 ‹19› aX (aE (pv 0) ‹69›)) aI (fun _ _=>rfl)))
   (aA (bA (aQ (CK hr.units) (pv 9) (cB aH) (bD _))
    ‹66›
    aO)
   (aA (aU (a9 ab3 ‹19› aX (aE (pv 0) (fH (cB (bU (bE (aM bL (aN ‹49› ‹46›))) aH)) ‹50›))))
   (aA (uF (eC (hu1 hr.units) ‹22› ‹49› (fun _ _=>rfl)) (jF K (n:=2) (cM (bG (i:=10) nD0 ⋯ ⋯) (cM (bG (i:=11) nD0 ⋯ ⋯) jE))))
   (aA (fT (hu1 hr.units) ‹22› ‹49› (bE (aE (pv 10) (bR (bB cO (pv 11) aI) aH))) ⋯)
   (aA (fT (hu1 hr.units) ‹22› ‹49› (bE (aN ‹21› ‹92›)) ⋯)
   (aC (aP (bE (aN ‹49› (aE (pv 10) (bR (bB cO (pv 11) aI) aH))))))))))))
   aO)
  (aA (bA (aQ (CJ K) (pv 6) (bE (aM bL ‹25›)) ⋯)
   (aC (aP (a9 am4 ‹19› aX (aE (pv 0) (aE (pv 1) ‹50›)))))
   aO)
  (aC (aP (a9 am5 ‹19› aX (aE (pv 0) (aE (pv 1) ‹37›))))))))))),?_⟩
 have cnt:=ok.cnt
 have hl:=ok.hl
 have wl:M.wh.length=M.ls.length:=by
  have:=congrArg List.length ok.wk
  rw[length_map,length_map]at this
  exact this
 obtain⟨y,ey⟩:∃ y,y=dY d:=⟨_,rfl⟩
 rw[<- ey]at gt
 refine⟨_,rfl,se,_,rfl,SqT.of gs,rfl,_,_,rfl,_,_,rfl,_,_,rfl,rfl,_,rfl,t,_,_,.str y,rfl,rfl,SqT.of gt,aW (by decide) rfl,_,rfl,S.ps,_,rfl,h.g_after,?_⟩
 refine⟨_,rfl,rfl,_,rfl,?_⟩
 show if decide (V.str y=V.str "put")=true then _ else _
 by_cases e1:y = "put"
 ·rw[decide_eq_true (by rw[e1])]
  obtain⟨b,rfl⟩:∃ b,d = .put b:=by
   rw[e1]at ey
   cases d <;> first | exact⟨_,rfl⟩ | (dsimp only[dY]at ey; exact absurd ey (by decide))
  obtain⟨bok,bl⟩:=dok
  simp only[dF,aR]at da
  obtain⟨vb,r,rfl,db,rfl⟩:=da
  simp only[Den]at db
  obtain⟨pbv,zs,rfl,gb,dz⟩:=db
  have ez:=bQ.mp dz
  subst ez
  refine aT ⟨_,rfl,_,rfl,t,_,_,.ref pbv,rfl,rfl,SqT.of gt,aW (by decide) rfl,aJ,fun pb hpb=>?_⟩
  have s1:=aD (o:=.lst [.ref pbv]) hpb
  have g1:upd H pb (.lst [.ref pbv]) pb=some (.lst [.ref pbv]):=aB
  generalize upd H pb (.lst [.ref pbv])=H1 at s1 g1 ⊢
  refine⟨_,rfl,_,rfl,_,rfl,t,_,_,.ref pbv,rfl,rfl,SqT.of (s1 _ _ gt),aW (by decide) rfl,aJ,fun p1 hp1=>⟨aJ,fun p2 hp2=>?_⟩⟩
  have s2:=aD (o:=.tup [.str "put",.int M.after,.ref pbv]) hp1
  have g2:upd H1 p1 (.tup [.str "put",.int M.after,.ref pbv]) p1=some (.tup [.str "put",.int M.after,.ref pbv]):=aB
  generalize upd H1 p1 (.tup [.str "put",.int M.after,.ref pbv])=H2 at s2 g2 hp2 ⊢
  have s3:=aD (o:=.lst [.ref p1]) hp2
  have g3:upd H2 p2 (.lst [.ref p1]) p2=some (.lst [.ref p1]):=aB
  generalize upd H2 p2 (.lst [.ref p1])=H3 at s3 g3 ⊢
  have S13:=s1.trans (s2.trans s3)
  have dbt:Den H3 (.tuple (b.map .int)) (.ref pbv):=by
   simp only[Den]
   exact⟨pbv,_,rfl,S13 _ _ gb,bQ.mpr rfl⟩
  refine⟨S,M,pb,p2,[b],[.ref pbv],[("put",M.after,b)],[.ref p1],most,n,rfl,h.same S13,ok.ne,ok.rl,fun s hs=>(ok.sg s hs).1,by show n+1<=90000; omega,by show M.wh.length+1<=90000; omega,g3,h.off ((s1.trans s2).free hp2),?_,.inl ((s2.trans s3) _ _ g1),h.off hpb,iZ dbt,by show M.ls.length+1<=90000; omega,fun S' H' st h'=>?_⟩
  ·refine iZ ?_
   unfold cA fN
   simp only[Den,aR]
   exact⟨p1,_,rfl,s3 _ _ g2,_,_,rfl,rfl,_,_,rfl,rfl,_,_,rfl,⟨pbv,_,rfl,S13 _ _ gb,bQ.mpr rfl⟩,rfl⟩
  ·exact⟨_,rfl,q S' _ H' _ ((aG.stepS S13).trans st) h' ((ok.put (w:="put") (bs:=[b]) (tl:=[]) (most:=most) rfl (fun x hx=>by rw[mem_singleton.mp hx]; exact bl) (by show 1<=9; omega) (zero_le _) (fun r hr=>by cases hr)).mono (le_refl _) (by omega))⟩
 rw[decide_eq_false (fun e=>e1 (by injection e))]
 refine bC ⟨_,rfl,rfl,_,rfl,?_⟩
 show if decide (V.str y=V.str "all")=true then _ else _
 by_cases e2:y = "all"
 ·rw[decide_eq_true (by rw[e2])]
  obtain⟨bss,rfl⟩:∃ bss,d = .all bss:=by
   rw[e2]at ey
   cases d <;> first | exact⟨_,rfl⟩ | (dsimp only[dY]at ey; exact absurd ey (by decide))
  obtain⟨b1,b9,bok⟩:=dok
  simp only[dF,aR]at da
  obtain⟨va,r,rfl,dva,rfl⟩:=da
  simp only[Den]at dva
  obtain⟨a,xs,rfl,ha,dxs⟩:=dva
  have lb:(dX bss).length=bss.length:=length_map _
  have lx:=dxs.length
  rw[lb]at lx
  refine aT ⟨_,rfl,t,_,_,.ref a,rfl,rfl,SqT.of gt,aW (by decide) rfl,a,_,rfl,SqT.of ha,?_⟩
  refine dE (tD (K:=K) 0 (SqT.of ha)) (by rw[lx]; exact le_trans b9 (by decide)) (fun i y H'=>Den H' (cA ("part",M.after+(i:Int),bss.getD i [])) y) (fun i y G1 G2 s h=>h.n s (k8 _ _ _)) (fun σ=>∃ z1 z2,σ = [z1,z2,some (.int M.after)]) ⟨none,none,rfl⟩ ?_ ?_
  ·intro i x σc H3 hi hσ s3 hx Q' hQ'
   obtain⟨z1,z2,rfl⟩:=hσ
   obtain⟨p,u,rfl,hp,hv⟩:=hx
   obtain⟨e,he,dn⟩:=dxs.get hv
   rw[lx]at hi
   have eb:bss[i]? = some (bss.getD i []):=by rw[getD_eq_getElem?_getD,getElem?_eq_getElem hi]; rfl
   unfold dX at he
   rw[getElem?_map,eb]at he
   cases (Option.some.inj he:PyData.tuple ((bss.getD i []).map .int)=e)
   refine⟨p,_,rfl,SqT.of hp,rfl,_,_,rfl,_,_,rfl,rfl,?_⟩
   refine⟨_,rfl,_,rfl,_,_,rfl,rfl,_,rfl,aJ,fun pt hpt=>?_⟩
   have ei:M.after+(0+(i:Int))=M.after+(i:Int):=by omega
   refine hQ' _ _ _ ⟨_,_,rfl⟩ (aD hpt) ?_
   show Den (upd H3 pt (.tup [.str "part",.int (M.after+(0+(i:Int))),u])) _ _
   rw[ei]
   unfold cA fN
   simp only[Den,aR]
   refine⟨pt,_,rfl,aB,_,_,rfl,rfl,_,_,rfl,rfl,_,_,rfl,?_,rfl⟩
   have:=dn.same (s3.trans (aD (o:=.tup [.str "part",.int (M.after+(i:Int)),u]) hpt))
   simp only[Den]at this
   exact this
  intro D ys H2 hD S2 gD hlen hR
  rw[lx]at hlen
  have gt2:=S2 _ _ gt
  have ha2:=S2 _ _ ha
  refine⟨_,rfl,_,rfl,t,_,_,.ref a,rfl,rfl,SqT.of gt2,aW (by decide) rfl,_,rfl,_,rfl,_,rfl,_,rfl,t,_,_,.ref a,rfl,rfl,SqT.of gt2,aW (by decide) rfl,a,_,rfl,.inr (SqT.of ha2),aJ,fun t1 ht1=>⟨aJ,fun t2 ht2=>⟨aJ,fun l3 hl3=>?_⟩⟩⟩
  rw[lx]at ht2 hl3 ⊢
  have U1:=aD (o:=.tup [.int (bss.length:Int)]) ht1
  have u1:upd H2 t1 (.tup [.int (bss.length:Int)]) t1=some (.tup [.int (bss.length:Int)]):=aB
  generalize upd H2 t1 (.tup [.int (bss.length:Int)])=H3 at U1 u1 ht2 hl3 ⊢
  have U2:=aD (o:=.tup [.str "deal",.int M.after,.ref t1]) ht2
  have u2:upd H3 t2 (.tup [.str "deal",.int M.after,.ref t1]) t2=some (.tup [.str "deal",.int M.after,.ref t1]):=aB
  generalize upd H3 t2 (.tup [.str "deal",.int M.after,.ref t1])=H4 at U2 u2 hl3 ⊢
  have U3:=aD (o:=.lst [.ref t2]) hl3
  have u3:upd H4 l3 (.lst [.ref t2]) l3=some (.lst [.ref t2]):=aB
  generalize upd H4 l3 (.lst [.ref t2])=H5 at U3 u3 ⊢
  have S25:=U1.trans (U2.trans U3)
  refine⟨D,l3,ys,_,rfl,rfl,S25 _ _ gD,u3,?_,fun pc hpc=>?_⟩
  ·rw[hlen]
   exact le_trans (show _<=10 by simp; omega) (by decide)
  have U4:=aD (o:=.lst (ys++[.ref t2])) hpc
  have u4:upd H5 pc (.lst (ys++[.ref t2])) pc=some (.lst (ys++[.ref t2])):=aB
  generalize upd H5 pc (.lst (ys++[.ref t2]))=H6 at U4 u4 ⊢
  have S26:=S25.trans U4
  have S06:=S2.trans S26
  have na:a ∉ stL S:=fun z=>by
   obtain⟨o,e,nt⟩:=h.here z
   rw[ha]at e
   cases e
   exact nt _ rfl
  have plen:(vE M.after bss).length=bss.length+1:=by
   unfold vE
   rw[length_append,kA]
   rfl
  refine⟨S,M,a,pc,bss,xs,vE M.after bss,ys++[.ref t2],most,n,rfl,h.same S06,ok.ne,ok.rl,fun s hs=>(ok.sg s hs).1,by rw[plen]; omega,by rw[plen]; omega,u4,h.off ((S2.trans S25).free hpc),?_,.inr (S06 _ _ ha),na,dxs.same S06,by omega,fun S' H' st h'=>?_⟩
  ·unfold vE
   rw[map_append]
   refine aR.app (lI (by rw[length_map,kA,hlen]) fun i y e=>?_) (iZ ?_)
   ·have hi:i<bss.length:=by
     have:=(List.getElem?_eq_some_iff.mp e).1
     omega
    have eb:bss[i]? = some (bss.getD i []):=by rw[getD_eq_getElem?_getD,getElem?_eq_getElem hi]; rfl
    refine⟨_,?_,(hR i y e).same S26⟩
    rw[getElem?_map,xO eb]
    rfl
   ·unfold cA fN
    simp only[Den,aR,map_cons,map_nil]
    exact⟨t2,_,rfl,U4 _ _ (U3 _ _ u2),_,_,rfl,rfl,_,_,rfl,rfl,_,_,rfl,⟨t1,_,rfl,U4 _ _ (U3 _ _ (U2 _ _ u1)),_,_,rfl,rfl,rfl⟩,rfl⟩
  ·have st':=(aG.stepS S06).trans st
   have okp:MsOk (CF M bss (vE M.after bss) most) (c+1) (n+11):=ok.put (w:="part") (bs:=bss) (tl:=[("deal",M.after,[(bss.length:Int)])]) (most:=most) rfl (fun x hx=>(bok x hx).2) b9 (le_refl _) (fun r hr=>by rw[mem_singleton.mp hr]; exact⟨rfl,by show 1<=61; omega⟩)
   have ea:(CF M bss (vE M.after bss) most).after=M.after+(bss.length:Int):=by
    unfold CF
    rw[(vI bss _).1,(fW M _ most).2.2.1]
   have af:=ok.af
   generalize CF M bss (vE M.after bss) most=M' at h' okp ea
   refine⟨_,rfl,_,rfl,S'.ps,_,(by rw[st'.ps]),h'.g_after,_,_,rfl,?_,?_,fun p hp=>?_⟩
   ·rw[ea]
    exact⟨by omega,by omega,by omega,by omega⟩
   ·rw[ea]
    exact le_trans (show _<=9 by omega) (by decide)
   ·have sp:=aD (o:=.lst ((List.range (M'.after - M.after).toNat).map fun k=>.int (M.after+(k:Nat)))) hp
    exact q S' M' _ _ (st'.trans (aG.stepS sp)) (h'.same sp) (okp.mono (le_refl _) (by omega))
 rw[decide_eq_false (fun e=>e2 (by injection e))]
 refine bC ⟨_,rfl,rfl,_,rfl,?_⟩
 show if decide (V.str y=V.str "take")=true then _ else _
 by_cases e3:y = "take"
 ·rw[decide_eq_true (by rw[e3])]
  obtain⟨x,rfl⟩:∃ x,d = .take x:=by
   rw[e3]at ey
   cases d <;> first | exact⟨_,rfl⟩ | (dsimp only[dY]at ey; exact absurd ey (by decide))
  have xok:dZ x:=dok
  simp only[dF,aR,Den]at da
  obtain⟨_,_,rfl,rfl,rfl⟩:=da
  refine aT ⟨_,rfl,_,rfl,S,M,tries,rfl,h,ok.so,by omega,fun P' p p1 p2 H1 s1 gp g1 g2 f1 f2=>?_⟩
  have hsm:∀ j∈(iP M).filter P',j∈M.ls.map (·.1)/\j ∉ M.hs.map (·.1):=fun j hj=>by
   have:=mem_filter.mp ‹55›
   exact⟨this.1,of_decide_eq_true this.2⟩
  generalize (iP M).filter P'=rd at g1 hsm
  refine⟨p,_,_,.ref p1,rfl,rfl,SqT.of gp,aW (by decide) rfl,?_⟩
  refine⟨_,rfl,aJ,fun pe hpe=>?_⟩
  have s2:=aD (o:=.lst []) hpe
  have g3:upd H1 pe (.lst []) pe=some (.lst []):=aB
  generalize upd H1 pe (.lst [])=H2 at s2 g3 ⊢
  refine⟨.list (rd.map .int),.list (([]:Lc).map .int),kI (s2 _ _ g1),kI (ns:=[]) g3,cW _,cW _,_,rfl,?_⟩
  rw[kF]
  have S12:=s1.trans s2
  have h2:=h.same S12
  cases rd with
  | nil=>exact aT (q S M H2 _ (aG.stepS S12) h2 (ok.mono (by omega) (by omega)))
  | cons j rd=>
   refine bC ⟨_,rfl,_,rfl,p1,_,_,.int j,rfl,rfl,SqL.of (s2 _ _ g1),aW (by decide) rfl,aJ,fun q0 hq0=>⟨aJ,fun q1 hq1=>⟨aJ,fun q2 hq2=>⟨_,rfl,?_⟩⟩⟩⟩
   refine zG (E:=E0) h2 ok (by omega) (by omega) (fun S1 H3 st3 h3=>?_) hq0 hq1 hq2
   have ok1:=ok.write1 (r:=("out",j,[])) (most:=most) (zero_le _) (fun z=>by cases z)
   obtain⟨w1,w2,w3,w4,w5⟩:=fW M [("out",j,[])] most
   generalize eJ M [("out",j,[])] most=M1 at h3 ok1 w1 w2 w3 w4 w5
   have st:=(aG.stepS S12).trans st3
   have np1:p1 ∉ stL S:=h.off f1
   have g13:=st3.frm _ _ (s2 _ _ g1) np1
   have np3:p1 ∉ stL S1:=st3.not (s2 _ _ g1) np1
   have gt3:=st.tup _ _ gt
   obtain⟨hjl,hjh⟩:=hsm j mem_cons_self
   rw[<- w1]at hjl
   rw[<- w2]at hjh
   obtain⟨kl3,a1,a2⟩:=h3.ls
   obtain⟨a,v,ha,ev,tt,b,ev2,gtt,gb⟩:=a2.look hjl
   have dg:=cS.k (k:=Sum.inl j) a1
   rw[ev,ev2]at dg
   have hbl:a.1.length<=60:=(ok1.lt _ ha).2.2
   have cn1:=ok1.cnt
   have hl1:=ok1.hl
   refine⟨_,rfl,S1.ps,_,(by rw[st.ps]),h3.g_letters,_,rfl,p1,_,_,.int j,rfl,rfl,SqL.of g13,aW (by decide) rfl,S1.pl,_,rfl,dg,tt,_,rfl,SqT.of gtt,rfl,_,_,rfl,_,_,rfl,rfl,?_⟩
   refine⟨_,rfl,_,rfl,_,_,rfl,rfl,aJ,fun pt hpt=>?_⟩
   have s4:=aD (o:=.tup [.ref b,.int (a.2+1)]) hpt
   have g4:upd H3 pt (.tup [.ref b,.int (a.2+1)]) pt=some (.tup [.ref b,.int (a.2+1)]):=aB
   generalize upd H3 pt (.tup [.ref b,.int (a.2+1)])=H4 at s4 g4 ⊢
   have h4:=h3.same s4
   obtain⟨kl4,a5,a6⟩:=h4.ls
   refine⟨_,rfl,S1.ps,_,(by rw[st.ps]),h4.g_letters,_,rfl,p1,_,_,.int j,rfl,rfl,SqL.of (s4 _ _ g13),aW (by decide) rfl,S1.pl,_,rfl,kM.k (k:=Sum.inl j) a5 (by rw[a6.len]; exact lt_of_le_of_lt ‹72› (by decide)),?_⟩
   have h5:=h4.setL (a6.put (n:=j) (a:=(a.1,a.2+1)) (v:=.ref pt) ⟨pt,b,rfl,g4,s4 _ _ gb⟩)
   have st5:=(aG.stepS s4).trans (bW h4 Gs (.dK (eI kl4 (Sum.inl j) (.ref pt))))
   have ok5:=ok1.setL1 (a:=(a.1,a.2+1)) hjl hbl
   have hjl5:j∈(iB M1.ls j (a.1,a.2+1)).map (·.1):=by rw[xM _ hjl]; exact hjl
   generalize upd H4 S1.pl (.dK (eI kl4 (Sum.inl j) (.ref pt)))=H5 at h5 st5 ⊢
   have g15:=st5.frm _ _ g13 np3
   have gt5:=st5.tup _ _ gt3
   refine⟨_,rfl,t,_,_,.str x,rfl,rfl,SqT.of gt5,aW (by decide) rfl,_,rfl,S1.ps,_,(by rw[st.ps]),h5.g_time,aJ,fun ph hph=>?_⟩
   have s6:=aD (o:=.tup [.str x,.int M1.time]) hph
   have g6:upd H5 ph (.tup [.str x,.int M1.time]) ph=some (.tup [.str x,.int M1.time]):=aB
   have hM5:({ M1 with ls:=iB M1.ls j (a.1,a.2+1) }:Ms).time=M1.time:=rfl
   rw[hM5]
   generalize upd H5 ph (.tup [.str x,.int M1.time])=H6 at s6 g6 ⊢
   have h6:=h5.same s6
   obtain⟨kh6,b3,b4⟩:=h6.hs
   refine⟨_,rfl,S1.ps,_,(by rw[st.ps]),h6.g_hands,_,rfl,p1,_,_,.int j,rfl,rfl,SqL.of (s6 _ _ g15),aW (by decide) rfl,S1.ph,_,rfl,kM.k (k:=Sum.inl j) b3 (by rw[b4.len]; exact lt_of_le_of_lt (show _<=1000 by show M1.hs.length<=1000; omega) (by decide)),?_⟩
   have h7:=h6.setH (b4.put (n:=j) (a:=(x,M1.time)) (v:=.ref ph) ⟨ph,rfl,g6⟩)
   have st7:=(aG.stepS s6).trans (bW h6 Ii (.dK (eI kh6 (Sum.inl j) (.ref ph))))
   have ok7:=ok5.addH (j:=j) (a:=(x,M1.time)) hjl5 hjh xok
   generalize upd H6 S1.ph (.dK (eI kh6 (Sum.inl j) (.ref ph)))=H7 at h7 st7 ⊢
   have g17:=st7.frm _ _ g15 np3
   refine⟨_,rfl,p1,_,_,.int j,rfl,rfl,SqL.of g17,aW (by decide) rfl,_,rfl,_,rfl,_,_,rfl,rfl,aJ,fun pz hpz=>?_⟩
   have s8:=aD (o:=.tup [.int j,.ref b,.int (a.2+1)]) hpz
   exact q S1 _ _ _ (st.trans (st5.trans (st7.trans (aG.stepS s8)))) (h7.same s8) (ok7.mono (le_refl _) (by omega))
 rw[decide_eq_false (fun e=>e3 (by injection e))]
 refine bC ⟨_,rfl,aJ,fun pk hpk=>?_⟩
 have s1:=aD (o:=.tup [.str "done",.str "back"]) hpk
 have g1:upd H pk (.tup [.str "done",.str "back"]) pk=some (.tup [.str "done",.str "back"]):=aB
 generalize upd H pk (.tup [.str "done",.str "back"])=H1 at s1 g1 ⊢
 have h1:=h.same s1
 refine⟨pk,_,rfl,.inr (SqT.of g1),rfl,rfl,_,rfl,?_⟩
 show if inV (V.str y) [V.str "done",V.str "back"]=true then _ else _
 cases hb:inV (V.str y) [V.str "done",V.str "back"] with
 | true=>
  obtain⟨x,k,hargs,xok⟩:∃ x k,args=[.str x,.int k]/\dZ x:=by
   rw[ey]at hb
   cases d <;> first | (simp only[dF,aR,Den]at da; obtain⟨_,_,rfl,rfl,_,_,rfl,rfl,rfl⟩:=da; exact⟨_,_,rfl,dok.1⟩) | (dsimp only[dY]at hb; exact absurd hb (by decide))
  subst hargs
  exact aT ⟨_,rfl,_,rfl,_,rfl,S,M,t,most,y,x,k,c,n,rfl,h1,ok,by omega,by omega,s1 _ _ gt,Im xok,fun S' M' H' v st h' ok'=>q S' M' H' v ((aG.stepS s1).trans st) h' (ok'.mono (by omega) (by omega))⟩
 | false=>
  refine bC ⟨_,rfl,_,rfl,_,rfl,S,M,t,se,most,hold,tries,y,args,c,n,rfl,h1,ok,hn,by omega,s1 _ _ gs,s1 _ _ gt,fun z=>?_,fun z=>?_,fun S' M' H' v st h' ok'=>q S' M' H' v ((aG.stepS s1).trans st) h' (ok'.mono (by omega) (by omega))⟩
  ·rw[z]at ey
   cases d <;> first | (simp only[dF,aR,Den]at da; obtain⟨_,_,rfl,rfl,rfl⟩:=da; exact⟨_,rfl⟩) | (dsimp only[dY]at ey; exact absurd ey (by decide))
  ·rw[z]at ey
   cases d <;> first | (simp only[dF,aR,Den]at da; obtain⟨_,_,rfl,rfl,rfl⟩:=da; exact⟨_,rfl⟩) | (dsimp only[dY]at ey; exact absurd ey (by decide))
end
abbrev DO:Stmt:=top 73
def mC (x m:Int):Int:=if x / 5 % 2=0 then x / 7 % (m+1) else x / 7 % 4
def Bc (x:Int) (k:Nat):Int:=if (k:Int) % 2=0 then Au (nC x k) 256 else x / 11 % 3 * 100
def jQ (x m:Int):Lc:=(List.range (mC x m).toNat).map (Bc x)
def Dc (h0:0<=m):0<=mC x m/\(mC x m<=m\/mC x m<=3):=by
 unfold mC
 have h1:=emod_nonneg (x / 7) (show m+1≠0 by omega)
 have h2:=emod_lt_of_pos (x / 7) (show 0<m+1 by omega)
 split <;> omega
def yH (h:3<=m) (h2:m<=60):(jQ x m).length<=60:=by
 unfold jQ
 rw[length_map,length_range]
 have:=Dc (x:=x) (m:=m) (by omega)
 omega
def Bb (x m:Int):dO (jQ x m):=by
 intro b hb
 unfold jQ at hb
 obtain⟨k,_,e⟩:=mem_map.mp hb
 rw[<- e]
 unfold Bc Au
 split
 ·have h1:=emod_nonneg (nC x k / 97) (show (256:Int)≠0 by decide)
  have h2:=emod_lt_of_pos (nC x k / 97) (show (0:Int)<256 by decide)
  omega
 ·have h1:=emod_nonneg (x / 11) (show (3:Int)≠0 by decide)
  have h2:=emod_lt_of_pos (x / 11) (show (0:Int)<3 by decide)
  omega
inductive tM (vs:Ln) (H:Hp) (Q:VK) (x_3:XK):Prop
 | mk:∀ (x m:Int),vs=[.int x,.int m]->0<=m->m<=1000->(∀ p H',aG H H'->H' p=some (.tup ((jQ x m).map V.int))->Q (.ref p) H')->tM vs H Q x_3
section
variable {P:Program} {w:World} {K:K6} {mg:K8} {base:Heap} {A:Ad}
def Gh (F:Fun K "_law_bytes" "_law_bytes" DO f fd) (T:‹3›) (ab4:‹10›) (ac5:‹14›) :
  ‹15› 2 f fd ["_law_seed_here","_law_most"] tM:=by
 refine F.okY ["_law_seed_here","_law_most","_law_many"] fun cdv A' outer s H vs Q E hr nD0 h=>?_
 obtain⟨x,m,rfl,m0,m9,q⟩:=h
 refine⟨_,aA (a7 (i:=2) nD0 ⋯ ⋯ (cD (cH K) (cB (bR (bB dN (bB mW (pv 0) aI) (bB cO (pv 1) aI)) (bR (bB dN (bB mW (pv 0) aI) aI) aH))) (bB dN (bB mW (pv 0) aI) aI) (fun _ _=>rfl)))
  (aC (aP (jZ (mJ K) ⋯ T.ai3 pR (dW (c9 ["_law_k"] [("_law_seed_here",0)] ⋯ (qJ ⋯ T.ai4 ‹37›) (fun C s2 H2 ex=>(bG (i:=0) (show List.Nodup (["_law_k","_law_seed_here"]:Ld) by decide +kernel) ⋯ (Or.inl ⋯))) ‹42› (fun C s2 H2 ex=>(cD (cH K) (cB (bY (a9 ac5 ‹19› aX (bY (a9 ab4 ‹19› aX (aE (pv 1) ‹36›)) ‹34›)) (bR (bB l9 ‹27› aI) aH))) (bB dN (pv 0) aI) (fun _ _=>rfl)))) aH)))),?_⟩
 have d0:=emod_nonneg (x / 5) (show (2:Int)≠0 by decide)
 have d1:=emod_lt_of_pos (x / 5) (show (0:Int)<2 by decide)
 obtain⟨b0,b1⟩:=Dc (x:=x) m0
 refine⟨_,rfl,_,_,rfl,rfl,⟨by decide,by decide⟩,_,rfl,_,_,rfl,rfl,_,_,rfl,rfl,(by show (0:Int)<m+1; omega),_,rfl,_,_,rfl,rfl,⟨by decide,by decide⟩,_,_,rfl,rfl,(by show (0:Int)<4; decide),(by show 2<=sizeLine; decide),fun p1 hp1=>?_⟩
 refine⟨_,rfl,_,_,rfl,rfl,⟨by decide,by decide⟩,_,_,rfl,rfl,(by show (0:Int)<2; decide),p1,_,_,.int (mC x m),rfl,rfl,SqL.of aB,aW d0 ?_,?_⟩
 ·unfold mC
  by_cases h:x / 5 % 2=0
  ·rw[h,if_pos rfl]
   rfl
  ·have h1:x / 5 % 2=1:=by omega
   rw[h1,if_neg (by decide)]
   rfl
 have S1:aG H _:=aD (o:=.lst [V.int (x / 7 % (m+1)),V.int (x / 7 % 4)]) hp1
 refine⟨_,rfl,mC x m,rfl,by omega,by omega,?_⟩
 refine dE (pX (H:=upd H p1 (.lst [V.int (x / 7 % (m+1)),V.int (x / 7 % 4)])) 0 (mC x m).toNat) ?zl (fun i y _=>y = .int (Bc x i)) (fun _ _ _ _ _ h=>h) (fun σ=>∃ z,σ = [z,some (.int x)]) ?z0 ?_ ?_
 case zl=>exact le_trans (show (mC x m).toNat<=1003 by omega) (by decide)
 case z0=>exact⟨none,rfl⟩
 ·intro i y σc H3 hi hσ s3 hx Q' hQ'
  obtain⟨z,rfl⟩:=hσ
  subst hx
  have e0:(0:Int)+(i:Int)=i:=by omega
  have i0:=emod_nonneg (i:Int) (show (2:Int)≠0 by decide)
  have i1:=emod_lt_of_pos (i:Int) (show (0:Int)<2 by decide)
  refine⟨_,rfl,_,rfl,x,_,rfl,_,256,rfl,by decide,?_⟩
  refine⟨_,rfl,_,_,rfl,rfl,⟨by decide,by decide⟩,_,_,rfl,rfl,(by show (0:Int)<3; decide),_,_,rfl,rfl,.inr ⟨by decide,by decide⟩,(by show 2<=sizeLine; decide),fun p2 hp2=>?_⟩
  refine⟨_,rfl,_,_,rfl,rfl,(by show (0:Int)<2; decide),p2,_,_,.int (Bc x i),rfl,rfl,SqL.of aB,?_,?_⟩
  ·rw[e0]
   refine aW i0 ?_
   unfold Bc
   by_cases h:(i:Int) % 2=0
   ·rw[h,if_pos rfl]
    rfl
   ·have h1:(i:Int) % 2=1:=by omega
    rw[h1,if_neg (by decide)]
    rfl
  ·exact hQ' _ _ _ ⟨_,rfl⟩ (aD hp2) rfl
 ·intro D ys H' hD s' hD' hlen hR
  have ey:ys=(jQ x m).map V.int:=by
   unfold jQ
   apply ext_getElem?
   intro i
   cases e:ys[i]? with
   | none=>
    have:ys.length<=i:=List.getElem?_eq_none_iff.mp e
    rw[getElem?_eq_none (by rw[length_map,length_map,length_range]; omega)]
   | some y=>
    have hi:i<(mC x m).toNat:=by
     have:=(List.getElem?_eq_some_iff.mp e).1
     omega
    rw[hR i y e,getElem?_map,getElem?_map,getElem?_range hi]
    rfl
  refine⟨D,_,rfl,.inl ⟨SqL.of hD',fun l hl=>?_⟩⟩
  refine q l _ ((S1.trans s').trans (aD hl)) ?_
  rw[aB,ey]
end
abbrev DL:Stmt:=top 83
def Ko:dZ "a":=by constructor <;> decide +kernel
def Kn:dZ "b":=by constructor <;> decide +kernel
def Km:dZ "hhhhhz":=by constructor <;> decide +kernel
def Io (h0:0<=i) (h3:i<3):∃ x,atI [V.str "a",V.str "b",V.str "hhhhhz"] i=some (.str x)/\dZ x:=by
 have:i=0\/i=1\/i=2:=by omega
 rcases this with rfl | rfl | rfl
 ·exact⟨_,rfl,Ko⟩
 ·exact⟨_,rfl,Kn⟩
 ·exact⟨_,rfl,Km⟩
def sX (ns:Lc):hJ (.tuple (ns.map .int))=true:=by
 show cX (ns.map .int)=true
 induction ns with
 | nil=>rfl
 | cons x b ih=>exact ih
def Bw (h0:0<=i) (h3:i<2):∃ x,atI [V.int a,V.int b] i=some (.int x)/\(x=a\/x=b):=by
 have:i=0\/i=1:=by omega
 rcases this with rfl | rfl
 ·exact⟨_,rfl,.inl rfl⟩
 ·exact⟨_,rfl,.inr rfl⟩
def md {i j:Int} (h:0<j):0<=i % j/\i % j<j:=⟨emod_nonneg i (by omega),emod_lt_of_pos i h⟩
def Dn {ns:Lc} {i:Int} (h0:0<=i) (h:i<(ns.length:Int)):∃ x∈ns,atI (ns.map V.int) i=some (.int x):=by
 have hi:i.toNat<ns.length:=by omega
 exact⟨ns[i.toNat],List.getElem_mem hi,aW h0 (by rw[getElem?_map,getElem?_eq_getElem hi]; rfl)⟩
inductive tH (vs:Ln) (H:Hp) (Q:VK) (x_3:XK):Prop
 | mk:∀ (S:Sl) (M:Ms) (x tries:Int) (c n:Nat),vs=[.ref S.ps,.int x,.int tries]->StAt H S M->MsOk M c n->c<=50->(∀ d t args H',aG H H'->H' t=some (.tup (.str (dY d)::args))->aR H' (dF d) args->vN d->Q (.ref t) H')->tH vs H Q x_3
section
variable {P:Program} {w:World} {K:K6} {mg:K8} {base:Heap} {A:Ad}
def Gd {f:Addr} {fd:Lh} (F:Fun K "_law_deed" "_law_deed" DL f fd) (T:‹3›) (ac5:‹14›) (ac2:‹13›) (ah5:‹16› "_law_bytes" 2 ["_law_seed_here","_law_most"] tM) (ab4:‹10›):‹15› 3 f fd ["_law_state","_law_seed_here","_law_tries"] tH:=by
 refine F.okY ["_law_state","_law_seed_here","_law_tries","_law_pick_here","_law_some","_law_dead","_law_number","_law_hand","_law_many"] fun cdv A' outer s H vs Q E hr nD0 h=>?_
 obtain⟨S,M,x,tries,c,n,rfl,h,ok,hc,q⟩:=h
 refine⟨_,aA (a7 (i:=3) nD0 ⋯ ⋯ (a9 ac5 ‹19› aX (aE (pv 1) ‹34›)))
  (aA (a7 (i:=4) nD0 ⋯ ⋯ (bF (gH ⋯) ⋯ T.af4 iJ ‹92›))
  (aA (a7 (i:=5) nD0 ⋯ ⋯ (cD (cR K) (a9 ac2 ‹19› aX (aE (pv 0) ‹37›)) aI (fun _ _=>rfl)))
  (aA (a7 (i:=6) nD0 ⋯ ⋯ (bB dN ‹31› (bB cO ‹22› aI)))
  (aA (a7 (i:=7) nD0 ⋯ ⋯ (cD (cH K) (cB ‹91›) ‹27› (fun _ _=>rfl)))
  (aA (bA ‹71›
   (aC (aP (bE (aM bL (bY (a9 ah5 ‹19› aX (bY (a9 ab4 ‹19› aX (aE (pv 1) ‹34›)) (aN ‹82› aH))) aH)))))
   aO)
  (aA (bA (aQ fM (pv 3) aI (bD _))
   (aA (a7 (i:=8) nD0 ⋯ ⋯ (bB cO aI (bB dN ‹31› ‹82›)))
   (aC (aP (bE (aM bL (bY (jZ (mJ K) ⋯ T.ai3 pR (dW (c9 ["_law_k"] [("_law_seed_here",1)] ⋯ (qJ ⋯ T.ai4 (aE (pv 8) aH)) (fun C s2 H2 ex=>(bG (i:=0) (show List.Nodup (["_law_k","_law_seed_here"]:Ld) by decide +kernel) ⋯ (Or.inl ⋯))) ‹42› (fun C s2 H2 ex=>(a9 ah5 ‹19› aX (bY (a9 ab4 ‹19› aX (aE (pv 1) ‹36›)) ‹34›)))) aH)) aH))))))
   aO)
  (aA (bA ‹71›
   (aC (aP (bE (aM bL (aE (pv 7) aH)))))
   aO)
  (aA (bA ‹71›
   (aA (bA (l5 (aQ (nX hr.units) (pv 4) (cB aH) (bD _)) (jD (aQ o8 ‹27› aI (bD _)))).pt
    (aA (a7 (i:=6) nD0 ⋯ ⋯ (cD (cH K) (pv 4) (bB dN ‹31› (bF (dC K) ⋯ T.ad2 fV ‹64›)) (fun _ _=>rfl)))
    (aC (a7 (i:=7) nD0 ⋯ ⋯ (cD (cR K) (eC (hu1 hr.units) ‹22› (pv 6) (fun _ _=>rfl)) aI (fun _ _=>rfl)))))
    aO)
   (aC (aP (bE (aN (cD (cH K) (cB (aM bL ‹91›)) (bB jP (pv 3) aI) (fun _ _=>rfl)) (aE (pv 7) (aE (pv 6) aH)))))))
   aO)
  (aA (bA (aQ fM (pv 3) aI (bD _))
   (aC (aP (bE (aM bL (GV (Aw (l5 (aQ (nX hr.units) (pv 5) (cB aH) (bD _)) (jD (aQ o8 ‹27› aI (bD _)))).pt (cD (cH K) (pv 5) (bB dN ‹31› (bF (dC K) ⋯ T.ad2 fV ‹69›)) (fun _ _=>rfl)) (pv 6)) aH)))))
   aO)
  (aC (aP (cD (cH K) (cB (bU (bE (aM bL (bR (bB cO aI (bB dN ‹31› (cD (cH K) (cB (aM aI ‹34›)) (jZ yF ⋯ T.ba3 Cs (uL (fZ fM ‹27› aI (bD _)) aH)) (fun _ _=>rfl)))) aH))) (bU (bE ‹25›) (bU (bE ‹25›) aH)))) (bB jP (pv 3) aI) (fun _ _=>rfl))))))))))))),?_⟩
 have cnt:=ok.cnt
 have hl:=ok.hl
 have af:=ok.af
 obtain⟨kh,l3,l4⟩:=h.hs
 refine⟨_,rfl,x,16,rfl,by decide,?_⟩
 obtain⟨pk,epk⟩:∃ pk,pk=Au x 16:=⟨_,rfl⟩
 have pk0:0<=pk/\pk<16:=by rw[epk]; exact md (by decide)
 rw[<- epk]
 refine⟨_,rfl,S.ps,_,rfl,h.g_hands,S.ph,kh,M.hs.map (·.1),rfl,l3,l4.keys,.inl (by rw[length_map]; omega),by rw[length_map]; omega,fun ps ms perm pw hps=>?_⟩
 have lms:ms.length<=1000:=by rw[perm.length_eq,length_map]; omega
 have mk:∀ k∈ms,k∈M.hs.map (·.1):=fun k hk=>perm.mem_iff.mp hk
 have s1:=aD (o:=.lst (ms.map V.int)) hps
 have g1:upd H ps (.lst (ms.map V.int)) ps=some (.lst (ms.map V.int)):=aB
 generalize upd H ps (.lst (ms.map V.int))=H1 at s1 g1 ⊢
 have h1:=h.same s1
 refine⟨_,rfl,_,rfl,S,M,tries,rfl,h1,ok.so,by omega,fun P' p pq1 pd H2 s2 gp gq1 gpd fq1 fpd=>⟨p,_,_,.ref pd,rfl,rfl,SqT.of gp,aW (by decide) rfl,?_⟩⟩
 have hdl:∀ j∈((iP M).filter fun n=>decide (n ∉ (iP M).filter P')),j∈M.ls.map (·.1):=fun j hj=>(mem_filter.mp ‹55›).1
 generalize ((iP M).filter fun n=>decide (n ∉ (iP M).filter P'))=dl at gpd hdl
 have h2:=h1.same s2
 have lsb:∀ j∈M.ls.map (·.1),0<=j/\j<=999999:=fun j hj=>by
  obtain⟨p,hp,e⟩:=mem_map.mp hj
  have:=ok.lt p hp
  omega
 obtain⟨nu,enu⟩:∃ nu,nu=x / 7 % (M.after+1):=⟨_,rfl⟩
 have nu0:0<=nu/\nu<=999999:=by
  have:=md (i:=x / 7) (show 0<M.after+1 by omega)
  rw[enu]
  omega
 refine⟨_,rfl,_,_,rfl,rfl,⟨by decide,by decide⟩,_,rfl,S.ps,_,rfl,h2.g_after,_,_,rfl,rfl,_,_,rfl,rfl,(by show 0<M.after+1; omega),?_⟩
 show u6 6 (V.int (x / 7 % (M.after+1))) _ _ _
 rw[<- enu]
 refine⟨aJ,fun p3 hp3=>?_⟩
 have s3:=aD (o:=.lst [.str "a",.str "b",.str "hhhhhz"]) hp3
 have g3:upd H2 p3 (.lst [.str "a",.str "b",.str "hhhhhz"]) p3=some (.lst [.str "a",.str "b",.str "hhhhhz"]):=aB
 generalize upd H2 p3 (.lst [.str "a",.str "b",.str "hhhhhz"])=H3 at s3 g3 ⊢
 obtain⟨hd,ehd,hok⟩:=Io (i:=x / 11 % 3) (md (by decide)).1 (md (by decide)).2
 refine⟨_,rfl,_,_,rfl,rfl,⟨by decide,by decide⟩,_,_,rfl,rfl,(by show (0:Int)<3; decide),p3,_,_,.str hd,rfl,rfl,SqL.of g3,ehd,?_⟩
 have S3:=s1.trans (s2.trans s3)
 have h3:=h2.same s3
 have g13:=(s2.trans s3) _ _ g1
 have gd3:=s3 _ _ gpd
 refine⟨_,rfl,_,_,rfl,rfl,_,rfl,?_⟩
 by_cases c1:pk<3
 ·rw[decide_eq_true c1]
  refine aT ⟨_,rfl,x,1,rfl,aJ,fun p4 hp4=>?_⟩
  have s4:=aD (o:=.lst [.int 20,.int 60]) hp4
  have g4:upd H3 p4 (.lst [.int 20,.int 60]) p4=some (.lst [.int 20,.int 60]):=aB
  generalize upd H3 p4 (.lst [.int 20,.int 60])=H4 at s4 g4 ⊢
  obtain⟨mm,em,hm⟩:=Bw (a:=20) (b:=60) (i:=x / 17 % 2) (md (by decide)).1 (md (by decide)).2
  refine⟨_,rfl,_,_,rfl,rfl,⟨by decide,by decide⟩,_,_,rfl,rfl,(by show (0:Int)<2; decide),p4,_,_,.int mm,rfl,rfl,SqL.of g4,em,nC x 1,mm,rfl,by omega,by omega,fun pb H5 s5 gb=>⟨aJ,fun pt hpt=>?_⟩⟩
  have s6:=aD (o:=.tup [.str "put",.ref pb]) hpt
  refine q (.put (jQ (nC x 1) mm)) pt [.ref pb] _ (S3.trans (s4.trans (s5.trans s6))) aB ?_ ⟨Bb _ _,yH (by omega) (by omega)⟩
  simp only[dF,aR,Den]
  exact⟨_,_,rfl,⟨pb,_,rfl,s6 _ _ gb,bQ.mpr rfl⟩,rfl⟩
 rw[decide_eq_false c1]
 refine bC ⟨_,rfl,rfl,_,rfl,?_⟩
 show if decide (V.int pk=V.int 3)=true then _ else _
 by_cases c2:pk=3
 ·rw[decide_eq_true (by rw[c2])]
  refine aT ⟨_,rfl,_,_,rfl,rfl,⟨by decide,by decide⟩,aJ,fun p4 hp4=>?_⟩
  have s4:=aD (o:=.lst [.int 4,.int 9]) hp4
  have g4:upd H3 p4 (.lst [.int 4,.int 9]) p4=some (.lst [.int 4,.int 9]):=aB
  generalize upd H3 p4 (.lst [.int 4,.int 9])=H4 at s4 g4 ⊢
  obtain⟨mm,em,hm⟩:=Bw (a:=4) (b:=9) (i:=x / 17 % 2) (md (by decide)).1 (md (by decide)).2
  refine⟨_,rfl,_,_,rfl,rfl,⟨by decide,by decide⟩,_,_,rfl,rfl,(by show (0:Int)<2; decide),p4,_,_,.int mm,rfl,rfl,SqL.of g4,em,_,_,rfl,rfl,(by show (0:Int)<mm; omega),_,_,rfl,rfl,?_⟩
  obtain⟨nm,enm⟩:∃ nm:Nat,(nm:Int)=1+x / 7 % mm:=⟨(1+x / 7 % mm).toNat,by have:=md (i:=x / 7) (show 0<mm by omega); omega⟩
  have nm0:1<=nm/\nm<=9:=by
   have:=md (i:=x / 7) (show 0<mm by omega)
   omega
  show u6 8 (V.int (1+x / 7 % mm)) _ _ _
  rw[<- enm]
  refine⟨_,rfl,(nm:Int),rfl,by omega,by omega,?_⟩
  refine dE (pX (H:=H4) 0 (nm:Int).toNat) (le_trans (show _<=9 by omega) (by decide)) (fun i y H'=>Den H' (.tuple ((jQ (nC x i) 8).map .int)) y) (fun i y G1 G2 s h=>h.n s ?_) (fun σ=>∃ z,σ = [z,some (.int x)]) ⟨none,rfl⟩ ?_ ?_
  ·exact sX _
  ·intro i y σc H5 hi hσ s5 hx Q' hQ'
   obtain⟨z,rfl⟩:=hσ
   subst hx
   have e0:(0:Int)+(i:Int)=i:=by omega
   refine⟨_,rfl,_,rfl,x,_,rfl,_,8,rfl,by decide,by decide,fun pb H6 s6 gb=>?_⟩
   rw[e0]at gb
   refine hQ' _ _ _ ⟨_,rfl⟩ s6 ?_
   simp only[Den]
   exact⟨pb,_,rfl,gb,bQ.mpr rfl⟩
  ·intro D ys H5 hD s5 gD hlen hR
   refine⟨D,_,rfl,.inl ⟨SqL.of gD,fun l hl=>⟨aJ,fun pt hpt=>?_⟩⟩⟩
   have s6:=aD (o:=.tup ys) hl
   have g6:upd H5 l (.tup ys) l=some (.tup ys):=aB
   generalize upd H5 l (.tup ys)=H6 at s6 g6 hpt ⊢
   have s7:=aD (o:=.tup [.str "all",.ref l]) hpt
   refine q (.all ((List.range nm).map fun(i:Nat)=>jQ (nC x (i:Int)) 8)) pt [.ref l] _ (S3.trans (s4.trans (s5.trans (s6.trans s7)))) aB ?_ ⟨?_,?_,?_⟩
   ·simp only[dF,aR]
    refine⟨_,_,rfl,?_,rfl⟩
    simp only[Den]
    refine⟨l,ys,rfl,s7 _ _ g6,lI (by unfold dX; rw[length_map,length_map,length_range]; omega) fun i y e=>?_⟩
    have hi:i<nm:=by
     have:=(List.getElem?_eq_some_iff.mp e).1
     omega
    refine⟨_,?_,(hR i y e).same (s6.trans s7)⟩
    unfold dX
    rw[getElem?_map,getElem?_map,getElem?_range hi]
    rfl
   ·rw[length_map,length_range]
    exact nm0.1
   ·rw[length_map,length_range]
    exact nm0.2
   ·intro b hb
    obtain⟨i,_,e⟩:=mem_map.mp hb
    rw[<- e]
    exact⟨Bb _ _,yH (by decide) (by decide)⟩
 rw[decide_eq_false (fun e=>c2 (by injection e))]
 refine bC ⟨_,rfl,_,_,rfl,rfl,_,rfl,?_⟩
 by_cases c3:pk<8
 ·rw[decide_eq_true c3]
  refine aT ⟨_,rfl,aJ,fun pt hpt=>?_⟩
  have s4:=aD (o:=.tup [.str "take",.str hd]) hpt
  refine q (.take hd) pt [.str hd] _ (S3.trans s4) aB ?_ hok
  simp only[dF,aR,Den]
  exact⟨_,_,rfl,rfl,rfl⟩
 rw[decide_eq_false c3]
 refine bC ⟨_,rfl,_,_,rfl,rfl,_,rfl,?_⟩
 have word:∀ {i:Int},0<=i->i<4->∃ y,atI [V.str "done",V.str "done",V.str "back",V.str "done"] i=some (.str y)/\(y = "done"\/y = "back"):=fun {i} h0 h4=>by
  have:i=0\/i=1\/i=2\/i=3:=by omega
  rcases this with rfl | rfl | rfl | rfl
  ·exact⟨_,rfl,.inl rfl⟩
  ·exact⟨_,rfl,.inl rfl⟩
  ·exact⟨_,rfl,.inr rfl⟩
  ·exact⟨_,rfl,.inl rfl⟩
 by_cases c4:pk<12
 ·rw[decide_eq_true c4]
  have fin:∀ (k:Int) (z:Str) (H4:Hp),aG H H4->dZ z->0<=k->k<=999999->(Jh (fJ (tOp (IC K) (tLst (fJ (tC (V.str "done")) (fJ (tC (V.str "done")) (fJ (tC (V.str "back")) (fJ (tC (V.str "done")) lR))))) (tOp (rI0 fun i j=>V.int (i - j)) (nM 3) (tC (V.int 8)))) (fJ (nM 7) (fJ (nM 6) lR)))) [some (.ref S.ps),some (.int x),some (.int tries),some (.int pk),some (.ref ps),some (.ref pd),some (.int k),some (.str z),none] H4 Q:=by
   intro k z H4 S4 zok k0 k9
   obtain⟨y,ey,hy⟩:=word (i:=pk - 8) (by omega) (by omega)
   refine⟨aJ,fun p5 hp5=>?_⟩
   have s5:=aD (o:=.lst [.str "done",.str "done",.str "back",.str "done"]) hp5
   have g5:upd H4 p5 (.lst [.str "done",.str "done",.str "back",.str "done"]) p5=some (.lst [.str "done",.str "done",.str "back",.str "done"]):=aB
   generalize upd H4 p5 (.lst [.str "done",.str "done",.str "back",.str "done"])=H5 at s5 g5 ⊢
   refine⟨_,rfl,_,_,rfl,rfl,p5,_,_,.str y,rfl,rfl,SqL.of g5,ey,_,rfl,_,rfl,aJ,fun pt hpt=>?_⟩
   rcases hy with rfl | rfl
   ·have s6:=aD (o:=.tup [.str "done",.str z,.int k]) hpt
    refine q (.done z k) pt [.str z,.int k] _ (S4.trans (s5.trans s6)) aB ?_ ⟨zok,k0,k9⟩
    simp only[dF,aR,Den]
    exact⟨_,_,rfl,rfl,_,_,rfl,rfl,rfl⟩
   ·have s6:=aD (o:=.tup [.str "back",.str z,.int k]) hpt
    refine q (.back z k) pt [.str z,.int k] _ (S4.trans (s5.trans s6)) aB ?_ ⟨zok,k0,k9⟩
    simp only[dF,aR,Den]
    exact⟨_,_,rfl,rfl,_,_,rfl,rfl,rfl⟩
  refine aT ⟨_,rfl,aJ,fun pe hpe=>?_⟩
  have s4:=aD (o:=.lst []) hpe
  have g4:upd H3 pe (.lst []) pe=some (.lst []):=aB
  generalize upd H3 pe (.lst [])=H4 at s4 g4 ⊢
  have g14:=s4 _ _ g13
  have h4:=h3.same s4
  refine⟨.list (ms.map .int),.list (([]:Lc).map .int),kI g14,kI (ns:=[]) g4,cW _,cW _,_,rfl,?_⟩
  rw[kF]
  by_cases em:ms=[]
  ·rw[decide_eq_true em]
   exact bC (bC (fin nu hd H4 (S3.trans s4) hok nu0.1 nu0.2))
  rw[decide_eq_false em]
  refine aT ⟨_,rfl,_,_,rfl,rfl,⟨by decide,by decide⟩,_,_,rfl,rfl,(by show (0:Int)<5; decide),_,_,rfl,rfl,_,rfl,?_⟩
  by_cases c5:(0:Int)<x / 13 % 5
  ·rw[decide_eq_true c5]
   have lpos:0<(ms.length:Int):=by
    cases ms with
    | nil=>exact absurd rfl em
    | cons a b=>rw[length_cons]; omega
   obtain⟨k,hk,ek⟩:=Dn (ns:=ms) (i:=x / 7 % (ms.length:Int)) (md lpos).1 (md lpos).2
   have lm:((ms.map V.int).length:Int)=(ms.length:Int):=by rw[length_map]
   obtain⟨kh4,b3,b4⟩:=h4.hs
   obtain⟨a,v,ha,ev,t,ev2,gt⟩:=b4.look (mk k hk)
   have dg:=cS.k (k:=Sum.inl k) b3
   rw[ev,ev2]at dg
   have:=lsb k (ok.hk _ ha).1
   refine aT ⟨_,rfl,_,rfl,_,_,rfl,rfl,⟨by decide,by decide⟩,_,rfl,ps,_,rfl,.inl (SqL.of g14),_,_,rfl,rfl,(by show (0:Int)<((ms.map V.int).length:Int); rw[lm]; exact lpos),ps,_,_,.int k,rfl,rfl,SqL.of g14,(by rw[lm]; exact ek),_,rfl,S.ps,_,rfl,h4.g_hands,_,rfl,S.ph,_,rfl,dg,t,_,_,.str a.1,rfl,rfl,SqT.of gt,aW (by decide) rfl,fin k a.1 H4 (S3.trans s4) (ok.hk _ ha).2 this.1 this.2⟩
  ·rw[decide_eq_false c5]
   exact bC (fin nu hd H4 (S3.trans s4) hok nu0.1 nu0.2)
 rw[decide_eq_false c4]
 refine bC ⟨_,rfl,rfl,_,rfl,?_⟩
 show if decide (V.int pk=V.int 12)=true then _ else _
 by_cases c6:pk=12
 ·rw[decide_eq_true (by rw[c6])]
  have fin:∀ (k:Int) (H4:Hp),aG H H4->0<=k/\k<=999999->∀ pt,H4 pt=none->Q (.ref pt) (upd H4 pt (.tup [.str "new",.int k])):=fun k H4 S4 k0 pt hpt=>by
   have s6:=aD (o:=.tup [.str "new",.int k]) hpt
   refine q (.new k) pt [.int k] _ (S4.trans s6) aB ?_ k0
   simp only[dF,aR,Den]
   exact⟨_,_,rfl,rfl,rfl⟩
  refine aT ⟨_,rfl,aJ,fun pe hpe=>?_⟩
  have s4:=aD (o:=.lst []) hpe
  have g4:upd H3 pe (.lst []) pe=some (.lst []):=aB
  generalize upd H3 pe (.lst [])=H4 at s4 g4 ⊢
  have g14:=s4 _ _ gd3
  refine⟨.list (dl.map .int),.list (([]:Lc).map .int),kI g14,kI (ns:=[]) g4,cW _,cW _,_,rfl,?_⟩
  rw[kF]
  by_cases em:dl=[]
  ·rw[decide_eq_true em]
   exact bC (bC ⟨_,rfl,aJ,fin nu H4 (S3.trans s4) nu0⟩)
  rw[decide_eq_false em]
  refine aT ⟨_,rfl,_,_,rfl,rfl,⟨by decide,by decide⟩,_,_,rfl,rfl,(by show (0:Int)<4; decide),_,_,rfl,rfl,_,rfl,?_⟩
  by_cases c5:(0:Int)<x / 13 % 4
  ·rw[decide_eq_true c5]
   have lpos:0<(dl.length:Int):=by
    cases dl with
    | nil=>exact absurd rfl em
    | cons a b=>rw[length_cons]; omega
   obtain⟨k,hk,ek⟩:=Dn (ns:=dl) (i:=x / 7 % (dl.length:Int)) (md lpos).1 (md lpos).2
   have lm:((dl.map V.int).length:Int)=(dl.length:Int):=by rw[length_map]
   exact aT ⟨_,rfl,_,rfl,_,_,rfl,rfl,⟨by decide,by decide⟩,_,rfl,pd,_,rfl,.inl (SqL.of g14),_,_,rfl,rfl,(by show (0:Int)<((dl.map V.int).length:Int); rw[lm]; exact lpos),pd,_,_,.int k,rfl,rfl,SqL.of g14,(by rw[lm]; exact ek),aJ,fin k H4 (S3.trans s4) (lsb k (hdl k hk))⟩
  ·rw[decide_eq_false c5]
   exact bC ⟨_,rfl,aJ,fin nu H4 (S3.trans s4) nu0⟩
 rw[decide_eq_false (fun e=>c6 (by injection e))]
 refine bC ⟨_,rfl,_,_,rfl,rfl,⟨by decide,by decide⟩,aJ,fun p5 hp5=>?_⟩
 have s5:=aD (o:=.lst [.int 6,.int 99]) hp5
 have g5:upd H3 p5 (.lst [.int 6,.int 99]) p5=some (.lst [.int 6,.int 99]):=aB
 generalize upd H3 p5 (.lst [.int 6,.int 99])=H5 at s5 g5 ⊢
 obtain⟨mm,em,hm⟩:=Bw (a:=6) (b:=99) (i:=if decide (V.int (x / 17 % 5)=V.int 0)=true then 1 else 0) (by split <;> omega) (by split <;> omega)
 have mw:=md (i:=x / 7) (show 0<mm by omega)
 refine⟨_,rfl,_,_,rfl,rfl,⟨by decide,by decide⟩,_,_,rfl,rfl,(by show (0:Int)<5; decide),rfl,.inr ⟨_,rfl,p5,_,_,.int mm,rfl,rfl,SqL.of g5,em,_,_,rfl,rfl,(by show (0:Int)<mm; omega),_,_,rfl,rfl,aJ,fun t1 ht1=>⟨aJ,fun t2 ht2=>⟨aJ,fun t3 ht3=>⟨aJ,fun pl hpl=>?_⟩⟩⟩⟩⟩
 have s6:=aD (o:=.tup [.str "wait",.int (1+x / 7 % mm)]) ht1
 have g6:upd H5 t1 (.tup [.str "wait",.int (1+x / 7 % mm)]) t1=some (.tup [.str "wait",.int (1+x / 7 % mm)]):=aB
 have e6:upd H5 t1 (.tup [.str "wait",(fun i j=>V.int (i+j)) 1 (x / 7 % mm)])=upd H5 t1 (.tup [.str "wait",.int (1+x / 7 % mm)]):=rfl
 rw[e6]at ht2 ht3 hpl ⊢
 clear e6
 generalize upd H5 t1 (.tup [.str "wait",.int (1+x / 7 % mm)])=H6 at s6 g6 ht2 ht3 hpl ⊢
 have s7:=aD (o:=.tup [.str "sweep"]) ht2
 have g7:upd H6 t2 (.tup [.str "sweep"]) t2=some (.tup [.str "sweep"]):=aB
 generalize upd H6 t2 (.tup [.str "sweep"])=H7 at s7 g7 ht3 hpl ⊢
 have s8:=aD (o:=.tup [.str "carry"]) ht3
 have g8:upd H7 t3 (.tup [.str "carry"]) t3=some (.tup [.str "carry"]):=aB
 generalize upd H7 t3 (.tup [.str "carry"])=H8 at s8 g8 hpl ⊢
 have s9:=aD (o:=.lst [.ref t1,.ref t2,.ref t3]) hpl
 have g9:upd H8 pl (.lst [.ref t1,.ref t2,.ref t3]) pl=some (.lst [.ref t1,.ref t2,.ref t3]):=aB
 generalize upd H8 pl (.lst [.ref t1,.ref t2,.ref t3])=H9 at s9 g9 ⊢
 have S9:=S3.trans (s5.trans (s6.trans (s7.trans (s8.trans s9))))
 have:pk - 13=0\/pk - 13=1\/pk - 13=2:=by omega
 rcases this with e | e | e
 ·refine⟨_,rfl,_,_,rfl,rfl,pl,_,_,.ref t1,rfl,rfl,SqL.of g9,(by rw[e]; rfl),?_⟩
  refine q (.wait (1+x / 7 % mm)) t1 [.int (1+x / 7 % mm)] H9 S9 ((s7.trans (s8.trans s9)) _ _ g6) ?_ ⟨by omega,by omega⟩
  simp only[dF,aR,Den]
  exact⟨_,_,rfl,rfl,rfl⟩
 ·refine⟨_,rfl,_,_,rfl,rfl,pl,_,_,.ref t2,rfl,rfl,SqL.of g9,(by rw[e]; rfl),?_⟩
  refine q .sweep t2 [] H9 S9 ((s8.trans s9) _ _ g7) ?_ trivial
  simp only[dF,aR]
 ·refine⟨_,rfl,_,_,rfl,rfl,pl,_,_,.ref t3,rfl,rfl,SqL.of g9,(by rw[e]; rfl),?_⟩
  refine q .carry t3 [] H9 S9 (s9 _ _ g8) ?_ trivial
  simp only[dF,aR]
end
section
variable {A:Ad} {H H1 H2:Hp} {L0 D0:Addr} {L L':Pl} {q q':Qs} {S S':Sl} {M M':Ms}
end
def depth_ints:∀ ns:Lc,PyData.depthAll (ns.map .int)=0
 | []=>rfl
 | n::ns=>by
  show max 0 (PyData.depthAll (ns.map .int))=0
  rw[depth_ints ns]
  rfl
def nS (h:∀ d∈ds,i4 d=true/\PyData.depth d<=2):i4 (.list ds)=true/\PyData.depth (.list ds)<=64:=by
 constructor
 ·show lN ds=true
  exact tT fun d hd=>(h d hd).1
 ·show PyData.depthAll ds+1<=64
  have:=qX fun d hd=>(h d hd).2
  omega
def uP (h1:Den G d v1) (h2:Den G d v2) (hs:i4 d=true) (hd:PyData.depth d<=64) (q:Q (.bl false) G):J6 v1 v2 G Q:=by
 refine⟨d,d,h1,h2,wK hs hd,wK hs hd,?_⟩
 rw[BL hs]
 exact q
def Bd:∀ bss:K9,cX (dX bss)=true
 | []=>rfl
 | b::bss=>by
  show (hJ (.tuple (b.map .int)) && cX (dX bss))=true
  rw[Bd bss,sX]
  rfl
def Bl (d:nA):cX (dF d)=true:=by
 cases d with
 | put b=>
  show (hJ (.tuple (b.map .int)) && true)=true
  rw[sX]
  rfl
 | all bss=>
  show (cX (dX bss) && true)=true
  rw[Bd]
  rfl
 | _=>rfl
def mS (k:Int) (e:Ent):i4 (nZ k e)=true/\PyData.depth (nZ k e)<=64:=by
 constructor
 ·unfold nZ
  simp only[i4,lN,Ft]
  rfl
 ·show max 0 (max (PyData.depthAll (e.1.map .int)+1) (max 0 0))+1<=64
  rw[depth_ints]
  decide
def Jy (h:pT x=true):PyData.strOk x=true:=by
 unfold pT at h
 unfold PyData.strOk
 rw[Array.all_eq_true]at h ⊢
 intro i hi
 have:=of_decide_eq_true (h i hi)
 exact decide_eq_true (by omega)
def Ey (h:cQ hs k=some o):(k,o)∈hs:=by
 unfold cQ at h
 cases y:hs.find? fun p=>decide (p.1=k) with
 | none=>
  rw[y]at h
  cases h
 | some p=>
  rw[y]at h
  cases h
  have h1:=List.mem_of_find?_eq_some y
  have h2:=List.find?_some (p:=fun p:Int × (Str × Int)=>decide (p.1=k)) y
  have h2:p.1=k:=of_decide_eq_true h2
  rw[<- h2]
  exact h1
def B9 (ms:Lc) (h:∀ p∈hs,PyData.strOk p.2.1=true):i4 (.list (xU hs ms))=true/\PyData.depth (.list (xU hs ms))<=64:=nS fun d hd=>by
 unfold xU at hd
 obtain⟨k,_,rfl⟩:=mem_map.mp hd
 refine⟨?_,by show max 0 (max 0 0)+1<=2; decide⟩
 show (true && (PyData.strOk ((cQ hs k).getD ("",0)).1 && true))=true
 rw[Bool.true_and,Bool.and_true]
 cases y:cQ hs k with
 | none=>decide +kernel
 | some o=>exact h _ (Ey y)
structure Bt (A:Ad) (H:Hp) (L0 D0 L9 D9:Addr) (H1:Hp) (L:Pl) (q:Qs) (R:Pl) (r:Qs) (S:Sl) (M:Ms):Prop where
 a:Kc A H L0 D0 H1 L q
 b:Kc A H L9 D9 H1 R r
 h:StAt H1 S M
 oa:∀ c∈stL S,Off H L c
 ob:∀ c∈stL S,Off H R c
 dis:∀ c,eT L c->¬ eT R c
section
variable {A:Ad} {H H1 H2:Hp} {L0 D0 L9 D9:Addr} {L L' R R':Pl} {q q' r r':Qs} {S S':Sl} {M M':Ms}
def Bt.same (t:Bt A H L0 D0 L9 D9 H1 L q R r S M) (s:aG H1 H2):Bt A H L0 D0 L9 D9 H2 L q R r S M:=⟨t.a.sames s,t.b.sames s,t.h.same s,t.oa,t.ob,t.dis⟩
def Kc.aside (k:Kc A H L0 D0 H1 L q) (b:Kc A H L9 D9 H1 R r) (dis:∀ c,eT L c->¬ eT R c) (st:Step L L' H1 H2) (k':Kc A H L0 D0 H2 L' q'):Kc A H L9 D9 H2 R r/\∀ c,eT L' c->¬ eT R c:=
 ⟨⟨k'.same,b.qu,b.dk,b.fr,b.qw.keep (fun c o e hc=>st.frm c o e fun z=>dis c z hc) st.tup⟩,fun c hc hr=>(st.grow c hc).elim (fun z=>dis c z hr) fun z=>by
  obtain⟨o,e⟩:=eY b.qw hr
  rw[e]at z
  cases z⟩
def Bt.one (t:Bt A H L0 D0 L9 D9 H1 L q R r S M) (st:Step L L' H1 H2) (k':Kc A H L0 D0 H2 L' q'):Bt A H L0 D0 L9 D9 H2 L' q' R r S M:=by
 obtain⟨b',d'⟩:=t.a.aside t.b t.dis st k'
 exact⟨k',b',t.h.keep (fun c o e hc=>st.frm c o e (t.oa c hc).2) st.tup,fun c hc=>by
  obtain⟨o,e,_⟩:=t.h.here hc
  exact((t.oa c hc).step st e).1,t.ob,d'⟩
def Bt.flip (t:Bt A H L0 D0 L9 D9 H1 L q R r S M):Bt A H L9 D9 L0 D0 H1 R r L q S M:=⟨t.b,t.a,t.h,t.ob,t.oa,fun c hc z=>t.dis c z hc⟩
def Bt.two (t:Bt A H L0 D0 L9 D9 H1 L q R r S M) (st:Step R R' H1 H2) (k':Kc A H L9 D9 H2 R' r'):Bt A H L0 D0 L9 D9 H2 L q R' r' S M:=(t.flip.one st k').flip
def Bt.state (t:Bt A H L0 D0 L9 D9 H1 L q R r S M) (st:StepS S S' H1 H2) (h':StAt H2 S' M'):Bt A H L0 D0 L9 D9 H2 L q R r S' M':=by
 have nt:∀ c,c∈stL S->∀ xs,H1 c≠some (.tup xs):=fun c hc xs e=>by
  obtain⟨o,e2,n⟩:=t.h.here hc
  rw[e2]at e
  cases e
  exact n _ rfl
 exact⟨t.a.buts (S:=fun c=>c∈stL S) (fun c o e n=>st.frm c o e n) t.oa nt,t.b.buts (S:=fun c=>c∈stL S) (fun c o e n=>st.frm c o e n) t.ob nt,h',fun c hc=>(st.grow c hc).elim (t.oa c) (fun z=>t.a.off z),fun c hc=>(st.grow c hc).elim (t.ob c) (fun z=>t.b.off z),t.dis⟩
def Bt.told (t:Bt A H L0 D0 L9 D9 H1 L q R r S M) {v:V} (o:Out L L' H1 H2 v) {p:Addr} {xs:Ln} (e:v = .ref p) (g:H2 p=some (.lst xs)):¬ eT L' p/\p ∉ stL S/\¬ eT R p:=by
 obtain⟨h1,h2⟩:=o p xs e g
 refine⟨h1,fun z=>?_,fun z=>?_⟩
 ·rcases h2 with y | y
  ·exact t.h.off y z
  ·exact(t.oa p z).2 y
 ·rcases h2 with y | y
  ·exact(t.b.off y).2 z
  ·exact t.dis p y z
end
def AJ {α : Type} {f:α->PyData} (h:∀ x,hJ (f x)=true):∀ l:List α,cX (l.map f)=true
 | []=>rfl
 | x::l=>by
  show (hJ (f x) && cX (l.map f))=true
  rw[h,AJ h l]
  rfl
def Cv (r:PyData):Prop:=i4 r=true/\PyData.depth r<=64/\(hJ r=true\/∃ ds,r = .list ds/\cX ds=true)
def xZ {α : Type} {f:α->PyData} (h:∀ x,hJ (f x)=true) (h2:∀ x,i4 (f x)=true/\PyData.depth (f x)<=2) (l:List α):Cv (.list (l.map f)):=by
 obtain⟨h3,h4⟩:=nS (ds:=l.map f) fun d hd=>by
  obtain⟨x,_,rfl⟩:=mem_map.mp hd
  exact h2 x
 exact⟨h3,h4,.inr ⟨_,rfl,AJ h l⟩⟩
def qO (k:Int) (e:Ent):PyData.depth (nZ k e)<=2:=by
 show max 0 (max (PyData.depthAll (e.1.map .int)+1) (max 0 0))+1<=2
 rw[depth_ints]
 decide
def HH (k:Int) (e:Ent):Cv (nZ k e):=⟨(mS k e).1,(mS k e).2,.inl (sK k e)⟩
def iH:Cv .none:=⟨rfl,by decide,.inl rfl⟩
def vA:Cv EN:=⟨by decide +kernel,by decide,.inl rfl⟩
def GB (hold tries:Int) (a:Ab) (d:nA):Cv (fP hold tries a d).1:=by
 cases d with
 | put b=>exact⟨rfl,by show 0<=64; decide,.inl rfl⟩
 | all bs=>exact xZ (f:=fun p:Int × (Lc × Int)=>PyData.int p.1) (fun _=>rfl) (fun _=>⟨rfl,by show 0<=2; decide⟩) _
 | take x=>
  simp only[fP]
  split
  ·exact iH
  ·exact HH _ (_,_,0)
 | done x m=>
  simp only[fP]
  split
  ·exact iH
  ·exact vA
 | back x m=>
  simp only[fP]
  split
  ·exact iH
  ·exact vA
 | wait m=>exact xZ (f:=Gu a.ls) (fun n=>sK n (_,_,0)) (fun n=>⟨(mS n (_,_,0)).1,qO n (_,_,0)⟩) _
 | new m=>
  simp only[fP]
  split
  ·exact iH
  ·exact vA
 | sweep=>exact iH
 | carry=>exact iH
def Cv.keep {r:PyData} (f:Cv r) {H H':Hp} {v:V} (t:fS H H') (l:∀ p xs,v = .ref p->H p=some (.lst xs)->H' p=some (.lst xs)) (h:Den H r v):Den H' r v:=by
 rcases f.2.2 with y | ⟨ds,rfl,y⟩
 ·exact BU t y h
 ·simp only[Den]at h ⊢
  obtain⟨p,xs,e,g,dd⟩:=h
  exact⟨p,xs,e,l p xs e g,fO t y dd⟩
abbrev DJ:Stmt:=top 86
def oG (q:Qs):PyData:=.tuple [.list ((q.B.es.map (·.1)).map (lF q.B.es)),.int q.B.up]
inductive tF (A:Ad) (vs:Ln) (H:Hp) (Q:VK) (x_3:XK):Prop
 | mk:∀ (L:Pl) (q:Qs),vs=[.ref L.qu]->QueueW A H L q false->(q.B.es.length<800/\(q.B.es.map (·.1)).Pairwise (· <= ·))->(∀ p H',aG H H'->Den H' (oG q) (.ref p)->Q (.ref p) H')->tF A vs H Q x_3
section
variable {P:Program} {w:World} {K:K6} {mg:K8} {base:Heap} {A:Ad}
def Gb {f:Addr} {fd:Lh} (F:Fun K "_law_stay" "_law_stay" DJ f fd) (T:‹3›) (ar0:‹17› A.queue "letters" 3 ["self"] (kQ A)) (au0:‹17› A.queue "coming" 1 ["self"] (lW A)):‹15› 4 f fd ["_law_queue_here"] (tF A):=by
 refine F.okY ["_law_queue_here"] fun cdv A' outer s H vs Q E hr nD0 h=>?_
 obtain⟨L,q,rfl,hq,few,qq⟩:=h
 refine⟨_,aA (bA (aQ KM (pv 0) jN (bD _))
   ‹66›
   aO)
  (aC (aP (bE (bY (cZ ar0 T.aa0 ‹19› aX (pv 0)) (bY (cZ au0 T.aa0 ‹19› aX (pv 0)) aH))))),?_⟩
 obtain⟨dx,h1⟩:=hq.self
 refine⟨_,rfl,rfl,_,rfl,bC (cJ rfl ?_)⟩
 refine⟨_,rfl,L.qu,dx,_,rfl,h1,rfl,L,q,rfl,hq,few,fun ms perm pw p H1 s1 f1 d1=>?_⟩
 obtain rfl:ms=q.B.es.map (·.1):=cY perm pw few.2
 refine⟨_,rfl,L.qu,dx,_,rfl,s1 _ _ h1,rfl,L,q,rfl,hq.same s1,aJ,fun pt hpt=>?_⟩
 have s2:=aD (o:=.tup [.ref p,.int q.B.up]) hpt
 refine qq pt _ (s1.trans s2) ?_
 unfold oG
 have d2:=d1.same s2
 simp only[Den,aR]at d2 ⊢
 exact⟨pt,_,rfl,aB,_,_,rfl,d2,_,_,rfl,rfl,rfl⟩
end
abbrev rE:Stmt:=top 87
inductive tI (K:K6) (vs:Ln) (H:Hp) (Q:VK) (x_3:XK):Prop
 | mk:∀ (a:Addr) (ns:Lc),vs=[.ref a]->SqL K H a (ns.map V.int)->(∀ H',Q (.bl true) H')->tI K vs H Q x_3
def sJ {σ : St} {H:Hp} {k:Ln->Hp->Prop} (h:k [] H):lR σ H k:=h
def HE {J:It} {H0 H:Hp} {n:Nat} {Y:Nat->V->Hp->Prop} {g:TG} {tb:TS} {D:Ends} {σ : St} (S:Src J H0 n Y) (Pv:Nat->St->Hp->Prop) (h0:Pv 0 σ H) (keep:∀ i σ H',Pv i σ H'->aG H0 H')
  (step:∀ (D':Ends) i x σ H1 H2,(∀ σ H,Pv (i+1) σ H->D'.nx σ H/\D'.ct σ H)->i<n->Pv i σ H1->aG H1 H2->Y i x H2->g x σ H2 fun σ2 H3=>tb D' σ2 H3) (fin:∀ σ H',Pv n σ H'->D.nx σ H') :
  ∃ W:Nat->Nat->St->Hp->Prop,(∃ m,W 0 m σ H)/\∀ i m σ H,W i m σ H->
   (J.stop i H/\D.nx σ H)\/(J.go i H/\∃ N:St->Hp->Prop,(∀ σ' H',N σ' H'->∃ m',m'<m/\W (i+1) m' σ' H')/\∀ x H',J.yld i H x H'->g x σ H' fun σ2 H2=>tb { D with nx:=N,ct:=N,bk:=D.nx } σ2 H2):=
 gA S Pv h0 keep (fun i x σ H1 H2 h1 h2 h3 h4=>step { D with nx:=Pv (i+1),ct:=Pv (i+1),bk:=D.nx } i x σ H1 H2 (fun _ _ h=>⟨h,h⟩) h1 h2 h3 h4) fin
def Dv {G:Hp} {p1 p2:Addr} {ns:Lc} {Q:VK} (h1:G p1=some (.lst (ns.map V.int))) (h2:G p2=some (.lst (ns.map V.int))) (q:Q (.bl true) G):J9 (.ref p1) (.ref p2) G Q:=by
 refine⟨.list (ns.map .int),.list (ns.map .int),?_,?_,cW _,cW _,?_⟩
 ·simp only[Den]
  exact⟨p1,_,rfl,h1,bQ.mpr rfl⟩
 ·simp only[Den]
  exact⟨p2,_,rfl,h2,bQ.mpr rfl⟩
 rw[kF,decide_eq_true rfl]
 exact q
def JT {H1 H2:Hp} {C dk dx df:Addr} (hdk:H1 dk=none) (hdx:H1 dx=none) (f2:∀ b o,upd (upd H1 dx (.own dk)) dk (.ins C dx []) b=some o->b≠dk->H2 b=some o) (hdf:upd (upd H1 dx (.own dk)) dk (.ins C dx []) df=none):aG H1 H2/\∀ b,own dk df [] b->H1 b=none:=by
 refine⟨fun b o e=>?_,?_⟩
 ·have nb:b≠dk:=bP e hdk
  have nd:b≠dx:=bP e hdx
  exact f2 b o (by rw[aF nb,aF nd]; exact e) nb
 ·rintro b (rfl | rfl | hb)
  ·exact hdk
  ·cases e:H1 b with
   | none=>rfl
   | some o=>
    rw[aF (bP e hdk),aF (bP e hdx),e]at hdf
    cases hdf
  ·simp at hb
def JS {A:Ad} {H H1 H2 H7:Hp} {dk df:Addr} {L:Pl} {q:Qs} (bs:aG H H1) (S2:aG H1 H2) (fr:∀ b,own dk df [] b->H1 b=none) (eL:L.dk=dk) (f7:∀ b o,H2 b=some o->¬ own dk df [] b->H7 b=some o) (w7:∀ b,eT L b->own dk df [] b\/H2 b=none) (hq7:QueueW A H7 L q false):aG H1 H7/\(∀ b,eT L b->H1 b=none)/\Kc A H L.qu dk H7 L q:=by
 have S7:aG H1 H7:=fun b o e=>f7 b o (S2 b o e) (fun ho=>by rw[fr b ho]at e; cases e)
 have fr7:∀ b,eT L b->H1 b=none:=fun b hb=>by
  rcases w7 b hb with y | y
  ·exact fr b y
  ·exact S2.free y
 exact⟨S7,fr7,bs.trans S7,rfl,eL,fun b hb=>bs.free (fr7 b hb),hq7⟩
def EM (hold tries:Int) {a:Ab} {d:nA} (h:∀ p∈a.hs,dZ p.2.1) (ok:vN d):∀ p∈(fP hold tries a d).2.hs,dZ p.2.1:=by
 have hf:∀ P:Int × (Str × Int)->Bool,∀ p∈a.hs.filter P,dZ p.2.1:=fun P p hp=>h p (mem_filter.mp hp).1
 cases d with
 | take x=>
  simp only[fP]
  split
  ·exact h
  ·intro p hp
   rcases mem_append.mp hp with y | y
   ·exact h p y
   ·rw[mem_singleton.mp y]
    exact ok
 | done x m=>
  simp only[fP]
  split
  ·exact hf _
  ·exact h
 | back x m=>
  simp only[fP]
  split
  ·exact hf _
  ·exact h
 | wait m=>exact hf _
 | new m=>
  simp only[fP]
  split <;> exact h
 | _=>exact h
def Fh {q r:Qs} (e:dP q=dP r):oG q=oG r:=by
 have e1:q.B.es.map bare=r.B.es.map bare:=congrArg Ab.ls e
 have e2:q.B.up=r.B.up:=congrArg Ab.up e
 have e3:(q.B.es.map (·.1))=r.B.es.map (·.1):=by rw[<- qY,e1,qY]
 unfold oG
 rw[e2,e3,map_congr_left fun n _=>uT q.B.es n,e1,<- map_congr_left fun n _=>uT r.B.es n]
def At {q r:Qs} (t:Int->Int->Bool) (e:dP q=dP r) (et:q.tries=r.tries):(((q.B.es.map (·.1)).filter (kE q.hs)).filter fun n=>t (eE q.B.es n) q.tries)=(((r.B.es.map (·.1)).filter (kE r.hs)).filter fun n=>t (eE r.B.es n) r.tries):=by
 rw[iE,iE,e,et]
def wI (q:Qs):i4 (oG q)=true/\PyData.depth (oG q)<=64:=by
 obtain⟨h1,h2⟩:=nS (ds:=(q.B.es.map (·.1)).map (lF q.B.es)) fun d hd=>by
  obtain⟨k,_,rfl⟩:=mem_map.mp hd
  unfold lF
  exact⟨(mS _ _).1,qO _ _⟩
 have h3:PyData.depthAll ((q.B.es.map (·.1)).map (lF q.B.es))<=2:=qX fun d hd=>by
  obtain⟨k,_,rfl⟩:=mem_map.mp hd
  unfold lF
  exact qO _ _
 constructor
 ·unfold oG
  show (i4 (.list _) && (true && true))=true
  rw[h1]
  rfl
 ·unfold oG
  show max (PyData.depthAll _+1) (max 0 0)+1<=64
  omega
section
variable {P:Program} {w:World} {K:K6} {mg:K8} {base:Heap} {A:Ad}
def KO {f:Addr} {fd:Lh} (F:Fun K "law" "law" rE f fd) (T:‹3›) (bb2:‹18› "Disk" A.disk 3 ["self","steps"] (tL A.disk A.badNumber)) (c_do:‹16› "do" 10 ["queue","deed"] (DA A))
  (ag6:‹17› A.queue "ready" 4 ["self"] (gO A ltB)) (ai9:‹17› A.queue "dead" 4 ["self"] (gO A geB)) (ax7:‹17› A.queue "held" 1 ["self"] (nP A)) (ar1:‹17› A.queue "clock" 1 ["self"] (nQ A)) (aj1:‹17› A.queue "carry" 8 ["self"] (gP A)) (aj0:‹17› A.queue "sweep" 6 ["self"] (gN A))
  (aj3:‹16› "_law_cell" 1 ["_law_script","_law_k"] (yX K)) (ar2:‹16› "_law_mix" 1 ["_law_cell_here","_law_prime","_law_many"] B4) (ab4:‹10›) (ac5:‹14›) (ah6:‹16› "_law_settings" 2 ["_law_cell_here"] lU) (ah7:‹16› "_law_queue" 10 ["_law_disk","_law_settings_here"] (qB A))
  (am6:‹16› "_law_begin" 1 [] wJ) (ao9:‹16› "_law_deed" 3 ["_law_state","_law_seed_here","_law_tries"] tH) (ap0:‹16› "_law_told" 4 ["_law_state","_law_deed_here","_law_settings_here"] tE) (aj4:‹16› "_law_stay" 4 ["_law_queue_here"] (tF A)) :
  ‹15› 11 f fd ["_law_script"] (tI K):=by
 refine F.okY ["_law_script","_law_settings_here","_law_other_here","_law_state","_law_one","_law_two","_law_k","_law_deed_here","_law_told_here"] fun cdv A' outer s H vs Q E hr nD0 h=>?_
 obtain⟨a,ns,rfl,hs,hQ⟩:=h
 refine⟨_,aA (a7 (i:=1) nD0 ⋯ ⋯ (a9 ah6 ‹19› aX (bY ‹84› aH)))
  (aA (a7 (i:=2) nD0 ⋯ ⋯ (bE (bR (bB cO aI (bB dN ‹84› aI)) ‹94›)))
  (aA (a7 (i:=3) nD0 ⋯ ⋯ (KI am6 ‹19› aX))
  (aA (a7 (i:=4) nD0 ⋯ ⋯ (a9 ah7 ‹19› aX (bY (GQ bb2 ‹19› aX (aM jN aH)) ‹29›)))
  (aA (a7 (i:=5) nD0 ⋯ ⋯ (a9 ah7 ‹19› aX (bY (GQ bb2 ‹19› aX (aM jN aH)) ‹37›)))
  (aA (fY (lQ eO) ⋯ (qJ ⋯ T.ai4 (bY (a9 ar2 ‹19› aX (bY ‹84› (aM aI ‹34›))) aH)) (bG (i:=6) nD0 ⋯ ⋯)
   (aA (a7 (i:=7) nD0 ⋯ ⋯ (a9 ao9 ‹19› aX (aE (pv 3) (bY (a9 ab4 ‹19› aX (bR (bB cO (a9 aj3 ‹19› aX (aE (pv 0) (bR (bB cO aI (bB dN (pv 6) aI)) aH))) (bB l9 aI (pv 6))) (aE (pv 6) aH))) ‹80›))))
   (aA (a7 (i:=8) nD0 ⋯ ⋯ (a9 c_do ‹19› aX (aE (pv 4) (aE (pv 7) aH))))
   (aA (aU (a9 ap0 ‹19› aX (aE (pv 3) (aE (pv 7) ‹29›))))
   (aA (bA (aQ (CJ K) (cD (cR K) (pv 7) aI (fun _ _=>rfl)) (bE (aM bL ‹25›)) ⋯)
    (aC As)
    aO)
   (aA (bA (lO (aQ (nX hr.units) (a9 c_do ‹19› aX (aE (pv 5) (aE (pv 7) aH))) (pv 8) (bD _)) (lO (aQ (nX hr.units) (a9 aj4 ‹19› aX ‹64›) (a9 aj4 ‹19› aX ‹69›) (bD _)) (iR (aQ (nX hr.units) (cZ ax7 T.aa0 ‹19› aX (pv 4)) (cZ ax7 T.aa0 ‹19› aX (pv 5)) (bD _))))).pt
    ‹67›
    aO)
   (aC (bA (aQ fM (a9 ac5 ‹19› aX (bY (a9 ab4 ‹19› aX (bY ‹84› (aE (pv 6) aH))) ‹34›)) aI (bD _))
    (aA (aU (cZ aj1 T.aa0 ‹19› aX (pv 5)))
    (aC (aU (cZ aj0 T.aa0 ‹19› aX (pv 5)))))
    aO))))))))
  (aC (aP (nV (fZ (CK hr.units) (cZ ag6 T.aa0 ‹19› aX (pv 4)) (cZ ag6 T.aa0 ‹19› aX (pv 5)) (bD _)) (nV (fZ (CK hr.units) (cZ ai9 T.aa0 ‹19› aX (pv 4)) (cZ ai9 T.aa0 ‹19› aX (pv 5)) (bD _)) (uI (fZ fM (cZ ar1 T.aa0 ‹19› aX (pv 4)) (cZ ar1 T.aa0 ‹19› aX (pv 5)) (bD _)))))))))))),?_⟩
 refine⟨_,rfl,a,ns,0,rfl,by decide,hs,_,rfl,fun m hh tr p H1 m1 m2 h1 h2 t1 t2 S1 g1=>?_⟩
 refine⟨_,rfl,a,ns,1,rfl,by decide,S1.seq hs,_,_,rfl,rfl,(by show (0:Int)<2000; decide),_,_,rfl,rfl,_,rfl,p,_,_,.int hh,rfl,rfl,SqT.of g1,aW (by decide) rfl,_,rfl,p,_,_,.int tr,rfl,rfl,SqT.of g1,aW (by decide) rfl,aJ,fun p2 hp2=>?_⟩
 obtain⟨m',em'⟩:∃ m',m'=1+ns.getD (Int.toNat 1) 0 % 2000:=⟨_,rfl⟩
 have mb':=md (i:=ns.getD (Int.toNat 1) 0) (j:=2000) (by decide)
 rw[<- em']
 have S2:=aD (o:=.tup [.int m',.int hh,.int tr]) hp2
 have g2:upd H1 p2 (.tup [.int m',.int hh,.int tr]) p2=some (.tup [.int m',.int hh,.int tr]):=aB
 generalize upd H1 p2 (.tup [.int m',.int hh,.int tr])=H2 at S2 g2 ⊢
 have g1:=S2 _ _ g1
 have S1:=S1.trans S2
 clear S2 hp2
 refine⟨rfl,fun S H3 s3 fs3 h3=>?_⟩
 have mset:oQ (.int m) (.int hh) (.int tr)=true:=by
  unfold oQ
  simp only[bM,and_eq_true,decide_eq_true_eq]
  omega
 have mset':oQ (.int m') (.int hh) (.int tr)=true:=by
  unfold oQ
  simp only[bM,and_eq_true,decide_eq_true_eq]
  omega
 refine fun dk dx hdk hdx ne=>⟨dk,dx,.non,.none,rfl,aB,by simp only[Den],(fun z=>by cases z),fun _ df H4 f4 hdf hD4=>⟨rfl,_,rfl,?_⟩⟩
 obtain⟨S4,fr4⟩:=JT hdk hdx f4 hdf
 refine⟨dk,df,p,[],⟨[],0,none⟩,m,hh,tr,rfl,S4 _ _ (s3 _ _ g1),mset,hD4,⟨rfl,rfl⟩,fun L d5 H5 eL f5 w5 hq5=>?_⟩
 obtain⟨S5,fq5,k5⟩:=JS (H:=H2) s3 S4 fr4 eL f5 w5 hq5
 refine fun dk9 dx9 hdk9 hdx9 ne9=>⟨dk9,dx9,.non,.none,rfl,aB,by simp only[Den],(fun z=>by cases z),fun _ df9 H6 f6 hdf9 hD6=>⟨rfl,_,rfl,?_⟩⟩
 obtain⟨S6,fr6⟩:=JT hdk9 hdx9 f6 hdf9
 refine⟨dk9,df9,p2,[],⟨[],0,none⟩,m',hh,tr,rfl,S6 _ _ (S5 _ _ (s3 _ _ g2)),mset',hD6,⟨rfl,rfl⟩,fun R d7 H7 eR f7 w7 hq7=>?_⟩
 obtain⟨S7,fq7,k7⟩:=JS (H:=H2) (s3.trans S5) S6 fr6 eR f7 w7 hq7
 have b7:Bt A H2 L.qu dk R.qu dk9 H7 L _ R _ S M0:=⟨k5.sames S7,k7,h3.same (S5.trans S7),fun c hc=>⟨fs3 c hc,fun z=>by
  obtain⟨o,e,_⟩:=h3.here hc
  rw[fq5 c z]at e
  cases e⟩,fun c hc=>⟨fs3 c hc,fun z=>by
  obtain⟨o,e,_⟩:=(h3.same S5).here hc
  rw[fq7 c z]at e
  cases e⟩,fun c hc hr=>by
  obtain⟨o,e⟩:=eY k5.qw hc
  rw[fq7 c hr]at e
  cases e⟩
 have z5:Qi (iX m hh tr d5) 0 0:=Qi.first m1 m2 t1 t2
 have z7:Qi (iX m' hh tr d7) 0 0:=Qi.first (by omega) (by omega) t1 t2
 have f5:((iX m hh tr d5).tries=tr/\(iX m hh tr d5).hold=hh/\(iX m' hh tr d7).tries=tr/\(iX m' hh tr d7).hold=hh)/\dP (iX m hh tr d5)=dP (iX m' hh tr d7)/\(iX m hh tr d5).hs=[]:=⟨⟨rfl,rfl,rfl,rfl⟩,rfl,rfl⟩
 generalize iX m hh tr d5=q5 at b7 z5 f5 hq5 k5
 generalize iX m' hh tr d7=q7 at b7 z7 f5 hq7 k7
 obtain⟨L0,eL0⟩:∃ L0,L0=L.qu:=⟨_,rfl⟩
 obtain⟨L9,eL9⟩:∃ L9,L9=R.qu:=⟨_,rfl⟩
 obtain⟨P0,eP0⟩:∃ P0,P0=S.ps:=⟨_,rfl⟩
 rw[<- eL0,<- eL9,<- eP0]
 rw[<- eL0,<- eL9]at b7
 clear hq5 k5 hq7 k7 fq5 fq7 f6 f7 w5 w7 hD4 hD6 S4 S6 fr4 fr6 hdf hdf9 f4 hdk hdx hdk9 hdx9 mset mset'
 obtain⟨N,eN⟩:∃ N:Nat,(N:Int)=Gp (ns.getD (Int.toNat 2) 0) 9949 41:=⟨(Gp (ns.getD (Int.toNat 2) 0) 9949 41).toNat,by
  have mb:=md (i:=(ns.getD (Int.toNat 2) 0 * 48271 % 9949) ^ 3 % 9949) (j:=41) (by decide)
  unfold Gp
  omega⟩
 have N40:N<=40:=by
  have mb:=md (i:=(ns.getD (Int.toNat 2) 0 * 48271 % 9949) ^ 3 % 9949) (j:=41) (by decide)
  unfold Gp at eN
  omega
 refine⟨_,rfl,a,ns,2,rfl,by decide,(S1.trans b7.a.same).seq hs,_,9949,41,rfl,by decide,by decide,by decide,(N:Int),by rw[eN],by omega,by omega,?_⟩
 refine HE (pX (H:=fun _=>none) 0 (N:Int).toNat) (fun i σ H'=>∃ L q R r S M z6 z7 z8,σ = [some (.ref a),some (.ref p),some (.ref p2),some (.ref P0),some (.ref L0),some (.ref L9),z6,z7,z8]/\Bt A H2 L0 dk L9 dk9 H' L q R r S M/\Qi q (500 * i) i/\Qi r (1500 * i) i/\MsOk M i (1+1000 * i)/\P0=S.ps/\(q.tries=tr/\q.hold=hh/\r.tries=tr/\r.hold=hh)/\dP q=dP r/\∀ p∈q.hs,dZ p.2.1) ⟨L,q5,R,q7,S,M0,_,_,_,rfl,b7,z5,z7,M0_ok,eP0,f5.1,f5.2.1,fun p hp=>by rw[f5.2.2]at hp; cases hp⟩ (fun i σ H' hh b u e=>by cases e) ?_ ?_
 ·rintro D' i x σ H5 H6 hD' hi ⟨L,q,R,r,S,M,z6,z7,z8,rfl,b5,zq,zr,okM,eP,⟨tq,hq,tr',hr'⟩,eA,hok⟩ s6 rfl
  have b6:=b5.same s6
  have hi':i<40:=by omega
  have gp:=b6.a.same _ _ g1
  have hs6:=(S1.trans b6.a.same).seq hs
  have i7:=md (i:=0+(i:Int)) (j:=7) (by decide)
  refine⟨_,rfl,_,rfl,_,rfl,_,_,rfl,rfl,(by show (0:Int)<7; decide),_,_,rfl,rfl,a,ns,_,rfl,(by show 0<=3+(0+(i:Int)) % 7; omega),hs6,?_⟩
  refine⟨_,rfl,_,_,rfl,rfl,.inl ⟨by decide,by decide⟩,_,_,rfl,rfl,_,rfl,_,_,rfl,_,rfl,p,_,_,.int tr,rfl,rfl,SqT.of gp,aW (by decide) rfl,S,M,_,tr,i,1+1000 * i,(by rw[eP]),b6.h,okM,by omega,fun d td args H7 s7 gt da dok=>?_⟩
  have b7:=b6.same s7
  refine⟨_,rfl,_,rfl,sJ (FR b7.a zq (by omega) (by omega) dok gt da fun v L' q' H8 st k' z' rel out=>?_)⟩
  have b8:=b7.one st k'
  refine⟨_,rfl,_,rfl,_,rfl,S,M,td,p,d,args,m,hh,tr,i,1+1000 * i,(by rw[eP]),b8.h,okM,by omega,by omega,b8.a.same _ _ g1,st.tup _ _ gt,fO st.tup (Bl d) da,dok,fun S' M' H9 v' st' h' ok'=>?_⟩
  have b9:=b8.state st' h'
  have gt9:=(st.tup.trans st'.tup) _ _ gt
  have da9:=fO (st.tup.trans st'.tup) (Bl d) da
  have eP':P0=S'.ps:=eP.trans st'.ps.symm
  have hok':∀ p∈q'.hs,dZ p.2.1:=fun p hp=>EM q.hold q.tries hok dok p (by
   have e:(dP q').hs=_:=congrArg Ab.hs rel.2.1
   rw[<- e]
   exact hp)
  have set':=rel.1
  refine⟨_,rfl,td,_,_,.str (dY d),rfl,rfl,SqT.of gt9,aW (by decide) rfl,aJ,fun pk hpk=>?_⟩
  have s10:=aD (o:=.tup [.str "sweep",.str "carry"]) hpk
  have g10:upd H9 pk (.tup [.str "sweep",.str "carry"]) pk=some (.tup [.str "sweep",.str "carry"]):=aB
  generalize upd H9 pk (.tup [.str "sweep",.str "carry"])=H10 at s10 g10 ⊢
  refine⟨pk,_,rfl,.inr (SqT.of g10),rfl,rfl,_,rfl,?_⟩
  show if inV (V.str (dY d)) [V.str "sweep",V.str "carry"]=true then _ else _
  rw[show inV (V.str (dY d)) [V.str "sweep",V.str "carry"]=GA d by cases d <;> first | rfl | decide +kernel]
  have b10:=b9.same s10
  have nxt:∀ R' r' H',Bt A H2 L0 dk L9 dk9 H' L' q' R' r' S' M'->Qi r' (1500 * i+1500) (i+1)->FK r r'->dP q'=dP r'->∀ σ',σ'=[some (.ref a),some (.ref p),some (.ref p2),some (.ref P0),some (.ref L0),some (.ref L9),some (.int (0+(i:Int))),some (.ref td),some v]->D'.nx σ' H'/\D'.ct σ' H':=fun R' r' H' b' zr' sr ea σ' e=>by
   rw[e]
   exact hD' _ _ ⟨L',q',R',r',S',M',_,_,_,rfl,b',z'.mono (by omega) (by omega),zr'.mono (by omega) (by omega),ok'.mono (by omega) (by omega),eP',⟨set'.1.trans tq,set'.2.1.trans hq,sr.1.trans tr',sr.2.1.trans hr'⟩,ea,hok'⟩
  cases hrd:GA d with
  | true=>
   refine aT (nxt R r H10 b10 (zr.mono (by omega) (by omega)) ⟨rfl,rfl,rfl⟩ (rel.2.1.trans ?_) _ rfl).2
   cases d <;> first | exact eA | cases hrd
  | false=>
   refine bC ?_
   refine⟨_,rfl,_,rfl,sJ (FR b10.b zr (by omega) (by omega) dok (s10 _ _ gt9) (da9.same s10) fun v2 R' r' H11 st2 k2 z2 rel2 out2=>?_)⟩
   have b11:=b10.two st2 k2
   have eR:fP r.hold r.tries (dP r) d=fP q.hold q.tries (dP q) d:=by rw[eA,tq,hq,tr',hr']
   have dv2:=rel2.2.2 hrd
   rw[eR]at dv2
   have fl:=GB q.hold q.tries (dP q) d
   have dv:Den H11 _ v:=fl.keep (st'.tup.trans ((aG.tup s10).trans st2.tup)) (fun p' xs e g=>by
    obtain⟨n1,n2,n3⟩:=b7.told out e g
    exact st2.frm _ _ (s10 _ _ (st'.frm _ _ g n2)) n3) (rel.2.2 hrd)
   refine⟨_,rfl,uP dv2 dv fl.1 fl.2.1 ⟨_,rfl,bC ?_⟩⟩
   have ea:dP q'=dP r':=by rw[rel.2.1,rel2.2.1,eR]
   have few1:q'.B.es.length<800/\(q'.B.es.map (·.1)).Pairwise (· <= ·):=⟨by have:=z'.eo.cnt; omega,z'.eo.so.imp le_of_lt⟩
   have few2:r'.B.es.length<800/\(r'.B.es.map (·.1)).Pairwise (· <= ·):=⟨by have:=z2.eo.cnt; omega,z2.eo.so.imp le_of_lt⟩
   refine⟨_,rfl,L',q',(by rw[b11.a.qu]),b11.a.qw,few1,fun ps1 H12 s12 d12=>?_⟩
   have b12:=b11.same s12
   refine⟨_,rfl,R',r',(by rw[b12.b.qu]),b12.b.qw,few2,fun ps2 H13 s13 d13=>?_⟩
   have b13:=b12.same s13
   rw[<- Fh ea]at d13
   refine uP (d12.same s13) d13 (wI q').1 (wI q').2 ⟨_,rfl,bC ?_⟩
   have hl1:=z'.hl
   have hl2:=z2.hl
   obtain⟨dx13,e13⟩:=b13.a.self
   refine⟨_,rfl,L0,dx13,_,rfl,e13,rfl,L',q',(by rw[b13.a.qu]),b13.a.qw,by omega,fun hm1 pm1 pw1 ph1 H14 s14 f14 d14=>?_⟩
   have b14:=b13.same s14
   obtain⟨dx14,e14⟩:=b14.b.self
   refine⟨_,rfl,L9,dx14,_,rfl,e14,rfl,R',r',(by rw[b14.b.qu]),b14.b.qw,by omega,fun hm2 pm2 pw2 ph2 H15 s15 f15 d15=>?_⟩
   have ehs:q'.hs=r'.hs:=congrArg Ab.hs ea
   rw[<- ehs]at pm2 d15
   obtain rfl:hm2=hm1:=cY (pm2.trans pm1.symm) pw2 pw1
   obtain⟨sh1,sh2⟩:=B9 (hs:=q'.hs) hm2 fun p hp=>Jy (hok' p hp).2.2
   refine uP (d14.same s15) d15 sh1 sh2 ⟨_,rfl,bC ?_⟩
   have b15:=b14.same s15
   refine⟨_,rfl,a,ns,10,rfl,by decide,(S1.trans b15.a.same).seq hs,_,rfl,_,_,rfl,_,4,rfl,by decide,rfl,_,rfl,?_⟩
   show if decide (V.int _=V.int 0)=true then _ else _
   cases decide (V.int (Au (nC (ns.getD (Int.toNat 10) 0) (0+(i:Int))) 4)=V.int 0) with
   | false=>exact bC (nxt R' r' H15 b15 (z2.mono (by omega) (by omega)) rel2.1 ea _ rfl).1
   | true=>
    refine aT ?_
    obtain⟨dx15,e15⟩:=b15.b.self
    refine⟨_,rfl,L9,dx15,_,rfl,e15,rfl,sJ (wB b15.b (z2.mono (le_refl _) (le_refl _)) (by omega) (by omega) fun v3 R3 r3 H16 st3 k3 z3 e3 _=>?_)⟩
    have b16:=b15.two st3 k3
    obtain⟨dx16,e16⟩:=b16.b.self
    refine⟨_,rfl,L9,dx16,_,rfl,e16,rfl,sJ (wA b16.b z3 (by omega) (by omega) fun v4 R4 r4 H17 st4 k4 z4 e4 _=>?_)⟩
    have b17:=b16.two st4 k4
    exact(nxt R4 r4 H17 b17 (z4.mono (by omega) (by omega)) ⟨e4.1.1.trans (e3.1.1.trans rel2.1.1),e4.1.2.1.trans (e3.1.2.1.trans rel2.1.2.1),e4.1.2.2.trans (e3.1.2.2.trans rel2.1.2.2)⟩ (ea.trans (e4.2.trans e3.2).symm) _ rfl).1
 ·rintro σ H' ⟨L,q,R,r,S,M,z6,z7,z8,rfl,b,zq,zr,_,_,⟨tq,hq,tr',hr'⟩,eA,_⟩
  have few1:q.B.es.length<800/\(q.B.es.map (·.1)).Pairwise (· <= ·):=⟨by have:=zq.eo.cnt; omega,zq.eo.so.imp le_of_lt⟩
  have few2:r.B.es.length<800/\(r.B.es.map (·.1)).Pairwise (· <= ·):=⟨by have:=zr.eo.cnt; omega,zr.eo.so.imp le_of_lt⟩
  obtain⟨dx1,e1⟩:=b.a.self
  refine⟨_,rfl,L0,dx1,_,rfl,e1,rfl,L,q,(by rw[b.a.qu]),b.a.qw,few1,fun ms1 pm1 pw1 p1 H1' s1 _ g1'=>?_⟩
  have b1:=b.same s1
  obtain⟨dx2,e2⟩:=b1.b.self
  refine⟨_,rfl,L9,dx2,_,rfl,e2,rfl,R,r,(by rw[b1.b.qu]),b1.b.qw,few2,fun ms2 pm2 pw2 p3 H2' s2 _ g2'=>?_⟩
  have b2:=b1.same s2
  obtain rfl:ms1=q.B.es.map (·.1):=cY pm1 pw1 few1.2
  obtain rfl:ms2=r.B.es.map (·.1):=cY pm2 pw2 few2.2
  rw[<- At ltB eA (tq.trans tr'.symm)]at g2'
  refine Dv (s2 _ _ g1') g2' ⟨_,rfl,aT ?_⟩
  obtain⟨dx3,e3⟩:=b2.a.self
  refine⟨_,rfl,L0,dx3,_,rfl,e3,rfl,L,q,(by rw[b2.a.qu]),b2.a.qw,few1,fun ms3 pm3 pw3 p4 H3' s3 _ g3'=>?_⟩
  have b3:=b2.same s3
  obtain⟨dx4,e4⟩:=b3.b.self
  refine⟨_,rfl,L9,dx4,_,rfl,e4,rfl,R,r,(by rw[b3.b.qu]),b3.b.qw,few2,fun ms4 pm4 pw4 p5 H4' s4 _ g4'=>?_⟩
  have b4:=b3.same s4
  obtain rfl:ms3=q.B.es.map (·.1):=cY pm3 pw3 few1.2
  obtain rfl:ms4=r.B.es.map (·.1):=cY pm4 pw4 few2.2
  rw[<- At geB eA (tq.trans tr'.symm)]at g4'
  refine Dv (s4 _ _ g3') g4' ⟨_,rfl,aT ?_⟩
  obtain⟨dx5,e5⟩:=b4.a.self
  obtain⟨dx6,e6⟩:=b4.b.self
  refine⟨_,rfl,L0,dx5,_,rfl,e5,rfl,L,q,(by rw[b4.a.qu]),b4.a.qw,_,rfl,L9,dx6,_,rfl,e6,rfl,R,r,(by rw[b4.b.qu]),b4.b.qw,rfl,?_⟩
  have en:q.now=r.now:=congrArg Ab.now eA
  rw[en,decide_eq_true rfl]
  exact hQ _
end
structure DefIn (K:K6) (x:Str) (st:Stmt):Prop where
 ex:∃ (f:Addr) (oc:Value) (od:Option Addr) (kV doc pm:Value) (an:Option Addr) (cdv ct:Value) (osl:Lb),nsIn K mainGlobals x=some (some (.ref f))/\
  K.lookup f=some ⟨oc,od,.func (fnOf x x (gF st) (fI st) (c8 st) .none kV doc pm an cdv ct),osl⟩/\codeIn K cdv x=true/\keepIn K (.ref f)=true
def a8 {K:K6} {x:Str} {st:Stmt} {f:Addr} {oc:Value} {od an:Option Addr} {osl:Lb} {kV doc pm cdv ct:Value} (a:nsIn K mainGlobals x=some (some (.ref f)))
  (l:K.lookup f=some ⟨oc,od,.func (fnOf x x (gF st) (fI st) (c8 st) .none kV doc pm an cdv ct),osl⟩) (c:codeIn K cdv x=true) (k:keepIn K (.ref f)=true):DefIn K x st:=⟨⟨f,oc,od,kV,doc,pm,an,cdv,ct,osl,a,l,c,k⟩⟩
def DefIn.get {K:K6} {h:Heap} {mg:K8} {x:Str} {st:Stmt} (X:K.In h) (G:h.Ns mainGlobals mg) (D:DefIn K x st):∃ f fd,Fun K x x st f fd/\mg x=some (.ref f)/\keepIn K (.ref f)=true:=by
 obtain⟨f,oc,od,kV,doc,pm,an,cdv,ct,osl,a,l,c,k⟩:=D.ex
 exact⟨f,_,Cn l c k,mg_of X G a,k⟩
def sE:Ld->Lf->Bool
 | [],[]=>true
 | k::ks,.str x _::vs=>decide (x=k) && sE ks vs
 | _,_=>false
def oE:∀ {ks:Ld} {vs:Lf},sE ks vs=true->bZ (ks.map V.str) vs
 | [],[],_=>.nil
 | k::ks,.str x t::vs,h=>by
  simp only[sE,and_eq_true,decide_eq_true_eq]at h
  obtain⟨h1,h2⟩:=h
  subst h1
  exact .cons ⟨t,rfl⟩ (oE h2)
def zO (K:K6) (a:Addr):Bool:=match K.lookup a with
 | some ⟨.type t,none,.seq its n,_⟩=>decide (t = "tuple") && (decide (its.size<=100) && sE cT its.toList)
 | _=>false
def Cj {K:K6} {a:Addr} (h:zO K a=true):(∀ H,SqT K H a (cT.map V.str))/\∃ o,K.lookup a=some o/\o.cls = .type "tuple"/\o.dict=none:=by
 unfold zO at h
 split at h
 ·next t its n sl e=>
  simp only[and_eq_true,decide_eq_true_eq]at h
  obtain⟨h1,h2,h3⟩:=h
  subst h1
  exact⟨fun H=>.inr ⟨_,its,n,e,rfl,rfl,aJ h2,oE h3⟩,_,e,rfl,rfl⟩
 ·cases h
structure MethIn (K:K6) (C:Addr) (x qual:Str) (st:Stmt):Prop where
 ex:∃ (f:Addr) (oc:Value) (od:Option Addr) (kV doc pm:Value) (an:Option Addr) (cdv ct:Value) (osl:Lb),findIn K (.ref C) x=some (some (.ref f))/\PySem.W.isFn K (.ref f)=true/\
  K.lookup f=some ⟨oc,od,.func (fnOf x qual (gF st) (fI st) (c8 st) .none kV doc pm an cdv ct),osl⟩/\codeIn K cdv qual=true/\keepIn K (.ref f)=true
def aY {K:K6} {C:Addr} {x qual:Str} {st:Stmt} {f:Addr} {oc:Value} {od an:Option Addr} {osl:Lb} {kV doc pm cdv ct:Value} (a:findIn K (.ref C) x=some (some (.ref f))) (i:PySem.W.isFn K (.ref f)=true)
  (l:K.lookup f=some ⟨oc,od,.func (fnOf x qual (gF st) (fI st) (c8 st) .none kV doc pm an cdv ct),osl⟩) (c:codeIn K cdv qual=true) (k:keepIn K (.ref f)=true):MethIn K C x qual st:=⟨⟨f,oc,od,kV,doc,pm,an,cdv,ct,osl,a,i,l,c,k⟩⟩
def MethIn.get {K:K6} {C:Addr} {x qual:Str} {st:Stmt} (D:MethIn K C x qual st):∃ f fd,Fun K x qual st f fd/\findIn K (.ref C) x=some (some (.ref f))/\PySem.W.isFn K (.ref f)=true/\keepIn K (.ref f)=true:=by
 obtain⟨f,oc,od,kV,doc,pm,an,cdv,ct,osl,a,i,l,c,k⟩:=D.ex
 exact⟨f,_,Cn l c k,a,i,k⟩
def ucs {P:Lf->Prop} {n:Nat} (h:∀ a us,us.length=n->P (a::us)):∀ us,us.length=n+1->P us:=fun us hl=>by
 cases us with
 | nil=>cases hl
 | cons a r=>exact h a r (Nat.succ.inj hl)
def us0 {P:Lf->Prop} (h:P []):∀ us,us.length=0->P us:=fun us hl=>by
 cases us with
 | nil=>exact h
 | cons a r=>cases hl
def He (x qual:Str) (st:Stmt) (ps:Ld):Prop:=∀ (kV doc pm:Value) (an:Option Addr) (cdv ct:Value) (us:Lf),us.length=ps.length->bindArgs (fnOf x qual (gF st) (fI st) (c8 st) .none kV doc pm an cdv ct) ⟨us,[]⟩=pure (ps.zip us)
local macro_rules | `(tactic| trivial) => `(tactic| (intro _ _ _ _ _ _; (repeat refine ucs fun _ => ?_); exact us0 rfl))
structure Ev (P:Program) (w:World) (K:K6) (mg:K8) (base h:Heap):Prop where
 X:K.In h
 G:h.Ns mainGlobals mg
section
variable {P:Program} {w:World} {K:K6} {mg:K8} {base h:Heap} {x qual:Str} {st:Stmt} {C:Addr} {k:Nat} {ps:Ld} {sp:Sp}
def Ev.c (V:Ev P w K mg base h) (D:DefIn K x st) (ok:∀ {f fd},Fun K x x st f fd->‹15› k f fd ps sp) (b:He x x st ps:=by trivial):‹16› x k ps sp:=by
 obtain⟨f,fd,F,m,kp⟩:=D.get V.X V.G
 exact⟨f,fd,ok F,m,kp,F.binds b⟩
def Ev.m (V:Ev P w K mg base h) (D:MethIn K C x qual st) (ok:∀ {f fd},Fun K x qual st f fd->‹15› k f fd ps sp) (b:He x qual st ps:=by trivial):‹17› C x k ps sp:=by
 obtain⟨f,fd,F,a,i,kp⟩:=D.get
 exact⟨f,fd,ok F,⟨a,i,kp⟩,F.binds b⟩
def Ev.mk2 {y:Str} (V:Ev P w K mg base h) (D:MethIn K C "__init__" qual st) (mk:PySem.W.makesIn K C=true) (kc:keepIn K (.ref C)=true) (bn:nsIn K mainGlobals y=some (some (.ref C))) (ok:∀ {f fd},Fun K "__init__" qual st f fd->‹15› k f fd ps sp) (b:He "__init__" qual st ps:=by trivial):‹18› y C k ps sp:=by
 obtain⟨f,fd,F,a,i,kp⟩:=D.get
 exact⟨f,fd,ok F,⟨mk,a,i,kc⟩,mg_of V.X V.G bn,F.binds b⟩
end
def Ka {l:PySem.W.OpenLaw} {w:World} {K:K6} {h:Heap} {mg:K8} {fa fL ab0 aa2 aa5 ab8 aa6 aa3 aa1 ak3 aj5 as9 aa9 aj6 ae0 ab5 aa7 aa4 aa8:Addr} (X:K.In h) (G:h.Ns mainGlobals mg) (hfa:mg "law" = some (.ref fa))
  {odL anL:Option Addr} {slL:Lb} {ocL kVL dcL pmL cdL ctL:Value} {t0 t1 t2 t3 t4 t5 t6 t7 t8 t9 t10 t11 t12 t13 t14 t15:Tok}
  (ay1:DefIn K "is_number" rF)
  (ar6:DefIn K "check_steps" nF)
  (au1:DefIn K "check_deed" oY)
  (bb3:DefIn K "is_bytes" uA)
  (ay2:DefIn K "fits_kind" rG)
  (bh4:DefIn K "is_row" Ah)
  (au2:DefIn K "check_body" oZ)
  (ap6:DefIn K "segment_name" lY)
  (ay3:DefIn K "checks_of" rJ)
  (ay4:DefIn K "row_bytes" rB)
  (au3:DefIn K "segment_of" oR)
  (ar7:DefIn K "segments_on" nE)
  (be6:DefIn K "row_end" wU)
  (bb4:DefIn K "row_from" tW)
  (be7:DefIn K "rows_in" wT)
  (ah8:DefIn K "without_last_parts" wQ)
  (be8:DefIn K "is_word" xD)
  (au4:DefIn K "check_name" oV)
  (ay5:DefIn K "make_good" rD)
  (ap7:DefIn K "check_bodies" lZ)
  (au5:DefIn K "check_hand" oW)
  (be9:DefIn K "told_by" wR)
  (d_do:DefIn K "do" s_do)
  (ay6:DefIn K "_law_cell" F6)
  (bb5:DefIn K "_law_mix" JK)
  (ay7:DefIn K "_law_seed" Fw)
  (ay8:DefIn K "_law_pick" Fy)
  (an8:DefIn K "_law_settings" tV)
  (am7:DefIn K "check_settings" jV)
  (bf0:DefIn K "rows_of" wS)
  (bf1:DefIn K "book_of" xE)
  (au6:DefIn K "_law_queue" AZ)
  (au7:DefIn K "_law_begin" Ag)
  (au8:DefIn K "_law_ready" AY)
  (au9:DefIn K "_law_bytes" DO)
  (ay9:DefIn K "_law_deed" DL)
  (az0:DefIn K "_law_size" DK)
  (av0:DefIn K "_law_write" AX)
  (bb6:DefIn K "_law_put" F1)
  (av1:DefIn K "_law_given" Ac)
  (ak6:DefIn K "_law_front_goes" Ae)
  (av2:DefIn K "_law_other" Aa)
  (az1:DefIn K "_law_told" DI)
  (az2:DefIn K "_law_stay" DJ)
  (bj7:nsIn K mainGlobals "Disk" = some (some (.ref aa7))) (bd6:plainGet K aa7 Str.empty=true) (bd7:hasDictIn K aa7=true) (bd8:PySem.W.plainOver K aa7=true) (bd9:findIn K (.ref aa7) "__setattr__" = some (some (.builtin "object.__setattr__"))) (bi2:PySem.W.makesIn K aa7=true) (bi3:keepIn K (.ref aa7)=true)
  (av3:findIn K (.ref aa7) "files" = some none)
  (ak7:findIn K (.ref aa7) "steps_done" = some none)
  (ak0:findIn K (.ref aa7) "steps_ahead" = some none)
  (an9:MethIn K aa7 "__init__" "Disk.__init__" DN)
  (av4:MethIn K aa7 "names" "Disk.names" DH)
  (ak8:MethIn K aa7 "check_file" "Disk.check_file" oX)
  (az3:MethIn K aa7 "read" "Disk.read" Fx)
  (az4:MethIn K aa7 "size" "Disk.size" Fv)
  (ak9:MethIn K aa7 "count_step" "Disk.count_step" oU)
  (az5:MethIn K aa7 "make" "Disk.make" Fz)
  (az6:MethIn K aa7 "drop" "Disk.drop" F5)
  (bb7:MethIn K aa7 "cut" "Disk.cut" JL)
  (bb8:MethIn K aa7 "add" "Disk.add" JM)
  (bj8:nsIn K mainGlobals "Book" = some (some (.ref aa4))) (be0:plainGet K aa4 Str.empty=true) (be1:hasDictIn K aa4=true) (be2:PySem.W.plainOver K aa4=true) (be3:findIn K (.ref aa4) "__setattr__" = some (some (.builtin "object.__setattr__"))) (bi4:PySem.W.makesIn K aa4=true) (bi5:keepIn K (.ref aa4)=true)
  (ap8:findIn K (.ref aa4) "entries" = some none)
  (ah9:findIn K (.ref aa4) "upcoming" = some none)
  (av5:findIn K (.ref aa4) "parts" = some none)
  (am8:MethIn K aa4 "enter_put" "Book.enter_put" rH)
  (al0:MethIn K aa4 "enter_deal" "Book.enter_deal" oS)
  (ai2:MethIn K aa4 "change_entry" "Book.change_entry" Ai)
  (av6:MethIn K aa4 "enter" "Book.enter" DM)
  (ar8:MethIn K aa4 "letter" "Book.letter" Af)
  (ap9:MethIn K aa4 "letters" "Book.letters" xC)
  (al1:MethIn K aa4 "numbers_in" "Book.numbers_in" rK)
  (ao0:MethIn K aa4 "__init__" "Book.__init__" F3)
  (bi6:nsIn K mainGlobals "Queue" = some (some (.ref aa8))) (bh5:plainGet K aa8 Str.empty=true) (bh6:hasDictIn K aa8=true) (bh7:PySem.W.plainOver K aa8=true) (bh8:findIn K (.ref aa8) "__setattr__" = some (some (.builtin "object.__setattr__"))) (bh9:PySem.W.makesIn K aa8=true) (bi0:keepIn K (.ref aa8)=true)
  (av7:findIn K (.ref aa8) "disk" = some none)
  (av8:findIn K (.ref aa8) "most" = some none)
  (av9:findIn K (.ref aa8) "hold" = some none)
  (ar9:findIn K (.ref aa8) "tries" = some none)
  (aw0:findIn K (.ref aa8) "book" = some none)
  (as0:findIn K (.ref aa8) "first" = some none)
  (aw1:findIn K (.ref aa8) "last" = some none)
  (ao1:findIn K (.ref aa8) "writing" = some none)
  (ao2:findIn K (.ref aa8) "holders" = some none)
  (az7:findIn K (.ref aa8) "now" = some none)
  (ai0:MethIn K aa8 "is_last_full" "Queue.is_last_full" AS)
  (ag9:MethIn K aa8 "begin_segment" "Queue.begin_segment" xB)
  (as1:MethIn K aa8 "write" "Queue.write" wV)
  (az8:MethIn K aa8 "put" "Queue.put" DG)
  (ao3:MethIn K aa8 "put_all" "Queue.put_all" tY)
  (ai1:MethIn K aa8 "free_letters" "Queue.free_letters" AT)
  (as2:MethIn K aa8 "ready" "Queue.ready" wX)
  (aw2:MethIn K aa8 "take" "Queue.take" AO)
  (ak1:MethIn K aa8 "check_held" "Queue.check_held" w6)
  (aw3:MethIn K aa8 "done" "Queue.done" AU)
  (al2:MethIn K aa8 "give_back" "Queue.give_back" AW)
  (aw4:MethIn K aa8 "wait" "Queue.wait" AN)
  (aw5:MethIn K aa8 "dead" "Queue.dead" AV)
  (aq0:MethIn K aa8 "revive" "Queue.revive" tX)
  (ak2:MethIn K aa8 "drop_first" "Queue.drop_first" wY)
  (as3:MethIn K aa8 "sweep" "Queue.sweep" wW)
  (as4:MethIn K aa8 "carry" "Queue.carry" xA)
  (aw6:MethIn K aa8 "held" "Queue.held" AR)
  (as5:MethIn K aa8 "clock" "Queue.clock" wZ)
  (am9:MethIn K aa8 "__init__" "Queue.__init__" AQ)
  (ao4:MethIn K aa8 "letters" "Queue.letters" rC)
  (aq1:MethIn K aa8 "coming" "Queue.coming" tZ)
  (aL:nsIn K mainGlobals "law" = some (some (.ref fL))) (lL:K.lookup fL=some ⟨ocL,odL,.func (fnOf "law" "law" (gF rE) (fI rE) (c8 rE) .none kVL dcL pmL anL cdL ctL),slL⟩) (cL:codeIn K cdL "law" = true) (kL:keepIn K (.ref fL)=true)
  (ax8:nsIn K mainGlobals "len" = some none)
  (ae5:nsIn K mainGlobals "isinstance" = some none)
  (bg4:nsIn K mainGlobals "all" = some none)
  (bb9:nsIn K mainGlobals "sum" = some none)
  (al7:nsIn K mainGlobals "tuple" = some none)
  (bc0:nsIn K mainGlobals "int" = some none)
  (bc1:nsIn K mainGlobals "bool" = some none)
  (bc2:nsIn K mainGlobals "str" = some none)
  (aq2:nsIn K mainGlobals "range" = some none)
  (ag0:nsIn K mainGlobals "enumerate" = some none)
  (aw7:nsIn K mainGlobals "list" = some none)
  (bk1:nsIn K mainGlobals "max" = some none)
  (bk2:nsIn K mainGlobals "min" = some none)
  (ar3:nsIn K mainGlobals "sorted" = some none)
  (af7:nsIn K mainGlobals "HIGHEST_BYTE" = some (some (.int 255 t0)))
  (ae8:nsIn K mainGlobals "HIGHEST_NUMBER" = some (some (.int 999999 t1)))
  (aj2:nsIn K mainGlobals "LONGEST_BODY" = some (some (.int 60 t2)))
  (af2:nsIn K mainGlobals "HIGHEST_TIMES" = some (some (.int 9 t3)))
  (af8:nsIn K mainGlobals "LARGEST_DEAL" = some (some (.int 9 t4)))
  (as7:nsIn K mainGlobals "CHECKS_SIZE" = some (some (.int 2 t5)))
  (az9:nsIn K mainGlobals "HEAD_SIZE" = some (some (.int 7 t6)))
  (aq3:nsIn K mainGlobals "LARGEST_MOST" = some (some (.int 2000 t7)))
  (aq4:nsIn K mainGlobals "LONGEST_HOLD" = some (some (.int 99 t8)))
  (ao5:nsIn K mainGlobals "HIGHEST_TRIES" = some (some (.int 9 t9)))
  (aq5:nsIn K mainGlobals "LONGEST_HAND" = some (some (.int 6 t10)))
  (aq6:nsIn K mainGlobals "LONGEST_NAME" = some (some (.int 8 t11)))
  (aw8:nsIn K mainGlobals "MOST_STEPS" = some (some (.int 100000 t12)))
  (aq7:nsIn K mainGlobals "LONGEST_WAIT" = some (some (.int 99 t13)))
  (aw9:nsIn K mainGlobals "NAME_SIGNS" = some (some (.str cU t14)))
  (ax0:nsIn K mainGlobals "HAND_SIGNS" = some (some (.str "abcdefghijklmnopqrstuvwxyz" t15)))
  (aK:nsIn K mainGlobals "KINDS" = some (some (.ref ab0))) (qK:zO K ab0=true)
  (bf2:nsIn K mainGlobals "BadName" = some (some (.ref aa2))) (an3:dJ K aa2=true)
  (bf3:nsIn K mainGlobals "Missing" = some (some (.ref aa5))) (an4:dJ K aa5=true)
  (bi7:nsIn K mainGlobals "There" = some (some (.ref ab8))) (ax6:dJ K ab8=true)
  (ax1:nsIn K mainGlobals "Stopped" = some (some (.ref aa6))) (an5:dJ K aa6=true)
  (ar4:nsIn K mainGlobals "Broken" = some (some (.ref aa3))) (af3:dJ K aa3=true)
  (ar5:nsIn K mainGlobals "BadRow" = some (some (.ref aa1))) (ag3:dJ K aa1=true)
  (as8:nsIn K mainGlobals "BadSettings" = some (some (.ref ak3))) (ag1:dJ K ak3=true)
  (bf4:nsIn K mainGlobals "BadBody" = some (some (.ref aj5))) (aj7:dJ K aj5=true)
  (bf5:nsIn K mainGlobals "BadHand" = some (some (.ref as9))) (an6:dJ K as9=true)
  (ap1:nsIn K mainGlobals "BadNumber" = some (some (.ref aa9))) (ae9:dJ K aa9=true)
  (bf6:nsIn K mainGlobals "NotHeld" = some (some (.ref aj6))) (aj8:dJ K aj6=true)
  (bf7:nsIn K mainGlobals "BadDeed" = some (some (.ref ae0))) (an0:dJ K ae0=true)
  (ax2:nsIn K mainGlobals "QueueError" = some (some (.ref ab5))) (bi1:dJ K ab5=true)
  (hex0:PySem.W.exmOne K (.ref aj6) (.ref aa6)=some false)
  (hex1:PySem.W.exmOne K (.ref aj6) (.ref ab5)=some true)
  (hex2:PySem.W.exmOne K (.ref aa9) (.ref aa6)=some false)
  (hex3:PySem.W.exmOne K (.ref aa9) (.ref ab5)=some true)
  (hex4:PySem.W.exmOne K (.ref aj5) (.ref aa6)=some false)
  (hex5:PySem.W.exmOne K (.ref aj5) (.ref ab5)=some true)
  {a_S:Addr} {esS:Array DictEntry} {epS:Nat}
  (aS:nsIn K mainGlobals "SIZES_OF_DEEDS" = some (some (.ref a_S)))
  (lS:K.lookup a_S=some ⟨.type "dict",none,.dict esS epS,#[]⟩)
  (sS:(a_S == sysModules)=false)
  (hS:esS.toList.map (·.hash)=y8.map fun p=>PyData.keyHash w.params p.1)
  (eS:pO y8 esS.toList=true)
  : ∃ fd:Lh,(∀ (s:Shared) (v:Value),BindsTo s fd ⟨[v],[]⟩ [("_law_script",v)])/\∀ base:Heap,K.In base->base.Ns mainGlobals mg->FnOk l.prog w K mg base (CXE l.prog w) 11 fa fd ["_law_script"] (tI K):=by
 have e:=hfa.symm.trans (mg_of X G aL)
 cases e
 obtain⟨kk1,kk2⟩:=Cj qK
 have TK:TxtK K mg ab0 aa1 aa3 aa4:=⟨⟨mg_none_of X G ax8,mg_none_of X G ae5,mg_none_of X G bg4,mg_none_of X G bb9,mg_none_of X G al7,mg_none_of X G bc0,mg_none_of X G bc1,mg_none_of X G bc2,mg_none_of X G aq2,mg_none_of X G ag0,⟨_,mg_of X G af7⟩,⟨_,mg_of X G ae8⟩,⟨_,mg_of X G aj2⟩,⟨_,mg_of X G af2⟩,⟨_,mg_of X G af8⟩,mg_of X G aK,kk1,kk2,ag3,mg_of X G ar5⟩,mg_none_of X G aw7,mg_none_of X G bk1,mg_none_of X G ar3,af3,mg_of X G ar4,⟨be0,be1,be2,be3⟩,ap8,ah9,av5⟩
 have TB:TxtB K mg ab0 aa1 aa3:=⟨⟨mg_none_of X G ax8,mg_none_of X G ae5,mg_none_of X G bg4,mg_none_of X G bb9,mg_none_of X G al7,mg_none_of X G bc0,mg_none_of X G bc1,mg_none_of X G bc2,mg_none_of X G aq2,mg_none_of X G ag0,⟨_,mg_of X G af7⟩,⟨_,mg_of X G ae8⟩,⟨_,mg_of X G aj2⟩,⟨_,mg_of X G af2⟩,⟨_,mg_of X G af8⟩,mg_of X G aK,kk1,kk2,ag3,mg_of X G ar5⟩,mg_none_of X G aw7,⟨_,mg_of X G as7⟩,⟨_,mg_of X G az9⟩,af3,mg_of X G ar4⟩
 have TD:TxtD K mg aa2 aa5 ab8 aa6 aa1 aa9 aa7:=⟨⟨mg_none_of X G ax8,mg_none_of X G ae5,mg_none_of X G bg4,mg_none_of X G bb9,mg_none_of X G al7,mg_none_of X G bc0,mg_none_of X G bc1,mg_none_of X G bc2,mg_none_of X G aq2,mg_none_of X G ag0,mg_none_of X G aw7,mg_none_of X G ar3,⟨_,mg_of X G af7⟩⟩,⟨_,mg_of X G aw9⟩,⟨_,mg_of X G aq6⟩,⟨_,mg_of X G aw8⟩,an3,mg_of X G bf2,an4,mg_of X G bf3,ax6,mg_of X G bi7,an5,mg_of X G ax1,ag3,mg_of X G ar5,ae9,mg_of X G ap1,⟨bd6,bd7,bd8,bd9⟩,av3,ak7,ak0⟩
 have TQ:TxtQ K mg ‹20›:=⟨mg_none_of X G ax8,mg_none_of X G bc0,mg_none_of X G ar3,mg_none_of X G bb9,af3,mg_of X G ar4,⟨be0,be1,be2,be3⟩,⟨bd6,bd7,bd8,bd9⟩,⟨bh5,bh6,bh7,bh8⟩,mg_none_of X G bk2,⟨_,mg_of X G aq3⟩,⟨_,mg_of X G aq4⟩,⟨_,mg_of X G ao5⟩,⟨_,mg_of X G ax0⟩,⟨_,mg_of X G aq5⟩,⟨_,mg_of X G ae8⟩,⟨_,mg_of X G af2⟩,ag1,mg_of X G as8,aj7,mg_of X G bf4,an6,mg_of X G bf5,aj8,mg_of X G bf6,ah9,av7,av8,av9,ar9,aw0,as0,aw1,ao1,ao2,az7,mg_none_of X G ae5,mg_none_of X G al7,mg_none_of X G ag0,mg_none_of X G aq2,mg_none_of X G aw7,⟨_,mg_of X G af8⟩,ae9,mg_of X G ap1⟩
 have TS:TxtS l.prog w K mg ‹20› a_S ae0 ab5:=⟨mg_none_of X G ax8,mg_none_of X G ae5,mg_none_of X G al7,mg_none_of X G bc2,an0,mg_of X G bf7,mg_of X G ax1,List.forall_mem_cons.mpr ⟨⟨hex0,hex1⟩,List.forall_mem_cons.mpr ⟨⟨hex2,hex3⟩,List.forall_mem_cons.mpr ⟨⟨hex4,hex5⟩,fun _ h=>nomatch h⟩⟩⟩,mg_of X G ax2,mg_of X G aS,gd_of (ps:=y8) sS lS hS eS (by decide)⟩
 refine⟨fnOf "law" "law" (gF rE) (fI rE) (c8 rE) .none kVL dcL pmL anL cdL ctL,fun s v=>.of_eq rfl,fun base _ _=>?_⟩
 have V:Ev l.prog w K mg base h:=⟨X,G⟩
 have ab1:=V.c ay1 fun F=>zJ F TK.toTxtR
 have ak4:=V.c ar6 fun F=>uO F TD ab1
 have bb2:=V.mk2 an9 bi2 bi3 bj7 fun F=>Gg F TD ak4
 have am3:=V.c au1 fun F=>vU F TS
 have ac9:=V.c bb3 fun F=>A7 F TK.toTxtR ab1
 have ao6:=V.c ay2 fun F=>zK F TK.toTxtR
 have ae6:=V.c bh4 fun F=>El F TK.toTxtR ab1 ac9 ao6
 have ae3:=V.c au2 fun F=>vV F TQ ae6
 have ab2:=V.c ap6 fun F=>rX F 
 have af0:=V.c ay3 fun F=>zM F TK.toTxtR
 have ac0:=V.c ay4 fun F=>zH F TK.toTxtR ae6 af0
 have am1:=V.c au3 fun F=>uN F 
 have ba2:=V.m av4 fun F=>Ec F TD
 have ad7:=V.c ar7 fun F=>rW F TQ am1 ba2
 have an2:=V.c be6 fun F=>CN F TB
 have aq8:=V.c bb4 fun F=>A2 F TB ae6 af0
 have at6:=V.c be7 fun F=>CM F TB ac9 an2 aq8
 have ae7:=V.c ah8 fun F=>Az F TQ
 have ag8:=V.c be8 fun F=>Cc F TD.toTxtN
 have ae2:=V.c au4 fun F=>vR F TD ag8
 have ag2:=V.m ak8 fun F=>vT F TD ae2
 have bd1:=V.m az3 fun F=>IV F TD ag2
 have al4:=V.m az4 fun F=>IT F TD ag2
 have ak5:=V.m ak9 fun F=>vQ F TD
 have al5:=V.m az5 fun F=>IX F TD ae2 ak5
 have al6:=V.m az6 fun F=>Ia F TD ag2 ak5
 have bh1:=V.m bb7 fun F=>Ib F 
 have ah3:=V.m bb8 fun F=>KP F TD ac9 ag2 ak5
 have af1:=V.c ay5 fun F=>Ge F TQ ab2 ad7 at6 ae7 ac0 bd1 al4 al5 al6 bh1 ah3
 have ax3:=V.m am8 fun F=>zL F TK
 have bg3:=V.m al0 fun F=>vP F TK ax3
 have bc3:=V.m ai2 fun F=>Em F TK
 have ai7:=V.m av6 fun F=>Gf F TK ax3 bg3 bc3
 have ah4:=V.m ai0 fun F=>EZ F TQ ab2 al4
 have ag5:=V.m ag9 fun F=>CZ F TQ ab2 ac0 al5 ah3
 have ab6:=V.m as1 fun F=>CO F TQ ab2 ac0 af1 ah3 ai7 ah4 ag5
 have bh3:=V.m az8 fun F=>GZ F TQ ae3 ab6
 have ai8:=V.c ap7 fun F=>rY F TQ ae3
 have aq9:=V.m ao3 fun F=>A4 F TQ ai8 ab6
 have ae4:=V.c au5 fun F=>vS F TQ ag8
 have ad0:=V.m ar8 fun F=>Ej F TK
 have af6:=V.m ap9 fun F=>Cb F TK ad0
 have ac7:=V.m ai1 fun F=>Ea F TQ af6
 have ag6:=V.m as2 fun F=>CQ F TQ ac7
 have bd2:=V.m aw2 fun F=>EY F TQ ae4 ad0 ag6 ab6
 have ad8:=V.m ak1 fun F=>A6 F TQ ab1 ae4
 have bd3:=V.m aw3 fun F=>CV F TQ ad8 ab6
 have am2:=V.m al2 fun F=>Ca F TQ ad8
 have bd4:=V.m aw4 fun F=>EX F TQ ab1 ad0 (hw:=⟨_,mg_of X G aq7⟩)
 have ai9:=V.m aw5 fun F=>Eb F TQ ac7
 have at8:=V.m aq0 fun F=>A3 F TQ ab1 ai9 ab6
 have ad5:=V.m al1 fun F=>zN F TK
 have ad6:=V.m ak2 fun F=>CU F TQ ab2 al6
 have aj0:=V.m as3 fun F=>CP F TQ ad5 ad6
 have aj1:=V.m as4 fun F=>CY F TQ ad5 ad0 ad6 ab6
 have at9:=V.c be9 fun F=>CL F TQ bh3 aq9 bd2 bd3 am2 bd4 at8 aj0 aj1
 have c_do:=V.c d_do fun F=>ok_do F TQ TS am3 at9
 have ax7:=V.m aw6 fun F=>CT F TQ
 have ar1:=V.m as5 fun F=>CW F TQ
 have aj3:=V.c ay6 fun F=>Ic F TQ
 have ar2:=V.c bb5 fun F=>KN F 
 have ab4:=V.c ay7 fun F=>IU F 
 have ac5:=V.c ay8 fun F=>IW F 
 have ah6:=V.c an8 fun F=>A0 F TQ ab4
 have ag7:=V.c am7 fun F=>o9 F TQ ab1
 have at5:=V.c bf0 fun F=>A1 F 
 have bh0:=V.mk2 ao0 bi4 bi5 bj8 fun F=>IZ F TK
 have at7:=V.c bf1 fun F=>Gi F TQ ad7 at5 bh0 ai7
 have bd5:=V.mk2 am9 bh9 bi0 bi6 fun F=>CS F TQ ag7 at7 af1
 have ah7:=V.c au6 fun F=>Ef (A:=‹20›) F bd5
 have am6:=V.c au7 fun F=>Ek F 
 have ac2:=V.c au8 fun F=>Ee F TQ
 have ah5:=V.c au9 fun F=>Gh F TQ ab4 ac5
 have ao9:=V.c ay9 fun F=>Gd F TQ ac5 ac2 ah5 ab4
 have ao8:=V.c az0 fun F=>Gc F TQ
 have ab3:=V.c av0 fun F=>Ed F TQ ao8
 have al3:=V.c bb6 fun F=>IY F TQ ab3
 have am4:=V.c av1 fun F=>Eh F TQ ab3
 have ae1:=V.c ak6 fun F=>Ei F 
 have am5:=V.c av2 fun F=>Eg F TQ ab3 ac2 ae1
 have ap0:=V.c az1 fun F=>Ga F TQ al3 ab3 ac2 am4 am5
 have ar0:=V.m ao4 fun F=>zI F TQ af6
 have au0:=V.m aq1 fun F=>A5 F TQ
 have aj4:=V.c az2 fun F=>Gb F TQ ar0 au0
 exact KO (Cn (st:=rE) lL cL kL) TQ bb2 c_do ag6 ai9 ax7 ar1 aj1 aj0 aj3 ar2 ab4 ac5 ah6 ah7 am6 ao9 ap0 aj4
def walk {l:PySem.W.OpenLaw} {q:Program} {loose:Ld} {XP:(K8)->Heap->Prop} {YP:World->Heap->Prop} {d:DefRec} {K:Params->K6} (hn:l.most=some 63) (hdf:d.params.defaults=[])
  (hY:∀ (w:World) (h:Heap),YP w h->(K w.params).In h)
  (F:∀ (w:World) (mg:K8) (fa:Addr) (h:Heap),(K w.params).In h->h.Ns mainGlobals mg->mg d.name=some (.ref fa)->
   ∃ fd:Lh,(∀ (s:Shared) (u:Value),BindsTo s fd ⟨[u],[]⟩ [("_law_script",u)])/\∀ base:Heap,(K w.params).In base->base.Ns mainGlobals mg->FnOk l.prog w (K w.params) mg base (CXE l.prog w) 11 fa fd ["_law_script"] (tI (K w.params))) :
  PySem.W.WalkO q loose XP YP l.row.toRowW d [] (fun f vs=>PySem.call f vs):=
 L2.Hh (n:=63) (k:=11) (x:="_law_script") (CX:=fun w=>CXE l.prog w) (sp:=fun w=>tI (K w.params)) hn (by decide) hdf ⟨rfl,by decide,by decide⟩ hY F (fun _ _ a ns hl _ hS=>⟨a,ns,rfl,hS,fun _=>rfl⟩) fun _ _ _ _ _ ⟨_,_,_,_,_,z⟩=>z
end Qh
end
structure PySem.W.Fast:Prop where
 (tw14311781624990845402 tw3517965344394646945 tw5029065036915557659 tw10821132170051114915 tw18253514248402474473 tw1262854975532099051 tw15389817018124971173 tw18192840432764737066 tw9675290779260490105 tw13878916918101065310 tw2259851947491712005 tw12522175258442658713 tw17769839159125699631 tw12843546876929704538 tw3110529834606674851 tw14202646645815749505 tw14061525459784981019 tw15465483370468668776 tw1881010527996435958 tw9079332054888126848 tw5620915105709028227 tw13683497618326715875 tw16769455966614859901 tw10070188270772385836 tw4073829464319161581 tw1311900248559098120 tw6085595562360649500 tw17494052183165300071 tw11055308568513427463 tw12221063586074083550 tw6359030649910370106 tw3382217352330736184 tw737470176628539287 tw14725671494834793563 tw7887977824062461187 tw17353695908231081312 tw10732073584066958348 tw8931594026890503515 tw12772259271723515926 tw109050836240036449 tw14298444733304785861 tw17769859950350944450 tw7719083206015230465 tw8411591956211504777 tw882293276991291537 tw3921483963036013173 tw6241211784100650398 tw7797611076934689343 tw2217485678676773553 tw13311813164140078189 tw14524807871676785645 tw7301045944537042255 tw436599985498084709 tw10664705552738016190 tw2968965901776746396 tw4394935917527004515 tw12274058099545926034 tw8950680347225301178 tw9484012741313931006 tw3480175132894812227 tw3452865074625914998 tw9215120830898028345 tw12314553068715439617 tw16975546005456135678 tw8633388817748131098 tw11766529708939283598 tw10194099289000641810 tw1172476284322450200 tw17286025373433192798 tw9922929609438790973 tw11910732430663482665 tw15033067139754040343 tw4129530918515082307 tw3907609452645230307 tw7698952455581252969 tw12856222166291448856 tw7269575430702777143 tw5270487717906090073 tw6196208699980497982 tw10282394344597829821 tw3921218296841013897 tw7403916276790797791 tw6621214028293537272 tw14960250752729468415 tw17371383193239612986 tw11199957837185525891 tw17641144703831924637 tw9066428913526138894 tw12703918615404699400 tw4039927105110562797 tw10773907136517059711 tw6717372168921836821 tw9184460162044889042 tw17173960386183793538 tw4084385152538647207 tw1618727108587797731 tw16867973345296100176 tw14820372240610384392 tw18123254265636784589 tw15672181367049686697 tw12015668658073689082 tw14571724167822413546 tw4815397208525389117 tw13807018373347237650 tw2749564571286361454 tw847469745186224206 tw13918097029632746508 tw9710431584503671640 tw9480644642433890827 tw10738254375223746423 tw7701336017850851850 tw9863805176689528963 tw7089070284032975180 tw3962354069904900689 tw17469986160221652598 tw8047809024277364052 tw16350074112658072785 tw15707927357748149820 tw11987321007226234657 tw16311131014072469065 tw11198008838111440915 tw7368619104776334531 tw16418356625569607144 tw12614566194694256087 tw11940103980459462752 tw1592988106498574444 tw18185122329240566726 tw13827831627400375809 tw15816381587080301696 tw198796645002282813 tw5970795130761078970 tw7592074614685164494 tw13575992617397507561 tw12954192335145154511 tw3784979403611845173 tw15588382285254745379 tw525169938272375148 tw874435329315537335 tw11358215983757962912 tw242661671299410320 tw6422490711545672427 tw16636139818819588991 tw13893158644417996794 tw5552729716371460378 tw15411849347233436289 tw10972476525581029255 tw2210668093853112028 tw2749245782761061350 tw17537318500582635785 tw15623181862987951663 tw18300657830268359899 tw8730084048093011662 tw14339318867669960951 tw5749850792152439130 tw12985814035863905570 tw14912056630950372184 tw4868953987584540626 tw2807091448921729415 tw11737750724773846032 tw4368847020233229306 tw10114909674560458569 tw12341771951595196239 tw12178855645147384390 tw16180806641479192269 tw12641545147327598896 tw3312777534713166720 tw1061593708657741297 tw11101353021113126020 tw13734190750492505201 tw14987559865601637556 tw12048065693856920576 tw13768633656326672994 tw16112112031743090048 tw3599695306498434429 tw15501774269692609146 tw5195795691714213532 tw16442421566955060198 tw12047334104293376784 tw3665551521204033606 tw5564593018244488833 tw711293664989542140 tw1976018762215676796 tw1615265002504121121 tw13333311677414601248 tw17405734298520204020 tw17804133826987930205 tw8049330991632772855 tw15416564314363011696 tw13925338714401039166 tw14311207044435168520 tw6582503574245786614 tw4439044717578443325 tw7392086248989061168 tw211391704714975146 tw6824501667335581825 tw12946813140227655730 tw4687871678701555856 tw4897597549766871775 tw17866454966685931184 tw8051881013629170782 tw8452625701108082331 tw8055394185953035509 tw18292066941732387987 tw2762238027704836496 tw2081995924345080997 tw5202673088973187869 tw15553214488882208362 tw9414684188622670336 tw12907600822092422623 tw12685498433920703578 tw11899352413272627647 tw15946320979968010618 tw8860059088031981710 tw15305220210290166150 tw12598594489336553190 tw12521116949407906541 tw12088906080398971968 tw16276112089791033733 tw5305593070949228591 tw2447272089788826340 tw8986389471626946859 tw1113359516282923555 tw9873391423208011617 tw6564079079513462300 tw18229438716992204283 tw4919095395571999512 tw771647352102177284 tw8509036672586703151 tw15103923864465399574 tw13516483639706968525 tw304324244565003177 tw8445260290522215165 tw11779384177208500487 tw15472334869932666641 tw4402073723197969385 tw9243437505343448836 tw8183732216182680060 tw4337084249765766810 tw4088179615714427712 tw1227544577444555694 tw5441185159686266232 tw13004464833927841372 tw14723126291248648837 tw6598003178564676078 tw13043861614913769126 tw18038308660246959603 tw6342199349277727208 tw2090422554717957964 tw8904383279641385998 tw18226905396223671823 tw14919997327940150388 tw11611416943317358112 tw14035726792015519886 tw10488355607119515933 tw12172105815666332523 tw472658160262641523 tw11525335796822394739 tw10924524447904504264 tw14681049040860030987 tw13765278624697355109 tw17122546123883740918 tw10929310467369777452 tw9135907972088023025 tw16487005199127368126 tw18176846324481456636 tw16679728778235690891 tw11625523992895804902 tw1181276379176263920 tw13970589963165035695 tw7210791548140315317 tw1927201841759321064 tw4214737238827440906 tw13049443407295028378 tw15705617210421450707 tw17698222055039350867 tw5723099056253304172 tw11862856544148197138 tw15794815185296957742 tw14063520696828454668 tw8129696031100507276 tw2695006683327520449 tw4384635432059615157 tw12603654210377834785 tw15158840065696675193 tw16821288486373771420 tw8486925560369512764 tw1621440719600125809 tw8276983396698686873 tw4706119006768524310 tw8161155457032043901 tw3920049354709166025 tw15071894120640982839 tw4992161240735594653 tw2034213052918547048 tw10399893958151203447 tw15877810175235825151 tw16521695475273553547 tw1681777329862217196 tw17668358008473619822 tw2069572307468425649 tw16656000395583730612 tw1546860050340943534 tw840416509909370048 tw4325308841684532022 tw12518386814851156377 tw7796186948579643276 tw16266965872868698089 tw7755497399799833158 tw17424279136346844973 tw11792136803740973468 tw15002336758715642633 tw5981153370375870643:True)
open PySem PySem.W PyProof.Rows
set_option maxRecDepth 100000 in
set_option maxHeartbeats 0 in
theorem PySem.Challenge.cw_queuehold_k38_whole_sizes_play_no_part_holds : PySem.Challenge.rw_queuehold_k38_whole_sizes_play_no_part.Holds := by
 w_on; o_law; k_head; (case hw=>w_witness2)
 k_fill
 refine Qh.walk (l:=PySem.Challenge.rw_queuehold_k38_whole_sizes_play_no_part) rfl rfl (fun w h Y=>PySem.W.kIn_of Y) ?F
 case F=>
  intro w mg fa h KX G hmg
  refine' Qh.Ka KX G hmg ?ay1 ?ar6 ?au1 ?bb3 ?ay2 ?bh4 ?au2 ?ap6 ?ay3 ?ay4 ?au3 ?ar7 ?be6 ?bb4 ?be7 ?ah8 ?be8 ?au4 ?ay5 ?ap7 ?au5 ?be9 ?A0 ?ay6 ?bb5 ?ay7 ?ay8 ?an8 ?am7 ?bf0 ?bf1 ?au6 ?au7 ?au8 ?au9 ?ay9 ?az0 ?av0 ?bb6 ?av1 ?ak6 ?av2 ?az1 ?az2 ?bj7 ?bd6 ?bd7 ?bd8 ?bd9 ?bi2 ?bi3 ?av3 ?ak7 ?ak0 ?an9 ?av4 ?ak8 ?az3 ?az4 ?ak9 ?az5 ?az6 ?bb7 ?bb8 ?bj8 ?be0 ?be1 ?be2 ?be3 ?bi4 ?bi5 ?ap8 ?ah9 ?av5 ?am8 ?al0 ?ai2 ?av6 ?ar8 ?ap9 ?al1 ?ao0 ?bi6 ?bh5 ?bh6 ?bh7 ?bh8 ?bh9 ?bi0 ?av7 ?av8 ?av9 ?ar9 ?aw0 ?as0 ?aw1 ?ao1 ?ao2 ?az7 ?ai0 ?ag9 ?as1 ?az8 ?ao3 ?ai1 ?as2 ?aw2 ?ak1 ?aw3 ?al2 ?aw4 ?aw5 ?aq0 ?ak2 ?as3 ?as4 ?aw6 ?as5 ?am9 ?ao4 ?aq1 ?aL ?lL ?cL ?kL ?ax8 ?ae5 ?bg4 ?bb9 ?al7 ?bc0 ?bc1 ?bc2 ?aq2 ?ag0 ?aw7 ?bk1 ?bk2 ?ar3 ?af7 ?ae8 ?aj2 ?af2 ?af8 ?as7 ?az9 ?aq3 ?aq4 ?ao5 ?aq5 ?aq6 ?aw8 ?aq7 ?aw9 ?ax0 ?aK ?qK ?bf2 ?an3 ?bf3 ?an4 ?bi7 ?ax6 ?ax1 ?an5 ?ar4 ?af3 ?ar5 ?ag3 ?as8 ?ag1 ?bf4 ?aj7 ?bf5 ?an6 ?ap1 ?ae9 ?bf6 ?aj8 ?bf7 ?an0 ?ax2 ?bi1 ?A1 ?A2 ?A3 ?A4 ?A5 ?A6 ?aS ?lS ?sS ?hS ?eS
  case ay1|ar6|au1|bb3|ay2|bh4|au2|ap6|ay3|ay4|au3|ar7|be6|bb4|be7|ah8|be8|au4|ay5|ap7|au5|be9|A0|ay6|bb5|ay7|ay8|an8|am7|bf0|bf1|au6|au7|au8|au9|ay9|az0|av0|bb6|av1|ak6|av2|az1|az2=>refine' Qh.a8 ?a ?l ?c ?k; case a|l|c|k=>k_is
  case bj7|bd6|bd7|bd8|bd9|bi2|bi3|av3|ak7|ak0=>k_is
  case an9|av4|ak8|az3|az4|ak9|az5|az6|bb7|bb8=>refine' Qh.aY ?a ?i ?l ?c ?k; case a|i|l|c|k=>k_is
  case bj8|be0|be1|be2|be3|bi4|bi5|ap8|ah9|av5=>k_is
  case am8|al0|ai2|av6|ar8|ap9|al1|ao0=>refine' Qh.aY ?a ?i ?l ?c ?k; case a|i|l|c|k=>k_is
  case bi6|bh5|bh6|bh7|bh8|bh9|bi0|av7|av8|av9|ar9|aw0|as0|aw1|ao1|ao2|az7=>k_is
  case ai0|ag9|as1|az8|ao3|ai1|as2|aw2|ak1|aw3|al2|aw4|aw5|aq0|ak2|as3|as4|aw6|as5|am9|ao4|aq1=>refine' Qh.aY ?a ?i ?l ?c ?k; case a|i|l|c|k=>k_is
  case aL|lL|cL|kL|ax8|ae5|bg4|bb9|al7|bc0|bc1|bc2|aq2|ag0|aw7|bk1|bk2|ar3|af7|ae8|aj2|af2|af8|as7|az9|aq3|aq4|ao5|aq5|aq6|aw8|aq7|aw9|ax0|aK=>k_is
  (case qK=>exact rfl)
  case bf2=>k_is
  (case an3=>exact rfl)
  case bf3=>k_is
  (case an4=>exact rfl)
  case bi7=>k_is
  (case ax6=>exact rfl)
  case ax1=>k_is
  (case an5=>exact rfl)
  case ar4=>k_is
  (case af3=>exact rfl)
  case ar5=>k_is
  (case ag3=>exact rfl)
  case as8=>k_is
  (case ag1=>exact rfl)
  case bf4=>k_is
  (case aj7=>exact rfl)
  case bf5=>k_is
  (case an6=>exact rfl)
  case ap1=>k_is
  (case ae9=>exact rfl)
  case bf6=>k_is
  (case aj8=>exact rfl)
  case bf7=>k_is
  (case an0=>exact rfl)
  case ax2=>k_is
  (case bi1=>exact rfl)
  (case A1=>kts_exm)
  (case A2=>kts_exm)
  (case A3=>kts_exm)
  (case A4=>kts_exm)
  (case A5=>kts_exm)
  (case A6=>kts_exm)
  case aS|lS=>k_is
  (case sS=>exact rfl)
  (case hS=>exact rfl)
  (case eS=>exact rfl)
end

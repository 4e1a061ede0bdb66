import PyProof.Rows.All
import Wide.All
import OpenK.AllK
import Wide.FinOn
import Lean
import PyProof.EqAt
import PyProof.EqKinds
import PyProof.TupleCall
import PySem.Challenge.RW_queuehold_k39_whole_hands_and_times
open List (length_map map_cons getElem?_map mem_map mem_cons length_cons getElem?_eq_getElem mem_singleton length_append getD_eq_getElem?_getD mem_cons_of_mem mem_filter mem_cons_self mem_append map_append map_map find?_cons size_toArray mem_append_right map_nil mem_of_getElem? all_eq_true length_filter_le length_range mem_map_of_mem map_congr_left append_nil nodup_cons filter_cons find?_eq_none take_length length_drop take_succ getElem?_eq_none ext_getElem? any_eq_true mem_range any_cons nodup_append length_take mem_append_left getElem?_append_right all_cons all_map getElem?_range filter_sublist append_assoc filter_map filterMap_cons getElem?_append_left range_succ_eq_map length_eq_zero_iff nodup_nil not_mem_nil length_eq_one_iff)
open Nat (le_refl le_trans ne_of_lt zero_le lt_of_lt_of_le lt_trans le_of_ble_eq_true le_succ lt_succ_of_lt le_of_lt lt_of_le_of_lt min_eq_left lt_irrefl ne_of_gt lt_succ_self le_succ_of_le)
open PySem.W (nsIn mg_of mg_none_of findIn keepIn fnOf kia_one emptyDict instObj codeIn plainGet hideAll hasDictIn hideAll_get callWith_K of_hideAll plainGet_of callWith_K0 kitx_list kitx_dict methodCall_KW ked_eqvAll)
open Bool (and_eq_true)
open PySem.Heap (lt_size get?_push_of_some get?_push_size size_push get?_push_ne size_update)
open Int (emod_nonneg emod_lt_of_pos)
open Array (length_toList getElem?_toList perm_iff_toList_perm)
open Option (map_eq_none_iff)
set_option maxHeartbeats 4000000
noncomputable section
abbrev Ma:=List (Int × (PySem.Str × Int))
abbrev Ly:=PySem.Value->PySem.Shared->Prop
abbrev Lx:=PySem.FuncData
abbrev Lw:=List PySem.PyData
abbrev Lv:=List PySem.Value
abbrev Lu:=List PySem.Str
abbrev Ls:=List Int
abbrev Lr:=Array (Option PySem.Value)
abbrev Lq:=List (Ls)
abbrev Lp:=PySem.Str->Option PySem.Value
abbrev Lo:=List (PySem.Addr × PySem.Obj)
abbrev Ln:=PySem.W.Frag
set_option Elab.async false
set_option linter.all false
set_option maxRecDepth 100000
namespace L2
open PySem PySem.Spec PyProof.Rows
abbrev Key:=Sum Int Str
def rT:Key->Value->Bool
 | .inl k,v=>Value.isInt k v
 | .inr x,v=>Value.isStrOf x v
def LM(w:World):Key->Int
 | .inl k=>hashInt k
 | .inr x=>hashStr w x
def dN:∀{k:Key}{v:Value},rT k v=true->(∃i t,k=Sum.inl i/\v=Value.int i t)\/(∃x t,k=Sum.inr x/\v=Value.str x t)
 | .inl i,v,h=>by
  obtain⟨t,e⟩:=Value.isInt_shape (k:=i) (v:=v) h;exact .inl ⟨i,t,rfl,e⟩
 | .inr x,v,h=>by
  obtain⟨t,e⟩:=Value.isStrOf_shape (x:=x) (v:=v) h;exact .inr ⟨x,t,rfl,e⟩
def FK(i:Int)(t:Tok):rT (.inl i) (.int i t)=true:=by simp [rT,Value.isInt]
def qS(x:Str)(t:Tok):rT (.inr x) (.str x t)=true:=by simp [rT,Value.isStrOf]
def LL(a b:Int):decide ((Sum.inl a:Key)=Sum.inl b)=(a == b):=by
 by_cases e:a=b
 ·subst e; simp
 ·have h:¬ (Sum.inl a:Key)=Sum.inl b:=λq=>e (Sum.inl.inj q);rw[decide_eq_false h];exact(beq_eq_false_iff_ne.mpr e).symm
def LI(a b:Str):decide ((Sum.inr a:Key)=Sum.inr b)=decide (a=b):=by
 by_cases e:a=b
 ·subst e; simp
 ·have h:¬ (Sum.inr a:Key)=Sum.inr b:=λq=>e (Sum.inr.inj q);rw[decide_eq_false h,decide_eq_false e]
def LK(a:Int)(b:Str):decide ((Sum.inl a:Key)=Sum.inr b)=false:=decide_eq_false (λq=>nomatch q)
def LJ(a:Str)(b:Int):decide ((Sum.inr a:Key)=Sum.inl b)=false:=decide_eq_false (λq=>nomatch q)
def cH(prog:Program)(w:World):PySem.KeyKind prog w Key where
 is:=rT
 hash:=LM w
 inj:=λv a b ha hb=>by
  rcases dN ha with ⟨i,t,rfl,rfl⟩ | ⟨x,t,rfl,rfl⟩
  ·rcases dN hb with ⟨j,u,rfl,e⟩ | ⟨y,u,rfl,e⟩
   ·injection e with e1 _; rw[e1]
   ·exact nomatch e
  ·rcases dN hb with ⟨j,u,rfl,e⟩ | ⟨y,u,rfl,e⟩
   ·exact nomatch e
   ·injection e with e1 _; rw[e1]
 byValue:=λk v h=>by
  rcases dN h with ⟨i,t,rfl,rfl⟩ | ⟨x,t,rfl,rfl⟩ <;> rfl
 pyHash:=λhv h=>by
  rcases dN hv with ⟨i,t,rfl,rfl⟩ | ⟨x,t,rfl,rfl⟩
  ·exact wpAny_pyHash_int h
  ·exact wpAny_pyHash_str h
 eqBool:=λhu hv h=>by
  rcases dN hu with ⟨i,t,rfl,rfl⟩ | ⟨x,t,rfl,rfl⟩
  ·rcases dN hv with ⟨j,u,rfl,rfl⟩ | ⟨y,u,rfl,rfl⟩
   ·rw[LL]at h; exact wpAny_eqBool_int h
   ·rw[LK]at h; exact SeqAt.EqAt.int_str i t y u _ _ _ _ h
  ·rcases dN hv with ⟨j,u,rfl,rfl⟩ | ⟨y,u,rfl,rfl⟩
   ·rw[LJ]at h; exact SeqAt.EqAt.str_int x t j u _ _ _ _ h
   ·rw[LI]at h; exact wpAny_eqBool_str h
 «strs»:=λk x t v h=>by
  rcases dN h with ⟨i,u,rfl,e⟩ | ⟨y,u,rfl,e⟩
  ·exact nomatch e
  ·injection e with e1 _
   subst e1;cases v <;> rfl
def BS(prog:Program)(w:World)(i:Int)(t:Tok):(cH prog w).is (.inl i) (.int i t)=true:=FK i t
def BR(prog:Program)(w:World)(x:Str)(t:Tok):(cH prog w).is (.inr x) (.str x t)=true:=qS x t
inductive V where
 | non | bl (b:Bool) | int (i:Int) | str (x:Str) | byt (b:Array UInt8) | flt (b:UInt64) | ref (a:Addr) | ty (n:String)
 deriving DecidableEq
abbrev L6:=List V
abbrev L3:=List (Str × V)
abbrev Lz:=List (Key × V)
def bY:V->Value->Prop
 | .non,u=>u=Value.none
 | .bl b,u=>u=Value.bool b
 | .int i,u=>∃t,u=Value.int i t
 | .str x,u=>∃t,u=Value.str x t
 | .byt b,u=>∃t,u=Value.bytes b t
 | .flt b,u=>∃t,u=Value.float b t
 | .ref a,u=>u=Value.ref a
 | .ty n,u=>u=Value.type n
abbrev bZ:L6->Lv->Prop:=Paired bY
def bZ.length(r:bZ xs us):xs.length=us.length:=Paired.length r
def bZ.get:∀{xs:L6}{us:Lv}{i:Nat}{x:V},bZ xs us->xs[i]? = some x->∃u,us[i]? = some u/\bY x u
 | _,_,_,_,.nil,e=>by simp at e
 | _,_,0,_,.cons r _,e=>by simp at e; subst e; exact⟨_,rfl,r⟩
 | _,_,i+1,x,.cons _ t,e=>by
  obtain⟨u,h1,h2⟩:=bZ.get (i:=i) (x:=x) t (by simpa using e);exact⟨u,by simpa using h1,h2⟩
def bZ.append:∀{xs ys:L6}{us ws:Lv},bZ xs us->bZ ys ws->bZ (xs++ys) (us++ws)
 | _,_,_,_,.nil,s=>s
 | _,_,_,_,.cons r t,s=>.cons r (bZ.append t s)
def bZ.take:∀{xs:L6}{us:Lv}(n:Nat),bZ xs us->bZ (xs.take n) (us.take n)
 | _,_,0,_=>.nil
 | _,_,_+1,.nil=>.nil
 | _,_,n+1,.cons r t=>.cons r (bZ.take n t)
def bZ.drop:∀{xs:L6}{us:Lv}(n:Nat),bZ xs us->bZ (xs.drop n) (us.drop n)
 | _,_,0,r=>r
 | _,_,_+1,.nil=>.nil
 | _,_,n+1,.cons _ t=>bZ.drop n t
def kO:Option V->Option Value->Prop
 | some v,some u=>bY v u
 | none,none=>True
 | _,_=>False
def KV{κ : Type}:List (κ × V)->List (κ × Value)->Prop:=Paired λ(p:κ × V)(q:κ × Value)=>p.1=q.1/\bY p.2 q.2
def kV:Key->V
 | .inl i=>.int i
 | .inr x=>.str x
inductive HO where
  | lst (xs:L6)
  | tup (xs:L6)
  | dK (kvs:Lz) | dT (kvs:List (List Key × V))
  | set (S:Int->Bool) (n:Nat)
  | ins (C dx:Addr) (fs:L3)
  | own (x:Addr)
  | xd (fs:L3)
  | met (f x:Addr)
  | rng (lo hi:Int)
  | frz (o:Obj) (u:HO)
  | tbl (ps:Array Value)
  | ext (φ : Heap->Prop)
abbrev Hp:=Addr->Option HO
def upd(H:Hp)(a:Addr)(o:HO):Hp:=λb=>if b=a then some o else H b
def aB:upd H a o a=some o:=by unfold upd; rw[if_pos rfl]
def aF(h:b≠a):upd H a o b=H b:=by unfold upd; rw[if_neg h]
def ne_of{H:Hp}{a b:Addr}{o u:HO}(h:H a=some o)(h':H b=some u)(d:o≠u):a≠b:=by
 intro e; subst e; rw[h]at h'; exact d (Option.some.inj h')
def bL{H:Hp}{a b:Addr}{o:HO}(h:H a=some o)(h':H b=none):a≠b:=by
 intro e; subst e; rw[h]at h'; cases h'
section
variable(P:Program)(w:World)
def eA(H:Hp)(h:Heap)(a:Addr):HO->Prop
 | .lst xs=>xs.length<=sizeLine/\∃(its:Lv) (n:Nat),bZ xs its/\h.get? a=some { cls:=.type "list",data:=.seq its.toArray n }
 | .tup xs=>xs.length<=sizeLine/\∃its:Lv,bZ xs its/\IsTup h a its.toArray
 | .dK kvs=>kvs.length<=sizeLine/\(a == sysModules)=false/\∃vs,KV kvs vs/\h.DictOf (cH P w) a vs
 | .dT kvs=>kvs.length<=sizeLine/\(a == sysModules)=false/\∃xs:List (List Key × Addr × Value),
   Paired (λ(p:List Key × V)(q:List Key × Addr × Value)=>p.1=q.1/\H q.2.1=some (.tup (p.1.map kV))/\bY p.2 q.2.2) kvs xs/\
   ∃o es ep,h.get? a=some o/\o.ExactDict/\o.data = .dict es ep/\es.toList=xs.map (entryOfKey (tupleKind (cH P w)))/\(xs.map (·.1)).Nodup
 | .set S n=>h.SetOf (intKind P w) a S n
 | .ins C dx fs=>H dx=some (.own a)/\fs.length<=1000/\dx≠a/\h.get? a=some (instObj C dx)/\
   ∃mA,h.Ns1 dx mA/\(∀f,kO (fs.lookup f) (mA f))/\PySem.Within mA (fs.map (·.1))
 | .own _=>∃o,h.get? a=some o
 | .xd fs=>∃mA,h.Ns1 a mA/\∀f,kO (fs.lookup f) (mA f)
 | .rng lo hi=>∃t u v,h.get? a=some { cls:=.type "range",data:=.fields #[.int lo t,.int hi u,.int 1 v] }
 | .frz o u=>h.get? a=some o/\eA H h a u
 | .tbl ps=>h.get? a=some { cls:=.none,data:=.fields ps }
 | .met f x=>h.get? a=some (PySem.W.methodObj (.ref f) (.ref x))
 | .ext φ=>φ h/\(∃o,h.get? a=some o)/\∀h1 h2:Heap,φ h1->(∀o,h1.get? a=some o->h2.get? a=some o)->φ h2
def HOk(H:Hp)(h:Heap):Prop:=∀a o,H a=some o->eA P w H h a o
end
section
variable{P:Program}{w:World}{H H':Hp}{h h':Heap}{a:Addr}{o:HO}
def eA.lt(x:eA P w H h a o):a<h.objs.size:=by
 cases o with
 | lst xs=>obtain⟨_,_,_,_,e⟩:=x; exact lt_size e
 | tup xs=>obtain⟨_,_,_,p⟩:=x; exact p.lt
 | dK kvs=>obtain⟨_,_,_,_,o,_,_,e,_⟩:=x; exact lt_size e
 | dT kvs=>obtain⟨_,_,_,_,o,_,_,e,_⟩:=x; exact lt_size e
 | set S n=>obtain⟨o,_,_,_,e,_⟩:=x; exact lt_size e
 | ins C dx fs=>obtain⟨_,_,_,e,_⟩:=x; exact lt_size e
 | own y=>obtain⟨_,e⟩:=x; exact lt_size e
 | xd fs=>obtain⟨_,⟨_,_,_,e,_⟩,_⟩:=x; exact lt_size e
 | rng lo hi=>obtain⟨_,_,_,e⟩:=x; exact lt_size e
 | frz ob u=>obtain⟨e,_⟩:=x; exact lt_size e
 | tbl ps=>exact lt_size (show h.get? a=some _ from x)
 | met f y=>exact lt_size (show h.get? a=some _ from x)
 | ext φ=>obtain⟨_,⟨_,e⟩,_⟩:=x; exact lt_size e
def Paired.mapP{α β : Type}{F G:α->β->Prop}:∀{l₁ : List α}{l₂ : List β},Paired F l₁ l₂->(∀a b,F a b->G a b)->Paired G l₁ l₂
 | _,_,.nil,_=>.nil
 | _,_,.cons r t,f=>.cons (f _ _ r) (Paired.mapP t f)
def eA.stay(x:eA P w H h a o)(k:∀b u,(b=a\/H b=some (.own a))->h.get? b=some u->h'.get? b=some u)
  (ho:∀b,H b=some (.own a)->H' b=some (.own a)) (ht:∀b xs,H b=some (.tup xs)->H' b=some (.tup xs)):eA P w H' h' a o:=by
 induction o with
 | lst xs=>obtain⟨z,its,n,r,e⟩:=x; exact⟨z,its,n,r,k _ _ (.inl rfl) e⟩
 | tup xs=>obtain⟨z,its,r,ob,e,c⟩:=x; exact⟨z,its,r,ob,k _ _ (.inl rfl) e,c⟩
 | dK kvs=>obtain⟨z,y,vs,r,ob,es,ep,e,c⟩:=x; exact⟨z,y,vs,r,ob,es,ep,k _ _ (.inl rfl) e,c⟩
 | dT kvs=>
  obtain⟨z,y,xs,r,ob,es,ep,e,c⟩:=x;exact⟨z,y,xs,Paired.mapP r λp q z=>⟨z.1,ht _ _ z.2.1,z.2.2⟩,ob,es,ep,k _ _ (.inl rfl) e,c⟩
 | set S n=>obtain⟨ob,es,ep,t,e,c⟩:=x; exact⟨ob,es,ep,t,k _ _ (.inl rfl) e,c⟩
 | ins C dx fs=>
  obtain⟨d,z,ne,e,mA,⟨od,es,ep,e2,c⟩,r⟩:=x;exact⟨ho _ d,z,ne,k _ _ (.inl rfl) e,mA,⟨od,es,ep,k _ _ (.inr d) e2,c⟩,r⟩
 | own y=>obtain⟨ob,e⟩:=x; exact⟨ob,k _ _ (.inl rfl) e⟩
 | xd fs=>obtain⟨mA,⟨od,es,ep,e,c⟩,r⟩:=x; exact⟨mA,⟨od,es,ep,k _ _ (.inl rfl) e,c⟩,r⟩
 | rng lo hi=>obtain⟨t,u,v,e⟩:=x; exact⟨t,u,v,k _ _ (.inl rfl) e⟩
 | frz ob u ih=>obtain⟨e,q⟩:=x; exact⟨k _ _ (.inl rfl) e,ih q⟩
 | tbl ps=>
  have e:h.get? a=some { cls:=.none,data:=.fields ps }:=x;show h'.get? a=some { cls:=.none,data:=.fields ps };exact k a _ (.inl rfl) e
 | met f y=>
  have e:h.get? a=some (PySem.W.methodObj (.ref f) (.ref y)):=x;show h'.get? a=some (PySem.W.methodObj (.ref f) (.ref y));exact k a _ (.inl rfl) e
 | ext φ=>obtain⟨p,⟨o,e⟩,st⟩:=x; exact⟨st _ _ p λo q=>k _ _ (.inl rfl) q,⟨o,k _ _ (.inl rfl) e⟩,st⟩
def HOk.lt(x:HOk P w H h)(e:H a=some o):a<h.objs.size:=(x a o e).lt
def HOk.fresh(x:HOk P w H h)(e:h.objs.size<=a):H a=none:=by
 cases q:H a with
 | none=>rfl
 | some u=>exact absurd (lt_of_lt_of_le (x.lt q) e) (lt_irrefl _)
def HOk.kept(x:HOk P w H h)(k:∀b u,h.get? b=some u->h'.get? b=some u):HOk P w H h':=λa o e=>
 (x a o e).stay (λb u _ q=>k b u q) (λ_ q=>q) λ_ _ q=>q
def HOk.laid(x:HOk P w H h)(k:∀b u,h.get? b=some u->h'.get? b=some u)(hp:h.objs.size<=a)(new:eA P w (upd H a o) h' a o):HOk P w (upd H a o) h':=λb u e=>by
 have hn:=x.fresh hp;by_cases hb:b=a
 ·subst hb; rw[aB]at e; cases e; exact new
 ·rw[aF hb]at e;exact(x b u e).stay (λc v _ q=>k c v q) (λc q=>by rw[aF (bL q hn)]; exact q) λc xs q=>by rw[aF (bL q hn)]; exact q
end
def Rd(H:Hp)(a:Addr)(u:HO):Prop:=H a=some u\/∃o,H a=some (.frz o u)
def Rd.ok(r:Rd H a u)(x:HOk P w H h):eA P w H h a u:=by
 rcases r with r | ⟨o,r⟩
 ·exact x a u r
 ·obtain⟨_,q⟩:=x a _ r;exact q
def Mut:Option HO->Prop
 | some (.lst _)=>True
 | some (.dK _)=>True
 | some (.dT _)=>True
 | some (.set _ _)=>True
 | some (.ins _ _ _)=>True
 | some (.ext _)=>True
 | _=>False
section
variable{P:Program}{w:World}{H:Hp}{h h':Heap}{x e:Addr}{o':HO}
def HOk.write(ok:HOk P w H h)(mu:Mut (H x))(he:e=x\/H e=some (.own x))(k:∀b u,b≠e->h.get? b=some u->h'.get? b=some u)(heo:∃u,h'.get? e=some u)
  (new:eA P w (upd H x o') h' x o'):HOk P w (upd H x o') h':=λb u q=>by
 have nown:∀c y,H c=some (.own y)->c≠x:=λc y r z=>by subst z; rw[r]at mu; exact mu
 have ntup:∀c xs,H c=some (.tup xs)->c≠x:=λc xs r z=>by subst z; rw[r]at mu; exact mu
 by_cases hb:b=x
 ·subst hb; rw[aB]at q; cases q; exact new
 ·rw[aF hb]at q;by_cases hbe:b=e
  ·have q':H b=some (.own x):=by
    rcases he with z | z
    ·exact absurd (hbe.trans z) hb
    ·rw[hbe]; exact z
   rw[q]at q'; cases q';obtain⟨v,hv⟩:=heo;exact⟨v,by rw[hbe]; exact hv⟩
  ·refine(ok b u q).stay (λc v hc r=>k c v ?_ r) (λc r=>by rw[aF (nown c b r)]; exact r) λc xs r=>by rw[aF (ntup c xs r)]; exact r
   rcases hc with rfl | hc
   ·exact hbe
   ·rintro rfl;rcases he with z | z
    ·exact nown c b hc z
    ·rw[hc]at z; cases z; exact hb rfl
end
structure Un(fs ex:List Addr)(H H':Hp)(h h':Heap):Prop where
 keep:∀b o,h.get? b=some o->H b=none->b ∉ fs->b ∉ ex->h'.get? b=some o
 slot:∀b o,h.get? b=some o->H b=none->b∈fs->b ∉ ex->∃sl,h'.get? b=some { o with slots:=sl }
 free:∀b o,h.get? b=some o->H b=none->b ∉ ex->H' b=none
 there:∀b o,h.get? b=some o->b ∉ ex->∃o',h'.get? b=some o'
 tups:∀b xs,H b=some (.tup xs)->H' b=some (.tup xs)
 frzs:∀b o u,H b=some (.frz o u)->H' b=some (.frz o u)
 tbls:∀b ps,H b=some (.tbl ps)->∃more,H' b=some (.tbl (ps++more))
section
variable{fs fs' ex ex':List Addr}{H H1 H2:Hp}{h h1 h2 h':Heap}{a x e:Addr}{o:HO}
def Un.any(u:Un fs ex H H1 h h1)(q:h.get? b=some ob)(n:H b=none)(hx:b ∉ ex):∃sl,h1.get? b=some { ob with slots:=sl }:=by
 by_cases hb:b∈fs
 ·exact u.slot b ob q n hb hx
 ·exact⟨ob.slots,u.keep b ob q n hb hx⟩
def Un.kept(k:∀b u,h.get? b=some u->h'.get? b=some u):Un fs ex H H h h':=
 ⟨λb ob q _ _ _=>k b ob q,λb ob q _ _ _=>⟨ob.slots,k b ob q⟩,λ_ _ _ n _=>n,λb ob q _=>⟨ob,k b ob q⟩,λ_ _ q=>q,λ_ _ _ q=>q,λ_ ps q=>⟨#[],by rw[q]; simp⟩⟩
def Un.refl:Un fs ex H H h h:=Un.kept λ_ _ q=>q
def Un.laid(k:∀b u,h.get? b=some u->h'.get? b=some u)(hp:h.objs.size<=a)(hn:H a=none):Un fs ex H (upd H a o) h h' where
 keep:=λb u q _ _ _=>k b u q
 slot:=λb u q _ _ _=>⟨u.slots,k b u q⟩
 free:=λb u q n _=>by rw[aF (ne_of_lt (lt_of_lt_of_le (lt_size q) hp))]; exact n
 there:=λb u q _=>⟨u,k b u q⟩
 tups:=λb xs q=>by rw[aF (bL q hn)]; exact q
 frzs:=λb u xs q=>by rw[aF (bL q hn)]; exact q
 tbls:=λb ps q=>⟨#[],by rw[aF (bL q hn),q]; simp⟩
def Un.write(mu:Mut (H x))(he:e=x\/H e=some (.own x))(k:∀b u,b≠e->h.get? b=some u->h'.get? b=some u)(heo:∃u,h'.get? e=some u):Un fs ex H (upd H x o) h h':=by
 have hx:∀b,H b=none->b≠x:=λb n z=>by subst z; rw[n]at mu; exact mu
 have hb:∀b,H b=none->b≠e:=λb n z=>by
  subst z;rcases he with r | r
  ·exact hx b n r
  ·rw[n]at r; cases r
 have hm:∀b u,H b=some u->¬ Mut (some u)->b≠x:=λb u q nm z=>by subst z; rw[q]at mu; exact nm mu
 refine⟨λb u q n _ _=>k b u (hb b n) q,λb u q n _ _=>⟨u.slots,k b u (hb b n) q⟩,λb u q n _=>by rw[aF (hx b n)]; exact n,λb u q _=>?_,
  λb xs q=>by rw[aF (hm b _ q λz=>z)]; exact q,λb u xs q=>by rw[aF (hm b _ q λz=>z)]; exact q,λb ps q=>⟨#[],by rw[aF (hm b _ q λz=>z),q]; simp⟩⟩
 by_cases hbe:b=e
 ·subst hbe; exact heo
 ·exact⟨u,k b u hbe q⟩
end
def trk(h:Heap)(H:Hp):List Addr:=(List.range h.objs.size).filter λa=>(H a).isSome
def AC(h:Heap)(H:Hp):Heap:=hideAll h (trk h H)
def FS(h:Heap)(H:Hp):(AC h H).objs.size=h.objs.size:=PySem.W.hideAll_size _ _
def HY(e:h.get? b=some o)(n:H b=none):(AC h H).get? b=some o:=
 hideAll_get _ e λhm=>by
  have q:(H b).isSome=true:=(mem_filter.mp hm).2;rw[n]at q; simp at q
def JI(e:(AC h H).get? b=some o):h.get? b=some o/\H b=none:=by
 have e':h.get? b=some o:=of_hideAll (trk h H) e;refine⟨e',?_⟩;cases q:H b with
 | none=>rfl
 | some x=>
  have hm:b∈trk h H:=mem_filter.mpr ⟨mem_range.mpr (lt_size e'),by simp [q]⟩;have z:(AC h H).get? b=none:=PySem.W.hideAll_none (trk h H) hm;rw[z]at e; cases e
def Jn(g h:Heap)(L:Addr):Lo:=(List.range h.objs.size).filterMap λa=>if a=L\/(g.get? a).isSome=true then none else (h.get? a).map λo=>(a,o)
def rest(g h:Heap)(L d:Addr):Lo:=(Jn g h L).filter λp=>decide (p.1≠d)
structure Mod(K:Ln)(mg:Lp)(base:Heap):Prop where
 kin:K.In base
 glob:base.Ns mainGlobals mg
 blt:∃mb,base.Ns builtinsNs mb/\∀x:Str,x ≠ "__name__"->mb x=bootBuiltins x
 nolimit:base.NoLimit
structure Cx where
 prog:Program
 w:World
 K:Ln
 mg:Lp
 base:Heap
 A:Around
 N:Lu
 s₀ : Shared
 H₀ : Hp
 env:Env
 outer:List Env
 stack:List Env
 ex:List Addr
 fn:Str->Bool
 calm:Bool
 pn:Lo
 xe:Value->Shared->Prop
def frs(l:List Env):List Addr:=l.filterMap (·.frame)
abbrev Cx.fs(X:Cx):List Addr:=frs X.outer
def Vis(sc:Scope)(x:Str):Prop:=sc.names.lookup x=some .local\/sc.names.lookup x=some .cell\/sc.names.lookup x=some .free
def Loc(sc:Scope)(x:Str):Prop:=sc.names.lookup x=some .local\/sc.names.lookup x=some .cell
def Look(env:Env)(h:Heap)(m:Lp)(x:Str)(u:Value):Prop:=
 (env.kindOf x=some .local/\m x=some u)\/((env.kindOf x=some .cell\/env.kindOf x=some .free)/\∃c,env.cells.lookup x=some c/\h.IsCell c (some u))
structure Cx.Ok(X:Cx):Prop where
 mod:Mod X.K X.mg X.base
 kind:X.env.scope.kind = .function
 glob:X.env.globals=mainGlobals
 blt:X.env.builtins=builtinsNs
 above:X.s₀.heap.objs.size<=X.env.locals
 inj:∀x y c,X.env.cells.lookup x=some c->X.env.cells.lookup y=some c->x=y
 has:∀x,(X.env.kindOf x=some .cell\/X.env.kindOf x=some .free)->∃c,X.env.cells.lookup x=some c
 cab:∀x c,X.fn x=true->X.env.cells.lookup x=some c->X.s₀.heap.objs.size<=c
 hd:X.calm=true->X.A.handled=none
 frames:X.A.frames=some X.stack
 stk:X.stack=X.outer\/(X.stack=X.env::X.outer/\X.env.frame=some X.env.locals)
 exf:∀b∈X.ex,b≠X.env.locals/\∀x c,X.env.cells.lookup x=some c->c≠b
 bs:∀b o,X.base.get? b=some o->X.s₀.heap.get? b=some o/\X.H₀ b=none
 bsz:X.base.objs.size<=X.s₀.heap.objs.size
 noex:∀b o,X.base.get? b=some o->b ∉ X.ex
 exfs:∀b∈X.ex,b ∉ X.fs
 funs:X.s₀.heap.FunFrames X.base X.outer
 frf:∀b∈X.fs,X.H₀ b=none
structure Inv(X:Cx)(pins:Lo)(σ : List (Option V))(H:Hp)(s:Shared):Prop where
 ok:X.Ok
 os:s.os=X.s₀.os
 bare:AllBare s.gens
 base:Un X.fs X.ex X.H₀ H X.s₀.heap s.heap
 loc:∃m,s.heap.Ns X.env.locals m/\∀(i:Nat)(x:Str)(v:V),X.N[i]? = some x->σ[i]? = some (some v)->Vis X.env.scope x->∃u,bY v u/\Look X.env s.heap m x u
 cell:∀x c,X.env.cells.lookup x=some c->∃v,s.heap.IsCell c v
 free:H X.env.locals=none
 freeC:∀x c,X.env.cells.lookup x=some c->H c=none
 pin:∀p∈X.pn++pins,s.heap.get? p.1=some p.2/\H p.1=none/\p.1≠X.env.locals/\p.1 ∉ X.fs/\∀v,p.2.data ≠ .cell v
 hok:HOk X.prog X.w H s.heap
 len:σ.length=X.N.length
section
variable{X:Cx}{pins:Lo}{σ : List (Option V)}{H H':Hp}{s:Shared}{h':Heap}
def Cx.Ok.nofr(ok:X.Ok)(e:X.base.get? b=some o):b ∉ X.fs:=λhb=>by
 have:=(ok.funs.mem hb).1;rw[e]at this; cases this
def Inv.bs(I:Inv X pins σ H s):∀b o,X.base.get? b=some o->s.heap.get? b=some o/\H b=none:=λb o e=>
 ⟨I.base.keep b o (I.ok.bs b o e).1 (I.ok.bs b o e).2 (I.ok.nofr e) (I.ok.noex b o e),I.base.free b o (I.ok.bs b o e).1 (I.ok.bs b o e).2 (I.ok.noex b o e)⟩
def Inv.bk(I:Inv X pins σ H s):∀b o,X.base.get? b=some o->s.heap.get? b=some o:=λb o e=>(I.bs b o e).1
def Inv.mod(I:Inv X pins σ H s):Mod X.K X.mg X.base:=I.ok.mod
def Inv.kIn(I:Inv X pins σ H s):X.K.In s.heap:=I.ok.mod.kin.keeps I.bk
def Inv.lt(I:Inv X pins σ H s):X.env.locals<s.heap.objs.size:=let ⟨_,hn,_⟩:=I.loc; hn.lt
def Inv.sz(I:Inv X pins σ H s):X.s₀.heap.objs.size<=s.heap.objs.size:=le_trans I.ok.above (le_of_lt I.lt)
def Inv.nofs(I:Inv X pins σ H s)(h:s.heap.objs.size<=a):a ∉ X.fs:=λhb=>by
 obtain⟨_,o,ho,_⟩:=I.ok.funs.mem hb;exact absurd (lt_of_lt_of_le (lt_size ho) (le_trans I.sz h)) (lt_irrefl _)
def Inv.cne(I:Inv X pins σ H s):∀x c,X.env.cells.lookup x=some c->c≠X.env.locals:=λx c e z=>by
 obtain⟨v,o,ho,hd⟩:=I.cell x c e;obtain⟨m,⟨o',es,ep,ho',hd',_⟩,_⟩:=I.loc;rw[z,ho']at ho; cases ho; rw[hd']at hd; cases hd
def Inv.funs(I:Inv X pins σ H s):s.heap.FunFrames X.base X.outer:=by
 have all:∀(l:List Env),(∀b∈frs l,b∈X.fs)->X.s₀.heap.FunFrames X.base l->s.heap.FunFrames X.base l:=by
  intro l
  induction l with
  | nil=>intro _ _; trivial
  | cons env r ih=>
   intro hs hl;obtain⟨hk,⟨L,o,hf,hn,ho,hd⟩,hr⟩:=hl;have hL:L∈X.fs:=hs L (by unfold frs; rw[filterMap_cons,hf]; exact mem_cons_self);obtain⟨sl,e⟩:=I.base.slot L o ho (I.ok.frf L hL) hL λz=>I.ok.exfs L z hL;exact⟨hk,⟨L,_,hf,hn,e,hd⟩,ih (λb hb=>hs b (by unfold frs; rw[filterMap_cons,hf]; exact mem_cons_of_mem _ hb)) hr⟩
 exact all X.outer (λ_ hb=>hb) I.ok.funs
def Inv.stack(I:Inv X pins σ H s):s.heap.FunFrames X.base X.stack:=by
 rcases I.ok.stk with e | ⟨e,hf⟩
 ·rw[e]; exact I.funs
 ·rw[e];obtain⟨m,hn,_⟩:=I.loc;refine .cons (by rw[I.ok.kind]; decide) hf hn ?_ I.funs;exact Heap.get?_none_of_le (le_trans I.ok.bsz I.ok.above)
def Inv.stkSub(I:Inv X pins σ H s):∀b∈frs X.stack,b∈X.env.locals::X.fs:=λb hb=>by
 rcases I.ok.stk with e | ⟨e,hf⟩
 ·rw[e]at hb; exact mem_cons_of_mem _ hb
 ·rw[e]at hb;unfold frs at hb;rw[filterMap_cons,hf]at hb;exact hb
def Inv.stkFree(I:Inv X pins σ H s):∀b∈frs X.stack,H b=none:=λb hb=>by
 rcases mem_cons.mp (I.stkSub b hb) with e | hb
 ·rw[e]; exact I.free
 ·obtain⟨_,o,ho,_⟩:=I.ok.funs.mem hb;exact I.base.free b o ho (I.ok.frf b hb) λz=>I.ok.exfs b z hb
def Inv.step{g':Array GenState}{t':Nat}{d':Drawn}{ch:List Addr}(I:Inv X pins σ H s)
  (hch:∀b∈ch,(b∈X.ex\/X.s₀.heap.objs.size<=b)/\b≠X.env.locals/\(∀x c,X.env.cells.lookup x=some c->c≠b)/\∀p∈X.pn++pins,p.1≠b)
  (keep:∀b o,b≠X.env.locals->b ∉ X.fs->b ∉ ch->s.heap.get? b=some o->H b=none->h'.get? b=some o)
  (slot:∀b o,b≠X.env.locals->b∈X.fs->b ∉ ch->s.heap.get? b=some o->H b=none->∃sl,h'.get? b=some { o with slots:=sl }) (free:∀b o,b ∉ ch->s.heap.get? b=some o->H b=none->H' b=none)
  (there:∀b o,b ∉ ch->s.heap.get? b=some o->∃o',h'.get? b=some o')
  (tups:∀b xs,H b=some (.tup xs)->H' b=some (.tup xs)) (frzs:∀b o u,H b=some (.frz o u)->H' b=some (.frz o u)) (tbls:∀b ps,H b=some (.tbl ps)->∃more,H' b=some (.tbl (ps++more)))
  (ns:∀m,s.heap.Ns X.env.locals m->h'.Ns X.env.locals m) (hok:HOk X.prog X.w H' h') (hg:AllBare g') :
  Inv X pins σ H' { s with heap:=h',gens:=g',drawn:=d',toks:=t' }:=by
 have neL:∀b o,X.s₀.heap.get? b=some o->b≠X.env.locals:=λb o e=>ne_of_lt (lt_of_lt_of_le (lt_size e) I.ok.above);have neC:∀b o,X.s₀.heap.get? b=some o->b ∉ X.ex->b ∉ ch:=λb o e hx hb=>by
  rcases (hch b hb).1 with z | z
  ·exact hx z
  ·exact absurd (lt_of_lt_of_le (lt_size e) z) (lt_irrefl _)
 have cellK:∀x c,X.env.cells.lookup x=some c->∀v,s.heap.IsCell c v->h'.IsCell c v:=λx c e v ⟨o,ho,hd⟩=>by
  have nch:c ∉ ch:=λz=>(hch c z).2.2.1 x c e rfl;by_cases hc:c∈X.fs
  ·obtain⟨sl,q⟩:=slot c o (I.cne x c e) hc nch ho (I.freeC x c e);exact⟨_,q,hd⟩
  ·exact⟨o,keep c o (I.cne x c e) hc nch ho (I.freeC x c e),hd⟩
 refine⟨I.ok,I.os,hg,⟨λb o e n hb hx=>?_,λb o e n hb hx=>?_,λb o e n hx=>?_,λb o e hx=>?_,λb xs e=>tups b xs (I.base.tups b xs e),λb o xs e=>frzs b o xs (I.base.frzs b o xs e),λb ps e=>?_⟩,?_,λx c e=>?_,?_,λx c e=>?_,λp hp=>?_,hok,I.len⟩
 ·exact keep b o (neL b o e) hb (neC b o e hx) (I.base.keep b o e n hb hx) (I.base.free b o e n hx)
 ·obtain⟨sl,e1⟩:=I.base.slot b o e n hb hx;obtain⟨sl',e2⟩:=slot b _ (neL b o e) hb (neC b o e hx) e1 (I.base.free b o e n hx);exact⟨sl',e2⟩
 ·obtain⟨o',e1⟩:=I.base.there b o e hx;exact free b o' (neC b o e hx) e1 (I.base.free b o e n hx)
 ·obtain⟨o',e1⟩:=I.base.there b o e hx;exact there b o' (neC b o e hx) e1
 ·obtain⟨m1,e1⟩:=I.base.tbls b ps e;obtain⟨m2,e2⟩:=tbls b _ e1;exact⟨m1++m2,by rw[e2,Array.append_assoc]⟩
 ·obtain⟨m,hn,hl⟩:=I.loc;refine⟨m,ns m hn,λi x v e1 e2 e3=>?_⟩;obtain⟨u,r,l⟩:=hl i x v e1 e2 e3;refine⟨u,r,?_⟩;rcases l with l | ⟨k,c,e,z⟩
  ·exact .inl l
  ·exact .inr ⟨k,c,e,cellK x c e _ z⟩
 ·obtain⟨v,z⟩:=I.cell x c e;exact⟨v,cellK x c e v z⟩
 ·obtain⟨m,⟨o,_,_,ho,_⟩,_⟩:=I.loc;exact free _ o (λz=>(hch _ z).2.1 rfl) ho I.free
 ·obtain⟨v,o,ho,hd⟩:=I.cell x c e;exact free c o (λz=>(hch c z).2.2.1 x c e rfl) ho (I.freeC x c e)
 ·obtain⟨e,n,ne,nf,d⟩:=I.pin p hp;have nch:p.1 ∉ ch:=λz=>(hch p.1 z).2.2.2 p hp rfl;exact⟨keep p.1 p.2 ne nf nch e n,free p.1 p.2 nch e n,ne,nf,d⟩
def Inv.un{t':Nat}(I:Inv X pins σ H s)(u:Un X.fs [] H H' s.heap h')(hok:HOk X.prog X.w H' h'):Inv X pins σ H' { s with heap:=h',toks:=t' }:=by
 obtain⟨m,⟨o,es,ep,ho,r⟩,_⟩:=id I.loc;obtain⟨sl,hL⟩:=u.any ho I.free (by simp);exact I.step (g':=s.gens) (d':=s.drawn) (ch:=[]) (λ_ z=>nomatch z) (λb o _ hb _ e n=>u.keep b o e n hb (by simp)) (λb o _ hb _ e n=>u.slot b o e n hb (by simp)) (λb o _ e n=>u.free b o e n (by simp)) (λb o _ e=>u.there b o e (by simp)) u.tups u.frzs u.tbls (λm' hm=>by
  obtain⟨o',es',ep',ho',r'⟩:=hm;rw[ho]at ho'; cases ho';exact⟨_,es',ep',hL,r'⟩) hok I.bare
def Inv.call{g':Array GenState}{t':Nat}{d':Drawn}{ch:List Addr}(I:Inv X pins σ H s)(u:Un (frs X.stack) ch H H' s.heap h')(hok:HOk X.prog X.w H' h')(hg:AllBare g')
  (hch:∀b∈ch,(b∈X.ex\/X.s₀.heap.objs.size<=b)/\b≠X.env.locals/\(∀x c,X.env.cells.lookup x=some c->c≠b)/\∀p∈X.pn++pins,p.1≠b) :
  Inv X pins σ H' { s with heap:=h',gens:=g',drawn:=d',toks:=t' }:=by
 obtain⟨m,⟨o,es,ep,ho,r⟩,_⟩:=id I.loc;obtain⟨sl,hL⟩:=u.any ho I.free λz=>(hch _ z).2.1 rfl;exact I.step (ch:=ch) hch (λb o hL hb hc e n=>u.keep b o e n (λz=>(mem_cons.mp (I.stkSub b z)).elim hL hb) hc) (λb o _ _ hc e n=>u.any e n hc) (λb o hc e n=>u.free b o e n hc) (λb o hc e=>u.there b o e hc) u.tups u.frzs u.tbls (λm' hm=>by
  obtain⟨o',es',ep',ho',r'⟩:=hm;rw[ho]at ho'; cases ho';exact⟨_,es',ep',hL,r'⟩) hok hg
def Inv.turned{t':Nat}{it:Addr}(I:Inv X pins σ H s)(k:∀b o,b≠it->s.heap.get? b=some o->h'.get? b=some o)(hn:H it=none)(hL:it≠X.env.locals)
  (h1:it∈X.ex\/X.s₀.heap.objs.size<=it) (h2:∀x c,X.env.cells.lookup x=some c->c≠it) (h3:∀p∈X.pn++pins,p.1≠it):Inv X pins σ H { s with heap:=h',toks:=t' }:=by
 have nit:∀b u,H b=some u->b≠it:=λb u e z=>by rw[z,hn]at e; cases e
 refine I.step (g':=s.gens) (d':=s.drawn) (ch:=[it]) (λb hb=>?_) (λb o _ _ hc e _=>k b o (λz=>hc (by simp [z])) e) (λb o _ _ hc e _=>⟨o.slots,k b o (λz=>hc (by simp [z])) e⟩) (λ_ _ _ _ n=>n)
  (λb o hc e=>⟨o,k b o (λz=>hc (by simp [z])) e⟩) (λ_ _ e=>e) (λ_ _ _ e=>e) (λb ps e=>⟨#[],by rw[e]; simp⟩) (λm hm=>?_) (λb u e=>?_) I.bare
 ·have e:b=it:=by simpa using hb
  subst e;exact⟨h1,hL,h2,h3⟩
 ·obtain⟨o,es,ep,ho,r⟩:=hm;exact⟨o,es,ep,k _ o (Ne.symm hL) ho,r⟩
 ·refine(I.hok b u e).stay (λc v hc q=>k c v ?_ q) (λ_ q=>q) λ_ _ q=>q;rcases hc with z | z
  ·rw[z]; exact nit b u e
  ·exact nit c _ z
def Inv.tok(I:Inv X pins σ H s)(t:Nat):Inv X pins σ H { s with toks:=t }:=I.un (h':=s.heap) (t':=t) Un.refl I.hok
def Inv.kept(I:Inv X pins σ H s)(k:∀b u,s.heap.get? b=some u->h'.get? b=some u):Inv X pins σ H { s with heap:=h',toks:=t' }:=I.un (Un.kept k) (I.hok.kept k)
def Inv.laid(I:Inv X pins σ H s)(k:∀b u,s.heap.get? b=some u->h'.get? b=some u)(hp:s.heap.objs.size<=a)(new:eA X.prog X.w (upd H a o) h' a o) :
  Inv X pins σ (upd H a o) { s with heap:=h',toks:=t' }:=I.un (Un.laid k hp (I.hok.fresh hp)) (I.hok.laid k hp new)
def Inv.write(I:Inv X pins σ H s)(mu:Mut (H x))(he:e=x\/H e=some (.own x))(k:∀b u,b≠e->s.heap.get? b=some u->h'.get? b=some u)(heo:∃u,h'.get? e=some u)
  (new:eA X.prog X.w (upd H x o) h' x o):Inv X pins σ (upd H x o) { s with heap:=h',toks:=t' }:=I.un (Un.write mu he k heo) (I.hok.write mu he k heo new)
def Inv.pins_of(I:Inv X pins σ H s)(h:∀p∈pins',s.heap.get? p.1=some p.2/\H p.1=none/\p.1≠X.env.locals/\p.1 ∉ X.fs/\∀v,p.2.data ≠ .cell v):Inv X pins' σ H s:=
 ⟨I.ok,I.os,I.bare,I.base,I.loc,I.cell,I.free,I.freeC,λp hp=>(mem_append.mp hp).elim (λz=>I.pin p (mem_append_left _ z)) (h p),I.hok,I.len⟩
def BP{N:Lu}(hN:N.Nodup){i j:Nat}{x:Str}(a:N[i]? = some x)(b:N[j]? = some x):i=j:=by
 obtain⟨h1,e1⟩:=List.getElem?_eq_some_iff.mp a;obtain⟨h2,e2⟩:=List.getElem?_eq_some_iff.mp b;exact(List.getElem_inj hN).mp (e1.trans e2.symm)
def EZ{M:Model}{A:Around}{E:Ly}{i:Nat}{x:Str}{v:V}{u:Value}{Q:Unit->Shared->Prop}(I:Inv X pins σ H s)(hN:X.N.Nodup)(hi:X.N[i]? = some x)(hx:Loc X.env.scope x)(r:bY v u)
  (h:∀s',Inv X pins (σ.set i (some v)) H s'->(∃a,Heap.SameBut a s.heap s'.heap/\(a=X.env.locals\/X.env.cells.lookup x=some a))->Q () s') (hf:X.fn x=true\/X.env.scope.names.lookup x=some .local:=by first | exact .inl rfl | exact .inr rfl | assumption):wpAny M A (storeName X.env x u) Q E s:=by
 obtain⟨m,hn,hl⟩:=id I.loc;have hcls:(X.env.scope.kind == .class || (X.env.scope.kind == .module && X.env.locals != X.env.globals))=false:=by rw[I.ok.kind]; rfl
 have hiσ : i < σ.length:=by rw[I.len]; exact(List.getElem?_eq_some_iff.mp hi).1
 have cne:=I.cne;have tracked:∀{a:Addr}{h':Heap},(∃o,s.heap.get? a=some o/\H a=none)->Heap.SameBut a s.heap h'->HOk X.prog X.w H h':=λ{a h'} ha hs b ob e=>by
  obtain⟨_,_,hfree⟩:=ha;refine(I.hok b ob e).stay (λc w' hc q=>(hs.2 c ?_).trans q) (λ_ q=>q) λ_ _ q=>q;rintro rfl;rcases hc with rfl | hc
  ·rw[hfree]at e; cases e
  ·rw[hfree]at hc; cases hc
 rcases hx with hk | hk
 ·refine wpAny_storeName_local hk hn (λh' hn' hs=>?_) hcls;obtain⟨oL,_,_,hoL,_⟩:=id hn;refine h _ ⟨I.ok,I.os,I.bare,⟨λb o e n hb hx=>?_,λb o e n hb hx=>?_,I.base.free,λb o e hx=>?_,I.base.tups,I.base.frzs,I.base.tbls⟩,⟨_,hn',λj y v' e1 e2 e3=>?_⟩,λy c e=>?_,I.free,I.freeC,λp hp=>?_,tracked ⟨oL,hoL,I.free⟩ hs,by simpa using I.len⟩ ⟨_,hs,.inl rfl⟩
  ·exact(hs.2 b (ne_of_lt (lt_of_lt_of_le (lt_size e) I.ok.above))).trans (I.base.keep b o e n hb hx)
  ·obtain⟨sl,e1⟩:=I.base.slot b o e n hb hx;exact⟨sl,(hs.2 b (ne_of_lt (lt_of_lt_of_le (lt_size e) I.ok.above))).trans e1⟩
  ·obtain⟨o',e1⟩:=I.base.there b o e hx;exact⟨o',(hs.2 b (ne_of_lt (lt_of_lt_of_le (lt_size e) I.ok.above))).trans e1⟩
  ·by_cases hj:j=i
   ·subst hj;rw[hi]at e1; cases e1;rw[List.getElem?_set_self hiσ]at e2;cases e2;exact⟨u,r,.inl ⟨hk,by simp⟩⟩
   ·rw[List.getElem?_set_ne (Ne.symm hj)]at e2;obtain⟨u',r',q⟩:=hl j y v' e1 e2 e3;refine⟨u',r',?_⟩;rcases q with ⟨k,e⟩ | ⟨k,c,e,z⟩
    ·refine .inl ⟨k,?_⟩;have:y≠x:=λe=>hj (BP hN e1 (e ▸ hi));simp [this,e]
    ·exact .inr ⟨k,c,e,z.sameBut hs (cne y c e)⟩
  ·obtain⟨w',z⟩:=I.cell y c e;exact⟨w',z.sameBut hs (cne y c e)⟩
  ·obtain⟨e,n,ne,nf,d⟩:=I.pin p hp;exact⟨(hs.2 p.1 ne).trans e,n,ne,nf,d⟩
 ·have hfn:X.fn x=true:=by
   rcases hf with z | z
   ·exact z
   ·rw[z]at hk; cases hk
  obtain⟨c,hc⟩:=I.ok.has x (.inl hk);obtain⟨w',z⟩:=I.cell x c hc;refine wpAny_storeName_cell I.ok.kind hk hc z (λh' hc' hs=>?_);obtain⟨oc,hoc,hocd⟩:=id z;refine h { s with heap:=h' } ⟨I.ok,I.os,I.bare,⟨λb o e n hb hx=>?_,λb o e n hb hx=>?_,I.base.free,λb o e hx=>?_,I.base.tups,I.base.frzs,I.base.tbls⟩,⟨m,hn.sameBut hs (Ne.symm (cne x c hc)),λj y v' e1 e2 e3=>?_⟩,λy c' e=>?_,I.free,I.freeC,λp hp=>?_,tracked ⟨oc,hoc,I.freeC x c hc⟩ hs,by simpa using I.len⟩ ⟨c,hs,.inr hc⟩
  ·exact(hs.2 b (ne_of_lt (lt_of_lt_of_le (lt_size e) (I.ok.cab x c hfn hc)))).trans (I.base.keep b o e n hb hx)
  ·obtain⟨sl,e1⟩:=I.base.slot b o e n hb hx;exact⟨sl,(hs.2 b (ne_of_lt (lt_of_lt_of_le (lt_size e) (I.ok.cab x c hfn hc)))).trans e1⟩
  ·obtain⟨o',e1⟩:=I.base.there b o e hx;exact⟨o',(hs.2 b (ne_of_lt (lt_of_lt_of_le (lt_size e) (I.ok.cab x c hfn hc)))).trans e1⟩
  ·by_cases hj:j=i
   ·subst hj;rw[hi]at e1; cases e1;rw[List.getElem?_set_self hiσ]at e2;cases e2;exact⟨u,r,.inr ⟨.inl hk,c,hc,hc'⟩⟩
   ·rw[List.getElem?_set_ne (Ne.symm hj)]at e2;obtain⟨u',r',q⟩:=hl j y v' e1 e2 e3;refine⟨u',r',?_⟩;rcases q with q | ⟨k,c',e,z'⟩
    ·exact .inl q
    ·refine .inr ⟨k,c',e,z'.sameBut hs ?_⟩;rintro rfl;exact hj (BP hN e1 (I.ok.inj _ _ _ e hc ▸ hi))
  ·by_cases hcc:c'=c
   ·subst hcc; exact⟨_,hc'⟩
   ·obtain⟨w2,z2⟩:=I.cell y c' e;exact⟨w2,z2.sameBut hs hcc⟩
  ·obtain⟨e,n,ne,nf,d⟩:=I.pin p hp;refine⟨(hs.2 p.1 ?_).trans e,n,ne,nf,d⟩;intro q;rw[q,hoc]at e;have q':oc=p.2:=Option.some.inj e;exact d w' (by rw[<- q']; exact hocd)
def tG(I:Inv X pins σ H s)(hN:X.N.Nodup)(hi:X.N[i]? = some x)(hx:Loc X.env.scope x)(r:bY v u)
  (h:∀s',Inv X pins (σ.set i (some v)) H s'->Q () s') (hf:X.fn x=true\/X.env.scope.names.lookup x=some .local:=by first | exact .inl rfl | exact .inr rfl | assumption):wpAny M A (storeName X.env x u) Q E s:=
 EZ I hN hi hx r (λs' I' _=>h s' I') hf
def Inv.call'(I:Inv X pins σ H s)(ho:s'.os=s.os)(u:Un (frs X.stack) ch H H' s.heap s'.heap)(hok:HOk X.prog X.w H' s'.heap)(hg:AllBare s'.gens)
  (hch:∀b∈ch,(b∈X.ex\/X.s₀.heap.objs.size<=b)/\b≠X.env.locals/\(∀x c,X.env.cells.lookup x=some c->c≠b)/\∀p∈X.pn++pins,p.1≠b):Inv X pins σ H' s':=by
 obtain⟨h',g',d',t',o'⟩:=s';have e:o'=s.os:=ho;subst e;exact I.call (g':=g') (t':=t') (d':=d') u hok hg hch
end
abbrev XK:=Value->Option Addr->Hp->Prop
abbrev St:=List (Option V)
abbrev VK:=V->Hp->Prop
abbrev TE:=St->Hp->VK->Prop
abbrev TT:=St->Hp->(Bool->Hp->Prop)->Prop
abbrev TA:=St->Hp->(L6->Hp->Prop)->Prop
structure Ends where
 nx:St->Hp->Prop
 rt:VK
 bk:St->Hp->Prop:=λ_ _=>False
 ct:St->Hp->Prop:=λ_ _=>False
def Ends.next(D:Ends)(f:St->Hp->Prop):Ends:={ D with nx:=f }
def Ends.loop(D:Ends)(N:St->Hp->Prop):Ends:={ D with nx:=N,ct:=N,bk:=D.nx }
def Ends.fn(Q:VK):Ends:={ nx:=λ_ H'=>Q .non H',rt:=Q }
abbrev TS:=Ends->St->Hp->Prop
inductive EP(X:Cx)(pins:Lo)(σ : St)(Q:VK)(u:Value)(s':Shared):Prop
 | mk:∀v H',Inv X pins σ H' s'->bY v u->Q v H'->EP X pins σ Q u s'
def TP(X:Cx)(pins:Lo)(σ : St)(Q:Bool->Hp->Prop)(b:Bool)(s':Shared):Prop:=∃H',Inv X pins σ H' s'/\Q b H'
inductive AP(X:Cx)(pins:Lo)(σ : St)(Q:L6->Hp->Prop)(us:Lv)(s':Shared):Prop
 | mk:∀vs H',Inv X pins σ H' s'->bZ vs us->Q vs H'->AP X pins σ Q us s'
def SP(X:Cx)(pins:Lo)(D:Ends)(f:Flow)(s':Shared):Prop:=
 match f with
 | .next=>∃σ' H',Inv X pins σ' H' s'/\D.nx σ' H'
 | .brk=>∃σ' H',Inv X pins σ' H' s'/\D.bk σ' H'
 | .cont=>∃σ' H',Inv X pins σ' H' s'/\D.ct σ' H'
 | .ret u=>∃v σ' H',Inv X pins σ' H' s'/\bY v u/\D.rt v H'
def PE(X:Cx)(e:Expr)(t:TE):Prop:=
 ∀pins s σ H(Q:VK),Inv X pins σ H s->t σ H Q->wpAny (model X.prog X.w) X.A (eval e X.env) (EP X pins σ Q) X.xe s
def PT(X:Cx)(e:Expr)(t:TT):Prop:=
 ∀pins s σ H(Q:Bool->Hp->Prop),Inv X pins σ H s->t σ H Q->wpAny (model X.prog X.w) X.A (isTrue e X.env (eval e X.env)) (TP X pins σ Q) X.xe s
def PW(X:Cx)(e:Expr)(t:TT):Prop:=
 ∀(whole:Sem Value)(pins:Lo)(s:Shared)(σ : St)(H:Hp)(Q:Bool->Hp->Prop),Inv X pins σ H s->t σ H Q->wpAny (model X.prog X.w) X.A (isTrue e X.env whole) (TP X pins σ Q) X.xe s
def PW.pt{X:Cx}{e:Expr}{t:TT}(h:PW X e t):PT X e t:=h _
def PA(X:Cx)(es:List Expr)(t:TA):Prop:=
 ∀(pos:Pos)(pins:Lo)(s:Shared)(σ : St)(H:Hp)(Q:L6->Hp->Prop),Inv X pins σ H s->t σ H Q->wpAny (model X.prog X.w) X.A (spliced (backTo pos (starEach es X.env))) (AP X pins σ Q) X.xe s
def PS(X:Cx)(st:Stmt)(t:TS):Prop:=
 ∀pins s σ H(D:Ends),Inv X pins σ H s->t D σ H->wpAny (model X.prog X.w) X.A (exec st X.env) (SP X pins D) X.xe s
def PSs(X:Cx)(st:List Stmt)(t:TS):Prop:=
 ∀pins s σ H(D:Ends),Inv X pins σ H s->t D σ H->wpAny (model X.prog X.w) X.A (execs st X.env) (SP X pins D) X.xe s
def thn{α : Type}{t:Sem α}{Q Q':α->Shared->Prop}{M:Model}{A:Around}{E:Ly}{s:Shared}(h:wpAny M A t Q E s)(hQ:∀a s,Q a s->Q' a s):wpAny M A t Q' E s:=wpAny_mono h hQ λ_ _ x=>x
section
variable{X:Cx}
inductive lU(i:Nat)(σ : St)(H:Hp)(Q:VK):Prop
 | mk:∀v,σ[i]? = some (some v)->Q v H->lU i σ H Q
def tC(v:V):TE:=λ_ H Q=>Q v H
def K1(hN:X.N[i]? = some x)(hv:Vis X.env.scope x)(hd:(x == ("__debug__" : Str))=false:=by decide)(hcd:(x == ("__classdict__" : Str))=false:=by decide):PE X (.Name x pos) (lU i):=by
 intro pins s σ H Q I h;obtain⟨v,e,h⟩:=h;obtain⟨m,hn,hl⟩:=I.loc;obtain⟨u,r,l⟩:=hl i x v hN e hv;have fin:EP X pins σ Q u s:=⟨v,H,I,r,h⟩;rcases l with ⟨hk,hm⟩ | ⟨hk,c,hc,hcell⟩
 ·exact wpAny_Name (wpAny_loadName_local I.ok.kind hk hn hm fin) hd
 ·rcases hk with hk | hk
  ·exact wpAny_Name (wpAny_loadName_cell I.ok.kind hk hc hcell fin) hd
  ·exact wpAny_Name (wpAny_loadName_free I.ok.kind hk hc hcell fin hcd) hd
def aI{i j pos}:PE X (.Constant (.int i) j pos) (tC (.int i)):=λ_ _ _ H _ I h=>wpAny_Constant_int ⟨.int i,H,I.tok _,⟨_,rfl⟩,h⟩
def Ds{b j pos}:PE X (.Constant (.bool b) j pos) (tC (.bl b)):=λ_ _ _ H _ I h=>Constant_bool ⟨.bl b,H,I,rfl,h⟩
def jT{j pos}:PE X (.Constant .none j pos) (tC .non):=λ_ _ _ H _ I h=>Constant_none ⟨.non,H,I,rfl,h⟩
def bH{x j pos}:PE X (.Constant (.str x) j pos) (tC (.str x)):=λ_ _ _ H _ I h=>Calls.Constant_str ⟨.str x,H,I.tok _,⟨_,rfl⟩,h⟩
def Gl(X:Cx)(x:Str):Prop:=X.env.kindOf x=some .globalImplicit
def iM(I:Inv X pins σ H s)(hg:Gl X x)(hm:X.mg x=some u)(h:Q u s)
  (hd:(x == ("__debug__" : Str))=false:=by decide):wpAny (model X.prog X.w) X.A (eval (.Name x pos) X.env) Q E s:=
 Calls.Name_function_global I.ok.kind hg (Calls.loadGlobal_global (by rw[I.ok.glob]; exact I.mod.glob.keeps I.bk) hm h) hd
def lJ(I:Inv X pins σ H s)(hg:Gl X x)(hm:X.mg x=none)(hv:bootBuiltins x=some u)(h:Q u s)
  (hn:x ≠ "__name__":=by decide) (hd:(x == ("__debug__" : Str))=false:=by decide):wpAny (model X.prog X.w) X.A (eval (.Name x pos) X.env) Q E s:=by
 obtain⟨mb,h1,h2⟩:=I.mod.blt;exact Calls.Name_function_global I.ok.kind hg (Calls.loadGlobal_builtin (by rw[I.ok.glob]; exact I.mod.glob.keeps I.bk) hm (by rw[I.ok.blt]; exact h1.keeps I.bk) ((h2 x hn).trans hv) h) hd
def cM(hg:Gl X x)(hm:X.mg x=some u)(r:bY v u)(hd:(x == ("__debug__" : Str))=false:=by decide):PE X (.Name x pos) (tC v):=
 λ_ _ _ H _ I h=>iM I hg hm ⟨v,H,I,r,h⟩ hd
def sL(hg:Gl X x)(hm:X.mg x=none)(hv:bootBuiltins x=some u)(r:bY v u)(hn:x ≠ "__name__":=by decide)(hd:(x == ("__debug__" : Str))=false:=by decide):PE X (.Name x pos) (tC v):=
 λ_ _ _ H _ I h=>lJ I hg hm hv ⟨v,H,I,r,h⟩ hn hd
variable{a b:Expr}{ta tb:TE}{pos:Pos}
def PC(X:Cx)(op:CmpOp)(a b:Expr)(t:TE):Prop:=
 ∀pins s σ H(Q:VK),Inv X pins σ H s->t σ H Q->
  wpAny (model X.prog X.w) X.A (eval a X.env) (λv s₁=>wpAny (model X.prog X.w) X.A (eval b X.env) (λu s₂=>wpAny (model X.prog X.w) X.A (compareOp op v u) (EP X pins σ Q) X.xe s₂) X.xe s₁) X.xe s
def G8(b:Expr)(h:op ≠ .In)(h2:op ≠ .NotIn):behindInMarks op b=false:=by
 have e1:(op == CmpOp.In)=false:=by cases op <;> first | rfl | exact absurd rfl h
 have e2:(op == CmpOp.NotIn)=false:=by cases op <;> first | rfl | exact absurd rfl h2
 cases b <;> simp [behindInMarks,e1,e2]
inductive tBX(Q:(Bool->Hp->Prop))(x:V)(H1:Hp):Prop
 | mk:∀c,x = .bl c->Q c H1->tBX Q x H1
def tB(t:TE):TT:=λσ H Q=>t σ H (tBX Q)
def nY(h:PC X op a b t)(h1:behindInMarks op b=false:=by first | exact G8 _ (by decide) (by decide) | rfl):PT X (.Compare a [op] [b] pos) (tB t):=by
 intro pins s σ H Q I hw;refine wpAny_isTrue_Compare1 (thn (h pins s σ H _ I hw) λv s1 h1=>thn h1 λu s2 h2=>thn h2 λc s3 zQq=>?_) h1;obtain⟨x,H1,I1,r1,q1⟩:=zQq;obtain⟨d,rfl,q⟩:=q1;cases r1;exact wpAny_truthy_bool ⟨H1,I1,q⟩
def dH(h:PE X e t)(he:∀whole,isTrue e X.env whole=(do let v <- whole; standAt e.pos; holding [v] (truthy v)):=by intro _; rfl):PT X e (tB t):=by
 intro pins s σ H Q I hw;refine isTrue_plain (thn (h pins s σ H _ I hw) λv s1 zQq=>?_) (he _);obtain⟨x,H1,I1,r1,q1⟩:=zQq;obtain⟨d,rfl,q⟩:=q1;cases r1;exact wpAny_truthy_bool ⟨H1,I1,q⟩
variable{tA tB':TT}{rest:List Expr}
abbrev Kf(u:TT)(σ : St)(Q:(Bool->Hp->Prop)):Bool->Hp->Prop:=λc H1=>if c=true then u σ H1 Q else Q false H1
def tAnd(t u:TT):TT:=λσ H Q=>t σ H (Kf u σ Q)
abbrev tOr_1(u:TT)(σ : St)(Q:(Bool->Hp->Prop)):Bool->Hp->Prop:=λc H1=>if c=true then Q true H1 else u σ H1 Q
def tOr(t u:TT):TT:=λσ H Q=>t σ H (tOr_1 u σ Q)
abbrev KP(Q:(Bool->Hp->Prop)):Bool->Hp->Prop:=λc H1=>Q (!c) H1
def tNot(t:TT):TT:=λσ H Q=>t σ H (KP Q)
def iH(ha:PT X a tA):PW X (.BoolOp .And [a] pos) tA:=by
 intro wh pins s σ H Q I h;refine isTrue_and (thn (ha pins s σ H Q I h) λc s1 e=>?_);cases c with
 | true=>exact isTrue_and_nil e
 | false=>exact e
def iY(ha:PT X a tA):PW X (.BoolOp .Or [a] pos) tA:=by
 intro wh pins s σ H Q I h;refine isTrue_or (thn (ha pins s σ H Q I h) λc s1 e=>?_);cases c with
 | false=>exact isTrue_or_nil e
 | true=>exact e
def lF(ha:PT X a tA)(hb:PW X (.BoolOp .And (b::rest) pos) tB'):PW X (.BoolOp .And (a::b::rest) pos) (tAnd tA tB'):=by
 intro wh pins s σ H Q I h;refine isTrue_and (thn (ha pins s σ H _ I h) λc s1 zQq=>?_);obtain⟨H1,I1,q1⟩:=zQq;cases c with
 | true=>exact hb wh pins s1 σ H1 Q I1 q1
 | false=>exact⟨H1,I1,q1⟩
def mC(ha:PT X a tA)(hb:PW X (.BoolOp .Or (b::rest) pos) tB'):PW X (.BoolOp .Or (a::b::rest) pos) (tOr tA tB'):=by
 intro wh pins s σ H Q I h;refine isTrue_or (thn (ha pins s σ H _ I h) λc s1 zQq=>?_);obtain⟨H1,I1,q1⟩:=zQq;cases c with
 | true=>exact⟨H1,I1,q1⟩
 | false=>exact hb wh pins s1 σ H1 Q I1 q1
def cR(ha:PT X a tA):PT X (.UnaryOp .Not a pos) (tNot tA):=by
 intro pins s σ H Q I h;exact isTrue_not (ha pins s σ H (λc H1=>Q (!c) H1) I h)
inductive GA(tb:TE)(σ : St)(Q:VK)(x:V)(H1:Hp):Prop
 | mk:∀c,x = .bl c->(if c=true then tb σ H1 Q else Q (.bl false) H1)->GA tb σ Q x H1
def tAndV(ta tb:TE):TE:=λσ H Q=>ta σ H (GA tb σ Q)
def uN{op}(h:PE X a t):PE X (.BoolOp op [a] pos) t:=λpins s σ H Q I hw=>BoolOp_one (h pins s σ H Q I hw)
def n5(ha:PE X a ta)(hb:PE X (.BoolOp .And (b::rest) pos) tb):PE X (.BoolOp .And (a::b::rest) pos) (tAndV ta tb):=by
 intro pins s σ H Q I h;refine BoolOp_and (thn (ha pins s σ H _ I h) λv s1 zQq=>?_);obtain⟨x,H1,I1,r1,q1⟩:=zQq;obtain⟨c,rfl,q1⟩:=q1;cases r1;refine wpAny_truthy_bool ?_;cases c with
 | true=>exact hb pins s1 σ H1 Q I1 q1
 | false=>exact⟨.bl false,H1,I1,rfl,q1⟩
abbrev tIf_1(ta:TE)(tb:TE)(σ : St)(Q:VK):Bool->Hp->Prop:=λc H1=>if c=true then ta σ H1 Q else tb σ H1 Q
def tIf(t:TT)(ta tb:TE):TE:=λσ H Q=>t σ H (tIf_1 ta tb σ Q)
def BD(hc:PT X c tA)(ha:PE X a ta)(hb:PE X b tb):PE X (.IfExp c a b pos) (tIf tA ta tb):=by
 intro pins s σ H Q I h;refine wpAny_IfExp (thn (hc pins s σ H _ I h) λd s1 zQq=>?_);obtain⟨H1,I1,q1⟩:=zQq;cases d with
 | true=>exact ha pins s1 σ H1 Q I1 q1
 | false=>exact hb pins s1 σ H1 Q I1 q1
end
def SqL(K:Ln)(H:Hp)(a:Addr)(xs:L6):Prop:=
 Rd H a (.lst xs)\/
  ∃(o:Obj) (its:Array Value) (n:Nat),K.lookup a=some o/\o.cls = .type "list"/\o.dict=none/\o.data = .seq its n/\its.size<=sizeLine/\bZ xs its.toList
def SqT(K:Ln)(H:Hp)(a:Addr)(xs:L6):Prop:=
 Rd H a (.tup xs)\/
  ∃(o:Obj) (its:Array Value) (n:Nat),K.lookup a=some o/\o.cls = .type "tuple"/\o.data = .seq its n/\its.size<=sizeLine/\bZ xs its.toList
def absV:Value->Option V
 | .none=>some .non
 | .bool b=>some (.bl b)
 | .int i _=>some (.int i)
 | .str x _=>some (.str x)
 | .bytes b _=>some (.byt b)
 | .float b _=>some (.flt b)
 | .ref a=>some (.ref a)
 | .type n=>some (.ty n)
 | _=>none
def bY.abs(r:bY x u):absV u=some x:=by
 cases x with
 | non=>cases r; rfl
 | bl _=>cases r; rfl
 | int _=>obtain⟨t,rfl⟩:=r; rfl
 | str _=>obtain⟨t,rfl⟩:=r; rfl
 | byt _=>obtain⟨t,rfl⟩:=r; rfl
 | flt _=>obtain⟨t,rfl⟩:=r; rfl
 | ref _=>cases r; rfl
 | ty _=>cases r; rfl
def bY.inj(r:bY x u)(q:bY y u):x=y:=Option.some.inj (r.abs.symm.trans q.abs)
def bZ.inj:∀{xs ys:L6}{us:Lv},bZ xs us->bZ ys us->xs=ys
 | _,_,_,.nil,.nil=>rfl
 | _,_,_,.cons r t,.cons r' t'=>by rw[r.inj r',bZ.inj t t']
section
variable{X:Cx}{pins:Lo}{σ : St}{H:Hp}{s:Shared}{a:Addr}{xs ys:L6}
def SqL.of{K:Ln}(h:H a=some (.lst xs)):SqL K H a xs:=.inl (.inl h)
def SqT.of{K:Ln}(h:H a=some (.tup xs)):SqT K H a xs:=.inl (.inl h)
def Inv.list(I:Inv X pins σ H s)(h:SqL X.K H a xs):∃its:Lv,bZ xs its/\PlainL s.heap a its.toArray/\xs.length<=sizeLine:=by
 rcases h with h | ⟨o,its,n,hk,hc,hd,hs,hz,r⟩
 ·obtain⟨z,its,n,r,e⟩:=h.ok I.hok;exact⟨its,r,⟨_,n,e,rfl,rfl,rfl⟩,z⟩
 ·refine⟨its.toList,r,⟨o,n,I.kIn a o hk,hc,hd,by simpa using hs⟩,?_⟩;have e:=r.length;simp only[length_toList]at e;omega
def Inv.tuple(I:Inv X pins σ H s)(h:SqT X.K H a xs):∃its:Lv,bZ xs its/\IsTup s.heap a its.toArray/\xs.length<=sizeLine:=by
 rcases h with h | ⟨o,its,n,hk,hc,hs,hz,r⟩
 ·obtain⟨z,its,r,p⟩:=h.ok I.hok;exact⟨its,r,p,z⟩
 ·refine⟨its.toList,r,⟨o,I.kIn a o hk,hc,n,by simpa using hs⟩,?_⟩;have e:=r.length;simp only[length_toList]at e;omega
def Inv.list_inj(I:Inv X pins σ H s)(h:SqL X.K H a xs)(h':SqL X.K H a ys):xs=ys:=by
 obtain⟨its,r,⟨o,n,e,_,_,d⟩,_⟩:=I.list h;obtain⟨its',r',⟨o',n',e',_,_,d'⟩,_⟩:=I.list h';rw[e]at e'; cases e';rw[d]at d';injection d' with d1 _
 have:its=its':=by simpa using congrArg Array.toList d1
 subst this;exact r.inj r'
def Inv.tuple_inj(I:Inv X pins σ H s)(h:SqT X.K H a xs)(h':SqT X.K H a ys):xs=ys:=by
 obtain⟨its,r,⟨o,e,_,n,d⟩,_⟩:=I.tuple h;obtain⟨its',r',⟨o',e',_,n',d'⟩,_⟩:=I.tuple h';rw[e]at e'; cases e';rw[d]at d';injection d' with d1 _
 have:its=its':=by simpa using congrArg Array.toList d1
 subst this;exact r.inj r'
end
abbrev Cx.wish(X:Cx)(E:Ly):Cx:={ X with xe:=E }
abbrev Cx.nox(X:Cx):Cx:=X.wish λ_ _=>False
def Cx.Ok.wish{X:Cx}(ok:X.Ok)(E:Ly):(X.wish E).Ok:=
 ⟨ok.mod,ok.kind,ok.glob,ok.blt,ok.above,ok.inj,ok.has,ok.cab,ok.hd,ok.frames,ok.stk,ok.exf,ok.bs,ok.bsz,ok.noex,ok.exfs,ok.funs,ok.frf⟩
def Cx.Ok.unwish{X:Cx}{E:Ly}(ok:(X.wish E).Ok):X.Ok:=
 ⟨ok.mod,ok.kind,ok.glob,ok.blt,ok.above,ok.inj,ok.has,ok.cab,ok.hd,ok.frames,ok.stk,ok.exf,ok.bs,ok.bsz,ok.noex,ok.exfs,ok.funs,ok.frf⟩
section
variable{X:Cx}{pins:Lo}{σ : St}{H:Hp}{s:Shared}{E:Ly}
def Inv.wish(I:Inv X pins σ H s)(E:Ly):Inv (X.wish E) pins σ H s:=⟨I.ok.wish E,I.os,I.bare,I.base,I.loc,I.cell,I.free,I.freeC,I.pin,I.hok,I.len⟩
def Inv.unwish(I:Inv (X.wish E) pins σ H s):Inv X pins σ H s:=⟨I.ok.unwish,I.os,I.bare,I.base,I.loc,I.cell,I.free,I.freeC,I.pin,I.hok,I.len⟩
def SP.unwish(h:SP (X.wish E) pins D f s'):SP X pins D f s':=by
 cases f with
 | next=>obtain⟨σ',H',I,q⟩:=h; exact⟨σ',H',I.unwish,q⟩
 | brk=>obtain⟨σ',H',I,q⟩:=h; exact⟨σ',H',I.unwish,q⟩
 | cont=>obtain⟨σ',H',I,q⟩:=h; exact⟨σ',H',I.unwish,q⟩
 | ret u=>obtain⟨v,σ',H',I,r,q⟩:=h; exact⟨v,σ',H',I.unwish,r,q⟩
end
section
variable{X:Cx}{st:Stmt}{rest:List Stmt}{t u:TS}{e:Expr}{te:TE}{pos:Pos}
def Ac:TS:=λD σ H=>D.nx σ H
def vP(t u:TS):TS:=λD σ H=>t (D.next (u D)) σ H
def aO:PSs X [] Ac:=λ_ _ σ H _ I h=>wpAny_execs_nil ⟨σ,H,I,h⟩
def aA(h1:PS X st t)(h2:PSs X rest u):PSs X (st::rest) (vP t u):=by
 intro pins s σ H D I h;refine wpAny_execs_cons (thn (h1 pins s σ H (D.next (u D)) I h) λf s1 q=>?_);cases f with
 | next=>
  obtain⟨σ',H',I',q⟩:=q;exact h2 pins s1 σ' H' D I' q
 | ret v=>exact q
 | brk=>exact q
 | cont=>exact q
def aC(h1:PS X st t):PSs X [st] t:=by
 intro pins s σ H D I h;refine wpAny_execs_cons (thn (h1 pins s σ H D I h) λf s1 q=>?_);cases f with
 | next=>exact wpAny_execs_nil q
 | ret v=>exact q
 | brk=>exact q
 | cont=>exact q
def Inv.quiet(I:Inv X pins σ H s):interactive X.env=false:=by simp [interactive,I.ok.kind]
abbrev IN(D:Ends)(σ : St):V->Hp->Prop:=λy_0 H1=>D.nx σ H1
def Jt(te:TE):TS:=λD σ H=>te σ H (IN D σ)
def aY(he:PE X e te)(hs:swapsWith e none pos.line X.env=pure false:=by rfl):PS X (.Expr e pos) (Jt te):=by
 intro pins s σ H D I h;exact wpAny_Expr_any (thn (he pins s σ H _ I h) λv s1 ⟨x,H1,I1,r1,q1⟩=>⟨σ,H1,I1,q1⟩) I.quiet hs
def KN(te:TE):TS:=λD σ H=>te σ H D.rt
def aQ(he:PE X e te):PS X (.Return (some e) pos) (KN te):=by
 intro pins s σ H D I h;exact wpAny_Return_some (thn (he pins s σ H _ I h) λv s1 ⟨x,H1,I1,r1,q1⟩=>⟨x,σ,H1,I1,r1,q1⟩)
abbrev KS(t:TS)(u:TS)(D:Ends)(σ : St):Bool->Hp->Prop:=λb H1=>if b=true then t D σ H1 else u D σ H1
def IL(c:TT)(t u:TS):TS:=λD σ H=>c σ H (KS t u D σ)
def a8{c:Expr}{a b:List Stmt}{tc:TT}(hc:PT X c tc)(ha:PSs X a t)(hb:PSs X b u):PS X (.If c a b pos) (IL tc t u):=by
 intro pins s σ H D I h;refine wpAny_If (thn (hc pins s σ H _ I h) λd s1 zQq=>?_);obtain⟨H1,I1,q1⟩:=zQq;cases d with
 | true=>exact ha pins s1 σ H1 D I1 q1
 | false=>exact hb pins s1 σ H1 D I1 q1
end
abbrev TG:=V->St->Hp->(St->Hp->Prop)->Prop
abbrev TGs:=L6->St->Hp->(St->Hp->Prop)->Prop
def PG(X:Cx)(target:Expr)(t:TG):Prop:=
 ∀pins s σ H(v:V)(u:Value)(Q:St->Hp->Prop),Inv X pins σ H s->bY v u->t v σ H Q->
  wpAny (model X.prog X.w) X.A (assign target X.env u) (λ_ s'=>∃σ' H',Inv X pins σ' H' s'/\Q σ' H') X.xe s
def PGs(X:Cx)(ts:List Expr)(t:TGs):Prop:=
 ∀pins s σ H(vs:L6)(us:Lv)(Q:St->Hp->Prop),Inv X pins σ H s->bZ vs us->t vs σ H Q->
  wpAny (model X.prog X.w) X.A (assignInOrder ((assignEach ts X.env).map (·.2)) us) (λ_ s'=>∃σ' H',Inv X pins σ' H' s'/\Q σ' H') X.xe s
abbrev TIp:=V->V->Hp->VK->Prop
def PIp(X:Cx)(op:Operator)(t:TIp):Prop:=
 ∀pins s σ H(x y:V)(v u:Value)(Q:VK),Inv X pins σ H s->bY x v->bY y u->t x y H Q->
  wpAny (model X.prog X.w) X.A (inplaceOp op v u) (EP X pins σ Q) X.xe s
section
variable{X:Cx}{pos:Pos}
def rV(i:Nat):TG:=λv σ H Q=>Q (σ.set i (some v)) H
def bG{i:Nat}{x:Str}(hN:X.N.Nodup)(hi:X.N[i]? = some x)(hx:Loc X.env.scope x)(hf:X.fn x=true\/X.env.scope.names.lookup x=some .local:=by first | exact .inl rfl | exact .inr rfl | assumption):PG X (.Name x pos) (rV i):=by
 intro pins s σ H v u Q I r h;exact wpAny_assign_Name (tG I hN hi hx r (λs' I'=>⟨_,H,I',h⟩) hf)
def gNil:TGs:=λvs σ H Q=>vs=[]/\Q σ H
abbrev JY(u:TGs)(Q:(St->Hp->Prop))(r:L6):St->Hp->Prop:=λσ' H'=>u r σ' H' Q
inductive KB(t:TG)(u:TGs)(vs:L6)(σ : St)(H:Hp)(Q:(St->Hp->Prop)):Prop
 | mk:∀v r,vs=v::r->t v σ H (JY u Q r)->KB t u vs σ H Q
def iJ:PGs X [] gNil:=by
 intro pins s σ H vs us Q I r h;obtain⟨e,h⟩:=h;subst e;cases r;exact assignInOrder_nil ⟨σ,H,I,h⟩
def cJ{e:Expr}{es:List Expr}{t:TG}{u:TGs}(h1:PG X e t)(h2:PGs X es u)
  (hs:(assignEach (e::es) X.env).map (·.2)=assign e X.env::(assignEach es X.env).map (·.2):=by rfl):PGs X (e::es) (KB t u):=by
 intro pins s σ H vs us Q I r h;obtain⟨v,vr,e1,h⟩:=h;subst e1;cases r with
 | cons r rr=>
  rw[hs];refine assignInOrder_cons (thn (h1 pins s σ H _ _ _ I r h) λ_ s1 zQq=>?_);obtain⟨σ1,H1,I1,q1⟩:=zQq;exact h2 pins s1 σ1 H1 _ _ Q I1 rr q1
inductive LT(K:Ln)(n:Nat)(t:TGs)(v:V)(σ : St)(H:Hp)(Q:(St->Hp->Prop)):Prop
 | mk:∀a xs,v = .ref a->SqT K H a xs->xs.length=n->t xs σ H Q->LT K n t v σ H Q
def K0(hc:X.calm=true)(h:PGs X es t)
  (hn:(assignEach es X.env).length=n:=by rfl) (hst:(assignEach es X.env).findIdx? (·.1)=none:=by rfl):PG X (.Tuple es k pos) (LT X.K n t):=by
 intro pins s σ H v u Q I r hw;obtain⟨a,xs,e1,hq,hl,hw⟩:=hw;subst e1;cases r;obtain⟨its,rv,ht,hz⟩:=I.tuple hq;refine assign_Tuple_tuple (I.ok.hd hc) ht (by simp [hn,<- hl,rv.length]) hst λh' hx=>?_;have I1:Inv X pins σ H { s with heap:=h' }:=I.kept (t':=s.toks) λb o e=>hx b o (ne_of_lt (lt_size e)) e;exact h pins _ σ H xs _ Q I1 (by simpa using rv) hw
abbrev F9(g:TG)(D:Ends)(σ : St):V->Hp->Prop:=λx H1=>g x σ H1 D.nx
def tAsg(te:TE)(g:TG):TS:=λD σ H=>te σ H (F9 g D σ)
def uL{tg e:Expr}{te:TE}{g:TG}(he:PE X e te)(hg:PG X tg g)(hs:swapsWithSole [tg] e pos.line X.env=pure false:=by rfl)(hw:swappedStores [tg] e X.env=pure none:=by rfl)
  (h1:(assignEach [tg] X.env).map (·.2)=[assign tg X.env]:=by rfl):PS X (.Assign [tg] e pos) (tAsg te g):=by
 intro pins s σ H D I h;refine wpAny_Assign_stores (thn (he pins s σ H _ I h) λv s1 zQq=>?_) hs hw;obtain⟨x,H1,I1,r1,q1⟩:=zQq;rw[h1];exact thn (hg pins s1 σ H1 x v _ I1 r1 q1) λ_ s2 q=>q
def aX{i:Nat}{x:Str}{e:Expr}{te:TE}{pos':Pos}(hN:X.N.Nodup)(hi:X.N[i]? = some x)(hx:Loc X.env.scope x)(he:PE X e te)(hs:swapsWith e (some (.Name x pos')) pos.line X.env=pure false:=by rfl)(hf:X.fn x=true\/X.env.scope.names.lookup x=some .local:=by first | exact .inl rfl | exact .inr rfl | assumption) :
  PS X (.Assign [.Name x pos'] e pos) (tAsg te (rV i)):=by
 intro pins s σ H D I h;refine wpAny_Assign_Name (thn (he pins s σ H _ I h) λv s1 zQq=>?_) hs;obtain⟨y,H1,I1,r1,q1⟩:=zQq;exact tG I1 hN hi hx r1 (λs2 I2=>⟨_,H1,I2,q1⟩) hf
abbrev Kd(i:Nat)(D:Ends)(σ : St):V->Hp->Prop:=λz H2=>D.nx (σ.set i (some z)) H2
abbrev Ke(i:Nat)(ti:TIp)(D:Ends)(σ : St)(x:V):V->Hp->Prop:=λy H1=>ti x y H1 (Kd i D σ)
inductive tAug(i:Nat)(te:TE)(ti:TIp)(D:Ends)(σ : St)(H:Hp):Prop
 | mk:∀x,σ[i]? = some (some x)->te σ H (Ke i ti D σ x)->tAug i te ti D σ H
def CY{i:Nat}{x:Str}{e:Expr}{te:TE}{op:Operator}{ti:TIp}{pos':Pos}(hN:X.N.Nodup)(hi:X.N[i]? = some x)(hx:Loc X.env.scope x)(he:PE X e te)(ho:PIp X op ti)(hf:X.fn x=true\/X.env.scope.names.lookup x=some .local:=by first | exact .inl rfl | exact .inr rfl | assumption) :
  PS X (.AugAssign (.Name x pos') op e pos) (tAug i te ti):=by
 intro pins s σ H D I h;obtain⟨v,e1,h⟩:=h;obtain⟨m,hn,hl⟩:=I.loc;have vis:Vis X.env.scope x:=by rcases hx with k | k; exact .inl k; exact .inr (.inl k)
 obtain⟨u,r,l⟩:=hl i x v hi e1 vis;refine wpAny_AugAssign_Name ?_;have go:wpAny (model X.prog X.w) X.A (eval e X.env) (λw s₂=>wpAny (model X.prog X.w) X.A (inplaceOp op u w) (λr s₃=>wpAny (model X.prog X.w) X.A (storeName X.env x r) (λ_=>SP X pins D .next) X.xe s₃) X.xe s₂) X.xe s:=by
  refine thn (he pins s σ H _ I h) λw s1 zQq=>?_;obtain⟨y,H1,I1,r1,q1⟩:=zQq;refine thn (ho pins s1 σ H1 v y u w _ I1 r r1 q1) λz s2 zQq=>?_;obtain⟨zv,H2,I2,r2,q2⟩:=zQq;exact tG I2 hN hi hx r2 (λs3 I3=>⟨_,H2,I3,q2⟩) hf
 rcases l with ⟨hk,hm⟩ | ⟨hk,c,hc,hcell⟩
 ·exact wpAny_loadName_local I.ok.kind hk hn hm go
 ·rcases hk with hk | hk
  ·exact wpAny_loadName_cell I.ok.kind hk hc hcell go
  ·rcases hx with k | k
   ·have:X.env.scope.names.lookup x=some .free:=hk;rw[k]at this; cases this
   ·have:X.env.scope.names.lookup x=some .free:=hk;rw[k]at this; cases this
inductive ipI(f:Int->Int->Int)(x:V)(y:V)(H:Hp)(Q:VK):Prop
 | mk:∀i j,x = .int i->y = .int j->Q (.int (f i j)) H->ipI f x y H Q
def HP:PIp X .Add (ipI λi j=>i+j):=by
 intro pins s σ H x y v u Q I r1 r2 h;obtain⟨i,j,e1,e2,q⟩:=h;subst e1; subst e2;obtain⟨t,rfl⟩:=r1;obtain⟨t',rfl⟩:=r2;exact iadd_int ⟨.int _,H,I.tok _,⟨_,rfl⟩,q⟩
def LP:PIp X .Sub (ipI λi j=>i - j):=by
 intro pins s σ H x y v u Q I r1 r2 h;obtain⟨i,j,e1,e2,q⟩:=h;subst e1; subst e2;obtain⟨t,rfl⟩:=r1;obtain⟨t',rfl⟩:=r2;exact isub_int ⟨.int _,H,I.tok _,⟨_,rfl⟩,q⟩
def KJ(c:TT)(tb:TS):TS:=λD σ H=>∃W:Nat->St->Hp->Prop,(∃m,W m σ H)/\∀m σ H,W m σ H->
 c σ H λb H1=>if b=true then ∃N:St->Hp->Prop,(∀σ' H',N σ' H'->∃m',m'<m/\W m' σ' H')/\tb (D.loop (N)) σ H1 else D.nx σ H1
def o8{c:Expr}{body:List Stmt}{tc:TT}{tb:TS}(hp:PassesOwn (model X.prog X.w) X.A X.env X.xe)(hc:PT X c tc)(hb:PSs X body tb):PS X (.While c body [] pos) (KJ tc tb):=by
 intro pins s σ H D I h;obtain⟨W,⟨m0,w0⟩,turn⟩:=h;refine wpAny_While (codeAny_whileLoop (λn s'=>∃σ' H',Inv X pins σ' H' s'/\W n σ' H') ?_ m0 ⟨σ,H,I,w0⟩);rintro n s1 ⟨σ1,H1,I1,w1⟩;refine wpAny_passesOwn hp (thn (hc pins s1 σ1 H1 _ I1 (turn n σ1 H1 w1)) λb s2 zQq=>?_);obtain⟨H2,I2,q2⟩:=zQq;cases b with
 | true=>
  obtain⟨N,hN,q2⟩:=q2;rw[if_pos rfl];refine wpAny_passesOwn hp (thn (hb pins s2 σ1 H2 _ I2 q2) λf s3 q3=>?_);cases f with
  | next=>
   obtain⟨σ3,H3,I3,n3⟩:=q3;obtain⟨m',hm,w3⟩:=hN σ3 H3 n3;exact⟨m',hm,σ3,H3,I3,w3⟩
  | cont=>
   obtain⟨σ3,H3,I3,n3⟩:=q3;obtain⟨m',hm,w3⟩:=hN σ3 H3 n3;exact⟨m',hm,σ3,H3,I3,w3⟩
  | brk=>exact q3
  | ret v=>exact q3
 | false=>
  rw[if_neg Bool.false_ne_true];exact wpAny_execs_nil ⟨σ1,H2,I2,q2⟩
end
structure It where
 go:Nat->Hp->Prop
 yld:Nat->Hp->V->Hp->Prop
 stop:Nat->Hp->Prop
def rB(X:Cx)(pins:Lo)(H:Hp)(b:Addr):Prop:=
 H b=none/\b≠X.env.locals/\b ∉ X.fs/\(b∈X.ex\/X.s₀.heap.objs.size<=b)/\(∀x c,X.env.cells.lookup x=some c->c≠b)/\∀p∈X.pn++pins,p.1≠b
def Inv.fpOk(I:Inv X pins σ H s)(hb:s.heap.objs.size<=b)(hn:H' b=none):rB X pins H' b:=by
 refine⟨hn,ne_of_gt (lt_of_lt_of_le I.lt hb),I.nofs hb,.inr (le_trans I.sz hb),λx c e z=>?_,λp hp z=>?_⟩
 ·obtain⟨v,q⟩:=I.cell x c e;exact absurd (lt_of_lt_of_le q.lt (by rw[z]; exact hb)) (lt_irrefl _)
 ·exact absurd (lt_of_lt_of_le (lt_size (I.pin p hp).1) (by rw[z]; exact hb)) (lt_irrefl _)
structure Turn(P:Program)(w:World)(K:Ln)(tg:Expr)(J:It)(fp:List Addr)(it:Addr)(tn:Nat->Heap->Prop):Prop where
 mem:it∈fp
 obj:∀i h,tn i h->∀b∈fp,∃o,h.get? b=some o/\∀v,o.data ≠ .cell v
 keep:∀i h h',tn i h->(∀b∈fp,∀o,h.get? b=some o->h'.get? b=some o)->tn i h'
 item:∀(X:Cx),X.prog=P->X.w=w->X.K=K->X.calm=true->∀(i:Nat)(pins:Lo)(s:Shared)(σ : St)(H:Hp)(E:Ly),Inv X pins σ H s->(∀b∈fp,rB X pins H b)->tn i s.heap->J.go i H->
  wpAny (model P w) X.A (pyNext (.ref it)) (λr s1=>∃u,r=some u/\
   wpAny (model P w) X.A (letOwnedTupleGo tg (.ref it) u) (λ_ s2=>∃x H',Inv X pins σ H' s2/\bY x u/\J.yld i H x H'/\tn (i+1) s2.heap/\∀b∈fp,H' b=none) E s1) E s
 done:∀(X:Cx),X.prog=P->X.w=w->X.K=K->X.calm=true->∀(i:Nat)(pins:Lo)(s:Shared)(σ : St)(H:Hp)(E:Ly),Inv X pins σ H s->(∀b∈fp,rB X pins H b)->tn i s.heap->J.stop i H->
  wpAny (model P w) X.A (pyNext (.ref it)) (λr s1=>r=none/\Inv X pins σ H s1) E s
 self:∀(A:Around)(i:Nat)(s:Shared)(Q:Ly)(E:Ly),tn i s.heap->Q (.ref it) s->wpAny (model P w) A (pyIter (.ref it)) Q E s
abbrev TI:=St->Hp->(It->Hp->Prop)->Prop
inductive PIE(X:Cx)(pins:Lo)(σ : St)(tg:Expr)(R:It->Hp->Prop)(itv:Value)(s2:Shared):Prop
 | mk:∀(it:Addr)(fp:List Addr)(tn:Nat->Heap->Prop)(J:It)(H':Hp),itv = .ref it->Inv X pins σ H' s2->Turn X.prog X.w X.K tg J fp it tn->tn 0 s2.heap->(∀b∈fp,rB X pins H' b)->R J H'->PIE X pins σ tg R itv s2
def PI(X:Cx)(tg iter:Expr)(wi:TI):Prop:=
 ∀pins s σ H(R:It->Hp->Prop),Inv X pins σ H s->wi σ H R->
  wpAny (model X.prog X.w) X.A (eval iter X.env) (λv s1=>wpAny (model X.prog X.w) X.A (pyIter v) (PIE X pins σ tg R) X.xe s1) X.xe s
def Bb(ho:s.heap.get? it=some o)(hc:o.cls = .type n)(hd:o.data = .fields vs)
  (hn:["enumerate","zip","dict_itemiterator","dict_reverseitemiterator","odict_iterator","itertools.zip_longest","itertools.pairwise"].contains n=false) (hQ:Q () s):wpAny M A (letOwnedTupleGo tg (.ref it) u) Q E s:=by
 unfold letOwnedTupleGo;cases tg <;> first
  | exact wpAny_pure hQ
  | (cases u <;> first
    | exact wpAny_pure hQ
    | (refine wpAny_bind (wpAny_load ho ?_)
       rw[hc,hd];show wpAny M A (if (["enumerate","zip","dict_itemiterator","dict_reverseitemiterator","odict_iterator","itertools.zip_longest","itertools.pairwise"].contains n && vs[0]? == some (rawInt _))=true then _ else _) Q E s;rw[if_neg (by intro h; rw[hn,Bool.false_and]at h; cases h)];exact wpAny_pure hQ))
def Itl(K:Ln)(a:Addr):It:=
 ⟨λi H=>∃xs x,SqL K H a xs/\xs[i]? = some x,λi H x H'=>H'=H/\∀xs,SqL K H a xs->xs[i]? = some x,λi H=>∃xs,SqL K H a xs/\xs.length<=i⟩
def Itt(K:Ln)(a:Addr):It:=
 ⟨λi H=>∃xs x,SqT K H a xs/\xs[i]? = some x,λi H x H'=>H'=H/\∀xs,SqT K H a xs->xs[i]? = some x,λi H=>∃xs,SqT K H a xs/\xs.length<=i⟩
def Itr(lo:Int)(n:Nat):It:=⟨λi _=>i<n,λi H x H'=>H'=H/\x = .int (lo+i),λi _=>n<=i⟩
def wG{P:Program}{w:World}{K:Ln}{tg:Expr}(a it:Addr):Turn P w K tg (Itl K a) [it] it (λi h=>h.IsListIter it a i) where
 mem:=by simp
 obj:=λi h st b hb=>by
  have e:b=it:=by simpa using hb
  subst e;obtain⟨o,e,c,d⟩:=st;exact⟨o,e,λv z=>by rw[d]at z; cases z⟩
 keep:=λi h h' st k=>st.at λo e=>k it (by simp) o e
 item:=by
  intro X hP hw hK hc i pins s σ H E I hf st hg;subst hP hw hK;obtain⟨xs,x,hq,hx⟩:=hg;obtain⟨its,rv,p,hz⟩:=I.list hq;obtain⟨u,hu,ru⟩:=rv.get hx;obtain⟨f0,f1,f2,f3,f4,f5⟩:=hf it (by simp);refine wpAny_pyNext_list_item st p.isList (x:=u) (by simpa using hu) λh' st' sb=>?_;have I1:Inv X pins σ H { s with heap:=h' }:=I.turned (t':=s.toks) (λb o hb e=>(sb.2 b hb).trans e) f0 f1 f3 f4 f5;obtain⟨o,e,c,d⟩:=id st';exact⟨u,rfl,Bb (s:={ s with heap:=h' }) e c d (by decide) ⟨x,H,I1,ru,⟨rfl,λys hy=>by rw[I.list_inj hy hq]; exact hx⟩,st',λb hb=>(hf b hb).1⟩⟩
 done:=by
  intro X hP hw hK hc i pins s σ H E I hf st hg;subst hP hw hK;obtain⟨xs,hq,hx⟩:=hg;obtain⟨its,rv,p,hz⟩:=I.list hq;obtain⟨f0,f1,f2,f3,f4,f5⟩:=hf it (by simp);have hl:=rv.length;exact wpAny_pyNext_list_end (I.ok.hd hc) st p.isList (by simp; omega) λh' eb=>⟨rfl,I.turned (t':=s.toks) (λb o hb e=>eb b o hb e) f0 f1 f3 f4 f5⟩
 self:=λ_ _ _ _ _ st h=>wpAny_pyIter_listiter st h
def sZ{P:Program}{w:World}{K:Ln}{tg:Expr}(a it:Addr):Turn P w K tg (Itt K a) [it] it (λi h=>h.IsTupleIter it a i) where
 mem:=by simp
 obj:=λi h st b hb=>by
  have e:b=it:=by simpa using hb
  subst e;obtain⟨o,e,c,d⟩:=st;exact⟨o,e,λv z=>by rw[d]at z; cases z⟩
 keep:=λi h h' st k=>st.at λo e=>k it (by simp) o e
 item:=by
  intro X hP hw hK hc i pins s σ H E I hf st hg;subst hP hw hK;obtain⟨xs,x,hq,hx⟩:=hg;obtain⟨its,rv,p,hz⟩:=I.tuple hq;obtain⟨u,hu,ru⟩:=rv.get hx;obtain⟨f0,f1,f2,f3,f4,f5⟩:=hf it (by simp);refine wpAny_pyNext_tuple_item st (show s.heap.IsTuple a its.toArray from p) (x:=u) (by simpa using hu) λh' st' sb=>?_;have I1:Inv X pins σ H { s with heap:=h' }:=I.turned (t':=s.toks) (λb o hb e=>(sb.2 b hb).trans e) f0 f1 f3 f4 f5;obtain⟨o,e,c,d⟩:=id st';exact⟨u,rfl,Bb (s:={ s with heap:=h' }) e c d (by decide) ⟨x,H,I1,ru,⟨rfl,λys hy=>by rw[I.tuple_inj hy hq]; exact hx⟩,st',λb hb=>(hf b hb).1⟩⟩
 done:=by
  intro X hP hw hK hc i pins s σ H E I hf st hg;subst hP hw hK;obtain⟨xs,hq,hx⟩:=hg;obtain⟨its,rv,p,hz⟩:=I.tuple hq;obtain⟨f0,f1,f2,f3,f4,f5⟩:=hf it (by simp);have hl:=rv.length;exact wpAny_pyNext_tuple_end (I.ok.hd hc) st (show s.heap.IsTuple a its.toArray from p) (by simp; omega) λh' eb=>⟨rfl,I.turned (t':=s.toks) (λb o hb e=>eb b o hb e) f0 f1 f3 f4 f5⟩
 self:=λ_ _ _ _ _ st h=>wpAny_pyIter_tupleiter st h
def CH{P:Program}{w:World}{K:Ln}{tg:Expr}(it:Addr)(lo:Int)(n:Nat):Turn P w K tg (Itr lo n) [it] it (λi h=>IsRangeIter h it (lo+(i:Nat) * 1) ((n:Int) - (i:Nat)) 1) where
 mem:=by simp
 obj:=λi h st b hb=>by
  have e:b=it:=by simpa using hb
  subst e;exact⟨_,st,λv z=>by
   have z':Data.fields _=Data.cell v:=z;cases z'⟩
 keep:=λi h h' st k=>k it (by simp) _ st
 item:=by
  intro X hP hw hK hc i pins s σ H E I hf st hg;subst hP hw hK;obtain⟨f0,f1,f2,f3,f4,f5⟩:=hf it (by simp);have W:=Walks.range (prog:=X.prog) (w:=X.w) (I.ok.hd hc) it lo 1 n;refine W.item i s _ _ hg st λv h' tk hv st' kk=>?_;obtain⟨t,rfl⟩:=hv;have I1:Inv X pins σ H { s with heap:=h',toks:=tk }:=I.turned (λb o hb e=>kk b o (by simpa using hb) e) f0 f1 f3 f4 f5;refine⟨_,rfl,Bb (s:={ s with heap:=h',toks:=tk }) (n:="range_iterator") st' rfl rfl (by decide) ⟨.int (lo+i),H,I1,⟨t,?_⟩,⟨rfl,rfl⟩,st',λb hb=>(hf b hb).1⟩⟩;rw[Int.mul_one]
 done:=by
  intro X hP hw hK hc i pins s σ H E I hf st hg;subst hP hw hK;obtain⟨f0,f1,f2,f3,f4,f5⟩:=hf it (by simp);exact wpAny_pyNext_range_end (I.ok.hd hc) st (by have:n<=i:=hg; omega) λh' eb=>⟨rfl,I.turned (t':=s.toks) (λb o hb e=>eb b o hb e) f0 f1 f3 f4 f5⟩
 self:=λ_ _ _ _ _ st h=>wpAny_pyIter_rangeiter st h
section
variable{X:Cx}{tg:Expr}
inductive HU(K:Ln)(R:(It->Hp->Prop))(x:V)(H1:Hp):Prop
 | mk:∀a,x = .ref a->(∃xs,SqL K H1 a xs)->R (Itl K a) H1->HU K R x H1
def KA(K:Ln)(tl:TE):TI:=λσ H R=>tl σ H (HU K R)
inductive J7(K:Ln)(R:(It->Hp->Prop))(x:V)(H1:Hp):Prop
 | mk:∀a,x = .ref a->(∃xs,SqT K H1 a xs)->R (Itt K a) H1->J7 K R x H1
def iTup(K:Ln)(tl:TE):TI:=λσ H R=>tl σ H (J7 K R)
def Ik{l:Expr}{tl:TE}(hl:PE X l tl):PI X tg l (KA X.K tl):=by
 intro pins s σ H R I h;refine thn (hl pins s σ H _ I h) λv s1 zQq=>?_;obtain⟨x,H1,I1,r1,q1⟩:=zQq;obtain⟨a,e,⟨xs,hq⟩,q⟩:=q1;subst e;cases r1;obtain⟨its,rv,p,hz⟩:=I1.list hq;refine wpAny_pyIter_list p.isList ?_;refine⟨s1.heap.objs.size,[s1.heap.objs.size],_,_,H1,rfl,I1.kept (t':=s1.toks) λb o e=>get?_push_of_some _ e,wG a _,⟨_,get?_push_size _ rfl,rfl,rfl⟩,λb hb=>?_,q⟩;have e:b=s1.heap.objs.size:=by simpa using hb
 subst e;exact I1.fpOk (le_refl _) (I1.hok.fresh (le_refl _))
def Kx{l:Expr}{tl:TE}(hl:PE X l tl):PI X tg l (iTup X.K tl):=by
 intro pins s σ H R I h;refine thn (hl pins s σ H _ I h) λv s1 zQq=>?_;obtain⟨x,H1,I1,r1,q1⟩:=zQq;obtain⟨a,e,⟨xs,hq⟩,q⟩:=q1;subst e;cases r1;obtain⟨its,rv,p,hz⟩:=I1.tuple hq;refine wpAny_pyIter_tuple (show s1.heap.IsTuple a its.toArray from p) ?_;refine⟨s1.heap.objs.size,[s1.heap.objs.size],_,_,H1,rfl,I1.kept (t':=s1.toks) λb o e=>get?_push_of_some _ e,sZ a _,⟨_,get?_push_size _ rfl,rfl,rfl⟩,λb hb=>?_,q⟩;have e:b=s1.heap.objs.size:=by simpa using hb
 subst e;exact I1.fpOk (le_refl _) (I1.hok.fresh (le_refl _))
def GW{pins:Lo}{σ : St}{H:Hp}{s:Shared}{R:It->Hp->Prop}{E:Ly}{lo hi:Int}{t u v:Tok}{tk:Nat}(I:Inv X pins σ H s)(h1:-(2 ^ 62)<=lo)(h2:lo<2 ^ 62)(h3:-(2 ^ 62)<=hi)(h4:hi<2 ^ 62)
  (q:R (Itr lo (hi - lo).toNat) H):wpAny (model X.prog X.w) X.A (pyIter (.ref s.heap.objs.size)) (PIE X pins σ tg R) E { s with heap:=s.heap.push { cls:=.type "range",data:=.fields #[.int lo t,.int hi u,.int 1 v] },toks:=tk }:=by
 refine wpAny_pyIter_range (IsRange.new ..) (small_one h1 h2 h3 h4) ?_;have I1:Inv X pins σ H { s with heap:=s.heap.push { cls:=.type "range",data:=.fields #[.int lo t,.int hi u,.int 1 v] },toks:=tk }:=I.kept λb o e=>get?_push_of_some _ e;refine⟨(s.heap.push { cls:=.type "range",data:=.fields #[.int lo t,.int hi u,.int 1 v] }).objs.size,[(s.heap.push { cls:=.type "range",data:=.fields #[.int lo t,.int hi u,.int 1 v] }).objs.size],_,_,H,rfl,
  I1.kept (t':=tk) λb o e=>get?_push_of_some _ e,CH _ lo (hi - lo).toNat,?_,λb hb=>?_,q⟩
 ·have e1:lo+((0:Nat):Int) * 1=lo:=by simp
  have e2:(((hi - lo).toNat:Nat):Int) - ((0:Nat):Int)=Builtin.Range.rangeSize lo hi 1:=by rw[rangeSize_one]; split <;> omega
  show IsRangeIter _ _ (lo+((0:Nat):Int) * 1) ((((hi - lo).toNat:Nat):Int) - ((0:Nat):Int)) 1;rw[e1,e2];exact get?_push_size _ rfl
 ·have e:b=(s.heap.push { cls:=.type "range",data:=.fields #[.int lo t,.int hi u,.int 1 v] }).objs.size:=by simpa using hb
  subst e;exact I1.fpOk (le_refl _) (I1.hok.fresh (le_refl _))
inductive HS(R:(It->Hp->Prop))(vs:L6)(H1:Hp):Prop
 | mk:∀j:Int,vs=[.int j]->-(2 ^ 62)<=j->j<2 ^ 62->R (Itr 0 j.toNat) H1->HS R vs H1
def iRng1(ta:TA):TI:=λσ H R=>ta σ H (HS R)
def qJ{a:Expr}{ta:TA}{p pos:Pos}(hg:Gl X "range")(hm:X.mg "range" = none)(ha:PA X [a] ta)(hs:starEach [a] X.env=[(false,eval a X.env)]:=by rfl):PI X tg (.Call (.Name "range" p) [a] [] pos) (iRng1 ta):=by
 intro pins s σ H R I h;refine Call_ (lJ I hg hm boot_range (PyProof.Rows.callWith_type1 (thn (ha pos pins s σ H _ I h) λus s1 zQq=>?_) hs rfl));obtain⟨vs,H1,I1,r1,q1⟩:=zQq;obtain⟨j,e,q1,q2,q⟩:=q1;subst e;cases r1 with
 | cons r rr=>
  cases rr;obtain⟨t,rfl⟩:=r;exact call_range_1 (GW I1 (by omega) (by omega) q1 q2 (by simpa using q))
def KU(g:TG)(tb:TS)(D:Ends)(σ : St):It->Hp->Prop:=λJ H1=>∃W:Nat->Nat->St->Hp->Prop,(∃m,W 0 m σ H1)/\∀i m σ H,W i m σ H->
 (J.stop i H/\D.nx σ H)\/(J.go i H/\∃N:St->Hp->Prop,(∀σ' H',N σ' H'->∃m',m'<m/\W (i+1) m' σ' H')/\∀x H',J.yld i H x H'->g x σ H' λσ2 H2=>tb (D.loop (N)) σ2 H2)
def KW(wi:TI)(g:TG)(tb:TS):TS:=λD σ H=>wi σ H (KU g tb D σ)
def uM(fp:List Addr)(h:Heap):Lo:=fp.filterMap λb=>(h.get? b).map λo=>(b,o)
def lI(hb:b∈fp)(e:h.get? b=some o):(b,o)∈uM fp h:=List.mem_filterMap.mpr ⟨b,hb,by rw[e]; rfl⟩
def E6(hp:p∈uM fp h):p.1∈fp/\h.get? p.1=some p.2:=by
 obtain⟨b,hb,e⟩:=List.mem_filterMap.mp hp;cases q:h.get? b with
 | none=>rw[q]at e; cases e
 | some o=>
  rw[q]at e;have e':(b,o)=p:=Option.some.inj e;subst e';exact⟨hb,q⟩
def Inv.pinned(I:Inv X pins σ H s)(hf:∀b∈fp,rB X pins H b)(ho:∀b∈fp,∃o,s.heap.get? b=some o/\∀v,o.data ≠ .cell v):Inv X (pins++uM fp s.heap) σ H s:=
 I.pins_of λp hp=>(mem_append.mp hp).elim (λz=>I.pin p (mem_append_right _ z)) λz=>by
  obtain⟨hb,e⟩:=E6 z;obtain⟨f0,f1,f2,_⟩:=hf p.1 hb;obtain⟨o,e',d⟩:=ho p.1 hb;rw[e]at e'; cases e';exact⟨e,f0,f1,f2,d⟩
def Inv.unpinned(I:Inv X (pins++pl) σ H s):Inv X pins σ H s:=I.pins_of λp hp=>I.pin p (mem_append_right _ (mem_append_left _ hp))
def fZ{iter:Expr}{body:List Stmt}{wi:TI}{g:TG}{tb:TS}{pos:Pos}(hp:PassesOwn (model X.prog X.w) X.A X.env X.xe)(hc:X.calm=true)(hi:PI X tg iter wi)(hg:PG X tg g)(hb:PSs X body tb)
  (hs:∀x,foldedSetIterable iter X.env x=pure x:=by intro _; rfl):PS X (.For tg iter body [] pos) (KW wi g tb):=by
 intro pins s σ H D I h;refine wpAny_For (thn (hi pins s σ H _ I h) λv s1 h1=>thn h1 λitv s2 h2=>?_) hs;obtain⟨it,fp,tn,J,H2,e,I2,T,st2,f2,W,⟨m0,w0⟩,turn⟩:=h2;subst e
 -- what stays true of the iterator's objects through the loop
 have stat:∀{H':Hp},(∀b∈fp,H' b=none)->∀b∈fp,rB X pins H' b:=λhn b hb=>⟨hn b hb,(f2 b hb).2⟩;refine codeAny_forLoop_any (λn s'=>∃i σ' H',Inv X pins σ' H' s'/\tn i s'.heap/\(∀b∈fp,H' b=none)/\W i n σ' H') ?_ m0 ⟨0,σ,H2,I2,st2,λb hb=>(f2 b hb).1,w0⟩;rintro n s3 ⟨i,σ3,H3,I3,st3,fr3,w3⟩;rcases turn i n σ3 H3 w3 with ⟨stop,qn⟩ | ⟨go,N,hN,step⟩
 ·refine wpAny_passesOwn hp (thn (T.done X rfl rfl rfl hc i pins s3 σ3 H3 X.xe I3 (stat fr3) st3 stop) λr s4 zQq=>?_);obtain⟨hr,I4⟩:=zQq;subst hr;exact wpAny_execs_nil ⟨σ3,H3,I4,qn⟩
 ·refine wpAny_passesOwn hp (thn (T.item X rfl rfl rfl hc i pins s3 σ3 H3 X.xe I3 (stat fr3) st3 go) λr s4 zQq=>?_);obtain⟨u,hr,h4⟩:=zQq;subst hr;refine wpAny_passesOwn hp (thn h4 λ_ s5 zQq=>?_);obtain⟨x,H5,I5,r5,y5,st5,fr5⟩:=zQq;have I5':=I5.pinned (stat fr5) (T.obj _ _ st5);refine wpAny_passesOwn hp (thn (hg _ s5 σ3 H5 x u _ I5' r5 (step x H5 y5)) λ_ s6 zQq=>?_);obtain⟨σ6,H6,I6,q6⟩:=zQq;refine wpAny_passesOwn hp (thn (hb _ s6 σ6 H6 _ I6 q6) λf s7 q7=>?_);have again:∀{σ7:St}{H7:Hp},Inv X (pins++uM fp s5.heap) σ7 H7 s7->N σ7 H7->∃m,m<n/\∃i σ' H',Inv X pins σ' H' s7/\tn i s7.heap/\(∀b∈fp,H' b=none)/\W i m σ' H':=λ{σ7 H7} I7 n7=>by
   obtain⟨m',hm,w7⟩:=hN σ7 H7 n7;refine⟨m',hm,i+1,σ7,H7,I7.unpinned,T.keep _ _ _ st5 λb hb o e=>(I7.pin (b,o) (mem_append_right _ (mem_append_right _ (lI hb e)))).1,λb hb=>?_,w7⟩;obtain⟨o,e,d⟩:=T.obj _ _ st5 b hb;exact(I7.pin (b,o) (mem_append_right _ (mem_append_right _ (lI hb e)))).2.1
  cases f with
  | next=>obtain⟨σ7,H7,I7,n7⟩:=q7; exact again I7 n7
  | cont=>obtain⟨σ7,H7,I7,n7⟩:=q7; exact again I7 n7
  | brk=>obtain⟨σ7,H7,I7,q7⟩:=q7; exact⟨σ7,H7,I7.unpinned,q7⟩
  | ret v=>obtain⟨x7,σ7,H7,I7,r7,q7⟩:=q7; exact⟨x7,σ7,H7,I7.unpinned,r7,q7⟩
end
abbrev R2:=V->V->Hp->VK->Prop
def OpR(X:Cx)(f:Value->Value->Sem Value)(r:R2):Prop:=
 ∀pins s σ H(x y:V)(v u:Value)(Q:VK),Inv X pins σ H s->bY x v->bY y u->r x y H Q->
  wpAny (model X.prog X.w) X.A (f v u) (EP X pins σ Q) X.xe s
def UnR(X:Cx)(f:Value->Sem Value)(r:V->Hp->VK->Prop):Prop:=
 ∀pins s σ H(x:V)(v:Value)(Q:VK),Inv X pins σ H s->bY x v->r x H Q->
  wpAny (model X.prog X.w) X.A (f v) (EP X pins σ Q) X.xe s
def gM(X:Cx)(f:Value)(r:L6->Hp->VK->Prop):Prop:=
 ∀pins s σ H(xs:L6)(us:Lv)(Q:VK),Inv X pins σ H s->bZ xs us->r xs H Q->
  wpAny (model X.prog X.w) X.A (call f us) (EP X pins σ Q) X.xe s
def TruR(X:Cx)(r:V->Hp->(Bool->Hp->Prop)->Prop):Prop:=
 ∀pins s σ H(x:V)(v:Value)(Q:Bool->Hp->Prop),Inv X pins σ H s->bY x v->r x H Q->
  wpAny (model X.prog X.w) X.A (truthy v) (TP X pins σ Q) X.xe s
abbrev tOp_2(r:R2)(Q:VK)(x:V):V->Hp->Prop:=λy H2=>r x y H2 Q
abbrev tOp_1(r:R2)(tb:TE)(σ : St)(Q:VK):V->Hp->Prop:=λx H1=>tb σ H1 (tOp_2 r Q x)
def tOp(r:R2)(ta tb:TE):TE:=λσ H Q=>ta σ H (tOp_1 r tb σ Q)
abbrev tUn_1(r:V->Hp->VK->Prop)(Q:VK):V->Hp->Prop:=λx H1=>r x H1 Q
def tUn(r:V->Hp->VK->Prop)(ta:TE):TE:=λσ H Q=>ta σ H (tUn_1 r Q)
inductive rI(C:Int->Int->Prop)(g:Int->Int->V)(x:V)(y:V)(H:Hp)(Q:VK):Prop
 | mk:∀i j,x = .int i->y = .int j->C i j->Q (g i j) H->rI C g x y H Q
inductive rI0(g:Int->Int->V)(x:V)(y:V)(H:Hp)(Q:VK):Prop
 | mk:∀i j,x = .int i->y = .int j->Q (g i j) H->rI0 g x y H Q
inductive rU(g:Int->V)(x:V)(H:Hp)(Q:VK):Prop
 | mk:∀i,x = .int i->Q (g i) H->rU g x H Q
section
variable{X:Cx}{a b c:Expr}{ta tb tc:TE}{pos:Pos}
def Lf(ha:PE X a ta)(hb:PE X b tb){pins:Lo}{s:Shared}{σ : St}{H:Hp}{R:V->V->Hp->Prop}(I:Inv X pins σ H s)
  (h:ta σ H λx H1=>tb σ H1 λy H2=>R x y H2) {Q:Ly} {f:Value->Value->Sem Value}
  (hf:∀v u s2 x y H2,Inv X pins σ H2 s2->bY x v->bY y u->R x y H2->wpAny (model X.prog X.w) X.A (f v u) Q X.xe s2) :
  wpAny (model X.prog X.w) X.A (eval a X.env) (λv s₁=>wpAny (model X.prog X.w) X.A (eval b X.env) (λu s₂=>wpAny (model X.prog X.w) X.A (f v u) Q X.xe s₂) X.xe s₁) X.xe s:=by
 refine thn (ha pins s σ H _ I h) λv s1 zQq=>?_;obtain⟨x,H1,I1,r1,q1⟩:=zQq;refine thn (hb pins s1 σ H1 _ I1 q1) λu s2 zQq=>?_;obtain⟨y,H2,I2,r2,q2⟩:=zQq;exact hf v u s2 x y H2 I2 r1 r2 q2
def bA{op:Operator}{r:R2}(ho:OpR X (binaryOp op) r)(ha:PE X a ta)(hb:PE X b tb):PE X (.BinOp a op b pos) (tOp r ta tb):=by
 intro pins s σ H Q I h;exact wpAny_BinOp (Lf ha hb I h λv u s2 x y H2 I2 rx ry q=>ho pins s2 σ H2 x y v u Q I2 rx ry q)
def BC(ho:UnR X (unaryOp op) r)(ha:PE X a ta):PE X (.UnaryOp op a pos) (tUn r ta):=by
 intro pins s σ H Q I h;exact UnaryOp_ (thn (ha pins s σ H _ I h) λv s1 ⟨x,H1,I1,r1,q1⟩=>ho pins s1 σ H1 x v Q I1 r1 q1)
def opI{f:Value->Value->Sem Value}{C:Int->Int->Prop}{g:Int->Int->Int}
  (rule:∀(i j:Int)(t u:Tok)(s:Shared)(Q:Ly)(E:Ly),C i j->Q (.int (g i j) s.toks) { s with toks:=s.toks+1 }->wpAny (model X.prog X.w) X.A (f (.int i t) (.int j u)) Q E s) :
  OpR X f (rI C λi j=>.int (g i j)):=by
 intro pins s σ H x y v u Q I rx ry h;obtain⟨i,j,rfl,rfl,hc,q⟩:=h;obtain⟨t,rfl⟩:=rx;obtain⟨t',rfl⟩:=ry;exact rule i j t t' s _ _ hc ⟨.int (g i j),H,I.tok _,⟨_,rfl⟩,q⟩
def opI0{f:Value->Value->Sem Value}{g:Int->Int->Int}
  (rule:∀(i j:Int)(t u:Tok)(s:Shared)(Q:Ly)(E:Ly),Q (.int (g i j) s.toks) { s with toks:=s.toks+1 }->wpAny (model X.prog X.w) X.A (f (.int i t) (.int j u)) Q E s) :
  OpR X f (rI0 λi j=>.int (g i j)):=by
 intro pins s σ H x y v u Q I rx ry h;obtain⟨i,j,rfl,rfl,q⟩:=h;obtain⟨t,rfl⟩:=rx;obtain⟨t',rfl⟩:=ry;exact rule i j t t' s _ _ ⟨.int (g i j),H,I.tok _,⟨_,rfl⟩,q⟩
def Iy{f:Value->Value->Sem Value}{g:Int->Int->Bool}
  (rule:∀(i j:Int)(t u:Tok)(s:Shared)(Q:Ly)(E:Ly),Q (.bool (g i j)) s->wpAny (model X.prog X.w) X.A (f (.int i t) (.int j u)) Q E s) :
  OpR X f (rI0 λi j=>.bl (g i j)):=by
 intro pins s σ H x y v u Q I rx ry h;obtain⟨i,j,rfl,rfl,q⟩:=h;obtain⟨t,rfl⟩:=rx;obtain⟨t',rfl⟩:=ry;exact rule i j t t' s _ _ ⟨.bl (g i j),H,I,rfl,q⟩
def CDiv(i j:Int):Prop:=0<j/\j<1073741824
def CPow(i j:Int):Prop:=0<=j/\j<=1000000/\i.natAbs<2 ^ 64
def Ll(i j:Int):Prop:=(-(2 ^ 64)<i/\i<2 ^ 64)\/(-(2 ^ 64)<j/\j<2 ^ 64)
def Ll.ok(h:Ll i j):IntMulOk i j:=by
 rcases h with ⟨h1,h2⟩ | ⟨h1,h2⟩
 ·exact .of_left (intBits_le_64 h1 h2)
 ·exact .of_right (intBits_le_64 h1 h2)
def cU:OpR X (binaryOp .Add) (rI0 λi j=>.int (i+j)):=opI0 λ_ _ _ _ _ _ _ q=>add_int q
def i4:OpR X (binaryOp .Sub) (rI0 λi j=>.int (i - j)):=opI0 λ_ _ _ _ _ _ _ q=>sub_int q
def mG:OpR X (binaryOp .Mult) (rI Ll λi j=>.int (i * j)):=opI λ_ _ _ _ _ _ _ hc q=>mul_int q hc.ok
def m7:OpR X (binaryOp .FloorDiv) (rI CDiv λi j=>.int (i / j)):=opI λi j _ _ _ _ _ hc q=>by
 have h1:(0:Int)<j:=hc.1;have h2:j<1073741824:=hc.2;exact floordiv_int (by omega) (by rw[Int.fdiv_eq_ediv_of_nonneg i (by omega)]; exact q) (.inl (PyProof.noPylong_small (by omega)))
def dU:OpR X (binaryOp .Mod) (rI (λ_ j=>0<j) λi j=>.int (i % j)):=opI λi j _ _ _ _ _ hc q=>by
 have h1:(0:Int)<j:=hc;exact mod_int' (by omega) (by rw[Int.fmod_eq_emod_of_nonneg i (by omega)]; exact q)
def Gr:OpR X (binaryOp .Pow) (rI CPow λi j=>.int (i ^ j.toNat)):=opI λ_ _ _ _ _ _ _ hc q=>pow_int_small hc.1 hc.2.1 hc.2.2 q
def unI{f:Value->Sem Value}{g:Int->Int}
  (rule:∀(i:Int)(t:Tok)(s:Shared)(Q:Ly)(E:Ly),Q (.int (g i) s.toks) { s with toks:=s.toks+1 }->wpAny (model X.prog X.w) X.A (f (.int i t)) Q E s) :
  UnR X f (rU λi=>.int (g i)):=by
 intro pins s σ H x v Q I rx h;obtain⟨i,rfl,q⟩:=h;obtain⟨t,rfl⟩:=rx;exact rule i t s _ _ ⟨.int (g i),H,I.tok _,⟨_,rfl⟩,q⟩
def sX:UnR X (unaryOp .USub) (rU λi=>.int (-i)):=unI λ_ _ _ _ _ q=>neg_int q
end
def scal:V->V->Bool
 | .non,.non=>true | .non,.int _=>true | .int _,.non=>true | .non,.bl _=>true | .bl _,.non=>true | .non,.str _=>true | .str _,.non=>true
 | .int _,.int _=>true | .bl _,.bl _=>true | .str _,.str _=>true | .byt _,.byt _=>true
 | .int _,.str _=>true | .str _,.int _=>true | .bl _,.str _=>true | .str _,.bl _=>true
 | _,_=>false
def rEq:R2:=λx y H Q=>scal x y=true/\Q (.bl (decide (x=y))) H
def rNe:R2:=λx y H Q=>scal x y=true/\Q (.bl (!decide (x=y))) H
def EO:decide (V.int i=V.int j)=(i == j):=by
 rw[Bool.eq_iff_iff];simp
def Hq:decide (V.bl i=V.bl j)=(i == j):=by
 rw[Bool.eq_iff_iff];simp
def EN:decide (V.str i=V.str j)=(i == j):=by
 rw[Bool.eq_iff_iff];simp
def EQ:decide (V.byt i=V.byt j)=(i.toList == j.toList):=by
 rw[Bool.eq_iff_iff];cases i;cases j;simp
section
variable{X:Cx}{a b c:Expr}{ta tb tc:TE}{pos:Pos}
def cE(I:Inv X pins σ H s)(q:Q (.bl k) H)(e:k=k'):EP X pins σ Q (.bool k') s:=by
 subst e;exact⟨.bl k,H,I,rfl,q⟩
def fK:OpR X (compareOp .Eq) rEq:=by
 intro pins s σ H x y v u Q I rx ry h;obtain⟨hs,q⟩:=h;cases x with
 | non=>
  cases rx;cases y with
  | non=>cases ry; exact PySem.EqNone.eq_none_none (cE I q (by simp))
  | bl j=>cases ry; exact PySem.EqNone.eq_none_bool (cE I q (by simp))
  | int j=>obtain⟨t',rfl⟩:=ry; exact PySem.EqNone.eq_none_int (cE I q (by simp))
  | str j=>obtain⟨t',rfl⟩:=ry; exact PySem.EqNone.eq_none_str (cE I q (by simp))
  | _=>exact absurd (show false=true from hs) Bool.false_ne_true
 | bl i=>
  cases rx;cases y with
  | non=>cases ry; exact PySem.EqNone.eq_bool_none (cE I q (by simp))
  | bl j=>cases ry; exact eq_bool (cE I q Hq)
  | str j=>obtain⟨t',rfl⟩:=ry; exact PySem.EqMixed.eq_bool_str (cE I q (by simp))
  | _=>exact absurd (show false=true from hs) Bool.false_ne_true
 | int i=>
  obtain⟨t,rfl⟩:=rx;cases y with
  | non=>cases ry; exact PySem.EqNone.eq_int_none (cE I q (by simp))
  | int j=>obtain⟨t',rfl⟩:=ry; exact eq_int (cE I q EO)
  | str j=>obtain⟨t',rfl⟩:=ry; exact PySem.EqMixed.eq_int_str (cE I q (by simp))
  | _=>exact absurd (show false=true from hs) Bool.false_ne_true
 | str i=>
  obtain⟨t,rfl⟩:=rx;cases y with
  | non=>cases ry; exact PySem.EqNone.eq_str_none (cE I q (by simp))
  | bl j=>cases ry; exact PySem.EqMixed.eq_str_bool (cE I q (by simp))
  | int j=>obtain⟨t',rfl⟩:=ry; exact PySem.EqMixed.eq_str_int (cE I q (by simp))
  | str j=>obtain⟨t',rfl⟩:=ry; exact eq_str (cE I q EN)
  | _=>exact absurd (show false=true from hs) Bool.false_ne_true
 | byt i=>
  obtain⟨t,rfl⟩:=rx;cases y with
  | byt j=>obtain⟨t',rfl⟩:=ry; exact PySem.W.eq_bytes (cE I q EQ)
  | _=>exact absurd (show false=true from hs) Bool.false_ne_true
 | _=>cases y <;> exact absurd (show false=true from hs) Bool.false_ne_true
def BF:OpR X (compareOp .NotEq) rNe:=by
 intro pins s σ H x y v u Q I rx ry h;obtain⟨hs,q⟩:=h;cases x with
 | non=>
  cases rx;cases y with
  | non=>cases ry; exact PySem.EqNone.ne_none_none (cE I q (by simp))
  | bl j=>cases ry; exact PySem.EqNone.ne_none_bool (cE I q (by simp))
  | int j=>obtain⟨t',rfl⟩:=ry; exact PySem.EqNone.ne_none_int (cE I q (by simp))
  | str j=>obtain⟨t',rfl⟩:=ry; exact PySem.EqNone.ne_none_str (cE I q (by simp))
  | _=>exact absurd (show false=true from hs) Bool.false_ne_true
 | bl i=>
  cases rx;cases y with
  | non=>cases ry; exact PySem.EqNone.ne_bool_none (cE I q (by simp))
  | bl j=>cases ry; exact ne_bool (cE I q (congrArg not Hq))
  | str j=>obtain⟨t',rfl⟩:=ry; exact PySem.EqMixed.ne_bool_str (cE I q (by simp))
  | _=>exact absurd (show false=true from hs) Bool.false_ne_true
 | int i=>
  obtain⟨t,rfl⟩:=rx;cases y with
  | non=>cases ry; exact PySem.EqNone.ne_int_none (cE I q (by simp))
  | int j=>obtain⟨t',rfl⟩:=ry; exact ne_int (cE I q (congrArg not EO))
  | str j=>obtain⟨t',rfl⟩:=ry; exact PySem.EqMixed.ne_int_str (cE I q (by simp))
  | _=>exact absurd (show false=true from hs) Bool.false_ne_true
 | str i=>
  obtain⟨t,rfl⟩:=rx;cases y with
  | non=>cases ry; exact PySem.EqNone.ne_str_none (cE I q (by simp))
  | bl j=>cases ry; exact PySem.EqMixed.ne_str_bool (cE I q (by simp))
  | int j=>obtain⟨t',rfl⟩:=ry; exact PySem.EqMixed.ne_str_int (cE I q (by simp))
  | str j=>obtain⟨t',rfl⟩:=ry; exact ne_str (cE I q (congrArg not EN))
  | _=>exact absurd (show false=true from hs) Bool.false_ne_true
 | byt i=>
  obtain⟨t,rfl⟩:=rx;cases y with
  | byt j=>obtain⟨t',rfl⟩:=ry; exact PySem.W.ne_bytes (cE I q (congrArg not EQ))
  | _=>exact absurd (show false=true from hs) Bool.false_ne_true
 | _=>cases y <;> exact absurd (show false=true from hs) Bool.false_ne_true
def uR:OpR X (compareOp .Lt) (rI0 λi j=>.bl (decide (i<j))):=Iy λ_ _ _ _ _ _ _ q=>lt_int q
def i5:OpR X (compareOp .LtE) (rI0 λi j=>.bl (decide (i<=j))):=Iy λ_ _ _ _ _ _ _ q=>le_int q
def nK:OpR X (compareOp .Gt) (rI0 λi j=>.bl (decide (j<i))):=Iy λ_ _ _ _ _ _ _ q=>gt_int q
def Gs:OpR X (compareOp .GtE) (rI0 λi j=>.bl (decide (j<=i))):=Iy λ_ _ _ _ _ _ _ q=>ge_int q
def El:OpR X (compareOp .In) (λx y H Q=>∃i j,x = .str i/\y = .str j/\Q (.bl (!(Builtin.Str.occurrences j i 0 j.length 1).isEmpty)) H):=by
 intro pins s σ H x y v u Q I rx ry h;obtain⟨i,j,rfl,rfl,q⟩:=h;obtain⟨t,rfl⟩:=rx;obtain⟨t',rfl⟩:=ry;exact in_str (cE I q rfl)
def K6:OpR X (compareOp .Is) (λx y H Q=>y = .non/\Q (.bl (decide (x = .non))) H):=by
 intro pins s σ H x y v u Q I rx ry h;obtain⟨rfl,q⟩:=h;cases ry;refine is_none_gen (cE I q ?_);cases x <;> first
  | (cases rx; rfl)
  | (obtain⟨t,rfl⟩:=rx; rfl)
def zN:OpR X (compareOp .IsNot) (λx y H Q=>y = .non/\Q (.bl (!decide (x = .non))) H):=by
 intro pins s σ H x y v u Q I rx ry h;obtain⟨rfl,q⟩:=h;cases ry;refine isnot_none_gen (cE I q ?_);cases x <;> first
  | (cases rx; rfl)
  | (obtain⟨t,rfl⟩:=rx; rfl)
def bD(b:Expr)(h:op ≠ .In:=by decide)(h2:op ≠ .NotIn:=by decide):behindInMarks op b=false:=by
 have e1:(op == CmpOp.In)=false:=by cases op <;> first | rfl | exact absurd rfl h
 have e2:(op == CmpOp.NotIn)=false:=by cases op <;> first | rfl | exact absurd rfl h2
 cases b <;> simp [behindInMarks,e1,e2]
def gA(ho:OpR X (compareOp op) r)(ha:PE X a ta)(hb:PE X b tb)(hm:behindInMarks op b=false):PE X (.Compare a [op] [b] pos) (tOp r ta tb):=by
 intro pins s σ H Q I h;exact wpAny_Compare1 (Lf ha hb I h λv u s2 x y H2 I2 rx ry q=>ho pins s2 σ H2 x y v u Q I2 rx ry q) hm
inductive Fv(Q:(Bool->Hp->Prop))(x:V)(H':Hp):Prop
 | mk:∀k,x = .bl k->Q k H'->Fv Q x H'
def Ab(t:TE):TT:=λσ H Q=>t σ H (Fv Q)
def aR{op:CmpOp}{r:R2}(ho:OpR X (compareOp op) r)(ha:PE X a ta)(hb:PE X b tb)(hm:behindInMarks op b=false):PT X (.Compare a [op] [b] pos) (Ab (tOp r ta tb)):=by
 intro pins s σ H Q I h;refine wpAny_isTrue_Compare1 (thn (ha pins s σ H _ I h) λv s1 ⟨x,H1,I1,r1,q1⟩=>thn (hb pins s1 σ H1 _ I1 q1) λu s2 ⟨y,H2,I2,r2,q2⟩=>
  thn (ho pins s2 σ H2 x y v u _ I2 r1 r2 q2) λc s3 ⟨z,H3,I3,r3,k,e,q3⟩=>?_) hm
 subst e;cases r3;exact wpAny_truthy_bool ⟨H3,I3,q3⟩
inductive Af(r':R2)(tc:TE)(σ : St)(Q:VK)(y:V)(z:V)(H3:Hp):Prop
 | mk:∀k,z = .bl k->(if k=true then tc σ H3 λw' H4=>r' y w' H4 Q else Q (.bl false) H3)->Af r' tc σ Q y z H3
abbrev F5(r:R2)(r':R2)(tc:TE)(σ : St)(Q:VK)(x:V):V->Hp->Prop:=λy H2=>r x y H2 (Af r' tc σ Q y)
abbrev F6(r:R2)(r':R2)(tb:TE)(tc:TE)(σ : St)(Q:VK):V->Hp->Prop:=λx H1=>tb σ H1 (F5 r r' tc σ Q x)
def F8(r r':R2)(ta tb tc:TE):TE:=λσ H Q=>ta σ H (F6 r r' tb tc σ Q)
def uP(ho:OpR X (compareOp op) r)(ho':OpR X (compareOp op') r')(ha:PE X a ta)(hb:PE X b tb)(hc:PE X c tc)
  (hm:lastMarks [op,op'] [b,c]=false:=by with_unfolding_all rfl):PE X (.Compare a [op,op'] [b,c] pos) (F8 r r' ta tb tc):=by
 intro pins s σ H Q I h;refine Compare_chain (thn (ha pins s σ H _ I h) λv s1 ⟨x,H1,I1,r1,q1⟩=>chain_link (thn (hb pins s1 σ H1 _ I1 q1) λu s2 ⟨y,H2,I2,r2,q2⟩=>
  thn (ho pins s2 σ H2 x y v u _ I2 r1 r2 q2) λd s3 ⟨z,H3,I3,r3,k,e,q3⟩=>?_)) hm
 subst e;cases r3;refine wpAny_truthy_bool ?_;cases k with
 | false=>exact ite_ff ⟨.bl false,H3,I3,rfl,q3⟩
 | true=>exact ite_tt (chain_last (thn (hc pins s3 σ H3 _ I3 q3) λw' s4 ⟨z',H4,I4,r4,q4⟩=>ho' pins s4 σ H4 y z' u w' Q I4 r2 r4 q4))
def uK(ho:OpR X (compareOp op) r)(ho':OpR X (compareOp op') r')(ha:PE X a ta)(hb:PE X b tb)(hc:PE X c tc)
  (hm:lastMarks [op,op'] [b,c]=false:=by with_unfolding_all rfl):PT X (.Compare a [op,op'] [b,c] pos) (Ab (F8 r r' ta tb tc)):=by
 intro pins s σ H Q I h;refine isTrue_chain (thn (ha pins s σ H _ I h) λv s1 ⟨x,H1,I1,r1,q1⟩=>test_link (thn (hb pins s1 σ H1 _ I1 q1) λu s2 ⟨y,H2,I2,r2,q2⟩=>
  thn (ho pins s2 σ H2 x y v u _ I2 r1 r2 q2) λd s3 ⟨z,H3,I3,r3,k,e,q3⟩=>?_)) hm
 subst e;cases r3;refine wpAny_truthy_bool ?_;cases k with
 | false=>
  obtain⟨k',e',q'⟩:=q3;cases e';exact ite_ff ⟨H3,I3,q'⟩
 | true=>
  refine ite_tt (test_last (thn (hc pins s3 σ H3 _ I3 q3) λw' s4 ⟨z',H4,I4,r4,q4⟩=>thn (ho' pins s4 σ H4 y z' u w' _ I4 r2 r4 q4) λd' s5 zQq=>?_));obtain⟨z2,H5,I5,r5,k2,e2,q5⟩:=zQq;subst e2;cases r5;exact wpAny_truthy_bool ⟨H5,I5,q5⟩
def TruV(K:Ln)(x:V)(H:Hp)(k:Bool):Prop:=
 match x with
 | .non=>k=false
 | .bl b=>k=b
 | .int i=>k=(i != 0)
 | .str y=>y.length<=sizeLine/\k=((y.length:Int) != 0)
 | .byt y=>y.size<=sizeLine/\k=((y.size:Int) != 0)
 | .ref p=>(∃xs,SqL K H p xs/\k = !xs.isEmpty)\/(∃xs,SqT K H p xs/\k = !xs.isEmpty)\/∃kvs,H p=some (.dK kvs)/\k = !kvs.isEmpty
 | _=>False
def C3{κ : Type}{kvs:List (κ × V)}{vs:List (κ × Value)}(r:KV kvs vs):(!vs.isEmpty) = !kvs.isEmpty:=by
 cases r <;> rfl
def u5(r:bZ xs its):(!its.toArray.isEmpty) = !xs.isEmpty:=by
 cases r <;> simp
def uW:(sizeLine:Nat)<2 ^ 63:=by rw[sizeLine_eq]; decide
def KI:TruR X (λx H Q=>∃k,TruV X.K x H k/\Q k H):=by
 intro pins s σ H x v Q I rx h;obtain⟨k,e,q⟩:=h;have hl:=uW;have hs:sizeLine=16777216:=sizeLine_eq;cases x with
 | non=>
  cases rx;have e':k=false:=e;subst e';exact truthy_none ⟨H,I,q⟩
 | bl b=>
  cases rx;have e':k=b:=e;subst e';exact wpAny_truthy_bool ⟨H,I,q⟩
 | int i=>
  obtain⟨t,rfl⟩:=rx;have e':k=(i != 0):=e;subst e';exact PySem.P.truthy_int ⟨H,I,q⟩
 | str y=>
  obtain⟨t,rfl⟩:=rx;obtain⟨hy,e'⟩:y.length<=sizeLine/\k=((y.length:Int) != 0):=e;subst e';exact PySem.P.truthy_str (by omega) ⟨H,I.tok _,q⟩
 | byt y=>
  obtain⟨t,rfl⟩:=rx;obtain⟨hy,e'⟩:y.size<=sizeLine/\k=((y.size:Int) != 0):=e;subst e';exact PySem.W.truthy_bytes (by omega) ⟨H,I.tok _,q⟩
 | ref p=>
  cases rx;have e':(∃xs,SqL X.K H p xs/\k = !xs.isEmpty)\/(∃xs,SqT X.K H p xs/\k = !xs.isEmpty)\/∃kvs,H p=some (.dK kvs)/\k = !kvs.isEmpty:=e;rcases e' with ⟨xs,hx,e'⟩ | ⟨xs,hx,e'⟩ | ⟨kvs,hx,e'⟩
  ·subst e';obtain⟨its,r,pl,hz⟩:=I.list hx;have hlen:=r.length;exact wpAny_truthy_list pl.isList (by simp only[size_toArray]; omega) ⟨H,I.tok _,by rw[u5 r]; exact q⟩
  ·subst e';obtain⟨its,r,pl,hz⟩:=I.tuple hx;have hlen:=r.length;exact truthy_tuple pl (by simp only[size_toArray]; omega) ⟨H,I.tok _,by rw[u5 r]; exact q⟩
  ·subst e';obtain⟨hz,hS,vs,r,m⟩:kvs.length<=sizeLine/\(p == sysModules)=false/\∃vs,KV kvs vs/\s.heap.DictOf (cH X.prog X.w) p vs:=I.hok p _ hx;have hlen:kvs.length=vs.length:=Paired.length r;exact wpAny_truthy_dict hS m (by omega) ⟨H,I.tok _,by rw[C3 r]; exact q⟩
 | _=>exact(show False from e).elim
def wE(r:bZ [x] us):∃u,us=[u]/\bY x u:=by
 cases r with
 | cons r1 r2=>cases r2; exact⟨_,rfl,r1⟩
def Fj(r:bZ [x,y] us):∃u w',us=[u,w']/\bY x u/\bY y w':=by
 cases r with
 | cons r1 r2=>
  cases r2 with
  | cons r3 r4=>cases r4; exact⟨_,_,rfl,r1,r3⟩
def yL(hc:X.calm=true):gM X (.builtin "max") (λxs H Q=>∃i j,xs=[.int i,.int j]/\Q (.int (if j > i then j else i)) H):=by
 intro pins s σ H xs us Q I r h;obtain⟨i,j,rfl,q⟩:=h;obtain⟨u,w',rfl,⟨t,rfl⟩,⟨t',rfl⟩⟩:=Fj r;refine max_two_ints (I.ok.hd hc) λh' tk k=>⟨_,H,I.kept k,?_,q⟩;by_cases hj:j > i
 ·rw[if_pos hj,if_pos hj]; exact⟨_,rfl⟩
 ·rw[if_neg hj,if_neg hj]; exact⟨_,rfl⟩
def FZ(hc:X.calm=true):gM X (.builtin "min") (λxs H Q=>∃i j,xs=[.int i,.int j]/\Q (.int (if j<i then j else i)) H):=by
 intro pins s σ H xs us Q I r h;obtain⟨i,j,rfl,q⟩:=h;obtain⟨u,w',rfl,⟨t,rfl⟩,⟨t',rfl⟩⟩:=Fj r;refine min_two_ints (I.ok.hd hc) λh' tk k=>⟨_,H,I.kept k,?_,q⟩;by_cases hj:j<i
 ·rw[if_pos hj,if_pos hj]; exact⟨_,rfl⟩
 ·rw[if_neg hj,if_neg hj]; exact⟨_,rfl⟩
def yM:gM X (.type "int") (λxs H Q=>(∃i,xs=[.int i]/\Q (.int i) H)\/∃k,xs=[.bl k]/\Q (.int (if k then 1 else 0)) H):=by
 intro pins s σ H xs us Q I r h;rcases h with ⟨i,rfl,q⟩ | ⟨k,rfl,q⟩
 ·obtain⟨u,rfl,t,rfl⟩:=wE r;exact call_int_int ⟨.int i,H,I,⟨_,rfl⟩,q⟩
 ·obtain⟨u,rfl,r1⟩:=wE r;cases r1;exact call_int_bool ⟨.int (if k then 1 else 0),H,I.tok _,⟨_,rfl⟩,q⟩
end
structure ObjM(h:Heap)(x dx C:Addr)(mA:Lp):Prop where
 obj:h.get? x=some (instObj C dx)
 ns:h.Ns1 dx mA
 ne:dx≠x
def FE{h:Heap}{dx:Addr}{mA:Lp}(n:h.Ns1 dx mA):∃od,h.get? dx=some od/\∀name,PySem.W.lookIn name od=some (mA name):=by
 obtain⟨o,es,ep,ho,hd,hk,_,hm⟩:=n;refine⟨o,ho,λname=>?_⟩;have e:=hm name;unfold nsFind findBy at e;rw[<- Array.find?_toList]at e;unfold PySem.W.lookIn;rw[hd];dsimp only;split
 ·rename_i y q;rw[q]at e;exact congrArg some e
 ·rename_i q;rw[q]at e;have a:es.toList.any (·.refKey)=false:=by
   rw[List.any_eq_false];intro y hy;obtain⟨z,t,hkey⟩:=hk y (Array.mem_toList_iff.mp hy);simp [DictEntry.refKey,hkey]
  have a':¬ es.toList.any (·.refKey)=true:=by rw[a]; exact Bool.false_ne_true
  rw[if_neg a'];exact congrArg some e
def ObjM.look(I:ObjM h x dx C mA):∃od,PySem.W.InstAt h x (instObj C dx) C (some od)/\∀name,PySem.W.lookIn name od=some (mA name):=
 let ⟨od,ho,hl⟩:=FE I.ns
 ⟨od,⟨I.obj,rfl,rfl,ho⟩,hl⟩
section
variable{prog:Program}{w:World}{A:Around}{E:Ly}{s:Shared}{K:Ln}{x dx C f:Addr}{mA:Lp}{name:Str}{v:Value}
def JW(X:K.In s.heap)(I:ObjM s.heap x dx C mA)(hg:plainGet K C name=true)(hh:hasDictIn K C=true)
  (ha:findIn K (.ref C) name=some none) (hv:mA name=some v) (hv':PySem.W.handedIn v=true) (h:Q v { s with toks:=s.toks+1 }) :
  wpAny (model prog w) A (getAttr (.ref x) name expr) Q E s:=by
 obtain⟨od,J,hl⟩:=I.look;exact PySem.W.get_value X J (plainGet_of hg).1 (PySem.W.findObj_own hh ha rfl (by rw[hl,hv])) hv' h
def HZ(X:K.In s.heap)(I:ObjM s.heap x dx C mA)(hg:plainGet K C name=true)
  (hf:findIn K (.ref C) name=some (some (.ref f))) (ht:PySem.W.isFn K (.ref f)=true) (hv:mA name=none) (h:Q (.ref f,[.ref x]) s) :
  wpAny (model prog w) A (getMethod (.ref x) name pl) Q E s:=by
 obtain⟨od,J,hl⟩:=I.look;exact PySem.W.method_fn X J (plainGet_of hg).1 (plainGet_of hg).2 hf (beq_iff_eq.mp ht) (by show (PySem.W.lookIn name od).map (·.isSome)=some false; rw[hl,hv]; rfl) h
def IX(X:K.In s.heap)(I:ObjM s.heap x dx C mA)
  (hs:findIn K (.ref C) "__setattr__" = some (some (.builtin "object.__setattr__"))) (hp:PySem.W.plainOver K C=true) (ht:PySem.W.takerIn K C name=some none) (hh:hasDictIn K C=true)
  (hw:PySem.Within mA ns) (hsz:ns.length<=sizeLine)
  (h:∀h',ObjM h' x dx C (λy=>if y=name then some v else mA y)->Heap.SameBut dx s.heap h'->Q () { s with heap:=h',toks:=s.toks+2 }) :
  wpAny (model prog w) A (setAttr (.ref x) name v) Q E s:=by
 obtain⟨od,J,hl⟩:=I.look;refine PySem.W.set_plain X J hs (PySem.W.osa_open (s:={ s with toks:=s.toks+1 }) (r:=none) X J hp ht λb=>?_);obtain⟨cd,hc,hd'⟩:=PySem.W.any_some hh;have hx:s.heap.get? x=some ⟨.ref C,some dx,.plain,#[]⟩:=I.obj;refine wpAny_bind (wpAny_pure (wpAny_bind (wpAny_bind (wpAny_loadPart hx (wpAny_bind (PySem.W.Looks.here (s:={ s with toks:=s.toks+1 }) (PySem.W.looks_clsIn X hc) ?_))))));rw[hd'];refine wpAny_pure (a:=some dx) (wpAny_bind (wpAny_pure (wpAny_bind ?_)));refine wpAny_nsSet1 (s:={ s with toks:=s.toks+1 }) I.ns λh' hn2 hs2=>?_;obtain⟨oD,esD,epD,hoD,hdD,hcD⟩:=hn2.count (PySem.Within.cons name v hw);refine wpAny_bind (wpAny_lookBehind hoD (by rw[hdD]; exact pastItsLine_dict (le_trans hcD (by rw[length_cons]; omega))) ?_);exact wpAny_pure (h _ ⟨(hs2.2 _ (Ne.symm I.ne)).trans I.obj,hn2,I.ne⟩ hs2)
def HC(X:K.In s.heap)(hm:PySem.W.makesIn K C=true)
  (hi:findIn K (.ref C) "__init__" = some (some (.ref f))) (hf:PySem.W.typeIn K (.ref f)=some (.type "function"))
  (h:codeAny (model prog w) (A.under (.builtin "type.__call__" ⟨.ref C::vs,kw⟩)) (.call (.ref f) ⟨.ref (s.heap.objs.size+1)::vs,kw⟩) (PySem.W.InitBack (s.heap.objs.size+1) R)
   { s with heap:=(s.heap.push emptyDict).push (instObj C s.heap.objs.size) }) :
  codeAny (model prog w) A (.call (.ref C) ⟨vs,kw⟩) R s:=by
 obtain⟨hh,g,d,t,os⟩:=s;exact PySem.W.make_core (PySem.W.makes_of X hm) (PySem.W.looks_findIn X hi) (λself=>PySem.W.bind_fn X self hf) (.inl rfl) h
end
def hG(f:Str)(v:V):L3->L3
 | []=>[(f,v)]
 | (g,x)::r=>if g=f then (g,v)::r else (g,x)::hG f v r
def rR(f g:Str)(v:V):∀fs:L3,(hG f v fs).lookup g=if g=f then some v else fs.lookup g
 | []=>by
  show List.lookup g [(f,v)]=_;by_cases h:g=f
  ·have hb:(g == f)=true:=beq_iff_eq.mpr h;simp only[List.lookup,hb,if_pos h]
  ·have hb:(g == f)=false:=beq_eq_false_iff_ne.mpr h;simp only[List.lookup,hb,if_neg h]
 | (k,x)::r=>by
  have ih:=rR f g v r;rw[show hG f v ((k,x)::r)=(if k=f then (k,v)::r else (k,x)::hG f v r) from rfl];by_cases hk:k=f
  ·rw[if_pos hk];by_cases h:g=k
   ·have hb:(g == k)=true:=beq_iff_eq.mpr h;simp only[List.lookup,hb,if_pos (h.trans hk)]
   ·have hb:(g == k)=false:=beq_eq_false_iff_ne.mpr h;simp only[List.lookup,hb,if_neg (λe:g=f=>h (e.trans hk.symm))]
  ·rw[if_neg hk];by_cases h:g=k
   ·have hb:(g == k)=true:=beq_iff_eq.mpr h;simp only[List.lookup,hb,if_neg (λe:g=f=>hk (h.symm.trans e))]
   ·have hb:(g == k)=false:=beq_eq_false_iff_ne.mpr h;simp only[List.lookup,hb];exact ih
def qQ(f:Str)(v:V):∀fs:L3,f∈(hG f v fs).map (·.1)/\∀g,g∈fs.map (·.1)->g∈(hG f v fs).map (·.1)
 | []=>⟨by simp [hG],λg h=>by simp at h⟩
 | (k,x)::r=>by
  obtain⟨i1,i2⟩:=qQ f v r;rw[show hG f v ((k,x)::r)=(if k=f then (k,v)::r else (k,x)::hG f v r) from rfl];by_cases hk:k=f
  ·rw[if_pos hk];subst hk;exact⟨by simp,λg h=>by simpa using h⟩
  ·rw[if_neg hk];refine⟨?_,λg h=>?_⟩
   ·rw[map_cons];exact mem_cons_of_mem _ i1
   ·rw[map_cons]at h ⊢;rcases mem_cons.mp h with e | e
    ·exact mem_cons.mpr (.inl e)
    ·exact mem_cons_of_mem _ (i2 g e)
def rS(f:Str)(v:V):∀fs:L3,(hG f v fs).length<=fs.length+1
 | []=>by simp [hG]
 | (k,x)::r=>by
  have ih:=rS f v r;rw[show hG f v ((k,x)::r)=(if k=f then (k,v)::r else (k,x)::hG f v r) from rfl];by_cases hk:k=f
  ·rw[if_pos hk,length_cons,length_cons]; omega
  ·rw[if_neg hk,length_cons,length_cons]; omega
def kO.some_of(r:kO (some v) o):∃u,o=some u/\bY v u:=by
 cases o with
 | none=>exact(show False from r).elim
 | some u=>exact⟨u,rfl,r⟩
def kO.none_of(r:kO none o):o=none:=by
 cases o with
 | none=>rfl
 | some u=>exact(show False from r).elim
def FT(r:bY v u):PySem.W.handedIn u=true:=by
 cases v with
 | non=>cases (show u=Value.none from r); rfl
 | bl b=>cases (show u=Value.bool b from r); rfl
 | int i=>obtain⟨t,e⟩:=(show ∃t,u=Value.int i t from r); cases e; rfl
 | str x=>obtain⟨t,e⟩:=(show ∃t,u=Value.str x t from r); cases e; rfl
 | byt b=>obtain⟨t,e⟩:=(show ∃t,u=Value.bytes b t from r); cases e; rfl
 | flt b=>obtain⟨t,e⟩:=(show ∃t,u=Value.float b t from r); cases e; rfl
 | ref a=>cases (show u=Value.ref a from r); rfl
 | ty n=>cases (show u=Value.type n from r); rfl
section
variable{P:Program}{w:World}{H H':Hp}{h h':Heap}{a C dx:Addr}{fs fs':L3}
def sO(hok:HOk P w H h)(e:H a=some (.ins C dx fs)):∃mA,ObjM h a dx C mA/\(∀f,kO (fs.lookup f) (mA f))/\PySem.Within mA (fs.map (·.1))/\fs.length<=1000/\H dx=some (.own a):=by
 obtain⟨d,z,ne,ob,mA,n,r,q⟩:=(show eA P w H h a (.ins C dx fs) from hok a _ e);exact⟨mA,⟨ob,n,ne⟩,r,q,z,d⟩
end
structure Cls(K:Ln)(C:Addr):Prop where
 pg:plainGet K C Str.empty=true
 hd:hasDictIn K C=true
 po:PySem.W.plainOver K C=true
 sa:findIn K (.ref C) "__setattr__" = some (some (.builtin "object.__setattr__"))
def Cls.get{K:Ln}{C:Addr}(c:Cls K C)(f:Str):plainGet K C f=true:=c.pg
def dJ(K:Ln)(C:Addr)(f:Str):Prop:=findIn K (.ref C) f=some none
def dJ.taker{K:Ln}{C:Addr}{f:Str}(n:dJ K C f):PySem.W.takerIn K C f=some none:=by
 unfold PySem.W.takerIn;rw[show findIn K (.ref C) f=some none from n];rfl
structure Meth(K:Ln)(C:Addr)(m:Str)(f:Addr):Prop where
 at_:findIn K (.ref C) m=some (some (.ref f))
 fn:PySem.W.isFn K (.ref f)=true
 kp:keepIn K (.ref f)=true
section
variable{X:Cx}{pins:Lo}{σ : St}{H:Hp}{s:Shared}{a C dx:Addr}{fs:L3}{f:Str}{v:V}{A:Around}{E:Ly}
def u8(I:Inv X pins σ H s)(e:H a=some (.ins C dx fs))(c:Cls X.K C)(n:dJ X.K C f)(l:fs.lookup f=some v)
  (h:∀u s',Inv X pins σ H s'->bY v u->Q u s'):wpAny (model X.prog X.w) A (getAttr (.ref a) f b) Q E s:=by
 obtain⟨mA,O,r,_,_,_⟩:=sO I.hok e;obtain⟨u,hu,ru⟩:=kO.some_of (v:=v) (o:=mA f) (by rw[<- l]; exact r f);exact JW I.kIn O (c.get f) c.hd n hu (FT ru) (h u _ (I.tok _) ru)
def u7(I:Inv X pins σ H s)(e:H a=some (.ins C dx fs))(c:Cls X.K C)(k:Meth X.K C m g)(l:fs.lookup m=none)
  (h:Q (.ref g,[.ref a]) s):wpAny (model X.prog X.w) A (getMethod (.ref a) m pl) Q E s:=by
 obtain⟨mA,O,r,_,_,_⟩:=sO I.hok e;have hn:mA m=none:=kO.none_of (by rw[<- l]; exact r m);exact HZ I.kIn O (c.get m) k.at_ k.fn hn h
def tW(I:Inv X pins σ H s)(e:H a=some (.ins C dx fs))(c:Cls X.K C)(n:dJ X.K C f)(hl:fs.length<1000)(ry:bY y u)
  (h:∀s',Inv X pins σ (upd H a (.ins C dx (hG f y fs))) s'->Q () s'):wpAny (model X.prog X.w) A (setAttr (.ref a) f u) Q E s:=by
 obtain⟨mA,O,r,wi,_,ho⟩:=sO I.hok e;have hz:(fs.map (·.1)).length<=sizeLine:=by rw[length_map,sizeLine_eq]; omega
 refine IX I.kIn O c.sa c.po n.taker c.hd wi hz λh' O' sb=>h _ ?_;have hd:∃o,h'.get? dx=some o:=let ⟨o,_,_,e',_⟩:=O'.ns; ⟨o,e'⟩;refine I.write (x:=a) (e:=dx) (by rw[e]; exact True.intro) (.inr ho) (λb q hb z=>(sb.2 b hb).trans z) hd ?_;refine⟨by rw[aF O.ne]; exact ho,?_,O.ne,O'.obj,_,O'.ns,λg=>?_,λg hg=>?_⟩
 ·have:=rS f y fs; omega
 ·show kO ((hG f y fs).lookup g) (if g=f then some u else mA g);rw[rR];by_cases q:g=f
  ·rw[if_pos q,if_pos q]; exact ry
  ·rw[if_neg q,if_neg q]; exact r g
 ·by_cases q:g=f
  ·rw[q]; exact(qQ f y fs).1
  ·refine(qQ f y fs).2 g (wi g λz=>hg ?_);show (if g=f then some u else mA g)=none;rw[if_neg q]; exact z
def Inv.made(I:Inv X pins σ H s):Inv X pins σ (upd (upd H s.heap.objs.size (.own (s.heap.objs.size+1))) (s.heap.objs.size+1) (.ins C s.heap.objs.size []))
  { s with heap:=(s.heap.push emptyDict).push (instObj C s.heap.objs.size) }:=by
 have e1:(s.heap.push emptyDict).get? s.heap.objs.size=some emptyDict:=get?_push_size s.heap rfl;have e2:((s.heap.push emptyDict).push (instObj C s.heap.objs.size)).get? (s.heap.objs.size+1)=some (instObj C s.heap.objs.size):=by
  have:=get?_push_size (s.heap.push emptyDict) (o:=instObj C s.heap.objs.size) rfl
  rwa [size_push]at this
 have e3:(s.heap.push emptyDict).Ns s.heap.objs.size (λ_=>none):=⟨emptyDict,#[],_,e1,rfl,(λe he=>absurd he (by simp)),λ_=>rfl⟩;have I1:=I.laid (a:=s.heap.objs.size) (o:=.own (s.heap.objs.size+1)) (h':=s.heap.push emptyDict) (t':=s.toks) (λb u q=>get?_push_of_some _ q) (le_refl _) ⟨_,e1⟩;refine I1.laid (a:=s.heap.objs.size+1) (o:=.ins C s.heap.objs.size []) (t':=s.toks) (λb u q=>get?_push_of_some _ q) (Nat.le_of_eq (size_push _ _)) ?_;have ne:s.heap.objs.size≠s.heap.objs.size+1:=ne_of_lt (lt_succ_self _);refine⟨by rw[aF ne,aB],zero_le _,ne,e2,λ_=>none,(Heap.Ns1.of_empty e3).at λo q=>get?_push_of_some _ q,λ_=>True.intro,λy hy=>absurd rfl hy⟩
def Jk(hb:attributeBase e f env (eval e env)=eval e env)
  (h:wpAny (model prog w) A (eval e env) (λo s₁=>wpAny (model prog w) A (getAttr o f true) Q E s₁) E s):wpAny (model prog w) A (eval (.Attribute e f pos) env) Q E s:=
 Attribute_any_ h (by rw[arm_eval_Attribute,hb])
end
inductive Js(K:Ln)(f:Str)(Q:VK)(x:V)(H1:Hp):Prop
 | mk:∀a C dx fs v,x = .ref a->H1 a=some (.ins C dx fs)->Cls K C->dJ K C f->fs.lookup f=some v->Q v H1->Js K f Q x H1
def tFld(K:Ln)(ta:TE)(f:Str):TE:=λσ H Q=>ta σ H (Js K f Q)
inductive GU(K:Ln)(f:Str)(D:Ends)(σ : St)(y:V)(x:V)(H2:Hp):Prop
 | mk:∀a C dx fs,x = .ref a->H2 a=some (.ins C dx fs)->Cls K C->dJ K C f->fs.length<1000->D.nx σ (upd H2 a (.ins C dx (hG f y fs)))->GU K f D σ y x H2
abbrev Kn(K:Ln)(ta:TE)(f:Str)(D:Ends)(σ : St):V->Hp->Prop:=λy H1=>ta σ H1 (GU K f D σ y)
def sFld(K:Ln)(ta tv:TE)(f:Str):TS:=λD σ H=>tv σ H (Kn K ta f D σ)
def Jp(X:Cx)(op:Operator)(rd:V->V->Hp->VK->Prop):Prop:=
 ∀pins s σ H(x y:V)(u v:Value)(Q:VK),Inv X pins σ H s->bY x u->bY y v->rd x y H Q->wpAny (model X.prog X.w) X.A (inplaceOp op u v) (EP X pins σ Q) X.xe s
inductive xL(f:Str)(D:Ends)(σ : St)(a:Addr)(C:Addr)(z:V)(H3:Hp):Prop
 | mk:∀dx' fs',H3 a=some (.ins C dx' fs')->fs'.length<1000->D.nx σ (upd H3 a (.ins C dx' (hG f z fs')))->xL f D σ a C z H3
abbrev Ec(rd:V->V->Hp->VK->Prop)(f:Str)(D:Ends)(σ : St)(a:Addr)(C:Addr)(v:V):V->Hp->Prop:=λy H2=>rd v y H2 (xL f D σ a C)
inductive A3(K:Ln)(tv:TE)(rd:V->V->Hp->VK->Prop)(f:Str)(D:Ends)(σ : St)(x:V)(H1:Hp):Prop
 | mk:∀a C dx fs v,x = .ref a->H1 a=some (.ins C dx fs)->Cls K C->dJ K C f->fs.lookup f=some v->tv σ H1 (Ec rd f D σ a C v)->A3 K tv rd f D σ x H1
def IY(K:Ln)(ta tv:TE)(rd:V->V->Hp->VK->Prop)(f:Str):TS:=λD σ H=>ta σ H (A3 K tv rd f D σ)
section
variable{X:Cx}{o e value:Expr}{f:Str}{pos pos' tpos:Pos}{ta tv:TE}
def nZ(he:PE X e ta)(hb:attributeBase e f X.env (eval e X.env)=eval e X.env):PE X (.Attribute e f pos) (tFld X.K ta f):=by
 intro pins s σ H Q I h;refine Jk hb (thn (he pins s σ H _ I h) λu s1 zQq=>?_);obtain⟨x,H1,I1,rx,a,C,dx,fs,v,ex,ea,c,n,l,q⟩:=zQq;subst ex;obtain rfl:u=Value.ref a:=rx;exact u8 I1 ea c n l λu' s2 I2 ru=>⟨v,H1,I2,ru,q⟩
def dS(ha:PE X o ta)(hv:PE X value tv)(hs:swapsWith value (some (.Attribute o f pos')) pos.line X.env=pure false):PS X (.Assign [.Attribute o f pos'] value pos) (sFld X.K ta tv f):=by
 intro pins s σ H D I h;refine plainObj_wpAny_Assign_Attribute (thn (hv pins s σ H _ I h) λu s1 ⟨y,H1,I1,ry,q⟩=>thn (ha pins s1 σ H1 _ I1 q) λov s2 zQq=>?_) hs;obtain⟨x,H2,I2,rx,a,C,dx,fs,ex,ea,c,n,l,q2⟩:=zQq;subst ex;obtain rfl:ov=Value.ref a:=rx;exact tW I2 ea c n l ry λs3 I3=>⟨σ,_,I3,q2⟩
def qI(ha:PE X o ta)(hv:PE X value tv)(hop:Jp X op rd):PS X (.AugAssign (.Attribute o f tpos) op value pos) (IY X.K ta tv rd f):=by
 intro pins s σ H D I h;refine wpAny_AugAssign_AttributeAny (thn (ha pins s σ H _ I h) λov s1 zQq=>?_);obtain⟨x,H1,I1,rx,a,C,dx,fs,v,ex,ea,c,n,l,q⟩:=zQq;subst ex;obtain rfl:ov=Value.ref a:=rx;refine u8 I1 ea c n l λu s2 I2 ru=>thn (hv pins s2 σ H1 _ I2 q) λw3 s3 ⟨y,H2,I3,ry,q3⟩=>thn (hop pins s3 σ H2 v y u w3 _ I3 ru ry q3) λw4 s4 zQq=>?_;obtain⟨z,H3,I4,rz,dx',fs',ea',l',q4⟩:=zQq;exact tW I4 ea' c n l' rz λs5 I5=>⟨σ,_,I5,q4⟩
inductive Kv(x:V)(y:V)(H:Hp)(Q:VK):Prop
 | mk:∀i j,x = .int i->y = .int j->Q (.int (i+j)) H->Kv x y H Q
inductive rSub(x:V)(y:V)(H:Hp)(Q:VK):Prop
 | mk:∀i j,x = .int i->y = .int j->Q (.int (i - j)) H->rSub x y H Q
def u6:Jp X .Add Kv:=by
 rintro pins s σ H x y u v Q I rx ry ⟨i,j,rfl,rfl,q⟩;obtain⟨t,rfl⟩:=(show ∃t,u=Value.int i t from rx);obtain⟨t',rfl⟩:=(show ∃t',v=Value.int j t' from ry);exact PyProof.Rows.iadd_int ⟨.int (i+j),H,I.tok _,⟨_,rfl⟩,q⟩
def LQ:Jp X .Sub rSub:=by
 rintro pins s σ H x y u v Q I rx ry ⟨i,j,rfl,rfl,q⟩;obtain⟨t,rfl⟩:=(show ∃t,u=Value.int i t from rx);obtain⟨t',rfl⟩:=(show ∃t',v=Value.int j t' from ry);exact PyProof.Rows.isub_int ⟨.int (i - j),H,I.tok _,⟨_,rfl⟩,q⟩
end
section
variable{X:Cx}{pins:Lo}{σ : St}{H:Hp}{s:Shared}{A:Around}{E:Ly}{Q:Ly}{c:Value}{b:Bool}
inductive pX(K:Ln)(H:Hp):V->Value->Prop where
 | non:pX K H .non (.type "NoneType")
 | bl (x:Bool):pX K H (.bl x) (.type "bool")
 | int (i:Int):pX K H (.int i) (.type "int")
 | str (x:Str):pX K H (.str x) (.type "str")
 | flt (x:UInt64):pX K H (.flt x) (.type "float")
 | lst {a:Addr} {xs:L6} (e:H a=some (.lst xs)):pX K H (.ref a) (.type "list")
 | frz {a:Addr} {o:Obj} {xs:L6} (e:H a=some (.frz o (.lst xs))):pX K H (.ref a) (.type "list")
 | tup {a:Addr} {xs:L6} (e:H a=some (.tup xs)):pX K H (.ref a) (.type "tuple")
 | dK {a:Addr} {kvs:Lz} (e:H a=some (.dK kvs)):pX K H (.ref a) (.type "dict")
 | dT {a:Addr} {kvs:List (List Key × V)} (e:H a=some (.dT kvs)):pX K H (.ref a) (.type "dict")
 | ins {a C dx:Addr} {fs:L3} (e:H a=some (.ins C dx fs)) (cl:Cls K C) (ha:findIn K (.ref C) "__class__" = some (some (.builtin "object.__class__")))
   (hn:PySem.W.specialIn K (.builtin "object.__class__") "__get__" = some (some (.builtin "getset_descriptor.__get__"))) (htk:PySem.W.takesIn K (.builtin "object.__class__")=some true)
   (hm:PySem.W.mroIn K C (.type "object")=some true):pX K H (.ref a) (.ref C)
def FL(I:Inv X pins σ H s)(rx:bY x u)(ty:pX X.K H x t)(e:PySem.W.kitOne X.K t c=some b)(h:∀tk,Q (.bool b) { s with toks:=tk }) :
  wpAny (model X.prog X.w) A (call (.builtin "isinstance") [u,c]) Q E s:=by
 cases ty with
 | non=>cases (show u=Value.none from rx); exact kia_one PySem.W.kitx_none I.kIn True.intro e (λz=>nomatch z) h
 | bl y=>cases (show u=Value.bool y from rx); exact kia_one PySem.W.kitx_bool I.kIn True.intro e (λz=>nomatch z) h
 | int i=>obtain⟨t,q⟩:=(show ∃t,u=Value.int i t from rx); cases q; exact kia_one PySem.W.kitx_int I.kIn True.intro e (λz=>nomatch z) h
 | str y=>obtain⟨t,q⟩:=(show ∃t,u=Value.str y t from rx); cases q; exact kia_one PySem.W.kitx_str I.kIn True.intro e (λz=>nomatch z) h
 | flt y=>obtain⟨t,q⟩:=(show ∃t,u=Value.float y t from rx); cases q; exact kia_one PySem.W.kitx_float I.kIn True.intro e (λz=>nomatch z) h
 | @lst a xs ea=>
  cases (show u=Value.ref a from rx);obtain⟨_,_,n,_,h1⟩:=(show eA X.prog X.w H s.heap a (.lst xs) from I.hok a _ ea);exact kia_one kitx_list I.kIn ⟨_,h1,rfl⟩ e (λz=>nomatch z) h
 | @frz a ob xs ea=>
  cases (show u=Value.ref a from rx);obtain⟨_,_,_,n,_,h1⟩:=(show eA X.prog X.w H s.heap a (.frz ob (.lst xs)) from I.hok a _ ea);exact kia_one kitx_list I.kIn ⟨_,h1,rfl⟩ e (λz=>nomatch z) h
 | @tup a xs ea=>
  cases (show u=Value.ref a from rx);obtain⟨_,_,_,p⟩:=(show eA X.prog X.w H s.heap a (.tup xs) from I.hok a _ ea);obtain⟨o,h1,h2,_⟩:=p;exact kia_one PySem.W.kitx_tuple I.kIn ⟨o,h1,h2⟩ e (λz=>nomatch z) h
 | @dK a kvs ea=>
  cases (show u=Value.ref a from rx);obtain⟨_,_,vs,_,p⟩:=(show eA X.prog X.w H s.heap a (.dK kvs) from I.hok a _ ea);obtain⟨o,es,ep,h1,h2,_⟩:=p;exact kia_one kitx_dict I.kIn ⟨o,h1,h2.1⟩ e (λz=>nomatch z) h
 | @dT a kvs ea=>
  cases (show u=Value.ref a from rx);obtain⟨_,_,xs,_,o,es,ep,h1,h2,_⟩:=(show eA X.prog X.w H s.heap a (.dT kvs) from I.hok a _ ea);exact kia_one kitx_dict I.kIn ⟨o,h1,h2.1⟩ e (λz=>nomatch z) h
 | @ins a C dx fs ea cl ha hn htk hm=>
  cases (show u=Value.ref a from rx);obtain⟨mA,O,_⟩:=sO I.hok ea;obtain⟨od,J,_⟩:=O.look;exact kia_one (PySem.W.kitx_own (cl.get _) cl.hd ha hn htk hm) I.kIn J e (λz=>nomatch z) h
end
structure Room(k:Nat)(A:Around):Prop where
 hd:A.handled=none
 dp:A.depth+3 * k+5<recursionLimit
 un:A.units+16 * k+200<cLine
def Room.mono(r:Room k A)(h:j<=k):Room j A:=⟨r.hd,by have:=r.dp; omega,by have:=r.un; omega⟩
def Room.deeper(r:Room (k+1) A)(env:Env):Room k (A.deeper env):=
 ⟨r.hd,by have:=r.dp; show A.depth+1+3 * k+5<_; omega,by have:=r.un; show A.units+3+16 * k+200<_; omega⟩
def Cy{A:Around}{C:Addr}{us:Lv}{kw:List (Str × Value)}:(A.under (.builtin "type.__call__" ⟨.ref C::us,kw⟩)).depth=A.depth+1:=by
 first | rfl | simp [Around.under,Code.weight,Code.isCreation,Code.isGuard,Code.isCaller,Code.frames,Code.isFrame,guardIds]
def Cw{A:Around}{C:Addr}{us:Lv}{kw:List (Str × Value)}:(A.under (.builtin "type.__call__" ⟨.ref C::us,kw⟩)).units=A.units+1:=by
 first | rfl | simp [Around.under,Code.cUnits,Code.frames,Code.isFrame]
def Room.make(r:Room (k+1) A)(C:Addr)(us:Lv)(kw:List (Str × Value)):Room k (A.under (.builtin "type.__call__" ⟨.ref C::us,kw⟩)):=
 ⟨r.hd,by have:=r.dp; rw[Cy]; omega,by have:=r.un; rw[Cw]; omega⟩
def Room.depth(r:Room k A):A.depth<recursionLimit:=by have:=r.dp; omega
def Room.units(r:Room k A):A.units+64<cLine:=by have:=r.un; omega
def lV:TA:=λ_ H Q=>Q [] H
abbrev IQ(Q:(L6->Hp->Prop))(x:V):L6->Hp->Prop:=λxs H2=>Q (x::xs) H2
abbrev IR(tr:TA)(σ : St)(Q:(L6->Hp->Prop)):V->Hp->Prop:=λx H1=>tr σ H1 (IQ Q x)
def eU(ta:TE)(tr:TA):TA:=λσ H Q=>ta σ H (IR tr σ Q)
section
variable{X:Cx}{e:Expr}{es:List Expr}{te:TE}{t:TA}{pos:Pos}
def aG:PA X [] lV:=λ_ _ _ _ H Q I h=>Calls.spliced_nil ⟨[],H,I,.nil,h⟩
def eW(ha:PE X e te)(hr:PA X es t)(hs:starEach (e::es) X.env=(false,eval e X.env)::starEach es X.env:=by rfl):PA X (e::es) (eU te t):=by
 intro pos pins s σ H Q I h;rw[hs];show wpAny _ _ (spliced ((false,eval e X.env)::backTo pos (starEach es X.env))) _ _ s;refine Calls.spliced_cons (thn (ha pins s σ H _ I h) λu s1 zQq=>?_);obtain⟨x,H1,I1,r1,q1⟩:=zQq;exact thn (hr pos pins s1 σ H1 _ I1 q1) λus s2 ⟨xs,H2,I2,r2,q2⟩=>⟨x::xs,H2,I2,.cons r1 r2,q2⟩
abbrev KL(Q:VK):L6->Hp->Prop:=λxs H1=>xs.length<=sizeLine/\∀p,H1 p=none->Q (.ref p) (upd H1 p (.tup xs))
def KM(t:TA):TE:=λσ H Q=>t σ H (KL Q)
abbrev KR(Q:VK):L6->Hp->Prop:=λxs H1=>xs.length<=sizeLine/\∀p,H1 p=none->Q (.ref p) (upd H1 p (.lst xs))
def tLst(t:TA):TE:=λσ H Q=>t σ H (KR Q)
def bE{x1}(h:PA X es t):PE X (.Tuple es x1 pos) (KM t):=by
 intro pins s σ H Q I hq;refine wpAny_Tuple_spliced (thn (h pos pins s σ H _ I hq) λus s1 ⟨xs,H1,I1,r,z,q⟩=>⟨by rw[<- r.length]; exact z,?_⟩);have hf:H1 s1.heap.objs.size=none:=I1.hok.fresh (le_refl _);refine⟨.ref s1.heap.objs.size,upd H1 s1.heap.objs.size (.tup xs),I1.laid (t':=s1.toks) (λb u e=>get?_push_of_some _ e) (le_refl _) ?_,rfl,q _ hf⟩;exact⟨z,us,r,⟨_,get?_push_size _ rfl,rfl,_,rfl⟩⟩
def cD(h:PA X es t):PE X (.List es pos) (tLst t):=by
 intro pins s σ H Q I hq;refine wpAny_List_spliced (thn (h pos pins s σ H _ I hq) λus s1 ⟨xs,H1,I1,r,z,q⟩=>⟨by rw[<- r.length]; exact z,?_⟩);have hf:H1 s1.heap.objs.size=none:=I1.hok.fresh (le_refl _);refine⟨.ref s1.heap.objs.size,upd H1 s1.heap.objs.size (.lst xs),I1.laid (t':=s1.toks) (λb u e=>get?_push_of_some _ e) (le_refl _) ?_,rfl,q _ hf⟩;exact⟨z,us,0,r,get?_push_size _ rfl⟩
end
abbrev Sp:=L6->Hp->VK->XK->Prop
abbrev CXT:=List Env->Hp->Shared->XK->Value->Shared->Prop
structure Env0(P:Program)(w:World)(K:Ln)(mg:Lp)(base:Heap)(A:Around)(outer:List Env)(s:Shared)(H:Hp):Prop where
 frames:A.frames=some outer
 mod:Mod K mg base
 bs:∀b o,base.get? b=some o->s.heap.get? b=some o/\H b=none
 bsz:base.objs.size<=s.heap.objs.size
 funs:s.heap.FunFrames base outer
 frf:∀b∈frs outer,H b=none
 hok:HOk P w H s.heap
 bare:AllBare s.gens
inductive CE(outer:List Env)(P:Program)(w:World)(H:Hp)(s:Shared)(Q:VK)(u:Value)(s':Shared):Prop
 | mk:∀v H',s'.os=s.os->AllBare s'.gens->Un (frs outer) [] H H' s.heap s'.heap->HOk P w H' s'.heap->bY v u->Q v H'->CE outer P w H s Q u s'
def CR(CX:CXT)(outer:List Env)(P:Program)(w:World)(H:Hp)(s:Shared)(Q:VK)(E:XK)(r:Result)(s':Shared):Prop:=
 match r with
 | .ok (.ret u)=>CE outer P w H s Q u s'
 | .ok _=>False
 | .error e=>CX outer H s E e s'
structure FnOk(P:Program)(w:World)(K:Ln)(mg:Lp)(base:Heap)(CX:CXT)(k:Nat)(f:Addr)(fd:Lx)(ps:Lu)(sp:Sp):Prop where
 len:∀vs H Q E,sp vs H Q E->vs.length=ps.length
 run:∀(A:Around)(outer:List Env)(s:Shared)(H:Hp)(args:Args)(us:Lv)(vs:L6)(Q:VK)(E:XK),Room k A->Env0 P w K mg base A outer s H->BindsTo s fd args (ps.zip us)->bZ vs us->sp vs H Q E->
  codeAny (model P w) A (.call (.ref f) args) (CR CX outer P w H s Q E) s
def Env0.make{P:Program}{w:World}{K:Ln}{mg:Lp}{base:Heap}{A:Around}{outer:List Env}{s:Shared}{H:Hp}(e:Env0 P w K mg base A outer s H)(C:Addr)(us:Lv)(kw:List (Str × Value)) :
  Env0 P w K mg base (A.under (.builtin "type.__call__" ⟨.ref C::us,kw⟩)) outer s H:=⟨by first | exact e.frames | (simpa [Around.under,Code.envs,Code.isFrame,pushEnvs] using e.frames),e.mod,e.bs,e.bsz,e.funs,e.frf,e.hok,e.bare⟩
section
variable{X:Cx}{pins:Lo}{σ : St}{H:Hp}{s s':Shared}
def Inv.env0(I:Inv X pins σ H s):Env0 X.prog X.w X.K X.mg X.base X.A X.stack s H:=
 ⟨I.ok.frames,I.ok.mod,I.bs,le_trans I.ok.bsz I.sz,I.stack,I.stkFree,I.hok,I.bare⟩
def Inv.after(I:Inv X pins σ H s)(h:CE X.stack X.prog X.w H s Q u s'):EP X pins σ Q u s':=by
 obtain⟨v,H',os,bare,un,hok,r,q⟩:=h;obtain⟨hh,g,d,t,os'⟩:=s';obtain rfl:os'=s.os:=os;exact⟨v,H',I.call (h':=hh) (g':=g) (d':=d) (t':=t) (ch:=[]) un hok bare (λb z=>absurd z (by simp)),r,q⟩
end
abbrev DN(sp:Sp)(dvs:L6)(E:XK)(Q:VK):L6->Hp->Prop:=λvs H1=>sp (vs++dvs) H1 Q E
def DO(sp:Sp)(dvs:L6)(E:XK)(t:TA):TE:=λσ H Q=>t σ H (DN sp dvs E Q)
abbrev yZ(sp:Sp)(dvs:L6)(E:XK)(Q:VK)(x:V):L6->Hp->Prop:=λvs H2=>sp (x::(vs++dvs)) H2 Q E
inductive CL(C:Addr)(m:Str)(sp:Sp)(dvs:L6)(E:XK)(t:TA)(σ : St)(Q:VK)(x:V)(H1:Hp):Prop
 | mk:∀a dx fs,x = .ref a->H1 a=some (.ins C dx fs)->fs.lookup m=none->t σ H1 (yZ sp dvs E Q x)->CL C m sp dvs E t σ Q x H1
def DJ(C:Addr)(m:Str)(sp:Sp)(dvs:L6)(E:XK)(ta:TE)(t:TA):TE:=λσ H Q=>ta σ H (CL C m sp dvs E t σ Q)
abbrev y4(C:Addr)(sp:Sp)(dvs:L6)(E:XK)(Q:VK):L6->Hp->Prop:=λvs H1=>∀x dx,H1 x=none->H1 dx=none->dx≠x->
 sp (.ref x::(vs++dvs)) (upd (upd H1 dx (.own x)) x (.ins C dx [])) (λv H2=>v = .non/\Q (.ref x) H2) E
def DK(C:Addr)(sp:Sp)(dvs:L6)(E:XK)(t:TA):TE:=λσ H Q=>t σ H (y4 C sp dvs E Q)
def i9(K:Ln)(fd:Lx)(ps:Lu)(ds:Lv):Prop:=
 ∀(s:Shared)(us:Lv),K.In s.heap->(us++ds).length=ps.length->BindsTo s fd ⟨us,[]⟩ (ps.zip (us++ds))
def i9.all{K:Ln}{fd:Lx}{ps:Lu}(h:∀us:Lv,us.length=ps.length->bindArgs fd ⟨us,[]⟩=pure (ps.zip us)):i9 K fd ps []:=λs us _ hl=>by
 rw[append_nil]at hl ⊢;exact .of_eq (h us hl)
def fE(CX:CXT)(X:Cx)(E:XK):Prop:=∀(pins:Lo)(σ : St)(H:Hp)(s:Shared)(e:Value)(s':Shared),Inv X pins σ H s->CX X.stack H s E e s'->X.xe e s'
section
variable{X:Cx}{CX:CXT}{k:Nat}{f C:Addr}{fd:Lx}{ps:Lu}{sp:Sp}{dvs:L6}{ds:Lv}{E:XK}{x m:Str}{p pos apos:Pos}{e o:Expr}{es:List Expr}{ta:TE}{t:TA}
def zI(F:FnOk X.prog X.w X.K X.mg X.base CX k f fd ps sp)(hr:Room k X.A)(hb:i9 X.K fd ps ds)(hd:bZ dvs ds)(hx:fE CX X E)
  (I:Inv X pins σ H s) (r:bZ vs us) (h:sp (vs++dvs) H Q E):wpAny (model X.prog X.w) X.A (call (.ref f) us) (EP X pins σ Q) X.xe s:=by
 have r2:bZ (vs++dvs) (us++ds):=r.append hd;have hl:(us++ds).length=ps.length:=by rw[<- r2.length]; exact F.len _ _ _ _ h
 refine wpAny_call (codeAny_mono (F.run X.A X.stack s H ⟨us,[]⟩ (us++ds) (vs++dvs) Q E hr I.env0 (hb s us I.kIn hl) r2 h) λr s' hq=>?_);cases r with
 | error e=>exact hx pins σ H s e s' I hq
 | ok fl=>
  cases fl with
  | ret u=>exact I.after hq
  | next=>exact False.elim hq
  | brk=>exact False.elim hq
  | cont=>exact False.elim hq
def Iu(F:FnOk X.prog X.w X.K X.mg X.base CX k f fd ps sp)(hr:Room k X.A)(hg:Gl X x)(hm:X.mg x=some (.ref f))(hk:keepIn X.K (.ref f)=true)(hb:i9 X.K fd ps ds)(hd:bZ dvs ds)(hx:fE CX X E)
  (ha:PA X (e::es) t) (hdb:(x == ("__debug__" : Str))=false:=by decide) (he:starEach (e::es) X.env=(false,eval e X.env)::starEach es X.env:=by rfl) (hpl:(backTo pos (starEach es X.env)).any (·.1)=false:=by rfl) :
  PE X (.Call (.Name x p) (e::es) [] pos) (DO sp dvs E t):=by
 intro pins s σ H Q I h;refine wpAny_Call_Name_kw (iM I hg hm ?_ hdb);refine callWith_K (h₀:=X.base) I.ok.mod.kin hk (thn (ha pos pins s σ H _ I h) λus s1 ⟨vs,H1,I1,r,q⟩=>⟨I1.kIn,?_⟩) he hpl;exact zI F hr hb hd hx I1 r q
def Go(F:FnOk X.prog X.w X.K X.mg X.base CX k f fd ps sp)(hr:Room k X.A)(hg:Gl X x)(hm:X.mg x=some (.ref f))(hk:keepIn X.K (.ref f)=true)(hb:i9 X.K fd ps ds)(hd:bZ dvs ds)(hx:fE CX X E)
  (hdb:(x == ("__debug__" : Str))=false:=by decide):PE X (.Call (.Name x p) [] [] pos) (DO sp dvs E lV):=by
 intro pins s σ H Q I h;refine wpAny_Call_Name_kw (iM I hg hm ?_ hdb);exact callWith_K0 I.kIn hk (zI (us:=[]) F hr hb hd hx I .nil h)
def Ip(he:PE X o ta)(c:Cls X.K C)(hm:Meth X.K C m f)(F:FnOk X.prog X.w X.K X.mg X.base CX k f fd ps sp)(hr:Room k X.A)(hb:i9 X.K fd ps ds)(hd:bZ dvs ds)(hx:fE CX X E)(ha:PA X (e::es) t)
  (hst:starEach (e::es) X.env=(false,eval e X.env)::starEach es X.env:=by rfl) (hpl:(backTo pos (starEach es X.env)).any (·.1)=false:=by rfl)
  (ht:eval (.Call (.Attribute o m apos) (e::es) [] pos) X.env=(do
   let ov <- eval o X.env
   standAt apos.atName
   let (f,first) <- holding [ov] (getMethod ov m pl)
   callWith pos f first (backTo pos (starEach (e::es) X.env)) (backToKw pos (keywordEach [] X.env))):=by rfl) :
  PE X (.Call (.Attribute o m apos) (e::es) [] pos) (DJ C m sp dvs E ta t):=by
 intro pins s σ H Q I h;refine methodCall_KW (pl:=pl) (thn (he pins s σ H _ I h) λu s1 zQq=>?_) ht;obtain⟨x,H1,I1,rx,a,dx,fs,ex,ea,l,q⟩:=zQq;subst ex;obtain rfl:u=Value.ref a:=rx;refine u7 I1 ea c hm l ?_;refine callWith_K (first:=[.ref a]) (h₀:=X.base) I.ok.mod.kin hm.kp (thn (ha pos pins s1 σ H1 _ I1 q) λus s2 ⟨vs,H2,I2,r,q2⟩=>⟨I2.kIn,?_⟩) hst hpl;exact zI (us:=.ref a::us) (vs:=.ref a::vs) F hr hb hd hx I2 (.cons rfl r) q2
def Gm(he:PE X o ta)(c:Cls X.K C)(hm:Meth X.K C m f)(F:FnOk X.prog X.w X.K X.mg X.base CX k f fd ps sp)(hr:Room k X.A)(hb:i9 X.K fd ps ds)(hd:bZ dvs ds)(hx:fE CX X E)
  (ht:eval (.Call (.Attribute o m apos) [] [] pos) X.env=(do
   let ov <- eval o X.env
   standAt apos.atName
   let (f,first) <- holding [ov] (getMethod ov m pl)
   callWith pos f first (backTo pos (starEach [] X.env)) (backToKw pos (keywordEach [] X.env))):=by rfl) :
  PE X (.Call (.Attribute o m apos) [] [] pos) (DJ C m sp dvs E ta lV):=by
 intro pins s σ H Q I h;refine methodCall_KW (pl:=pl) (thn (he pins s σ H _ I h) λu s1 zQq=>?_) ht;obtain⟨x,H1,I1,rx,a,dx,fs,ex,ea,l,q⟩:=zQq;subst ex;obtain rfl:u=Value.ref a:=rx;refine u7 I1 ea c hm l ?_;exact callWith_K0 (first:=[.ref a]) I1.kIn hm.kp (zI (us:=[.ref a]) (vs:=[.ref a]) F hr hb hd hx I1 (.cons rfl .nil) q)
structure Mk(K:Ln)(C f:Addr):Prop where
 makes:PySem.W.makesIn K C=true
 init:findIn K (.ref C) "__init__" = some (some (.ref f))
 fn:PySem.W.isFn K (.ref f)=true
 kp:keepIn K (.ref C)=true
def A4(M:Mk X.K C f)(F:FnOk X.prog X.w X.K X.mg X.base CX k f fd ps sp)(hr:Room (k+1) X.A)(hb:i9 X.K fd ps ds)(hd:bZ dvs ds)
  (hx:fE CX X E) (I:Inv X pins σ H s) (r:bZ vs us)
  (h:∀x dx,H x=none->H dx=none->dx≠x->sp (.ref x::(vs++dvs)) (upd (upd H dx (.own x)) x (.ins C dx [])) (λv H2=>v = .non/\Q (.ref x) H2) E) :
  wpAny (model X.prog X.w) X.A (call (.ref C) us) (EP X pins σ Q) X.xe s:=by
 have hq:=h (s.heap.objs.size+1) s.heap.objs.size (I.hok.fresh (le_succ _)) (I.hok.fresh (le_refl _)) (ne_of_lt (lt_succ_self _));have I2:=Inv.made (C:=C) I;have r2:bZ (V.ref (s.heap.objs.size+1)::(vs++dvs)) (Value.ref (s.heap.objs.size+1)::(us++ds)):=.cons rfl (r.append hd);have hl:(Value.ref (s.heap.objs.size+1)::us++ds).length=ps.length:=by
  have e:=r2.length;rw[F.len _ _ _ _ hq]at e;exact e.symm
 refine wpAny_call (HC (f:=f) I.kIn M.makes M.init (beq_iff_eq.mp M.fn) (codeAny_mono (F.run _ X.stack _ _ ⟨Value.ref (s.heap.objs.size+1)::us,[]⟩ (Value.ref (s.heap.objs.size+1)::(us++ds)) _ _ E (hr.make C us [])
  (I2.env0.make C us []) (hb _ (Value.ref (s.heap.objs.size+1)::us) I2.kIn hl) r2 hq) λr s' hq'=>?_))
 cases r with
 | error e=>exact hx pins σ _ _ e s' I2 hq'
 | ok fl=>
  cases fl with
  | ret u=>
   obtain⟨v,H',I3,rv,ev,q3⟩:=I2.after hq';subst ev;exact⟨rv,⟨V.ref (s.heap.objs.size+1),H',I3,rfl,q3⟩⟩
  | next=>exact False.elim hq'
  | brk=>exact False.elim hq'
  | cont=>exact False.elim hq'
def Iq(M:Mk X.K C f)(F:FnOk X.prog X.w X.K X.mg X.base CX k f fd ps sp)(hr:Room (k+1) X.A)(hg:Gl X x)(hm:X.mg x=some (.ref C))(hb:i9 X.K fd ps ds)(hd:bZ dvs ds)(hx:fE CX X E)
  (ha:PA X (e::es) t) (hdb:(x == ("__debug__" : Str))=false:=by decide) (he:starEach (e::es) X.env=(false,eval e X.env)::starEach es X.env:=by rfl) (hpl:(backTo pos (starEach es X.env)).any (·.1)=false:=by rfl) :
  PE X (.Call (.Name x p) (e::es) [] pos) (DK C sp dvs E t):=by
 intro pins s σ H Q I h;refine wpAny_Call_Name_kw (iM I hg hm ?_ hdb);refine callWith_K (h₀:=X.base) I.ok.mod.kin M.kp (thn (ha pos pins s σ H _ I h) λus s1 ⟨vs,H1,I1,r,q⟩=>⟨I1.kIn,?_⟩) he hpl;exact A4 M F hr hb hd hx I1 r q
def Gn(M:Mk X.K C f)(F:FnOk X.prog X.w X.K X.mg X.base CX k f fd ps sp)(hr:Room (k+1) X.A)(hg:Gl X x)(hm:X.mg x=some (.ref C))(hb:i9 X.K fd ps ds)(hd:bZ dvs ds)(hx:fE CX X E)
  (hdb:(x == ("__debug__" : Str))=false:=by decide):PE X (.Call (.Name x p) [] [] pos) (DK C sp dvs E lV):=by
 intro pins s σ H Q I h;refine wpAny_Call_Name_kw (iM I hg hm ?_ hdb);exact callWith_K0 I.kIn M.kp (A4 (us:=[]) M F hr hb hd hx I .nil h)
end
section
variable{X:Cx}{CX:CXT}{k:Nat}{f C:Addr}{fd:Lx}{ps ks:Lu}{sp:Sp}{E:XK}{x m:Str}{p pos apos kpos:Pos}{e o:Expr}{es:List Expr}{kws:List Keyword}{te ta:TE}{t tk:TA}{nm:Option Str}
variable{g:Lv->Lv->Lv}{gV:L6->L6->L6}
end
structure FnScope(N P:Lu)(sc:Scope):Prop where
 kind:sc.kind = .function
 co:sc.isCoroutine=false
 gen:sc.isGenerator=false
 nd:N.Nodup
 pre:N.take P.length=P
 par:∀x∈P,sc.names.lookup x=some .local\/sc.names.lookup x=some .cell
 nofree:∀y∈sc.names,y.2 ≠ .free
def yQ{kindOf:Str->Option NameKind}{x:Str}:∀{binds:List (Str × Value)}{m:Lp},(∀v,(x,v) ∉ binds)->bindL kindOf binds m x=m x
 | [],_,_=>rfl
 | (n,v)::r,m,h=>by
  unfold bindL;rw[yQ λw hw=>h w (mem_cons_of_mem _ hw)];split
  ·have:x≠n:=by rintro rfl; exact h v mem_cons_self
   simp [this]
  ·rfl
def yS{kindOf:Str->Option NameKind}{x:Str}:∀{binds:List (Str × Value)}{m:Lp},(∀v,(x,v) ∉ binds)->bindC kindOf binds m x=m x
 | [],_,_=>rfl
 | (n,v)::r,m,h=>by
  unfold bindC;rw[yS λw hw=>h w (mem_cons_of_mem _ hw)];split
  ·rfl
  ·have:x≠n:=by rintro rfl; exact h v mem_cons_self
   simp [this]
def yR{kindOf:Str->Option NameKind}{x:Str}{v:Value}:∀{P:Lu}{vs:Lv}{i:Nat}{m:Lp},P.Nodup->P[i]? = some x->vs[i]? = some v->kindOf x=some .local->
  bindL kindOf (P.zip vs) m x=some v
 | [],_,_,_,_,h,_,_=>by simp at h
 | _::_,[],_,_,_,_,h,_=>by simp at h
 | p::P,w::vs,0,m,nd,h1,h2,hk=>by
  simp at h1 h2; subst h1; subst h2;show bindL kindOf ((p,w)::P.zip vs) m p=_;unfold bindL;rw[yQ λv hv=>(nodup_cons.mp nd).1 (List.of_mem_zip hv).1,if_pos hk];simp
 | p::P,w::vs,i+1,m,nd,h1,h2,hk=>by
  show bindL kindOf ((p,w)::P.zip vs) m x=_;unfold bindL;exact yR (i:=i) (nodup_cons.mp nd).2 (by simpa using h1) (by simpa using h2) hk
def yT{kindOf:Str->Option NameKind}{x:Str}{v:Value}:∀{P:Lu}{vs:Lv}{i:Nat}{m:Lp},P.Nodup->P[i]? = some x->vs[i]? = some v->kindOf x≠some .local->
  bindC kindOf (P.zip vs) m x=some v
 | [],_,_,_,_,h,_,_=>by simp at h
 | _::_,[],_,_,_,_,h,_=>by simp at h
 | p::P,w::vs,0,m,nd,h1,h2,hk=>by
  simp at h1 h2; subst h1; subst h2;show bindC kindOf ((p,w)::P.zip vs) m p=_;unfold bindC;rw[yS λv hv=>(nodup_cons.mp nd).1 (List.of_mem_zip hv).1,if_neg hk];simp
 | p::P,w::vs,i+1,m,nd,h1,h2,hk=>by
  show bindC kindOf ((p,w)::P.zip vs) m x=_;unfold bindC;exact yT (i:=i) (nodup_cons.mp nd).2 (by simpa using h1) (by simpa using h2) hk
def oK(N:Lu)(vs:L6):St:=vs.map some++List.replicate (N.length - vs.length) none
def AK(CX:CXT)(P:Program)(w:World)(K:Ln)(mg:Lp)(base:Heap)(N:Lu)(qual:Str)(scope:Scope)(f:Addr)(cd:Value)(A:Around)(outer:List Env)(s:Shared)(H:Hp)(E:XK):Cx where
 prog:=P
 w:=w
 K:=K
 mg:=mg
 base:=base
 A:=A.deeper (envOfC qual scope s.heap.objs.size f cd)
 N:=N
 s₀:=s
 H₀:=H
 env:=envOfC qual scope s.heap.objs.size f cd
 outer:=outer
 stack:=envOfC qual scope s.heap.objs.size f cd::outer
 ex:=[]
 calm:=true
 fn:=λ_=>true
 pn:=[]
 xe:=λe s'=>wpAny (model P w) (A.deeper (envOfC qual scope s.heap.objs.size f cd)) (leaving (envOfC qual scope s.heap.objs.size f cd) e) (λ_ s''=>CX outer H s E e s'') (λe' s''=>CX outer H s E e' s'') s'
def Bv{sc:Scope}{n:Nat}{x:Str}(h:sc.names.lookup x=some .cell):∃c,(cellsFrom n sc.names []).lookup x=some c:=by
 have q:=PySem.W.cellsFrom_some sc.names n [] (.inl h);exact Option.isSome_iff_exists.mp q
def FO{CX:CXT}{P:Program}{w:World}{K:Ln}{mg:Lp}{base:Heap}{N ps:Lu}{qual:Str}{scope:Scope}{f:Addr}{cd:Value}{A:Around}{outer:List Env}{s s1:Shared}{H:Hp}{E:XK}{us:Lv}{vs:L6}
  (S:FnScope N ps scope) (hd:A.handled=none) (e0:Env0 P w K mg base A outer s H) (hl:vs.length=ps.length) (r:bZ vs us)
  (x:InCallC s s.heap.objs.size (bindL (envOfC qual scope s.heap.objs.size f cd).kindOf (ps.zip us) λ_=>none) (cellsFrom (s.heap.objs.size+1) scope.names []) (bindC (envOfC qual scope s.heap.objs.size f cd).kindOf (ps.zip us) λ_=>none) s1) :
  Inv (AK CX P w K mg base N qual scope f cd A outer s H E) [] (oK N vs) H s1:=by
 have hpl:ps.length<=N.length:=by have:=congrArg List.length S.pre; rw[length_take]at this; omega
 obtain⟨h1,tk,rfl,hk⟩:=x.done;have noA:∀b:Addr,b ∉ (AK CX P w K mg base N qual scope f cd A outer s H E).ex:=λb z=>absurd (show b∈([]:List Addr) from z) (by simp);refine⟨⟨e0.mod,S.kind,rfl,rfl,le_refl _,λy z c h1 h2=>?_,λy hy=>?_,λy c _ h=>?_,λ_=>hd,Around.frames_deeper e0.frames,.inr ⟨rfl,rfl⟩,λb z=>absurd z (noA b),e0.bs,e0.bsz,λb _ _=>noA b,λb z=>absurd z (noA b),e0.funs,e0.frf⟩,
  rfl,e0.bare,Un.kept hk,⟨_,x.toInCall.ns,λi y v h1 h2 h3=>?_⟩,λy c h=>⟨_,x.cell y c h⟩,e0.hok.fresh (le_refl _),λy c h=>?_,λp hp=>absurd (show p∈([]:Lo) from hp) (by simp),e0.hok.kept hk,?_⟩
 ·exact name_of_addr x.apart (PySem.mem_of_lookup h1) (PySem.mem_of_lookup h2)
 ·have hy:scope.names.lookup y=some .cell\/scope.names.lookup y=some .free:=hy;rcases hy with hy | hy
  ·exact Bv hy
  ·exact absurd rfl (S.nofree _ (PySem.mem_of_lookup hy))
 ·exact le_of_lt (x.above y c (PySem.mem_of_lookup h))
 ·have hi:i<vs.length:=by
   unfold oK at h2;by_cases hi:i<vs.length
   ·exact hi
   ·rw[getElem?_append_right (by simpa using hi)]at h2;rw[List.getElem?_replicate]at h2;split at h2 <;> cases h2
  have ha:vs[i]? = some v:=by
   unfold oK at h2;rw[getElem?_append_left (by simpa using hi),getElem?_map]at h2;cases e:vs[i]? with
   | none=>rw[e]at h2; cases h2
   | some a=>rw[e]at h2; cases h2; rfl
  obtain⟨u,hu,rv⟩:=r.get ha;have hp:ps[i]? = some y:=by
   rw[<- S.pre,List.getElem?_take_of_lt (by omega)]; exact h1
  have ndP:ps.Nodup:=by rw[<- S.pre]; exact S.nd.sublist (List.take_sublist _ _)
  refine⟨u,rv,?_⟩;rcases S.par y (mem_of_getElem? hp) with k | k
  ·exact .inl ⟨k,yR ndP hp hu k⟩
  ·obtain⟨c,e⟩:=Bv (n:=s.heap.objs.size+1) k;refine .inr ⟨.inl k,c,e,?_⟩;have q:=x.cell y c e;rw[yT ndP hp hu (by show scope.names.lookup y≠_; rw[k]; decide)]at q;exact q
 ·exact e0.hok.fresh (le_of_lt (x.above y c (PySem.mem_of_lookup h)))
 ·unfold oK;show _=N.length;rw[length_append,length_map,List.length_replicate];omega
def fn_of{CX:CXT}{P:Program}{w:World}{K:Ln}{mg:Lp}{base:Heap}{k:Nat}{f:Addr}{name qual:Str}{params:Arguments}{body:List Stmt}{scope:Scope}{dV kV doc pm cdv ct oc:Value}{an od:Option Addr}
  {osl:Lr} {N ps:Lu} {sp:Sp} (lk:K.lookup f=some ⟨oc,od,.func (fnOf name qual params body scope dV kV doc pm an cdv ct),osl⟩) (hcd:codeIn K cdv qual=true) (S:FnScope N ps scope)
  (len:∀vs H Q E,sp vs H Q E->vs.length=ps.length)
  (hbody:∀(A:Around)(outer:List Env)(s:Shared)(H:Hp)(vs:L6)(Q:VK)(E:XK),Room k (A.deeper (envOfC qual scope s.heap.objs.size f cdv))->sp vs H Q E->
   ∃t,PSs (AK CX P w K mg base N qual scope f cdv A outer s H E) body t/\t (Ends.fn Q) (oK N vs) H) :
  FnOk P w K mg base CX (k+1) f (fnOf name qual params body scope dV kV doc pm an cdv ct) ps sp:=by
 refine⟨len,λA outer s H args us vs Q E hr e0 hb r hsp=>?_⟩;have hl:=len _ _ _ _ hsp;have KX:K.In s.heap:=e0.mod.kin.keeps λb o e=>(e0.bs b o e).1;have lim:s.heap.NoLimit:=e0.mod.nolimit.keeps λb o e=>(e0.bs b o e).1;have hkind:∀y∈ps.zip us,scope.names.lookup y.1=some .local\/(scope.names.lookup y.1=some .cell/\((cellsFrom (s.heap.objs.size+1) scope.names []).lookup y.1).isSome=true):=λ⟨n,v⟩ hy=>by
  rcases S.par n (List.of_mem_zip hy).1 with q | q
  ·exact .inl q
  ·exact .inr ⟨q,PySem.W.cellsFrom_some _ _ _ (.inl q)⟩
 refine codeAny_call_function hr.depth (KX _ _ lk) rfl S.co S.gen rfl (PySem.W.codeRec_of KX hcd) (hb _ _ _ _ ?_);refine wpAny_newFunctionEnv_cells S.kind hkind λenv he s1 x=>?_;subst he;refine⟨lim.keeps x.toInCall.keep,codeAny_func ?_⟩;obtain⟨t,ht,hq⟩:=hbody A outer s H vs Q E (hr.deeper _) hsp;have I:Inv (AK CX P w K mg base N qual scope f cdv A outer s H E) [] (oK N vs) H s1:=FO S hr.hd e0 hl r x;refine wpAny_mono (ht [] s1 (oK N vs) H _ I hq) (λfl s' hs=>?_) λe s' hs=>hs;have fin:∀{σ':St}{H':Hp}{v:V}{u:Value},Inv (AK CX P w K mg base N qual scope f cdv A outer s H E) [] σ' H' s'->bY v u->Q v H'->CE outer P w H s Q u s':=
  λ{σ' H' v u} J rv q=>⟨v,H',J.os,J.bare,J.base,J.hok,rv,q⟩
 cases fl with
 | ret u=>
  obtain⟨v,σ',H',J,rv,q⟩:=hs;exact fin J rv q
 | next=>
  obtain⟨σ',H',J,q⟩:=hs;exact fin (v:=V.non) (u:=Value.none) J rfl q
 | brk=>
  obtain⟨_,_,_,q⟩:=hs;exact False.elim q
 | cont=>
  obtain⟨_,_,_,q⟩:=hs;exact False.elim q
section
variable{X:Cx}{x:Str}{p pos:Pos}{e:Expr}{es:List Expr}{t:TA}{id T:String}{r:L6->Hp->VK->Prop}
abbrev tCB_1(r:L6->Hp->VK->Prop)(Q:VK):L6->Hp->Prop:=λvs H1=>r vs H1 Q
def tCB(r:L6->Hp->VK->Prop)(t:TA):TE:=λσ H Q=>t σ H (tCB_1 r Q)
def bF(hc:gM X (.builtin id) r)(hg:Gl X x)(hm:X.mg x=none)(hv:bootBuiltins x=some (.builtin id))(ha:PA X (e::es) t)(hn:x ≠ "__name__":=by decide)(hdb:(x == ("__debug__" : Str))=false:=by decide)
  (he:starEach (e::es) X.env=(false,eval e X.env)::starEach es X.env:=by rfl) (hpl:(backTo pos (starEach es X.env)).any (·.1)=false:=by rfl):PE X (.Call (.Name x p) (e::es) [] pos) (tCB r t):=by
 intro pins s σ H Q I h;refine wpAny_Call_Name_kw (lJ I hg hm hv ?_ hn hdb);exact PyProof.Rows.callWith_builtin1 (thn (ha pos pins s σ H _ I h) λus s1 ⟨vs,H1,I1,r1,q1⟩=>hc pins s1 σ H1 vs us Q I1 r1 q1) he hpl
def kF(hc:gM X (.type T) r)(hg:Gl X x)(hm:X.mg x=none)(hv:bootBuiltins x=some (.type T))(ha:PA X (e::es) t)(hn:x ≠ "__name__":=by decide)(hdb:(x == ("__debug__" : Str))=false:=by decide)
  (he:starEach (e::es) X.env=(false,eval e X.env)::starEach es X.env:=by rfl) (hpl:(backTo pos (starEach es X.env)).any (·.1)=false:=by rfl):PE X (.Call (.Name x p) (e::es) [] pos) (tCB r t):=by
 intro pins s σ H Q I h;refine wpAny_Call_Name_kw (lJ I hg hm hv ?_ hn hdb);exact PyProof.Rows.callWith_type1 (thn (ha pos pins s σ H _ I h) λus s1 ⟨vs,H1,I1,r1,q1⟩=>hc pins s1 σ H1 vs us Q I1 r1 q1) he hpl
end
end L2
namespace HT
open PySem PyProof.Rows
section
open PySem.SeqAt
open PySem.AutoSeq1 (wpAny_loadPart')
open PySem.MeetsSeq PySem.MeetsSeq2 PySem.MeetsSeq3
end
section
variable{prog:Program}{w:World}{A:Around}{E:Ly}{s:Shared}
def Jh(ht:IsTup s.heap t vs.toArray)(hb:IsTup s.heap b ws.toArray)(hv:vs≠[])
  (h1:ws=[]->Q (.ref t) s) (h2:ws≠[]->Q (.ref s.heap.objs.size) { s with heap:=s.heap.push { cls:=.type "tuple",data:=.seq (vs++ws).toArray } })
  (hsz:vs.length+ws.length<=sizeLine):wpAny (model prog w) A (binaryOp .Add (.ref t) (.ref b)) Q E s:=by
 obtain⟨⟨cls,dd,data,sl⟩,ho,hc,n,hd⟩:=id ht;obtain⟨⟨cls2,dd2,data2,sl2⟩,ho2,hc2,n2,hd2⟩:=id hb;simp only at hc hd hc2 hd2;subst hc hd hc2 hd2;have e:vs.toArray++ws.toArray=(vs++ws).toArray:=by simp
 by_cases hw:ws=[]
 ·exact concat_meets ⟨_,ho,rfl⟩ ⟨_,ho2,rfl⟩ noFill_tuple_add seq_tuple_add PySem.F.slot_tuple_add PySem.F.entry_tuple_add (PySem.F.args_tuple_add_2 _ _)
   (tuple_addW1 t b vs.toArray ws.toArray n n2 dd dd2 sl sl2 (by simpa using hv) (by simp [hw])) ⟨ho,ho2,h1 hw⟩
 ·refine concat_meets ⟨_,ho,rfl⟩ ⟨_,ho2,rfl⟩ noFill_tuple_add seq_tuple_add PySem.F.slot_tuple_add PySem.F.entry_tuple_add (PySem.F.args_tuple_add_2 _ _)
   (tuple_addW2 t b vs.toArray ws.toArray n n2 dd dd2 sl sl2 (by simpa using hv) (by simpa using hw) (by rw[size_toArray,size_toArray]; exact hsz)) ⟨ho,ho2,?_⟩
  rw[e];exact h2 hw
def sIx(n d:Nat):Option Int->Nat
 | none=>d
 | some v=>if v<0 then (v+(n:Int)).toNat else min v.toNat n
def uH(n d:Nat):sIx n d none=d:=rfl
def jF(n d k:Nat):sIx n d (some (k:Int))=min k n:=by
 show (if (k:Int)<0 then ((k:Int)+(n:Int)).toNat else min (k:Int).toNat n)=min k n;rw[if_neg (by omega),Int.toNat_natCast]
def Km(n d:Nat)(hd:d<=n)(o:Option Int):sIx n d o<=n:=by
 cases o with
 | none=>exact hd
 | some v=>
  show (if v<0 then (v+(n:Int)).toNat else min v.toNat n)<=n;by_cases hv:v<0
  ·rw[if_pos hv]; omega
  ·rw[if_neg hv]; exact Nat.min_le_right _ _
def ER(v:Int)(n d:Nat):(if v<0 then max (v+(n:Int)) 0 else min v (n:Int))=((sIx n d (some v):Nat):Int):=by
 show (if v<0 then max (v+(n:Int)) 0 else min v (n:Int))=(((if v<0 then (v+(n:Int)).toNat else min v.toNat n):Nat):Int);by_cases hv:v<0
 ·simp only[if_pos hv]; omega
 ·simp only[if_neg hv]; omega
def DC(lo hi:Option Int)(n:Nat):Builtin.Slice.sliceAdjust lo hi 1 (n:Int)=(((sIx n 0 lo:Nat):Int),((sIx n n hi:Nat):Int)):=by
 have h1:¬ ((1:Int)<0):=by omega
 unfold Builtin.Slice.sliceAdjust;simp only[h1,if_false];refine Prod.ext ?_ ?_
 ·cases lo with
  | none=>rfl
  | some v=>exact ER v n 0
 ·cases hi with
  | none=>rfl
  | some v=>exact ER v n n
def CZ(i j:Nat):Builtin.Slice.slicePlaces (i:Int) (j:Int) 1=j - i:=by
 unfold Builtin.Slice.slicePlaces;have h1:(1:Int) > 0:=by omega
 simp only[h1,if_true,Int.ediv_one];split <;> omega
def tU(p:IsPart v o)(h:Q o s):wpAny (model prog w) A (Builtin.Slice.slicePartIndex v) Q E s:=by
 cases p with
 | none=>exact slicePart_none h
 | int i t=>exact slicePart_int h
def kA{sl:Addr}{vl vu:Value}{lo hi:Option Int}{n:Nat}{Q:Int × Int × Nat->Shared->Prop}(hs:s.heap.IsSliceOf sl vl vu .none)(pl:IsPart vl lo)(pu:IsPart vu hi)
  (h:Q (((sIx n 0 lo:Nat):Int),1,sIx n n hi - sIx n 0 lo) s):wpAny (model prog w) A (Builtin.Slice.sliceApplied (.ref sl) (pure (n:Int))) Q E s:=by
 obtain⟨os,hos,hcs,hds⟩:=id hs;unfold Builtin.Slice.sliceApplied Builtin.Slice.sliceFields;refine wpAny_bind (wpAny_bind (wpAny_field hos hds (x:=vl) rfl (wpAny_bind (wpAny_field hos hds (x:=vu) rfl (wpAny_bind (wpAny_field hos hds (x:=.none) rfl (wpAny_pure ?_)))))));refine wpAny_bind (slicePart_none ?_);show wpAny _ _ (if ((1:Int) == 0)=true then _ else _) _ _ s;rw[if_neg (by decide)];refine wpAny_bind (tU pl (wpAny_bind (tU pu (wpAny_bind (wpAny_pure ?_)))));show wpAny _ _ (match Builtin.Slice.sliceAdjust lo hi 1 (n:Int) with | (lo,hi)=>pure (lo,(1:Int),Builtin.Slice.slicePlaces lo hi 1)) _ _ s;rw[DC lo hi n];show wpAny _ _ (pure (((sIx n 0 lo:Nat):Int),(1:Int),Builtin.Slice.slicePlaces ((sIx n 0 lo:Nat):Int) ((sIx n n hi:Nat):Int) 1)) _ _ s;rw[CZ];exact wpAny_pure h
def Gg(xs:Array Value)(i k:Nat):((List.range k).filterMap λ(m:Nat)=>xs[((i:Int)+(m:Int) * 1).toNat]?).toArray=((xs.toList.drop i).take k).toArray:=by
 have e:(λ(m:Nat)=>xs[((i:Int)+(m:Int) * 1).toNat]?)=λm=>xs[i+m]?:=by
  funext m;have:((i:Int)+(m:Int) * 1).toNat=i+m:=by omega
  rw[this]
 rw[e];have:=pick_run xs i k;rw[List.filterMap_map]at this;have e2:((λx=>xs[x]?) ∘ λx=>i+x)=λm=>xs[i+m]?:=rfl;rw[e2]at this;rw[this]
def pO{t sl:Addr}{items:Array Value}{vl vu:Value}{lo hi:Option Int}{Q:Ly}(ht:IsTup s.heap t items)(hs:s.heap.IsSliceOf sl vl vu .none)(pl:IsPart vl lo)(pu:IsPart vu hi)
  (hw:¬ (sIx items.size 0 lo=0/\sIx items.size items.size hi=items.size))
  (h:Q (.ref s.heap.objs.size) { s with heap:=s.heap.push { cls:=.type "tuple",data:=.seq ((items.toList.drop (sIx items.size 0 lo)).take (sIx items.size items.size hi - sIx items.size 0 lo)).toArray } })
  (hsz:items.size<=sizeLine):wpAny (model prog w) A (getItem (.ref t) (.ref sl)) Q E s:=by
 have htake:sizeOk (.seq ((items.toList.drop (sIx items.size 0 lo)).take (sIx items.size items.size hi - sIx items.size 0 lo)).toArray):=by
  show ((items.toList.drop (sIx items.size 0 lo)).take (sIx items.size items.size hi - sIx items.size 0 lo)).toArray.size<=sizeLine;rw[size_toArray,length_take,length_drop,length_toList];omega
 have hj:sIx items.size items.size hi<=items.size:=Km _ _ (le_refl _) hi;obtain⟨os,hos,hcs,hds⟩:=id hs;have hTs:s.TypeIs (.ref sl) "slice":=⟨os,hos,hcs⟩;unfold getItem
 try with_reducible refine wpAny_holding ?_
 first | refine wpAny_bind (wpAny_pure ?_) | skip
 refine wpAny_bind (wpAny_sequenceKey ht.typeIs (by decide) ?_);refine wpAny_bind (wpAny_callSpecial?_slot (name:=Str.ofString "__getitem__") ht.typeIs PyProof.Rows.slot_tuple_getitem
  (wpAny_call_entry PyProof.Rows.slot_tuple_getitem ht.typeIs entry_tuple_getitem ?_ (args_tuple_getitem _ _)))
 show wpAny _ _ (Builtin.Tuple.tupleItemsOf (.ref t) >>= _) _ _ s;refine wpAny_bind (tupleItemsOf_ ht ?_);refine wpAny_bind (wpAny_typeOf hTs ?_);rw[if_pos (by decide)];refine wpAny_bind (kA hs pl pu ?_);have hno:¬ ((((sIx items.size 0 lo:Nat):Int) == 0 && (1:Int) == 1 && (sIx items.size items.size hi - sIx items.size 0 lo) == items.size)=true):=by
  intro q;rw[and_eq_true,and_eq_true]at q;have q1:((sIx items.size 0 lo:Nat):Int)=0:=eq_of_beq q.1.1;have q2:sIx items.size items.size hi - sIx items.size 0 lo=items.size:=eq_of_beq q.2;exact hw ⟨by omega,by omega⟩
 show wpAny _ _ (if (((sIx items.size 0 lo:Nat):Int) == 0 && (1:Int) == 1 && (sIx items.size items.size hi - sIx items.size 0 lo) == items.size)=true then _ else _) _ _ s;rw[if_neg hno,Gg]
 first
  | exact wpAny_bind (m:=Builtin.Tuple.tupleExact _) (wpAny_newObj_type (wpAny_pure ⟨_,rfl,wpAny_pure h⟩) htake)
  | exact wpAny_bind (m:=Builtin.Tuple.tupleExact _) (wpAny_newObj_type (wpAny_bind (wpAny_pure (wpAny_pure ⟨_,rfl,wpAny_pure h⟩))) htake)
  | exact wpAny_bind (wpAny_bind (m:=Builtin.Tuple.tupleExact _) (wpAny_newObj_type (wpAny_pure (wpAny_pure ⟨_,rfl,wpAny_pure h⟩)) htake))
  | exact wpAny_bind (wpAny_bind (m:=Builtin.Tuple.tupleExact _) (wpAny_newObj_type (wpAny_pure ⟨_,rfl,wpAny_pure h⟩) htake))
end
end HT
namespace L2
open PySem PySem.Spec PyProof.Rows
abbrev TO:=St->Hp->(Option Int->Hp->Prop)->Prop
def PO(X:Cx)(e:Option Expr)(t:TO):Prop:=
 ∀pins s σ H(Q:Option Int->Hp->Prop),Inv X pins σ H s->t σ H Q->
  wpAny (model X.prog X.w) X.A (evalPart e X.env) (λu s'=>∃o H',Inv X pins σ H' s'/\IsPart u o/\Q o H') X.xe s
def DI:TO:=λ_ H Q=>Q none H
inductive Fx(Q:(Option Int->Hp->Prop))(x:V)(H1:Hp):Prop
 | mk:∀i,x = .int i->Q (some i) H1->Fx Q x H1
def tPart(t:TE):TO:=λσ H Q=>t σ H (Fx Q)
section
variable{X:Cx}{e:Expr}{te:TE}{lo hi:Option Expr}{tl th:TO}{pos p2:Pos}
def jH:PO X none DI:=by
 intro pins s σ H Q I h;rw[evalPart_none];exact wpAny_pure ⟨none,H,I,.none,h⟩
def gX(h:PE X e te):PO X (some e) (tPart te):=by
 intro pins s σ H Q I hw;rw[evalPart_some];refine thn (h pins s σ H _ I hw) λu s1 zQq=>?_;obtain⟨x,H1,I1,r1,q1⟩:=zQq;obtain⟨i,rfl,q⟩:=q1;obtain⟨t,rfl⟩:=r1;exact⟨some i,H1,I1,.int i t,q⟩
def SlR(X:Cx)(r:V->Option Int->Option Int->Hp->VK->Prop):Prop:=
 ∀pins s σ H(x:V)(v vl vu:Value)(lo hi:Option Int)(sl:Addr)(Q:VK),Inv X pins σ H s->bY x v->s.heap.IsSliceOf sl vl vu .none->IsPart vl lo->IsPart vu hi->r x lo hi H Q->
  ∃T id,typeLookup (.type T) "__getitem__" = pure (some (.builtin id))/\s.TypeIs v T/\wpAny (model X.prog X.w) X.A (getItem v (.ref sl)) (EP X pins σ Q) X.xe s
abbrev tSl_3(r:V->Option Int->Option Int->Hp->VK->Prop)(Q:VK)(x:V)(l:Option Int):Option Int->Hp->Prop:=λu H3=>r x l u H3 Q
abbrev tSl_2(r:V->Option Int->Option Int->Hp->VK->Prop)(th:TO)(σ : St)(Q:VK)(x:V):Option Int->Hp->Prop:=λl H2=>th σ H2 (tSl_3 r Q x l)
abbrev tSl_1(r:V->Option Int->Option Int->Hp->VK->Prop)(tl:TO)(th:TO)(σ : St)(Q:VK):V->Hp->Prop:=λx H1=>tl σ H1 (tSl_2 r th σ Q x)
def tSl(r:V->Option Int->Option Int->Hp->VK->Prop)(te:TE)(tl th:TO):TE:=λσ H Q=>te σ H (tSl_1 r tl th σ Q)
def f9{r:V->Option Int->Option Int->Hp->VK->Prop}(hr:SlR X r)(he:PE X e te)(hl:PO X lo tl)(hu:PO X hi th):PE X (.Subscript e (.Slice lo hi none p2) pos) (tSl r te tl th):=by
 intro pins s σ H Q I h;refine Subscript_ (thn (he pins s σ H _ I h) λv s1 zQq=>?_);obtain⟨x,H1,I1,r1,q1⟩:=zQq;refine wpAny_Slice (thn (hl pins s1 σ H1 _ I1 q1) λvl s2 ⟨l,H2,I2,pl,q2⟩=>thn (hu pins s2 σ H2 _ I2 q2) λvu s3 zQq=>?_);obtain⟨u,H3,I3,pu,q3⟩:=zQq;rw[evalPart_none];refine wpAny_pure ?_;have I4:Inv X pins σ H3 { s3 with heap:=s3.heap.push { cls:=.type "slice",data:=.fields #[vl,vu,.none] } }:=I3.kept (t':=s3.toks) λb ob q=>get?_push_of_some _ q;obtain⟨T,id,hT,ht,hg⟩:=hr pins { s3 with heap:=s3.heap.push { cls:=.type "slice",data:=.fields #[vl,vu,.none] } } σ H3 x v vl vu l u s3.heap.objs.size Q I4 r1 (Heap.IsSliceOf.new ..) pl pu q3;show wpAny (model X.prog X.w) X.A (subscriptTail e (.Slice lo hi none p2) v (.ref s3.heap.objs.size)) (EP X pins σ Q) X.xe { s3 with heap:=s3.heap.push { cls:=.type "slice",data:=.fields #[vl,vu,.none] } };exact tail_any (ops:=[.ref s3.heap.objs.size,v]) ht hT hg (by with_unfolding_all rfl)
def i8(xs:L6)(lo hi:Option Int):L6:=(xs.drop (HT.sIx xs.length 0 lo)).take (HT.sIx xs.length xs.length hi - HT.sIx xs.length 0 lo)
def rW(xs:L6)(lo hi:Option Int):(i8 xs lo hi).length<=xs.length:=by
 unfold i8;rw[length_take,length_drop];omega
inductive rSlT(K:Ln)(x:V)(lo:Option Int)(hi:Option Int)(H:Hp)(Q:VK):Prop
 | mk:∀a xs,x = .ref a->SqT K H a xs->(¬ (HT.sIx xs.length 0 lo=0/\HT.sIx xs.length xs.length hi=xs.length))->(∀p,H p=none->Q (.ref p) (upd H p (.tup (i8 xs lo hi))))->rSlT K x lo hi H Q
def Kk:SlR X (rSlT X.K):=by
 intro pins s σ H x v vl vu lo hi sl Q I rx hs pl pu h;obtain⟨a,xs,rfl,hx,hw,q⟩:=h;cases rx;obtain⟨its,r,ht,hz⟩:=I.tuple hx;have hlen:its.toArray.size=xs.length:=by rw[size_toArray]; exact r.length.symm
 refine⟨"tuple",_,PyProof.Rows.slot_tuple_getitem.lookup,ht.typeIs,?_⟩;refine HT.pO ht hs pl pu (by rw[hlen]; exact hw) ?_ (by rw[hlen]; exact hz);rw[hlen];refine⟨.ref s.heap.objs.size,_,I.laid (t':=s.toks) (o:=.tup (i8 xs lo hi)) (λb ob q=>get?_push_of_some _ q) (le_refl _) ?_,rfl,q _ (I.hok.fresh (le_refl _))⟩;exact⟨le_trans (rW xs lo hi) hz,_,(r.drop (HT.sIx xs.length 0 lo)).take (HT.sIx xs.length xs.length hi - HT.sIx xs.length 0 lo),IsTup.new _ _⟩
inductive J1(K:Ln)(x:V)(y:V)(H:Hp)(Q:VK):Prop
 | mk:∀a b xs ys,x = .ref a->y = .ref b->SqT K H a xs->SqT K H b ys->xs≠[]->xs.length+ys.length<=sizeLine->(ys=[]->Q (.ref a) H)->(ys≠[]->∀p,H p=none->Q (.ref p) (upd H p (.tup (xs++ys))))->J1 K x y H Q
def bZ.nil_iff(r:bZ xs us):us=[] ↔ xs=[]:=by
 cases r with
 | nil=>simp
 | cons _ _=>simp
def Ix:OpR X (binaryOp .Add) (J1 X.K):=by
 intro pins s σ H x y v u Q I rx ry h;obtain⟨a,b,xs,ys,rfl,rfl,ha,hb,hx,hz,q1,q2⟩:=h;cases rx;cases ry;obtain⟨its,r1,p1,_⟩:=I.tuple ha;obtain⟨its2,r2,p2,_⟩:=I.tuple hb;refine HT.Jh p1 p2 (λz=>hx (r1.nil_iff.mp z)) (λz=>⟨.ref a,H,I,rfl,q1 (r2.nil_iff.mp z)⟩) (λz=>?_) (by rw[<- r1.length,<- r2.length]; exact hz);refine⟨.ref s.heap.objs.size,_,I.laid (t':=s.toks) (o:=.tup (xs++ys)) (λb ob q=>get?_push_of_some _ q) (le_refl _) ?_,rfl,q2 (λw=>z (r2.nil_iff.mpr w)) _ (I.hok.fresh (le_refl _))⟩;exact⟨by rw[length_append]; exact hz,_,r1.append r2,IsTup.new _ _⟩
end
def ixN(n:Nat)(i:Int):Option Nat:=if 0<=i then (if i<n then some i.toNat else none) else if -(n:Int)<=i then some (i+n).toNat else none
def atI{α : Type}(xs:List α)(i:Int):Option α:=(ixN xs.length i).bind λj=>xs[j]?
def JR(h:ixN n i=some j):seqIndex? i n=some j/\j<n/\-(n:Int)<=i/\i<n:=by
 unfold ixN at h;by_cases h0:0<=i
 ·rw[if_pos h0]at h;by_cases h1:i<n
  ·rw[if_pos h1]at h;have e:i.toNat=j:=Option.some.inj h;exact⟨by rw[seqIndex_of h0 h1,e],by omega,by omega,h1⟩
  ·rw[if_neg h1]at h; cases h
 ·rw[if_neg h0]at h;by_cases h1:-(n:Int)<=i
  ·rw[if_pos h1]at h;have e:(i+n).toNat=j:=Option.some.inj h;exact⟨by rw[seqIndex_neg (by omega) h1,e],by omega,h1,by omega⟩
  ·rw[if_neg h1]at h; cases h
def ES{α : Type}{xs:List α}{i:Int}{v:α}(h:atI xs i=some v):∃j,seqIndex? i xs.length=some j/\xs[j]? = some v/\j<xs.length/\-(xs.length:Int)<=i/\i<xs.length:=by
 unfold atI at h;cases e:ixN xs.length i with
 | none=>rw[e]at h; cases h
 | some j=>
  rw[e]at h;obtain⟨h1,h2,h3,h4⟩:=JR e;exact⟨j,h1,h,h2,h3,h4⟩
def cI{α : Type}{xs:List α}{j:Nat}{v:α}(h:xs[j]? = some v):atI xs (j:Int)=some v:=by
 have hj:j<xs.length:=(List.getElem?_eq_some_iff.mp h).1;have e:ixN xs.length (j:Int)=some j:=by
  unfold ixN;rw[if_pos (by omega),if_pos (by omega)]; simp
 unfold atI; rw[e]; exact h
def B5{α : Type}(xs:List α)(v:α):atI (xs++[v]) (-1)=some v:=by
 have hl:(xs++[v]).length=xs.length+1:=by simp
 have e:ixN (xs++[v]).length (-1)=some xs.length:=by
  unfold ixN;rw[hl,if_neg (by decide),if_pos (by omega)];congr 1;omega
 unfold atI;rw[e];show (xs++[v])[xs.length]? = some v;simp
def Jo(b:Expr):Prop:=∀o i,subscripted b false o i=operate [o,i] (getItem o i)
def IxR(X:Cx)(r:R2):Prop:=
 ∀(value slice:Expr)(pins:Lo)(s:Shared)(σ : St)(H:Hp)(x y:V)(v u:Value)(Q:VK),Inv X pins σ H s->bY x v->bY y u->r x y H Q->
  subscripted slice false v u=operate [v,u] (getItem v u)->wpAny (model X.prog X.w) X.A (subscriptTail value slice v u) (EP X pins σ Q) X.xe s
def MtR(X:Cx)(id:String)(r:V->L6->Hp->VK->Prop):Prop:=
 ∀pins s σ H(x:V)(xs:L6)(v:Value)(us:Lv)(Q:VK),Inv X pins σ H s->bY x v->bZ xs us->r x xs H Q->
  wpAny (model X.prog X.w) X.A (call (.builtin id) (v::us)) (EP X pins σ Q) X.xe s
section
variable{X:Cx}{a b:Expr}{ta tb:TE}{pos:Pos}
def cF{r:R2}(hr:IxR X r)(ha:PE X a ta)(hb:PE X b tb)(hs:Jo b):PE X (.Subscript a b pos) (tOp r ta tb):=by
 intro pins s σ H Q I h;exact Subscript_ (Lf ha hb I h λv u s2 x y H2 I2 rx ry q=>hr a b pins s2 σ H2 x y v u Q I2 rx ry q (hs _ _))
inductive Ih(K:Ln)(x:V)(y:V)(H:Hp)(Q:VK):Prop
 | mk:∀p xs i v,x = .ref p->y = .int i->SqL K H p xs->atI xs i=some v->Q v H->Ih K x y H Q
inductive Kr(K:Ln)(x:V)(y:V)(H:Hp)(Q:VK):Prop
 | mk:∀p xs i v,x = .ref p->y = .int i->SqT K H p xs->atI xs i=some v->Q v H->Kr K x y H Q
def JQ:IxR X (Ih X.K):=by
 intro value slice pins s σ H x y v u Q I rx ry h hs;obtain⟨p,xs,i,z,rfl,rfl,hq,he,q⟩:=h;cases rx;obtain⟨t,rfl⟩:=ry;obtain⟨its,r,pl,hz⟩:=I.list hq;obtain⟨j,h1,h2,h3,h4,h5⟩:=ES he;obtain⟨w,ew,rw'⟩:=r.get h2;have hl:=r.length;have hn:=uW;have fin:EP X pins σ Q w s:=⟨z,H,I,rw',q⟩;by_cases h0:0<=i
 ·have hj:i.toNat=j:=by
   rw[seqIndex_of h0 h5]at h1;exact Option.some.inj h1
  exact item_listR pl.isList h0 (by omega) (by rw[hj]; simpa using ew) fin hs
 ·have hj:(i+(its.toArray.size:Int)).toNat=j:=by
   rw[seqIndex_neg (by omega) h4]at h1;rw[size_toArray,<- hl];exact Option.some.inj h1
  exact subscriptTail_builtinR (x:=w) pl.isList.typeIs slot_list_getitem.lookup
   (wpAny_getItem_list_neg (Q:=λr s'=>r=w/\EP X pins σ Q r s') pl.isList (by omega) (by rw[size_toArray] <;> omega) (by omega) (by rw[hj]; simpa using ew) ⟨rfl,fin⟩) hs
def LN:IxR X (Kr X.K):=by
 intro value slice pins s σ H x y v u Q I rx ry h hs;obtain⟨p,xs,i,z,rfl,rfl,hq,he,q⟩:=h;cases rx;obtain⟨t,rfl⟩:=ry;obtain⟨its,r,pl,hz⟩:=I.tuple hq;obtain⟨j,h1,h2,h3,h4,h5⟩:=ES he;obtain⟨w,ew,rw'⟩:=r.get h2;have hl:=r.length;have hn:=uW;have fin:EP X pins σ Q w s:=⟨z,H,I,rw',q⟩;exact subscriptTail_builtinR (x:=w) pl.typeIs slot_tuple_getitem.lookup
  (getItem_tuple (j:=j) (Q:=λr s'=>r=w/\EP X pins σ Q r s') pl (by omega) (by omega) (by rw[size_toArray,<- hl]; exact h1) (by simpa using ew) ⟨rfl,fin⟩) hs
def zG(lo hi:Option Int)(n:Nat):(sliceBounds lo hi none n).1=((HT.sIx n 0 lo:Nat):Int)/\(sliceBounds lo hi none n).2.1=((HT.sIx n n hi:Nat):Int)/\(sliceBounds lo hi none n).2.2=1:=by
 refine⟨?_,?_,rfl⟩
 ·cases lo with
  | none=>simp [sliceBounds,HT.sIx]
  | some i=>
   simp only[sliceBounds,HT.sIx,Option.getD_none,show (1:Int) > 0 by decide,if_true];by_cases h:i<0
   ·simp only[h,if_true] <;> omega
   ·simp only[h,if_false] <;> omega
 ·cases hi with
  | none=>simp [sliceBounds,HT.sIx]
  | some i=>
   simp only[sliceBounds,HT.sIx,Option.getD_none,show (1:Int) > 0 by decide,if_true];by_cases h:i<0
   ·simp only[h,if_true] <;> omega
   ·simp only[h,if_false] <;> omega
def vQ(its:Lv)(lo hi:Option Int):slicePick its.toArray lo hi none=((its.drop (HT.sIx its.length 0 lo)).take (HT.sIx its.length its.length hi - HT.sIx its.length 0 lo)).toArray:=by
 obtain⟨h1,h2,h3⟩:=zG lo hi its.toArray.size;unfold slicePick;rw[h1,h2,h3];simp only[sliceRange_one,pick_run,size_toArray] <;> rfl
inductive Kq(K:Ln)(x:V)(lo:Option Int)(hi:Option Int)(H:Hp)(Q:VK):Prop
 | mk:∀a xs,x = .ref a->SqL K H a xs->(∀p,H p=none->Q (.ref p) (upd H p (.lst (i8 xs lo hi))))->Kq K x lo hi H Q
def IV:SlR X (Kq X.K):=by
 intro pins s σ H x v vl vu lo hi sl Q I rx hs pl pu h;obtain⟨a,xs,rfl,hx,q⟩:=h;cases rx;obtain⟨its,r,ht,hz⟩:=I.list hx;have hlen:=r.length;refine⟨"list",_,slot_list_getitem.lookup,ht.isList.typeIs,?_⟩;refine wpAny_getItem_list_slice ht.isList hs pl pu .none (by simp) ?_ (by rw[size_toArray] <;> omega);rw[vQ,<- hlen];refine⟨.ref s.heap.objs.size,_,I.laid (t':=s.toks) (o:=.lst (i8 xs lo hi)) (λb ob q=>get?_push_of_some _ q) (le_refl _) ?_,rfl,q _ (I.hok.fresh (le_refl _))⟩;exact⟨le_trans (rW xs lo hi) hz,_,0,(r.drop (HT.sIx xs.length 0 lo)).take (HT.sIx xs.length xs.length hi - HT.sIx xs.length 0 lo),get?_push_size _ rfl⟩
def nQ:V->Bool
 | .non=>true
 | .bl _=>true
 | .int _=>true
 | .str _=>true
 | _=>false
def eqV:V->V->Bool
 | .non,.non=>true
 | .bl a,.bl b=>a == b
 | .bl a,.int b=>(if a then 1 else 0) == b
 | .int a,.bl b=>a == (if b then 1 else 0)
 | .int a,.int b=>a == b
 | .str a,.str b=>a == b
 | _,_=>false
def LV(ry:bY y u)(rx:bY x v)(fy:nQ y=true)(fx:nQ x=true):SeqAt.EqAt A s u v (eqV y x):=by
 cases y with
 | non=>
  cases ry;cases x with
  | non=>cases rx; exact SeqAt.EqAt.same _
  | bl b=>cases rx; exact SeqAt.EqAt.none_bool b
  | int b=>obtain⟨t,rfl⟩:=rx; exact SeqAt.EqAt.none_int b t
  | str b=>obtain⟨t,rfl⟩:=rx; exact SeqAt.EqAt.none_str b t
  | _=>exact absurd (show false=true from fx) Bool.false_ne_true
 | bl a=>
  cases ry;cases x with
  | non=>cases rx; exact SeqAt.EqAt.bool_none a
  | bl b=>cases rx; exact SeqAt.EqAt.bool_bool a b
  | int b=>obtain⟨t,rfl⟩:=rx; exact SeqAt.EqAt.bool_int a b t
  | str b=>obtain⟨t,rfl⟩:=rx; exact SeqAt.EqAt.bool_str a b t
  | _=>exact absurd (show false=true from fx) Bool.false_ne_true
 | int a=>
  obtain⟨t',rfl⟩:=ry;cases x with
  | non=>cases rx; exact SeqAt.EqAt.int_none a t'
  | bl b=>cases rx; exact SeqAt.EqAt.int_bool a t' b
  | int b=>obtain⟨t,rfl⟩:=rx; exact SeqAt.EqAt.int_int a t' b t
  | str b=>obtain⟨t,rfl⟩:=rx; exact SeqAt.EqAt.int_str a t' b t
  | _=>exact absurd (show false=true from fx) Bool.false_ne_true
 | str a=>
  obtain⟨t',rfl⟩:=ry;cases x with
  | non=>cases rx; exact SeqAt.EqAt.str_none a t'
  | bl b=>cases rx; exact SeqAt.EqAt.str_bool a t' b
  | int b=>obtain⟨t,rfl⟩:=rx; exact SeqAt.EqAt.str_int a t' b t
  | str b=>obtain⟨t,rfl⟩:=rx; exact SeqAt.EqAt.str_str a t' b t
  | _=>exact absurd (show false=true from fx) Bool.false_ne_true
 | _=>exact absurd (show false=true from fy) Bool.false_ne_true
def eqU(x:V)(u:Value):Bool:=match u with
 | .none=>eqV .non x
 | .bool b=>eqV (.bl b) x
 | .int i _=>eqV (.int i) x
 | .str z _=>eqV (.str z) x
 | _=>false
def Hj(r:bY y u)(f:nQ y=true):eqU x u=eqV y x:=by
 cases y with
 | non=>cases r; rfl
 | bl b=>cases r; rfl
 | int i=>obtain⟨t,rfl⟩:=r; rfl
 | str z=>obtain⟨t,rfl⟩:=r; rfl
 | _=>exact absurd (show false=true from f) Bool.false_ne_true
def pW:∀{xs:L6}{us:Lv},bZ xs us->xs.all nQ=true->us.any (eqU x)=xs.any λy=>eqV y x
 | _,_,.nil,_=>rfl
 | y::xs,u::us,.cons r t,f=>by
  rw[all_cons,and_eq_true]at f;rw[any_cons,any_cons,Hj r f.1,pW t f.2]
def mI(rx:bY x v)(fx:nQ x=true):∀{xs:L6}{us:Lv},bZ xs us->xs.all nQ=true->∀u∈us,SeqAt.EqAt A s u v (eqU x u)
 | _,_,.nil,_=>λu hu=>by cases hu
 | y::xs,u::us,.cons r t,f=>λu' hu=>by
  rw[all_cons,and_eq_true]at f;rcases mem_cons.mp hu with rfl | hu
  ·rw[Hj r f.1]; exact LV r rx f.1 fx
  ·exact mI rx fx t f.2 u' hu
def inV(x:V)(xs:L6):Bool:=xs.any λy=>eqV y x
inductive rIn(K:Ln)(neg:Bool)(x:V)(y:V)(H:Hp)(Q:VK):Prop
 | mk:∀p xs,y = .ref p->(SqL K H p xs\/SqT K H p xs)->nQ x=true->xs.all nQ=true->Q (.bl (if neg then !inV x xs else inV x xs)) H->rIn K neg x y H Q
def Em:OpR X (compareOp .In) (rIn X.K false):=by
 intro pins s σ H x y v u Q I rx ry h;obtain⟨p,xs,rfl,hq,fx,fs,q⟩:=h;cases ry;rcases hq with hq | hq
 ·obtain⟨its,r,pl,hz⟩:=I.list hq;refine SeqAt.in_listAt (eqU x) pl.isList (λw hw=>mI rx fx r fs w (by simpa using hw)) ⟨.bl _,H,I,rfl,?_⟩;rw[show its.toArray.any (eqU x)=its.any (eqU x) by simp,pW r fs];exact q
 ·obtain⟨its,r,pl,hz⟩:=I.tuple hq;refine SeqAt.in_tupleAt (eqU x) pl (λw hw=>mI rx fx r fs w (by simpa using hw)) ⟨.bl _,H,I,rfl,?_⟩;rw[show its.toArray.any (eqU x)=its.any (eqU x) by simp,pW r fs];exact q
def zO:OpR X (compareOp .NotIn) (rIn X.K true):=by
 intro pins s σ H x y v u Q I rx ry h;obtain⟨p,xs,rfl,hq,fx,fs,q⟩:=h;cases ry;rcases hq with hq | hq
 ·obtain⟨its,r,pl,hz⟩:=I.list hq;refine SeqAt.notIn_listAt (eqU x) pl.isList (λw hw=>mI rx fx r fs w (by simpa using hw)) ⟨.bl _,H,I,rfl,?_⟩;rw[show its.toArray.any (eqU x)=its.any (eqU x) by simp,pW r fs];exact q
 ·obtain⟨its,r,pl,hz⟩:=I.tuple hq;refine SeqAt.notIn_tupleAt (eqU x) pl (λw hw=>mI rx fx r fs w (by simpa using hw)) ⟨.bl _,H,I,rfl,?_⟩;rw[show its.toArray.any (eqU x)=its.any (eqU x) by simp,pW r fs];exact q
def AO:gM X (.builtin "len") (λxs H Q=>∃p ys,xs=[.ref p]/\(SqL X.K H p ys\/SqT X.K H p ys)/\Q (.int ys.length) H):=by
 intro pins s σ H xs us Q I r h;obtain⟨p,ys,rfl,hq,q⟩:=h;obtain⟨u,rfl,rx⟩:=wE r;cases rx;have hn:=uW;rcases hq with hq | hq
 ·obtain⟨its,r',pl,hz⟩:=I.list hq;have hlen:=r'.length;exact Calls.call_len_list pl.isList (by simp only[size_toArray] <;> omega) ⟨.int ys.length,H,I.tok _,⟨s.toks+1,by rw[size_toArray,hlen]⟩,q⟩
 ·obtain⟨its,r',pl,hz⟩:=I.tuple hq;have hlen:=r'.length;exact len_tuple pl (by simp only[size_toArray] <;> omega) ⟨.int ys.length,H,I.tok _,⟨s.toks+1,by rw[size_toArray,hlen]⟩,q⟩
def AN:gM X (.builtin "len") (λxs H Q=>∃z,xs=[.str z]/\z.length<=sizeLine/\Q (.int z.length) H):=by
 intro pins s σ H xs us Q I r h;obtain⟨z,rfl,hz,q⟩:=h;obtain⟨u,rfl,t,rfl⟩:=wE r;have hn:=uW;exact len_str (by omega) ⟨.int z.length,H,I.tok _,⟨_,rfl⟩,q⟩
def wA:gM X (.type "tuple") (λxs H Q=>∃p ys,xs=[.ref p]/\((SqL X.K H p ys/\∀l,H l=none->Q (.ref l) (upd H l (.tup ys)))\/(SqT X.K H p ys/\Q (.ref p) H))):=by
 intro pins s σ H xs us Q I r h;obtain⟨p,ys,rfl,h⟩:=h;obtain⟨u,rfl,rx⟩:=wE r;cases rx;rcases h with ⟨hq,q⟩ | ⟨hq,q⟩
 ·obtain⟨its,r',pl,hz⟩:=I.list hq;have hlen:=r'.length;refine call_tuple_list pl.isList (λh' kp=>?_) (by simp only[size_toArray] <;> omega);have I1:Inv X pins σ H { s with heap:=h' }:=I.kept (t':=s.toks) kp;have I2:Inv X pins σ (upd H h'.objs.size (.tup ys)) { s with heap:=h'.push { cls:=.type "tuple",data:=.seq its.toArray } }:=
   I1.laid (t':=s.toks) (λb o e=>get?_push_of_some _ e) (le_refl _) (show eA X.prog X.w _ _ _ (.tup ys) from ⟨hz,its,r',IsTup.new _ _⟩)
  exact⟨.ref h'.objs.size,_,I2,rfl,q _ (I1.hok.fresh (le_refl _))⟩
 ·obtain⟨its,r',pl,hz⟩:=I.tuple hq;exact call_tuple_same pl ⟨.ref p,H,I,rfl,q⟩
def tyV(K:Ln)(T:String)(x:V)(H:Hp):Prop:=match x with
 | .str _=>T = "str"
 | .int _=>T = "int"
 | .ref p=>(T = "list"/\∃xs,SqL K H p xs)\/(T = "tuple"/\∃o,K.lookup p=some o/\o.cls = .type "tuple"/\o.dict=none)\/
   (T = "dict"/\((∃kvs,H p=some (.dK kvs))\/∃kvs,H p=some (.dT kvs)))\/(T = "set"/\∃S n,H p=some (.set S n))
 | _=>False
def KH(I:Inv X pins σ H s)(r:bY x v)(ty:tyV X.K T x H) :
  s.TypeIs v T/\∀a,v = .ref a->∃ob,s.heap.get? a=some ob/\ob.dict=none:=by
 cases x with
 | str z=>
  obtain⟨t,rfl⟩:=r;cases (show T = "str" from ty);exact⟨typeIs_str s z t,λ_ e=>nomatch e⟩
 | int i=>
  obtain⟨t,rfl⟩:=r;cases (show T = "int" from ty);exact⟨typeIs_int s i t,λ_ e=>nomatch e⟩
 | ref p=>
  cases r;rcases ty with ⟨rfl,xs,hq⟩ | ⟨rfl,o,hk,hc,hd⟩ | ⟨rfl,hk⟩ | ⟨rfl,S,n,hk⟩
  ·obtain⟨its,_,pl,_⟩:=I.list hq;refine⟨pl.isList.typeIs,λa e=>?_⟩;cases e;obtain⟨o,n,e,c,hd,_⟩:=pl;exact⟨o,e,hd⟩
  ·refine⟨⟨o,I.kIn p o hk,hc⟩,λa e=>?_⟩;cases e;exact⟨o,I.kIn _ o hk,hd⟩
  ·have z:∃o,s.heap.get? p=some o/\o.ExactDict:=by
    rcases hk with ⟨kvs,hk⟩ | ⟨kvs,hk⟩
    ·obtain⟨_,_,_,_,o,_,_,e,ex,_⟩:=I.hok p _ hk;exact⟨o,e,ex⟩
    ·obtain⟨_,_,_,_,o,_,_,e,ex,_⟩:=I.hok p _ hk;exact⟨o,e,ex⟩
   obtain⟨o,e,ex⟩:=z;refine⟨⟨o,e,ex.1⟩,λa e2=>?_⟩;cases e2;exact⟨o,e,ex.2.1⟩
  ·obtain⟨o,_,_,_,e,ex,_⟩:=I.hok p _ hk;refine⟨⟨o,e,ex.1⟩,λa e2=>?_⟩;cases e2;exact⟨o,e,ex.2.1⟩
 | _=>exact False.elim ty
abbrev tBM_2(r:V->L6->Hp->VK->Prop)(Q:VK)(x:V):L6->Hp->Prop:=λxs H2=>r x xs H2 Q
abbrev tBM_1(K:Ln)(T:String)(r:V->L6->Hp->VK->Prop)(t:TA)(σ : St)(Q:VK):V->Hp->Prop:=λx H1=>tyV K T x H1/\t σ H1 (tBM_2 r Q x)
def tBM(K:Ln)(T:String)(r:V->L6->Hp->VK->Prop)(to:TE)(t:TA):TE:=λσ H Q=>to σ H (tBM_1 K T r t σ Q)
variable{o e:Expr}{es:List Expr}{to:TE}{t:TA}{name:Str}{apos cpos:Pos}{T id:String}{r:V->L6->Hp->VK->Prop}
def pe_bm(pa:PlainAttrs T)(slot:Slot T name id)(hty:typeOf (.builtin id)=pure (.type "method_descriptor"))(hm:MtR X id r)(ho:PE X o to)(ha:PA X (e::es) t)
  (hbase:attributeBase o name X.env (eval o X.env)=eval o X.env:=by rfl)
  (hfew:((backTo cpos (starEach (e::es) X.env)).all (λx=>!x.1) && (backToKw cpos (keywordEach [] X.env)).all (λx=>x.1.isSome)
   && decide ((e::es).length+([]:List Keyword).length+(if ([]:List Keyword).isEmpty then 0 else 1)<30))=true:=by rfl)
  (hline:(apos.endLine == cpos.line)=true:=by rfl) (hs:starEach (e::es) X.env=(false,eval e X.env)::starEach es X.env:=by rfl) (hplain:(backTo cpos (starEach es X.env)).any (·.1)=false:=by rfl) :
  PE X (.Call (.Attribute o name apos) (e::es) [] cpos) (tBM X.K T r to t):=by
 intro pins s σ H Q I h;refine wpAny_Call_method_late hbase hfew hline rfl (thn (ho pins s σ H _ I h) λv s1 zQq=>?_);obtain⟨x,H1,I1,r1,ty,q1⟩:=zQq;obtain⟨h1,h2⟩:=KH I1 r1 ty;refine⟨T,id,pa,slot,hty,h1,h2,?_⟩;have hA:=ha cpos pins s1 σ H1 _ I1 q1;rw[hs]at hA ⊢;refine Calls.callWith_builtin (by show (false || (backTo cpos (starEach es X.env)).any (·.1))=false; rw[hplain] <;> rfl) (Calls.evalArgs_plain ?_);exact thn hA λus s2 ⟨vs,H2,I2,r2,q2⟩=>hm pins s2 σ H2 x vs v us Q I2 r1 r2 q2
end
def MtM(X:Cx)(id:String)(r:V->L6->Hp->VK->Prop):Prop:=
 ∀pins s σ H(x:V)(xs:L6)(v:Value)(us:Lv)(Q:VK),Inv X pins σ H s->bY x v->bZ xs us->r x xs H Q->
  wpAny (model X.prog X.w) X.A (call (.builtin id) (v::us)) (EP X pins σ Q) X.xe s
def bZ.one:∀{x:V}{us:Lv},bZ [x] us->∃u,us=[u]/\bY x u
 | _,_,.cons r .nil=>⟨_,rfl,r⟩
section
variable{X:Cx}{pins:Lo}{σ : St}{H:Hp}{s:Shared}{l b:Addr}{xs ys zs:L6}
def Inv.lset{its its':Lv}{n:Nat}{f:Array Value->Array Value}{t':Nat}(I:Inv X pins σ H s)(hH:H l=some (.lst xs))
  (e:s.heap.get? l=some { cls:=.type "list",data:=.seq its.toArray n }) (hf:f its.toArray=its'.toArray) (hv:bZ ys its') (hz:ys.length<=sizeLine) :
  Inv X pins σ (upd H l (.lst ys)) { s with heap:=s.heap.update l (Obj.mapSeq f),toks:=t' }:=by
 have q:=PySem.IsL.update e f;rw[hf]at q;refine I.write (x:=l) (e:=l) (by rw[hH]; exact trivial) (.inl rfl) (λb' u hb hu=>(Heap.get?_update_other s.heap (Obj.mapSeq f) (Ne.symm hb)).trans hu) ⟨_,q⟩ ?_;exact⟨hz,its',_,hv,q⟩
def Inv.lnew(I:Inv X pins σ H s)(hv:bZ ys its)(hz:ys.length<=sizeLine) :
  Inv X pins σ (upd H s.heap.objs.size (.lst ys)) { s with heap:=s.heap.push { cls:=.type "list",data:=.seq its.toArray },toks:=t' }:=
 I.laid (λ_ _ q=>get?_push_of_some _ q) (le_refl _) ⟨hz,its,0,hv,get?_push_size _ rfl⟩
def Inv.fresh(I:Inv X pins σ H s):H s.heap.objs.size=none:=I.hok.fresh (le_refl _)
def Inv.lstM(I:Inv X pins σ H s)(hH:H l=some (.lst xs)):xs.length<=sizeLine/\∃(its:Lv) (n:Nat),bZ xs its/\xs.length=its.length/\s.heap.get? l=some { cls:=.type "list",data:=.seq its.toArray n }:=by
 obtain⟨z,its,n,r,e⟩:=I.hok l _ hH;exact⟨z,its,n,r,r.length,e⟩
end
section
variable{X:Cx}
inductive Dj(x:V)(vs:L6)(H:Hp)(Q:VK):Prop
 | mk:∀l xs y,x = .ref l->vs=[y]->H l=some (.lst xs)->xs.length<sizeLine->Q .non (upd H l (.lst (xs++[y])))->Dj x vs H Q
def iP:MtM X "list.append" Dj:=by
 intro pins s σ H x vs v us Q I rx rv h;obtain⟨l,xs,y,rfl,rfl,hH,hz,q⟩:=h;cases rx;obtain⟨u,rfl,ru⟩:=rv.one;obtain⟨z,its,n,r,hl,e⟩:=I.lstM hH;refine call_meets F.slot_list_append ⟨_,e,rfl⟩ F.entry_list_append (F.args_list_append_2 _ _) (PySem.list_append l its.toArray n u (by rw[size_toArray]; omega)) ⟨e,?_⟩;refine⟨.non,_,I.lset (its':=its++[u]) hH e (by simp) (r.append (.cons ru .nil)) ?_,rfl,q⟩;rw[length_append,List.length_singleton];omega
inductive rCat(x:V)(y:V)(H:Hp)(Q:VK):Prop
 | mk:∀l b xs zs,x = .ref l->y = .ref b->H l=some (.lst xs)->H b=some (.lst zs)->xs.length+zs.length<=sizeLine->(∀p,H p=none->Q (.ref p) (upd H p (.lst (xs++zs))))->rCat x y H Q
def Cc:OpR X (binaryOp .Add) rCat:=by
 intro pins s σ H x y v u Q I rx ry h;obtain⟨l,b,xs,zs,rfl,rfl,hH,hB,hz,q⟩:=h;cases rx;cases ry;obtain⟨z,its,n,r,hl,e⟩:=I.lstM hH;obtain⟨z2,its2,n2,r2,hl2,e2⟩:=I.lstM hB;refine PySem.P.add_list e e2 ?_ (by rw[size_toArray,size_toArray]; omega);have ea:its.toArray++its2.toArray=(its++its2).toArray:=by simp
 rw[ea];exact⟨.ref _,_,I.lnew (t':=s.toks) (r.append r2) (by rw[length_append]; omega),rfl,q _ I.fresh⟩
end
section
variable{prog:Program}{w:World}{A:Around}{E:Ly}{s:Shared}
end
section
variable{X:Cx}
end
section
variable{κ : Type} [DecidableEq κ]
def dE(kvs:List (κ × V))(k:κ):Option V:=(kvs.find? λkv=>decide (kv.1=k)).map (·.2)
def eF(kvs:List (κ × V))(k:κ)(v:V):List (κ × V):=
 if (kvs.any λkv=>decide (kv.1=k))=true then kvs.map (λkv=>if kv.1=k then (kv.1,v) else kv) else kvs++[(k,v)]
def eY(kvs:List (κ × V))(k:κ):List (κ × V):=kvs.filter λkv=>decide (kv.1≠k)
def iR{p:κ × V}{r:List (κ × V)}{k:κ}(e:p.1=k):dE (p::r) k=some p.2:=by simp [dE,find?_cons,e]
def iS{p:κ × V}{r:List (κ × V)}{k:κ}(e:¬ p.1=k):dE (p::r) k=dE r k:=by simp [dE,find?_cons,e]
def oH(k:κ):∀kvs:List (κ × V),(kvs.any λkv=>decide (kv.1=k))=(dE kvs k).isSome
 | []=>rfl
 | p::r=>by
  rw[any_cons];by_cases e:p.1=k
  ·simp only[iR e,decide_eq_true e,Bool.true_or,Option.isSome_some]
  ·rw[iS e,decide_eq_false e,Bool.false_or]; exact oH k r
def mK(kvs:List (κ × V))(k:κ)(v:V):(eF kvs k v).length<=kvs.length+1:=by
 unfold eF;split
 ·rw[length_map]; omega
 ·rw[length_append,length_cons,List.length_nil]; omega
def Gd{kvs:List (κ × V)}{k:κ}(v:V)(h:dE kvs k=none):eF kvs k v=kvs++[(k,v)]:=by
 unfold eF;rw[oH,h];exact if_neg (by decide)
def kO.isSome_eq(r:kO o u):o.isSome=u.isSome:=by
 cases o with
 | none=>cases u with
  | none=>rfl
  | some _=>exact(show False from r).elim
 | some _=>cases u with
  | none=>exact(show False from r).elim
  | some _=>rfl
def kO.getD(r:kO o u)(rd:bY d d'):bY (o.getD d) (u.getD d'):=by
 cases o with
 | none=>cases u with
  | none=>exact rd
  | some _=>exact(show False from r).elim
 | some _=>cases u with
  | none=>exact(show False from r).elim
  | some _=>exact r
def KV.val{kvs:List (κ × V)}{vs:List (κ × Value)}(r:KV kvs vs)(k:κ):kO (dE kvs k) (valueAt vs k):=by
 unfold KV at r
 induction r with
 | nil=>exact True.intro
 | @cons p q ps qs h t ih=>
  obtain⟨h1,h2⟩:=h;by_cases e:p.1=k
  ·have e':q.1=k:=h1.symm.trans e;have b:valueAt (q::qs) k=some q.2:=by simp [valueAt,find?_cons,e']
   rw[iR e,b]; exact h2
  ·have e':¬ q.1=k:=λz=>e (h1.trans z);have b:valueAt (q::qs) k=valueAt qs k:=by simp [valueAt,find?_cons,e']
   rw[iS e,b]; exact ih
def KV.any(r:KV kvs vs)(k:κ):(kvs.any λkv=>decide (kv.1=k))=vs.any λkv=>decide (kv.1=k):=by
 unfold KV at r
 induction r with
 | nil=>rfl
 | cons h t ih=>rw[any_cons,any_cons,ih,h.1]
def KV.repl(r:KV kvs vs)(k:κ)(ry:bY y u) :
  KV (kvs.map λkv=>if kv.1=k then (kv.1,y) else kv) (vs.map λkv=>if kv.1=k then (kv.1,u) else kv):=by
 unfold KV at r ⊢
 induction r with
 | nil=>exact .nil
 | @cons p q ps qs h t ih=>
  rw[map_cons,map_cons];refine .cons ?_ ih;obtain⟨h1,h2⟩:=h;by_cases e:p.1=k
  ·rw[if_pos e,if_pos (h1.symm.trans e)]; exact⟨h1,ry⟩
  ·rw[if_neg e,if_neg (λz=>e (h1.trans z))]; exact⟨h1,h2⟩
def KV.put(r:KV kvs vs)(k:κ)(ry:bY y u):KV (eF kvs k y) (stored vs k u):=by
 unfold eF stored;rw[r.any k];by_cases e:(vs.any λkv=>decide (kv.1=k))=true
 ·rw[if_pos e,if_pos e]; exact r.repl k ry
 ·rw[if_neg e,if_neg e]; exact Paired.snoc r ⟨rfl,ry⟩
def KV.drop(r:KV kvs vs)(k:κ):KV (eY kvs k) (without vs k):=by
 unfold KV at r ⊢;unfold eY without
 induction r with
 | nil=>exact .nil
 | @cons p q ps qs h t ih=>
  obtain⟨h1,h2⟩:=h;rw[filter_cons,filter_cons];by_cases e:p.1=k
  ·have a:¬ decide (p.1≠k)=true:=by simp [e]
   have b:¬ decide (q.1≠k)=true:=by simp [h1.symm.trans e]
   rw[if_neg a,if_neg b]; exact ih
  ·have e':¬ q.1=k:=λz=>e (h1.trans z);have a:decide (p.1≠k)=true:=by simp [e]
   have b:decide (q.1≠k)=true:=by simp [e']
   rw[if_pos a,if_pos b]; exact .cons ⟨h1,h2⟩ ih
def KV.length(r:KV kvs vs):kvs.length=vs.length:=Paired.length r
def Hm(kvs:List (κ × V))(k:κ):(eY kvs k).length<=kvs.length:=length_filter_le _ _
end
def nO(r:bY (kV k) u):(cH P w).is k u=true:=by
 cases k with
 | inl i=>obtain⟨t,e⟩:=(show ∃t,u=Value.int i t from r); subst e; exact BS P w i t
 | inr x=>obtain⟨t,e⟩:=(show ∃t,u=Value.str x t from r); subst e; exact BR P w x t
def xZ:∀{ks:List Key}{us:Lv},bZ (ks.map kV) us->ItemsAre (cH P w) ks us
 | [],_,r=>by rw[map_nil]at r; cases r; exact .nil
 | k::ks,_,r=>by
  rw[map_cons]at r;cases r with
  | cons h t=>exact .cons (nO h) (xZ t)
abbrev KT(H:Hp):List (List Key × V)->List (List Key × Addr × Value)->Prop:=Paired λp q=>p.1=q.1/\H q.2.1=some (.tup (p.1.map kV))/\bY p.2 q.2.2
def KT.val{H:Hp}{kvs:List (List Key × V)}{xs:List (List Key × Addr × Value)}(r:KT H kvs xs)(k:List Key):kO (dE kvs k) ((atKey xs k).map (·.2)):=by
 induction r with
 | nil=>exact True.intro
 | @cons p q ps qs h t ih=>
  obtain⟨h1,_,h2⟩:=h;by_cases e:p.1=k
  ·have e':q.1=k:=h1.symm.trans e;have b:atKey (q::qs) k=some q.2:=by simp [atKey,find?_cons,e']
   rw[iR e,b]; exact h2
  ·have e':¬ q.1=k:=λz=>e (h1.trans z);have b:atKey (q::qs) k=atKey qs k:=by simp [atKey,find?_cons,e']
   rw[iS e,b]; exact ih
def KT.repl(r:KT H kvs xs)(k:List Key)(ry:bY y u) :
  KT H (kvs.map λkv=>if kv.1=k then (kv.1,y) else kv) (xs.map (putAt k u)):=by
 induction r with
 | nil=>exact .nil
 | @cons p q ps qs h t ih=>
  rw[map_cons,map_cons];refine .cons ?_ ih;obtain⟨h1,h2,h3⟩:=h;unfold putAt;by_cases e:p.1=k
  ·rw[if_pos e,if_pos (h1.symm.trans e)]; exact⟨h1,h2,ry⟩
  ·rw[if_neg e,if_neg (λz=>e (h1.trans z))]; exact⟨h1,h2,h3⟩
def KT.put(r:KT H kvs xs)(k:List Key)(hb:H b=some (.tup (k.map kV)))(ry:bY y u) :
  KT H (eF kvs k y) (storedH xs k b u):=by
 have e:(kvs.any λkv=>decide (kv.1=k))=(atKey xs k).isSome:=by
  rw[oH,(r.val k).isSome_eq,Option.isSome_map]
 unfold eF storedH;rw[e];by_cases q:(atKey xs k).isSome=true
 ·rw[if_pos q,if_pos q]; exact r.repl k ry
 ·rw[if_neg q,if_neg q]; exact Paired.snoc r ⟨rfl,hb,ry⟩
def KT.keeps(r:KT H kvs xs)(ht:∀b ys,H b=some (.tup ys)->H' b=some (.tup ys)):KT H' kvs xs:=
 Paired.mapP r λ_ _ z=>⟨z.1,ht _ _ z.2.1,z.2.2⟩
section
variable{P:Program}{w:World}{H:Hp}{h:Heap}{a:Addr}
def J0(ok:HOk P w H h)(e:Rd H a u):eA P w H h a u:=e.ok ok
def yE(ok:HOk P w H h)(e:Rd H a (.dK kvs)):kvs.length<=sizeLine/\(a == sysModules)=false/\∃vs,KV kvs vs/\h.DictOf (cH P w) a vs:=
 show eA P w H h a (.dK kvs) from J0 ok e
def Bm(ok:HOk P w H h)(e:H a=some (.dK kvs)):kvs.length<=sizeLine/\(a == sysModules)=false/\∃vs,KV kvs vs/\h.DictOf (cH P w) a vs:=yE ok (.inl e)
def qR(ok:HOk P w H h)(e:H a=some (.tup (ks.map kV))):(tupleKind (cH P w)).is h ks a:=by
 obtain⟨_,its,r,o,h1,h2,n,h3⟩:=(show eA P w H h a (.tup (ks.map kV)) from ok a _ e);exact⟨o,its.toArray,n,h1,h2,h3,by simpa using xZ r⟩
def yA(ok:HOk P w H h)(e:Rd H a (.dT kvs)):kvs.length<=sizeLine/\(a == sysModules)=false/\
  ∃xs,KT H kvs xs/\h.DictOfH (tupleKind (cH P w)) a xs:=by
 obtain⟨z,y,xs,r,o,es,ep,h1,h2,h3,h4,h5⟩:=(show eA P w H h a (.dT kvs) from J0 ok e);refine⟨z,y,xs,r,o,es,ep,h1,h2,h3,h4,λx hx=>?_,h5⟩;have all:∀{l:List (List Key × V)}{m:List (List Key × Addr × Value)},KT H l m->∀x∈m,(tupleKind (cH P w)).is h x.1 x.2.1:=by
  intro l m q
  induction q with
  | nil=>intro x hx; exact nomatch hx
  | @cons p q ps qs hq t ih=>
   intro x hx;rcases mem_cons.mp hx with e | hx
   ·subst e;exact qR ok (by rw[<- hq.1]; exact hq.2.1)
   ·exact ih x hx
 exact all r x hx
def dt_of(ok:HOk P w H h)(e:H a=some (.dT kvs)):kvs.length<=sizeLine/\(a == sysModules)=false/\
  ∃xs,KT H kvs xs/\h.DictOfH (tupleKind (cH P w)) a xs:=yA ok (.inl e)
end
def cQ(H:Hp)(a:Addr)(y:V)(r:Option V):Prop:=
 (∃kvs k,Rd H a (.dK kvs)/\y=kV k/\r=dE kvs k)\/∃kvs k b,Rd H a (.dT kvs)/\y = .ref b/\H b=some (.tup (k.map kV))/\r=dE kvs k
def kP(H:Hp)(a:Addr)(y v:V)(H':Hp):Prop:=
 (∃kvs k,H a=some (.dK kvs)/\y=kV k/\kvs.length<sizeLine/\H'=upd H a (.dK (eF kvs k v)))\/
 ∃kvs k b,H a=some (.dT kvs)/\y = .ref b/\H b=some (.tup (k.map kV))/\kvs.length<sizeLine/\H'=upd H a (.dT (eF kvs k v))
def cQ.k{H:Hp}{a:Addr}{kvs:Lz}{k:Key}(e:H a=some (.dK kvs)):cQ H a (kV k) (dE kvs k):=.inl ⟨kvs,k,.inl e,rfl,rfl⟩
def kP.k{H:Hp}{a:Addr}{kvs:Lz}{k:Key}{v:V}(e:H a=some (.dK kvs))(hl:kvs.length<sizeLine):kP H a (kV k) v (upd H a (.dK (eF kvs k v))):=.inl ⟨kvs,k,e,rfl,hl,rfl⟩
section
variable{X:Cx}{pins:Lo}{σ : St}{H:Hp}{s:Shared}{a:Addr}{y v:V}{u r:Value}{o:Option V}{A:Around}{E:Ly}
def Inv.big(I:Inv X pins σ H s):sysModules<s.heap.objs.size:=by
 have h:mainGlobals<s.heap.objs.size:=(I.mod.glob.keeps I.bk).lt;exact lt_trans (by decide) h
def yI(hu:A.units+1<cLine)(I:Inv X pins σ H s)(g:cQ H a y (some v))(ry:bY y u)(h:∀w' s',Inv X pins σ H s'->bY v w'->Q w' s') :
  wpAny (model X.prog X.w) A (getItem (.ref a) u) Q E s:=by
 rcases g with ⟨kvs,k,e,ey,l⟩ | ⟨kvs,k,b,e,ey,eb,l⟩
 ·subst ey;obtain⟨z,hd,vs,rel,dd⟩:=yE I.hok e;obtain⟨w',hw,rw'⟩:=kO.some_of (v:=v) (o:=valueAt vs k) (by rw[l]; exact rel.val k);exact wpAny_getItem_of (nO ry) dd.mapOf hw (h w' _ (I.tok _) rw')
 ·subst ey;cases (show u=Value.ref b from ry);obtain⟨z,hd,xs,rel,dd⟩:=yA I.hok e;obtain⟨w',hw,rw'⟩:=kO.some_of (v:=v) (o:=(atKey xs k).map (·.2)) (by rw[l]; exact rel.val k);obtain⟨p,hp,hp2⟩:=Option.map_eq_some_iff.mp hw;refine wpAny_getItem_heap (tupleKind_room_in1 hu) (qR I.hok eb) dd hp ?_;rw[hp2];exact h w' _ (I.tok _) rw'
def d_in(hu:A.units+1<cLine)(I:Inv X pins σ H s)(g:cQ H a y o)(ry:bY y u)(h:∀s',Inv X pins σ H s'->Q (.bool o.isSome) s') :
  wpAny (model X.prog X.w) A (compareOp .In u (.ref a)) Q E s:=by
 rcases g with ⟨kvs,k,e,ey,l⟩ | ⟨kvs,k,b,e,ey,eb,l⟩
 ·subst ey;obtain⟨z,hd,vs,rel,dd⟩:=yE I.hok e;refine wpAny_in_of (nO ry) hd dd.mapOf ?_;rw[<- (rel.val k).isSome_eq,<- l];exact h _ (I.tok _)
 ·subst ey;cases (show u=Value.ref b from ry);obtain⟨z,hd,xs,rel,dd⟩:=yA I.hok e;refine wpAny_in_heap (tupleKind_room_in1 hu) (qR I.hok eb) hd dd ?_;have q:=(rel.val k).isSome_eq;rw[Option.isSome_map]at q;rw[<- q,<- l];exact h _ (I.tok _)
def Je(hu:A.units+1<cLine)(I:Inv X pins σ H s)(g:cQ H a y o)(ry:bY y u)(h:∀s',Inv X pins σ H s'->Q (.bool (!o.isSome)) s') :
  wpAny (model X.prog X.w) A (compareOp .NotIn u (.ref a)) Q E s:=by
 rcases g with ⟨kvs,k,e,ey,l⟩ | ⟨kvs,k,b,e,ey,eb,l⟩
 ·subst ey;obtain⟨z,hd,vs,rel,dd⟩:=yE I.hok e;refine wpAny_notIn_of (nO ry) hd dd.mapOf ?_;rw[<- (rel.val k).isSome_eq,<- l];exact h _ (I.tok _)
 ·subst ey;cases (show u=Value.ref b from ry);obtain⟨z,hd,xs,rel,dd⟩:=yA I.hok e;refine wpAny_notIn_heap (tupleKind_room_in1 hu) (qR I.hok eb) hd dd ?_;have q:=(rel.val k).isSome_eq;rw[Option.isSome_map]at q;rw[<- q,<- l];exact h _ (I.tok _)
def sT(I:Inv X pins σ H s)(mu:Mut (H a))(hs:Heap.SameBut a s.heap h')(he:∃q,h'.get? a=some q)(new:eA X.prog X.w (upd H a ob) h' a ob) :
  Inv X pins σ (upd H a ob) { s with heap:=h',toks:=t' }:=
 I.write (x:=a) (e:=a) mu (.inl rfl) (λb q hb z=>(hs.2 b hb).trans z) he new
def C9(z:kvs.length<=sizeLine)(hd:(a == sysModules)=false)(rel:KV kvs vs)(dd:h'.DictOf (cH P w) a vs) :
  eA P w H' h' a (.dK kvs):=⟨z,hd,vs,rel,dd⟩
def yH(hu:A.units+1<cLine)(I:Inv X pins σ H s)(g:kP H a y v H')(ry:bY y u)(rv:bY v r)(h:∀s',Inv X pins σ H' s'->Q () s') :
  wpAny (model X.prog X.w) A (setItem (.ref a) u r) Q E s:=by
 rcases g with ⟨kvs,k,e,ey,l,eH⟩ | ⟨kvs,k,b,e,ey,eb,l,eH⟩
 ·subst ey eH;obtain⟨z,hd,vs,rel,dd⟩:=Bm I.hok e;have hz:vs.length<=sizeLine:=by rw[<- rel.length]; exact z
  have hl:(eF kvs k v).length<=sizeLine:=by have:=mK kvs k v; omega
  refine wpAny_setItem_pairs (hsz:=hz) (nO ry) dd λh' dd' hs=>h _ ?_;have he:∃q,h'.get? a=some q:=let ⟨q,_,_,hq,_⟩:=dd'; ⟨q,hq⟩;exact sT I (by rw[e]; exact True.intro) hs he (C9 hl hd (rel.put k rv) dd')
 ·subst ey eH;cases (show u=Value.ref b from ry);obtain⟨z,hd,xs,rel,dd⟩:=dt_of I.hok e;have hz:xs.length<=sizeLine:=by rw[<- Paired.length rel]; exact z
  have hl:(eF kvs k v).length<=sizeLine:=by have:=mK kvs k v; omega
  refine wpAny_setItem_heap (hsz:=hz) (tupleKind_room_in1 hu) (qR I.hok eb) dd λh' dd' hs=>h _ ?_;obtain⟨q,es,ep,hq,h2,h3,h4,_,h5⟩:=dd';refine sT I (by rw[e]; exact True.intro) hs ⟨q,hq⟩ ⟨hl,hd,_,(rel.put k eb rv).keeps λc ys ec=>?_,q,es,ep,hq,h2,h3,h4,h5⟩;rw[aF (ne_of ec e (λz=>nomatch z))];exact ec
end
section
variable{X:Cx}{pins:Lo}{σ : St}{H:Hp}{s:Shared}{a:Addr}{kvs:Lz}{k:Key}{u:Value}{A:Around}{E:Ly}
def d_pop(I:Inv X pins σ H s)(e:H a=some (.dK kvs))(ry:bY (kV k) u)(l:dE kvs k=some v)(hm:more=[]\/∃x,more=[x])
  (h:∀w' s',Inv X pins σ (upd H a (.dK (eY kvs k))) s'->bY v w'->Q w' s'):wpAny (model X.prog X.w) A (call (.builtin "dict.pop") (.ref a::u::more)) Q E s:=by
 obtain⟨z,hd,vs,rel,dd⟩:=Bm I.hok e;obtain⟨w',hw,rw'⟩:=kO.some_of (v:=v) (o:=valueAt vs k) (by rw[<- l]; exact rel.val k);have hp:(keyPart u).isSome=true:=by
  cases k with
  | inl i=>obtain⟨t,q⟩:=(show ∃t,u=Value.int i t from ry); subst q; rfl
  | inr x=>obtain⟨t,q⟩:=(show ∃t,u=Value.str x t from ry); subst q; rfl
 have ha:argsOk "dict.pop" ⟨.ref a::u::more,[]⟩:=by
  rcases hm with q | ⟨x,q⟩
  ·subst q; exact PySem.F.args_dict_pop_2 _ _
  ·subst q; exact PySem.F.args_dict_pop_3 _ _ _
 refine call_meetsIn PySem.F.slot_dict_pop dd.typeIs PySem.F.entry_dict_pop ha (meets_dict_pop_there (cH X.prog X.w) a (nO ry) more hm hp)
  ⟨vs,w',dd,by rw[<- rel.length]; exact z,hw,λh' dd' hs=>h w' _ ?_ rw'⟩
 have he:∃q,h'.get? a=some q:=let ⟨q,_,_,hq,_⟩:=dd'; ⟨q,hq⟩;exact sT I (by rw[e]; exact True.intro) hs he (C9 (le_trans (Hm kvs k) z) hd (rel.drop k) dd')
end
def Lh(i:Expr):Prop:=∀ov iv,subscripted i false ov iv=operate [ov,iv] (getItem ov iv)
def DP{prog:Program}{w:World}{A:Around}{E:Ly}{s:Shared}{env:Env}{value slice:Expr}{pos:Pos}{T id:String}{Q:Ly}
  (hl:typeLookup (.type T) "__getitem__" = pure (some (.builtin id))) (hs:Lh slice)
  (h:wpAny (model prog w) A (eval value env) (λo s₁=>wpAny (model prog w) A (eval slice env) (λi s₂=>s₂.TypeIs o T/\wpAny (model prog w) A (getItem o i) Q E s₂) E s₁) E s) :
  wpAny (model prog w) A (eval (.Subscript value slice pos) env) Q E s:=by
 refine Subscript_ (wpAny_mono h (λo s₁ h₁=>wpAny_mono h₁ (λi s₂ h₂=>?_) λ_ _ x=>x) λ_ _ x=>x);obtain⟨hT,h₂⟩:=h₂;unfold subscriptTail;refine wpAny_bind ?_;rw[getitemInPython_of_ne hT.not_modules];refine wpAny_bind (wpAny_specialOf hT hl ?_);have fin:wpAny (model prog w) A (subscripted slice false o i) (λr s₃=>wpAny (model prog w) A (letTemporaryGo value o r >>= λ_=>pure r) Q E s₃) E s₂:=by
  rw[hs o i];exact wpAny_operating (wpAny_mono h₂ (λr s₃ h₃=>wpAny_bind (wpAny_letTemporaryGo (wpAny_pure h₃))) λ_ _ x=>x)
 first
  | exact wpAny_pure (wpAny_bind fin)
  | exact wpAny_bind (wpAny_pure (wpAny_bind fin))
  | exact wpAny_bind fin
def Bp(I:Inv X pins σ H s)(g:cQ H a y o):s.TypeIs (.ref a) "dict":=by
 rcases g with ⟨kvs,k,e,_,_⟩ | ⟨kvs,k,b,e,_,_,_⟩
 ·obtain⟨_,_,vs,_,dd⟩:=yE I.hok e;exact dd.typeIs
 ·obtain⟨_,_,xs,_,dd⟩:=yA I.hok e;exact dd.typeIs
inductive DL(Q:VK)(x:V)(y:V)(H2:Hp):Prop
 | mk:∀a v,x = .ref a->cQ H2 a y (some v)->Q v H2->DL Q x y H2
abbrev IP(ty:TE)(σ : St)(Q:VK):V->Hp->Prop:=λx H1=>ty σ H1 (DL Q x)
def DM(td ty:TE):TE:=λσ H Q=>td σ H (IP ty σ Q)
inductive F3(Q:VK)(y:V)(x:V)(H2:Hp):Prop
 | mk:∀a o,x = .ref a->cQ H2 a y o->Q (.bl o.isSome) H2->F3 Q y x H2
abbrev KZ(td:TE)(σ : St)(Q:VK):V->Hp->Prop:=λy H1=>td σ H1 (F3 Q y)
def tDIn(ty td:TE):TE:=λσ H Q=>ty σ H (KZ td σ Q)
inductive wK(Q:VK)(y:V)(x:V)(H2:Hp):Prop
 | mk:∀a o,x = .ref a->cQ H2 a y o->Q (.bl (!o.isSome)) H2->wK Q y x H2
abbrev EY(td:TE)(σ : St)(Q:VK):V->Hp->Prop:=λy H1=>td σ H1 (wK Q y)
def IO(ty td:TE):TE:=λσ H Q=>ty σ H (EY td σ Q)
inductive De(D:Ends)(σ : St)(v:V)(x:V)(y:V)(H3:Hp):Prop
 | mk:∀a H4,x = .ref a->kP H3 a y v H4->D.nx σ H4->De D σ v x y H3
abbrev IZ(ty:TE)(D:Ends)(σ : St)(v:V):V->Hp->Prop:=λx H2=>ty σ H2 (De D σ v x)
abbrev Ia(td:TE)(ty:TE)(D:Ends)(σ : St):V->Hp->Prop:=λv H1=>td σ H1 (IZ ty D σ v)
def Jy(td ty tv:TE):TS:=λD σ H=>tv σ H (Ia td ty D σ)
inductive Df(D:Ends)(σ : St)(y:V)(a:Addr)(z:V)(H4:Hp):Prop
 | mk:∀H5,kP H4 a y z H5->D.nx σ H5->Df D σ y a z H4
abbrev Ib(rd:V->V->Hp->VK->Prop)(D:Ends)(σ : St)(y:V)(a:Addr)(v:V):V->Hp->Prop:=λy2 H3=>rd v y2 H3 (Df D σ y a)
inductive Dg(tv:TE)(rd:V->V->Hp->VK->Prop)(D:Ends)(σ : St)(x:V)(y:V)(H2:Hp):Prop
 | mk:∀a v,x = .ref a->cQ H2 a y (some v)->tv σ H2 (Ib rd D σ y a v)->Dg tv rd D σ x y H2
abbrev Ic(ty:TE)(tv:TE)(rd:V->V->Hp->VK->Prop)(D:Ends)(σ : St):V->Hp->Prop:=λx H1=>ty σ H1 (Dg tv rd D σ x)
def Jz(td ty tv:TE)(rd:V->V->Hp->VK->Prop):TS:=λD σ H=>td σ H (Ic ty tv rd D σ)
section
variable{X:Cx}{o i e value:Expr}{pos pos' tpos:Pos}{td ty tv:TE}
def dX(hu:X.A.units+1<cLine)(ho:PE X o td)(hi:PE X i ty)(hs:Lh i):PE X (.Subscript o i pos) (DM td ty):=by
 intro pins s σ H Q I h;refine DP PySem.F.slot_dict_getitem.lookup hs (thn (ho pins s σ H _ I h) λu s1 ⟨x,H1,I1,rx,q1⟩=>thn (hi pins s1 σ H1 _ I1 q1) λiv s2 zQq=>?_);obtain⟨y,H2,I2,ry,a,v,ex,g,q2⟩:=zQq;subst ex;obtain rfl:u=Value.ref a:=rx;exact⟨Bp I2 g,yI hu I2 g ry λw' s3 I3 rw'=>⟨v,H2,I3,rw',q2⟩⟩
def Gp(hu:X.A.units+1<cLine)(hi:PE X i ty)(ho:PE X o td):PC X .In i o (tDIn ty td):=by
 intro pins s σ H Q I h;refine thn (hi pins s σ H _ I h) λiv s1 ⟨y,H1,I1,ry,q1⟩=>thn (ho pins s1 σ H1 _ I1 q1) λu s2 zQq=>?_;obtain⟨x,H2,I2,rx,a,ov,ex,g,q2⟩:=zQq;subst ex;obtain rfl:u=Value.ref a:=rx;exact d_in hu I2 g ry λs3 I3=>⟨.bl ov.isSome,H2,I3,rfl,q2⟩
def m6(hu:X.A.units+1<cLine)(hi:PE X i ty)(ho:PE X o td):PC X .NotIn i o (IO ty td):=by
 intro pins s σ H Q I h;refine thn (hi pins s σ H _ I h) λiv s1 ⟨y,H1,I1,ry,q1⟩=>thn (ho pins s1 σ H1 _ I1 q1) λu s2 zQq=>?_;obtain⟨x,H2,I2,rx,a,ov,ex,g,q2⟩:=zQq;subst ex;obtain rfl:u=Value.ref a:=rx;exact Je hu I2 g ry λs3 I3=>⟨.bl (!ov.isSome),H2,I3,rfl,q2⟩
def fS(hu:X.A.units+1<cLine)(ho:PE X o td)(hi:PE X i ty)(hv:PE X value tv)(hs:swapsWith value (some (.Subscript o i pos')) pos.line X.env=pure false) :
  PS X (.Assign [.Subscript o i pos'] value pos) (Jy td ty tv):=by
 intro pins s σ H D I h;refine wpAny_Assign_Subscript (thn (hv pins s σ H _ I h) λr s1 ⟨v,H1,I1,rv,q1⟩=>thn (ho pins s1 σ H1 _ I1 q1) λu s2 ⟨x,H2,I2,rx,q2⟩=>thn (hi pins s2 σ H2 _ I2 q2) λiv s3 zQq=>?_) hs;obtain⟨y,H3,I3,ry,a,H4,ex,g,q3⟩:=zQq;subst ex;obtain rfl:u=Value.ref a:=rx;exact yH hu I3 g ry rv λs4 I4=>⟨σ,H4,I4,q3⟩
def zK{op:Operator}{rd:V->V->Hp->VK->Prop}(hu:X.A.units+1<cLine)(ho:PE X o td)(hi:PE X i ty)(hv:PE X value tv)(hop:Jp X op rd)
  (ha:∀ov iv new,augStore i ov iv new=(do holding [new,ov,iv] (setItem ov iv new); release [new,ov,iv] []; pure .next)):PS X (.AugAssign (.Subscript o i tpos) op value pos) (Jz td ty tv rd):=by
 intro pins s σ H D I h;refine wpAny_AugAssign_SubscriptAny (thn (ho pins s σ H _ I h) λu s1 ⟨x,H1,I1,rx,q1⟩=>thn (hi pins s1 σ H1 _ I1 q1) λiv s2 zQq=>?_) ha;obtain⟨y,H2,I2,ry,a,v,ex,g,q2⟩:=zQq;subst ex;obtain rfl:u=Value.ref a:=rx;refine yI hu I2 g ry λw' s3 I3 rw'=>thn (hv pins s3 σ H2 _ I3 q2) λw2 s4 ⟨y2,H3,I4,ry2,q3⟩=>thn (hop pins s4 σ H3 v y2 w' w2 _ I4 rw' ry2 q3) λw3 s5 zQq=>?_;obtain⟨z,H4,I5,rz,H5,g5,q4⟩:=zQq;exact yH hu I5 g5 ry rz λs6 I6=>⟨σ,H5,I6,q4⟩
end
def Bo(h:Heap)(hb:sysModules<h.objs.size):eA P w H (h.push { cls:=.type "dict",data:=.dict #[] }) h.objs.size (.dK []):=
 ⟨zero_le _,beq_eq_false_iff_ne.mpr (Ne.symm (ne_of_lt hb)),[],.nil,Heap.DictOf.new h⟩
def KY:TE:=λ_ H Q=>∀p,H p=none->Q (.ref p) (upd H p (.dK []))
section
variable{X:Cx}{pos:Pos}
def kE:PE X (.Dict [] [] pos) KY:=λpins s σ H Q I h=>
 wpAny_Dict_empty ⟨.ref s.heap.objs.size,_,I.laid (a:=s.heap.objs.size) (o:=.dK []) (t':=s.toks) (λ_ _ q=>get?_push_of_some _ q) (le_refl _) (Bo s.heap I.big),rfl,h _ (I.hok.fresh (le_refl _))⟩
end
def CK:List (TE × TE)->St->Hp->(List (V × V)->Hp->Prop)->Prop
 | [],_,H,Q=>Q [] H
 | (tk,tv)::r,σ,H,Q=>tk σ H λx H1=>tv σ H1 λy H2=>CK r σ H2 λps H3=>Q ((x,y)::ps) H3
abbrev VV:List (V × V)->List (Value × Value)->Prop:=Paired λp q=>bY p.1 q.1/\bY p.2 q.2
def PPs(X:Cx)(pos:Pos)(keys:List (Option Expr))(values:List Expr)(trs:List (TE × TE)):Prop:=
 ∀pins s σ H(Q:List (V × V)->Hp->Prop),Inv X pins σ H s->CK trs σ H Q->
  wpAny (model X.prog X.w) X.A (evalPairs (pairTrees keys values X.env pos)) (λvs s'=>∃ps H',Inv X pins σ H' s'/\VV ps vs/\Q ps H') X.xe s
def Dm{X:Cx}{pos:Pos}:PPs X pos [] [] []:=λpins s σ H Q I h=>pairTrees_nil_walk ⟨[],H,I,.nil,h⟩
def fO{X:Cx}{pos:Pos}{k v:Expr}{ks:List (Option Expr)}{vs:List Expr}{tk tv:TE}{trs:List (TE × TE)}(hk:PE X k tk)(hv:PE X v tv)(hr:PPs X pos ks vs trs) :
  PPs X pos (some k::ks) (v::vs) ((tk,tv)::trs):=λpins s σ H Q I h=>
 pairTrees_cons_walk (thn (hk pins s σ H _ I h) λu s1 ⟨x,H1,I1,rx,q1⟩=>thn (hv pins s1 σ H1 _ I1 q1) λw2 s2 ⟨y,H2,I2,ry,q2⟩=>
  thn (hr pins s2 σ H2 _ I2 q2) λws s3 ⟨ps,H3,I3,rel,q3⟩=>⟨(x,y)::ps,H3,I3,.cons ⟨rx,ry⟩ rel,q3⟩)
def oB(kvs more:Lz):Lz:=more.foldl (λacc kv=>eF acc kv.1 kv.2) kvs
def KV.merge:∀{more:Lz}{rs:List (Key × Value)}{kvs:Lz}{vs:List (Key × Value)},KV more rs->KV kvs vs->KV (oB kvs more) (merged vs rs):=by
 intro more rs kvs vs r;unfold KV at r
 induction r generalizing kvs vs with
 | nil=>intro q; exact q
 | @cons p q ps qs h t ih=>
  intro r0;have e:KV (eF kvs p.1 p.2) (stored vs q.1 q.2):=by
   have:=r0.put p.1 h.2;rw[<- h.1]; exact this
  exact ih e
def nN:∀(more kvs:Lz),(oB kvs more).length<=kvs.length+more.length
 | [],kvs=>by show kvs.length<=kvs.length+0; omega
 | p::r,kvs=>by
  have h1:=nN r (eF kvs p.1 p.2);have h2:=mK kvs p.1 p.2;show (oB (eF kvs p.1 p.2) r).length<=_;rw[length_cons]; omega
def vJ:∀{kvs:Lz}{ws:List (Value × Value)},VV (kvs.map λkv=>(kV kv.1,kv.2)) ws->∃rs,Carries (cH P w) ws rs/\KV kvs rs
 | [],_,r=>by rw[map_nil]at r; cases r; exact⟨[],True.intro,.nil⟩
 | p::kvs,_,r=>by
  rw[map_cons]at r;cases r with
  | @cons a b as bs h t=>
   obtain⟨rs,c,q⟩:=vJ (P:=P) (w:=w) t;obtain⟨b1,b2⟩:=b;exact⟨(p.1,b2)::rs,⟨nO h.1,rfl,c⟩,.cons ⟨rfl,h.2⟩ q⟩
def tDisp(trs:List (TE × TE)):TE:=λσ H Q=>∀p,H p=none->CK trs σ (upd H p (.dK [])) λps H2=>H2 p=some (.dK [])/\∃kvs:Lz,ps=kvs.map (λkv=>(kV kv.1,kv.2))/\kvs.length<=15/\Q (.ref p) (upd H2 p (.dK (oB [] kvs)))
def Dr{X:Cx}{pos:Pos}{keys:List (Option Expr)}{values:List Expr}{trs:List (TE × TE)}(h:PPs X pos keys values trs)(hall:keys.all (·.isSome)=true)(hl:keys.length=values.length)(h0:keys≠[])
  (h15:keys.length<=15):PE X (.Dict keys values pos) (tDisp trs):=by
 intro pins s σ H Q I q;have hn:=I.hok.fresh (le_refl s.heap.objs.size);have I1:=I.laid (a:=s.heap.objs.size) (o:=.dK []) (h':=s.heap.push { cls:=.type "dict",data:=.dict #[] }) (t':=s.toks) (λ_ _ q=>get?_push_of_some _ q) (le_refl _) (Bo s.heap I.big);refine wpAny_Dict_walk (knd:=cH X.prog X.w) hall hl h0 h15 (thn (h pins _ σ _ _ I1 (q _ hn)) λws s2 zQq=>?_);obtain⟨ps,H2,I2,rel,e,kvs,ep,lk,q2⟩:=zQq;subst ep;obtain⟨rs,c,rk⟩:=vJ (P:=X.prog) (w:=X.w) rel;obtain⟨z,hd,vs0,r0,dd⟩:=Bm I2.hok e;cases r0;refine⟨rs,c,dd,λh' dd' hs=>⟨.ref s.heap.objs.size,_,?_,rfl,q2⟩⟩;have hz:(oB [] kvs).length<=sizeLine:=by
  have h1:=nN kvs [];rw[List.length_nil]at h1;rw[sizeLine_eq]; omega
 have he:∃q,h'.get? s.heap.objs.size=some q:=let ⟨q,_,_,hq,_⟩:=dd'; ⟨q,hq⟩;exact sT I2 (by rw[e]; exact True.intro) hs he (C9 hz hd (rk.merge .nil) dd')
structure M1(X:Cx)(o:Expr)(m:Str)(apos:Pos)(e:Expr)(cpos:Pos):Prop where
 base:attributeBase o m X.env (eval o X.env)=eval o X.env
 few:((backTo cpos (starEach [e] X.env)).all (λx=>!x.1) && (backToKw cpos (keywordEach [] X.env)).all (λx=>x.1.isSome)
  && decide (([e]:List Expr).length+([]:List Keyword).length+(if ([]:List Keyword).isEmpty then 0 else 1)<30))=true
 line:(apos.endLine == cpos.line)=true
 trees:backTo cpos (starEach [e] X.env)=[(false,eval e X.env)]
section
variable{X:Cx}{pins:Lo}{σ : St}{H:Hp}{s:Shared}{a:Addr}{y d:V}{u r:Value}{o:Option V}{A:Around}{E:Ly}
def LX(hu:A.units+1<cLine)(I:Inv X pins σ H s)(g:cQ H a y o)(ry:bY y u)(rd:bY d r)(h:∀w' s',Inv X pins σ H s'->bY (o.getD d) w'->Q w' s') :
  wpAny (model X.prog X.w) A (call (.builtin "dict.get") [.ref a,u,r]) Q E s:=by
 rcases g with ⟨kvs,k,e,ey,l⟩ | ⟨kvs,k,b,e,ey,eb,l⟩
 ·subst ey;obtain⟨z,hd,vs,rel,dd⟩:=yE I.hok e;refine call_meetsIn PySem.F.slot_dict_get dd.typeIs PySem.F.entry_dict_get (PySem.F.args_dict_get_3 _ _ _) (meets_dict_get_default (cH X.prog X.w) a (nO ry) hd r) ⟨_,dd.mapOf,h _ _ (I.tok _) ?_⟩;rw[l];exact(rel.val k).getD rd
 ·subst ey;cases (show u=Value.ref b from ry);obtain⟨z,hd,xs,rel,dd⟩:=yA I.hok e;refine call_meetsIn PySem.F.slot_dict_get dd.typeIs PySem.F.entry_dict_get (PySem.F.args_dict_get_3 _ _ _) (meetsH_dict_get_default (tupleKind (cH X.prog X.w)) a b hd r) ⟨tupleKind_room_in1 hu,k,xs,qR I.hok eb,dd,h _ _ (I.tok _) ?_⟩;rw[l];exact(rel.val k).getD rd
end
section
variable{X:Cx}{o e f:Expr}{apos cpos:Pos}{td ty tx:TE}
end
section
variable{X:Cx}{pins:Lo}{σ : St}{H:Hp}{s:Shared}{a:Addr}{kvs:Lz}{A:Around}{E:Ly}
end
section
variable{X:Cx}{pins:Lo}{σ : St}{H:Hp}{s:Shared}{a:Addr}{y:V}{u:Value}{A:Around}{E:Ly}
end
end L2
namespace Att
open PySem PySem.W PySem.Calls PyProof.Rows
def sC:∀(ns:Ls)(vs:Lv),WellAll P h vs (ns.map WData.int)->IntsAre vs ns:=by
 intro ns
 induction ns with
 | nil=>
  intro vs w;rw[map_nil]at w;cases w;exact .nil
 | cons n ns ih=>
  intro vs w;rw[map_cons]at w;cases w with
  | cons a b=>
   cases a;exact .cons _ _ (ih _ b)
def Eb{l:OpenLaw}{n:Nat}(hn:l.most=some n){P:Params}{h:Heap}{args:List WData}{vals:Lv}
  (hpre:l.row.toRowW.claim.pre args=true) (hwl:WellAll P h vals args) :
  ∃a vs ns,vals=[Value.ref a]/\args=[WData.list (ns.map WData.int)]/\h.get? a=some { cls:=.type "list",data:=.seq vs.toArray }/\IntsAre vs ns/\ns.length<=n:=by
 have hsh:WShape.hasAll [] args [.list .int]=true:=(pre_splitW hpre).1;have hc:l.pre.holds [] { args:=args }=true:=(pre_splitW hpre).2;obtain⟨d,r,rfl,h1,h2⟩:=hasAllW_cons hsh;obtain rfl:=hasAllW_nil h2;obtain⟨xs,rfl,h3⟩:=hasW_list h1;obtain⟨ns,rfl⟩:=items_int h3;have hlen:ns.length<=n:=by
  unfold OpenLaw.pre at hc;have h4:(WTm.not (.lt (.lit (.int (n:Int))) (.len (.arg 0)))).holds [] { args:=[.list (ns.map .int)] }=true:=by
   have h4:=(holds_andW hc).1;rw[hn]at h4;exact h4
  have h5:=condW_of h4 (w_not (w_lt w_lit (w_len_list (w_arg rfl))));rw[length_map]at h5;refine Nat.le_of_not_lt λq=>?_;have q':(n:Int)<((ns.length:Nat):Int):=by omega
  first
   | (rw[decide_eq_true q']at h5; exact absurd h5 (by decide))
   | (simp at h5; omega)
 cases hwl with
 | cons w1 w2=>
  cases w2;cases w1 with
  | list ho hall=>exact⟨_,_,ns,rfl,rfl,ho,sC ns _ hall,hlen⟩
def Eh(l:OpenLaw)(args:List WData):l.row.toRowW.claim.post args (.bool true) args=true:=
 postW_of (r:=l.row.toRowW) (X:=(true == true))
  (show WShape.has [] (.bool true) .bool=true by first | rfl | decide | simp [WShape.has,WShape.arms,WShape.armsAll])
  (show (WTm.eq .res (.lit (.bool true))).value [] { args:=args,res:=some (.bool true),after:=args }=some (.bool (true == true)) from w_eq_bool (w_res rfl) w_lit) rfl
def B4{l:OpenLaw}{n:Nat}{q:Program}{loose:Lu}{XP:(Lp)->Heap->Prop}{YP:World->Heap->Prop}{d:DefRec}
  (hn:l.most=some n) (hdf:d.params.defaults=[])
  (call:∀(w:World)(s₀ s₁ : Shared)(mg mb:Lp)(fa:Addr)(o:Obj)(pm cd doc:Value)(a:Addr)(vs:Lv)(ns:Ls),
   Ground q loose [] XP w s₀ mg mb s₁.heap->YP w s₁.heap->
   s₁.heap.get? fa=some o->o.data = .func (docDef d.name d.params d.body d.scope pm cd doc)->s₁.heap.CodeRec cd d.name->mg d.name=some (.ref fa)->
   s₁.heap.get? a=some { cls:=.type "list",data:=.seq vs.toArray }->IntsAre vs ns->ns.length<=n->s₁.gens = #[]->
   codeAny (model l.prog w) callerA (.call (.ref fa) ⟨[.ref a],[]⟩) (λr s'=>r = .ok (.ret (.bool true))/\OldK s₁.heap s'.heap/\s'.os=s₁.os/\AllBare s'.gens) s₁) :
  WalkO q loose XP YP l.row.toRowW d [] (λf vs=>PySem.call f vs):=by
 intro w s₀ s₁ mg mb G Y fa o pm cd doc dV kV ho hd hcd hD hmg hg args vals as hpre hlay hrd hwl hlo;obtain rfl:dV = .none:=Dflts.none hD hdf;obtain rfl:kV = .none:=Dflts.noKw hD;obtain⟨a,vs,ns,rfl,rfl,hobj,hints,hlen⟩:=Eb hn hpre hwl;refine enter_call (codeAny_mono (call w s₀ s₁ mg mb fa o pm cd doc a vs ns G Y ho (fd_plain hd) hcd hmg hobj hints hlen hg) λr s' hq=>?_);obtain⟨rfl,h2,h3,h4⟩:=hq;exact⟨.inl ⟨.bool true,.bool true,[],rfl,λ_=>rfl,.bool true,Eh l _,λ_=>⟨List.Pairwise.nil,λ_ hm=>(nomatch hm)⟩⟩,h2,h3,h4⟩
section
variable{prog:Program}{w:World}{A:Around}{E:Ly}{s:Shared}{K:Frag}
end
end Att
namespace L2
open PySem PySem.Spec PyProof.Rows
def mV:∀{vs:Lv}{ns:Ls},IntsAre vs ns->bZ (ns.map V.int) vs
 | _,_,.nil=>.nil
 | _,_,.cons n t h=>.cons ⟨t,rfl⟩ (mV h)
def Lg(H:Hp):Prop:=∀b,H b=none\/∃o xs,H b=some (.frz o (.lst xs))
def HG{P:Program}{w:World}{K:Ln}{mg mb:Lp}{CX:CXT}{k:Nat}{fa a:Addr}{fd:Lx}{x:Str}{sp:Sp}{s₁ : Shared}{vs:Lv}{ns:Ls}
  (KX:K.In s₁.heap) (hns:s₁.heap.Ns mainGlobals mg) (hb:s₁.heap.Ns builtinsNs mb) (hbb:∀x:Str,x ≠ "__name__"->mb x=bootBuiltins x) (hlim:s₁.heap.NoLimit) (hg:s₁.gens = #[])
  (ha:s₁.heap.get? a=some { cls:=.type "list",data:=.seq vs.toArray }) (hi:IntsAre vs ns) (hl:ns.length<=sizeLine) (hr:Room k callerA)
  (F:∀base:Heap,K.In base->base.Ns mainGlobals mg->FnOk P w K mg base CX k fa fd [x] sp) (hbind:∀(s:Shared)(u:Value),BindsTo s fd ⟨[u],[]⟩ [(x,u)])
  (hsp:∀H:Hp,Lg H->SqL K H a (ns.map V.int)->sp [.ref a] H (λv _=>v = .bl true) λ_ _ _=>False)
  (hCX:∀H e s',CX [] H s₁ (λ_ _ _=>False) e s'->False) :
  codeAny (model P w) callerA (.call (.ref fa) ⟨[.ref a],[]⟩) (λr s'=>r = .ok (.ret (.bool true))/\OldK s₁.heap s'.heap/\s'.os=s₁.os/\AllBare s'.gens) s₁:=by
 have rv:=mV hi;have lenV:=hi.length
 -- from an abstract heap in which nothing but the script may be tracked
 have core:∀H:Hp,Lg H->SqL K H a (ns.map V.int)->HOk P w H s₁.heap->(∀b,H b≠none->b=a)->(H a≠none->K.lookup a=none)->
   codeAny (model P w) callerA (.call (.ref fa) ⟨[.ref a],[]⟩) (λr s'=>r = .ok (.ret (.bool true))/\OldK s₁.heap s'.heap/\s'.os=s₁.os/\AllBare s'.gens) s₁:=by
  intro H hO hS hok hA hK;have base_of:∀{b:Addr}{o:Obj},s₁.heap.get? b=some o->H b=none->(AC s₁.heap H).get? b=some o:=λe n=>HY e n;have noA:∀{b:Addr}{o:Obj}{es:Array DictEntry}{ep:Nat},s₁.heap.get? b=some o->o.data = .dict es ep->H b=none:=λ{b o es ep} e d=>by
   cases q:H b with
   | none=>rfl
   | some u=>
    have e':b=a:=hA b (by rw[q]; simp);subst e';rw[ha]at e; cases e;have d':Data.seq vs.toArray _=Data.dict es ep:=d;cases d'
  have nsK:∀{b:Addr}{m:Lp},s₁.heap.Ns b m->(AC s₁.heap H).Ns b m:=λ{b m} ⟨o,es,ep,e,d,r⟩=>⟨o,es,ep,base_of e (noA e d),d,r⟩;have hKb:K.In (AC s₁.heap H):=λb o e=>base_of (KX b o e) (by
   cases q:H b with
   | none=>rfl
   | some u=>
    have e':b=a:=hA b (by rw[q]; simp);subst e';rw[hK (by rw[q]; simp)]at e; cases e)
  have hM:Mod K mg (AC s₁.heap H):=⟨hKb,nsK hns,⟨mb,nsK hb,hbb⟩,let ⟨mc,h1,h2⟩:=hlim; ⟨mc,nsK h1,h2⟩⟩;have e0:Env0 P w K mg (AC s₁.heap H) callerA [] s₁ H:=⟨rfl,hM,λb o e=>JI e,Nat.le_of_eq (FS _ _),trivial,λb hb=>absurd (show b∈([]:List Addr) from hb) (by simp),hok,.of_eq hg⟩;refine codeAny_mono ((F _ hKb (nsK hns)).run callerA [] s₁ H ⟨[.ref a],[]⟩ [.ref a] [.ref a] _ _ hr e0 (hbind s₁ (.ref a)) (.cons rfl .nil) (hsp H hO hS)) λr s' h=>?_;cases r with
  | error e=>exact(hCX H e s' h).elim
  | ok fl=>
   cases fl with
   | next=>exact False.elim h
   | brk=>exact False.elim h
   | cont=>exact False.elim h
   | ret u=>
    obtain⟨v,H',os,bare,un,hok',r',q⟩:=h;have q':v = .bl true:=q;subst q';obtain rfl:u=Value.bool true:=r';refine⟨rfl,OldK.of_keep λb o e=>?_,os,bare⟩;cases q:H b with
    | none=>exact un.keep b o e q (by intro z; exact absurd (show b∈([]:List Addr) from z) (by simp)) (by simp)
    | some u=>
     rcases hO b with z | ⟨ob,xs,z⟩
     ·rw[q]at z; cases z
     ·have z2:=un.frzs b ob _ z;obtain⟨e1,_⟩:=hok b _ z;obtain⟨e2,_⟩:=hok' b _ z2;rw[e]at e1; cases e1;exact e2
 cases hk:K.lookup a with
 | some o=>
  -- the script is one of the module's own objects
  have e:=KX a o hk;rw[ha]at e;cases e;refine core (λ_=>none) (λ_=>.inl rfl) (.inr ⟨_,vs.toArray,_,hk,rfl,rfl,rfl,by rw[size_toArray,lenV]; exact hl,by simpa using rv⟩) (λb u z=>by have z':(none:Option HO)=some u:=z; cases z') (λb z=>absurd rfl z) λz=>absurd rfl z
 | none=>
  refine core (λb=>if b=a then some (.frz { cls:=.type "list",data:=.seq vs.toArray } (.lst (ns.map V.int))) else none) (λb=>?_) (.inl (.inr ⟨{ cls:=.type "list",data:=.seq vs.toArray },if_pos rfl⟩)) (λb u z=>?_) (λb z=>?_) λ_=>hk
  ·by_cases hb:b=a
   ·exact .inr ⟨_,_,if_pos hb⟩
   ·exact .inl (if_neg hb)
  ·by_cases hb:b=a
   ·have z':=(if_pos hb).symm.trans z;cases z';subst hb;exact⟨ha,by rw[length_map]; exact hl,vs,_,rv,ha⟩
   ·have z':=(if_neg hb).symm.trans z;cases z'
  ·by_cases hb:b=a
   ·exact hb
   ·exact absurd (if_neg hb) z
def II{l:PySem.W.OpenLaw}{n k:Nat}{q:Program}{loose:Lu}{XP:(Lp)->Heap->Prop}{YP:World->Heap->Prop}{d:DefRec}{K:Params->Ln}{CX:World->CXT}{sp:World->Sp}{x:Str}
  (hn:l.most=some n) (hn2:n<=sizeLine) (hdf:d.params.defaults=[]) (hr:Room k callerA)
  (hY:∀(w:World)(h:Heap),YP w h->(K w.params).In h)
  (F:∀(w:World)(mg:Lp)(fa:Addr)(h:Heap),(K w.params).In h->h.Ns mainGlobals mg->mg d.name=some (.ref fa)->
   ∃fd:Lx,(∀(s:Shared)(u:Value),BindsTo s fd ⟨[u],[]⟩ [(x,u)])/\
    ∀base:Heap,(K w.params).In base->base.Ns mainGlobals mg->FnOk l.prog w (K w.params) mg base (CX w) k fa fd [x] (sp w))
  (hsp:∀(w:World)(H:Hp)(a:Addr)(ns:Ls),ns.length<=n->Lg H->SqL (K w.params) H a (ns.map V.int)->sp w [.ref a] H (λv _=>v = .bl true) λ_ _ _=>False)
  (hCX:∀(w:World)(H:Hp)(s:Shared)(e:Value)(s':Shared),CX w [] H s (λ_ _ _=>False) e s'->False) :
  PySem.W.WalkO q loose XP YP l.row.toRowW d [] (λf vs=>PySem.call f vs):=by
 refine Att.B4 hn hdf λw s₀ s₁ mg mb fa o pm cd doc a vs ns G Y ho hd hcd hmg hobj hints hlen hg=>?_;have KX:=hY w _ Y;obtain⟨fd,hb,hF⟩:=F w mg fa _ KX G.T.g hmg;exact HG KX G.T.g G.T.b G.T.builtins G.T.nolimit hg hobj hints (le_trans hlen hn2) hr hF hb (λH hO hS=>hsp w H a ns hlen hO hS) λH e s'=>hCX w H s₁ e s'
def bI(s:Stmt)(j:Nat):Stmt:=match s with
 | .ClassDef _ _ _ body _ _ _ _ _ _ _=>body.getD j (.Pass ⟨0,0,0,0⟩)
 | _=>.Pass ⟨0,0,0,0⟩
def gG(s:Stmt):Arguments:=match s with
 | .FunctionDef _ a _ _ _ _ _ _ _ _=>a
 | _=>{ posonlyargs:=[],args:=[],vararg:=none,kwonlyargs:=[],kw_defaults:=[],kwarg:=none,defaults:=[] }
def fI(s:Stmt):List Stmt:=match s with
 | .FunctionDef _ _ b _ _ _ _ _ _ _=>b
 | _=>[]
def c8(s:Stmt):Scope:=match s with
 | .FunctionDef _ _ _ _ _ _ sc _ _ _=>sc
 | _=>{ kind:=.function,names:=[],isGenerator:=false,isCoroutine:=false }
abbrev E0:XK:=λ_ _ _=>False
structure Fun(K:Ln)(x qual:Str)(st:Stmt)(f:Addr)(fd:Lx):Prop where
 ex:∃(oc:Value) (od:Option Addr) (kV doc pm:Value) (an:Option Addr) (cdv ct:Value) (osl:Lr),
  fd=fnOf x qual (gG st) (fI st) (c8 st) .none kV doc pm an cdv ct/\K.lookup f=some ⟨oc,od,.func fd,osl⟩/\codeIn K cdv qual=true
 kp:keepIn K (.ref f)=true
section
variable{P:Program}{w:World}{K:Ln}{mg:Lp}{base:Heap}
def Fun.binds{x qual:Str}{st:Stmt}{f:Addr}{fd:Lx}{ps:Lu}(F:Fun K x qual st f fd)
  (h:∀(kV doc pm:Value)(an:Option Addr)(cdv ct:Value)(us:Lv),us.length=ps.length->bindArgs (fnOf x qual (gG st) (fI st) (c8 st) .none kV doc pm an cdv ct) ⟨us,[]⟩=pure (ps.zip us)):i9 K fd ps []:=by
 obtain⟨oc,od,kV,doc,pm,an,cdv,ct,osl,rfl,lk,hcd⟩:=F.ex;exact .all (h kV doc pm an cdv ct)
def C6{x qual:Str}{st:Stmt}{f:Addr}{oc:Value}{od an:Option Addr}{osl:Lr}{kV doc pm cdv ct:Value}(l:K.lookup f=some ⟨oc,od,.func (fnOf x qual (gG st) (fI st) (c8 st) .none kV doc pm an cdv ct),osl⟩)
  (c:codeIn K cdv qual=true) (k:keepIn K (.ref f)=true):Fun K x qual st f (fnOf x qual (gG st) (fI st) (c8 st) .none kV doc pm an cdv ct):=⟨⟨oc,od,kV,doc,pm,an,cdv,ct,osl,rfl,l,c⟩,k⟩
end
section
variable{X:Cx}
def pv(i:Nat){x:Str}{pos:Pos}(hN:X.N[i]? = some x:=by rfl)(hv:Vis X.env.scope x:=by first | exact Or.inl rfl | exact Or.inr (Or.inl rfl) | exact Or.inr (Or.inr rfl))(hd:(x == ("__debug__" : Str))=false:=by decide)
  (hcd:(x == ("__classdict__" : Str))=false:=by decide):PE X (.Name x pos) (lU i):=K1 hN hv hd hcd
end
def bB{A B:Prop}(h:B):if false=true then A else B:=by
 rw[if_neg Bool.false_ne_true];exact h
def aU{A B:Prop}(h:A):if true=true then A else B:=by
 rw[if_pos rfl];exact h
def aH(H H':Hp):Prop:=∀b o,H b=some o->H' b=some o
def aH.refl(H:Hp):aH H H:=λ_ _ h=>h
def aH.trans(a:aH H H1)(b:aH H1 H2):aH H H2:=λc o h=>b c o (a c o h)
def aH.free(e:aH H H')(h:H' l=Option.none):H l=Option.none:=by
 cases q:H l with
 | none=>rfl
 | some o=>
  rw[e l o q]at h;cases h
def aH.seq{K:Ln}{H H':Hp}{a:Addr}{xs:L6}(e:aH H H')(h:SqL K H a xs):SqL K H' a xs:=by
 rcases h with (h | ⟨o,h⟩) | h
 ·exact .inl (.inl (e _ _ h))
 ·exact .inl (.inr ⟨o,e _ _ h⟩)
 ·exact .inr h
section
variable{κ : Type} [DecidableEq κ]
def yC{p:κ × V}{r:List (κ × V)}{k:κ}(e:p.1=k):eY (p::r) k=eY r k:=by
 unfold eY;rw[filter_cons,if_neg (by simp [e])]
def yD{p:κ × V}{r:List (κ × V)}{k:κ}(e:¬ p.1=k):eY (p::r) k=p::eY r k:=by
 unfold eY;rw[filter_cons,if_pos (by simp [e])]
end
def Lk(B:Heap)(l:List Env)(e:Addr)(cls a0 fl:Value)(h:Heap):Prop:=B.StaysIn h/\B.get? e=none/\h.FunFrames B l/\h.TracedAtW B e cls a0 fl
structure Fly(P:Program)(w:World)(l:List Env)(H H':Hp)(s s':Shared)(e:Addr)(cls fl:Value):Prop where
 os:s'.os=s.os
 bare:AllBare s'.gens
 fr:∀b o,s.heap.get? b=some o->H b=none->H' b=none
 tups:∀b xs,H b=some (.tup xs)->H' b=some (.tup xs)
 frzs:∀b o u,H b=some (.frz o u)->H' b=some (.frz o u)
 tbls:∀b ps,H b=some (.tbl ps)->∃more,H' b=some (.tbl (ps++more))
 sl:∀b o,s.heap.get? b=some o->b∈frs l->∃sl,s'.heap.get? b=some { o with slots:=sl }
 fly:∃B a0,Lk B l e cls a0 fl s'.heap/\HOk P w H' B/\(∀b o,s.heap.get? b=some o->H b=none->b ∉ frs l->B.get? b=some o)/\∀b o,s.heap.get? b=some o->b ∉ frs l->∃o',B.get? b=some o'
section
variable{P:Program}{w:World}{l:List Env}{H H':Hp}{s s':Shared}{e:Addr}{cls fl:Value}
def Fly.un(F:Fly P w l H H' s s' e cls fl):Un (frs l) [] H H' s.heap s'.heap:=by
 obtain⟨B,a0,fl,hk,kp,th⟩:=F.fly;refine⟨λb o q n hb _=>fl.1 _ _ (kp b o q n hb),λb o q n hb _=>F.sl b o q hb,λb o q n _=>F.fr b o q n,λb o q _=>?_,F.tups,F.frzs,F.tbls⟩;by_cases hb:b∈frs l
 ·obtain⟨sl,z⟩:=F.sl b o q hb;exact⟨_,z⟩
 ·obtain⟨o',z⟩:=th b o q hb;exact⟨o',fl.1 _ _ z⟩
def Fly.hok(F:Fly P w l H H' s s' e cls fl):HOk P w H' s'.heap:=by
 obtain⟨B,a0,fl,hk,_⟩:=F.fly;exact hk.kept λb o q=>fl.1 b o q
def IU{h h':Heap}{B:Heap}{l:List Env}(fl:h.FunFrames B l)(u:h.UpToSlots h'){b:Addr}{o:Obj}{sl:Lr}(hb:b∈frs l)(e:h.get? b=some { o with slots:=sl }):∃sl',h'.get? b=some { o with slots:=sl' }:=by
 obtain⟨_,o',ho,hd⟩:=fl.mem hb;rw[e]at ho; cases ho;obtain⟨sl',z⟩:=u b _ e hd;exact⟨sl',z⟩
def Fly.go(F:Fly P w l H H' s s' e cls fl):∃B a0,Lk B l e cls a0 fl s'.heap/\∀h' fl',Lk B l e cls a0 fl' h'->s'.heap.UpToSlots h'->Fly P w l H H' s { s' with heap:=h' } e cls fl':=by
 obtain⟨B,a0,fl,hk,kp,th⟩:=F.fly;refine⟨B,a0,fl,λh' fl' f' up=>⟨F.os,F.bare,F.fr,F.tups,F.frzs,F.tbls,λb o q hb=>?_,B,a0,f',hk,kp,th⟩⟩;obtain⟨sl,z⟩:=F.sl b o q hb;exact IU (o:=o) fl.2.2.1 up hb z
def Fly.drop(F:Fly P w (env::outer) H H' s s' e cls fl)(hf:env.frame=some L)
  (hL:s₀.heap.objs.size<=L) (ho:s.os=s₀.os) (U:Un (frs outer) [] H₀ H s₀.heap s.heap) (hn:∀b∈frs outer,H₀ b=none):Fly P w outer H₀ H' s₀ s' e cls fl:=by
 obtain⟨B,a0,⟨f1,f2,⟨_,_,f3⟩,f4⟩,hk,kp,th⟩:=F.fly;have sub:∀b,b∈frs (env::outer)->b=L\/b∈frs outer:=λb hb=>by
  unfold frs at hb;rw[filterMap_cons,hf]at hb;exact mem_cons.mp hb
 have sup:∀b,b∈frs outer->b∈frs (env::outer):=λb hb=>by
  unfold frs;rw[filterMap_cons,hf];exact mem_cons_of_mem _ hb
 have old:∀b o,s₀.heap.get? b=some o->b ∉ frs outer->b ∉ frs (env::outer):=λb o q hb z=>by
  rcases sub b z with rfl | z
  ·exact absurd (lt_of_lt_of_le (lt_size q) hL) (lt_irrefl _)
  ·exact hb z
 have nx:∀b,b ∉ ([]:List Addr):=λb=>by simp
 refine⟨F.os.trans ho,F.bare,λb o q n=>?_,λb xs q=>F.tups b xs (U.tups b xs q),λb o u q=>F.frzs b o u (U.frzs b o u q),λb ps q=>?_,λb o q hb=>?_,B,a0,⟨f1,f2,f3,f4⟩,hk,λb o q n hb=>?_,λb o q hb=>?_⟩
 ·obtain⟨o',z⟩:=U.there b o q (nx b);exact F.fr b o' z (U.free b o q n (nx b))
 ·obtain⟨m1,z1⟩:=U.tbls b ps q;obtain⟨m2,z2⟩:=F.tbls b _ z1;exact⟨m1++m2,by rw[z2,Array.append_assoc]⟩
 ·obtain⟨sl,z⟩:=U.slot b o q (hn b hb) hb (nx b);obtain⟨sl',z'⟩:=F.sl b _ z (sup b hb);exact⟨sl',z'⟩
 ·exact kp b o (U.keep b o q n hb (nx b)) (U.free b o q n (nx b)) (old b o q hb)
 ·obtain⟨o',z⟩:=U.there b o q (nx b);exact th b o' z (old b o q hb)
def HX{P:Program}{w:World}{H:Hp}{h:Heap}{l:List Addr}(x:HOk P w H h)(hl:∀b∈l,H b=none):HOk P w H (hideAll h l):=λa o e=>
 (x a o e).stay (λb u hb q=>hideAll_get _ q λhm=>by
  have n:=hl b hm;rcases hb with rfl | hb
  ·rw[e]at n; cases n
  ·rw[hb]at n; cases n) (λ_ q=>q) λ_ _ q=>q
section
variable{M:Model}{A:Around}{E:Ly}{Q:Unit->Shared->Prop}{env:Env}{outer:List Env}{L:Addr}
def vC(F:Fly P w l H H' s s' e cls fl)(hQ:∀h',Fly P w l H H' s { s' with heap:=h' } e cls .none->Q () { s' with heap:=h' }):wpAny M A (setFlight (.ref e) none) Q E s':=by
 obtain⟨B,a0,⟨f1,f2,f3,f4⟩,go⟩:=F.go;exact wpAny_setFlight_noneW f1 f3 f4 λh' k1 k2 k3 k4=>hQ h' (go h' _ ⟨k1,f2,k2,k3⟩ λb o hb hn=>⟨o.slots,k4 b o hb hn⟩)
def He(F:Fly P w l H H' s s' e cls fl)(hQ:∀h',Fly P w l H H' s { s' with heap:=h' } e cls (rawInt L)->Q () { s' with heap:=h' }):wpAny M A (setFlight (.ref e) (some L)) Q E s':=by
 obtain⟨B,a0,⟨hkb,hen,hl,oe,vs,T,oT,ts,he,hcls,hd,h1,hnT,hTe,hT,hdT,h3⟩,go⟩:=F.go;have hsz3:3<ts.size:=(Array.getElem?_eq_some_iff.mp h3).1;have other:∀b,b≠T->(s'.heap.update T (Obj.mapFields (·.setIfInBounds 3 ((some L).elim Value.none λf=>rawInt f)))).get? b=s'.heap.get? b:=
  λb hb=>Heap.get?_update_other _ _ (Ne.symm hb)
 have noRecord:∀b o,s'.heap.get? b=some o->(∀vs,o.data ≠ .fields vs)->b≠T:=λb o hb hnf q=>by
  rw[q,hT]at hb; injection hb with hb; subst hb; exact hnf ts hdT
 unfold setFlight;refine wpAny_bind (wpAny_field he hd h1 ?_);rw[if_pos (show (Value.ref T != Value.none)=true from by simp)];refine wpAny_setField hT hdT hsz3 (hQ _ (go _ _ ⟨λb o hbo=>(other b λq=>by rw[q,hnT]at hbo; cases hbo).trans (hkb b o hbo),hen,
  hl.of_keeps λb o hb hnf=>⟨o,(other b (noRecord b o hb hnf)).trans hb,rfl⟩,?_⟩ λb o hb hnf=>⟨o.slots,(other b (noRecord b o hb hnf)).trans hb⟩))
 exact⟨oe,vs,T,_,_,(other e (Ne.symm hTe)).trans he,hcls,hd,h1,hnT,hTe,Heap.get?_update_self _ hT (Obj.isFreed_of_fields (Obj.data_mapFields hdT _)),Obj.data_mapFields hdT _,by simp [hsz3]⟩
def Hf(hfr:A.frames=some (env::outer))(hf:env.frame=some L)(F:Fly P w (env::outer) H H' s s' e cls .none)
  (hQ:∀h',Fly P w (env::outer) H H' s { s' with heap:=h' } e cls (rawInt L)->Q () { s' with heap:=h' }):wpAny M A (noteFrame (.ref e) env) Q E s':=by
 obtain⟨B,a0,⟨f1,f2,f3,f4⟩,go⟩:=F.go;exact wpAny_noteFrame_onW hfr f3 hf f4 f1 f2 λh' ⟨k1,k2,k3,k4⟩=>hQ h' (go h' _ ⟨k1,f2,k2,k3⟩ k4)
def FU(hf:env.frame=some L)(F:Fly P w l H H' s s' e cls (rawInt L))(hQ:Q () s'):wpAny M A (noteFrame (.ref e) env) Q E s':=by
 obtain⟨B,a0,⟨f1,f2,f3,f4⟩,go⟩:=F.go;exact wpAny_noteFrame_againW hf f4 hQ
def C7(F:Fly P w l H H' s s' e cls fl)(hQ:∀T:Addr,R (.ref T) s'):wpAny M A (field (.ref e) 1) R E s':=by
 obtain⟨B,a0,⟨hkb,hen,hl,oe,vs,T,oT,ts,he,hcls,hd,h1,_⟩,_⟩:=F.go;exact wpAny_field he hd h1 (hQ T)
end
end
def CXE(P:Program)(w:World):CXT:=λouter H s E e s'=>∃(a:Addr) (cls:Value) (H':Hp),e = .ref a/\Fly P w outer H H' s s' a cls .none/\E cls none H'
def AtX(X:Cx)(pins:Lo)(σ : St)(H':Hp)(s':Shared)(e:Addr)(cls:Value):Prop:=
 (∃s args,Inv X pins σ H' s/\Heap.MadeExcOf s.heap s'.heap e cls args/\s' = { s with heap:=s'.heap })\/
 ∃H s fl,Inv X pins σ H s/\Fly X.prog X.w X.stack H H' s s' e cls fl/\(fl = .none\/fl=rawInt X.env.locals)
structure Own(X:Cx):Prop where
 stk:X.stack=X.env::X.outer
 fra:X.env.frame=some X.env.locals
 ex:X.ex=[]
section
variable{X:Cx}{pins:Lo}{σ : St}{H':Hp}{s':Shared}{e:Addr}{cls:Value}
def FA(O:Own X)(hfr:A.frames=some X.stack)(I:Inv X pins σ H' s)(mk:Heap.MadeExcOf s.heap s'.heap e cls args)(es:s' = { s with heap:=s'.heap })
  (hQ:∀h',Fly X.prog X.w X.stack H' H' s { s' with heap:=h' } e cls (rawInt X.env.locals)->Q () { s' with heap:=h' }):wpAny M A (noteFrame (.ref e) X.env) Q E s':=by
 have hst:=I.stack;have hfree:=I.stkFree;have hin:∀env∈X.stack,∀a,env.frame=some a->a∈frs X.stack:=λenv he a ha=>List.mem_filterMap.mpr ⟨env,he,ha⟩;obtain⟨t,he,htn,ht⟩:=mk.there;have FH:=PySem.W.funFrames_hide (as:=frs X.stack) hst hin;have hen:(hideAll s.heap (frs X.stack)).get? e=none:=by
  cases q:(hideAll s.heap (frs X.stack)).get? e with
  | none=>rfl
  | some o=>have:=of_hideAll _ q; rw[mk.new]at this; cases this
 have os':s'.os=s.os:=by rw[es]
 have gs':s'.gens=s.gens:=by rw[es]
 unfold noteFrame;simp only[O.fra];refine wpAny_bind (wpAny_field he rfl (x:=Value.none) rfl ?_);rw[if_neg (by decide)];have FH':s.heap.FunFrames (hideAll s.heap (frs X.stack)) (X.env::X.outer):=by
  have z:=O.stk;rw[<- z];exact FH
 rw[O.stk]at hfr;refine wpAny_entryW (base:=hideAll s.heap (frs X.stack)) (a0:=.ref t) hfr (FH'.of_keeps λb o hb _=>⟨o,mk.keeps b o hb,rfl⟩) O.fra he (λb o z=>mk.keeps b o (of_hideAll _ z)) hen rfl (by simp) rfl λh2 hN=>?_;obtain⟨k1,k2,k3,k4⟩:=hN;refine hQ h2 ⟨os',by rw[gs']; exact I.bare,λb o z n=>n,λb xs q=>q,λb o u q=>q,λb ps q=>⟨#[],by rw[q]; simp⟩,λb o z hb=>?_,_,_,⟨k1,hen,(by have z:=O.stk; rw[<- z]at k2; exact k2),k3⟩,HX I.hok hfree,λb o z n hb=>hideAll_get _ z hb,λb o z hb=>⟨o,hideAll_get _ z hb⟩⟩;obtain⟨_,o',ho,hd⟩:=hst.mem hb;rw[z]at ho; cases ho;exact k4 b _ (mk.keeps _ _ z) hd
def AS(O:Own X)(hfr:A.frames=some X.stack)(F:AtX X pins σ H' s' e cls)
  (hQ:∀H s h',Inv X pins σ H s->Fly X.prog X.w X.stack H H' s { s' with heap:=h' } e cls (rawInt X.env.locals)->Q () { s' with heap:=h' }):wpAny M A (noteFrame (.ref e) X.env) Q E s':=by
 rcases F with ⟨s,args,I,mk,es⟩ | ⟨H,s,fl,I,F,rfl | rfl⟩
 ·exact FA O hfr I mk es λh' F=>hQ _ _ h' I F
 ·rw[O.stk]at hfr F;exact Hf hfr O.fra F λh' F'=>hQ H s h' I (by rw[O.stk]; exact F')
 ·refine FU O.fra F ?_;have:=hQ H s s'.heap I F;exact this
def Hy(O:Own X)(hfr:A.frames=some X.stack)(F:AtX X pins σ H' s' e cls)
  (hQ:∀h',Fly X.prog X.w X.outer X.H₀ H' X.s₀ { s' with heap:=h' } e cls .none->Q () { s' with heap:=h' }):wpAny M A (leaving X.env (.ref e)) Q E s':=by
 unfold leaving;refine wpAny_bind (AS O hfr F λH s h' I F'=>?_);refine vC F' λh2 F2=>hQ h2 ?_;rw[O.stk]at F2;have U:=I.base;rw[O.ex]at U;exact F2.drop O.fra I.ok.above I.os U I.ok.frf
end
abbrev XC:=Value->St->Hp->Prop
inductive XP(X:Cx)(R:XC)(e:Value)(s':Shared):Prop
 | mk:∀(pins:Lo)(a:Addr)(cls:Value)(σ : St)(H':Hp),e = .ref a->AtX X pins σ H' s' a cls->R cls σ H'->XP X R e s'
section
variable{X:Cx}{R:XC}
def AtX.frames(F:AtX X pins σ H' s' e cls):X.A.frames=some X.stack:=by
 rcases F with ⟨s,args,I,_⟩ | ⟨H,s,fl,I,_⟩
 ·exact I.ok.frames
 ·exact I.ok.frames
def KE(O:Own X):PassesOwn (model X.prog X.w) X.A X.env (XP X R):=by
 rintro _ s' ⟨pins,a,cls,σ,H',rfl,F,q⟩;refine AS O F.frames F λH s h' I F'=>?_;unfold cameBackBy;refine wpAny_bind (C7 F' λT=>?_);rw[if_neg (show ¬ ((Value.ref T == Value.none)=true) from by simp)];rw[O.fra];exact He F' λh2 F2=>⟨pins,a,cls,σ,H',rfl,.inr ⟨H,s,_,I,F2,.inr rfl⟩,q⟩
end
abbrev Cx.bod(X:Cx)(E:XK):Cx:=X.wish (XP X λc _ H=>E c none H)
section
variable{X:Cx}{E E':XK}
def eJ{P:Program}{w:World}{K:Ln}{mg:Lp}{base:Heap}{N:Lu}{qual:Str}{scope:Scope}{f:Addr}{cd:Value}{A:Around}{outer:List Env}{s:Shared}{H:Hp}{CX:CXT} :
  Own (AK CX P w K mg base N qual scope f cd A outer s H E):=⟨rfl,rfl,rfl⟩
def passB(hE:∀c o H,E' c o H->E c none H):fE (CXE X.prog X.w) (X.bod E) E':=by
 intro pins σ H1 s1 e s' I ⟨a,cls,H',he,F,q⟩;exact⟨pins,a,cls,σ,H',he,.inr ⟨H1,s1,.none,I.unwish,F,.inl rfl⟩,hE _ _ _ q⟩
def bP:fE (CXE X.prog X.w) (X.bod E) (λc _ H=>E c none H):=passB λ_ _ _ q=>q
def aZ:fE (CXE P w) X E0:=λ_ _ _ _ _ _ _ ⟨_,_,_,_,_,q⟩=>False.elim q
def IC(X:Cx)(E:Value->Hp->Prop):Prop:=∀(pins:Lo)(σ : St)(H:Hp)(s:Shared)(h':Heap)(e:Addr)(cls:Value)(args:Lv),Inv X pins σ H s->Heap.MadeExcOf s.heap h' e cls args->E cls H->X.xe (.ref e) { s with heap:=h' }
def eV:IC (X.bod E) (λc H=>E c none H):=λpins σ H s h' e cls args I mk q=>⟨pins,e,cls,σ,H,rfl,.inl ⟨s,args,I.unwish,mk,rfl⟩,q⟩
def lW(O:Own X):PassesOwn (model X.prog X.w) X.A X.env (X.bod E).xe:=KE O
end
section
variable{P:Program}{w:World}{K:Ln}{mg:Lp}{base:Heap}
def PSs.leave{X:Cx}{E:XK}{st:List Stmt}{t:TS}(O:Own X)(hx:X.xe=λe s'=>wpAny (model X.prog X.w) X.A (leaving X.env e) (λ_ s''=>CXE X.prog X.w X.outer X.H₀ X.s₀ E e s'') (λe' s''=>CXE X.prog X.w X.outer X.H₀ X.s₀ E e' s'') s')
  (h:PSs (X.bod E) st t):PSs X st t:=λpins s σ H D I hw=>
 wpAny_mono (h pins s σ H D (I.wish _) hw) (λ_ _ q=>q.unwish) λe s' ⟨pins,a,cls,σ,H',he,F,q⟩=>by
  subst he;rw[hx];exact Hy O F.frames F λh' F'=>⟨a,cls,H',rfl,F',q⟩
def Fun.okX{x qual:Str}{st:Stmt}{f:Addr}{fd:Lx}{N ps:Lu}{k:Nat}{sp:Sp}(F:Fun K x qual st f fd)(S:FnScope N ps (c8 st))(len:∀vs H Q E,sp vs H Q E->vs.length=ps.length)
  (hbody:∀(cdv:Value)(A:Around)(outer:List Env)(s:Shared)(H:Hp)(vs:L6)(Q:VK)(E:XK),Room k (A.deeper (envOfC qual (c8 st) s.heap.objs.size f cdv))->sp vs H Q E->
   ∃t,PSs ((AK (CXE P w) P w K mg base N qual (c8 st) f cdv A outer s H E).bod E) (fI st) t/\t (Ends.fn Q) (oK N vs) H):FnOk P w K mg base (CXE P w) (k+1) f fd ps sp:=by
 obtain⟨oc,od,kV,doc,pm,an,cdv,ct,osl,rfl,lk,hcd⟩:=F.ex;refine fn_of lk hcd S len λA outer s H vs Q E hr hsp=>?_;obtain⟨t,h,q⟩:=hbody cdv A outer s H vs Q E hr hsp;exact⟨t,PSs.leave eJ rfl h,q⟩
end
def JK(K:Ln)(N:Addr):Bool:=match K.lookup N with
 | some ⟨_,_,.dict es _,_⟩=>es.toList.all (λe=>match e.key with | .str _ _=>true | _=>false) && (es.toList.find? (·.key.isStr "__init__")).isNone
 | _=>false
def Dw{K:Ln}{h:Heap}{N:Addr}(X:K.In h)(e:JK K N=true):∃m,h.Ns N m/\m "__init__" = none:=by
 unfold JK at e;split at e
 ·rename_i c d es n sl q;rw[and_eq_true]at e;obtain⟨e1,e2⟩:=e;refine⟨nsFind es,⟨_,es,n,X _ _ q,rfl,λen hen=>?_,λ_=>rfl⟩,?_⟩
  ·have z:=all_eq_true.mp e1 en (by simpa using hen);split at z
   ·rename_i a b hk;exact⟨a,b,hk⟩
   ·cases z
  ·unfold nsFind findBy;rw[<- Array.find?_toList];cases q2:es.toList.find? (·.key.isStr "__init__") with
   | none=>rfl
   | some v=>rw[q2]at e2; cases e2
 ·cases e
abbrev DG:Lv:=[.type "ValueError",.type "Exception",.type "BaseException",.type "object"]
def tF(K:Ln):Lv->Bool
 | []=>false
 | v::tl=>(v::tl == DG) || (match v with
  | .ref a=>(match K.lookup a with | some ⟨_,_,.cls cd,_⟩=>JK K cd.ns | _=>false) && tF K tl
  | _=>false)
def tE{K:Ln}{h:Heap}(X:K.In h):∀{l:Lv},tF K l=true->OwnTail h DG l
 | [],e=>by
  unfold tF at e;cases e
 | v::tl,e=>by
  unfold tF at e;rw[Bool.or_eq_true]at e;rcases e with e | e
  ·rw[beq_iff_eq.mp e];exact .base
  ·split at e
   ·rw[and_eq_true]at e;obtain⟨e1,e2⟩:=e;split at e1
    ·rename_i c d cd sl q;obtain⟨m,hn,hi⟩:=Dw X e1;exact .own (X _ _ q) hn hi (tE X e2)
    ·cases e1
   ·cases e
def dO(K:Ln)(C:Addr):Bool:=match K.lookup C with
 | some ⟨.type "type",_,.cls cd,sl⟩=>(match cd.mro,sl.toList with
  | .ref C'::bm,[_,_,_,_,some (.builtin n),_]=>C' == C && !cd.hasDel && n == "ValueError.__new__" && JK K cd.ns && tF K bm
  | _,_=>false)
 | _=>false
def FX{K:Ln}{h:Heap}{C:Addr}{x:Str}{mg:Lp}(X:K.In h)(hm:mg x=some (.ref C))(q:dO K C=true):OwnCls x C DG "ValueError.__new__" mg h:=by
 unfold dO at q;split at q
 ·rename_i dd cd sl ho;split at q
  ·rename_i C' bm k0 k1 k2 k3 n k5 hmr hs;simp only[and_eq_true,beq_iff_eq,Bool.not_eq_true']at q;obtain⟨⟨⟨⟨rfl,hdel⟩,rfl⟩,hn⟩,ht⟩:=q;obtain⟨m,hns,hni⟩:=Dw X hn;obtain⟨nm,bs,mro,ns,qn,hd,sn,sub,ab,col,del⟩:=cd;dsimp only at hmr hdel hns;subst hmr hdel;have hsl:sl = #[k0,k1,k2,k3,some (.builtin "ValueError.__new__"),k5]:=by
    obtain⟨l⟩:=sl;simp only at hs;rw[hs]
   subst hsl;exact⟨hm,bm,ns,nm,qn,bs,hd,sn,sub,ab,col,dd,k0,k1,k2,k3,k5,m,X _ _ ho,hns,hni,tE X ht⟩
  ·cases q
 ·cases q
abbrev Fw(C:Addr)(E:Value->Hp->Prop):L6->Hp->Prop:=λvs H1=>vs.length<=sizeLine/\E (.ref C) H1
def KO(C:Addr)(E:Value->Hp->Prop)(t:TA):TS:=λx_0 σ H=>t σ H (Fw C E)
def dW{X:Cx}{x:Str}{C:Addr}{np cpos pos:Pos}{e₀ : Expr}{rest:List Expr}{t:TA}{E:Value->Hp->Prop}(hR:IC X E)(hc:X.calm=true)(hC:dO X.K C=true)(hg:Gl X x)(hm:X.mg x=some (.ref C))(ha:PA X (e₀ :: rest) t)
  (he:starEach (e₀ :: rest) X.env=(false,eval e₀ X.env)::starEach rest X.env:=by rfl) (hpl:(backTo cpos (starEach rest X.env)).any (·.1)=false:=by rfl) (hd:(x == ("__debug__" : Str))=false:=by decide) :
  PS X (.Raise (some (.Call (.Name x np) (e₀ :: rest) [] cpos)) none pos) (KO C E t):=by
 intro pins s σ H D I h;have O:OwnCls x C DG "ValueError.__new__" X.mg X.base:=FX I.mod.kin hm hC;obtain⟨tl,N,nm,q,bs,hdct,sn,sub,ab,col,dd,k0,k1,k2,k3,k5,mN,hC',hN,hni,T⟩:=O.obj;refine wpAny_Raise_call_subU (C:=C) (nm:=nm) (q:=q) (N:=N) (bs:=bs) (bm:=tl) (hdct:=hdct) (sn:=sn) (sub:=sub) (ab:=ab) (col:=col) (dd:=dd) (k0:=k0) (k1:=k1) (k2:=k2) (k3:=k3) (k5:=k5)
  PySem.F.excBase_ValueError (by decide) PySem.F.excBase_ValueError (mN:=mN) (T.hasType PySem.F.excBase_ValueError.hasBase) (I.ok.hd hc) (by rw[he]; show (false || (backTo cpos (starEach rest X.env)).any (·.1))=false; rw[hpl]; rfl) hni (iM I hg hm ⟨rfl,?_⟩ hd)
 have ha':=ha cpos pins s σ H _ I h;rw[he]at ha' ⊢;refine Calls.evalArgs_plain (wpAny_mono ha' (λvs s₂ z=>?_) λ_ _ y=>y);obtain⟨ws,H2,I2,r2,z,q2⟩:=z;exact⟨rfl,by rw[<- r2.length]; exact z,I2.bk _ _ hC',hN.keeps I2.bk,T.keeps I2.bk,λh' e mk=>hR pins σ H2 s₂ h' e _ _ I2 mk q2⟩
structure Callee(P:Program)(w:World)(K:Ln)(mg:Lp)(base:Heap)(x:Str)(k:Nat)(ps:Lu)(sp:Sp):Prop where
 ex:∃f fd,FnOk P w K mg base (CXE P w) k f fd ps sp/\mg x=some (.ref f)/\keepIn K (.ref f)=true/\i9 K fd ps []
structure Method(P:Program)(w:World)(K:Ln)(mg:Lp)(base:Heap)(C:Addr)(m:Str)(k:Nat)(ps:Lu)(sp:Sp):Prop where
 ex:∃f fd,FnOk P w K mg base (CXE P w) k f fd ps sp/\Meth K C m f/\i9 K fd ps []
structure Maker(P:Program)(w:World)(K:Ln)(mg:Lp)(base:Heap)(x:Str)(C:Addr)(k:Nat)(ps:Lu)(sp:Sp):Prop where
 ex:∃f fd,FnOk P w K mg base (CXE P w) k f fd ps sp/\Mk K C f/\mg x=some (.ref C)/\i9 K fd ps []
abbrev Jr(sp:Sp)(E:XK)(Q:VK):L6->Hp->Prop:=λvs H1=>sp vs H1 Q E
def tFn(sp:Sp)(E:XK)(t:TA):TE:=λσ H Q=>t σ H (Jr sp E Q)
abbrev Fz(sp:Sp)(E:XK)(Q:VK)(x:V):L6->Hp->Prop:=λvs H2=>sp (x::vs) H2 Q E
inductive KQ(C:Addr)(m:Str)(sp:Sp)(E:XK)(t:TA)(σ : St)(Q:VK)(x:V)(H1:Hp):Prop
 | mk:∀a dx fs,x = .ref a->H1 a=some (.ins C dx fs)->fs.lookup m=none->t σ H1 (Fz sp E Q x)->KQ C m sp E t σ Q x H1
def tMe(C:Addr)(m:Str)(sp:Sp)(E:XK)(ta:TE)(t:TA):TE:=λσ H Q=>ta σ H (KQ C m sp E t σ Q)
abbrev Fy(C:Addr)(sp:Sp)(E:XK)(Q:VK):L6->Hp->Prop:=λvs H1=>∀x dx,H1 x=none->H1 dx=none->dx≠x->
 sp (.ref x::vs) (upd (upd H1 dx (.own x)) x (.ins C dx [])) (λv H2=>v = .non/\Q (.ref x) H2) E
def tMk(C:Addr)(sp:Sp)(E:XK)(t:TA):TE:=λσ H Q=>t σ H (Fy C sp E Q)
section
variable{X:Cx}{k:Nat}{C:Addr}{ps:Lu}{sp:Sp}{E:XK}{x m:Str}{p pos apos:Pos}{e o:Expr}{es:List Expr}{ta:TE}{t:TA}
def wL{st:St}{H:Hp}{Q:VK}(h:tFn sp E t st H Q):DO sp [] E t st H Q:=by
 unfold DO;unfold tFn at h;have e:DN sp [] E Q=Jr sp E Q:=by
  funext vs H1;show sp (vs++[]) H1 Q E=_;rw[append_nil]
 rw[e];exact h
def bC(c:Callee X.prog X.w X.K X.mg X.base x k ps sp)(hr:Room k X.A)(hx:fE (CXE X.prog X.w) X E)(ha:PA X (e::es) t)(hg:Gl X x:=by rfl)(hdb:(x == ("__debug__" : Str))=false:=by decide)
  (he:starEach (e::es) X.env=(false,eval e X.env)::starEach es X.env:=by rfl) (hpl:(backTo pos (starEach es X.env)).any (·.1)=false:=by rfl):PE X (.Call (.Name x p) (e::es) [] pos) (tFn sp E t):=by
 obtain⟨f,fd,F,hm,hk,hb⟩:=c.ex;intro pins s σ H Q I h;exact Iu F hr hg hm hk hb .nil hx ha hdb he hpl pins s σ H Q I (wL h)
def K3(c:Callee X.prog X.w X.K X.mg X.base x k ps sp)(hr:Room k X.A)(hx:fE (CXE X.prog X.w) X E)(hg:Gl X x:=by rfl)(hdb:(x == ("__debug__" : Str))=false:=by decide):PE X (.Call (.Name x p) [] [] pos) (tFn sp E lV):=by
 obtain⟨f,fd,F,hm,hk,hb⟩:=c.ex;intro pins s σ H Q I h;exact Go F hr hg hm hk hb .nil hx hdb pins s σ H Q I (wL h)
def wI{st:St}{H:Hp}{Q:VK}(h:tMe C m sp E ta t st H Q):DJ C m sp [] E ta t st H Q:=by
 unfold DJ;unfold tMe at h;have e:CL C m sp [] E t st Q=KQ C m sp E t st Q:=by
  funext x H1;refine propext ⟨λ⟨a,dx,fs,h1,h2,h3,h4⟩=>⟨a,dx,fs,h1,h2,h3,?_⟩,λ⟨a,dx,fs,h1,h2,h3,h4⟩=>⟨a,dx,fs,h1,h2,h3,?_⟩⟩
  ·rw[show Fz sp E Q x=yZ sp [] E Q x by funext vs H2; show _=sp (x::(vs++[])) H2 Q E; rw[append_nil]];exact h4
  ·rw[show yZ sp [] E Q x=Fz sp E Q x by funext vs H2; show sp (x::(vs++[])) H2 Q E=_; rw[append_nil]];exact h4
 rw[e];exact h
def cO(c:Method X.prog X.w X.K X.mg X.base C m k ps sp)(cl:Cls X.K C)(hr:Room k X.A)(hx:fE (CXE X.prog X.w) X E)(ho:PE X o ta)(ha:PA X (e::es) t)
  (hst:starEach (e::es) X.env=(false,eval e X.env)::starEach es X.env:=by rfl) (hpl:(backTo pos (starEach es X.env)).any (·.1)=false:=by rfl)
  (ht:eval (.Call (.Attribute o m apos) (e::es) [] pos) X.env=(do
   let ov <- eval o X.env
   standAt apos.atName
   let (f,first) <- holding [ov] (getMethod ov m pl)
   callWith pos f first (backTo pos (starEach (e::es) X.env)) (backToKw pos (keywordEach [] X.env))):=by rfl) :
  PE X (.Call (.Attribute o m apos) (e::es) [] pos) (tMe C m sp E ta t):=by
 obtain⟨f,fd,F,hm,hb⟩:=c.ex;intro pins s σ H Q I h;exact Ip ho cl hm F hr hb .nil hx ha hst hpl ht pins s σ H Q I (wI h)
def dI(c:Method X.prog X.w X.K X.mg X.base C m k ps sp)(cl:Cls X.K C)(hr:Room k X.A)(hx:fE (CXE X.prog X.w) X E)(ho:PE X o ta)
  (ht:eval (.Call (.Attribute o m apos) [] [] pos) X.env=(do
   let ov <- eval o X.env
   standAt apos.atName
   let (f,first) <- holding [ov] (getMethod ov m pl)
   callWith pos f first (backTo pos (starEach [] X.env)) (backToKw pos (keywordEach [] X.env))):=by rfl) :
  PE X (.Call (.Attribute o m apos) [] [] pos) (tMe C m sp E ta lV):=by
 obtain⟨f,fd,F,hm,hb⟩:=c.ex;intro pins s σ H Q I h;exact Gm ho cl hm F hr hb .nil hx ht pins s σ H Q I (wI h)
def wJ{st:St}{H:Hp}{Q:VK}(h:tMk C sp E t st H Q):DK C sp [] E t st H Q:=by
 unfold DK;unfold tMk at h;rw[show y4 C sp [] E Q=Fy C sp E Q by unfold y4 Fy; simp only[append_nil]];exact h
def Gk(c:Maker X.prog X.w X.K X.mg X.base x C k ps sp)(hr:Room (k+1) X.A)(hx:fE (CXE X.prog X.w) X E)(ha:PA X (e::es) t)(hg:Gl X x:=by rfl)(hdb:(x == ("__debug__" : Str))=false:=by decide)
  (he:starEach (e::es) X.env=(false,eval e X.env)::starEach es X.env:=by rfl) (hpl:(backTo pos (starEach es X.env)).any (·.1)=false:=by rfl):PE X (.Call (.Name x p) (e::es) [] pos) (tMk C sp E t):=by
 obtain⟨f,fd,F,M,hm,hb⟩:=c.ex;intro pins s σ H Q I h;exact Iq M F hr hg hm hb .nil hx ha hdb he hpl pins s σ H Q I (wJ h)
end
inductive XPp(X:Cx)(pins:Lo)(R:XC)(e:Value)(s':Shared):Prop
 | mk:∀(a:Addr)(cls:Value)(σ : St)(H':Hp),e = .ref a->AtX X pins σ H' s' a cls->R cls σ H'->XPp X pins R e s'
abbrev TX:=Ends->XC->St->Hp->Prop
abbrev TEX:=St->Hp->VK->(Value->Hp->Prop)->Prop
def PEx(X:Cx)(e:Expr)(t:TEX):Prop:=
 ∀pins s σ H(Q:VK)(R:Value->Hp->Prop),Inv X pins σ H s->t σ H Q R->wpAny (model X.prog X.w) X.A (eval e X.env) (EP X pins σ Q) (XPp X pins λc σ' H'=>σ' = σ/\R c H') s
def PSx(X:Cx)(st:Stmt)(t:TX):Prop:=
 ∀pins s σ H(D:Ends)(R:XC),Inv X pins σ H s->t D R σ H->wpAny (model X.prog X.w) X.A (exec st X.env) (SP X pins D) (XPp X pins R) s
def ID(X:Cx)(st:List Stmt)(t:TX):Prop:=
 ∀pins s σ H(D:Ends)(R:XC),Inv X pins σ H s->t D R σ H->wpAny (model X.prog X.w) X.A (execs st X.env) (SP X pins D) (XPp X pins R) s
section
variable{X:Cx}{k:Nat}{C:Addr}{ps:Lu}{sp:Sp}{x m:Str}{p pos apos:Pos}{e o:Expr}{es:List Expr}{ta:TE}{t:TA}
def Id{pins:Lo}{σ : St}{H:Hp}{s:Shared}{Q:VK}{us:Lv}{vs:L6}{f:Addr}{fd:Lx}{R:Value->Hp->Prop}(F:FnOk X.prog X.w X.K X.mg X.base (CXE X.prog X.w) k f fd ps sp)(hr:Room k X.A)(hb:i9 X.K fd ps [])
  (I:Inv X pins σ H s) (r:bZ vs us) (h:sp vs H Q λc _ H'=>R c H'):wpAny (model X.prog X.w) X.A (call (.ref f) us) (EP X pins σ Q) (XPp X pins λc σ' H'=>σ' = σ/\R c H') s:=by
 have hl:(us++[]).length=ps.length:=by rw[append_nil,<- r.length]; exact F.len _ _ _ _ h
 have hb':=hb s us I.kIn hl;rw[append_nil]at hb';refine wpAny_call (codeAny_mono (F.run X.A X.stack s H ⟨us,[]⟩ us vs Q _ hr I.env0 hb' r h) λr s' hq=>?_);cases r with
 | error e=>
  obtain⟨a,cls,H',he,Fl,q⟩:=hq;exact⟨a,cls,σ,H',he,.inr ⟨H,s,.none,I,Fl,.inl rfl⟩,rfl,q⟩
 | ok fl=>
  cases fl with
  | ret u=>exact I.after hq
  | next=>exact False.elim hq
  | brk=>exact False.elim hq
  | cont=>exact False.elim hq
def K5(ha:PA X.nox es t)(I:Inv X pins σ H s)(h:t σ H Q):wpAny (model X.prog X.w) X.A (spliced (backTo pos (starEach es X.env))) (AP X pins σ Q) E s:=
 wpAny_mono (ha pos pins s σ H Q (I.wish _) h) (λ_ _ ⟨vs,H',I',r,q⟩=>⟨vs,H',I'.unwish,r,q⟩) λ_ _ z=>False.elim z
abbrev xFn_1(sp:Sp)(Q:VK)(R:(Value->Hp->Prop)):L6->Hp->Prop:=λvs H1=>sp vs H1 Q λc _ H'=>R c H'
def xFn(sp:Sp)(t:TA):TEX:=λσ H Q R=>t σ H (xFn_1 sp Q R)
def px_fn(c:Callee X.prog X.w X.K X.mg X.base x k ps sp)(hr:Room k X.A)(ha:PA X.nox (e::es) t)(hg:Gl X x:=by rfl)(hdb:(x == ("__debug__" : Str))=false:=by decide)
  (he:starEach (e::es) X.env=(false,eval e X.env)::starEach es X.env:=by rfl) (hpl:(backTo pos (starEach es X.env)).any (·.1)=false:=by rfl):PEx X (.Call (.Name x p) (e::es) [] pos) (xFn sp t):=by
 obtain⟨f,fd,F,hm,hk,hb⟩:=c.ex;intro pins s σ H Q R I h;refine wpAny_Call_Name_kw (iM I hg hm ?_ hdb);refine callWith_K (h₀:=X.base) I.ok.mod.kin hk (thn (K5 (pos:=pos) ha I h) λus s1 ⟨vs,H1,I1,r,q⟩=>⟨I1.kIn,?_⟩) he hpl;exact Id F hr hb I1 r q
variable{st:Stmt}{sts rest:List Stmt}{tS:TS}{tx ux:TX}{te:TEX}
def Ii(h:PEx X e te):PSx X (.Return (some e) pos) (λD R σ H=>te σ H D.rt (λc H'=>R c σ H')):=by
 intro pins s σ H D R I hw;exact wpAny_Return_some (wpAny_mono (h pins s σ H _ _ I hw) (λv s1 ⟨x,H1,I1,r1,q1⟩=>⟨x,σ,H1,I1,r1,q1⟩) λev s' ⟨a,cls,σ',H',he,F,hσ,q⟩=>⟨a,cls,σ',H',he,F,by rw[hσ]; exact q⟩)
def Gf:ID X [] (λD _ σ H=>D.nx σ H):=λ_ _ σ H _ _ I h=>wpAny_execs_nil ⟨σ,H,I,h⟩
def Eg(h1:PSx X st tx)(h2:ID X rest ux):ID X (st::rest) (λD R σ H=>tx (D.next (ux D R)) R σ H):=by
 intro pins s σ H D R I hw;refine wpAny_execs_cons (thn (h1 pins s σ H _ R I hw) λf s1 q1=>?_);cases f with
 | next=>obtain⟨σ1,H1,I1,q⟩:=q1; exact h2 pins s1 σ1 H1 D R I1 q
 | brk=>exact q1
 | cont=>exact q1
 | ret v=>exact q1
def Ge(h1:PSx X st tx):ID X [st] tx:=λpins s σ H D R I hw=>Eg h1 Gf pins s σ H D R I (by
 cases D;exact hw)
end
def Cx.hand(X:Cx)(e:Addr):Cx:={ X with A:=X.A.mark (some (.ref e)),calm:=false,xe:=λ_ _=>False }
section
variable{X:Cx}{pins:Lo}{σ : St}{H:Hp}{s:Shared}{e:Addr}
def Cx.Ok.hand(ok:X.Ok)(e:Addr):(X.hand e).Ok:=
 ⟨ok.mod,ok.kind,ok.glob,ok.blt,ok.above,ok.inj,ok.has,ok.cab,(λz=>Bool.noConfusion z),ok.frames,ok.stk,ok.exf,ok.bs,ok.bsz,ok.noex,ok.exfs,ok.funs,ok.frf⟩
def Inv.hand(I:Inv X pins σ H s)(e:Addr):Inv (X.hand e) pins σ H s:=⟨I.ok.hand e,I.os,I.bare,I.base,I.loc,I.cell,I.free,I.freeC,I.pin,I.hok,I.len⟩
def Inv.unhand(ok:X.Ok)(I:Inv (X.hand e) pins σ H s):Inv X pins σ H s:=⟨ok,I.os,I.bare,I.base,I.loc,I.cell,I.free,I.freeC,I.pin,I.hok,I.len⟩
def SP.unhand(ok:X.Ok)(h:SP (X.hand e) pins D f s'):SP X pins D f s':=by
 cases f with
 | next=>obtain⟨σ',H',I,q⟩:=h; exact⟨σ',H',I.unhand ok,q⟩
 | brk=>obtain⟨σ',H',I,q⟩:=h; exact⟨σ',H',I.unhand ok,q⟩
 | cont=>obtain⟨σ',H',I,q⟩:=h; exact⟨σ',H',I.unhand ok,q⟩
 | ret u=>obtain⟨v,σ',H',I,r,q⟩:=h; exact⟨v,σ',H',I.unhand ok,r,q⟩
inductive PH(X:Cx):List ExceptHandler->(Value->TS)->Prop where
 | nil:PH X [] (λ_ _ _ _=>False)
 | cons {x:Str} {c:Value} {np pos:Pos} {b₀ : Stmt} {suite:List Stmt} {rest:List ExceptHandler} {t:TS} {u:Value->TS} (hg:Gl X x) (hm:X.mg x=some c) (hd:(x == ("__debug__" : Str))=false) (hs:∀e,PSs (X.hand e) (b₀ :: suite) t) (hr:PH X rest u) :
   PH X (.ExceptHandler (some (.Name x np)) none (b₀ :: suite) pos::rest) (λcls D σ H=>(PySem.W.exmOne X.K cls c=some true/\t D σ H)\/(PySem.W.exmOne X.K cls c=some false/\u cls D σ H))
def Fly.inv(I:Inv X pins σ H s)(F:Fly X.prog X.w X.stack H H' s s' e cls fl):Inv X pins σ H' s':=
 I.call' F.os F.un F.hok F.bare λb z=>absurd z (by simp)
def Fly.ty(F:Fly P w l H H' s s' e cls fl):PySem.W.Looks M s'.heap (typeOf (.ref e)) cls:=by
 obtain⟨B,a0,⟨_,_,_,oe,vs,T,oT,ts,he,hc,_⟩,_⟩:=F.go;obtain⟨hc,_⟩:=hc;subst hc;exact(PySem.W.Looks.ld he).andThen .now
def LS(hh:PH X hs u):∀{H':Hp}{s':Shared}{cls:Value}{D:Ends},Inv X pins σ H s->Fly X.prog X.w X.stack H H' s s' e cls .none->u cls D σ H'->
  wpAny (model X.prog X.w) X.A (handleBy (.ref e) X.env hs) (SP X pins D) X.xe s':=by
 induction hh with
 | nil=>intro H' s' cls D I F h; exact False.elim h
 | @cons x c np pos b₀ suite rest t u hg hm hd hsu hr ih=>
  intro H' s' cls D I F h;have I':=F.inv I;have tst:∀(b:Bool){R:Bool->Shared->Prop}{E:Ly},PySem.W.exmOne X.K cls c=some b->R b s'->wpAny (model X.prog X.w) (X.A.mark (some (.ref e))) (excMatches (.ref e) c) R E s':=λb R E z q=>
   (PySem.W.exm_one I'.kIn F.ty z).here q
  rcases h with ⟨z,h⟩ | ⟨z,h⟩
  ·refine wpAny_handleBy_cons (codeAny_handlers_test (iM (X:=X.hand e) (I'.hand e) hg hm (tst true z ?_) hd)) (by intro q; cases q);refine codeAny_handlers_suite (vC F λh2 F2=>?_);refine wpAny_mono (hsu e pins _ σ H' D ((F2.inv I).hand e) h) (λf s2 q=>?_) λ_ _ z=>False.elim z;exact SP.unhand I.ok q
  ·refine wpAny_handleBy_cons (codeAny_handlers_test (iM (X:=X.hand e) (I'.hand e) hg hm (tst false z ?_) hd)) (by intro q; cases q);exact ih I F h
def Kw(O:Own X)(hb:ID X body tx)(hh:PH X (h₀ :: hs) u):PS X (.Try body (h₀ :: hs) [] [] pos) (λD σ H=>tx D (λc σ' H'=>u c D σ' H') σ H):=by
 intro pins s σ H D I h;refine wpAny_Try_except (wpAny_mono (hb pins s σ H D _ I h) (λf s1 q=>?_) λev s1 ⟨a,cls,σ',H',he,F,q⟩=>?_)
 ·cases f with
  | next=>exact wpAny_execs_nil q
  | brk=>exact q
  | cont=>exact q
  | ret v=>exact q
 ·subst he;refine AS O F.frames F λH s h' I' F'=>?_;refine vC F' λh2 F2=>?_;exact LS hh I' F2 q
end
section
variable{prog:Program}{w:World}{A:Around}{R:Result->Shared->Prop}{s:Shared}
def Bu(I:Nat->Shared->Prop)
  (turn:∀n s,I n s->wpAny (model prog w) A (pyNext it) (λr s₁=>match r with
   | none=>R (.ok .next) s₁
   | some v=>wpAny (model prog w) A (letOwnedTupleGo target it v) (λ_ s₁'=>wpAny (model prog w) A (assign target env v) (λ_ s₂=>
     wpAny (model prog w) A (forIn ifs true λc r=>if r=true then do let ok <- isTrue c env (eval c env); pure (ForInStep.yield ok) else pure (ForInStep.yield r)) (λok s₃=>
      if ok=true then wpAny (model prog w) A (eval elt env) (λx s₄=>
       wpAny (model prog w) A (call (.builtin "list.append") [acc,x]) (λ_ s₅=>∃m,m<n/\I m s₅) (λ_ _=>False) s₄) (λ_ _=>False) s₃
      else ∃m,m<n/\I m s₃) (λ_ _=>False) s₂) (λ_ _=>False) s₁') (λ_ _=>False) s₁) (λ_ _=>False) s)
  (n:Nat) (h:I n s) :
  codeAny (model prog w) A (.compLoop (.ListComp elt [⟨target,iter,ifs,0⟩] scope pos) 0 it acc env) R s:=by
 refine codeAny_loop rfl I (λn s hI=>?_) n h;show wpAny _ A ((compTurn (.ListComp elt [⟨target,iter,ifs,0⟩] scope pos) 0 it acc env).onRaise (λx=>do noteFrame x env; theTreesLotGoes x)) _ _ s;refine wpAny_noted ?_;rw[compTurn_list];refine wpAny_noRaise ?_;refine wpAny_bind (wpAny_standAt (wpAny_bind (wpAny_mono (turn n s hI) (λr s₁ h₁=>?_) λ_ _ h'=>h')));cases r with
 | none=>exact wpAny_pure h₁
 | some v=>
  refine wpAny_bind (wpAny_mono h₁ (λ_ s₁' h₁'=>?_) λ_ _ h'=>h');refine wpAny_bind (wpAny_mono h₁' (λ_ s₂ h₂=>wpAny_bind (wpAny_mono h₂ (λok s₃ h₃=>?_) λ_ _ h'=>h')) λ_ _ h'=>h');cases ok with
  | false=>exact wpAny_pure ⟨rfl,h₃⟩
  | true=>
   exact wpAny_bind (wpAny_bind (wpAny_mono h₃ (λx s₄ h₄=>wpAny_bind (wpAny_mono h₄ (λ_ s₅ h₅=>wpAny_pure (wpAny_pure ⟨rfl,h₅⟩)) λ_ _ h'=>h')) λ_ _ h'=>h'))
end
def vI(scope:Scope)(env:Env):List (Str × Addr):=(scope.names.filterMap λy=>if y.2 == .free then (env.cells.lookup y.1).map (λc=>(y.1,c)) else none).reverse
def uU{α β : Type} [BEq α] [LawfulBEq α]{l:List (α × β)}{x:α}{c:β}(h:l.lookup x=some c):(x,c)∈l:=by
 induction l with
 | nil=>cases h
 | cons p r ih=>
  obtain⟨a,b⟩:=p;rw[List.lookup_cons]at h;split at h
  ·rename_i e;cases h;rw[beq_iff_eq.mp e];exact mem_cons_self
  ·exact mem_cons_of_mem _ (ih h)
def Jg(h:(vI scope env).lookup x=some c):env.cells.lookup x=some c:=by
 have m:=uU h;unfold vI at m;rw[List.mem_reverse]at m;obtain⟨y,_,e⟩:=List.mem_filterMap.mp m;split at e
 ·cases q:env.cells.lookup y.1 with
  | none=>rw[q]at e; cases e
  | some d=>
   rw[q]at e;cases e;exact q
 ·cases e
def eE(X:Cx)(scope:Scope)(Nc:Lu)(C:Addr)(s₂ : Shared)(H₂ : Hp)(ex:List Addr):Cx where
 prog:=X.prog
 w:=X.w
 K:=X.K
 mg:=X.mg
 base:=X.base
 A:=X.A
 N:=Nc
 s₀:=s₂
 H₀:=H₂
 env:=compEnvC scope (vI scope X.env) C X.env
 outer:=X.stack
 stack:=X.stack
 ex:=ex
 fn:=λ_=>false
 calm:=X.calm
 pn:=[]
 xe:=λ_ _=>False
def mP(X:Cx)(scope:Scope)(F:List (Str × Nat)):Bool:=
 scope.names.all (λy=>y.2 != .cell) && scope.names.all (λy=>y.2 != .local || scope.names.lookup y.1 == some .local) &&
 (relabel scope X.env).names.all (λy=>(y.2 != .cell && y.2 != .free) || ((vI scope X.env).lookup y.1).isSome) &&
 F.all (λp=>X.N[p.2]? == some p.1 && (X.env.kindOf p.1 == some .cell || X.env.kindOf p.1 == some .free) && ((relabel scope X.env).names.lookup p.1 == some .cell || (relabel scope X.env).names.lookup p.1 == some .free))
def lM(T:Lu)(F:List (Str × Nat))(σ : St):St:=T.map (λ_=>none)++F.map (λp=>(σ[p.2]?).join)
def fD(T:Lu)(F:List (Str × Nat)):Lu:=T++F.map (·.1)
section
variable{X:Cx}{pins:Lo}{σ : St}{H:Hp}{s:Shared}{scope:Scope}{T:Lu}{F:List (Str × Nat)}{fp:List Addr}
def DA(I:Inv X pins σ H s)(hk:scope.kind = .function)(ok:mP X scope F=true)(hf:∀b∈fp,rB X pins H b)(ho:∀b∈fp,∃o,s.heap.get? b=some o) 
  (hn:h₁.Ns (s.heap.objs.size+1) (λ_=>none)) (hs:Heap.SameBut (s.heap.objs.size+1) ((s.heap.push { cls:=.type "list",data:=.seq #[] }).push { cls:=.type "dict",data:=.dict #[] }) h₁) :
  Inv (eE X scope (fD T F) (s.heap.objs.size+1) s H fp) [] (lM T F σ) (upd H s.heap.objs.size (.lst [])) { s with heap:=h₁,toks:=t }:=by
 unfold mP at ok;simp only[and_eq_true]at ok;obtain⟨⟨⟨ok1,ok2⟩,ok3⟩,ok4⟩:=ok;have nH:H s.heap.objs.size=none:=I.hok.fresh (le_refl _);have kp:∀b o,s.heap.get? b=some o->h₁.get? b=some o:=λb o e=>by
  have l:=lt_size e;rw[hs.2 b (ne_of_lt (lt_succ_of_lt l))];exact get?_push_of_some _ (get?_push_of_some _ e)
 have hD:h₁.get? s.heap.objs.size=some { cls:=.type "list",data:=.seq #[] }:=by
  rw[hs.2 _ (ne_of_lt (lt_succ_self _))];exact get?_push_of_some _ (get?_push_size _ rfl)
 have clx:∀x c,(vI scope X.env).lookup x=some c->X.env.cells.lookup x=some c:=λx c e=>Jg e;have celt:∀x c,X.env.cells.lookup x=some c->c<s.heap.objs.size:=λx c e=>by
  obtain⟨v,o,ho,_⟩:=I.cell x c e;exact lt_size ho
 have OK:(eE X scope (fD T F) (s.heap.objs.size+1) s H fp).Ok:=by
  refine⟨I.ok.mod,hk,I.ok.glob,I.ok.blt,le_succ _,λx y c e1 e2=>I.ok.inj x y c (clx _ _ e1) (clx _ _ e2),λx hx=>?_,(λx c z=>Bool.noConfusion z),I.ok.hd,I.ok.frames,.inl rfl,λb hb=>⟨?_,λx c e=>?_⟩,I.bs,?_,λb o e hb=>?_,λb hb hb2=>?_,I.stack,I.stkFree⟩
  ·have hx:(relabel scope X.env).names.lookup x=some .cell\/(relabel scope X.env).names.lookup x=some .free:=hx;have q:∀k,(relabel scope X.env).names.lookup x=some k->(k = .cell\/k = .free)->((vI scope X.env).lookup x).isSome=true:=λk e hk=>by
    have z:=all_eq_true.mp ok3 (x,k) (uU e);rcases hk with rfl | rfl
    ·simpa using z
    ·simpa using z
   rcases hx with hx | hx
   ·exact Option.isSome_iff_exists.mp (q _ hx (.inl rfl))
   ·exact Option.isSome_iff_exists.mp (q _ hx (.inr rfl))
  ·obtain⟨o,e⟩:=ho b hb;exact ne_of_lt (lt_succ_of_lt (lt_size e))
  ·exact(hf b hb).2.2.2.2.1 x c (clx x c e)
  ·exact le_trans I.ok.bsz I.sz
  ·obtain⟨_,_,_,h4,_⟩:=hf b hb;rcases h4 with h4 | h4
   ·exact I.ok.noex b o e h4
   ·exact absurd (lt_of_lt_of_le (lt_size e) (le_trans I.ok.bsz h4)) (lt_irrefl _)
  ·rcases mem_cons.mp (I.stkSub b hb2) with z | z
   ·exact(hf b hb).2.1 z
   ·exact(hf b hb).2.2.1 z
 refine⟨OK,rfl,I.bare,Un.laid kp (le_refl _) nH,⟨_,hn,λi x v e1 e2 hv=>?_⟩,λx c e=>?_,?_,λx c e=>?_,λp hp=>absurd (show p∈([]:Lo) from hp) (by simp),?_,?_⟩
 ·have e1:(fD T F)[i]? = some x:=e1;unfold fD at e1;unfold lM at e2;by_cases hi:i<T.length
  ·rw[getElem?_append_left (by simpa using hi),getElem?_map]at e2;cases q:T[i]? with
   | none=>rw[q]at e2; cases e2
   | some z=>rw[q]at e2; cases e2
  ·rw[getElem?_append_right (by simpa using hi),getElem?_map]at e2;rw[getElem?_append_right (by simpa using hi),getElem?_map]at e1;rw[length_map]at e2;cases q:F[i - T.length]? with
   | none=>rw[q]at e2; cases e2
   | some p=>
    rw[q]at e1 e2;have e1:p.1=x:=Option.some.inj e1;have e2:(σ[p.2]?).join=some v:=Option.some.inj e2;subst e1;have z:=all_eq_true.mp ok4 p (mem_of_getElem? q);simp only[and_eq_true,Bool.or_eq_true,beq_iff_eq]at z;obtain⟨⟨z1,z2⟩,z3⟩:=z;have e3:σ[p.2]? = some (some v):=by
     cases q2:σ[p.2]? with
     | none=>rw[q2]at e2; cases e2
     | some y=>rw[q2]at e2; exact congrArg some e2
    obtain⟨m,hm,hl⟩:=I.loc;obtain⟨u,ru,lk⟩:=hl p.2 p.1 v z1 e3 (by rcases z2 with z2 | z2; exact .inr (.inl z2); exact .inr (.inr z2));refine⟨u,ru,.inr ⟨z3,?_⟩⟩;have hc:∃c,(vI scope X.env).lookup p.1=some c:=OK.has p.1 z3;obtain⟨c,hc⟩:=hc;refine⟨c,hc,?_⟩;rcases lk with ⟨lk,_⟩ | ⟨_,c',hc',hcell⟩
    ·rcases z2 with z2 | z2
     ·rw[z2]at lk; cases lk
     ·rw[z2]at lk; cases lk
    ·rw[clx _ _ hc]at hc';cases hc';exact hcell.keeps kp
 ·obtain⟨v,q⟩:=I.cell x c (clx x c e);exact⟨v,q.keeps kp⟩
 ·show upd H s.heap.objs.size (.lst []) (s.heap.objs.size+1)=none;rw[aF (ne_of_gt (lt_succ_self _))];exact I.hok.fresh (le_succ _)
 ·have l:=celt x c (clx x c e);show upd H s.heap.objs.size (.lst []) c=none;rw[aF (ne_of_lt l)];exact I.freeC x c (clx x c e)
 ·exact I.hok.laid kp (le_refl _) ⟨zero_le _,[],0,.nil,hD⟩
 ·show (lM T F σ).length=(fD T F).length;unfold lM fD;simp
def vH(T:Lu)(F:List (Str × Nat))(g:TG)(tc:TT)(te:TE)(σ : St)(Q:VK)(J:It)(H1:Hp):Prop:=∀D,H1 D=none->∃W:Nat->Nat->L6->St->Hp->Prop,(∃m,W 0 m [] (lM T F σ) (upd H1 D (.lst [])))/\
 ∀i m ys σc H2,W i m ys σc H2->H2 D=some (.lst ys)/\((J.stop i H2/\Q (.ref D) H2)\/(J.go i H2/\ys.length<sizeLine/\∀x H3,J.yld i H2 x H3->g x σc H3 λσ4 H4=>tc σ4 H4 λb H5=>
  if b=true then te σ4 H5 λy H6=>H6 D=some (.lst ys)/\∃m',m'<m/\W (i+1) m' (ys++[y]) σ4 (upd H6 D (.lst (ys++[y]))) else ∃m',m'<m/\W (i+1) m' ys σ4 H5))
def Ju(T:Lu)(F:List (Str × Nat))(wi:TI)(g:TG)(tc:TT)(te:TE):TE:=λσ H Q=>wi σ H (vH T F g tc te σ Q)
def PIf(X:Cx)(ifs:List Expr)(t:TT):Prop:=
 ∀pins s σ H(Q:Bool->Hp->Prop),Inv X pins σ H s->t σ H Q->wpAny (model X.prog X.w) X.A (forIn ifs true λc r=>if r=true then do let ok <- isTrue c X.env (eval c X.env); pure (ForInStep.yield ok) else pure (ForInStep.yield r)) (TP X pins σ Q) X.xe s
def Ft:TT:=λ_ H Q=>Q true H
def Do{X:Cx}:PIf X [] Ft:=λpins s σ H Q I h=>wpAny_tests_nil ⟨H,I,h⟩
def gY{X:Cx}{c:Expr}{t:TT}(h:PT X c t):PIf X [c] t:=λpins s σ H Q I q=>wpAny_tests_one (h pins s σ H Q I q)
def Bs(I:Inv X pins σ H2 s2)(hf:∀b∈fp,rB X pins H2 b)(I':Inv (eE X scope Nc (s2.heap.objs.size+1) s2 H2 fp) [] σc H' s')(hs:Heap.SameBut (s2.heap.objs.size+1) s'.heap h'):Inv X pins σ H' { s' with heap:=h' }:=by
 have U:Un (frs X.stack) fp H2 H' s2.heap s'.heap:=I'.base;have ne:∀b o,s2.heap.get? b=some o->b≠s2.heap.objs.size+1:=λb o e=>ne_of_lt (lt_succ_of_lt (lt_size e));have free:H' (s2.heap.objs.size+1)=none:=I'.free;refine I.call' (s':={ s' with heap:=h' }) (ch:=fp) I'.os ⟨λb o q n hb hc=>(hs.2 b (ne b o q)).trans (U.keep b o q n hb hc),λb o q n hb hc=>?_,U.free,λb o q hc=>?_,U.tups,U.frzs,U.tbls⟩ ?_ I'.bare λb hb=>?_
 ·obtain⟨sl,z⟩:=U.slot b o q n hb hc;exact⟨sl,(hs.2 b (ne b o q)).trans z⟩
 ·obtain⟨o',z⟩:=U.there b o q hc;exact⟨o',(hs.2 b (ne b o q)).trans z⟩
 ·intro a o e;refine(I'.hok a o e).stay (λb u hb q=>(hs.2 b ?_).trans q) (λ_ q=>q) λ_ _ q=>q;rintro rfl;rcases hb with hb | hb
  ·rw[<- hb,free]at e; cases e
  ·rw[free]at hb; cases hb
 ·obtain⟨f0,f1,f2,f3,f4,f5⟩:=hf b hb;exact⟨f3,f1,f4,f5⟩
def yK{elt tg iter:Expr}{ifs:List Expr}{pos:Pos}{g:TG}{tc:TT}{te:TE}{J:It}{it:Addr}{tn:Nat->Heap->Prop}{s2:Shared}{H2:Hp}{RR:Value->Addr->Result->Shared->Prop}{E:Ly}{Q:Addr->Hp->Prop}
  (hc:X.calm=true) (hk:scope.kind = .function) (ok:mP X scope F=true)
  (hg:∀C s₂ H₂ ex,PG (eE X scope (fD T F) C s₂ H₂ ex) tg g) (hif:∀C s₂ H₂ ex,PIf (eE X scope (fD T F) C s₂ H₂ ex) ifs tc) (he:∀C s₂ H₂ ex,PE (eE X scope (fD T F) C s₂ H₂ ex) elt te)
  (I2:Inv X pins σ H2 s2) (Tn:Turn X.prog X.w X.K tg J fp it tn) (st2:tn 0 s2.heap) (f2:∀b∈fp,rB X pins H2 b)
  (h3:∀D,H2 D=none->∃W:Nat->Nat->L6->St->Hp->Prop,(∃m,W 0 m [] (lM T F σ) (upd H2 D (.lst [])))/\
   ∀i m ys σc H2,W i m ys σc H2->H2 D=some (.lst ys)/\((J.stop i H2/\Q D H2)\/(J.go i H2/\ys.length<sizeLine/\∀x H3,J.yld i H2 x H3->g x σc H3 λσ4 H4=>tc σ4 H4 λb H5=>
    if b=true then te σ4 H5 λy H6=>H6 D=some (.lst ys)/\∃m',m'<m/\W (i+1) m' (ys++[y]) σ4 (upd H6 D (.lst (ys++[y]))) else ∃m',m'<m/\W (i+1) m' ys σ4 H5)))
  (hRR:∀D s' σc H',Inv (eE X scope (fD T F) (s2.heap.objs.size+1) s2 H2 fp) [] σc H' s'->Q D H'->RR (.ref D) (s2.heap.objs.size+1) (.ok .next) s') :
  wpAny (model X.prog X.w) X.A (newList []) (λacc s₃=>wpAny (model X.prog X.w) X.A (newFunctionEnv scope X.env.globals (vI scope X.env) [] X.env.qual none .none (some X.env)) (λcenv s₄=>
   codeAny (model X.prog X.w) X.A (.compStart (.ListComp elt [⟨tg,iter,ifs,0⟩] scope pos) 0 (.ref it) acc { cenv with scope:=relabel scope X.env }) (RR acc cenv.locals) s₄) E s₃) E s2:=by
 have ok':=ok;unfold mP at ok';simp only[and_eq_true]at ok';obtain⟨⟨⟨ok1,ok2⟩,ok3⟩,ok4⟩:=ok';have hcell:∀y∈scope.names,y.2 ≠ .cell:=λy hy z=>by
  have:=all_eq_true.mp ok1 y hy;rw[z]at this;cases this
 refine wpAny_newObj_type (wpAny_newFunctionEnv hcell (by intro y hy; simp at hy) (λh₁ hns₁ hsb₁=>?_) hk);dsimp only at hns₁ hsb₁ ⊢;have hsz:(s2.heap.push { cls:=.type "list",dict:=none,data:=.seq ([]:Lv).toArray }).objs.size=s2.heap.objs.size+1:=size_push _ _;rw[hsz]at hns₁ hsb₁ ⊢;have I3:Inv (eE X scope (fD T F) (s2.heap.objs.size+1) s2 H2 fp) [] (lM T F σ) (upd H2 s2.heap.objs.size (.lst [])) { s2 with heap:=h₁,toks:=s2.toks+([]:List (Str × Value)).length }:=
  DA I2 hk ok f2 (λb hb=>let ⟨o,e,_⟩:=Tn.obj _ _ st2 b hb; ⟨o,e⟩) hns₁ hsb₁
 obtain⟨W,⟨m0,w0⟩,turn⟩:=h3 s2.heap.objs.size (I2.hok.fresh (le_refl _));have stat:∀{H':Hp},(∀b∈fp,H' b=none)->∀b∈fp,rB (eE X scope (fD T F) (s2.heap.objs.size+1) s2 H2 fp) [] H' b:=λ{H'} hn b hb=>
  ⟨hn b hb,(I3.ok.exf b hb).1,I3.ok.exfs b hb,.inl hb,(I3.ok.exf b hb).2,λp hp=>absurd (show p∈([]:Lo) from hp) (by simp)⟩
 have st3:tn 0 h₁:=Tn.keep _ _ _ st2 λb hb o e=>by
  have l:=lt_size e;rw[hsb₁.2 b (ne_of_lt (lt_succ_of_lt l))];exact get?_push_of_some _ (get?_push_of_some _ e)
 have fr3:∀b∈fp,(upd H2 s2.heap.objs.size (.lst [])) b=none:=λb hb=>by
  obtain⟨o,e,_⟩:=Tn.obj _ _ st2 b hb;rw[aF (ne_of_lt (lt_size e))];exact(f2 b hb).1
 have loop:codeAny (model X.prog X.w) X.A (.compLoop (.ListComp elt [⟨tg,iter,ifs,0⟩] scope pos) 0 (.ref it) (.ref s2.heap.objs.size) (compEnvC scope (vI scope X.env) (s2.heap.objs.size+1) X.env))
   (RR (.ref s2.heap.objs.size) (s2.heap.objs.size+1)) { s2 with heap:=h₁,toks:=s2.toks+([]:List (Str × Value)).length }:=by
  refine Bu (λn s'=>∃i ys σ' H',Inv (eE X scope (fD T F) (s2.heap.objs.size+1) s2 H2 fp) [] σ' H' s'/\tn i s'.heap/\(∀b∈fp,H' b=none)/\W i n ys σ' H') ?_ m0 ⟨0,[],_,_,I3,st3,fr3,w0⟩;rintro n s4 ⟨i,ys,σ4,H4,I4,st4,fr4,w4⟩;obtain⟨hD,go⟩:=turn i n ys σ4 H4 w4;rcases go with ⟨stop,qn⟩ | ⟨go,hz,step⟩
  ·refine thn (Tn.done (eE X scope (fD T F) (s2.heap.objs.size+1) s2 H2 fp) rfl rfl rfl hc i [] s4 σ4 H4 (λ_ _=>False) I4 (stat fr4) st4 stop) λr s5 zQq=>?_;obtain⟨hr,I5⟩:=zQq;subst hr;exact hRR _ s5 σ4 H4 I5 qn
  ·refine thn (Tn.item (eE X scope (fD T F) (s2.heap.objs.size+1) s2 H2 fp) rfl rfl rfl hc i [] s4 σ4 H4 (λ_ _=>False) I4 (stat fr4) st4 go) λr s5 zQq=>?_;obtain⟨u,hr,h5⟩:=zQq;subst hr;refine thn h5 λ_ s6 zQq=>?_;obtain⟨x,H6,I6,r6,y6,st6,fr6⟩:=zQq;have I6':=I6.pinned (stat fr6) (Tn.obj _ _ st6);refine thn (hg _ _ _ _ _ s6 σ4 H6 x u _ I6' r6 (step x H6 y6)) λ_ s7 zQq=>?_;obtain⟨σ7,H7,I7,q7⟩:=zQq;refine thn (hif _ _ _ _ _ s7 σ7 H7 _ I7 q7) λb s8 zQq=>?_;obtain⟨H8,I8,q8⟩:=zQq;have again:∀{s9:Shared}{σ9:St}{H9:Hp}{zs:L6},Inv (eE X scope (fD T F) (s2.heap.objs.size+1) s2 H2 fp) ([]++uM fp s6.heap) σ9 H9 s9->(∃m',m'<n/\W (i+1) m' zs σ9 H9)->
     ∃m,m<n/\∃i ys σ' H',Inv (eE X scope (fD T F) (s2.heap.objs.size+1) s2 H2 fp) [] σ' H' s9/\tn i s9.heap/\(∀b∈fp,H' b=none)/\W i m ys σ' H':=λ{s9 σ9 H9 zs} I9 ⟨m',hm,w9⟩=>by
    refine⟨m',hm,i+1,zs,σ9,H9,I9.unpinned,Tn.keep _ _ _ st6 λb hb o e=>(I9.pin (b,o) (mem_append_right _ (mem_append_right _ (lI hb e)))).1,λb hb=>?_,w9⟩;obtain⟨o,e,d⟩:=Tn.obj _ _ st6 b hb;exact(I9.pin (b,o) (mem_append_right _ (mem_append_right _ (lI hb e)))).2.1
   cases b with
   | false=>
    rw[if_neg Bool.false_ne_true]at q8 ⊢;exact again I8 q8
   | true=>
    rw[if_pos rfl]at q8 ⊢;refine thn (he _ _ _ _ _ s8 σ7 H8 _ I8 q8) λuy s9 zQq=>?_;obtain⟨y,H9,I9,r9,hD9,q9⟩:=zQq;refine thn (iP _ s9 σ7 H9 (.ref s2.heap.objs.size) [y] (.ref s2.heap.objs.size) [uy] (λ_ H'=>∃m',m'<n/\W (i+1) m' (ys++[y]) σ7 H') I9 rfl (.cons r9 .nil) ⟨_,ys,y,rfl,rfl,hD9,hz,q9⟩) λ_ s10 zQq=>?_;obtain⟨_,H10,I10,_,q10⟩:=zQq;exact again I10 q10
 exact codeAny_compStart_list loop (Tn.self _ 0 _ _ _ st3 loop)
def dC{elt tg iter:Expr}{ifs:List Expr}{pos:Pos}{wi:TI}{g:TG}{tc:TT}{te:TE}(T:Lu)(F:List (Str × Nat))(hc:X.calm=true)(hi:PI X tg iter wi)
  (hg:∀C s₂ H₂ ex,PG (eE X scope (fD T F) C s₂ H₂ ex) tg g) (hif:∀C s₂ H₂ ex,PIf (eE X scope (fD T F) C s₂ H₂ ex) ifs tc) (he:∀C s₂ H₂ ex,PE (eE X scope (fD T F) C s₂ H₂ ex) elt te)
  (hclos:closureFor scope X.env=pure (vI scope X.env):=by rfl) (hk:scope.kind = .function:=by rfl) (ok:mP X scope F=true:=by rfl) (hs:∀x,foldedSetIterable iter X.env x=pure x:=by intro _; rfl) :
  PE X (.ListComp elt [⟨tg,iter,ifs,0⟩] scope pos) (Ju T F wi g tc te):=by
 intro pins s σ H Q I h;have ok':=ok;unfold mP at ok';simp only[and_eq_true]at ok';obtain⟨⟨⟨ok1,ok2⟩,ok3⟩,ok4⟩:=ok';have hnames:∀x∈scope.names,x.2 = .local->scope.names.lookup x.1=some .local:=λx hx z=>by
  have:=all_eq_true.mp ok2 x hx;rw[z]at this;simpa using this
 rw[eval_ListComp];refine wpAny_comprehension_free (use:=none) rfl hs hclos hk hnames (thn (hi pins s σ H _ I h) λv s1 h1=>thn h1 λitv s2 h2=>?_);obtain⟨it,fp,tn,J,H2,e,I2,Tn,st2,f2,h3⟩:=h2;subst e;refine yK (RR:=λacc C=>compPost (model X.prog X.w) X.A X.xe none (EP X pins σ Q) acc C) (Q:=λD H'=>Q (.ref D) H') hc hk ok hg hif he I2 Tn st2 f2 h3 λD s' σc H' I' q=>?_;obtain⟨m,hn,_⟩:=I'.loc;exact⟨m,hn,λh' hs'=>⟨.ref D,H',Bs I2 f2 I' hs',rfl,q⟩⟩
def lG{y:Str}{i:Nat}{py spos:Pos}{elt tg iter:Expr}{ifs:List Expr}{pos:Pos}{wi:TI}{g:TG}{tc:TT}{te:TE}(T:Lu)(F:List (Str × Nat))(hN:X.N.Nodup)(hy:X.N[i]? = some y)(hx:Loc X.env.scope y)(hc:X.calm=true)(hi:PI X tg iter wi)
  (hg:∀C s₂ H₂ ex,PG (eE X scope (fD T F) C s₂ H₂ ex) tg g) (hif:∀C s₂ H₂ ex,PIf (eE X scope (fD T F) C s₂ H₂ ex) ifs tc) (he:∀C s₂ H₂ ex,PE (eE X scope (fD T F) C s₂ H₂ ex) elt te)
  (hsw:swapsWith (.ListComp elt [⟨tg,iter,ifs,0⟩] scope pos) (some (.Name y py)) spos.line X.env=pure true:=by rfl)
  (hclos:closureFor scope X.env=pure (vI scope X.env):=by rfl) (hk:scope.kind = .function:=by rfl) (ok:mP X scope F=true:=by rfl) (hs:∀x,foldedSetIterable iter X.env x=pure x:=by intro _; rfl)
  (hfn:X.fn y=true\/X.env.scope.names.lookup y=some .local:=by first | exact .inl rfl | exact .inr rfl | assumption) :
  PS X (.Assign [.Name y py] (.ListComp elt [⟨tg,iter,ifs,0⟩] scope pos) spos) (λD σ H=>Ju T F wi g tc te σ H λv H'=>D.nx (σ.set i (some v)) H'):=by
 intro pins s σ H D I h;have ok':=ok;unfold mP at ok';simp only[and_eq_true]at ok';obtain⟨⟨⟨ok1,ok2⟩,ok3⟩,ok4⟩:=ok';have hnames:∀x∈scope.names,x.2 = .local->scope.names.lookup x.1=some .local:=λx hx z=>by
  have:=all_eq_true.mp ok2 x hx;rw[z]at this;simpa using this
 rw[exec_Assign_Name_used _ _ _ _ hsw];refine wpAny_bind (wpAny_standAt (wpAny_bind ?_));show wpAny _ X.A (do let _ <- comprehension (.ListComp elt [⟨tg,iter,ifs,0⟩] scope pos) scope X.env _ (newList []) false (eval iter X.env) (some (assign (.Name y py) X.env))) _ _ s;refine wpAny_bind (wpAny_mono (wpAny_comprehension_free (use:=some (assign (.Name y py) X.env)) (Q:=λ_ s'=>SP X pins D .next s') rfl hs hclos hk hnames
  (thn (hi pins s σ H _ I h) λv s1 h1=>thn h1 λitv s2 h2=>?_)) (λ_ s' hq=>wpAny_pure (wpAny_pure hq)) λ_ _ e=>e)
 obtain⟨it,fp,tn,J,H2,e,I2,Tn,st2,f2,h3⟩:=h2;subst e;refine yK (RR:=λacc C=>compPost (model X.prog X.w) X.A X.xe (some (assign (.Name y py) X.env)) (λ_ s'=>SP X pins D .next s') acc C) (Q:=λDd H'=>D.nx (σ.set i (some (.ref Dd))) H') hc hk ok hg hif he I2 Tn st2 f2 h3 λDd s' σc H' I' q=>?_;have I3:Inv X pins σ H' s':=Bs I2 f2 I' ⟨rfl,λ_ _=>rfl⟩;obtain⟨m,hn,_⟩:=I'.loc;obtain⟨oC,es,ep,hoC,hdC,hkC,hmC⟩:=hn;have fC:H' (s2.heap.objs.size+1)=none:=I'.free;have hle:s2.heap.objs.size<=s2.heap.objs.size+1:=le_succ _;have F0:=I2.fpOk (H':=H') hle fC;obtain⟨g0,g1,g2,g3,g4,g5⟩:=F0;have I4:Inv X (pins++[(s2.heap.objs.size+1,oC)]) σ H' s':=I3.pins_of λp hp=>(mem_append.mp hp).elim (λz=>I3.pin p (mem_append_right _ z)) λz=>by
  have e:p=(s2.heap.objs.size+1,oC):=by simpa using z
  subst e;exact⟨hoC,fC,g1,g2,λv z=>by rw[hdC]at z; cases z⟩
 show wpAny _ X.A (assign (.Name y py) X.env (.ref Dd)) _ _ _;refine thn (bG (pos:=py) hN hy hx hfn _ s' σ H' (.ref Dd) (.ref Dd) _ I4 rfl (show rV i (.ref Dd) σ H' D.nx from q)) λ_ s5 zQq=>?_;obtain⟨σ5,H5,I5,q5⟩:=zQq;have p5:=I5.pin (s2.heap.objs.size+1,oC) (mem_append_right _ (mem_append_right _ (by simp)));refine⟨m,⟨oC,es,ep,p5.1,hdC,hkC,hmC⟩,λh' hs'=>?_⟩;refine⟨σ5,H5,?_,q5⟩;have I6:=I5.unpinned;exact I6.turned (it:=s2.heap.objs.size+1) (t':=s5.toks) (λb o hb e=>(hs'.2 b hb).trans e) p5.2.1 g1 g3 g4 g5
end
mutual
def Den(H:Hp):PyData->V->Prop
 | .none,v=>v = .non
 | .bool b,v=>v = .bl b
 | .int i,v=>v = .int i
 | .str x,v=>v = .str x
 | .tuple ds,v=>∃a xs,v = .ref a/\H a=some (.tup xs)/\aP H ds xs
 | .list ds,v=>∃a xs,v = .ref a/\H a=some (.lst xs)/\aP H ds xs
 | .dict _,_=>False
def aP(H:Hp):Lw->L6->Prop
 | [],xs=>xs=[]
 | d::ds,xs=>∃x r,xs=x::r/\Den H d x/\aP H ds r
end
section
variable{X:Cx}{pins:Lo}{σ : St}{H H':Hp}{s:Shared}{K:Ln}
def aH.seqT(e:aH H H')(h:SqT K H a xs):SqT K H' a xs:=by
 rcases h with (h | ⟨o,h⟩) | h
 ·exact .inl (.inl (e _ _ h))
 ·exact .inl (.inr ⟨o,e _ _ h⟩)
 ·exact .inr h
mutual
def Den.same(e:aH H H'):∀{d:PyData}{v:V},Den H d v->Den H' d v
 | .none,v,h=>by simp only[Den]at h ⊢; exact h
 | .bool b,v,h=>by simp only[Den]at h ⊢; exact h
 | .int i,v,h=>by simp only[Den]at h ⊢; exact h
 | .str x,v,h=>by simp only[Den]at h ⊢; exact h
 | .tuple ds,v,h=>by
  simp only[Den]at h ⊢;obtain⟨a,xs,e1,h1,h2⟩:=h;exact⟨a,xs,e1,e _ _ h1,aP.same e h2⟩
 | .list ds,v,h=>by
  simp only[Den]at h ⊢;obtain⟨a,xs,e1,h1,h2⟩:=h;exact⟨a,xs,e1,e _ _ h1,aP.same e h2⟩
 | .dict _,v,h=>by simp only[Den]at h
def aP.same(e:aH H H'):∀{ds:Lw}{xs:L6},aP H ds xs->aP H' ds xs
 | [],xs,h=>by simp only[aP]at h ⊢; exact h
 | d::ds,xs,h=>by
  simp only[aP]at h ⊢;obtain⟨x,r,e1,h1,h2⟩:=h;exact⟨x,r,e1,Den.same e h1,aP.same e h2⟩
end
mutual
def kM(I:Inv X pins σ H s):∀{d:PyData}{v:V}{u:Value},Den H d v->bY v u->∃as,Reads s.heap u d as
 | .none,v,u,h,r=>by
  simp only[Den]at h;subst h;cases (show u=Value.none from r);exact⟨_,.none⟩
 | .bool b,v,u,h,r=>by
  simp only[Den]at h;subst h;cases (show u=Value.bool b from r);exact⟨_,.bool b⟩
 | .int i,v,u,h,r=>by
  simp only[Den]at h;subst h;obtain⟨t,e⟩:=(show ∃t,u=Value.int i t from r);subst e;exact⟨_,.int i t⟩
 | .str x,v,u,h,r=>by
  simp only[Den]at h;subst h;obtain⟨t,e⟩:=(show ∃t,u=Value.str x t from r);subst e;exact⟨_,.str x t⟩
 | .tuple ds,v,u,h,r=>by
  simp only[Den]at h;obtain⟨a,xs,e1,h1,h2⟩:=h;subst e1;cases (show u=Value.ref a from r);obtain⟨its,rv,⟨o,ho,hc,n,hd⟩,_⟩:=I.tuple (SqT.of h1);obtain⟨as,ra⟩:=oF I h2 rv;exact⟨as,.tuple ho hc hd (by simpa using ra)⟩
 | .list ds,v,u,h,r=>by
  simp only[Den]at h;obtain⟨a,xs,e1,h1,h2⟩:=h;subst e1;cases (show u=Value.ref a from r);obtain⟨its,rv,⟨o,n,ho,hc,_,hd⟩,_⟩:=I.list (SqL.of h1);obtain⟨as,ra⟩:=oF I h2 rv;exact⟨a::as,.list ho hc hd (by simpa using ra)⟩
 | .dict _,v,u,h,r=>by simp only[Den]at h
def oF(I:Inv X pins σ H s):∀{ds:Lw}{xs:L6}{us:Lv},aP H ds xs->bZ xs us->∃as,ReadsAll s.heap us ds as
 | [],xs,us,h,r=>by
  simp only[aP]at h;subst h;cases r;exact⟨_,.nil⟩
 | d::ds,xs,us,h,r=>by
  simp only[aP]at h;obtain⟨x,rr,e1,h1,h2⟩:=h;subst e1;cases r with
  | cons r1 r2=>
   obtain⟨as,ra⟩:=kM I h1 r1;obtain⟨bs,rb⟩:=oF I h2 r2;exact⟨_,.cons ra rb⟩
end
end
section
variable{X:Cx}
inductive Kt(x:V)(y:V)(H:Hp)(Q:VK):Prop
 | mk:∀d e,Den H d x->Den H e y->SeqAt.shaped d=true->SeqAt.shaped e=true->Q (.bl (PyData.eqv d e)) H->Kt x y H Q
inductive Ig(x:V)(y:V)(H:Hp)(Q:VK):Prop
 | mk:∀d e,Den H d x->Den H e y->SeqAt.shaped d=true->SeqAt.shaped e=true->Q (.bl (!PyData.eqv d e)) H->Ig x y H Q
def Cb(hu:X.A.units+64<cLine):OpR X (compareOp .Eq) Kt:=by
 intro pins s σ H x y v u Q I rx ry h;obtain⟨d,e,h1,h2,s1,s2,q⟩:=h;obtain⟨as,ra⟩:=kM I h1 rx;obtain⟨bs,rb⟩:=kM I h2 ry;exact eq_dataH ra rb s1 s2 hu ⟨.bl _,H,I,rfl,q⟩
def mF(hu:X.A.units+64<cLine):OpR X (compareOp .NotEq) Ig:=by
 intro pins s σ H x y v u Q I rx ry h;obtain⟨d,e,h1,h2,s1,s2,q⟩:=h;obtain⟨as,ra⟩:=kM I h1 rx;obtain⟨bs,rb⟩:=kM I h2 ry;exact ne_dataH ra rb s1 s2 hu ⟨.bl _,H,I,rfl,q⟩
inductive Ks(K:Ln)(xs:L6)(H:Hp)(Q:VK):Prop
 | mk:∀x n t b,xs=[x,.ty n]->pX K H x t->PySem.W.kitOne K t (.type n)=some b->Q (.bl b) H->Ks K xs H Q
def Hr:gM X (.builtin "isinstance") (Ks X.K):=by
 intro pins s σ H xs us Q I r h;obtain⟨x,n,t,b,rfl,ty,hk,q⟩:=h;cases r with
 | cons r1 r2=>
  cases r2 with
  | cons r2 r3=>
   cases r3;cases (show _=Value.type n from r2);exact FL I r1 ty hk λtk=>⟨.bl b,H,I.tok tk,rfl,q⟩
def aD(h:H p=none):aH H (upd H p o):=λb u e=>by
 rw[aF (bL e h)];exact e
def gUU{H:Hp}{p:Addr}{o:HO}(h:H p=none):∃H',upd H p o=H'/\aH H H'/\H' p=some o:=⟨_,rfl,aD h,aB⟩
def new_h{H:Hp}{o:HO}{Q:Addr->Hp->Prop}(h:∀p,H p=none->∀H',aH H H'->H' p=some o->Q p H'):∀p,H p=none->Q p (upd H p o):=λp e=>h p e _ (aD e) aB
def new_o{H:Hp}{o:HO}{Q:Addr->Hp->Prop}(h:∀p H',aH H H'->H' p=some o->Q p H'):∀p,H p=none->Q p (upd H p o):=new_h λp _=>h p
inductive J2(x:V)(y:V)(H:Hp)(Q:VK):Prop
 | mk:∀a b xs ys,x = .ref a->y = .ref b->H a=some (.tup xs)->H b=some (.tup ys)->xs.length+ys.length<=sizeLine->(∀p H',aH H H'->H' p=some (.tup (xs++ys))->Q (.ref p) H')->J2 x y H Q
def jI:OpR X (binaryOp .Add) J2:=by
 intro pins s σ H x y v u Q I rx ry h;obtain⟨a,b,xs,ys,rfl,rfl,ha,hb,hz,q⟩:=h;by_cases hx:xs=[]
 ·subst hx;cases (show v=Value.ref a from rx);cases (show u=Value.ref b from ry);obtain⟨its,r1,p1,_⟩:=I.tuple (SqT.of ha);obtain⟨its2,r2,p2,_⟩:=I.tuple (SqT.of hb);cases r1;obtain⟨⟨cls,dd,data,sl⟩,ho,hc,n,hd⟩:=p1;obtain⟨⟨cls2,dd2,data2,sl2⟩,ho2,hc2,n2,hd2⟩:=p2;simp only at hc hd hc2 hd2;subst hc hd hc2 hd2;refine concat_meets ⟨_,ho,rfl⟩ ⟨_,ho2,rfl⟩ noFill_tuple_add seq_tuple_add PySem.F.slot_tuple_add PySem.F.entry_tuple_add (PySem.F.args_tuple_add_2 _ _)
   (tuple_addW0 a b _ _ n n2 dd dd2 sl sl2 rfl) ⟨ho,ho2,?_⟩
  exact⟨.ref b,H,I,rfl,q b H (aH.refl H) hb⟩
 ·refine Ix pins s σ H (.ref a) (.ref b) v u Q I rx ry ⟨a,b,xs,ys,rfl,rfl,SqT.of ha,SqT.of hb,hx,hz,λz=>?_,λz p hp=>q p _ (aD hp) aB⟩;subst z;refine q a H (aH.refl H) ?_;rw[append_nil];exact ha
inductive Kp(K:Ln)(xs:L6)(H:Hp)(Q:VK):Prop
 | mk:∀(p:Addr)(ns:Ls),xs=[.ref p]->(SqL K H p (ns.map V.int)\/SqT K H p (ns.map V.int))->Q (.int ns.sum) H->Kp K xs H Q
def mE(ns:Ls):∀n,n<=ns.length->PySem.preSum (λi=>ns.getD i 0) n=(ns.take n).sum
 | 0,_=>by simp [PySem.preSum]
 | n+1,h=>by
  have e:=mE ns n (by omega);have hl:n<ns.length:=by omega
  unfold PySem.preSum;rw[e,take_succ,List.sum_append];simp [List.getD,hl]
def EB{ns:Ls}:∀{us:Lv},bZ (ns.map V.int) us->∀i v,us.toArray[i]? = some v->∃t,v=Value.int (ns.getD i 0) t:=by
 intro us r i v hv;have hv:us[i]? = some v:=by simpa using hv
 have hl:i<us.length:=(List.getElem?_eq_some_iff.mp hv).1;have hn:i<ns.length:=by
  have:=r.length;rw[length_map]at this;omega
 obtain⟨u,hu,ru⟩:=r.get (i:=i) (x:=V.int ns[i]) (by simp [hn]);rw[hv]at hu;cases hu;obtain⟨t,e⟩:=ru;exact⟨t,by rw[e]; simp [List.getD,hn]⟩
def FY(hc:X.calm=true):gM X (.builtin "sum") (Kp X.K):=by
 intro pins s σ H xs us Q I r h;obtain⟨p,ns,rfl,hs,q⟩:=h;cases r with
 | cons r1 r2=>
  cases r2;cases (show _=Value.ref p from r1);have hh:X.A.in1.handled=none:=I.ok.hd hc;have fin:∀s',(∀b o,b ∉ [s.heap.objs.size]->(s.heap.get? b=some o->s'.heap.get? b=some o))->s'.gens=s.gens->s'.os=s.os->∀t',EP X pins σ Q (.int ns.sum t') s':=λs' hk hg ho t'=>by
   obtain⟨h',g',d',tk',os'⟩:=s';dsimp only at hg ho;subst hg ho;refine⟨.int ns.sum,H,I.call (h':=h') (g':=s.gens) (d':=d') (t':=tk') (ch:=[]) (Un.kept λb u e=>hk b u (by simpa using ne_of_lt (lt_size e)) e) (I.hok.kept λb u e=>hk b u (by simpa using ne_of_lt (lt_size e)) e) I.bare (λb z=>absurd z (by simp)),⟨t',rfl⟩,q⟩
  refine call_sum_walkAnyS ?_;rcases hs with hs | hs
  ·obtain⟨its,rv,pl,hz⟩:=I.list hs;have hlen:its.toArray.size=ns.length:=by
    have:=rv.length;rw[length_map]at this;simp [this]
   have ne:p≠s.heap.objs.size:=by
    obtain⟨o,n,ho,_⟩:=pl;exact ne_of_lt (lt_size ho)
   refine wpAny_pyIter_list pl.isList ⟨s.heap.objs.size,_,_,_,_,_,_,(λi=>ns.getD i 0),rfl,(Walks.list hh s.heap.objs.size p ne its.toArray).toS,⟨⟨_,get?_push_size _ rfl,rfl,rfl⟩,?_⟩,?_,λi v hv=>EB rv i v hv,λs' t' mv=>?_⟩
   ·obtain⟨o,n,ho,hc1,hd1,hd2⟩:=pl;exact⟨o,get?_push_of_some _ ho,hc1,n,hd2⟩
   ·obtain⟨o,n,ho,_⟩:=pl;intro b hb;rw[size_push];rcases mem_cons.mp hb with rfl | hb
    ·exact lt_succ_self _
    ·have:b=p:=by simpa using hb
     subst this;exact lt_succ_of_lt (lt_size ho)
   ·rw[hlen,mE ns _ (le_refl _),take_length];exact fin s' (λb o hb e=>mv.heap b o hb (get?_push_of_some _ e)) mv.gens mv.os t'
  ·obtain⟨its,rv,pl,hz⟩:=I.tuple hs;have hlen:its.toArray.size=ns.length:=by
    have:=rv.length;rw[length_map]at this;simp [this]
   have ne:p≠s.heap.objs.size:=ne_of_lt pl.lt;refine wpAny_pyIter_tuple (show s.heap.IsTuple p its.toArray from pl) ⟨s.heap.objs.size,_,_,_,_,_,_,(λi=>ns.getD i 0),rfl,(Walks.tuple hh s.heap.objs.size p ne its.toArray).toS,⟨⟨_,get?_push_size _ rfl,rfl,rfl⟩,?_⟩,?_,λi v hv=>EB rv i v hv,λs' t' mv=>?_⟩
   ·obtain⟨o,ho,hc1,n,hd2⟩:=pl;exact⟨o,get?_push_of_some _ ho,hc1,n,hd2⟩
   ·intro b hb;rw[size_push];rcases mem_cons.mp hb with rfl | hb
    ·exact lt_succ_self _
    ·have:b=p:=by simpa using hb
     subst this;exact lt_succ_of_lt pl.lt
   ·rw[hlen,mE ns _ (le_refl _),take_length];exact fin s' (λb o hb e=>mv.heap b o hb (get?_push_of_some _ e)) mv.gens mv.os t'
end
section
variable{prog:Program}{w:World}{A:Around}{E:Ly}{s:Shared}
def sY(tc:TypeCalled T nid "object.__init__")
  (hct:checkTypeCall T ⟨as,kw⟩=pure ()) (hcn:checkBuiltinCall nid ⟨.type T::as,kw⟩=pure ()) (ent:entryFor table nid=some Bn) (g:Meets (Bn ⟨.type T::as,kw⟩) S)
  (hi:∀(obj:Value),argsOk "object.__init__" ⟨obj::as,kw⟩) (gi:∀(obj:Value),Meets (Builtin.«object.__init__» ⟨obj::as,kw⟩) (λ_ R s=>s.TypeIs obj T/\R (.ok (.ret .none)) s))
  (h:S A.in1 (wants (λobj s₁=>s₁.TypeIs obj T/\Q obj s₁) E) s):wpAny (model prog w) A (call (.type T) as kw) Q E s:=by
 obtain⟨c0,t0,e0⟩:=tc.mro;have e1:=tc.made;have e2:=tc.sub;refine wpAny_call (codeAny_of_tree ?tree)
 case tree=>
  show wpAny _ _ (callAny (.type T) _) _ _ _;refine wpAny_pure ⟨Code.quiet_builtin _ (by decide +kernel),codeAny_builtin PySem.F.entry_type_call ?inner⟩;rw[Around.under_plain (weight_type_call_type T as kw) (units_type_call_type T as kw)];have e3:=tc.notType;have e4:=tc.canCreate
  repeat (any_goals (first | assumption | wp_step))
  refine codeAny_mono (codeAny_call_builtin tc.plain ent (wpAny_of_eq hcn (g prog w A.in1 _ s h))) λr1 s1 q1=>?_;cases r1 with
  | error ex=>exact q1
  | ok f1=>
   cases f1 with
   | ret ob=>
    have q1':s1.TypeIs ob T/\Q ob s1:=q1;obtain⟨ty,q2⟩:=q1';have e5:=tc.init.lookup;have e6:=tc.init.bind ob
    repeat (any_goals (first | assumption | wp_step))
    refine codeAny_mono (codeAny_call_builtin tc.init.plain PySem.F.entry_object_init (tc.init.check _ _ _ _ _ _ _ _ ty (hi ob) (gi ob prog w A.in1 (wants (λr s₂=>r = .none/\Q ob s₂) E) s1 ⟨ty,rfl,q2⟩))) λr2 s2 q3=>?_;cases r2 with
    | error ex=>exact q3
    | ok f2=>
     cases f2 with
     | ret rr=>
      obtain⟨rfl,q4⟩:=q3
      repeat (any_goals (first | assumption | wp_step))
     | _=>exact q3.elim
   | _=>exact q1.elim
def nR(a b:Value):checkTypeCall "enumerate" ⟨[a],[("start",b)]⟩=pure ():=by kernel_rfl
def pP(a b:Value):checkBuiltinCall "enumerate.__new__" ⟨[.type "enumerate",a],[("start",b)]⟩=pure ():=by kernel_rfl
def Bg(l:Addr)(items:Array Value)(n:Nat)(dct:Option Addr)(sl:Lr)(t:Tok) :
  Meets (Builtin.«enumerate.__new__» ⟨[.type "enumerate",.ref l],[("start",.int 1 t)]⟩) (λ_ R s=>s.heap.get? l=some { cls:=.type "tuple",dict:=dct,data:=.seq items n,slots:=sl }/\
   R (.ok (.ret (.ref (s.heap.push { cls:=.type "tuple_iterator",data:=.fields #[.ref l,.int 0 0] }).objs.size)))
    { s with heap:=(s.heap.push { cls:=.type "tuple_iterator",data:=.fields #[.ref l,.int 0 0] }).push { cls:=.type "enumerate",data:=.fields #[.none,.bool false,.ref s.heap.objs.size,rawInt 1,.none,.none] } }):=
 .of_wp λprog w A R s h=>by
  obtain⟨hp,g,d,tk,os⟩:=s;obtain⟨hl,h⟩:=h;have z1:=sub_enumerate;have z2:Heap.IsTuple (Shared.heap ⟨hp,g,d,tk,os⟩) l items:=⟨_,hl,rfl,n,rfl⟩
  wp_walk using AutoSeq1.wpAny_loadPart' hl
  refine wpAny_stack_any λst=>wpAny_pure ?_;split
  ·rename_i c _ _ _ _ _;cases (c == Value.type "enumerate")
   ·wp_walk using AutoSeq1.wpAny_loadPart' hl,wpAny_pyIter_tuple z2
    exact⟨_,rfl,h⟩
   ·wp_walk using AutoSeq1.wpAny_loadPart' hl,wpAny_pyIter_tuple z2
    exact⟨_,rfl,h⟩
  ·wp_walk using AutoSeq1.wpAny_loadPart' hl,wpAny_pyIter_tuple z2
   exact⟨_,rfl,h⟩
def AG(l:Addr)(items:Array Value)(n:Nat)(dct:Option Addr)(sl:Lr) :
  Meets (Builtin.«enumerate.__new__» ⟨[.type "enumerate",.ref l],[]⟩) (λ_ R s=>s.heap.get? l=some { cls:=.type "tuple",dict:=dct,data:=.seq items n,slots:=sl }/\
   R (.ok (.ret (.ref (s.heap.push { cls:=.type "tuple_iterator",data:=.fields #[.ref l,.int 0 0] }).objs.size)))
    { s with heap:=(s.heap.push { cls:=.type "tuple_iterator",data:=.fields #[.ref l,.int 0 0] }).push { cls:=.type "enumerate",data:=.fields #[.none,.bool false,.ref s.heap.objs.size,rawInt 0,.none,.none] } }):=
 .of_wp λprog w A R s h=>by
  obtain⟨hp,g,d,tk,os⟩:=s;obtain⟨hl,h⟩:=h;have z1:=sub_enumerate;have z2:Heap.IsTuple (Shared.heap ⟨hp,g,d,tk,os⟩) l items:=⟨_,hl,rfl,n,rfl⟩
  wp_walk using AutoSeq1.wpAny_loadPart' hl
  refine wpAny_stack_any λst=>wpAny_pure ?_;split
  ·rename_i c _ _ _ _ _;cases (c == Value.type "enumerate")
   ·wp_walk using AutoSeq1.wpAny_loadPart' hl,wpAny_pyIter_tuple z2
    exact⟨_,rfl,h⟩
   ·wp_walk using AutoSeq1.wpAny_loadPart' hl,wpAny_pyIter_tuple z2
    exact⟨_,rfl,h⟩
  ·wp_walk using AutoSeq1.wpAny_loadPart' hl,wpAny_pyIter_tuple z2
   exact⟨_,rfl,h⟩
def EE(obj a b:Value):argsOk "object.__init__" ⟨[obj,a],[("start",b)]⟩:=by
 unfold argsOk;rw[signature?_of (id:="object.__init__") (n:=['_','_','t','i','n','i','_','_']) (o:=['t','c','e','j','b','o']) (by kernel_rfl) PySem.F.owner_object]
 kernel_rfl
def nP(obj a b:Value):Meets (Builtin.«object.__init__» ⟨[obj,a],[("start",b)]⟩) (λ_ R s=>s.TypeIs obj "enumerate"/\R (.ok (.ret .none)) s):=by
 refine Meets.of_wp λprog w A R s hs=>?_;obtain⟨ty,q⟩:=hs;have e1:=PySem.F.called_enumerate.made;have e2:=PySem.F.called_enumerate.init.lookup
 repeat (any_goals (first | assumption | wp_step))
 exact⟨_,rfl,q⟩
def JL(hit:s.heap.IsTupleIter it t i)(ht:s.heap.IsTuple t items)(hx:items[i]? = some x)
  (hQ:∀h',h'.IsTupleIter it t (i+1)->Heap.SameBut it s.heap h'->Q x { s with heap:=h' }):wpAny (model prog w) A (Builtin.SmallTypes.nextOf (.ref it)) Q E s:=by
 obtain⟨oi,hoi,hci,hdi⟩:=id hit;obtain⟨ot,hot,_,nt,hdt⟩:=ht;unfold Builtin.SmallTypes.nextOf;refine wpAny_bind (wpAny_callSpecial?_slot (name:=Str.ofString "__next__") hit.typeIs PySem.F.slot_tuple_iterator_next (wpAny_call_entry PySem.F.slot_tuple_iterator_next hit.typeIs PySem.F.entry_tuple_iterator_next ?nx (PySem.F.args_tuple_iterator_next_1 _)))
 case nx=>
  show wpAny _ _ (field (.ref it) 0 >>= _) _ _ s;refine wpAny_bind (wpAny_field hoi hdi (x:=.ref t) rfl ?_);show wpAny _ _ (if (Value.ref t == Value.none)=true then _ else _) _ _ s;rw[if_neg (show ¬ ((Value.ref t == Value.none)=true) from Bool.false_ne_true)];show wpAny _ _ (field (.ref it) 1 >>= _) _ _ s;refine wpAny_bind (wpAny_field hoi hdi (x:=.int i 0) rfl ?_);show wpAny _ _ (seqItems? (.ref t) >>= _) _ _ s;refine wpAny_bind (wpAny_seqItems hot hdt ?_);simp only[Int.toNat_natCast,hx];refine wpAny_bind (wpAny_setField hoi hdi (by simp) (wpAny_pure ⟨x,rfl,wpAny_pure (hQ _ ⟨_,Heap.get?_update_self _ hoi (Obj.isFreed_of_fields (Obj.data_mapFields hdi _)),(Obj.cls_mapFields ..).trans hci,?_⟩ (Heap.SameBut.update ..))⟩));rw[Obj.data_mapFields hdi];simp [rawInt]
def Hk{e it t:Addr}{i:Nat}{lo:Int}{items:Array Value}{x old:Value}{Q:Option Value->Shared->Prop}
  (he:IsEnum s.heap e it (lo+i) old) (hit:s.heap.IsTupleIter it t i) (ht:s.heap.IsTuple t items) (hx:items[i]? = some x) (hne:e≠it)
  (hQ:∀h',IsEnumOut h' e it (lo+i+1) x s.heap.objs.size->h'.IsTupleIter it t (i+1)->
   h'.get? s.heap.objs.size=some { cls:=.type "tuple",data:=.seq #[.int (lo+i) s.toks,x] }->(∀b o,b≠e->b≠it->s.heap.get? b=some o->h'.get? b=some o)->
   Q (some (.ref s.heap.objs.size)) { s with heap:=h',toks:=s.toks+1 }):wpAny (model prog w) A (pyNext (.ref e)) Q E s:=by
 have ty:s.TypeIs (.ref e) "enumerate":=⟨_,he,rfl⟩;unfold pyNext;refine wpAny_bind (wpAny_attempt (wpAny_callSpecial?_slot (name:=Str.ofString "__next__") ty PySem.F.slot_enumerate_next (wpAny_call_entry PySem.F.slot_enumerate_next ty PySem.F.entry_enumerate_next ?nx (PySem.F.args_enumerate_next_1 _))))
 case nx=>
  obtain⟨hp,g,d,tk,os⟩:=s;show wpAny _ _ (field (.ref e) 2 >>= _) _ _ _;refine wpAny_bind (wpAny_field he rfl (x:=.ref it) rfl ?_);refine wpAny_bind (JL hit ht hx λk1 hit1 sb1=>?_);replace sb1:Heap.SameBut it hp k1:=sb1;have g1:IsEnum k1 e it (lo+i) old:=(sb1.2 e hne).trans he;show wpAny _ _ (field (.ref e) 3 >>= _) _ _ ⟨k1,g,d,tk,os⟩;refine wpAny_bind (wpAny_field g1 rfl (x:=rawInt (lo+i)) rfl ?_);show wpAny _ _ (field (.ref e) 4 >>= _) _ _ ⟨k1,g,d,tk,os⟩;refine wpAny_bind (wpAny_field g1 rfl (x:=.none) rfl ?_);show wpAny _ _ (mkInt (lo+i) >>= _) _ _ ⟨k1,g,d,tk,os⟩;refine wpAny_bind (wpAny_mkInt ?_);show wpAny _ _ (setField (.ref e) 3 (rawInt (lo+i+1)) >>= _) _ _ ⟨k1,g,d,tk+1,os⟩;refine wpAny_bind (wpAny_setField_rec g1 (by simp) λk2 g2 sb2=>?_);replace sb2:Heap.SameBut e k1 k2:=sb2;replace g2:IsEnum k2 e it (lo+i+1) old:=g2;show wpAny _ _ (setField (.ref e) 4 .none >>= _) _ _ ⟨k2,g,d,tk+1,os⟩;refine wpAny_bind (wpAny_setField_rec g2 (by simp) λk3 g3 sb3=>?_);replace sb3:Heap.SameBut e k2 k3:=sb3;replace g3:IsEnum k3 e it (lo+i+1) old:=g3;show wpAny _ _ (newTuple [.int (lo+i) tk,x] >>= _) _ _ ⟨k3,g,d,tk+1,os⟩;refine wpAny_bind (wpAny_newTuple ?_);have g4:IsEnum (k3.push { cls:=.type "tuple",data:=.seq #[.int (lo+i) tk,x] }) e it (lo+i+1) old:=get?_push_of_some _ g3;generalize hk4:k3.push { cls:=.type "tuple",data:=.seq #[.int (lo+i) tk,x] }=k4 at g4;have sz:k3.objs.size=hp.objs.size:=by rw[sb3.1,sb2.1,sb1.1]
  have el:e<hp.objs.size:=lt_size he;have t4:k4.get? hp.objs.size=some { cls:=.type "tuple",data:=.seq #[.int (lo+i) tk,x] }:=by
   rw[<- hk4,<- sz];exact get?_push_size _ rfl
  have kp4:∀b o,b≠e->b≠it->hp.get? b=some o->k4.get? b=some o:=λb o n1 n2 q=>by
   rw[<- hk4];exact get?_push_of_some _ (sb3.extBut b o n1 (sb2.extBut b o n1 (sb1.extBut b o n2 q)))
  have hit4:k4.IsTupleIter it t (i+1):=by
   obtain⟨o,ho,r⟩:=hit1;rw[<- hk4];exact⟨o,get?_push_of_some _ (sb3.extBut it o (Ne.symm hne) (sb2.extBut it o (Ne.symm hne) ho)),r⟩
  show wpAny _ _ (Builtin.SmallTypes.ownedTupleIsFree (.ref e) >>= _) _ _ ⟨k4,g,d,tk+1,os⟩;rw[sz];clear hk4 g3 sb3 g2 sb2 g1 sb1 hit1 sz k3 k2 k1;refine wpAny_bind ?_;unfold Builtin.SmallTypes.ownedTupleIsFree;refine wpAny_bind (wpAny_field g4 rfl (x:=.none) rfl (wpAny_pure ?_));simp only[if_true];refine wpAny_bind (wpAny_rule ?_);refine wpAny_bind (wpAny_field g4 rfl (x:=old) rfl ?_);refine wpAny_bind (wpAny_setField_rec g4 (by simp) λk5 g5 sb5=>?_);replace sb5:Heap.SameBut e k4 k5:=sb5;replace g5:IsEnum k5 e it (lo+i+1) x:=g5;show wpAny _ _ (Builtin.SmallTypes.ownedTupleHandOut (.ref e) (.ref hp.objs.size) >>= _) _ _ ⟨k5,g,d,tk+1,os⟩;refine wpAny_bind ?_;unfold Builtin.SmallTypes.ownedTupleHandOut;refine wpAny_bind (wpAny_setField_rec g5 (by simp) λk6 g6 sb6=>?_);replace sb6:Heap.SameBut e k5 k6:=sb6;replace g6:IsEnumOut k6 e it (lo+i+1) x hp.objs.size:=g6;refine wpAny_setField_rec g6 (by simp) λk7 g7 sb7=>?_;replace sb7:Heap.SameBut e k6 k7:=sb7;replace g7:IsEnumOut k7 e it (lo+i+1) x hp.objs.size:=g7;refine wpAny_bind (wpAny_letGo (wpAny_pure ⟨_,rfl,wpAny_pure (hQ k7 g7 ?_ ?_ ?_)⟩))
  ·obtain⟨o,ho,r⟩:=hit4;exact⟨o,sb7.extBut it o (Ne.symm hne) (sb6.extBut it o (Ne.symm hne) (sb5.extBut it o (Ne.symm hne) ho)),r⟩
  ·exact sb7.extBut _ _ (ne_of_gt el) (sb6.extBut _ _ (ne_of_gt el) (sb5.extBut _ _ (ne_of_gt el) t4))
  ·exact λb o n1 n2 q=>sb7.extBut b o n1 (sb6.extBut b o n1 (sb5.extBut b o n1 (kp4 b o n1 n2 q)))
def JZ{e it t:Addr}{i:Nat}{lo:Int}{items:Array Value}{old:Value}{Q:Option Value->Shared->Prop}(hh:A.handled=none)
  (he:IsEnum s.heap e it lo old) (hit:s.heap.IsTupleIter it t i) (ht:s.heap.IsTuple t items) (hx:items[i]? = none)
  (hQ:∀h',Heap.ExtBut it s.heap h'->Q none { s with heap:=h' }):wpAny (model prog w) A (pyNext (.ref e)) Q E s:=by
 have ty:s.TypeIs (.ref e) "enumerate":=⟨_,he,rfl⟩;obtain⟨oi,hoi,hci,hdi⟩:=id hit;obtain⟨ot,hot,_,nt,hdt⟩:=ht;unfold pyNext;refine wpAny_bind (wpAny_attempt (wpAny_callSpecial?_slot (name:=Str.ofString "__next__") ty PySem.F.slot_enumerate_next (wpAny_call_entry PySem.F.slot_enumerate_next ty PySem.F.entry_enumerate_next ?nx (PySem.F.args_enumerate_next_1 _))))
 case nx=>
  show wpAny _ _ (field (.ref e) 2 >>= _) _ _ _;refine wpAny_bind (wpAny_field he rfl (x:=.ref it) rfl ?_);refine wpAny_bind ?_;unfold Builtin.SmallTypes.nextOf;refine wpAny_bind (wpAny_callSpecial?_slot (name:=Str.ofString "__next__") hit.typeIs PySem.F.slot_tuple_iterator_next (wpAny_call_entry PySem.F.slot_tuple_iterator_next hit.typeIs PySem.F.entry_tuple_iterator_next ?nx2 (PySem.F.args_tuple_iterator_next_1 _)))
  case nx2=>
   show wpAny _ _ (field (.ref it) 0 >>= _) _ _ s;refine wpAny_bind (wpAny_field hoi hdi (x:=.ref t) rfl ?_);show wpAny _ _ (if (Value.ref t == Value.none)=true then _ else _) _ _ s;rw[if_neg (show ¬ ((Value.ref t == Value.none)=true) from Bool.false_ne_true)];show wpAny _ _ (field (.ref it) 1 >>= _) _ _ s;refine wpAny_bind (wpAny_field hoi hdi (x:=.int i 0) rfl ?_);show wpAny _ _ (seqItems? (.ref t) >>= _) _ _ s;refine wpAny_bind (wpAny_seqItems hot hdt ?_);simp only[Int.toNat_natCast,hx];refine wpAny_bind (wpAny_rule (wpAny_bind (wpAny_setField hoi hdi (by simp) ?_)));show wpAny _ _ (newExc (.type "StopIteration") [] >>= _) _ _ _;refine wpAny_bind ?_;simp only[newExc,newTuple];refine wpAny_bind (wpAny_newObj_type ?_ (by size_fits));refine wpAny_bind (m:=firstArgMember _ _) (wpAny_of_eq (a:=Value.none) (by first | rfl | (simp only[firstArgMember]; rfl)) ?_);refine wpAny_newObj_type ?_ (by size_fits);simp only[raiseNew];refine wpAny_bind (wpAny_handled ?_)
   first | rw[show A.in1.handled=none from hh] | rw[show A.in1.in1.handled=none from hh] | rw[hh]
   refine wpAny_bind (wpAny_pure (wpAny_throw ?_));refine wpAny_bind (wpAny_isInstance (T:="StopIteration") (b:=true) ⟨_,get?_push_size _ rfl,rfl⟩ isSubtype_stop ?_);exact wpAny_pure (hQ _ (((Heap.SameBut.update ..).extBut.push _).push _))
end
def Ite(K:Ln)(lo:Int)(a:Addr):It:=
 ⟨λi H=>∃xs x,SqT K H a xs/\xs[i]? = some x,λi H x H'=>∃p v,x = .ref p/\H p=none/\H'=upd H p (.tup [.int (lo+i),v])/\∀xs,SqT K H a xs->xs[i]? = some v,λi H=>∃xs,SqT K H a xs/\xs.length<=i⟩
section
variable{X:Cx}{pins:Lo}{σ : St}{H:Hp}{s:Shared}
def Inv.turned2(I:Inv X pins σ H s)(fe:rB X pins H e)(fi:rB X pins H it)(hp:s.heap.objs.size<=p)(k:∀b o,b≠e->b≠it->s.heap.get? b=some o->h'.get? b=some o)
  (th:(∃o,h'.get? e=some o)/\∃o,h'.get? it=some o) (new:eA X.prog X.w (upd H p (.tup xs)) h' p (.tup xs)):Inv X pins σ (upd H p (.tup xs)) { s with heap:=h',toks:=t' }:=by
 have hn:=I.hok.fresh hp;have np:∀b o,s.heap.get? b=some o->b≠p:=λb o q=>ne_of_lt (lt_of_lt_of_le (lt_size q) hp);refine I.call' (s':={ s with heap:=h',toks:=t' }) (ch:=[e,it]) rfl ⟨λb o q n _ hc=>?_,λb o q n _ hc=>⟨o.slots,?_⟩,λb o q n _=>?_,λb o q hc=>⟨o,?_⟩,λb ys q=>?_,λb u ys q=>?_,λb ps q=>⟨#[],?_⟩⟩ ?_ I.bare λb hb=>?_
 ·exact k b o (λz=>hc (by simp [z])) (λz=>hc (by simp [z])) q
 ·exact k b o (λz=>hc (by simp [z])) (λz=>hc (by simp [z])) q
 ·rw[aF (np b o q)];exact n
 ·exact k b o (λz=>hc (by simp [z])) (λz=>hc (by simp [z])) q
 ·rw[aF (bL q hn)];exact q
 ·rw[aF (bL q hn)];exact q
 ·rw[aF (bL q hn),q];simp
 ·intro b u q;by_cases hb:b=p
  ·subst hb;rw[aB]at q;cases q;exact new
  ·rw[aF hb]at q;refine(I.hok b u q).stay (λc v hc r=>k c v ?_ ?_ r) (λc r=>by rw[aF (bL r hn)]; exact r) λc ys r=>by rw[aF (bL r hn)]; exact r
   ·rintro rfl;rcases hc with hc | hc
    ·rw[<- hc,fe.1]at q; cases q
    ·rw[fe.1]at hc; cases hc
   ·rintro rfl;rcases hc with hc | hc
    ·rw[<- hc,fi.1]at q; cases q
    ·rw[fi.1]at hc; cases hc
 ·rcases mem_cons.mp hb with rfl | hb
  ·exact⟨fe.2.2.2.1,fe.2.1,fe.2.2.2.2.1,fe.2.2.2.2.2⟩
  ·have:b=it:=by simpa using hb
   subst this;exact⟨fi.2.2.2.1,fi.2.1,fi.2.2.2.2.1,fi.2.2.2.2.2⟩
def EV{P:Program}{w:World}{K:Ln}{elts:List Expr}{x1:Nat}{tp:Pos}(lo:Int)(a e it:Addr)(hne:e≠it) :
  Turn P w K (.Tuple elts x1 tp) (Ite K lo a) [e,it] e (λi h=>(∃old,IsEnum h e it (lo+(i:Nat)) old)/\h.IsTupleIter it a i) where
 mem:=by simp
 obj:=λi h st b hb=>by
  obtain⟨⟨old,he⟩,o,ho,hc,hd⟩:=st;rcases mem_cons.mp hb with rfl | hb
  ·exact⟨_,he,λv z=>by cases (show Data.fields _=Data.cell v from z)⟩
  ·have:b=it:=by simpa using hb
   subst this;exact⟨o,ho,λv z=>by rw[hd]at z; cases z⟩
 keep:=λi h h' st k=>by
  obtain⟨⟨old,he⟩,o,ho,r⟩:=st;exact⟨⟨old,k e (by simp) _ he⟩,o,k it (by simp) _ ho,r⟩
 item:=by
  intro X hP hw hK hc i pins s σ H E I hf st hg;subst hP hw hK;obtain⟨⟨old,he⟩,hit⟩:=st;obtain⟨xs,x,hq,hx⟩:=hg;obtain⟨its,rv,p,hz⟩:=I.tuple hq;obtain⟨u,hu,ru⟩:=rv.get hx;refine Hk he hit (show s.heap.IsTuple a its.toArray from p) (x:=u) (by simpa using hu) hne λh' ho hit' ht kp=>⟨.ref s.heap.objs.size,rfl,?_⟩;refine wpAny_letOwnedTupleGo_enum ho λh2 he2 sb2=>?_;have el:e<s.heap.objs.size:=lt_size he;have il:it<s.heap.objs.size:=by
   obtain⟨o,ho',_⟩:=hit;exact lt_size ho'
  have t2:h2.get? s.heap.objs.size=some { cls:=.type "tuple",data:=.seq #[.int (lo+i) s.toks,u] }:=(sb2.2 _ (ne_of_gt el)).trans ht;have hit2:h2.IsTupleIter it a (i+1):=by
   obtain⟨o,ho',r⟩:=hit';exact⟨o,(sb2.2 it (Ne.symm hne)).trans ho',r⟩
  have eqi:lo+(i:Int)+1=lo+((i+1:Nat):Int):=by omega
  refine⟨.ref s.heap.objs.size,upd H s.heap.objs.size (.tup [.int (lo+i),x]),?_,rfl,⟨_,x,rfl,I.hok.fresh (le_refl _),rfl,λys hy=>by rw[I.tuple_inj hy hq]; exact hx⟩,⟨⟨u,by rw[<- eqi]; exact he2⟩,hit2⟩,λb hb=>?_⟩
  ·refine I.turned2 (t':=s.toks+1) (hf e (by simp)) (hf it (by simp)) (le_refl _) (λb o n1 n2 q=>(sb2.2 b n1).trans (kp b o n1 n2 q)) ⟨⟨_,he2⟩,let ⟨o,h,_⟩:=hit2; ⟨o,h⟩⟩ ?_;refine⟨(by show 2<=sizeLine; decide),[.int (lo+i) s.toks,u],.cons ⟨_,rfl⟩ (.cons ru .nil),⟨_,t2,rfl,_,rfl⟩⟩
  ·rw[aF ?_]
   ·exact(hf b hb).1
   ·rcases mem_cons.mp hb with rfl | hb
    ·exact ne_of_lt el
    ·have:b=it:=by simpa using hb
     subst this;exact ne_of_lt il
 done:=by
  intro X hP hw hK hc i pins s σ H E I hf st hg;subst hP hw hK;obtain⟨⟨old,he⟩,hit⟩:=st;obtain⟨xs,hq,hx⟩:=hg;obtain⟨its,rv,p,hz⟩:=I.tuple hq;obtain⟨f0,f1,f2,f3,f4,f5⟩:=hf it (by simp);have hl:=rv.length;exact JZ (I.ok.hd hc) he hit (show s.heap.IsTuple a its.toArray from p) (by simp; omega) λh' eb=>⟨rfl,I.turned (t':=s.toks) (λb o hb e=>eb b o hb e) f0 f1 f3 f4 f5⟩
 self:=λA i s Q E st h=>by
  obtain⟨⟨old,he⟩,_⟩:=st;exact wpAny_pyIter_enum he h
inductive AB(K:Ln)(lo:Int)(R:(It->Hp->Prop))(x:V)(H1:Hp):Prop
 | mk:∀a xs,x = .ref a->SqT K H1 a xs->R (Ite K lo a) H1->AB K lo R x H1
def EF(K:Ln)(lo:Int)(ta:TE):TI:=λσ H R=>ta σ H (AB K lo R)
def vF{tg:Expr}{elts:List Expr}{x1:Nat}{tp:Pos}{R:It->Hp->Prop}{lo:Int}{a:Addr}{E:Ly}{tk:Nat}(I:Inv X pins σ H s)(q:R (Ite X.K lo a) H) :
  wpAny (model X.prog X.w) X.A (pyIter (.ref (s.heap.objs.size+1))) (PIE X pins σ (.Tuple elts x1 tp) R) E
   { s with heap:=(s.heap.push { cls:=.type "tuple_iterator",data:=.fields #[.ref a,.int 0 0] }).push { cls:=.type "enumerate",data:=.fields #[.none,.bool false,.ref s.heap.objs.size,rawInt lo,.none,.none] },toks:=tk }:=by
 have z:(s.heap.push { cls:=.type "tuple_iterator",data:=.fields #[.ref a,.int 0 0] }).objs.size=s.heap.objs.size+1:=size_push _ _;have he:IsEnum ((s.heap.push { cls:=.type "tuple_iterator",data:=.fields #[.ref a,.int 0 0] }).push { cls:=.type "enumerate",data:=.fields #[.none,.bool false,.ref s.heap.objs.size,rawInt lo,.none,.none] }) (s.heap.objs.size+1) s.heap.objs.size lo .none:=by
  have q:=get?_push_size (s.heap.push { cls:=.type "tuple_iterator",data:=.fields #[.ref a,.int 0 0] }) (o:={ cls:=.type "enumerate",data:=.fields #[.none,.bool false,.ref s.heap.objs.size,rawInt lo,.none,.none] }) rfl;rw[z]at q;exact q
 have I1:Inv X pins σ H { s with heap:=(s.heap.push { cls:=.type "tuple_iterator",data:=.fields #[.ref a,.int 0 0] }).push { cls:=.type "enumerate",data:=.fields #[.none,.bool false,.ref s.heap.objs.size,rawInt lo,.none,.none] },toks:=tk }:=
  I.kept λb o e=>get?_push_of_some _ (get?_push_of_some _ e)
 refine wpAny_pyIter_enum he ⟨s.heap.objs.size+1,[s.heap.objs.size+1,s.heap.objs.size],_,Ite X.K lo a,H,rfl,I1,EV lo a _ _ (ne_of_gt (lt_succ_self _)),⟨⟨.none,by simpa using he⟩,⟨_,get?_push_of_some _ (get?_push_size _ rfl),rfl,rfl⟩⟩,λb hb=>?_,q⟩;rcases mem_cons.mp hb with rfl | hb
 ·exact I.fpOk (le_succ _) (I.hok.fresh (le_succ _))
 ·have:b=s.heap.objs.size:=by simpa using hb
  subst this;exact I.fpOk (le_refl _) (I.hok.fresh (le_refl _))
def Il{ex:Expr}{elts:List Expr}{x1:Nat}{tp p pos:Pos}{ta:TE}(hm:X.mg "enumerate" = none)(ha:PE X ex ta)(hg:Gl X "enumerate":=by rfl)(hs:starEach [ex] X.env=[(false,eval ex X.env)]:=by rfl) :
  PI X (.Tuple elts x1 tp) (.Call (.Name "enumerate" p) [ex] [] pos) (EF X.K 0 ta):=by
 intro pins s σ H R I h;refine Call_ (lJ I hg hm boot_enumerate (PyProof.Rows.callWith_type1 (thn (eW ha aG hs pos pins s σ H (λvs H1=>∃a xs,vs=[V.ref a]/\SqT X.K H1 a xs/\R (Ite X.K 0 a) H1) I ?_) λus s1 ⟨vs,H1,I1,r1,q1⟩=>?_) hs rfl))
 ·have e:(λ(x:V)(H1:Hp)=>lV σ H1 λxs H2=>∃a ys,x::xs=[V.ref a]/\SqT X.K H2 a ys/\R (Ite X.K 0 a) H2)=AB X.K 0 R:=by
   funext x H1;exact propext ⟨λ⟨a,ys,z,h1,h2⟩=>⟨a,ys,(List.cons.inj z).1,h1,h2⟩,λ⟨a,ys,z,h1,h2⟩=>⟨a,ys,congrArg (· :: []) z,h1,h2⟩⟩
  exact Eq.mpr (congrArg (ta σ H) e) h
 ·obtain⟨a,xs,e,hq,q⟩:=q1;subst e;cases r1 with
  | cons r rr=>
   cases rr;cases (show _=Value.ref a from r);obtain⟨its,rv,⟨⟨c,dd,dt,sl⟩,ho,hc1,n,hd1⟩,hz⟩:=I1.tuple hq;dsimp only at hc1 hd1;subst hc1 hd1;refine callType_new PySem.F.called_enumerate (by decide) (PySem.F.typeCall_enumerate_1 _) (PySem.F.newCall_enumerate_1 _) (λobj=>PySem.F.args_object_init_2 obj _) PySem.F.entry_enumerate_new (AG a _ n dd sl) ⟨ho,⟨_,get?_push_size _ rfl,rfl⟩,?_⟩;rw[size_push];exact vF (tg:=ex) (tk:=s1.toks) I1 q
def Bw{M:Model}{A:Around}{E:Ly}{s:Shared}{pos:Pos}{T:String}{x:Sem Value}{rest:List (Bool × Sem Value)}{kws:List (Option Str × Sem Value)}{Q:Ly}(h1:rest.any (·.1)=false)(h2:kws.any (·.1.isNone)=false)(h3:kws.all (·.1.isSome)=true)
  (h:wpAny M A (spliced ((false,x)::rest)) (λvs s₁=>wpAny M A (evalAll (kws.map (·.2))) (λws s₂=>wpAny M A (call (.type T) vs ((kws.filterMap (·.1)).zip ws)) Q E s₂) E s₁) E s):wpAny M A (callWith pos (.type T) [] ((false,x)::rest) kws) Q E s:=by
 unfold callWith;refine wpAny_bind (wpAny_holding (evalArgs_kwB h3 (wpAny_mono h (λvs s1 q1=>wpAny_mono q1 (λws s2 q2=>wpAny_bind (wpAny_standAt ?_)) λ_ _ y=>y) λ_ _ y=>y)));have h4:(((false,x)::rest).any (·.1))=false:=by
  rw[any_cons,h1];rfl
 simp only[h4,h2,Bool.or_false];refine wpAny_bind (wpAny_pure ?_);exact wpAny_bind (wpAny_mono q2 (λr s3 q3=>wpAny_bind (wpAny_holding (wpAny_point (wpAny_pure q3)))) λ_ _ y=>y)
def Gj{ex:Expr}{elts:List Expr}{x1 k:Nat}{tp p pos cp kp:Pos}{ta:TE}(hm:X.mg "enumerate" = none)(ha:PE X ex ta)(hg:Gl X "enumerate":=by rfl)(hs:starEach [ex] X.env=[(false,eval ex X.env)]:=by rfl) :
  PI X (.Tuple elts x1 tp) (.Call (.Name "enumerate" p) [ex] [⟨some "start",.Constant (.int 1) k cp,kp⟩] pos) (EF X.K 1 ta):=by
 intro pins s σ H R I h;refine wpAny_Call_Name_kw (lJ I hg hm boot_enumerate ?_);rw[hs];refine Bw (x:=eval ex X.env) (rest:=[]) rfl rfl rfl ?_;have ha':=eW ha aG hs pos pins s σ H (λvs H1=>∃a xs,vs=[V.ref a]/\SqT X.K H1 a xs/\R (Ite X.K 1 a) H1) I (by
  have e:(λ(x:V)(H1:Hp)=>lV σ H1 λxs H2=>∃a ys,x::xs=[V.ref a]/\SqT X.K H2 a ys/\R (Ite X.K 1 a) H2)=AB X.K 1 R:=by
   funext x H1;exact propext ⟨λ⟨a,ys,z,h1,h2⟩=>⟨a,ys,(List.cons.inj z).1,h1,h2⟩,λ⟨a,ys,z,h1,h2⟩=>⟨a,ys,congrArg (· :: []) z,h1,h2⟩⟩
  exact Eq.mpr (congrArg (ta σ H) e) h)
 rw[hs]at ha';refine thn ha' λus s1 zQq=>?_;obtain⟨vs,H1,I1,r1,q1⟩:=zQq;refine kws_cons (wpAny_Constant_int ?_);refine kws_nil ?_;obtain⟨a,xs,e,hq,q⟩:=q1;subst e;cases r1 with
 | cons r rr=>
  cases rr;cases (show _=Value.ref a from r);have I2:=I1.tok (s1.toks+1);obtain⟨its,rv,⟨⟨c,dd,dt,sl⟩,ho,hc1,n,hd1⟩,hz⟩:=I2.tuple hq;dsimp only at hc1 hd1;subst hc1 hd1;refine sY (kw:=[("start",_)]) PySem.F.called_enumerate (nR _ _) (pP _ _) PySem.F.entry_enumerate_new (Bg a _ n dd sl _) (λobj=>EE obj _ _) (λobj=>nP obj _ _) ⟨ho,⟨_,get?_push_size _ rfl,rfl⟩,?_⟩;rw[size_push];exact vF (tg:=ex) (tk:=s1.toks+1) I2 q
end
section
variable{X:Cx}
inductive Ku(K:Ln)(xs:L6)(H:Hp)(Q:VK):Prop
 | mk:∀(p:Addr)(bs:List Bool),xs=[.ref p]->SqL K H p (bs.map V.bl)->Q (.bl (bs.all id)) H->Ku K xs H Q
def Hv{bs:List Bool}:∀{us:Lv},bZ (bs.map V.bl) us->∀i v,us.toArray[i]? = some v->v=Value.bool (bs.getD i false):=by
 intro us r i v hv;have hv:us[i]? = some v:=by simpa using hv
 have hl:i<us.length:=(List.getElem?_eq_some_iff.mp hv).1;have hn:i<bs.length:=by
  have:=r.length;rw[length_map]at this;omega
 obtain⟨u,hu,ru⟩:=r.get (i:=i) (x:=V.bl bs[i]) (by simp [hn]);rw[hv]at hu;cases hu;have e:v=Value.bool bs[i]:=ru;rw[e];simp [List.getD,hn]
def IA(bs:List Bool):((List.range bs.length).all λi=>bs.getD i false)=bs.all id:=by
 rw[Bool.eq_iff_iff,all_eq_true,all_eq_true];constructor
 ·intro h b hb;obtain⟨i,hi,e⟩:=List.mem_iff_getElem.mp hb;have:=h i (mem_range.mpr hi);simp [List.getD,hi,e]at this;simpa using this
 ·intro h i hi;have hi:=mem_range.mp hi;have:=h bs[i] (List.getElem_mem hi);simpa [List.getD,hi] using this
def Fa(hc:X.calm=true):gM X (.builtin "all") (Ku X.K):=by
 intro pins s σ H xs us Q I r h;obtain⟨p,bs,rfl,hs,q⟩:=h;cases r with
 | cons r1 r2=>
  cases r2;cases (show _=Value.ref p from r1);have hh:X.A.in1.handled=none:=I.ok.hd hc;refine call_all_walk ?_;obtain⟨its,rv,pl,hz⟩:=I.list hs;have hlen:its.toArray.size=bs.length:=by
   have:=rv.length;rw[length_map]at this;simp [this]
  have ne:p≠s.heap.objs.size:=by
   obtain⟨o,n,ho,_⟩:=pl;exact ne_of_lt (lt_size ho)
  refine wpAny_pyIter_list pl.isList ⟨s.heap.objs.size,_,_,_,_,_,(λi=>bs.getD i false),rfl,Walks.list hh s.heap.objs.size p ne its.toArray,⟨⟨_,get?_push_size _ rfl,rfl,rfl⟩,?_⟩,λi v s' Q' E' hv hq=>?_,λh' tk hk=>?_⟩
  ·obtain⟨o,n,ho,hc1,hd1,hd2⟩:=pl;exact⟨o,get?_push_of_some _ ho,hc1,n,hd2⟩
  ·rw[Hv rv i v hv];exact wpAny_truthy_bool hq
  ·rw[hlen,IA];refine⟨.bl _,H,I.kept (t':=tk) λb u e=>hk b u (by simpa using ne_of_lt (lt_size e)) (get?_push_of_some _ e),rfl,q⟩
def Ko{M:Model}{A:Around}{E:Ly}{s:Shared}{β : Type}{hi:Nat}(f:Nat->β->Sem (ForInStep β))(I:List Nat->β->Shared->Prop)(Q:β->Shared->Prop)
  (turn:∀x rest b s,I (x::rest) b s->wpAny M A (f x b) (λr s'=>match r with | .yield b'=>I rest b' s' | .done b'=>Q b' s') E s)
  (fin:∀b s,I [] b s->Q b s) (b:β) (h:I (List.range' 0 hi) b s):wpAny M A (forIn [0:hi] b f) Q E s:=by
 rw[Std.Legacy.Range.forIn_eq_forIn_range'];refine wpAny_forIn_list f I Q turn fin _ b ?_;simpa [Std.Legacy.Range.size] using h
def s0(l:Addr)(items:Array Value)(n:Nat)(dd:Option Addr)(sl:Lr)(x:Value)(e:Value->Bool)(j:Nat)(hj:j<items.size)(hy:e items[j]=true)(hn:∀i(h:i<j),e items[i]=false) :
  Meets (Builtin.«tuple.index» ⟨[.ref l,x],[]⟩) (λA R s=>s.heap.get? l=some { cls:=.type "tuple",dict:=dd,data:=.seq items n,slots:=sl }/\(∀y,y∈items->SeqAt.EqAt A.in1 s y x (e y))/\R (.ok (.ret (.int j s.toks))) { s with toks:=s.toks+1 }):=
 .of_wp λprog w A R s h=>by
  obtain⟨hp,g,d,tk,os⟩:=s;obtain⟨hl,he,h⟩:=h
  wp_walk using AutoSeq1.wpAny_loadPart' hl,Ko _ (λrest b s'=>b.1=none/\s'=⟨hp,g,d,tk,os⟩/\∃i,i<=j/\rest=List.range' i (items.size - i)) _
  case turn=>
   rintro y rest b s' ⟨hb,rfl,i,hi,hr⟩;have hlt:i<items.size:=by omega
   have e1:items.size - i=(items.size - (i+1))+1:=by omega
   rw[e1,List.range'_succ]at hr;obtain⟨rfl,rfl⟩:=List.cons.inj hr;have hg:items[y]? = some items[y]:=by simp [hlt]
   rw[hg];dsimp only;refine wpAny_bind (he items[y] (Array.getElem_mem hlt) prog w _ _ ?_);by_cases hyj:y=j
   ·subst hyj;rw[hy]
    wp_walk
    exact⟨_,rfl,h⟩
   ·rw[hn y (by omega)]
    wp_walk
    exact⟨rfl,rfl,y+1,by omega,rfl⟩
  case fin=>
   rintro ⟨b1,b2⟩ s' ⟨hb,rfl,i,hi,hr⟩;have:(List.range' i (items.size - i)).length=0:=by rw[<- hr]; rfl
   rw[List.length_range']at this;omega
  case h=>
   refine⟨rfl,rfl,0,zero_le _,?_⟩;simp
inductive CU(K:Ln)(x:V)(vs:L6)(H:Hp)(Q:VK):Prop
 | mk:∀(a:Addr)(ks:Lu)(k:Str)(j:Nat),x = .ref a->vs=[.str k]->SqT K H a (ks.map V.str)->ks[j]? = some k->(∀i,i<j->ks[i]? ≠ some k)->Q (.int j) H->CU K x vs H Q
def G9:MtR X "tuple.index" (CU X.K):=by
 intro pins s σ H x vs v us Q I rx rv h;obtain⟨a,ks,k,j,rfl,rfl,hs,hj,hn,q⟩:=h;cases (show v=Value.ref a from rx);cases rv with
 | cons r1 r2=>
  cases r2;obtain⟨t,e⟩:=r1;subst e;obtain⟨its,rv,⟨⟨c,dd,dt,sl⟩,ho,hc1,n,hd1⟩,hz⟩:=I.tuple hs;dsimp only at hc1 hd1;subst hc1 hd1;have hlen:its.length=ks.length:=by
   have:=rv.length;rw[length_map]at this;exact this.symm
  have hjl:j<ks.length:=(List.getElem?_eq_some_iff.mp hj).1;have at_:∀i(h:i<ks.length),∃t,its[i]? = some (Value.str ks[i] t):=λi h=>by
   obtain⟨u,hu,ru⟩:=rv.get (i:=i) (x:=V.str ks[i]) (by simp [h]);obtain⟨t,e⟩:=ru;exact⟨t,by rw[hu,e]⟩
  refine call_meets PySem.F.slot_tuple_index ⟨_,ho,rfl⟩ PySem.F.entry_tuple_index (PySem.F.args_tuple_index_2 _ _)
   (s0 a its.toArray n dd sl (.str k t) (λv=>match v with | .str y _=>y == k | _=>false) j (by simpa [hlen] using hjl) ?_ ?_) ⟨ho,λy hy=>?_,?_⟩
  ·obtain⟨t',e⟩:=at_ j hjl;have e2:its.toArray[j]'(by simpa [hlen] using hjl)=Value.str ks[j] t':=by
    have:=List.getElem?_eq_some_iff.mp e;simpa using this.2
   rw[e2];have:ks[j]=k:=by
    have:=List.getElem?_eq_some_iff.mp hj;exact this.2
   simp [this]
  ·intro i hi;have hil:i<ks.length:=by omega
   obtain⟨t',e⟩:=at_ i hil;have e2:its.toArray[i]'(by simp [hlen]; omega)=Value.str ks[i] t':=by
    have:=List.getElem?_eq_some_iff.mp e;simpa using this.2
   rw[e2];have ne:ks[i]≠k:=λz=>hn i hi (by rw[getElem?_eq_getElem hil,z]);simpa using ne
  ·obtain⟨i,hi,e⟩:=List.mem_iff_getElem.mp (show y∈its by simpa using hy);obtain⟨t',e'⟩:=at_ i (by omega);rw[getElem?_eq_getElem hi,e]at e';cases e';exact SeqAt.EqAt.str_str _ _ _ _
  ·exact⟨.int j,H,I.tok _,⟨_,rfl⟩,q⟩
end
structure Src(J:It)(H:Hp)(n:Nat)(Y:Nat->V->Hp->Prop):Prop where
 go:∀i H',i<n->aH H H'->J.go i H'
 yld:∀i H' x H'',i<n->aH H H'->J.yld i H' x H''->aH H' H''/\Y i x H''
 stop:∀H',aH H H'->J.stop n H'
section
variable{K:Ln}{H:Hp}{a:Addr}{xs:L6}
def bS(h:SqL K H a xs):Src (Itl K a) H xs.length (λi x _=>xs[i]? = some x) where
 go:=λi H' hi s=>⟨xs,xs[i],s.seq h,by simp [hi]⟩
 yld:=λi H' x H'' hi s y=>⟨by rw[y.1]; exact aH.refl _,y.2 xs (s.seq h)⟩
 stop:=λH' s=>⟨xs,s.seq h,le_refl _⟩
def sI(h:SqT K H a xs):Src (Itt K a) H xs.length (λi x _=>xs[i]? = some x) where
 go:=λi H' hi s=>⟨xs,xs[i],s.seqT h,by simp [hi]⟩
 yld:=λi H' x H'' hi s y=>⟨by rw[y.1]; exact aH.refl _,y.2 xs (s.seqT h)⟩
 stop:=λH' s=>⟨xs,s.seqT h,le_refl _⟩
def pY(lo:Int)(n:Nat):Src (Itr lo n) H n (λi x _=>x = .int (lo+i)) where
 go:=λi H' hi s=>hi
 yld:=λi H' x H'' hi s y=>⟨by rw[y.1]; exact aH.refl _,y.2⟩
 stop:=λH' s=>le_refl _
def tH(lo:Int)(h:SqT K H a xs):Src (Ite K lo a) H xs.length (λi x H'=>∃p v,x = .ref p/\H' p=some (.tup [.int (lo+i),v])/\xs[i]? = some v) where
 go:=λi H' hi s=>⟨xs,xs[i],s.seqT h,by simp [hi]⟩
 yld:=λi H' x H'' hi s ⟨p,v,e1,e2,e3,e4⟩=>⟨by rw[e3]; exact aD e2,p,v,e1,by rw[e3]; exact aB,e4 xs (s.seqT h)⟩
 stop:=λH' s=>⟨xs,s.seqT h,le_refl _⟩
end
def B9(H H':Hp):Prop:=∀b o,H b=some o->(∀zs,o ≠ .lst zs)->H' b=some o
def aH.n(s:aH H H'):B9 H H':=λb o e _=>s b o e
def wV(h:H D=some (.lst ys)):B9 H (upd H D (.lst zs)):=λb o e n=>by
 rw[aF (λz=>by rw[z,h]at e; exact n ys (Option.some.inj e).symm)];exact e
def c9(S:Src J H n Y)(hn:n<=sizeLine)(R:Nat->V->Hp->Prop)(stab:∀i y H1 H2,B9 H1 H2->R i y H1->R i y H2)(Z:St->Prop)(h0:Z (lM T F σ))
  (step:∀i x σc H3,i<n->Z σc->aH H H3->Y i x H3->∀(Q':St->V->Hp->Prop),(∀σ4 y H6,Z σ4->aH H3 H6->R i y H6->Q' σ4 y H6)->g x σc H3 λσ4 H4=>te σ4 H4 λy H6=>Q' σ4 y H6)
  (fin:∀D ys H',H D=none->aH H H'->H' D=some (.lst ys)->ys.length=n->(∀i y,ys[i]? = some y->R i y H')->Q (.ref D) H') :
  vH T F g Ft te σ Q J H:=by
 intro D hD;refine⟨λi m ys σc H2=>m=n - i/\i<=n/\Z σc/\aH H H2/\H2 D=some (.lst ys)/\ys.length=i/\∀j y,ys[j]? = some y->R j y H2,⟨n,rfl,zero_le _,h0,aD hD,aB,rfl,λj y e=>by simp at e⟩,?_⟩;rintro i m ys σc H2 ⟨rfl,hi,hz,hs,hd,hl,hr⟩;refine⟨hd,?_⟩;by_cases hlt:i<n
 ·refine .inr ⟨S.go i H2 hlt hs,by omega,λx H3 y=>?_⟩;obtain⟨s3,y3⟩:=S.yld i H2 x H3 hlt hs y;simp only[Ft,if_true];refine step i x σc H3 hlt hz (hs.trans s3) y3 (λσ4 y H6=>H6 D=some (.lst ys)/\∃m',m'<n - i/\m'=n - (i+1)/\i+1<=n/\Z σ4/\aH H (upd H6 D (.lst (ys++[y])))/\(upd H6 D (.lst (ys++[y]))) D=some (.lst (ys++[y]))/\(ys++[y]).length=i+1/\∀j z,(ys++[y])[j]? = some z->R j z (upd H6 D (.lst (ys++[y])))) λσ4 y H6 z4 s6 r6=>?_;have d6:H6 D=some (.lst ys):=s6 _ _ (s3 _ _ hd);have sU:∀{H1:Hp},aH H1 H6->H1 D=none->aH H1 (upd H6 D (.lst (ys++[y]))):=λ{H1} s b=>λc u e=>by
   rw[aF (bL e b)];exact s c u e
  refine⟨d6,n - (i+1),by omega,rfl,hlt,z4,sU ((hs.trans s3).trans s6) hD,aB,by rw[length_append,hl]; rfl,λj z e=>?_⟩;have up:=wV (zs:=ys++[y]) d6;by_cases hj:j<ys.length
  ·rw[getElem?_append_left hj]at e;exact stab _ _ _ _ up (stab _ _ _ _ (s3.trans s6).n (hr j z e))
  ·have hj2:j=ys.length:=by
    have:=(List.getElem?_eq_some_iff.mp e).1;rw[length_append]at this;simp at this;omega
   subst hj2;rw[getElem?_append_right (le_refl _)]at e;simp at e;subst e;rw[hl];exact stab _ _ _ _ up r6
 ·have hin:i=n:=by omega
  subst hin;exact .inl ⟨S.stop H2 hs,fin D ys H2 hD hs hd hl hr⟩
mutual
def iA:PyData->Bool
 | .none | .bool _ | .int _ | .str _=>true
 | .tuple ds=>cY ds
 | _=>false
def cY:Lw->Bool
 | []=>true
 | d::ds=>iA d && cY ds
end
mutual
def Den.n(e:B9 H H'):∀{d:PyData}{v:V},iA d=true->Den H d v->Den H' d v
 | .none,v,t,h=>by simp only[Den]at h ⊢; exact h
 | .bool b,v,t,h=>by simp only[Den]at h ⊢; exact h
 | .int i,v,t,h=>by simp only[Den]at h ⊢; exact h
 | .str x,v,t,h=>by simp only[Den]at h ⊢; exact h
 | .tuple ds,v,t,h=>by
  simp only[Den]at h ⊢;simp only[iA]at t;obtain⟨a,xs,e1,h1,h2⟩:=h;exact⟨a,xs,e1,e _ _ h1 (λzs z=>by cases z),aP.n e t h2⟩
 | .list ds,v,t,h=>by simp [iA]at t
 | .dict _,v,t,h=>by simp only[Den]at h
def aP.n(e:B9 H H'):∀{ds:Lw}{xs:L6},cY ds=true->aP H ds xs->aP H' ds xs
 | [],xs,t,h=>by simp only[aP]at h ⊢; exact h
 | d::ds,xs,t,h=>by
  simp only[aP]at h ⊢;simp only[cY,and_eq_true]at t;obtain⟨x,r,e1,h1,h2⟩:=h;exact⟨x,r,e1,Den.n e t.1 h1,aP.n e t.2 h2⟩
end
def tyD:PyData->Value
 | .none=>.type "NoneType"
 | .bool _=>.type "bool"
 | .int _=>.type "int"
 | .str _=>.type "str"
 | .tuple _=>.type "tuple"
 | .list _=>.type "list"
 | .dict _=>.type "dict"
def Den.ty{K:Ln}{H:Hp}:∀{d:PyData}{v:V},Den H d v->pX K H v (tyD d)
 | .none,v,h=>by simp only[Den]at h; subst h; exact .non
 | .bool b,v,h=>by simp only[Den]at h; subst h; exact .bl b
 | .int i,v,h=>by simp only[Den]at h; subst h; exact .int i
 | .str x,v,h=>by simp only[Den]at h; subst h; exact .str x
 | .tuple ds,v,h=>by
  simp only[Den]at h;obtain⟨a,xs,e1,h1,h2⟩:=h;subst e1;exact .tup h1
 | .list ds,v,h=>by
  simp only[Den]at h;obtain⟨a,xs,e1,h1,h2⟩:=h;subst e1;exact .lst h1
 | .dict _,v,h=>by simp only[Den]at h
def bR:∀{ns:Ls}{xs:L6},aP H (ns.map PyData.int) xs ↔ xs=ns.map V.int
 | [],xs=>by simp [aP]
 | n::ns,xs=>by
  simp only[map_cons,aP,Den];constructor
  ·rintro ⟨x,r,e1,e2,h⟩;subst e2;rw[e1,bR.mp h]
  ·intro h;exact⟨_,_,h,rfl,bR.mpr rfl⟩
def aP.length:∀{ds:Lw}{xs:L6},aP H ds xs->xs.length=ds.length
 | [],xs,h=>by simp only[aP]at h; subst h; rfl
 | d::ds,xs,h=>by
  simp only[aP]at h;obtain⟨x,r,e1,_,h2⟩:=h;rw[e1,length_cons,length_cons,aP.length h2]
def aP.get:∀{ds:Lw}{xs:L6}{i:Nat}{x:V},aP H ds xs->xs[i]? = some x->∃d,ds[i]? = some d/\Den H d x
 | [],xs,i,x,h,e=>by simp only[aP]at h; subst h; simp at e
 | d::ds,xs,0,x,h,e=>by
  simp only[aP]at h;obtain⟨y,r,e1,h1,_⟩:=h;subst e1;simp at e;subst e;exact⟨d,rfl,h1⟩
 | d::ds,xs,i+1,x,h,e=>by
  simp only[aP]at h;obtain⟨y,r,e1,_,h2⟩:=h;subst e1;simp at e;obtain⟨d',e',h'⟩:=aP.get h2 e;exact⟨d',by simpa using e',h'⟩
def HK{K:Ln}(d:PyData):PySem.W.kitOne K (tyD d) (.type "bool")=some (match d with | .bool _=>true | _=>false):=by
 cases d <;> rfl
def nC{K:Ln}(d:PyData):PySem.W.kitOne K (tyD d) (.type "int")=some (match d with | .bool _=>true | .int _=>true | _=>false):=by
 cases d <;> rfl
def EA{K:Ln}(d:PyData):PySem.W.kitOne K (tyD d) (.type "str")=some (match d with | .str _=>true | _=>false):=by
 cases d <;> rfl
def qP{K:Ln}(d:PyData):PySem.W.kitOne K (tyD d) (.type "tuple")=some (match d with | .tuple _=>true | _=>false):=by
 cases d <;> rfl
section
variable{X:Cx}
def cK(K:Ln)(hK:X.K=K:=by rfl):IxR X (Ih K):=by
 subst hK;exact JQ
def cS(K:Ln)(hK:X.K=K:=by rfl):IxR X (Kr K):=by
 subst hK;exact LN
def Ca(K:Ln)(hK:X.K=K:=by rfl):OpR X (compareOp .In) (rIn K false):=by
 subst hK;exact Em
def kH(K:Ln)(hK:X.K=K:=by rfl):OpR X (compareOp .NotIn) (rIn K true):=by
 subst hK;exact zO
inductive rLen(K:Ln)(xs:L6)(H:Hp)(Q:VK):Prop
 | mk:∀p ys,xs=[.ref p]->(SqL K H p ys\/SqT K H p ys)->Q (.int ys.length) H->rLen K xs H Q
def dD(K:Ln)(hK:X.K=K:=by rfl):gM X (.builtin "len") (rLen K):=by
 subst hK;exact λp1 s σ H xs us Q I v ⟨p,ys,a,b,c⟩=>AO p1 s σ H xs us Q I v ⟨p,ys,a,b,c⟩
def iQ(K:Ln)(hK:X.K=K:=by rfl):gM X (.builtin "isinstance") (Ks K):=by
 subst hK;exact Hr
def nF(K:Ln)(hc:X.calm=true:=by rfl)(hK:X.K=K:=by rfl):gM X (.builtin "sum") (Kp K):=by
 subst hK;exact FY hc
def yN(K:Ln)(hc:X.calm=true:=by rfl)(hK:X.K=K:=by rfl):gM X (.builtin "all") (Ku K):=by
 subst hK;exact Fa hc
inductive A7(K:Ln)(xs:L6)(H:Hp)(Q:VK):Prop
 | mk:∀p ys,xs=[.ref p]->((SqL K H p ys/\∀l,H l=none->Q (.ref l) (upd H l (.tup ys)))\/(SqT K H p ys/\Q (.ref p) H))->A7 K xs H Q
def mQ(K:Ln)(hK:X.K=K:=by rfl):gM X (.type "tuple") (A7 K):=by
 subst hK;exact λp1 s σ H xs us Q I v ⟨p,ys,a,b⟩=>wA p1 s σ H xs us Q I v ⟨p,ys,a,b⟩
def E8(K:Ln)(hK:X.K=K:=by rfl):MtR X "tuple.index" (CU K):=by
 subst hK;exact G9
def tV(K:Ln)(hK:X.K=K:=by rfl):SlR X (Kq K):=by
 subst hK;exact IV
def iK(K:Ln){es:List Expr}{k:Nat}{t:TGs}{n:Nat}{pos:Pos}(h:PGs X es t)(hc:X.calm=true:=by rfl)(hK:X.K=K:=by rfl)(hn:(assignEach es X.env).length=n:=by rfl)(hst:(assignEach es X.env).findIdx? (·.1)=none:=by rfl):PG X (.Tuple es k pos) (LT K n t):=by
 subst hK;exact K0 hc h hn hst
def bT(K:Ln){tg l:Expr}{tl:TE}(hl:PE X l tl)(hK:X.K=K:=by rfl):PI X tg l (KA K tl):=by
 subst hK;exact Ik hl
def zL(K:Ln)(hl:PE X l tl)(hK:X.K=K:=by rfl):PI X tg l (iTup K tl):=by
 subst hK;exact Kx hl
def Gi(K:Ln)(hm:X.mg "enumerate" = none)(ha:PE X ex ta)(hg:Gl X "enumerate":=by rfl)(hs:starEach [ex] X.env=[(false,eval ex X.env)]:=by rfl)(hK:X.K=K:=by rfl) :
  PI X (.Tuple elts x1 tp) (.Call (.Name "enumerate" p) [ex] [] pos) (EF K 0 ta):=by
 subst hK;exact Il hm ha hg hs
def Ei(K:Ln)(hm:X.mg "enumerate" = none)(ha:PE X ex ta)(hg:Gl X "enumerate":=by rfl)(hs:starEach [ex] X.env=[(false,eval ex X.env)]:=by rfl)(hK:X.K=K:=by rfl) :
  PI X (.Tuple elts x1 tp) (.Call (.Name "enumerate" p) [ex] [⟨some "start",.Constant (.int 1) k cp,kp⟩] pos) (EF K 1 ta):=by
 subst hK;exact Gj hm ha hg hs
end
inductive TupM(K:Ln)(H:Hp)(x:V):Prop
 | mk:∀p,x = .ref p->((∃o u,H p=some (.frz o u)/\o.cls = .type "tuple"/\o.dict=none)\/∃o,K.lookup p=some o/\o.cls = .type "tuple"/\o.dict=none)->TupM K H x
abbrev Ka(r:V->L6->Hp->VK->Prop)(Q:VK)(x:V):L6->Hp->Prop:=λxs H2=>r x xs H2 Q
abbrev Kb(K:Ln)(r:V->L6->Hp->VK->Prop)(t:TA)(σ : St)(Q:VK):V->Hp->Prop:=λx H1=>TupM K H1 x/\t σ H1 (Ka r Q x)
def tBMT(K:Ln)(r:V->L6->Hp->VK->Prop)(to:TE)(t:TA):TE:=λσ H Q=>to σ H (Kb K r t σ Q)
section
variable{X:Cx}{o e:Expr}{es:List Expr}{t:TA}{to:TE}{pos apos cpos:Pos}{name:Str}{id:String}{r:V->L6->Hp->VK->Prop}
def K4(K:Ln)(slot:Slot "tuple" name id)(hty:typeOf (.builtin id)=pure (.type "method_descriptor"))(hm:MtR X id r)(ho:PE X o to)(ha:PA X (e::es) t)(hK:X.K=K:=by rfl)
  (hbase:attributeBase o name X.env (eval o X.env)=eval o X.env:=by rfl)
  (hfew:((backTo cpos (starEach (e::es) X.env)).all (λx=>!x.1) && (backToKw cpos (keywordEach [] X.env)).all (λx=>x.1.isSome)
   && decide ((e::es).length+([]:List Keyword).length+(if ([]:List Keyword).isEmpty then 0 else 1)<30))=true:=by rfl)
  (hline:(apos.endLine == cpos.line)=true:=by rfl) (hs:starEach (e::es) X.env=(false,eval e X.env)::starEach es X.env:=by rfl) (hplain:(backTo cpos (starEach es X.env)).any (·.1)=false:=by rfl) :
  PE X (.Call (.Attribute o name apos) (e::es) [] cpos) (tBMT K r to t):=by
 subst hK;intro pins s σ H Q I h;refine wpAny_Call_method_late hbase hfew hline rfl (thn (ho pins s σ H _ I h) λv s1 zQq=>?_);obtain⟨x,H1,I1,r1,ty,q1⟩:=zQq;obtain⟨p,ex,ty⟩:=ty;subst ex;cases (show v=Value.ref p from r1);have hob:∃ob,s1.heap.get? p=some ob/\ob.cls = .type "tuple"/\ob.dict=none:=by
  rcases ty with ⟨ob,u,z1,z2,z3⟩ | ⟨ob,z1,z2,z3⟩
  ·obtain⟨g,_⟩:=I1.hok p _ z1;exact⟨ob,g,z2,z3⟩
  ·exact⟨ob,I1.kIn _ _ z1,z2,z3⟩
 obtain⟨ob,g1,g2,g3⟩:=hob;refine⟨"tuple",id,PySem.F.plainAttrs_tuple,slot,hty,⟨ob,g1,g2⟩,(λb eb=>by cases eb; exact⟨ob,g1,g3⟩),?_⟩;have hA:=ha cpos pins s1 σ H1 _ I1 q1;rw[hs]at hA ⊢;refine Calls.callWith_builtin (by show (false || (backTo cpos (starEach es X.env)).any (·.1))=false; rw[hplain] <;> rfl) (Calls.evalArgs_plain ?_);exact thn hA λus s2 ⟨vs,H2,I2,r2,q2⟩=>hm pins s2 σ H2 (.ref p) vs (.ref p) us Q I2 rfl r2 q2
end
def aP.app:∀{d1 d2:Lw}{x1 x2:L6},aP H d1 x1->aP H d2 x2->aP H (d1++d2) (x1++x2)
 | [],d2,x1,x2,h1,h2=>by
  simp only[aP]at h1;subst h1;exact h2
 | d::d1,d2,x1,x2,h1,h2=>by
  simp only[aP]at h1;obtain⟨x,r,e,k1,k2⟩:=h1;subst e;show aP H (d::(d1++d2)) (x::(r++x2));simp only[aP];exact⟨x,_,rfl,k1,k2.app h2⟩
def aT{α : Type}{xs:List α}{i:Int}{v:α}(h:0<=i)(e:xs[i.toNat]? = some v):atI xs i=some v:=by
 obtain⟨j,rfl⟩:=Int.eq_ofNat_of_zero_le h;exact cI (by simpa using e)
def Hi(ns ms:Ls):PyData.eqv (.tuple (ns.map .int)) (.tuple (ms.map .int))=decide (ns=ms):=by
 show PyData.eqvAll _ _=_;exact ked_eqvAll ns ms
def uY:∀ns:Ls,PyData.canLayAll0 (ns.map .int)=true
 | []=>rfl
 | n::ns=>by
  show (true && _)=true;rw[Bool.true_and];exact uY ns
def depth_ints:∀ns:Ls,PyData.depthAll (ns.map .int)=0
 | []=>rfl
 | n::ns=>by
  show max 0 (PyData.depthAll (ns.map .int))=0;rw[depth_ints ns];rfl
def rD(ns:Ls):SeqAt.shaped (.tuple (ns.map .int))=true:=by
 unfold SeqAt.shaped;have h1:PyData.canLay0 (.tuple (ns.map .int))=true:=uY ns;have h2:PyData.depth (.tuple (ns.map .int))=1:=by
  show PyData.depthAll (ns.map .int)+1=1;rw[depth_ints]
 rw[h1,h2];rfl
section
variable{X:Cx}{es:List Expr}{te:TE}{t:TA}
def aN{v:Const}{k:Nat}{p:Pos}(ha:PE X (.Constant v k p) te)(hr:PA X es t):PA X (.Constant v k p::es) (eU te t):=eW ha hr rfl
def aE{x:Str}{p:Pos}(ha:PE X (.Name x p) te)(hr:PA X es t):PA X (.Name x p::es) (eU te t):=eW ha hr rfl
def bV{l:List Expr}{k:Nat}{p:Pos}(ha:PE X (.Tuple l k p) te)(hr:PA X es t):PA X (.Tuple l k p::es) (eU te t):=eW ha hr rfl
def fH{l:List Expr}{p:Pos}(ha:PE X (.List l p) te)(hr:PA X es t):PA X (.List l p::es) (eU te t):=eW ha hr rfl
def bQ(ha:PE X (.BinOp a o b p) te)(hr:PA X es t):PA X (.BinOp a o b p::es) (eU te t):=eW ha hr rfl
def cG(ha:PE X (.Call f as kw p) te)(hr:PA X es t):PA X (.Call f as kw p::es) (eU te t):=eW ha hr rfl
def aM{a b:Expr}{p:Pos}(ha:PE X (.Subscript a b p) te)(hr:PA X es t):PA X (.Subscript a b p::es) (eU te t):=eW ha hr rfl
def gB(ha:PE X (.Attribute a x p) te)(hr:PA X es t):PA X (.Attribute a x p::es) (eU te t):=eW ha hr rfl
def uQ(ha:PE X (.Compare a ops bs p) te)(hr:PA X es t):PA X (.Compare a ops bs p::es) (eU te t):=eW ha hr rfl
def dY{a:Expr}{gs:List Comprehension}{sc:Scope}{p:Pos}(ha:PE X (.ListComp a gs sc p) te)(hr:PA X es t):PA X (.ListComp a gs sc p::es) (eU te t):=eW ha hr rfl
def Gq(ha:PE X (.IfExp a b c p) te)(hr:PA X es t):PA X (.IfExp a b c p::es) (eU te t):=eW ha hr rfl
end
def Iv{E:XK}{P:Program}{w:World}{K:Ln}{mg:Lp}{base:Heap}{N:Lu}{qual:Str}{scope:Scope}{f:Addr}{cd:Value}{A:Around}{outer:List Env}{s:Shared}{H:Hp}{CX:CXT} :
  Own ((AK CX P w K mg base N qual scope f cd A outer s H E).bod E):=⟨rfl,rfl,rfl⟩
end L2
namespace HT
open PySem PySem.Spec PyProof.Rows
section
variable{prog:Program}{w:World}{A:Around}{E:Ly}{s:Shared}
def nG{t sl:Addr}{items:Array Value}{vl vu:Value}{lo hi:Option Int}{Q:Ly}(ht:IsTup s.heap t items)(hs:s.heap.IsSliceOf sl vl vu .none)(pl:IsPart vl lo)(pu:IsPart vu hi)
  (hw:sIx items.size 0 lo=0/\sIx items.size items.size hi=items.size) (h:Q (.ref t) s):wpAny (model prog w) A (getItem (.ref t) (.ref sl)) Q E s:=by
 obtain⟨os,hos,hcs,hds⟩:=id hs;have hTs:s.TypeIs (.ref sl) "slice":=⟨os,hos,hcs⟩;unfold getItem
 try with_reducible refine wpAny_holding ?_
 first | refine wpAny_bind (wpAny_pure ?_) | skip
 refine wpAny_bind (wpAny_sequenceKey ht.typeIs (by decide) ?_);refine wpAny_bind (wpAny_callSpecial?_slot (name:=Str.ofString "__getitem__") ht.typeIs PyProof.Rows.slot_tuple_getitem
  (wpAny_call_entry PyProof.Rows.slot_tuple_getitem ht.typeIs entry_tuple_getitem ?_ (args_tuple_getitem _ _)))
 show wpAny _ _ (Builtin.Tuple.tupleItemsOf (.ref t) >>= _) _ _ s;refine wpAny_bind (tupleItemsOf_ ht ?_);refine wpAny_bind (wpAny_typeOf hTs ?_);rw[if_pos (by decide)];refine wpAny_bind (kA hs pl pu ?_);have hyes:(((sIx items.size 0 lo:Nat):Int) == 0 && (1:Int) == 1 && (sIx items.size items.size hi - sIx items.size 0 lo) == items.size)=true:=by
  rw[hw.1,hw.2];simp
 show wpAny _ _ (if (((sIx items.size 0 lo:Nat):Int) == 0 && (1:Int) == 1 && (sIx items.size items.size hi - sIx items.size 0 lo) == items.size)=true then _ else _) _ _ s;rw[if_pos hyes];refine wpAny_bind ?_;unfold Builtin.Tuple.tupleIsExact;refine wpAny_bind (wpAny_typeOf ht.typeIs (wpAny_pure ?_));rw[if_pos (by decide)];refine wpAny_bind (wpAny_rule ?_);exact wpAny_pure ⟨_,rfl,wpAny_pure h⟩
end
end HT
namespace L2
open PySem PySem.Spec PyProof.Rows
section
variable{X:Cx}
inductive Dh(K:Ln)(x:V)(lo:Option Int)(hi:Option Int)(H:Hp)(Q:VK):Prop
 | mk:∀a xs,x = .ref a->SqT K H a xs->((HT.sIx xs.length 0 lo=0/\HT.sIx xs.length xs.length hi=xs.length)->Q (.ref a) H)->(¬ (HT.sIx xs.length 0 lo=0/\HT.sIx xs.length xs.length hi=xs.length)->∀p,H p=none->Q (.ref p) (upd H p (.tup (i8 xs lo hi))))->Dh K x lo hi H Q
def Ea:SlR X (Dh X.K):=by
 intro pins s σ H x v vl vu lo hi sl Q I rx hs pl pu h;obtain⟨a,xs,rfl,hx,q1,q2⟩:=h;by_cases hw:HT.sIx xs.length 0 lo=0/\HT.sIx xs.length xs.length hi=xs.length
 ·cases rx;obtain⟨its,r,ht,hz⟩:=I.tuple hx;have hlen:its.toArray.size=xs.length:=by rw[size_toArray]; exact r.length.symm
  refine⟨"tuple",_,PyProof.Rows.slot_tuple_getitem.lookup,ht.typeIs,?_⟩;exact HT.nG ht hs pl pu (by rw[hlen]; exact hw) ⟨.ref a,H,I,rfl,q1 hw⟩
 ·exact Kk pins s σ H (.ref a) v vl vu lo hi sl Q I rx hs pl pu ⟨a,xs,rfl,hx,hw,q2 hw⟩
def mZ(K:Ln)(hK:X.K=K:=by rfl):SlR X (Dh K):=by
 subst hK;exact Ea
end
def gC{J:It}{H0 H:Hp}{n:Nat}{Y:Nat->V->Hp->Prop}{g:TG}{tb:TS}{D:Ends}{σ : St}(S:Src J H0 n Y)(Pv:Nat->St->Hp->Prop)(h0:Pv 0 σ H)(keep:∀i σ H',Pv i σ H'->aH H0 H')
  (step:∀i x σ H1 H2,i<n->Pv i σ H1->aH H1 H2->Y i x H2->g x σ H2 λσ2 H3=>tb (D.loop (Pv (i+1))) σ2 H3) (fin:∀σ H',Pv n σ H'->D.nx σ H') :
  ∃W:Nat->Nat->St->Hp->Prop,(∃m,W 0 m σ H)/\∀i m σ H,W i m σ H->
   (J.stop i H/\D.nx σ H)\/(J.go i H/\∃N:St->Hp->Prop,(∀σ' H',N σ' H'->∃m',m'<m/\W (i+1) m' σ' H')/\∀x H',J.yld i H x H'->g x σ H' λσ2 H2=>tb (D.loop (N)) σ2 H2):=by
 refine⟨λi m σ H'=>m=n - i/\i<=n/\Pv i σ H',⟨n,rfl,zero_le _,h0⟩,?_⟩;rintro i m σ H1 ⟨rfl,hi,p⟩;have s1:=keep i σ H1 p;by_cases hlt:i<n
 ·refine .inr ⟨S.go i H1 hlt s1,Pv (i+1),λσ' H' p'=>⟨n - (i+1),by omega,rfl,hlt,p'⟩,λx H' y=>?_⟩;obtain⟨s2,y2⟩:=S.yld i H1 x H' hlt s1 y;exact step i x σ H1 H' hlt p s2 y2
 ·have hin:i=n:=by omega
  subst hin;exact .inl ⟨S.stop H1 s1,fin σ H1 p⟩
def fQ(S:Src J H n Y)(hn:n<=sizeLine)(t:Nat->Bool)(f:Nat->V)(Z:St->Prop)(h0:Z (lM T F σ))
  (step:∀i x σc H3,i<n->Z σc->aH H H3->Y i x H3->∀(Q1:Hp->Prop)(Q2:St->V->Hp->Prop)(Q3:St->Hp->Prop),(∀σ4,Z σ4->t i=true->Q2 σ4 (f i) H3)->(∀σ4,Z σ4->t i=false->Q3 σ4 H3)->
   g x σc H3 λσ4 H4=>tc σ4 H4 λb H5=>if b=true then te σ4 H5 λy H6=>Q2 σ4 y H6 else Q3 σ4 H5)
  (fin:∀D H',H D=none->aH H H'->H' D=some (.lst (((List.range n).filter t).map f))->Q (.ref D) H') :
  vH T F g tc te σ Q J H:=by
 intro D hD;refine⟨λi m ys σc H2=>m=n - i/\i<=n/\Z σc/\aH H H2/\H2 D=some (.lst ys)/\ys=((List.range i).filter t).map f,⟨n,rfl,zero_le _,h0,aD hD,aB,rfl⟩,?_⟩;rintro i m ys σc H2 ⟨rfl,hi,hz,hs,hd,hy⟩;refine⟨hd,?_⟩;by_cases hlt:i<n
 ·refine .inr ⟨S.go i H2 hlt hs,?_,λx H3 y=>?_⟩
  ·rw[hy,length_map];have:=length_filter_le t (List.range i);rw[length_range]at this;omega
  obtain⟨s3,y3⟩:=S.yld i H2 x H3 hlt hs y;have d3:H3 D=some (.lst ys):=s3 _ _ hd;refine step i x σc H3 hlt hz (hs.trans s3) y3 (λ_=>True) (λσ4 y H6=>H6 D=some (.lst ys)/\∃m',m'<n - i/\m'=n - (i+1)/\i+1<=n/\Z σ4/\aH H (upd H6 D (.lst (ys++[y])))/\(upd H6 D (.lst (ys++[y]))) D=some (.lst (ys++[y]))/\(ys++[y])=((List.range (i+1)).filter t).map f)
   (λσ4 H5=>∃m',m'<n - i/\m'=n - (i+1)/\i+1<=n/\Z σ4/\aH H H5/\H5 D=some (.lst ys)/\ys=((List.range (i+1)).filter t).map f) (λσ4 z4 ht=>?_) λσ4 z4 ht=>?_
  ·refine⟨d3,n - (i+1),by omega,rfl,hlt,z4,λc u e=>?_,aB,?_⟩
   ·rw[aF (bL e hD)];exact(hs.trans s3) c u e
   ·rw[List.range_succ,List.filter_append,map_append,<- hy];simp [ht]
  ·refine⟨n - (i+1),by omega,rfl,hlt,z4,hs.trans s3,d3,?_⟩;rw[List.range_succ,List.filter_append,map_append,<- hy];simp [ht]
 ·have hin:i=n:=by omega
  subst hin;exact .inl ⟨S.stop H2 hs,fin D H2 hD hs (by rw[hd,hy])⟩
section
variable{X:Cx}{pins:Lo}{σ : St}{H:Hp}{s:Shared}
end
section
variable{K:Ln}{H:Hp}{a:Addr}{xs:L6}
end
def zE(a:Value):checkBuiltinCall "sorted" ⟨[a],[]⟩=pure ():=by kernel_rfl
section
variable{X:Cx}
def FJ{prog:Program}{w:World}{kvs:List (Key × Value)}{ns:Ls}(hk:kvs.map (·.1)=ns.map Sum.inl):∀{acc:Lv},acc.length=kvs.length->(∀(j:Nat)(v:Value),acc[j]? = some v->∃k x,kvs[j]? = some (k,x)/\(cH prog w).is k v=true)->IntsAre acc ns:=by
 induction kvs generalizing ns with
 | nil=>
  intro acc hl _;cases ns with
  | nil=>
   cases acc with
   | nil=>exact .nil
   | cons _ _=>simp at hl
  | cons _ _=>simp at hk
 | cons kv kvs ih=>
  intro acc hl h;cases ns with
  | nil=>simp at hk
  | cons n ns=>
   cases acc with
   | nil=>simp at hl
   | cons v acc=>
    simp only[map_cons,List.cons.injEq]at hk;obtain⟨k,x,h1,h2⟩:=h 0 v rfl;have h1:kv=(k,x):=by simpa using h1
    subst h1;have hk1:k=Sum.inl n:=hk.1;subst hk1;have hv:∃t,v = .int n t:=by
     have h2:Value.isInt n v=true:=h2;cases v <;> simp_all [Value.isInt]
    obtain⟨t,rfl⟩:=hv;exact .cons n t (ih hk.2 (by simpa using hl) λj v hv=>by
     obtain⟨k,x,h1,h2⟩:=h (j+1) v (by simpa using hv);exact⟨k,x,by simpa using h1,h2⟩)
def D8{κ : Type}{kvs:List (κ × V)}{vs:List (κ × Value)}(r:KV kvs vs):kvs.map (·.1)=vs.map (·.1):=by
 induction r with
 | nil=>rfl
 | cons h _ ih=>
  rw[map_cons,map_cons,ih];congr 1;exact h.1
inductive tLRX(Q:VK)(vs:L6)(H1:Hp):Prop
 | mk:∀i j:Int,vs=[.int i,.int j]->(-(2 ^ 62)<=i/\i<2 ^ 62/\-(2 ^ 62)<=j/\j<2 ^ 62)->(j - i).toNat<=sizeLine->(∀p,H1 p=none->Q (.ref p) (upd H1 p (.lst ((List.range (j - i).toNat).map λk=>.int (i+(k:Nat))))))->tLRX Q vs H1
def tLR(ta:TA):TE:=λσ H Q=>ta σ H (tLRX Q)
def CC:∀{n:Nat}{us:Lv},us.length=n->(∀(j:Nat) v,us[j]? = some v->∃t,v=Value.int (i+(j:Int) * 1) t)->bZ ((List.range n).map λk=>V.int (i+(k:Nat))) us:=by
 intro n us hl h;have key:∀{n:Nat}{us:Lv}{f:Nat->Int},us.length=n->(∀(j:Nat) v,us[j]? = some v->∃t,v=Value.int (f j) t)->bZ ((List.range n).map λk=>V.int (f k)) us:=by
  intro n
  induction n with
  | zero=>
   intro us f hl _;cases us with
   | nil=>exact .nil
   | cons _ _=>simp at hl
  | succ n ih=>
   intro us f hl h;cases us with
   | nil=>simp at hl
   | cons u us=>
    rw[range_succ_eq_map,map_cons,map_map];obtain⟨t,e⟩:=h 0 u rfl;exact .cons ⟨t,e⟩ (ih (f:=λk=>f (k+1)) (by simpa using hl) λj v hv=>h (j+1) v (by simpa using hv))
 exact key hl λj v hv=>by
  obtain⟨t,e⟩:=h j v hv;exact⟨t,by rw[e,Int.mul_one]⟩
def uO(hc:X.calm=true)(hgL:Gl X "list")(hmL:X.mg "list" = none)(hg:Gl X "range")(hm:X.mg "range" = none)(ha:PA X [a,b] ta)
  (hs:starEach [a,b] X.env=[(false,eval a X.env),(false,eval b X.env)]:=by rfl) (hs2:starEach [b] X.env=[(false,eval b X.env)]:=by rfl)
  (hs3:starEach [.Call (.Name "range" p2) [a,b] [] pos2] X.env=[(false,eval (.Call (.Name "range" p2) [a,b] [] pos2) X.env)]:=by rfl) :
  PE X (.Call (.Name "list" p) [.Call (.Name "range" p2) [a,b] [] pos2] [] pos) (tLR ta):=by
 intro pins s σ H Q I h;refine wpAny_Call_Name_kw (lJ I hgL hmL boot_list ?_);refine PyProof.Rows.callWith_type1 ?_ hs3 rfl;rw[hs3];show wpAny _ _ (spliced ((false,eval (.Call (.Name "range" p2) [a,b] [] pos2) X.env)::[])) _ _ s;refine Calls.spliced_cons ?_;refine Call_ (lJ I hg hm boot_range (PyProof.Rows.callWith_type1 (thn (ha pos2 pins s σ H _ I h) λus s1 zQq=>?_) (by rw[hs,hs2]) (by rw[hs2]; rfl)));obtain⟨vs,H1,I1,r1,q1⟩:=zQq;obtain⟨i,j,e,⟨q1,q2,q3,q4⟩,hz,q⟩:=q1;subst e;cases r1 with
 | cons r rr=>
  cases rr with
  | cons r' rr=>
   cases rr;obtain⟨t,rfl⟩:=r;obtain⟨t',rfl⟩:=r';refine call_range_2 ?_;refine Calls.spliced_nil ?_;have I2:Inv X pins σ H1 { s1 with heap:=s1.heap.push { cls:=.type "range",data:=.fields #[.int i t,.int j t',.int 1 s1.toks] },toks:=s1.toks+1 }:=I1.kept λb o e=>get?_push_of_some _ e;refine call_list_range (n:=(j - i).toNat) (I.ok.hd hc) (IsRange.new ..) (small_one q1 q2 q3 q4) (by rw[rangeSize_one]; split <;> omega) (le_trans hz (by decide)) λh' tk acc c' kp g' hit=>?_;refine⟨.ref _,upd H1 _ (.lst ((List.range (j - i).toNat).map λk=>.int (i+(k:Nat)))),I2.laid (t':=tk) kp (le_refl _) ?_,rfl,q _ (I2.hok.fresh (le_refl _))⟩;refine⟨by rw[length_map,length_range]; exact hz,acc.toList,c',CC (by have:=hit.1; simpa using this) λk v hv=>hit.2 k v (by simpa using hv),?_⟩;simpa using g'
inductive GY(x:V)(vs:L6)(H:Hp)(Q:VK):Prop
 | mk:∀a kvs k v,x = .ref a->vs=[kV k]->H a=some (.dK kvs)->dE kvs k=some v->Q v (upd H a (.dK (eY kvs k)))->GY x vs H Q
def pC:MtR X "dict.pop" GY:=by
 intro pins s σ H x vs v us Q I rx rv h;obtain⟨a,kvs,k,y,rfl,rfl,hd,hk,q⟩:=h;cases (show v=Value.ref a from rx);obtain⟨u,rfl,ru⟩:=wE rv;exact d_pop I hd ru hk (.inl rfl) λw' s' I' rw'=>⟨y,_,I',rw',q⟩
def K2(c:Maker X.prog X.w X.K X.mg X.base x C k ps sp)(hr:Room (k+1) X.A)(hx:fE (CXE X.prog X.w) X E)(hg:Gl X x:=by rfl)(hdb:(x == ("__debug__" : Str))=false:=by decide) :
  PE X (.Call (.Name x p) [] [] pos) (tMk C sp E lV):=by
 obtain⟨f,fd,F,M,hm,hb⟩:=c.ex;intro pins s σ H Q I h;exact Gn M F hr hg hm hb .nil hx hdb pins s σ H Q I (wJ h)
inductive tLTX(K:Ln)(Q:(Bool->Hp->Prop))(x:V)(H':Hp):Prop
 | mk:∀a xs,x = .ref a->SqL K H' a xs->Q (!xs.isEmpty) H'->tLTX K Q x H'
def tLT(K:Ln)(ta:TE):TT:=λσ H Q=>ta σ H (tLTX K Q)
def iZ(K:Ln)(ha:PE X a ta)(he:∀whole,isTrue a X.env whole=(do let v <- whole; standAt a.pos; holding [v] (truthy v)):=by intro _; rfl)(hK:X.K=K:=by rfl):PT X a (tLT K ta):=by
 subst hK;intro pins s σ H Q I h;refine isTrue_plain (thn (ha pins s σ H _ I h) λv s1 ⟨x,H1,I1,r1,a1,xs,ex,hq,q1⟩=>KI pins s1 σ H1 x v Q I1 r1 ?_) (he _);subst ex;exact⟨_,.inl ⟨xs,hq,rfl⟩,q1⟩
def iD(K:Ln){T id:String}{name:Str}{r:V->L6->Hp->VK->Prop}{o e:Expr}{es:List Expr}{to:TE}{t:TA}{apos cpos:Pos}(pa:PlainAttrs T)(slot:Slot T name id)(hty:typeOf (.builtin id)=pure (.type "method_descriptor"))(hm:MtR X id r)(ho:PE X o to)(ha:PA X (e::es) t)
  (hbase:attributeBase o name X.env (eval o X.env)=eval o X.env:=by rfl)
  (hfew:((backTo cpos (starEach (e::es) X.env)).all (λx=>!x.1) && (backToKw cpos (keywordEach [] X.env)).all (λx=>x.1.isSome)
   && decide ((e::es).length+([]:List Keyword).length+(if ([]:List Keyword).isEmpty then 0 else 1)<30))=true:=by rfl)
  (hline:(apos.endLine == cpos.line)=true:=by rfl) (hs:starEach (e::es) X.env=(false,eval e X.env)::starEach es X.env:=by rfl) (hplain:(backTo cpos (starEach es X.env)).any (·.1)=false:=by rfl) (hK:X.K=K:=by rfl) :
  PE X (.Call (.Attribute o name apos) (e::es) [] cpos) (tBM K T r to t):=by
 subst hK;exact pe_bm pa slot hty hm ho ha hbase hfew hline hs hplain
def Its(x:Str):It:=⟨λi _=>i<x.cps.size,λi H v H'=>H'=H/\∃c,x.cps[i]? = some c/\v = .str ⟨#[c]⟩,λi _=>x.cps.size<=i⟩
def Fr{P:Program}{w:World}{K:Ln}{tg:Expr}(x:Str)(t:Tok)(it:Addr)(hx:(x.cps.all λc=>decide (c<128))=true):Turn P w K tg (Its x) [it] it (λi h=>h.IsStrIter it "str_ascii_iterator" x t i) where
 mem:=by simp
 obj:=λi h st b hb=>by
  have e:b=it:=by simpa using hb
  subst e;obtain⟨o,e,c,d⟩:=st;exact⟨o,e,λv z=>by rw[d]at z; cases z⟩
 keep:=λi h h' st k=>by
  obtain⟨o,e,r⟩:=st;exact⟨o,k it (by simp) o e,r⟩
 item:=by
  intro X hP hw hK hc i pins s σ H E I hf st hg;subst hP hw hK;have hg:i<x.cps.size:=hg;obtain⟨f0,f1,f2,f3,f4,f5⟩:=hf it (by simp);refine wpAny_pyNext_ascii_item st (c:=x.cps[i]) (by simp [hg]) λh' st' sb=>?_;have I1:Inv X pins σ H { s with heap:=h',toks:=s.toks+1 }:=I.turned (t':=s.toks+1) (λb o hb e=>(sb.2 b hb).trans e) f0 f1 f3 f4 f5;obtain⟨o,e,c,d⟩:=id st';exact⟨_,rfl,Bb (s:={ s with heap:=h',toks:=s.toks+1 }) e c d (by decide) ⟨.str ⟨#[x.cps[i]]⟩,H,I1,⟨_,rfl⟩,⟨rfl,_,by simp [hg],rfl⟩,st',λb hb=>(hf b hb).1⟩⟩
 done:=by
  intro X hP hw hK hc i pins s σ H E I hf st hg;subst hP hw hK;have hg:x.cps.size<=i:=hg;obtain⟨f0,f1,f2,f3,f4,f5⟩:=hf it (by simp);exact wpAny_pyNext_ascii_end (I.ok.hd hc) st (by simp [hg]) λh' eb=>⟨rfl,I.turned (t':=s.toks) (λb o hb e=>eb b o hb e) f0 f1 f3 f4 f5⟩
 self:=λ_ _ _ _ _ st h=>wpAny_pyIter_striter_ascii st h
inductive J8(R:(It->Hp->Prop))(v:V)(H1:Hp):Prop
 | mk:∀x:Str,v = .str x->(x.cps.all λc=>decide (c<128))=true->R (Its x) H1->J8 R v H1
def iStr(tl:TE):TI:=λσ H R=>tl σ H (J8 R)
def Kz{tg l:Expr}{tl:TE}(hl:PE X l tl):PI X tg l (iStr tl):=by
 intro pins s σ H R I h;refine thn (hl pins s σ H _ I h) λv s1 zQq=>?_;obtain⟨y,H1,I1,r1,q1⟩:=zQq;obtain⟨x,e,hx,q⟩:=q1;subst e;obtain⟨t,rfl⟩:=r1;refine wpAny_pyIter_strU ?_;have ht:strIterType x = "str_ascii_iterator":=by unfold strIterType; rw[if_pos hx]
 rw[ht];refine⟨s1.heap.objs.size,[s1.heap.objs.size],_,_,H1,rfl,I1.kept (t':=s1.toks) λb o e=>get?_push_of_some _ e,Fr x t _ hx,⟨_,get?_push_size _ rfl,rfl,rfl⟩,λb hb=>?_,q⟩;have e:b=s1.heap.objs.size:=by simpa using hb
 subst e;exact I1.fpOk (le_refl _) (I1.hok.fresh (le_refl _))
def IT(x:Str):Src (Its x) H x.cps.size (λi v _=>∃c,x.cps[i]? = some c/\v = .str ⟨#[c]⟩) where
 go:=λi H' hi s=>hi
 yld:=λi H' v H'' hi s y=>⟨by rw[y.1]; exact aH.refl _,y.2⟩
 stop:=λH' s=>le_refl _
end
section
variable{X:Cx}{pins:Lo}{σ : St}{H:Hp}{s:Shared}
end
section
variable{X:Cx}
def Itd(a:Addr)(o:Obj)(kvs:Lz):It:=⟨λi H=>H a=some (.frz o (.dK kvs))/\i<kvs.length,λi H v H'=>H'=H/\∃k y,kvs[i]? = some (k,y)/\v=kV k,λi H=>H a=some (.frz o (.dK kvs))/\kvs.length<=i⟩
def Bd(ok:HOk P w H h)(e:H a=some (.frz o (.dK kvs))):h.get? a=some o/\(a == sysModules)=false/\∃vs es ep,KV kvs vs/\o.data = .dict es ep/\h.DictAt (cH P w) a vs ep:=by
 obtain⟨g,z,n,vs,kv,o',es,ep,g',r1,r2,r3⟩:=(show eA P w H h a (.frz o (.dK kvs)) from ok a _ e);have e':o'=o:=Option.some.inj (g'.symm.trans g);subst e';exact⟨g,n,vs,es,ep,kv,r2,o',es,g,r1,r2,r3⟩
def EW{P:Program}{w:World}{K:Ln}{tg:Expr}(a it:Addr)(o:Obj)(kvs:Lz)(es:Array DictEntry)(ep:Nat)(ho:o.data = .dict es ep):Turn P w K tg (Itd a o kvs) [it] it (λi h=>h.IsKeyIter it a i kvs.length ep) where
 mem:=by simp
 obj:=λi h st b hb=>by
  have e:b=it:=by simpa using hb
  subst e;obtain⟨o,e,c,d⟩:=st;exact⟨o,e,λv z=>by rw[d]at z; cases z⟩
 keep:=λi h h' st k=>by
  obtain⟨o,e,r⟩:=st;exact⟨o,k it (by simp) o e,r⟩
 item:=by
  intro X hP hw hK hc i pins s σ H E I hf st hg;subst hP hw hK;obtain⟨hfz,hlt⟩:=hg;obtain⟨g,n,vs,es',ep',kv,e1,dat⟩:=Bd I.hok hfz;rw[ho]at e1;cases e1;have hl:vs.length=kvs.length:=kv.length.symm;rw[<- hl]at st;have hlt':i<vs.length:=by omega
  obtain⟨f0,f1,f2,f3,f4,f5⟩:=hf it (by simp);refine wpAny_pyNext_dict_item st dat (k:=vs[i].1) (v:=vs[i].2) (getElem?_eq_getElem hlt') λkey h' hk st' sb=>?_;have I1:Inv X pins σ H { s with heap:=h' }:=I.turned (t':=s.toks) (λb o hb e=>(sb.2 b hb).trans e) f0 f1 f3 f4 f5;obtain⟨o',e,c,d⟩:=id st';rw[hl]at st';have hkey:kvs[i].1=vs[i].1:=by
   have h1:=congrArg (λl=>l[i]?) (D8 kv);simp only[getElem?_map]at h1;rw[getElem?_eq_getElem hlt,getElem?_eq_getElem hlt']at h1;exact Option.some.inj h1
  refine⟨key,rfl,Bb (s:={ s with heap:=h' }) e c d (by decide) ⟨kV kvs[i].1,H,I1,?_,⟨rfl,kvs[i].1,kvs[i].2,getElem?_eq_getElem hlt,rfl⟩,st',λb hb=>(hf b hb).1⟩⟩;rw[hkey];rcases dN (k:=vs[i].1) (v:=key) hk with ⟨j,t,e1,e2⟩ | ⟨y,t,e1,e2⟩
  ·rw[e1,e2];exact⟨t,rfl⟩
  ·rw[e1,e2];exact⟨t,rfl⟩
 done:=by
  intro X hP hw hK hc i pins s σ H E I hf st hg;subst hP hw hK;obtain⟨hfz,hle⟩:=hg;obtain⟨g,n,vs,es',ep',kv,e1,dat⟩:=Bd I.hok hfz;rw[ho]at e1;cases e1;have hl:vs.length=kvs.length:=kv.length.symm;rw[<- hl]at st;obtain⟨f0,f1,f2,f3,f4,f5⟩:=hf it (by simp);exact wpAny_pyNext_dict_end (I.ok.hd hc) st dat (getElem?_eq_none (by omega)) λh' eb=>⟨rfl,I.turned (t':=s.toks) (λb o hb e=>eb b o hb e) f0 f1 f3 f4 f5⟩
 self:=λ_ _ _ _ _ st h=>wpAny_pyIter_keyiter st h
inductive HW(R:(It->Hp->Prop))(x:V)(H1:Hp):Prop
 | mk:∀a kvs,x = .ref a->H1 a=some (.dK kvs)->(∀o,R (Itd a o kvs) (upd H1 a (.frz o (.dK kvs))))->HW R x H1
def iDict(tl:TE):TI:=λσ H R=>tl σ H (HW R)
def Im{tg l:Expr}{tl:TE}(hl:PE X l tl):PI X tg l (iDict tl):=by
 intro pins s σ H R I h;refine thn (hl pins s σ H _ I h) λv s1 zQq=>?_;obtain⟨x,H1,I1,r1,q1⟩:=zQq;obtain⟨a,kvs,e,hd,q⟩:=q1;subst e;cases (show v=Value.ref a from r1);obtain⟨z,n,vs,kv,o,es,ep,g,r⟩:=Bm I1.hok hd;have I2:Inv X pins σ (upd H1 a (.frz o (.dK kvs))) { s1 with heap:=s1.heap,toks:=s1.toks }:=I1.write (x:=a) (e:=a) (by rw[hd]; exact True.intro) (.inl rfl) (λb u _ e=>e) ⟨o,g⟩ ⟨g,z,n,vs,kv,o,es,ep,g,r⟩;have dat:s1.heap.DictAt (cH X.prog X.w) a vs ep:=⟨o,es,g,r⟩;refine wpAny_pyIter_dict n dat ?_;refine⟨s1.heap.objs.size,[s1.heap.objs.size],_,_,upd H1 a (.frz o (.dK kvs)),rfl,I2.kept (t':=s1.toks) λb o e=>get?_push_of_some _ e,EW a _ o kvs es ep r.2.1,⟨_,get?_push_size _ rfl,rfl,by rw[kv.length]; rfl⟩,λb hb=>?_,q o⟩;have e:b=s1.heap.objs.size:=by simpa using hb
 subst e;exact I2.fpOk (le_refl _) (I2.hok.fresh (le_refl _))
def GB(h:H a=some (.frz o (.dK kvs))):Src (Itd a o kvs) H kvs.length (λi v _=>∃k y,kvs[i]? = some (k,y)/\v=kV k) where
 go:=λi H' hi s=>⟨s _ _ h,hi⟩
 yld:=λi H' v H'' hi s y=>⟨by rw[y.1]; exact aH.refl _,y.2⟩
 stop:=λH' s=>⟨s _ _ h,le_refl _⟩
end
end L2
namespace TS
open PySem PyProof.Rows
def kk(κ : KeyKind)(p:Keyed):κ.α:=(κ.keyOf p.1).getD κ.dflt
def Ky(κ : KeyKind)(p:Keyed):Prop:=∃a,κ.keyOf p.1=some a
def Le(κ : KeyKind)(p q:Keyed):Prop:=κ.kle (kk κ p) (kk κ q)
def AllK(κ : KeyKind)(xs:Array Keyed):Prop:=∀(i:Nat) p,xs[i]? = some p->Ky κ p
section
variable{prog:Program}{w:World}{A:Around}{E:Ly}{s:Shared}{κ : KeyKind}
def wp_lt(hO:κ.OneLt){st:SortSt}{x y:Keyed}{Q:Option Bool->SortSt->Prop}(hk:kindOf st=oneType')(hx:Ky κ x)(hy:Ky κ y)(h:Q (some (κ.blt (kk κ x) (kk κ y))) st):wpS (model prog w) A E s (lt' x y) Q st:=by
 obtain⟨a,ha⟩:=hx;obtain⟨b,hb⟩:=hy;have h:Q (some (κ.blt a b)) st:=by
  unfold kk at h;rw[ha,hb]at h;exact h
 rw[lt'_eq];refine wpS_bind (wpS_get ?_);rw[hk,keyLt'_oneType];exact wpS_bind (wpS_lift (wpAny_attempt (hO prog w A _ s x.1 y.1 a b ha hb ⟨rfl,wpS_pure h⟩)))
def DE{st:SortSt}{xs:Array Keyed}{i:Nat}{p:Keyed}{Q:Keyed->SortSt->Prop}(e:xs[i]? = some p)(h:Q p st):wpS (model prog w) A E s (elem' xs i) Q st:=by
 rw[elem'_eq,e];exact wpS_pure h
end
end TS
namespace TS
open PySem PyProof.Rows
def pU{xs:Array Keyed}{i:Nat}(h:i<xs.size):∃p,xs[i]? = some p:=⟨_,getElem?_pos xs i h⟩
section
variable{κ : KeyKind}{a b o:Array Keyed}{i j:Nat}
end
section
variable{prog:Program}{w:World}{A:Around}{E:Ly}{s:Shared}{κ : KeyKind}{a b:Array Keyed}
def Jj{m n:Nat}(h:m=n):(m == n)=true:=by simpa using h
end
end TS
namespace TS
open PySem PyProof.Rows
section
variable{κ : KeyKind}{a b o:Array Keyed}{i j:Nat}
end
section
variable{prog:Program}{w:World}{A:Around}{E:Ly}{s:Shared}{κ : KeyKind}{a b:Array Keyed}
end
end TS
namespace TS
open PySem PyProof.Rows
def SR(κ : KeyKind)(xs:Array Keyed)(lo hi:Nat):Prop:=∀(i j:Nat) p q,lo<=i->i<=j->j<hi->xs[i]? = some p->xs[j]? = some q->Le κ p q
structure SB(κ : KeyKind)(a₀ : Array Keyed)(st:SortSt):Prop where
 kind:kindOf st=oneType'
 failed:failedOf st=none
 perm:(arrOf st).Perm a₀
def SB.size{κ : KeyKind}{a₀ : Array Keyed}{st:SortSt}(h:SB κ a₀ st):(arrOf st).size=a₀.size:=h.perm.size_eq
def SB.keys{κ : KeyKind}{a₀ : Array Keyed}{st:SortSt}(h:SB κ a₀ st)(h0:KeysOf κ a₀):AllK κ (arrOf st):=λi p e=>by
 refine h0 p ((perm_iff_toList_perm.mp h.perm).mem_iff.mp ?_);rw[<- getElem?_toList]at e;exact mem_of_getElem? e
section
variable{prog:Program}{w:World}{A:Around}{E:Ly}{s:Shared}{κ : KeyKind}{a₀ : Array Keyed}
end
end TS
namespace TS
open PySem PyProof.Rows
def kAt(κ : KeyKind)(xs:Array Keyed)(i:Nat):Option κ.α:=xs[i]?.map (kk κ)
def Up(κ : KeyKind)(xs:Array Keyed)(lo hi:Nat):Prop:=∀(i j:Nat) x y,lo<=i->i<=j->j<hi->kAt κ xs i=some x->kAt κ xs j=some y->κ.kle x y
def Up.sr{κ : KeyKind}{xs:Array Keyed}{lo hi:Nat}(h:Up κ xs lo hi):SR κ xs lo hi:=λi j p q h1 h2 h3 e e'=>h i j (kk κ p) (kk κ q) h1 h2 h3 (by unfold kAt; rw[e]; rfl) (by unfold kAt; rw[e']; rfl)
def HM(e:xs[i]? = some p):kAt κ xs i=some (kk κ p):=by unfold kAt; rw[e]; rfl
section
variable{prog:Program}{w:World}{A:Around}{E:Ly}{s:Shared}{κ : KeyKind}{a₀ : Array Keyed}
def IH(hO:κ.OneLt)(h0:KeysOf κ a₀){st:SortSt}(B:SB κ a₀ st){i j:Nat}{Q:Option Bool->SortSt->Prop}(hi:i<a₀.size)(hj:j<a₀.size)(h:∀x y,kAt κ (arrOf st) i=some x->kAt κ (arrOf st) j=some y->Q (some (κ.blt x y)) st):wpS (model prog w) A E s (ltAt' i j) Q st:=by
 obtain⟨p,ep⟩:=pU (show i<(arrOf st).size by rw[B.size]; exact hi);obtain⟨q,eq⟩:=pU (show j<(arrOf st).size by rw[B.size]; exact hj);rw[ltAt'_eq];refine wpS_bind (wpS_get ?_);dsimp only;exact wpS_bind (DE ep (wpS_bind (DE eq (wp_lt hO B.kind (B.keys h0 _ _ ep) (B.keys h0 _ _ eq) (h _ _ (HM ep) (HM eq))))))
end
end TS
namespace TS
open PySem PyProof.Rows
section
variable{prog:Program}{w:World}{A:Around}{E:Ly}{s:Shared}{κ : KeyKind}{a₀ : Array Keyed}
end
end TS
namespace TS
open PySem PyProof.Rows
def SR.toK(h:SR κ xs 0 n)(hn:n<=xs.size):SortedToK κ xs n:=λi j hij hj=>by
 obtain⟨p,ep⟩:=pU (show i<xs.size by omega);obtain⟨q,eq⟩:=pU (show j<xs.size by omega);have:=h i j p q (zero_le _) hij hj ep eq;unfold KK;rw[ep,eq];exact this
section
variable{prog:Program}{w:World}{A:Around}{E:Ly}{s:Shared}{κ : KeyKind}
end
end TS
namespace TS
open PySem PyProof.Rows
def nA:KeyKind where
 α:=Int
 blt a b:=decide (a<b)
 irrefl a:=decide_eq_false (Int.lt_irrefl a)
 trans a b c h1 h2:=decide_eq_true (Int.lt_trans (of_decide_eq_true h1) (of_decide_eq_true h2))
 negTrans a b c h:=by
  have h:=of_decide_eq_true h;by_cases z:a<b
  ·exact .inl (decide_eq_true z)
  ·exact .inr (decide_eq_true (by omega))
 total a b h1 h2:=by
  have h1:=of_decide_eq_false h1;have h2:=of_decide_eq_false h2;omega
 keyOf v:=match v with
  | .int n _=>some n
  | _=>none
 dflt:=0
def G6:nA.OneLt:=by
 intro prog w A E s x y a b Q hx hy q;cases x with
 | int n t=>
  cases y with
  | int m u=>
   cases (show some n=some a from hx);cases (show some m=some b from hy);exact oneLt_int q
  | _=>cases hy
 | _=>cases hx
def G7(h:IntsAre vs ns):KeysOf nA (pairsOf vs):=λp hp=>by
 obtain⟨n,t,e⟩:=h.intKeys p hp;exact⟨n,by rw[e]; rfl⟩
def Ct(h:SortedToK nA xs n):SortedTo xs n:=λi j hij hj=>by
 have:=h i j hij hj;have e:∀k,KK nA xs k=K xs k:=λk=>by
  unfold KK K;cases xs[k]? with
  | none=>rfl
  | some p=>
   dsimp only;cases p.1 <;> rfl
 rw[e,e]at this;have this:decide (K xs j<K xs i)=false:=this;have:=of_decide_eq_false this;omega
end TS
namespace L2
open PySem PySem.Spec PyProof.Rows
section
variable{X:Cx}
inductive tFwX(a:Str)(Q:VK)(v:V)(H1:Hp):Prop
 | mk:∀i:Int,v = .int i->0<=i->i<10 ^ 10->Q (.str (a++Str.ofString (toString i))) H1->tFwX a Q v H1
def tFw(a:Str)(te:TE):TE:=λσ H Q=>te σ H (tFwX a Q)
def FF{a:Int}(h0:0<=a)(h:a<10 ^ 10):a.natAbs.log2<1920:=by
 have h:a.natAbs<10 ^ 10:=by omega
 by_cases h0:a.natAbs=0
 ·rw[h0]; decide
 ·have h1:a.natAbs.log2<64:=(Nat.log2_lt h0).mpr (lt_of_lt_of_le h (by decide));omega
def pe_fw{a:Str}{e:Expr}{te:TE}{k:Nat}{p1 p2 pos:Pos}(he:PE X e te)(ha:a.length<=1000:=by decide):PE X (.JoinedStr [.Constant (.str a) k p1,.FormattedValue e (-1) none p2] pos) (tFw a te):=by
 intro pins s σ H Q I h;refine wpAny_JoinedStr ?_;have e2:evalEach [.Constant (.str a) k p1,.FormattedValue e (-1) none p2] X.env=[eval (.Constant (.str a) k p1) X.env,eval (.FormattedValue e (-1) none p2) X.env]:=by rfl
 rw[e2];unfold Joins;refine thn (bH pins s σ H (λv H1=>v = .str a/\H1=H) I ⟨rfl,rfl⟩) λv s1 zQq=>?_;obtain⟨x,H1,I1,r1,hx,hH⟩:=zQq;subst hx hH;obtain⟨t,rfl⟩:=r1;refine⟨a,t,rfl,?_,?_⟩
 ·rw[PySem.W.KT.empty_app];exact le_trans ha (by decide)
 rw[PySem.W.KT.empty_app];unfold Joins;refine wpAny_FormattedValue_plain (thn (he pins s1 σ _ _ I1 h) λv s2 zQq=>?_);obtain⟨x,H2,I2,r2,i,hx,h0,h1,q⟩:=zQq;subst hx;obtain⟨u,rfl⟩:=r2;have hl:(a++Str.ofString (toString i)).length<=sizeLine:=by
  have:=PySem.W.KT.len_num h0 h1;rw[strLen_append];exact le_trans (show _<=1010 by omega) (by decide)
 refine wpAny_formatField_int (FF h0 h1) ⟨_,_,rfl,hl,hl,?_⟩;exact⟨.str _,H2,I2.kept (λ_ _ e=>e),⟨_,rfl⟩,q⟩
def x4:∀{ns:Ls}{vs:Lv},bZ (ns.map V.int) vs->IntsAre vs ns
 | [],_,h=>by cases h; exact .nil
 | n::ns,_,h=>by
  cases h with
  | cons r h=>
   obtain⟨t,rfl⟩:=r;exact .cons n t (x4 h)
def FI:∀{vs:Lv}{ns:Ls},IntsAre vs ns->2<=ns.length->keyKind' vs.toArray=pure oneType'
 | [],_,h,h2=>by cases h; simp at h2
 | [_],_,h,h2=>by
  have:=IntsAre.length h;simp at this;omega
 | v₁ :: v₂ :: rest,_,h,_=>keyKind_ints h
inductive xR(xs:L6)(H:Hp)(Q:VK):Prop
 | mk:∀l ns,xs=[.ref l]->H l=some (.lst (ns.map .int))->ns.length<64->(∀p ms,List.Perm ms ns->ms.Pairwise (· <= ·)->H p=none->Q (.ref p) (upd H p (.lst (ms.map .int))))->xR xs H Q
def wB:gM X (.builtin "sorted") xR:=by
 intro pins s σ H xs us Q I r h;obtain⟨l,ns,rfl,hd,hl,q⟩:=h;have hl':ns.length<=sizeLine:=le_trans (le_of_lt hl) (by decide);cases r with
 | cons r1 r2=>
  cases r2;cases (show _=Value.ref l from r1);obtain⟨vs,rv,hp,hz⟩:=I.list (SqL.of hd);have hI:=x4 rv;have hlen:vs.length=ns.length:=by have:=rv.length; rw[length_map]at this; omega
  refine sorted_ints hp.isList hI (by omega) λout ms hout perm pw=>?_;obtain⟨ep2,gat⟩:=sortedAll_at s.heap vs out;have hf:H (s.heap.objs.size+1)=none:=I.hok.fresh (le_succ _);refine⟨.ref (s.heap.objs.size+1),upd H (s.heap.objs.size+1) (.lst (ms.map .int)),I.laid (t':=s.toks) (λb u e=>sortedAll_old e) (le_succ _) ?_,rfl,q _ ms perm pw hf⟩;refine⟨?_,out.toList,ep2,mV hout,?_⟩
  ·rw[length_map,perm.length_eq];exact hl'
  ·simpa [seqObj] using gat
def Dq(K:Ln)(he:PE X e ta)(hb:attributeBase e f X.env (eval e X.env)=eval e X.env)(hK:X.K=K:=by rfl):PE X (.Attribute e f pos) (tFld K ta f):=by
 subst hK;exact nZ he hb
end
def AH(l:Addr)(items:Array Value)(n:Nat)(dct:Option Addr)(sl:Lr)(lo:Int)(t:Tok)(hlo:0<=lo/\lo<1000000000) :
  Meets (Builtin.«enumerate.__new__» ⟨[.type "enumerate",.ref l],[("start",.int lo t)]⟩) (λ_ R s=>s.heap.get? l=some { cls:=.type "tuple",dict:=dct,data:=.seq items n,slots:=sl }/\
   R (.ok (.ret (.ref (s.heap.push { cls:=.type "tuple_iterator",data:=.fields #[.ref l,.int 0 0] }).objs.size)))
    { s with heap:=(s.heap.push { cls:=.type "tuple_iterator",data:=.fields #[.ref l,.int 0 0] }).push { cls:=.type "enumerate",data:=.fields #[.none,.bool false,.ref s.heap.objs.size,rawInt lo,.none,.none] } }):=
 .of_wp λprog w A R s h=>by
  obtain⟨hp,g,d,tk,os⟩:=s;obtain⟨hl,h⟩:=h;have z1:=sub_enumerate;have hf:Builtin.SmallTypes.fitsIndex lo=true:=by
   unfold Builtin.SmallTypes.fitsIndex;simp;omega
  have z2:Heap.IsTuple (Shared.heap ⟨hp,g,d,tk,os⟩) l items:=⟨_,hl,rfl,n,rfl⟩
  wp_walk using AutoSeq1.wpAny_loadPart' hl
  refine wpAny_stack_any λst=>wpAny_pure ?_;split
  ·rename_i c _ _ _ _ _;cases (c == Value.type "enumerate")
   ·wp_walk using AutoSeq1.wpAny_loadPart' hl,wpAny_pyIter_tuple z2
    exact⟨_,rfl,h⟩
   ·wp_walk using AutoSeq1.wpAny_loadPart' hl,wpAny_pyIter_tuple z2
    exact⟨_,rfl,h⟩
  ·wp_walk using AutoSeq1.wpAny_loadPart' hl,wpAny_pyIter_tuple z2
   exact⟨_,rfl,h⟩
section
variable{X:Cx}
inductive mL(K:Ln)(R:(It->Hp->Prop))(x:V)(y:V)(H2:Hp):Prop
 | mk:∀a xs lo,x = .ref a->y = .int lo->0<=lo->lo<1000000000->SqT K H2 a xs->R (Ite K lo a) H2->mL K R x y H2
abbrev HV(K:Ln)(tb:TE)(σ : St)(R:(It->Hp->Prop)):V->Hp->Prop:=λx H1=>tb σ H1 (mL K R x)
def LR(K:Ln)(ta tb:TE):TI:=λσ H R=>ta σ H (HV K tb σ R)
def Gh(K:Ln)(hm:X.mg "enumerate" = none)(ha:PE X ex ta)(hb:PE X e2 tb)(hg:Gl X "enumerate":=by rfl)(hs:starEach [ex] X.env=[(false,eval ex X.env)]:=by rfl)(hK:X.K=K:=by rfl) :
  PI X (.Tuple elts x1 tp) (.Call (.Name "enumerate" p) [ex] [⟨some "start",e2,kp⟩] pos) (LR K ta tb):=by
 subst hK;intro pins s σ H R I h;refine wpAny_Call_Name_kw (lJ I hg hm boot_enumerate ?_);rw[hs];refine Bw (x:=eval ex X.env) (rest:=[]) rfl rfl rfl ?_;have ha':=eW ha aG hs pos pins s σ H (λvs H1=>∃x,vs=[x]/\tb σ H1 (mL X.K R x)) I (by
  have e:(λ(x:V)(H1:Hp)=>lV σ H1 λxs H2=>∃z,x::xs=[z]/\tb σ H2 (mL X.K R z))=λx H1=>tb σ H1 (mL X.K R x):=by
   funext x H1;simp only[lV,List.cons.injEq,and_true];apply propext;constructor
   ·rintro ⟨z,rfl,h⟩;exact h
   ·intro h;exact⟨x,rfl,h⟩
  exact Eq.mpr (congrArg (ta σ H) e) h)
 rw[hs]at ha';refine thn ha' λus s1 zQq=>?_;obtain⟨vs,H1,I1,r1,x,ev,q1⟩:=zQq;subst ev;refine kws_cons (thn (hb pins s1 σ H1 _ I1 q1) λv2 s2 zQq=>?_);obtain⟨y,H2,I2,ry,a,xs,lo,ex',ey,l0,l1,hq,q⟩:=zQq;refine kws_nil ?_;subst ex' ey;cases r1 with
 | cons r rr=>
  cases rr;cases (show _=Value.ref a from r);obtain⟨tt,rfl⟩:∃tt,v2 = .int lo tt:=ry;obtain⟨its,rv,⟨⟨c,dd,dt,sl⟩,ho,hc1,n,hd1⟩,hz⟩:=I2.tuple hq;dsimp only at hc1 hd1;subst hc1 hd1;refine sY (kw:=[("start",_)]) PySem.F.called_enumerate (nR _ _) (pP _ _) PySem.F.entry_enumerate_new (AH a _ n dd sl lo tt ⟨l0,l1⟩) (λobj=>EE obj _ _) (λobj=>nP obj _ _) ⟨ho,⟨_,get?_push_size _ rfl,rfl⟩,?_⟩;rw[size_push];exact vF (tg:=ex) (tk:=s2.toks) I2 q
inductive GZ(x:V)(vs:L6)(H:Hp)(Q:VK):Prop
 | mk:∀a y z o,x = .ref a->vs=[y,z]->cQ H a y o->Q (o.getD z) H->GZ x vs H Q
def BQ(hu:X.A.units+1<cLine):MtR X "dict.get" GZ:=by
 intro pins s σ H x vs v us Q I rx rv h;obtain⟨a,y,z,o,rfl,rfl,g,q⟩:=h;cases (show v=Value.ref a from rx);obtain⟨u1,u2,rfl,r1,r2⟩:=Fj rv;exact LX hu I g r1 r2 λw' s' I' rw'=>⟨_,H,I',rw',q⟩
structure GD(P:Program)(w:World)(K:Ln)(a:Addr)(kvs:Lz):Prop where
 sys:(a == sysModules)=false
 ex:∃o vs,K.lookup a=some o/\KV kvs vs/\o.IsDictOf (cH P w) vs
def GD.here(g:GD X.prog X.w X.K a kvs)(I:Inv X pins σ H s):∃vs,KV kvs vs/\s.heap.DictOf (cH X.prog X.w) a vs:=by
 obtain⟨o,vs,h1,h2,h3⟩:=g.ex;exact⟨vs,h2,Heap.dictOf_iff.mpr ⟨o,I.kIn _ _ h1,h3⟩⟩
inductive F1(kvs:Lz)(Q:VK)(y:V)(H1:Hp):Prop
 | mk:∀k v,y=kV k->dE kvs k=some v->Q v H1->F1 kvs Q y H1
def tGGet(kvs:Lz)(ty:TE):TE:=λσ H Q=>ty σ H (F1 kvs Q)
inductive Ae(kvs:Lz)(Q:VK)(y:V)(H1:Hp):Prop
 | mk:∀k,y=kV k->Q (.bl (!(dE kvs k).isSome)) H1->Ae kvs Q y H1
def IM(kvs:Lz)(ty:TE):TE:=λσ H Q=>ty σ H (Ae kvs Q)
def Ir{K:Ln}{a:Addr}{kvs:Lz}{o i:Expr}{ty:TE}{pos:Pos}(g:GD X.prog X.w K a kvs)(ho:PE X o (tC (.ref a)))(hi:PE X i ty)(hs:Lh i)(hK:X.K=K:=by rfl):PE X (.Subscript o i pos) (tGGet kvs ty):=by
 subst hK;intro pins s σ H Q I h;refine DP PySem.F.slot_dict_getitem.lookup hs (thn (ho pins s σ H (λx H1=>x = .ref a/\H1=H) I ⟨rfl,rfl⟩) λu s1 zQq=>?_);obtain⟨x,H1,I1,rx,ex,eH⟩:=zQq;subst ex eH;obtain rfl:u=Value.ref a:=rx;refine thn (hi pins s1 σ H1 _ I1 h) λiv s2 zQq=>?_;obtain⟨y,H2,I2,ry,k,v,ey,l,q2⟩:=zQq;subst ey;obtain⟨vs,rel,dd⟩:=g.here I2;obtain⟨w',hw,rw'⟩:=kO.some_of (v:=v) (o:=valueAt vs k) (by rw[<- l]; exact rel.val k);exact⟨dd.typeIs,wpAny_getItem_of (nO ry) dd.mapOf hw ⟨v,H2,I2.tok _,rw',q2⟩⟩
def Ej{K:Ln}{a:Addr}{kvs:Lz}{o i:Expr}{ty:TE}(g:GD X.prog X.w K a kvs)(hi:PE X i ty)(ho:PE X o (tC (.ref a)))(hK:X.K=K:=by rfl):PC X .NotIn i o (IM kvs ty):=by
 subst hK;intro pins s σ H Q I h;refine thn (hi pins s σ H _ I h) λiv s1 ⟨y,H1,I1,ry,k,ey,q1⟩=>thn (ho pins s1 σ H1 (λx H2=>x = .ref a/\H2=H1) I1 ⟨rfl,rfl⟩) λu s2 zQq=>?_;obtain⟨x,H2,I2,rx,ex,eH⟩:=zQq;subst ex eH ey;obtain rfl:u=Value.ref a:=rx;obtain⟨vs,rel,dd⟩:=g.here I2;refine wpAny_notIn_of (nO ry) g.sys dd.mapOf ⟨.bl _,H2,I2.tok _,rfl,?_⟩;rw[<- (rel.val k).isSome_eq];exact q1
def C1(x:Str):Value->Bool
 | .str y _=>decide (y=x)
 | _=>false
def C2(n:Int):Value->Bool
 | .int m _=>decide (m=n)
 | _=>false
def FM(h:C1 x v=true):∃t,v = .str x t:=by
 unfold C1 at h;split at h
 ·exact⟨_,by rw[of_decide_eq_true h]⟩
 ·cases h
def FN(h:C2 n v=true):∃t,v = .int n t:=by
 unfold C2 at h;split at h
 ·exact⟨_,by rw[of_decide_eq_true h]⟩
 ·cases h
def pQ:List (Str × Int)->List DictEntry->Bool
 | [],[]=>true
 | p::ps,e::es=>(C1 p.1 e.key && C2 p.2 e.val) && pQ ps es
 | _,_=>false
def Ja:∀{ps:List (Str × Int)}{es:List DictEntry},es.map (·.hash)=ps.map (λp=>PyData.keyHash w.params p.1)->pQ ps es=true->
  (∀e∈es,∃k:Key,rT k e.key=true/\e.hash=LM w k)/\∃vs:List (Key × Value),KV (ps.map λp=>(Sum.inr p.1,V.int p.2)) vs/\(∀(P:Program),Pairs (cH P w) es vs)/\vs.map (·.1)=ps.map λp=>Sum.inr p.1:=by
 intro ps
 induction ps with
 | nil=>
  intro es _ he;cases es with
  | nil=>exact⟨(λe h=>by cases h),[],.nil,(λ_=>.nil),rfl⟩
  | cons e es=>cases he
 | cons p ps ih=>
  intro es hh he;cases es with
  | nil=>cases he
  | cons e es=>
   rw[map_cons,map_cons]at hh;injection hh with h1 h2
   unfold pQ at he;rw[and_eq_true,and_eq_true]at he;obtain⟨a,vs,b,c,d⟩:=ih h2 he.2;obtain⟨hash,key,val⟩:=e;dsimp only at he h1;obtain⟨t,rfl⟩:=FM he.1.1;obtain⟨u,rfl⟩:=FN he.1.2;have hk:∃k:Key,rT k (.str p.1 t)=true/\hash=LM w k:=⟨Sum.inr p.1,qS _ _,by rw[h1]; rfl⟩;refine⟨λe h=>?_,(Sum.inr p.1,.int p.2 u)::vs,.cons ⟨rfl,⟨_,rfl⟩⟩ b,λP=>.cons (qS p.1 t) rfl (c P),by rw[map_cons,map_cons,d]⟩;rcases mem_cons.mp h with z | z
   ·rw[z];exact hk
   ·exact a e z
def gd_of{P:Program}{w:World}{K:Ln}{a:Addr}{es:Array DictEntry}{ep:Nat}{ps:List (Str × Int)}(sys:(a == sysModules)=false)(l:K.lookup a=some ⟨.type "dict",none,.dict es ep,#[]⟩)(hh:es.toList.map (·.hash)=ps.map λp=>PyData.keyHash w.params p.1)(he:pQ ps es.toList=true)(nd:(ps.map λp=>(Sum.inr p.1:Key)).Nodup) :
  GD P w K a (ps.map λp=>(Sum.inr p.1,V.int p.2)):=by
 obtain⟨hk,vs,kv,pr,ek⟩:=Ja hh he;exact⟨sys,_,vs,l,kv,es,ep,⟨rfl,rfl,rfl⟩,rfl,λe h=>hk e (by simpa using h),pr P,by rw[ek]; exact nd⟩
end
section
variable{X:Cx}{tg:Expr}
inductive J9(K:Ln)(R:(It->Hp->Prop))(x:V)(H1:Hp):Prop
 | mk:∀a,x = .ref a->(((∃xs,SqL K H1 a xs)/\R (Itl K a) H1)\/((∃xs,SqT K H1 a xs)/\R (Itt K a) H1))->J9 K R x H1
def iSeq(K:Ln)(tl:TE):TI:=λσ H R=>tl σ H (J9 K R)
def Ij(K:Ln)(hl:PE X l tl)(hK:X.K=K:=by rfl):PI X tg l (iSeq K tl):=by
 subst hK;intro pins s σ H R I h;refine thn (hl pins s σ H _ I h) λv s1 zQq=>?_;obtain⟨x,H1,I1,r1,q1⟩:=zQq;obtain⟨a,e,q⟩:=q1;subst e;cases r1;have fp:∀b∈[s1.heap.objs.size],rB X pins H1 b:=λb hb=>by
  have e:b=s1.heap.objs.size:=by simpa using hb
  subst e;exact I1.fpOk (le_refl _) (I1.hok.fresh (le_refl _))
 rcases q with ⟨⟨xs,hq⟩,q⟩ | ⟨⟨xs,hq⟩,q⟩
 ·obtain⟨its,rv,p,hz⟩:=I1.list hq;refine wpAny_pyIter_list p.isList ?_;exact⟨s1.heap.objs.size,[s1.heap.objs.size],_,_,H1,rfl,I1.kept (t':=s1.toks) λb o e=>get?_push_of_some _ e,wG a _,⟨_,get?_push_size _ rfl,rfl,rfl⟩,fp,q⟩
 ·obtain⟨its,rv,p,hz⟩:=I1.tuple hq;refine wpAny_pyIter_tuple (show s1.heap.IsTuple a its.toArray from p) ?_;exact⟨s1.heap.objs.size,[s1.heap.objs.size],_,_,H1,rfl,I1.kept (t':=s1.toks) λb o e=>get?_push_of_some _ e,sZ a _,⟨_,get?_push_size _ rfl,rfl,rfl⟩,fp,q⟩
end
section
variable{X:Cx}{pins:Lo}{σ : List (Option V)}{H H':Hp}{s:Shared}
def Inv.thaw(I:Inv X pins σ H' s)(hf:H' a=some (.frz o (.dK kvs)))(h0:∀o u,X.H₀ a≠some (.frz o u)):Inv X pins σ (upd H' a (.dK kvs)) s:=by
 have nn:∀{b:Addr},H' b=none->upd H' a (.dK kvs) b=none:=λ{b} e=>by
  rw[aF (λz=>by rw[z,hf]at e; cases e)];exact e
 have nt:∀{b:Addr}{u:HO},H' b=some u->(∀o u',u ≠ .frz o u')->upd H' a (.dK kvs) b=some u:=λ{b u} e n=>by
  rw[aF (λz=>by rw[z,hf]at e; cases e; exact n _ _ rfl)];exact e
 refine⟨I.ok,I.os,I.bare,⟨I.base.keep,I.base.slot,λb ob q n hx=>nn (I.base.free b ob q n hx),I.base.there,λb xs e=>nt (I.base.tups b xs e) (λ_ _ z=>by cases z),λb ob u e=>?_,λb ps e=>?_⟩,I.loc,I.cell,nn I.free,λx c e=>nn (I.freeC x c e),λp hp=>?_,λb u e=>?_,I.len⟩
 ·rw[aF (λz=>h0 ob u (by rw[<- z]; exact e))];exact I.base.frzs b ob u e
 ·obtain⟨more,e1⟩:=I.base.tbls b ps e;exact⟨more,nt e1 (λ_ _ z=>by cases z)⟩
 ·obtain⟨h1,h2,h3⟩:=I.pin p hp;exact⟨h1,nn h2,h3⟩
 ·by_cases y:b=a
  ·subst y;rw[aB]at e;cases e;exact(I.hok b _ hf).2
  ·rw[aF y]at e;exact(I.hok b u e).stay (λc v _ r=>r) (λc r=>nt r (λ_ _ z=>by cases z)) λc xs r=>nt r (λ_ _ z=>by cases z)
inductive Fu(H:Hp)(Q:VK)(v:V)(H':Hp):Prop
 | mk:∀a o kvs,H' a=some (.frz o (.dK kvs))->(∃kvs0,H a=some (.dK kvs0))->Q v (upd H' a (.dK kvs))->Fu H Q v H'
def tThaw(t:TE):TE:=λσ H Q=>t σ H (Fu H Q)
def Io(h:PE X e t):PE X e (tThaw t):=by
 intro pins s σ H Q I hq;refine thn (h pins s σ H _ I hq) λu s1 zQq=>?_;obtain⟨v,H1,I1,r1,a,o,kvs,hf,⟨k0,hk⟩,q⟩:=zQq;exact⟨v,_,I1.thaw hf (λo u z=>by rw[I.base.frzs a o u z]at hk; cases hk),r1,q⟩
end
end L2
namespace TS
open PySem PyProof.Rows
def xW:∀(f n r:Nat),r<=1->minRun' f n r<=n+r
 | 0,n,r,_=>Nat.le_of_eq rfl
 | f+1,n,r,h=>by
  rw[minRun'_succ];split
  ·exact le_refl _
  ·have:=xW f (n / 2) (max r (n % 2)) (by omega);omega
section
variable{prog:Program}{w:World}{A:Around}{E:Ly}{s:Shared}{κ : KeyKind}{a₀ : Array Keyed}
def AL(hO:κ.OneLt)(h0:KeysOf κ a₀){st:SortSt}(B:SB κ a₀ st)(hr:1<=a₀.size)(ua:Up κ (arrOf st) 0 a₀.size){Q:Option Nat->SortSt->Prop}(h:Q (some a₀.size) st):wpS (model prog w) A E s (countRun' 0 a₀.size) Q st:=by
 rw[countRun'_eq];dsimp only;refine wpS_bind (wpS_mono (wpS_forRange (I:=λx c st'=>st'=st/\c=(none,x)) (Q:=λc st'=>st'=st/\c=(none,a₀.size)) ?step ?fin ⟨rfl,rfl⟩) ?post)
 case fin=>
  rintro c st' ⟨rfl,rfl⟩;rw[show max 1 a₀.size=a₀.size by omega];exact⟨rfl,rfl⟩
 case step=>
  rintro x c st' hx1 hx2 ⟨rfl,rfl⟩;dsimp only;refine wpS_bind (IH hO h0 B (by omega) (by omega) λx' y' ex ey=>?_);have:κ.blt x' y'=false:=ua _ _ _ _ (zero_le _) (by omega) (by omega) ey ex;rw[this];dsimp only;rw[if_neg (by decide)];exact wpS_pure ⟨rfl,rfl⟩
 case post=>
  rintro c st' ⟨rfl,rfl⟩;dsimp only;rw[if_pos (Jj rfl)];exact wpS_pure h
def zF(hO:κ.OneLt)(h0:KeysOf κ a₀){st:SortSt}(B:SB κ a₀ st)(hp:pendingOf st = #[])(h2:2<=a₀.size)(ua:Up κ (arrOf st) 0 a₀.size){Q:Unit->SortSt->Prop}
  (h:∀st',arrOf st'=arrOf st->failedOf st'=none->Q () st'):wpS (model prog w) A E s sortRuns' Q st:=by
 rw[sortRuns'_eq];refine wpS_bind (wpS_get ?_);dsimp only;rw[B.size];have hmr:minRun' a₀.size a₀.size 0<=a₀.size:=xW _ _ _ (by omega);generalize minRun' a₀.size a₀.size 0=mr at hmr;refine wpS_bind (wpS_mono (wpS_forRange (I:=λx c st'=>(x=0/\c=(none,0)/\st'=st)\/(c=(none,a₀.size)/\arrOf st'=arrOf st/\failedOf st'=none/\(pendingOf st').size<=1)) (Q:=λc st'=>c=(none,a₀.size)/\arrOf st'=arrOf st/\failedOf st'=none/\(pendingOf st').size<=1) ?step ?fin (.inl ⟨rfl,rfl,rfl⟩)) ?post)
 case fin=>
  rintro c st' (⟨z,_⟩ | hh)
  ·omega
  ·exact hh
 case step=>
  rintro x c st' _ hx (⟨rfl,rfl,rfl⟩ | ⟨rfl,hh⟩)
  ·dsimp only;rw[if_neg (by omega)];refine wpS_bind (AL hO h0 B (by omega) ua ?_);dsimp only;rw[if_neg (by omega)];refine wpS_bind (wpS_get ?_);rw[hp];dsimp only[Array.back?];refine wpS_bind (wpS_modify (wpS_pure (.inr ⟨?_,rfl,B.failed,?_⟩)))
   ·rw[Nat.zero_add]
   ·show ((pendingOf st').push _).size<=1;rw[hp];exact le_refl _
  ·dsimp only;rw[if_pos (le_refl _)];exact wpS_pure ⟨rfl,hh⟩
 case post=>
  rintro c st' ⟨rfl,e1,e2,e3⟩;dsimp only;refine wpS_bind (wpS_mono (wpS_forRange (I:=λx c st2=>c=(none,())/\st2=st') (Q:=λc st2=>c=(none,())/\st2=st') ?s2 (λ_ _ hh=>hh) ⟨rfl,rfl⟩) ?p2)
  case s2=>
   rintro x c st2 _ hx ⟨rfl,rfl⟩;refine wpS_bind (wpS_get ?_);rw[if_pos e3];exact wpS_pure ⟨rfl,rfl⟩
  case p2=>
   rintro c st2 ⟨rfl,rfl⟩;exact wpS_pure (h _ e1 e2)
def GE(hO:κ.OneLt){a:Addr}{vs:Lv}{n:Nat}{P:PySem.Fin->Shared->Prop}(ho:s.heap.get? a=some (seqObj "list" vs.toArray n))(h0:KeysOf κ (pairsOf vs))(ua:Up κ (pairsOf vs) 0 (pairsOf vs).size)(hkk:keyKind' vs.toArray=pure oneType')(h2:2<=vs.length)(hz:vs.length<=sizeLine)
  (h:∀st':SortSt,(arrOf st').Perm (pairsOf vs)->SortedToK κ (arrOf st') (pairsOf vs).size->P (.done (.ret .none)) { s with heap:=sortedHeap s.heap a vs ((arrOf st').map (·.2)) }):wpAny (model prog w) A (Builtin.«list.sort» ⟨[.ref a],[]⟩) P E s:=by
 have ha:a<s.heap.objs.size:=lt_size ho; have hza:vs.toArray.size=vs.length:=by simp
 rw[list_sort_plain]; refine wpAny_bind (listItems_at ho rfl (wpAny_bind (listUpdate_at ho rfl ?_ (by rw[hza]; exact hz))));have ho1:=get?_update_seq ho (λ_=>#[]);generalize (if ((λ_=>#[]:Array Value->Array Value) vs.toArray).size == vs.toArray.size then n else n+1)=e1 at ho1;refine wpAny_bind (seqEpoch_at ho1 rfl (wpAny_bind (wpAny_newTuple (wpAny_bind (wpAny_newList (wpAny_holding ?_))) (by simpa using hz))));generalize eh6:((s.heap.update a (Obj.mapSeq λ_=>#[])).push (seqObj "tuple" vs.toArray 0)).push (seqObj "list" #[] 0)=h6;have ho6:h6.get? a=some (seqObj "list" #[] e1):=by
  rw[<- eh6,get?_push_ne _ _ _ (by rw[size_push',size_update]; exact ne_of_lt (lt_succ_of_lt ha)),get?_push_ne _ _ _ (by rw[size_update]; exact ne_of_lt ha)]; exact ho1
 have h2':¬ vs.toArray.size<2:=by rw[hza]; omega
 show wpAny (model prog w) A _ P E { s with heap:=h6 };dsimp only; rw[if_neg h2',if_neg h2',hkk];refine wpAny_bind (wpAny_pure ?_);have fin:∀st':SortSt,(arrOf st').Perm (pairsOf vs)->SortedToK κ (arrOf st') (pairsOf vs).size->P (.done (.ret .none)) { s with heap:=h6.update a (Obj.mapSeq λ_=>(arrOf st').map (·.2)) }:=λst' a1 a2=>by
  have:=h st' a1 a2;unfold sortedHeap at this;rw[eh6]at this;exact this
 refine wpAny_bind (wpAny_mono (zF (κ:=κ) hO (a₀:=pairsOf vs) (st:=SortSt.mk' oneType' (vs.toArray.zip vs.toArray) #[] 7 none) (Q:=λ_ st'=>(arrOf st').Perm (pairsOf vs)/\failedOf st'=none/\SR κ (arrOf st') 0 (pairsOf vs).size) h0 ⟨rfl,rfl,Array.Perm.refl _⟩ rfl (by rw[pairsOf_size]; exact h2) ua λst' a1 a2=>⟨by rw[a1]; exact Array.Perm.refl _,a2,by rw[a1]; exact ua.sr⟩) ?_ λ_ _ e=>e);rintro ⟨⟨⟩,st'⟩ s' ⟨rfl,hp,hf,hs⟩;have zo:((arrOf st').map (·.2)).size=vs.length:=by rw[Array.size_map,hp.size_eq,pairsOf_size]
 dsimp only; refine wpAny_bind (seqEpoch_at ho6 rfl (wpAny_bind (listUpdate_at ho6 rfl ?_ (by show 0<=sizeLine; omega) (by show ((arrOf st').map (·.2)).size<=sizeLine+1; omega))));rw[hf]; simp only[bne_self_eq_false,Bool.false_eq_true,if_false];exact wpAny_pure (fin st' hp (hs.toK (by rw[hp.size_eq]; exact le_refl _)))
end
def LA(h:IntsAre vs ns)(pw:ns.Pairwise (· <= ·)):Up nA (pairsOf vs) 0 (pairsOf vs).size:=by
 intro i j x y _ hij hj ex ey;rw[pairsOf_size,h.length]at hj;have key:∀{k:Nat}{z:Int},(hk:k<ns.length)->kAt nA (pairsOf vs) k=some z->z=ns[k]:=λ{k z} hk e=>by
  obtain⟨t,et⟩:=h.get k ns[k] (getElem?_eq_getElem hk);have e2:(pairsOf vs)[k]? = some (Value.int ns[k] t,Value.int ns[k] t):=by
   unfold pairsOf;rw[Array.getElem?_zip_eq_some];exact⟨by simpa using et,by simpa using et⟩
  unfold kAt at e;rw[e2]at e;cases e;rfl
 have e1:=key (by omega) ex;have e2:=key hj ey;rw[e1,e2];show decide (ns[j]<ns[i])=false;rw[decide_eq_false_iff_not];by_cases z:i=j
 ·subst z;omega
 ·have:=(List.pairwise_iff_getElem.mp pw) i j (by omega) hj (by omega);omega
end TS
namespace L2
open PySem PySem.Spec PyProof.Rows
section
variable{X:Cx}
inductive A8(xs:L6)(H:Hp)(Q:VK):Prop
 | mk:∀d kvs ns,xs=[.ref d]->H d=some (.dK kvs)->kvs.map (·.1)=ns.map Sum.inl->(ns.length<64\/ns.Pairwise (· <= ·))->ns.length<=100000->(∀p ms,List.Perm ms ns->ms.Pairwise (· <= ·)->H p=none->Q (.ref p) (upd H p (.lst (ms.map .int))))->A8 xs H Q
def GF(ho:s.heap.get? a=some (seqObj "list" vs.toArray n))(hI:IntsAre vs ns)(asc:ns.length<64\/ns.Pairwise (· <= ·))(hl:vs.length=ns.length)(hz:vs.length<=sizeLine)
  (h:∀(out:Array Value)(ms:Ls),IntsAre out.toList ms->ms.Perm ns->ms.Pairwise (· <= ·)->P (.done (.ret .none)) { s with heap:=sortedHeap s.heap a vs out }):wpAny (model prog w) A (Builtin.«list.sort» ⟨[.ref a],[]⟩) P E s:=by
 by_cases h64:vs.length<64
 ·exact list_sort_tree ho hI h64 h
 refine TS.GE TS.G6 ho (TS.G7 hI) (TS.LA hI (asc.resolve_left (by omega))) (FI hI (by omega)) (by omega) hz λst' p1 p2=>?_;obtain⟨ms,hout,perm,pw⟩:=sorted_out hI p1 (TS.Ct p2);exact h _ ms hout perm pw
def gI(hc:X.calm=true):gM X (.builtin "sorted") A8:=by
 intro pins s σ H xs us Q I r h;obtain⟨d,kvs,ns,rfl,hd,hk,asc,hl,q⟩:=h;have hl':ns.length<=sizeLine:=le_trans hl (by decide);cases r with
 | cons r1 r2=>
  cases r2;cases (show _=Value.ref d from r1);obtain⟨hz,hsm,vs,rel,o,es,ep,dd⟩:=Bm I.hok hd;have hh:X.A.in1.handled=none:=I.ok.hd hc;have hlen:vs.length=ns.length:=by
   have h1:=rel.length;have h2:=congrArg List.length hk;rw[length_map,length_map]at h2;omega
  have hkv:vs.map (·.1)=ns.map Sum.inl:=by rw[<- D8 rel]; exact hk
  refine wpAny_call (codeAny_call_builtin plain_sorted entry_sorted (wpAny_of_eq (zE _) ?_));show wpAny _ _ (checkCount "sorted" 1 1 1 >>= _) _ _ s;refine wpAny_bind (wpAny_of_eq (a:=()) (by rfl) ?_);refine wpAny_bind (PySem.W.kdu_collect (PySem.W.kdl_dict (knd:=cH X.prog X.w) (kvs:=vs) (ep:=ep) hsm) hh ⟨o,es,dd⟩ (by rw[hlen]; exact hl') λh' tk acc keep hit=>?_);have hacc:acc.toList.length=vs.length:=by
   have:=hit.1;simpa using this
  have hints:IntsAre acc.toList ns:=FJ (prog:=X.prog) (w:=X.w) hkv hacc λj v hv=>hit.2 j v (by simpa using hv);refine wpAny_bind (wpAny_newList ?_ (by rw[hacc,hlen]; exact hl'));generalize eh2:h'.push { cls:=.type "list",data:=.seq acc.toList.toArray }=h2;have g2:h2.get? h'.objs.size=some (seqObj "list" acc.toList.toArray 0):=by
   rw[<- eh2];exact get?_push_size _ rfl
  refine wpAny_bind (wpAny_holding ?_);refine wpAny_call_entry (T:="list") PyProof.Rows.slot_list_sort ⟨_,g2,rfl⟩ PyProof.Rows.entry_list_sort ?_ (PyProof.Rows.args_list_sort _);refine GF g2 hints asc (by rw[hacc,hlen]) (by rw[hacc,hlen]; exact hl') λout ms hout perm pw=>?_;refine⟨_,rfl,wpAny_pure ?_⟩;obtain⟨ep2,gat⟩:=sortedHeap_at (h:=h2) (a:=h'.objs.size) (vs:=acc.toList) (out:=out) g2;have hf:H h'.objs.size=none:=(I.kept (t':=tk) keep).hok.fresh (le_refl _);refine⟨.ref h'.objs.size,upd H h'.objs.size (.lst (ms.map .int)),(I.kept (t':=tk) keep).laid (t':=tk) (λb u e=>?_) (le_refl _) ?_,rfl,q _ ms perm pw hf⟩
  ·have hb:b<h'.objs.size:=lt_size e;have h2s:h2.objs.size=h'.objs.size+1:=by rw[<- eh2]; exact size_push _ _
   rw[sortedHeap_old (ne_of_lt hb) (by rw[h2s]; exact lt_succ_of_lt hb),<- eh2];exact get?_push_of_some _ e
  ·refine⟨?_,out.toList,ep2,mV hout,?_⟩
   ·rw[length_map,perm.length_eq];exact hl'
   ·simpa [seqObj] using gat
end
def Fun.okY{P:Program}{w:World}{K:Ln}{mg:Lp}{base:Heap}{x qual:Str}{st:Stmt}{f:Addr}{fd:Lx}{ps:Lu}{k:Nat}{sp:Sp}(F:Fun K x qual st f fd)(N:Lu)
  (hbody:∀(cdv:Value)(A:Around)(outer:List Env)(s:Shared)(H:Hp)(vs:L6)(Q:VK)(E:XK),Room k (A.deeper (envOfC qual (c8 st) s.heap.objs.size f cdv))->N.Nodup->sp vs H Q E->
   ∃t,PSs ((AK (CXE P w) P w K mg base N qual (c8 st) f cdv A outer s H E).bod E) (fI st) t/\t (Ends.fn Q) (oK N vs) H) (len:∀vs H Q E,sp vs H Q E->vs.length=ps.length:=by intro _ _ _ _ h; cases h; subst_vars; rfl) (S:FnScope N ps (c8 st):=by exact⟨rfl,rfl,rfl,by decide +kernel,rfl,by decide +kernel,by decide +kernel⟩):FnOk P w K mg base (CXE P w) (k+1) f fd ps sp:=F.okX S len λcdv A outer s H vs Q E hr h=>hbody cdv A outer s H vs Q E hr S.nd h
end L2
namespace TT
open PySem PySem.W PyProof.Rows
section
variable(key:Nat->Int)(n:Nat)
def ask(i j:Nat)(C:Bool->Shared->Prop)(s:Shared):Prop:=i<n/\j<n/\i≠j/\C (decide (key i<key j)) s
def kp(p:Array Nat)(i:Nat):Int:=key (p[i]?.getD 0)
def Up(p:Array Nat)(m:Nat):Prop:=∀i j,i<j->j<m->kp key p i<kp key p j
def Dn(p:Array Nat)(m:Nat):Prop:=∀i j,i<j->j<m->kp key p j<kp key p i
def PP(p:Array Nat):Prop:=p.Perm (List.range n).toArray
end
section
variable{key:Nat->Int}{n:Nat}{p:Array Nat}{s:Shared}
def PP.size(h:PP n p):p.size=n:=by
 have:=h.size_eq;simpa using this
def PP.at(h:PP n p)(hi:i<n):∃x,p[i]? = some x/\x<n:=by
 have hs:i<p.size:=by rw[h.size]; exact hi
 refine⟨p[i],getElem?_pos p i hs,?_⟩;have:p[i]∈p.toList:=by simp
 have:=(perm_iff_toList_perm.mp h).mem_iff.mp this;simpa using this
def PP.ne(h:PP n p){i j x y:Nat}(ei:p[i]? = some x)(ej:p[j]? = some y)(ne:i≠j):x≠y:=by
 have nd:p.toList.Nodup:=(perm_iff_toList_perm.mp h).nodup_iff.mpr (by simpa using List.nodup_range);intro e;subst e;rw[<- getElem?_toList]at ei ej;exact ne ((List.getElem?_inj (List.getElem?_eq_some_iff.mp ei).1 nd).mp (ei.trans ej.symm))
def PP.ask(h:PP n p){i j:Nat}(hi:i<n)(hj:j<n)(ne:i≠j){C:Bool->Shared->Prop}(c:C (decide (kp key p i<kp key p j)) s):ask key n (p.getD i 0) (p.getD j 0) C s:=by
 obtain⟨x,ex,hx⟩:=h.at hi;obtain⟨y,ey,hy⟩:=h.at hj;unfold kp at c;rw[ex,ey]at c;rw[Array.getD_eq_getD_getElem?,Array.getD_eq_getD_getElem?,ex,ey];exact⟨hx,hy,h.ne ex ey ne,c⟩
def PP.dif(h:PP n p)(hk:∀i j,i<n->j<n->i≠j->key i≠key j){i j:Nat}(hi:i<n)(hj:j<n)(ne:i≠j):kp key p i≠kp key p j:=by
 obtain⟨x,ex,hx⟩:=h.at hi;obtain⟨y,ey,hy⟩:=h.at hj;unfold kp;rw[ex,ey];exact hk x y hx hy (h.ne ex ey ne)
def PP.rev(h:PP n p)(i j:Nat):PP n (kas_rev p i j):=(mirror_perm _ _ _ _).trans h
def PP.bub(h:PP n p)(i j:Nat):PP n (bubble p i j):=(bubble_perm _ _ _).trans h
variable(hk:∀i j,i<n->j<n->i≠j->key i≠key j)
include hk
def Fi(h:PP n p){Q:Nat->Shared->Prop}:∀(f m:Nat),1<=m->m+f<=n->Up key p m->(∀m',m<=m'->m'<=m+f->Up key p m'->(m'=m+f\/kp key p m'<kp key p (m' - 1))->Q m' s)->(kas_asc p f m).kasWp (ask key n) Q s
 | 0,m,_,_,u,q=>q m (le_refl _) (le_refl _) u (.inl rfl)
 | f+1,m,h1,h2,u,q=>h.ask (by omega) (by omega) (by omega) (by
  cases hd:decide (kp key p m<kp key p (m - 1)) with
  | true=>exact q m (le_refl _) (by omega) u (.inr (of_decide_eq_true hd))
  | false=>
   have hd:=of_decide_eq_false hd;have hn:=h.dif hk (i:=m) (j:=m - 1) (by omega) (by omega) (by omega);refine Fi h f (m+1) (by omega) (by omega) (λi j hij hj=>?_) λm' a b c d=>q m' (by omega) (by omega) c (d.imp (λe=>by omega) id);by_cases hj':j<m
   ·exact u i j hij hj'
   ·obtain rfl:j=m:=by omega
    by_cases hi:i=j - 1
    ·rw[hi];omega
    ·have:=u i (j - 1) (by omega) (by omega);omega)
def Fh(h:PP n p){Q:Array Nat × Nat × Nat->Shared->Prop}:∀(f m:Nat),1<=m->m+f<=n->Dn key p m->(∀m',m<=m'->m'<=m+f->Dn key p m'->Q (p,m',0) s)->(kas_desc f p m 0).kasWp (ask key n) Q s
 | 0,m,_,_,u,q=>q m (le_refl _) (le_refl _) u
 | f+1,m,h1,h2,u,q=>h.ask (by omega) (by omega) (by omega) (by
  have hn:=h.dif hk (i:=m) (j:=m - 1) (by omega) (by omega) (by omega);cases hd:decide (kp key p m<kp key p (m - 1)) with
  | true=>
   have hd:=of_decide_eq_true hd;refine Fh h f (m+1) (by omega) (by omega) (λi j hij hj=>?_) λm' a b c=>q m' (by omega) (by omega) c;by_cases hj':j<m
   ·exact u i j hij hj'
   ·obtain rfl:j=m:=by omega
    by_cases hi:i=j - 1
    ·rw[hi];exact hd
    ·have:=u i (j - 1) (by omega) (by omega);omega
  | false=>
   have hd:=of_decide_eq_false hd;refine h.ask (by omega) (by omega) (by omega) ?_;rw[decide_eq_true (show kp key p (m - 1)<kp key p m by omega)];exact q m (le_refl _) (by omega) u)
omit hk in
def HI(h:PP n p)(hm:m<=n)(i:Nat)(hi:i<m):kp key (kas_rev p 0 m) i=kp key p (m - 1 - i):=by
 unfold kp kas_rev;rw[getElem?_mirror_all (by rw[h.size]; exact hm),if_pos ⟨zero_le _,hi⟩,Nat.zero_add]
def KF(h:PP n p){m:Nat}(h1:1<=m)(hm:m<=n)(d:Dn key p m){Q:Nat × Array Nat->Shared->Prop}(q:∀m' p',PP n p'->1<=m'->m'<=n->Up key p' m'->Q (m',p') s):(kas_tail3 m n p).kasWp (ask key n) Q s:=by
 unfold kas_tail3;rw[KasT.kasWp_bind];refine Fi hk (h.rev 0 m) _ _ h1 (by omega) (λi j hij hj=>?_) λm' a b c _=>q m' _ (h.rev 0 m) (by omega) (by omega) c;rw[HI h hm i (by omega),HI h hm j hj];exact d _ _ (by omega) (by omega)
def IJ(h:PP n p)(h2:2<=n){Q:Nat × Array Nat->Shared->Prop}(q:∀m' p',PP n p'->1<=m'->m'<=n->Up key p' m'->Q (m',p') s):(kas_count n p).kasWp (ask key n) Q s:=by
 unfold kas_count;rw[KasT.kasWp_bind];refine Fi hk h _ _ (le_refl _) (by omega) (λi j a b=>by omega) λm a b u d=>?_;by_cases e1:m=n
 ·rw[if_pos (by simpa using e1)];exact q m p h (by omega) (by omega) u
 rw[if_neg (by simpa using e1)];by_cases e2:m > 1
 ·rw[if_pos e2];refine h.ask (by omega) (by omega) (by omega) ?_;rw[decide_eq_true (u 0 (m - 1) (by omega) (by omega))];exact q m p h (by omega) (by omega) u
 ·rw[if_neg e2];obtain rfl:m=1:=by omega
  have d:=d.resolve_left (by omega);unfold kas_descPart;rw[KasT.kasWp_bind];refine Fh hk h _ _ (by omega) (by omega) (λi j hij hj=>?_) λm' a b dn=>?_
  ·obtain rfl:i=0:=by omega
   obtain rfl:j=1:=by omega
   exact d
  ·exact KF hk h (by omega) (by omega) dn q
omit hk in
def yX(h:PP n p)(hkn:k<n)(u:Up key p k)(q:∀l,l<=k->(∀i,i<l->kp key p i<=kp key p k)->(∀i,l<=i->i<k->kp key p k<kp key p i)->Q l s):∀(f l r:Nat),l<=r->r<=k->r - l<=f->(∀i,i<l->kp key p i<=kp key p k)->(∀i,r<=i->i<k->kp key p k<kp key p i)->(kas_place p k f l r).kasWp (ask key n) Q s
 | 0,l,r,a,b,c,d,e=>by
  obtain rfl:l=r:=by omega
  exact q l b d e
 | f+1,l,r,a,b,c,d,e=>by
  unfold kas_place;by_cases z:l ≥ r
  ·rw[if_pos z];obtain rfl:l=r:=by omega
   exact q l b d e
  rw[if_neg z];refine h.ask hkn (by omega) (by omega) ?_;cases hd:decide (kp key p k<kp key p ((l+r) / 2)) with
  | true=>
   have hd:=of_decide_eq_true hd;refine yX h hkn u q f l ((l+r) / 2) (by omega) (by omega) (by omega) d λi h1 h2=>?_;by_cases y:i=(l+r) / 2
   ·rw[y];exact hd
   ·have:=u ((l+r) / 2) i (by omega) h2;omega
  | false=>
   have hd:=of_decide_eq_false hd;refine yX h hkn u q f ((l+r) / 2+1) r (by omega) b (by omega) (λi h1=>?_) e;by_cases y:i=(l+r) / 2
   ·rw[y];omega
   ·have:=u i ((l+r) / 2) (by omega) (by omega);omega
omit hk in
def HJ(h:PP n p)(hkn:k<n)(hl:l<=k)(i:Nat):kp key (bubble p k (k - l)) i=if i=l then kp key p k else if l<i/\i<=k then kp key p (i - 1) else kp key p i:=by
 unfold kp;rw[getElem?_bubble (by rw[h.size]; exact hkn) _ (by omega),show k - (k - l)=l by omega];split
 ·rfl
 ·split <;> rfl
def Jq(q:∀p',PP n p'->Up key p' n->Q p' s):∀(f k:Nat)(p:Array Nat),PP n p->k+f=n->Up key p k->(kas_bin f p k).kasWp (ask key n) Q s
 | 0,k,p,h,e,u=>q p h (by rw[<- e]; exact u)
 | f+1,k,p,h,e,u=>by
  show ((kas_place p k k 0 k).bind λl=>kas_bin f (bubble p k (k - l)) (k+1)).kasWp (ask key n) Q s;rw[KasT.kasWp_bind];refine yX h (by omega) u (λl hl lo hi=>Jq q f (k+1) _ (h.bub _ _) (by omega) λi j hij hj=>?_) k 0 k (by omega) (by omega) (by omega) (λi z=>by omega) (λi y z=>by omega);rw[HJ h (by omega) hl,HJ h (by omega) hl];have key1:∀i,i<l->kp key p i<kp key p k:=λi z=>by
   have:=lo i z;have:=h.dif hk (i:=i) (j:=k) (by omega) (by omega) (by omega);omega
  repeat' split
  all_goals first
   | (exfalso; omega)
   | exact key1 _ (by omega)
   | exact hi _ (by omega) (by omega)
   | exact u _ _ (by omega) (by omega)
def KG(h2:2<=n)(q:∀p',PP n p'->Up key p' n->Q p' s):(kas_sort n).kasWp (ask key n) Q s:=by
 unfold kas_sort;rw[KasT.kasWp_bind];refine IJ hk (Array.Perm.refl _) h2 λm p' h a b u=>?_;dsimp only;by_cases z:m<n
 ·rw[if_pos z];rw[show max m 1=m by omega];exact Jq hk q _ _ _ h (by omega) u
 ·rw[if_neg z];obtain rfl:m=n:=by omega
  exact q _ h u
end
open Calls in
section
variable{prog:Program}{w:World}{A:Around}{E:Ly}{s:Shared}
def Lts(h:Heap)(vs:Lv)(ks:Ls):Prop:=vs.length=ks.length/\∀(i:Nat)(k:Int),ks[i]? = some k->∃a o xs n t,vs[i]? = some (.ref a)/\h.get? a=some o/\o.cls = .type "tuple"/\o.data = .seq xs n/\xs[0]? = some (.int k t)
def BT:∀{vs:Lv}{ks:Ls},Lts h vs ks->∃fs,KatTups h vs fs/\fs.length=ks.length/\∀v∈fs,∃k t,v=Value.int k t
 | [],[],_=>⟨[],.nil,rfl,λv z=>by cases z⟩
 | [],_::_,l=>by cases l.1
 | _::_,[],l=>by cases l.1
 | v::vs,k::ks,l=>by
  obtain⟨a,o,xs,n,t,e,ho,hc,hd,hf⟩:=l.2 0 k rfl;cases e;obtain⟨fs,h1,h2,h3⟩:=BT (vs:=vs) (ks:=ks) ⟨Nat.succ.inj l.1,λi k e=>l.2 (i+1) k e⟩;exact⟨.int k t::fs,.cons ho hc hd hf h1,by rw[length_cons,h2]; rfl,λv z=>by
   rcases mem_cons.mp z with rfl | z
   ·exact⟨k,t,rfl⟩
   ·exact h3 v z⟩
def JN(l:Lts s.heap vs ks)(nd:ks.Nodup)(h:ask (λi=>ks.getD i 0) vs.length i j C s):kas_ask prog w A (tuples' true) vs i j C s:=by
 obtain⟨hi,hj,ne,c⟩:=h;have key:∀{i:Nat},i<vs.length->∃k a o xs n t r,ks[i]? = some k/\ks.getD i 0=k/\vs.getD i Value.none = .ref a/\s.heap.get? a=some o/\o.data = .seq xs n/\xs.toList = .int k t::r:=λ{i} hi=>by
  obtain⟨a,o,xs,n,t,e,ho,_,hd,hf⟩:=l.2 i _ (getElem?_eq_getElem (by rw[<- l.1]; exact hi));rw[<- getElem?_toList]at hf;cases hx:xs.toList with
  | nil=>rw[hx]at hf; cases hf
  | cons x r=>
   rw[hx]at hf;cases hf;exact⟨_,a,o,xs,n,t,r,getElem?_eq_getElem (by rw[<- l.1]; exact hi),by rw[getD_eq_getElem?_getD,getElem?_eq_getElem (by rw[<- l.1]; exact hi)]; rfl,by rw[getD_eq_getElem?_getD,e]; rfl,ho,hd,hx⟩
 obtain⟨k1,a1,o1,xs1,n1,t1,r1,e1,g1,v1,h1,d1,x1⟩:=key hi;obtain⟨k2,a2,o2,xs2,n2,t2,r2,e2,g2,v2,h2,d2,x2⟩:=key hj;have kne:k1≠k2:=λz=>ne ((List.getElem?_inj (List.getElem?_eq_some_iff.mp e1).1 nd).mp (by rw[e1,e2,z]));have c:C (decide (ks.getD i 0<ks.getD j 0)) s:=c;rw[g1,g2]at c;unfold kas_ask;rw[v1,v2];refine kat_lt h1 d1 h2 d2 ?_;rw[x1,x2];refine kat_cons (wpAny_eqBool_int ?_);rw[show (k1 == k2)=false by simpa using kne];exact kat_no (TS.G6 prog w A _ s _ _ k1 k2 rfl rfl c)
def FP(k:Int)(t:Tok):Looks M h (typeOf (.int k t)) (.type "int"):=.now
def GC(ho:s.heap.get? a=some (seqObj "list" vs.toArray n))(l:Lts s.heap vs ks)(nd:ks.Nodup)(h64:vs.length<64)
  (h:∀p:Array Nat,PP vs.length p->Up (λi=>ks.getD i 0) p vs.length->P (.done (.ret .none)) { s with heap:=sortedHeap s.heap a vs (List.toArray (p.toList.map λi=>vs.getD i Value.none)) }):wpAny (model prog w) A (Builtin.«list.sort» ⟨[.ref a],[]⟩) P E s:=by
 have ha:a<s.heap.objs.size:=lt_size ho; have hza:vs.toArray.size=vs.length:=by simp
 have hz:vs.length<=sizeLine:=by rw[sizeLine_eq]; omega
 rw[list_sort_plain]; refine wpAny_bind (listItems_at ho rfl (wpAny_bind (listUpdate_at ho rfl ?_ (by rw[hza]; exact hz))));have ho1:=get?_update_seq ho (λ_=>#[]);generalize (if ((λ_=>#[]:Array Value->Array Value) vs.toArray).size == vs.toArray.size then n else n+1)=e1 at ho1;refine wpAny_bind (seqEpoch_at ho1 rfl (wpAny_bind (wpAny_newTuple (wpAny_bind (wpAny_newList (wpAny_holding ?_))) (by simpa using hz))));generalize eh6:((s.heap.update a (Obj.mapSeq λ_=>#[])).push (seqObj "tuple" vs.toArray 0)).push (seqObj "list" #[] 0)=h6;have ho6:h6.get? a=some (seqObj "list" #[] e1):=by
  rw[<- eh6,get?_push_ne _ _ _ (by rw[size_push',size_update]; exact ne_of_lt (lt_succ_of_lt ha)),get?_push_ne _ _ _ (by rw[size_update]; exact ne_of_lt ha)]; exact ho1
 have l6:Lts h6 vs ks:=⟨l.1,λi k e=>by
  obtain⟨b,o,xs,m,t,e,hb,hc,hd,hf⟩:=l.2 i k e;refine⟨b,o,xs,m,t,e,?_,hc,hd,hf⟩;have hlt:b<s.heap.objs.size:=lt_size hb;rw[<- eh6,get?_push_ne _ _ _ (by rw[size_push',size_update]; exact ne_of_lt (lt_succ_of_lt hlt)),get?_push_ne _ _ _ (by rw[size_update]; exact ne_of_lt hlt),Heap.get?_update_ne _ _ _ _ (λz=>by
   rw[z,ho]at hb;cases hb;injection hc with z
   exact absurd z (by decide))]
  exact hb⟩
 show wpAny (model prog w) A _ P E { s with heap:=h6 };have fin:∀p:Array Nat,PP vs.length p->Up (λi=>ks.getD i 0) p vs.length->P (.done (.ret .none)) { s with heap:=h6.update a (Obj.mapSeq λ_=>List.toArray (p.toList.map λi=>vs.getD i Value.none)) }:=λp a1 a2=>by
  have:=h p a1 a2;unfold sortedHeap at this;rw[eh6]at this;exact this
 dsimp only;by_cases h2:vs.length<2
 ·rw[if_pos (by omega),if_pos (by omega)];refine wpAny_bind (wpAny_pure ?_);rw[StateT.run_pure];refine wpAny_bind (wpAny_pure ?_);dsimp only;have eo:(arrOf (SortSt.mk' general' (vs.toArray.zip vs.toArray) #[] 7 none)).map (·.2)=List.toArray ((List.range vs.length).toArray.toList.map λi=>vs.getD i Value.none):=kat_snds rfl (p:=(List.range vs.length).toArray) (by
   have e:=kas_range (vs.toArray.zip vs.toArray);rw[show (vs.toArray.zip vs.toArray).size=vs.length by simp]at e;exact e.symm)
  rw[eo];refine wpAny_bind (seqEpoch_at ho6 rfl (wpAny_bind (listUpdate_at ho6 rfl ?_ (zero_le _) (by simp; omega))));simp only[bne_self_eq_false,Bool.false_eq_true,if_false];exact wpAny_pure (fin _ (Array.Perm.refl _) λi j _ _=>by omega)
 rw[if_neg (by omega),if_neg (by omega)];obtain⟨fs,t1,t2,t3⟩:=BT l6;refine wpAny_bind (kat_kind (s:={ s with heap:=h6 }) (T:=.type "int") t1 (by rw[t2,<- l.1]; omega) (λv hv=>by
  obtain⟨k,t,rfl⟩:=t3 v hv;exact FP k t) (by decide) ?_)
 have ek:((Value.type "int" != Value.type "tuple"):Bool)=true:=by decide
 rw[ek];refine wpAny_bind (wpAny_mono (kat_run (ks:=vs) (Q:=λst' s'=>s' = { s with heap:=h6 }/\∃p:Array Nat,PP vs.length p/\Up (λi=>ks.getD i 0) p vs.length/\arrOf st'=p.map (kas_item (vs.toArray.zip vs.toArray))/\failedOf st'=none) (G:=λp s'=>s' = { s with heap:=h6 }/\PP vs.length p/\Up (λi=>ks.getD i 0) p vs.length) rfl (by omega) h64 (λp st' s' _ a2 a3 a4=>⟨a4.1,p,a4.2.1,a4.2.2,a2,a3⟩) ?_) ?_ λ_ _ e=>e)
 ·have go:∀{α : Type}(t:KasT α){Q:α->Shared->Prop},t.kasWp (ask (λi=>ks.getD i 0) vs.length) Q { s with heap:=h6 }->t.kasWp (kas_ask prog w A (tuples' true) vs) Q { s with heap:=h6 }:=by
   intro α t
   induction t with
   | ret a=>exact λh=>h
   | ask i j k ih=>exact λh=>JN l6 nd ⟨h.1,h.2.1,h.2.2.1,ih _ h.2.2.2⟩
  refine go _ (KG (λi j hi hj ne e=>?_) (by omega) λp a b=>⟨rfl,a,b⟩);rw[l.1]at hi hj;rw[getD_eq_getElem?_getD,getD_eq_getElem?_getD,getElem?_eq_getElem hi,getElem?_eq_getElem hj]at e;exact ne ((List.getElem?_inj hi nd).mp (by rw[getElem?_eq_getElem hi,getElem?_eq_getElem hj]; exact congrArg some e))
 rintro ⟨⟨⟩,st'⟩ s' ⟨rfl,p,hp,hu,har,hf⟩;dsimp only;rw[kat_snds rfl har];refine wpAny_bind (seqEpoch_at ho6 rfl (wpAny_bind (listUpdate_at ho6 rfl ?_ (zero_le _) (by rw[size_toArray,length_map,length_toList,hp.size]; omega))));rw[hf]; simp only[bne_self_eq_false,Bool.false_eq_true,if_false];exact wpAny_pure (fin p hp hu)
end
end TT
namespace L2
open PySem PySem.Spec PySem.W PyProof.Rows
section
variable{X:Cx}
def GX:L6->Hp->VK->Prop:=λxs H Q=>∃(l:Addr) (zs:List (Int × Addr)),xs=[.ref l]/\H l=some (.lst (zs.map λz=>.ref z.2))/\(∀z∈zs,∃r,H z.2=some (.tup (.int z.1::r)))/\(zs.map (·.1)).Nodup/\zs.length<64/\
 ∀p ys,List.Perm ys zs->(ys.map (·.1)).Pairwise (· < ·)->H p=none->Q (.ref p) (upd H p (.lst (ys.map λz=>.ref z.2)))
def wD:∀{zs:List (Int × Addr)}{vs:Lv},bZ (zs.map λz=>V.ref z.2) vs->vs=zs.map λz=>Value.ref z.2
 | [],_,r=>by
  cases r;rfl
 | z::zs,_,r=>by
  cases r with
  | cons a b=>
   rw[map_cons,<- wD b];exact congrArg (· :: _) a
def xQ:∀zs:List (Int × Addr),bZ (zs.map λz=>V.ref z.2) (zs.map λz=>Value.ref z.2)
 | []=>.nil
 | z::zs=>.cons rfl (xQ zs)
def AM:gM X (.builtin "sorted") GX:=by
 intro pins s σ H xs us Q I r h;obtain⟨l,zs,rfl,hd,ht,nd,h64,q⟩:=h;cases r with
 | cons r1 r2=>
  cases r2;cases (show _=Value.ref l from r1);obtain⟨vs,rv,hp,hz⟩:=I.list (SqL.of hd);obtain rfl:=wD rv;have h64:(zs.map λz=>Value.ref z.2).length<64:=by rw[length_map]; exact h64
  have lt:TT.Lts s.heap (zs.map λz=>Value.ref z.2) (zs.map (·.1)):=⟨by rw[length_map,length_map],λi k e=>by
   rw[getElem?_map]at e;cases hi:zs[i]? with
   | none=>rw[hi]at e; cases e
   | some z=>
    rw[hi]at e;cases e;obtain⟨r,hr⟩:=ht z (mem_of_getElem? hi);obtain⟨its,rr,⟨o,e1,e2,n,e3⟩,_⟩:=I.tuple (SqT.of hr);cases rr with
    | cons a b=>
     obtain⟨t,rfl⟩:=a;exact⟨z.2,o,_,n,t,by rw[getElem?_map,hi]; rfl,e1,e2,e3,rfl⟩⟩
  refine Calls.call_function_entry kind_sorted plain_sorted entry_sorted (args_sorted1 _) ?_;unfold Builtin.«sorted»;refine wpAny_bind (m:=checkCount "sorted" 1 1 _) (wpAny_pure ?_);have hsl:(zs.map λz=>Value.ref z.2).length<=sizeLine:=by rw[sizeLine_eq]; omega
  refine wpAny_bind (collect_list hp.isList ?_ hsl);refine wpAny_bind (wpAny_newList ?_ hsl);generalize hvs:(zs.map λz=>Value.ref z.2)=vs at lt h64 hsl rv hp ⊢;have hsz:((s.heap.push (seqObj "list" #[] 0)).update s.heap.objs.size (Obj.mapSeq (· ++ vs.toArray))).objs.size=s.heap.objs.size+1:=by
   rw[size_update,size_push']
  have hoL:(((s.heap.push (seqObj "list" #[] 0)).update s.heap.objs.size (Obj.mapSeq (· ++ vs.toArray))).push (seqObj "list" vs.toArray 0)).get? (s.heap.objs.size+1)=some (seqObj "list" vs.toArray 0):=by
   rw[<- hsz]; exact get?_push_size _ rfl
  have keep:∀b o,s.heap.get? b=some o->(((s.heap.push (seqObj "list" #[] 0)).update s.heap.objs.size (Obj.mapSeq (· ++ vs.toArray))).push (seqObj "list" vs.toArray 0)).get? b=some o:=λb o q=>by
   have hlt:b<s.heap.objs.size:=lt_size q;rw[get?_push_ne _ _ _ (by rw[hsz]; exact ne_of_lt (lt_succ_of_lt hlt)),Heap.get?_update_ne _ _ _ _ (ne_of_lt hlt),get?_push_ne _ _ _ (ne_of_lt hlt)];exact q
  show wpAny _ _ _ _ _ { s with heap:=((s.heap.push (seqObj "list" #[] 0)).update s.heap.objs.size (Obj.mapSeq (· ++ vs.toArray))).push (seqObj "list" vs.toArray 0) };rw[hsz];refine wpAny_bind (wpAny_holding (wpAny_call_entry slot_list_sort ⟨_,hoL,rfl⟩ entry_list_sort (TT.GC hoL ⟨lt.1,λi k e=>by
   obtain⟨a,o,xs,n,t,e1,e2,e3⟩:=lt.2 i k e;exact⟨a,o,xs,n,t,e1,keep _ _ e2,e3⟩⟩ nd h64 λp hp' hu=>?_) (args_list_sort _)))
  refine⟨_,rfl,wpAny_pure ⟨_,rfl,?_⟩⟩;have hlz:vs.length=zs.length:=by rw[<- hvs,length_map]
  have eout:(p.toList.map λi=>vs.getD i Value.none)=(p.toList.map λi=>zs.getD i (0,0)).map λz=>Value.ref z.2:=by
   rw[map_map];refine map_congr_left λi hi=>?_;have hi:i<zs.length:=by
    have:=(perm_iff_toList_perm.mp hp').mem_iff.mp hi;rw[<- hlz];simpa using this
   rw[<- hvs,getD_eq_getElem?_getD,getElem?_map,getElem?_eq_getElem hi];show _=Value.ref (zs.getD i (0,0)).2;rw[getD_eq_getElem?_getD,getElem?_eq_getElem hi];rfl
  rw[eout];have perm:List.Perm (p.toList.map λi=>zs.getD i (0,0)) zs:=by
   have h1:=(perm_iff_toList_perm.mp hp').map λi=>zs.getD i (0,0);rw[hlz]at h1;refine h1.trans (List.Perm.of_eq (List.ext_getElem (by simp) λi a b=>?_));simp [b]
  obtain⟨ep2,gat⟩:=sortedAll_at s.heap vs (((p.toList.map λi=>zs.getD i (0,0)).map λz=>Value.ref z.2).toArray);have hf:H (s.heap.objs.size+1)=none:=I.hok.fresh (le_succ _);refine⟨.ref (s.heap.objs.size+1),upd H (s.heap.objs.size+1) (.lst ((p.toList.map λi=>zs.getD i (0,0)).map λz=>V.ref z.2)),I.laid (t':=s.toks) (λb u e=>sortedAll_old e) (le_succ _) ?_,rfl,q _ _ perm ?_ hf⟩
  ·refine⟨?_,_,ep2,xQ _,gat⟩;rw[length_map,perm.length_eq,<- hlz];exact hsl
  ·rw[map_map,List.pairwise_map,List.pairwise_iff_getElem];intro i j hi hj hij;rw[length_toList,hp'.size]at hj;have:=hu i j hij hj;unfold TT.kp at this;obtain⟨x,ex,hx⟩:=hp'.at (show i<vs.length by omega);obtain⟨y,ey,hy⟩:=hp'.at hj;rw[ex,ey]at this;have gx:p.toList[i]=x:=by
    rw[<- getElem?_toList]at ex;exact(List.getElem?_eq_some_iff.mp ex).2
   have gy:p.toList[j]=y:=by
    rw[<- getElem?_toList]at ey;exact(List.getElem?_eq_some_iff.mp ey).2
   rw[gx,gy];have at1:∀i,i<vs.length->(zs.map (·.1)).getD i 0=(zs.getD i (0,0)).1:=λi hi=>by
    have hi:i<zs.length:=by omega
    rw[getD_eq_getElem?_getD,getD_eq_getElem?_getD,getElem?_map,getElem?_eq_getElem hi];rfl
   have this:(zs.map (·.1)).getD x 0<(zs.map (·.1)).getD y 0:=this;rw[at1 x hx,at1 y hy]at this;exact this
end
end L2
section
local macro_rules | `(tactic| trivial) => `(tactic| first | rfl | decide | exact .inl rfl | exact .inr rfl | exact .inr (.inl rfl) | exact .inr (.inr rfl) | (intro _; rfl) | with_unfolding_all rfl)
local macro_rules | `(⋯) => `(by trivial)
local macro_rules | `(‹0›) => `(⟨rfl, rfl, rfl, by decide +kernel, rfl, by decide +kernel, by decide +kernel⟩)
set_option hygiene false
local macro_rules
 | `(‹1›) => `(TxtD K mg aa2 aa5 ab9 aa6 aa1 ab0 aa7)
 | `(‹2›) => `(Callee P w K mg base "is_number" 1 ["thing", "least", "most"] lA)
 | `(‹3›) => `(TxtQ K mg A)
 | `(‹4›) => `(Method P w K mg base A.queue "write" 7 ["self", "rows"] (nT A))
 | `(‹5›) => `(Method P w K mg base aa7 "check_file" 3 ["self", "name"] (jQ aa7 aa2 aa5))
 | `(‹6›) => `(Method P w K mg base A.disk "add" 4 ["self", "name", "some"] (zD A.disk A.badName A.missing A.badRow A.stopped))
 | `(‹7›) => `(Callee P w K mg base "_law_write" 2 ["_law_state", "_law_rows", "_law_most"] jY)
 | `(‹8›) => `(TxtK K mg aa9 aa1 aa3 aa4)
 | `(‹9›) => `(Callee P w K mg base "segment_name" 1 ["segment"] iB)
 | `(‹10›) => `(Callee P w K mg base "_law_seed" 1 ["_law_seed_here", "_law_k"] y9)
 | `(‹11›) => `(Method P w K mg base aa7 "count_step" 1 ["self"] (jP aa7 aa6))
 | `(‹12›) => `(Method P w K mg base A.book "letter" 1 ["self", "number"] (mY A.book))
 | `(‹13›) => `(Callee P w K mg base "_law_ready" 1 ["_law_state", "_law_tries"] qB)
 | `(‹14›) => `(FnOk P w K mg base (CXE P w))
 | `(‹15›) => `(Callee P w K mg base)
 | `(‹16›) => `(Method P w K mg base)
 | `(‹17›) => `(Maker P w K mg base)
 | `(‹18›) => `((hr.mono (by decide)))
 | `(‹19›) => `((⟨aa9, aa1, aa3, aa4, aa2, aa5, ab9, aa6, ab0, aa7, aa8, ak2, aj4, as8, aj5⟩ : Ad))
 | `(‹20›) => `(cF (cS K) (pv 1) aI (λ_ _ => rfl))
 | `(‹21›) => `(dX (hu1 hr.units) (pv 0) bH (λ_ _ => rfl))
 | `(‹22›) => `(nZ (pv 0) ⋯)
 | `(‹23›) => `(@dX _ _ _ _ _ _ (hu1 hr.units) (@pv _ 0 _ _ ⋯ ⋯ ⋯ ⋯) (@bH _ _ _ _) (λ_ _ => rfl))
 | `(‹24›) => `(aN bH aG)
 | `(‹25›) => `(cF (cS K) (pv 0) aI (λ_ _ => rfl))
 | `(‹26›) => `(aE (pv 1) aG)
 | `(‹27›) => `(bA dU (bA m7 (pv 1) aI) aI)
 | `(‹28›) => `(bF (iQ K) ⋯ T.ac1 eO (aE (pv 0) (aE (sL (v := .ty "tuple") ⋯ T.ai4 pT ⋯) aG)))
 | `(‹29›) => `(bF (dD K) ⋯ T.ad1 fW (aE (pv 0) aG))
 | `(‹30›) => `(bA m7 (pv 1) aI)
local macro_rules
 | `(‹31›) => `(λC s2 H2 ex => (bG (i := 0) (show List.Nodup (["number", "self"] : Lu) by decide +kernel) ⋯ (Or.inl ⋯)))
 | `(‹32›) => `(@cF _ _ _ _ _ _ _ (cS K) (@pv _ 1 _ _ ⋯ ⋯ ⋯ ⋯) (@aI _ _ _ _) (λ_ _ => rfl))
 | `(‹33›) => `(@pv _ 0 _ _ ⋯ ⋯ ⋯ ⋯)
 | `(‹34›) => `(aE (pv 0) aG)
 | `(‹35›) => `(aN aI aG)
 | `(‹36›) => `(cF (cS K) (pv 3) aI (λ_ _ => rfl))
 | `(‹37›) => `(aE (pv 2) aG)
 | `(‹38›) => `(@dX _ _ _ _ _ _ (hu1 hr.units) (@pv _ 1 _ _ ⋯ ⋯ ⋯ ⋯) (@bH _ _ _ _) (λ_ _ => rfl))
 | `(‹39›) => `(λC s2 H2 ex => (bG (i := 0) (show List.Nodup (["letter", "self"] : Lu) by decide +kernel) ⋯ (Or.inl ⋯)))
 | `(‹40›) => `(λC s2 H2 ex => Do)
 | `(‹41›) => `(cF (cS K) (dX (hu1 hr.units) (Dq K (pv 1) ⋯) (pv 0) (λ_ _ => rfl)) aI (λ_ _ => rfl))
 | `(‹42›) => `(@bH _ _ _ _)
 | `(‹43›) => `(aN aI (aE (cM (v := .int 999999) ⋯ ac7 ⟨_, rfl⟩) aG))
 | `(‹44›) => `(aR fK (pv 2) bH (bD _))
 | `(‹45›) => `(cF (cS K) (pv 7) aI (λ_ _ => rfl))
 | `(‹46›) => `(bV (bE aG) aG)
 | `(‹47›) => `(aE (pv 3) aG)
 | `(‹48›) => `(@aI _ _ _ _)
 | `(‹49›) => `(cF (cK K) (pv 9) aI (λ_ _ => rfl))
 | `(‹50›) => `(show List.Nodup (["_law_number", "_law_state"] : Lu) by decide +kernel)
 | `(‹51›) => `(bA cU (pv 1) (cM (v := .int 7) ⋯ al7 ⟨_, rfl⟩))
 | `(‹52›) => `(aR fK (pv 3) bH (bD _))
 | `(‹53›) => `(bG (i := 3) nD0 ⋯ ⋯)
 | `(‹54›) => `(show j ∈ (M.ls.map (·.1)).filter _ from (mem_filter.mp hj).1)
 | `(‹55›) => `(aE (sL (v := .ty "str") ⋯ T.bi9 Lb ⋯) aG)
 | `(‹56›) => `(cF (cK K) (pv 1) (BC sX aI) (λ_ _ => rfl))
 | `(‹57›) => `(cF (cS K) (pv 5) aI (λ_ _ => rfl))
 | `(‹58›) => `(cM (v := .ref aa9) ⋯ T.bk4 ⋯)
 | `(‹59›) => `(aY (dI al8 T.cl ‹18› bP (pv 0)))
 | `(‹60›) => `(dX (hu1 hr.units) (pv 1) bH (λ_ _ => rfl))
local macro_rules
 | `(‹61›) => `(aC (aQ Ds))
 | `(‹62›) => `(Dq K (pv 1) ⋯)
 | `(‹63›) => `(show _ ≤ 1000 by omega)
 | `(‹64›) => `(aR fK (pv 0) bH (bD _))
 | `(‹65›) => `(aE (pv 4) aG)
 | `(‹66›) => `(λC s2 H2 ex => (pv 0))
 | `(‹67›) => `(aC (aQ jT))
 | `(‹68›) => `(aC (qI (pv 0) aI u6))
 | `(‹69›) => `(aR fK (pv 6) bH (bD _))
 | `(‹70›) => `(aR uR (pv 3) aI (bD _))
 | `(‹71›) => `(bG (i := 4) nD0 ⋯ ⋯)
 | `(‹72›) => `(aC (dW eV ⋯ T.af4 ⋯ T.ba0 ‹24›))
 | `(‹73›) => `(bF (gI ⋯) ⋯ T.ae5 gS (gB ‹22› aG))
 | `(‹74›) => `(aY (iD K PySem.F.plainAttrs_dict PySem.F.slot_dict_pop PySem.F.type_dict_pop pC ‹21› (aE (pv 5) aG)))
 | `(‹75›) => `(bF (dD K) ⋯ T.ad1 fW ‹26›)
 | `(‹76›) => `(aC (aY (iD K PySem.F.plainAttrs_dict PySem.F.slot_dict_pop PySem.F.type_dict_pop pC ‹22› ‹37›)))
 | `(‹77›) => `(gB ‹22› aG)
 | `(‹78›) => `(aM ‹20› aG)
 | `(‹79›) => `(aY (cO ah1 T.cl ‹18› bP (pv 0) ‹26›))
 | `(‹80›) => `(cF (cK K) (cD (aN aI ‹35›)) ‹27› (λ_ _ => rfl))
 | `(‹81›) => `(@aR _ _ _ _ _ _ _ _ fK (@pv _ 6 _ _ ⋯ ⋯ ⋯ ⋯) ‹42› (bD _))
 | `(‹82›) => `(aC (dW eV ⋯ T.ag2 ⋯ T.bf9 ‹24›))
 | `(‹83›) => `(dX (hu1 hr.units) ‹22› (pv 1) (λ_ _ => rfl))
 | `(‹84›) => `(aC (dW eV ⋯ T.ae9 ⋯ T.ax9 ‹24›))
 | `(‹85›) => `(aC (dW eV ⋯ T.am9 ⋯ T.bj1 ‹24›))
 | `(‹86›) => `(aC (dW eV ⋯ T.ag4 ⋯ T.bg6 ‹24›))
 | `(‹87›) => `(aN bH (aN bH ‹24›))
 | `(‹88›) => `(@aM _ _ _ _ _ _ _ ‹23› (@aG _))
 | `(‹89›) => `(aM ‹21› aG)
 | `(‹90›) => `(bC ab2 ‹18› aZ ‹77›)
set_option hygiene true
namespace Qh
open PySem L2
def top(i:Nat):Stmt:=PySem.Challenge.pw_queuehold_k39_whole_hands_and_times.main.body.getD i (.Pass ⟨0,0,0,0⟩)
abbrev rJ:Stmt:=top 3
abbrev uG:Stmt:=top 4
abbrev rK:Stmt:=top 28
abbrev A1:Stmt:=top 29
abbrev rM:Stmt:=top 30
def fW:bootBuiltins "len" = some (.builtin "len"):=by decide +kernel
def eO:bootBuiltins "isinstance" = some (.builtin "isinstance"):=by decide +kernel
def Hu:bootBuiltins "all" = some (.builtin "all"):=by decide +kernel
def AQ:bootBuiltins "sum" = some (.builtin "sum"):=by decide +kernel
def pT:bootBuiltins "tuple" = some (.type "tuple"):=by decide +kernel
def DB:bootBuiltins "int" = some (.type "int"):=by decide +kernel
def Ji:bootBuiltins "bool" = some (.type "bool"):=by decide +kernel
def Lb:bootBuiltins "str" = some (.type "str"):=by decide +kernel
def cT:Lu:=["put","out","done","from","part","deal","carried","new"]
structure TxtR(K:Ln)(mg:Lp)(aa9 aa1:Addr):Prop where
 ad1:mg "len" = none
 ac1:mg "isinstance" = none
 bj0:mg "all" = none
 ax4:mg "sum" = none
 ai4:mg "tuple" = none
 ba5:mg "int" = none
 bj2:mg "bool" = none
 bi9:mg "str" = none
 ai5:mg "range" = none
 af9:mg "enumerate" = none
 ap1:∃t,mg "HIGHEST_BYTE" = some (.int 255 t)
 ad0:∃t,mg "HIGHEST_NUMBER" = some (.int 999999 t)
 bc6:∃t,mg "LONGEST_BODY" = some (.int 60 t)
 ah2:∃t,mg "HIGHEST_TIMES" = some (.int 9 t)
 ai6:∃t,mg "LARGEST_DEAL" = some (.int 9 t)
 bk4:mg "KINDS" = some (.ref aa9)
 ax5:∀H,SqT K H aa9 (cT.map V.str)
 l_KINDS:∃o,K.lookup aa9=some o/\o.cls = .type "tuple"/\o.dict=none
 ag4:dO K aa1=true
 bg6:mg "BadRow" = some (.ref aa1)
def bO(lo hi:Int):PyData->Bool
 | .int i=>decide (lo<=i) && decide (i<=hi)
 | _=>false
def cW:PyData->Bool
 | .tuple ds=>ds.all (bO 0 255)
 | _=>false
def fB(k:Str)(ns:Ls):Bool:=
 if k = "put"\/k = "part" then decide (ns.length<=60)
 else if k = "carried" then decide (1<=ns.length) && decide (ns.length<=61) && decide (ns.headD 0<=9)
 else if k = "deal" then decide (ns.length=1) && decide (1<=ns.headD 0) && decide (ns.headD 0<=9)
 else decide (ns.length=0)
inductive lA(vs:L6)(H:Hp)(Q:VK)(x_3:XK):Prop
 | mk:∀v d lo hi,vs=[v,.int lo,.int hi]->Den H d v->Q (.bl (bO lo hi d)) H->lA vs H Q x_3
inductive gZ(vs:L6)(H:Hp)(Q:VK)(x_3:XK):Prop
 | mk:∀v d,vs=[v]->Den H d v->(∀ds,d = .tuple ds->ds.length<=sizeLine)->(∀H',aH H H'->Q (.bl (cW d)) H')->gZ vs H Q x_3
inductive lB(vs:L6)(H:Hp)(Q:VK)(x_3:XK):Prop
 | mk:∀k a ns,vs=[.str k,.ref a]->H a=some (.tup (ns.map V.int))->Q (.bl (fB k ns)) H->lB vs H Q x_3
def sR(h:a=b):decide (V.str a=V.str b)=true:=decide_eq_true (by rw[h])
def sQ(h:¬ a=b):decide (V.str a=V.str b)=false:=decide_eq_false (λz=>h (V.str.inj z))
def pR(h:¬ a=b):decide (V.int a=V.int b)=false:=decide_eq_false (λz=>h (V.int.inj z))
section
variable{P:Program}{w:World}{K:Ln}{mg:Lp}{base:Heap}{aa9 aa1:Addr}
def zS(F:Fun K "is_number" "is_number" rJ f fd)(T:TxtR K mg aa9 aa1):‹14› 1 f fd ["thing","least","most"] lA:=by
 refine F.okY ["thing","least","most"] λcdv A outer s H vs Q E hr nD0 h=>?_;obtain⟨v,d,lo,hi,rfl,hd,q⟩:=h;refine⟨_,aA (a8 (mC (dH (bF (iQ K) ⋯ T.ac1 eO (aE (pv 0) (aE (sL (v:=.ty "bool") ⋯ T.bj2 Ji ⋯) aG)))) (iY (cR (dH (bF (iQ K) ⋯ T.ac1 eO (aE (pv 0) (aE (sL (v:=.ty "int") ⋯ T.ba5 DB ⋯) aG))))))).pt
   ‹61›
   aO)
  (aC (aQ (uP i5 i5 (pv 1) (pv 0) (pv 2)))),?_⟩
 refine⟨_,rfl,_,_,_,_,rfl,hd.ty,HK d,_,rfl,?_⟩;cases d with
 | bool b=>exact aU (aU q)
 | int i=>
  refine bB ⟨_,rfl,_,_,_,_,rfl,hd.ty,nC _,_,rfl,bB ?_⟩;have e:v = .int i:=by simpa only[Den] using hd
  subst e;refine⟨_,rfl,_,rfl,_,_,rfl,rfl,_,rfl,?_⟩;simp only[bO]at q;by_cases h1:lo<=i
  ·rw[if_pos (decide_eq_true h1)];refine⟨_,rfl,_,_,rfl,rfl,?_⟩;rw[decide_eq_true h1,Bool.true_and]at q;exact q
  ·rw[if_neg (by simpa using h1)];rw[decide_eq_false h1,Bool.false_and]at q;exact q
 | none=>exact bB ⟨_,rfl,_,_,_,_,rfl,hd.ty,nC _,_,rfl,aU q⟩
 | str x=>exact bB ⟨_,rfl,_,_,_,_,rfl,hd.ty,nC _,_,rfl,aU q⟩
 | tuple x=>exact bB ⟨_,rfl,_,_,_,_,rfl,hd.ty,nC _,_,rfl,aU q⟩
 | list x=>exact bB ⟨_,rfl,_,_,_,_,rfl,hd.ty,nC _,_,rfl,aU q⟩
 | dict x=>exact bB ⟨_,rfl,_,_,_,_,rfl,hd.ty,nC _,_,rfl,aU q⟩
def BO(F:Fun K "is_bytes" "is_bytes" uG f fd)(T:TxtR K mg aa9 aa1)(ab1:‹2›):‹14› 2 f fd ["thing"] gZ:=by
 obtain⟨_,ba6⟩:=T.ap1;refine F.okY ["thing"] λcdv A outer s H vs Q E hr nD0 h=>?_;obtain⟨v,d,rfl,hd,hz,q⟩:=h;refine⟨_,aC (aQ (n5 ‹28› (uN (bF (yN K) ⋯ T.bj0 Hu (dY (dC ["one"] [] ⋯ (zL K (pv 0)) (λC s2 H2 ex=>(bG (i:=0) (show List.Nodup (["one"]:Lu) by decide +kernel) ⋯ (Or.inl ⋯))) ‹40› (λC s2 H2 ex=>(bC ab1 ‹18› aZ (aE (pv 0) (aN aI (aE (cM (v:=.int 255) ⋯ ba6 ⟨_,rfl⟩) aG)))))) aG))))),?_⟩;refine⟨_,rfl,_,_,_,_,rfl,hd.ty,qP d,_,rfl,?_⟩;cases d with
 | tuple ds=>
  refine aU ?_;have hd':=hd;simp only[Den]at hd';obtain⟨a,xs,rfl,ha,hds⟩:=hd';have hl:=hds.length;refine⟨_,rfl,a,rfl,⟨xs,SqT.of ha⟩,?_⟩;refine c9 (sI (K:=K) (SqT.of ha)) (by rw[hl]; exact hz ds rfl) (λi y _=>∃d,ds[i]? = some d/\y = .bl (bO 0 255 d)) (λ_ _ _ _ _ h=>h) (λσ=>σ.length=1) ?z0 ?_ ?_
  case z0=>rfl
  ·intro i x σc H3 hi hσ s3 hx Q' hQ';obtain⟨d,hdi,hdx⟩:=hds.get hx
   match σc,hσ with
   | [z],_=>
    refine⟨_,rfl,x,d,0,255,rfl,hdx.same s3,?_⟩;exact hQ' _ _ _ rfl (aH.refl _) ⟨d,hdi,rfl⟩
  ·intro D ys H' hD s' hD' hlen hR;have ey:ys=(ds.map (bO 0 255)).map V.bl:=by
    apply ext_getElem?;intro i;cases e:ys[i]? with
    | none=>
     have:ys.length<=i:=List.getElem?_eq_none_iff.mp e;rw[getElem?_eq_none (by rw[length_map,length_map]; omega)]
    | some y=>
     obtain⟨d,h1,h2⟩:=hR i y e;rw[getElem?_map,getElem?_map,h1,h2];rfl
   refine⟨D,ds.map (bO 0 255),rfl,SqL.of (by rw[hD',ey]),?_⟩;have:=q H' s';simp only[cW]at this;rw[all_map];exact this
 | none=>exact bB (q H (aH.refl H))
 | bool x=>exact bB (q H (aH.refl H))
 | int x=>exact bB (q H (aH.refl H))
 | str x=>exact bB (q H (aH.refl H))
 | list x=>exact bB (q H (aH.refl H))
 | dict x=>exact bB (q H (aH.refl H))
def zT(F:Fun K "fits_kind" "fits_kind" rK f fd)(T:TxtR K mg aa9 aa1):‹14› 1 f fd ["kind","body"] lB:=by
 obtain⟨_,an0⟩:=T.bc6;obtain⟨_,ag5⟩:=T.ah2;obtain⟨_,ah3⟩:=T.ai6;refine F.okY ["kind","body"] λcdv A outer s H vs Q E hr nD0 h=>?_;obtain⟨k,a,ns,rfl,ha,q⟩:=h;refine⟨_,aA (a8 (mC ‹64› (iY ‹64›)).pt
   (aC (aQ (gA i5 ‹75› (cM (v:=.int 60) ⋯ an0 ⟨_,rfl⟩) (bD _))))
   aO)
  (aA (a8 ‹64›
   (aC (aQ (n5 (uP i5 i5 aI ‹75› (bA cU aI (cM (v:=.int 60) ⋯ an0 ⟨_,rfl⟩))) (uN (gA i5 ‹20› (cM (v:=.int 9) ⋯ ag5 ⟨_,rfl⟩) (bD _))))))
   aO)
  (aA (a8 ‹64›
   (aC (aQ (n5 (gA fK ‹75› aI (bD _)) (uN (uP i5 i5 aI ‹20› (cM (v:=.int 9) ⋯ ah3 ⟨_,rfl⟩))))))
   aO)
  (aC (aQ (gA fK ‹75› aI (bD _)))))),?_⟩
 have hsq:SqT K H a (ns.map V.int):=SqT.of ha;have at0:∀x r,ns=x::r->atI (ns.map V.int) 0=some (V.int x):=λx r e=>by
  subst e;exact cI (j:=0) rfl
 have ln:((ns.map V.int).length:Int)=(ns.length:Int):=by rw[length_map]
 unfold fB at q;refine⟨_,rfl,rfl,_,rfl,?_⟩;by_cases h1:k = "put"
 ·rw[if_pos (.inl h1)]at q;rw[sR h1];refine aU (aU ⟨_,rfl,a,_,rfl,.inr hsq,_,_,rfl,rfl,?_⟩);have e:decide (((ns.map V.int).length:Int)<=60)=decide (ns.length<=60):=by
   apply decide_eq_decide.mpr;rw[ln];omega
  show Q (.bl (decide (((ns.map V.int).length:Int)<=60))) H;rw[e];exact q
 rw[sQ h1];refine bB ⟨_,rfl,rfl,_,rfl,?_⟩;by_cases h2:k = "part"
 ·rw[if_pos (.inr h2)]at q;rw[sR h2];refine aU ⟨_,rfl,a,_,rfl,.inr hsq,_,_,rfl,rfl,?_⟩;have e:decide (((ns.map V.int).length:Int)<=60)=decide (ns.length<=60):=by
   apply decide_eq_decide.mpr;rw[ln];omega
  show Q (.bl (decide (((ns.map V.int).length:Int)<=60))) H;rw[e];exact q
 rw[sQ h2];rw[if_neg (by rintro (z | z); exact h1 z; exact h2 z)]at q;refine bB ⟨_,rfl,rfl,_,rfl,?_⟩;by_cases h3:k = "carried"
 ·rw[if_pos h3]at q;rw[sR h3];refine aU ⟨_,rfl,a,_,rfl,.inr hsq,_,_,rfl,rfl,_,rfl,?_⟩;by_cases l1:1<=ns.length
  ·rw[if_pos (decide_eq_true (by rw[ln]; omega))];rw[decide_eq_true l1,Bool.true_and]at q;refine⟨_,_,rfl,rfl,_,_,rfl,rfl,_,rfl,?_⟩;by_cases l2:ns.length<=61
   ·rw[if_pos (decide_eq_true (by rw[ln]; omega))];rw[decide_eq_true l2,Bool.true_and]at q
    match ns,l1,at0,q,hsq with
    | x::r,_,at0,q,hsq=>
     exact⟨_,rfl,a,_,_,_,rfl,rfl,hsq,at0 x r rfl,_,_,rfl,rfl,q⟩
   ·rw[if_neg (by rw[decide_eq_true_eq,ln]; omega)];rw[decide_eq_false l2,Bool.false_and]at q;exact q
  ·rw[if_neg (by rw[decide_eq_true_eq,ln]; omega)];rw[decide_eq_false l1,Bool.false_and,Bool.false_and]at q;exact⟨_,rfl,bB q⟩
 rw[sQ h3];rw[if_neg h3]at q;refine bB ⟨_,rfl,rfl,_,rfl,?_⟩;by_cases h4:k = "deal"
 ·rw[if_pos h4]at q;rw[sR h4];refine aU ⟨_,rfl,a,_,rfl,.inr hsq,rfl,_,rfl,?_⟩
  match ns,at0,q,hsq with
  | [],at0,q,hsq=>exact bB q
  | [x],at0,q,hsq=>
   refine aU ⟨_,rfl,a,_,_,_,rfl,rfl,hsq,at0 x [] rfl,_,_,rfl,rfl,_,rfl,?_⟩;have q:Q (.bl (decide (1<=x) && decide (x<=9))) H:=q;by_cases l1:1<=x
   ·rw[if_pos (decide_eq_true l1)];rw[decide_eq_true l1,Bool.true_and]at q;exact⟨_,_,rfl,rfl,q⟩
   ·rw[if_neg (by simpa using l1)];rw[decide_eq_false l1,Bool.false_and]at q;exact q
  | x::y::r,at0,q,hsq=>
   have e:decide ((((x::y::r).length:Nat):Int)=1)=false:=decide_eq_false (by simp; omega);have e2:decide ((x::y::r).length=1)=false:=decide_eq_false (by simp);rw[e2,Bool.false_and,Bool.false_and]at q;rw[pR (by simp; omega)];exact bB q
 rw[sQ h4];rw[if_neg h4]at q;refine bB ⟨_,rfl,a,_,rfl,.inr hsq,rfl,?_⟩;show Q (.bl (decide (V.int ((ns.map V.int).length:Int)=V.int 0))) H;have e:decide (V.int ((ns.map V.int).length:Int)=V.int 0)=decide (ns.length=0):=by
  apply decide_eq_decide.mpr;rw[ln];constructor
  ·intro z;have:=V.int.inj z;omega
  ·intro z;rw[z];rfl
 rw[e];exact q
def bM:PyData->Ls
 | .tuple ds=>ds.map λd=>match d with | .int i=>i | _=>0
 | _=>[]
def bK:PyData->Bool
 | .tuple [.str k,n,b]=>cT.contains k && (bO 0 999999 n && (cW b && fB k (bM b)))
 | _=>false
def LF{α : Type}{l:List α}(h:l.length=3):∃a b c,l=[a,b,c]:=by
 match l,h with
 | [a,b,c],_=>exact⟨a,b,c,rfl⟩
def x3(h:ds.length≠3):bK (.tuple ds)=false:=by
 match ds,h with
 | [],_=>rfl
 | [a],_=>cases a <;> rfl
 | [a,b],_=>cases a <;> rfl
 | [_,_,_],h=>exact absurd rfl h
 | a::b::c::d::r,_=>cases a <;> rfl
def FQ(k:Str)(ks:Lu):inV (.str k) (ks.map V.str)=ks.contains k:=by
 unfold inV;rw[List.any_map,List.contains_eq_any_beq];congr 1;funext y;show (y == k)=(k == y);exact Bool.beq_comm
def FV(ks:Lu):(ks.map V.str).all nQ=true:=by
 rw[all_map];exact all_eq_true.mpr λ_ _=>rfl
def mR:∀{bs:Lw}{xs:L6},aP H bs xs->bs.all (bO 0 255)=true->xs=(bM (.tuple bs)).map V.int
 | [],xs,h,_=>by
  simp only[aP]at h;subst h;rfl
 | d::bs,xs,h,e=>by
  simp only[aP]at h;obtain⟨x,r,e1,h1,h2⟩:=h;rw[all_cons,and_eq_true]at e;have e2:=mR h2 e.2;cases d with
  | int i=>
   simp only[Den]at h1;rw[e1,h1,e2];rfl
  | _=>exact absurd e.1 (by simp [bO])
inductive jZ(vs:L6)(H:Hp)(Q:VK)(x_3:XK):Prop
 | mk:∀v d,vs=[v]->Den H d v->(∀k n bs,d = .tuple [k,n,.tuple bs]->bs.length<=sizeLine)->(∀H',aH H H'->Q (.bl (bK d)) H')->jZ vs H Q x_3
def E4(F:Fun K "is_row" "is_row" A1 f fd)(T:TxtR K mg aa9 aa1)(ab1:‹2›)
  (ac8:‹15› "is_bytes" 2 ["thing"] gZ) (ao5:‹15› "fits_kind" 1 ["kind","body"] lB):‹14› 3 f fd ["thing"] jZ:=by
 obtain⟨_,ac7⟩:=T.ad0;refine F.okY ["thing","kind"] λcdv A outer s H vs Q E hr nD0 h=>?_;obtain⟨v,d,rfl,hd,hz,q⟩:=h;refine⟨_,aA (a8 (mC (cR (dH ‹28›)) (iY (aR BF ‹29› aI (bD _)))).pt
   ‹61›
   aO)
  (aA (aX (i:=1) nD0 ⋯ ⋯ ‹25›)
  (aA (a8 (mC (cR (dH (bF (iQ K) ⋯ T.ac1 eO (aE (pv 1) ‹55›)))) (iY (aR (kH K) (pv 1) ‹58› ⋯))).pt
   ‹61›
   aO)
  (aC (aQ (n5 (bC ab1 ‹18› aZ (aM ‹25› ‹43›)) (n5 (bC ac8 ‹18› aZ (aM ‹25› aG)) (uN (bC ao5 ‹18› aZ (aE (pv 1) (aM ‹25› aG)))))))))),?_⟩
 refine⟨_,rfl,_,_,_,_,rfl,hd.ty,qP d,_,rfl,?_⟩;cases d with
 | none=>exact aU (aU (q H (aH.refl H)))
 | bool x=>exact aU (aU (q H (aH.refl H)))
 | int x=>exact aU (aU (q H (aH.refl H)))
 | str x=>exact aU (aU (q H (aH.refl H)))
 | list x=>exact aU (aU (q H (aH.refl H)))
 | dict x=>exact aU (aU (q H (aH.refl H)))
 | tuple ds=>
  have hd':=hd;simp only[Den]at hd';obtain⟨a,xs,rfl,ha,hds⟩:=hd';have hl:=hds.length;by_cases h3:ds.length=3
  ·obtain⟨d0,d1,d2,rfl⟩:=LF h3;obtain⟨x0,x1,x2,rfl⟩:=LF (hl.trans h3)
   ·refine bB ⟨_,rfl,a,_,rfl,.inr (SqT.of ha),rfl,_,rfl,?_⟩;refine bB ?_;simp only[aP]at hds;obtain⟨y0,r0,e0,k0,y1,r1,e1,k1,y2,r2,e2,k2,e3⟩:=hds;subst e3;cases e2;cases e1;cases e0;have sq:SqT K H a [x0,x1,x2]:=SqT.of ha;refine⟨_,rfl,a,_,_,_,rfl,rfl,sq,cI (j:=0) rfl,?_⟩;refine⟨_,rfl,_,_,_,_,rfl,k0.ty,EA d0,_,rfl,?_⟩;cases d0 with
    | none=>exact aU (aU (q H (aH.refl H)))
    | bool x=>exact aU (aU (q H (aH.refl H)))
    | int x=>exact aU (aU (q H (aH.refl H)))
    | tuple x=>exact aU (aU (q H (aH.refl H)))
    | list x=>exact aU (aU (q H (aH.refl H)))
    | dict x=>exact aU (aU (q H (aH.refl H)))
    | str k=>
     simp only[Den]at k0;subst k0;refine bB ⟨_,rfl,aa9,_,rfl,.inr (T.ax5 H),rfl,FV cT,_,rfl,?_⟩;rw[if_pos rfl,FQ];simp only[bK]at q;cases hk:cT.contains k with
     | false=>
      rw[hk]at q;exact aU (q H (aH.refl H))
     | true=>
      rw[hk]at q;refine bB ?_;refine⟨_,rfl,a,_,_,_,rfl,rfl,sq,cI (j:=1) rfl,x1,d1,0,999999,rfl,k1,_,rfl,?_⟩;cases hn:bO 0 999999 d1 with
      | false=>
       rw[hn]at q;exact bB (q H (aH.refl H))
      | true=>
       rw[hn]at q;refine aU ⟨_,rfl,a,_,_,_,rfl,rfl,sq,cI (j:=2) rfl,x2,d2,rfl,k2,λbs e=>hz _ _ bs (by rw[e]),λH' s'=>⟨_,rfl,?_⟩⟩;cases hb:cW d2 with
       | false=>
        rw[hb]at q;exact bB (q H' s')
       | true=>
        rw[hb]at q;cases d2 with
        | tuple bs=>
         simp only[Den]at k2;obtain⟨a2,ys,rfl,ha2,hbs⟩:=k2;have ei:=mR hbs hb;subst ei;refine aU ⟨_,rfl,_,rfl,a,_,_,_,rfl,rfl,s'.seqT sq,cI (j:=2) rfl,k,a2,_,rfl,s' _ _ ha2,q H' s'⟩
        | _=>exact absurd hb (by simp [cW])
  ·have e:(!decide (V.int (xs.length:Int)=V.int 3))=true:=by
    rw[hl,pR (by omega)];rfl
   have q':=q H (aH.refl H);rw[x3 h3]at q';refine bB ⟨_,rfl,a,_,rfl,.inr (SqT.of ha),rfl,_,rfl,?_⟩;rw[e];exact aU q'
def gH(ns:Ls):Int × Int:=(ns.sum % 256,((List.range ns.length).map λ(i:Nat)=>(1+(i:Int)) * ns.getD i 0).sum % 256)
inductive iF(vs:L6)(H:Hp)(Q:VK)(x_3:XK):Prop
 | mk:∀a ns,vs=[.ref a]->H a=some (.tup (ns.map V.int))->ns.length<=1000->(∀p H',aH H H'->H' p=some (.tup [.int (gH ns).1,.int (gH ns).2])->Q (.ref p) H')->iF vs H Q x_3
def zV(F:Fun K "checks_of" "checks_of" rM f fd)(T:TxtR K mg aa9 aa1):‹14› 1 f fd ["behind"] iF:=by
 refine F.okY ["behind","plain","weighed"] λcdv A outer s H vs Q E hr nD0 h=>?_;obtain⟨a,ns,rfl,ha,hl,q⟩:=h;refine⟨_,aA (aX (i:=1) nD0 ⋯ ⋯ (bF (nF K) ⋯ T.ax4 AQ ‹34›))
  (aA (aX (i:=2) nD0 ⋯ ⋯ (bF (nF K) ⋯ T.ax4 AQ (dY (dC ["place","one"] [] ⋯ (Ei K T.af9 (pv 0)) (λC s2 H2 ex=>(iK K (n:=2) (cJ (bG (i:=0) (show List.Nodup (["place","one"]:Lu) by decide +kernel) ⋯ (Or.inl ⋯)) (cJ (bG (i:=1) (show List.Nodup (["place","one"]:Lu) by decide +kernel) ⋯ (Or.inl ⋯)) iJ)))) ‹40› (λC s2 H2 ex=>(bA mG (pv 0) (pv 1)))) aG)))
  (aC (aQ (bE (bQ (bA dU (pv 1) aI) (bQ (bA dU (pv 2) aI) aG)))))),?_⟩
 have sq:SqT K H a (ns.map V.int):=SqT.of ha;refine⟨_,rfl,a,ns,rfl,.inr sq,?_⟩;refine⟨_,rfl,a,_,rfl,sq,?_⟩;refine c9 (tH (K:=K) 1 sq) (by rw[length_map]; exact le_trans hl (by decide)) (λi y _=>y = .int ((1+(i:Int)) * ns.getD i 0)) (λ_ _ _ _ _ h=>h) (λσ=>σ.length=2) ?z0 ?_ ?_
 case z0=>rfl
 ·intro i x σc H3 hi hσ s3 hx Q' hQ';obtain⟨p,v,rfl,hp,hv⟩:=hx;rw[length_map]at hi;rw[getElem?_map,getElem?_eq_getElem hi]at hv;cases hv
  match σc,hσ with
  | [z1,z2],_=>
   refine⟨p,_,rfl,SqT.of hp,rfl,_,_,rfl,_,_,rfl,rfl,?_⟩;refine⟨_,rfl,_,rfl,_,_,rfl,rfl,.inl ⟨by omega,by omega⟩,?_⟩;refine hQ' _ _ _ rfl (aH.refl _) ?_;rw[getD_eq_getElem?_getD,getElem?_eq_getElem hi];rfl
 ·intro D ys H' hD s' hD' hlen hR;have ey:ys=((List.range ns.length).map λ(i:Nat)=>(1+(i:Int)) * ns.getD i 0).map V.int:=by
   apply ext_getElem?;intro i;rw[length_map]at hlen;cases e:ys[i]? with
   | none=>
    have:ys.length<=i:=List.getElem?_eq_none_iff.mp e;rw[getElem?_eq_none (by rw[length_map,length_map,length_range]; omega)]
   | some y=>
    have hi:i<ns.length:=by
     have:=(List.getElem?_eq_some_iff.mp e).1;omega
    rw[hR i y e,getElem?_map,getElem?_map,getElem?_range hi];rfl
  refine⟨D,_,rfl,.inl (SqL.of (by rw[hD',ey])),?_⟩;refine⟨_,rfl,_,_,rfl,rfl,(by show (0:Int)<256; decide),_,rfl,_,_,rfl,rfl,(by show (0:Int)<256; decide),(by show 2<=sizeLine; decide),λp hp=>?_⟩;exact q p _ (s'.trans (aD hp)) aB
def gK(k:Str)(n:Int)(ns:Ls):Ls:=[(cT.idxOf k:Int)+1]++[n / 65536,n / 256 % 256,n % 256]++[(ns.length:Int)]++ns
def iG(k:Str)(n:Int)(ns:Ls):Ls:=[(gH (gK k n ns)).1,(gH (gK k n ns)).2]++gK k n ns
def GV:PyData->Ls
 | .tuple [.str k,.int n,b]=>iG k n (bM b)
 | _=>[]
def oE(h:bK d=true):∃k n bs,d = .tuple [.str k,.int n,.tuple bs]/\cT.contains k=true/\0<=n/\n<=999999/\bs.all (bO 0 255)=true/\fB k (bM (.tuple bs))=true:=by
 cases d with
 | tuple ds=>
  by_cases h3:ds.length=3
  ·obtain⟨d0,d1,d2,rfl⟩:=LF h3;cases d0 with
   | str k=>
    simp only[bK,and_eq_true]at h;obtain⟨h1,h2,h4,h5⟩:=h;cases d1 with
    | int n=>
     simp only[bO,and_eq_true,decide_eq_true_eq]at h2;cases d2 with
     | tuple bs=>exact⟨k,n,bs,rfl,h1,h2.1,h2.2,h4,h5⟩
     | _=>simp [cW]at h4
    | _=>simp [bO]at h2
   | _=>cases h
  ·rw[x3 h3]at h;cases h
 | _=>cases h
def FR(h:cT.contains k=true):cT[cT.idxOf k]? = some k/\∀i,i<cT.idxOf k->cT[i]? ≠ some k:=by
 have hm:k∈cT:=by simpa using h
 have hl:=List.idxOf_lt_length_of_mem hm;refine⟨by rw[getElem?_eq_getElem hl,List.getElem_idxOf],λi hi e=>?_⟩;have:=List.not_of_lt_findIdx (p:=(· == k)) (xs:=cT) (i:=i) hi;have hi2:i<cT.length:=lt_trans hi hl;rw[getElem?_eq_getElem hi2]at e;have e:=Option.some.inj e;rw[e]at this;simp at this
def vD(h:fB k ns=true):ns.length<=61:=by
 unfold fB at h;split at h
 ·have:=of_decide_eq_true h;omega
 ·split at h
  ·simp only[and_eq_true,decide_eq_true_eq]at h;omega
  ·split at h
   ·simp only[and_eq_true,decide_eq_true_eq]at h;omega
   ·have:=of_decide_eq_true h;omega
end
abbrev rE:Stmt:=top 31
section
variable{P:Program}{w:World}{K:Ln}{mg:Lp}{base:Heap}{aa9 aa1:Addr}
inductive fF(aa1:Addr)(vs:L6)(H:Hp)(Q:VK)(E:XK):Prop
 | mk:∀v d,vs=[v]->Den H d v->(∀k n bs,d = .tuple [k,n,.tuple bs]->bs.length<=sizeLine)->(bK d=true->∀p H',aH H H'->H' p=some (.tup ((GV d).map V.int))->Q (.ref p) H')->(bK d=false->∀H',aH H H'->E (.ref aa1) none H')->fF aa1 vs H Q E
def zQ(F:Fun K "row_bytes" "row_bytes" rE f fd)(T:TxtR K mg aa9 aa1)(ae6:‹15› "is_row" 3 ["thing"] jZ)
  (af0:‹15› "checks_of" 1 ["behind"] iF):‹14› 4 f fd ["row"] (fF aa1):=by
 refine F.okY ["row","number","body","figures","behind"] λcdv A outer s H vs Q E hr nD0 h=>?_;obtain⟨v,d,rfl,hd,hz,q,qe⟩:=h;refine⟨_,aA (a8 (cR (dH (bC ae6 ‹18› aZ ‹34›)))
   ‹86›
   aO)
  (aA (aX (i:=1) nD0 ⋯ ⋯ ‹25›)
  (aA (aX (i:=2) nD0 ⋯ ⋯ ‹25›)
  (aA (aX (i:=3) nD0 ⋯ ⋯ (bE (bQ ‹30› (bQ ‹27› (bQ (bA dU (pv 1) aI) aG)))))
  (aA (aX (i:=4) nD0 ⋯ ⋯ (bA jI (bA jI (bA jI (bE (bQ (bA cU (K4 K PySem.F.slot_tuple_index PySem.F.type_tuple_index (E8 K) ‹58› (aM ‹25› aG)) aI) aG)) (pv 3)) (bE (cG (bF (dD K) ⋯ T.ad1 fW ‹37›) aG))) (pv 2)))
  (aC (aQ (bA jI (bC af0 ‹18› aZ ‹65›) (pv 4)))))))),?_⟩
 refine⟨_,rfl,v,d,rfl,hd,hz,λH1 s1=>⟨_,rfl,?_⟩⟩;cases hb:bK d with
 | false=>exact aU ⟨(by show 1<=sizeLine; decide),qe hb H1 s1⟩
 | true=>
  refine bB ?_;obtain⟨k,n,bs,rfl,hk,n0,n9,hbs,hf⟩:=oE hb;have hd1:=hd.same s1;simp only[Den,aP]at hd1;obtain⟨a,xs,rfl,ha,y0,r0,e0,k0,y1,r1,e1,k1,y2,r2,e2,⟨a2,ys,k2,ha2,h2⟩,e3⟩:=hd1;subst e3 k0 k1 k2;subst e2;subst e1;subst e0;have ei:=mR h2 hbs;subst ei;have fl:=vD hf;have sq:SqT K H1 a [.str k,.int n,.ref a2]:=SqT.of ha;obtain⟨i1,i2⟩:=FR hk;refine⟨_,rfl,a,_,_,_,rfl,rfl,sq,cI (j:=1) rfl,?_⟩;refine⟨_,rfl,a,_,_,_,rfl,rfl,sq,cI (j:=2) rfl,?_⟩;refine⟨_,rfl,_,_,rfl,rfl,⟨by decide,by decide⟩,_,rfl,_,_,rfl,rfl,⟨by decide,by decide⟩,_,_,rfl,rfl,(by show (0:Int)<256; decide),_,rfl,_,_,rfl,rfl,(by show (0:Int)<256; decide),(by show 3<=sizeLine; decide),λp3 hp3=>?_⟩;have S2:=aD (o:=.tup [.int (n / 65536),.int (n / 256 % 256),.int (n % 256)]) hp3;refine⟨⟨aa9,rfl,.inr T.l_KINDS⟩,_,rfl,a,_,_,_,rfl,rfl,S2.seqT sq,cI (j:=0) rfl,aa9,cT,k,cT.idxOf k,rfl,rfl,T.ax5 _,i1,i2,?_⟩;refine⟨_,_,rfl,rfl,(by show 1<=sizeLine; decide),λp4 hp4=>?_⟩;have S3:=aD (o:=.tup [V.int ((cT.idxOf k:Int)+1)]) hp4;refine⟨_,rfl,p4,p3,_,_,rfl,rfl,aB,S3 _ _ aB,(by show 1+3<=sizeLine; decide),λp5 H5 S5 g5=>?_⟩;have g2:H5 a2=some (.tup ((bM (.tuple bs)).map V.int)):=S5 _ _ (S3 _ _ (S2 _ _ ha2));refine⟨_,rfl,a2,_,rfl,.inr (SqT.of g2),(by show 1<=sizeLine; decide),λp6 hp6=>?_⟩;have S6:=aD (o:=.tup [V.int (((bM (.tuple bs)).map V.int).length:Int)]) hp6;refine⟨p5,p6,_,_,rfl,rfl,S6 _ _ g5,aB,(by show 4+1<=sizeLine; decide),λp7 H7 S7 g7=>?_⟩;have zl:(100:Nat)<=sizeLine:=by decide
  refine⟨_,rfl,p7,a2,_,_,rfl,rfl,g7,S7 _ _ (S6 _ _ g2),?_,λp8 H8 S8 g8=>?_⟩
  ·show 5+((bM (.tuple bs)).map V.int).length<=sizeLine;rw[length_map];omega
  have eb:([V.int ((cT.idxOf k:Int)+1)]++[V.int (n / 65536),V.int (n / 256 % 256),V.int (n % 256)]++[V.int (((bM (.tuple bs)).map V.int).length:Int)]++(bM (.tuple bs)).map V.int)=(gK k n (bM (.tuple bs))).map V.int:=by
   unfold gK;rw[length_map];simp
  have g8':H8 p8=some (.tup ((gK k n (bM (.tuple bs))).map V.int)):=by rw[<- eb]; exact g8
  have lb:(gK k n (bM (.tuple bs))).length=5+(bM (.tuple bs)).length:=by
   unfold gK;simp;omega
  refine⟨_,rfl,p8,_,rfl,g8',by omega,λp9 H9 S9 g9=>?_⟩;refine⟨_,rfl,p9,p8,_,_,rfl,rfl,g9,S9 _ _ g8',?_,λp10 H10 S10 g10=>?_⟩
  ·show 2+((gK k n (bM (.tuple bs))).map V.int).length<=sizeLine;rw[length_map];omega
  refine q hb p10 H10 (s1.trans (S2.trans (S3.trans (S5.trans (S6.trans (S7.trans (S8.trans (S9.trans S10)))))))) ?_;rw[g10];simp only[GV,iG,map_append];rfl
end
def fP(ns:Ls):bM (.tuple (ns.map .int))=ns:=by
 show (ns.map PyData.int).map _=ns;rw[map_map];exact List.map_id _
def pS{ns:Ls}(h:∀b∈ns,0<=b/\b<=255):cW (.tuple (ns.map .int))=true:=by
 show (ns.map PyData.int).all (bO 0 255)=true;rw[all_map,all_eq_true];intro b hb;have:=h b hb;show (decide (0<=b) && decide (b<=255))=true;rw[decide_eq_true this.1,decide_eq_true this.2];rfl
def cP(e:D.nx=n)(h:n σ H):Ac D σ H:=by
 subst e;exact h
def aJ(h:n<=100:=by exact le_of_ble_eq_true rfl):n<=sizeLine:=le_trans h (by decide)
def rO(ns:Ls):Option PyData:=
 if ns.take 2=[(gH (ns.drop 2)).1,(gH (ns.drop 2)).2] then
  if 1<=ns.getD 2 0/\ns.getD 2 0<=8 then
   let d:PyData:=.tuple [.str (cT.getD (ns.getD 2 0 - 1).toNat "put"),.int (ns.getD 3 0 * 65536+ns.getD 4 0 * 256+ns.getD 5 0),.tuple ((ns.drop 7).map .int)]
   if bK d=true then some d else none
  else none
 else none
def vZ(ns:Ls):Option Nat:=if ns.length<7 then none else if 7+(ns.getD 6 0).toNat<=ns.length then some (7+(ns.getD 6 0).toNat) else none
def jG:Nat->Ls->Option (Lw × Nat)
 | 0,_=>none
 | f+1,ns=>match vZ ns with
  | none=>some ([],ns.length)
  | some e=>match rO (ns.take e) with
   | none=>none
   | some d=>(jG f (ns.drop e)).map λr=>(d::r.1,r.2)
def Jb(h:vZ ns=some e):7<=e/\e<=ns.length:=by
 unfold vZ at h;split at h
 ·cases h
 ·split at h
  ·have:=Option.some.inj h;omega
  ·cases h
def xP(h:rO ns=some d):iA d=true:=by
 have tl:∀l:Ls,cY (l.map PyData.int)=true:=by
  intro l
  induction l with
  | nil=>rfl
  | cons x l ih=>exact ih
 unfold rO at h;split at h
 ·split at h
  ·dsimp only at h;split at h
   ·have e:=Option.some.inj h;rw[<- e];simp only[iA,cY,Bool.true_and,Bool.and_true];exact tl _
   ·cases h
  ·cases h
 ·cases h
def eC(k:Str)(n:Int)(ns:Ls):(iG k n ns).length=7+ns.length:=by
 unfold iG gK;simp;omega
abbrev w6:Stmt:=top 32
abbrev uC:Stmt:=top 33
abbrev wZ:Stmt:=top 34
structure TxtB(K:Ln)(mg:Lp)(aa9 aa1 aa3:Addr):Prop extends TxtR K mg aa9 aa1 where
 as9:mg "list" = none
 bg0:∃t,mg "CHECKS_SIZE" = some (.int 2 t)
 ay0:∃t,mg "HEAD_SIZE" = some (.int 7 t)
 af4:dO K aa3=true
 ba0:mg "Broken" = some (.ref aa3)
def LW(st:Nat):Option Nat->V
 | none=>.non
 | some e=>.int ((st+e:Nat):Int)
def dQ(ns:Ls):Prop:=∀b∈ns,0<=b/\b<=255
inductive nS(vs:L6)(H:Hp)(Q:VK)(x_3:XK):Prop
 | mk:∀(a:Addr)(ns:Ls)(st:Nat),vs=[.ref a,.int (st:Int)]->H a=some (.tup (ns.map V.int))->dQ ns->st<=ns.length->Q (LW st (vZ (ns.drop st))) H->nS vs H Q x_3
inductive l5(aa3:Addr)(vs:L6)(H:Hp)(Q:VK)(E:XK):Prop
 | mk:∀(a:Addr)(ns:Ls),vs=[.ref a]->H a=some (.tup (ns.map V.int))->7<=ns.length->ns.length<=300->(∀d,rO ns=some d->∀p H',aH H H'->Den H' d (.ref p)->Q (.ref p) H')->(rO ns=none->∀H',aH H H'->E (.ref aa3) none H')->l5 aa3 vs H Q E
def Jf{xs:L6}{lo hi:Nat}(h1:lo<=hi)(h2:hi<=xs.length):i8 xs (some (lo:Int)) (some (hi:Int))=(xs.drop lo).take (hi - lo):=by
 unfold i8;rw[HT.jF,HT.jF,min_eq_left (show lo<=xs.length by omega),min_eq_left h2]
def Br{xs:L6}{lo:Nat}(h:lo<=xs.length):i8 xs (some (lo:Int)) none=xs.drop lo:=by
 unfold i8;rw[HT.jF,HT.uH,min_eq_left h,List.take_of_length_le (by rw[length_drop]; omega)]
def LY{xs:L6}{hi:Nat}(h:hi<=xs.length):i8 xs none (some (hi:Int))=xs.take hi:=by
 unfold i8;rw[HT.jF,HT.uH,min_eq_left h,List.drop_zero,Nat.sub_zero]
def HL(h0:0<=i)(h:i<8):atI (cT.map V.str) i=some (.str (cT.getD i.toNat "put")):=by
 have k1:i.toNat<cT.length:=by show _<8; omega
 refine aT h0 ?_;rw[getElem?_map,getD_eq_getElem?_getD,getElem?_eq_getElem k1];rfl
def Ha{ns:Ls}{i:Nat}(h:i<ns.length):ns[i]? = some (ns.getD i 0):=by
 rw[getD_eq_getElem?_getD,getElem?_eq_getElem h];rfl
def Hz{ns:Ls}{i:Nat}(h:i<ns.length):(ns.map V.int)[i]? = some (.int (ns.getD i 0)):=by
 rw[getElem?_map,Ha h];rfl
def Bc{ns:Ls}{i:Nat}(h:i<ns.length):ns.getD i 0∈ns:=by
 rw[getD_eq_getElem?_getD,getElem?_eq_getElem h];exact List.getElem_mem h
def qU(ns:Ls)(st i:Nat):(ns.drop st).getD i 0=ns.getD (st+i) 0:=by
 rw[getD_eq_getElem?_getD,getD_eq_getElem?_getD,List.getElem?_drop]
section
variable{P:Program}{w:World}{K:Ln}{mg:Lp}{base:Heap}{aa9 aa1 aa3:Addr}
def Cf{f:Addr}{fd:Lx}(F:Fun K "row_end" "row_end" w6 f fd)(T:TxtB K mg aa9 aa1 aa3):‹14› 1 f fd ["some","start"] nS:=by
 obtain⟨_,al7⟩:=T.ay0;refine F.okY ["some","start","end"] λcdv A outer s H vs Q E hr nD0 h=>?_;obtain⟨a,ns,st,rfl,ha,hb,hst,q⟩:=h;refine⟨_,aA (a8 (aR nK ‹51› ‹29› (bD _))
   ‹67›
   aO)
  (aA (aX (i:=2) nD0 ⋯ ⋯ (bA cU ‹51› (cF (cS K) (pv 0) (bA i4 ‹51› aI) (λ_ _=>rfl))))
  (aC (aQ (BD (aR i5 (pv 2) ‹29› (bD _)) (pv 2) jT)))),?_⟩
 have sq:SqT K H a (ns.map V.int):=SqT.of ha;refine⟨_,rfl,_,_,rfl,rfl,_,rfl,a,_,rfl,.inr sq,_,_,rfl,rfl,_,rfl,?_⟩;rw[length_map];show if decide ((ns.length:Int)<(st:Int)+7)=true then _ else _
 unfold vZ at q;rw[length_drop,qU]at q;by_cases h1:ns.length - st<7
 ·rw[if_pos h1]at q;rw[if_pos (decide_eq_true (by omega))];exact q
 ·rw[if_neg h1]at q;rw[if_neg (by rw[decide_eq_true_eq]; omega)];have h6:st+6<ns.length:=by omega
  obtain⟨b0,b9⟩:=hb _ (Bc h6);have e6:((st:Int)+7 - 1)=((st+6:Nat):Int):=by omega
  refine⟨_,rfl,_,_,rfl,rfl,_,rfl,_,rfl,_,_,rfl,rfl,_,_,rfl,rfl,a,_,_,.int (ns.getD (st+6) 0),rfl,rfl,sq,?_,_,_,rfl,rfl,?_⟩
  ·show atI _ ((st:Int)+7 - 1)=_;rw[e6];exact cI (Hz h6)
  refine⟨_,rfl,_,rfl,a,_,rfl,.inr sq,_,_,rfl,rfl,_,rfl,?_⟩;rw[length_map];show if decide ((st:Int)+7+ns.getD (st+6) 0<=(ns.length:Int))=true then _ else _
  by_cases h2:7+(ns.getD (st+6) 0).toNat<=ns.length - st
  ·rw[if_pos h2]at q;rw[if_pos (decide_eq_true (by omega))];refine⟨_,rfl,?_⟩;have ee:((st+(7+(ns.getD (st+6) 0).toNat):Nat):Int)=(st:Int)+7+ns.getD (st+6) 0:=by omega
   have q:Q (.int ((st+(7+(ns.getD (st+6) 0).toNat):Nat):Int)) H:=q;rw[ee]at q;exact q
  ·rw[if_neg h2]at q;rw[if_neg (by rw[decide_eq_true_eq]; omega)];exact q
def BJ(F:Fun K "row_from" "row_from" uC f fd)(T:TxtB K mg aa9 aa1 aa3)(ae6:‹15› "is_row" 3 ["thing"] jZ)
  (af0:‹15› "checks_of" 1 ["behind"] iF):‹14› 4 f fd ["whole"] (l5 aa3):=by
 obtain⟨_,al7⟩:=T.ay0;obtain⟨_,ap2⟩:=T.bg0;refine F.okY ["whole","behind","number","row"] λcdv A outer s H vs Q E hr nD0 h=>?_;obtain⟨a,ns,rfl,ha,h7,h3,q,qe⟩:=h;refine⟨_,aA (aX (i:=1) nD0 ⋯ ⋯ (f9 (mZ K) (pv 0) (gX (cM (v:=.int 2) ⋯ ap2 ⟨_,rfl⟩)) jH))
  (aA (a8 (aR (mF hr.units) (f9 (mZ K) (pv 0) jH (gX (cM (v:=.int 2) ⋯ ap2 ⟨_,rfl⟩))) (bC af0 ‹18› aZ ‹26›) (bD _))
   ‹72›
   aO)
  (aA (a8 (cR (uK i5 i5 aI ‹20› (bF (dD K) ⋯ T.ad1 fW (aE ‹58› aG))))
   ‹72›
   aO)
  (aA (aX (i:=2) nD0 ⋯ ⋯ (bA cU (bA cU (bA mG ‹20› aI) (bA mG ‹20› aI)) ‹20›))
  (aA (aX (i:=3) nD0 ⋯ ⋯ (bE (aM (cF (cS K) ‹58› (bA i4 ‹20› aI) (λ_ _=>rfl)) (aE (pv 2) (aM (f9 (mZ K) (pv 0) (gX (cM (v:=.int 7) ⋯ al7 ⟨_,rfl⟩)) jH) aG)))))
  (aA (a8 (cR (dH (bC ae6 ‹18› aZ ‹47›)))
   ‹72›
   aO)
  (aC (aQ (pv 3)))))))),?_⟩
 have sq:SqT K H a (ns.map V.int):=SqT.of ha;have lm:(ns.map V.int).length=ns.length:=length_map _;have w2:HT.sIx (ns.map V.int).length 0 (some 2)=2:=by
  rw[lm];exact(HT.jF ns.length 0 2).trans (min_eq_left (by omega))
 have w2':HT.sIx (ns.map V.int).length (ns.map V.int).length (some 2)=2:=by
  rw[lm];exact(HT.jF ns.length ns.length 2).trans (min_eq_left (by omega))
 have w7:HT.sIx (ns.map V.int).length 0 (some 7)=7:=by
  rw[lm];exact(HT.jF ns.length 0 7).trans (min_eq_left (by omega))
 have c2:i8 (ns.map V.int) (some 2) none=(ns.drop 2).map V.int:=(Br (lo:=2) (by omega)).trans (List.map_drop ..).symm;have c2':i8 (ns.map V.int) none (some 2)=(ns.take 2).map V.int:=(LY (hi:=2) (by omega)).trans (List.map_take ..).symm;have c7:i8 (ns.map V.int) (some 7) none=(ns.drop 7).map V.int:=(Br (lo:=7) (by omega)).trans (List.map_drop ..).symm;refine⟨_,rfl,2,rfl,a,_,rfl,sq,λz=>absurd z.1 (by rw[w2]; decide),λ_ p1 hp1=>?_⟩;rw[c2];have S1:=aD (o:=.tup ((ns.drop 2).map V.int)) hp1;generalize eH1:upd H p1 (.tup ((ns.drop 2).map V.int))=H1 at S1 ⊢;have g1:H1 p1=some (.tup ((ns.drop 2).map V.int)):=by rw[<- eH1]; exact aB
 refine⟨_,rfl,2,rfl,a,_,rfl,S1.seqT sq,λz=>absurd z.2 (by rw[w2',lm]; omega),λ_ p2 hp2=>?_⟩;rw[c2'];have S2:=aD (o:=.tup ((ns.take 2).map V.int)) hp2;generalize eH2:upd H1 p2 (.tup ((ns.take 2).map V.int))=H2 at S2 ⊢;have g2:H2 p2=some (.tup ((ns.take 2).map V.int)):=by rw[<- eH2]; exact aB
 refine⟨_,rfl,p1,ns.drop 2,rfl,S2 _ _ g1,by rw[length_drop]; omega,λp3 H3 S3 g3=>?_⟩;have den:∀(p:Addr)(l:Ls),H3 p=some (.tup (l.map V.int))->Den H3 (.tuple (l.map .int)) (.ref p):=λp l g=>by
  simp only[Den];exact⟨p,_,rfl,g,bR.mpr rfl⟩
 refine⟨_,_,den p2 _ (S3 _ _ g2),den p3 [(gH (ns.drop 2)).1,(gH (ns.drop 2)).2] g3,rD _,rD _,_,rfl,?_⟩;rw[Hi];have SS:aH H H3:=S1.trans (S2.trans S3);unfold rO at q qe;by_cases hc:ns.take 2=[(gH (ns.drop 2)).1,(gH (ns.drop 2)).2]
 case neg=>
  rw[if_neg hc]at qe;rw[decide_eq_false hc];exact aU ⟨(by show 1<=sizeLine; decide),qe rfl H3 SS⟩
 rw[if_pos hc]at q qe;rw[decide_eq_true hc];refine bB ?_;have sq1:SqT K H3 p1 ((ns.drop 2).map V.int):=SqT.of (S3 _ _ (S2 _ _ g1));have bat:∀i,i<5->atI ((ns.drop 2).map V.int) ((i:Nat):Int)=some (.int (ns.getD (2+i) 0)):=λi hi=>by
  rw[<- qU];exact cI (Hz (by rw[length_drop]; omega))
 refine⟨_,rfl,p1,_,_,_,rfl,rfl,sq1,bat 0 (by decide),_,_,rfl,rfl,_,rfl,?_⟩;show if decide (1<=ns.getD 2 0)=true then _ else _
 by_cases h1:1<=ns.getD 2 0
 case neg=>
  rw[if_neg (λz=>h1 z.1)]at qe;rw[if_neg (by rw[decide_eq_true_eq]; exact h1)];exact⟨_,rfl,aU ⟨(by show 1<=sizeLine; decide),qe rfl H3 SS⟩⟩
 rw[if_pos (decide_eq_true h1)];refine⟨aa9,_,rfl,.inr (T.ax5 H3),_,_,rfl,rfl,_,rfl,?_⟩;show if (!decide (ns.getD 2 0<=8))=true then _ else _
 by_cases h8:ns.getD 2 0<=8
 case neg=>
  rw[if_neg (λz=>h8 z.2)]at qe;rw[decide_eq_false h8];exact aU ⟨(by show 1<=sizeLine; decide),qe rfl H3 SS⟩
 rw[if_pos ⟨h1,h8⟩]at q qe;rw[decide_eq_true h8];refine bB ?_;refine⟨_,rfl,p1,_,_,_,rfl,rfl,sq1,bat 1 (by decide),_,_,rfl,rfl,.inr ⟨by decide,by decide⟩,_,rfl,p1,_,_,_,rfl,rfl,sq1,bat 2 (by decide),_,_,rfl,rfl,.inr ⟨by decide,by decide⟩,_,_,rfl,rfl,_,rfl,p1,_,_,_,rfl,rfl,sq1,bat 3 (by decide),_,_,rfl,rfl,?_⟩;have hk:=HL (i:=ns.getD 2 0 - 1) (by omega) (by omega);refine⟨_,rfl,p1,_,_,_,rfl,rfl,sq1,bat 0 (by decide),_,_,rfl,rfl,aa9,_,_,_,rfl,rfl,T.ax5 H3,hk,_,rfl,_,rfl,7,rfl,a,_,rfl,SS.seqT sq,λz=>absurd z.1 (by rw[w7]; decide),λ_ p4 hp4=>?_⟩;rw[c7];have S4:=aD (o:=.tup ((ns.drop 7).map V.int)) hp4;generalize eH4:upd H3 p4 (.tup ((ns.drop 7).map V.int))=H4 at S4 ⊢;have g4:H4 p4=some (.tup ((ns.drop 7).map V.int)):=by rw[<- eH4]; exact aB
 refine⟨(by show 3<=sizeLine; decide),λp5 hp5=>?_⟩;have S5:=aD (o:=.tup [.str (cT.getD (ns.getD 2 0 - 1).toNat "put"),.int (ns.getD 3 0 * 65536+ns.getD 4 0 * 256+ns.getD 5 0),.ref p4]) hp5;dsimp only at q qe;generalize hd:(PyData.tuple [.str (cT.getD (ns.getD 2 0 - 1).toNat "put"),.int (ns.getD 3 0 * 65536+ns.getD 4 0 * 256+ns.getD 5 0),.tuple ((ns.drop 7).map .int)])=d at q qe;have dn:Den (upd H4 p5 (.tup [.str (cT.getD (ns.getD 2 0 - 1).toNat "put"),.int (ns.getD 3 0 * 65536+ns.getD 4 0 * 256+ns.getD 5 0),.ref p4])) d (.ref p5):=by
  rw[<- hd];simp only[Den,aP];exact⟨p5,_,rfl,aB,_,_,rfl,rfl,_,_,rfl,rfl,_,_,rfl,⟨p4,_,rfl,S5 _ _ g4,bR.mpr rfl⟩,rfl⟩
 refine⟨_,rfl,.ref p5,d,rfl,dn,?_,λH6 S6=>⟨_,rfl,?_⟩⟩
 ·rintro k n bs e;rw[<- hd]at e;injection e with e
  injection e with _ e
  injection e with _ e
  injection e with e _
  injection e with e
  rw[<- e,length_map,length_drop];exact le_trans (show _<=300 by omega) (by decide)
 cases hb:bK d with
 | false=>
  rw[if_neg (by rw[hb]; decide)]at qe;exact aU ⟨(by show 1<=sizeLine; decide),qe rfl H6 (SS.trans (S4.trans (S5.trans S6)))⟩
 | true=>
  rw[if_pos hb]at q;refine bB ⟨_,rfl,?_⟩;exact q d rfl p5 H6 (SS.trans (S4.trans (S5.trans S6))) (dn.same S6)
end
inductive kS(aa1:Addr)(aa3:Addr)(vs:L6)(H:Hp)(Q:VK)(E:XK):Prop
 | mk:∀(v:V)(d:PyData),vs=[v]->Den H d v->(∀bs,d = .tuple bs->bs.length<=sizeLine)->(cW d=false->∀H',aH H H'->E (.ref aa1) none H')->(cW d=true->(∀ds(k:Nat),jG ((bM d).length+1) (bM d)=some (ds,k)->∀p H',aH H H'->Den H' (.tuple [.list ds,.int (k:Int)]) (.ref p)->(∀l x,H' p=some (.tup [.ref l,x])->H l=none)->Q (.ref p) H')/\(jG ((bM d).length+1) (bM d)=none->∀H',aH H H'->E (.ref aa3) none H'))->kS aa1 aa3 vs H Q E
def CS(f:Nat)(ns:Ls):jG (f+1) ns=match vZ ns with
  | none=>some ([],ns.length)
  | some e=>match rO (ns.take e) with
   | none=>none
   | some d=>(jG f (ns.drop e)).map λr=>(d::r.1,r.2):=rfl
def wH:∀{a b:Lw},cY a=true->cY b=true->cY (a++b)=true
 | [],b,_,h=>h
 | d::a,b,h1,h2=>by
  simp only[cY,and_eq_true]at h1;show (iA d && cY (a++b))=true;rw[h1.1,wH h1.2 h2];rfl
def i6(h:Den H d v):aP H [d] [v]:=by
 simp only[aP];exact⟨v,[],rfl,h,rfl⟩
def GK(h0:H l=none)(s:aH H H2):aH H (upd H2 l (.lst ys)):=λc u e=>by
 rw[aF (bL e h0)];exact s c u e
def Hs(hd:Den H d v)(hb:cW d=true):∃a,v = .ref a/\H a=some (.tup ((bM d).map V.int)):=by
 cases d with
 | tuple bs=>
  simp only[Den]at hd;obtain⟨a,ys,rfl,ha,hbs⟩:=hd;have ei:=mR hbs hb;subst ei;exact⟨a,rfl,ha⟩
 | _=>exact absurd hb (by simp [cW])
def oG(hb:cW d=true):dQ (bM d):=by
 cases d with
 | tuple bs=>
  have hb:bs.all (bO 0 255)=true:=hb;rw[all_eq_true]at hb;intro b hm;have hm:b∈bs.map λd=>match d with | .int i=>i | _=>0:=hm
  rw[mem_map]at hm;obtain⟨d,h1,h2⟩:=hm;have h3:=hb d h1;cases d with
  | int i=>
   have h2:i=b:=h2;subst h2;simpa [bO] using h3
  | _=>exact absurd h3 (by simp [bO])
 | _=>exact absurd hb (by simp [cW])
def HQ:(bM (.tuple bs)).length=bs.length:=length_map _
def DQ(ha:H a=some (.tup xs))(h:∀b H4,aH H H4->H4 b=some (.tup (i8 xs lo hi))->Q (.ref b) H4):Dh K (.ref a) lo hi H Q:=by
 refine⟨a,xs,rfl,SqT.of ha,λz=>?_,λ_ p hp=>h p _ (aD hp) aB⟩;refine h a H (aH.refl H) ?_;rw[ha];unfold i8;rw[z.1,z.2,List.drop_zero,Nat.sub_zero,take_length]
section
variable{P:Program}{w:World}{K:Ln}{mg:Lp}{base:Heap}{aa9 aa1 aa3:Addr}
def Ce(F:Fun K "rows_in" "rows_in" wZ f fd)(T:TxtB K mg aa9 aa1 aa3)(ac8:‹15› "is_bytes" 2 ["thing"] gZ)
  (an1:‹15› "row_end" 1 ["some","start"] nS) (aq7:‹15› "row_from" 4 ["whole"] (l5 aa3)):‹14› 5 f fd ["some"] (kS aa1 aa3):=by
 refine F.okY ["some","rows","start","end"] λcdv A outer s H vs Q E hr nD0 h=>?_;obtain⟨v,d,rfl,hd,hz,qb,q⟩:=h;refine⟨_,aA (a8 (cR (dH (bC ac8 ‹18› aZ ‹34›)))
   ‹86›
   aO)
  (aA (aX (i:=1) nD0 ⋯ ⋯ (cD aG))
  (aA (aX (i:=2) nD0 ⋯ ⋯ aI)
  (aA (aX (i:=3) nD0 ⋯ ⋯ (bC an1 ‹18› aZ (aE (pv 0) ‹37›)))
  (aA (o8 (lW eJ) (aR zN (pv 3) jT (bD _))
   (aA (aY (iD K PySem.F.plainAttrs_list PySem.F.slot_list_append PySem.F.type_list_append iP (pv 1) (cG (bC aq7 ‹18› bP (aM (f9 (mZ K) (pv 0) (gX (pv 2)) (gX (pv 3))) aG)) aG)))
   (aA (aX (i:=2) nD0 ⋯ ⋯ (pv 3))
   (aC (aX (i:=3) nD0 ⋯ ⋯ (bC an1 ‹18› aZ (aE (pv 0) ‹37›)))))))
  (aC (aQ (bE (aE (pv 1) (bQ (bA i4 ‹29› (pv 2)) aG))))))))),?_⟩
 refine⟨_,rfl,v,d,rfl,hd,hz,λH1 S1=>⟨_,rfl,?_⟩⟩;cases hb:cW d with
 | false=>exact aU ⟨(by show 1<=sizeLine; decide),qb hb H1 S1⟩
 | true=>
 refine bB ?_;obtain⟨q,qe⟩:=q hb;obtain⟨a,rfl,ha⟩:=Hs hd hb;have bo:=oG hb;have hns:(bM d).length<=sizeLine:=by
  cases d with
  | tuple bs=>rw[HQ]; exact hz bs rfl
  | _=>exact absurd hb (by simp [cW])
 generalize bM d=ns at *;refine⟨(by show 0<=sizeLine; decide),λrl hrl=>?_⟩;have S2:=aD (o:=.lst []) hrl;generalize eH2:upd H1 rl (.lst [])=H2 at S2 ⊢;have g2:H2 rl=some (.lst []):=by rw[<- eH2]; exact aB
 have hrl0:H rl=none:=S1.free hrl;have SS:aH H H2:=S1.trans S2;refine⟨_,rfl,_,rfl,a,ns,0,rfl,SS _ _ ha,bo,zero_le _,?_⟩;refine⟨λm σ H3=>∃(st f:Nat) (ds:Lw) (xs:L6),m=ns.length - st/\st<=ns.length/\ns.length<st+f/\σ = [some (.ref a),some (.ref rl),some (.int (st:Int)),some (LW st (vZ (ns.drop st)))]/\aH H H3/\
  H3 rl=some (.lst xs)/\aP H3 ds xs/\cY ds=true/\ds.length<=st/\jG (ns.length+1) ns=(jG f (ns.drop st)).map λr=>(ds++r.1,r.2),⟨_,0,ns.length+1,[],[],rfl,zero_le _,by omega,rfl,SS,g2,by simp only[aP],rfl,le_refl _,?_⟩,?_⟩
 ·simp
 rintro m σ H3 ⟨st,f,ds,xs,rfl,hst,hf,rfl,S3,g3,dn,td,hl,er⟩;obtain⟨f,rfl⟩:∃g,f=g+1:=⟨f - 1,by omega⟩;rw[CS f]at er;have ldr:(ns.drop st).length=ns.length - st:=length_drop;refine⟨_,rfl,rfl,_,rfl,?_⟩;cases he:vZ (ns.drop st) with
 | none=>
  rw[he]at er;refine bB ?_;have er:jG (ns.length+1) ns=some (ds++[],(ns.drop st).length):=er;rw[append_nil,ldr]at er;refine⟨_,rfl,_,rfl,a,_,rfl,.inr (SqT.of (S3 _ _ ha)),_,rfl,_,_,rfl,rfl,(by show 2<=sizeLine; decide),λp hp=>?_⟩;have S4:=aD (o:=.tup [.ref rl,.int (((ns.map V.int).length:Int) - (st:Int))]) hp;refine q ds (ns.length - st) er p _ (S3.trans S4) ?_ (λl x e=>by rw[aB]at e; cases e; exact hrl0);have e1:(((ns.map V.int).length:Int) - (st:Int))=((ns.length - st:Nat):Int):=by rw[length_map]; omega
  simp only[Den,aP];exact⟨p,_,rfl,aB,_,_,rfl,⟨rl,xs,rfl,S4 _ _ g3,dn.same S4⟩,_,_,rfl,by rw[e1],rfl⟩
 | some e=>
  rw[he]at er;obtain⟨e7,ele⟩:=Jb he;rw[ldr]at ele;have hsz:ns.length<=sizeLine:=hns;refine aU ⟨λσ' H'=>∃m',m'<ns.length - st/\∃(st f:Nat) (ds:Lw) (xs:L6),m'=ns.length - st/\st<=ns.length/\ns.length<st+f/\σ'=[some (.ref a),some (.ref rl),some (.int (st:Int)),some (LW st (vZ (ns.drop st)))]/\aH H H'/\
   H' rl=some (.lst xs)/\aP H' ds xs/\cY ds=true/\ds.length<=st/\jG (ns.length+1) ns=(jG f (ns.drop st)).map λr=>(ds++r.1,r.2),λ_ _ h=>h,?_⟩
  refine⟨_,rfl,.inl ⟨rfl,_,SqL.of g3⟩,?_⟩;refine⟨_,rfl,_,rfl,_,rfl,_,rfl,_,rfl,DQ (S3 _ _ ha) λb H4 S4 g4=>?_⟩;have ec:i8 (ns.map V.int) (some (st:Int)) (some ((st+e:Nat):Int))=((ns.drop st).take e).map V.int:=by
   rw[Jf (by omega) (by rw[length_map]; omega),<- List.map_drop,<- List.map_take,Nat.add_sub_cancel_left]
  rw[ec]at g4;have er:jG (ns.length+1) ns=Option.map (λ(r:Lw × Nat)=>(ds++r.1,r.2)) (match rO ((ns.drop st).take e) with
   | none=>none
   | some d=>Option.map (λr=>(d::r.1,r.2)) (jG f ((ns.drop st).drop e))):=er
  have le:((ns.drop st).take e).length=e:=by rw[length_take,ldr]; omega
  have h262:e<=262:=by
   have h6:st+6<ns.length:=by omega
   have b6:=bo _ (Bc h6);unfold vZ at he;rw[ldr,qU,if_neg (by omega)]at he;split at he
   ·have:=Option.some.inj he;omega
   ·cases he
  refine⟨b,_,rfl,g4,by rw[le]; omega,by rw[le]; omega,λd' hd' p H5 S5 dp=>?_,λhn H5 S5=>?_⟩
  ·rw[hd']at er;have S35:aH H3 H5:=S4.trans S5;refine⟨rl,xs,.ref p,rfl,rfl,S35 _ _ g3,?_,?_⟩
   ·rw[dn.length];omega
   have N5:=wV (zs:=xs++[.ref p]) (S35 _ _ g3);have S6:aH H (upd H5 rl (.lst (xs++[.ref p]))):=GK hrl0 (S3.trans S35);have D6:aP (upd H5 rl (.lst (xs++[.ref p]))) (ds++[d']) (xs++[.ref p]):=((dn.same S35).n N5 td).app (i6 (dp.n N5 (xP hd')));have g6:upd H5 rl (.lst (xs++[.ref p])) rl=some (.lst (xs++[.ref p])):=aB;generalize upd H5 rl (.lst (xs++[.ref p]))=H6 at S6 D6 g6 ⊢;refine⟨_,rfl,_,rfl,_,rfl,a,ns,st+e,rfl,S6 _ _ ha,bo,by omega,?_⟩;refine⟨_,?_,st+e,f,ds++[d'],xs++[.ref p],rfl,by omega,by omega,rfl,S6,g6,D6,wH td ?_,?_,?_⟩
   ·omega
   ·show (iA d' && true)=true;rw[xP hd'];rfl
   ·rw[length_append];show _+1<=_;omega
   ·rw[er,List.drop_drop];cases jG f (ns.drop (st+e)) with
    | none=>rfl
    | some r=>simp
  ·rw[hn]at er;exact qe er H5 (S3.trans (S4.trans S5))
end
mutual
def jA:PyData->Bool
 | .none | .bool _ | .int _=>true
 | .str x=>PyData.strOk x
 | .tuple ds=>lP ds
 | .list ds=>lP ds
 | .dict _=>false
def lP:Lw->Bool
 | []=>true
 | d::ds=>jA d && lP ds
end
mutual
def Bf:∀{d:PyData},jA d=true->PyData.eqv d d=true
 | .none,_=>rfl
 | .bool b,_=>by cases b <;> rfl
 | .int i,_=>by simp [PyData.eqv]
 | .str x,_=>by simp [PyData.eqv]
 | .tuple ds,h=>by
  simp only[jA]at h;simp only[PyData.eqv];exact qV h
 | .list ds,h=>by
  simp only[jA]at h;simp only[PyData.eqv];exact qV h
 | .dict _,h=>by simp [jA]at h
def qV:∀{ds:Lw},lP ds=true->PyData.eqvAll ds ds=true
 | [],_=>rfl
 | d::ds,h=>by
  simp only[lP,and_eq_true]at h;simp only[PyData.eqvAll];rw[Bf h.1,qV h.2];rfl
end
mutual
def D4:∀{d:PyData},jA d=true->PyData.canLay0 d=true
 | .none,_=>rfl
 | .bool b,_=>rfl
 | .int i,_=>rfl
 | .str x,h=>by
  simp only[jA]at h;simp only[PyData.canLay0];exact h
 | .tuple ds,h=>by
  simp only[jA]at h;simp only[PyData.canLay0];exact uX h
 | .list ds,h=>by
  simp only[jA]at h;simp only[PyData.canLay0];exact uX h
 | .dict _,h=>by simp [jA]at h
def uX:∀{ds:Lw},lP ds=true->PyData.canLayAll0 ds=true
 | [],_=>rfl
 | d::ds,h=>by
  simp only[lP,and_eq_true]at h;simp only[PyData.canLayAll0];rw[D4 h.1,uX h.2];rfl
end
def qZ:∀{ds:Lw},(∀d∈ds,PyData.depth d<=n)->PyData.depthAll ds<=n
 | [],_=>zero_le _
 | d::ds,h=>by
  simp only[PyData.depthAll];exact Nat.max_le.mpr ⟨h d (by simp),qZ λx hx=>h x (by simp [hx])⟩
def tZ:∀{ds:Lw},(∀d∈ds,jA d=true)->lP ds=true
 | [],_=>rfl
 | d::ds,h=>by
  simp only[lP];rw[h d (by simp),tZ λx hx=>h x (by simp [hx])];rfl
def GJ(ns:Ls):lP (ns.map .int)=true:=tZ λd hd=>by
 rw[mem_map]at hd;obtain⟨i,_,rfl⟩:=hd;rfl
def wQ(h:jA d=true)(hd:PyData.depth d<=64):SeqAt.shaped d=true:=by
 unfold SeqAt.shaped;rw[D4 h,decide_eq_true hd];rfl
def Ht:bootBuiltins "max" = some (.builtin "max"):=by decide +kernel
def gS:bootBuiltins "sorted" = some (.builtin "sorted"):=by decide +kernel
def hu1(h:a+64<c):a+1<c:=by omega
abbrev Ent:=Ls × Int × Int
abbrev L7:=List (Int × Ent)
def fM(k:Str)(n:Int)(ns:Ls):PyData:=.tuple [.str k,.int n,.tuple (ns.map .int)]
structure Bk where
 es:L7
 up:Int
 parts:List (Int × Ls)
def bN(es:L7)(n:Int):Option Ent:=(es.find? λp=>decide (p.1=n)).map (·.2)
def fG(es:L7)(n:Int)(e:Ent):L7:=if (es.any λp=>decide (p.1=n))=true then es.map (λp=>if p.1=n then (p.1,e) else p) else es++[(n,e)]
def hZ(es:L7)(n:Int):L7:=es.filter λp=>decide (p.1≠n)
def mD(B:Bk)(n:Int)(body:Ls)(seg:Int):Option Bk:=if n<B.up then none else some ⟨fG B.es n (body,0,seg),n+1,B.parts⟩
def rX(seg:Int):Bk->List (Int × Ls)->Option Bk
 | B,[]=>some B
 | B,p::ps=>match mD B p.1 p.2 seg with
  | none=>none
  | some B'=>rX seg B' ps
def yG(B:Bk)(n m:Int)(seg:Int):Option Bk:=if B.parts.map (·.1)=(List.range m.toNat).map (λ(k:Nat)=>n+(k:Int)) then rX seg ⟨B.es,B.up,[]⟩ B.parts else none
def HB(i j:Int):Int:=if j > i then j else i
def dF(B:Bk)(k:Str)(n:Int)(body:Ls)(seg:Int):Option Bk:=
 if k = "part" then some ⟨B.es,B.up,B.parts++[(n,body)]⟩
 else if k = "deal" then yG B n (body.getD 0 0) seg
 else if B.parts≠[] then none
 else if k = "put" then mD B n body seg
 else if k = "from" then some ⟨B.es,HB B.up n,B.parts⟩
 else if k = "carried" then some ⟨fG B.es n (body.drop 1,body.getD 0 0,seg),HB B.up (n+1),B.parts⟩
 else match bN B.es n with
  | none=>some B
  | some e=>if k = "out" then some ⟨fG B.es n (e.1,e.2.1+1,e.2.2),B.up,B.parts⟩ else if k = "new" then some ⟨fG B.es n (e.1,0,e.2.2),B.up,B.parts⟩ else some ⟨hZ B.es n,B.up,B.parts⟩
def kD(es:L7)(n:Int)(e:Ent):(fG es n e).length<=es.length+1:=by
 unfold fG;split
 ·rw[length_map];omega
 ·rw[length_append];exact le_refl _
def fR(H H':Hp):Prop:=∀b xs,H b=some (.tup xs)->H' b=some (.tup xs)
def aH.tup(s:aH H H'):fR H H':=λb xs e=>s b _ e
def fR.trans(a:fR H H1)(b:fR H1 H2):fR H H2:=λc xs e=>b c xs (a c xs e)
mutual
def yF(e:fR H H'):∀{d:PyData}{v:V},iA d=true->Den H d v->Den H' d v
 | .none,v,t,h=>by simp only[Den]at h ⊢; exact h
 | .bool b,v,t,h=>by simp only[Den]at h ⊢; exact h
 | .int i,v,t,h=>by simp only[Den]at h ⊢; exact h
 | .str x,v,t,h=>by simp only[Den]at h ⊢; exact h
 | .tuple ds,v,t,h=>by
  simp only[Den]at h ⊢;simp only[iA]at t;obtain⟨a,xs,e1,h1,h2⟩:=h;exact⟨a,xs,e1,e _ _ h1,fN e t h2⟩
 | .list ds,v,t,h=>by simp [iA]at t
 | .dict _,v,t,h=>by simp only[Den]at h
def fN(e:fR H H'):∀{ds:Lw}{xs:L6},cY ds=true->aP H ds xs->aP H' ds xs
 | [],xs,t,h=>by simp only[aP]at h ⊢; exact h
 | d::ds,xs,t,h=>by
  simp only[aP]at h ⊢;simp only[cY,and_eq_true]at t;obtain⟨x,r,e1,h1,h2⟩:=h;exact⟨x,r,e1,yF e t.1 h1,fN e t.2 h2⟩
end
inductive kK(H:Hp)(v:V)(e:Ent):Prop
 | mk:∀t b,v = .ref t->H t=some (.tup [.ref b,.int e.2.1,.int e.2.2])->H b=some (.tup (e.1.map V.int))->kK H v e
def kK.t(s:fR H H')(h:kK H v e):kK H' v e:=by
 obtain⟨t,b,e1,h1,h2⟩:=h;exact⟨t,b,e1,s _ _ h1,s _ _ h2⟩
def EsR(H:Hp):L7->Lz->Prop
 | [],[]=>True
 | p::es,q::kvs=>q.1=Sum.inl p.1/\kK H q.2 p.2/\EsR H es kvs
 | _,_=>False
def EsR.t(s:fR H H'):∀{es:L7}{kvs:Lz},EsR H es kvs->EsR H' es kvs
 | [],[],_=>trivial
 | p::es,q::kvs,h=>⟨h.1,h.2.1.t s,EsR.t s h.2.2⟩
 | [],_::_,h=>h.elim
 | _::_,[],h=>h.elim
def EsR.len:∀{es:L7}{kvs:Lz},EsR H es kvs->kvs.length=es.length
 | [],[],_=>rfl
 | p::es,q::kvs,h=>by rw[length_cons,length_cons,EsR.len h.2.2]
 | [],_::_,h=>h.elim
 | _::_,[],h=>h.elim
def EsR.keys:∀{es:L7}{kvs:Lz},EsR H es kvs->kvs.map (·.1)=(es.map (·.1)).map Sum.inl
 | [],[],_=>rfl
 | p::es,q::kvs,h=>by rw[map_cons,map_cons,map_cons,h.1,EsR.keys h.2.2]
 | [],_::_,h=>h.elim
 | _::_,[],h=>h.elim
def AA:((Sum.inl a:Key)=Sum.inl b) ↔ a=b:=⟨Sum.inl.inj,λh=>by rw[h]⟩
def EsR.val:∀{es:L7}{kvs:Lz},EsR H es kvs->(match bN es n with | none=>dE kvs (Sum.inl n)=none | some e=>∃v,dE kvs (Sum.inl n)=some v/\kK H v e)
 | [],[],_=>rfl
 | p::es,q::kvs,h=>by
  obtain⟨h1,h2,h3⟩:=h;have ih:=EsR.val (n:=n) h3;by_cases e:p.1=n
  ·have:bN (p::es) n=some p.2:=by simp [bN,e]
   rw[this];exact⟨q.2,iR (by rw[h1,e]),h2⟩
  ·have e1:bN (p::es) n=bN es n:=by simp [bN,e]
   have e2:dE (q::kvs) (Sum.inl n)=dE kvs (Sum.inl n):=iS (by rw[h1,AA]; exact e);rw[e1,e2];exact ih
 | [],_::_,h=>h.elim
 | _::_,[],h=>h.elim
def EsR.any:∀{es:L7}{kvs:Lz},EsR H es kvs->(kvs.any λkv=>decide (kv.1=Sum.inl n))=(es.any λp=>decide (p.1=n))
 | [],[],_=>rfl
 | p::es,q::kvs,h=>by
  obtain⟨h1,h2,h3⟩:=h;rw[any_cons,any_cons,EsR.any h3,h1];congr 1;exact decide_eq_decide.mpr AA
 | [],_::_,h=>h.elim
 | _::_,[],h=>h.elim
def EsR.mapP(hv:kK H v e):∀{es:L7}{kvs:Lz},EsR H es kvs->EsR H (es.map λp=>if p.1=n then (p.1,e) else p) (kvs.map λkv=>if kv.1=Sum.inl n then (kv.1,v) else kv)
 | [],[],_=>trivial
 | p::es,q::kvs,h=>by
  obtain⟨h1,h2,h3⟩:=h;rw[map_cons,map_cons];by_cases z:p.1=n
  ·rw[if_pos z,if_pos (show q.1=Sum.inl n by rw[h1,z])];exact⟨h1,hv,EsR.mapP hv h3⟩
  ·rw[if_neg z,if_neg (show ¬ q.1=Sum.inl n by rw[h1,AA]; exact z)];exact⟨h1,h2,EsR.mapP hv h3⟩
 | [],_::_,h=>h.elim
 | _::_,[],h=>h.elim
def EsR.snoc(hv:kK H v e):∀{es:L7}{kvs:Lz},EsR H es kvs->EsR H (es++[(n,e)]) (kvs++[(Sum.inl n,v)])
 | [],[],_=>⟨rfl,hv,trivial⟩
 | p::es,q::kvs,h=>⟨h.1,h.2.1,EsR.snoc hv h.2.2⟩
 | [],_::_,h=>h.elim
 | _::_,[],h=>h.elim
def EsR.put(h:EsR H es kvs)(hv:kK H v e):EsR H (fG es n e) (eF kvs (Sum.inl n) v):=by
 unfold fG eF;rw[h.any];by_cases z:(es.any λp=>decide (p.1=n))=true
 ·rw[if_pos z,if_pos z];exact h.mapP hv
 ·rw[if_neg z,if_neg z];exact h.snoc hv
def EsR.drop:∀{es:L7}{kvs:Lz},EsR H es kvs->EsR H (hZ es n) (eY kvs (Sum.inl n))
 | [],[],_=>trivial
 | p::es,q::kvs,h=>by
  obtain⟨h1,h2,h3⟩:=h;have ih:=EsR.drop (n:=n) h3;by_cases z:p.1=n
  ·have e1:hZ (p::es) n=hZ es n:=by simp [hZ,z]
   rw[e1,yC (by rw[h1,z])];exact ih
  ·have e1:hZ (p::es) n=p::hZ es n:=by simp [hZ,z]
   rw[e1,yD (by rw[h1,AA]; exact z)];exact⟨h1,h2,ih⟩
 | [],_::_,h=>h.elim
 | _::_,[],h=>h.elim
def fV(ps:List (Int × Ls)):Lw:=ps.map λp=>fM "part" p.1 p.2
def lD(k:Str)(n:Int)(ns:Ls):iA (fM k n ns)=true:=by
 have tl:∀l:Ls,cY (l.map PyData.int)=true:=by
  intro l
  induction l with
  | nil=>rfl
  | cons x l ih=>exact ih
 unfold fM;simp only[iA,cY,Bool.true_and,Bool.and_true];exact tl ns
def iO:∀ps:List (Int × Ls),cY (fV ps)=true
 | []=>rfl
 | p::ps=>by
  show (iA (fM "part" p.1 p.2) && cY (fV ps))=true;rw[lD,iO ps];rfl
def bkF(de dp:Addr)(up:Int):L3:=[("entries",.ref de),("upcoming",.int up),("parts",.ref dp)]
structure BookAt(C:Addr)(H:Hp)(bk de dp:Addr)(B:Bk):Prop where
 self:∃dx,H bk=some (.ins C dx (bkF de dp B.up))
 ent:∃kvs,H de=some (.dK kvs)/\EsR H B.es kvs
 par:∃ps,H dp=some (.lst ps)/\aP H (fV B.parts) ps
def Frm(bk de dp:Addr)(H H':Hp):Prop:=∀b o,H b=some o->b≠bk->b≠de->b≠dp->H' b=some o
def Frm.refl(bk de dp:Addr)(H:Hp):Frm bk de dp H H:=λ_ _ e _ _ _=>e
def Frm.trans(a:Frm bk de dp H H1)(b:Frm bk de dp' H1 H2)(hd:dp'=dp\/H dp'=none):Frm bk de dp H H2:=λc o e h1 h2 h3=>by
 refine b c o (a c o e h1 h2 h3) h1 h2 ?_;rintro rfl;rcases hd with rfl | hd
 ·exact h3 rfl
 ·rw[hd]at e;cases e
def aH.frm(s:aH H H'):Frm bk de dp H H':=λb o e _ _ _=>s b o e
def BookAt.tup(h:BookAt C H bk de dp B)(f:Frm bk de dp H H'):fR H H':=λb xs e=>by
 obtain⟨dx,h1⟩:=h.self;obtain⟨kvs,h2,_⟩:=h.ent;obtain⟨ps,h3,_⟩:=h.par;exact f b _ e (by rintro rfl; rw[h1]at e; cases e) (by rintro rfl; rw[h2]at e; cases e) (by rintro rfl; rw[h3]at e; cases e)
def BookAt.same(h:BookAt C H bk de dp B)(s:aH H H'):BookAt C H' bk de dp B:=by
 obtain⟨dx,h1⟩:=h.self;obtain⟨kvs,h2,h3⟩:=h.ent;obtain⟨ps,h4,h5⟩:=h.par;exact⟨⟨dx,s _ _ h1⟩,⟨kvs,s _ _ h2,h3.t (aH.tup s)⟩,⟨ps,s _ _ h4,h5.same s⟩⟩
def BookAt.ne(h:BookAt C H bk de dp B):bk≠de/\bk≠dp/\de≠dp:=by
 obtain⟨dx,h1⟩:=h.self;obtain⟨kvs,h2,h3⟩:=h.ent;obtain⟨ps,h4,h5⟩:=h.par;refine⟨?_,?_,?_⟩
 ·rintro rfl;rw[h1]at h2;cases h2
 ·rintro rfl;rw[h1]at h4;cases h4
 ·rintro rfl;rw[h2]at h4;cases h4
def kQ(h:H a=some o)(hn:∀xs,o ≠ .tup xs):fR H (upd H a o'):=λb xs e=>by
 rw[aF (λz=>by rw[z,h]at e; exact hn xs (Option.some.inj e))];exact e
def vL(h:BookAt C H bk de dp B)(hr:EsR H es' kvs'):BookAt C (upd H de (.dK kvs')) bk de dp ⟨es',B.up,B.parts⟩:=by
 obtain⟨n1,n2,n3⟩:=h.ne;obtain⟨dx,h1⟩:=h.self;obtain⟨kvs,h2,h3⟩:=h.ent;obtain⟨ps,h4,h5⟩:=h.par;have t:=kQ (o':=.dK kvs') h2 (λxs z=>by cases z);exact⟨⟨dx,by rw[aF n1]; exact h1⟩,⟨kvs',aB,hr.t t⟩,⟨ps,by rw[aF (Ne.symm n3)]; exact h4,fN t (iO _) h5⟩⟩
def sV(h:BookAt C H bk de dp B)(u:Int)(h4:H dp'=some (.lst ps))(h5:aP H (fV parts) ps):BookAt C (upd H bk (.ins C dx (bkF de dp' u))) bk de dp' ⟨B.es,u,parts⟩:=by
 obtain⟨n1,n2,n3⟩:=h.ne;obtain⟨dx0,h1⟩:=h.self;obtain⟨kvs,h2,h3⟩:=h.ent;have t:=kQ (o':=.ins C dx (bkF de dp' u)) h1 (λxs z=>by cases z);have n4:dp'≠bk:=by
  rintro rfl;rw[h1]at h4;cases h4
 exact⟨⟨dx,aB⟩,⟨kvs,by rw[aF (Ne.symm n1)]; exact h2,h3.t t⟩,⟨ps,by rw[aF n4]; exact h4,fN t (iO _) h5⟩⟩
def Ld(h:BookAt C H bk de dp B)(h5:aP H (fV parts) ps):BookAt C (upd H dp (.lst ps)) bk de dp ⟨B.es,B.up,parts⟩:=by
 obtain⟨n1,n2,n3⟩:=h.ne;obtain⟨dx0,h1⟩:=h.self;obtain⟨kvs,h2,h3⟩:=h.ent;obtain⟨ps0,h4,_⟩:=h.par;have t:=kQ (o':=.lst ps) h4 (λxs z=>by cases z);exact⟨⟨dx0,by rw[aF n2]; exact h1⟩,⟨kvs,by rw[aF n3]; exact h2,h3.t t⟩,⟨ps,aB,fN t (iO _) h5⟩⟩
def AD:Frm bk de dp H (upd H bk o):=λb u e h1 _ _=>by rw[aF h1]; exact e
def vA:Frm bk de dp H (upd H de o):=λb u e _ h1 _=>by rw[aF h1]; exact e
def LU:Frm bk de dp H (upd H dp o):=λb u e _ _ h1=>by rw[aF h1]; exact e
def CW:hG "parts" (.ref dp') (bkF de dp u)=bkF de dp' u:=rfl
structure TxtK(K:Ln)(mg:Lp)(aa9 aa1 aa3 aa4:Addr):Prop extends TxtR K mg aa9 aa1 where
 as9:mg "list" = none
 bk1:mg "max" = none
 ae5:mg "sorted" = none
 af4:dO K aa3=true
 ba0:mg "Broken" = some (.ref aa3)
 cl:Cls K aa4
 ac3:dJ K aa4 "entries"
 ab7:dJ K aa4 "upcoming"
 ap3:dJ K aa4 "parts"
abbrev GR:Stmt:=bI (top 36) 0
abbrev Da:Stmt:=bI (top 36) 1
abbrev rL:Stmt:=bI (top 36) 2
abbrev oV:Stmt:=bI (top 36) 3
abbrev A2:Stmt:=bI (top 36) 4
abbrev Az:Stmt:=bI (top 36) 5
abbrev xI:Stmt:=bI (top 36) 6
inductive iE(C:Addr)(aa3:Addr)(vs:L6)(H:Hp)(Q:VK)(E:XK):Prop
 | mk:∀(bk de dp b:Addr)(B:Bk)(n seg:Int)(body:Ls),vs=[.ref bk,.int n,.ref b,.int seg]->BookAt C H bk de dp B->H b=some (.tup (body.map V.int))->B.es.length<1000->(∀B',mD B n body seg=some B'->∀H',Frm bk de dp H H'->BookAt C H' bk de dp B'->Q .non H')->(mD B n body seg=none->∀H',Frm bk de dp H H'->E (.ref aa3) none H')->iE C aa3 vs H Q E
inductive qG(C:Addr)(vs:L6)(H:Hp)(Q:VK)(x_3:XK):Prop
 | mk:∀(bk de dp:Addr)(B:Bk)(k:Str)(n:Int)(e:Ent),vs=[.ref bk,.str k,.int n]->BookAt C H bk de dp B->bN B.es n=some e->B.es.length<1000->(∀H',Frm bk de dp H H'->BookAt C H' bk de dp (if k = "out" then ⟨fG B.es n (e.1,e.2.1+1,e.2.2),B.up,B.parts⟩ else if k = "new" then ⟨fG B.es n (e.1,0,e.2.2),B.up,B.parts⟩ else ⟨hZ B.es n,B.up,B.parts⟩)->Q .non H')->qG C vs H Q x_3
def lX(n:Int)(e:Ent):PyData:=.tuple [.int n,.tuple (e.1.map .int),.int e.2.1]
inductive mY(C:Addr)(vs:L6)(H:Hp)(Q:VK)(x_3:XK):Prop
 | mk:∀(bk de dp:Addr)(B:Bk)(n:Int)(e:Ent),vs=[.ref bk,.int n]->BookAt C H bk de dp B->bN B.es n=some e->(∀p H',aH H H'->Den H' (lX n e) (.ref p)->Q (.ref p) H')->mY C vs H Q x_3
def hX(h:k=x):decide (V.str k=V.str x)=true:=decide_eq_true (by rw[h])
def gF(h:¬ k=x):decide (V.str k=V.str x)=false:=decide_eq_false (λz=>h (V.str.inj z))
section
variable{P:Program}{w:World}{K:Ln}{mg:Lp}{base:Heap}{aa9 aa1 aa3 aa4:Addr}
def zU(F:Fun K "enter_put" "Book.enter_put" rL f fd)(T:‹8›):‹14› 1 f fd ["self","number","body","segment"] (iE aa4 aa3):=by
 refine F.okY ["self","number","body","segment"] λcdv A outer s H vs Q E hr nD0 h=>?_;obtain⟨bk,de,dp,b,B,n,seg,body,rfl,hB,hb,hl,q,qe⟩:=h;refine⟨_,aA (a8 (aR uR (pv 1) ‹22› (bD _))
   ‹72›
   aO)
  (aA (fS (hu1 hr.units) ‹22› (pv 1) (bE (aE (pv 2) (aN aI ‹47›))) ⋯)
  (aC (dS (pv 0) (bA cU (pv 1) aI) ⋯))),?_⟩
 obtain⟨dx,h1⟩:=hB.self;refine⟨_,rfl,_,rfl,bk,_,dx,_,_,rfl,h1,T.cl,T.ab7,rfl,_,_,rfl,rfl,_,rfl,?_⟩;show if decide (n<B.up)=true then _ else _
 unfold mD at q qe;by_cases hn:n<B.up
 ·rw[if_pos (decide_eq_true hn)];rw[if_pos hn]at qe;exact⟨(by show 1<=sizeLine; decide),qe rfl H (Frm.refl _ _ _ _)⟩
 rw[if_neg (by rw[decide_eq_true_eq]; exact hn)];rw[if_neg hn]at q;refine cP rfl ?_;refine⟨_,rfl,_,rfl,(by show 3<=sizeLine; decide),λt ht=>?_⟩;have S1:=aD (o:=.tup [.ref b,.int 0,.int seg]) ht;generalize eH1:upd H t (.tup [.ref b,.int 0,.int seg])=H1 at S1 ⊢;have g1:H1 t=some (.tup [.ref b,.int 0,.int seg]):=by rw[<- eH1]; exact aB
 have hB1:=hB.same S1;obtain⟨kvs,h2,h3⟩:=hB1.ent;have he:kK H1 (.ref t) (body,0,seg):=⟨t,b,rfl,g1,S1 _ _ hb⟩;have hkl:kvs.length<sizeLine:=by rw[h3.len]; exact lt_trans hl (by decide)
 refine⟨_,rfl,bk,_,dx,_,_,rfl,S1 _ _ h1,T.cl,T.ac3,rfl,_,rfl,de,_,rfl,kP.k (k:=Sum.inl n) h2 hkl,?_⟩;have hB2:=vL hB1 (h3.put (n:=n) he);have F2:Frm bk de dp H1 (upd H1 de (.dK (eF kvs (Sum.inl n) (.ref t)))):=vA;generalize upd H1 de (.dK (eF kvs (Sum.inl n) (.ref t)))=H2 at hB2 F2 ⊢;obtain⟨dx2,h12⟩:=hB2.self;obtain⟨ps2,h42,h52⟩:=hB2.par;refine⟨_,rfl,_,_,rfl,rfl,_,rfl,bk,_,dx2,_,rfl,h12,T.cl,T.ab7,(by show 3<1000; decide),?_⟩;exact q _ rfl _ (((aH.frm S1).trans F2 (.inl rfl)).trans AD (.inl rfl)) (sV hB2 (n+1) h42 h52)
def E5(F:Fun K "change_entry" "Book.change_entry" A2 f fd)(T:‹8›):‹14› 1 f fd ["self","kind","number"] (qG aa4):=by
 refine F.okY ["self","kind","number","entry"] λcdv A outer s H vs Q E hr nD0 h=>?_;obtain⟨bk,de,dp,B,k,n,e,rfl,hB,he,hl,q⟩:=h;refine⟨_,aA (aX (i:=3) nD0 ⋯ ⋯ (dX (hu1 hr.units) ‹22› (pv 2) (λ_ _=>rfl)))
  (aC (a8 (aR fK (pv 1) bH (bD _))
   (aC (fS (hu1 hr.units) ‹22› (pv 2) (bE (aM ‹36› (bQ (bA cU ‹36› aI) (aM ‹36› aG)))) ⋯))
   (aC (a8 (aR fK (pv 1) bH (bD _))
    (aC (fS (hu1 hr.units) ‹22› (pv 2) (bE (aM ‹36› (aN aI (aM ‹36› aG)))) ⋯))
    ‹76›)))),?_⟩
 obtain⟨dx,h1⟩:=hB.self;obtain⟨kvs,h2,h3⟩:=hB.ent;have hv:=h3.val (n:=n);rw[he]at hv;obtain⟨v,hv1,t,b,rfl,gt,gb⟩:=hv;have sq:SqT K H t [.ref b,.int e.2.1,.int e.2.2]:=SqT.of gt;have dg:cQ H de (.int n) (some (.ref t)):=by
  have:=cQ.k (k:=Sum.inl n) h2;rw[hv1]at this;exact this
 have hkl:kvs.length<sizeLine:=by rw[h3.len]; exact lt_trans hl (by decide)
 refine⟨_,rfl,bk,_,dx,_,_,rfl,h1,T.cl,T.ac3,rfl,_,rfl,de,_,rfl,dg,?_⟩;refine⟨_,rfl,rfl,_,rfl,?_⟩;by_cases k1:k = "out"
 ·rw[if_pos k1]at q;rw[hX k1];refine aU ?_;refine⟨_,rfl,t,_,_,_,rfl,rfl,sq,cI (j:=0) rfl,_,rfl,t,_,_,_,rfl,rfl,sq,cI (j:=1) rfl,_,_,rfl,rfl,_,rfl,t,_,_,_,rfl,rfl,sq,cI (j:=2) rfl,(by show 3<=sizeLine; decide),λu hu=>?_⟩;have S1:=aD (o:=.tup [.ref b,.int (e.2.1+1),.int e.2.2]) hu;generalize eH1:upd H u (.tup [.ref b,.int (e.2.1+1),.int e.2.2])=H1 at S1 ⊢;have g1:H1 u=some (.tup [.ref b,.int (e.2.1+1),.int e.2.2]):=by rw[<- eH1]; exact aB
  have hE:kK H1 (.ref u) (e.1,e.2.1+1,e.2.2):=⟨u,b,rfl,g1,S1 _ _ gb⟩;refine⟨_,rfl,bk,_,dx,_,_,rfl,S1 _ _ h1,T.cl,T.ac3,rfl,_,rfl,de,_,rfl,kP.k (k:=Sum.inl n) (S1 _ _ h2) hkl,?_⟩;exact q _ ((aH.frm S1).trans vA (.inl rfl)) (vL (hB.same S1) ((h3.t (aH.tup S1)).put hE))
 rw[if_neg k1]at q;rw[gF k1];refine bB ⟨_,rfl,rfl,_,rfl,?_⟩;by_cases k2:k = "new"
 ·rw[if_pos k2]at q;rw[hX k2];refine aU ?_;refine⟨_,rfl,t,_,_,_,rfl,rfl,sq,cI (j:=0) rfl,_,rfl,t,_,_,_,rfl,rfl,sq,cI (j:=2) rfl,(by show 3<=sizeLine; decide),λu hu=>?_⟩;have S1:=aD (o:=.tup [.ref b,.int 0,.int e.2.2]) hu;generalize eH1:upd H u (.tup [.ref b,.int 0,.int e.2.2])=H1 at S1 ⊢;have g1:H1 u=some (.tup [.ref b,.int 0,.int e.2.2]):=by rw[<- eH1]; exact aB
  have hE:kK H1 (.ref u) (e.1,0,e.2.2):=⟨u,b,rfl,g1,S1 _ _ gb⟩;refine⟨_,rfl,bk,_,dx,_,_,rfl,S1 _ _ h1,T.cl,T.ac3,rfl,_,rfl,de,_,rfl,kP.k (k:=Sum.inl n) (S1 _ _ h2) hkl,?_⟩;exact q _ ((aH.frm S1).trans vA (.inl rfl)) (vL (hB.same S1) ((h3.t (aH.tup S1)).put hE))
 rw[if_neg k2]at q;rw[gF k2];refine bB ?_;refine⟨_,rfl,bk,_,dx,_,_,rfl,h1,T.cl,T.ac3,rfl,.inr (.inr (.inl ⟨rfl,.inl ⟨kvs,h2⟩⟩)),_,rfl,de,kvs,Sum.inl n,_,rfl,rfl,h2,hv1,?_⟩;exact q _ vA (vL hB h3.drop)
def E2(F:Fun K "letter" "Book.letter" Az f fd)(T:‹8›):‹14› 1 f fd ["self","number"] (mY aa4):=by
 refine F.okY ["self","number","entry"] λcdv A outer s H vs Q E hr nD0 h=>?_;obtain⟨bk,de,dp,B,n,e,rfl,hB,he,q⟩:=h;refine⟨_,aA (aX (i:=2) nD0 ⋯ ⋯ ‹83›)
  (aC (aQ (bE (aE (pv 1) (aM (cF (cS K) (pv 2) aI (λ_ _=>rfl)) (aM (cF (cS K) (pv 2) aI (λ_ _=>rfl)) aG)))))),?_⟩
 obtain⟨dx,h1⟩:=hB.self;obtain⟨kvs,h2,h3⟩:=hB.ent;have hv:=h3.val (n:=n);rw[he]at hv;obtain⟨v,hv1,t,b,rfl,gt,gb⟩:=hv;have sq:SqT K H t [.ref b,.int e.2.1,.int e.2.2]:=SqT.of gt;have dg:cQ H de (.int n) (some (.ref t)):=by
  have:=cQ.k (k:=Sum.inl n) h2;rw[hv1]at this;exact this
 refine⟨_,rfl,bk,_,dx,_,_,rfl,h1,T.cl,T.ac3,rfl,_,rfl,de,_,rfl,dg,?_⟩;refine⟨_,rfl,_,rfl,t,_,_,_,rfl,rfl,sq,cI (j:=0) rfl,_,rfl,t,_,_,_,rfl,rfl,sq,cI (j:=1) rfl,(by show 3<=sizeLine; decide),λp hp=>?_⟩;have S1:=aD (o:=.tup [.int n,.ref b,.int e.2.1]) hp;refine q p _ S1 ?_;unfold lX;simp only[Den,aP];exact⟨p,_,rfl,aB,_,_,rfl,rfl,_,_,rfl,⟨b,_,rfl,S1 _ _ gb,bR.mpr rfl⟩,_,_,rfl,rfl,rfl⟩
end
def hJ(es:L7)(n:Int):PyData:=lX n ((bN es n).getD ([],0,0))
inductive kZ(C:Addr)(vs:L6)(H:Hp)(Q:VK)(x_3:XK):Prop
 | mk:∀(bk de dp:Addr)(B:Bk),vs=[.ref bk]->BookAt C H bk de dp B->(B.es.length<800/\(B.es.map (·.1)).Pairwise (· <= ·))->(∀ms,List.Perm ms (B.es.map (·.1))->ms.Pairwise (· <= ·)->∀p H',aH H H'->H p=none->Den H' (.list (ms.map (hJ B.es))) (.ref p)->Q (.ref p) H')->kZ C vs H Q x_3
inductive jO(C:Addr)(aa3:Addr)(vs:L6)(H:Hp)(Q:VK)(E:XK):Prop
 | mk:∀(bk de dp:Addr)(B:Bk)(n m seg:Int),vs=[.ref bk,.int n,.int m,.int seg]->BookAt C H bk de dp B->0<=n->n<=999999->0<=m->m<=9->B.es.length+B.parts.length<900->(∀B',yG B n m seg=some B'->∀dq H',Frm bk de dp H H'->H dq=none->BookAt C H' bk de dq B'->Q .non H')->(yG B n m seg=none->∀H',Frm bk de dp H H'->E (.ref aa3) none H')->jO C aa3 vs H Q E
def kI(h:n∈es.map (·.1)):∃e,bN es n=some e:=by
 induction es with
 | nil=>simp at h
 | cons p es ih=>
  by_cases e:p.1=n
  ·exact⟨p.2,by simp [bN,e]⟩
  ·have:n∈es.map (·.1):=by
    rw[map_cons,mem_cons]at h;rcases h with h | h
    ·exact absurd h.symm e
    ·exact h
   obtain⟨x,hx⟩:=ih this;exact⟨x,by simpa [bN,e] using hx⟩
def pH(n:Int)(e:Ent):iA (lX n e)=true:=by
 have tl:∀l:Ls,cY (l.map PyData.int)=true:=by
  intro l
  induction l with
  | nil=>rfl
  | cons x l ih=>exact ih
 unfold lX;simp only[iA,cY,Bool.true_and,Bool.and_true];exact tl _
def jK:∀{H:Hp}{ds:Lw}{ys:L6},ys.length=ds.length->(∀(i:Nat)(y:V),ys[i]? = some y->∃d,ds[i]? = some d/\Den H d y)->aP H ds ys
 | H,[],[],_,_=>by simp only[aP]
 | H,d::ds,y::ys,hl,h=>by
  simp only[aP];obtain⟨d',e,h1⟩:=h 0 y rfl;cases (Option.some.inj e:d=d');exact⟨y,ys,rfl,h1,jK (by simpa using hl) λi z hz=>h (i+1) z hz⟩
 | H,[],y::ys,hl,_=>by simp at hl
 | H,d::ds,[],hl,_=>by simp at hl
def kJ(ns ms:Ls):PyData.eqv (.list (ns.map .int)) (.list (ms.map .int))=decide (ns=ms):=by
 show PyData.eqvAll _ _=_;exact ked_eqvAll ns ms
def cX(ns:Ls):SeqAt.shaped (.list (ns.map .int))=true:=by
 unfold SeqAt.shaped;have h1:PyData.canLay0 (.list (ns.map .int))=true:=uY ns;have h2:PyData.depth (.list (ns.map .int))=1:=by
  show PyData.depthAll (ns.map .int)+1=1;rw[depth_ints]
 rw[h1,h2];rfl
def uI(seg:Int):∀{ps:List (Int × Ls)}{B B':Bk},rX seg B ps=some B'->B'.parts=B.parts
 | [],B,B',h=>by
  cases (Option.some.inj h:B=B');rfl
 | p::ps,B,B',h=>by
  unfold rX at h;cases e:mD B p.1 p.2 seg with
  | none=>rw[e]at h; cases h
  | some B1=>
   rw[e]at h;have:=uI seg h;rw[this];unfold mD at e;split at e
   ·cases e
   ·cases (Option.some.inj e);rfl
section
variable{P:Program}{w:World}{K:Ln}{mg:Lp}{base:Heap}{aa9 aa1 aa3 aa4:Addr}
def Cr(F:Fun K "letters" "Book.letters" xI f fd)(T:‹8›)(bk0:‹16› aa4 "letter" 1 ["self","number"] (mY aa4)):‹14› 2 f fd ["self"] (kZ aa4):=by
 refine F.okY ["self"] λcdv A outer s H vs Q E hr nD0 h=>?_;obtain⟨bk,de,dp,B,rfl,hB,hl,q⟩:=h;refine⟨_,aC (aQ (dC ["number"] [("self",0)] ⋯ (bT K ‹73›) ‹31› ‹40› (λC s2 H2 ex=>(cO bk0 T.cl ‹18› aZ (pv 1) ‹34›)))),?_⟩;obtain⟨dx,h1⟩:=hB.self;obtain⟨kvs,h2,h3⟩:=hB.ent;refine⟨_,rfl,bk,_,dx,_,_,rfl,h1,T.cl,T.ac3,rfl,de,kvs,_,rfl,h2,h3.keys,.inr hl.2,by rw[length_map]; omega,λp ms perm pw hp=>?_⟩;have S1:=aD (o:=.lst (ms.map .int)) hp;generalize eH1:upd H p (.lst (ms.map .int))=H1 at S1 ⊢;have g1:H1 p=some (.lst (ms.map .int)):=by rw[<- eH1]; exact aB
 have lm:(ms.map V.int).length=ms.length:=length_map _;have pl:=perm.length_eq;rw[length_map]at pl;refine⟨p,rfl,⟨_,SqL.of g1⟩,?_⟩;refine c9 (bS (K:=K) (SqL.of g1)) ?zl (λi y H'=>∃n,ms[i]? = some n/\Den H' (hJ B.es n) y) (λi y H1 H2 s h=>by obtain⟨n,e,h⟩:=h; exact⟨n,e,h.n s (pH _ _)⟩) (λσ=>∃z,σ = [z,some (.ref bk)]) ?z0 ?_ ?_
 case zl=>
  rw[lm,pl];exact le_of_lt (lt_trans hl.1 (by decide))
 case z0=>exact⟨none,rfl⟩
 ·intro i x σc H3 hi hσ s3 hx Q' hQ';obtain⟨z,rfl⟩:=hσ;rw[getElem?_map]at hx;cases e:ms[i]? with
  | none=>rw[e]at hx; cases hx
  | some n=>
   rw[e]at hx;cases hx;have hin:n∈B.es.map (·.1):=perm.mem_iff.mp (mem_of_getElem? e);obtain⟨en,hen⟩:=kI hin;have S13:aH H H3:=S1.trans s3;refine⟨_,rfl,bk,dx,_,rfl,S13 _ _ h1,rfl,_,rfl,bk,de,dp,B,n,en,rfl,hB.same S13,hen,λp4 H4 S4 d4=>?_⟩;refine hQ' _ _ _ ⟨_,rfl⟩ S4 ⟨n,e,?_⟩;unfold hJ;rw[hen];exact d4
 ·intro D ys H' hD s' hD' hlen hR;refine q ms perm pw D H' (S1.trans s') (S1.free hD) ?_;simp only[Den];refine⟨D,ys,rfl,hD',jK (by rw[length_map,hlen,lm]) λi y e=>?_⟩;obtain⟨n,e1,e2⟩:=hR i y e;exact⟨_,by rw[getElem?_map,e1]; rfl,e2⟩
def vS(F:Fun K "enter_deal" "Book.enter_deal" oV f fd)(T:‹8›)(ao6:‹16› aa4 "enter_put" 1 ["self","number","body","segment"] (iE aa4 aa3)):‹14› 2 f fd ["self","number","many","segment"] (jO aa4 aa3):=by
 refine F.okY ["self","number","many","segment","parts","part"] λcdv A outer s H vs Q E hr nD0 h=>?_;obtain⟨bk,de,dp,B,n,m,seg,rfl,hB,n0,n9,m0,m9,hl,q,qe⟩:=h;refine⟨_,aA (aX (i:=4) nD0 ⋯ ⋯ ‹22›)
  (aA (dS (pv 0) (cD aG) ⋯)
  (aA (a8 (aR (mF hr.units) (dC ["part"] [] ⋯ (bT K (pv 4)) (λC s2 H2 ex=>(bG (i:=0) (show List.Nodup (["part"]:Lu) by decide +kernel) ⋯ (Or.inl ⋯))) ‹40› (λC s2 H2 ex=>‹25›)) (uO ⋯ ⋯ T.as9 ⋯ T.ai5 (aE (pv 1) (bQ (bA cU (pv 1) (pv 2)) aG))) (bD _))
   ‹72›
   aO)
  (aC (fZ (lW eJ) ⋯ (bT K (pv 4)) (bG (i:=5) nD0 ⋯ ⋯)
   (aC (aY (cO ao6 T.cl ‹18› bP (pv 0) (aM ‹57› (aM ‹57› ‹47›))))))))),?_⟩
 obtain⟨dx,h1⟩:=hB.self;obtain⟨ps,h4,h5⟩:=hB.par;obtain⟨ne1,ne2,ne3⟩:=hB.ne;refine⟨_,rfl,bk,_,dx,_,_,rfl,h1,T.cl,T.ap3,rfl,?_⟩;refine⟨(by show 0<=sizeLine; decide),λdq hdq=>?_⟩;have S1:=aD (o:=.lst []) hdq;generalize eH1:upd H dq (.lst [])=H1 at S1 ⊢;have g1:H1 dq=some (.lst []):=by rw[<- eH1]; exact aB
 refine⟨_,rfl,bk,_,dx,_,rfl,S1 _ _ h1,T.cl,T.ap3,(by show 3<1000; decide),?_⟩;have hB2:=sV (hB.same S1) (dx:=dx) B.up (parts:=[]) g1 (by simp only[fV,map_nil,aP]);have F2:Frm bk de dp H (upd H1 bk (.ins aa4 dx (bkF de dq B.up))):=(aH.frm S1).trans AD (.inl rfl);have g2:upd H1 bk (.ins aa4 dx (bkF de dq B.up)) dp=some (.lst ps):=by rw[aF (Ne.symm ne2)]; exact S1 _ _ h4
 have T2:fR H (upd H1 bk (.ins aa4 dx (bkF de dq B.up))):=hB.tup F2;rw[CW];generalize upd H1 bk (.ins aa4 dx (bkF de dq B.up))=H2 at hB2 F2 g2 T2 ⊢;have d2:aP H2 (fV B.parts) ps:=fN T2 (iO _) h5;have lp:ps.length=B.parts.length:=by rw[h5.length]; unfold fV; rw[length_map]
 have hdq0:dq≠dp:=λz=>by rw[z,h4]at hdq; cases hdq
 refine⟨_,rfl,dp,rfl,⟨_,SqL.of g2⟩,?_⟩;refine c9 (bS (K:=K) (SqL.of g2)) ?zl (λi y _=>∃p,B.parts[i]? = some p/\y = .int p.1) (λi y H1 H2 s h=>h) (λσ=>σ.length=1) ?z0 ?_ ?_
 case zl=>
  rw[lp];exact le_of_lt (lt_trans (show _<900 by omega) (by decide))
 case z0=>rfl
 ·intro i x σc H3 hi hσ s3 hx Q' hQ';obtain⟨d,hd,dn⟩:=d2.get hx;unfold fV at hd;rw[getElem?_map]at hd;cases e:B.parts[i]? with
  | none=>rw[e]at hd; cases hd
  | some pr=>
   rw[e]at hd;cases (Option.some.inj hd:fM "part" pr.1 pr.2=d);have dn':=dn.same s3;unfold fM at dn';simp only[Den,aP]at dn';obtain⟨t,xt,rfl,gt,y0,r0,f0,f1,y1,r1,f2,f3,y2,r2,f4,⟨pb,yb,f5,gb,db⟩,f6⟩:=dn';subst f6 f5 f4 f3 f2 f1 f0
   match σc,hσ with
   | [z],_=>
    refine⟨_,rfl,t,_,_,_,rfl,rfl,SqT.of gt,cI (j:=1) rfl,?_⟩;exact hQ' _ _ _ rfl (aH.refl _) ⟨pr,e,rfl⟩
 intro D ys H3 hD S3 g3 hlen hR;have ey:ys=(B.parts.map (·.1)).map V.int:=by
  apply ext_getElem?;intro i;cases e:ys[i]? with
  | none=>
   have:ys.length<=i:=List.getElem?_eq_none_iff.mp e;rw[getElem?_eq_none (by rw[length_map,length_map]; omega)]
  | some y=>
   obtain⟨p,e1,e2⟩:=hR i y e;rw[getElem?_map,getElem?_map,e1,e2];rfl
 have hmz:(n+m - n).toNat=m.toNat:=by omega
 refine⟨_,rfl,_,rfl,_,rfl,_,_,rfl,rfl,n,n+m,rfl,⟨by omega,by omega,by omega,by omega⟩,le_trans (show _<=9 by omega) (by decide),λp4 hp4=>?_⟩;rw[hmz];have er:((List.range m.toNat).map λ(k:Nat)=>V.int (n+(k:Int)))=((List.range m.toNat).map λ(k:Nat)=>n+(k:Int)).map V.int:=by rw[map_map]; rfl
 rw[er];have S4:=aD (o:=.lst (((List.range m.toNat).map λ(k:Nat)=>n+(k:Int)).map V.int)) hp4;generalize eH4:upd H3 p4 (.lst (((List.range m.toNat).map λ(k:Nat)=>n+(k:Int)).map V.int))=H4 at S4 ⊢;have g4:H4 p4=some (.lst (((List.range m.toNat).map λ(k:Nat)=>n+(k:Int)).map V.int)):=by rw[<- eH4]; exact aB
 have dA:Den H4 (.list ((B.parts.map (·.1)).map .int)) (.ref D):=by
  simp only[Den];exact⟨D,ys,rfl,S4 _ _ g3,by rw[ey]; exact bR.mpr rfl⟩
 have dB:Den H4 (.list (((List.range m.toNat).map λ(k:Nat)=>n+(k:Int)).map .int)) (.ref p4):=by
  simp only[Den];exact⟨p4,_,rfl,g4,bR.mpr rfl⟩
 refine⟨_,_,dA,dB,cX _,cX _,_,rfl,?_⟩;rw[kJ];have F4:Frm bk de dp H H4:=F2.trans (aH.frm (S3.trans S4)) (.inl rfl);unfold yG at q qe;by_cases hc:B.parts.map (·.1)=(List.range m.toNat).map λ(k:Nat)=>n+(k:Int)
 case neg=>
  rw[if_neg hc]at qe;rw[decide_eq_false hc];exact aU ⟨(by show 1<=sizeLine; decide),qe rfl H4 F4⟩
 rw[if_pos hc]at q qe;rw[decide_eq_true hc];refine bB ?_;refine cP rfl ?_;have hB4:=hB2.same (S3.trans S4);have gd4:H4 dp=some (.lst ps):=S4 _ _ (S3 _ _ g2);have d4:aP H4 (fV B.parts) ps:=(d2.same S3).same S4;refine⟨_,rfl,dp,rfl,⟨_,SqL.of gd4⟩,?_⟩;have sq0:SqL K (λa=>if a=dp then some (.lst ps) else none) dp ps:=SqL.of (if_pos rfl);refine gC (H0:=λa=>if a=dp then some (.lst ps) else none) (bS (K:=K) sq0) (λi σ H'=>H' dp=some (.lst ps)/\fR H4 H'/\Frm bk de dp H H'/\i<=B.parts.length/\∃Bi z5,BookAt aa4 H' bk de dq Bi/\Bi.es.length<=B.es.length+i/\rX seg ⟨B.es,B.up,[]⟩ B.parts=rX seg Bi (B.parts.drop i)/\σ = [some (.ref bk),some (.int n),some (.int m),some (.int seg),some (.ref dp),z5]) ?i0 ?kp ?_ ?_
 case i0=>exact⟨gd4,λ_ _ e=>e,F4,zero_le _,_,none,hB4,le_refl _,rfl,rfl⟩
 case kp=>
  intro i σ H' h b o e;by_cases z:b=dp
  ·subst z;have e:some (HO.lst ps)=some o:=by simpa using e
   rw[<- e];exact h.1
  ·have e:none=some o:=by simpa [z] using e
   cases e
 ·rintro i x σ H5 H6 hi ⟨gd5,t5,f5,hiL,Bi,z5,hBi,hle,hpu,rfl⟩ s6 hx;obtain⟨d,hd,dn⟩:=d4.get hx;unfold fV at hd;rw[getElem?_map]at hd;cases e:B.parts[i]? with
  | none=>rw[e]at hd; cases hd
  | some pr=>
   rw[e]at hd;cases (Option.some.inj hd:fM "part" pr.1 pr.2=d);have dn':=yF (t5.trans (aH.tup s6)) (lD _ _ _) dn;unfold fM at dn';simp only[Den,aP]at dn';obtain⟨t,xt,rfl,gt,y0,r0,f0,f1,y1,r1,f2,f3,y2,r2,f4,⟨pb,yb,f5',gb,db⟩,f6⟩:=dn';have eb:=bR.mp db;subst eb f6 f5' f4 f3 f2 f1 f0;have iL:i<B.parts.length:=(List.getElem?_eq_some_iff.mp e).1;have ed:B.parts.drop i=pr::B.parts.drop (i+1):=by
    rw[List.drop_eq_getElem_cons iL];have:=(List.getElem?_eq_some_iff.mp e).2;rw[this]
   rw[ed]at hpu;have hB6:=hBi.same s6;obtain⟨dx6,h16⟩:=hB6.self;refine⟨_,rfl,bk,dx6,_,rfl,h16,rfl,_,rfl,t,_,_,_,rfl,rfl,SqT.of gt,cI (j:=1) rfl,_,rfl,t,_,_,_,rfl,rfl,SqT.of gt,cI (j:=2) rfl,_,rfl,bk,de,dq,pb,Bi,pr.1,seg,pr.2,rfl,hB6,gb,by omega,λB' hB' H7 f7 hB7=>?_,λhn H7 f7=>?_⟩
   ·have hdq':dq=dp\/H dq=none:=.inr hdq;have f67:Frm bk de dp H H7:=(f5.trans (aH.frm (dp:=dp) s6) (.inl rfl)).trans f7 hdq';refine⟨f7 _ _ (s6 _ _ gd5) (Ne.symm ne2) (λz=>ne3 z.symm) (Ne.symm hdq0),(t5.trans (aH.tup s6)).trans (hB6.tup f7),f67,iL,B',_,hB7,?_,?_,rfl⟩
    ·unfold mD at hB';split at hB'
     ·cases hB'
     ·cases (Option.some.inj hB');have:=kD Bi.es pr.1 (pr.2,0,seg);show (fG Bi.es pr.1 (pr.2,0,seg)).length<=_;omega
    ·rw[hpu];show (match mD Bi pr.1 pr.2 seg with | none=>none | some B'=>rX seg B' (B.parts.drop (i+1)))=_;rw[hB']
   ·refine qe ?_ H7 ((f5.trans (aH.frm (dp:=dp) s6) (.inl rfl)).trans f7 (.inr hdq));rw[hpu];show (match mD Bi pr.1 pr.2 seg with | none=>none | some B'=>rX seg B' (B.parts.drop (i+1)))=none;rw[hn]
 ·rintro σ H5 ⟨gd5,t5,f5,hiL,Bi,z5,hBi,hle,hpu,rfl⟩;rw[lp,List.drop_of_length_le (le_refl _)]at hpu;exact q Bi hpu dq H5 f5 hdq hBi
end
inductive oQ(C:Addr)(aa3:Addr)(vs:L6)(H:Hp)(Q:VK)(E:XK):Prop
 | mk:∀(bk de dp pr:Addr)(B:Bk)(k:Str)(n seg:Int)(body:Ls),vs=[.ref bk,.ref pr,.int seg]->BookAt C H bk de dp B->Den H (fM k n body) (.ref pr)->bK (fM k n body)=true->B.es.length+B.parts.length<900->(∀B',dF B k n body seg=some B'->∀dq H',Frm bk de dp H H'->(dq=dp\/H dq=none)->BookAt C H' bk de dq B'->Q .non H')->(dF B k n body seg=none->∀H',Frm bk de dp H H'->E (.ref aa3) none H')->oQ C aa3 vs H Q E
inductive zB(C:Addr)(vs:L6)(H:Hp)(Q:VK)(x_3:XK):Prop
 | mk:∀(bk dx:Addr),vs=[.ref bk]->H bk=some (.ins C dx [])->(∀de dp H',(∀b o,H b=some o->b≠bk->H' b=some o)->H de=none->H dp=none->BookAt C H' bk de dp ⟨[],0,[]⟩->Q .non H')->zB C vs H Q x_3
def xO(h:bK (fM k n body)=true):k∈cT/\0<=n/\n<=999999/\(k = "deal"->1<=body.length/\1<=body.getD 0 0/\body.getD 0 0<=9)/\(k = "carried"->1<=body.length)/\body.length<=61:=by
 unfold fM at h;simp only[bK,and_eq_true]at h;obtain⟨h1,h2,h3,h4⟩:=h;rw[fP]at h4;simp only[bO,and_eq_true,decide_eq_true_eq]at h2;refine⟨by simpa using h1,h2.1,h2.2,?_,?_,?_⟩
 ·rintro rfl;unfold fB at h4;rw[if_neg (by decide),if_neg (by decide),if_pos rfl]at h4;simp only[and_eq_true,decide_eq_true_eq]at h4;obtain⟨⟨l1,l2⟩,l3⟩:=h4
  match body,l1,l2,l3 with
  | [x],_,l2,l3=>exact⟨le_refl _,l2,l3⟩
 ·rintro rfl;unfold fB at h4;rw[if_neg (by decide),if_pos rfl]at h4;simp only[and_eq_true,decide_eq_true_eq]at h4;exact h4.1.1
 ·unfold fB at h4;split at h4
  ·have:=of_decide_eq_true h4;omega
  ·split at h4
   ·simp only[and_eq_true,decide_eq_true_eq]at h4;omega
   ·split at h4
    ·simp only[and_eq_true,decide_eq_true_eq]at h4;omega
    ·have:=of_decide_eq_true h4;omega
def yJ(h:1<=xs.length):i8 xs (some 1) none=xs.drop 1:=by
 unfold i8;have e:HT.sIx xs.length 0 (some 1)=1:=(HT.jF xs.length 0 1).trans (min_eq_left h);rw[e,HT.uH,List.take_of_length_le (by rw[length_drop]; omega)]
section
variable{P:Program}{w:World}{K:Ln}{mg:Lp}{base:Heap}{aa9 aa1 aa3 aa4:Addr}
def JE(F:Fun K "__init__" "Book.__init__" GR f fd)(T:‹8›):‹14› 1 f fd ["self"] (zB aa4):=by
 refine F.okY ["self"] λcdv A outer s H vs Q E hr nD0 h=>?_;obtain⟨bk,dx,rfl,h1,q⟩:=h;refine⟨_,aA (dS (pv 0) kE ⋯)
  (aA (dS (pv 0) aI ⋯)
  (aC (dS (pv 0) (cD aG) ⋯))),?_⟩
 refine λde hde=>?_;have nde:bk≠de:=λz=>by rw[z,hde]at h1; cases h1
 refine⟨_,rfl,bk,_,dx,_,rfl,by rw[aF nde]; exact h1,T.cl,T.ac3,(by show 0<1000; decide),?_⟩;refine⟨_,rfl,bk,_,dx,_,rfl,aB,T.cl,T.ab7,(by show 1<1000; decide),?_⟩;refine⟨(by show 0<=sizeLine; decide),λdp hdp=>?_⟩;generalize eH1:upd (upd (upd H de (.dK [])) bk (.ins aa4 dx (hG "entries" (.ref de) []))) bk (.ins aa4 dx (hG "upcoming" (.int 0) (hG "entries" (.ref de) [])))=H1 at hdp ⊢;have k1:H1 bk=some (.ins aa4 dx (hG "upcoming" (.int 0) (hG "entries" (.ref de) []))):=by rw[<- eH1]; exact aB
 have k2:H1 de=some (.dK []):=by rw[<- eH1,aF (Ne.symm nde),aF (Ne.symm nde)]; exact aB
 have k3:∀b o,H b=some o->b≠bk->H1 b=some o:=λb o e nb=>by
  rw[<- eH1,aF nb,aF nb,aF (λz=>by rw[z,hde]at e; cases e)];exact e
 have ndp:bk≠dp:=λz=>by rw[<- z,k1]at hdp; cases hdp
 have nd2:de≠dp:=λz=>by rw[<- z,k2]at hdp; cases hdp
 have hdp0:H dp=none:=by
  cases e:H dp with
  | none=>rfl
  | some o=>rw[k3 dp o e (Ne.symm ndp)]at hdp; cases hdp
 refine⟨_,rfl,bk,_,dx,_,rfl,by rw[aF ndp]; exact k1,T.cl,T.ap3,(by show 2<1000; decide),?_⟩;refine q de dp _ (λb o e nb=>?_) hde hdp0 ⟨⟨dx,?_⟩,⟨[],?_,trivial⟩,⟨[],?_,by simp only[fV,map_nil,aP]⟩⟩
 ·rw[aF nb,aF (λz=>by rw[z,hdp0]at e; cases e)];exact k3 b o e nb
 ·rw[aB];rfl
 ·rw[aF (Ne.symm nde),aF nd2];exact k2
 ·rw[aF (Ne.symm ndp)];exact aB
def G0(F:Fun K "enter" "Book.enter" Da f fd)(T:‹8›)(ao6:‹16› aa4 "enter_put" 1 ["self","number","body","segment"] (iE aa4 aa3))
  (bg7:‹16› aa4 "enter_deal" 2 ["self","number","many","segment"] (jO aa4 aa3)) (bc7:‹16› aa4 "change_entry" 1 ["self","kind","number"] (qG aa4)):‹14› 3 f fd ["self","row","segment"] (oQ aa4 aa3):=by
 refine F.okY ["self","row","segment","kind","number","body"] λcdv A outer s H vs Q E hr nD0 h=>?_;obtain⟨bk,de,dp,pr,B,k,n,seg,body,rfl,hB,hd,hrow,hl,q,qe⟩:=h;refine⟨_,aA (aX (i:=3) nD0 ⋯ ⋯ ‹20›)
  (aA (aX (i:=4) nD0 ⋯ ⋯ ‹20›)
  (aA (aX (i:=5) nD0 ⋯ ⋯ ‹20›)
  (aC (a8 ‹52›
   (aC (aY (iD K PySem.F.plainAttrs_list PySem.F.slot_list_append PySem.F.type_list_append iP ‹22› ‹26›)))
   (aC (a8 ‹52›
    (aC (aY (cO bg7 T.cl ‹18› bP (pv 0) (aE (pv 4) (aM ‹57› ‹37›)))))
    (aC (a8 (iZ K ‹22›)
     ‹72›
     (aC (a8 ‹52›
      (aC (aY (cO ao6 T.cl ‹18› bP (pv 0) (aE (pv 4) (aE (pv 5) ‹37›)))))
      (aC (a8 ‹52›
       (aC (dS (pv 0) (bF (yL ⋯) ⋯ T.bk1 Ht (gB ‹22› ‹65›)) ⋯))
       (aC (a8 ‹52›
        (aA (fS (hu1 hr.units) ‹22› (pv 4) (bE (aM (f9 (mZ K) (pv 5) (gX aI) jH) (aM ‹57› ‹37›))) ⋯)
        (aC (dS (pv 0) (bF (yL ⋯) ⋯ T.bk1 Ht (gB ‹22› (bQ (bA cU (pv 4) aI) aG))) ⋯)))
        (aC (a8 (nY (Gp (hu1 hr.units) (pv 4) ‹22›))
         (aC (aY (cO bc7 T.cl ‹18› aZ (pv 0) (aE (pv 3) ‹65›))))
         aO)))))))))))))))),?_⟩
 obtain⟨hk,n0,n9,hdeal,hcar,hbl⟩:=xO hrow;obtain⟨dx,h1⟩:=hB.self;obtain⟨kvs,h2,h3⟩:=hB.ent;obtain⟨ps,h4,h5⟩:=hB.par;have hd':=hd;unfold fM at hd';simp only[Den,aP]at hd';obtain⟨t,xt,et,gt,y0,r0,f0,f1,y1,r1,f2,f3,y2,r2,f4,⟨pb,yb,f5,gb,db⟩,f6⟩:=hd';have eb:=bR.mp db;cases et;subst eb f6 f5 f4 f3 f2 f1 f0;have sq:SqT K H pr [.str k,.int n,.ref pb]:=SqT.of gt;have sqb:SqT K H pb (body.map V.int):=SqT.of gb;have lp:ps.length=B.parts.length:=by rw[h5.length]; unfold fV; rw[length_map]
 have hkl:kvs.length<sizeLine:=by rw[h3.len]; exact lt_trans (show _<900 by omega) (by decide)
 refine⟨_,rfl,pr,_,_,_,rfl,rfl,sq,cI (j:=0) rfl,_,rfl,pr,_,_,_,rfl,rfl,sq,cI (j:=1) rfl,_,rfl,pr,_,_,_,rfl,rfl,sq,cI (j:=2) rfl,?_⟩;unfold dF at q qe;refine⟨_,rfl,rfl,_,rfl,?_⟩;by_cases k1:k = "part"
 ·rw[if_pos k1]at q;rw[hX k1];refine aU ?_;refine⟨_,rfl,bk,_,dx,_,_,rfl,h1,T.cl,T.ap3,rfl,.inl ⟨rfl,_,SqL.of h4⟩,_,rfl,dp,_,_,rfl,rfl,h4,by rw[lp]; exact lt_trans (show _<900 by omega) (by decide),?_⟩;refine q _ rfl dp _ LU (.inl rfl) (Ld hB ?_);show aP H (fV (B.parts++[(n,body)])) (ps++[.ref pr]);unfold fV;rw[map_append];refine h5.app (i6 ?_);rw[<- k1];exact hd
 rw[if_neg k1]at q qe;rw[gF k1];refine bB ⟨_,rfl,rfl,_,rfl,?_⟩;by_cases k2:k = "deal"
 ·rw[if_pos k2]at q qe;rw[hX k2];refine aU ?_;obtain⟨b1,b2,b3⟩:=hdeal k2;have at0:atI (body.map V.int) 0=some (.int (body.getD 0 0)):=by
   refine cI (j:=0) ?_;rw[getElem?_map,getD_eq_getElem?_getD,getElem?_eq_getElem (by omega)];rfl
  refine⟨_,rfl,bk,dx,_,rfl,h1,rfl,_,rfl,_,rfl,pb,_,_,_,rfl,rfl,sqb,at0,_,rfl,bk,de,dp,B,n,body.getD 0 0,seg,rfl,hB,n0,n9,by omega,b3,hl,λB' hB' dq H' f' hq h'=>q B' hB' dq H' f' (.inr hq) h',λhn H' f'=>qe hn H' f'⟩
 rw[if_neg k2]at q qe;rw[gF k2];refine bB ?_;refine⟨_,rfl,bk,_,dx,_,_,rfl,h1,T.cl,T.ap3,rfl,dp,ps,rfl,SqL.of h4,?_⟩;by_cases kp:B.parts=[]
 case neg=>
  rw[if_pos kp]at qe;have:(!ps.isEmpty)=true:=by
   cases ps with
   | nil=>
    rw[List.length_nil]at lp;exact absurd (length_eq_zero_iff.mp lp.symm) kp
   | cons _ _=>rfl
  rw[this];exact aU ⟨(by show 1<=sizeLine; decide),qe rfl H (Frm.refl _ _ _ _)⟩
 rw[if_neg (λz=>z kp)]at q qe;have:(!ps.isEmpty)=false:=by
  cases ps with
  | nil=>rfl
  | cons _ _=>
   rw[kp]at lp;simp at lp
 rw[this];refine bB ⟨_,rfl,rfl,_,rfl,?_⟩;by_cases k3:k = "put"
 ·rw[if_pos k3]at q qe;rw[hX k3];refine aU ?_;refine⟨_,rfl,bk,dx,_,rfl,h1,rfl,_,rfl,_,rfl,_,rfl,bk,de,dp,pb,B,n,seg,body,rfl,hB,gb,by omega,λB' hB' H' f' h'=>q B' hB' dp H' f' (.inl rfl) h',λhn H' f'=>qe hn H' f'⟩
 rw[if_neg k3]at q qe;rw[gF k3];refine bB ⟨_,rfl,rfl,_,rfl,?_⟩;by_cases k4:k = "from"
 ·rw[if_pos k4]at q;rw[hX k4];refine aU ?_;refine⟨_,rfl,bk,_,dx,_,_,rfl,h1,T.cl,T.ab7,rfl,_,rfl,_,_,rfl,_,rfl,bk,_,dx,_,rfl,h1,T.cl,T.ab7,(by show 3<1000; decide),?_⟩;exact q _ rfl dp _ AD (.inl rfl) (sV hB (HB B.up n) h4 h5)
 rw[if_neg k4]at q qe;rw[gF k4];refine bB ⟨_,rfl,rfl,_,rfl,?_⟩;by_cases k5:k = "carried"
 ·rw[if_pos k5]at q;rw[hX k5];refine aU ?_;have b1:=hcar k5;have at0:atI (body.map V.int) 0=some (.int (body.getD 0 0)):=by
   refine cI (j:=0) ?_;rw[getElem?_map,getD_eq_getElem?_getD,getElem?_eq_getElem (by omega)];rfl
  refine⟨_,rfl,_,rfl,?_⟩;dsimp only[DI];refine DQ gb λp5 H5 S5 g5=>?_;rw[yJ (by rw[length_map]; exact b1),<- List.map_drop]at g5;refine⟨_,rfl,pb,_,_,_,rfl,rfl,S5.seqT sqb,at0,_,rfl,(by show 3<=sizeLine; decide),λu hu=>?_⟩;have S6:=aD (o:=.tup [.ref p5,.int (body.getD 0 0),.int seg]) hu;generalize eH6:upd H5 u (.tup [.ref p5,.int (body.getD 0 0),.int seg])=H6 at S6 ⊢;have g6:H6 u=some (.tup [.ref p5,.int (body.getD 0 0),.int seg]):=by rw[<- eH6]; exact aB
  have S06:aH H H6:=S5.trans S6;have hE:kK H6 (.ref u) (body.drop 1,body.getD 0 0,seg):=⟨u,p5,rfl,g6,S6 _ _ g5⟩;refine⟨_,rfl,bk,_,dx,_,_,rfl,S06 _ _ h1,T.cl,T.ac3,rfl,_,rfl,de,_,rfl,kP.k (k:=Sum.inl n) (S06 _ _ h2) hkl,?_⟩;have hB7:=vL (hB.same S06) ((h3.t (aH.tup S06)).put (n:=n) hE);have F7:Frm bk de dp H6 (upd H6 de (.dK (eF kvs (Sum.inl n) (.ref u)))):=vA;generalize upd H6 de (.dK (eF kvs (Sum.inl n) (.ref u)))=H7 at hB7 F7 ⊢;obtain⟨dx7,h17⟩:=hB7.self;obtain⟨ps7,h47,h57⟩:=hB7.par;refine⟨_,rfl,bk,_,dx7,_,_,rfl,h17,T.cl,T.ab7,rfl,_,rfl,_,_,rfl,rfl,_,_,rfl,_,rfl,bk,_,dx7,_,rfl,h17,T.cl,T.ab7,(by show 3<1000; decide),?_⟩;exact q _ rfl dp _ (((aH.frm S06).trans F7 (.inl rfl)).trans AD (.inl rfl)) (.inl rfl) (sV hB7 (HB B.up (n+1)) h47 h57)
 rw[if_neg k5]at q qe;rw[gF k5];refine bB ?_;refine⟨_,rfl,_,rfl,bk,_,dx,_,_,rfl,h1,T.cl,T.ac3,rfl,de,_,rfl,cQ.k (k:=Sum.inl n) h2,_,rfl,?_⟩;have hv:=h3.val (n:=n);cases he:bN B.es n with
 | none=>
  rw[he]at hv q;have hv:dE kvs (Sum.inl n)=none:=hv;rw[hv];refine bB ?_;exact q B rfl dp H (Frm.refl _ _ _ _) (.inl rfl) hB
 | some e=>
  rw[he]at hv q;obtain⟨v,hv1,_⟩:=hv;rw[hv1];refine aU ?_;refine⟨_,rfl,bk,dx,_,rfl,h1,rfl,_,rfl,_,rfl,bk,de,dp,B,k,n,e,rfl,hB,he,by omega,λH' f' h'=>?_⟩;refine q _ ?_ dp H' f' (.inl rfl) h'
  try dsimp only
  split
  ·rfl
  ·split <;> rfl
end
abbrev Rw:=Str × Int × Ls
abbrev L8:=List Rw
def cC(r:Rw):PyData:=fM r.1 r.2.1 r.2.2
def dG(seg:Int):Bk->L8->Option Bk
 | B,[]=>some B
 | B,r::rs=>match dF B r.1 r.2.1 r.2.2 seg with
  | none=>none
  | some B'=>dG seg B' rs
def xS(seg:Int):∀{ps:List (Int × Ls)}{B B':Bk},rX seg B ps=some B'->B'.es.length<=B.es.length+ps.length
 | [],B,B',h=>by
  cases (Option.some.inj h:B=B');exact le_refl _
 | p::ps,B,B',h=>by
  unfold rX at h;cases e:mD B p.1 p.2 seg with
  | none=>rw[e]at h; cases h
  | some B1=>
   rw[e]at h;have h1:=xS seg h;unfold mD at e;split at e
   ·cases e
   ·cases (Option.some.inj e);have:=kD B.es p.1 (p.2,0,seg);rw[length_cons];have h1:B'.es.length<=(fG B.es p.1 (p.2,0,seg)).length+ps.length:=h1;omega
def C8(h:dF B k n body seg=some B'):B'.es.length+B'.parts.length<=B.es.length+B.parts.length+1:=by
 unfold dF at h;split at h
 ·cases (Option.some.inj h);show B.es.length+(B.parts++[(n,body)]).length<=_;rw[length_append];exact le_refl _
 ·split at h
  ·unfold yG at h;split at h
   ·have h1:=xS seg h;have h2:=uI seg h;rw[h2];have h1:B'.es.length<=B.es.length+B.parts.length:=h1;show B'.es.length+0<=_;omega
   ·cases h
  ·split at h
   ·cases h
   ·split at h
    ·unfold mD at h;split at h
     ·cases h
     ·cases (Option.some.inj h);have:=kD B.es n (body,0,seg);show (fG B.es n (body,0,seg)).length+B.parts.length<=_;omega
    ·split at h
     ·cases (Option.some.inj h);exact le_succ _
     ·split at h
      ·cases (Option.some.inj h);have:=kD B.es n (body.drop 1,body.getD 0 0,seg);show (fG B.es n (body.drop 1,body.getD 0 0,seg)).length+B.parts.length<=_;omega
      ·split at h
       ·cases (Option.some.inj h);exact le_succ _
       ·rename_i e _;split at h
        ·cases (Option.some.inj h);have:=kD B.es n (e.1,e.2.1+1,e.2.2);show (fG B.es n (e.1,e.2.1+1,e.2.2)).length+B.parts.length<=_;omega
        ·split at h
         ·cases (Option.some.inj h);have:=kD B.es n (e.1,0,e.2.2);show (fG B.es n (e.1,0,e.2.2)).length+B.parts.length<=_;omega
         ·cases (Option.some.inj h);have:(hZ B.es n).length<=B.es.length:=length_filter_le _ _;show (hZ B.es n).length+B.parts.length<=_;omega
def rows_of(h:ds.all bK=true):∃rs:L8,ds=rs.map cC/\∀r∈rs,bK (cC r)=true:=by
 induction ds with
 | nil=>exact⟨[],rfl,λr hr=>absurd hr (by simp)⟩
 | cons d ds ih=>
  rw[all_cons,and_eq_true]at h;obtain⟨rs,e,hr⟩:=ih h.2;have h1:=h.1;have:∃r:Rw,d=cC r:=by
   match d,h1 with
   | .tuple [.str k,.int n,.tuple bs],h1=>
    simp only[bK,and_eq_true]at h1;have hb:bs.all (bO 0 255)=true:=h1.2.2.1;refine⟨(k,n,bM (.tuple bs)),?_⟩;show PyData.tuple [.str k,.int n,.tuple bs] = .tuple [.str k,.int n,.tuple ((bM (.tuple bs)).map .int)];congr 4;have:∀l:Lw,l.all (bO 0 255)=true->l=(bM (.tuple l)).map .int:=by
     intro l hl
     induction l with
     | nil=>rfl
     | cons x l ih=>
      rw[all_cons,and_eq_true]at hl;have:=ih hl.2;cases x with
      | int i=>
       show PyData.int i::l=PyData.int i::(bM (.tuple l)).map .int;rw[<- this]
      | _=>exact absurd hl.1 (by simp [bO])
    exact congrArg PyData.tuple (this bs hb)
   | .tuple [.str k,.int n,.list _],h1=>simp [bK,cW]at h1
   | .tuple [.str k,.int n,.int _],h1=>simp [bK,cW]at h1
   | .tuple [.str k,.int n,.str _],h1=>simp [bK,cW]at h1
   | .tuple [.str k,.int n,.bool _],h1=>simp [bK,cW]at h1
   | .tuple [.str k,.int n,.none],h1=>simp [bK,cW]at h1
   | .tuple [.str k,.int n,.dict _],h1=>simp [bK,cW]at h1
   | .tuple [.str k,.str _,b],h1=>simp [bK,bO]at h1
   | .tuple [.str k,.bool _,b],h1=>simp [bK,bO]at h1
   | .tuple [.str k,.none,b],h1=>simp [bK,bO]at h1
   | .tuple [.str k,.list _,b],h1=>simp [bK,bO]at h1
   | .tuple [.str k,.tuple _,b],h1=>simp [bK,bO]at h1
   | .tuple [.str k,.dict _,b],h1=>simp [bK,bO]at h1
  obtain⟨r,e1⟩:=this;refine⟨r::rs,by rw[map_cons,<- e1,<- e],λx hx=>?_⟩;rcases mem_cons.mp hx with rfl | hx
  ·rw[<- e1];exact h1
  ·exact hr x hx
section
variable{P:Program}{w:World}{K:Ln}{mg:Lp}{base:Heap}{aa9 aa1 aa3 aa4:Addr}
end
def But(pl:Addr)(H H':Hp):Prop:=∀b o,H b=some o->b≠pl->H' b=some o
def But.refl:But pl H H:=λb o e _=>e
def o6(h:Den H (cC r) v):∃t b,v = .ref t/\H t=some (.tup [.str r.1,.int r.2.1,.ref b])/\H b=some (.tup (r.2.2.map V.int)):=by
 unfold cC fM at h;simp only[Den,aP]at h;obtain⟨t,_,rfl,gt,_,_,rfl,rfl,_,_,rfl,rfl,_,_,rfl,⟨b,ys,rfl,gb,hys⟩,rfl⟩:=h;have:=bR.mp hys;subst this;exact⟨t,b,rfl,gt,gb⟩
structure TxtN(K:Ln)(mg:Lp):Prop where
 ad1:mg "len" = none
 ac1:mg "isinstance" = none
 bj0:mg "all" = none
 ax4:mg "sum" = none
 ai4:mg "tuple" = none
 ba5:mg "int" = none
 bj2:mg "bool" = none
 bi9:mg "str" = none
 ai5:mg "range" = none
 af9:mg "enumerate" = none
 as9:mg "list" = none
 ae5:mg "sorted" = none
 ap1:∃t,mg "HIGHEST_BYTE" = some (.int 255 t)
section
variable{P:Program}{w:World}{K:Ln}{mg:Lp}{base:Heap} 
end
abbrev xJ:Stmt:=top 5
abbrev oX:Stmt:=top 60
abbrev nJ:Stmt:=top 61
def cV:Str:="abcdefghijklmnopqrstuvwxyz0123456789"
def inS(signs:Str)(c:Nat):Bool:=!(Builtin.Str.occurrences signs ⟨#[c]⟩ 0 signs.length 1).isEmpty
def pV(x:Str):Bool:=x.cps.all λc=>decide (c<128)
def eT(signs:Str)(l:Int):PyData->Bool
 | .str x=>(decide (1<=(x.length:Int)) && decide ((x.length:Int)<=l)) && x.cps.toList.all (inS signs)
 | _=>false
inductive k8(vs:L6)(H:Hp)(Q:VK)(x_3:XK):Prop
 | mk:∀(v:V)(d:PyData)(signs:Str)(l:Int),vs=[v,.str signs,.int l]->Den H d v->(∀x,d = .str x->x.length<=1000/\pV x=true)->(∀H',aH H H'->Q (.bl (eT signs l d)) H')->k8 vs H Q x_3
structure TxtD(K:Ln)(mg:Lp)(aa2 aa5 ab9 aa6 aa1 ab0 aa7:Addr):Prop extends TxtN K mg where
 bg8:∃t,mg "NAME_SIGNS" = some (.str cV t)
 bc8:∃t,mg "LONGEST_NAME" = some (.int 8 t)
 bg9:∃t,mg "MOST_STEPS" = some (.int 100000 t)
 an2:dO K aa2=true
 bj3:mg "BadName" = some (.ref aa2)
 an3:dO K aa5=true
 bj4:mg "Missing" = some (.ref aa5)
 ax6:dO K ab9=true
 bk5:mg "There" = some (.ref ab9)
 an4:dO K aa6=true
 at4:mg "Stopped" = some (.ref aa6)
 ag4:dO K aa1=true
 bg6:mg "BadRow" = some (.ref aa1)
 ae9:dO K ab0=true
 ax9:mg "BadNumber" = some (.ref ab0)
 cl:Cls K aa7
 af5:dJ K aa7 "files"
 al9:dJ K aa7 "steps_done"
 ad2:dJ K aa7 "steps_ahead"
inductive gT(aa2:Addr)(vs:L6)(H:Hp)(Q:VK)(E:XK):Prop
 | mk:∀(v:V)(d:PyData),vs=[v]->Den H d v->(∀x,d = .str x->x.length<=1000/\pV x=true)->(eT cV 8 d=true->∀H',aH H H'->Q .non H')->(eT cV 8 d=false->∀H',aH H H'->E (.ref aa2) none H')->gT aa2 vs H Q E
def kR:PyData->Bool
 | .none=>true
 | d=>bO 0 100000 d
inductive iW(ab0:Addr)(vs:L6)(H:Hp)(Q:VK)(E:XK):Prop
 | mk:∀(v:V)(d:PyData),vs=[v]->Den H d v->(kR d=true->Q .non H)->(kR d=false->E (.ref ab0) none H)->iW ab0 vs H Q E
section
variable{P:Program}{w:World}{K:Ln}{mg:Lp}{base:Heap}{aa2 aa5 ab9 aa6 aa1 ab0 aa7:Addr}
def Cs(F:Fun K "is_word" "is_word" xJ f fd)(T:TxtN K mg):‹14› 1 f fd ["thing","signs","longest"] k8:=by
 refine F.okY ["thing","signs","longest"] λcdv A outer s H vs Q E hr nD0 h=>?_;obtain⟨v,d,signs,l,rfl,hd,hz,q⟩:=h;refine⟨_,aA (a8 (mC (cR (dH (bF (iQ K) ⋯ T.ac1 eO (aE (pv 0) ‹55›)))) (iY (cR (uK i5 i5 aI (bF AN ⋯ T.ad1 fW ‹34›) (pv 2))))).pt
   ‹61›
   aO)
  (aC (aQ (bF (yN K) ⋯ T.bj0 Hu (dY (dC ["sign"] [("signs",1)] ⋯ (Kz (pv 0)) (λC s2 H2 ex=>(bG (i:=0) (show List.Nodup (["sign","signs"]:Lu) by decide +kernel) ⋯ (Or.inl ⋯))) ‹40› (λC s2 H2 ex=>(gA El (pv 0) (pv 1) ⋯))) aG)))),?_⟩
 refine⟨_,rfl,_,_,_,_,rfl,hd.ty,EA d,_,rfl,?_⟩;cases d with
 | none=>exact aU (aU (q H (aH.refl H)))
 | bool x=>exact aU (aU (q H (aH.refl H)))
 | int x=>exact aU (aU (q H (aH.refl H)))
 | tuple x=>exact aU (aU (q H (aH.refl H)))
 | list x=>exact aU (aU (q H (aH.refl H)))
 | dict x=>exact aU (aU (q H (aH.refl H)))
 | str x=>
 refine bB ?_;obtain⟨z1,z2⟩:=hz x rfl;have e:v = .str x:=by simpa only[Den] using hd
 subst e;have zl:x.length<=sizeLine:=le_trans z1 (by decide);refine⟨_,rfl,x,rfl,zl,_,_,rfl,rfl,_,rfl,?_⟩;simp only[eT]at q;by_cases h1:1<=(x.length:Int)
 case neg=>
  rw[if_neg (by rw[decide_eq_true_eq]; exact h1)];rw[decide_eq_false h1,Bool.false_and,Bool.false_and]at q;exact⟨_,rfl,aU (q H (aH.refl H))⟩
 rw[if_pos (decide_eq_true h1)];rw[decide_eq_true h1,Bool.true_and]at q;refine⟨_,rfl,_,_,rfl,rfl,_,rfl,?_⟩;show if (!decide ((x.length:Int)<=l))=true then _ else _
 by_cases h2:(x.length:Int)<=l
 case neg=>
  rw[decide_eq_false h2]at q ⊢;exact aU (q H (aH.refl H))
 rw[decide_eq_true h2]at q ⊢;rw[Bool.true_and]at q;refine bB ?_;refine cP rfl ?_;refine⟨_,rfl,x,rfl,z2,?_⟩;refine c9 (IT (H:=H) x) zl (λi y _=>∃c,x.cps[i]? = some c/\y = .bl (inS signs c)) (λ_ _ _ _ _ h=>h) (λσ=>∃z,σ = [z,some (.str signs)]) ?z0 ?_ ?_
 case z0=>exact⟨none,rfl⟩
 ·intro i y σc H3 hi hσ s3 hx Q' hQ';obtain⟨z,rfl⟩:=hσ;obtain⟨c,hc,rfl⟩:=hx;refine⟨_,rfl,_,rfl,_,_,rfl,rfl,?_⟩;exact hQ' _ _ _ ⟨_,rfl⟩ (aH.refl _) ⟨c,hc,rfl⟩
 intro D ys H' hD s' hD' hlen hR;have ey:ys=(x.cps.toList.map (inS signs)).map V.bl:=by
  apply ext_getElem?;intro i;cases e:ys[i]? with
  | none=>
   have:ys.length<=i:=List.getElem?_eq_none_iff.mp e;rw[getElem?_eq_none (by rw[length_map,length_map,length_toList]; omega)]
  | some y=>
   obtain⟨c,h1,h2⟩:=hR i y e;rw[getElem?_map,getElem?_map,getElem?_toList,h1,h2];rfl
 refine⟨D,x.cps.toList.map (inS signs),rfl,SqL.of (by rw[hD',ey]),?_⟩;rw[all_map];exact q H' s'
def vU(F:Fun K "check_name" "check_name" oX f fd)(T:‹1›)(ag9:‹15› "is_word" 1 ["thing","signs","longest"] k8):‹14› 2 f fd ["name"] (gT aa2):=by
 obtain⟨_,bg1⟩:=T.bg8;obtain⟨_,ba7⟩:=T.bc8;refine F.okY ["name"] λcdv A outer s H vs Q E hr nD0 h=>?_;obtain⟨v,d,rfl,hd,hz,q,qe⟩:=h;refine⟨_,aC (a8 (cR (dH (bC ag9 ‹18› aZ (aE (pv 0) (aE (cM (v:=.str "abcdefghijklmnopqrstuvwxyz0123456789") ⋯ bg1 ⟨_,rfl⟩) (aE (cM (v:=.int 8) ⋯ ba7 ⟨_,rfl⟩) aG))))))
   (aC (dW eV ⋯ T.an2 ⋯ T.bj3 ‹24›))
   aO),?_⟩
 refine⟨_,rfl,v,d,cV,8,rfl,hd,hz,λH1 S1=>⟨_,rfl,?_⟩⟩;cases hb:eT cV 8 d with
 | false=>exact aU ⟨(by show 1<=sizeLine; decide),qe hb H1 S1⟩
 | true=>exact bB (q hb H1 S1)
def uT(F:Fun K "check_steps" "check_steps" nJ f fd)(T:‹1›)(ab1:‹2›):‹14› 2 f fd ["steps"] (iW ab0):=by
 obtain⟨_,bg2⟩:=T.bg9;refine F.okY ["steps"] λcdv A outer s H vs Q E hr nD0 h=>?_;obtain⟨v,d,rfl,hd,q,qe⟩:=h;refine⟨_,aC (a8 (lF (aR zN (pv 0) jT (bD _)) (iH (cR (dH (bC ab1 ‹18› aZ (aE (pv 0) (aN aI (aE (cM (v:=.int 100000) ⋯ bg2 ⟨_,rfl⟩) aG)))))))).pt
   ‹84›
   aO),?_⟩
 by_cases hv:v = .non
 ·subst hv;have:kR d=true:=by
   cases d with
   | none=>rfl
   | bool b=>simp only[Den]at hd; cases hd
   | int b=>simp only[Den]at hd; cases hd
   | str b=>simp only[Den]at hd; cases hd
   | tuple b=>simp only[Den]at hd; obtain⟨_,_,e,_⟩:=hd; cases e
   | list b=>simp only[Den]at hd; obtain⟨_,_,e,_⟩:=hd; cases e
   | dict b=>simp only[Den]at hd
  exact⟨_,rfl,rfl,_,rfl,bB (bB (q this))⟩
 ·have e:kR d=bO 0 100000 d:=by
   cases d with
   | none=>simp only[Den]at hd; exact absurd hd hv
   | _=>rfl
  rw[e]at q qe;refine⟨_,rfl,rfl,_,rfl,?_⟩;rw[decide_eq_false hv];refine aU ⟨_,rfl,v,d,0,100000,rfl,hd,_,rfl,?_⟩;cases hb:bO 0 100000 d with
  | false=>exact aU ⟨(by show 1<=sizeLine; decide),qe hb⟩
  | true=>exact bB (q hb)
end
structure Dk where
 fs:List (Str × Ls)
 done:Int
 left:Option Int
def J5:Option Int->V
 | none=>.non
 | some n=>.int n
def aW(fs:List (Str × Ls))(n:Str):Option (Ls):=(fs.find? λp=>decide (p.1=n)).map (·.2)
def gN(fs:List (Str × Ls))(n:Str):List (Str × Ls):=fs.filter λp=>decide (p.1≠n)
inductive AF(H:Hp)(v:V)(bs:Ls):Prop
 | mk:∀l,v = .ref l->H l=some (.lst (bs.map V.int))->AF H v bs
def FsR(H:Hp):List (Str × Ls)->Lz->Prop
 | [],[]=>True
 | p::fs,q::kvs=>q.1=Sum.inr p.1/\AF H q.2 p.2/\FsR H fs kvs
 | _,_=>False
def dkF(df:Addr)(done:Int)(left:Option Int):L3:=[("files",.ref df),("steps_done",.int done),("steps_ahead",J5 left)]
structure DiskAt(C:Addr)(H:Hp)(dk df:Addr)(kvs:Lz)(D:Dk):Prop where
 self:∃dx,H dk=some (.ins C dx (dkF df D.done D.left))
 files:H df=some (.dK kvs)
 rel:FsR H D.fs kvs
 nd:(kvs.map (·.2)).Nodup
 kn:(D.fs.map (·.1)).Nodup
def own(dk df:Addr)(kvs:Lz)(b:Addr):Prop:=b=dk\/b=df\/V.ref b∈kvs.map (·.2)
def sE(dk df:Addr)(kvs:Lz)(H H':Hp):Prop:=∀b o,H b=some o->¬ own dk df kvs b->H' b=some o
def Fd(dk df:Addr)(kvs kvs':Lz)(H:Hp):Prop:=∀b,own dk df kvs' b->own dk df kvs b\/H b=none
def FsR.same:∀{fs:List (Str × Ls)}{kvs:Lz},(∀b o,H b=some o->V.ref b∈kvs.map (·.2)->H' b=some o)->FsR H fs kvs->FsR H' fs kvs
 | [],[],_,_=>trivial
 | p::fs,q::kvs,s,h=>by
  obtain⟨h1,⟨l,e,g⟩,h3⟩:=h;exact⟨h1,⟨l,e,s l _ g (by rw[map_cons,e]; exact mem_cons_self)⟩,FsR.same (λb o e m=>s b o e (mem_cons_of_mem _ m)) h3⟩
 | [],_::_,_,h=>h.elim
 | _::_,[],_,h=>h.elim
def FsR.len:∀{fs:List (Str × Ls)}{kvs:Lz},FsR H fs kvs->kvs.length=fs.length
 | [],[],_=>rfl
 | p::fs,q::kvs,h=>by rw[length_cons,length_cons,FsR.len h.2.2]
 | [],_::_,h=>h.elim
 | _::_,[],h=>h.elim
def FsR.keys:∀{fs:List (Str × Ls)}{kvs:Lz},FsR H fs kvs->kvs.map (·.1)=(fs.map (·.1)).map Sum.inr
 | [],[],_=>rfl
 | p::fs,q::kvs,h=>by rw[map_cons,map_cons,map_cons,h.1,FsR.keys h.2.2]
 | [],_::_,h=>h.elim
 | _::_,[],h=>h.elim
def C4:((Sum.inr a:Key)=Sum.inr b) ↔ a=b:=⟨Sum.inr.inj,λh=>by rw[h]⟩
def FsR.val:∀{fs:List (Str × Ls)}{kvs:Lz},FsR H fs kvs->(match aW fs n with | none=>dE kvs (Sum.inr n)=none | some e=>∃v,dE kvs (Sum.inr n)=some v/\AF H v e)
 | [],[],_=>rfl
 | p::fs,q::kvs,h=>by
  obtain⟨h1,h2,h3⟩:=h;have ih:=FsR.val (n:=n) h3;by_cases e:p.1=n
  ·have:aW (p::fs) n=some p.2:=by simp [aW,e]
   rw[this];exact⟨q.2,iR (by rw[h1,e]),h2⟩
  ·have e1:aW (p::fs) n=aW fs n:=by simp [aW,e]
   have e2:dE (q::kvs) (Sum.inr n)=dE kvs (Sum.inr n):=iS (by rw[h1,C4]; exact e);rw[e1,e2];exact ih
 | [],_::_,h=>h.elim
 | _::_,[],h=>h.elim
def o9(h:DiskAt C H dk df kvs D):dk≠df/\V.ref dk ∉ kvs.map (·.2)/\V.ref df ∉ kvs.map (·.2):=by
 have key:∀{fs:List (Str × Ls)}{kvs:Lz},FsR H fs kvs->∀b,V.ref b∈kvs.map (·.2)->∃xs,H b=some (.lst xs):=by
  intro fs
  induction fs with
  | nil=>
   intro kvs hr b hb;cases kvs with
   | nil=>simp at hb
   | cons _ _=>exact hr.elim
  | cons p fs ih=>
   intro kvs hr b hb;cases kvs with
   | nil=>exact hr.elim
   | cons q kvs=>
    obtain⟨_,⟨l,e,g⟩,h3⟩:=hr;rw[map_cons,mem_cons]at hb;rcases hb with hb | hb
    ·rw[e]at hb;cases hb;exact⟨_,g⟩
    ·exact ih h3 b hb
 obtain⟨dx,h1⟩:=h.self;refine⟨?_,λhb=>?_,λhb=>?_⟩
 ·rintro rfl;rw[h.files]at h1;cases h1
 ·obtain⟨xs,e⟩:=key h.rel _ hb;rw[h1]at e;cases e
 ·obtain⟨xs,e⟩:=key h.rel _ hb;rw[h.files]at e;cases e
def qY(h:DiskAt C H dk df kvs D)(done:Int)(left:Option Int):DiskAt C (upd H dk (.ins C dx (dkF df done left))) dk df kvs ⟨D.fs,done,left⟩:=by
 obtain⟨n1,n2,n3⟩:=o9 h;refine⟨⟨dx,aB⟩,by rw[aF (Ne.symm n1)]; exact h.files,h.rel.same λb o e m=>?_,h.nd,h.kn⟩;rw[aF (λz=>by rw[z]at m; exact n2 m)];exact e
def DiskAt.same(h:DiskAt C H dk df kvs D)(s:aH H H'):DiskAt C H' dk df kvs D:=by
 obtain⟨dx,h1⟩:=h.self;exact⟨⟨dx,s _ _ h1⟩,s _ _ h.files,h.rel.same λb o e _=>s b o e,h.nd,h.kn⟩
def iT(D:Dk):Option Dk:=match D.left with
 | none=>some ⟨D.fs,D.done+1,none⟩
 | some n=>if n=0 then none else some ⟨D.fs,D.done+1,some (n - 1)⟩
abbrev oW:Stmt:=bI (top 62) 12
inductive jP(C:Addr)(aa6:Addr)(vs:L6)(H:Hp)(Q:VK)(E:XK):Prop
 | mk:∀(dk df:Addr)(kvs:Lz)(D:Dk),vs=[.ref dk]->DiskAt C H dk df kvs D->(∀D',iT D=some D'->∀H',(∀b o,H b=some o->b≠dk->H' b=some o)->DiskAt C H' dk df kvs D'->Q .non H')->(iT D=none->E (.ref aa6) none H)->jP C aa6 vs H Q E
section
variable{P:Program}{w:World}{K:Ln}{mg:Lp}{base:Heap}{aa2 aa5 ab9 aa6 aa1 ab0 aa7:Addr}
def vT(F:Fun K "count_step" "Disk.count_step" oW f fd)(T:‹1›):‹14› 1 f fd ["self"] (jP aa7 aa6):=by
 refine F.okY ["self"] λcdv A outer s H vs Q E hr nD0 h=>?_;obtain⟨dk,df,kvs,D,rfl,hD,q,qe⟩:=h;refine⟨_,aA (a8 (aR fK ‹22› aI (bD _))
   (aC (dW eV ⋯ T.an4 ⋯ T.at4 ‹24›))
   aO)
  (aA (a8 (aR zN ‹22› jT (bD _))
   (aC (qI (pv 0) aI LQ))
   aO)
  ‹68›),?_⟩
 obtain⟨dx,h1⟩:=hD.self;obtain⟨fs,done,left⟩:=D;unfold iT at q qe;cases left with
 | none=>
  refine⟨_,rfl,dk,_,dx,_,_,rfl,h1,T.cl,T.ad2,rfl,rfl,_,rfl,bB ?_⟩;refine cP rfl ?_;refine⟨_,rfl,dk,_,dx,_,_,rfl,h1,T.cl,T.ad2,rfl,rfl,_,rfl,bB ?_⟩;refine cP rfl ?_;refine⟨_,rfl,dk,_,dx,_,_,rfl,h1,T.cl,T.al9,rfl,_,_,rfl,rfl,dx,_,h1,(by show 3<1000; decide),?_⟩;exact q _ rfl _ (λb o e nb=>by rw[aF nb]; exact e) (qY hD (done+1) none)
 | some n=>
  refine⟨_,rfl,dk,_,dx,_,_,rfl,h1,T.cl,T.ad2,rfl,rfl,_,rfl,?_⟩;by_cases hn:n=0
  ·subst hn;refine aU ?_;exact⟨(by show 1<=sizeLine; decide),qe rfl⟩
  ·have e0:decide (V.int n=V.int 0)=false:=decide_eq_false (λz=>hn (V.int.inj z));show if decide (V.int n=V.int 0)=true then _ else _
   rw[e0];refine bB ?_;refine cP rfl ?_;refine⟨_,rfl,dk,_,dx,_,_,rfl,h1,T.cl,T.ad2,rfl,rfl,_,rfl,aU ?_⟩;refine⟨_,rfl,dk,_,dx,_,_,rfl,h1,T.cl,T.ad2,rfl,_,_,rfl,rfl,dx,_,h1,(by show 3<1000; decide),?_⟩;have h2:=qY (dx:=dx) hD done (some (n - 1));have g2:upd H dk (.ins aa7 dx (dkF df done (some (n - 1)))) dk=some (.ins aa7 dx (dkF df done (some (n - 1)))):=aB;refine⟨_,rfl,dk,_,dx,_,_,rfl,g2,T.cl,T.al9,rfl,_,_,rfl,rfl,dx,_,g2,(by show 3<1000; decide),?_⟩;exact q _ (by dsimp only; rw[if_neg hn]) _ (λb o e nb=>by rw[aF nb,aF nb]; exact e) (qY h2 (done+1) (some (n - 1)))
end
abbrev Db:Stmt:=bI (top 62) 0
abbrev GP:Stmt:=bI (top 62) 2
abbrev GS:Stmt:=bI (top 62) 5
abbrev DV:Stmt:=bI (top 62) 6
abbrev GN:Stmt:=bI (top 62) 7
abbrev GL:Stmt:=bI (top 62) 8
abbrev oZ:Stmt:=bI (top 62) 11
def oA(d:PyData):Prop:=∀x,d = .str x->x.length<=1000/\pV x=true
def AW(h:eT signs l d=true):∃x,d = .str x:=by
 cases d with
 | str x=>exact⟨x,rfl⟩
 | _=>cases h
inductive jQ(C:Addr)(aa2:Addr)(aa5:Addr)(vs:L6)(H:Hp)(Q:VK)(E:XK):Prop
 | mk:∀(dk df:Addr)(kvs:Lz)(D:Dk)(v:V)(d:PyData),vs=[.ref dk,v]->DiskAt C H dk df kvs D->Den H d v->oA d->(eT cV 8 d=false->∀H',aH H H'->E (.ref aa2) none H')->(∀n,d = .str n->eT cV 8 d=true->(aW D.fs n=none->∀H',aH H H'->E (.ref aa5) none H')/\(∀bs,aW D.fs n=some bs->∀H',aH H H'->Q .non H'))->jQ C aa2 aa5 vs H Q E
inductive sJ(C:Addr)(aa2:Addr)(aa5:Addr)(vs:L6)(H:Hp)(Q:VK)(E:XK):Prop
 | mk:∀(dk df:Addr)(kvs:Lz)(D:Dk)(v:V)(d:PyData),vs=[.ref dk,v]->DiskAt C H dk df kvs D->Den H d v->oA d->(eT cV 8 d=false->∀H',aH H H'->E (.ref aa2) none H')->(∀n,d = .str n->eT cV 8 d=true->(aW D.fs n=none->∀H',aH H H'->E (.ref aa5) none H')/\(∀bs,aW D.fs n=some bs->∀p H',aH H H'->H' p=some (.tup (bs.map V.int))->Q (.ref p) H'))->sJ C aa2 aa5 vs H Q E
inductive oM(C:Addr)(aa2:Addr)(aa5:Addr)(vs:L6)(H:Hp)(Q:VK)(E:XK):Prop
 | mk:∀(dk df:Addr)(kvs:Lz)(D:Dk)(v:V)(d:PyData),vs=[.ref dk,v]->DiskAt C H dk df kvs D->Den H d v->oA d->(eT cV 8 d=false->∀H',aH H H'->E (.ref aa2) none H')->(∀n,d = .str n->eT cV 8 d=true->(aW D.fs n=none->∀H',aH H H'->E (.ref aa5) none H')/\(∀bs,aW D.fs n=some bs->∀H',aH H H'->Q (.int (bs.length:Int)) H'))->oM C aa2 aa5 vs H Q E
def J6:PyData->Option Int
 | .int n=>some n
 | _=>none
inductive tP(C:Addr)(ab0:Addr)(vs:L6)(H:Hp)(Q:VK)(E:XK):Prop
 | mk:∀(dk dx:Addr)(v:V)(d:PyData),vs=[.ref dk,v]->H dk=some (.ins C dx [])->Den H d v->(kR d=false->E (.ref ab0) none H)->(kR d=true->∀df H',(∀b o,H b=some o->b≠dk->H' b=some o)->H df=none->DiskAt C H' dk df [] ⟨[],0,J6 d⟩->Q .non H')->tP C ab0 vs H Q E
inductive oP(C:Addr)(aa2:Addr)(ab9:Addr)(aa6:Addr)(vs:L6)(H:Hp)(Q:VK)(E:XK):Prop
 | mk:∀(dk df:Addr)(kvs:Lz)(D:Dk)(v:V)(d:PyData),vs=[.ref dk,v]->DiskAt C H dk df kvs D->Den H d v->oA d->D.fs.length<100000->(eT cV 8 d=false->∀H',aH H H'->E (.ref aa2) none H')->(∀n,d = .str n->eT cV 8 d=true->(∀bs,aW D.fs n=some bs->∀H',aH H H'->E (.ref ab9) none H')/\
  (aW D.fs n=none->(iT D=none->∀H',aH H H'->E (.ref aa6) none H')/\(∀D1,iT D=some D1->∀kvs' H',sE dk df kvs H H'->Fd dk df kvs kvs' H->DiskAt C H' dk df kvs' ⟨D1.fs++[(n,[])],D1.done,D1.left⟩->Q .non H')))->oP C aa2 ab9 aa6 vs H Q E
inductive oR(C:Addr)(aa2:Addr)(aa5:Addr)(aa6:Addr)(vs:L6)(H:Hp)(Q:VK)(E:XK):Prop
 | mk:∀(dk df:Addr)(kvs:Lz)(D:Dk)(v:V)(d:PyData),vs=[.ref dk,v]->DiskAt C H dk df kvs D->Den H d v->oA d->(eT cV 8 d=false->∀H',aH H H'->E (.ref aa2) none H')->(∀n,d = .str n->eT cV 8 d=true->(aW D.fs n=none->∀H',aH H H'->E (.ref aa5) none H')/\
  (∀bs,aW D.fs n=some bs->(iT D=none->∀H',aH H H'->E (.ref aa6) none H')/\(∀D1,iT D=some D1->∀kvs' H',sE dk df kvs H H'->Fd dk df kvs kvs' H->DiskAt C H' dk df kvs' ⟨gN D1.fs n,D1.done,D1.left⟩->Q .non H')))->oR C aa2 aa5 aa6 vs H Q E
def oJ(h:iT D=some D1):D1.fs=D.fs:=by
 unfold iT at h;split at h
 ·cases (Option.some.inj h);rfl
 ·split at h
  ·cases h
  ·cases (Option.some.inj h);rfl
def FsR.snoc(hv:AF H v e):∀{fs:List (Str × Ls)}{kvs:Lz},FsR H fs kvs->FsR H (fs++[(n,e)]) (kvs++[(Sum.inr n,v)])
 | [],[],_=>⟨rfl,hv,trivial⟩
 | p::fs,q::kvs,h=>⟨h.1,h.2.1,FsR.snoc hv h.2.2⟩
 | [],_::_,h=>h.elim
 | _::_,[],h=>h.elim
def FsR.drop:∀{fs:List (Str × Ls)}{kvs:Lz},FsR H fs kvs->FsR H (gN fs n) (eY kvs (Sum.inr n))
 | [],[],_=>trivial
 | p::fs,q::kvs,h=>by
  obtain⟨h1,h2,h3⟩:=h;have ih:=FsR.drop (n:=n) h3;by_cases z:p.1=n
  ·have e1:gN (p::fs) n=gN fs n:=by simp [gN,z]
   rw[e1,yC (by rw[h1,z])];exact ih
  ·have e1:gN (p::fs) n=p::gN fs n:=by simp [gN,z]
   rw[e1,yD (by rw[h1,C4]; exact z)];exact⟨h1,h2,ih⟩
 | [],_::_,h=>h.elim
 | _::_,[],h=>h.elim
def FC(h:aW fs n=none):n ∉ fs.map (·.1):=by
 intro hm;rw[mem_map]at hm;obtain⟨p,hp,rfl⟩:=hm;unfold aW at h;rw[map_eq_none_iff,find?_eq_none]at h;exact h p hp (decide_eq_true rfl)
section
variable{P:Program}{w:World}{K:Ln}{mg:Lp}{base:Heap}{aa2 aa5 ab9 aa6 aa1 ab0 aa7:Addr}
def vW(F:Fun K "check_file" "Disk.check_file" oZ f fd)(T:‹1›)(ae1:‹15› "check_name" 2 ["name"] (gT aa2)):‹14› 3 f fd ["self","name"] (jQ aa7 aa2 aa5):=by
 refine F.okY ["self","name"] λcdv A outer s H vs Q E hr nD0 h=>?_;obtain⟨dk,df,kvs,D,v,d,rfl,hD,hd,hn,qb,q⟩:=h;refine⟨_,aA (aY (bC ae1 ‹18› bP ‹26›))
  (aC (a8 (nY (m6 (hu1 hr.units) (pv 1) ‹22›))
   (aC (dW eV ⋯ T.an3 ⋯ T.bj4 ‹24›))
   aO)),?_⟩
 refine⟨_,rfl,v,d,rfl,hd,hn,λhw H1 S1=>?_,qb⟩;obtain⟨n,rfl⟩:=AW hw;obtain⟨qm,q⟩:=q n rfl hw;have ev:v = .str n:=by simpa only[Den] using hd
 subst ev;obtain⟨dx,h1⟩:=hD.self;refine⟨_,rfl,_,rfl,dk,_,dx,_,_,rfl,S1 _ _ h1,T.cl,T.af5,rfl,df,_,rfl,cQ.k (k:=Sum.inr n) (S1 _ _ hD.files),_,rfl,?_⟩;have hv:=hD.rel.val (n:=n);cases he:aW D.fs n with
 | none=>
  rw[he]at hv;have hv:dE kvs (Sum.inr n)=none:=hv;rw[hv];exact aU ⟨(by show 1<=sizeLine; decide),qm he H1 S1⟩
 | some bs=>
  rw[he]at hv;obtain⟨v,hv1,_⟩:=hv;rw[hv1];exact bB (q bs he H1 S1)
def JA(F:Fun K "read" "Disk.read" GN f fd)(T:‹1›)(ah1:‹5›):‹14› 4 f fd ["self","name"] (sJ aa7 aa2 aa5):=by
 refine F.okY ["self","name"] λcdv A outer s H vs Q E hr nD0 h=>?_;obtain⟨dk,df,kvs,D,v,d,rfl,hD,hd,hn,qb,q⟩:=h;refine⟨_,aA ‹79›
  (aC (aQ (kF (mQ K) ⋯ T.ai4 pT (aM ‹83› aG)))),?_⟩
 obtain⟨dx,h1⟩:=hD.self;refine⟨_,rfl,dk,dx,_,rfl,h1,rfl,_,rfl,dk,df,kvs,D,v,d,rfl,hD,hd,hn,qb,λn en hw=>?_⟩;obtain⟨qm,q2⟩:=q n en hw;subst en;have ev:v = .str n:=by simpa only[Den] using hd
 subst ev;refine⟨qm,λbs hbs H1 S1=>?_⟩;have hv:=hD.rel.val (n:=n);rw[hbs]at hv;obtain⟨v,hv1,l,rfl,gl⟩:=hv;have dg:cQ H1 df (.str n) (some (.ref l)):=by
  have:=cQ.k (k:=Sum.inr n) (S1 _ _ hD.files);rw[hv1]at this;exact this
 refine⟨_,rfl,dk,_,dx,_,_,rfl,S1 _ _ h1,T.cl,T.af5,rfl,_,rfl,df,_,rfl,dg,l,_,rfl,.inl ⟨SqL.of (S1 _ _ gl),λp hp=>?_⟩⟩;exact q2 bs hbs p _ (S1.trans (aD hp)) aB
def Iz(F:Fun K "size" "Disk.size" GL f fd)(T:‹1›)(ah1:‹5›):‹14› 4 f fd ["self","name"] (oM aa7 aa2 aa5):=by
 refine F.okY ["self","name"] λcdv A outer s H vs Q E hr nD0 h=>?_;obtain⟨dk,df,kvs,D,v,d,rfl,hD,hd,hn,qb,q⟩:=h;refine⟨_,aA ‹79›
  (aC (aQ (bF (dD K) ⋯ T.ad1 fW (aM ‹83› aG)))),?_⟩
 obtain⟨dx,h1⟩:=hD.self;refine⟨_,rfl,dk,dx,_,rfl,h1,rfl,_,rfl,dk,df,kvs,D,v,d,rfl,hD,hd,hn,qb,λn en hw=>?_⟩;obtain⟨qm,q2⟩:=q n en hw;subst en;have ev:v = .str n:=by simpa only[Den] using hd
 subst ev;refine⟨qm,λbs hbs H1 S1=>?_⟩;have hv:=hD.rel.val (n:=n);rw[hbs]at hv;obtain⟨v,hv1,l,rfl,gl⟩:=hv;have dg:cQ H1 df (.str n) (some (.ref l)):=by
  have:=cQ.k (k:=Sum.inr n) (S1 _ _ hD.files);rw[hv1]at this;exact this
 refine⟨_,rfl,dk,_,dx,_,_,rfl,S1 _ _ h1,T.cl,T.af5,rfl,_,rfl,df,_,rfl,dg,l,_,rfl,.inl (SqL.of (S1 _ _ gl)),?_⟩;rw[length_map];exact q2 bs hbs H1 S1
def LG(hd:Den H d v)(hs:kR d=true):v=J5 (J6 d):=by
 cases d with
 | none=>simp only[Den]at hd; exact hd
 | int n=>simp only[Den]at hd; exact hd
 | _=>cases hs
def G3(F:Fun K "__init__" "Disk.__init__" Db f fd)(T:‹1›)(ak3:‹15› "check_steps" 2 ["steps"] (iW ab0)):‹14› 3 f fd ["self","steps"] (tP aa7 ab0):=by
 refine F.okY ["self","steps"] λcdv A outer s H vs Q E hr nD0 h=>?_;obtain⟨dk,dx,v,d,rfl,h1,hd,qb,q⟩:=h;refine⟨_,aA (aY (bC ak3 ‹18› bP ‹26›))
  (aA (dS (pv 0) kE ⋯)
  (aA (dS (pv 0) aI ⋯)
  (aC (dS (pv 0) (pv 1) ⋯)))),?_⟩
 refine⟨_,rfl,v,d,rfl,hd,λhs=>?_,qb⟩;have ev:=LG hd hs;subst ev;refine λdf hdf=>?_;have ndf:dk≠df:=λz=>by rw[z,hdf]at h1; cases h1
 refine⟨_,rfl,dk,_,dx,_,rfl,by rw[aF ndf]; exact h1,T.cl,T.af5,(by show 0<1000; decide),?_⟩;refine⟨_,rfl,dk,_,dx,_,rfl,aB,T.cl,T.al9,(by show 1<1000; decide),?_⟩;refine⟨_,rfl,_,rfl,dk,_,dx,_,rfl,aB,T.cl,T.ad2,(by show 2<1000; decide),?_⟩;refine q hs df _ (λb o e nb=>?_) hdf ⟨⟨dx,?_⟩,?_,trivial,nodup_nil,nodup_nil⟩
 ·rw[aF nb,aF nb,aF nb,aF (λz=>by rw[z,hdf]at e; cases e)];exact e
 ·rw[aB];rfl
 ·rw[aF (Ne.symm ndf),aF (Ne.symm ndf),aF (Ne.symm ndf)];exact aB
def JC(F:Fun K "make" "Disk.make" GP f fd)(T:‹1›)(ae1:‹15› "check_name" 2 ["name"] (gT aa2))(al8:‹11›):‹14› 3 f fd ["self","name"] (oP aa7 aa2 ab9 aa6):=by
 refine F.okY ["self","name"] λcdv A outer s H vs Q E hr nD0 h=>?_;obtain⟨dk,df,kvs,D,v,d,rfl,hD,hd,hn,hl,qb,q⟩:=h;refine⟨_,aA (aY (bC ae1 ‹18› bP ‹26›))
  (aA (a8 (nY (Gp (hu1 hr.units) (pv 1) ‹22›))
   (aC (dW eV ⋯ T.ax6 ⋯ T.bk5 ‹24›))
   aO)
  (aA ‹59›
  (aC (fS (hu1 hr.units) ‹22› (pv 1) (cD aG) ⋯)))),?_⟩
 refine⟨_,rfl,v,d,rfl,hd,hn,λhw H1 S1=>?_,qb⟩;obtain⟨n,rfl⟩:=AW hw;obtain⟨qt,q2⟩:=q n rfl hw;have ev:v = .str n:=by simpa only[Den] using hd
 subst ev;have hD1:=hD.same S1;obtain⟨dx,h1⟩:=hD1.self;refine⟨_,rfl,_,rfl,dk,_,dx,_,_,rfl,h1,T.cl,T.af5,rfl,df,_,rfl,cQ.k (k:=Sum.inr n) hD1.files,_,rfl,?_⟩;have hv:=hD1.rel.val (n:=n);cases he:aW D.fs n with
 | some bs=>
  rw[he]at hv;obtain⟨v,hv1,_⟩:=hv;rw[hv1];exact aU ⟨(by show 1<=sizeLine; decide),qt bs he H1 S1⟩
 | none=>
  rw[he]at hv;have hv:dE kvs (Sum.inr n)=none:=hv;rw[hv];refine bB ?_;refine cP rfl ?_;obtain⟨qs,q3⟩:=q2 he;refine⟨_,rfl,dk,dx,_,rfl,h1,rfl,dk,df,kvs,D,rfl,hD1,λD1 hs H2 f2 hD2=>?_,λhs=>qs hs H1 S1⟩;refine⟨(by show 0<=sizeLine; decide),λl hl3=>?_⟩;have S3:=aD (o:=.lst []) hl3;generalize eH3:upd H2 l (.lst [])=H3 at S3 ⊢;have g3:H3 l=some (.lst []):=by rw[<- eH3]; exact aB
  have hD3:=hD2.same S3;obtain⟨dx3,h13⟩:=hD3.self;have hkl:kvs.length<sizeLine:=by rw[hD.rel.len]; exact lt_trans hl (by decide)
  refine⟨_,rfl,dk,_,dx3,_,_,rfl,h13,T.cl,T.af5,rfl,_,rfl,df,_,rfl,kP.k (k:=Sum.inr n) hD3.files hkl,?_⟩;have epk:eF kvs (Sum.inr n) (V.ref l)=kvs++[(Sum.inr n,V.ref l)]:=Gd _ hv;rw[epk];obtain⟨o1,o2,o3⟩:=o9 hD3;have nlm:V.ref l ∉ kvs.map (·.2):=λhm=>by
   have:∀{fs:List (Str × Ls)}{kvs:Lz},FsR H2 fs kvs->V.ref l∈kvs.map (·.2)->H2 l≠none:=by
    intro fs
    induction fs with
    | nil=>
     intro kvs hr hb;cases kvs with
     | nil=>simp at hb
     | cons _ _=>exact hr.elim
    | cons p fs ih=>
     intro kvs hr hb;cases kvs with
     | nil=>exact hr.elim
     | cons q kvs=>
      obtain⟨_,⟨l',e,g⟩,h3⟩:=hr;rw[map_cons,mem_cons]at hb;rcases hb with hb | hb
      ·rw[e]at hb;cases hb;rw[g];exact λz=>by cases z
      ·exact ih h3 hb
   exact this hD2.rel hm hl3
  have ldf:l≠df:=λz=>by rw[z,hD2.files]at hl3; cases hl3
  have hl0:H l=none:=by
   cases e:H l with
   | none=>rfl
   | some o=>
    have ldk:l≠dk:=λz=>by
     obtain⟨dx2,h12⟩:=hD2.self;rw[z,h12]at hl3;cases hl3
    rw[f2 l o (S1 _ _ e) ldk]at hl3;cases hl3
  refine q3 D1 hs (kvs++[(Sum.inr n,V.ref l)]) _ (λb o e nb=>?_) (λb hb=>?_) ⟨⟨dx3,by rw[aF o1]; exact h13⟩,aB,?_,?_,?_⟩
  ·have nb1:b≠dk:=λz=>nb (.inl z);have nb2:b≠df:=λz=>nb (.inr (.inl z));rw[aF nb2];exact S3 _ _ (f2 b o (S1 _ _ e) nb1)
  ·rcases hb with hb | hb | hb
   ·exact .inl (.inl hb)
   ·exact .inl (.inr (.inl hb))
   ·rw[map_append,mem_append]at hb;rcases hb with hb | hb
    ·exact .inl (.inr (.inr hb))
    ·have:b=l:=by simpa using hb
     subst this;exact .inr hl0
  ·refine(hD3.rel.same λb o e m=>?_).snoc ⟨l,rfl,by rw[aF ldf]; exact g3⟩;rw[aF (λz=>by rw[z]at m; exact o3 m)];exact e
  ·rw[map_append,nodup_append];refine⟨hD.nd,by simp,?_⟩;intro a ha b hb;have:b=V.ref l:=by simpa using hb
   subst this;rintro rfl;exact nlm ha
  ·show ((D1.fs++[(n,([]:Ls))]).map (·.1)).Nodup;rw[map_append,nodup_append,oJ hs];refine⟨hD.kn,by simp,?_⟩;intro a ha b hb;have:b=n:=by simpa using hb
   subst this;rintro rfl;exact FC he ha
end
abbrev Jx:Stmt:=bI (top 62) 3
abbrev Jw:Stmt:=bI (top 62) 4
def fA(fs:List (Str × Ls))(n:Str)(e:Ls):List (Str × Ls):=fs.map λp=>if p.1=n then (p.1,e) else p
def m5(fs:List (Str × Ls))(n:Str)(e:Ls):(fA fs n e).map (·.1)=fs.map (·.1):=by
 unfold fA;rw[map_map];apply map_congr_left;intro p _;show (if p.1=n then (p.1,e) else p).1=p.1;split <;> rfl
def DR(h:n ∉ fs.map (·.1)):fA fs n e=fs:=by
 unfold fA;have:fs.map (λp=>if p.1=n then (p.1,e) else p)=fs.map id:=by
  apply map_congr_left;intro p hp;rw[if_neg (λz=>h (by rw[<- z]; exact mem_map_of_mem hp))];rfl
 rw[this,List.map_id]
def wS(h:aW fs n=some bs):aW (fA fs n e) n=some e:=by
 induction fs with
 | nil=>cases h
 | cons p fs ih=>
  unfold fA;rw[map_cons];by_cases z:p.1=n
  ·rw[if_pos z];simp [aW,z]
  ·rw[if_neg z];have h':aW fs n=some bs:=by simpa [aW,z] using h
   have:=ih h';unfold fA at this;simpa [aW,z] using this
def DF{kvs:Lz}{k:Key}{v:V}(h:dE kvs k=some v):v∈kvs.map (·.2):=by
 unfold dE at h;rw[Option.map_eq_some_iff]at h;obtain⟨p,hp,rfl⟩:=h;exact mem_map_of_mem (List.mem_of_find?_eq_some hp)
def FsR.wr{H:Hp}{n:Str}{l:Addr}{e:Ls}:∀{fs:List (Str × Ls)}{kvs:Lz},FsR H fs kvs->(kvs.map (·.2)).Nodup->(fs.map (·.1)).Nodup->dE kvs (Sum.inr n)=some (.ref l)->FsR (upd H l (.lst (e.map V.int))) (fA fs n e) kvs
 | [],[],_,_,_,h=>by cases h
 | p::fs,q::kvs,h,nd,kn,hv=>by
  obtain⟨h1,⟨l',e',g⟩,h3⟩:=h;rw[map_cons,nodup_cons]at nd kn;by_cases z:p.1=n
  ·have e1:dE (q::kvs) (Sum.inr n)=some q.2:=iR (by rw[h1,z]);rw[e1]at hv;have hq:q.2=V.ref l:=Option.some.inj hv;have es:fA (p::fs) n e=(p.1,e)::fs:=by
    show (if p.1=n then (p.1,e) else p)::fA fs n e=_;rw[if_pos z,DR (by rw[<- z]; exact kn.1)]
   rw[es];refine⟨h1,⟨l,hq,aB⟩,h3.same λb o eb m=>?_⟩;rw[aF (λy=>by rw[y,<- hq]at m; exact nd.1 m)];exact eb
  ·have e1:dE (q::kvs) (Sum.inr n)=dE kvs (Sum.inr n):=iS (by rw[h1,C4]; exact z);rw[e1]at hv;have es:fA (p::fs) n e=p::fA fs n e:=by
    show (if p.1=n then (p.1,e) else p)::fA fs n e=_;rw[if_neg z]
   rw[es];have nl:l'≠l:=λy=>by
    subst y;exact nd.1 (by rw[e']; exact DF hv)
   exact⟨h1,⟨l',e',by rw[aF nl]; exact g⟩,FsR.wr h3 nd.2 kn.2 hv⟩
 | [],_::_,h,_,_,_=>h.elim
 | _::_,[],h,_,_,_=>h.elim
def Fb(hd:Den H d v)(hb:cW d=true):∃a bs,d = .tuple bs/\v = .ref a/\H a=some (.tup ((bM d).map V.int))/\(bM d).length=bs.length:=by
 cases d with
 | tuple bs=>
  simp only[Den]at hd;obtain⟨a,ys,rfl,ha,hbs⟩:=hd;have ei:=mR hbs hb;subst ei;exact⟨a,bs,rfl,rfl,ha,length_map _⟩
 | _=>exact absurd hb (by simp [cW])
def sD(n:Str):Dk->Ls->Dk × Bool
 | D,[]=>(D,true)
 | D,b::bs=>match iT D with
  | none=>(D,false)
  | some D1=>sD n ⟨fA D1.fs n ((aW D1.fs n).getD []++[b]),D1.done,D1.left⟩ bs
inductive zD(C:Addr)(aa2:Addr)(aa5:Addr)(aa1:Addr)(aa6:Addr)(vs:L6)(H:Hp)(Q:VK)(E:XK):Prop
 | mk:∀(dk df:Addr)(kvs:Lz)(D:Dk)(v v2:V)(d d2:PyData),vs=[.ref dk,v,v2]->DiskAt C H dk df kvs D->Den H d v->oA d->Den H d2 v2->(∀bs,d2 = .tuple bs->bs.length<=100000)->(∀n bs,aW D.fs n=some bs->bs.length<=100000)->(eT cV 8 d=false->∀H',aH H H'->E (.ref aa2) none H')->(∀n,d = .str n->eT cV 8 d=true->(aW D.fs n=none->∀H',aH H H'->E (.ref aa5) none H')/\
  (∀bs,aW D.fs n=some bs->(cW d2=false->∀H',aH H H'->E (.ref aa1) none H')/\(cW d2=true->∀H',sE dk df kvs H H'->DiskAt C H' dk df kvs (sD n D (bM d2)).1->((sD n D (bM d2)).2=true->Q .non H')/\((sD n D (bM d2)).2=false->E (.ref aa6) none H'))))->zD C aa2 aa5 aa1 aa6 vs H Q E
section
variable{P:Program}{w:World}{K:Ln}{mg:Lp}{base:Heap}{aa2 aa5 ab9 aa6 aa1 ab0 aa7:Addr}
def JF(F:Fun K "drop" "Disk.drop" GS f fd)(T:‹1›)(ah1:‹5›)(al8:‹11›):‹14› 4 f fd ["self","name"] (oR aa7 aa2 aa5 aa6):=by
 refine F.okY ["self","name"] λcdv A outer s H vs Q E hr nD0 h=>?_;obtain⟨dk,df,kvs,D,v,d,rfl,hD,hd,hn,qb,q⟩:=h;refine⟨_,aA ‹79›
  (aA ‹59›
  (aC (aY (iD K PySem.F.plainAttrs_dict PySem.F.slot_dict_pop PySem.F.type_dict_pop pC ‹22› ‹26›)))),?_⟩
 obtain⟨dx,h1⟩:=hD.self;refine⟨_,rfl,dk,dx,_,rfl,h1,rfl,_,rfl,dk,df,kvs,D,v,d,rfl,hD,hd,hn,qb,λn en hw=>?_⟩;obtain⟨qm,q2⟩:=q n en hw;subst en;have ev:v = .str n:=by simpa only[Den] using hd
 subst ev;refine⟨qm,λbs hbs H1 S1=>?_⟩;obtain⟨qs,q3⟩:=q2 bs hbs;have hD1:=hD.same S1;refine⟨_,rfl,dk,dx,_,rfl,S1 _ _ h1,rfl,dk,df,kvs,D,rfl,hD1,λD1 hs H2 f2 hD2=>?_,λhs=>qs hs H1 S1⟩;obtain⟨dx2,h12⟩:=hD2.self;have hv:=hD2.rel.val (n:=n);rw[oJ hs,hbs]at hv;obtain⟨v,hv1,_⟩:=hv;refine⟨_,rfl,dk,_,dx2,_,_,rfl,h12,T.cl,T.af5,rfl,.inr (.inr (.inl ⟨rfl,.inl ⟨kvs,hD2.files⟩⟩)),_,rfl,df,kvs,Sum.inr n,_,rfl,rfl,hD2.files,hv1,?_⟩;obtain⟨o1,o2,o3⟩:=o9 hD2;have sub:(eY kvs (Sum.inr n)).Sublist kvs:=filter_sublist;have subf:(gN D1.fs n).Sublist D1.fs:=filter_sublist;refine q3 D1 hs (eY kvs (Sum.inr n)) _ (λb o e nb=>?_) (λb hb=>?_) ⟨⟨dx2,by rw[aF o1]; exact h12⟩,aB,?_,?_,?_⟩
 ·rw[aF (λz=>nb (.inr (.inl z)))];exact f2 b o (S1 _ _ e) (λz=>nb (.inl z))
 ·rcases hb with hb | hb | hb
  ·exact .inl (.inl hb)
  ·exact .inl (.inr (.inl hb))
  ·exact .inl (.inr (.inr ((sub.map _).subset hb)))
 ·refine(hD2.rel.drop (n:=n)).same λb o e m=>?_;rw[aF (λz=>by rw[z]at m; exact o3 ((sub.map _).subset m))];exact e
 ·exact hD2.nd.sublist (sub.map _)
 ·exact hD2.kn.sublist (subf.map _)
def K9{f:Addr}{fd:Lx}(F:Fun K "add" "Disk.add" Jx f fd)(T:‹1›)(ac8:‹15› "is_bytes" 2 ["thing"] gZ)(ah1:‹5›)(al8:‹11›):‹14› 4 f fd ["self","name","some"] (zD aa7 aa2 aa5 aa1 aa6):=by
 refine F.okY ["self","name","some","one"] λcdv A outer s H vs Q E hr nD0 h=>?_;obtain⟨dk,df,kvs,D,v,v2,d,d2,rfl,hD,hd,hn,hd2,hz2,hzf,qb,q⟩:=h;refine⟨_,aA ‹79›
  (aA (a8 (cR (dH (bC ac8 ‹18› aZ ‹37›)))
   ‹86›
   aO)
  (aC (fZ (lW eJ) ⋯ (zL K (pv 2)) ‹53›
   (aA ‹59›
   (aC (aY (iD K PySem.F.plainAttrs_list PySem.F.slot_list_append PySem.F.type_list_append iP ‹83› ‹47›))))))),?_⟩
 obtain⟨dx,h1⟩:=hD.self;refine⟨_,rfl,dk,dx,_,rfl,h1,rfl,_,rfl,dk,df,kvs,D,v,d,rfl,hD,hd,hn,qb,λn en hw=>?_⟩;obtain⟨qm,q2⟩:=q n en hw;subst en;have ev:v = .str n:=by simpa only[Den] using hd
 subst ev;refine⟨qm,λbs hbs H1 S1=>?_⟩;obtain⟨qr,q3⟩:=q2 bs hbs;refine⟨_,rfl,v2,d2,rfl,hd2.same S1,λds e=>le_trans (hz2 ds e) (by decide),λH2 S2=>⟨_,rfl,?_⟩⟩;have S02:aH H H2:=S1.trans S2;cases hb:cW d2 with
 | false=>exact aU ⟨(by show 1<=sizeLine; decide),qr hb H2 S02⟩
 | true=>
 refine bB ?_;refine cP rfl ?_;have q4:=q3 hb;have hD2:=hD.same S02;obtain⟨a2,bs2,rfl,rfl,ga2,l2⟩:=Fb hd2 hb;have z2:=hz2 bs2 rfl;have zf:=hzf n bs hbs;generalize bM (.tuple bs2)=ns at ga2 l2 q4;have ga:H2 a2=some (.tup (ns.map V.int)):=S02 _ _ ga2;refine⟨_,rfl,a2,rfl,⟨_,SqT.of ga⟩,?_⟩;have sq0:SqT K (λa=>if a=a2 then some (.tup (ns.map V.int)) else none) a2 (ns.map V.int):=SqT.of (if_pos rfl);have lm:(ns.map V.int).length=ns.length:=length_map _;have na:¬ own dk df kvs a2:=by
  rintro (z | z | z)
  ·obtain⟨dx2,h12⟩:=hD2.self;rw[z,h12]at ga;cases ga
  ·rw[z,hD2.files]at ga;cases ga
  ·have key:∀{fs:List (Str × Ls)}{kvs:Lz},FsR H2 fs kvs->V.ref a2∈kvs.map (·.2)->∃xs,H2 a2=some (.lst xs):=by
    intro fs
    induction fs with
    | nil=>
     intro kvs hr hb;cases kvs with
     | nil=>simp at hb
     | cons _ _=>exact hr.elim
    | cons p fs ih=>
     intro kvs hr hb;cases kvs with
     | nil=>exact hr.elim
     | cons q kvs=>
      obtain⟨_,⟨l',e,g⟩,h3⟩:=hr;rw[map_cons,mem_cons]at hb;rcases hb with hb | hb
      ·rw[e]at hb;cases hb;exact⟨_,g⟩
      ·exact ih h3 hb
   obtain⟨xs,e⟩:=key hD2.rel z;rw[ga]at e;cases e
 refine gC (H0:=λa=>if a=a2 then some (.tup (ns.map V.int)) else none) (sI (K:=K) sq0) (λi σ H'=>H' a2=some (.tup (ns.map V.int))/\sE dk df kvs H H'/\∃Di bsi z3,DiskAt aa7 H' dk df kvs Di/\aW Di.fs n=some bsi/\bsi.length<=bs.length+i/\sD n D ns=sD n Di (ns.drop i)/\σ = [some (.ref dk),some (.str n),some (.ref a2),z3]) ?i0 ?kp ?_ ?_
 case i0=>exact⟨ga,λb o e _=>S02 b o e,D,bs,none,hD2,hbs,le_refl _,rfl,rfl⟩
 case kp=>
  intro i σ H' h b o e;by_cases z:b=a2
  ·subst z;have e:some (HO.tup (ns.map V.int))=some o:=by simpa using e
   rw[<- e];exact h.1
  ·have e:none=some o:=by simpa [z] using e
   cases e
 ·rintro i x σ H5 H6 hi ⟨g5,f5,Di,bsi,z3,hDi,hlk,hlen,hadd,rfl⟩ s6 hx;rw[lm]at hi;rw[getElem?_map,getElem?_eq_getElem hi]at hx;cases hx;rw[List.drop_eq_getElem_cons hi]at hadd;have hD6:=hDi.same s6;obtain⟨dx6,h16⟩:=hD6.self;have f6:sE dk df kvs H H6:=λb o e nb=>s6 _ _ (f5 b o e nb);refine⟨_,rfl,dk,dx6,_,rfl,h16,rfl,dk,df,kvs,Di,rfl,hD6,λD1 hs H7 f7 hD7=>?_,λhs=>?_⟩
  ·obtain⟨dx7,h17⟩:=hD7.self;have hv:=hD7.rel.val (n:=n);rw[oJ hs,hlk]at hv;obtain⟨v7,hv1,l,rfl,gl⟩:=hv;have dg:cQ H7 df (.str n) (some (.ref l)):=by
    have:=cQ.k (k:=Sum.inr n) hD7.files;rw[hv1]at this;exact this
   refine⟨_,rfl,dk,_,dx7,_,_,rfl,h17,T.cl,T.af5,rfl,_,rfl,df,_,rfl,dg,.inl ⟨rfl,_,SqL.of gl⟩,_,rfl,l,_,_,rfl,rfl,gl,?_,?_⟩
   ·rw[length_map];exact lt_of_le_of_lt (show _<=200000 by omega) (by decide)
   have hlm:=DF hv1;have em:bsi.map V.int++[V.int ns[i]]=(bsi++[ns[i]]).map V.int:=by rw[map_append]; rfl
   rw[em];obtain⟨o1,o2,o3⟩:=o9 hD7;have nl:a2≠l:=λz=>na (.inr (.inr (by rw[z]; exact hlm)));have nk:a2≠dk:=λz=>na (.inl z);refine⟨?_,λb o e nb=>?_,⟨fA D1.fs n (bsi++[ns[i]]),D1.done,D1.left⟩,bsi++[ns[i]],_,⟨⟨dx7,?_⟩,?_,hD7.rel.wr hD7.nd hD7.kn hv1,hD7.nd,?_⟩,?_,?_,?_,rfl⟩
   ·rw[aF nl];exact f7 _ _ (s6 _ _ g5) nk
   ·rw[aF (λz=>nb (.inr (.inr (by rw[z]; exact hlm))))];exact f7 _ _ (f6 b o e nb) (λz=>nb (.inl z))
   ·rw[aF (λz=>by rw[<- z]at hlm; exact o2 hlm)];exact h17
   ·rw[aF (λz=>by rw[<- z]at hlm; exact o3 hlm)];exact hD7.files
   ·show ((fA D1.fs n (bsi++[ns[i]])).map (·.1)).Nodup;rw[m5];exact hD7.kn
   ·show aW (fA D1.fs n (bsi++[ns[i]])) n=_;rw[oJ hs];exact wS hlk
   ·rw[length_append];show bsi.length+1<=_;omega
   ·rw[hadd];show (match iT Di with | none=>(Di,false) | some D1=>sD n ⟨fA D1.fs n ((aW D1.fs n).getD []++[ns[i]]),D1.done,D1.left⟩ (ns.drop (i+1)))=_;rw[hs]
    try dsimp only
    rw[oJ hs,hlk];rfl
  ·have e1:sD n D ns=(Di,false):=by
    rw[hadd];show (match iT Di with | none=>(Di,false) | some D1=>sD n ⟨fA D1.fs n ((aW D1.fs n).getD []++[ns[i]]),D1.done,D1.left⟩ (ns.drop (i+1)))=_;rw[hs]
   rw[e1]at q4;exact(q4 H6 f6 hD6).2 rfl
 ·rintro σ H5 ⟨g5,f5,Di,bsi,z3,hDi,hlk,hlen,hadd,rfl⟩;rw[lm,List.drop_of_length_le (le_refl _)]at hadd;have e1:sD n D ns=(Di,true):=hadd;rw[e1]at q4;exact(q4 H5 f5 hDi).1 rfl
end
def vE:∀{fs:List (Str × Ls)}{kvs:Lz},FsR H fs kvs->∀{b:Addr},V.ref b∈kvs.map (·.2)->∃xs,H b=some (.lst xs)
 | [],[],_,b,h=>by simp at h
 | p::fs,q::kvs,hr,b,hb=>by
  obtain⟨_,⟨l',e,g⟩,h3⟩:=hr;rw[map_cons,mem_cons]at hb;rcases hb with hb | hb
  ·rw[e]at hb;cases hb;exact⟨_,g⟩
  ·exact vE h3 hb
 | [],_::_,h,_,_=>h.elim
 | _::_,[],h,_,_=>h.elim
section
variable{P:Program}{w:World}{K:Ln}{mg:Lp}{base:Heap}{aa2 aa5 ab9 aa6 aa1 ab0 aa7:Addr}
end
structure Ad where
 cT:Addr
 badRow:Addr
 broken:Addr
 book:Addr
 badName:Addr
 missing:Addr
 there:Addr
 stopped:Addr
 badNumber:Addr
 disk:Addr
 queue:Addr
 badSettings:Addr
 badBody:Addr
 badHand:Addr
 notHeld:Addr
structure TxtQ(K:Ln)(mg:Lp)(A:Ad):Prop where
 ad1:mg "len" = none
 ba5:mg "int" = none
 ae5:mg "sorted" = none
 ax4:mg "sum" = none
 af4:dO K A.broken=true
 ba0:mg "Broken" = some (.ref A.broken)
 ac5:Cls K A.book
 ad3:Cls K A.disk
 aa0:Cls K A.queue
 bk7:mg "min" = none
 bc9:∃t,mg "LARGEST_MOST" = some (.int 2000 t)
 bd0:∃t,mg "LONGEST_HOLD" = some (.int 99 t)
 ba8:∃t,mg "HIGHEST_TRIES" = some (.int 9 t)
 bh0:∃t,mg "HAND_SIGNS" = some (.str "abcdefghijklmnopqrstuvwxyz" t)
 bd1:∃t,mg "LONGEST_HAND" = some (.int 6 t)
 ad0:∃t,mg "HIGHEST_NUMBER" = some (.int 999999 t)
 ah2:∃t,mg "HIGHEST_TIMES" = some (.int 9 t)
 ag2:dO K A.badSettings=true
 bf9:mg "BadSettings" = some (.ref A.badSettings)
 aj6:dO K A.badBody=true
 be5:mg "BadBody" = some (.ref A.badBody)
 an5:dO K A.badHand=true
 bj5:mg "BadHand" = some (.ref A.badHand)
 aj7:dO K A.notHeld=true
 be6:mg "NotHeld" = some (.ref A.notHeld)
 ab7:dJ K A.book "upcoming"
 ap4:dJ K A.queue "disk"
 bj6:dJ K A.queue "most"
 bj7:dJ K A.queue "hold"
 bd2:dJ K A.queue "tries"
 ad8:dJ K A.queue "book"
 ai7:dJ K A.queue "first"
 aj8:dJ K A.queue "last"
 an6:dJ K A.queue "writing"
 ac4:dJ K A.queue "holders"
 ba9:dJ K A.queue "now"
 ac1:mg "isinstance" = none
 ai4:mg "tuple" = none
 af9:mg "enumerate" = none
 ai5:mg "range" = none
 as9:mg "list" = none
 ai6:∃t,mg "LARGEST_DEAL" = some (.int 9 t)
 ae9:dO K A.badNumber=true
 ax9:mg "BadNumber" = some (.ref A.badNumber)
def bJ(n:Int):Str:=("s" : Str)++Str.ofString (toString n)
abbrev l9:Stmt:=top 48
abbrev oU:Stmt:=top 49
def eX(n:Int):Prop:=0<=n/\n<10000000
def Dv(h:eX n):1<=(Str.ofString (toString n)).length/\(Str.ofString (toString n)).length<=7:=⟨PySem.W.KLn.one_le h.1,PyProof.Rows.toString_length_le h.1 (by decide) h.2⟩
def HR(m:Nat):Builtin.Str.strSliceIndices (some 1) none 1 (m+1)=(List.range m).map (· + 1):=by
 have e1:Builtin.Str.strSliceIndices (some 1) none 1 (m+1)=sliceRange (max 0 (min 1 ((m+1:Nat):Int))) ((m+1:Nat):Int) 1:=rfl;have e2:(max 0 (min 1 ((m+1:Nat):Int)):Int)=1:=by omega
 rw[e1,e2];unfold sliceRange;simp only[show (1:Int) > 0 by decide,if_true];have e3:(if (1:Int)<((m+1:Nat):Int) then (((m+1:Nat):Int) - 1+1 - 1) / 1 else 0)=(m:Int):=by
  split <;> omega
 rw[e3,Int.toNat_natCast];apply map_congr_left;intro k _;omega
def CJ(c:Nat):∀cs:List Nat,((List.range cs.length).map (· + 1)).filterMap (λi=>(c::cs)[i]?)=cs
 | cs=>by
  rw[List.filterMap_map];have:((λi=>(c::cs)[i]?) ∘ λx=>x+1)=λi=>cs[i]?:=by
   funext i;rfl
  rw[this];apply ext_getElem?;intro i;have key:∀(l:List Nat)(k:Nat),k<=l.length->(List.range k).filterMap (λi=>l[i]?)=l.take k:=by
   intro l k
   induction k with
   | zero=>intro _; rfl
   | succ k ih=>
    intro hk;rw[List.range_succ,List.filterMap_append,ih (by omega),take_succ,getElem?_eq_getElem (by omega)];simp [getElem?_eq_getElem (show k<l.length by omega)]
  rw[key cs cs.length (le_refl _),take_length]
def CO(h:x.cps.toList=c::cs):Txt.slice x (some 1) none=⟨cs.toArray⟩:=by
 have hl:x.length=cs.length+1:=by
  show x.cps.size=_;rw[<- length_toList,h];rfl
 unfold Txt.slice;rw[hl,HR,if_neg (by simp)];have e:(λi:Nat=>x.cps[i]?)=λi=>(c::cs)[i]?:=by
  funext i;rw[<- getElem?_toList,h]
 rw[e,CJ]
def Cu{n:Int}(h:0<=n):∀c∈(Str.ofString (toString n)).cps.toList,48<=c/\c<=57:=by
 obtain⟨m,rfl⟩:=Int.eq_ofNat_of_zero_le h;intro c hc;rw[PySem.W.KIN.signs_num]at hc;obtain⟨ch,hch,e⟩:=mem_map.mp hc;have r:=PyProof.Rows.digit_range (Nat.isDigit_of_mem_toDigits (by decide) (by decide) hch);rw[<- e];exact r
def DT(n:Int):(bJ n).cps.toList=115::(Str.ofString (toString n)).cps.toList:=by
 show ((("s" : Str)).cps++(Str.ofString (toString n)).cps).toList=_;rw[Array.toList_append];rfl
def wT(n:Int):Txt.slice (bJ n) (some 1) none=Str.ofString (toString n):=by
 rw[CO (DT n),Array.toArray_toList]
def DS(h:eX n):(bJ n).length<=8:=by
 have:=(Dv h).2;unfold bJ;rw[strLen_append];show 1+_<=8;omega
inductive iB(vs:L6)(H:Hp)(Q:VK)(x_3:XK):Prop
 | mk:∀n:Int,vs=[.int n]->eX n->Q (.str (bJ n)) H->iB vs H Q x_3
section
variable{P:Program}{w:World}{K:Ln}{mg:Lp}{base:Heap}{A:Ad}
def r8(F:Fun K "segment_name" "segment_name" l9 f fd):‹14› 1 f fd ["segment"] iB:=by
 refine F.okY ["segment"] λcdv A outer s H vs Q E hr nD0 h=>?_;obtain⟨n,rfl,⟨h0,h1⟩,q⟩:=h;refine⟨_,aC (aQ (pe_fw (pv 0))),?_⟩;exact⟨_,rfl,n,rfl,h0,Int.lt_of_lt_of_le h1 (by decide),q⟩
end
abbrev nI:Stmt:=top 50
section
variable{P:Program}{w:World}{K:Ln}{mg:Lp}{base:Heap}{A:Ad}
end
abbrev wW:Stmt:=top 51
section
variable{P:Program}{w:World}{K:Ln}{mg:Lp}{base:Heap}{A:Ad}
end
abbrev wY:Stmt:=top 52
def wU(h:eX n):∀c∈(bJ n).cps.toList,c=115\/(48<=c/\c<=57):=by
 intro c hc;rw[DT]at hc;rcases mem_cons.mp hc with z | z
 ·exact .inl z
 ·exact .inr (Cu h.1 c z)
def l8(h:eX n):eT cV 8 (.str (bJ n))=true:=by
 have h1:1<=(bJ n).length:=by
  have:=(Dv h).1;unfold bJ;rw[strLen_append];omega
 have h2:=DS h;have hd:∀c:Nat,c<58->48<=c->inS cV c=true:=by decide +kernel
 have hs:inS cV 115=true:=by decide +kernel
 show ((decide (1<=((bJ n).length:Int)) && decide (((bJ n).length:Int)<=8)) && (bJ n).cps.toList.all (inS cV))=true;rw[decide_eq_true (by omega),decide_eq_true (by omega),Bool.true_and,Bool.true_and,all_eq_true];intro c hc;rcases wU h c hc with z | ⟨z1,z2⟩
 ·rw[z]; exact hs
 ·exact hd c (by omega) z1
def uA(h:eX n):oA (.str (bJ n)):=by
 intro x e;injection e with e
 subst e;refine⟨le_trans (DS h) (by decide),?_⟩;unfold pV;rw[<- Array.all_toList,all_eq_true];intro c hc;rcases wU h c hc with z | ⟨z1,z2⟩ <;> exact decide_eq_true (by omega)
section
variable{P:Program}{w:World}{K:Ln}{mg:Lp}{base:Heap}{A:Ad}
end
abbrev xK:Stmt:=top 53
def BY(h:n∈fs.map (·.1)):∃bs,aW fs n=some bs:=by
 unfold aW;cases e:fs.find? λp=>decide (p.1=n) with
 | none=>
  rw[find?_eq_none]at e;rw[mem_map]at h;obtain⟨p,hp,he⟩:=h;exact absurd (decide_eq_true he) (e p hp)
 | some p=>exact⟨p.2,rfl⟩
section
variable{P:Program}{w:World}{K:Ln}{mg:Lp}{base:Heap}{A:Ad}
end
abbrev kB:Stmt:=top 44
abbrev o5:Stmt:=top 45
abbrev oY:Stmt:=top 47
def x5:Str:="abcdefghijklmnopqrstuvwxyz"
def tX(d1 d2 d3:PyData):Bool:=bO 1 2000 d1 && (bO 0 99 d2 && bO 1 9 d3)
inductive fY(A:Ad)(vs:L6)(H:Hp)(Q:VK)(E:XK):Prop
 | mk:∀(v1 v2 v3:V)(d1 d2 d3:PyData),vs=[v1,v2,v3]->Den H d1 v1->Den H d2 v2->Den H d3 v3->(tX d1 d2 d3=true->Q .non H)->(tX d1 d2 d3=false->E (.ref A.badSettings) none H)->fY A vs H Q E
inductive gU(A:Ad)(vs:L6)(H:Hp)(Q:VK)(E:XK):Prop
 | mk:∀(v:V)(d:PyData),vs=[v]->Den H d v->(∀x,d = .str x->x.length<=1000/\pV x=true)->(eT x5 6 d=true->∀H',aH H H'->Q .non H')->(eT x5 6 d=false->∀H',aH H H'->E (.ref A.badHand) none H')->gU A vs H Q E
inductive gW(A:Ad)(vs:L6)(H:Hp)(Q:VK)(E:XK):Prop
 | mk:∀(v:V)(d:PyData),vs=[v]->Den H d v->(∀bs,d = .tuple bs->bs.length<=sizeLine)->(bK (.tuple [.str "put",.int 0,d])=true->∀H',aH H H'->Q .non H')->(bK (.tuple [.str "put",.int 0,d])=false->∀H',aH H H'->E (.ref A.badBody) none H')->gW A vs H Q E
section
variable{P:Program}{w:World}{K:Ln}{mg:Lp}{base:Heap}{A:Ad}
def pA(F:Fun K "check_settings" "check_settings" kB f fd)(T:‹3›)(ab1:‹2›):‹14› 2 f fd ["most","hold","tries"] (fY A):=by
 obtain⟨_,bb0⟩:=T.bc9;obtain⟨_,bb1⟩:=T.bd0;obtain⟨_,ba1⟩:=T.ba8;refine F.okY ["most","hold","tries"] λcdv A' outer s H vs Q E hr nD0 h=>?_;obtain⟨v1,v2,v3,d1,d2,d3,rfl,h1,h2,h3,q,qe⟩:=h;refine⟨_,aA (a8 (cR (dH (bC ab1 ‹18› aZ (aE (pv 0) (aN aI (aE (cM (v:=.int 2000) ⋯ bb0 ⟨_,rfl⟩) aG))))))
   ‹82›
   aO)
  (aA (a8 (cR (dH (bC ab1 ‹18› aZ (aE (pv 1) (aN aI (aE (cM (v:=.int 99) ⋯ bb1 ⟨_,rfl⟩) aG))))))
   ‹82›
   aO)
  (aC (a8 (cR (dH (bC ab1 ‹18› aZ (aE (pv 2) (aN aI (aE (cM (v:=.int 9) ⋯ ba1 ⟨_,rfl⟩) aG))))))
   ‹82›
   aO))),?_⟩
 unfold tX at q qe;have one:(1:Nat)<=sizeLine:=by decide
 refine⟨_,rfl,v1,d1,1,2000,rfl,h1,_,rfl,?_⟩;cases e1:bO 1 2000 d1 with
 | false=>
  rw[e1]at qe;exact aU ⟨one,qe rfl⟩
 | true=>
 rw[e1]at q qe;refine bB (cP rfl ?_);refine⟨_,rfl,v2,d2,0,99,rfl,h2,_,rfl,?_⟩;cases e2:bO 0 99 d2 with
 | false=>
  rw[e2]at qe;exact aU ⟨one,qe rfl⟩
 | true=>
 rw[e2]at q qe;refine bB (cP rfl ?_);refine⟨_,rfl,v3,d3,1,9,rfl,h3,_,rfl,?_⟩;cases e3:bO 1 9 d3 with
 | false=>
  rw[e3]at qe;exact aU ⟨one,qe rfl⟩
 | true=>
 rw[e3]at q;exact bB (q rfl)
def vV(F:Fun K "check_hand" "check_hand" oY f fd)(T:‹3›)(ag9:‹15› "is_word" 1 ["thing","signs","longest"] k8):‹14› 2 f fd ["hand"] (gU A):=by
 obtain⟨_,bg3⟩:=T.bh0;obtain⟨_,bb2⟩:=T.bd1;refine F.okY ["hand"] λcdv A' outer s H vs Q E hr nD0 h=>?_;obtain⟨v,d,rfl,hd,hz,q,qe⟩:=h;refine⟨_,aC (a8 (cR (dH (bC ag9 ‹18› aZ (aE (pv 0) (aE (cM (v:=.str "abcdefghijklmnopqrstuvwxyz") ⋯ bg3 ⟨_,rfl⟩) (aE (cM (v:=.int 6) ⋯ bb2 ⟨_,rfl⟩) aG))))))
   (aC (dW eV ⋯ T.an5 ⋯ T.bj5 ‹24›))
   aO),?_⟩
 refine⟨_,rfl,v,d,x5,6,rfl,hd,hz,λH1 S1=>⟨_,rfl,?_⟩⟩;cases hb:eT x5 6 d with
 | false=>exact aU ⟨(by show 1<=sizeLine; decide),qe hb H1 S1⟩
 | true=>exact bB (q hb H1 S1)
def vY(F:Fun K "check_body" "check_body" o5 f fd)(T:‹3›)(ae6:‹15› "is_row" 3 ["thing"] jZ):‹14› 4 f fd ["body"] (gW A):=by
 refine F.okY ["body"] λcdv A' outer s H vs Q E hr nD0 h=>?_;obtain⟨v,d,rfl,hd,hz,q,qe⟩:=h;refine⟨_,aC (a8 (cR (dH (bC ae6 ‹18› aZ (bV (bE (aN bH (aN aI ‹34›))) aG))))
   (aC (dW eV ⋯ T.aj6 ⋯ T.be5 ‹24›))
   aO),?_⟩
 refine⟨_,rfl,aJ,λp hp=>?_⟩;have S:=aD (o:=.tup [.str "put",.int 0,v]) hp;refine⟨.ref p,.tuple [.str "put",.int 0,d],rfl,?_,λk n bs e=>?_,λH1 S1=>⟨_,rfl,?_⟩⟩
 ·simp only[Den,aP];exact⟨p,_,rfl,aB,_,_,rfl,rfl,_,_,rfl,rfl,_,_,rfl,hd.same S,rfl⟩
 ·injection e with e
  injection e with _ e
  injection e with _ e
  injection e with e _
  exact hz bs e
 cases hb:bK (.tuple [.str "put",.int 0,d]) with
 | false=>exact aU ⟨(by show 1<=sizeLine; decide),qe hb H1 (S.trans S1)⟩
 | true=>exact bB (q hb H1 (S.trans S1))
end
abbrev rG:Stmt:=top 54
def mkN(D:Dk)(n:Str):Dk:=⟨D.fs++[(n,[])],D.done+1,none⟩
def EM(D:Dk)(n:Str):Dk:=⟨gN D.fs n,D.done+1,none⟩
def tY(D:Dk)(n:Str)(bs:Ls)(k:Nat):Dk:=⟨fA D.fs n bs,D.done+(k:Int),none⟩
def jX(h:D.left=none):iT D=some ⟨D.fs,D.done+1,none⟩:=by
 unfold iT;rw[h]
def GI(fs:List (Str × Ls))(n:Str)(a b:Ls):fA (fA fs n a) n b=fA fs n b:=by
 unfold fA;rw[map_map];apply map_congr_left;intro p _;by_cases z:p.1=n
 ·simp [z]
 ·simp [z]
def wR:∀{fs:List (Str × Ls)},(fs.map (·.1)).Nodup->aW fs n=some bs->fA fs n bs=fs
 | [],_,_=>rfl
 | p::fs,hn,h=>by
  rw[map_cons,nodup_cons]at hn;show (if p.1=n then (p.1,bs) else p)::fA fs n bs=_;by_cases z:p.1=n
  ·have e:aW (p::fs) n=some p.2:=by simp [aW,z]
   rw[e]at h;cases h;rw[if_pos z,DR (λm=>hn.1 (by rw[z]; exact m))]
  ·have e:aW (p::fs) n=aW fs n:=by simp [aW,z]
   rw[e]at h;rw[if_neg z,wR hn.2 h]
def yU:∀{ns:Ls}{D:Dk}{bs:Ls},D.left=none->(D.fs.map (·.1)).Nodup->aW D.fs n=some bs->sD n D ns=(tY D n (bs++ns) ns.length,true)
 | [],D,bs,hl,hk,hb=>by
  obtain⟨fs,done,left⟩:=D;have hl:left=none:=hl;subst hl;show ((⟨fs,done,none⟩:Dk),true)=(⟨fA fs n (bs++[]),done+((0:Nat):Int),none⟩,true);rw[append_nil,wR hk hb];simp
 | b::ns,D,bs,hl,hk,hb=>by
  show (match iT D with | none=>(D,false) | some D1=>sD n ⟨fA D1.fs n ((aW D1.fs n).getD []++[b]),D1.done,D1.left⟩ ns)=_;rw[jX hl]
  try dsimp only
  rw[hb,yU (bs:=bs++[b]) rfl (by rw[m5]; exact hk) (wS hb)];unfold tY
  try dsimp only
  rw[Option.getD_some,GI,append_assoc,length_cons];have:D.done+1+(ns.length:Int)=D.done+((ns.length+1:Nat):Int):=by omega
  rw[this];rfl
def qL(h:DiskAt C H dk df kvs D)(hb:own dk df kvs b):∃o,H b=some o:=by
 rcases hb with rfl | rfl | hb
 ·obtain⟨dx,h1⟩:=h.self;exact⟨_,h1⟩
 ·exact⟨_,h.files⟩
 ·obtain⟨xs,e⟩:=vE h.rel hb;exact⟨_,e⟩
def pE(fs:List (Str × Ls))(n m:Str)(e:Ls)(h:aW fs n=none):aW (fs++[(n,e)]) m=if m=n then some e else aW fs m:=by
 unfold aW at h ⊢;rw[map_eq_none_iff,find?_eq_none]at h;rw[List.find?_append];by_cases z:m=n
 ·subst z;have:fs.find? (λp=>decide (p.1=m))=none:=find?_eq_none.mpr h;rw[this,if_pos rfl];simp
 ·rw[if_neg z];have z':¬ n=m:=λy=>z y.symm;cases fs.find? (λp=>decide (p.1=m)) with
  | none=>simp [z']
  | some p=>simp
def BU(fs:List (Str × Ls))(n m:Str)(e:Ls):aW (fA fs n e) m=if m=n then (aW fs n).map (λ_=>e) else aW fs m:=by
 unfold aW fA
 induction fs with
 | nil=>split <;> rfl
 | cons p fs ih=>
  rw[map_cons,find?_cons,find?_cons,find?_cons];by_cases z:m=n
  ·subst z;rw[if_pos rfl]at ih ⊢;by_cases y:p.1=m
   ·simp [y]
   ·simp only[y,if_false,decide_false];exact ih
  ·rw[if_neg z]at ih ⊢;by_cases y:p.1=n
   ·have:¬ p.1=m:=λx=>z (x.symm.trans y);simp only[y,if_true];rw[decide_eq_false (λx:n=m=>z x.symm)];exact ih
   ·simp only[y,if_false];by_cases x:p.1=m
    ·simp [x]
    ·simp only[x,decide_false];exact ih
def EI(h0:0<=n)(h1:n<=999999):bK (cC ("from",n,[]))=true:=by
 show (cT.contains "from" && (bO 0 999999 (.int n) && (cW (.tuple []) && fB "from" (bM (.tuple [])))))=true;have:bO 0 999999 (.int n)=true:=by
  simp only[bO,and_eq_true,decide_eq_true_eq];exact⟨h0,h1⟩
 rw[this];decide +kernel
def gP(h:k [] H):lV σ H k:=h
section
variable{C c1 c2 c3 c4 dk df:Addr}{kvs:Lz}{D:Dk}{n:Int}{H:Hp}{Q:V->Hp->Prop}{E:XK}{bs:Ls}
def AZ(hD:DiskAt C H dk df kvs D)(hl:D.left=none)(hn:eX n)(hf:D.fs.length<100000)(hno:aW D.fs (bJ n)=none)(q:∀kvs' H',sE dk df kvs H H'->Fd dk df kvs kvs' H->DiskAt C H' dk df kvs' (mkN D (bJ n))->Q .non H'):oP C c1 c2 c3 [.ref dk,.str (bJ n)] H Q E:=by
 refine⟨dk,df,kvs,D,_,.str (bJ n),rfl,hD,by simp only[Den],uA hn,hf,(λz=>by rw[l8 hn]at z; cases z),λn' e _=>?_⟩;injection e with e
 subst e;refine⟨(λbs z=>by rw[hno]at z; cases z),λ_=>⟨(λz=>by rw[jX hl]at z; cases z),λD1 hs kvs' H' f g h=>?_⟩⟩;rw[jX hl]at hs;cases hs;exact q _ _ f g h
def Fn(hD:DiskAt C H dk df kvs D)(hl:D.left=none)(hn:eX n)(hb:aW D.fs (bJ n)=some bs)(q:∀kvs' H',sE dk df kvs H H'->Fd dk df kvs kvs' H->DiskAt C H' dk df kvs' (EM D (bJ n))->Q .non H'):oR C c1 c2 c3 [.ref dk,.str (bJ n)] H Q E:=by
 refine⟨dk,df,kvs,D,_,.str (bJ n),rfl,hD,by simp only[Den],uA hn,(λz=>by rw[l8 hn]at z; cases z),λn' e _=>?_⟩;injection e with e
 subst e;refine⟨(λz=>by rw[hb]at z; cases z),λbs' z=>⟨(λz=>by rw[jX hl]at z; cases z),λD1 hs kvs' H' f g h=>?_⟩⟩;rw[jX hl]at hs;cases hs;exact q _ _ f g h
def yY(hD:DiskAt C H dk df kvs D)(hl:D.left=none)(hn:eX n)(hb:aW D.fs (bJ n)=some bs)(hz:∀n bs,aW D.fs n=some bs->bs.length<=100000)(ha:H a=some (.tup (ns.map V.int)))(hby:∀b∈ns,0<=b/\b<=255)(hln:ns.length<=100000)(q:∀H',sE dk df kvs H H'->DiskAt C H' dk df kvs (tY D (bJ n) (bs++ns) ns.length)->Q .non H'):zD C c1 c2 c3 c4 [.ref dk,.str (bJ n),.ref a] H Q E:=by
 refine⟨dk,df,kvs,D,_,_,.str (bJ n),.tuple (ns.map .int),rfl,hD,by simp only[Den],uA hn,by simp only[Den]; exact⟨a,_,rfl,ha,bR.mpr rfl⟩,(λds e=>by injection e with e; rw[<- e,length_map]; exact hln),hz,(λz=>by rw[l8 hn]at z; cases z),λn' e _=>?_⟩;injection e with e
 subst e;refine⟨(λz=>by rw[hb]at z; cases z),λbs' z=>?_⟩;rw[hb]at z;cases z;have hi:cW (.tuple (ns.map .int))=true:=pS hby
 refine⟨(λz=>by rw[hi]at z; cases z),λ_ H' f h=>?_⟩;rw[fP,yU hl hD.kn hb]at h ⊢;exact⟨λ_=>q H' f h,(λz=>by cases z)⟩
def AY(hD:DiskAt C H dk df kvs D)(hn:eX n)(hb:aW D.fs (bJ n)=some bs)(q:∀H',aH H H'->Q (.int (bs.length:Int)) H'):oM C c1 c2 [.ref dk,.str (bJ n)] H Q E:=by
 refine⟨dk,df,kvs,D,_,.str (bJ n),rfl,hD,by simp only[Den],uA hn,(λz=>by rw[l8 hn]at z; cases z),λn' e _=>?_⟩;injection e with e
 subst e;refine⟨(λz=>by rw[hb]at z; cases z),λbs' z=>?_⟩;rw[hb]at z;cases z;exact q
def Fm(hD:DiskAt C H dk df kvs D)(hn:eX n)(hb:aW D.fs (bJ n)=some bs)(q:∀p H',aH H H'->H' p=some (.tup (bs.map V.int))->Q (.ref p) H'):sJ C c1 c2 [.ref dk,.str (bJ n)] H Q E:=by
 refine⟨dk,df,kvs,D,_,.str (bJ n),rfl,hD,by simp only[Den],uA hn,(λz=>by rw[l8 hn]at z; cases z),λn' e _=>?_⟩;injection e with e
 subst e;refine⟨(λz=>by rw[hb]at z; cases z),λbs' z=>?_⟩;rw[hb]at z;cases z;exact q
def Fk{a:Addr}{rs:L8}{k:Nat}(ha:H a=some (.tup (bs.map V.int)))(hby:∀b∈bs,0<=b/\b<=255)(hln:bs.length<=100000)(hr:jG (bs.length+1) bs=some (rs.map cC,k))(q:∀p pL H',aH H H'->H' p=some (.tup [.ref pL,.int (k:Int)])->Den H' (.list (rs.map cC)) (.ref pL)->Q (.ref p) H'):kS c1 c2 [.ref a] H Q E:=by
 have isb:cW (.tuple (bs.map .int))=true:=pS hby
 refine⟨.ref a,.tuple (bs.map .int),rfl,by simp only[Den]; exact⟨a,_,rfl,ha,bR.mpr rfl⟩,(λbs' e=>?_),(λz=>by rw[isb]at z; cases z),λ_=>?_⟩
 ·injection e with e
  rw[<- e,length_map];exact le_trans hln (by decide)
 rw[fP];refine⟨λds k' er p2 H2 S2 d2 _=>?_,(λz=>by rw[hr]at z; cases z)⟩;rw[hr]at er;cases er;have d2':=d2;simp only[Den,aP]at d2';obtain⟨_,_,e1,gf,_,_,rfl,⟨pL,ys,rfl,gL,dL⟩,_,_,rfl,rfl,rfl⟩:=d2';cases e1;exact q p2 pL H2 S2 gf (by simp only[Den]; exact⟨pL,ys,rfl,gL,dL⟩)
def xN(h:bK (cC r)=true):cT.contains r.1=true/\0<=r.2.1/\r.2.1<=999999/\dQ r.2.2/\fB r.1 r.2.2=true:=by
 obtain⟨k,n,bs,e,hk,h0,h1,hb,hf⟩:=oE h;unfold cC fM at e;injection e with e
 injection e with e1 e
 injection e with e2 e
 injection e with e3 e
 injection e1 with e1
 injection e2 with e2
 injection e3 with e3
 have hb':dQ (bM (.tuple bs)):=oG hb;rw[<- e3,fP]at hf hb';rw[e1,e2];exact⟨hk,h0,h1,hb',by rw[<- e1]at hf ⊢; exact hf⟩
def qH(h:bK (cC r)=true):r.2.2.length<=61:=vD (xN h).2.2.2.2
def lE(h:bK (cC r)=true):∀b∈iG r.1 r.2.1 r.2.2,0<=b/\b<=255:=by
 obtain⟨hk,h0,h1,hb,hf⟩:=xN h;have hl:=vD hf;have hm:r.1∈cT:=by simpa using hk
 have hi:=List.idxOf_lt_length_of_mem hm;have hi:cT.idxOf r.1<8:=hi;intro b hm;unfold iG gK gH at hm;simp only[mem_append,mem_cons,not_mem_nil,or_false]at hm;rcases hm with (z | z) | (((z | z | z | z) | z) | z)
 ·omega
 ·omega
 ·omega
 ·omega
 ·omega
 ·omega
 ·omega
 ·exact hb b z
def Ie(r:Rw):GV (cC r)=iG r.1 r.2.1 r.2.2:=by
 show iG r.1 r.2.1 (bM (.tuple (r.2.2.map .int)))=_;rw[fP]
def CD(hd:Den H (cC r) v)(hr:bK (cC r)=true)(q:∀p H',aH H H'->H' p=some (.tup ((iG r.1 r.2.1 r.2.2).map V.int))->Q (.ref p) H'):fF c1 [v] H Q E:=by
 refine⟨v,cC r,rfl,hd,λk n bs e=>?_,λ_ p H' S g=>q p H' S (by rw[<- Ie]; exact g),(λz=>by rw[hr]at z; cases z)⟩;have hs:=qH hr;unfold cC fM at e;injection e with e
 injection e with e1 e
 injection e with e2 e
 injection e with e3 e
 injection e3 with e3
 rw[<- e3,length_map];exact le_trans hs (by decide)
end
def JV{i:Nat}{x:V}{s tl:TS}{D0 D:Ends}{σ : St}{H:Hp}(J:St->Hp->Prop)(h2:∀n:St->Hp->Prop,(∀σ' H',J σ' H'->n σ' H')->s (D.next n) (σ.set i (some x)) H)(h1:∀σ' H',J σ' H'->tl D σ' H'):F9 (rV i) (D0.next (vP s tl D)) σ x H:=h2 _ h1
def Ai(J:St->Hp->Prop)(h2:∀n:St->Hp->Prop,(∀σ' H',J σ' H'->n σ' H')->s (D.next n) σ H)(h1:∀σ' H',J σ' H'->tl D σ' H'):vP s tl D σ H:=h2 _ h1
def JJ{s tl:TS}{D0 D:Ends}{σ : St}{H:Hp}(J:St->Hp->Prop)(h2:∀n:St->Hp->Prop,(∀σ' H',J σ' H'->n σ' H')->s (D.next n) σ H)(h1:∀σ' H',J σ' H'->tl D σ' H'):(D0.next (vP s tl D)).nx σ H:=h2 _ h1
section
variable{P:Program}{w:World}{K:Ln}{mg:Lp}{base:Heap}{A:Ad}
end
structure Qs where
 D:Dk
 B:Bk
 most:Int
 hold:Int
 tries:Int
 first:Int
 last:Int
 now:Int
 hs:Ma
structure Pl where
 qu:Addr
 dk:Addr
 df:Addr
 bk:Addr
 de:Addr
 dp:Addr
 hd:Addr
 kvs:Lz
def quF(L:Pl)(q:Qs)(wr:Bool):L3:=[("disk",.ref L.dk),("most",.int q.most),("hold",.int q.hold),("tries",.int q.tries),("book",.ref L.bk),("first",.int q.first),("last",.int q.last),("writing",.bl wr),("holders",.ref L.hd),("now",.int q.now)]
def HoR(H:Hp):Ma->Lz->Prop
 | [],[]=>True
 | p::hs,r::kvs=>r.1=Sum.inl p.1/\(∃t,r.2 = .ref t/\H t=some (.tup [.str p.2.1,.int p.2.2]))/\HoR H hs kvs
 | _,_=>False
def HoR.t(s:fR H H'):∀{hs:Ma}{kvs:Lz},HoR H hs kvs->HoR H' hs kvs
 | [],[],_=>trivial
 | p::hs,r::kvs,h=>by
  obtain⟨h1,⟨t,e,g⟩,h3⟩:=h;exact⟨h1,⟨t,e,s _ _ g⟩,HoR.t s h3⟩
 | [],_::_,h=>h.elim
 | _::_,[],h=>h.elim
def Ba(L:Pl)(b:Addr):Prop:=b=L.bk\/b=L.de\/b=L.dp
def HN(L:Pl)(b:Addr):Prop:=own L.dk L.df L.kvs b
def eQ(L:Pl)(b:Addr):Prop:=b=L.qu\/b=L.hd\/Ba L b\/HN L b
structure QueueW(A:Ad)(H:Hp)(L:Pl)(q:Qs)(wr:Bool):Prop where
 self:∃dx,H L.qu=some (.ins A.queue dx (quF L q wr))
 disk:DiskAt A.disk H L.dk L.df L.kvs q.D
 book:BookAt A.book H L.bk L.de L.dp q.B
 held:∃hk,H L.hd=some (.dK hk)/\HoR H q.hs hk
 a_bd:∀b,Ba L b->¬ HN L b
 a_qu:¬ Ba L L.qu/\¬ HN L L.qu
 a_hd:L.hd≠L.qu/\¬ Ba L L.hd/\¬ HN L L.hd
structure Step(L L':Pl)(H H':Hp):Prop where
 qu:L'.qu=L.qu
 dk:L'.dk=L.dk
 frm:∀b o,H b=some o->¬ eQ L b->H' b=some o
 grow:∀b,eQ L' b->eQ L b\/H b=none
 tup:fR H H'
def Step.trans(a:Step L L1 H H1)(b:Step L1 L2 H1 H2):Step L L2 H H2:=by
 refine⟨b.qu.trans a.qu,b.dk.trans a.dk,λc o e nc=>b.frm c o (a.frm c o e nc) (λz=>(a.grow c z).elim nc (λy=>by rw[y]at e; cases e)),λc hc=>?_,a.tup.trans b.tup⟩;rcases b.grow c hc with z | z
 ·exact a.grow c z
 ·by_cases y:eQ L c
  ·exact .inl y
  ·refine .inr ?_;cases e:H c with
   | none=>rfl
   | some o=>rw[a.frm c o e y]at z; cases z
def aH.step(s:aH H H'):Step L L H H':=⟨rfl,rfl,λb o e _=>s b o e,λb h=>.inl h,aH.tup s⟩
def Step.not(a:Step L L' H H')(e:H b=some o)(n:¬ eQ L b):¬ eQ L' b:=λz=>(a.grow b z).elim n (λy=>by rw[y]at e; cases e)
def DiskAt.keep(h:DiskAt C H dk df kvs D)(s:∀b o,H b=some o->own dk df kvs b->H' b=some o):DiskAt C H' dk df kvs D:=by
 obtain⟨dx,h1⟩:=h.self;exact⟨⟨dx,s _ _ h1 (.inl rfl)⟩,s _ _ h.files (.inr (.inl rfl)),h.rel.same λb o e m=>s b o e (.inr (.inr m)),h.nd,h.kn⟩
def BookAt.keep(h:BookAt C H bk de dp B)(s:∀b o,H b=some o->b=bk\/b=de\/b=dp->H' b=some o)(t:fR H H'):BookAt C H' bk de dp B:=by
 obtain⟨dx,h1⟩:=h.self;obtain⟨kvs,h2,h3⟩:=h.ent;obtain⟨ps,h4,h5⟩:=h.par;exact⟨⟨dx,s _ _ h1 (.inl rfl)⟩,⟨kvs,s _ _ h2 (.inr (.inl rfl)),h3.t t⟩,⟨ps,s _ _ h4 (.inr (.inr rfl)),fN t (iO _) h5⟩⟩
def sE.tup(h:DiskAt C H dk df kvs D)(f:sE dk df kvs H H'):fR H H':=λb xs e=>by
 refine f b _ e ?_;rintro (rfl | rfl | z)
 ·obtain⟨dx,h1⟩:=h.self;rw[h1]at e;cases e
 ·rw[h.files]at e;cases e
 ·obtain⟨ys,e2⟩:=vE h.rel z;rw[e2]at e;cases e
section
variable{A:Ad}{H H':Hp}{L:Pl}{q:Qs}{wr:Bool}
def QueueW.same(h:QueueW A H L q wr)(s:aH H H'):QueueW A H' L q wr:=by
 obtain⟨dx,h1⟩:=h.self;obtain⟨hk,h2,h3⟩:=h.held;exact⟨⟨dx,s _ _ h1⟩,h.disk.same s,h.book.same s,⟨hk,s _ _ h2,h3.t (aH.tup s)⟩,h.a_bd,h.a_qu,h.a_hd⟩
def QueueW.fields(h:QueueW A H L q wr)(q':Qs)(wr':Bool)(eD:q'.D=q.D)(eB:q'.B=q.B)(eH:q'.hs=q.hs):QueueW A (upd H L.qu (.ins A.queue dx (quF L q' wr'))) L q' wr'/\Step L L H (upd H L.qu (.ins A.queue dx (quF L q' wr'))):=by
 obtain⟨dx0,h1⟩:=h.self;obtain⟨hk,h2,h3⟩:=h.held;have t:fR H (upd H L.qu (.ins A.queue dx (quF L q' wr'))):=kQ h1 (λxs z=>by cases z);refine⟨⟨⟨dx,aB⟩,?_,?_,⟨hk,by rw[aF h.a_hd.1]; exact h2,by rw[eH]; exact h3.t t⟩,h.a_bd,h.a_qu,h.a_hd⟩,⟨rfl,rfl,λb o e nb=>by rw[aF (λz=>nb (.inl z))]; exact e,λb hb=>.inl hb,t⟩⟩
 ·rw[eD];refine h.disk.keep λb o e hb=>?_;rw[aF (λz=>by rw[z]at hb; exact h.a_qu.2 hb)];exact e
 ·rw[eB];refine h.book.keep (λb o e hb=>?_) t;rw[aF (λz=>by rw[z]at hb; exact h.a_qu.1 hb)];exact e
def QueueW.toDisk(h:QueueW A H L q wr)(f:sE L.dk L.df L.kvs H H')(g:Fd L.dk L.df L.kvs kvs' H)(hD:DiskAt A.disk H' L.dk L.df kvs' D'):QueueW A H' { L with kvs:=kvs' } { q with D:=D' } wr/\Step L { L with kvs:=kvs' } H H':=by
 obtain⟨dx0,h1⟩:=h.self;obtain⟨hk,h2,h3⟩:=h.held;have t:fR H H':=f.tup h.disk;have far:∀b o,H b=some o->¬ HN L b->¬ own L.dk L.df kvs' b:=λb o e nb z=>(g b z).elim nb (λy=>by rw[y]at e; cases e);refine⟨⟨⟨dx0,f _ _ h1 h.a_qu.2⟩,hD,h.book.keep (λb o e hb=>f b o e (h.a_bd b hb)) t,⟨hk,f _ _ h2 h.a_hd.2.2,h3.t t⟩,λb hb=>?_,⟨h.a_qu.1,far _ _ h1 h.a_qu.2⟩,⟨h.a_hd.1,h.a_hd.2.1,far _ _ h2 h.a_hd.2.2⟩⟩,⟨rfl,rfl,λb o e nb=>f b o e (λz=>nb (.inr (.inr (.inr z)))),λb hb=>?_,t⟩⟩
 ·obtain⟨dx,g1⟩:=h.book.self;obtain⟨kvs,g2,_⟩:=h.book.ent;obtain⟨ps,g3,_⟩:=h.book.par;have nb:=h.a_bd b hb;rcases hb with z | z | z
  ·exact far b _ (by rw[z]; exact g1) nb
  ·exact far b _ (by rw[z]; exact g2) nb
  ·exact far b _ (by rw[z]; exact g3) nb
 ·rcases hb with z | z | z | z
  ·exact .inl (.inl z)
  ·exact .inl (.inr (.inl z))
  ·exact .inl (.inr (.inr (.inl z)))
  ·rcases g b z with y | y
   ·exact .inl (.inr (.inr (.inr y)))
   ·exact .inr y
def QueueW.toBook(h:QueueW A H L q wr)(f:Frm L.bk L.de L.dp H H')(hq:dq=L.dp\/H dq=none)(hB:BookAt A.book H' L.bk L.de dq B'):QueueW A H' { L with dp:=dq } { q with B:=B' } wr/\Step L { L with dp:=dq } H H':=by
 obtain⟨dx0,h1⟩:=h.self;obtain⟨hk,h2,h3⟩:=h.held;have t:fR H H':=h.book.tup f;have fr:∀b o,H b=some o->¬ Ba L b->H' b=some o:=λb o e nb=>f b o e (λz=>nb (.inl z)) (λz=>nb (.inr (.inl z))) (λz=>nb (.inr (.inr z)));have nq:∀b o,H b=some o->¬ Ba L b->¬ Ba { L with dp:=dq } b:=λb o e nb z=>by
  rcases z with z | z | z
  ·exact nb (.inl z)
  ·exact nb (.inr (.inl z))
  ·rcases hq with y | y
   ·exact nb (.inr (.inr (z.trans y)))
   ·have z:b=dq:=z;rw[z,y]at e;cases e
 refine⟨⟨⟨dx0,fr _ _ h1 h.a_qu.1⟩,h.disk.keep (λb o e hb=>fr b o e (λz=>h.a_bd b z hb)),hB,⟨hk,fr _ _ h2 h.a_hd.2.1,h3.t t⟩,λb hb hd=>?_,⟨nq _ _ h1 h.a_qu.1,h.a_qu.2⟩,⟨h.a_hd.1,nq _ _ h2 h.a_hd.2.1,h.a_hd.2.2⟩⟩,⟨rfl,rfl,λb o e nb=>fr b o e (λz=>nb (.inr (.inr (.inl z)))),λb hb=>?_,t⟩⟩
 ·obtain⟨o,e⟩:=qL h.disk hd;by_cases y:Ba L b
  ·exact h.a_bd b y hd
  ·exact nq b o e y hb
 ·rcases hb with z | z | z | z
  ·exact .inl (.inl z)
  ·exact .inl (.inr (.inl z))
  ·rcases z with z | z | z
   ·exact .inl (.inr (.inr (.inl (.inl z))))
   ·exact .inl (.inr (.inr (.inl (.inr (.inl z)))))
   ·rcases hq with y | y
    ·exact .inl (.inr (.inr (.inl (.inr (.inr (z.trans y))))))
    ·have z:b=dq:=z;rw[z];exact .inr y
  ·exact .inl (.inr (.inr (.inr z)))
end
abbrev rF:Stmt:=bI (top 55) 8
abbrev Ap:Stmt:=bI (top 55) 17
abbrev xC:Stmt:=bI (top 55) 9
abbrev Ar:Stmt:=bI (top 55) 10
abbrev An:Stmt:=bI (top 55) 11
abbrev uF:Stmt:=bI (top 55) 12
abbrev xE:Stmt:=bI (top 55) 13
def pI(h:Den H (lX n e) v):∃t b,v = .ref t/\H t=some (.tup [.int n,.ref b,.int e.2.1])/\H b=some (.tup (e.1.map V.int)):=by
 unfold lX at h;simp only[Den,aP]at h;obtain⟨t,_,rfl,h1,_,_,rfl,rfl,_,_,rfl,⟨b,ys,rfl,h2,h3⟩,_,_,rfl,rfl,rfl⟩:=h;rw[bR.mp h3]at h2;exact⟨t,b,rfl,h1,h2⟩
def CT{α : Type}(xs:List α)(d:α):(List.range xs.length).map (λj=>xs.getD j d)=xs:=by
 apply ext_getElem?;intro i;rw[getElem?_map];by_cases h:i<xs.length
 ·rw[getElem?_range h,Option.map_some,getD_eq_getElem?_getD,getElem?_eq_getElem h];rfl
 ·rw[getElem?_eq_none (by rw[length_range]; omega),getElem?_eq_none (by omega)];rfl
def gE(ms:Ls)(t:Int->Bool):((List.range ms.length).filter (λj=>t (ms.getD j 0))).map (λj=>V.int (ms.getD j 0))=(ms.filter t).map V.int:=by
 have h:=congrArg (λl=>(l.filter t).map V.int) (CT ms 0);rw[filter_map,map_map]at h;exact h
def fT(es:L7)(n:Int):Int:=((bN es n).getD ([],0,0)).2.1
inductive kT(A:Ad)(vs:L6)(H:Hp)(Q:VK)(x_3:XK):Prop
 | mk:∀(L:Pl)(q:Qs),vs=[.ref L.qu]->QueueW A H L q false->(q.B.es.length<800/\(q.B.es.map (·.1)).Pairwise (· <= ·))->(∀ms,List.Perm ms (q.B.es.map (·.1))->ms.Pairwise (· <= ·)->∀p H',aH H H'->H p=none->Den H' (.list (ms.map (hJ q.B.es))) (.ref p)->Q (.ref p) H')->kT A vs H Q x_3
def bU(hs:Ma)(n:Int):Option (Str × Int):=(hs.find? λp=>decide (p.1=n)).map (·.2)
def hW(hs:Ma)(n:Int):Bool:=(bU hs n).isNone
inductive mX(A:Ad)(vs:L6)(H:Hp)(Q:VK)(x_3:XK):Prop
 | mk:∀(L:Pl)(q:Qs),vs=[.ref L.qu]->QueueW A H L q false->(q.B.es.length<800/\(q.B.es.map (·.1)).Pairwise (· <= ·))->(∀ms,List.Perm ms (q.B.es.map (·.1))->ms.Pairwise (· <= ·)->∀p H',aH H H'->Den H' (.list ((ms.filter (hW q.hs)).map (hJ q.B.es))) (.ref p)->Q (.ref p) H')->mX A vs H Q x_3
inductive gO(A:Ad)(t:Int->Int->Bool)(vs:L6)(H:Hp)(Q:VK)(x_3:XK):Prop
 | mk:∀(L:Pl)(q:Qs),vs=[.ref L.qu]->QueueW A H L q false->(q.B.es.length<800/\(q.B.es.map (·.1)).Pairwise (· <= ·))->(∀ms,List.Perm ms (q.B.es.map (·.1))->ms.Pairwise (· <= ·)->∀p H',aH H H'->H p=none->H' p=some (.lst (((ms.filter (hW q.hs)).filter λn=>t (fT q.B.es n) q.tries).map V.int))->Q (.ref p) H')->gO A t vs H Q x_3
def ltB(i j:Int):Bool:=decide (i<j)
def geB(i j:Int):Bool:=decide (i ≥ j)
inductive l7(A:Ad)(vs:L6)(H:Hp)(Q:VK)(x_3:XK):Prop
 | mk:∀(L:Pl)(q:Qs),vs=[.ref L.qu]->QueueW A H L q false->Q (.int q.B.up) H->l7 A vs H Q x_3
inductive nV(A:Ad)(vs:L6)(H:Hp)(Q:VK)(x_3:XK):Prop
 | mk:∀(L:Pl)(q:Qs),vs=[.ref L.qu]->QueueW A H L q false->Q (.int q.now) H->nV A vs H Q x_3
def HoR.look:∀{hs:Ma}{hk:Lz},HoR H hs hk->(bU hs n=none->dE hk (Sum.inl n)=none)/\∀x tm,bU hs n=some (x,tm)->∃t,dE hk (Sum.inl n)=some (.ref t)/\H t=some (.tup [.str x,.int tm])
 | [],[],_=>⟨λ_=>rfl,λx tm e=>by cases e⟩
 | p::hs,r::hk,h=>by
  obtain⟨h1,⟨t,e2,g⟩,h3⟩:=h;have ih:=HoR.look (n:=n) h3;by_cases e:p.1=n
  ·have e1:bU (p::hs) n=some p.2:=by
    unfold bU;rw[find?_cons,decide_eq_true e];rfl
   rw[e1,iR (by rw[h1,e])];refine⟨(λz=>by cases z),λx tm z=>⟨t,by rw[e2],?_⟩⟩;rw[Option.some.inj z]at g;exact g
  ·have e1:bU (p::hs) n=bU hs n:=by
    unfold bU;rw[find?_cons,decide_eq_false e]
   rw[e1,iS (λz=>e (Sum.inl.inj (h1.symm.trans z)))];exact ih
 | [],_::_,h=>h.elim
 | _::_,[],h=>h.elim
def HoR.snoc{H:Hp}{n:Int}{x:Str}{tm:Int}{t:Addr}(g:H t=some (.tup [.str x,.int tm])):∀{hs:Ma}{hk:Lz},HoR H hs hk->HoR H (hs++[(n,(x,tm))]) (hk++[(Sum.inl n,.ref t)])
 | [],[],_=>⟨rfl,⟨t,rfl,g⟩,trivial⟩
 | _::_,_::_,⟨h1,h2,h3⟩=>⟨h1,h2,HoR.snoc g h3⟩
 | [],_::_,h=>h.elim
 | _::_,[],h=>h.elim
def dropH(hs:Ma)(n:Int):Ma:=hs.filter λp=>decide (p.1≠n)
def HoR.drop:∀{hs:Ma}{hk:Lz},HoR H hs hk->HoR H (dropH hs n) (eY hk (Sum.inl n))
 | [],[],_=>trivial
 | p::hs,r::hk,h=>by
  obtain⟨h1,h2,h3⟩:=h;have ih:=HoR.drop (n:=n) h3;unfold dropH eY at ih ⊢;rw[filter_cons,filter_cons];by_cases e:p.1=n
  ·rw[if_neg (by rw[decide_eq_true_eq]; exact λz=>z e),if_neg (by rw[decide_eq_true_eq,h1,e]; exact λz=>z rfl)];exact ih
  ·rw[if_pos (show decide (p.1≠n)=true from decide_eq_true e),if_pos (show decide (r.1≠Sum.inl n)=true from decide_eq_true (λz=>e (Sum.inl.inj (h1.symm.trans z))))];exact⟨h1,h2,ih⟩
 | [],_::_,h=>h.elim
 | _::_,[],h=>h.elim
def HoR.len:∀{hs:Ma}{hk:Lz},HoR H hs hk->hk.length=hs.length
 | [],[],_=>rfl
 | _::_,_::_,⟨_,_,h3⟩=>by rw[length_cons,length_cons,HoR.len h3]
 | [],_::_,h=>h.elim
 | _::_,[],h=>h.elim
def Bq:∀{ms:Ls}{xs:L6},aP H (ms.map f) xs->aP H ((ms.filter p).map f) (((List.range xs.length).filter λj=>p (ms.getD j 0)).map λj=>xs.getD j .non)
 | [],xs,h=>by
  have h:aP H [] xs:=h;simp only[aP]at h;subst h;simp only[List.filter_nil,map_nil,List.length_nil,List.range_zero,aP]
 | m::ms,xs,h=>by
  rw[map_cons]at h;simp only[aP]at h;obtain⟨x,r,rfl,h1,h2⟩:=h;have ih:=Bq (p:=p) h2;rw[length_cons,range_succ_eq_map,filter_cons,filter_cons,filter_map];have e0:((m::ms).getD 0 0)=m:=rfl;have e1:((λj=>p ((m::ms).getD j 0)) ∘ Nat.succ)=λj=>p (ms.getD j 0):=rfl;rw[e0,e1];cases hp:p m with
  | true=>
   rw[if_pos rfl,if_pos rfl,map_cons,map_cons,map_map];simp only[aP];exact⟨x,_,rfl,h1,ih⟩
  | false=>
   rw[if_neg (by decide),if_neg (by decide),map_map];exact ih
def dM{a b:Ls}(h:List.Perm a b)(ha:a.Pairwise (· <= ·))(hb:b.Pairwise (· <= ·)):a=b:=List.Perm.eq_of_pairwise (λx y _ _ h1 h2=>by omega) ha hb h
section
variable{P:Program}{w:World}{K:Ln}{mg:Lp}{base:Heap}{A:Ad}
def zR(F:Fun K "letters" "Queue.letters" rF f fd)(T:‹3›)(af6:‹16› A.book "letters" 2 ["self"] (kZ A.book)):‹14› 3 f fd ["self"] (kT A):=by
 refine F.okY ["self"] λcdv A' outer s H vs Q E hr nD0 h=>?_;obtain⟨L,q,rfl,hq,hl,qq⟩:=h;refine⟨_,aC (aQ (dI af6 T.ac5 ‹18› aZ ‹22›)),?_⟩;obtain⟨dx,h1⟩:=hq.self;obtain⟨db,h2⟩:=hq.book.self;exact⟨_,rfl,L.qu,_,dx,_,_,rfl,h1,T.aa0,T.ad8,rfl,L.bk,db,_,rfl,h2,rfl,L.bk,L.de,L.dp,q.B,rfl,hq.book,hl,qq⟩
def BM{f:Addr}{fd:Lx}(F:Fun K "coming" "Queue.coming" uF f fd)(T:‹3›):‹14› 1 f fd ["self"] (l7 A):=by
 refine F.okY ["self"] λcdv A' outer s H vs Q E hr nD0 h=>?_;obtain⟨L,q,rfl,hq,qq⟩:=h;refine⟨_,aC (aQ (nZ ‹22› ⋯)),?_⟩;obtain⟨dx,h1⟩:=hq.self;obtain⟨db,h2⟩:=hq.book.self;exact⟨_,rfl,L.qu,_,dx,_,_,rfl,h1,T.aa0,T.ad8,rfl,L.bk,_,db,_,_,rfl,h2,T.ac5,T.ab7,rfl,qq⟩
def Cn{f:Addr}{fd:Lx}(F:Fun K "clock" "Queue.clock" xE f fd)(T:‹3›):‹14› 1 f fd ["self"] (nV A):=by
 refine F.okY ["self"] λcdv A' outer s H vs Q E hr nD0 h=>?_;obtain⟨L,q,rfl,hq,qq⟩:=h;refine⟨_,aC (aQ ‹22›),?_⟩;obtain⟨dx,h1⟩:=hq.self;exact⟨_,rfl,L.qu,_,dx,_,_,rfl,h1,T.aa0,T.ba9,rfl,qq⟩
def Er(F:Fun K "free_letters" "Queue.free_letters" Ap f fd)(T:‹3›)(af6:‹16› A.book "letters" 2 ["self"] (kZ A.book)):‹14› 3 f fd ["self"] (mX A):=by
 refine F.okY ["self"] λcdv A' outer s H vs Q E hr nD0 h=>?_;obtain⟨L,q,rfl,hq,hl,qq⟩:=h;refine⟨_,aC (aQ (dC ["letter"] [("self",0)] ⋯ (bT K (dI af6 T.ac5 ‹18› aZ ‹22›)) ‹39› (λC s2 H2 ex=>(gY (nY (m6 (hu1 hr.units) ‹25› ‹62›)))) ‹66›)),?_⟩;obtain⟨dx,h1⟩:=hq.self;obtain⟨db,h2⟩:=hq.book.self;obtain⟨hk,h3,h4⟩:=hq.held;refine⟨_,rfl,L.qu,_,dx,_,_,rfl,h1,T.aa0,T.ad8,rfl,L.bk,db,_,rfl,h2,rfl,L.bk,L.de,L.dp,q.B,rfl,hq.book,hl,λms perm pw p H1 S1 _ d1=>?_⟩;have d1':=d1;simp only[Den]at d1';obtain⟨_,xs,e1,g1,dx1⟩:=d1';cases e1;have lx:=dx1.length;rw[length_map]at lx;have pl:=perm.length_eq;rw[length_map]at pl;refine⟨p,rfl,⟨_,SqL.of g1⟩,?_⟩;refine fQ (bS (K:=K) (SqL.of g1)) (by rw[lx,pl]; exact le_of_lt (lt_trans hl.1 (by decide))) (λj=>hW q.hs (ms.getD j 0)) (λj=>xs.getD j .non) (λσ=>∃z,σ = [z,some (.ref L.qu)]) ?z0 ?_ ?_
 case z0=>exact⟨none,rfl⟩
 ·intro j x σc H3 hj hσ s3 hx Q1 Q2 Q3 h2' h3';obtain⟨z,rfl⟩:=hσ;obtain⟨d,hd,dn⟩:=dx1.get hx;rw[getElem?_map]at hd;cases ej:ms[j]? with
  | none=>rw[ej]at hd; cases hd
  | some n=>
   rw[ej]at hd;cases (Option.some.inj hd:hJ q.B.es n=d);obtain⟨t,b,rfl,gt,gb⟩:=pI dn;have eg:xs.getD j .non = .ref t:=by rw[getD_eq_getElem?_getD,hx]; rfl
   have em:ms.getD j 0=n:=by rw[getD_eq_getElem?_getD,ej]; rfl
   rw[eg,em]at h2';rw[em]at h3';have dg:cQ H3 L.hd (.int n) (dE hk (Sum.inl n)):=cQ.k (k:=Sum.inl n) (s3 _ _ (S1 _ _ h3));refine⟨_,rfl,t,_,_,.int n,rfl,rfl,SqT.of (s3 _ _ gt),aT (by decide) rfl,_,rfl,L.qu,_,dx,_,_,rfl,s3 _ _ (S1 _ _ h1),T.aa0,T.ac4,rfl,L.hd,_,rfl,dg,_,rfl,?_⟩;cases el:bU q.hs n with
   | none=>
    rw[(h4.look (n:=n)).1 el];exact aU ⟨_,rfl,h2' _ ⟨_,rfl⟩ (by unfold hW; rw[el]; rfl)⟩
   | some o=>
    obtain⟨t',ev,_⟩:=(h4.look (n:=n)).2 o.1 o.2 el;rw[ev];exact bB (h3' _ ⟨_,rfl⟩ (by unfold hW; rw[el]; rfl))
 intro D H2 hD S2 g2;refine qq ms perm pw D H2 (S1.trans S2) ?_;simp only[Den];exact⟨D,_,rfl,g2,(Bq dx1).same S2⟩
def Ci(F:Fun K "ready" "Queue.ready" xC f fd)(T:‹3›)(ac6:‹16› A.queue "free_letters" 3 ["self"] (mX A)):‹14› 4 f fd ["self"] (gO A ltB):=by
 refine F.okY ["self"] λcdv A' outer s H vs Q E hr nD0 h=>?_;obtain⟨L,q,rfl,hq,hl,qq⟩:=h;refine⟨_,aC (aQ (dC ["letter"] [("self",0)] ⋯ (bT K (dI ac6 T.aa0 ‹18› aZ (pv 0))) ‹39› (λC s2 H2 ex=>(gY (aR uR ‹25› ‹62› (bD _)))) (λC s2 H2 ex=>‹25›))),?_⟩;obtain⟨dx,h1⟩:=hq.self;refine⟨_,rfl,L.qu,dx,_,rfl,h1,rfl,L,q,rfl,hq,hl,λms0 perm pw p H1 S1 d1=>?_⟩;obtain⟨ms,hms⟩:∃ms,ms=ms0.filter (hW q.hs):=⟨_,rfl⟩;rw[<- hms]at d1;have d1':=d1;simp only[Den]at d1';obtain⟨_,xs,e1,g1,dx1⟩:=d1';cases e1;have lx:=dx1.length;rw[length_map]at lx;have pl:=perm.length_eq;rw[length_map]at pl;have pl2:ms.length<=ms0.length:=by rw[hms]; exact length_filter_le _ _
 refine⟨p,rfl,⟨_,SqL.of g1⟩,?_⟩;refine fQ (bS (K:=K) (SqL.of g1)) (by rw[lx]; exact le_of_lt (lt_of_le_of_lt (show _<=q.B.es.length by omega) (lt_trans hl.1 (by decide)))) (λj=>ltB (fT q.B.es (ms.getD j 0)) q.tries) (λj=>V.int (ms.getD j 0)) (λσ=>∃z,σ = [z,some (.ref L.qu)]) ?z0 ?_ ?_
 case z0=>exact⟨none,rfl⟩
 ·intro j x σc H3 hj hσ s3 hx Q1 Q2 Q3 h2' h3';obtain⟨z,rfl⟩:=hσ;obtain⟨d,hd,dn⟩:=dx1.get hx;rw[getElem?_map]at hd;cases ej:ms[j]? with
  | none=>rw[ej]at hd; cases hd
  | some n=>
   rw[ej]at hd;cases (Option.some.inj hd:hJ q.B.es n=d);obtain⟨t,b,rfl,gt,gb⟩:=pI dn;have eg:ms.getD j 0=n:=by rw[getD_eq_getElem?_getD,ej]; rfl
   rw[eg]at h2' h3';refine⟨_,rfl,t,_,_,.int (fT q.B.es n),rfl,rfl,SqT.of (s3 _ _ gt),aT (by decide) rfl,_,rfl,L.qu,_,dx,_,_,rfl,s3 _ _ (S1 _ _ h1),T.aa0,T.bd2,rfl,_,_,rfl,rfl,_,rfl,?_⟩;show if ltB (fT q.B.es n) q.tries=true then _ else _
   cases hb:ltB (fT q.B.es n) q.tries with
   | true=>exact aU ⟨_,rfl,t,_,_,.int n,rfl,rfl,SqT.of (s3 _ _ gt),aT (by decide) rfl,h2' _ ⟨_,rfl⟩ hb⟩
   | false=>exact bB (h3' _ ⟨_,rfl⟩ hb)
 intro D H2 hD S2 g2;rw[lx,gE ms (λn=>ltB (fT q.B.es n) q.tries)]at g2;rw[hms]at g2;exact qq ms0 perm pw D H2 (S1.trans S2) (S1.free hD) g2
def Es(F:Fun K "dead" "Queue.dead" Ar f fd)(T:‹3›)(ac6:‹16› A.queue "free_letters" 3 ["self"] (mX A)):‹14› 4 f fd ["self"] (gO A geB):=by
 refine F.okY ["self"] λcdv A' outer s H vs Q E hr nD0 h=>?_;obtain⟨L,q,rfl,hq,hl,qq⟩:=h;refine⟨_,aC (aQ (dC ["letter"] [("self",0)] ⋯ (bT K (dI ac6 T.aa0 ‹18› aZ (pv 0))) ‹39› (λC s2 H2 ex=>(gY (aR Gs ‹25› ‹62› (bD _)))) (λC s2 H2 ex=>‹25›))),?_⟩;obtain⟨dx,h1⟩:=hq.self;refine⟨_,rfl,L.qu,dx,_,rfl,h1,rfl,L,q,rfl,hq,hl,λms0 perm pw p H1 S1 d1=>?_⟩;obtain⟨ms,hms⟩:∃ms,ms=ms0.filter (hW q.hs):=⟨_,rfl⟩;rw[<- hms]at d1;have d1':=d1;simp only[Den]at d1';obtain⟨_,xs,e1,g1,dx1⟩:=d1';cases e1;have lx:=dx1.length;rw[length_map]at lx;have pl:=perm.length_eq;rw[length_map]at pl;have pl2:ms.length<=ms0.length:=by rw[hms]; exact length_filter_le _ _
 refine⟨p,rfl,⟨_,SqL.of g1⟩,?_⟩;refine fQ (bS (K:=K) (SqL.of g1)) (by rw[lx]; exact le_of_lt (lt_of_le_of_lt (show _<=q.B.es.length by omega) (lt_trans hl.1 (by decide)))) (λj=>geB (fT q.B.es (ms.getD j 0)) q.tries) (λj=>V.int (ms.getD j 0)) (λσ=>∃z,σ = [z,some (.ref L.qu)]) ?z0 ?_ ?_
 case z0=>exact⟨none,rfl⟩
 ·intro j x σc H3 hj hσ s3 hx Q1 Q2 Q3 h2' h3';obtain⟨z,rfl⟩:=hσ;obtain⟨d,hd,dn⟩:=dx1.get hx;rw[getElem?_map]at hd;cases ej:ms[j]? with
  | none=>rw[ej]at hd; cases hd
  | some n=>
   rw[ej]at hd;cases (Option.some.inj hd:hJ q.B.es n=d);obtain⟨t,b,rfl,gt,gb⟩:=pI dn;have eg:ms.getD j 0=n:=by rw[getD_eq_getElem?_getD,ej]; rfl
   rw[eg]at h2' h3';refine⟨_,rfl,t,_,_,.int (fT q.B.es n),rfl,rfl,SqT.of (s3 _ _ gt),aT (by decide) rfl,_,rfl,L.qu,_,dx,_,_,rfl,s3 _ _ (S1 _ _ h1),T.aa0,T.bd2,rfl,_,_,rfl,rfl,_,rfl,?_⟩;show if geB (fT q.B.es n) q.tries=true then _ else _
   cases hb:geB (fT q.B.es n) q.tries with
   | true=>exact aU ⟨_,rfl,t,_,_,.int n,rfl,rfl,SqT.of (s3 _ _ gt),aT (by decide) rfl,h2' _ ⟨_,rfl⟩ hb⟩
   | false=>exact bB (h3' _ ⟨_,rfl⟩ hb)
 intro D H2 hD S2 g2;rw[lx,gE ms (λn=>geB (fT q.B.es n) q.tries)]at g2;rw[hms]at g2;exact qq ms0 perm pw D H2 (S1.trans S2) (S1.free hD) g2
end
abbrev Ao:Stmt:=bI (top 55) 20
abbrev xH:Stmt:=bI (top 55) 21
abbrev xD:Stmt:=bI (top 55) 22
abbrev xA:Stmt:=bI (top 55) 19
def cA(rs:L8):Ls:=(rs.map λr=>iG r.1 r.2.1 r.2.2).flatten
def hV(q:Qs):Ls:=(aW q.D.fs (bJ q.last)).getD []
def u9(q:Qs)(bs:Ls):Bool:=!decide (q.B.up > 999999) && decide ((bs.length:Int) ≥ q.most)
def vM(q:Qs):Qs:={ q with D:=tY (mkN q.D (bJ (q.last+1))) (bJ (q.last+1)) (iG "from" q.B.up []) 7,last:=q.last+1 }
def aV(q:Qs):Qs:=if u9 q (hV q)=true then vM q else q
def mT(q:Qs)(bs:Ls)(B:Bk):Qs:={ q with D:=tY q.D (bJ q.last) (hV q++bs) bs.length,B:=B }
structure WOk(q:Qs)(k:Nat):Prop where
 left:q.D.left=none
 last:eX q.last
 nxt:eX (q.last+1)
 here:∃bs,aW q.D.fs (bJ q.last)=some bs
 new:aW q.D.fs (bJ (q.last+1))=none
 len:∀n bs,aW q.D.fs n=some bs->bs.length<=100000
 files:q.D.fs.length<90000
 up:0<=q.B.up
 ents:q.B.es.length+q.B.parts.length+k<900
inductive pZ(A:Ad)(vs:L6)(H:Hp)(Q:VK)(x_3:XK):Prop
 | mk:∀(L:Pl)(q:Qs)(wr:Bool)(bs:Ls),vs=[.ref L.qu]->QueueW A H L q wr->eX q.last->aW q.D.fs (bJ q.last)=some bs->(∀H',aH H H'->Q (.bl (u9 q bs)) H')->pZ A vs H Q x_3
inductive nW(A:Ad)(vs:L6)(H:Hp)(Q:VK)(x_3:XK):Prop
 | mk:∀(L:Pl)(q:Qs)(wr:Bool),vs=[.ref L.qu]->QueueW A H L q wr->q.D.left=none->eX (q.last+1)->aW q.D.fs (bJ (q.last+1))=none->q.D.fs.length<100000->(∀n bs,aW q.D.fs n=some bs->bs.length<=100000)->0<=q.B.up->q.B.up<=999999->(∀L' H',Step L L' H H'->QueueW A H' L' (vM q) wr->Q .non H')->nW A vs H Q x_3
inductive kU(A:Ad)(vs:L6)(H:Hp)(Q:VK)(x_3:XK):Prop
 | mk:∀(L:Pl)(q:Qs)(wr:Bool)(bs:Ls),vs=[.ref L.qu]->QueueW A H L q wr->q.D.left=none->eX q.first->aW q.D.fs (bJ q.first)=some bs->(∀L' H',Step L L' H H'->QueueW A H' L' { q with D:=EM q.D (bJ q.first),first:=q.first+1 } wr->Q .non H')->kU A vs H Q x_3
inductive nT(A:Ad)(vs:L6)(H:Hp)(Q:VK)(x_3:XK):Prop
 | mk:∀(L:Pl)(q:Qs)(a:Addr)(rs:L8)(B':Bk),vs=[.ref L.qu,.ref a]->QueueW A H L q false->WOk q rs.length->(¬ eQ L a)->Den H (.list (rs.map cC)) (.ref a)->(∀r∈rs,bK (cC r)=true)->dG (aV q).last (aV q).B rs=some B'->(∀L' H',Step L L' H H'->QueueW A H' L' (mT (aV q) (cA rs) B') false->Q .non H')->nT A vs H Q x_3
section
variable{P:Program}{w:World}{K:Ln}{mg:Lp}{base:Heap}{A:Ad}
def Ep(F:Fun K "is_last_full" "Queue.is_last_full" Ao f fd)(T:‹3›)(ab2:‹9›)(al3:‹16› A.disk "size" 4 ["self","name"] (oM A.disk A.badName A.missing)):‹14› 5 f fd ["self"] (pZ A):=by
 obtain⟨_,ac7⟩:=T.ad0;refine F.okY ["self"] λcdv A' outer s H vs Q E hr nD0 h=>?_;obtain⟨L,q,wr,bs,rfl,hq,hn,hbs,qq⟩:=h;refine⟨_,aA (a8 (aR nK (nZ ‹22› ⋯) (cM (v:=.int 999999) ⋯ ac7 ⟨_,rfl⟩) (bD _))
   ‹61›
   aO)
  (aC (aQ (gA Gs (cO al3 T.ad3 ‹18› bP ‹22› (cG ‹90› aG)) ‹22› (bD _)))),?_⟩
 obtain⟨dx,h1⟩:=hq.self;obtain⟨db,h2⟩:=hq.book.self;obtain⟨dd,h3⟩:=hq.disk.self;unfold u9 at qq;refine⟨_,rfl,L.qu,_,dx,_,_,rfl,h1,T.aa0,T.ad8,rfl,L.bk,_,db,_,_,rfl,h2,T.ac5,T.ab7,rfl,_,_,rfl,rfl,_,rfl,?_⟩;show if decide (q.B.up > 999999)=true then _ else _
 by_cases hu:q.B.up > 999999
 ·rw[if_pos (decide_eq_true hu)];rw[decide_eq_true hu]at qq;exact qq H (aH.refl H)
 ·rw[if_neg (by rw[decide_eq_true_eq]; exact hu)];rw[decide_eq_false hu]at qq;refine cP rfl ?_;refine⟨_,rfl,L.qu,_,dx,_,_,rfl,h1,T.aa0,T.ap4,rfl,L.dk,dd,_,rfl,h3,rfl,_,rfl,L.qu,_,dx,_,_,rfl,h1,T.aa0,T.aj8,rfl,q.last,rfl,hn,gP (AY hq.disk hn hbs λH1 S1=>?_)⟩;exact⟨_,rfl,L.qu,_,dx,_,_,rfl,S1 _ _ h1,T.aa0,T.bj6,rfl,_,_,rfl,rfl,qq H1 S1⟩
def Cp(F:Fun K "begin_segment" "Queue.begin_segment" xH f fd)(T:‹3›)(ab2:‹9›)(ac0:‹15› "row_bytes" 4 ["row"] (fF A.badRow))(al4:‹16› A.disk "make" 3 ["self","name"] (oP A.disk A.badName A.there A.stopped))(ah4:‹6›):‹14› 5 f fd ["self"] (nW A):=by
 refine F.okY ["self","some","name"] λcdv A' outer s H vs Q E hr nD0 h=>?_;obtain⟨L,q,wr,rfl,hq,hl,hn,hno,hf,hz,u0,u1,qq⟩:=h;refine⟨_,aA (aX (i:=1) nD0 ⋯ ⋯ (bC ac0 ‹18› bP (bV (bE (aN bH (gB (nZ ‹22› ⋯) ‹46›))) aG)))
  (aA (aX (i:=2) nD0 ⋯ ⋯ (bC ab2 ‹18› aZ (bQ (bA cU ‹22› aI) aG)))
  (aA (aY (cO al4 T.ad3 ‹18› bP ‹22› ‹37›))
  (aA (aY (cO ah4 T.ad3 ‹18› bP ‹22› (aE (pv 2) ‹26›)))
  ‹68›))),?_⟩
 obtain⟨dx,h1⟩:=hq.self;obtain⟨db,h2⟩:=hq.book.self;refine⟨_,rfl,L.qu,_,dx,_,_,rfl,h1,T.aa0,T.ad8,rfl,L.bk,_,db,_,_,rfl,h2,T.ac5,T.ab7,rfl,aJ,λp0 hp0=>⟨aJ,λp1 hp1=>?_⟩⟩;obtain⟨H1,eUU,S1,g0⟩:=gUU (o:=.tup []) hp0;rw[eUU]at hp1 ⊢;obtain⟨H2,eUU,S2,g1⟩:=gUU (o:=.tup [.str "from",.int q.B.up,.ref p0]) hp1;rw[eUU];have fo:=EI u0 u1;refine gP (CD (r:=("from",q.B.up,[])) ?_ fo λpb H3 S3 g3=>?_)
 ·unfold cC fM;simp only[Den,aP];exact⟨p1,_,rfl,g1,_,_,rfl,rfl,_,_,rfl,rfl,_,_,rfl,⟨p0,[],rfl,S2 _ _ g0,rfl⟩,rfl⟩
 have S03:=S1.trans (S2.trans S3);have hq3:=hq.same S03;refine⟨_,rfl,L.qu,_,dx,_,_,rfl,S03 _ _ h1,T.aa0,T.aj8,rfl,_,_,rfl,rfl,q.last+1,rfl,hn,?_⟩;obtain⟨dd,h4⟩:=hq3.disk.self;refine⟨_,rfl,L.qu,_,dx,_,_,rfl,S03 _ _ h1,T.aa0,T.ap4,rfl,L.dk,dd,_,rfl,h4,rfl,_,rfl,gP (AZ hq3.disk hl hn hf hno λkvs' H4 f4 w4 hD4=>?_)⟩;obtain⟨hq4,st4⟩:=hq3.toDisk f4 w4 hD4;obtain⟨dx4,h14⟩:=hq4.self;obtain⟨dd4,h44⟩:=hq4.disk.self;have hlk:aW (mkN q.D (bJ (q.last+1))).fs (bJ (q.last+1))=some []:=by
  show aW (q.D.fs++[(bJ (q.last+1),[])]) (bJ (q.last+1))=some [];rw[pE _ _ _ _ hno,if_pos rfl]
 refine⟨_,rfl,L.qu,_,dx4,_,_,rfl,h14,T.aa0,T.ap4,rfl,L.dk,dd4,_,rfl,h44,rfl,_,rfl,_,rfl,gP (yY hD4 rfl hn hlk (λm bs hm=>?_) (st4.tup _ _ g3) (lE fo) (by rw[eC]; show 7<=100000; decide) λH5 f5 hD5=>?_)⟩
 ·have hm:aW (q.D.fs++[(bJ (q.last+1),[])]) m=some bs:=hm;rw[pE _ _ _ _ hno]at hm;split at hm
  ·cases hm;exact zero_le _
  ·exact hz m bs hm
 obtain⟨hq5,st5⟩:=hq4.toDisk f5 (λb h=>.inl h) hD5;obtain⟨dx5,h15⟩:=hq5.self;have hlen:(iG "from" q.B.up []).length=7:=by rw[eC]; rfl
 refine⟨_,rfl,L.qu,_,dx5,_,_,rfl,h15,T.aa0,T.aj8,rfl,_,_,rfl,rfl,dx5,_,h15,by show 10<1000; decide,?_⟩;obtain⟨hq6,st6⟩:=hq5.fields (dx:=dx5) (vM q) wr (by rw[hlen]; rfl) rfl rfl;exact qq _ _ ((aH.step S03).trans (st4.trans (st5.trans st6))) hq6
def Cl(F:Fun K "drop_first" "Queue.drop_first" xD f fd)(T:‹3›)(ab2:‹9›)(al5:‹16› A.disk "drop" 4 ["self","name"] (oR A.disk A.badName A.missing A.stopped)):‹14› 5 f fd ["self"] (kU A):=by
 refine F.okY ["self"] λcdv A' outer s H vs Q E hr nD0 h=>?_;obtain⟨L,q,wr,bs,rfl,hq,hl,hn,hb,qq⟩:=h;refine⟨_,aA (aY (cO al5 T.ad3 ‹18› bP ‹22› (cG ‹90› aG)))
  ‹68›,?_⟩
 obtain⟨dx,h1⟩:=hq.self;obtain⟨dd,h4⟩:=hq.disk.self;refine⟨_,rfl,L.qu,_,dx,_,_,rfl,h1,T.aa0,T.ap4,rfl,L.dk,dd,_,rfl,h4,rfl,_,rfl,L.qu,_,dx,_,_,rfl,h1,T.aa0,T.ai7,rfl,q.first,rfl,hn,gP (Fn hq.disk hl hn hb λkvs' H4 f4 w4 hD4=>?_)⟩;obtain⟨hq4,st4⟩:=hq.toDisk f4 w4 hD4;obtain⟨dx4,h14⟩:=hq4.self;refine⟨_,rfl,L.qu,_,dx4,_,_,rfl,h14,T.aa0,T.ai7,rfl,_,_,rfl,rfl,dx4,_,h14,by show 10<1000; decide,?_⟩;obtain⟨hq6,st6⟩:=hq4.fields (dx:=dx4) { q with D:=EM q.D (bJ q.first),first:=q.first+1 } wr rfl rfl rfl;exact qq _ _ (st4.trans st6) hq6
end
def o7:hG "writing" (.bl b) (quF L q a)=quF L q b:=rfl
def CQ(rs:L8)(r:Rw):cA (rs++[r])=cA rs++iG r.1 r.2.1 r.2.2:=by
 unfold cA;rw[map_append,List.flatten_append];simp
def xM(h:∀r∈rs,bK (cC r)=true):(cA rs).length<=68 * rs.length:=by
 unfold cA
 induction rs with
 | nil=>exact le_refl _
 | cons r rs ih=>
  rw[map_cons,List.flatten_cons,length_append,eC,length_cons];have h1:=ih (λx hx=>h x (mem_cons_of_mem _ hx));have h2:=qH (h r mem_cons_self);omega
def A5(h:∀r∈rs,bK (cC r)=true):∀b∈cA rs,0<=b/\b<=255:=by
 intro b hb;unfold cA at hb;rw[List.mem_flatten]at hb;obtain⟨l,hl,hb⟩:=hb;rw[mem_map]at hl;obtain⟨r,hr,rfl⟩:=hl;exact lE (h r hr) b hb
def lN(q:Qs)(h:aW q.D.fs (bJ (q.last+1))=none)(m:Str):aW (vM q).D.fs m=if m=bJ (q.last+1) then some (iG "from" q.B.up []) else aW q.D.fs m:=by
 show aW (fA (q.D.fs++[(bJ (q.last+1),[])]) (bJ (q.last+1)) (iG "from" q.B.up [])) m=_;rw[BU,pE _ _ _ _ h,pE _ _ _ _ h];by_cases z:m=bJ (q.last+1)
 ·rw[if_pos z,if_pos z,if_pos rfl];rfl
 ·rw[if_neg z,if_neg z,if_neg z]
structure NOk(q:Qs):Prop where
 left:q.D.left=none
 last:eX q.last
 here:aW q.D.fs (bJ q.last)=some (hV q)
 len:∀n bs,aW q.D.fs n=some bs->bs.length<=100000
def uZ(h:aW q.D.fs (bJ q.last)=some bs):hV q=bs:=by
 unfold hV;rw[h];rfl
def WOk.next(h:WOk q k):NOk (aV q)/\(aV q).B=q.B:=by
 unfold aV;split
 ·refine⟨⟨rfl,h.nxt,?_,λn bs e=>?_⟩,rfl⟩
  ·have e:=lN q h.new (bJ (q.last+1));rw[if_pos rfl]at e;have e2:hV (vM q)=iG "from" q.B.up []:=uZ e;rw[e2];exact e
  ·rw[lN q h.new]at e;split at e
   ·cases e;rw[eC];decide
   ·exact h.len n bs e
 ·obtain⟨bs,hb⟩:=h.here;exact⟨⟨h.left,h.last,by rw[uZ hb]; exact hb,h.len⟩,rfl⟩
section
variable{P:Program}{w:World}{K:Ln}{mg:Lp}{base:Heap}{A:Ad}
def Cg(F:Fun K "write" "Queue.write" xA f fd)(T:‹3›)(ab2:‹9›)(ac0:‹15› "row_bytes" 4 ["row"] (fF A.badRow))(af1:‹15› "make_good" 6 ["disk"] spg)(ah4:‹6›)(ai8:‹16› A.book "enter" 3 ["self","row","segment"] (oQ A.book A.broken))(ah5:‹16› A.queue "is_last_full" 5 ["self"] (pZ A))(ag6:‹16› A.queue "begin_segment" 5 ["self"] (nW A)):‹14› 7 f fd ["self","rows"] (nT A):=by
 refine F.okY ["self","rows","some","row"] λcdv A' outer s H vs Q E hr nD0 h=>?_;obtain⟨L,q,a,rs,B',rfl,hq,ok,na,da,hrs,hfo,qq⟩:=h;refine⟨_,aA (aX (i:=2) nD0 ⋯ ⋯ (bE aG))
  (aA (fZ (lW eJ) ⋯ (bT K (pv 1)) ‹53›
   (aC (aX (i:=2) nD0 ⋯ ⋯ (bA jI (pv 2) (bC ac0 ‹18› bP ‹47›)))))
  (aA (a8 (dH ‹22›)
   (aC (aY (bC af1 ‹18› bP ‹77›)))
   aO)
  (aA (dS (pv 0) Ds ⋯)
  (aA (a8 (dH (dI ah5 T.aa0 ‹18› bP (pv 0)))
   (aC (aY (dI ag6 T.aa0 ‹18› bP (pv 0))))
   aO)
  (aA (aY (cO ah4 T.ad3 ‹18› bP ‹22› (cG ‹90› ‹37›)))
  (aA (dS (pv 0) Ds ⋯)
  (aC (fZ (lW eJ) ⋯ (bT K (pv 1)) ‹53›
   (aC (aY (cO ai8 T.ac5 ‹18› bP ‹22› (aE (pv 3) ‹77›)))))))))))),?_⟩
 have da':=da;simp only[Den]at da';obtain⟨_,xs,e,ga,dxs⟩:=da';cases e;have lx:=dxs.length;rw[length_map]at lx;refine⟨aJ,new_o λp0 H1 S1 g0=>?_⟩;refine⟨_,rfl,a,rfl,⟨_,SqL.of (S1 _ _ ga)⟩,?_⟩;refine gC (bS (K:=K) (SqL.of (S1 _ _ ga))) (λi σ H'=>aH H1 H'/\∃pa z3,H' pa=some (.tup ((cA (rs.take i)).map V.int))/\σ = [some (.ref L.qu),some (.ref a),some (.ref pa),z3]) ?i0 (λ_ _ _ h=>h.1) ?_ ?_
 case i0=>exact⟨aH.refl _,p0,none,g0,rfl⟩
 ·rintro i x σ H5 H6 hi ⟨s5,pa,z3,g5,rfl⟩ s6 hx;obtain⟨d,hd,dn⟩:=dxs.get hx;rw[getElem?_map]at hd;cases ej:rs[i]? with
  | none=>rw[ej]at hd; cases hd
  | some r=>
   rw[ej]at hd;cases (Option.some.inj hd:cC r=d);have hr':=hrs r (mem_of_getElem? ej);have et:rs.take (i+1)=rs.take i++[r]:=by
    rw[take_succ,ej];rfl
   refine⟨_,rfl,_,rfl,gP (CD (dn.same (S1.trans (s5.trans s6))) hr' λpb H7 S7 g7=>?_)⟩;refine⟨pa,pb,_,_,rfl,rfl,S7 _ _ (s6 _ _ g5),g7,?_,λp8 H8 S8 g8=>?_⟩
   ·have h1:=xM (rs:=rs.take i) (λr h=>hrs r (List.mem_of_mem_take h));have h2:=qH hr';have h3:=ok.ents;rw[length_map,length_map,eC];rw[length_take]at h1;refine le_trans (m:=100000) ?_ (by decide);omega
   ·refine⟨s5.trans (s6.trans (S7.trans S8)),p8,_,?_,rfl⟩;rw[et,CQ,map_append];exact g8
 rintro σ H2 ⟨S2,pa,z3,g2,rfl⟩;rw[show rs.take xs.length=rs by rw[lx,take_length]]at g2;have S02:=S1.trans S2;have hq2:=hq.same S02;obtain⟨dx,h1⟩:=hq2.self;obtain⟨bs,hbs⟩:=ok.here;refine⟨_,rfl,L.qu,_,dx,_,_,rfl,h1,T.aa0,T.an6,rfl,_,rfl,bB (cP rfl ?_)⟩;refine⟨_,rfl,L.qu,_,dx,_,rfl,h1,T.aa0,T.an6,by show 10<1000; decide,?_⟩;rw[o7];obtain⟨hq3,st3⟩:=hq2.fields (dx:=dx) q true rfl rfl rfl;generalize upd H2 L.qu (.ins A.queue dx (quF L q true))=H3 at hq3 st3 ⊢;obtain⟨dx3,h13⟩:=hq3.self;have st03:Step L L H H3:=(aH.step S02).trans st3;have gp3:=st3.tup _ _ g2;obtain⟨nok,nB⟩:=ok.next
 try dsimp only
 refine JJ (λσ' H'=>σ'=[some (.ref L.qu),some (.ref a),some (.ref pa),z3]/\H' pa=some (.tup ((cA rs).map V.int))/\∃L4,Step L L4 H H'/\QueueW A H' L4 (aV q) true) (λn hn=>?_) ?_
 ·refine⟨_,rfl,L.qu,dx3,_,rfl,h13,rfl,L,q,true,bs,rfl,hq3,ok.last,hbs,λH4 S4=>⟨_,rfl,?_⟩⟩;have hq4:=hq3.same S4;obtain⟨dx4,h14⟩:=hq4.self;have el:hV q=bs:=uZ hbs;cases hb:u9 q bs with
  | true=>
   refine aU ?_;have hu:q.B.up<=999999:=by
    unfold u9 at hb;simp only[and_eq_true,Bool.not_eq_true',decide_eq_false_iff_not]at hb;omega
   refine⟨_,rfl,L.qu,dx4,_,rfl,h14,rfl,L,q,true,rfl,hq4,ok.left,ok.nxt,ok.new,lt_trans ok.files (by decide),ok.len,ok.up,hu,λL5 H5 st5 hq5=>?_⟩;refine hn _ _ ⟨rfl,st5.tup _ _ (S4 _ _ gp3),L5,st03.trans ((aH.step S4).trans st5),?_⟩;unfold aV;rw[el,if_pos hb];exact hq5
  | false=>
   refine bB (cP rfl (hn _ _ ⟨rfl,S4 _ _ gp3,L,st03.trans (aH.step S4),?_⟩));unfold aV;rw[el,if_neg (by rw[hb]; decide)];exact hq4
 rintro _ H5 ⟨rfl,gp5,L5,st5,hq5⟩;have hent:(aV q).B.es.length+(aV q).B.parts.length+rs.length<900:=by rw[nB]; exact ok.ents
 generalize aV q=r at *;obtain⟨dx5,h15⟩:=hq5.self;obtain⟨dd5,h45⟩:=hq5.disk.self;rw[st5.qu]at h15;have lb:(cA rs).length<=100000:=by
  have h1:=xM hrs;have h3:=ok.ents;omega
 refine⟨_,rfl,L.qu,_,dx5,_,_,rfl,h15,T.aa0,T.ap4,rfl,L5.dk,dd5,_,rfl,h45,rfl,_,rfl,L.qu,_,dx5,_,_,rfl,h15,T.aa0,T.aj8,rfl,r.last,rfl,nok.last,_,rfl,gP (yY hq5.disk nok.left nok.last nok.here nok.len gp5 (A5 hrs) lb λH6 f6 hD6=>?_)⟩;obtain⟨hq6,st6⟩:=hq5.toDisk f6 (λb h=>.inl h) hD6;obtain⟨dx6,h16⟩:=hq6.self;have h16:H6 L5.qu=some (.ins A.queue dx6 (quF L5 { r with D:=tY r.D (bJ r.last) (hV r++cA rs) (cA rs).length } true)):=h16;have h16':=h16;rw[st5.qu]at h16';refine⟨_,rfl,L.qu,_,dx6,_,rfl,h16',T.aa0,T.an6,by show 10<1000; decide,?_⟩;rw[o7];have hq6:QueueW A H6 L5 { r with D:=tY r.D (bJ r.last) (hV r++cA rs) (cA rs).length } true:=hq6;have st6:Step L5 L5 H5 H6:=st6;obtain⟨hq7,st7⟩:=hq6.fields (dx:=dx6) { r with D:=tY r.D (bJ r.last) (hV r++cA rs) (cA rs).length } false rfl rfl rfl;rw[st5.qu]at hq7 st7;generalize upd H6 L.qu (.ins A.queue dx6 (quF L5 { r with D:=tY r.D (bJ r.last) (hV r++cA rs) (cA rs).length } false))=H7 at hq7 st7 ⊢;have st07:Step L L5 H H7:=st5.trans (st6.trans st7);have ga7:=st07.frm _ _ ga na;refine⟨_,rfl,a,rfl,⟨_,SqL.of ga7⟩,?_⟩;refine gC (H0:=λc=>if c=a then some (.lst xs) else none) (bS (K:=K) (SqL.of (if_pos rfl))) (λj σ H'=>∃Lj Bj z3,Step L Lj H H'/\QueueW A H' Lj (mT r (cA rs) Bj) false/\Bj.es.length+Bj.parts.length<=r.B.es.length+r.B.parts.length+j/\dG r.last r.B rs=dG r.last Bj (rs.drop j)/\σ = [some (.ref L.qu),some (.ref a),some (.ref pa),z3]) ?j0 ?kp ?_ ?_
 case j0=>exact⟨L5,r.B,_,st07,hq7,le_refl _,rfl,rfl⟩
 case kp=>
  rintro j σ H' ⟨Lj,Bj,z,st,_⟩ b o eb;by_cases y:b=a
  ·subst y;have eb:some (HO.lst xs)=some o:=by simpa using eb
   rw[<- eb];exact st.frm _ _ ga na
  ·have eb:none=some o:=by simpa [y] using eb
   cases eb
 ·rintro j y σ G1 G2 hj ⟨Lj,Bj,z,stj,hqj,hle,hfj,rfl⟩ sG hy;obtain⟨d,hd,dn⟩:=dxs.get hy;rw[getElem?_map]at hd;cases ej:rs[j]? with
  | none=>rw[ej]at hd; cases hd
  | some ro=>
   rw[ej]at hd;cases (Option.some.inj hd:cC ro=d);have jL:j<rs.length:=(List.getElem?_eq_some_iff.mp ej).1;have edj:rs.drop j=ro::rs.drop (j+1):=by
    rw[List.drop_eq_getElem_cons jL,(List.getElem?_eq_some_iff.mp ej).2]
   rw[edj]at hfj;have efold:dG r.last Bj (ro::rs.drop (j+1))=match dF Bj ro.1 ro.2.1 ro.2.2 r.last with | none=>none | some B'=>dG r.last B' (rs.drop (j+1)):=rfl
   obtain⟨t,b,rfl,gt,gb⟩:=o6 dn;have st2:=stj.trans (aH.step sG);have dn':Den G2 (fM ro.1 ro.2.1 ro.2.2) (.ref t):=yF st2.tup (lD _ _ _) dn;have hq2:=hqj.same sG;obtain⟨dxj,h1j⟩:=hq2.self;obtain⟨dbj,h2j⟩:=hq2.book.self;rw[stj.qu]at h1j;refine⟨_,rfl,L.qu,_,dxj,_,_,rfl,h1j,T.aa0,T.ad8,rfl,Lj.bk,dbj,_,rfl,h2j,rfl,_,rfl,_,rfl,L.qu,_,dxj,_,_,rfl,h1j,T.aa0,T.aj8,rfl,Lj.bk,Lj.de,Lj.dp,t,Bj,ro.1,ro.2.1,r.last,ro.2.2,rfl,hq2.book,dn',hrs ro (mem_of_getElem? ej),by omega,λB2 hB2 dq H8 f8 hdq hB8=>?_,λhno=>?_⟩
   ·obtain⟨hq8,st8⟩:=hq2.toBook f8 hdq hB8;refine⟨_,B2,_,st2.trans st8,hq8,?_,?_,rfl⟩
    ·have:=C8 hB2;omega
    ·rw[hfj,efold,hB2]
   ·rw[hfj,efold,hno]at hfo;cases hfo
 ·rintro σ H8 ⟨Lj,Bj,z,stj,hqj,hle,hfj,rfl⟩;rw[lx,List.drop_of_length_le (le_refl _)]at hfj;rw[hfj]at hfo;cases (Option.some.inj hfo:Bj=B');exact qq Lj H8 stj hqj
end
abbrev DU:Stmt:=bI (top 55) 1
abbrev uE:Stmt:=bI (top 55) 2
abbrev mB:Stmt:=top 46
def eK{A:Ad}{H:Hp}{L:Pl}{q:Qs}{wr:Bool}(h:QueueW A H L q wr){b:Addr}(hb:eQ L b):∃o,H b=some o:=by
 obtain⟨dx,h1⟩:=h.self;obtain⟨hk,h2,_⟩:=h.held;obtain⟨db,h3⟩:=h.book.self;obtain⟨kb,h4,_⟩:=h.book.ent;obtain⟨ps,h5,_⟩:=h.book.par;rcases hb with z | z | (z | z | z) | z
 ·exact⟨_,by rw[z]; exact h1⟩
 ·exact⟨_,by rw[z]; exact h2⟩
 ·exact⟨_,by rw[z]; exact h3⟩
 ·exact⟨_,by rw[z]; exact h4⟩
 ·exact⟨_,by rw[z]; exact h5⟩
 ·exact qL h.disk z
def mS(d:PyData):Bool:=bK (.tuple [.str "put",.int 0,d])
def jN:PyData->Bool
 | .tuple ds=>decide (1<=ds.length) && (decide (ds.length<=9) && ds.all mS)
 | _=>false
def CN(d:PyData):Prop:=∀bs,d = .tuple bs->bs.length<=1000
def zJ{k:Str}{n:Int}{body:Ls}(hk:k = "put"\/k = "part")(h0:0<=n)(h1:n<=999999)(hb:dQ body)(hl:body.length<=60):bK (cC (k,n,body))=true:=by
 have hc:cT.contains k=true:=by rcases hk with rfl | rfl <;> decide +kernel
 show (cT.contains k && (bO 0 999999 (.int n) && (cW (.tuple (body.map .int)) && fB k (bM (.tuple (body.map .int))))))=true;have e1:bO 0 999999 (.int n)=true:=by
  simp only[bO,and_eq_true,decide_eq_true_eq];exact⟨h0,h1⟩
 have e2:cW (.tuple (body.map .int))=true:=pS hb;have e3:fB k body=true:=by
  unfold fB;rw[if_pos hk];exact decide_eq_true hl
 rw[hc,e1,e2,fP,e3];rfl
def Jd{n:Int}{m:Nat}(h0:0<=n)(h1:n<=999999)(m1:1<=m)(m9:m<=9):bK (cC ("deal",n,[(m:Int)]))=true:=by
 show (cT.contains "deal" && (bO 0 999999 (.int n) && (cW (.tuple [.int (m:Int)]) && fB "deal" (bM (.tuple [.int (m:Int)])))))=true;have e1:bO 0 999999 (.int n)=true:=by
  simp only[bO,and_eq_true,decide_eq_true_eq];exact⟨h0,h1⟩
 have e2:cW (.tuple [.int (m:Int)])=true:=pS (ns:=[(m:Int)]) (λb hb=>by rw[mem_singleton.mp hb]; omega);have e3:fB "deal" (bM (.tuple [.int (m:Int)]))=true:=by
  show fB "deal" [(m:Int)]=true;unfold fB;rw[if_neg (by decide),if_neg (by decide),if_pos rfl];show (decide (1=1) && decide (1<=(m:Int)) && decide ((m:Int)<=9))=true;rw[decide_eq_true (show 1<=(m:Int) by omega),decide_eq_true (show (m:Int)<=9 by omega)];rfl
 rw[e1,e2,e3];decide +kernel
def yP(h:mS d=true):∃body:Ls,d = .tuple (body.map .int)/\dQ body/\body.length<=60:=by
 obtain⟨k,n,bs,e,hk,_,_,hb,hf⟩:=oE h;injection e with e
 injection e with e1 e
 injection e with _ e
 injection e with e3 e
 injection e1 with e1
 subst e1;have hb':cW (.tuple bs)=true:=hb;refine⟨bM (.tuple bs),?_,oG hb',?_⟩
 ·rw[e3];have:bs=(bM (.tuple bs)).map .int:=by
   rw[all_eq_true]at hb;show bs=(bs.map _).map _;rw[map_map]
   conv=>lhs; rw[<- List.map_id bs]
   apply map_congr_left;intro x hx;have:=hb x hx;cases x with
   | int i=>rfl
   | _=>simp [bO]at this
  rw[<- this]
 ·unfold fB at hf;rw[if_pos (.inl rfl)]at hf;exact of_decide_eq_true hf
inductive iC(A:Ad)(vs:L6)(H:Hp)(Q:VK)(E:XK):Prop
 | mk:∀(v:V)(d:PyData),vs=[v]->Den H d v->(∀ds,d = .tuple ds->ds.length<=1000/\∀e∈ds,CN e)->(jN d=true->∀H',aH H H'->Q .non H')->(jN d=false->∀H',aH H H'->E (.ref A.badBody) none H')->iC A vs H Q E
def putQ(q:Qs)(body:Ls)(B':Bk):Qs:=mT (aV q) (cA [("put",q.B.up,body)]) B'
inductive oO(A:Ad)(vs:L6)(H:Hp)(Q:VK)(E:XK):Prop
 | mk:∀(L:Pl)(q:Qs)(v:V)(d:PyData),vs=[.ref L.qu,v]->QueueW A H L q false->Den H d v->CN d->(mS d=false->∀H',aH H H'->E (.ref A.badBody) none H')->(∀body:Ls,d = .tuple (body.map .int)->dQ body->body.length<=60->WOk q 1/\q.B.up<=999999/\∃B',dG (aV q).last (aV q).B [("put",q.B.up,body)]=some B'/\∀L' H',Step L L' H H'->QueueW A H' L' (putQ q body B') false->Q (.int q.B.up) H')->oO A vs H Q E
def i3(up:Int)(bss:Lq):L8:=(List.range bss.length).map λ(k:Nat)=>("part",up+(k:Int),bss.getD k [])
def jM(up:Int)(bss:Lq):L8:=i3 up bss++([("deal",up,[(bss.length:Int)])]:L8)
def allQ(q:Qs)(bss:Lq)(B':Bk):Qs:=mT (aV q) (cA (jM q.B.up bss)) B'
def dZ(bss:Lq):Lw:=bss.map λb=>.tuple (b.map .int)
def nL(up:Int)(n:Nat):Ls:=(List.range n).map λ(k:Nat)=>up+(k:Int)
inductive jC(A:Ad)(vs:L6)(H:Hp)(Q:VK)(E:XK):Prop
 | mk:∀(L:Pl)(q:Qs)(v:V)(d:PyData),vs=[.ref L.qu,v]->QueueW A H L q false->Den H d v->(∀ds,d = .tuple ds->ds.length<=1000/\∀e∈ds,CN e)->(jN d=false->∀H',aH H H'->E (.ref A.badBody) none H')->(∀bss:Lq,d = .tuple (dZ bss)->1<=bss.length->bss.length<=9->(∀b∈bss,dQ b/\b.length<=60)->WOk q (bss.length+1)/\q.B.up+(bss.length:Int)<=1000000/\∃B',dG (aV q).last (aV q).B (jM q.B.up bss)=some B'/\∀p L' H',Step L L' H H'->QueueW A H' L' (allQ q bss B') false->¬ eQ L' p->(H p=none\/eQ L p)->H' p=some (.lst ((nL q.B.up bss.length).map V.int))->Q (.ref p) H')->jC A vs H Q E
def B0{ds:Lw}(h:ds.all mS=true):∃bss:Lq,ds=dZ bss/\∀b∈bss,dQ b/\b.length<=60:=by
 induction ds with
 | nil=>exact⟨[],rfl,(λb hb=>by cases hb)⟩
 | cons d ds ih=>
  rw[all_cons,and_eq_true]at h;obtain⟨bss,e,hb⟩:=ih h.2;obtain⟨b,e1,h1,h2⟩:=yP h.1;refine⟨b::bss,by rw[e,e1]; rfl,λx hx=>?_⟩;rcases mem_cons.mp hx with rfl | hx
  ·exact⟨h1,h2⟩
  ·exact hb x hx
section
variable{P:Program}{w:World}{K:Ln}{mg:Lp}{base:Heap}{A:Ad}
def sA(F:Fun K "check_bodies" "check_bodies" mB f fd)(T:‹3›)(ae2:‹15› "check_body" 4 ["body"] (gW A)):‹14› 5 f fd ["bodies"] (iC A):=by
 obtain⟨_,ah3⟩:=T.ai6;refine F.okY ["bodies","body"] λcdv A' outer s H vs Q E hr nD0 h=>?_;obtain⟨v,d,rfl,hd,hz,q,qe⟩:=h;refine⟨_,aA (a8 (mC (cR (dH ‹28›)) (iY (cR (uK i5 i5 aI ‹29› (cM (v:=.int 9) ⋯ ah3 ⟨_,rfl⟩))))).pt
   (aC (dW eV ⋯ T.aj6 ⋯ T.be5 ‹24›))
   aO)
  (aC (fZ (lW eJ) ⋯ (zL K (pv 0)) (bG (i:=1) nD0 ⋯ ⋯)
   (aC (aY (bC ae2 ‹18› bP ‹26›))))),?_⟩
 have one:(1:Nat)<=sizeLine:=by decide
 refine⟨_,rfl,_,_,_,_,rfl,hd.ty,qP d,_,rfl,?_⟩;cases d with
 | none=>exact aU (aU ⟨one,qe rfl H (aH.refl H)⟩)
 | bool x=>exact aU (aU ⟨one,qe rfl H (aH.refl H)⟩)
 | int x=>exact aU (aU ⟨one,qe rfl H (aH.refl H)⟩)
 | str x=>exact aU (aU ⟨one,qe rfl H (aH.refl H)⟩)
 | list x=>exact aU (aU ⟨one,qe rfl H (aH.refl H)⟩)
 | dict x=>exact aU (aU ⟨one,qe rfl H (aH.refl H)⟩)
 | tuple ds=>
 refine bB ?_;obtain⟨z1,z2⟩:=hz ds rfl;have hd':=hd;simp only[Den]at hd';obtain⟨a,xs,rfl,ha,hds⟩:=hd';have hl:=hds.length;refine⟨_,rfl,a,_,rfl,.inr (SqT.of ha),_,_,rfl,rfl,_,rfl,?_⟩;rw[hl];unfold jN at q qe;dsimp only at q qe;by_cases h1:1<=ds.length
 case neg=>
  rw[decide_eq_false h1,Bool.false_and]at qe;rw[if_neg (by rw[decide_eq_true_eq]; omega)];exact⟨_,rfl,aU ⟨one,qe rfl H (aH.refl H)⟩⟩
 rw[decide_eq_true h1,Bool.true_and]at q qe;rw[if_pos (decide_eq_true (by omega))];refine⟨_,_,rfl,rfl,_,rfl,?_⟩;show if (!decide ((ds.length:Int)<=9))=true then _ else _
 by_cases h2:ds.length<=9
 case neg=>
  rw[decide_eq_false h2,Bool.false_and]at qe;rw[decide_eq_false (by omega)];exact aU ⟨one,qe rfl H (aH.refl H)⟩
 rw[decide_eq_true h2,Bool.true_and]at q qe;rw[decide_eq_true (show (ds.length:Int)<=9 by omega)];refine bB (cP rfl ?_);refine⟨_,rfl,a,rfl,⟨_,SqT.of ha⟩,?_⟩;refine gC (sI (K:=K) (SqT.of ha)) (λi σ H'=>aH H H'/\(ds.take i).all mS=true/\∃z,σ = [some (.ref a),z]) ?i0 (λ_ _ _ h=>h.1) ?_ ?_
 case i0=>exact⟨aH.refl _,rfl,none,rfl⟩
 ·rintro i x σ H5 H6 hi ⟨s5,hall,z,rfl⟩ s6 hx;obtain⟨e,he,dn⟩:=hds.get hx;have S6:=s5.trans s6;have ein:e∈ds:=mem_of_getElem? he;refine⟨_,rfl,x,e,rfl,dn.same S6,λbs eb=>le_trans (z2 e ein bs eb) (by decide),λhb H7 S7=>?_,λhb H7 S7=>?_⟩
  ·refine⟨S6.trans S7,?_,_,rfl⟩;rw[take_succ,he,List.all_append,hall];show (true && (mS e && true))=true;have:mS e=true:=hb;rw[this];rfl
  ·refine qe ?_ H7 (S6.trans S7);rw[<- Bool.not_eq_true,all_eq_true];intro hall';have:mS e=true:=hall' e ein;have hb:mS e=false:=hb;rw[this]at hb;cases hb
 ·rintro σ H5 ⟨s5,hall,z,rfl⟩;rw[hl,take_length]at hall;exact q hall H5 s5
def Gu(F:Fun K "put" "Queue.put" DU f fd)(T:‹3›)(ae2:‹15› "check_body" 4 ["body"] (gW A))(ab6:‹4›):‹14› 8 f fd ["self","body"] (oO A):=by
 refine F.okY ["self","body","number"] λcdv A' outer s H vs Q E hr nD0 h=>?_;obtain⟨L,q,v,d,rfl,hq,dv,hz,qe,qg⟩:=h;refine⟨_,aA (aY (bC ae2 ‹18› bP ‹26›))
  (aA (aX (i:=2) nD0 ⋯ ⋯ (nZ ‹22› ⋯))
  (aA (aY (cO ab6 T.aa0 ‹18› bP (pv 0) (fH (cD (bV (bE (aN bH (aE (pv 2) ‹26›))) aG)) aG)))
  (aC (aQ (pv 2))))),?_⟩
 refine⟨_,rfl,v,d,rfl,dv,(λbs e=>le_trans (hz bs e) (by decide)),λhg H1 S1=>?_,λhb H1 S1=>qe hb H1 S1⟩;obtain⟨body,rfl,hb,hl⟩:=yP hg;obtain⟨ok,hu,B',hfo,qq⟩:=qg body rfl hb hl;have hrow2:bK (cC ("put",q.B.up,body))=true:=zJ (.inl rfl) ok.up hu hb hl;have hq1:=hq.same S1;obtain⟨dx,h1⟩:=hq1.self;obtain⟨db,h2⟩:=hq1.book.self;refine⟨_,rfl,L.qu,_,dx,_,_,rfl,h1,T.aa0,T.ad8,rfl,L.bk,_,db,_,_,rfl,h2,T.ac5,T.ab7,rfl,?_⟩;refine⟨_,rfl,L.qu,dx,_,rfl,h1,rfl,_,rfl,_,rfl,aJ,λp1 hp1=>⟨aJ,λp2 hp2=>?_⟩⟩;obtain⟨H2,eUU,S2,g1⟩:=gUU (o:=.tup [.str "put",.int q.B.up,v]) hp1;rw[eUU]at hp2 ⊢;obtain⟨H3,eUU,S3,g2⟩:=gUU (o:=.lst [.ref p1]) hp2;rw[eUU];have S13:=S2.trans S3;have hq3:=hq1.same S13;refine⟨L,q,p2,[("put",q.B.up,body)],B',rfl,hq3,ok,λz=>?_,?_,λr hr'=>?_,hfo,λL' H' st hq'=>⟨_,rfl,qq L' H' ((aH.step (S1.trans S13)).trans st) hq'⟩⟩
 ·obtain⟨o,e⟩:=eK (hq1.same S2) z;rw[e]at hp2;cases hp2
 ·simp only[Den,map_cons,map_nil,aP];refine⟨p2,_,rfl,g2,_,_,rfl,?_,rfl⟩;unfold cC fM;simp only[Den,aP];refine⟨p1,_,rfl,S3 _ _ g1,_,_,rfl,rfl,_,_,rfl,rfl,_,_,rfl,?_,rfl⟩;have:=dv.same (S1.trans S13);simp only[Den]at this;exact this
 ·rcases mem_cons.mp hr' with rfl | z
  ·exact hrow2
  ·cases z
def BL{f:Addr}{fd:Lx}(F:Fun K "put_all" "Queue.put_all" uE f fd)(T:‹3›)(ai9:‹15› "check_bodies" 5 ["bodies"] (iC A))(ab6:‹4›):‹14› 8 f fd ["self","bodies"] (jC A):=by
 refine F.okY ["self","bodies","first","parts"] λcdv A' outer s H vs Q E hr nD0 h=>?_;obtain⟨L,q,v,d,rfl,hq,dv,hz,qe,qg⟩:=h;refine⟨_,aA (aY (bC ai9 ‹18› bP ‹26›))
  (aA (aX (i:=2) nD0 ⋯ ⋯ (nZ ‹22› ⋯))
  (aA (lG (i:=3) ["number","body"] [] nD0 ⋯ ⋯ ⋯ (Gh K T.af9 (pv 1) (pv 2)) (λC s2 H2 ex=>(iK K (n:=2) (cJ (bG (i:=0) (show List.Nodup (["number","body"]:Lu) by decide +kernel) ⋯ (Or.inl ⋯)) (cJ (bG (i:=1) (show List.Nodup (["number","body"]:Lu) by decide +kernel) ⋯ (Or.inl ⋯)) iJ)))) ‹40› (λC s2 H2 ex=>(bE (aN bH (aE (pv 0) ‹26›)))))
  (aA (aY (cO ab6 T.aa0 ‹18› bP (pv 0) (bQ (bA Cc (pv 3) (cD (bV (bE (aN bH (aE (pv 2) (bV (bE (cG ‹75› aG)) aG)))) aG))) aG)))
  (aC (aQ (dC ["part"] [] ⋯ (bT K (pv 3)) (λC s2 H2 ex=>(bG (i:=0) (show List.Nodup (["part"]:Lu) by decide +kernel) ⋯ (Or.inl ⋯))) ‹40› (λC s2 H2 ex=>‹25›))))))),?_⟩
 refine⟨_,rfl,v,d,rfl,dv,hz,λhg H1 S1=>?_,λhb H1 S1=>qe hb H1 S1⟩;cases d with
 | tuple ds=>
 simp only[jN,and_eq_true,decide_eq_true_eq]at hg;obtain⟨g1,g9,gall⟩:=hg;obtain⟨bss,rfl,hbss⟩:=B0 gall;have lb:(dZ bss).length=bss.length:=length_map _;rw[lb]at g1 g9;obtain⟨ok,hu,B',hfo,qq⟩:=qg bss rfl g1 g9 hbss;have hq1:=hq.same S1;obtain⟨dx,h1⟩:=hq1.self;obtain⟨db,h2⟩:=hq1.book.self;have dv1:=dv.same S1;simp only[Den]at dv1;obtain⟨a,xs,rfl,ha,dxs⟩:=dv1;have lx:=dxs.length;rw[lb]at lx;refine⟨_,rfl,L.qu,_,dx,_,_,rfl,h1,T.aa0,T.ad8,rfl,L.bk,_,db,_,_,rfl,h2,T.ac5,T.ab7,rfl,?_⟩;refine⟨_,rfl,_,rfl,a,_,q.B.up,rfl,rfl,ok.up,by omega,SqT.of ha,?_⟩;refine c9 (tH (K:=K) q.B.up (SqT.of ha)) (by rw[lx]; exact le_trans g9 (by decide)) (λi y H'=>Den H' (cC ("part",q.B.up+(i:Int),bss.getD i [])) y) (λi y G1 G2 s h=>h.n s (lD _ _ _)) (λσ=>σ.length=2) ?z0 ?_ ?_
 case z0=>rfl
 ·intro i x σc H3 hi hσ s3 hx Q' hQ';obtain⟨p,u,rfl,hp,hv⟩:=hx;obtain⟨e,he,dn⟩:=dxs.get hv;rw[lx]at hi;have eb:bss[i]? = some (bss.getD i []):=by rw[getD_eq_getElem?_getD,getElem?_eq_getElem hi]; rfl
  unfold dZ at he;rw[getElem?_map,eb]at he;cases (Option.some.inj he:PyData.tuple ((bss.getD i []).map .int)=e)
  match σc,hσ with
  | [z1,z2],_=>
   refine⟨p,_,rfl,SqT.of hp,rfl,_,_,rfl,_,_,rfl,rfl,?_⟩;refine⟨_,rfl,_,rfl,aJ,λpt hpt=>?_⟩;refine hQ' _ _ _ rfl (aD hpt) ?_;unfold cC fM;simp only[Den,aP];refine⟨pt,_,rfl,aB,_,_,rfl,rfl,_,_,rfl,rfl,_,_,rfl,?_,rfl⟩;have:=dn.same (s3.trans (aD (o:=.tup [.str "part",.int (q.B.up+(i:Int)),u]) hpt));simp only[Den]at this;exact this
 intro D ys H2 hD S2 gD hlen hR;rw[lx]at hlen;have S02:=S1.trans S2;have hq2:=hq.same S02;refine⟨_,rfl,L.qu,dx,_,rfl,S2 _ _ h1,rfl,_,rfl,_,rfl,_,rfl,a,_,rfl,.inr (SqT.of (S2 _ _ ha)),aJ,λt1 ht1=>⟨aJ,λt2 ht2=>⟨aJ,λl3 hl3=>?_⟩⟩⟩;rw[lx]at ht2 hl3 ⊢;obtain⟨H3,eUU,U1,u1⟩:=gUU (o:=.tup [.int (bss.length:Int)]) ht1;rw[eUU]at ht2 hl3 ⊢;obtain⟨H4,eUU,U2,u2⟩:=gUU (o:=.tup [.str "deal",.int q.B.up,.ref t1]) ht2;rw[eUU]at hl3 ⊢;obtain⟨H5,eUU,U3,u3⟩:=gUU (o:=.lst [.ref t2]) hl3;rw[eUU];have S25:=U1.trans (U2.trans U3);refine⟨D,l3,ys,_,rfl,rfl,S25 _ _ gD,u3,?_,λpc hpc=>?_⟩
 ·rw[hlen];exact le_trans (show _<=10 by simp; omega) (by decide)
 obtain⟨H6,eUU,U4,u4⟩:=gUU (o:=.lst (ys++[.ref t2])) hpc;rw[eUU];have S26:=S25.trans U4;have hq6:=hq2.same S26;have dl:(jM q.B.up bss).length=bss.length+1:=by
  unfold jM i3;rw[length_append,length_map,length_range];rfl
 refine⟨L,q,pc,jM q.B.up bss,B',rfl,hq6,by rw[dl]; exact ok,λz=>?_,?_,λr hr'=>?_,hfo,λL' H7 st hq7=>?_⟩
 ·obtain⟨o,e⟩:=eK (hq2.same S25) z;rw[e]at hpc;cases hpc
 ·simp only[Den];refine⟨pc,_,rfl,u4,jK (by rw[length_map,dl,length_append,hlen]; rfl) λi y e=>?_⟩;by_cases hi:i<ys.length
  ·rw[getElem?_append_left hi]at e;refine⟨cC ("part",q.B.up+(i:Int),bss.getD i []),?_,(hR i y e).same S26⟩;unfold jM i3;rw[getElem?_map,getElem?_append_left (by rw[length_map,length_range]; omega),getElem?_map,getElem?_range (by omega)];rfl
  ·rw[getElem?_append_right (by omega)]at e;have hi2:i - ys.length=0:=by
    have:=(List.getElem?_eq_some_iff.mp e).1;rw[List.length_singleton]at this;omega
   rw[hi2]at e;cases (Option.some.inj e:V.ref t2=y);refine⟨cC ("deal",q.B.up,[(bss.length:Int)]),?_,?_⟩
   ·unfold jM i3;rw[getElem?_map,getElem?_append_right (by rw[length_map,length_range]; omega),length_map,length_range,show i - bss.length=0 by omega];rfl
   ·unfold cC fM;simp only[Den,aP,map_cons,map_nil];exact⟨t2,_,rfl,U4 _ _ (U3 _ _ u2),_,_,rfl,rfl,_,_,rfl,rfl,_,_,rfl,⟨t1,_,rfl,U4 _ _ (U3 _ _ (U2 _ _ u1)),_,_,rfl,rfl,rfl⟩,rfl⟩
 ·unfold jM i3 at hr';rw[mem_append]at hr';rcases hr' with z | z
  ·rw[mem_map]at z;obtain⟨k,hk,rfl⟩:=z;rw[mem_range]at hk;have hb:=hbss (bss.getD k []) (by rw[getD_eq_getElem?_getD,getElem?_eq_getElem hk]; exact List.getElem_mem hk);have:=ok.up;exact zJ (.inr rfl) (by omega) (by omega) hb.1 hb.2
  ·rw[mem_singleton.mp z];exact Jd ok.up (by omega) g1 g9
 have nD:¬ eQ L D:=λz=>by
  obtain⟨o,e⟩:=eK hq1 z;rw[e]at hD;cases hD
 have g7:=st.frm _ _ (S26 _ _ gD) nD;refine⟨_,rfl,D,rfl,⟨_,SqL.of g7⟩,?_⟩;refine c9 (bS (K:=K) (SqL.of g7)) (by rw[hlen]; exact le_trans g9 (by decide)) (λi y _=>y = .int (q.B.up+(i:Int))) (λ_ _ _ _ _ h=>h) (λσ=>σ.length=1) ?z1 ?_ ?_
 case z1=>rfl
 ·intro i x σc H8 hi hσ s8 hx Q' hQ';obtain⟨t,b,rfl,gt,gb⟩:=o6 (hR i x hx)
  match σc,hσ with
  | [z],_=>
   refine⟨_,rfl,t,_,_,.int (q.B.up+(i:Int)),rfl,rfl,SqT.of (s8 _ _ (st.tup _ _ (S26 _ _ gt))),aT (by decide) rfl,?_⟩;exact hQ' _ _ _ rfl (aH.refl _) rfl
 intro p zs H9 hp S9 g9' hlz hRz;have ez:zs=(nL q.B.up bss.length).map V.int:=by
  apply ext_getElem?;intro j;cases ej:zs[j]? with
  | none=>
   have h1:=List.getElem?_eq_none_iff.mp ej;rw[List.getElem?_eq_none_iff.mpr];unfold nL;rw[length_map,length_map,length_range];omega
  | some y=>
   have hj:j<bss.length:=by
    have:=(List.getElem?_eq_some_iff.mp ej).1;omega
   rw[hRz j y ej];unfold nL;rw[getElem?_map,getElem?_map,getElem?_range hj];rfl
 rw[ez]at g9';refine qq p L' H9 ((aH.step (S02.trans S26)).trans (st.trans (aH.step S9))) (hq7.same S9) (λz=>?_) ?_ g9'
 ·obtain⟨o,e⟩:=eK hq7 z;rw[e]at hp;cases hp
 ·by_cases z:eQ L p
  ·exact .inr z
  ·refine .inl ?_;cases e:H p with
   | none=>rfl
   | some o=>
    rw[st.frm _ _ ((S02.trans S26) _ _ e) z]at hp;cases hp
 | _=>simp [jN]at hg
end
abbrev Al:Stmt:=bI (top 55) 3
abbrev As:Stmt:=bI (top 55) 5
abbrev xF:Stmt:=bI (top 55) 18
abbrev uD:Stmt:=bI (top 55) 7
def fU(q:Qs)(ms:Ls):Ls:=(ms.filter (hW q.hs)).filter λn=>ltB (fT q.B.es n) q.tries
def lT(q:Qs)(ms:Ls):Ls:=(ms.filter (hW q.hs)).filter λn=>geB (fT q.B.es n) q.tries
def outQ(q:Qs)(n:Int)(x:Str)(B':Bk):Qs:={ mT (aV q) (cA [("out",n,[])]) B' with hs:=q.hs++[(n,(x,q.now))] }
def newQ(q:Qs)(n:Int)(B':Bk):Qs:=mT (aV q) (cA [("new",n,[])]) B'
def KD(q:Qs)(n:Int):Qs:={ q with hs:=dropH q.hs n }
inductive mW(A:Ad)(vs:L6)(H:Hp)(Q:VK)(x_3:XK):Prop
 | mk:∀(L:Pl)(q:Qs)(x:Str)(ms:Ls),vs=[.ref L.qu,.str x]->QueueW A H L q false->(q.B.es.length<800/\(q.B.es.map (·.1)).Pairwise (· <= ·))->q.hs.length<900->eT x5 6 (.str x)=true->(x.length<=1000/\pV x=true)->List.Perm ms (q.B.es.map (·.1))->ms.Pairwise (· <= ·)->(fU q ms=[]->∀H',aH H H'->Q .non H')->(∀n r,fU q ms=n::r->WOk q 1/\0<=n/\n<=999999/\∃B' e,dG (aV q).last (aV q).B [("out",n,[])]=some B'/\bN B'.es n=some e/\∀p L' H',Step L L' H H'->QueueW A H' L' (outQ q n x B') false->Den H' (lX n e) (.ref p)->Q (.ref p) H')->mW A vs H Q x_3
inductive jB(A:Ad)(vs:L6)(H:Hp)(Q:VK)(E:XK):Prop
 | mk:∀(L:Pl)(q:Qs)(v:V)(d:PyData)(ms:Ls),vs=[.ref L.qu,v]->QueueW A H L q false->(q.B.es.length<800/\(q.B.es.map (·.1)).Pairwise (· <= ·))->Den H d v->List.Perm ms (q.B.es.map (·.1))->ms.Pairwise (· <= ·)->((∀n∈lT q ms,bO 0 999999 (.int n)=true->d ≠ .int n)->∀H',aH H H'->E (.ref A.badNumber) none H')->(∀n,d = .int n->n∈lT q ms->0<=n->n<=999999->WOk q 1/\∃B',dG (aV q).last (aV q).B [("new",n,[])]=some B'/\∀L' H',Step L L' H H'->QueueW A H' L' (newQ q n B') false->Q .non H')->jB A vs H Q E
def nE(ns:Ls):(ns.map V.int).all nQ=true:=by
 rw[all_map];exact all_eq_true.mpr λ_ _=>rfl
def pK(n:Int)(ns:Ls):inV (.int n) (ns.map V.int)=decide (n∈ns):=by
 unfold inV;rw[List.any_map];by_cases h:n∈ns
 ·rw[decide_eq_true h,any_eq_true];exact⟨n,h,beq_self_eq_true n⟩
 ·rw[decide_eq_false h,<- Bool.not_eq_true,any_eq_true];rintro ⟨x,hx,e⟩;have e:(x == n)=true:=e;rw[beq_iff_eq]at e;rw[e]at hx;exact h hx
def AR(hk:k = "out"\/k = "new"\/k = "done")(h0:0<=n)(h1:n<=999999):bK (cC (k,n,[]))=true:=by
 have e1:bO 0 999999 (.int n)=true:=by
  simp only[bO,and_eq_true,decide_eq_true_eq];exact⟨h0,h1⟩
 show (cT.contains k && (bO 0 999999 (.int n) && (cW (.tuple []) && fB k (bM (.tuple [])))))=true;rw[e1];rcases hk with rfl | rfl | rfl <;> decide +kernel
def QueueW.toHeld(h:QueueW A H L q wr)(r:HoR H hs' hk'):QueueW A (upd H L.hd (.dK hk')) L { q with hs:=hs' } wr/\Step L L H (upd H L.hd (.dK hk')):=by
 obtain⟨dx,h1⟩:=h.self;obtain⟨hk,h2,h3⟩:=h.held;have t:fR H (upd H L.hd (.dK hk')):=kQ h2 (λxs z=>by cases z);refine⟨⟨⟨dx,by rw[aF (λz=>h.a_hd.1 z.symm)]; exact h1⟩,h.disk.keep λb o e hb=>?_,h.book.keep (λb o e hb=>?_) t,⟨hk',aB,r.t t⟩,h.a_bd,h.a_qu,h.a_hd⟩,⟨rfl,rfl,λb o e nb=>by rw[aF (λz=>nb (.inr (.inl z)))]; exact e,λb hb=>.inl hb,t⟩⟩
 ·rw[aF (λz=>by rw[z]at hb; exact h.a_hd.2.2 hb)];exact e
 ·rw[aF (λz=>by rw[z]at hb; exact h.a_hd.2.1 hb)];exact e
def cZ(q:Qs):(aV q).now=q.now/\(aV q).hs=q.hs/\(aV q).tries=q.tries/\(aV q).B=q.B:=by
 unfold aV;split <;> exact⟨rfl,rfl,rfl,rfl⟩
section
variable{P:Program}{w:World}{K:Ln}{mg:Lp}{base:Heap}{A:Ad}
def Eo(F:Fun K "take" "Queue.take" Al f fd)(T:‹3›)(ae3:‹15› "check_hand" 2 ["hand"] (gU A))(ac9:‹12›)(ag7:‹16› A.queue "ready" 4 ["self"] (gO A ltB))(ab6:‹4›):‹14› 8 f fd ["self","hand"] (mW A):=by
 refine F.okY ["self","hand","numbers","number"] λcdv A' outer s H vs Q E hr nD0 h=>?_;obtain⟨L,q,x,ms,rfl,hq,hl,hh,hw,hz,perm,pw,qn,qs⟩:=h;refine⟨_,aA (aY (bC ae3 ‹18› bP ‹26›))
  (aA (aX (i:=2) nD0 ⋯ ⋯ (dI ag7 T.aa0 ‹18› aZ (pv 0)))
  (aA (a8 (cR (iZ K (pv 2)))
   ‹67›
   aO)
  (aA (aX (i:=3) nD0 ⋯ ⋯ (cF (cK K) (pv 2) aI (λ_ _=>rfl)))
  (aA (aY (cO ab6 T.aa0 ‹18› bP (pv 0) (fH (cD (bV (bE (aN bH (aE (pv 3) ‹46›))) aG)) aG)))
  (aA (fS (hu1 hr.units) ‹22› (pv 3) (bE (aE (pv 1) ‹77›)) ⋯)
  (aC (aQ (cO ac9 T.ac5 ‹18› aZ ‹22› ‹47›)))))))),?_⟩
 refine⟨_,rfl,.str x,.str x,rfl,by simp only[Den],(λy e=>by injection e with e; rw[<- e]; exact hz),λ_ H1 S1=>?_,(λz=>by rw[hw]at z; cases z)⟩;have hq1:=hq.same S1;obtain⟨dx,h1⟩:=hq1.self;refine⟨_,rfl,L.qu,dx,_,rfl,h1,rfl,L,q,rfl,hq1,hl,λms' perm' pw' p H2 S2 hp g2=>?_⟩;have em:ms'=ms:=dM (perm'.trans perm.symm) pw' pw;subst em;have g2:H2 p=some (.lst ((fU q ms').map V.int)):=g2;cases er:fU q ms' with
 | nil=>
  rw[er]at g2;exact⟨_,rfl,p,_,rfl,SqL.of g2,aU (qn er H2 (S1.trans S2))⟩
 | cons n r=>
  rw[er]at g2;obtain⟨ok,n0,n9,B',e,hfo,hle,qq⟩:=qs n r er;refine⟨_,rfl,p,_,rfl,SqL.of g2,bB (cP rfl ?_)⟩;refine⟨_,rfl,p,_,_,.int n,rfl,rfl,SqL.of g2,aT (by decide) rfl,?_⟩;have S12:=S1.trans S2;have hq2:=hq.same S12;obtain⟨dx2,h2⟩:=hq2.self;refine⟨_,rfl,L.qu,dx2,_,rfl,h2,rfl,_,rfl,aJ,λp0 hp0=>⟨aJ,λp1 hp1=>⟨aJ,λp2 hp2=>?_⟩⟩⟩;obtain⟨H3,eUU,V0,v0⟩:=gUU (o:=.tup []) hp0;rw[eUU]at hp1 hp2 ⊢;obtain⟨H4,eUU,V1,v1⟩:=gUU (o:=.tup [.str "out",.int n,.ref p0]) hp1;rw[eUU]at hp2 ⊢;obtain⟨H5,eUU,V2,v2⟩:=gUU (o:=.lst [.ref p1]) hp2;rw[eUU];have S25:=V0.trans (V1.trans V2);have hq5:=hq2.same S25;refine⟨L,q,p2,[("out",n,[])],B',rfl,hq5,ok,λz=>?_,?_,λr hr'=>?_,hfo,λL' H6 st hq6=>?_⟩
  ·obtain⟨o,e⟩:=eK (hq2.same (V0.trans V1)) z;rw[e]at hp2;cases hp2
  ·simp only[Den,map_cons,map_nil,aP];refine⟨p2,_,rfl,v2,_,_,rfl,?_,rfl⟩;unfold cC fM;simp only[Den,aP,map_nil];exact⟨p1,_,rfl,V2 _ _ v1,_,_,rfl,rfl,_,_,rfl,rfl,_,_,rfl,⟨p0,_,rfl,V2 _ _ (V1 _ _ v0),rfl⟩,rfl⟩
  ·rw[mem_singleton.mp hr'];exact AR (.inl rfl) n0 n9
  obtain⟨nn,nh,_,_⟩:=cZ q;have st05:=(aH.step (S12.trans S25)).trans st;obtain⟨dx6,h6⟩:=hq6.self;obtain⟨hk,g6,r6⟩:=hq6.held;rw[show (mT (aV q) (cA [("out",n,[])]) B').hs=q.hs from nh]at r6;rw[st.qu]at h6;refine⟨_,rfl,_,rfl,L.qu,_,dx6,_,_,rfl,h6,T.aa0,T.ba9,rfl,aJ,λpt hpt=>?_⟩;have nowE:(mT (aV q) (cA [("out",n,[])]) B').now=q.now:=nn;rw[nowE];obtain⟨H7,eUU,V6,v6⟩:=gUU (o:=.tup [.str x,.int q.now]) hpt;rw[eUU];have fr:bU q.hs n=none:=by
   have hm:n∈fU q ms':=by rw[er]; exact mem_cons_self
   have:=(mem_filter.mp (mem_filter.mp hm).1).2;exact Option.isNone_iff_eq_none.mp this
  have ev:=(r6.look (n:=n)).1 fr;have ep:eF hk (Sum.inl n) (V.ref pt)=hk++[(Sum.inl n,V.ref pt)]:=by
   unfold eF;rw[oH,ev];rfl
  have hkl:hk.length<sizeLine:=by
   rw[r6.len];exact lt_trans hh (by decide)
  refine⟨_,rfl,L.qu,_,dx6,_,_,rfl,V6 _ _ h6,T.aa0,T.ac4,rfl,_,rfl,L'.hd,_,rfl,kP.k (k:=Sum.inl n) (V6 _ _ g6) hkl,?_⟩;rw[ep];obtain⟨hq8,st8⟩:=(hq6.same V6).toHeld (HoR.snoc v6 (r6.t (aH.tup V6)):HoR H7 (q.hs++[(n,(x,q.now))]) (hk++[(Sum.inl n,.ref pt)]));generalize upd H7 L'.hd (.dK (hk++[(Sum.inl n,.ref pt)]))=H8 at hq8 st8 ⊢;obtain⟨dx8,h8⟩:=hq8.self;obtain⟨db8,hb8⟩:=hq8.book.self;rw[st.qu]at h8;refine⟨_,rfl,L.qu,_,dx8,_,_,rfl,h8,T.aa0,T.ad8,rfl,L'.bk,db8,_,rfl,hb8,rfl,_,rfl,L'.bk,L'.de,L'.dp,B',n,e,rfl,hq8.book,hle,λpr H9 S9 d9=>?_⟩;exact qq pr L' H9 (st05.trans ((aH.step V6).trans (st8.trans (aH.step S9)))) (hq8.same S9) d9
def BK(F:Fun K "revive" "Queue.revive" uD f fd)(T:‹3›)(ab1:‹2›)(aj0:‹16› A.queue "dead" 4 ["self"] (gO A geB))(ab6:‹4›):‹14› 8 f fd ["self","number"] (jB A):=by
 obtain⟨_,ac7⟩:=T.ad0;refine F.okY ["self","number"] λcdv A' outer s H vs Q E hr nD0 h=>?_;obtain⟨L,q,v,d,ms,rfl,hq,hl,dv,perm,pw,qe,qs⟩:=h;refine⟨_,aA (a8 (mC (cR (dH (bC ab1 ‹18› aZ (aE (pv 1) ‹43›)))) (iY (aR (kH K) (pv 1) (dI aj0 T.aa0 ‹18› aZ (pv 0)) ⋯))).pt
   ‹84›
   aO)
  (aC (aY (cO ab6 T.aa0 ‹18› bP (pv 0) (fH (cD (bV (bE (aN bH (aE (pv 1) ‹46›))) aG)) aG)))),?_⟩
 have fail:bO 0 999999 d=false->∀H',aH H H'->E (.ref A.badNumber) none H':=λz=>qe (λn _ hn e=>by rw[e,hn]at z; cases z);refine⟨_,rfl,v,d,0,999999,rfl,dv,_,rfl,?_⟩;cases hn:bO 0 999999 d with
 | false=>
  refine aU (aU ?_);exact⟨aJ,fail hn H (aH.refl H)⟩
 | true=>
  obtain⟨n,rfl,n0,n9⟩:∃n,d = .int n/\0<=n/\n<=999999:=by
   cases d with
   | int n=>
    simp only[bO,and_eq_true,decide_eq_true_eq]at hn;exact⟨n,rfl,hn.1,hn.2⟩
   | _=>cases hn
  simp only[Den]at dv;subst dv;obtain⟨dx,h1⟩:=hq.self;refine bB ⟨_,rfl,_,rfl,L.qu,dx,_,rfl,h1,rfl,L,q,rfl,hq,hl,λms' perm' pw' p H2 S2 hp g2=>?_⟩;have em:ms'=ms:=dM (perm'.trans perm.symm) pw' pw;subst em;have g2:H2 p=some (.lst ((lT q ms').map V.int)):=g2;refine⟨p,_,rfl,.inl (SqL.of g2),rfl,nE _,_,rfl,?_⟩;rw[if_pos rfl,pK];by_cases hd:n∈lT q ms'
  ·rw[decide_eq_true hd];refine bB (cP rfl ?_);obtain⟨ok,B',hfo,qq⟩:=qs n rfl hd n0 n9;have hq2:=hq.same S2;obtain⟨dx2,h2⟩:=hq2.self;refine⟨_,rfl,L.qu,dx2,_,rfl,h2,rfl,_,rfl,aJ,λp0 hp0=>⟨aJ,λp1 hp1=>⟨aJ,λp2 hp2=>?_⟩⟩⟩;obtain⟨H3,eUU,V0,v0⟩:=gUU (o:=.tup []) hp0;rw[eUU]at hp1 hp2 ⊢;obtain⟨H4,eUU,V1,v1⟩:=gUU (o:=.tup [.str "new",.int n,.ref p0]) hp1;rw[eUU]at hp2 ⊢;obtain⟨H5,eUU,V2,v2⟩:=gUU (o:=.lst [.ref p1]) hp2;rw[eUU];have S25:=V0.trans (V1.trans V2);have hq5:=hq2.same S25;refine⟨L,q,p2,[("new",n,[])],B',rfl,hq5,ok,λz=>?_,?_,λr hr'=>?_,hfo,λL' H6 st hq6=>qq L' H6 ((aH.step (S2.trans S25)).trans st) hq6⟩
   ·obtain⟨o,e⟩:=eK (hq2.same (V0.trans V1)) z;rw[e]at hp2;cases hp2
   ·simp only[Den,map_cons,map_nil,aP];refine⟨p2,_,rfl,v2,_,_,rfl,?_,rfl⟩;unfold cC fM;simp only[Den,aP,map_nil];exact⟨p1,_,rfl,V2 _ _ v1,_,_,rfl,rfl,_,_,rfl,rfl,_,_,rfl,⟨p0,_,rfl,V2 _ _ (V1 _ _ v0),rfl⟩,rfl⟩
   ·rw[mem_singleton.mp hr'];exact AR (.inr (.inl rfl)) n0 n9
  ·rw[decide_eq_false hd];refine aU ⟨aJ,?_⟩;exact qe (λm hm _ e=>by injection e with e; rw[e]at hd; exact hd hm) H2 S2
end
abbrev Aq:Stmt:=bI (top 55) 4
abbrev xB:Stmt:=bI (top 55) 15
abbrev rN:Stmt:=bI (top 36) 7
def KC(q:Qs)(n:Int)(B':Bk):Qs:={ mT (aV q) (cA [("done",n,[])]) B' with hs:=dropH q.hs n }
def lR(q:Qs):Qs:={ q with D:=EM q.D (bJ q.first),first:=q.first+1 }
def vR(es:L7)(n:Int):Int:=((bN es n).getD ([],0,0)).2.2
inductive kY(C:Addr)(vs:L6)(H:Hp)(Q:VK)(x_3:XK):Prop
 | mk:∀(bk de dp:Addr)(B:Bk)(seg:Int),vs=[.ref bk,.int seg]->BookAt C H bk de dp B->(B.es.length<800/\(B.es.map (·.1)).Pairwise (· <= ·))->(∀ms,List.Perm ms (B.es.map (·.1))->ms.Pairwise (· <= ·)->∀p H',aH H H'->H p=none->H' p=some (.lst ((ms.filter λn=>decide (vR B.es n=seg)).map V.int))->Q (.ref p) H')->kY C vs H Q x_3
def gR(q:Qs):Ls:=(q.B.es.map (·.1)).filter λn=>decide (vR q.B.es n=q.first)
inductive iU(A:Ad)(vs:L6)(H:Hp)(Q:VK)(x_3:XK):Prop
 | mk:∀(L:Pl)(q:Qs)(I:Qs->Prop),vs=[.ref L.qu]->QueueW A H L q false->I q->(∀q',I q'->(q'.B.es.length<800/\(q'.B.es.map (·.1)).Pairwise (· <= ·))/\(q'.first<q'.last->gR q'=[]->q'.D.left=none/\eX q'.first/\(∃bs,aW q'.D.fs (bJ q'.first)=some bs)/\I (lR q')))->(∀L' q' H',Step L L' H H'->QueueW A H' L' q' false->I q'->(¬ q'.first<q'.last\/gR q'≠[])->Q (.int (q'.first - q.first)) H')->iU A vs H Q x_3
section
variable{P:Program}{w:World}{K:Ln}{mg:Lp}{base:Heap}{A:Ad}
def zW(F:Fun K "numbers_in" "Book.numbers_in" rN f fd)(T:‹8›):‹14› 1 f fd ["self","segment"] (kY aa4):=by
 refine F.okY ["self","segment"] λcdv A' outer s H vs Q E hr nD0 h=>?_;obtain⟨bk,de,dp,B,seg,rfl,hB,hl,qq⟩:=h;refine⟨_,aC (aQ (dC ["number"] [("self",0),("segment",1)] ⋯ (bT K ‹73›) (λC s2 H2 ex=>(bG (i:=0) (show List.Nodup (["number","self","segment"]:Lu) by decide +kernel) ⋯ (Or.inl ⋯))) (λC s2 H2 ex=>(gY (aR fK ‹41› (pv 2) (bD _)))) ‹66›)),?_⟩;obtain⟨dx,h1⟩:=hB.self;obtain⟨kvs,h2,h3⟩:=hB.ent;refine⟨_,rfl,bk,_,dx,_,_,rfl,h1,T.cl,T.ac3,rfl,de,kvs,_,rfl,h2,h3.keys,.inr hl.2,by rw[length_map]; omega,λp ms perm pw hp=>?_⟩;obtain⟨H1,eUU,S1,g1⟩:=gUU (o:=.lst (ms.map .int)) hp;rw[eUU];have lm:(ms.map V.int).length=ms.length:=length_map _;have pl:=perm.length_eq;rw[length_map]at pl;refine⟨p,rfl,⟨_,SqL.of g1⟩,?_⟩;refine fQ (bS (K:=K) (SqL.of g1)) (by rw[lm,pl]; exact le_of_lt (lt_trans hl.1 (by decide))) (λj=>decide (vR B.es (ms.getD j 0)=seg)) (λj=>V.int (ms.getD j 0)) (λσ=>∃z,σ = [z,some (.ref bk),some (.int seg)]) ⟨none,rfl⟩ ?_ ?_
 ·intro j x σc H3 hj hσ s3 hx Q1 Q2 Q3 h2' h3';obtain⟨z,rfl⟩:=hσ;rw[getElem?_map]at hx;cases e:ms[j]? with
  | none=>rw[e]at hx; cases hx
  | some n=>
   rw[e]at hx;cases hx;have eg:ms.getD j 0=n:=by rw[getD_eq_getElem?_getD,e]; rfl
   rw[eg]at h2' h3';have hin:n∈B.es.map (·.1):=perm.mem_iff.mp (mem_of_getElem? e);obtain⟨en,hen⟩:=kI hin;have S13:aH H H3:=S1.trans s3;have hv:=h3.val (n:=n);rw[hen]at hv;obtain⟨v,hv1,t,b,rfl,gt,gb⟩:=hv;have dg:cQ H3 de (.int n) (some (.ref t)):=by
    have:=cQ.k (k:=Sum.inl n) (S13 _ _ h2);rw[hv1]at this;exact this
   have es:vR B.es n=en.2.2:=by
    unfold vR;rw[hen];rfl
   rw[es]at h2' h3';refine⟨_,rfl,bk,_,dx,_,_,rfl,S13 _ _ h1,T.cl,T.ac3,rfl,_,rfl,de,_,rfl,dg,t,_,_,.int en.2.2,rfl,rfl,SqT.of (S13 _ _ gt),aT (by decide) rfl,_,rfl,rfl,_,rfl,?_⟩;by_cases y:en.2.2=seg
   ·rw[decide_eq_true (show V.int en.2.2=V.int seg by rw[y])];exact aU ⟨_,rfl,h2' _ ⟨_,rfl⟩ (decide_eq_true y)⟩
   ·rw[pR y];exact bB (h3' _ ⟨_,rfl⟩ (decide_eq_false y))
 intro D H2 hD S2 g2;rw[lm,gE ms (λn=>decide (vR B.es n=seg))]at g2;exact qq ms perm pw D H2 (S1.trans S2) (S1.free hD) g2
def Ch(F:Fun K "sweep" "Queue.sweep" xB f fd)(T:‹3›)(ad4:‹16› A.book "numbers_in" 1 ["self","segment"] (kY A.book))(ad5:‹16› A.queue "drop_first" 5 ["self"] (kU A)):‹14› 6 f fd ["self"] (iU A):=by
 refine F.okY ["self","went"] λcdv A' outer s H vs Q E hr nD0 h=>?_;obtain⟨L,q,I,rfl,hq,hI,hst,qq⟩:=h;refine⟨_,aA (aX (i:=1) nD0 ⋯ ⋯ aI)
  (aA (o8 (lW eJ) (lF (aR uR ‹22› ‹22› (bD _)) (iH (cR (iZ K (cO ad4 T.ac5 ‹18› aZ ‹22› ‹77›))))).pt
   (aA (aY (dI ad5 T.aa0 ‹18› bP (pv 0)))
   (aC (CY (i:=1) nD0 ⋯ ⋯ aI HP))))
  (aC (aQ (pv 1)))),?_⟩
 refine⟨λm σ H3=>∃L' q',m=(q'.last - q'.first).toNat/\Step L L' H H3/\QueueW A H3 L' q' false/\I q'/\σ = [some (.ref L.qu),some (.int (q'.first - q.first))],⟨_,L,q,rfl,aH.step (aH.refl H),hq,hI,by rw[Int.sub_self]; rfl⟩,?_⟩;rintro m σ H3 ⟨L',q',rfl,st,hq3,hI3,rfl⟩;obtain⟨e1,e3⟩:=hst q' hI3;obtain⟨dx,h1⟩:=hq3.self;obtain⟨db,hb⟩:=hq3.book.self;rw[st.qu]at h1;refine⟨_,rfl,L.qu,_,dx,_,_,rfl,h1,T.aa0,T.ai7,rfl,_,rfl,L.qu,_,dx,_,_,rfl,h1,T.aa0,T.aj8,rfl,_,_,rfl,rfl,_,rfl,?_⟩;show if decide (q'.first<q'.last)=true then _ else _
 by_cases hlt:q'.first<q'.last
 ·rw[if_pos (decide_eq_true hlt)];refine⟨_,rfl,L.qu,_,dx,_,_,rfl,h1,T.aa0,T.ad8,rfl,L'.bk,db,_,rfl,hb,rfl,_,rfl,L.qu,_,dx,_,_,rfl,h1,T.aa0,T.ai7,rfl,L'.bk,L'.de,L'.dp,q'.B,_,rfl,hq3.book,e1,λms perm pw p H4 S4 hp4 g4=>?_⟩;have pf:List.Perm (ms.filter λn=>decide (vR q'.B.es n=q'.first)) (gR q'):=perm.filter _;have hq4:=hq3.same S4;refine⟨p,_,rfl,SqL.of g4,?_⟩;cases er:ms.filter (λn=>decide (vR q'.B.es n=q'.first)) with
  | nil=>
   rw[er]at pf;have ef:gR q'=[]:=List.Perm.eq_nil pf.symm;obtain⟨l1,l2,⟨bs,l3⟩,l4⟩:=e3 hlt ef;refine aU ⟨λσ' H'=>∃L'' q'',(q''.last - q''.first).toNat<(q'.last - q'.first).toNat/\Step L L'' H H'/\QueueW A H' L'' q'' false/\I q''/\σ'=[some (.ref L.qu),some (.int (q''.first - q.first))],λσ' H' ⟨L'',q'',w1,w2,w3,w4,w5⟩=>⟨_,w1,L'',q'',rfl,w2,w3,w4,w5⟩,?_⟩;obtain⟨dx4,h4⟩:=hq4.self;rw[st.qu]at h4;refine⟨_,rfl,L.qu,dx4,_,rfl,h4,rfl,L',q',false,bs,by rw[st.qu],hq4,l1,l2,l3,λL5 H5 st5 hq5=>?_⟩;refine⟨.int (q'.first - q.first),rfl,_,_,rfl,rfl,L5,lR q',by show (q'.last - (q'.first+1)).toNat<_; omega,st.trans ((aH.step S4).trans st5),hq5,l4,?_⟩;show [_,some (V.int (q'.first - q.first+1))]=[_,some (V.int (q'.first+1 - q.first))];rw[show q'.first - q.first+1=q'.first+1 - q.first by omega]
  | cons n r=>
   rw[er]at pf;refine bB ⟨_,rfl,qq L' q' H4 (st.trans (aH.step S4)) hq4 hI3 (.inr λy=>?_)⟩;rw[y]at pf;have:=pf.eq_nil;cases this
 ·rw[if_neg (by rw[decide_eq_true_eq]; exact hlt)];exact bB ⟨_,rfl,qq L' q' H3 st hq3 hI3 (.inl hlt)⟩
end
def mM{J:It}{H0 H:Hp}{n:Nat}{Y:Nat->V->Hp->Prop}{g:TG}{tb:TS}{D:Ends}{σ : St}(S:Src J H0 n Y)(Pv:Nat->St->Hp->Prop)(h0:Pv 0 σ H)(keep:∀i σ H',Pv i σ H'->aH H0 H')
  (step:∀(D':Ends) i x σ H1 H2,(∀σ H,Pv (i+1) σ H->D'.nx σ H)->D'.rt=D.rt->i<n->Pv i σ H1->aH H1 H2->Y i x H2->g x σ H2 λσ2 H3=>tb D' σ2 H3) (fin:∀σ H',Pv n σ H'->D.nx σ H') :
  ∃W:Nat->Nat->St->Hp->Prop,(∃m,W 0 m σ H)/\∀i m σ H,W i m σ H->
   (J.stop i H/\D.nx σ H)\/(J.go i H/\∃N:St->Hp->Prop,(∀σ' H',N σ' H'->∃m',m'<m/\W (i+1) m' σ' H')/\∀x H',J.yld i H x H'->g x σ H' λσ2 H2=>tb { D with nx:=N,ct:=N,bk:=D.nx } σ2 H2):=
 gC S Pv h0 keep (λi x σ H1 H2 h1 h2 h3 h4=>step { D with nx:=Pv (i+1),ct:=Pv (i+1),bk:=D.nx } i x σ H1 H2 (λ_ _ h=>h) rfl h1 h2 h3 h4) fin
abbrev xG:Stmt:=bI (top 55) 16
def Lc:bootBuiltins "min" = some (.builtin "min"):=by decide +kernel
def rA(n:Int)(e:Ent):Rw:=("carried",n,(if (9:Int)<e.2.1 then 9 else e.2.1)::e.1)
inductive iV(A:Ad)(vs:L6)(H:Hp)(Q:VK)(x_3:XK):Prop
 | mk:∀(L:Pl)(q:Qs)(I:Nat->Qs->Prop)(ns:Ls),vs=[.ref L.qu]->QueueW A H L q false->(q.B.es.length<800/\(q.B.es.map (·.1)).Pairwise (· <= ·))->(q.first=q.last->Q .non H)->(q.first≠q.last->(∀ms,List.Perm ms (q.B.es.map (·.1))->ms.Pairwise (· <= ·)->(ms.filter λn=>decide (vR q.B.es n=q.first))=ns)/\I 0 q/\
 (∀i n q',ns[i]? = some n->I i q'->∃e B',bN q'.B.es n=some e/\bK (cC (rA n e))=true/\WOk q' 1/\dG (aV q').last (aV q').B [rA n e]=some B'/\I (i+1) (mT (aV q') (cA [rA n e]) B'))/\
 ∀q',I ns.length q'->q'.D.left=none/\eX q'.first/\(∃bs,aW q'.D.fs (bJ q'.first)=some bs)/\∀L' H',Step L L' H H'->QueueW A H' L' (lR q') false->Q (.int (ns.length:Int)) H')->iV A vs H Q x_3
section
variable{P:Program}{w:World}{K:Ln}{mg:Lp}{base:Heap}{A:Ad}
def Co(F:Fun K "carry" "Queue.carry" xG f fd)(T:‹3›)(ad4:‹16› A.book "numbers_in" 1 ["self","segment"] (kY A.book))(ac9:‹12›)(ad5:‹16› A.queue "drop_first" 5 ["self"] (kU A))(ab6:‹4›):‹14› 8 f fd ["self"] (iV A):=by
 obtain⟨_,ag5⟩:=T.ah2;refine F.okY ["self","numbers","number","letter","times"] λcdv A' outer s H vs Q E hr nD0 h=>?_;obtain⟨L,q,I,ns,rfl,hq,he,q1,q2⟩:=h;refine⟨_,aA (a8 (aR fK ‹22› ‹22› (bD _))
   ‹67›
   aO)
  (aA (aX (i:=1) nD0 ⋯ ⋯ (cO ad4 T.ac5 ‹18› aZ ‹22› ‹77›))
  (aA (fZ (lW eJ) ⋯ (bT K (pv 1)) (bG (i:=2) nD0 ⋯ ⋯)
   (aA (aX (i:=3) nD0 ⋯ ⋯ (cO ac9 T.ac5 ‹18› aZ ‹22› ‹37›))
   (aA (aX (i:=4) nD0 ⋯ ⋯ (bF (FZ ⋯) ⋯ T.bk7 Lc (aM ‹36› (aE (cM (v:=.int 9) ⋯ ag5 ⟨_,rfl⟩) aG))))
   (aC (aY (cO ab6 T.aa0 ‹18› bP (pv 0) (fH (cD (bV (bE (aN bH (aE (pv 2) (bQ (bA jI (bE ‹65›) ‹36›) aG)))) aG)) aG)))))))
  (aA (aY (dI ad5 T.aa0 ‹18› bP (pv 0)))
  (aC (aQ ‹75›))))),?_⟩
 obtain⟨dx,h1⟩:=hq.self;refine⟨_,rfl,L.qu,_,dx,_,_,rfl,h1,T.aa0,T.ai7,rfl,_,rfl,L.qu,_,dx,_,_,rfl,h1,T.aa0,T.aj8,rfl,rfl,_,rfl,?_⟩;by_cases hfl:q.first=q.last
 ·rw[decide_eq_true (show V.int q.first=V.int q.last by rw[hfl])];exact aU (q1 hfl)
 rw[pR hfl];refine bB (cP rfl ?_);obtain⟨hns,i0,istep,iend⟩:=q2 hfl;obtain⟨db,h2⟩:=hq.book.self;refine⟨_,rfl,L.qu,_,dx,_,_,rfl,h1,T.aa0,T.ad8,rfl,L.bk,db,_,rfl,h2,rfl,_,rfl,L.qu,_,dx,_,_,rfl,h1,T.aa0,T.ai7,rfl,L.bk,L.de,L.dp,q.B,_,rfl,hq.book,he,λms perm pw p H4 S4 hp4 g4=>?_⟩;rw[hns ms perm pw]at g4;clear hns perm pw ms;have np:¬ eQ L p:=λz=>by
  obtain⟨o,e⟩:=eK hq z;rw[e]at hp4;cases hp4
 refine⟨_,rfl,p,rfl,⟨_,SqL.of g4⟩,?_⟩;refine mM (bS (K:=K) (H:=upd (λ_=>none) p (.lst (ns.map V.int))) (SqL.of aB)) (λi σ H'=>∃Li qi z2 z3 z4,Step L Li H H'/\QueueW A H' Li qi false/\I i qi/\¬ eQ Li p/\H' p=some (.lst (ns.map V.int))/\σ = [some (.ref L.qu),some (.ref p),z2,z3,z4]) ⟨L,q,_,_,_,aH.step S4,hq.same S4,i0,np,g4,rfl⟩ (λi σ H' hh b o e=>?_) ?_ ?_
 ·obtain⟨_,_,_,_,_,_,_,_,_,g,_⟩:=hh;by_cases y:b=p
  ·subst y;rw[aB]at e;injection e with e
   rw[<- e];exact g
  ·rw[aF y]at e;cases e
 ·rintro D' i x σ H5 H6 hD' - hi ⟨Li,qi,z2,z3,z4,st,hqi,ii,npi,gi,rfl⟩ s6 hx;rw[length_map]at hi;have hx:(ns.map V.int)[i]? = some x:=hx;rw[getElem?_map]at hx;obtain⟨n,en⟩:∃n,ns[i]? = some n:=⟨_,getElem?_eq_getElem hi⟩;rw[en]at hx;cases hx;obtain⟨e,B',el,rok,wok,hfo,inx⟩:=istep i n qi en ii;have hq6:=hqi.same s6;have st6:=st.trans (aH.step s6);obtain⟨dx6,h6⟩:=hq6.self;rw[st.qu]at h6;obtain⟨db6,hb6⟩:=hq6.book.self;refine⟨_,rfl,L.qu,_,dx6,_,_,rfl,h6,T.aa0,T.ad8,rfl,Li.bk,db6,_,rfl,hb6,rfl,_,rfl,Li.bk,Li.de,Li.dp,qi.B,n,e,rfl,hq6.book,el,λpt H7 S7 d7=>?_⟩;obtain⟨t,b,et,gt,gb⟩:=pI d7;cases et;refine⟨_,rfl,pt,_,_,.int e.2.1,rfl,rfl,SqT.of gt,aT (by decide) rfl,_,_,rfl,?_⟩;have hq7:=hq6.same S7;obtain⟨dx7,h7⟩:=hq7.self;rw[st.qu]at h7;have rf:=xO (k:="carried") (n:=n) (body:=(rA n e).2.2) rok;refine⟨_,rfl,L.qu,dx7,_,rfl,h7,rfl,_,rfl,_,rfl,aJ,λp0 hp0=>?_⟩;obtain⟨tm,etm⟩:∃tm:Int,tm=if (9:Int)<e.2.1 then 9 else e.2.1:=⟨_,rfl⟩
  rw[<- etm];obtain⟨H8,eUU,V0,v0⟩:=gUU (o:=.tup [.int tm]) hp0;rw[eUU];refine⟨_,rfl,pt,_,_,.ref b,rfl,rfl,SqT.of (V0 _ _ gt),aT (by decide) rfl,p0,b,_,_,rfl,rfl,v0,V0 _ _ gb,?_,λp9 H9 S9 g9=>⟨aJ,λp1 hp1=>⟨aJ,λp2 hp2=>?_⟩⟩⟩
  ·rw[length_map];have:=rf.2.2.2.2.2;have:1+e.1.length<=61:=by
    have h:(rA n e).2.2.length=e.1.length+1:=rfl;omega
   exact le_trans this (by decide)
  obtain⟨H10,eUU,V1,v1⟩:=gUU (o:=.tup [.str "carried",.int n,.ref p9]) hp1;rw[eUU]at hp2 ⊢;obtain⟨H11,eUU,V2,v2⟩:=gUU (o:=.lst [.ref p1]) hp2;rw[eUU];have S611:=S7.trans (V0.trans (S9.trans (V1.trans V2)));refine⟨Li,qi,p2,[rA n e],B',by rw[st.qu],hq6.same S611,wok,λz=>?_,?_,λr hr'=>?_,hfo,λL' H12 st12 hq12=>?_⟩
  ·obtain⟨o,e⟩:=eK (hq6.same (S7.trans (V0.trans (S9.trans V1)))) z;rw[e]at hp2;cases hp2
  ·simp only[Den,map_cons,map_nil,aP];refine⟨p2,_,rfl,v2,_,_,rfl,?_,rfl⟩;unfold cC fM rA;rw[<- etm];simp only[Den,aP];refine⟨p1,_,rfl,V2 _ _ v1,_,_,rfl,rfl,_,_,rfl,rfl,_,_,rfl,⟨p9,_,rfl,V2 _ _ (V1 _ _ g9),?_⟩,rfl⟩;exact bR.mpr rfl
  ·rw[mem_singleton.mp hr'];exact rok
  have npn:¬ eQ L' p:=st12.not (S611 _ _ (s6 _ _ gi)) npi;exact hD' _ _ ⟨L',_,_,_,_,st6.trans ((aH.step S611).trans st12),hq12,inx,npn,st12.frm _ _ (S611 _ _ (s6 _ _ gi)) npi,rfl⟩
 rintro σ H5 ⟨Li,qi,z2,z3,z4,st,hqi,ii,npi,gi,rfl⟩;rw[length_map]at ii;obtain⟨l1,l2,⟨bs,l3⟩,qq⟩:=iend qi ii;obtain⟨dx5,h5⟩:=hqi.self;rw[st.qu]at h5;refine⟨_,rfl,L.qu,dx5,_,rfl,h5,rfl,Li,qi,false,bs,by rw[st.qu],hqi,l1,l2,l3,λL' H6 st6 hq6=>?_⟩;have g6:=st6.frm _ _ gi npi;refine⟨_,rfl,p,_,rfl,.inl (SqL.of g6),?_⟩;rw[length_map];exact qq L' H6 (st.trans st6) hq6
end
def spF:Sp:=λ_ _ _ _=>False
def x6:Ls:=iG "from" 0 []
abbrev Am:Stmt:=bI (top 55) 0
def qX(D:Dk):Prop:=D.fs=[]/\D.left=none
inductive oN(A:Ad)(vs:L6)(H:Hp)(Q:VK)(x_3:XK):Prop
 | mk:∀(dk df:Addr)(kvs:Lz)(D:Dk),vs=[.ref dk]->DiskAt A.disk H dk df kvs D->qX D->(∀p H',aH H H'->H p=none->H' p=some (.lst [])->Q (.ref p) H')->oN A vs H Q x_3
inductive qA(C:Addr)(vs:L6)(H:Hp)(Q:VK)(x_3:XK):Prop
 | mk:∀(dk df:Addr)(kvs:Lz)(D:Dk),vs=[.ref dk]->DiskAt C H dk df kvs D->qX D->(∀p H',aH H H'->H p=none->H' p=some (.lst [])->Q (.ref p) H')->qA C vs H Q x_3
inductive lY(vs:L6)(H:Hp)(Q:VK)(x_3:XK):Prop
 | mk:∀(p:Addr),vs=[.ref p]->H p=some (.lst [])->(∀p H',aH H H'->H' p=some (.lst [])->Q (.ref p) H')->lY vs H Q x_3
inductive tR(A:Ad)(vs:L6)(H:Hp)(Q:VK)(x_3:XK):Prop
 | mk:∀(dk df:Addr)(kvs:Lz)(D:Dk),vs=[.ref dk]->DiskAt A.disk H dk df kvs D->qX D->(∀bk de dp H',aH H H'->H bk=none->H de=none->H dp=none->BookAt A.book H' bk de dp ⟨[],0,[]⟩->Q (.ref bk) H')->tR A vs H Q x_3
inductive tO(A:Ad)(vs:L6)(H:Hp)(Q:VK)(x_3:XK):Prop
 | mk:∀(dk df:Addr)(kvs:Lz)(D:Dk),vs=[.ref dk]->DiskAt A.disk H dk df kvs D->qX D->(∀kvs' d p H',sE dk df kvs H H'->Fd dk df kvs kvs' H->DiskAt A.disk H' dk df kvs' ⟨[(bJ 0,x6)],d,none⟩->H' p=some (.lst [.int 0])->¬ own dk df kvs' p->Q (.ref p) H')->tO A vs H Q x_3
def nM(m h t d:Int):Qs:=⟨⟨[(bJ 0,x6)],d,none⟩,⟨[],0,[]⟩,m,h,t,0,0,0,[]⟩
inductive tN(A:Ad)(vs:L6)(H:Hp)(Q:VK)(x_3:XK):Prop
 | mk:∀(qu dx dk df:Addr)(kvs:Lz)(D:Dk)(m h t:Int),vs=[.ref qu,.ref dk,.int m,.int h,.int t]->H qu=some (.ins A.queue dx [])->DiskAt A.disk H dk df kvs D->(¬ own dk df kvs qu)->tX (.int m) (.int h) (.int t)=true->qX D->(∀L' d H',L'.qu=qu->L'.dk=dk->(∀b o,H b=some o->b≠qu->¬ own dk df kvs b->H' b=some o)->(∀b,eQ L' b->b=qu\/own dk df kvs b\/H b=none)->QueueW A H' L' (nM m h t d) false->Q .non H')->tN A vs H Q x_3
structure Fs(C qu dx:Addr)(H0 H1:Hp)(fs:L3):Prop where
 at_:H1 qu=some (.ins C dx fs)
 but:But qu H0 H1
def Fs.set(j:Fs C qu dx H0 H1 fs)(f:Str)(v:V):∃G,G=upd H1 qu (.ins C dx (hG f v fs))/\Fs C qu dx H0 G (hG f v fs):=
 ⟨_,rfl,aB,λc o e nc=>by rw[aF nc]; exact j.but c o e nc⟩
def Fs.new(j:Fs C qu dx H0 H1 fs)(hp:H1 p=none):∃G,G=upd H1 p o/\Fs C qu dx H0 G fs/\G p=some o/\aH H1 G/\p≠qu:=
 ⟨_,rfl,⟨aD hp _ _ j.at_,λc u e nc=>aD hp _ _ (j.but c u e nc)⟩,aB,aD hp,λz=>by rw[z,j.at_]at hp; cases hp⟩
section
variable{P:Program}{w:World}{K:Ln}{mg:Lp}{base:Heap}{A:Ad}
def okF:‹14› k f fd ps spF:=⟨λ_ _ _ _ h=>h.elim,λ_ _ _ _ _ _ _ _ _ _ _ _ _ h=>h.elim⟩
def uS(F:Fun K "segment_of" "segment_of" oU f fd):‹14› 2 f fd ["name"] spF:=by
 exact okF
def BI(F:Fun K "rows_of" "rows_of" wY f fd):‹14› 6 f fd ["disk","segment","last"] spF:=by
 exact okF
def JG(F:Fun K "cut" "Disk.cut" Jw f fd):‹14› 4 f fd ["self","name","size"] spF:=by
 exact okF
def Et(F:Fun K "names" "Disk.names" DV f fd)(T:‹1›):‹14› 1 f fd ["self"] (qA aa7):=by
 refine F.okY ["self"] λcdv A' outer s H vs Q E hr nD0 h=>?_;obtain⟨dk,df,kvs,D,rfl,hD,he,q⟩:=h;refine⟨_,aC (aQ ‹73›),?_⟩;obtain⟨dx,h1⟩:=hD.self;refine⟨_,rfl,dk,_,dx,_,_,rfl,h1,T.cl,T.af5,rfl,df,kvs,[],rfl,hD.files,(by rw[hD.rel.keys,he.1]; rfl),.inl (by decide),by decide,λp ms perm so hp=>?_⟩;have em:ms=[]:=perm.eq_nil;subst em;exact q p _ (aD hp) hp aB
def rZ(F:Fun K "segments_on" "segments_on" nI f fd)(T:‹3›)(am0:‹15› "segment_of" 2 ["name"] spF)(ba2:‹16› A.disk "names" 1 ["self"] (qA A.disk)):‹14› 3 f fd ["disk"] (oN A):=by
 refine F.okY ["disk","segments"] λcdv A' outer s H vs Q E hr nD0 h=>?_;obtain⟨dk,df,kvs,D,rfl,hD,he,q⟩:=h;refine⟨_,aA (aX (i:=1) nD0 ⋯ ⋯ (bF wB ⋯ T.ae5 gS (dY (dC ["name"] [] ⋯ (bT K (dI ba2 T.ad3 ‹18› aZ (pv 0))) (λC s2 H2 ex=>(bG (i:=0) (show List.Nodup (["name"]:Lu) by decide +kernel) ⋯ (Or.inl ⋯))) ‹40› (λC s2 H2 ex=>(bC am0 ‹18› aZ ‹34›))) aG)))
  (aA (a8 (lF (iZ K (pv 1)) (iH (aR BF (bA cU (bA i4 ‹56› (cF (cK K) (pv 1) aI (λ_ _=>rfl))) aI) ‹75› (bD _)))).pt
   ‹72›
   aO)
  (aC (aQ (pv 1)))),?_⟩
 obtain⟨dx,h1⟩:=hD.self;refine⟨_,rfl,dk,dx,_,rfl,h1,rfl,dk,df,kvs,D,rfl,hD,he,λp1 H1 S1 hp1 g1=>?_⟩;refine⟨p1,rfl,⟨_,SqL.of g1⟩,?_⟩;refine c9 (bS (K:=K) (SqL.of g1)) (zero_le _) (λi y _=>False) (λ_ _ _ _ _ h=>h) (λσ=>True) trivial (λi x σc H3 hi=>absurd hi (Nat.not_lt_zero _)) ?_;intro D2 ys H2 hD2 S2 gD hlen hR;have ey:ys=[]:=length_eq_zero_iff.mp hlen;subst ey;refine⟨D2,[],rfl,gD,by decide,λp ms permm pwm hp=>?_⟩;have em:ms=[]:=permm.eq_nil;subst em;have S3:=aD (o:=.lst ([].map V.int)) hp;refine⟨_,rfl,p,_,rfl,SqL.of aB,?_⟩;exact bB ⟨_,rfl,q p _ (S1.trans (S2.trans S3)) ((S1.trans S2).free hp) aB⟩
def BG(F:Fun K "without_last_parts" "without_last_parts" wW f fd)(T:‹3›):‹14› 1 f fd ["rows"] lY:=by
 refine F.okY ["rows","many"] λcdv A' outer s H vs Q E hr nD0 h=>?_;obtain⟨a,rfl,ha,q⟩:=h;refine⟨_,aA (aX (i:=1) nD0 ⋯ ⋯ ‹29›)
  (aA (o8 (lW eJ) (lF (aR nK (pv 1) aI (bD _)) (iH (aR fK (cF (cS K) (cF (cK K) (pv 0) (bA i4 (pv 1) aI) (λ_ _=>rfl)) aI (λ_ _=>rfl)) bH (bD _)))).pt
   (aC (CY (i:=1) nD0 ⋯ ⋯ aI LP)))
  (aC (aQ (f9 (tV K) (pv 0) jH (gX (pv 1)))))),?_⟩
 refine⟨_,rfl,a,_,rfl,.inl (SqL.of ha),?_⟩;refine⟨λm σ H3=>H3=H/\σ = [some (.ref a),some (.int 0)],⟨0,rfl,rfl⟩,?_⟩;rintro m σ H3 ⟨rfl,rfl⟩;refine⟨_,rfl,_,_,rfl,rfl,_,rfl,?_⟩;refine bB (bB ⟨_,rfl,_,rfl,_,rfl,a,_,rfl,SqL.of ha,λp hp'=>?_⟩);exact q p _ (aD hp') aB
def G5(F:Fun K "book_of" "book_of" xK f fd)(T:‹3›)(ad6:‹15› "segments_on" 3 ["disk"] (oN A))(at5:‹15› "rows_of" 6 ["disk","segment","last"] spF)(bh1:‹17› "Book" A.book 1 ["self"] (zB A.book))(ai8:‹16› A.book "enter" 3 ["self","row","segment"] (oQ A.book A.broken)):‹14› 7 f fd ["disk"] (tR A):=by
 refine F.okY ["disk","segments","book","segment","row"] λcdv A' outer s H vs Q E hr nD0 h=>?_;obtain⟨dk,df,kvs,D,rfl,hD,ok,q⟩:=h;refine⟨_,aA (aX (i:=1) nD0 ⋯ ⋯ (bC ad6 ‹18› bP ‹34›))
  (aA (aX (i:=2) nD0 ⋯ ⋯ (K2 bh1 ‹18› bP))
  (aA (fZ (lW eJ) ⋯ (bT K (pv 1)) ‹53›
   (aC (fZ (lW eJ) ⋯ (bT K (bC at5 ‹18› bP (aE (pv 0) (aE (pv 3) (aM ‹56› aG))))) ‹71›
    (aC (aY (cO ai8 T.ac5 ‹18› bP (pv 2) (aE (pv 4) ‹47›)))))))
  (aC (aQ (pv 2))))),?_⟩
 refine⟨_,rfl,dk,df,kvs,D,rfl,hD,ok,λp H1 S1 hp g1=>?_⟩;refine λbk dx hbk hdx ndx=>⟨bk,dx,rfl,aB,λde dp H2 f2 hde hdp hB2=>⟨rfl,?_⟩⟩;have S12:aH H1 H2:=λb o e=>by
  have nb:b≠bk:=λz=>by rw[z,hbk]at e; cases e
  have nd:b≠dx:=λz=>by rw[z,hdx]at e; cases e
  exact f2 b o (by rw[aF nb,aF nd]; exact e) nb
 have fr:∀c,upd (upd H1 dx (.own bk)) bk (.ins A.book dx []) c=none->H1 c=none:=λc e=>by
  cases e2:H1 c with
  | none=>rfl
  | some o=>
   have nb:c≠bk:=λz=>by rw[z,hbk]at e2; cases e2
   have nd:c≠dx:=λz=>by rw[z,hdx]at e2; cases e2
   rw[aF nb,aF nd,e2]at e;cases e
 refine⟨_,rfl,p,rfl,⟨_,SqL.of (S12 _ _ g1)⟩,?_⟩;refine gC (bS (K:=K) (SqL.of g1)) (λi σ H'=>H'=H2/\σ = [some (.ref dk),some (.ref p),some (.ref bk),none,none]) ⟨rfl,rfl⟩ (λi σ H' h=>by rw[h.1]; exact S12) (λi x σ H1 H2 hi=>absurd hi (Nat.not_lt_zero _)) ?_;rintro σ H' ⟨rfl,rfl⟩;exact⟨_,rfl,q bk de dp _ (S1.trans S12) (S1.free hbk) (S1.free (fr _ hde)) (S1.free (fr _ hdp)) hB2⟩
def Gz(F:Fun K "make_good" "make_good" rG f fd)(T:‹3›)(ab2:‹9›)(ad6:‹15› "segments_on" 3 ["disk"] (oN A))(at6:‹15› "rows_in" 5 ["some"] (kS A.badRow A.broken))(ae7:‹15› "without_last_parts" 1 ["rows"] lY)(ac0:‹15› "row_bytes" 4 ["row"] (fF A.badRow))
  (bd3:‹16› A.disk "read" 4 ["self","name"] (sJ A.disk A.badName A.missing)) (al3:‹16› A.disk "size" 4 ["self","name"] (oM A.disk A.badName A.missing)) (al4:‹16› A.disk "make" 3 ["self","name"] (oP A.disk A.badName A.there A.stopped)) (al5:‹16› A.disk "drop" 4 ["self","name"] (oR A.disk A.badName A.missing A.stopped)) (bh2:‹16› A.disk "cut" 4 ["self","name","size"] spF) (ah4:‹6›):‹14› 6 f fd ["disk"] (tO A):=by
 refine F.okY ["disk","segments","name","rows","size"] λcdv A' outer s H vs Q E hr nD0 h=>?_;obtain⟨dk,df,kvs,⟨fs,dd,left⟩,rfl,hD,⟨rfl,rfl⟩,q⟩:=h;refine⟨_,aA (aX (i:=1) nD0 ⋯ ⋯ (bC ad6 ‹18› bP ‹34›))
  (aA (a8 (cR (iZ K (pv 1)))
   (aA (aY (cO al4 T.ad3 ‹18› bP (pv 0) (cG (bC ab2 ‹18› aZ ‹35›) aG)))
   (aC (aX (i:=1) nD0 ⋯ ⋯ (cD ‹35›))))
   aO)
  (aA (aX (i:=2) nD0 ⋯ ⋯ (bC ab2 ‹18› aZ (aM ‹56› aG)))
  (aA (aX (i:=3) nD0 ⋯ ⋯ (bC ae7 ‹18› aZ (aM (cF (cS K) (bC at6 ‹18› bP (cG (cO bd3 T.ad3 ‹18› bP (pv 0) ‹37›) aG)) aI (λ_ _=>rfl)) aG)))
  (aA (a8 (lF (cR (iZ K (pv 3))) (iH (aR nK ‹75› aI (bD _)))).pt
   (aA (aY (cO al5 T.ad3 ‹18› bP (pv 0) ‹37›))
   (aC (aQ (f9 (tV K) (pv 1) jH (gX (BC sX aI))))))
   aO)
  (aA (aX (i:=4) nD0 ⋯ ⋯ (bF (nF K) ⋯ T.ax4 AQ (dY (dC ["row"] [] ⋯ (bT K (pv 3)) (λC s2 H2 ex=>(bG (i:=0) (show List.Nodup (["row"]:Lu) by decide +kernel) ⋯ (Or.inl ⋯))) ‹40› (λC s2 H2 ex=>(bF (dD K) ⋯ T.ad1 fW (cG (bC ac0 ‹18› aZ ‹34›) aG)))) aG)))
  (aA (a8 (aR uR (pv 4) (cO al3 T.ad3 ‹18› bP (pv 0) ‹37›) (bD _))
   (aC (aY (cO bh2 T.ad3 ‹18› bP (pv 0) (aE (pv 2) ‹65›))))
   aO)
  (aA (a8 (cR (iZ K (pv 3)))
   (aC (aY (cO ah4 T.ad3 ‹18› bP (pv 0) (aE (pv 2) (cG (bC ac0 ‹18› bP (bV (bE (aN bH (aN aI ‹46›))) aG)) aG)))))
   aO)
  (aC (aQ (pv 1)))))))))),?_⟩
 refine⟨_,rfl,dk,df,kvs,_,rfl,hD,⟨rfl,rfl⟩,λp H1 S1 hp g1=>?_⟩;have hD1:=hD.same S1;obtain⟨dx1,h11⟩:=hD1.self;have num0:eX 0:=⟨by decide,by decide⟩;refine⟨_,rfl,p,_,rfl,SqL.of g1,aU ?_⟩;refine⟨_,rfl,dk,dx1,_,rfl,h11,rfl,0,rfl,num0,gP (AZ hD1 rfl num0 (le_of_ble_eq_true rfl) rfl λkvs2 H2 f2 w2 hD2=>?_)⟩;refine⟨aJ,new_h λp2 hp2 H3 S2 g2=>?_⟩;have hD3:=hD2.same S2;have np2:¬ own dk df kvs2 p2:=λz=>by
  obtain⟨o,e⟩:=qL hD2 z;rw[e]at hp2;cases hp2
 have l0:aW (mkN ⟨[],dd,none⟩ (bJ 0)).fs (bJ 0)=some []:=by
  show aW [(bJ 0,[])] (bJ 0)=some [];simp [aW]
 obtain⟨dx3,h13⟩:=hD3.self
 try dsimp only
 refine⟨_,rfl,1,rfl,p2,_,_,.int 0,rfl,rfl,SqL.of g2,rfl,0,rfl,num0,?_⟩;refine⟨_,rfl,dk,dx3,_,rfl,h13,rfl,_,rfl,gP (Fm hD3 num0 l0 λp4 H4 S4 g4=>?_)⟩;refine gP (Fk (bs:=[]) (rs:=[]) (k:=0) g4 (λb hb=>by cases hb) (by decide) rfl λp5 pL H5 S5 g5 d5=>?_);simp only[Den]at d5;obtain⟨_,xs,e,gx,dx⟩:=d5;cases e;have ex:xs=[]:=by simpa [aP] using dx
 subst ex;refine⟨p5,_,_,.ref pL,rfl,rfl,SqT.of g5,aT (by decide) rfl,pL,rfl,gx,λp6 H6 S6 g6=>?_⟩;have hD6:=hD3.same (S4.trans (S5.trans S6))
 try dsimp only
 refine⟨_,rfl,p6,_,rfl,SqL.of g6,aU ⟨_,rfl,p2,_,rfl,.inl (SqL.of (S6 _ _ (S5 _ _ (S4 _ _ g2)))),_,_,rfl,rfl,_,rfl,bB (cP rfl ?_)⟩⟩;refine⟨_,rfl,p6,rfl,⟨_,SqL.of g6⟩,?_⟩;refine c9 (bS (K:=K) (SqL.of g6)) (zero_le _) (λi y _=>False) (λ_ _ _ _ _ h=>h) (λσ=>True) trivial (λi x σc H3 hi=>absurd hi (Nat.not_lt_zero _)) ?_;intro D7 ys H7 _ S7 g7 hlen _;have ey:ys=[]:=length_eq_zero_iff.mp hlen;subst ey;have hD7:=hD6.same S7;obtain⟨dx7,h17⟩:=hD7.self;refine⟨D7,[],rfl,.inl (SqL.of g7),?_⟩;refine⟨_,rfl,_,rfl,dk,dx7,_,rfl,h17,rfl,_,rfl,gP (AY hD7 num0 l0 λH8 S8=>?_)⟩;refine⟨_,_,rfl,rfl,_,rfl,bB (cP rfl ?_)⟩;have hD8:=hD7.same S8;obtain⟨dx8,h18⟩:=hD8.self;refine⟨_,rfl,p6,_,rfl,SqL.of (S8 _ _ (S7 _ _ g6)),aU ?_⟩;refine⟨_,rfl,dk,dx8,_,rfl,h18,rfl,_,rfl,aJ,λp9 hp9=>⟨aJ,λp10 hp10=>?_⟩⟩;obtain⟨H9,eUU,V9,v9⟩:=gUU (o:=.tup []) hp9;rw[eUU]at hp10 ⊢;obtain⟨H10,eUU,V10,v10⟩:=gUU (o:=.tup [.str "from",.int 0,.ref p9]) hp10;rw[eUU];have fo:bK (cC ("from",0,[]))=true:=EI (by decide) (by decide);refine gP (CD (r:=("from",0,[])) (by
  unfold cC fM;simp only[Den,aP,map_nil];exact⟨p10,_,rfl,v10,_,_,rfl,rfl,_,_,rfl,rfl,_,_,rfl,⟨p9,[],rfl,V10 _ _ v9,rfl⟩,rfl⟩) fo λp11 H11 S11 g11=>?_)
 have S611:=S8.trans (V9.trans (V10.trans S11));have hD11:=hD7.same S611;have b4:=lE (r:=("from",0,[])) fo;refine gP (yY hD11 rfl num0 l0 (λn bs e=>?_) g11 b4 (by rw[eC]; decide) λH12 f12 hD12=>?_)
 ·have e:aW [(bJ 0,[])] n=some bs:=e;unfold aW at e;rw[find?_cons]at e;split at e
  ·cases e;decide
  ·cases e
 have S311:=S4.trans (S5.trans (S6.trans (S7.trans S611)));refine⟨_,rfl,q kvs2 (dd+1+(((iG "from" 0 []).length:Nat):Int)) p2 H12 (λb o e nb=>?_) (λb hb=>?_) ?_ ?_ np2⟩
 ·have n2:¬ own dk df kvs2 b:=λz=>(w2 b z).elim nb (λy=>by rw[S1 _ _ e]at y; cases y);exact f12 b o (S311 _ _ (S2 _ _ (f2 b o (S1 _ _ e) nb))) n2
 ·rcases w2 b hb with y | y
  ·exact .inl y
  ·exact .inr (S1.free y)
 ·have e1:(tY (mkN ⟨[],dd,none⟩ (bJ 0)) (bJ 0) ([]++iG "from" 0 []) (iG "from" 0 []).length)=⟨[(bJ 0,x6)],dd+1+(((iG "from" 0 []).length:Nat):Int),none⟩:=by
   unfold tY mkN fA;show (⟨[((if bJ 0=bJ 0 then (bJ 0,[]++iG "from" 0 []) else (bJ 0,[])):Str × Ls)],_,none⟩:Dk)=_;rw[if_pos rfl];rfl
  rw[e1]at hD12;exact hD12
 ·exact f12 _ _ (S311 _ _ g2) np2
def Cj(F:Fun K "__init__" "Queue.__init__" Am f fd)(T:‹3›)(ag8:‹15› "check_settings" 2 ["most","hold","tries"] (fY A))(at7:‹15› "book_of" 7 ["disk"] (tR A))(af1:‹15› "make_good" 6 ["disk"] (tO A)):‹14› 8 f fd ["self","disk","most","hold","tries"] (tN A):=by
 refine F.okY ["self","disk","most","hold","tries","segments"] λcdv A' outer s H vs Q E hr nD0 h=>?_;obtain⟨qu,dx,dk,df,kvs,D,m,h,t,rfl,h0,hD,nqu,hset,he,qq⟩:=h;refine⟨_,aA (aY (bC ag8 ‹18› bP (aE (pv 2) (aE (pv 3) ‹65›))))
  (aA (dS (pv 0) (pv 1) ⋯)
  (aA (dS (pv 0) (pv 2) ⋯)
  (aA (dS (pv 0) (pv 3) ⋯)
  (aA (dS (pv 0) (pv 4) ⋯)
  (aA (dS (pv 0) (bC at7 ‹18› bP ‹26›) ⋯)
  (aA (aX (i:=5) nD0 ⋯ ⋯ (bC af1 ‹18› bP ‹26›))
  (aA (dS (pv 0) (cF (cK K) (pv 5) aI (λ_ _=>rfl)) ⋯)
  (aA (dS (pv 0) (cF (cK K) (pv 5) (BC sX aI) (λ_ _=>rfl)) ⋯)
  (aA (dS (pv 0) Ds ⋯)
  (aA (dS (pv 0) kE ⋯)
  (aC (dS (pv 0) aI ⋯)))))))))))),?_⟩
 have ddk:∀{H':Hp},But qu H H'->DiskAt A.disk H' dk df kvs D:=λb=>hD.keep λc o e hc=>b c o e (λz=>by rw[z]at hc; exact nqu hc);have j0:Fs A.queue qu dx H H []:=⟨h0,But.refl⟩;refine⟨_,rfl,_,rfl,_,rfl,.int m,.int h,.int t,.int m,.int h,.int t,rfl,by simp only[Den],by simp only[Den],by simp only[Den],λ_=>?_,(λz=>by rw[hset]at z; cases z)⟩;refine⟨_,rfl,_,rfl,qu,_,dx,_,rfl,j0.at_,T.aa0,T.ap4,(le_of_ble_eq_true rfl),?_⟩;obtain⟨H1,e1,j1⟩:=j0.set "disk" (.ref dk);rw[<- e1];refine⟨_,rfl,_,rfl,qu,_,dx,_,rfl,j1.at_,T.aa0,T.bj6,(le_of_ble_eq_true rfl),?_⟩;obtain⟨H2,e2,j2⟩:=j1.set "most" (.int m);rw[<- e2];refine⟨_,rfl,_,rfl,qu,_,dx,_,rfl,j2.at_,T.aa0,T.bj7,(le_of_ble_eq_true rfl),?_⟩;obtain⟨H3,e3,j3⟩:=j2.set "hold" (.int h);rw[<- e3]
 try dsimp only
 refine⟨_,rfl,_,rfl,qu,_,dx,_,rfl,j3.at_,T.aa0,T.bd2,(le_of_ble_eq_true rfl),?_⟩;obtain⟨H4,e4,j4⟩:=j3.set "tries" (.int t);rw[<- e4];refine⟨_,rfl,dk,df,kvs,D,rfl,ddk j4.but,he,λbk de dp H5 S5 hbk hde hdp hB5=>?_⟩;have n4:∀{c:Addr},H4 c=none->c≠qu/\H c=none:=λ{c} z=>by
  refine⟨(λy=>by rw[y,j4.at_]at z; cases z),?_⟩;cases e:H c with
  | none=>rfl
  | some o=>
   by_cases y:c=qu
   ·rw[y,j4.at_]at z; cases z
   ·rw[j4.but c o e y]at z; cases z
 obtain⟨nbk,ibk⟩:=n4 hbk;obtain⟨nde,ide⟩:=n4 hde;obtain⟨ndp,idp⟩:=n4 hdp;have j5:Fs A.queue qu dx H H5 _:=⟨S5 _ _ j4.at_,λc o e nc=>S5 _ _ (j4.but c o e nc)⟩;refine⟨_,rfl,qu,_,dx,_,rfl,j5.at_,T.aa0,T.ad8,(le_of_ble_eq_true rfl),?_⟩;obtain⟨H6,e6,j6⟩:=j5.set "book" (.ref bk);rw[<- e6];have k6:∀c o,H5 c=some o->c≠qu->H6 c=some o:=λc o e n=>by rw[e6,aF n]; exact e
 have t6:fR H5 H6:=by rw[e6]; exact kQ j5.at_ (λxs z=>by cases z)
 have isb:∀{c:Addr},c=bk\/c=de\/c=dp->c≠qu/\H c=none:=λhc=>by
  rcases hc with y | y | y
  ·rw[y]; exact⟨nbk,ibk⟩
  ·rw[y]; exact⟨nde,ide⟩
  ·rw[y]; exact⟨ndp,idp⟩
 have hB6:BookAt A.book H6 bk de dp ⟨[],0,[]⟩:=hB5.keep (λc o e hc=>k6 c o e (isb hc).1) t6;have hD6:=ddk j6.but
 try dsimp only
 refine⟨_,rfl,dk,df,kvs,D,rfl,hD6,he,λkvs' d p H7 f7 w7 hD7 gp np=>?_⟩;have nown:∀{c:Addr},H c=none->¬ own dk df kvs c:=λz y=>by
  obtain⟨o,e⟩:=qL hD y;rw[z]at e;cases e
 have far:∀{c:Addr}{o:HO},H6 c=some o->¬ own dk df kvs c->¬ own dk df kvs' c:=λe nc z=>(w7 _ z).elim nc (λy=>by rw[y]at e; cases e);have h7:=f7 _ _ j6.at_ nqu;have b7:∀b o,H b=some o->b≠qu->¬ own dk df kvs b->H7 b=some o:=λb o e nb no=>f7 b o (j6.but b o e nb) no;have hB7:BookAt A.book H7 bk de dp ⟨[],0,[]⟩:=hB6.keep (λc o e hc=>f7 c o e (nown (isb hc).2)) (f7.tup hD6);have nqu':¬ own dk df kvs' qu:=far j6.at_ nqu;have npq:p≠qu:=λz=>by rw[z,h7]at gp; cases gp
 have j7:Fs A.queue qu dx H7 H7 _:=⟨h7,But.refl⟩;refine⟨_,rfl,p,_,_,.int 0,rfl,rfl,SqL.of gp,aT (by decide) rfl,_,rfl,qu,_,dx,_,rfl,j7.at_,T.aa0,T.ai7,(le_of_ble_eq_true rfl),?_⟩;obtain⟨H8,e8,j8⟩:=j7.set "first" (.int 0);rw[<- e8];refine⟨_,rfl,1,rfl,p,_,_,.int 0,rfl,rfl,SqL.of (j8.but _ _ gp npq),rfl,_,rfl,qu,_,dx,_,rfl,j8.at_,T.aa0,T.aj8,(le_of_ble_eq_true rfl),?_⟩;obtain⟨H9,e9,j9⟩:=j8.set "last" (.int 0);rw[<- e9];refine⟨_,rfl,qu,_,dx,_,rfl,j9.at_,T.aa0,T.an6,(le_of_ble_eq_true rfl),?_⟩;obtain⟨H10,e10,j10⟩:=j9.set "writing" (.bl false);rw[<- e10];refine λhd hhd=>?_;obtain⟨H11,e11,j11,gh,S11,nhq⟩:=j10.new (o:=.dK []) hhd;rw[<- e11];have hh7:H7 hd=none:=by
  cases e:H7 hd with
  | none=>rfl
  | some o=>rw[j10.but _ _ e nhq]at hhd; cases hhd
 refine⟨_,rfl,qu,_,dx,_,rfl,j11.at_,T.aa0,T.ac4,(le_of_ble_eq_true rfl),?_⟩;obtain⟨H12,e12,j12⟩:=j11.set "holders" (.ref hd);rw[<- e12];refine⟨_,rfl,qu,_,dx,_,rfl,j12.at_,T.aa0,T.ba9,(le_of_ble_eq_true rfl),?_⟩;obtain⟨H13,e13,j13⟩:=j12.set "now" (.int 0);rw[<- e13];have gh13:H13 hd=some (.dK []):=by rw[e13,aF nhq,e12,aF nhq]; exact gh
 have t13:fR H7 H13:=λb xs e=>j13.but b _ e (λz=>by rw[z,h7]at e; cases e);obtain⟨db,hb1⟩:=hB7.self;obtain⟨kb,hb2,_⟩:=hB7.ent;obtain⟨pb,hb3,_⟩:=hB7.par;obtain⟨dc,hc1⟩:=hB6.self;obtain⟨kc,hc2,_⟩:=hB6.ent;obtain⟨pc,hc3,_⟩:=hB6.par;have in7:∀{c:Addr},c=bk\/c=de\/c=dp->(∃o,H7 c=some o)/\∃o,H6 c=some o:=λhc=>by
  rcases hc with y | y | y
  ·rw[y]; exact⟨⟨_,hb1⟩,_,hc1⟩
  ·rw[y]; exact⟨⟨_,hb2⟩,_,hc2⟩
  ·rw[y]; exact⟨⟨_,hb3⟩,_,hc3⟩
 have nhd:¬ own dk df kvs' hd:=λz=>by
  obtain⟨o,e⟩:=qL hD7 z;rw[hh7]at e;cases e
 refine qq ⟨qu,dk,df,bk,de,dp,hd,kvs'⟩ d H13 rfl rfl (λb o e nb no=>j13.but b o (b7 b o e nb no) nb) (λb hb=>?_) ⟨⟨dx,j13.at_⟩,hD7.keep (λc o e hc=>j13.but c o e (λz=>by rw[z]at hc; exact nqu' hc)),hB7.keep (λc o e hc=>j13.but c o e (isb hc).1) t13,⟨[],gh13,trivial⟩,λb hb=>?_,⟨λz=>(isb z).1 rfl,nqu'⟩,⟨nhq,λz=>?_,nhd⟩⟩
 ·rcases hb with z | z | z | z
  ·exact .inl z
  ·have z:b=hd:=z;rw[z];by_cases y:own dk df kvs hd
   ·exact .inr (.inl y)
   ·refine .inr (.inr ?_);cases e:H hd with
    | none=>rfl
    | some o=>rw[b7 _ _ e nhq y]at hh7; cases hh7
  ·exact .inr (.inr (isb z).2)
  ·rcases w7 b z with y | y
   ·exact .inr (.inl y)
   ·by_cases x:b=qu
    ·exact .inl x
    ·refine .inr (.inr ?_);cases e:H b with
     | none=>rfl
     | some o=>rw[j6.but b o e x]at y; cases y
 ·obtain⟨_,o,e⟩:=in7 hb;exact far e (nown (isb hb).2)
 ·obtain⟨⟨o,e⟩,_⟩:=in7 z;rw[hh7]at e;cases e
end
abbrev Ak:Stmt:=bI (top 55) 6
def qT(x:Str):Prop:=eT x5 6 (.str x)=true/\(x.length<=1000/\pV x=true)
inductive jD(A:Ad)(vs:L6)(H:Hp)(Q:VK)(E:XK):Prop
 | mk:∀(L:Pl)(q:Qs)(x:Str)(n:Int),vs=[.ref L.qu,.str x,.int n]->QueueW A H L q false->qT x->0<=n->n<=999999->(∀tm,bU q.hs n=some (x,tm)->∀H',aH H H'->Q .non H')->((∀tm,bU q.hs n≠some (x,tm))->∀H',aH H H'->E (.ref A.notHeld) none H')->jD A vs H Q E
inductive kW(A:Ad)(vs:L6)(H:Hp)(Q:VK)(E:XK):Prop
 | mk:∀(L:Pl)(q:Qs)(x:Str)(n:Int),vs=[.ref L.qu,.str x,.int n]->QueueW A H L q false->qT x->0<=n->n<=999999->(∀tm,bU q.hs n=some (x,tm)->WOk q 1/\∃B',dG (aV q).last (aV q).B [("done",n,[])]=some B'/\∀L' H',Step L L' H H'->QueueW A H' L' (KC q n B') false->Q .non H')->((∀tm,bU q.hs n≠some (x,tm))->∀H',aH H H'->E (.ref A.notHeld) none H')->kW A vs H Q E
inductive kX(A:Ad)(vs:L6)(H:Hp)(Q:VK)(E:XK):Prop
 | mk:∀(L:Pl)(q:Qs)(x:Str)(n:Int),vs=[.ref L.qu,.str x,.int n]->QueueW A H L q false->qT x->0<=n->n<=999999->(∀tm,bU q.hs n=some (x,tm)->∀H',Step L L H H'->QueueW A H' L (KD q n) false->Q .non H')->((∀tm,bU q.hs n≠some (x,tm))->∀H',aH H H'->E (.ref A.notHeld) none H')->kX A vs H Q E
def lQ(hs:Ma)(ms:Ls):Lw:=ms.map λn=>.tuple [.int n,.str ((bU hs n).getD ("",0)).1]
inductive nU(A:Ad)(vs:L6)(H:Hp)(Q:VK)(x_3:XK):Prop
 | mk:∀(L:Pl)(q:Qs),vs=[.ref L.qu]->QueueW A H L q false->q.hs.length<64->(∀ms,List.Perm ms (q.hs.map (·.1))->ms.Pairwise (· <= ·)->∀p H',aH H H'->H p=none->Den H' (.list (lQ q.hs ms)) (.ref p)->Q (.ref p) H')->nU A vs H Q x_3
def hU(q:Qs)(m n:Int):Bool:=decide (q.now+m - ((bU q.hs n).getD ("",0)).2 > q.hold)
def wC(q:Qs)(m:Int)(l:Ls):Qs:={ q with now:=q.now+m,hs:=q.hs.filter λp=>decide (p.1 ∉ l) }
inductive iN(A:Ad)(vs:L6)(H:Hp)(Q:VK)(x_3:XK):Prop
 | mk:∀(L:Pl)(q:Qs)(m:Int),vs=[.ref L.qu,.int m]->QueueW A H L q false->1<=m->m<=99->q.hs.length<64->(q.hs.map (·.1)).Nodup->(∀p∈q.hs,∃e,bN q.B.es p.1=some e)->(∀ms,List.Perm ms (q.hs.map (·.1))->ms.Pairwise (· <= ·)->∀p H',Step L L H H'->QueueW A H' L (wC q m (ms.filter (hU q m))) false->H p=none->Den H' (.list ((ms.filter (hU q m)).map (hJ q.B.es))) (.ref p)->Q (.ref p) H')->iN A vs H Q x_3
def HoR.keys:∀{hs:Ma}{hk:Lz},HoR H hs hk->hk.map (·.1)=(hs.map (·.1)).map Sum.inl
 | [],[],_=>rfl
 | _::_,_::_,⟨h1,_,h3⟩=>by rw[map_cons,map_cons,map_cons,HoR.keys h3,h1]
 | [],_::_,h=>h.elim
 | _::_,[],h=>h.elim
def pG(h:n∈hs.map (·.1)):∃x tm,bU hs n=some (x,tm):=by
 unfold bU;cases y:hs.find? λp=>decide (p.1=n) with
 | none=>
  rw[find?_eq_none]at y;obtain⟨p,hp,e⟩:=mem_map.mp h;exact absurd (decide_eq_true e) (y p hp)
 | some p=>exact⟨p.2.1,p.2.2,rfl⟩
section
variable{P:Program}{w:World}{K:Ln}{mg:Lp}{base:Heap}{A:Ad}
def BN(F:Fun K "check_held" "Queue.check_held" xF f fd)(T:‹3›)(ab1:‹2›)(ae3:‹15› "check_hand" 2 ["hand"] (gU A)):‹14› 3 f fd ["self","hand","number"] (jD A):=by
 obtain⟨_,ac7⟩:=T.ad0;refine F.okY ["self","hand","number"] λcdv A' outer s H vs Q E hr nD0 h=>?_;obtain⟨L,q,x,n,rfl,hq,hw,n0,n9,qq,qe⟩:=h;refine⟨_,aA (aY (bC ae3 ‹18› bP ‹26›))
  (aA (a8 (mC (cR (dH (bC ab1 ‹18› aZ (aE (pv 2) ‹43›)))) (iY (nY (m6 (hu1 hr.units) (pv 2) ‹22›)))).pt
   (aC (dW eV ⋯ T.aj7 ⋯ T.be6 ‹24›))
   aO)
  (aC (a8 (aR BF (cF (cS K) (dX (hu1 hr.units) ‹22› (pv 2) (λ_ _=>rfl)) aI (λ_ _=>rfl)) (pv 1) (bD _))
   (aC (dW eV ⋯ T.aj7 ⋯ T.be6 ‹24›))
   aO))),?_⟩
 refine⟨_,rfl,.str x,.str x,rfl,by simp only[Den],(λy e=>by injection e with e; rw[<- e]; exact hw.2),λ_ H1 S1=>?_,(λz=>by rw[hw.1]at z; cases z)⟩;have hq1:=hq.same S1;obtain⟨dx,h1⟩:=hq1.self;obtain⟨hk,g1,r1⟩:=hq1.held;have isn:bO 0 999999 (.int n)=true:=by
  simp only[bO,and_eq_true,decide_eq_true_eq];exact⟨n0,n9⟩
 have dg:=cQ.k (k:=Sum.inl n) g1;refine⟨_,rfl,.int n,.int n,0,999999,rfl,by simp only[Den],_,rfl,?_⟩;rw[isn];refine bB ⟨_,rfl,_,rfl,L.qu,_,dx,_,_,rfl,h1,T.aa0,T.ac4,rfl,L.hd,_,rfl,dg,_,rfl,?_⟩;cases el:bU q.hs n with
 | none=>
  rw[(r1.look (n:=n)).1 el];exact aU ⟨aJ,qe (λtm z=>by rw[el]at z; cases z) H1 S1⟩
 | some o=>
  obtain⟨y,tm⟩:=o;obtain⟨t,ev,gt⟩:=(r1.look (n:=n)).2 y tm el;rw[ev]at dg ⊢;refine bB (cP rfl ?_);refine⟨_,rfl,L.qu,_,dx,_,_,rfl,h1,T.aa0,T.ac4,rfl,_,rfl,L.hd,_,rfl,dg,?_⟩;refine⟨t,_,_,.str y,rfl,rfl,SqT.of gt,aT (by decide) rfl,_,rfl,rfl,_,rfl,?_⟩;by_cases e:y=x
  ·subst e;rw[decide_eq_true rfl];exact bB (qq tm el H1 S1)
  ·rw[gF e];exact aU ⟨aJ,qe (λtm' z=>e (by rw[el]at z; exact congrArg (·.1) (Option.some.inj z))) H1 S1⟩
def Cq(F:Fun K "give_back" "Queue.give_back" As f fd)(T:‹3›)(ad7:‹16› A.queue "check_held" 3 ["self","hand","number"] (jD A)):‹14› 4 f fd ["self","hand","number"] (kX A):=by
 refine F.okY ["self","hand","number"] λcdv A' outer s H vs Q E hr nD0 h=>?_;obtain⟨L,q,x,n,rfl,hq,hw,n0,n9,qq,qe⟩:=h;refine⟨_,aA (aY (cO ad7 T.aa0 ‹18› bP (pv 0) (aE (pv 1) ‹37›)))
  ‹76›,?_⟩
 obtain⟨dx0,h0⟩:=hq.self;refine⟨_,rfl,L.qu,dx0,_,rfl,h0,rfl,_,rfl,_,rfl,L,q,x,n,rfl,hq,hw,n0,n9,λtm el H1 S1=>?_,λel H1 S1=>qe el H1 S1⟩;have hq1:=hq.same S1;obtain⟨dx,h1⟩:=hq1.self;obtain⟨hk,g1,r1⟩:=hq1.held;obtain⟨t,ev,gt⟩:=(r1.look (n:=n)).2 x tm el;refine⟨_,rfl,L.qu,_,dx,_,_,rfl,h1,T.aa0,T.ac4,rfl,?_⟩;refine⟨.inr (.inr (.inl ⟨rfl,.inl ⟨_,g1⟩⟩)),_,rfl,L.hd,hk,Sum.inl n,_,rfl,rfl,g1,ev,?_⟩;obtain⟨hq2,st2⟩:=hq1.toHeld (r1.drop (n:=n));exact qq tm el _ ((aH.step S1).trans st2) hq2
def Cm(F:Fun K "done" "Queue.done" Aq f fd)(T:‹3›)(ad7:‹16› A.queue "check_held" 3 ["self","hand","number"] (jD A))(ab6:‹4›):‹14› 8 f fd ["self","hand","number"] (kW A):=by
 refine F.okY ["self","hand","number"] λcdv A' outer s H vs Q E hr nD0 h=>?_;obtain⟨L,q,x,n,rfl,hq,hw,n0,n9,qq,qe⟩:=h;refine⟨_,aA (aY (cO ad7 T.aa0 ‹18› bP (pv 0) (aE (pv 1) ‹37›)))
  (aA (aY (cO ab6 T.aa0 ‹18› bP (pv 0) (fH (cD (bV (bE (aN bH (aE (pv 2) ‹46›))) aG)) aG)))
  ‹76›),?_⟩
 obtain⟨dx0,h0⟩:=hq.self;refine⟨_,rfl,L.qu,dx0,_,rfl,h0,rfl,_,rfl,_,rfl,L,q,x,n,rfl,hq,hw,n0,n9,λtm el H2 S2=>?_,λel H1 S1=>qe el H1 S1⟩;obtain⟨ok,B',hfo,qq⟩:=qq tm el;have hq2:=hq.same S2;obtain⟨dx2,h2⟩:=hq2.self;refine⟨_,rfl,L.qu,dx2,_,rfl,h2,rfl,_,rfl,aJ,λp0 hp0=>⟨aJ,λp1 hp1=>⟨aJ,λp2 hp2=>?_⟩⟩⟩;obtain⟨H3,eUU,V0,v0⟩:=gUU (o:=.tup []) hp0;rw[eUU]at hp1 hp2 ⊢;obtain⟨H4,eUU,V1,v1⟩:=gUU (o:=.tup [.str "done",.int n,.ref p0]) hp1;rw[eUU]at hp2 ⊢;obtain⟨H5,eUU,V2,v2⟩:=gUU (o:=.lst [.ref p1]) hp2;rw[eUU];have S25:=V0.trans (V1.trans V2);have hq5:=hq2.same S25;refine⟨L,q,p2,[("done",n,[])],B',rfl,hq5,ok,λz=>?_,?_,λr hr'=>?_,hfo,λL' H6 st hq6=>?_⟩
 ·obtain⟨o,e⟩:=eK (hq2.same (V0.trans V1)) z;rw[e]at hp2;cases hp2
 ·simp only[Den,map_cons,map_nil,aP];refine⟨p2,_,rfl,v2,_,_,rfl,?_,rfl⟩;unfold cC fM;simp only[Den,aP,map_nil];exact⟨p1,_,rfl,V2 _ _ v1,_,_,rfl,rfl,_,_,rfl,rfl,_,_,rfl,⟨p0,_,rfl,V2 _ _ (V1 _ _ v0),rfl⟩,rfl⟩
 ·rw[mem_singleton.mp hr'];exact AR (.inr (.inr rfl)) n0 n9
 obtain⟨dx6,h6⟩:=hq6.self;obtain⟨hk,g6,r6⟩:=hq6.held;rw[show (mT (aV q) (cA [("done",n,[])]) B').hs=q.hs from (cZ q).2.1]at r6;obtain⟨t,ev,gt⟩:=(r6.look (n:=n)).2 x tm el;rw[st.qu]at h6;refine⟨_,rfl,L.qu,_,dx6,_,_,rfl,h6,T.aa0,T.ac4,rfl,.inr (.inr (.inl ⟨rfl,.inl ⟨_,g6⟩⟩)),_,rfl,L'.hd,hk,Sum.inl n,_,rfl,rfl,g6,ev,?_⟩;obtain⟨hq7,st7⟩:=hq6.toHeld (r6.drop (n:=n));exact qq L' _ ((aH.step (S2.trans S25)).trans (st.trans st7)) hq7
def Ck(F:Fun K "held" "Queue.held" An f fd)(T:‹3›):‹14› 1 f fd ["self"] (nU A):=by
 refine F.okY ["self"] λcdv A' outer s H vs Q E hr nD0 h=>?_;obtain⟨L,q,rfl,hq,hl,qq⟩:=h;refine⟨_,aC (aQ (dC ["number"] [("self",0)] ⋯ (bT K ‹73›) ‹31› ‹40› (λC s2 H2 ex=>(bE (aE (pv 0) (aM ‹41› aG)))))),?_⟩;obtain⟨dx,h1⟩:=hq.self;obtain⟨hk,g1,r1⟩:=hq.held;refine⟨_,rfl,L.qu,_,dx,_,_,rfl,h1,T.aa0,T.ac4,rfl,L.hd,hk,q.hs.map (·.1),rfl,g1,r1.keys,.inl (by rw[length_map]; omega),by rw[length_map]; omega,λp ms perm pw hp=>?_⟩;obtain⟨H1,eUU,S1,g2⟩:=gUU (o:=.lst (ms.map .int)) hp;rw[eUU];have pl:=perm.length_eq;rw[length_map]at pl;refine⟨p,rfl,⟨_,SqL.of g2⟩,?_⟩;refine c9 (bS (K:=K) (SqL.of g2)) (by rw[length_map]; exact le_trans ‹63› (by decide)) (λi y H'=>∃n,ms[i]? = some n/\Den H' (.tuple [.int n,.str ((bU q.hs n).getD ("",0)).1]) y) (λi y H1 H2 s h=>by obtain⟨n,e,h⟩:=h; exact⟨n,e,h.n s rfl⟩) (λσ=>∃z,σ = [z,some (.ref L.qu)]) ⟨none,rfl⟩ ?_ ?_
 ·intro i x σc H3 hi hσ s3 hx Q' hQ';obtain⟨z,rfl⟩:=hσ;rw[getElem?_map]at hx;cases e:ms[i]? with
  | none=>rw[e]at hx; cases hx
  | some n=>
   rw[e]at hx;cases hx;obtain⟨x,tm,el⟩:=pG (perm.mem_iff.mp (mem_of_getElem? e));obtain⟨t,ev,gt⟩:=(r1.look (n:=n)).2 x tm el;have S:=S1.trans s3;have dg:=cQ.k (k:=Sum.inl n) (S _ _ g1);rw[ev]at dg;refine⟨_,rfl,_,rfl,L.qu,_,dx,_,_,rfl,S _ _ h1,T.aa0,T.ac4,rfl,_,rfl,L.hd,_,rfl,dg,t,_,_,.str x,rfl,rfl,SqT.of (S _ _ gt),aT (by decide) rfl,aJ,λp4 hp4=>?_⟩;refine hQ' _ _ _ ⟨_,rfl⟩ (aD hp4) ⟨n,e,?_⟩;rw[el];simp only[Den,aP];exact⟨p4,_,rfl,aB,_,_,rfl,rfl,_,_,rfl,rfl,rfl⟩
 intro D ys H2 hD S2 gD hlen hR;refine qq ms perm pw D H2 (S1.trans S2) (S1.free hD) ?_;simp only[Den];refine⟨D,ys,rfl,gD,jK (by unfold lQ; rw[length_map]; rw[length_map]at hlen; exact hlen) λi y e=>?_⟩;obtain⟨n,e1,e2⟩:=hR i y e;exact⟨_,by unfold lQ; rw[getElem?_map,e1]; rfl,e2⟩
def En{f:Addr}{fd:Lx}(F:Fun K "wait" "Queue.wait" Ak f fd)(T:‹3›)(ab1:‹2›)(ac9:‹12›){hw:∃t,mg "LONGEST_WAIT" = some (.int 99 t)}:‹14› 3 f fd ["self","many"] (iN A):=by
 obtain⟨_,bb3⟩:=hw;refine F.okY ["self","many","late","number"] λcdv A' outer s H vs Q E hr nD0 h=>?_;obtain⟨L,q,m,rfl,hq,m1,m99,hl,hn,he,qq⟩:=h;refine⟨_,aA (a8 (cR (dH (bC ab1 ‹18› aZ (aE (pv 1) (aN aI (aE (cM (v:=.int 99) ⋯ bb3 ⟨_,rfl⟩) aG))))))
   ‹84›
   aO)
  (aA (qI (pv 0) (pv 1) u6)
  (aA (lG (i:=2) ["number"] [("self",0)] nD0 ⋯ ⋯ ⋯ (bT K ‹73›) ‹31› (λC s2 H2 ex=>(gY (aR nK (bA i4 ‹62› ‹41›) ‹62› (bD _)))) ‹66›)
  (aA (fZ (lW eJ) ⋯ (bT K (pv 2)) ‹53›
   (aC (aY (iD K PySem.F.plainAttrs_dict PySem.F.slot_dict_pop PySem.F.type_dict_pop pC ‹22› ‹47›))))
  (aC (aQ (dC ["number"] [("self",0)] ⋯ (bT K (pv 2)) ‹31› ‹40› (λC s2 H2 ex=>(cO ac9 T.ac5 ‹18› aZ ‹62› ‹34›)))))))),?_⟩
 obtain⟨dx,h1⟩:=hq.self;have isn:bO 1 99 (.int m)=true:=by
  simp only[bO,and_eq_true,decide_eq_true_eq];exact⟨m1,m99⟩
 refine⟨_,rfl,.int m,.int m,1,99,rfl,by simp only[Den],_,rfl,?_⟩;rw[isn];refine bB (cP rfl ?_);refine⟨_,rfl,L.qu,_,dx,_,_,rfl,h1,T.aa0,T.ba9,rfl,_,rfl,_,_,rfl,rfl,dx,_,h1,(le_of_ble_eq_true rfl),?_⟩;obtain⟨hq1,st1⟩:=hq.fields (dx:=dx) { q with now:=q.now+m } false rfl rfl rfl;show vP _ _ _ _ (upd H L.qu (.ins A.queue dx (quF L { q with now:=q.now+m } false)));generalize upd H L.qu (.ins A.queue dx (quF L { q with now:=q.now+m } false))=H1 at hq1 st1 ⊢;obtain⟨q1,eq1⟩:∃q1:Qs,q1 = { q with now:=q.now+m }:=⟨_,rfl⟩;rw[<- eq1]at hq1;obtain⟨dx1,h11⟩:=hq1.self;obtain⟨hk,g1,r1⟩:=hq1.held;have eh:q1.hs=q.hs:=by rw[eq1]
 rw[eh]at r1;refine⟨_,rfl,L.qu,_,dx1,_,_,rfl,h11,T.aa0,T.ac4,rfl,L.hd,hk,q.hs.map (·.1),rfl,g1,r1.keys,.inl (by rw[length_map]; omega),by rw[length_map]; omega,λp ms perm pw hp=>?_⟩;obtain⟨H2,eUU,S2,g2⟩:=gUU (o:=.lst (ms.map .int)) hp;rw[eUU];have pl:=perm.length_eq;rw[length_map]at pl;refine⟨p,rfl,⟨_,SqL.of g2⟩,?_⟩;refine fQ (bS (K:=K) (SqL.of g2)) (by rw[length_map]; exact le_trans ‹63› (by decide)) (λj=>hU q m (ms.getD j 0)) (λj=>V.int (ms.getD j 0)) (λσ=>∃z,σ = [z,some (.ref L.qu)]) ⟨none,rfl⟩ ?_ ?_
 ·intro j x σc H3 hj hσ s3 hx Q1 Q2 Q3 h2' h3';obtain⟨z,rfl⟩:=hσ;rw[getElem?_map]at hx;cases e:ms[j]? with
  | none=>rw[e]at hx; cases hx
  | some n=>
   rw[e]at hx;cases hx;have eg:ms.getD j 0=n:=by rw[getD_eq_getElem?_getD,e]; rfl
   rw[eg]at h2' h3';obtain⟨x,tm,el⟩:=pG (perm.mem_iff.mp (mem_of_getElem? e));obtain⟨t,ev,gt⟩:=(r1.look (n:=n)).2 x tm el;have S:=S2.trans s3;have dg:=cQ.k (k:=Sum.inl n) (S _ _ g1);rw[ev]at dg;refine⟨_,rfl,L.qu,_,dx1,_,_,rfl,S _ _ h11,T.aa0,T.ba9,rfl,_,rfl,L.qu,_,dx1,_,_,rfl,S _ _ h11,T.aa0,T.ac4,rfl,_,rfl,L.hd,_,rfl,dg,t,_,_,.int tm,rfl,rfl,SqT.of (S _ _ gt),aT (by decide) rfl,_,_,rfl,rfl,_,rfl,L.qu,_,dx1,_,_,rfl,S _ _ h11,T.aa0,T.bj7,rfl,_,_,rfl,rfl,_,rfl,?_⟩;have eb:hU q m n=decide (q1.hold<q1.now - tm):=by
    unfold hU;rw[el,eq1];rfl
   cases hb:hU q m n with
   | true=>
    rw[<- eb,hb];exact aU ⟨_,rfl,h2' _ ⟨_,rfl⟩ hb⟩
   | false=>
    rw[<- eb,hb];exact bB (h3' _ ⟨_,rfl⟩ hb)
 intro pl2 H3 hD3 S3 g3;rw[length_map,gE ms (hU q m)]at g3;obtain⟨ls,els⟩:∃ls,ls=ms.filter (hU q m):=⟨_,rfl⟩;rw[<- els]at g3;have lsN:ls.Nodup:=by
  rw[els];exact List.Pairwise.filter _ (perm.nodup_iff.mpr hn)
 have lsl:ls.length<=1000:=by
  rw[els];have:=length_filter_le (hU q m) ms;omega
 have lsm:∀n∈ls,n∈q.hs.map (·.1):=λn h=>by
  rw[els]at h;exact perm.mem_iff.mp (mem_filter.mp h).1
 have hq3:=hq1.same (S2.trans S3);have st3:=st1.trans (aH.step (L:=L) (S2.trans S3));have npl:¬ eQ L pl2:=λz=>by
  obtain⟨o,e⟩:=eK (hq1.same S2) z;rw[e]at hD3;cases hD3
 have fin0:H pl2=none:=by
  cases e:H pl2 with
  | none=>rfl
  | some o=>
   rw[S2 _ _ (st1.frm _ _ e npl)]at hD3;cases hD3
 refine⟨_,rfl,pl2,rfl,⟨_,SqL.of g3⟩,?_⟩;refine gC (bS (K:=K) (H:=upd (λ_=>none) pl2 (.lst (ls.map V.int))) (SqL.of aB)) (λi σ H'=>∃z3,Step L L H H'/\QueueW A H' L { q1 with hs:=q.hs.filter λp=>decide (p.1 ∉ ls.take i) } false/\H' pl2=some (.lst (ls.map V.int))/\σ = [some (.ref L.qu),some (.int m),some (.ref pl2),z3]) ⟨_,st3,?_,g3,rfl⟩ (λi σ H' hh b o e=>?_) ?_ ?_
 ·rw[List.take_zero,List.filter_eq_self.mpr (λp _=>decide_eq_true (by simp)),<- eh];exact hq3
 ·obtain⟨_,_,_,g,_⟩:=hh;by_cases y:b=pl2
  ·subst y;rw[aB]at e;injection e with e
   rw[<- e];exact g
  ·rw[aF y]at e;cases e
 ·rintro i x σ H5 H6 hi ⟨z3,st,hqi,gi,rfl⟩ s6 hx;rw[length_map]at hi;have hx:(ls.map V.int)[i]? = some x:=hx;rw[getElem?_map]at hx;obtain⟨n,en⟩:∃n,ls[i]? = some n:=⟨_,getElem?_eq_getElem hi⟩;rw[en]at hx;cases hx;have hq6:=hqi.same s6;obtain⟨dx6,h6⟩:=hq6.self;obtain⟨hk6,g6,r6⟩:=hq6.held;have tk:ls.take (i+1)=ls.take i++[n]:=by rw[take_succ,en]; rfl
  have nin:n ∉ ls.take i:=λz=>by
   have hd:ls.take i++ls.drop i=ls:=List.take_append_drop _ _;have nd:=lsN;rw[<- hd,nodup_append]at nd;have h2:n∈ls.drop i:=by
    rw[List.drop_eq_getElem_cons hi];have:ls[i]=n:=(List.getElem?_eq_some_iff.mp en).2;rw[this];exact mem_cons_self
   exact nd.2.2 n z n h2 rfl
  have hin:n∈(q.hs.filter λp=>decide (p.1 ∉ ls.take i)).map (·.1):=by
   obtain⟨p,hp,ep⟩:=mem_map.mp (lsm n (mem_of_getElem? en));exact mem_map.mpr ⟨p,mem_filter.mpr ⟨hp,decide_eq_true (by rw[ep]; exact nin)⟩,ep⟩
  obtain⟨x,tm,el⟩:=pG hin;obtain⟨t,ev,gt⟩:=(r6.look (n:=n)).2 x tm el;refine⟨_,rfl,L.qu,_,dx6,_,_,rfl,h6,T.aa0,T.ac4,rfl,.inr (.inr (.inl ⟨rfl,.inl ⟨_,g6⟩⟩)),_,rfl,L.hd,hk6,Sum.inl n,_,rfl,rfl,g6,ev,?_⟩;obtain⟨hq7,st7⟩:=hq6.toHeld (r6.drop (n:=n));refine⟨_,st.trans ((aH.step s6).trans st7),?_,st7.frm _ _ (s6 _ _ gi) npl,rfl⟩;have e1:dropH (q.hs.filter λp=>decide (p.1 ∉ ls.take i)) n=q.hs.filter λp=>decide (p.1 ∉ ls.take (i+1)):=by
   unfold dropH;rw[List.filter_filter];refine List.filter_congr λp _=>?_;rw[tk,<- Bool.decide_and];refine decide_eq_decide.mpr ?_;rw[mem_append,mem_singleton];exact⟨λh z=>z.elim h.2 h.1,λh=>⟨λz=>h (.inr z),λz=>h (.inl z)⟩⟩
  rw[<- e1];exact hq7
 rintro σ H5 ⟨z3,st,hqi,gi,rfl⟩;rw[length_map,take_length]at hqi;obtain⟨dx5,h5⟩:=hqi.self;obtain⟨db5,hb5⟩:=hqi.book.self;refine⟨_,rfl,pl2,rfl,⟨_,SqL.of gi⟩,?_⟩;refine c9 (bS (K:=K) (SqL.of gi)) (by rw[length_map]; exact le_trans lsl (by decide)) (λi y H'=>∃n,ls[i]? = some n/\Den H' (hJ q.B.es n) y) (λi y H1 H2 s h=>by obtain⟨n,e,h⟩:=h; exact⟨n,e,h.n s (pH _ _)⟩) (λσ=>∃z,σ = [z,some (.ref L.qu)]) ⟨none,rfl⟩ ?_ ?_
 ·intro i x σc H6 hi hσ s6 hx Q' hQ';obtain⟨z,rfl⟩:=hσ;rw[getElem?_map]at hx;cases e:ls[i]? with
  | none=>rw[e]at hx; cases hx
  | some n=>
   rw[e]at hx;cases hx;obtain⟨p,hp,ep⟩:=mem_map.mp (lsm n (mem_of_getElem? e));obtain⟨en,hen⟩:=he p hp;rw[ep]at hen;have bk6:BookAt A.book H6 L.bk L.de L.dp q.B:=by
    have:=(hqi.same s6).book;rw[show ({ q1 with hs:=q.hs.filter λp=>decide (p.1 ∉ ls) }:Qs).B=q.B by rw[eq1]]at this;exact this
   refine⟨_,rfl,L.qu,_,dx5,_,_,rfl,s6 _ _ h5,T.aa0,T.ad8,rfl,L.bk,db5,_,rfl,s6 _ _ hb5,rfl,_,rfl,L.bk,L.de,L.dp,q.B,n,en,rfl,bk6,hen,λp7 H7 S7 d7=>?_⟩;refine hQ' _ _ _ ⟨_,rfl⟩ S7 ⟨n,e,?_⟩;unfold hJ;rw[hen];exact d7
 intro D ys H6 hD S6 gD hlen hR;have hD0:H D=none:=by
  cases e:H D with
  | none=>rfl
  | some o=>
   by_cases y:eQ L D
   ·obtain⟨o',e'⟩:=eK hqi y;rw[e']at hD;cases hD
   ·rw[st.frm _ _ e y]at hD;cases hD
 refine qq ms perm pw D H6 (st.trans (aH.step S6)) ?_ hD0 ?_
 ·rw[<- els];unfold wC;have:=hqi.same S6;rw[eq1]at this;exact this
 ·rw[<- els];simp only[Den];refine⟨D,ys,rfl,gD,jK (by rw[length_map]; rw[length_map]at hlen; exact hlen) λi y e=>?_⟩;obtain⟨n,e1,e2⟩:=hR i y e;exact⟨_,by rw[getElem?_map,e1]; rfl,e2⟩
end
abbrev o0:Stmt:=top 65
abbrev wX:Stmt:=top 66
abbrev s_do:Stmt:=top 67
inductive mU where
 | put (b:Ls) | all (bs:Lq) | take (x:Str) | done (x:Str) (n:Int) | back (x:Str) (n:Int) | wait (m:Int) | new (n:Int) | sweep | carry
def cB:mU->Str
 | .put _=>"put"
 | .all _=>"all"
 | .take _=>"take"
 | .done _ _=>"done"
 | .back _ _=>"back"
 | .wait _=>"wait"
 | .new _=>"new"
 | .sweep=>"sweep"
 | .carry=>"carry"
def cN:mU->Lw
 | .put b=>[.tuple (b.map .int)]
 | .all bs=>[.tuple (dZ bs)]
 | .take x=>[.str x]
 | .done x n=>[.str x,.int n]
 | .back x n=>[.str x,.int n]
 | .wait m=>[.int m]
 | .new n=>[.int n]
 | .sweep=>[]
 | .carry=>[]
def zH:List (Str × Int):=[("put",2),("all",2),("take",2),("done",3),("back",3),("wait",2),("new",2),("sweep",1),("carry",1)]
def GG:Lz:=zH.map λp=>(Sum.inr p.1,V.int p.2)
inductive jR(vs:L6)(H:Hp)(Q:VK)(x_3:XK):Prop
 | mk:∀(t:Addr)(args:L6)(d:mU),vs=[.ref t]->H t=some (.tup (.str (cB d)::args))->args.length=(cN d).length->Q .non H->jR vs H Q x_3
def IW(d:mU):dE GG (Sum.inr (cB d))=some (.int ((cN d).length+1:Nat)):=by
 cases d <;> rfl
def bW(e:σ[i]? = some (some (.str x)))(h:decide (x=k)=false)(g:b D σ H):vP (IL (Ab (tOp rEq (lU i) (tC (V.str k)))) a Ac) b D σ H:=by
 refine⟨_,e,rfl,_,rfl,?_⟩;rw[gF (of_decide_eq_false h)];exact bB g
def jE(e:σ[i]? = some (some (.str x)))(h:x=k)(g:a { D with nx:=b D } σ H):vP (IL (Ab (tOp rEq (lU i) (tC (V.str k)))) a Ac) b D σ H:=by
 refine⟨_,e,rfl,_,rfl,?_⟩;rw[hX h];exact aU g
def Kj(A:Ad):mU->Sp
 | .put _=>oO A
 | .all _=>jC A
 | .take _=>mW A
 | .done _ _=>kW A
 | .back _ _=>kX A
 | .wait _=>iN A
 | .new _=>jB A
 | .sweep=>iU A
 | .carry=>iV A
inductive y8(A:Ad)(vs:L6)(H:Hp)(Q:VK)(E:XK):Prop
 | mk:∀(L:Pl)(q:Qs)(t:Addr)(args:L6)(d:mU),vs=[.ref L.qu,.ref t]->QueueW A H L q false->H t=some (.tup (.str (cB d)::args))->args.length=(cN d).length->Kj A d (.ref L.qu::args) H Q (λc _ H'=>E c none H')->y8 A vs H Q E
inductive Ag(A:Ad)(vs:L6)(H:Hp)(Q:VK)(x_3:XK):Prop
 | mk:∀(L:Pl)(q:Qs)(t:Addr)(args:L6)(d:mU),vs=[.ref L.qu,.ref t]->QueueW A H L q false->H t=some (.tup (.str (cB d)::args))->aP H (cN d) args->(∀E':XK,(∀a H',a∈[A.notHeld,A.badNumber,A.badBody]->Q (.str "refused") H'->E' (.ref a) none H')->Kj A d (.ref L.qu::args) H Q E')->Ag A vs H Q x_3
structure TxtS(P:Program)(w:World)(K:Ln)(mg:Lp)(A:Ad)(ab8 ad9 ab4:Addr):Prop where
 ad1:mg "len" = none
 ac1:mg "isinstance" = none
 ai4:mg "tuple" = none
 bi9:mg "str" = none
 am9:dO K ad9=true
 bj1:mg "BadDeed" = some (.ref ad9)
 at4:mg "Stopped" = some (.ref A.stopped)
 e_s:∀c∈[A.notHeld,A.badNumber,A.badBody],PySem.W.exmOne K (.ref c) (.ref A.stopped)=some false/\PySem.W.exmOne K (.ref c) (.ref ab4)=some true
 bh3:mg "QueueError" = some (.ref ab4)
 g_S:mg "SIZES_OF_DEEDS" = some (.ref ab8)
 G_S:GD P w K ab8 GG
section
variable{P:Program}{w:World}{K:Ln}{mg:Lp}{base:Heap}{A:Ad}{ab8 ad9 ab4:Addr}
def vX(F:Fun K "check_deed" "check_deed" o0 f fd)(T:TxtS P w K mg A ab8 ad9 ab4):‹14› 1 f fd ["deed"] jR:=by
 have G_SIZES_OF_DEEDS:=T.G_S;have g_SIZES_OF_DEEDS:=T.g_S;refine F.okY ["deed","word"] λcdv A' outer s H vs Q E hr nD0 h=>?_;obtain⟨t,args,d,rfl,gt,la,q⟩:=h;refine⟨_,aA (a8 (mC (cR (dH ‹28›)) (iY (aR fK ‹29› aI (bD _)))).pt
   ‹85›
   aO)
  (aA (aX (i:=1) nD0 ⋯ ⋯ ‹25›)
  (aA (a8 (mC (cR (dH (bF (iQ K) ⋯ T.ac1 eO (aE (pv 1) ‹55›)))) (iY (nY (Ej G_SIZES_OF_DEEDS (pv 1) (cM (v:=.ref ab8) ⋯ g_SIZES_OF_DEEDS ⋯))))).pt
   ‹85›
   aO)
  (aC (a8 (aR BF ‹29› (Ir G_SIZES_OF_DEEDS (cM (v:=.ref ab8) ⋯ g_SIZES_OF_DEEDS ⋯) (pv 1) (λ_ _=>rfl)) (bD _))
   ‹85›
   aO)))),?_⟩
 refine⟨_,rfl,_,"tuple",_,true,rfl,.tup gt,rfl,_,rfl,bB ?_⟩;refine⟨_,rfl,t,_,rfl,.inr (SqT.of gt),rfl,_,rfl,?_⟩;rw[length_cons,pR (show ((args.length+1:Nat):Int)≠0 by omega)];refine bB (cP rfl ?_);refine⟨_,rfl,t,_,_,.str (cB d),rfl,rfl,SqT.of gt,aT (by decide) rfl,?_⟩;refine⟨_,rfl,_,"str",_,true,rfl,.str _,rfl,_,rfl,bB ?_⟩;have hz:=IW d;refine⟨_,rfl,Sum.inr (cB d),rfl,_,rfl,?_⟩;rw[hz];refine bB (cP rfl ?_);refine⟨_,rfl,t,_,rfl,.inr (SqT.of gt),_,rfl,Sum.inr (cB d),_,rfl,hz,rfl,_,rfl,?_⟩;rw[length_cons,la,decide_eq_true rfl];exact bB q
def D3{α : Type}:∀{l:List α},l.length=2->∃x y,l=[x,y]
 | [x,y],_=>⟨x,y,rfl⟩
def Cd(F:Fun K "told_by" "told_by" wX f fd)(T:‹3›)(bh4:‹16› A.queue "put" 8 ["self","body"] (oO A))(aq8:‹16› A.queue "put_all" 8 ["self","bodies"] (jC A))(bd4:‹16› A.queue "take" 8 ["self","hand"] (mW A))(bd5:‹16› A.queue "done" 8 ["self","hand","number"] (kW A))(am1:‹16› A.queue "give_back" 4 ["self","hand","number"] (kX A))(aj1:‹16› A.queue "wait" 3 ["self","many"] (iN A))(at8:‹16› A.queue "revive" 8 ["self","number"] (jB A))(ba3:‹16› A.queue "sweep" 6 ["self"] (iU A))(ba4:‹16› A.queue "carry" 8 ["self"] (iV A)):‹14› 9 f fd ["queue","deed"] (y8 A):=by
 refine F.okY ["queue","deed","word"] λcdv A' outer s H vs Q E hr nD0 h=>?_;obtain⟨L,q,t,args,d,rfl,hq,gt,la,hd⟩:=h;refine⟨_,aA (aX (i:=2) nD0 ⋯ ⋯ ‹20›)
  (aA (a8 ‹44›
   (aC (aQ (cO bh4 T.aa0 ‹18› bP (pv 0) ‹78›)))
   aO)
  (aA (a8 ‹44›
   (aC (aQ (cO aq8 T.aa0 ‹18› bP (pv 0) ‹78›)))
   aO)
  (aA (a8 ‹44›
   (aC (aQ (cO bd4 T.aa0 ‹18› bP (pv 0) ‹78›)))
   aO)
  (aA (a8 ‹44›
   (aC (aQ (cO bd5 T.aa0 ‹18› bP (pv 0) (aM ‹20› ‹78›))))
   aO)
  (aA (a8 ‹44›
   (aC (aQ (cO am1 T.aa0 ‹18› bP (pv 0) (aM ‹20› ‹78›))))
   aO)
  (aA (a8 ‹44›
   (aC (aQ (cO aj1 T.aa0 ‹18› bP (pv 0) ‹78›)))
   aO)
  (aA (a8 ‹44›
   (aC (aQ (cO at8 T.aa0 ‹18› bP (pv 0) ‹78›)))
   aO)
  (aA (a8 ‹44›
   (aC (aQ (dI ba3 T.aa0 ‹18› bP (pv 0))))
   aO)
  (aC (aQ (dI ba4 T.aa0 ‹18› bP (pv 0)))))))))))),?_⟩
 obtain⟨dx,h1⟩:=hq.self;refine⟨_,rfl,t,_,_,.str (cB d),rfl,rfl,SqT.of gt,aT (by decide) rfl,?_⟩;cases d with
 | put b=>
  obtain⟨x,rfl⟩:=length_eq_one_iff.mp la;exact jE rfl rfl ⟨_,rfl,L.qu,dx,_,rfl,h1,rfl,_,rfl,t,_,_,x,rfl,rfl,SqT.of gt,rfl,hd⟩
 | all bs=>
  obtain⟨x,rfl⟩:=length_eq_one_iff.mp la;exact bW rfl rfl (jE rfl rfl ⟨_,rfl,L.qu,dx,_,rfl,h1,rfl,_,rfl,t,_,_,x,rfl,rfl,SqT.of gt,rfl,hd⟩)
 | take y=>
  obtain⟨x,rfl⟩:=length_eq_one_iff.mp la;exact bW rfl rfl (bW rfl rfl (jE rfl rfl ⟨_,rfl,L.qu,dx,_,rfl,h1,rfl,_,rfl,t,_,_,x,rfl,rfl,SqT.of gt,rfl,hd⟩))
 | done y n=>
  obtain⟨x,z,rfl⟩:=D3 la;exact bW rfl rfl (bW rfl rfl (bW rfl rfl (jE rfl rfl ⟨_,rfl,L.qu,dx,_,rfl,h1,rfl,_,rfl,t,_,_,x,rfl,rfl,SqT.of gt,rfl,_,rfl,t,_,_,z,rfl,rfl,SqT.of gt,rfl,hd⟩)))
 | back y n=>
  obtain⟨x,z,rfl⟩:=D3 la;exact bW rfl rfl (bW rfl rfl (bW rfl rfl (bW rfl rfl (jE rfl rfl ⟨_,rfl,L.qu,dx,_,rfl,h1,rfl,_,rfl,t,_,_,x,rfl,rfl,SqT.of gt,rfl,_,rfl,t,_,_,z,rfl,rfl,SqT.of gt,rfl,hd⟩))))
 | wait n=>
  obtain⟨x,rfl⟩:=length_eq_one_iff.mp la;exact bW rfl rfl (bW rfl rfl (bW rfl rfl (bW rfl rfl (bW rfl rfl (jE rfl rfl ⟨_,rfl,L.qu,dx,_,rfl,h1,rfl,_,rfl,t,_,_,x,rfl,rfl,SqT.of gt,rfl,hd⟩)))))
 | new n=>
  obtain⟨x,rfl⟩:=length_eq_one_iff.mp la;exact bW rfl rfl (bW rfl rfl (bW rfl rfl (bW rfl rfl (bW rfl rfl (bW rfl rfl (jE rfl rfl ⟨_,rfl,L.qu,dx,_,rfl,h1,rfl,_,rfl,t,_,_,x,rfl,rfl,SqT.of gt,rfl,hd⟩))))))
 | sweep=>
  obtain rfl:=length_eq_zero_iff.mp la;exact bW rfl rfl (bW rfl rfl (bW rfl rfl (bW rfl rfl (bW rfl rfl (bW rfl rfl (bW rfl rfl (jE rfl rfl ⟨_,rfl,L.qu,dx,_,rfl,h1,rfl,hd⟩)))))))
 | carry=>
  obtain rfl:=length_eq_zero_iff.mp la;exact bW rfl rfl (bW rfl rfl (bW rfl rfl (bW rfl rfl (bW rfl rfl (bW rfl rfl (bW rfl rfl (bW rfl rfl ⟨_,rfl,L.qu,dx,_,rfl,h1,rfl,hd⟩)))))))
def ok_do(F:Fun K "do" "do" s_do f fd)(T0:‹3›)(T:TxtS P w K mg A ab8 ad9 ab4)(am2:‹15› "check_deed" 1 ["deed"] jR)(at9:‹15› "told_by" 9 ["queue","deed"] (y8 A)):‹14› 10 f fd ["queue","deed"] (Ag A):=by
 refine F.okY ["queue","deed"] λcdv A' outer s H vs Q E hr nD0 h=>?_;obtain⟨L,q,t,args,d,rfl,hq,gt,da,hd⟩:=h;refine⟨_,aA (aY (bC am2 ‹18› bP ‹26›))
  (aC (Kw Iv (Ge (Ii (px_fn at9 ‹18› (aE (pv 0) ‹26›))))
   (PH.cons ⋯ T.at4 (by decide) (λex=>(aC (aQ bH))) (PH.cons ⋯ T.bh3 (by decide) (λex=>(aC (aQ bH))) PH.nil)))),?_⟩
 have la:=da.length;refine⟨_,rfl,t,args,d,rfl,gt,la,?_⟩;refine⟨_,rfl,_,rfl,L,q,t,args,d,rfl,hq,gt,la,?_⟩;refine hd _ λa H' ha h=>?_;obtain⟨e1,e2⟩:=T.e_s a ha;exact .inr ⟨e1,.inl ⟨e2,h⟩⟩
end
def iX(r:Rw)(rs:L8):cA (r::rs)=iG r.1 r.2.1 r.2.2++cA rs:=by
 unfold cA;rw[map_cons,List.flatten_cons]
def Aj(hn:eX n)(hm:eX m)(e:bJ n=bJ m):n=m:=by
 have h1:=PySem.W.KIN.num_reads hn.1 (Int.lt_of_lt_of_le hn.2 (by decide));have h2:=PySem.W.KIN.num_reads hm.1 (Int.lt_of_lt_of_le hm.2 (by decide));have e':Str.ofString (toString n)=Str.ofString (toString m):=by rw[<- wT n,<- wT m,e]
 rw[e']at h1;exact Option.some.inj (h1.symm.trans h2)
def BX(h:n ∉ fs.map (·.1)):aW fs n=none:=by
 unfold aW;rw[map_eq_none_iff,find?_eq_none];intro p hp z;exact h (by rw[<- of_decide_eq_true z]; exact mem_map_of_mem hp)
def Cz(fs:List (Str × Ls))(h:x≠n):aW (gN fs n) x=aW fs x:=by
 unfold aW gN;congr 1;rw[List.find?_filter];congr 1;funext p;by_cases y:p.1=x
 ·rw[decide_eq_true y,decide_eq_true (show p.1≠n from λw=>h (y.symm.trans w))];rfl
 ·rw[decide_eq_false y];exact decide_eq_false (λw=>by cases w.2)
def Dl(e:Ent)(h:∀p∈es,p.1<n):fG es n e=es++[(n,e)]:=by
 unfold fG;rw[if_neg];rw[any_eq_true];rintro ⟨p,hp,z⟩;have:=h p hp;have:=of_decide_eq_true z;omega
def JX(l:Int)(b:Ls)(hp:B.parts=[])(hk:∀p∈B.es,p.1<n)(hu:B.up=n):dG l B [("put",n,b)]=some ⟨B.es++[(n,(b,0,l))],n+1,[]⟩:=by
 show (match dF B "put" n b l with | none=>none | some B'=>some B')=_;have:dF B "put" n b l=some ⟨B.es++[(n,(b,0,l))],n+1,[]⟩:=by
  unfold dF;rw[if_neg (by decide),if_neg (by decide),if_neg (λy=>y hp),if_pos rfl];unfold mD;rw[if_neg (by omega),Dl _ hk,hp]
 rw[this]
def Hx(k:Str)(n:Int):(cA [(k,n,[])]).length=7:=by
 rw[iX,length_append,eC];rfl
structure Sz(q:Qs)(n:Nat):Prop where
 left:q.D.left=none
 f0:0<=q.first
 top:q.last<=(n:Int)
 keys:∃k:Nat,q.last=q.first+(k:Int)/\q.D.fs.map (·.1)=(List.range (k+1)).map λ(i:Nat)=>bJ (q.first+(i:Int))
 len:∀x bs,aW q.D.fs x=some bs->(bs.length:Int)<=q.most+706
 m8:1<=q.most
 m67:q.most<=2000
section
variable{q:Qs}{n:Nat}
def Sz.here(h:Sz q n):∃bs,aW q.D.fs (bJ q.last)=some bs:=by
 obtain⟨k,e,ky⟩:=h.keys;refine BY ?_;rw[ky,mem_map];exact⟨k,mem_range.mpr (by omega),by rw[e]⟩
def Sz.wok(h:Sz q n)(hn:n<=80000)(hu:0<=q.B.up)(he:q.B.es.length+q.B.parts.length+m<900):WOk q m:=by
 obtain⟨k,e,ky⟩:=h.keys;have f0:=h.f0;have top:=h.top;have m67:=h.m67;refine⟨h.left,⟨by omega,by omega⟩,⟨by omega,by omega⟩,h.here,BX ?_,λx bs y=>?_,?_,hu,he⟩
 ·rw[ky,mem_map];rintro ⟨i,hi,y⟩;rw[mem_range]at hi;have:=Aj ⟨by omega,by omega⟩ ⟨by omega,by omega⟩ y;omega
 ·have:=h.len x bs y;omega
 ·have:=congrArg List.length ky;rw[length_map,length_map,length_range]at this;omega
def Sz.step(h:Sz q n)(hn:n<=80000)(hu:0<=q.B.up)(hu9:q.B.up<=999999)(he:q.B.es.length+q.B.parts.length<800)(hl:bs.length<=700)(B':Bk)(hs:Ma):Sz { mT (aV q) bs B' with hs:=hs } (n+1)/\(aV q).last<=(n:Int)+1:=by
 have wok:=h.wok hn (m:=0) hu (by omega);obtain⟨k,e,ky⟩:=h.keys;have m8:=h.m8;have m67:=h.m67;have nx:Sz (aV q) (n+1)/\∃b0,aW (aV q).D.fs (bJ (aV q).last)=some b0/\(b0.length:Int)<=(aV q).most+6:=by
  obtain⟨b0,hb0⟩:=h.here;have hlast:hV q=b0:=by unfold hV; rw[hb0]; rfl
  unfold aV;split
  ·refine⟨⟨rfl,h.f0,by show q.last+1<=_; have:=h.top; omega,⟨k+1,by show q.last+1=q.first+((k+1:Nat):Int); omega,?_⟩,λx bs y=>?_,m8,m67⟩,iG "from" q.B.up [],?_,by rw[eC]; show ((7+0:Nat):Int)<=q.most+6; omega⟩
   ·show (fA (q.D.fs++[(bJ (q.last+1),[])]) _ _).map (·.1)=_;rw[m5,map_append,ky,List.range_succ (n:=k+1),map_append,e];show _++[bJ (q.first+(k:Int)+1)]=_++[bJ (q.first+((k+1:Nat):Int))];rw[show q.first+(k:Int)+1=q.first+((k+1:Nat):Int) by omega];rfl
   ·rw[lN q wok.new]at y;split at y
    ·cases y;rw[eC];show ((7+0:Nat):Int)<=q.most+706;omega
    ·exact h.len x bs y
   ·rw[lN q wok.new];exact if_pos rfl
  ·rename_i hf;refine⟨⟨h.left,h.f0,Int.le_trans h.top (by omega),⟨k,e,ky⟩,h.len,m8,m67⟩,b0,hb0,?_⟩;rw[hlast]at hf;unfold u9 at hf;rw[and_eq_true,not_and]at hf;have:=hf (by rw[Bool.not_eq_true',decide_eq_false_iff_not]; omega);rw[decide_eq_true_eq]at this;omega
 obtain⟨sn,b0,hb0,hb1⟩:=nx;obtain⟨k',e',ky'⟩:=sn.keys;have hlast:hV (aV q)=b0:=by unfold hV; rw[hb0]; rfl
 refine⟨⟨rfl,sn.f0,sn.top,⟨k',e',?_⟩,λx bs' y=>?_,sn.m8,sn.m67⟩,by have:=sn.top; omega⟩
 ·show (fA (aV q).D.fs _ _).map (·.1)=_;rw[m5];exact ky'
 ·have y:aW (fA (aV q).D.fs (bJ (aV q).last) (hV (aV q)++bs)) x=some bs':=y;rw[BU,hb0,hlast]at y;split at y
  ·cases y;rw[length_append];show (((b0.length+bs.length:Nat)):Int)<=(aV q).most+706;omega
  ·exact sn.len x bs' y
def Sz.drop(h:Sz q n)(hn:n<=80000)(hlt:q.first<q.last):q.D.left=none/\eX q.first/\(∃bs,aW q.D.fs (bJ q.first)=some bs)/\Sz (lR q) n:=by
 obtain⟨k,e,ky⟩:=h.keys;have f0:=h.f0;have top:=h.top;obtain⟨k',rfl⟩:∃k',k=k'+1:=⟨k - 1,by omega⟩;have ne:∀i:Nat,i<k'+1->bJ (q.first+1+(i:Int))≠bJ q.first:=λi hi y=>by
  have:=Aj ⟨by omega,by omega⟩ ⟨by omega,by omega⟩ y;omega
 refine⟨h.left,⟨by omega,by omega⟩,BY ?_,⟨rfl,by show 0<=q.first+1; omega,h.top,⟨k',by show q.last=q.first+1+_; omega,?_⟩,λx bs y=>?_,h.m8,h.m67⟩⟩
 ·rw[ky,mem_map];exact⟨0,mem_range.mpr (by omega),by rw[show q.first+((0:Nat):Int)=q.first by omega]⟩
 ·show (gN q.D.fs (bJ q.first)).map (·.1)=_;have e1:(gN q.D.fs (bJ q.first)).map (·.1)=(q.D.fs.map (·.1)).filter λx=>decide (x≠bJ q.first):=by
   unfold gN;rw[filter_map];rfl
  rw[e1,ky,range_succ_eq_map,map_cons,filter_cons,if_neg (by simp),map_map,List.filter_eq_self.mpr]
  ·apply map_congr_left;intro i _;show bJ (q.first+((i+1:Nat):Int))=bJ (q.first+1+(i:Int));rw[show q.first+((i+1:Nat):Int)=q.first+1+(i:Int) by omega]
  ·intro x hx;rw[mem_map]at hx;obtain⟨i,hi,rfl⟩:=hx;rw[mem_range]at hi;refine decide_eq_true ?_;have:=ne i hi;show bJ (q.first+((i+1:Nat):Int))≠bJ q.first;rw[show q.first+((i+1:Nat):Int)=q.first+1+(i:Int) by omega];exact this
 ·have y:aW (gN q.D.fs (bJ q.first)) x=some bs:=y;by_cases z:x=bJ q.first
  ·subst z;have:aW (gN q.D.fs (bJ q.first)) (bJ q.first)=none:=BX (by
    unfold gN;rw[mem_map];rintro ⟨p,hp,ep⟩;have:=of_decide_eq_true (mem_filter.mp hp).2;exact this ep)
   rw[this]at y;cases y
  ·rw[Cz _ z]at y;exact h.len x bs y
end
section
variable{es:L7}{n up:Int}{e:Ent}
def HE(h:bN es n=some e):(n,e)∈es:=by
 unfold bN at h;cases y:es.find? λp=>decide (p.1=n) with
 | none=>
  rw[y]at h;cases h
 | some p=>
  rw[y]at h;cases h;have h1:=List.mem_of_find?_eq_some y;have h2:=List.find?_some (p:=λp:Int × Ent=>decide (p.1=n)) y;have h2:p.1=n:=of_decide_eq_true h2;rw[<- h2];exact h1
def BW(h:bN es n=some e):(es.any λp=>decide (p.1=n))=true:=any_eq_true.mpr ⟨_,HE h,decide_eq_true rfl⟩
def uJ(h:bN es n=some e)(e':Ent):(fG es n e').map (·.1)=es.map (·.1):=by
 unfold fG;rw[if_pos (BW h),map_map];apply map_congr_left;intro p _;show (if p.1=n then (p.1,e') else p).1=p.1;split <;> rfl
def Be:∀(es:L7)(n k:Int)(e':Ent),bN (es.map λp=>if p.1=n then (p.1,e') else p) k=if k=n then (bN es n).map (λ_=>e') else bN es k
 | [],n,k,e'=>by
  split <;> rfl
 | p::r,n,k,e'=>by
  have ih:=Be r n k e';unfold bN at ih ⊢;rw[map_cons,find?_cons,find?_cons,find?_cons];have e1:(if p.1=n then (p.1,e') else p).1=p.1:=by split <;> rfl
  rw[e1];by_cases h1:p.1=k
  ·rw[decide_eq_true h1];by_cases h2:k=n
   ·subst h2;rw[if_pos h1,if_pos rfl,decide_eq_true h1];rfl
   ·rw[if_neg (λz=>h2 (h1.symm.trans z)),if_neg h2]
  ·rw[decide_eq_false h1];by_cases h2:k=n
   ·subst h2;rw[if_pos rfl,decide_eq_false h1];rw[if_pos rfl]at ih;exact ih
   ·rw[if_neg h2];rw[if_neg h2]at ih;exact ih
def pD(h:bN es n=some e)(e':Ent)(k:Int):bN (fG es n e') k=if k=n then some e' else bN es k:=by
 unfold fG;rw[if_pos (BW h),Be,h];rfl
def uV(es:L7)(n k:Int):bN (hZ es n) k=if k=n then none else bN es k:=by
 unfold bN hZ;rw[List.find?_filter];by_cases h:k=n
 ·subst h;rw[if_pos rfl,find?_eq_none.mpr λp _=>by simp];rfl
 ·rw[if_neg h];have e1:(λa:Int × Ent=>decide (decide (a.1≠n)=true/\decide (a.1=k)=true))=λa=>decide (a.1=k):=by
   funext p;by_cases z:p.1=k
   ·rw[decide_eq_true z];exact decide_eq_true ⟨decide_eq_true (λy=>h (z.symm.trans y)),rfl⟩
   ·rw[decide_eq_false z];exact decide_eq_false (λy=>Bool.false_ne_true y.2)
  exact congrArg (λf=>Option.map (·.2) (es.find? f)) e1
def B7(l:Int)(b:Ls)(t:Int)(hu:n+1<=up):dG l ⟨es,up,[]⟩ [("carried",n,t::b)]=some ⟨fG es n (b,t,l),up,[]⟩:=by
 show (match dF ⟨es,up,[]⟩ "carried" n (t::b) l with | none=>none | some B'=>some B')=_;have:dF ⟨es,up,[]⟩ "carried" n (t::b) l=some ⟨fG es n (b,t,l),up,[]⟩:=by
  unfold dF;rw[if_neg (by decide),if_neg (by decide),if_neg (λy=>y rfl),if_neg (by decide),if_neg (by decide),if_pos rfl];unfold HB;rw[if_neg (show ¬ n+1 > up by omega)];rfl
 rw[this]
def Jl(l:Int)(h:bN es n=some e):dG l ⟨es,up,[]⟩ [("out",n,[])]=some ⟨fG es n (e.1,e.2.1+1,e.2.2),up,[]⟩:=by
 show (match dF ⟨es,up,[]⟩ "out" n [] l with | none=>none | some B'=>some B')=_;have:dF ⟨es,up,[]⟩ "out" n [] l=some ⟨fG es n (e.1,e.2.1+1,e.2.2),up,[]⟩:=by
  unfold dF;rw[if_neg (by decide),if_neg (by decide),if_neg (λy=>y rfl),if_neg (by decide),if_neg (by decide),if_neg (by decide)];show (match bN es n with | none=>_ | some e=>_)=_;rw[h];rfl
 rw[this]
def IB(l:Int)(h:bN es n=some e):dG l ⟨es,up,[]⟩ [("done",n,[])]=some ⟨hZ es n,up,[]⟩:=by
 show (match dF ⟨es,up,[]⟩ "done" n [] l with | none=>none | some B'=>some B')=_;have:dF ⟨es,up,[]⟩ "done" n [] l=some ⟨hZ es n,up,[]⟩:=by
  unfold dF;rw[if_neg (by decide),if_neg (by decide),if_neg (λy=>y rfl),if_neg (by decide),if_neg (by decide),if_neg (by decide)];show (match bN es n with | none=>_ | some e=>_)=_;rw[h];rfl
 rw[this]
end
structure EntOk(es:L7)(up:Int)(c:Nat):Prop where
 up0:0<=up/\up<=9 * (c:Int)
 so:(es.map (·.1)).Pairwise (· < ·)
 ent:∀k e,bN es k=some e->0<=k/\k+1<=up/\0<=e.2.1/\e.2.1<=9/\dQ e.1/\e.1.length<=60
 cnt:es.length<=9 * c
structure Qi(q:Qs)(n c:Nat):Prop where
 sz:Sz q n
 pt:q.B.parts=[]
 eo:EntOk q.B.es q.B.up c
 hk:∀p∈q.hs,∃e,bN q.B.es p.1=some e
 hn:(q.hs.map (·.1)).Nodup
 hl:q.hs.length<=c
 tr:1<=q.tries/\q.tries<=9
def EntOk.mono{es:L7}{up:Int}{c c':Nat}(h:EntOk es up c)(hc:c<=c'):EntOk es up c':=⟨⟨h.up0.1,by have:=h.up0.2; omega⟩,h.so,h.ent,by have:=h.cnt; omega⟩
section
variable{q:Qs}{n c:Nat}
def Qi.mono(h:Qi q n c){n' c':Nat}(h1:n<=n')(h2:c<=c'):Qi q n' c':=⟨⟨h.sz.left,h.sz.f0,Int.le_trans h.sz.top (by omega),h.sz.keys,h.sz.len,h.sz.m8,h.sz.m67⟩,h.pt,h.eo.mono h2,h.hk,h.hn,le_trans h.hl h2,h.tr⟩
def Qi.wok(h:Qi q n c)(hn:n<=70000)(hc:c<=50)(hm:m<=50):WOk q m:=by
 have:=h.eo.cnt;have:=h.eo.up0;have pl:q.B.parts.length=0:=by rw[h.pt]; rfl
 exact h.sz.wok (by omega) h.eo.up0.1 (by omega)
def Qi.write(h:Qi q n c)(hn:n<=70000)(hc:c<=50){rs:L8}(len:(cA rs).length<=700)(B':Bk)(hs:Ma){c':Nat}(pt:B'.parts=[])(eo:EntOk B'.es B'.up c')(hk:∀p∈hs,∃e,bN B'.es p.1=some e)(hnd:(hs.map (·.1)).Nodup)(hl:hs.length<=c'):Qi { mT (aV q) (cA rs) B' with hs:=hs } (n+1) c':=by
 have:=h.eo.cnt;have:=h.eo.up0;have pl:q.B.parts.length=0:=by rw[h.pt]; rfl
 refine⟨(h.sz.step (by omega) h.eo.up0.1 (by omega) (by omega) len B' hs).1,pt,eo,hk,hnd,hl,?_⟩;have:=(cZ q).2.2.1;show 1<=(aV q).tries/\(aV q).tries<=9;rw[this];exact h.tr
def Qi.bk(h:Qi q n c):(aV q).B=⟨q.B.es,q.B.up,[]⟩:=by
 rw[(cZ q).2.2.2,<- h.pt]
def qW(h:EntOk es up c):∀p∈es,p.1<up:=λp hp=>by
 obtain⟨e,el⟩:=kI (mem_map_of_mem (f:=(·.1)) hp);have:=(h.ent _ e el).2.1;omega
def xX(e:Ent)(h:∀p∈es,p.1<m)(k:Int):bN (es++[(m,e)]) k=if k=m then some e else bN es k:=by
 unfold bN;rw[List.find?_append];by_cases z:k=m
 ·subst z;have h0:es.find? (λp=>decide (p.1=k))=none:=by
   rw[find?_eq_none];intro p hp y;have:=h p hp;have:=of_decide_eq_true y;omega
  rw[h0,if_pos rfl,find?_cons,decide_eq_true rfl];rfl
 ·rw[if_neg z,find?_cons,decide_eq_false (λy=>z y.symm)];cases es.find? (λp=>decide (p.1=k)) <;> rfl
def Bh(h:EntOk es up c)(bok:dQ b)(bl:b.length<=60)(d:Nat)(hu:up+1<=9 * (d:Int))(hl:es.length+1<=9 * d):EntOk (es++[(up,(b,0,s))]) (up+1) d:=by
 refine⟨⟨by have:=h.up0.1; omega,hu⟩,?_,λk e y=>?_,by rw[length_append]; exact hl⟩
 ·rw[map_append,List.pairwise_append];refine⟨h.so,List.pairwise_singleton _ _,λx hx y hy=>?_⟩;rw[mem_singleton.mp hy];obtain⟨p,hp,rfl⟩:=mem_map.mp hx;exact qW h p hp
 ·rw[xX _ (qW h)]at y;split at y
  ·cases y;rename_i z;have:=h.up0.1;exact⟨by omega,by omega,Int.le_refl _,by show (0:Int)<=9; decide,bok,bl⟩
  ·obtain⟨a1,a2,a3⟩:=h.ent k e y;exact⟨a1,by omega,a3⟩
def EG{es:L7}{m:Int}{e:Ent}(hm:∀p∈es,p.1<m){hs:Ma}(h:∀p∈hs,∃e,bN es p.1=some e):∀p∈hs,∃e',bN (es++[(m,e)]) p.1=some e':=λp hp=>by
 obtain⟨e0,el⟩:=h p hp;rw[xX _ hm];split
 ·exact⟨_,rfl⟩
 ·exact⟨e0,el⟩
def Qi.put(h:Qi q n c)(hn:n<=70000)(hc:c<=49){b:Ls}(bok:dQ b)(bl:b.length<=60):∃B',dG (aV q).last (aV q).B [("put",q.B.up,b)]=some B'/\Qi (putQ q b B') (n+1) (c+1):=by
 have u:=h.eo.up0;have cn:=h.eo.cnt;refine⟨⟨q.B.es++[(q.B.up,(b,0,(aV q).last))],q.B.up+1,[]⟩,?_,?_⟩
 ·rw[h.bk];exact JX (B:=⟨q.B.es,q.B.up,[]⟩) _ b rfl (qW h.eo) rfl
 ·have:=h.write (c':=c+1) hn (by omega) (rs:=[("put",q.B.up,b)]) (by rw[iX,length_append,eC]; show 7+b.length+0<=700; omega) ⟨q.B.es++[(q.B.up,(b,0,(aV q).last))],q.B.up+1,[]⟩ (aV q).hs rfl (Bh h.eo bok bl (c+1) (by omega) (by omega)) ?_ ?_ ?_
  ·exact this
  ·rw[(cZ q).2.1];exact EG (qW h.eo) h.hk
  ·rw[(cZ q).2.1];exact h.hn
  ·rw[(cZ q).2.1];exact le_succ_of_le h.hl
def B8(s:Int):L7->Int->Lq->L7
 | es,_,[]=>es
 | es,up,b::r=>B8 s (es++[(up,(b,0,s))]) (up+1) r
def jU(up:Int):Lq->List (Int × Ls)
 | []=>[]
 | b::r=>(up,b)::jU (up+1) r
def E7(up:Int)(n:Nat):nL up (n+1)=up::nL (up+1) n:=by
 unfold nL;rw[range_succ_eq_map,map_cons,map_map];show (up+((0:Nat):Int))::_=_;rw[show up+((0:Nat):Int)=up by omega];congr 1;apply map_congr_left;intro k _;show up+((k+1:Nat):Int)=_;omega
def rP(up:Int)(b:Ls)(bss:Lq):i3 up (b::bss)=(("part",up,b):Rw)::i3 (up+1) bss:=by
 unfold i3;rw[length_cons,range_succ_eq_map,map_cons,map_map];congr 1
 ·simp
 ·apply map_congr_left;intro x _;show (("part",up+((x+1:Nat):Int),(b::bss).getD (x+1) []):Rw)=(("part",up+1+(x:Int),bss.getD x []):Rw);rw[show up+((x+1:Nat):Int)=up+1+(x:Int) by omega];rfl
def rQ:∀(up:Int)(bss:Lq),(jU up bss).map (·.1)=nL up bss.length
 | up,[]=>rfl
 | up,b::bss=>by
  show up::(jU (up+1) bss).map (·.1)=nL up (bss.length+1);rw[rQ (up+1) bss,E7]
def vB(seg:Int)(es:L7)(u0:Int)(rest:L8):∀(up:Int)(bss:Lq)(ps:List (Int × Ls)),dG seg ⟨es,u0,ps⟩ (i3 up bss++rest)=dG seg ⟨es,u0,ps++jU up bss⟩ rest
 | up,[],ps=>by
  show dG seg ⟨es,u0,ps⟩ rest=dG seg ⟨es,u0,ps++[]⟩ rest;rw[append_nil]
 | up,b::bss,ps=>by
  rw[rP];show dG seg ⟨es,u0,ps++[(up,b)]⟩ (i3 (up+1) bss++rest)=dG seg ⟨es,u0,ps++(up,b)::jU (up+1) bss⟩ rest;rw[vB seg es u0 rest (up+1) bss,append_assoc];rfl
def A9(s:Int):∀(bss:Lq)(es:L7)(up:Int),(∀p∈es,p.1<up)->rX s ⟨es,up,[]⟩ (jU up bss)=some ⟨B8 s es up bss,up+(bss.length:Int),[]⟩
 | [],es,up,_=>by
  show some _=some _;rw[show up+(([]:Lq).length:Int)=up from Int.add_zero up];rfl
 | b::bss,es,up,h=>by
  have e1:mD ⟨es,up,[]⟩ up b s=some ⟨es++[(up,(b,0,s))],up+1,[]⟩:=by
   unfold mD;rw[if_neg (by show ¬ up<up; omega),Dl _ h]
  show (match mD ⟨es,up,[]⟩ up b s with | none=>none | some B'=>rX s B' (jU (up+1) bss))=_;rw[e1]
  try dsimp only
  rw[A9 s bss _ _ (λp hp=>by
   rw[mem_append,mem_singleton]at hp;rcases hp with hp | rfl
   ·have:=h p hp;omega
   ·show up<up+1;omega)]
  rw[length_cons,show up+1+(bss.length:Int)=up+((bss.length+1:Nat):Int) by omega];rfl
def Hd(s:Int)(h:∀p∈es,p.1<up):dG s ⟨es,up,[]⟩ (jM up bss)=some ⟨B8 s es up bss,up+(bss.length:Int),[]⟩:=by
 unfold jM;rw[vB,List.nil_append];show (match dF ⟨es,up,jU up bss⟩ "deal" up [(bss.length:Int)] s with | none=>none | some B'=>some B')=_;have:dF ⟨es,up,jU up bss⟩ "deal" up [(bss.length:Int)] s=some ⟨B8 s es up bss,up+(bss.length:Int),[]⟩:=by
  unfold dF;rw[if_neg (by decide),if_pos rfl];unfold yG;rw[if_pos (by
   show (jU up bss).map (·.1)=(List.range ((bss.length:Int)).toNat).map _;rw[rQ,Int.toNat_natCast];rfl)]
  exact A9 s bss es up h
 rw[this]
def EK(s:Int){d:Nat}:∀(bss:Lq)(es:L7)(up:Int)(hs:Ma),EntOk es up d->(∀b∈bss,dQ b/\b.length<=60)->up+(bss.length:Int)<=9 * (d:Int)->es.length+bss.length<=9 * d->(∀p∈hs,∃e,bN es p.1=some e)->
  EntOk (B8 s es up bss) (up+(bss.length:Int)) d/\∀p∈hs,∃e,bN (B8 s es up bss) p.1=some e
 | [],es,up,hs,h,_,_,_,hk=>⟨by rw[show up+(([]:Lq).length:Int)=up from Int.add_zero up]; exact h,hk⟩
 | b::bss,es,up,hs,h,hb,hu,hl,hk=>by
  rw[length_cons]at hu hl;have hb0:=hb b mem_cons_self;have h1:=Bh h (s:=s) hb0.1 hb0.2 d (by omega) (by omega);have r:=EK s bss _ _ hs h1 (λx hx=>hb x (mem_cons_of_mem _ hx)) (by omega) (by rw[length_append]; show es.length+1+bss.length<=_; omega) (EG (qW h) hk);rw[length_cons,show up+((bss.length+1:Nat):Int)=up+1+(bss.length:Int) by omega];exact r
def Ed(a b:L8):cA (a++b)=cA a++cA b:=by
 unfold cA;rw[map_append,List.flatten_append]
def xU:∀(bss:Lq)(up:Int),(∀b∈bss,b.length<=60)->(cA (i3 up bss)).length<=67 * bss.length
 | [],up,_=>le_refl _
 | b::bss,up,h=>by
  rw[rP,iX,length_append,eC,length_cons];have:=xU bss (up+1) (λx hx=>h x (mem_cons_of_mem _ hx));have:=h b mem_cons_self;show 7+b.length+_<=_;omega
def Qi.all(h:Qi q n c)(hn:n<=70000)(hc:c<=49)(h9:bss.length<=9)(hb:∀b∈bss,dQ b/\b.length<=60):∃B',dG (aV q).last (aV q).B (jM q.B.up bss)=some B'/\Qi (allQ q bss B') (n+1) (c+1):=by
 have u:=h.eo.up0;have cn:=h.eo.cnt;obtain⟨e1,e2⟩:=EK (aV q).last (d:=c+1) bss q.B.es q.B.up q.hs (h.eo.mono (by omega)) hb (by omega) (by omega) h.hk;refine⟨⟨B8 (aV q).last q.B.es q.B.up bss,q.B.up+(bss.length:Int),[]⟩,?_,?_⟩
 ·rw[h.bk];exact Hd _ (qW h.eo)
 ·have:=h.write (c':=c+1) hn (by omega) (rs:=jM q.B.up bss) ?_ ⟨B8 (aV q).last q.B.es q.B.up bss,q.B.up+(bss.length:Int),[]⟩ (aV q).hs rfl e1 ?_ ?_ ?_
  ·exact this
  ·unfold jM;rw[Ed,length_append];have:=xU bss q.B.up λb hb'=>(hb b hb').2;have:(cA ([("deal",q.B.up,[(bss.length:Int)])]:L8)).length=8:=by rw[iX,length_append,eC]; rfl
   omega
  ·rw[(cZ q).2.1];exact e2
  ·rw[(cZ q).2.1];exact h.hn
  ·rw[(cZ q).2.1];exact le_succ_of_le h.hl
def AI{es:L7}{up:Int}{d:Nat}(h:EntOk es up d){k:Int}{e e':Ent}(el:bN es k=some e)(hb:e'.1=e.1)(h0:0<=e'.2.1)(h9:e'.2.1<=9):EntOk (fG es k e') up d:=by
 refine⟨h.up0,by rw[uJ el]; exact h.so,λm em y=>?_,?_⟩
 ·rw[pD el]at y;split at y
  ·cases y;rename_i z;subst z;obtain⟨a1,a2,a3,a4,a5,a6⟩:=h.ent _ e el;exact⟨a1,a2,h0,h9,by rw[hb]; exact a5,by rw[hb]; exact a6⟩
  ·exact h.ent m em y
 ·have:=congrArg List.length (uJ el e');rw[length_map,length_map]at this;rw[this];exact h.cnt
def C5{es:L7}{k:Int}{e e':Ent}(el:bN es k=some e){hs:Ma}(h:∀p∈hs,∃e,bN es p.1=some e):∀p∈hs,∃e'',bN (fG es k e') p.1=some e'':=λp hp=>by
 obtain⟨e0,e1⟩:=h p hp;rw[pD el];split
 ·exact⟨_,rfl⟩
 ·exact⟨e0,e1⟩
def vN(k:Str)(m:Int):(cA [(k,m,[])]).length<=700:=by
 rw[Hx];decide
def Qi.out(h:Qi q n c)(hn:n<=70000)(hc:c<=49){k:Int}{e:Ent}(el:bN q.B.es k=some e)(ht:e.2.1<q.tries)(hf:bU q.hs k=none)(x:Str):∃B',dG (aV q).last (aV q).B [("out",k,[])]=some B'/\B'.es=fG q.B.es k (e.1,e.2.1+1,e.2.2)/\Qi (outQ q k x B') (n+1) (c+1):=by
 obtain⟨_,_,a3,_⟩:=h.eo.ent k e el;have tr:=h.tr;refine⟨_,by rw[h.bk]; exact Jl _ el,rfl,?_⟩;have eo:=AI (e':=(e.1,e.2.1+1,e.2.2)) (h.eo.mono (show c<=c+1 by omega)) el rfl (by show 0<=e.2.1+1; omega) (by show e.2.1+1<=9; omega);refine h.write hn (by omega) (vN _ _) ⟨_,_,[]⟩ (q.hs++[(k,(x,q.now))]) rfl eo (λp hp=>?_) ?_ ?_
 ·rw[mem_append,mem_singleton]at hp;rcases hp with hp | rfl
  ·exact C5 el h.hk p hp
  ·exact⟨_,by rw[pD el,if_pos rfl]⟩
 ·rw[map_append,nodup_append];refine⟨h.hn,by simp,λa ha b hb=>?_⟩;have hb:b∈[k]:=hb;rw[mem_singleton.mp hb];intro z;subst z;obtain⟨y,tm,e1⟩:=pG ha;rw[hf]at e1;cases e1
 ·rw[length_append];have:=h.hl;show q.hs.length+1<=_;omega
def Jm{es:L7}{n up:Int}{e:Ent}(l:Int)(h:bN es n=some e):dG l ⟨es,up,[]⟩ [("new",n,[])]=some ⟨fG es n (e.1,0,e.2.2),up,[]⟩:=by
 show (match dF ⟨es,up,[]⟩ "new" n [] l with | none=>none | some B'=>some B')=_;have:dF ⟨es,up,[]⟩ "new" n [] l=some ⟨fG es n (e.1,0,e.2.2),up,[]⟩:=by
  unfold dF;rw[if_neg (by decide),if_neg (by decide),if_neg (λy=>y rfl),if_neg (by decide),if_neg (by decide),if_neg (by decide)];show (match bN es n with | none=>_ | some e=>_)=_;rw[h];rfl
 rw[this]
def Qi.new(h:Qi q n c)(hn:n<=70000)(hc:c<=49){k:Int}{e:Ent}(el:bN q.B.es k=some e):∃B',dG (aV q).last (aV q).B [("new",k,[])]=some B'/\Qi (newQ q k B') (n+1) (c+1):=by
 refine⟨_,by rw[h.bk]; exact Jm _ el,?_⟩;have eo:=AI (e':=(e.1,0,e.2.2)) (h.eo.mono (show c<=c+1 by omega)) el rfl (Int.le_refl _) (by show (0:Int)<=9; decide);refine h.write hn (by omega) (vN _ _) ⟨_,_,[]⟩ (aV q).hs rfl eo ?_ ?_ ?_
 ·rw[(cZ q).2.1];exact C5 el h.hk
 ·rw[(cZ q).2.1];exact h.hn
 ·rw[(cZ q).2.1];exact le_succ_of_le h.hl
def Hl(h:p∈dropH hs k):p∈hs/\p.1≠k:=by
 obtain⟨h1,h2⟩:=mem_filter.mp h;exact⟨h1,of_decide_eq_true h2⟩
def EL{hs:Ma}(P:Int × (Str × Int)->Bool)(h:(hs.map (·.1)).Nodup):((hs.filter P).map (·.1)).Nodup:=h.sublist (filter_sublist.map _)
def Qi.done(h:Qi q n c)(hn:n<=70000)(hc:c<=49){k:Int}{e:Ent}(el:bN q.B.es k=some e):∃B',dG (aV q).last (aV q).B [("done",k,[])]=some B'/\Qi (KC q k B') (n+1) (c+1):=by
 refine⟨_,by rw[h.bk]; exact IB _ el,?_⟩;have eo:EntOk (hZ q.B.es k) q.B.up (c+1):=by
  refine(EntOk.mono ⟨h.eo.up0,?_,λm em y=>?_,?_⟩ (show c<=c+1 by omega))
  ·unfold hZ;exact h.eo.so.sublist (filter_sublist.map _)
  ·rw[uV]at y;split at y
   ·cases y
   ·exact h.eo.ent m em y
  ·exact le_trans (length_filter_le _ _) h.eo.cnt
 refine h.write hn (by omega) (vN _ _) ⟨_,_,[]⟩ (dropH q.hs k) rfl eo (λp hp=>?_) (EL _ h.hn) ?_
 ·obtain⟨h1,h2⟩:=Hl hp;obtain⟨e0,e1⟩:=h.hk p h1;exact⟨e0,by rw[uV,if_neg h2]; exact e1⟩
 ·exact le_trans (length_filter_le _ _) (le_succ_of_le h.hl)
def Qi.held(h:Qi q n c)(P:Int × (Str × Int)->Bool)(now:Int):Qi { q with now:=now,hs:=q.hs.filter P } n (c+1):=
 ⟨⟨h.sz.left,h.sz.f0,h.sz.top,h.sz.keys,h.sz.len,h.sz.m8,h.sz.m67⟩,h.pt,h.eo.mono (by omega),λp hp=>h.hk p (mem_filter.mp hp).1,EL _ h.hn,le_trans (length_filter_le _ _) (le_succ_of_le h.hl),h.tr⟩
def Qi.drop(h:Qi q n c)(hn:n<=70000)(hlt:q.first<q.last):q.D.left=none/\eX q.first/\(∃bs,aW q.D.fs (bJ q.first)=some bs)/\Qi (lR q) n c:=by
 obtain⟨a,b,c',d⟩:=h.sz.drop (by omega) hlt;exact⟨a,b,c',⟨d,h.pt,h.eo,h.hk,h.hn,h.hl,h.tr⟩⟩
def LZ{n t:Int}{b:Ls}(h0:0<=n)(h1:n<=999999)(t0:0<=t)(t9:t<=9)(hb:dQ b)(hl:b.length<=60):bK (cC ("carried",n,t::b))=true:=by
 show (cT.contains "carried" && (bO 0 999999 (.int n) && (cW (.tuple ((t::b).map .int)) && fB "carried" (bM (.tuple ((t::b).map .int))))))=true;have e1:bO 0 999999 (.int n)=true:=by
  simp only[bO,and_eq_true,decide_eq_true_eq];exact⟨h0,h1⟩
 have e2:cW (.tuple ((t::b).map .int))=true:=pS (ns:=t::b) (λx hx=>by
  rcases mem_cons.mp hx with rfl | hx
  ·omega
  ·exact hb x hx)
 have e3:fB "carried" (t::b)=true:=by
  unfold fB;rw[if_neg (by decide),if_pos rfl];rw[decide_eq_true (show 1<=(t::b).length by rw[length_cons]; omega),decide_eq_true (show (t::b).length<=61 by rw[length_cons]; omega),decide_eq_true (show (t::b).headD 0<=9 from t9)];rfl
 rw[e1,e2,fP,e3];decide +kernel
def Cv(q:Qs):(aV q).first=q.first/\q.last<=(aV q).last:=by
 unfold aV;split
 ·exact⟨rfl,by show q.last<=q.last+1; omega⟩
 ·exact⟨rfl,Int.le_refl _⟩
def Qi.car(h:Qi q n c)(hn:n<=70000)(hc:c<=49){k:Int}{e:Ent}(el:bN q.B.es k=some e):bK (cC (rA k e))=true/\WOk q 1/\dG (aV q).last (aV q).B [rA k e]=some ⟨fG q.B.es k (e.1,e.2.1,(aV q).last),q.B.up,[]⟩/\Qi (mT (aV q) (cA [rA k e]) ⟨fG q.B.es k (e.1,e.2.1,(aV q).last),q.B.up,[]⟩) (n+1) c:=by
 obtain⟨a1,a2,a3,a4,a5,a6⟩:=h.eo.ent k e el;have u:=h.eo.up0;have ec:rA k e=(("carried",k,e.2.1::e.1):Rw):=by
  unfold rA;rw[if_neg (show ¬ (9:Int)<e.2.1 by omega)]
 rw[ec];refine⟨LZ a1 (by omega) a3 a4 a5 a6,h.wok hn (by omega) (by omega),by rw[h.bk]; exact B7 _ _ _ a2,?_⟩;have eo:=AI (e':=(e.1,e.2.1,(aV q).last)) h.eo el rfl a3 a4;refine h.write hn (by omega) (rs:=[("carried",k,e.2.1::e.1)]) (by rw[iX,length_append,eC]; show 7+(e.1.length+1)+0<=700; omega) ⟨_,_,[]⟩ (aV q).hs rfl eo ?_ ?_ ?_
 ·rw[(cZ q).2.1];exact C5 el h.hk
 ·rw[(cZ q).2.1];exact h.hn
 ·rw[(cZ q).2.1];exact h.hl
def Qi.first(m1:1<=m)(m2:m<=2000)(t1:1<=t)(t9:t<=9):Qi (nM m h t d) 0 0:=by
 unfold nM;refine⟨⟨rfl,Int.le_refl _,Int.le_refl _,⟨0,rfl,rfl⟩,λx bs e=>?_,m1,m2⟩,rfl,⟨⟨Int.le_refl _,Int.le_refl _⟩,List.Pairwise.nil,(λk e y=>by cases y),le_refl _⟩,(λp hp=>by cases hp),nodup_nil,le_refl _,t1,t9⟩;have e:aW [(bJ 0,x6)] x=some bs:=e;unfold aW at e;rw[find?_cons]at e;split at e
 ·cases e;show ((x6.length:Nat):Int)<=m+706;have:x6.length=7:=by decide +kernel
  omega
 ·cases e
end
def Step.keepS(st:Step L L' Hc Hn)(S:aH H0 Hc)(fr:∀b,eQ L b->H0 b=none):aH H0 Hn/\∀b,eQ L' b->H0 b=none:=by
 refine⟨λb o e=>st.frm b o (S b o e) (λz=>by rw[fr b z]at e; cases e),λb hb=>?_⟩;rcases st.grow b hb with z | z
 ·exact fr b z
 ·exact S.free z
def QueueW.keep(h:QueueW A H L q wr)(s:∀b o,H b=some o->eQ L b->H' b=some o)(t:fR H H'):QueueW A H' L q wr:=by
 obtain⟨dx,h1⟩:=h.self;obtain⟨hk,h2,h3⟩:=h.held;exact⟨⟨dx,s _ _ h1 (.inl rfl)⟩,h.disk.keep λb o e hb=>s b o e (.inr (.inr (.inr hb))),h.book.keep (λb o e hb=>s b o e (.inr (.inr (.inl hb)))) t,⟨hk,s _ _ h2 (.inr (.inl rfl)),h3.t t⟩,h.a_bd,h.a_qu,h.a_hd⟩
structure Kc(A:Ad)(H:Hp)(L0 D0:Addr)(H1:Hp)(L:Pl)(q:Qs):Prop where
 same:aH H H1
 qu:L.qu=L0
 dk:L.dk=D0
 fr:∀b,eQ L b->H b=none
 qw:QueueW A H1 L q false
def Off(H:Hp)(L:Pl)(a:Addr):Prop:=H a=none/\¬ eQ L a
section
variable{A:Ad}{H H1 H2:Hp}{L0 D0:Addr}{L L':Pl}{q q':Qs}{n:Nat}{Q:V->Hp->Prop}{E:XK}
def Kc.sames(k:Kc A H L0 D0 H1 L q)(s:aH H1 H2):Kc A H L0 D0 H2 L q:=⟨k.same.trans s,k.qu,k.dk,k.fr,k.qw.same s⟩
def Kc.step(k:Kc A H L0 D0 H1 L q)(st:Step L L' H1 H2)(hq:QueueW A H2 L' q' false):Kc A H L0 D0 H2 L' q':=by
 obtain⟨s,f⟩:=st.keepS k.same k.fr;exact⟨s,st.qu.trans k.qu,st.dk.trans k.dk,f,hq⟩
def Off.step(f:Off H L a)(st:Step L L' H1 H2)(ha:H1 a=some o):Off H L' a/\H2 a=some o:=⟨⟨f.1,st.not ha f.2⟩,st.frm _ _ ha f.2⟩
def Kc.off(k:Kc A H L0 D0 H1 L q)(ha:H1 a=none):Off H L a:=⟨k.same.free ha,λz=>by
 obtain⟨o,e⟩:=eK k.qw z;rw[e]at ha;cases ha⟩
def Kc.self(k:Kc A H L0 D0 H1 L q):∃dx,H1 L0=some (.ins A.queue dx (quF L q false)):=by
 obtain⟨dx,h⟩:=k.qw.self;rw[k.qu]at h;exact⟨dx,h⟩
end
def Lm(S:Addr->Prop)(H H':Hp):Prop:=∀b o,H b=some o->¬ S b->H' b=some o
def Lm.tup(s:Lm S H H1)(nt:∀b,S b->∀xs,H b≠some (.tup xs)):fR H H1:=λb xs e=>s b _ e λz=>nt b z xs e
open Classical in
section
variable{A:Ad}{H H1 H2:Hp}{L0 D0:Addr}{L L':Pl}{q q':Qs}{n:Nat}{Q:V->Hp->Prop}{E:XK}
def Kc.buts(k:Kc A H L0 D0 H1 L q)(bt:Lm S H1 H2)(off:∀b,S b->Off H L b)(nt:∀b,S b->∀xs,H1 b≠some (.tup xs)):Kc A H L0 D0 H2 L q:=
 ⟨λb o e=>bt b o (k.same b o e) (λz=>by rw[(off b z).1]at e; cases e),k.qu,k.dk,k.fr,k.qw.keep (λb o e hb=>bt b o e λz=>(off b z).2 hb) (bt.tup nt)⟩
end
def wP(l:Ls):Ls:=l.mergeSort λa b=>decide (a<=b)
def lC(l:Ls):List.Perm (wP l) l:=List.mergeSort_perm l _
def Ah(l:Ls):(wP l).Pairwise (· <= ·):=by
 have h:=List.pairwise_mergeSort (le:=λa b:Int=>decide (a<=b)) (λa b c h1 h2=>by simp only[decide_eq_true_eq]at *; omega) (λa b=>by simp only[Bool.or_eq_true,decide_eq_true_eq]; omega) l;exact h.imp λh=>of_decide_eq_true h
def tT(p:List.Perm ms l)(h:ms.Pairwise (· <= ·)):ms=wP l:=dM (p.trans (lC l).symm) h (Ah l)
def eG(x:Str):Prop:=x = "a"\/x = "b"\/x = "hhhhhz"
def yV(hP:Str->Prop):mU->Prop
 | .put b=>dQ b/\b.length<=60
 | .all bs=>1<=bs.length/\bs.length<=9/\∀b∈bs,dQ b/\b.length<=60
 | .take x=>hP x
 | .done x n=>hP x/\0<=n/\n<=999999
 | .back x n=>hP x/\0<=n/\n<=999999
 | .wait m=>1<=m/\m<=99
 | .new n=>0<=n/\n<=999999
 | .sweep=>True
 | .carry=>True
abbrev AT:=yV qT
def Ee:PyData:=.str "refused"
def wrQ(q:Qs)(rs:L8)(hs:Ma):Qs:={ mT (aV q) (cA rs) ((dG (aV q).last (aV q).B rs).getD q.B) with hs:=hs }
def Ff(hf:dG (aV q).last (aV q).B rs=some B')(hs:Ma):{ mT (aV q) (cA rs) B' with hs:=hs }=wrQ q rs hs:=by
 unfold wrQ;rw[hf];rfl
def yW(hf:dG (aV q).last (aV q).B rs=some B'):mT (aV q) (cA rs) B'=wrQ q rs q.hs:=by
 rw[<- Ff hf,<- (cZ q).2.1];rfl
def dP(q:Qs)(m:Int):Ls:=(wP (q.hs.map (·.1))).filter (hU q m)
def v5(q:Qs)(n:Int):Qs:=wrQ q [rA n ((bN q.B.es n).getD ([],0,0))] q.hs
def y7:Nat->Qs->Qs
 | 0,q=>q
 | f+1,q=>if q.first<q.last/\gR q=[] then y7 f (lR q) else q
def qM(q:Qs):Ls:=q.B.es.map (·.1)
def doQ(q:Qs):mU->Qs
 | .put b=>wrQ q [("put",q.B.up,b)] q.hs
 | .all bs=>wrQ q (jM q.B.up bs) q.hs
 | .take x=>match fU q (qM q) with
  | []=>q
  | m::_=>wrQ q [("out",m,[])] (q.hs++[(m,(x,q.now))])
 | .done x m=>if (bU q.hs m).map (·.1)=some x then wrQ q [("done",m,[])] (dropH q.hs m) else q
 | .back x m=>if (bU q.hs m).map (·.1)=some x then KD q m else q
 | .wait m=>wC q m (dP q m)
 | .new m=>if m∈lT q (qM q) then wrQ q [("new",m,[])] q.hs else q
 | .sweep=>y7 (q.last - q.first).toNat q
 | .carry=>if q.first=q.last then q else lR ((gR q).foldl v5 q)
def outD(q:Qs)(m:Int):PyData:=lX m (((bN q.B.es m).getD ([],0,0)).1,((bN q.B.es m).getD ([],0,0)).2.1+1,0)
def d8(q:Qs):mU->PyData
 | .put _=>.int q.B.up
 | .all bs=>.list ((nL q.B.up bs.length).map .int)
 | .take _=>match fU q (qM q) with
  | []=>.none
  | m::_=>outD q m
 | .done x m=>if (bU q.hs m).map (·.1)=some x then .none else Ee
 | .back x m=>if (bU q.hs m).map (·.1)=some x then .none else Ee
 | .wait m=>.list ((dP q m).map (hJ q.B.es))
 | .new m=>if m∈lT q (qM q) then .none else Ee
 | .sweep=>.int ((y7 (q.last - q.first).toNat q).first - q.first)
 | .carry=>if q.first=q.last then .none else .int ((gR q).length:Int)
def DoR(q:Qs)(d:mU)(q':Qs)(v:V)(H2:Hp):Prop:=q'=doQ q d/\Den H2 (d8 q d) v
def Out(L L':Pl)(H1 H2:Hp)(v:V):Prop:=∀p xs,v = .ref p->H2 p=some (.lst xs)->¬ eQ L' p/\(H1 p=none\/eQ L p)
def FD(z:Qi q n c)(h:bU q.hs k=some o):∃e,bN q.B.es k=some e:=by
 unfold bU at h;cases y:q.hs.find? λp=>decide (p.1=k) with
 | none=>
  rw[y]at h;cases h
 | some p=>
  have h1:=List.mem_of_find?_eq_some y;have h2:=List.find?_some (p:=λp:Int × (Str × Int)=>decide (p.1=k)) y;have h2:p.1=k:=of_decide_eq_true h2;rw[<- h2];exact z.hk p h1
def JO(h:Den H2 (lX m e) (.ref p))(xs:L6):¬ H2 p=some (.lst xs):=λg=>by
 unfold lX at h;simp only[Den]at h;obtain⟨a,ys,e,g2,_⟩:=h;cases e;rw[g]at g2;cases g2
def pM(h:bU hs m=some (x,tm)):(bU hs m).map (·.1)=some x:=by rw[h]; rfl
def sP(h:∀tm,bU hs m≠some (x,tm)):¬ (bU hs m).map (·.1)=some x:=by
 intro e;cases y:bU hs m with
 | none=>rw[y]at e; cases e
 | some p=>
  rw[y]at e;injection e with e
  exact h p.2 (by rw[y,<- e])
def E9(h:m∈fU q ms):m∈ms/\bU q.hs m=none/\fT q.B.es m<q.tries:=by
 obtain⟨h1,h2⟩:=mem_filter.mp h;obtain⟨h3,h4⟩:=mem_filter.mp h1;exact⟨h3,Option.isNone_iff_eq_none.mp h4,of_decide_eq_true h2⟩
section
variable{A:Ad}{H H1:Hp}{L0 D0:Addr}{L:Pl}{q:Qs}{n c:Nat}{Q:V->Hp->Prop}{E:XK}
def IS(h:¬ q.first<q.last\/gR q≠[]):∀f,y7 f q=q
 | 0=>rfl
 | f+1=>if_neg λz=>h.elim (λy=>y z.1) λy=>y z.2
def ET(k:Kc A H L0 D0 H1 L q)(z:Qi q n c)(hn:n<=60000)(hc:c<=48)(go:∀v L' q' H2,Step L L' H1 H2->Kc A H L0 D0 H2 L' q'->Qi q' (n+500) c->DoR q .sweep q' v H2->(∀p,v ≠ .ref p)->Q v H2):iU A [.ref L0] H1 Q E:=by
 have cn:=z.eo.cnt;rw[<- k.qu];refine⟨L,q,λq'=>Qi q' n c/\y7 (q'.last - q'.first).toNat q'=doQ q .sweep,rfl,k.qw,⟨z,rfl⟩,λq' zz=>?_,λL' q' H2 st hq zz e=>?_⟩
 ·have z':=zz.1;have:=z'.eo.cnt;refine⟨⟨by omega,z'.eo.so.imp Int.le_of_lt⟩,λlt fl=>?_⟩;obtain⟨a1,a2,a3,a4⟩:=z'.drop (by omega) lt;refine⟨a1,a2,a3,a4,Eq.trans ?_ zz.2⟩;rw[show (q'.last - q'.first).toNat=((lR q').last - (lR q').first).toNat+1 by show _=(q'.last - (q'.first+1)).toNat+1; omega];exact(if_pos ⟨lt,fl⟩).symm
 ·have ee:q'=doQ q .sweep:=(IS e _).symm.trans zz.2;exact go _ L' _ H2 st (k.step st hq) (zz.1.mono (by omega) (le_refl _)) ⟨ee,by simp only[d8,Den]; rw[ee]; rfl⟩ λp e=>by cases e
def EU(k:Kc A H L0 D0 H1 L q)(z:Qi q n c)(hn:n<=60000)(hc:c<=48)(go:∀v L' q' H2,Step L L' H1 H2->Kc A H L0 D0 H2 L' q'->Qi q' (n+500) c->DoR q .carry q' v H2->(∀p,v ≠ .ref p)->Q v H2):iV A [.ref L0] H1 Q E:=by
 have cn:=z.eo.cnt;have so:(q.B.es.map (·.1)).Pairwise (· <= ·):=z.eo.so.imp Int.le_of_lt;rw[<- k.qu];have hll:(gR q).length<=9 * c:=by
  have:=length_filter_le (λn=>decide (vR q.B.es n=q.first)) (q.B.es.map (·.1));rw[length_map]at this;exact le_trans this cn
 obtain⟨kk,ek,_⟩:=z.sz.keys;refine⟨L,q,λi q'=>Qi q' (n+i) c/\q'.first=q.first/\q.last<=q'.last/\q'.B.es.map (·.1)=q.B.es.map (·.1)/\q'=((gR q).take i).foldl v5 q,gR q,rfl,k.qw,⟨by omega,so⟩,λe=>?_,λne=>⟨λms perm pw=>?_,⟨z,rfl,Int.le_refl _,rfl,rfl⟩,λi m q' hi ⟨z',e1,e2,e3,e4⟩=>?_,λq' ⟨z',e1,e2,e3,e4⟩=>?_⟩⟩
 ·exact go _ L q H1 (aH.step (aH.refl _)) k (z.mono (by omega) (le_refl _)) ⟨(if_pos e).symm,by simp only[d8,if_pos e,Den]⟩ λp e=>by cases e
 ·have em:ms=q.B.es.map (·.1):=dM perm pw so;rw[em];rfl
 ·obtain⟨hi',_⟩:=List.getElem?_eq_some_iff.mp hi;obtain⟨e,el⟩:=kI (es:=q'.B.es) (n:=m) (by rw[e3]; exact(mem_filter.mp (mem_of_getElem? hi)).1);obtain⟨rok,wok,hf,z2⟩:=z'.car (by omega) (by omega) el;obtain⟨nf,nl⟩:=Cv q';refine⟨e,_,el,rok,wok,hf,z2,nf.trans e1,Int.le_trans e2 nl,?_,?_⟩
  ·show (fG q'.B.es m (e.1,e.2.1,(aV q').last)).map (·.1)=_;rw[uJ el];exact e3
  ·rw[take_succ,hi,List.foldl_append,<- e4,yW hf];show _=v5 q' m;unfold v5;rw[el];rfl
 ·obtain⟨a,b,c',z2⟩:=z'.drop (by omega) (by omega);rw[take_length]at e4;exact⟨a,b,c',λL' H2 st hq=>go _ L' _ H2 st (k.step st hq) (z2.mono (by omega) (le_refl _)) ⟨by rw[e4]; exact(if_neg ne).symm,by simp only[d8,if_neg ne,Den]⟩ λp e=>by cases e⟩
def Fp(k:Kc A H L0 D0 H1 L q)(z:Qi q n c)(hn:n<=60000)(hc:c<=48)(ok:AT d)(da:aP H1 (cN d) args)
  (go:∀v L' q' H2,Step L L' H1 H2->Kc A H L0 D0 H2 L' q'->Qi q' (n+500) (c+1)->DoR q d q' v H2->Out L L' H1 H2 v->Q v H2) (E':XK) (hE:∀a H',a∈[A.notHeld,A.badNumber,A.badBody]->Q (.str "refused") H'->E' (.ref a) none H'):Kj A d (.ref L0::args) H1 Q E':=by
 have cn:=z.eo.cnt;have up:=z.eo.up0;have hl:=z.hl;have so:(q.B.es.map (·.1)).Pairwise (· <= ·):=z.eo.so.imp Int.le_of_lt;rw[<- k.qu];have nost:∀{H2:Hp}{v:V},(∀p,v ≠ .ref p)->∀L',Out L L' H1 H2 v:=λnr _ p _ e=>absurd e (nr p);have ref:∀{a:Addr},a∈[A.notHeld,A.badNumber,A.badBody]->doQ q d=q/\d8 q d=Ee->∀H',aH H1 H'->E' (.ref a) none H':=λha nt H' s=>hE _ H' ha (go _ L q H' (aH.step s) (k.sames s) (z.mono (by omega) (by omega)) ⟨nt.1.symm,by rw[nt.2]; simp only[Ee,Den]⟩ (nost (λp e=>by cases e) _));cases d with
 | put b=>
  obtain⟨bok,bl⟩:=ok;simp only[cN,aP]at da;obtain⟨vb,r,rfl,db,rfl⟩:=da;obtain⟨B',hf,z'⟩:=z.put (by omega) (by omega) bok bl;have gd:mS (.tuple (b.map .int))=true:=zJ (k:="put") (n:=0) (.inl rfl) (by decide) (by decide) bok bl;refine⟨L,q,vb,.tuple (b.map .int),rfl,k.qw,db,(λbs e=>by injection e with e; rw[<- e,length_map]; omega),(λy=>by rw[gd]at y; cases y),λbody e hb hl=>?_⟩;have eb:body=b:=by
   have:=congrArg bM e;rw[fP,fP]at this;exact this.symm
  subst eb;refine⟨z.wok (by omega) (by omega) (by omega),by omega,B',hf,λL' H2 st hq=>go _ L' _ H2 st (k.step st hq) (z'.mono (by omega) (by omega)) ⟨yW hf,by simp only[d8,Den]⟩ (nost (λp e=>by cases e) _)⟩
 | all bs=>
  obtain⟨b1,b9,bok⟩:=ok;simp only[cN,aP]at da;obtain⟨vb,r,rfl,db,rfl⟩:=da;obtain⟨B',hf,z'⟩:=z.all (by omega) (by omega) b9 bok;have inj:∀{bss:Lq},PyData.tuple (dZ bs) = .tuple (dZ bss)->bss=bs:=λ{bss} e=>by
   injection e with e
   have f:∀l:Lq,(dZ l).map bM=l:=λl=>by
    unfold dZ;rw[map_map];have:(bM ∘ λb:Ls=>PyData.tuple (b.map .int))=id:=funext λb=>fP b;rw[this,List.map_id]
   rw[<- f bss,<- e,f]
  have gd:jN (.tuple (dZ bs))=true:=by
   have hl:(dZ bs).length=bs.length:=length_map _;have ha:(dZ bs).all mS=true:=by
    unfold dZ;rw[all_map,all_eq_true];exact λb hb=>zJ (k:="put") (n:=0) (.inl rfl) (by decide) (by decide) (bok b hb).1 (bok b hb).2
   simp [jN,hl,ha];omega
  refine⟨L,q,vb,.tuple (dZ bs),rfl,k.qw,db,(λds e=>?_),(λy=>by rw[gd]at y; cases y),λbss e h1 h9 hb=>?_⟩
  ·injection e with e
   rw[<- e];refine⟨by unfold dZ; rw[length_map]; omega,λx hx=>?_⟩;unfold dZ at hx;obtain⟨b,hb,rfl⟩:=mem_map.mp hx;intro bs' e';injection e' with e'
   rw[<- e',length_map];have:=(bok b hb).2;omega
  ·have:=inj e;subst this;refine⟨z.wok (by omega) (by omega) (by omega),by omega,B',hf,λp L' H2 st hq fp fn gp=>go _ L' _ H2 st (k.step st hq) (z'.mono (by omega) (by omega)) ⟨yW hf,by simp only[d8,Den]; exact⟨p,_,rfl,gp,bR.mpr rfl⟩⟩ λp' _ e _=>by cases e; exact⟨fp,fn⟩⟩
 | take x=>
  simp only[cN,aP,Den]at da;obtain⟨vb,r,rfl,rfl,rfl⟩:=da;refine⟨L,q,x,q.B.es.map (·.1),rfl,k.qw,⟨by omega,so⟩,by omega,ok.1,ok.2,List.Perm.refl _,so,λe H' s=>?_,λm r er=>?_⟩
  ·have e':fU q (qM q)=[]:=e;refine go _ L q H' (aH.step s) (k.sames s) (z.mono (by omega) (by omega)) ⟨?_,?_⟩ (nost (λp e=>by cases e) _) <;> simp only[doQ,d8,e',Den]
  ·obtain⟨h1,h2,h3⟩:=E9 (q:=q) (ms:=q.B.es.map (·.1)) (m:=m) (by rw[er]; exact mem_cons_self);obtain⟨e,el⟩:=kI h1;have ht:e.2.1<q.tries:=by
    unfold fT at h3;rw[el]at h3;exact h3
   obtain⟨B',hf,eB,z'⟩:=z.out (by omega) (by omega) el ht h2 x;obtain⟨a1,a2,_⟩:=z.eo.ent m e el;have hl:bN B'.es m=some (e.1,e.2.1+1,e.2.2):=by rw[eB,pD el,if_pos rfl]
   have e':fU q (qM q)=m::r:=er;refine⟨z.wok (by omega) (by omega) (by omega),a1,by omega,B',_,hf,hl,λp L' H2 st hq dp=>go _ L' _ H2 st (k.step st hq) (z'.mono (by omega) (by omega)) ⟨?_,?_⟩ λp' _ e g=>by cases e; exact absurd g (JO dp _)⟩
   ·simp only[doQ,e'];exact Ff hf _
   ·simp only[d8,e',outD,el];exact dp
 | done x m=>
  obtain⟨ho,m0,m9⟩:=ok;simp only[cN,aP,Den]at da;obtain⟨_,_,rfl,rfl,_,_,rfl,rfl,rfl⟩:=da;refine⟨L,q,x,m,rfl,k.qw,ho,m0,m9,λtm el=>?_,λnx H' s=>ref mem_cons_self ⟨if_neg (sP nx),if_neg (sP nx)⟩ H' s⟩;obtain⟨e,ee⟩:=FD z el;obtain⟨B',hf,z'⟩:=z.done (by omega) (by omega) ee;refine⟨z.wok (by omega) (by omega) (by omega),B',hf,λL' H2 st hq=>go _ L' _ H2 st (k.step st hq) (z'.mono (by omega) (by omega)) ⟨?_,?_⟩ (nost (λp e=>by cases e) _)⟩
  ·simp only[doQ,if_pos (pM el)];exact Ff hf _
  ·simp only[d8,if_pos (pM el),Den]
 | back x m=>
  obtain⟨ho,m0,m9⟩:=ok;simp only[cN,aP,Den]at da;obtain⟨_,_,rfl,rfl,_,_,rfl,rfl,rfl⟩:=da;refine⟨L,q,x,m,rfl,k.qw,ho,m0,m9,λtm el H2 st hq=>?_,λnx H' s=>ref mem_cons_self ⟨if_neg (sP nx),if_neg (sP nx)⟩ H' s⟩;refine go _ L _ H2 st (k.step st hq) ((z.held (λp=>decide (p.1≠m)) q.now).mono (by omega) (by omega)) ⟨(if_pos (pM el)).symm,by simp only[d8,if_pos (pM el),Den]⟩ (nost (λp e=>by cases e) _)
 | wait m=>
  simp only[cN,aP,Den]at da;obtain⟨_,_,rfl,rfl,rfl⟩:=da;refine⟨L,q,m,rfl,k.qw,ok.1,ok.2,by omega,z.hn,z.hk,λms perm pw p H2 st hq fp dp=>?_⟩;have em:=tT perm pw;subst em;refine go _ L _ H2 st (k.step st hq) ((z.held _ _).mono (by omega) (by omega)) ⟨rfl,dp⟩ λp' _ e _=>by cases e; exact⟨(k.off fp).2,.inl fp⟩
 | new m=>
  simp only[cN,aP,Den]at da;obtain⟨_,_,rfl,rfl,rfl⟩:=da;refine⟨L,q,.int m,.int m,q.B.es.map (·.1),rfl,k.qw,⟨by omega,so⟩,by simp only[Den],List.Perm.refl _,so,λnx H' s=>ref (mem_cons_of_mem _ mem_cons_self) (by
   have ng:¬ m∈lT q (qM q):=λhm=>nx m hm (by simp only[bO,decide_eq_true_eq,and_eq_true]; exact ok) rfl;exact⟨if_neg ng,if_neg ng⟩) H' s,λm' e hm m0 m9=>?_⟩
  cases e;obtain⟨e,el⟩:=kI (mem_filter.mp (mem_filter.mp hm).1).1;obtain⟨B',hf,z'⟩:=z.new (by omega) (by omega) el;have hm':m∈lT q (qM q):=hm;exact⟨z.wok (by omega) (by omega) (by omega),B',hf,λL' H2 st hq=>go _ L' _ H2 st (k.step st hq) (z'.mono (by omega) (by omega)) ⟨(yW hf).trans (if_pos hm').symm,by simp only[d8,if_pos hm',Den]⟩ (nost (λp e=>by cases e) _)⟩
 | sweep=>
  simp only[cN,aP]at da;subst da;exact k.qu.symm ▸ ET k z hn hc λv L' q' H2 st k' z' e nr=>go v L' q' H2 st k' (z'.mono (le_refl _) (by omega)) e (nost nr _)
 | carry=>
  simp only[cN,aP]at da;subst da;exact k.qu.symm ▸ EU k z hn hc λv L' q' H2 st k' z' e nr=>go v L' q' H2 st k' (z'.mono (le_refl _) (by omega)) e (nost nr _)
def Fo(k:Kc A H L0 D0 H1 L q)(z:Qi q n c)(hn:n<=60000)(hc:c<=48)(ok:AT d)(gt:H1 t=some (.tup (.str (cB d)::args)))(da:aP H1 (cN d) args)
  (go:∀v L' q' H2,Step L L' H1 H2->Kc A H L0 D0 H2 L' q'->Qi q' (n+500) (c+1)->DoR q d q' v H2->Out L L' H1 H2 v->Q v H2):Ag A [.ref L0,.ref t] H1 Q E:=
 ⟨L,q,t,args,d,by rw[k.qu],k.qw,gt,da,λE' hE=>k.qu.symm ▸ Fp k z hn hc ok da go E' hE⟩
end
abbrev Jv:Stmt:=top 70
abbrev GT:Stmt:=top 69
abbrev GM:Stmt:=top 71
abbrev uB:Stmt:=top 84
abbrev Av:Stmt:=top 85
def oS(x k:Int):Int:=((x * 1103515245+7919 * k+12345) % 2147483647) ^ 5 % 2147483647
def Ga{a b:Int}(h:0<=a)(h2:a<2147483647):a.natAbs<2 ^ 64:=by omega
inductive zC(K:Ln)(vs:L6)(H:Hp)(Q:VK)(x_3:XK):Prop
 | mk:∀(a:Addr)(ns:Ls)(k:Int),vs=[.ref a,.int k]->0<=k->SqL K H a (ns.map V.int)->Q (.int (ns.getD k.toNat 0)) H->zC K vs H Q x_3
inductive y9(vs:L6)(H:Hp)(Q:VK)(x_3:XK):Prop
 | mk:∀(x k:Int),vs=[.int x,.int k]->Q (.int (oS x k)) H->y9 vs H Q x_3
def HA(c p m:Int):Int:=(c * 48271 % p) ^ 3 % p % m
inductive CM(vs:L6)(H:Hp)(Q:VK)(x_3:XK):Prop
 | mk:∀(c p m:Int),vs=[.int c,.int p,.int m]->0<p->p<2147483647->0<m->Q (.int (HA c p m)) H->CM vs H Q x_3
section
variable{P:Program}{w:World}{K:Ln}{mg:Lp}{base:Heap}{aa9 aa1:Addr}{A:Ad}
def JH(F:Fun K "_law_cell" "_law_cell" GT f fd)(T:‹3›):‹14› 1 f fd ["_law_script","_law_k"] (zC K):=by
 refine F.okY ["_law_script","_law_k"] λcdv A' outer s H vs Q E hr nD0 h=>?_;obtain⟨a,ns,k,rfl,k0,hs,q⟩:=h;refine⟨_,aA (a8 (aR uR (pv 1) ‹29› (bD _))
   (aC (aQ (cF (cK K) (pv 0) (pv 1) (λ_ _=>rfl))))
   aO)
  (aC (aQ aI)),?_⟩
 refine⟨_,rfl,_,rfl,a,_,rfl,.inl hs,_,_,rfl,rfl,_,rfl,?_⟩;rw[length_map];show if decide (k<(ns.length:Int))=true then _ else _
 by_cases hk:k<(ns.length:Int)
 ·rw[if_pos (decide_eq_true hk)];have hl:k.toNat<ns.length:=by omega
  have eg:ns.getD k.toNat 0=ns[k.toNat]:=by
   rw[getD_eq_getElem?_getD,getElem?_eq_getElem hl];rfl
  rw[eg]at q;exact⟨_,rfl,_,rfl,a,_,_,_,rfl,rfl,hs,aT k0 (by rw[getElem?_map,getElem?_eq_getElem hl]; rfl),q⟩
 ·rw[if_neg (by simpa using hk)];have eg:ns.getD k.toNat 0=0:=by
   rw[getD_eq_getElem?_getD,getElem?_eq_none (by omega)];rfl
  rw[eg]at q;exact q
def I0{f:Addr}{fd:Lx}(F:Fun K "_law_seed" "_law_seed" GM f fd):‹14› 1 f fd ["_law_seed_here","_law_k"] y9:=by
 refine F.okY ["_law_seed_here","_law_k"] λcdv A' outer s H vs Q E hr nD0 h=>?_;obtain⟨x,k,rfl,q⟩:=h;refine⟨_,aC (aQ (bA dU (bA Gr (bA dU (bA cU (bA cU (bA mG (pv 0) aI) (bA mG aI (pv 1))) aI) aI) aI) aI)),?_⟩;have e1:=emod_nonneg (x * 1103515245+7919 * k+12345) (show (2147483647:Int)≠0 by decide);have e2:=emod_lt_of_pos (x * 1103515245+7919 * k+12345) (show (0:Int)<2147483647 by decide);refine⟨_,rfl,_,_,rfl,rfl,.inr ⟨by decide,by decide⟩,_,rfl,_,_,rfl,rfl,.inl ⟨by decide,by decide⟩,_,_,rfl,rfl,_,_,rfl,rfl,_,_,rfl,rfl,(by show (0:Int)<2147483647; decide),_,_,rfl,rfl,⟨by decide,by decide,Ga (b:=0) e1 e2⟩,_,_,rfl,rfl,(by show (0:Int)<2147483647; decide),?_⟩;exact q
def K7{f:Addr}{fd:Lx}(F:Fun K "_law_mix" "_law_mix" Jv f fd):‹14› 1 f fd ["_law_cell_here","_law_prime","_law_many"] CM:=by
 refine F.okY ["_law_cell_here","_law_prime","_law_many"] λcdv A' outer s H vs Q E hr nD0 h=>?_;obtain⟨c,p,m,rfl,p0,p9,m0,q⟩:=h;refine⟨_,aC (aQ (bA dU (bA dU (bA Gr (bA dU (bA mG (pv 0) aI) (pv 1)) aI) (pv 1)) (pv 2))),?_⟩;have e1:=emod_nonneg (c * 48271) (show p≠0 by omega);have e2:=emod_lt_of_pos (c * 48271) p0;refine⟨_,rfl,_,_,rfl,rfl,.inr ⟨by decide,by decide⟩,_,rfl,_,_,rfl,rfl,p0,_,_,rfl,rfl,⟨by decide,by decide,Ga (b:=0) e1 (by omega)⟩,_,rfl,_,_,rfl,rfl,p0,_,rfl,_,_,rfl,rfl,m0,q⟩
end
def at2(h0:0<=k)(h2:k<2):∃m,atI [V.int a,V.int b] k=some (.int m)/\(m=a\/m=b):=by
 by_cases z:k=0
 ·subst z;exact⟨a,rfl,.inl rfl⟩
 ·have:k=1:=by omega
  subst this;exact⟨b,rfl,.inr rfl⟩
def at3(h0:0<=k)(h3:k<3):∃m,atI [V.int a,V.int b,V.int c] k=some (.int m)/\(m=a\/m=b\/m=c):=by
 by_cases z:k=0
 ·subst z;exact⟨a,rfl,.inl rfl⟩
 ·by_cases y:k=1
  ·subst y;exact⟨b,rfl,.inr (.inl rfl)⟩
  ·have:k=2:=by omega
   subst this;exact⟨c,rfl,.inr (.inr rfl)⟩
inductive lZ(vs:L6)(H:Hp)(Q:VK)(x_3:XK):Prop
 | mk:∀c:Int,vs=[.int c]->(∀(m h t:Int)(p:Addr)(H':Hp),1<=m->m<=2000->0<=h->h<=99->1<=t->t<=9->aH H H'->H' p=some (.tup [.int m,.int h,.int t])->Q (.ref p) H')->lZ vs H Q x_3
inductive qC(A:Ad)(vs:L6)(H:Hp)(Q:VK)(x_3:XK):Prop
 | mk:∀(dk df p:Addr)(kvs:Lz)(D:Dk)(m h t:Int),vs=[.ref dk,.ref p]->H p=some (.tup [.int m,.int h,.int t])->tX (.int m) (.int h) (.int t)=true->DiskAt A.disk H dk df kvs D->qX D->(∀L' d H',L'.dk=dk->(∀b o,H b=some o->¬ own dk df kvs b->H' b=some o)->(∀b,eQ L' b->own dk df kvs b\/H b=none)->QueueW A H' L' (nM m h t d) false->Q (.ref L'.qu) H')->qC A vs H Q x_3
section
variable{P:Program}{w:World}{K:Ln}{mg:Lp}{base:Heap}{A:Ad}
def BH(F:Fun K "_law_settings" "_law_settings" uB f fd)(T:‹3›)(ab5:‹10›):‹14› 2 f fd ["_law_cell_here"] lZ:=by
 refine F.okY ["_law_cell_here","_law_seed_here","_law_most"] λcdv A' outer s H vs Q E hr nD0 h=>?_;obtain⟨c,rfl,qq⟩:=h;refine⟨_,aA (aX (i:=1) nD0 ⋯ ⋯ (bC ab5 ‹18› aZ (aE (pv 0) ‹35›)))
  (aA (aX (i:=2) nD0 ⋯ ⋯ (cF (cK K) (cD (bQ (bA cU aI ‹27›) (bQ (bA cU aI ‹27›) ‹35›))) ‹27› (λ_ _=>rfl)))
  (aC (aQ (bE (aE (pv 2) (bQ (bA dU ‹30› (cF (cK K) (cD (aN aI ‹35›)) (kF yM ⋯ T.ba5 DB (uQ (gA fK ‹27› aI (bD _)) aG)) (λ_ _=>rfl))) (bQ (bA cU aI (bA dU ‹30› ‹80›)) aG))))))),?_⟩
 refine⟨_,rfl,c,0,rfl,?_⟩;generalize oS c 0=x;refine⟨_,rfl,_,_,rfl,rfl,⟨by decide,by decide⟩,_,_,rfl,rfl,(by show (0:Int)<60; decide),_,_,rfl,rfl,_,rfl,_,_,rfl,rfl,⟨by decide,by decide⟩,_,_,rfl,rfl,(by show (0:Int)<200; decide),_,_,rfl,rfl,aJ,λp1 hp1=>?_⟩;obtain⟨m,e1,hm⟩:=at3 (a:=1+x / 3 % 60) (b:=1+x / 3 % 200) (c:=2000) (k:=x / 7 % 3) (by omega) (by omega);refine⟨_,rfl,_,_,rfl,rfl,⟨by decide,by decide⟩,_,_,rfl,rfl,(by show (0:Int)<3; decide),p1,_,_,.int m,rfl,rfl,SqL.of aB,e1,?_⟩;have S1:=aD (o:=.lst [.int (1+x / 3 % 60),.int (1+x / 3 % 200),.int 2000]) hp1;generalize upd H p1 (.lst [.int (1+x / 3 % 60),.int (1+x / 3 % 200),.int 2000])=H1 at S1 ⊢;refine⟨_,rfl,_,rfl,_,_,rfl,rfl,⟨by decide,by decide⟩,aJ,λp2 hp2=>?_⟩;refine⟨_,rfl,_,_,rfl,rfl,⟨by decide,by decide⟩,_,_,rfl,rfl,(by show (0:Int)<4; decide),rfl,.inr ⟨_,rfl,?_⟩⟩;obtain⟨h,e2,hh⟩:=at2 (a:=8) (b:=100) (k:=if decide (V.int (x / 19 % 4)=V.int 0)=true then 1 else 0) (by split <;> omega) (by split <;> omega);refine⟨p2,_,_,.int h,rfl,rfl,SqL.of aB,e2,_,_,rfl,rfl,(by rcases hh with z | z <;> rw[z] <;> decide),?_⟩;have S2:=aD (o:=.lst [.int 8,.int 100]) hp2;generalize upd H1 p2 (.lst [.int 8,.int 100])=H2 at S2 ⊢;refine⟨_,rfl,_,_,rfl,rfl,⟨by decide,by decide⟩,aJ,λp3 hp3=>?_⟩;obtain⟨t,e3,ht⟩:=at2 (a:=9) (b:=3) (k:=x / 17 % 2) (by omega) (by omega);refine⟨_,rfl,_,_,rfl,rfl,⟨by decide,by decide⟩,_,_,rfl,rfl,(by show (0:Int)<2; decide),p3,_,_,.int t,rfl,rfl,SqL.of aB,e3,_,_,rfl,rfl,(by rcases ht with z | z <;> rw[z] <;> decide),_,_,rfl,rfl,aJ,λp4 hp4=>?_⟩;have S3:=aD (o:=.lst [.int 9,.int 3]) hp3;generalize upd H2 p3 (.lst [.int 9,.int 3])=H3 at S3 hp4 ⊢;have b1:1<=m/\m<=2000:=by
  have h1:=emod_nonneg (x / 3) (show (60:Int)≠0 by decide);have h2:=emod_lt_of_pos (x / 3) (show (0:Int)<60 by decide);have h3:=emod_nonneg (x / 3) (show (200:Int)≠0 by decide);have h4:=emod_lt_of_pos (x / 3) (show (0:Int)<200 by decide);omega
 have b2:0<=x / 11 % h/\x / 11 % h<=99:=by
  have h1:=emod_nonneg (x / 11) (show h≠0 by omega);have h2:=emod_lt_of_pos (x / 11) (show 0<h by omega);omega
 have b3:1<=1+x / 13 % t/\1+x / 13 % t<=9:=by
  have h1:=emod_nonneg (x / 13) (show t≠0 by omega);have h2:=emod_lt_of_pos (x / 13) (show 0<t by omega);omega
 exact qq m (x / 11 % h) (1+x / 13 % t) p4 _ b1.1 b1.2 b2.1 b2.2 b3.1 b3.2 (S1.trans (S2.trans (S3.trans (aD hp4)))) aB
def Ex(F:Fun K "_law_queue" "_law_queue" Av f fd)(bd6:‹17› "Queue" A.queue 8 ["self","disk","most","hold","tries"] (tN A)):‹14› 10 f fd ["_law_disk","_law_settings_here"] (qC A):=by
 refine F.okY ["_law_disk","_law_settings_here"] λcdv A' outer s H vs Q E hr nD0 h=>?_;obtain⟨dk,df,p,kvs,D,m,h,t,rfl,gp,hst,hD,he,qq⟩:=h;refine⟨_,aC (aQ (Gk bd6 ‹18› aZ (aE (pv 0) (aM ‹20› (aM ‹20› ‹78›))))),?_⟩;refine⟨_,rfl,_,rfl,p,_,_,.int m,rfl,rfl,SqT.of gp,aT (by decide) rfl,_,rfl,p,_,_,.int h,rfl,rfl,SqT.of gp,aT (by decide) rfl,_,rfl,p,_,_,.int t,rfl,rfl,SqT.of gp,aT (by decide) rfl,λqu dx hqu hdx ndx=>?_⟩;have fr:∀{c o},H c=some o->upd (upd H dx (.own qu)) qu (.ins A.queue dx []) c=some o:=λ{c o} e=>by
  rw[aF (bL e hqu),aF (bL e hdx)];exact e
 have nqu:¬ own dk df kvs qu:=λz=>by
  obtain⟨o,e⟩:=qL hD z;rw[hqu]at e;cases e
 have back:∀{c},upd (upd H dx (.own qu)) qu (.ins A.queue dx []) c=none->H c=none:=λ{c} e=>by
  cases e2:H c with
  | none=>rfl
  | some o=>rw[fr e2]at e; cases e
 refine⟨qu,dx,dk,df,kvs,D,m,h,t,rfl,aB,hD.keep (λb o e _=>fr e),nqu,hst,he,λL' d H' eq ed f g hq=>⟨rfl,?_⟩⟩;subst eq;refine qq L' d H' ed (λb o e nb=>f b o (fr e) (bL e hqu) nb) (λb hb=>?_) hq;rcases g b hb with z | z | z
 ·rw[z];exact .inr hqu
 ·exact .inl z
 ·exact .inr (back z)
end
abbrev GO:Stmt:=top 72
def Dp(x m:Int):Int:=x / 97 % m
inductive sK(vs:L6)(H:Hp)(Q:VK)(x_3:XK):Prop
 | mk:∀(x m:Int),vs=[.int x,.int m]->0<m->Q (.int (Dp x m)) H->sK vs H Q x_3
section
variable{P:Program}{w:World}{K:Ln}{mg:Lp}{base:Heap}{A:Ad}
def JB(F:Fun K "_law_pick" "_law_pick" GO f fd):‹14› 1 f fd ["_law_seed_here","_law_many"] sK:=by
 refine F.okY ["_law_seed_here","_law_many"] λcdv A' outer s H vs Q E hr nD0 h=>?_;obtain⟨x,m,rfl,m0,q⟩:=h;refine⟨_,aC (aQ (bA dU (bA m7 (pv 0) aI) (pv 1))),?_⟩;exact⟨_,rfl,_,_,rfl,rfl,⟨by decide,by decide⟩,_,rfl,_,_,rfl,rfl,m0,q⟩
end
def wsK(ws:List (Int × Int)):Lz:=ws.map λp=>(Sum.inl p.1,V.int p.2)
def pF(ws:List (Int × Int))(k:Int):Option Int:=(ws.find? λp=>decide (p.1=k)).map (·.2)
def rY(ws:List (Int × Int))(k s:Int):List (Int × Int):=if (ws.any λp=>decide (p.1=k))=true then ws.map (λp=>if p.1=k then (p.1,s) else p) else ws++[(k,s)]
def ED(a b:Int):decide ((Sum.inl a:Key)=Sum.inl b)=decide (a=b):=by
 by_cases h:a=b
 ·rw[decide_eq_true h,decide_eq_true (by rw[h])]
 ·rw[decide_eq_false h,decide_eq_false (λz=>h (Sum.inl.inj z))]
def IG(ws:List (Int × Int))(k s:Int):eF (wsK ws) (Sum.inl k) (V.int s)=wsK (rY ws k s):=by
 have e1:((wsK ws).any λkv=>decide (kv.1=Sum.inl k))=(ws.any λp=>decide (p.1=k)):=by
  unfold wsK;rw[List.any_map];congr 1;funext p;exact ED p.1 k
 unfold eF rY;rw[e1];split
 ·unfold wsK;rw[map_map,map_map];apply map_congr_left;intro p _;show (if (Sum.inl p.1:Key)=Sum.inl k then _ else _)=((Sum.inl (if p.1=k then (p.1,s) else p).1:Key),V.int (if p.1=k then (p.1,s) else p).2);by_cases h:p.1=k
  ·rw[if_pos h,if_pos (by rw[h])]
  ·rw[if_neg h,if_neg (λz=>h (Sum.inl.inj z))]
 ·unfold wsK;rw[map_append];rfl
def sF:∀(ws:List (Int × Int))(k:Int),dE (wsK ws) (Sum.inl k)=(pF ws k).map V.int
 | [],k=>rfl
 | p::r,k=>by
  have ih:=sF r k;unfold dE pF wsK at *;rw[map_cons,find?_cons,find?_cons];show Option.map _ (match decide ((Sum.inl p.1:Key)=Sum.inl k) with | true=>_ | false=>_)=_;rw[ED];cases decide (p.1=k) with
  | true=>rfl
  | false=>exact ih
def AU(ws:List (Int × Int)):(wsK ws).map (·.1)=(ws.map (·.1)).map Sum.inl:=by
 unfold wsK;rw[map_map,map_map];rfl
def qN(h:k∈ws.map (·.1)):∃s,pF ws k=some s:=by
 unfold pF;cases y:ws.find? λp=>decide (p.1=k) with
 | none=>
  rw[find?_eq_none]at y;obtain⟨p,hp,e⟩:=mem_map.mp h;exact absurd (decide_eq_true e) (y p hp)
 | some p=>exact⟨_,rfl⟩
def BB{ws:List (Int × Int)}{k:Int}:(ws.any λp=>decide (p.1=k))=true ↔ k∈ws.map (·.1):=by
 rw[any_eq_true,mem_map];exact⟨λ⟨p,h1,h2⟩=>⟨p,h1,of_decide_eq_true h2⟩,λ⟨p,h1,h2⟩=>⟨p,h1,decide_eq_true h2⟩⟩
def Ef{ws:List (Int × Int)}{k:Int}(s:Int)(h:k∈ws.map (·.1)):(rY ws k s).map (·.1)=ws.map (·.1):=by
 unfold rY;rw[if_pos (BB.mpr h),map_map];apply map_congr_left;intro p _;show (if p.1=k then (p.1,s) else p).1=p.1;split <;> rfl
def Gc{ws:List (Int × Int)}{k:Int}(s:Int)(h:k ∉ ws.map (·.1)):rY ws k s=ws++[(k,s)]:=by
 unfold rY;rw[if_neg (λz=>h (BB.mp z))]
def Fe(ws:List (Int × Int))(k:Int):eY (wsK ws) (Sum.inl k)=wsK (ws.filter λp=>decide (p.1≠k)):=by
 unfold eY wsK;rw[filter_map];congr 1;refine List.filter_congr λp _=>decide_eq_decide.mpr ?_;exact⟨λh z=>h (by show (Sum.inl p.1:Key)=Sum.inl k; rw[z]),λh z=>h (Sum.inl.inj z)⟩
def TR{α : Type}(f:α->V->Prop):List (Int × α)->Lz->Prop
 | [],[]=>True
 | p::es,r::kvs=>r.1=Sum.inl p.1/\f p.2 r.2/\TR f es kvs
 | _,_=>False
section
variable{α : Type}{f g:α->V->Prop}
def TR.imp(h:∀a v,f a v->g a v):∀{es:List (Int × α)}{kvs:Lz},TR f es kvs->TR g es kvs
 | [],[],_=>trivial
 | _::_,_::_,⟨h1,h2,h3⟩=>⟨h1,h _ _ h2,TR.imp h h3⟩
 | [],_::_,h=>h.elim
 | _::_,[],h=>h.elim
def TR.keys:∀{es:List (Int × α)}{kvs:Lz},TR f es kvs->kvs.map (·.1)=(es.map (·.1)).map Sum.inl
 | [],[],_=>rfl
 | _::_,_::_,⟨h1,_,h3⟩=>by rw[map_cons,map_cons,map_cons,TR.keys h3,h1]
 | [],_::_,h=>h.elim
 | _::_,[],h=>h.elim
def TR.len(h:TR f es kvs):kvs.length=es.length:=by
 have:=congrArg List.length h.keys;rw[length_map,length_map,length_map]at this;exact this
def TR.look:∀{es:List (Int × α)}{kvs:Lz},TR f es kvs->n∈es.map (·.1)->∃a v,(n,a)∈es/\dE kvs (Sum.inl n)=some v/\f a v
 | [],[],_,h=>by cases h
 | p::es,r::kvs,⟨h1,h2,h3⟩,h=>by
  by_cases e:p.1=n
  ·refine⟨p.2,r.2,by rw[<- e]; exact mem_cons_self,?_,h2⟩;unfold dE;rw[find?_cons,decide_eq_true (by rw[h1,e])];rfl
  ·rw[map_cons]at h;rcases mem_cons.mp h with z | z
   ·exact absurd z.symm e
   ·obtain⟨a,v,m1,m2,m3⟩:=TR.look h3 z;refine⟨a,v,mem_cons_of_mem _ m1,?_,m3⟩;unfold dE at m2 ⊢;rw[find?_cons,decide_eq_false (λy=>e (Sum.inl.inj (h1.symm.trans y)))];exact m2
 | [],_::_,h,_=>h.elim
 | _::_,[],h,_=>h.elim
def TR.no(h:TR f es kvs)(hn:n ∉ es.map (·.1)):dE kvs (Sum.inl n)=none/\(kvs.any λkv=>decide (kv.1=Sum.inl n))=false:=by
 have key:∀kv∈kvs,kv.1≠Sum.inl n:=λkv hkv z=>by
  have:kv.1∈kvs.map (·.1):=mem_map_of_mem hkv;rw[h.keys,z]at this;obtain⟨m,hm,e⟩:=mem_map.mp this;exact hn (by rw[<- Sum.inl.inj e]; exact hm)
 constructor
 ·unfold dE;rw[map_eq_none_iff,find?_eq_none];exact λkv hkv z=>key kv hkv (of_decide_eq_true z)
 ·rw[List.any_eq_false];exact λkv hkv z=>key kv hkv (of_decide_eq_true z)
def iI(es:List (Int × α))(n:Int)(a:α):List (Int × α):=if (es.any λp=>decide (p.1=n))=true then es.map (λp=>if p.1=n then (p.1,a) else p) else es++[(n,a)]
def xT(a:α)(h:n∈es.map (·.1)):(iI es n a).map (·.1)=es.map (·.1):=by
 have:(es.any λp=>decide (p.1=n))=true:=by
  obtain⟨p,hp,e⟩:=mem_map.mp h;exact any_eq_true.mpr ⟨p,hp,decide_eq_true e⟩
 unfold iI;rw[if_pos this,map_map];apply map_congr_left;intro p _;show (if p.1=n then (p.1,a) else p).1=p.1;split <;> rfl
def BA(a:α)(h:n ∉ es.map (·.1)):iI es n a=es++[(n,a)]:=by
 unfold iI;rw[if_neg];rw[any_eq_true];rintro ⟨p,hp,e⟩;exact h (by rw[<- of_decide_eq_true e]; exact mem_map_of_mem hp)
def Gb(h:p∈iI es n a):p∈es\/p.2=a:=by
 unfold iI at h;split at h
 ·obtain⟨p0,h0,e0⟩:=mem_map.mp h;split at e0
  ·rw[<- e0];exact .inr rfl
  ·rw[<- e0];exact .inl h0
 ·rw[mem_append,mem_singleton]at h;rcases h with h | rfl
  ·exact .inl h
  ·exact .inr rfl
def TR.mapP(hv:f a v):∀{es:List (Int × α)}{kvs:Lz},TR f es kvs->TR f (es.map λp=>if p.1=n then (p.1,a) else p) (kvs.map λkv=>if kv.1=Sum.inl n then (kv.1,v) else kv)
 | [],[],_=>trivial
 | p::es,r::kvs,⟨h1,h2,h3⟩=>by
  rw[map_cons,map_cons];by_cases e:p.1=n
  ·rw[if_pos e,if_pos (show r.1=Sum.inl n by rw[h1,e])];exact⟨h1,hv,TR.mapP hv h3⟩
  ·rw[if_neg e,if_neg (λz=>e (Sum.inl.inj (h1.symm.trans z)))];exact⟨h1,h2,TR.mapP hv h3⟩
 | [],_::_,h=>h.elim
 | _::_,[],h=>h.elim
def TR.snoc(hv:f a v):∀{es:List (Int × α)}{kvs:Lz},TR f es kvs->TR f (es++[(n,a)]) (kvs++[(Sum.inl n,v)])
 | [],[],_=>⟨rfl,hv,trivial⟩
 | _::_,_::_,⟨h1,h2,h3⟩=>⟨h1,h2,TR.snoc hv h3⟩
 | [],_::_,h=>h.elim
 | _::_,[],h=>h.elim
def TR.any(h:TR f es kvs):(kvs.any λkv=>decide (kv.1=Sum.inl n))=(es.any λp=>decide (p.1=n)):=by
 by_cases hn:n∈es.map (·.1)
 ·obtain⟨p,hp,e⟩:=mem_map.mp hn;have h2:Sum.inl n∈kvs.map (·.1):=by
   rw[h.keys];exact mem_map_of_mem hn
  obtain⟨r,hr,e2⟩:=mem_map.mp h2;rw[any_eq_true.mpr ⟨p,hp,decide_eq_true e⟩,any_eq_true.mpr ⟨r,hr,decide_eq_true e2⟩]
 ·rw[(h.no hn).2];refine(List.any_eq_false.mpr λp hp z=>hn ?_).symm;rw[<- of_decide_eq_true z];exact mem_map_of_mem hp
def TR.put(h:TR f es kvs)(hv:f a v):TR f (iI es n a) (eF kvs (Sum.inl n) v):=by
 unfold eF iI;rw[h.any];split
 ·exact h.mapP hv
 ·exact h.snoc hv
def TR.drop:∀{es:List (Int × α)}{kvs:Lz},TR f es kvs->TR f (es.filter λp=>decide (p.1≠n)) (eY kvs (Sum.inl n))
 | [],[],_=>trivial
 | p::es,r::kvs,⟨h1,h2,h3⟩=>by
  have ih:=TR.drop (n:=n) h3;unfold eY at ih ⊢;rw[filter_cons,filter_cons];by_cases e:p.1=n
  ·rw[if_neg (by rw[decide_eq_true_eq]; exact λz=>z e),if_neg (by rw[decide_eq_true_eq,h1,e]; exact λz=>z rfl)];exact ih
  ·rw[if_pos (show decide (p.1≠n)=true from decide_eq_true e),if_pos (show decide (r.1≠Sum.inl n)=true from decide_eq_true (λz=>e (Sum.inl.inj (h1.symm.trans z))))];exact⟨h1,h2,ih⟩
 | [],_::_,h=>h.elim
 | _::_,[],h=>h.elim
end
structure Ms where
 ls:List (Int × (Ls × Int))
 after:Int
 hs:Ma
 time:Int
 rows:List (L8)
 first:Int
 wh:List (Int × Int)
structure Sl where
 ps:Addr
 pl:Addr
 ph:Addr
 pr:Addr
 pw:Addr
 rs:List Addr
def stK(S:Sl)(M:Ms):Lz:=[(Sum.inr "letters",.ref S.pl),(Sum.inr "after",.int M.after),(Sum.inr "hands",.ref S.ph),(Sum.inr "time",.int M.time),(Sum.inr "rows",.ref S.pr),(Sum.inr "first",.int M.first),(Sum.inr "where",.ref S.pw)]
inductive pJ(H:Hp)(e:Ls × Int)(v:V):Prop
 | mk:∀t b,v = .ref t->H t=some (.tup [.ref b,.int e.2])->H b=some (.tup (e.1.map V.int))->pJ H e v
inductive pN(H:Hp)(e:Str × Int)(v:V):Prop
 | mk:∀t,v = .ref t->H t=some (.tup [.str e.1,.int e.2])->pN H e v
def RsR(H:Hp):List (L8)->List Addr->Prop
 | [],[]=>True
 | r::rs,a::as=>(∃xs,H a=some (.lst xs)/\aP H (r.map cC) xs)/\RsR H rs as
 | _,_=>False
def stL(S:Sl):List Addr:=S.ps::S.pl::S.ph::S.pr::S.pw::S.rs
structure StAt(H:Hp)(S:Sl)(M:Ms):Prop where
 st:H S.ps=some (.dK (stK S M))
 ls:∃kl,H S.pl=some (.dK kl)/\TR (pJ H) M.ls kl
 hs:∃kh,H S.ph=some (.dK kh)/\TR (pN H) M.hs kh
 rw:H S.pr=some (.lst (S.rs.map V.ref))
 rr:RsR H M.rows S.rs
 wh:H S.pw=some (.dK (wsK M.wh))
 nd:(stL S).Nodup
structure StepS(S S':Sl)(H H':Hp):Prop where
 ps:S'.ps=S.ps
 frm:∀b o,H b=some o->b ∉ stL S->H' b=some o
 grow:∀b,b∈stL S'->b∈stL S\/H b=none
 tup:fR H H'
def StepS.trans(a:StepS S S1 H H1)(b:StepS S1 S2 H1 H2):StepS S S2 H H2:=by
 refine⟨b.ps.trans a.ps,λc o e nc=>b.frm c o (a.frm c o e nc) (λz=>(a.grow c z).elim nc (λy=>by rw[y]at e; cases e)),λc hc=>?_,a.tup.trans b.tup⟩;rcases b.grow c hc with z | z
 ·exact a.grow c z
 ·by_cases y:c∈stL S
  ·exact .inl y
  ·refine .inr ?_;cases e:H c with
   | none=>rfl
   | some o=>rw[a.frm c o e y]at z; cases z
def aH.stepS(s:aH H H'):StepS S S H H':=⟨rfl,λb o e _=>s b o e,λb h=>.inl h,aH.tup s⟩
def StepS.not(a:StepS S S' H H')(e:H b=some o)(n:b ∉ stL S):b ∉ stL S':=λz=>(a.grow b z).elim n (λy=>by rw[y]at e; cases e)
def pJ.t(s:fR H H')(h:pJ H e v):pJ H' e v:=by
 obtain⟨t,b,e1,e2,e3⟩:=h;exact⟨t,b,e1,s _ _ e2,s _ _ e3⟩
def pN.t(s:fR H H')(h:pN H e v):pN H' e v:=by
 obtain⟨t,e1,e2⟩:=h;exact⟨t,e1,s _ _ e2⟩
def kC:∀rs:L8,cY (rs.map cC)=true
 | []=>rfl
 | r::rs=>by
  show (iA (cC r) && cY (rs.map cC))=true;rw[kC rs];unfold cC;rw[lD];rfl
def RsR.keep(t:fR H H'):∀{rs:List (L8)}{as:List Addr},RsR H rs as->(∀a∈as,∀o,H a=some o->H' a=some o)->RsR H' rs as
 | [],[],_,_=>trivial
 | _::_,a::_,⟨⟨xs,h1,h2⟩,h3⟩,k=>⟨⟨xs,k a mem_cons_self _ h1,fN t (kC _) h2⟩,RsR.keep t h3 λb hb=>k b (mem_cons_of_mem _ hb)⟩
 | [],_::_,h,_=>h.elim
 | _::_,[],h,_=>h.elim
def RsR.len:∀{rs:List (L8)}{as:List Addr},RsR H rs as->as.length=rs.length
 | [],[],_=>rfl
 | _::_,_::_,⟨_,h⟩=>by rw[length_cons,length_cons,RsR.len h]
 | [],_::_,h=>h.elim
 | _::_,[],h=>h.elim
def RsR.snoc(g:H a=some (.lst xs))(d:aP H (r.map cC) xs):∀{rs:List (L8)}{as:List Addr},RsR H rs as->RsR H (rs++[r]) (as++[a])
 | [],[],_=>⟨⟨xs,g,d⟩,trivial⟩
 | _::_,_::_,⟨h1,h2⟩=>⟨h1,RsR.snoc g d h2⟩
 | [],_::_,h=>h.elim
 | _::_,[],h=>h.elim
def RsR.split:∀{rs:List (L8)}{as:List Addr}{r:L8},RsR H (rs++[r]) as->∃as' a xs,as=as'++[a]/\RsR H rs as'/\H a=some (.lst xs)/\aP H (r.map cC) xs
 | [],[a],r,⟨⟨xs,g,d⟩,_⟩=>⟨[],a,xs,rfl,trivial,g,d⟩
 | _::rs,a::as,r,⟨h1,h2⟩=>by
  obtain⟨as',b,xs,e,h3,g,d⟩:=RsR.split h2;exact⟨a::as',b,xs,by rw[e]; rfl,⟨h1,h3⟩,g,d⟩
 | [],[],_,h=>h.elim
 | [],_::_::_,_,h=>h.2.elim
 | _::_,[],_,h=>h.elim
section
variable{H H':Hp}{S:Sl}{M:Ms}
def StAt.keep(h:StAt H S M)(k:∀b o,H b=some o->b∈stL S->H' b=some o)(t:fR H H'):StAt H' S M:=by
 obtain⟨kl,h1,h2⟩:=h.ls;obtain⟨kh,h3,h4⟩:=h.hs;have m:∀b,b∈[S.ps,S.pl,S.ph,S.pr,S.pw]->b∈stL S:=λb hb=>mem_append_left S.rs hb;exact⟨k _ _ h.st (m _ (by simp)),⟨kl,k _ _ h1 (m _ (by simp)),h2.imp λa v=>pJ.t t⟩,⟨kh,k _ _ h3 (m _ (by simp)),h4.imp λa v=>pN.t t⟩,k _ _ h.rw (m _ (by simp)),h.rr.keep t (λa ha o e=>k a o e (mem_append_right [S.ps,S.pl,S.ph,S.pr,S.pw] ha)),k _ _ h.wh (m _ (by simp)),h.nd⟩
def StAt.same(h:StAt H S M)(s:aH H H'):StAt H' S M:=h.keep (λb o e _=>s b o e) (aH.tup s)
def StAt.here(h:StAt H S M)(hb:b∈stL S):∃o,H b=some o/\∀xs,o ≠ .tup xs:=by
 obtain⟨kl,h1,_⟩:=h.ls;obtain⟨kh,h3,_⟩:=h.hs;have rr:∀{rs:List (L8)}{as:List Addr},RsR H rs as->b∈as->∃o,H b=some o/\∀xs,o ≠ .tup xs:=by
  intro rs
  induction rs with
  | nil=>
   intro as h hb;cases as with
   | nil=>cases hb
   | cons a as=>exact h.elim
  | cons r rs ih=>
   intro as h hb;cases as with
   | nil=>exact h.elim
   | cons a as=>
    rcases mem_cons.mp hb with z | z
    ·obtain⟨⟨xs,g,_⟩,_⟩:=h;exact⟨_,by rw[z]; exact g,λxs z=>by cases z⟩
    ·exact ih h.2 z
 rcases mem_append.mp (show b∈[S.ps,S.pl,S.ph,S.pr,S.pw]++S.rs from hb) with z | z
 ·simp only[mem_cons,not_mem_nil,or_false]at z;rcases z with z | z | z | z | z
  ·exact⟨_,by rw[z]; exact h.st,λxs z=>by cases z⟩
  ·exact⟨_,by rw[z]; exact h1,λxs z=>by cases z⟩
  ·exact⟨_,by rw[z]; exact h3,λxs z=>by cases z⟩
  ·exact⟨_,by rw[z]; exact h.rw,λxs z=>by cases z⟩
  ·exact⟨_,by rw[z]; exact h.wh,λxs z=>by cases z⟩
 ·exact rr h.rr z
def StAt.off(h:StAt H S M)(hb:H b=none):b ∉ stL S:=λz=>by
 obtain⟨o,e,_⟩:=h.here z;rw[hb]at e;cases e
def bX(h:StAt H S M)(hb:b∈stL S)(o':HO):StepS S S H (upd H b o'):=by
 obtain⟨o,e,nt⟩:=h.here hb;exact⟨rfl,λc u ec nc=>by rw[aF (λz=>nc (by rw[z]; exact hb))]; exact ec,λc hc=>.inl hc,kQ e nt⟩
end
abbrev A0:Stmt:=top 74
abbrev DY:Stmt:=top 75
abbrev Ay:Stmt:=top 82
structure MsOk(M:Ms)(c n:Nat):Prop where
 af:0<=M.after/\M.after<=9 * (c:Int)
 so:(M.ls.map (·.1)).Pairwise (· < ·)
 lt:∀p∈M.ls,0<=p.1/\p.1<M.after/\p.2.1.length<=60
 cnt:M.ls.length<=9 * c
 wk:M.wh.map (·.1)=M.ls.map (·.1)
 hn:(M.hs.map (·.1)).Nodup
 hl:M.hs.length<=c
 hk:∀p∈M.hs,p.1∈M.ls.map (·.1)/\eG p.2.1
 ne:M.rows≠[]
 rl:M.rows.length<=n
 sg:∀s∈M.rows,s.length<=n/\∀r∈s,r.2.2.length<=61
def MsOk.mono{M:Ms}{c n c' n':Nat}(h:MsOk M c n)(hc:c<=c')(hn:n<=n'):MsOk M c' n':=⟨⟨h.af.1,by have:=h.af.2; omega⟩,h.so,h.lt,by have:=h.cnt; omega,h.wk,h.hn,le_trans h.hl hc,h.hk,h.ne,le_trans h.rl hn,λs hs=>⟨le_trans (h.sg s hs).1 hn,(h.sg s hs).2⟩⟩
def M0:Ms:=⟨[],0,[],0,[[("from",0,[])]],0,[]⟩
def M0_ok:MsOk M0 0 1:=⟨⟨Int.le_refl _,Int.le_refl _⟩,List.Pairwise.nil,(λp hp=>by cases hp),le_refl _,rfl,nodup_nil,le_refl _,(λp hp=>by cases hp),by decide,le_refl _,λs hs=>by
 rw[mem_singleton.mp hs];exact⟨le_refl _,λr hr=>by rw[mem_singleton.mp hr]; exact zero_le _⟩⟩
def GH(rs:L8):Int:=(rs.map λr=>7+(r.2.2.length:Int)).sum
def wO:Sp:=λvs H Q _=>vs=[]/\∀S H',aH H H'->(∀b∈stL S,H b=none)->StAt H' S M0->Q (.ref S.ps) H'
inductive tK(vs:L6)(H:Hp)(Q:VK)(x_3:XK):Prop
 | mk:∀(l:Addr)(rs:L8)(xs:L6),vs=[.ref l]->H l=some (.lst xs)->aP H (rs.map cC) xs->rs.length<=100000->(∀H',aH H H'->Q (.int (GH rs)) H')->tK vs H Q x_3
inductive qF(vs:L6)(H:Hp)(Q:VK)(x_3:XK):Prop
 | mk:∀(S:Sl)(M:Ms)(r:L8)(rs:List (L8)),vs=[.ref S.ps]->StAt H S M->M.rows=r::rs->(∀S' H',StepS S S' H H'->StAt H' S' { M with rows:=rs,first:=M.first+1 }->Q .non H')->qF vs H Q x_3
section
variable{H:Hp}{S:Sl}{M:Ms}
def StAt.g_letters(h:StAt H S M):cQ H S.ps (.str "letters") (some (.ref S.pl)):=cQ.k (k:=Sum.inr "letters") h.st
def StAt.g_after(h:StAt H S M):cQ H S.ps (.str "after") (some (.int M.after)):=cQ.k (k:=Sum.inr "after") h.st
def StAt.g_hands(h:StAt H S M):cQ H S.ps (.str "hands") (some (.ref S.ph)):=cQ.k (k:=Sum.inr "hands") h.st
def StAt.g_time(h:StAt H S M):cQ H S.ps (.str "time") (some (.int M.time)):=cQ.k (k:=Sum.inr "time") h.st
def StAt.g_rows(h:StAt H S M):cQ H S.ps (.str "rows") (some (.ref S.pr)):=cQ.k (k:=Sum.inr "rows") h.st
def StAt.g_first(h:StAt H S M):cQ H S.ps (.str "first") (some (.int M.first)):=cQ.k (k:=Sum.inr "first") h.st
def StAt.g_where(h:StAt H S M):cQ H S.ps (.str "where") (some (.ref S.pw)):=cQ.k (k:=Sum.inr "where") h.st
end
section
variable{P:Program}{w:World}{K:Ln}{mg:Lp}{base:Heap}{A:Ad}
def E3{f:Addr}{fd:Lx}(F:Fun K "_law_begin" "_law_begin" A0 f fd):‹14› 1 f fd [] wO:=by
 refine F.okY [] λcdv A' outer s H vs Q E hr nD0 h=>?_;obtain⟨rfl,q⟩:=h;refine⟨_,@aC _ _ _ (@aQ _ _ _ _ (@Dr _ _ _ _ _ (@fO _ _ _ _ _ _ _ _ _ ‹42› (@kE _ _) (@fO _ _ _ _ _ _ _ _ _ ‹42› ‹48› (@fO _ _ _ _ _ _ _ _ _ ‹42› (@kE _ _) (@fO _ _ _ _ _ _ _ _ _ ‹42› ‹48› (@fO _ _ _ _ _ _ _ _ _ ‹42› (@cD _ _ _ _ (@fH _ _ _ _ _ _ (@cD _ _ _ _ (@bV _ _ _ _ _ _ _ (@bE _ _ _ _ _ (@aN _ _ _ _ _ _ _ ‹42› (@aN _ _ _ _ _ _ _ ‹48› (@bV _ _ _ _ _ _ _ (@bE _ _ _ _ _ (@aG _)) (@aG _))))) (@aG _))) (@aG _))) (@fO _ _ _ _ _ _ _ _ _ ‹42› ‹48› (@fO _ _ _ _ _ _ _ _ _ ‹42› (@kE _ _) (@Dm _ _)))))))) ⋯ ⋯ (List.cons_ne_nil _ _) (by decide))),?_⟩;refine λps hps pl hpl ph hph=>⟨aJ,λpe hpe=>⟨aJ,λpt hpt=>⟨aJ,λpg hpg=>⟨aJ,λpr hpr pw hpw=>?_⟩⟩⟩⟩;obtain⟨H1,eUU,s1,g1⟩:=gUU (o:=.dK []) hps;rw[eUU]at hpl hph hpe hpt hpg hpr hpw ⊢;obtain⟨H2,eUU,s2,g2⟩:=gUU (o:=.dK []) hpl;rw[eUU]at hph hpe hpt hpg hpr hpw ⊢;obtain⟨H3,eUU,s3,g3⟩:=gUU (o:=.dK []) hph;rw[eUU]at hpe hpt hpg hpr hpw ⊢;obtain⟨H4,eUU,s4,g4⟩:=gUU (o:=.tup []) hpe;rw[eUU]at hpt hpg hpr hpw ⊢;obtain⟨H5,eUU,s5,g5⟩:=gUU (o:=.tup [.str "from",.int 0,.ref pe]) hpt;rw[eUU]at hpg hpr hpw ⊢;obtain⟨H6,eUU,s6,g6⟩:=gUU (o:=.lst [.ref pt]) hpg;rw[eUU]at hpr hpw ⊢;obtain⟨H7,eUU,s7,g7⟩:=gUU (o:=.lst [.ref pg]) hpr;rw[eUU]at hpw ⊢;obtain⟨H8,eUU,s8,g8⟩:=gUU (o:=.dK []) hpw;rw[eUU];have s78:=s7.trans s8;have s68:=s6.trans s78;have s58:=s5.trans s68;have s48:=s4.trans s58;have s38:=s3.trans s48;have s28:=s2.trans s38;have n1:∀{c:Addr},H1 c=none->c≠ps:=λh z=>by rw[z,g1]at h; cases h
 have n2:∀{c:Addr},H2 c=none->c≠pl:=λh z=>by rw[z,g2]at h; cases h
 have n3:∀{c:Addr},H3 c=none->c≠ph:=λh z=>by rw[z,g3]at h; cases h
 have n6:∀{c:Addr},H6 c=none->c≠pg:=λh z=>by rw[z,g6]at h; cases h
 have n7:∀{c:Addr},H7 c=none->c≠pr:=λh z=>by rw[z,g7]at h; cases h
 have f3:=s2.trans s3;have f5:=f3.trans (s4.trans s5);have f6:=f5.trans s6;have f7:=f6.trans s7;have h1pg:=f5.free hpg;have h1pr:=f6.free hpr;have h1pw:=f7.free hpw;refine⟨s28 _ _ g1,[(Sum.inr "letters",.ref pl),(Sum.inr "after",.int 0),(Sum.inr "hands",.ref ph),(Sum.inr "time",.int 0),(Sum.inr "rows",.ref pr),(Sum.inr "first",.int 0),(Sum.inr "where",.ref pw)],rfl,le_of_ble_eq_true rfl,?_⟩;have em:oB [] [((Sum.inr "letters" : Key),V.ref pl),(Sum.inr "after",.int 0),(Sum.inr "hands",.ref ph),(Sum.inr "time",.int 0),(Sum.inr "rows",.ref pr),(Sum.inr "first",.int 0),(Sum.inr "where",.ref pw)]=stK ⟨ps,pl,ph,pr,pw,[pg]⟩ M0:=rfl;rw[em];have up:∀{c:Addr}{o:HO},H8 c=some o->c≠ps->upd H8 ps (.dK (stK ⟨ps,pl,ph,pr,pw,[pg]⟩ M0)) c=some o:=λe n=>by rw[aF n]; exact e
 refine q ⟨ps,pl,ph,pr,pw,[pg]⟩ _ (λb o e=>up ((s1.trans s28) b o e) (bL e hps)) (λb hb=>?_) ⟨aB,⟨[],up (s38 _ _ g2) (n1 hpl),trivial⟩,⟨[],up (s48 _ _ g3) (n1 (s2.free hph)),trivial⟩,up (s8 _ _ g7) (n1 h1pr),⟨⟨[.ref pt],up (s78 _ _ g6) (n1 h1pg),?_⟩,trivial⟩,up g8 (n1 h1pw),?_⟩
 ·have hb:b∈[ps,pl,ph,pr,pw,pg]:=hb;simp only[mem_cons,not_mem_nil,or_false]at hb;rcases hb with rfl | rfl | rfl | rfl | rfl | rfl
  ·exact hps
  ·exact s1.free hpl
  ·exact(s1.trans s2).free hph
  ·exact s1.free h1pr
  ·exact s1.free h1pw
  ·exact s1.free h1pg
 ·have npt:pt≠ps:=n1 ((f3.trans s4).free hpt);have npe:pe≠ps:=n1 (f3.free hpe);show aP _ [cC ("from",0,[])] [.ref pt];unfold cC fM;simp only[Den,aP,map_nil];exact⟨_,_,rfl,⟨pt,_,rfl,up (s68 _ _ g5) npt,_,_,rfl,rfl,_,_,rfl,rfl,_,_,rfl,⟨pe,_,rfl,up (s58 _ _ g4) npe,rfl⟩,rfl⟩,rfl⟩
 ·show List.Nodup [ps,pl,ph,pr,pw,pg];have a1:=n1 hpl;have a2:=n1 (s2.free hph);have a3:=n1 h1pr;have a4:=n1 h1pw;have a5:=n1 h1pg;have b1:=n2 hph;have b2:=n2 ((s3.trans (s4.trans (s5.trans s6))).free hpr);have b3:=n2 ((s3.trans (s4.trans (s5.trans (s6.trans s7)))).free hpw);have b4:=n2 ((s3.trans (s4.trans s5)).free hpg);have c1:=n3 ((s4.trans (s5.trans s6)).free hpr);have c2:=n3 ((s4.trans (s5.trans (s6.trans s7))).free hpw);have c3:=n3 ((s4.trans s5).free hpg);have d1:=n7 hpw;have d2:=n6 hpr;have d3:=n6 (s7.free hpw);simp only[nodup_cons,mem_cons,not_mem_nil,or_false,not_or,nodup_nil,and_true,not_false_eq_true];exact⟨⟨λz=>a1 z.symm,λz=>a2 z.symm,λz=>a3 z.symm,λz=>a4 z.symm,λz=>a5 z.symm⟩,⟨λz=>b1 z.symm,λz=>b2 z.symm,λz=>b3 z.symm,λz=>b4 z.symm⟩,⟨λz=>c1 z.symm,λz=>c2 z.symm,λz=>c3 z.symm⟩,⟨λz=>d1 z.symm,d2⟩,d3⟩
def Gx{f:Addr}{fd:Lx}(F:Fun K "_law_size" "_law_size" DY f fd)(T:‹3›):‹14› 1 f fd ["_law_rows"] tK:=by
 refine F.okY ["_law_rows"] λcdv A' outer s H vs Q E hr nD0 h=>?_;obtain⟨l,rs,xs,rfl,g,d,hl,q⟩:=h;refine⟨_,@aC _ _ _ (@aQ _ _ _ _ (@bF _ _ _ _ _ _ _ _ _ (nF K) ⋯ T.ax4 AQ (@dY _ _ _ _ _ _ _ _ (@dC _ _ _ _ _ _ _ _ _ _ _ ["_law_row"] [] ⋯ (@bT _ K _ _ _ ‹33› ⋯) (λC s2 H2 ex=>(@bG _ _ (0) _ (show List.Nodup (["_law_row"]:Lu) by decide +kernel) ⋯ (Or.inl ⋯) ⋯)) (λC s2 H2 ex=>(@Do _)) (λC s2 H2 ex=>(@bA _ _ _ _ _ _ _ _ cU ‹48› (@bF _ _ _ _ _ _ _ _ _ (dD K) ⋯ T.ad1 fW (@aM _ _ _ _ _ _ _ (@cF _ _ _ _ _ _ _ (cS K) ‹33› ‹48› (λ_ _=>rfl)) (@aG _)) ⋯ ⋯ ⋯ ⋯))) ⋯ ⋯ ⋯ ⋯) (@aG _)) ⋯ ⋯ ⋯ ⋯)),?_⟩;have ln:=d.length;rw[length_map]at ln;refine⟨_,rfl,l,rfl,⟨_,SqL.of g⟩,?_⟩;refine c9 (bS (K:=K) (SqL.of g)) (le_trans (show _<=100000 by omega) (by decide)) (λi y _=>∃r,rs[i]? = some r/\y = .int (7+(r.2.2.length:Int))) (λ_ _ _ _ _ h=>h) (λσ=>∃z,σ = [z]) ⟨none,rfl⟩ ?_ ?_
 ·intro i x σc H3 hi hσ s3 hx Q' hQ';obtain⟨z,rfl⟩:=hσ;obtain⟨dd,hdd,dr⟩:=d.get hx;rw[getElem?_map]at hdd;cases e:rs[i]? with
  | none=>rw[e]at hdd; cases hdd
  | some r=>
   rw[e]at hdd;cases hdd;obtain⟨t,b,rfl,gt,gb⟩:=o6 dr;refine⟨_,rfl,t,_,_,.ref b,rfl,rfl,SqT.of (s3 _ _ gt),aT (by decide) rfl,b,_,rfl,.inr (SqT.of (s3 _ _ gb)),_,_,rfl,rfl,?_⟩;rw[length_map];exact hQ' _ _ _ ⟨_,rfl⟩ (aH.refl _) ⟨r,e,rfl⟩
 intro D ys H2 hD S2 gD hlen hR;have ey:ys=(rs.map λr=>7+(r.2.2.length:Int)).map V.int:=by
  apply ext_getElem?;intro j;cases ej:ys[j]? with
  | none=>
   have h1:=List.getElem?_eq_none_iff.mp ej;rw[List.getElem?_eq_none_iff.mpr];rw[length_map,length_map];omega
  | some y=>
   obtain⟨r,e1,rfl⟩:=hR j y ej;rw[getElem?_map,getElem?_map,e1];rfl
 subst ey;exact⟨D,_,rfl,.inl (SqL.of gD),q H2 S2⟩
def E1{f:Addr}{fd:Lx}(F:Fun K "_law_front_goes" "_law_front_goes" Ay f fd):‹14› 1 f fd ["_law_state"] qF:=by
 refine F.okY ["_law_state"] λcdv A' outer s H vs Q E hr nD0 h=>?_;obtain⟨S,M,r,rs,rfl,h,er,q⟩:=h;refine⟨_,@aA _ _ _ _ _ (@fS _ _ _ _ _ _ _ _ _ (hu1 hr.units) ‹33› ‹42› (@f9 _ _ _ _ _ _ _ _ _ _ (tV K) ‹23› (@gX _ _ _ ‹48›) (@jH _)) ⋯) (@aC _ _ _ (@zK _ _ _ _ _ _ _ _ _ _ _ (hu1 hr.units) ‹33› ‹42› ‹48› (@u6 _) (λ_ _ _=>⋯))),?_⟩;refine⟨_,rfl,S.ps,_,rfl,h.g_rows,_,rfl,S.pr,_,rfl,SqL.of h.rw,λp hp=>?_⟩;obtain⟨a0,as,eas⟩:∃a0 as,S.rs=a0::as:=by
  have:=h.rr.len;rw[er,length_cons]at this;exact List.exists_cons_of_length_eq_add_one this
 have ec:i8 (S.rs.map V.ref) (some 1) none=as.map V.ref:=by
  rw[yJ (by rw[eas,map_cons,length_cons]; omega),eas];rfl
 rw[ec];obtain⟨H1,eUU,s1,g1⟩:=gUU (o:=.lst (as.map V.ref)) hp;rw[eUU];have h1:=h.same s1;have np:=h.off hp;refine⟨_,rfl,S.ps,_,rfl,kP.k (k:=Sum.inr "rows") h1.st (by show 7<sizeLine; decide),?_⟩;have e2:eF (stK S M) (Sum.inr "rows") (.ref p)=stK { S with pr:=p,rs:=as } M:=rfl;rw[e2];have g2:upd H1 S.ps (.dK (stK { S with pr:=p,rs:=as } M)) S.ps=some (.dK (stK { S with pr:=p,rs:=as } M)):=aB;have st2:=bX h1 (b:=S.ps) (by unfold stL; simp) (.dK (stK { S with pr:=p,rs:=as } M));have k2:∀c o,H1 c=some o->c≠S.ps->upd H1 S.ps (.dK (stK { S with pr:=p,rs:=as } M)) c=some o:=λc o e n=>by rw[aF n]; exact e
 generalize upd H1 S.ps (.dK (stK { S with pr:=p,rs:=as } M))=H2 at g2 st2 k2 ⊢;refine⟨_,rfl,S.ps,_,rfl,cQ.k (k:=Sum.inr "first") g2,_,_,rfl,rfl,_,kP.k (k:=Sum.inr "first") g2 (by show 7<sizeLine; decide),?_⟩;have e3:eF (stK { S with pr:=p,rs:=as } M) (Sum.inr "first") (.int (M.first+1))=stK { S with pr:=p,rs:=as } { M with rows:=rs,first:=M.first+1 }:=rfl;rw[e3];have nd:=h.nd;unfold stL at nd;rw[eas]at nd;simp only[nodup_cons,mem_cons,not_or]at nd;obtain⟨⟨n01,n02,n03,n04,n05,n06⟩,⟨n12,n13,n14,n15,n16⟩,⟨n23,n24,n25,n26⟩,⟨n34,n35,n36⟩,⟨n45,n46⟩,n56,ndas⟩:=nd;unfold stL at np;rw[eas]at np;simp only[mem_cons,not_or]at np;obtain⟨p0,p1,p2,p3,p4,p5,p6⟩:=np;have k3:∀c o,H1 c=some o->c≠S.ps->upd H2 S.ps (.dK (stK { S with pr:=p,rs:=as } { M with rows:=rs,first:=M.first+1 })) c=some o:=λc o e n=>by rw[aF n]; exact k2 c o e n
 have t3:fR H1 (upd H2 S.ps (.dK (stK { S with pr:=p,rs:=as } { M with rows:=rs,first:=M.first+1 }))):=λb xs e=>k3 b _ e (λz=>by rw[z,h1.st]at e; cases e);obtain⟨kl,l1,l2⟩:=h1.ls;obtain⟨kh,l3,l4⟩:=h1.hs;have rr:=h1.rr;rw[er,eas]at rr;refine q { S with pr:=p,rs:=as } _ ⟨rfl,λb o e nb=>k3 b o (s1 _ _ e) (λz=>nb (by unfold stL; rw[z]; exact mem_cons_self)),λb hb=>?_,(aH.tup s1).trans t3⟩ ⟨aB,⟨kl,k3 _ _ l1 (λz=>n01 z.symm),l2.imp λa v=>pJ.t t3⟩,⟨kh,k3 _ _ l3 (λz=>n02 z.symm),l4.imp λa v=>pN.t t3⟩,k3 _ _ g1 p0,rr.2.keep t3 (λa ha o e=>k3 a o e (λz=>n06 (by rw[<- z]; exact ha))),k3 _ _ h1.wh (λz=>n04 z.symm),?_⟩
 ·have hb:b∈S.ps::S.pl::S.ph::p::S.pw::as:=hb;simp only[mem_cons]at hb;unfold stL;rw[eas];simp only[mem_cons];rcases hb with z | z | z | z | z | z
  ·exact .inl (.inl z)
  ·exact .inl (.inr (.inl z))
  ·exact .inl (.inr (.inr (.inl z)))
  ·exact .inr (by rw[z]; exact hp)
  ·exact .inl (.inr (.inr (.inr (.inr (.inl z)))))
  ·exact .inl (.inr (.inr (.inr (.inr (.inr (.inr z))))))
 ·show (S.ps::S.pl::S.ph::p::S.pw::as).Nodup;simp only[nodup_cons,mem_cons,not_or];exact⟨⟨n01,n02,λz=>p0 z.symm,n04,n06⟩,⟨n12,λz=>p1 z.symm,n14,n16⟩,⟨λz=>p2 z.symm,n24,n26⟩,⟨p4,p6⟩,n46,ndas⟩
end
structure Nds(S:Sl):Prop where
 ps:S.ps≠S.pl/\S.ps≠S.ph/\S.ps≠S.pr/\S.ps≠S.pw/\S.ps ∉ S.rs
 pl:S.pl≠S.ph/\S.pl≠S.pr/\S.pl≠S.pw/\S.pl ∉ S.rs
 ph:S.ph≠S.pr/\S.ph≠S.pw/\S.ph ∉ S.rs
 pr:S.pr≠S.pw/\S.pr ∉ S.rs
 pw:S.pw ∉ S.rs
 rs:S.rs.Nodup
def nds:(stL S).Nodup ↔ Nds S:=by
 unfold stL;simp only[nodup_cons,mem_cons,not_or];exact⟨λ⟨a,b,c,d,e,f⟩=>⟨a,b,c,d,e,f⟩,λ⟨a,b,c,d,e,f⟩=>⟨a,b,c,d,e,f⟩⟩
section
variable{H:Hp}{S:Sl}{M:Ms}
def LC:S.ps∈stL S:=mem_cons_self
def HD:S.pl∈stL S:=mem_cons_of_mem _ mem_cons_self
def JM:S.ph∈stL S:=mem_cons_of_mem _ (mem_cons_of_mem _ mem_cons_self)
def LD:S.pr∈stL S:=mem_cons_of_mem _ (mem_cons_of_mem _ (mem_cons_of_mem _ mem_cons_self))
def LB:S.pw∈stL S:=mem_cons_of_mem _ (mem_cons_of_mem _ (mem_cons_of_mem _ (mem_cons_of_mem _ mem_cons_self)))
def m_rs(h:a∈S.rs):a∈stL S:=mem_append_right [S.ps,S.pl,S.ph,S.pr,S.pw] h
def StAt.setF(h:StAt H S M)(M':Ms)(e1:M'.ls=M.ls)(e2:M'.hs=M.hs)(e3:M'.rows=M.rows)(e4:M'.wh=M.wh):StAt (upd H S.ps (.dK (stK S M'))) S M':=by
 have n:=nds.mp h.nd;have st:=bX h LC (.dK (stK S M'));obtain⟨kl,l1,l2⟩:=h.ls;obtain⟨kh,l3,l4⟩:=h.hs;refine⟨aB,⟨kl,by rw[aF n.ps.1.symm]; exact l1,by rw[e1]; exact l2.imp λa v=>pJ.t st.tup⟩,⟨kh,by rw[aF n.ps.2.1.symm]; exact l3,by rw[e2]; exact l4.imp λa v=>pN.t st.tup⟩,by rw[aF n.ps.2.2.1.symm]; exact h.rw,by rw[e3]; exact h.rr.keep st.tup (λa ha o e=>by rw[aF (λz=>n.ps.2.2.2.2 (by rw[<- z]; exact ha))]; exact e),by rw[aF n.ps.2.2.2.1.symm,e4]; exact h.wh,h.nd⟩
def StAt.setL(h:StAt H S M)(r:TR (pJ H) ls' kl'):StAt (upd H S.pl (.dK kl')) S { M with ls:=ls' }:=by
 have n:=nds.mp h.nd;have st:=bX h HD (.dK kl');obtain⟨kh,l3,l4⟩:=h.hs;exact⟨by rw[aF n.ps.1]; exact h.st,⟨kl',aB,r.imp λa v=>pJ.t st.tup⟩,⟨kh,by rw[aF n.pl.1.symm]; exact l3,l4.imp λa v=>pN.t st.tup⟩,by rw[aF n.pl.2.1.symm]; exact h.rw,h.rr.keep st.tup (λa ha o e=>by rw[aF (λz=>n.pl.2.2.2 (by rw[<- z]; exact ha))]; exact e),by rw[aF n.pl.2.2.1.symm]; exact h.wh,h.nd⟩
def StAt.setH(h:StAt H S M)(r:TR (pN H) hs' kh'):StAt (upd H S.ph (.dK kh')) S { M with hs:=hs' }:=by
 have n:=nds.mp h.nd;have st:=bX h JM (.dK kh');obtain⟨kl,l1,l2⟩:=h.ls;exact⟨by rw[aF n.ps.2.1]; exact h.st,⟨kl,by rw[aF n.pl.1]; exact l1,l2.imp λa v=>pJ.t st.tup⟩,⟨kh',aB,r.imp λa v=>pN.t st.tup⟩,by rw[aF n.ph.1.symm]; exact h.rw,h.rr.keep st.tup (λa ha o e=>by rw[aF (λz=>n.ph.2.2 (by rw[<- z]; exact ha))]; exact e),by rw[aF n.ph.2.1.symm]; exact h.wh,h.nd⟩
def StAt.setW(h:StAt H S M)(wh':List (Int × Int)):StAt (upd H S.pw (.dK (wsK wh'))) S { M with wh:=wh' }:=by
 have n:=nds.mp h.nd;have st:=bX h LB (.dK (wsK wh'));obtain⟨kl,l1,l2⟩:=h.ls;obtain⟨kh,l3,l4⟩:=h.hs;exact⟨by rw[aF n.ps.2.2.2.1]; exact h.st,⟨kl,by rw[aF n.pl.2.2.1]; exact l1,l2.imp λa v=>pJ.t st.tup⟩,⟨kh,by rw[aF n.ph.2.1]; exact l3,l4.imp λa v=>pN.t st.tup⟩,by rw[aF n.pr.1]; exact h.rw,h.rr.keep st.tup (λa ha o e=>by rw[aF (λz=>n.pw (by rw[<- z]; exact ha))]; exact e),aB,h.nd⟩
def StAt.addSeg(h:StAt H S M)(g:H pg=some (.lst xs))(d:aP H (r.map cC) xs)(np:pg ∉ stL S):StAt (upd H S.pr (.lst ((S.rs++[pg]).map V.ref))) { S with rs:=S.rs++[pg] } { M with rows:=M.rows++[r] }:=by
 have n:=nds.mp h.nd;have st:=bX h LD (.lst ((S.rs++[pg]).map V.ref));obtain⟨kl,l1,l2⟩:=h.ls;obtain⟨kh,l3,l4⟩:=h.hs;have np':=np;unfold stL at np';simp only[mem_cons,not_or]at np';obtain⟨p1,p2,p3,p4,p5,p6⟩:=np';refine⟨by rw[aF n.ps.2.2.1]; exact h.st,⟨kl,by rw[aF n.pl.2.1]; exact l1,l2.imp λa v=>pJ.t st.tup⟩,⟨kh,by rw[aF n.ph.1]; exact l3,l4.imp λa v=>pN.t st.tup⟩,aB,RsR.snoc (by rw[aF p4]; exact g) (fN st.tup (kC _) d) (h.rr.keep st.tup (λa ha o e=>by rw[aF (λz=>n.pr.2 (by rw[<- z]; exact ha))]; exact e)),by rw[aF n.pr.1.symm]; exact h.wh,nds.mpr ?_⟩;have ap:∀{x:Addr},x ∉ S.rs->pg≠x->x ∉ S.rs++[pg]:=λa b z=>by
  rw[mem_append,mem_singleton]at z;exact z.elim a (λy=>b y.symm)
 refine⟨⟨n.ps.1,n.ps.2.1,n.ps.2.2.1,n.ps.2.2.2.1,ap n.ps.2.2.2.2 p1⟩,⟨n.pl.1,n.pl.2.1,n.pl.2.2.1,ap n.pl.2.2.2 p2⟩,⟨n.ph.1,n.ph.2.1,ap n.ph.2.2 p3⟩,⟨n.pr.1,ap n.pr.2 p4⟩,ap n.pw p5,?_⟩;rw[nodup_append];refine⟨n.rs,by simp,λa ha b hb=>?_⟩;rw[mem_singleton.mp hb];exact λz=>p6 (by rw[<- z]; exact ha)
def StAt.addRow(h:StAt H S M)(eM:M.rows=rows0++[r0])(eS:S.rs=as++[a])(hr:RsR H rows0 as)(ga:H a=some (.lst xs0))(d0:aP H (r0.map cC) xs0)(dv:Den H (cC r) v):StAt (upd H a (.lst (xs0++[v]))) S { M with rows:=rows0++[r0++[r]] }:=by
 have n:=nds.mp h.nd;have ma:a∈S.rs:=by rw[eS]; exact mem_append_right _ (mem_singleton.mpr rfl)
 have st:=bX h (m_rs ma) (.lst (xs0++[v]));obtain⟨kl,l1,l2⟩:=h.ls;obtain⟨kh,l3,l4⟩:=h.hs;have na:∀{x:Addr},x ∉ S.rs->x≠a:=λhx z=>hx (by rw[z]; exact ma);have nas:∀x∈as,x≠a:=λx hx z=>by
  have:=n.rs;rw[eS,nodup_append]at this;exact this.2.2 x hx a (mem_singleton.mpr rfl) z
 refine⟨by rw[aF (na n.ps.2.2.2.2)]; exact h.st,⟨kl,by rw[aF (na n.pl.2.2.2)]; exact l1,l2.imp λa v=>pJ.t st.tup⟩,⟨kh,by rw[aF (na n.ph.2.2)]; exact l3,l4.imp λa v=>pN.t st.tup⟩,by rw[aF (na n.pr.2)]; exact h.rw,?_,by rw[aF (na n.pw)]; exact h.wh,h.nd⟩;rw[eS];refine RsR.snoc aB ?_ (hr.keep st.tup λx hx o e=>by rw[aF (nas x hx)]; exact e);rw[map_append];exact(fN st.tup (kC _) d0).app (i6 (yF st.tup (lD _ _ _) dv))
end
abbrev At:Stmt:=top 76
def jJ(M:Ms):L8:=M.rows.getLastD []
def dR(M:Ms)(most:Int):Ms:=if most<=GH (jJ M) then { M with rows:=M.rows++[([("from",M.after,[])]:L8)] } else M
def sB(k:Str):Bool:=inV (.str k) [V.str "put",.str "part",.str "carried"]
def eZ(M:Ms)(r:Rw):Ms:={ M with rows:=M.rows.dropLast++[jJ M++[r]],wh:=if sB r.1=true then rY M.wh r.2.1 (M.first+(M.rows.length:Int) - 1) else M.wh }
def eI(M:Ms)(rs:L8)(most:Int):Ms:=rs.foldl eZ (dR M most)
inductive jY(vs:L6)(H:Hp)(Q:VK)(x_3:XK):Prop
 | mk:∀(S:Sl)(M:Ms)(l:Addr)(rs:L8)(xs:L6)(most:Int)(n:Nat),vs=[.ref S.ps,.ref l,.int most]->StAt H S M->M.rows≠[]->M.rows.length<=n->(∀s∈M.rows,s.length<=n)->n+rs.length<=90000->M.wh.length+rs.length<=90000->H l=some (.lst xs)->l ∉ stL S->aP H (rs.map cC) xs->(∀S' H',StepS S S' H H'->StAt H' S' (eI M rs most)->Q .non H')->jY vs H Q x_3
def lK{α : Type}{l:List α}(h:l≠[])(d:α):l=l.dropLast++[l.getLastD d]:=by
 obtain⟨a,x,rfl⟩:∃a x,l=a++[x]:=⟨l.dropLast,l.getLast h,(List.dropLast_concat_getLast h).symm⟩;rw[List.dropLast_concat,List.getLastD_concat]
def Du(h1:M.rows≠[])(h2:M.rows.length<=n)(h3:∀s∈M.rows,s.length<=n):(dR M most).rows≠[]/\(dR M most).rows.length<=n+1/\(∀s∈(dR M most).rows,s.length<=n+1)/\(dR M most).wh=M.wh:=by
 unfold dR;split
 ·refine⟨by simp,by rw[length_append]; show M.rows.length+1<=_; omega,λs hs=>?_,rfl⟩;rcases mem_append.mp hs with z | z
  ·have:=h3 s z;omega
  ·rw[mem_singleton.mp z];show 1<=n+1;omega
 ·exact⟨h1,by omega,λs hs=>by have:=h3 s hs; omega,rfl⟩
def vO(M:Ms)(r:Rw)(h:M.rows≠[]):(eZ M r).rows≠[]/\(eZ M r).rows.length=M.rows.length/\(eZ M r).wh.length<=M.wh.length+1/\∀n,(∀s∈M.rows,s.length<=n)->∀s∈(eZ M r).rows,s.length<=n+1:=by
 have e:=lK h [];refine⟨by unfold eZ; simp,?_,?_,λn hn s hs=>?_⟩
 ·show (M.rows.dropLast++[jJ M++[r]]).length=_;have:=congrArg List.length e;rw[length_append]at this;rw[length_append];show M.rows.dropLast.length+1=_;exact this.symm
 ·unfold eZ;show (if sB r.1=true then rY M.wh r.2.1 (M.first+(M.rows.length:Int) - 1) else M.wh).length<=_;split
  ·unfold rY;split
   ·rw[length_map]; omega
   ·rw[length_append]; exact le_refl _
  ·omega
 ·have hs:s∈M.rows.dropLast++[jJ M++[r]]:=hs;rcases mem_append.mp hs with z | z
  ·have:=hn s (by rw[e]; exact mem_append_left _ z);omega
  ·rw[mem_singleton.mp z,length_append];have:=hn (jJ M) (by rw[e]; exact mem_append_right _ (mem_singleton.mpr rfl));show (jJ M).length+1<=_;omega
section
variable{P:Program}{w:World}{K:Ln}{mg:Lp}{base:Heap}{A:Ad}
def Eu(F:Fun K "_law_write" "_law_write" At f fd)(T:‹3›)(ao7:‹15› "_law_size" 1 ["_law_rows"] tK):‹14› 2 f fd ["_law_state","_law_rows","_law_most"] jY:=by
 refine F.okY ["_law_state","_law_rows","_law_most","_law_row"] λcdv A' outer s H vs Q E hr nD0 h=>?_;obtain⟨S,M,l,rs,xs,most,n,rfl,h,hne,hrl,hsl,hn,hw,gl,nl,dl,q⟩:=h;refine⟨_,aA (a8 (aR Gs (bC ao7 ‹18› aZ (aM (cF (cK K) ‹21› (BC sX aI) (λ_ _=>rfl)) aG)) (pv 2) (bD _))
   (aC (aY (iD K PySem.F.plainAttrs_list PySem.F.slot_list_append PySem.F.type_list_append iP ‹21› (fH (cD (bV (bE (aN bH (aM ‹21› ‹46›))) aG)) aG))))
   aO)
  (aC (fZ (lW eJ) ⋯ (bT K (pv 1)) ‹53›
   (aA (aY (iD K PySem.F.plainAttrs_list PySem.F.slot_list_append PySem.F.type_list_append iP (cF (cK K) ‹21› (BC sX aI) (λ_ _=>rfl)) ‹47›))
   (aC (a8 (aR (Ca K) ‹36› (bE ‹87›) ⋯)
    (aC (fS (hu1 hr.units) ‹21› ‹36› (bA i4 (bA cU ‹21› (bF (dD K) ⋯ T.ad1 fW ‹89›)) aI) ⋯))
    aO))))),?_⟩
 obtain⟨rows0,erows⟩:∃rows0,rows0=M.rows.dropLast:=⟨_,rfl⟩;have eM:M.rows=rows0++[jJ M]:=by rw[erows]; exact lK hne []
 obtain⟨as,a,xs0,eS,hr0,ga,d0⟩:=RsR.split (by rw[<- eM]; exact h.rr);have lrn:(jJ M).length<=n:=hsl _ (by rw[eM]; exact mem_append_right _ (mem_singleton.mpr rfl));obtain⟨o1,o2,o3,o4⟩:=Du (most:=most) hne hrl hsl;refine Ai (λσ' H'=>∃S1,σ'=[some (.ref S.ps),some (.ref l),some (.int most),none]/\StepS S S1 H H'/\StAt H' S1 (dR M most)/\H' l=some (.lst xs)/\l ∉ stL S1/\aP H' (rs.map cC) xs) (λnx hnx=>?_) ?_
 ·refine⟨_,rfl,S.ps,_,rfl,h.g_rows,1,rfl,S.pr,_,_,.ref a,rfl,rfl,SqL.of h.rw,(by rw[eS,map_append]; exact B5 _ _),a,jJ M,xs0,rfl,ga,d0,by omega,λH1 s1=>?_⟩;have h1:=h.same s1;refine⟨_,rfl,_,_,rfl,rfl,_,rfl,?_⟩;by_cases hm:most<=GH (jJ M)
  ·rw[decide_eq_true hm];refine aU ⟨_,rfl,S.ps,_,rfl,h1.g_rows,.inl ⟨rfl,_,SqL.of h1.rw⟩,_,rfl,S.ps,_,rfl,h1.g_after,aJ,λpe hpe=>⟨aJ,λpt hpt=>⟨aJ,λpg hpg=>?_⟩⟩⟩;obtain⟨H2,eUU,v1,w1⟩:=gUU (o:=.tup []) hpe;rw[eUU]at hpt hpg ⊢;obtain⟨H3,eUU,v2,w2⟩:=gUU (o:=.tup [.str "from",.int M.after,.ref pe]) hpt;rw[eUU]at hpg ⊢;have v3:=aD (o:=.lst [.ref pt]) hpg;have w3:upd H3 pg (.lst [.ref pt]) pg=some (.lst [.ref pt]):=aB;have h3:=h1.same (v1.trans v2);have np:=h3.off hpg;generalize upd H3 pg (.lst [.ref pt])=H4 at v3 w3 ⊢;have s4:=s1.trans (v1.trans (v2.trans v3));have h4:=h.same s4;have dg:aP H4 (([("from",M.after,[])]:L8).map cC) [.ref pt]:=by
    show aP _ [cC ("from",M.after,[])] [.ref pt];unfold cC fM;simp only[Den,aP,map_nil];exact⟨_,_,rfl,⟨pt,_,rfl,v3 _ _ w2,_,_,rfl,rfl,_,_,rfl,rfl,_,_,rfl,⟨pe,_,rfl,v3 _ _ (v2 _ _ w1),rfl⟩,rfl⟩,rfl⟩
   refine⟨S.pr,_,.ref pg,rfl,rfl,h4.rw,?_,?_⟩
   ·rw[length_map,h4.rr.len];exact lt_of_le_of_lt (show _<=90000 by omega) (by decide)
   rw[show S.rs.map V.ref++[.ref pg]=(S.rs++[pg]).map V.ref by rw[map_append]; rfl];have h5:=h4.addSeg w3 dg np;have st5:=bX h4 LD (.lst ((S.rs++[pg]).map V.ref));have nlp:l≠S.pr:=λz=>nl (by rw[z]; exact LD);refine hnx _ _ ⟨{ S with rs:=S.rs++[pg] },rfl,⟨rfl,λb o e nb=>st5.frm b o (s4 _ _ e) nb,λb hb=>?_,(aH.tup s4).trans st5.tup⟩,?_,by rw[aF nlp]; exact s4 _ _ gl,λz=>?_,fN ((aH.tup s4).trans st5.tup) (kC _) dl⟩
   ·have hb:b∈[S.ps,S.pl,S.ph,S.pr,S.pw]++(S.rs++[pg]):=hb;rw[<- append_assoc,mem_append,mem_singleton]at hb;rcases hb with z | z
    ·exact .inl z
    ·rw[z];exact .inr ((s1.trans (v1.trans v2)).free hpg)
   ·unfold dR;rw[if_pos hm];exact h5
   ·have hb:l∈[S.ps,S.pl,S.ph,S.pr,S.pw]++(S.rs++[pg]):=z;rw[<- append_assoc,mem_append,mem_singleton]at hb;rcases hb with z | z
    ·exact nl z
    ·rw[z]at gl;rw[(s1.trans (v1.trans v2)) _ _ gl]at hpg;cases hpg
  ·rw[decide_eq_false hm];refine bB (hnx _ _ ⟨S,rfl,aH.stepS s1,?_,s1 _ _ gl,nl,dl.same s1⟩);unfold dR;rw[if_neg hm];exact h1
 rintro σ' H1 ⟨S1,rfl,st1,h1,gl1,nl1,dl1⟩;have ln:=dl1.length;rw[length_map]at ln;obtain⟨M1,eM1⟩:∃M1,M1=dR M most:=⟨_,rfl⟩;rw[<- eM1]at h1 o1 o2 o3 o4;refine⟨_,rfl,l,rfl,⟨_,SqL.of gl1⟩,?_⟩;refine mM (bS (K:=K) (H:=upd (λ_=>none) l (.lst xs)) (SqL.of aB)) (λi σ H'=>∃z3,σ = [some (.ref S.ps),some (.ref l),some (.int most),z3]/\StepS S1 S1 H1 H'/\StAt H' S1 ((rs.take i).foldl eZ M1)/\((rs.take i).foldl eZ M1).rows≠[]/\((rs.take i).foldl eZ M1).rows.length=M1.rows.length/\((rs.take i).foldl eZ M1).wh.length<=M.wh.length+i/\(∀s∈((rs.take i).foldl eZ M1).rows,s.length<=n+1+i)) ⟨none,rfl,aH.stepS (aH.refl _),h1,o1,rfl,by rw[<- o4]; exact le_refl _,o3⟩ (λi σ H' hh b o e=>?_) ?_ ?_
 ·obtain⟨_,_,st,_⟩:=hh;by_cases y:b=l
  ·subst y;rw[aB]at e;injection e with e
   rw[<- e];exact st.frm _ _ gl1 nl1
  ·rw[aF y]at e;cases e
 ·rintro D' i x σ H5 H6 hD' - hi ⟨z3,rfl,st,hi5,ne5,rl5,wl5,sl5⟩ s6 hx;have hx:xs[i]? = some x:=hx;have hi:i<xs.length:=hi;have st6:=st.trans (aH.stepS s6);obtain⟨dd,hdd,dr⟩:=(fN st6.tup (kC _) dl1).get hx;rw[getElem?_map]at hdd;obtain⟨r,er⟩:∃r,rs[i]? = some r:=⟨_,getElem?_eq_getElem (by omega)⟩;rw[er]at hdd;cases hdd;obtain⟨t,bb,rfl,gt,gb⟩:=o6 dr;have tk:(rs.take (i+1)).foldl eZ M1=eZ ((rs.take i).foldl eZ M1) r:=by
   rw[take_succ,er];show ((rs.take i++[r]).foldl eZ M1)=_;rw[List.foldl_append];rfl
  have h6:=hi5.same s6;obtain⟨Mi,eMi⟩:∃Mi,Mi=(rs.take i).foldl eZ M1:=⟨_,rfl⟩;rw[<- eMi]at h6 ne5 rl5 wl5 sl5 tk;have eMr:Mi.rows=Mi.rows.dropLast++[jJ Mi]:=lK ne5 [];obtain⟨as6,a6,xs6,eS6,hr6,ga6,d6⟩:=RsR.split (by rw[<- eMr]; exact h6.rr);have lrn6:(jJ Mi).length<=n+1+i:=sl5 _ (by rw[eMr]; exact mem_append_right _ (mem_singleton.mpr rfl));have l6:=d6.length;rw[length_map]at l6;refine⟨_,rfl,S1.ps,_,(by rw[st1.ps]),h6.g_rows,1,rfl,S1.pr,_,_,.ref a6,rfl,rfl,SqL.of h6.rw,(by rw[eS6,map_append]; exact B5 _ _),.inl ⟨rfl,_,SqL.of ga6⟩,_,rfl,a6,xs6,.ref t,rfl,rfl,ga6,lt_of_le_of_lt (show _<=200000 by omega) (by decide),?_⟩;have h7:=h6.addRow (v:=.ref t) (r:=r) eMr eS6 hr6 ga6 d6 dr;have st7:=bX h6 (m_rs (by rw[eS6]; exact mem_append_right _ (mem_singleton.mpr rfl))) (.lst (xs6++[.ref t]));generalize upd H6 a6 (.lst (xs6++[.ref t]))=H7 at h7 st7 ⊢;have gt7:=st7.tup _ _ gt;refine⟨_,rfl,t,_,_,.str r.1,rfl,rfl,SqT.of gt7,aT (by decide) rfl,aJ,new_o λpk H8 v8 w8=>?_⟩;have h8:=h7.same v8;have st8:=st6.trans (st7.trans (aH.stepS v8));obtain⟨b1,b2,b3,b4⟩:=vO Mi r ne5;refine⟨pk,_,rfl,.inr (SqT.of w8),rfl,rfl,_,rfl,?_⟩;show if sB r.1=true then _ else _
  cases hb:sB r.1 with
  | true=>
   refine aU ⟨_,rfl,S1.ps,_,(by rw[st1.ps]),h8.g_first,_,rfl,S1.ps,_,(by rw[st1.ps]),h8.g_rows,S1.pr,_,rfl,.inl (SqL.of h8.rw),_,_,rfl,rfl,_,_,rfl,rfl,_,rfl,S1.ps,_,(by rw[st1.ps]),h8.g_where,_,rfl,t,_,_,.int r.2.1,rfl,rfl,SqT.of (v8 _ _ gt7),aT (by decide) rfl,S1.pw,_,rfl,kP.k (k:=Sum.inl r.2.1) h8.wh ?_,?_⟩
   ·unfold wsK;rw[length_map];exact lt_of_le_of_lt (show Mi.wh.length<=90000 by omega) (by decide)
   have el:((S1.rs.map V.ref).length:Int)=(Mi.rows.length:Int):=by rw[length_map,h6.rr.len]
   rw[el,IG];have h9:=h8.setW (rY Mi.wh r.2.1 (Mi.first+(Mi.rows.length:Int) - 1));have st9:=bX h8 LB (.dK (wsK (rY Mi.wh r.2.1 (Mi.first+(Mi.rows.length:Int) - 1))));refine hD' _ _ ⟨_,rfl,st8.trans st9,?_,by rw[tk]; exact b1,by rw[tk,b2]; exact rl5,by rw[tk]; omega,by rw[tk]; exact λs hs=>b4 _ sl5 s hs⟩;rw[tk];unfold eZ;rw[if_pos hb];exact h9
  | false=>
   refine bB (hD' _ _ ⟨_,rfl,st8,?_,by rw[tk]; exact b1,by rw[tk,b2]; exact rl5,by rw[tk]; omega,by rw[tk]; exact λs hs=>b4 _ sl5 s hs⟩);rw[tk];unfold eZ;rw[if_neg (by rw[hb]; decide)];exact h8
 rintro σ H5 ⟨z3,rfl,st,h5,_⟩;rw[ln,take_length,eM1]at h5;exact q S1 H5 (st1.trans st) h5
end
abbrev La:=List (Int × (Ls × Int))
def HF(ls:La)(n:Int):Option (Ls × Int):=(ls.find? λp=>decide (p.1=n)).map (·.2)
abbrev Au:Stmt:=top 77
abbrev GQ:Stmt:=top 78
def rC(M:Ms):Ls:=(M.ls.map (·.1)).filter λn=>decide (n ∉ M.hs.map (·.1))
def CI(ls:La)(n:Int):Int:=((HF ls n).getD ([],0)).2
def jS(M:Ms)(tries:Int):Ls:=(rC M).filter λn=>decide (CI M.ls n<tries)
def Dz:∀{ls:La}{n:Int}{a:Ls × Int},(ls.map (·.1)).Nodup->(n,a)∈ls->HF ls n=some a
 | [],_,_,_,h=>by cases h
 | p::ls,n,a,nd,h=>by
  rw[map_cons,nodup_cons]at nd;unfold HF;rw[find?_cons];rcases mem_cons.mp h with y | y
  ·rw[<- y,decide_eq_true rfl];rfl
  ·rw[decide_eq_false (λz=>nd.1 (by rw[z]; exact mem_map_of_mem (f:=(·.1)) y))];exact Dz nd.2 y
inductive qB(vs:L6)(H:Hp)(Q:VK)(x_3:XK):Prop
 | mk:∀(S:Sl)(M:Ms)(tries:Int),vs=[.ref S.ps,.int tries]->StAt H S M->(M.ls.map (·.1)).Pairwise (· < ·)->M.ls.length<=1000->(∀p p1 p2 H',aH H H'->H' p=some (.tup [.ref p1,.ref p2])->H' p1=some (.lst ((jS M tries).map V.int))->H' p2=some (.lst (((rC M).filter λn=>decide (n ∉ jS M tries)).map V.int))->H p1=none->H p2=none->Q (.ref p) H')->qB vs H Q x_3
def gJ(M:Ms)(b:Ls):Ms:={ M with ls:=iI M.ls M.after (b,0),after:=M.after+1 }
def CV(M:Ms)(bss:Lq)(rs:L8)(most:Int):Ms:=bss.foldl gJ (eI M rs most)
inductive zA(vs:L6)(H:Hp)(Q:VK)(x_3:XK):Prop
 | mk:∀(S:Sl)(M:Ms)(ab l:Addr)(bss:Lq)(ys:L6)(rs:L8)(xs:L6)(most:Int)(n:Nat),vs=[.ref S.ps,.ref ab,.int most,.ref l]->StAt H S M->M.rows≠[]->M.rows.length<=n->(∀s∈M.rows,s.length<=n)->n+rs.length<=90000->M.wh.length+rs.length<=90000->H l=some (.lst xs)->l ∉ stL S->aP H (rs.map cC) xs->(H ab=some (.lst ys)\/H ab=some (.tup ys))->ab ∉ stL S->aP H (dZ bss) ys->M.ls.length+bss.length<=90000->(∀S' H',StepS S S' H H'->StAt H' S' (CV M bss rs most)->Q .non H')->zA vs H Q x_3
def AV:∀(rs:L8)(M:Ms),(rs.foldl eZ M).ls=M.ls/\(rs.foldl eZ M).hs=M.hs/\(rs.foldl eZ M).after=M.after/\(rs.foldl eZ M).time=M.time/\(rs.foldl eZ M).first=M.first
 | [],M=>⟨rfl,rfl,rfl,rfl,rfl⟩
 | r::rs,M=>AV rs (eZ M r)
def Iw(M:Ms)(most:Int):(dR M most).ls=M.ls/\(dR M most).hs=M.hs/\(dR M most).after=M.after/\(dR M most).time=M.time/\(dR M most).first=M.first:=by
 unfold dR;split <;> exact⟨rfl,rfl,rfl,rfl,rfl⟩
def fX(M:Ms)(rs:L8)(most:Int):(eI M rs most).ls=M.ls/\(eI M rs most).hs=M.hs/\(eI M rs most).after=M.after/\(eI M rs most).time=M.time/\(eI M rs most).first=M.first:=by
 obtain⟨a,b,c,d,e⟩:=AV rs (dR M most);obtain⟨a',b',c',d',e'⟩:=Iw M most;exact⟨a.trans a',b.trans b',c.trans c',d.trans d',e.trans e'⟩
def B3:∀(bss:Lq)(M:Ms),(bss.foldl gJ M).ls.length<=M.ls.length+bss.length
 | [],M=>le_refl _
 | b::bss,M=>by
  have h:=B3 bss (gJ M b);have:(gJ M b).ls.length<=M.ls.length+1:=by
   show (iI M.ls M.after (b,0)).length<=_;unfold iI;split
   ·rw[length_map]; omega
   ·rw[length_append]; exact le_refl _
  rw[length_cons];show (bss.foldl gJ (gJ M b)).ls.length<=_;omega
section
variable{P:Program}{w:World}{K:Ln}{mg:Lp}{base:Heap}{A:Ad}
def Ew(F:Fun K "_law_ready" "_law_ready" Au f fd)(T:‹3›):‹14› 1 f fd ["_law_state","_law_tries"] qB:=by
 refine F.okY ["_law_state","_law_tries","_law_some","_law_ready_here"] λcdv A' outer s H vs Q E hr nD0 h=>?_;obtain⟨S,M,tries,rfl,h,so,hl,q⟩:=h;refine⟨_,aA (lG (i:=2) ["_law_number"] [("_law_state",0)] nD0 ⋯ ⋯ ⋯ (bT K (bF (gI ⋯) ⋯ T.ae5 gS ‹89›)) (λC s2 H2 ex=>(bG (i:=0) ‹50› ⋯ (Or.inl ⋯))) (λC s2 H2 ex=>(gY (nY (m6 (hu1 hr.units) (pv 0) ‹60›)))) ‹66›)
  (aA (aX (i:=3) nD0 ⋯ ⋯ (dC ["_law_number"] [("_law_state",0),("_law_tries",1)] ⋯ (bT K (pv 2)) (λC s2 H2 ex=>(bG (i:=0) (show List.Nodup (["_law_number","_law_state","_law_tries"]:Lu) by decide +kernel) ⋯ (Or.inl ⋯))) (λC s2 H2 ex=>(gY (aR uR (cF (cS K) (dX (hu1 hr.units) ‹60› (pv 0) (λ_ _=>rfl)) aI (λ_ _=>rfl)) (pv 2) (bD _)))) ‹66›))
  (aC (aQ (bE (aE (pv 3) (dY (dC ["_law_number"] [("_law_ready_here",3)] ⋯ (bT K (pv 2)) (λC s2 H2 ex=>(bG (i:=0) (show List.Nodup (["_law_number","_law_ready_here"]:Lu) by decide +kernel) ⋯ (Or.inl ⋯))) (λC s2 H2 ex=>(gY (aR (kH K) (pv 0) (pv 1) ⋯))) ‹66›) aG)))))),?_⟩
 obtain⟨kl,l1,l2⟩:=h.ls;obtain⟨kh,l3,l4⟩:=h.hs;refine⟨_,rfl,S.ps,_,rfl,h.g_letters,S.pl,kl,M.ls.map (·.1),rfl,l1,l2.keys,.inr (so.imp Int.le_of_lt),by rw[length_map]; omega,λp ms perm pw hp=>?_⟩;have em:ms=M.ls.map (·.1):=dM perm pw (so.imp Int.le_of_lt);subst em;obtain⟨H1,eUU,s1,g1⟩:=gUU (o:=.lst ((M.ls.map (·.1)).map V.int)) hp;rw[eUU];obtain⟨ks,eks⟩:∃ks,ks=M.ls.map (·.1):=⟨_,rfl⟩;have lk:ks.length<=1000:=by rw[eks,length_map]; exact hl
 rw[<- eks]at g1;have esm:rC M=ks.filter λn=>decide (n ∉ M.hs.map (·.1)):=by rw[eks]; rfl
 refine⟨p,rfl,⟨_,SqL.of g1⟩,?_⟩;refine fQ (bS (K:=K) (SqL.of g1)) (by rw[length_map]; exact le_trans lk (by decide)) (λj=>decide (ks.getD j 0 ∉ M.hs.map (·.1))) (λj=>V.int (ks.getD j 0)) (λσ=>∃z,σ = [z,some (.ref S.ps)]) ⟨none,rfl⟩ ?_ ?_
 ·intro j x σc H3 hj hσ s3 hx Q1 Q2 Q3 h2' h3';obtain⟨z,rfl⟩:=hσ;rw[getElem?_map]at hx;cases e:ks[j]? with
  | none=>rw[e]at hx; cases hx
  | some n=>
   rw[e]at hx;cases hx;have eg:ks.getD j 0=n:=by rw[getD_eq_getElem?_getD,e]; rfl
   rw[eg]at h2' h3';have hs3:=h.same (s1.trans s3);have dg:=cQ.k (k:=Sum.inl n) ((s1.trans s3) _ _ l3);refine⟨_,rfl,_,rfl,S.ps,_,rfl,hs3.g_hands,S.ph,_,rfl,dg,_,rfl,?_⟩;by_cases hn:n∈M.hs.map (·.1)
   ·obtain⟨a,v,_,ev,_⟩:=l4.look hn;rw[ev];exact bB (h3' _ ⟨_,rfl⟩ (decide_eq_false (λz=>z hn)))
   ·rw[(l4.no hn).1];exact aU ⟨_,rfl,h2' _ ⟨_,rfl⟩ (decide_eq_true hn)⟩
 intro ps2 H2 hps2 s2 g2;rw[length_map,gE ks (λn=>decide (n ∉ M.hs.map (·.1))),<- esm]at g2;obtain⟨sm,hsm⟩:∃sm,sm=rC M:=⟨_,rfl⟩;rw[<- hsm]at g2 q;have smk:∀n∈sm,n∈M.ls.map (·.1):=λn hn=>by
  rw[hsm]at hn;exact(mem_filter.mp hn).1
 have sml:sm.length<=1000:=by
  rw[hsm,esm];exact le_trans (length_filter_le _ _) lk
 have S2:=s1.trans s2;obtain⟨tm,etm⟩:∃tm,tm=CI M.ls:=⟨_,rfl⟩;have htm:∀n:Int,n∈M.ls.map (·.1)->∃t b,dE kl (Sum.inl n)=some (.ref t)/\H t=some (.tup [.ref b,.int (tm n)]):=λn hn=>by
  obtain⟨a,v,ha,ev,t,b,e1,e2,_⟩:=l2.look hn;have nd:(M.ls.map (·.1)).Nodup:=so.imp λa b=>by omega
  have:tm n=a.2:=by
   rw[etm];unfold CI;rw[Dz nd ha];rfl
  exact⟨t,b,by rw[ev,e1],by rw[this]; exact e2⟩
 refine⟨_,rfl,ps2,rfl,⟨_,SqL.of g2⟩,?_⟩;refine fQ (bS (K:=K) (SqL.of g2)) (by rw[length_map]; exact le_trans sml (by decide)) (λj=>decide (tm (sm.getD j 0)<tries)) (λj=>V.int (sm.getD j 0)) (λσ=>∃z,σ = [z,some (.ref S.ps),some (.int tries)]) ⟨none,rfl⟩ ?_ ?_
 ·intro j x σc H3 hj hσ s3 hx Q1 Q2 Q3 h2' h3';obtain⟨z,rfl⟩:=hσ;rw[getElem?_map]at hx;cases e:sm[j]? with
  | none=>rw[e]at hx; cases hx
  | some n=>
   rw[e]at hx;cases hx;have eg:sm.getD j 0=n:=by rw[getD_eq_getElem?_getD,e]; rfl
   rw[eg]at h2' h3';have hs3:=h.same (S2.trans s3);obtain⟨t,b,ev,gt⟩:=htm n (smk n (mem_of_getElem? e));have dg:=cQ.k (k:=Sum.inl n) ((S2.trans s3) _ _ l1);rw[ev]at dg;refine⟨_,rfl,S.ps,_,rfl,hs3.g_letters,_,rfl,S.pl,_,rfl,dg,t,_,_,.int (tm n),rfl,rfl,SqT.of ((S2.trans s3) _ _ gt),aT (by decide) rfl,_,rfl,_,_,rfl,rfl,_,rfl,?_⟩;by_cases hn:tm n<tries
   ·rw[decide_eq_true hn];exact aU ⟨_,rfl,h2' _ ⟨_,rfl⟩ (decide_eq_true hn)⟩
   ·rw[decide_eq_false hn];exact bB (h3' _ ⟨_,rfl⟩ (decide_eq_false hn))
 intro pr3 H3 hpr3 s3 g3;rw[length_map,gE sm (λn=>decide (tm n<tries))]at g3;have S3:=S2.trans s3;refine⟨_,rfl,_,rfl,ps2,rfl,⟨_,SqL.of (s3 _ _ g2)⟩,?_⟩;obtain⟨rd,erd⟩:∃rd,rd=sm.filter (λn=>decide (tm n<tries)):=⟨_,rfl⟩;rw[<- erd]at g3;refine fQ (bS (K:=K) (SqL.of (s3 _ _ g2))) (by rw[length_map]; exact le_trans sml (by decide)) (λj=>decide (sm.getD j 0 ∉ rd)) (λj=>V.int (sm.getD j 0)) (λσ=>∃z,σ = [z,some (.ref pr3)]) ⟨none,rfl⟩ ?_ ?_
 ·intro j x σc H4 hj hσ s4 hx Q1 Q2 Q3 h2' h3';obtain⟨z,rfl⟩:=hσ;rw[getElem?_map]at hx;cases e:sm[j]? with
  | none=>rw[e]at hx; cases hx
  | some n=>
   rw[e]at hx;cases hx;have eg:sm.getD j 0=n:=by rw[getD_eq_getElem?_getD,e]; rfl
   rw[eg]at h2' h3';refine⟨_,rfl,_,rfl,pr3,_,rfl,.inl (SqL.of (s4 _ _ g3)),rfl,nE _,_,rfl,?_⟩;rw[if_pos rfl,pK];by_cases hn:n∈rd
   ·rw[decide_eq_true hn];exact bB (h3' _ ⟨_,rfl⟩ (decide_eq_false (λz=>z hn)))
   ·rw[decide_eq_false hn];exact aU ⟨_,rfl,h2' _ ⟨_,rfl⟩ (decide_eq_true hn)⟩
 intro pd4 H4 hpd4 s4 g4;rw[length_map,gE sm (λn=>decide (n ∉ rd))]at g4;refine⟨aJ,λpt hpt=>?_⟩;have s5:=aD (o:=.tup [.ref pr3,.ref pd4]) hpt;have S5:=S3.trans (s4.trans s5);have er:jS M tries=rd:=by
  unfold jS;rw[erd,etm,hsm]
 refine q pt pr3 pd4 _ S5 aB ?_ ?_ (S2.free hpr3) (S3.free hpd4)
 ·rw[er];exact s5 _ _ (s4 _ _ g3)
 ·rw[er];exact s5 _ _ g4
def FB(h:StAt H1 S M)(db:aP H1 (dZ bss) ys)(hl:M.ls.length+bss.length<=90000)(k0:∀H',StepS S S H1 H'->aH H0 H')
  (hwi:∀R:It->Hp->Prop,(∀J,Src J H0 ys.length (λi x _=>ys[i]? = some x)->R J H1)->wi [some (.ref S.ps),some (.ref ab),some most,some (.ref l),z4] H1 R)
  (go:∀H' z4,StepS S S H1 H'->StAt H' S (bss.foldl gJ M)->D.nx [some (.ref S.ps),some (.ref ab),some most,some (.ref l),z4] H') :
  KW wi (rV 4) (vP (Jy (DM (lU 0) (tC (V.str "letters"))) (DM (lU 0) (tC (V.str "after"))) (KM (eU (lU 4) (eU (tC (V.int 0)) lV)))) (Jz (lU 0) (tC (V.str "after")) (tC (V.int 1)) Kv)) D [some (.ref S.ps),some (.ref ab),some most,some (.ref l),z4] H1:=by
 have ln:=db.length;unfold dZ at ln;rw[length_map]at ln;refine hwi _ λJ S0=>?_;refine mM S0 (λi σ H'=>∃z4,σ = [some (.ref S.ps),some (.ref ab),some most,some (.ref l),z4]/\StepS S S H1 H'/\StAt H' S ((bss.take i).foldl gJ M)) ⟨_,rfl,aH.stepS (aH.refl _),h⟩ (λi σ H' hh=>by obtain⟨_,_,st,_⟩:=hh; exact k0 H' st) ?_ ?_
 ·rintro D' i x σ H5 H6 hD' - hi ⟨z4,rfl,st,h5⟩ s6 hx;have st6:=st.trans (aH.stepS s6);have h6:=h5.same s6;obtain⟨dd,hdd,dr⟩:=db.get hx;unfold dZ at hdd;rw[getElem?_map]at hdd;obtain⟨b,eb⟩:∃b,bss[i]? = some b:=⟨_,getElem?_eq_getElem (by omega)⟩;rw[eb]at hdd;cases hdd;simp only[Den]at dr;obtain⟨pb,zs,rfl,gb,dz⟩:=dr;have ez:=bR.mp dz;subst ez;have tk:(bss.take (i+1)).foldl gJ M=gJ ((bss.take i).foldl gJ M) b:=by
   rw[take_succ,eb];show ((bss.take i++[b]).foldl gJ M)=_;rw[List.foldl_append];rfl
  have hlen:((bss.take i).foldl gJ M).ls.length<=90000:=by
   have:=B3 (bss.take i) M;rw[length_take]at this;omega
  obtain⟨Mi,eMi⟩:∃Mi,Mi=(bss.take i).foldl gJ M:=⟨_,rfl⟩;rw[<- eMi]at h6 tk hlen;refine⟨_,rfl,aJ,new_o λpt H7 v1 w1=>?_⟩;have h7:=h6.same v1;obtain⟨kl,l1,l2⟩:=h7.ls;refine⟨_,rfl,S.ps,_,rfl,h7.g_letters,_,rfl,S.ps,_,rfl,h7.g_after,S.pl,_,rfl,kP.k (k:=Sum.inl Mi.after) l1 (by rw[l2.len]; exact lt_of_le_of_lt hlen (by decide)),?_⟩;have h8:=h7.setL (l2.put (n:=Mi.after) (a:=(b,0)) (v:=.ref pt) ⟨pt,pb,rfl,w1,v1 _ _ (st6.tup _ _ gb)⟩);have st8:=bX h7 HD (.dK (eF kl (Sum.inl Mi.after) (.ref pt)));generalize upd H7 S.pl (.dK (eF kl (Sum.inl Mi.after) (.ref pt)))=H8 at h8 st8 ⊢;refine⟨_,rfl,S.ps,_,rfl,h8.g_after,_,_,rfl,rfl,_,kP.k (k:=Sum.inr "after") h8.st (by show 7<sizeLine; decide),?_⟩;have e9:eF (stK S { Mi with ls:=iI Mi.ls Mi.after (b,0) }) (Sum.inr "after") (.int (Mi.after+1))=stK S (gJ Mi b):=rfl;rw[e9];refine hD' _ _ ⟨_,rfl,st6.trans ((aH.stepS v1).trans (st8.trans (bX h8 LC _))),?_⟩;rw[tk];exact h8.setF (gJ Mi b) rfl rfl rfl rfl
 ·rintro σ H5 ⟨z4,rfl,st,h5⟩;rw[ln,take_length]at h5;exact go H5 _ st h5
def JD(F:Fun K "_law_put" "_law_put" GQ f fd)(T:‹3›)(ab3:‹7›):‹14› 3 f fd ["_law_state","_law_bodies","_law_most","_law_rows"] zA:=by
 refine F.okY ["_law_state","_law_bodies","_law_most","_law_rows","_law_body"] λcdv A' outer s H vs Q E hr nD0 h=>?_;obtain⟨S,M,ab,l,bss,ys,rs,xs,most,n,rfl,h,hne,hrl,hsl,hn,hw,gl,nl,dl,hab,nab,dab,hlb,q⟩:=h;refine⟨_,aA (aY (bC ab3 ‹18› aZ (aE (pv 0) (aE (pv 3) ‹37›))))
  (aC (fZ (lW eJ) ⋯ (Ij K (pv 1)) ‹71›
   (aA (fS (hu1 hr.units) ‹21› ‹21› (bE (aE (pv 4) ‹35›)) ⋯)
   (aC (zK (hu1 hr.units) (pv 0) bH aI u6 (λ_ _ _=>⋯)))))),?_⟩
 refine⟨_,rfl,_,rfl,_,rfl,S,M,l,rs,xs,most,n,rfl,h,hne,hrl,hsl,hn,hw,gl,nl,dl,λS1 H1 st1 h1=>?_⟩;have e1:=(fX M rs most).1;have tbs:cY (dZ bss)=true:=by
  clear dab hlb q
  induction bss with
  | nil=>rfl
  | cons b bss ih=>
   show (iA (.tuple (b.map .int)) && cY (dZ bss))=true;rw[ih];have:cY (b.map PyData.int)=true:=by
    clear ih
    induction b with
    | nil=>rfl
    | cons x b ih=>exact ih
   show (cY (b.map PyData.int) && true)=true;rw[this];rfl
 have db1:=fN st1.tup tbs dab;have hab1:H1 ab=some (.lst ys)\/H1 ab=some (.tup ys):=hab.imp (λg=>st1.frm _ _ g nab) (λg=>st1.frm _ _ g nab);obtain⟨o,eo,go1⟩:∃o,H1 ab=some o/\(o = .lst ys\/o = .tup ys):=by
  rcases hab1 with g | g
  ·exact⟨_,g,.inl rfl⟩
  ·exact⟨_,g,.inr rfl⟩
 have nab1:ab ∉ stL S1:=by
  rcases hab with g | g
  ·exact st1.not g nab
  ·exact st1.not g nab
 rw[<- st1.ps];show KW (iSeq K (lU 1)) (rV 4) _ { nx:=λx H'=>Q V.non H',rt:=Q } [some (.ref S1.ps),some (.ref ab),some (.int most),some (.ref l),none] H1;refine FB (D:={ nx:=λx H'=>Q V.non H',rt:=Q }) (ab:=ab) (l:=l) (most:=.int most) (H0:=upd (λ_=>none) ab o) h1 db1 (by rw[e1]; exact hlb) (λH' st b u e=>?_) (λR hR=>?_) λH' z4 st h'=>q S1 H' (st1.trans st) h'
 ·by_cases y:b=ab
  ·subst y;rw[aB]at e;injection e with e
   rw[<- e];exact st.frm _ _ eo nab1
  ·rw[aF y]at e;cases e
 ·refine⟨_,rfl,ab,rfl,?_⟩;rcases go1 with rfl | rfl
  ·exact .inl ⟨⟨_,SqL.of eo⟩,hR _ (bS (SqL.of aB))⟩
  ·exact .inr ⟨⟨_,SqT.of eo⟩,hR _ (sI (SqT.of aB))⟩
end
def lO(rows:List (L8))(n:Nat):Prop:=rows≠[]/\rows.length<=n/\∀s∈rows,s.length<=n/\∀r∈s,r.2.2.length<=61
def MsOk.rows(h:MsOk M c n):lO M.rows n:=⟨h.ne,h.rl,h.sg⟩
def Ek(h:lO M.rows n):lO (dR M most).rows (n+1):=by
 obtain⟨a,b,c,_⟩:=Du (most:=most) h.1 h.2.1 λs hs=>(h.2.2 s hs).1;refine⟨a,b,λs hs=>⟨c s hs,?_⟩⟩;unfold dR at hs;split at hs
 ·rcases mem_append.mp hs with z | z
  ·exact(h.2.2 s z).2
  ·rw[mem_singleton.mp z];intro r hr;rw[mem_singleton.mp hr];exact zero_le _
 ·exact(h.2.2 s hs).2
def Fc(h:lO M.rows n)(hr:r.2.2.length<=61):lO (eZ M r).rows (n+1):=by
 obtain⟨a,b,_,d⟩:=vO M r h.1;refine⟨a,by rw[b]; exact le_succ_of_le h.2.1,λs hs=>⟨d n (λs hs=>(h.2.2 s hs).1) s hs,?_⟩⟩;have e:=lK h.1 [];have hs:s∈M.rows.dropLast++[jJ M++[r]]:=hs;rcases mem_append.mp hs with z | z
 ·exact(h.2.2 s (by rw[e]; exact mem_append_left _ z)).2
 ·rw[mem_singleton.mp z];intro x hx;rcases mem_append.mp hx with y | y
  ·exact(h.2.2 (jJ M) (by rw[e]; exact mem_append_right _ (mem_singleton.mpr rfl))).2 x y
  ·rw[mem_singleton.mp y];exact hr
def x8:∀{rs:L8}{M:Ms}{n:Nat},lO M.rows n->(∀r∈rs,r.2.2.length<=61)->lO (rs.foldl eZ M).rows (n+rs.length)
 | [],M,n,h,_=>h
 | r::rs,M,n,h,hr=>by
  have:=x8 (rs:=rs) (Fc (r:=r) h (hr r mem_cons_self)) λx hx=>hr x (mem_cons_of_mem _ hx);rw[length_cons];rw[show n+(rs.length+1)=n+1+rs.length by omega];exact this
def sW(h:lO M.rows n)(hr:∀r∈rs,r.2.2.length<=61):lO (eI M rs most).rows (n+1+rs.length):=x8 (Ek h) hr
def zM(M:Ms)(most:Int):(dR M most).wh=M.wh:=by
 unfold dR;split <;> rfl
def MsOk.write1(h:MsOk M c n)(hb:r.2.2.length<=61)(hm:sB r.1=true->r.2.1∈M.ls.map (·.1)):MsOk (eI M [r] most) c (n+2):=by
 obtain⟨e1,e2,e3,e4,e5⟩:=fX M [r] most;have hr:=sW (rs:=[r]) (most:=most) h.rows (λx hx=>by rw[mem_singleton.mp hx]; exact hb);have ew:(eI M [r] most).wh.map (·.1)=M.ls.map (·.1):=by
  show (if sB r.1=true then rY (dR M most).wh r.2.1 ((dR M most).first+((dR M most).rows.length:Int) - 1) else (dR M most).wh).map (·.1)=_;rw[zM];split
  ·rename_i hy;rw[Ef _ (by rw[h.wk]; exact hm hy),h.wk]
  ·exact h.wk
 exact⟨by rw[e3]; exact h.af,by rw[e1]; exact h.so,by rw[e1,e3]; exact h.lt,by rw[e1]; exact h.cnt,by rw[e1]; exact ew,by rw[e2]; exact h.hn,by rw[e2]; exact h.hl,by rw[e1,e2]; exact h.hk,hr.1,hr.2.1,hr.2.2⟩
def fJ(w:Str)(k:Int):Lq->L8
 | []=>[]
 | b::bs=>(w,k,b)::fJ w (k+1) bs
def kG(w:Str):∀(k:Int)(bs:Lq),(fJ w k bs).length=bs.length
 | _,[]=>rfl
 | k,b::bs=>by rw[length_cons,<- kG w (k+1) bs]; rfl
def n8:∀{k:Int}{bs:Lq}{r:Rw},r∈fJ w k bs->r.2.2∈bs
 | _,[],_,h=>by cases h
 | k,b::bs,r,h=>by
  rcases mem_cons.mp h with z | z
  ·rw[z];exact mem_cons_self
  ·exact mem_cons_of_mem _ (n8 z)
def xV:∀{bs:Lq}{k:Int}{i:Nat}{b:Ls},bs[i]? = some b->(fJ w k bs)[i]? = some (w,k+(i:Int),b)
 | [],_,i,b,h=>by cases h
 | b0::bs,k,0,b,h=>by
  cases h;show some (w,k,b0)=some (w,k+((0:Nat):Int),b0);rw[show k+((0:Nat):Int)=k by omega]
 | b0::bs,k,i+1,b,h=>by
  have:=xV (w:=w) (k:=k+1) (bs:=bs) (i:=i) (b:=b) h;show (fJ w (k+1) bs)[i]? = _;rw[this,show k+1+(i:Int)=k+((i+1:Nat):Int) by omega]
def Dt(hw:sB w=true):∀(bs:Lq)(k:Int)(M:Ms),(∀p∈M.wh,p.1<k)->((fJ w k bs).foldl eZ M).wh.map (·.1)=M.wh.map (·.1)++(fJ w k bs).map (·.2.1)
 | [],k,M,_=>by
  show M.wh.map (·.1)=M.wh.map (·.1)++[];rw[append_nil]
 | b::bs,k,M,h=>by
  have hn:k ∉ M.wh.map (·.1):=λz=>by
   obtain⟨p,hp,e⟩:=mem_map.mp z;have:=h p hp;omega
  have ew:(eZ M (w,k,b)).wh=M.wh++[(k,M.first+(M.rows.length:Int) - 1)]:=by
   show (if sB w=true then _ else _)=_;rw[if_pos hw,Gc _ hn]
  have ih:=Dt hw bs (k+1) (eZ M (w,k,b)) (λp hp=>by
   rw[ew]at hp;rcases mem_append.mp hp with z | z
   ·have:=h p z;omega
   ·rw[mem_singleton.mp z];show k<k+1;omega)
  show ((fJ w (k+1) bs).foldl eZ (eZ M (w,k,b))).wh.map (·.1)=_;rw[ih,ew,map_append,append_assoc];rfl
def Hw:∀(bs:Lq)(M:Ms)(w:Str),(∀p∈M.ls,p.1<M.after)->((bs.foldl gJ M).ls=M.ls++(fJ w M.after bs).map (λr=>(r.2.1,(r.2.2,(0:Int)))))
 | [],M,w,_=>by
  show M.ls=M.ls++[];rw[append_nil]
 | b::bs,M,w,h=>by
  have hn:M.after ∉ M.ls.map (·.1):=λz=>by
   obtain⟨p,hp,e⟩:=mem_map.mp z;have:=h p hp;omega
  have el:(gJ M b).ls=M.ls++[(M.after,(b,0))]:=BA _ hn;have ih:=Hw bs (gJ M b) w (λp hp=>by
   rw[el]at hp;show p.1<M.after+1;rcases mem_append.mp hp with z | z
   ·have:=h p z;omega
   ·rw[mem_singleton.mp z];show M.after<M.after+1;omega)
  show (bs.foldl gJ (gJ M b)).ls=_;rw[ih,el,append_assoc];rfl
def vK:∀(bs:Lq)(M:Ms),(bs.foldl gJ M).after=M.after+(bs.length:Int)/\(bs.foldl gJ M).hs=M.hs/\(bs.foldl gJ M).time=M.time/\(bs.foldl gJ M).rows=M.rows/\(bs.foldl gJ M).first=M.first/\(bs.foldl gJ M).wh=M.wh
 | [],M=>⟨(Int.add_zero _).symm,rfl,rfl,rfl,rfl,rfl⟩
 | b::bs,M=>by
  obtain⟨a,b',c,d,e,f⟩:=vK bs (gJ M b);refine⟨a.trans ?_,b',c,d,e,f⟩;rw[length_cons];show M.after+1+(bs.length:Int)=M.after+((bs.length+1:Nat):Int);omega
def lH:∀{bs:Lq}{k:Int}{x:Int},x∈(fJ w k bs).map (·.2.1)->k<=x/\x<k+(bs.length:Int)
 | [],k,x,h=>by cases h
 | b::bs,k,x,h=>by
  rw[length_cons];rcases mem_cons.mp (show x∈k::(fJ w (k+1) bs).map (·.2.1) from h) with z | z
  ·omega
  ·have:=lH z;omega
def BE:∀(bs:Lq)(k:Int),((fJ w k bs).map (·.2.1)).Pairwise (· < ·)
 | [],k=>List.Pairwise.nil
 | b::bs,k=>by
  show (k::(fJ w (k+1) bs).map (·.2.1)).Pairwise (· < ·);refine List.pairwise_cons.mpr ⟨λx hx=>?_,BE bs (k+1)⟩;have:=lH hx;omega
def MsOk.put(h:MsOk M c n)(hw:sB w=true)(hb:∀b∈bs,b.length<=60)(hl:bs.length<=9)(ht:tl.length<=1)(htl:∀r∈tl,sB r.1=false/\r.2.2.length<=61):MsOk (CV M bs (fJ w M.after bs++tl) most) (c+1) (n+11):=by
 unfold CV;obtain⟨e1,e2,e3,e4,e5⟩:=fX M (fJ w M.after bs++tl) most;have hrl:(fJ w M.after bs++tl).length<=10:=by rw[length_append,kG]; omega
 have hr:=sW (rs:=fJ w M.after bs++tl) (most:=most) h.rows (λx hx=>by
  rcases mem_append.mp hx with z | z
  ·exact le_succ_of_le (hb _ (n8 z))
  ·exact(htl x z).2)
 have hlt:∀p∈M.wh,p.1<M.after:=λp hp=>by
  have:p.1∈M.wh.map (·.1):=mem_map_of_mem hp;rw[h.wk]at this;obtain⟨q,hq,e⟩:=mem_map.mp this;rw[<- e];exact(h.lt q hq).2.1
 have tw:∀(tl:L8)(M':Ms),(∀r∈tl,sB r.1=false/\r.2.2.length<=61)->(tl.foldl eZ M').wh=M'.wh:=by
  intro tl
  induction tl with
  | nil=>intro M' _; rfl
  | cons r tl ih=>
   intro M' hh;show (tl.foldl eZ (eZ M' r)).wh=_;rw[ih _ λx hx=>hh x (mem_cons_of_mem _ hx)];show (if sB r.1=true then _ else _)=_;rw[(hh r mem_cons_self).1];rfl
 have ew:(eI M (fJ w M.after bs++tl) most).wh.map (·.1)=M.ls.map (·.1)++(fJ w M.after bs).map (·.2.1):=by
  unfold eI;rw[List.foldl_append,tw _ _ htl,Dt hw bs M.after (dR M most) (by rw[zM]; exact hlt),zM,h.wk]
 generalize eI M (fJ w M.after bs++tl) most=M1 at e1 e2 e3 e4 e5 hr ew ⊢;obtain⟨f1,f2,f3,f4,f5,f6⟩:=vK bs M1;have fl:=Hw bs M1 w (by rw[e1,e3]; exact λp hp=>(h.lt p hp).2.1);rw[e1,e3]at fl;rw[e3]at f1;have fk:(bs.foldl gJ M1).ls.map (·.1)=M.ls.map (·.1)++(fJ w M.after bs).map (·.2.1):=by
  rw[fl,map_append,map_map];rfl
 have haf:=h.af;refine⟨⟨by rw[f1]; omega,by rw[f1]; omega⟩,?_,λp hp=>?_,?_,by rw[f6,ew,fk],by rw[f2,e2]; exact h.hn,by rw[f2,e2]; have:=h.hl; omega,λp hp=>?_,by rw[f4]; exact hr.1,by rw[f4]; have:=hr.2.1; omega,λs hs=>?_⟩
 ·rw[fk,List.pairwise_append];refine⟨h.so,BE _ _,λa ha b hb=>?_⟩;obtain⟨q,hq,e⟩:=mem_map.mp ha;have:=(h.lt q hq).2.1;have:=lH hb;omega
 ·rw[fl]at hp;rw[f1];rcases mem_append.mp hp with z | z
  ·have:=h.lt p z;exact⟨this.1,by have:=this.2.1; omega,this.2.2⟩
  ·obtain⟨r,hr',e⟩:=mem_map.mp z;have k1:=lH (mem_map_of_mem (f:=λr:Rw=>r.2.1) hr');rw[<- e];exact⟨by show 0<=r.2.1; omega,k1.2,hb _ (n8 hr')⟩
 ·rw[fl,length_append,length_map,kG];have:=h.cnt;omega
 ·rw[f2,e2]at hp;rw[fk];exact⟨mem_append_left _ (h.hk p hp).1,(h.hk p hp).2⟩
 ·rw[f4]at hs;exact⟨by have:=(hr.2.2 s hs).1; omega,(hr.2.2 s hs).2⟩
def gQ{α : Type}(es:List (Int × α))(n:Int):(es.filter λp=>decide (p.1≠n)).map (·.1)=(es.map (·.1)).filter λk=>decide (k≠n):=by
 rw[filter_map];rfl
def MsOk.dropH(h:MsOk M c n):MsOk { M with hs:=M.hs.filter λp=>decide (p.1≠k) } c n:=
 ⟨h.af,h.so,h.lt,h.cnt,h.wk,by show ((M.hs.filter λp=>decide (p.1≠k)).map (·.1)).Nodup; rw[gQ]; exact h.hn.filter _,le_trans (length_filter_le _ _) h.hl,λp hp=>h.hk p (mem_filter.mp hp).1,h.ne,h.rl,h.sg⟩
def MsOk.dropL(h:MsOk M c n)(nk:k ∉ M.hs.map (·.1)):MsOk { M with ls:=M.ls.filter (λp=>decide (p.1≠k)),wh:=M.wh.filter λp=>decide (p.1≠k) } c n:=by
 refine⟨h.af,?_,λp hp=>h.lt p (mem_filter.mp hp).1,le_trans (length_filter_le _ _) h.cnt,?_,h.hn,h.hl,λp hp=>⟨?_,(h.hk p hp).2⟩,h.ne,h.rl,h.sg⟩
 ·show ((M.ls.filter λp=>decide (p.1≠k)).map (·.1)).Pairwise _;rw[gQ];exact h.so.filter _
 ·show (M.wh.filter λp=>decide (p.1≠k)).map (·.1)=(M.ls.filter λp=>decide (p.1≠k)).map (·.1);rw[gQ,gQ,h.wk]
 ·show p.1∈(M.ls.filter λp=>decide (p.1≠k)).map (·.1);rw[gQ];exact mem_filter.mpr ⟨(h.hk p hp).1,decide_eq_true λz=>nk (by rw[<- z]; exact mem_map_of_mem hp)⟩
abbrev Ax:Stmt:=top 80
section
variable{P:Program}{w:World}{K:Ln}{mg:Lp}{base:Heap}{A:Ad}
def Dy{ps:Addr}{H H3:Hp}{S:Sl}{M:Ms}{c n:Nat}{x:Str}{k most:Int}{ns:Ls}{p0 p1 p2:Addr}{R:Hp->Prop}{E:XK}(eps:ps=S.ps)(h:StAt H S M)(ok:MsOk M c n)(hn:n<=80000)(hc:c<=100)(s3:aH H H3)(g2:H3 p2=some (.lst [.ref p1]))(g1:H3 p1=some (.tup [.str x,.int k,.ref p0]))(g0:H3 p0=some (.tup (ns.map V.int)))(f2:H p2=none)
  (go:∀S' H',StepS S S' H H'->StAt H' S' (eI M [(x,k,ns)] most)->R H'):jY [.ref ps,.ref p2,.int most] H3 (λ_ H'=>R H') E:=by
 refine⟨S,M,p2,[(x,k,ns)],[.ref p1],most,n,by rw[eps],h.same s3,ok.ne,ok.rl,λs hs=>(ok.sg s hs).1,?_,?_,g2,h.off f2,?_,λS' H' st h'=>go S' H' ((aH.stepS s3).trans st) h'⟩
 ·show n+1<=90000;omega
 ·have:=congrArg List.length ok.wk;rw[length_map,length_map]at this;have:=ok.cnt;show M.wh.length+1<=90000;omega
 ·refine i6 ?_;unfold cC fM;simp only[Den,aP];exact⟨p1,_,rfl,g1,_,_,rfl,rfl,_,_,rfl,rfl,_,_,rfl,⟨p0,_,rfl,g0,bR.mpr rfl⟩,rfl⟩
def zP{H:Hp}{S:Sl}{M:Ms}{c n:Nat}{x:Str}{k most:Int}{R:Hp->Prop}{E:XK}(h:StAt H S M)(ok:MsOk M c n)(hn:n<=80000)(hc:c<=100)(go:∀S' H',StepS S S' H H'->StAt H' S' (eI M [(x,k,[])] most)->R H'){p0 p1 p2:Addr}(hp0:H p0=none)(hp1:upd H p0 (.tup []) p1=none)(hp2:upd (upd H p0 (.tup [])) p1 (.tup [.str x,.int k,.ref p0]) p2=none) :
  jY [.ref S.ps,.ref p2,.int most] (upd (upd (upd H p0 (.tup [])) p1 (.tup [.str x,.int k,.ref p0])) p2 (.lst [.ref p1])) (λ_ H'=>R H') E:=by
 obtain⟨H1,eUU,s1,g1⟩:=gUU (o:=.tup []) hp0;rw[eUU]at hp1 hp2 ⊢;obtain⟨H2,eUU,s2,g2⟩:=gUU (o:=.tup [.str x,.int k,.ref p0]) hp1;rw[eUU]at hp2 ⊢;have s3:=aD (o:=.lst [.ref p1]) hp2;exact Dy (ns:=[]) rfl h ok hn hc (s1.trans (s2.trans s3)) aB (s3 _ _ g2) ((s2.trans s3) _ _ g1) ((s1.trans s2).free hp2) go
def IE(S:Sl)(H:Hp)(c n:Nat)(Q:VK):Prop:=∀S' M' H' v,StepS S S' H H'->StAt H' S' M'->MsOk M' c n->Q v H'
inductive qE(vs:L6)(H:Hp)(Q:VK)(x_3:XK):Prop
 | mk:∀(S:Sl)(M:Ms)(d:Addr)(most:Int)(y x:Str)(k:Int)(c n:Nat),vs=[.ref S.ps,.ref d,.int most]->StAt H S M->MsOk M c n->n<=80000->c<=100->H d=some (.tup [.str y,.str x,.int k])->x ≠ ""->IE S H c (n+2) Q->qE vs H Q x_3
def Ez(F:Fun K "_law_given" "_law_given" Ax f fd)(T:‹3›)(ab3:‹7›):‹14› 3 f fd ["_law_state","_law_deed_here","_law_most"] qE:=by
 refine F.okY ["_law_state","_law_deed_here","_law_most","_law_word","_law_hand","_law_number"] λcdv A' outer s H vs Q E hr nD0 h=>?_;obtain⟨S,M,d,most,y,x,k,c,n,rfl,h,ok,hn,hc,gd,hx,q⟩:=h;refine⟨_,aA (uL (pv 1) (iK K (n:=3) (cJ ‹53› (cJ ‹71› (cJ (bG (i:=5) nD0 ⋯ ⋯) iJ)))))
  (aA (a8 (aR BF (cF (cS K) (iD K PySem.F.plainAttrs_dict PySem.F.slot_dict_get PySem.F.type_dict_get (BQ (hu1 hr.units)) ‹21› (aE (pv 5) (bV (bE (aN bH ‹35›)) aG))) aI (λ_ _=>rfl)) (pv 4) (bD _))
   (aC (aQ bH))
   aO)
  (aA (a8 ‹52›
   (aA (aY (bC ab3 ‹18› aZ (aE (pv 0) (fH (cD (bV (bE (aN bH (aE (pv 5) ‹46›))) aG)) ‹37›))))
   (aA ‹74›
   (aC ‹74›)))
   aO)
  (aA ‹74›
  ‹67›))),?_⟩
 obtain⟨kl,l1,l2⟩:=h.ls;obtain⟨kh,l3,l4⟩:=h.hs;refine⟨_,rfl,d,_,rfl,SqT.of gd,rfl,_,_,rfl,_,_,rfl,_,_,rfl,rfl,?_⟩;refine⟨_,rfl,S.ps,_,rfl,h.g_hands,.inr (.inr (.inl ⟨rfl,.inl ⟨_,l3⟩⟩)),_,rfl,aJ,new_o λpt H1 s1 g1=>?_⟩;have hv:∃t z tt,(dE kh (Sum.inl k)).getD (.ref pt) = .ref t/\H1 t=some (.tup [.str z,.int tt])/\(k ∉ M.hs.map (·.1)->z = ""):=by
  by_cases hk:k∈M.hs.map (·.1)
  ·obtain⟨a,v,_,ev,t,e1,e2⟩:=l4.look hk;exact⟨t,a.1,a.2,by rw[ev,e1]; rfl,s1 _ _ e2,λz=>absurd hk z⟩
  ·rw[(l4.no hk).1];exact⟨pt,"",0,rfl,g1,λ_=>rfl⟩
 obtain⟨t,z,tt,et,gt,hz⟩:=hv;have h1:=h.same s1;refine⟨S.ph,_,_,_,rfl,rfl,cQ.k (k:=Sum.inl k) (s1 _ _ l3),t,_,_,.str z,et,rfl,SqT.of gt,aT (by decide) rfl,?_⟩;refine⟨_,rfl,rfl,_,rfl,?_⟩;show if (!decide (V.str z=V.str x))=true then _ else _
 by_cases hxz:z=x
 ·rw[show (!decide (V.str z=V.str x))=false by rw[decide_eq_true (by rw[hxz])]; rfl];refine bB ?_;have hk:k∈M.hs.map (·.1):=by
   apply Classical.byContradiction;intro y;exact hx (by rw[<- hxz]; exact hz y)
  have tail:∀S1 M1 H2,StepS S S1 H H2->StAt H2 S1 M1->M1.hs=M.hs->MsOk { M1 with hs:=M1.hs.filter λp=>decide (p.1≠k) } c (n+2)->vP (Jt (tBM K "dict" GY (DM (lU 0) (tC (V.str "hands"))) (eU (lU 5) lV))) (KN (tC V.non)) { nx:=λx H'=>Q V.non H',rt:=Q } [some (.ref S.ps),some (.ref d),some (.int most),some (.str y),some (.str x),some (.int k)] H2:=by
   intro S1 M1 H2 st h2 e2 ok2;obtain⟨kh2,a3,a4⟩:=h2.hs;obtain⟨_,v,_,ev,_⟩:=a4.look (n:=k) (by rw[e2]; exact hk);exact⟨_,rfl,S1.ps,_,(by rw[st.ps]),h2.g_hands,.inr (.inr (.inl ⟨rfl,.inl ⟨_,a3⟩⟩)),_,rfl,S1.ph,kh2,Sum.inl k,v,rfl,rfl,a3,ev,q S1 _ _ _ (st.trans (bX h2 JM _)) (h2.setH a4.drop) ok2⟩
  refine⟨_,rfl,rfl,_,rfl,?_⟩;show if decide (V.str y=V.str "done")=true then _ else _
  cases decide (V.str y=V.str "done") with
  | false=>exact bB (tail S M H1 (aH.stepS s1) h1 rfl (ok.dropH.mono (le_refl _) (by omega)))
  | true=>
   refine aU ⟨_,rfl,_,rfl,aJ,λp0 hp0=>⟨aJ,λp1 hp1=>⟨aJ,λp2 hp2=>⟨_,rfl,?_⟩⟩⟩⟩;refine zP (E:=E0) h1 ok hn hc (λS1 H2 st2 h2=>?_) hp0 hp1 hp2;have ok1:=ok.write1 (r:=("done",k,[])) (most:=most) (zero_le _) (λz=>by cases z);obtain⟨e1,e2,e3,e4,e5⟩:=fX M [("done",k,[])] most;generalize eI M [("done",k,[])] most=M1 at h2 ok1 e1 e2 e3 e4 e5;have st:=(aH.stepS s1).trans st2;obtain⟨kl2,a1,a2⟩:=h2.ls;have hkl:k∈M1.ls.map (·.1):=by
    obtain⟨p,hp,e⟩:=mem_map.mp hk;rw[e1,<- e];exact(ok.hk p hp).1
   obtain⟨_,v,_,ev,_⟩:=a2.look hkl;refine⟨_,rfl,S1.ps,_,(by rw[st.ps]),h2.g_letters,.inr (.inr (.inl ⟨rfl,.inl ⟨_,a1⟩⟩)),_,rfl,S1.pl,kl2,Sum.inl k,v,rfl,rfl,a1,ev,?_⟩;have h3:=h2.setL (a2.drop (n:=k));have st3:=st.trans (bX h2 HD (.dK (eY kl2 (Sum.inl k))));generalize upd H2 S1.pl (.dK (eY kl2 (Sum.inl k)))=H3 at h3 st3 ⊢;obtain⟨sk,esk⟩:=qN (ws:=M1.wh) (k:=k) (by rw[ok1.wk]; exact hkl);have ew:dE (wsK M1.wh) (Sum.inl k)=some (.int sk):=by rw[sF,esk]; rfl
   refine⟨_,rfl,S1.ps,_,(by rw[st.ps]),h3.g_where,.inr (.inr (.inl ⟨rfl,.inl ⟨_,h3.wh⟩⟩)),_,rfl,S1.pw,_,Sum.inl k,_,rfl,rfl,h3.wh,ew,?_⟩;show vP _ _ _ _ (upd H3 S1.pw (.dK (eY (wsK M1.wh) (Sum.inl k))));rw[Fe];have h4:=h3.setW (M1.wh.filter λp=>decide (p.1≠k));have st4:=st3.trans (bX h3 LB (.dK (wsK (M1.wh.filter λp=>decide (p.1≠k)))));refine tail S1 _ _ st4 h4 e2 (ok1.dropH.dropL (k:=k) λz=>?_);have z:k∈(M1.hs.filter λp=>decide (p.1≠k)).map (·.1):=z;rw[gQ]at z;exact of_decide_eq_true (mem_filter.mp z).2 rfl
 ·rw[show (!decide (V.str z=V.str x))=true by rw[decide_eq_false (λe=>hxz (by injection e))]; rfl];exact aU (q S M H1 _ (aH.stepS s1) h1 (ok.mono (le_refl _) (by omega)))
end
abbrev Aw:Stmt:=top 81
def mO(M:Ms)(k:Int):Ms:={ M with hs:=M.hs.filter λp=>decide (p.1≠k) }
def yB{k:Int}:∀{ks:Ls}{M:Ms},k∈M.hs.map (·.1)->k ∉ ks->k∈((ks.foldl mO M).hs).map (·.1)
 | [],M,h,_=>h
 | j::ks,M,h,hn=>by
  refine yB (ks:=ks) (M:=mO M j) ?_ (λz=>hn (mem_cons_of_mem _ z));show k∈(M.hs.filter λp=>decide (p.1≠j)).map (·.1);rw[gQ];exact mem_filter.mpr ⟨h,decide_eq_true λz=>hn (by rw[z]; exact mem_cons_self)⟩
def Bl{c n:Nat}:∀{ks:Ls}{M:Ms},MsOk M c n->MsOk (ks.foldl mO M) c n
 | [],M,h=>h
 | j::ks,M,h=>Bl (ks:=ks) (M:=mO M j) h.dropH
def MsOk.setL1{M:Ms}{c n:Nat}{k:Int}{a:Ls × Int}(h:MsOk M c n)(hk:k∈M.ls.map (·.1))(ha:a.1.length<=60):MsOk { M with ls:=iI M.ls k a } c n:=by
 have e:(iI M.ls k a).map (·.1)=M.ls.map (·.1):=xT a hk;have el:(iI M.ls k a).length=M.ls.length:=by
  have:=congrArg List.length e;rw[length_map,length_map]at this;exact this
 refine⟨h.af,by show ((iI M.ls k a).map (·.1)).Pairwise _; rw[e]; exact h.so,λp hp=>?_,by show (iI M.ls k a).length<=_; rw[el]; exact h.cnt,by show _=(iI M.ls k a).map (·.1); rw[e]; exact h.wk,h.hn,h.hl,λp hp=>⟨by show p.1∈(iI M.ls k a).map (·.1); rw[e]; exact(h.hk p hp).1,(h.hk p hp).2⟩,h.ne,h.rl,h.sg⟩;have hp:p∈iI M.ls k a:=hp;have h1:p.1∈M.ls.map (·.1):=by
  rw[<- e];exact mem_map_of_mem hp
 obtain⟨q,hq,eq⟩:=mem_map.mp h1;have:=h.lt q hq;rw[eq]at this;refine⟨this.1,this.2.1,?_⟩;rcases Gb hp with z | z
 ·exact(h.lt p z).2.2
 ·rw[z];exact ha
def MsOk.front{M:Ms}{c n:Nat}{r:L8}{rs:List (L8)}(h:MsOk M c n)(e:M.rows=r::rs)(ne:rs≠[]):MsOk { M with rows:=rs,first:=M.first+1 } c n:=
 ⟨h.af,h.so,h.lt,h.cnt,h.wk,h.hn,h.hl,h.hk,ne,by have:=h.rl; rw[e,length_cons]at this; show rs.length<=n; omega,λs hs=>h.sg s (by rw[e]; exact mem_cons_of_mem _ hs)⟩
def CB(M:Ms)(r:Rw)(most:Int)(h:M.rows≠[]):M.rows.length<=(eI M [r] most).rows.length:=by
 have h1:M.rows.length<=(dR M most).rows.length/\(dR M most).rows≠[]:=by
  unfold dR;split
  ·exact⟨by rw[length_append]; omega,by simp⟩
  ·exact⟨le_refl _,h⟩
 show M.rows.length<=(eZ (dR M most) r).rows.length;rw[(vO _ r h1.2).2.1];exact h1.1
inductive qD(vs:L6)(H:Hp)(Q:VK)(x_3:XK):Prop
 | mk:∀(S:Sl)(M:Ms)(d se:Addr)(most hold tries:Int)(y:Str)(args:L6)(c n:Nat),vs=[.ref S.ps,.ref d,.ref se]->StAt H S M->MsOk M c n->n<=70000->c<=50->H se=some (.tup [.int most,.int hold,.int tries])->H d=some (.tup (.str y::args))->(y = "wait"->∃m,args=[.int m])->(y = "new"->∃k,args=[.int k])->IE S H c (n+1000) Q->qD vs H Q x_3
section
variable{P:Program}{w:World}{K:Ln}{mg:Lp}{base:Heap}{A:Ad}
def Ey{f:Addr}{fd:Lx}(F:Fun K "_law_other" "_law_other" Aw f fd)(T:‹3›)(ab3:‹7›)(ac2:‹13›)(ae0:‹15› "_law_front_goes" 1 ["_law_state"] qF):‹14› 3 f fd ["_law_state","_law_deed_here","_law_settings_here"] qD:=by
 refine F.okY ["_law_state","_law_deed_here","_law_settings_here","_law_most","_law_hold","_law_tries","_law_word","_law_late","_law_number","_law_moved","_law_body","_law_times","_law_many"] λcdv A' outer s H vs Q E hr nD0 h=>?_;obtain⟨S,M,d,se,most,hold,tries,y,args,c,n,rfl,h,ok,hn,hc,gs,gd,hw,hne,q⟩:=h;refine⟨_,@aA _ _ _ _ _ (@uL _ _ _ _ _ _ (@pv _ 2 _ _ ⋯ ⋯ ⋯ ⋯) (@iK _ K _ _ _ (3) _ (@cJ _ _ _ _ _ (@bG _ _ (3) _ nD0 ⋯ ⋯ ⋯) (@cJ _ _ _ _ _ (@bG _ _ (4) _ nD0 ⋯ ⋯ ⋯) (@cJ _ _ _ _ _ (@bG _ _ (5) _ nD0 ⋯ ⋯ ⋯) (@iJ _) ⋯) ⋯) ⋯) ⋯ ⋯ ⋯ ⋯) ⋯ ⋯ ⋯) (@aA _ _ _ _ _ (@aX _ _ (6) _ _ _ _ nD0 ⋯ ⋯ ‹32› ⋯ ⋯) (@aA _ _ _ _ _ (@a8 _ _ _ _ _ _ _ _ ‹81› (@aA _ _ _ _ _ (@zK _ _ _ _ _ _ _ _ _ _ _ (hu1 hr.units) ‹33› ‹42› ‹32› (@u6 _) (λ_ _ _=>⋯)) (@aA _ _ _ _ _ (@lG _ _ _ (7) _ _ _ _ _ _ _ _ _ _ _ ["_law_number"] [("_law_state",0),("_law_hold",4)] nD0 ⋯ ⋯ ⋯ (@bT _ K _ _ _ (@bF _ _ _ _ _ _ _ _ _ (@gI _ ⋯) ⋯ T.ae5 gS ‹88› ⋯ ⋯ ⋯ ⋯) ⋯) (λC s2 H2 ex=>(@bG _ _ (0) _ (show List.Nodup (["_law_number","_law_state","_law_hold"]:Lu) by decide +kernel) ⋯ (Or.inl ⋯) ⋯)) (λC s2 H2 ex=>(@gY _ _ _ (@aR _ _ _ _ _ _ _ _ nK (@bA _ _ _ _ _ _ _ _ i4 ‹38› (@cF _ _ _ _ _ _ _ (cS K) (@dX _ _ _ _ _ _ (hu1 hr.units) ‹38› ‹33› (λ_ _=>rfl)) ‹48› (λ_ _=>rfl))) (@pv _ 2 _ _ ⋯ ⋯ ⋯ ⋯) (bD _)))) (λC s2 H2 ex=>‹33›) ⋯ ⋯ ⋯ ⋯ ⋯ ⋯) (@aA _ _ _ _ _ (@fZ _ _ _ _ _ _ _ _ (lW eJ) ⋯ (@bT _ K _ _ _ (@pv _ 7 _ _ ⋯ ⋯ ⋯ ⋯) ⋯) (@bG _ _ (8) _ nD0 ⋯ ⋯ ⋯) (@aC _ _ _ (aY (iD K PySem.F.plainAttrs_dict PySem.F.slot_dict_pop PySem.F.type_dict_pop pC ‹21› (aE (pv 8) aG)))) ⋯) (@aC _ _ _ (@aQ _ _ _ _ (@pv _ 7 _ _ ⋯ ⋯ ⋯ ⋯)))))) (@aO _)) (@aA _ _ _ _ _ (@a8 _ _ _ _ _ _ _ _ ‹81› (@aA _ _ _ _ _ (@a8 _ _ _ _ _ _ _ _ (@aR _ _ _ _ _ _ _ _ (kH K) ‹32› (@cF _ _ _ _ _ _ _ (cS K) (@bC _ _ _ _ _ _ _ _ _ _ _ ac2 ‹18› aZ (@aE _ _ _ _ _ _ ‹33› (@aE _ _ _ _ _ _ (@pv _ 5 _ _ ⋯ ⋯ ⋯ ⋯) (@aG _))) ⋯ ⋯ ⋯ ⋯) ‹48› (λ_ _=>rfl)) ⋯) (@aC _ _ _ (@aQ _ _ _ _ ‹42›)) (@aO _)) (@aA _ _ _ _ _ (aY (bC ab3 ‹18› aZ (aE (pv 0) (fH (cD (bV (bE (aN bH (aM ‹20› ‹46›))) aG)) ‹47›)))) (@aA _ _ _ _ _ (@fS _ _ _ _ _ _ _ _ _ (hu1 hr.units) ‹23› ‹32› (@bE _ _ _ _ _ (@aM _ _ _ _ _ _ _ (@cF _ _ _ _ _ _ _ (cS K) (@dX _ _ _ _ _ _ (hu1 hr.units) ‹23› ‹32› (λ_ _=>rfl)) ‹48› (λ_ _=>rfl)) (@aN _ _ _ _ _ _ _ ‹48› (@aG _)))) ⋯) (@aC _ _ _ (@aQ _ _ _ _ (@jT _ _ _)))))) (@aO _)) (@aA _ _ _ _ _ (@a8 _ _ _ _ _ _ _ _ ‹81› (@aA _ _ _ _ _ (@a8 _ _ _ _ _ _ _ _ (@aR _ _ _ _ _ _ _ _ fK (@bF _ _ _ _ _ _ _ _ _ (dD K) ⋯ T.ad1 fW ‹88› ⋯ ⋯ ⋯ ⋯) ‹48› (bD _)) (@aC _ _ _ (@aQ _ _ _ _ (@jT _ _ _))) (@aO _)) (@aA _ _ _ _ _ (@lG _ _ _ (9) _ _ _ _ _ _ _ _ _ _ _ ["_law_number"] [("_law_state",0)] nD0 ⋯ ⋯ ⋯ (@bT _ K _ _ _ (@bF _ _ _ _ _ _ _ _ _ (@gI _ ⋯) ⋯ T.ae5 gS ‹88› ⋯ ⋯ ⋯ ⋯) ⋯) (λC s2 H2 ex=>(@bG _ _ (0) _ ‹50› ⋯ (Or.inl ⋯) ⋯)) (λC s2 H2 ex=>(@gY _ _ _ (@aR _ _ _ _ _ _ _ _ fK (@dX _ _ _ _ _ _ (hu1 hr.units) ‹38› ‹33› (λ_ _=>rfl)) ‹38› (bD _)))) (λC s2 H2 ex=>‹33›) ⋯ ⋯ ⋯ ⋯ ⋯ ⋯) (@aA _ _ _ _ _ (@fZ _ _ _ _ _ _ _ _ (lW eJ) ⋯ (@bT _ K _ _ _ (@pv _ 9 _ _ ⋯ ⋯ ⋯ ⋯) ⋯) (@bG _ _ (8) _ nD0 ⋯ ⋯ ⋯) (@aA _ _ _ _ _ (@uL _ _ _ _ _ _ (@dX _ _ _ _ _ _ (hu1 hr.units) ‹23› (@pv _ 8 _ _ ⋯ ⋯ ⋯ ⋯) (λ_ _=>rfl)) (@iK _ K _ _ _ (2) _ (@cJ _ _ _ _ _ (@bG _ _ (10) _ nD0 ⋯ ⋯ ⋯) (@cJ _ _ _ _ _ (@bG _ _ (11) _ nD0 ⋯ ⋯ ⋯) (@iJ _) ⋯) ⋯) ⋯ ⋯ ⋯ ⋯) ⋯ ⋯ ⋯) (@aC _ _ _ (aY (bC ab3 ‹18› aZ (aE (pv 0) (fH (cD (bV (bE (aN bH (aE (pv 8) (bQ (bA jI (bE (aE (pv 11) aG)) (pv 10)) aG)))) aG)) ‹47›)))))) ⋯) (@aA _ _ _ _ _ (aY (bC ae0 ‹18› aZ ‹34›)) (@aC _ _ _ (@aQ _ _ _ _ (@bF _ _ _ _ _ _ _ _ _ (dD K) ⋯ T.ad1 fW (@aE _ _ _ _ _ _ (@pv _ 9 _ _ ⋯ ⋯ ⋯ ⋯) (@aG _)) ⋯ ⋯ ⋯ ⋯))))))) (@aO _)) (@aA _ _ _ _ _ (@aX _ _ (12) _ _ _ _ nD0 ⋯ ⋯ ‹48› ⋯ ⋯) (@aA _ _ _ _ _ (@o8 _ _ _ _ _ _ (lW eJ) (@PW.pt _ _ _ (@lF _ _ _ _ _ _ _ (@aR _ _ _ _ _ _ _ _ nK (@bF _ _ _ _ _ _ _ _ _ (dD K) ⋯ T.ad1 fW ‹88› ⋯ ⋯ ⋯ ⋯) ‹48› (bD _)) (@iH _ _ _ _ (@aR _ _ _ _ _ _ _ _ (kH K) ‹23› (Io (dC ["_law_number"] [("_law_state",0)] ⋯ (Im ‹21›) (λC s2 H2 ex=>(bG (i:=0) ‹50› ⋯ (Or.inl ⋯))) ‹40› (λC s2 H2 ex=>(dX (hu1 hr.units) ‹60› (pv 0) (λ_ _=>rfl))))) ⋯)))) (@aA _ _ _ _ _ (aY (bC ae0 ‹18› aZ ‹34›)) (@aC _ _ _ (@CY _ _ (12) _ _ _ _ _ _ nD0 ⋯ ⋯ ‹48› HP ⋯)))) (@aC _ _ _ (@aQ _ _ _ _ (@pv _ 12 _ _ ⋯ ⋯ ⋯ ⋯))))))))),?_⟩;obtain⟨kl,l1,l2⟩:=h.ls;obtain⟨kh,l3,l4⟩:=h.hs;have cnt:=ok.cnt;have hl:=ok.hl;refine⟨_,rfl,se,_,rfl,SqT.of gs,rfl,_,_,rfl,_,_,rfl,_,_,rfl,rfl,_,rfl,d,_,_,.str y,rfl,rfl,SqT.of gd,aT (by decide) rfl,?_⟩;refine⟨_,rfl,rfl,_,rfl,?_⟩;show if decide (V.str y=V.str "wait")=true then _ else _
 by_cases e1:y = "wait"
 ·rw[decide_eq_true (by rw[e1])];obtain⟨m,rfl⟩:=hw e1;refine aU ⟨_,rfl,S.ps,_,rfl,h.g_time,_,rfl,d,_,_,.int m,rfl,rfl,SqT.of gd,aT (by decide) rfl,_,_,rfl,rfl,_,kP.k (k:=Sum.inr "time") h.st (by show 7<sizeLine; decide),?_⟩;have e2:eF (stK S M) (Sum.inr "time") (.int (M.time+m))=stK S { M with time:=M.time+m }:=rfl;rw[e2];have h1:=h.setF { M with time:=M.time+m } rfl rfl rfl rfl;have st1:=bX h LC (.dK (stK S { M with time:=M.time+m }));have ok1:MsOk { M with time:=M.time+m } c n:=⟨ok.af,ok.so,ok.lt,ok.cnt,ok.wk,ok.hn,ok.hl,ok.hk,ok.ne,ok.rl,ok.sg⟩;generalize ({ M with time:=M.time+m }:Ms)=M1 at h1 st1 ok1 ⊢;generalize upd H S.ps (.dK (stK S M1))=H1 at h1 st1 ⊢;obtain⟨kh1,a3,a4⟩:=h1.hs;have hl1:=ok1.hl;refine⟨_,rfl,S.ps,_,rfl,h1.g_hands,S.ph,kh1,M1.hs.map (·.1),rfl,a3,a4.keys,.inl (by rw[length_map]; omega),by rw[length_map]; omega,λp ms perm pw hp=>?_⟩;have nd:ms.Nodup:=perm.nodup_iff.mpr ok1.hn;have lk:ms.length<=1000:=by rw[perm.length_eq,length_map]; omega
  have mk:∀k∈ms,k∈M1.hs.map (·.1):=λk hk=>perm.mem_iff.mp hk;obtain⟨H2,eUU,s2,g2⟩:=gUU (o:=.lst (ms.map V.int)) hp;rw[eUU];have ht:∀n:Int,∃k:Int,n∈M1.hs.map (·.1)->∃t b,dE kh1 (Sum.inl n)=some (.ref t)/\H1 t=some (.tup [.str b,.int k]):=λn=>by
   by_cases hn:n∈M1.hs.map (·.1)
   ·obtain⟨a,v,_,ev,t,e1,e2⟩:=a4.look hn;exact⟨a.2,λ_=>⟨t,a.1,by rw[ev,e1],e2⟩⟩
   ·exact⟨0,λz=>absurd z hn⟩
  obtain⟨tm,htm⟩:=Classical.axiomOfChoice ht;refine⟨p,rfl,⟨_,SqL.of g2⟩,?_⟩;refine fQ (bS (K:=K) (SqL.of g2)) (by rw[length_map]; exact le_trans lk (by decide)) (λj=>decide (hold<M1.time - tm (ms.getD j 0))) (λj=>V.int (ms.getD j 0)) (λσ=>∃z,σ = [z,some (.ref S.ps),some (.int hold)]) ⟨none,rfl⟩ ?_ ?_
  ·intro j x σc H3 hj hσ s3 hx Q1 Q2 Q3 h2' h3';obtain⟨z,rfl⟩:=hσ;rw[getElem?_map]at hx;cases e:ms[j]? with
   | none=>rw[e]at hx; cases hx
   | some k=>
    rw[e]at hx;cases hx;have eg:ms.getD j 0=k:=by rw[getD_eq_getElem?_getD,e]; rfl
    rw[eg]at h2' h3';have hs3:=h1.same (s2.trans s3);obtain⟨t,b,ev,gt⟩:=htm k (mk k (mem_of_getElem? e));have dg:=cQ.k (k:=Sum.inl k) ((s2.trans s3) _ _ a3);rw[ev]at dg;refine⟨_,rfl,S.ps,_,rfl,hs3.g_time,_,rfl,S.ps,_,rfl,hs3.g_hands,_,rfl,S.ph,_,rfl,dg,t,_,_,.int (tm k),rfl,rfl,SqT.of ((s2.trans s3) _ _ gt),aT (by decide) rfl,_,_,rfl,rfl,_,rfl,_,_,rfl,rfl,_,rfl,?_⟩;by_cases hn:hold<M1.time - tm k
    ·rw[decide_eq_true hn];exact aU ⟨_,rfl,h2' _ ⟨_,rfl⟩ (decide_eq_true hn)⟩
    ·rw[decide_eq_false hn];exact bB (h3' _ ⟨_,rfl⟩ (decide_eq_false hn))
  intro pl3 H3 hpl3 s3 g3;rw[length_map,gE ms (λk=>decide (hold<M1.time - tm k))]at g3;have hsub:∀k∈ms.filter (λk=>decide (hold<M1.time - tm k)),k∈M1.hs.map (·.1):=λk hk=>mk k (mem_filter.mp hk).1;have nd2:(ms.filter λk=>decide (hold<M1.time - tm k)).Nodup:=nd.filter _;generalize ms.filter (λk=>decide (hold<M1.time - tm k))=la at g3 hsub nd2;have h3:=h1.same (s2.trans s3);have st3:=st1.trans (aH.stepS (s2.trans s3));have np3:pl3 ∉ stL S:=h1.off (s2.free hpl3);refine⟨_,rfl,pl3,rfl,⟨_,SqL.of g3⟩,?_⟩;refine mM (bS (K:=K) (H:=upd (λ_=>none) pl3 (.lst (la.map V.int))) (SqL.of aB)) (λi σ H'=>∃z8,σ = [some (.ref S.ps),some (.ref d),some (.ref se),some (.int most),some (.int hold),some (.int tries),some (.str y),some (.ref pl3),z8,none,none,none,none]/\StepS S S H3 H'/\StAt H' S ((la.take i).foldl mO M1)) ⟨_,rfl,aH.stepS (aH.refl _),h3⟩ (λi σ H' hh b u e=>?_) ?_ ?_
  ·obtain⟨_,_,st,_⟩:=hh;by_cases yb:b=pl3
   ·subst yb;rw[aB]at e;injection e with e
    rw[<- e];exact st.frm _ _ g3 np3
   ·rw[aF yb]at e;cases e
  ·rintro D' i x σ H5 H6 hD' - hi ⟨z8,rfl,st,h5⟩ s6 hx;have st6:=st.trans (aH.stepS s6);have h6:=h5.same s6;rw[getElem?_map]at hx;cases e:la[i]? with
   | none=>rw[e]at hx; cases hx
   | some k=>
    rw[e]at hx;cases hx;have tk:(la.take (i+1)).foldl mO M1=mO ((la.take i).foldl mO M1) k:=by
     rw[take_succ,e];show ((la.take i++[k]).foldl mO M1)=_;rw[List.foldl_append];rfl
    have hk:k∈(((la.take i).foldl mO M1).hs).map (·.1):=yB (hsub k (mem_of_getElem? e)) (λz=>by
     obtain⟨j,hj,ej⟩:=List.mem_iff_getElem.mp z;rw[length_take]at hj;rw[List.getElem_take]at ej;obtain⟨hi2,ei⟩:=List.getElem?_eq_some_iff.mp e;have:=(List.getElem_inj nd2).mp (ej.trans ei.symm);omega)
    generalize (la.take i).foldl mO M1=Mi at h6 tk hk;obtain⟨khi,b3,b4⟩:=h6.hs;obtain⟨_,v,_,ev,_⟩:=b4.look hk;refine⟨_,rfl,S.ps,_,rfl,h6.g_hands,.inr (.inr (.inl ⟨rfl,.inl ⟨_,b3⟩⟩)),_,rfl,S.ph,khi,Sum.inl k,v,rfl,rfl,b3,ev,?_⟩;refine hD' _ _ ⟨_,rfl,st6.trans (bX h6 JM _),?_⟩;rw[tk];exact h6.setH b4.drop
  ·rintro σ H5 ⟨z8,rfl,st,h5⟩;exact⟨_,rfl,q S _ H5 _ (st3.trans st) h5 (Bl (ok1.mono (le_refl _) (by omega)))⟩
 rw[decide_eq_false (λe=>e1 (by injection e))];refine bB ⟨_,rfl,rfl,_,rfl,?_⟩;show if decide (V.str y=V.str "new")=true then _ else _
 by_cases e2:y = "new"
 ·rw[decide_eq_true (by rw[e2])];obtain⟨k,rfl⟩:=hne e2;refine aU ⟨_,rfl,d,_,_,.int k,rfl,rfl,SqT.of gd,aT (by decide) rfl,_,rfl,_,rfl,S,M,tries,rfl,h,ok.so,by omega,λp p1 p2 H1 s1 gp g1 g2 f1 f2=>?_⟩;have hsm:∀j∈((rC M).filter λn=>decide (n ∉ jS M tries)),j∈M.ls.map (·.1):=λj hj=>(mem_filter.mp ‹54›).1;generalize ((rC M).filter λn=>decide (n ∉ jS M tries))=dl at g2 hsm;refine⟨p,_,_,.ref p2,rfl,rfl,SqT.of gp,aT (by decide) rfl,p2,_,rfl,.inl (SqL.of g2),rfl,nE _,_,rfl,?_⟩;rw[if_pos rfl,pK];have h1:=h.same s1;by_cases hk:k∈dl
  ·rw[decide_eq_true hk];have gd1:=s1 _ _ gd;refine bB ⟨_,rfl,_,rfl,d,_,_,.int k,rfl,rfl,SqT.of gd1,aT (by decide) rfl,aJ,λp0 hp0=>⟨aJ,λp1 hp1=>⟨aJ,λp2 hp2=>⟨_,rfl,?_⟩⟩⟩⟩;refine zP (E:=E0) h1 ok (by omega) (by omega) (λS1 H2 st2 h2=>?_) hp0 hp1 hp2;have ok1:=ok.write1 (r:=("new",k,[])) (most:=most) (zero_le _) (λz=>by cases z);obtain⟨w1,w2,w3,w4,w5⟩:=fX M [("new",k,[])] most;generalize eI M [("new",k,[])] most=M1 at h2 ok1 w1 w2 w3 w4 w5;have st:=(aH.stepS s1).trans st2;have gd2:=st.tup _ _ gd;obtain⟨kl2,a1,a2⟩:=h2.ls;have hkl:k∈M1.ls.map (·.1):=by rw[w1]; exact hsm k hk
   obtain⟨a,v,ha,ev,t,b,ev2,gt,gb⟩:=a2.look hkl;have dg:=cQ.k (k:=Sum.inl k) a1;rw[ev,ev2]at dg;refine⟨_,rfl,S1.ps,_,(by rw[st.ps]),h2.g_letters,_,rfl,d,_,_,.int k,rfl,rfl,SqT.of gd2,aT (by decide) rfl,S1.pl,_,rfl,dg,t,_,_,.ref b,rfl,rfl,SqT.of gt,aT (by decide) rfl,aJ,new_o λpt H3 s3 g3=>?_⟩;have h3:=h2.same s3;obtain⟨kl3,a5,a6⟩:=h3.ls;have cn1:=ok1.cnt;refine⟨_,rfl,S1.ps,_,(by rw[st.ps]),h3.g_letters,_,rfl,d,_,_,.int k,rfl,rfl,SqT.of (s3 _ _ gd2),aT (by decide) rfl,S1.pl,_,rfl,kP.k (k:=Sum.inl k) a5 (by rw[a6.len]; exact lt_of_le_of_lt ‹63› (by decide)),?_⟩;exact q S1 _ _ _ (st.trans ((aH.stepS s3).trans (bX h3 HD _))) (h3.setL (a6.put (n:=k) (a:=(a.1,0)) (v:=.ref pt) ⟨pt,b,rfl,g3,s3 _ _ gb⟩)) ((ok1.setL1 (a:=(a.1,0)) hkl (show a.1.length<=60 from (ok1.lt _ ha).2.2)).mono (le_refl _) (by omega))
  ·rw[decide_eq_false hk];exact aU (q S M H1 _ (aH.stepS s1) h1 (ok.mono (le_refl _) (by omega)))
 rw[decide_eq_false (λe=>e2 (by injection e))];refine bB ⟨_,rfl,rfl,_,rfl,?_⟩;show if decide (V.str y=V.str "carry")=true then _ else _
 by_cases e3:y = "carry"
 ·rw[decide_eq_true (by rw[e3])];refine aU ⟨_,rfl,S.ps,_,rfl,h.g_rows,S.pr,_,rfl,.inl (SqL.of h.rw),rfl,_,rfl,?_⟩;have el:((S.rs.map V.ref).length:Int)=(M.rows.length:Int):=by rw[length_map,h.rr.len]
  rw[el];by_cases one:M.rows.length=1
  ·rw[decide_eq_true (by rw[one]; rfl)];exact aU (q S M H _ (aH.stepS (aH.refl _)) h (ok.mono (le_refl _) (by omega)))
  rw[decide_eq_false (λe=>one (by injection e with e; omega))];refine bB ?_;have two:2<=M.rows.length:=by
   have:=ok.ne;cases e:M.rows with
   | nil=>exact absurd e this
   | cons r rs=>
    rw[e]at one;cases rs with
    | nil=>exact absurd rfl one
    | cons r2 rs=>rw[length_cons,length_cons]; omega
  have wl:M.wh.length=M.ls.length:=by
   have:=congrArg List.length ok.wk;rw[length_map,length_map]at this;exact this
  refine⟨_,rfl,S.ps,_,rfl,h.g_where,S.pw,wsK M.wh,M.wh.map (·.1),rfl,h.wh,AU _,.inr (by rw[ok.wk]; exact ok.so.imp Int.le_of_lt),by rw[length_map]; omega,λp ms perm pw hp=>?_⟩;have lk:ms.length<=9 * c:=by rw[perm.length_eq,length_map]; omega
  have mk:∀k∈ms,k∈M.wh.map (·.1):=λk hk=>perm.mem_iff.mp hk;obtain⟨H2,eUU,s2,g2⟩:=gUU (o:=.lst (ms.map V.int)) hp;rw[eUU];refine⟨p,rfl,⟨_,SqL.of g2⟩,?_⟩;refine fQ (bS (K:=K) (SqL.of g2)) (by rw[length_map]; exact le_trans ‹63› (by decide)) (λj=>decide (V.int ((pF M.wh (ms.getD j 0)).getD 0)=V.int M.first)) (λj=>V.int (ms.getD j 0)) (λσ=>∃z,σ = [z,some (.ref S.ps)]) ⟨none,rfl⟩ ?_ ?_
  ·intro j x σc H3 hj hσ s3 hx Q1 Q2 Q3 h2' h3';obtain⟨z,rfl⟩:=hσ;rw[getElem?_map]at hx;cases e:ms[j]? with
   | none=>rw[e]at hx; cases hx
   | some k=>
    rw[e]at hx;cases hx;have eg:ms.getD j 0=k:=by rw[getD_eq_getElem?_getD,e]; rfl
    rw[eg]at h2' h3';have hs3:=h.same (s2.trans s3);obtain⟨wk,ewk⟩:=qN (mk k (mem_of_getElem? e));have dg:=cQ.k (k:=Sum.inl k) hs3.wh;rw[sF,ewk]at dg;rw[ewk]at h2' h3';refine⟨_,rfl,S.ps,_,rfl,hs3.g_where,_,rfl,S.pw,_,rfl,dg,_,rfl,S.ps,_,rfl,hs3.g_first,rfl,_,rfl,?_⟩;cases hb:decide (V.int wk=V.int M.first) with
    | true=>exact aU ⟨_,rfl,h2' _ ⟨_,rfl⟩ hb⟩
    | false=>exact bB (h3' _ ⟨_,rfl⟩ hb)
  intro pl3 H3 hpl3 s3 g3;rw[length_map,gE ms (λk=>decide (V.int ((pF M.wh k).getD 0)=V.int M.first))]at g3;have hsub:∀k∈ms.filter (λk=>decide (V.int ((pF M.wh k).getD 0)=V.int M.first)),k∈M.ls.map (·.1):=λk hk=>by
   rw[<- ok.wk];exact mk k (mem_filter.mp hk).1
  have lla:(ms.filter (λk=>decide (V.int ((pF M.wh k).getD 0)=V.int M.first))).length<=9 * c:=le_trans (length_filter_le _ _) lk;generalize ms.filter (λk=>decide (V.int ((pF M.wh k).getD 0)=V.int M.first))=la at g3 hsub lla;have h3:=h.same (s2.trans s3);have st3:StepS S S H H3:=aH.stepS (s2.trans s3);have np3:pl3 ∉ stL S:=h.off (s2.free hpl3);refine⟨_,rfl,pl3,rfl,⟨_,SqL.of g3⟩,?_⟩;refine mM (bS (K:=K) (H:=upd (λ_=>none) pl3 (.lst (la.map V.int))) (SqL.of aB)) (λi σ H'=>∃z8 z10 z11 S1 M1,σ = [some (.ref S.ps),some (.ref d),some (.ref se),some (.int most),some (.int hold),some (.int tries),some (.str y),none,z8,some (.ref pl3),z10,z11,none]/\StepS S S1 H3 H'/\StAt H' S1 M1/\MsOk M1 c (n+2 * i)/\M1.ls=M.ls/\2<=M1.rows.length) ⟨_,_,_,S,M,rfl,aH.stepS (aH.refl _),h3,ok,rfl,two⟩ (λi σ H' hh b u e=>?_) ?_ ?_
  ·obtain⟨_,_,_,_,_,_,st,_⟩:=hh;by_cases yb:b=pl3
   ·subst yb;rw[aB]at e;injection e with e
    rw[<- e];exact st.frm _ _ g3 np3
   ·rw[aF yb]at e;cases e
  ·rintro D' i x σ H5 H6 hD' - hi ⟨z8,z10,z11,S1,M1,rfl,st,h5,ok5,els,tw5⟩ s6 hx;have st6:=st.trans (aH.stepS s6);have h6:=h5.same s6;rw[getElem?_map]at hx;rw[length_map]at hi;cases e:la[i]? with
   | none=>rw[e]at hx; cases hx
   | some k=>
    rw[e]at hx;cases hx;have hk:k∈M1.ls.map (·.1):=by rw[els]; exact hsub k (mem_of_getElem? e)
    obtain⟨kl1,b1,b2⟩:=h6.ls;obtain⟨a,v,ha,ev,t,b,ev2,gt,gb⟩:=b2.look hk;have dg:=cQ.k (k:=Sum.inl k) b1;rw[ev,ev2]at dg;have hbl:a.1.length<=60:=(ok5.lt _ ha).2.2;refine⟨_,rfl,S1.ps,_,(by rw[st.ps]),h6.g_letters,_,rfl,S1.pl,_,rfl,dg,t,_,rfl,SqT.of gt,rfl,_,_,rfl,_,_,rfl,rfl,?_⟩;refine⟨_,rfl,_,rfl,_,rfl,aJ,new_o λpa H7 v1 u1=>?_⟩;refine⟨_,rfl,pa,b,_,_,rfl,rfl,u1,v1 _ _ gb,le_trans (show _<=100 by rw[length_map]; show 1+a.1.length<=100; omega) (by decide),λpc H8 v2 u2=>⟨aJ,λp1 hp1=>⟨aJ,λp2 hp2=>⟨_,rfl,?_⟩⟩⟩⟩;obtain⟨H9,eUU,v3,u3⟩:=gUU (o:=.tup [.str "carried",.int k,.ref pc]) hp1;rw[eUU]at hp2 ⊢;have v4:=aD (o:=.lst [.ref p1]) hp2;refine Dy (E:=E0) (ns:=a.2::a.1) (H:=H6) (S:=S1) (M:=M1) st.ps.symm h6 ok5 (by omega) (by omega) (v1.trans (v2.trans (v3.trans v4))) aB (v4 _ _ u3) ((v3.trans v4) _ _ u2) ((v1.trans (v2.trans v3)).free hp2) λS2 H' st2 h'=>?_;have okw:=ok5.write1 (r:=("carried",k,a.2::a.1)) (most:=most) (show a.1.length+1<=61 by omega) (λ_=>hk);have wls:=(fX M1 [("carried",k,a.2::a.1)] most).1;have wl1:=CB M1 ("carried",k,a.2::a.1) most ok5.ne;refine hD' _ _ ⟨_,_,_,S2,_,rfl,st6.trans st2,h',okw.mono (le_refl _) (by omega),wls.trans els,by omega⟩
  ·rintro σ H5 ⟨z8,z10,z11,S1,M1,rfl,st,h5,ok5,els,tw5⟩;rw[length_map]at ok5;cases er:M1.rows with
   | nil=>exact absurd er ok5.ne
   | cons r rs=>
    refine⟨_,rfl,S1,M1,r,rs,(by rw[st.ps]),h5,er,λS2 H6 st6 h6=>?_⟩;refine⟨_,rfl,pl3,_,rfl,.inl (SqL.of (st6.frm _ _ (st.frm _ _ g3 np3) (st.not g3 np3))),q S2 _ H6 _ (st3.trans (st.trans st6)) h6 ((ok5.front er ?_).mono (le_refl _) (by omega))⟩;intro z;rw[er,z]at tw5;exact absurd (show 2<=1 from tw5) (by decide)
 rw[decide_eq_false (λe=>e3 (by injection e))];refine bB ?_;refine⟨λm σ H'=>∃j S1 M1,σ = [some (.ref S.ps),some (.ref d),some (.ref se),some (.int most),some (.int hold),some (.int tries),some (.str y),none,none,none,none,none,some (.int j)]/\StepS S S1 H H'/\StAt H' S1 M1/\MsOk M1 c n/\M1.rows.length=m,⟨_,0,S,M,rfl,aH.stepS (aH.refl _),h,ok,rfl⟩,?_⟩;rintro m σ H1 ⟨j,S1,M1,rfl,st,h1,ok1,rfl⟩;have el:((S1.rs.map V.ref).length:Int)=(M1.rows.length:Int):=by rw[length_map,h1.rr.len]
 refine⟨_,rfl,S1.ps,_,(by rw[st.ps]),h1.g_rows,S1.pr,_,rfl,.inl (SqL.of h1.rw),_,_,rfl,rfl,_,rfl,?_⟩;rw[el];by_cases hgt:(1:Int)<(M1.rows.length:Int)
 ·rw[decide_eq_true hgt];refine aU ⟨_,rfl,S1.ps,_,(by rw[st.ps]),h1.g_first,_,rfl,S1.ps,_,(by rw[st.ps]),h1.g_where,S1.pw,wsK M1.wh,rfl,h1.wh,λo=>?_⟩;have g0:upd H1 S1.pw (.frz o (.dK (wsK M1.wh))) S1.pw=some (.frz o (.dK (wsK M1.wh))):=aB;have u0:∀b u,H1 b=some u->b≠S1.pw->upd H1 S1.pw (.frz o (.dK (wsK M1.wh))) b=some u:=λb u e nb=>by rw[aF nb]; exact e
  have nps:S1.ps≠S1.pw:=(nds.mp h1.nd).ps.2.2.2.1;generalize upd H1 S1.pw (.frz o (.dK (wsK M1.wh)))=H2 at g0 u0 ⊢;have g_st:=u0 _ _ h1.st nps;have wl:(wsK M1.wh).length<=1000:=by
   have:=congrArg List.length ok1.wk;rw[length_map,length_map]at this;have:=ok1.cnt;unfold wsK;rw[length_map];omega
  refine c9 (GB g0) (le_trans wl (by decide)) (λi v _=>∃z,v = .int z) (λ_ _ _ _ _ h=>h) (λσ=>∃z,σ = [z,some (.ref S.ps)]) ⟨none,rfl⟩ ?_ ?_
  ·rintro i x σc H3 hi ⟨z,rfl⟩ s3 ⟨kk,v,ek,rfl⟩ Q' hQ';have hk:kk∈(wsK M1.wh).map (·.1):=mem_map.mpr ⟨_,mem_of_getElem? ek,rfl⟩;rw[AU]at hk;obtain⟨k,hk2,rfl⟩:=mem_map.mp hk;obtain⟨wk,ewk⟩:=qN hk2;have dg:cQ H3 S1.pw (.int k) (some (.int wk)):=.inl ⟨wsK M1.wh,Sum.inl k,.inr ⟨o,s3 _ _ g0⟩,rfl,by rw[sF,ewk]; rfl⟩;exact⟨_,rfl,S1.ps,_,(by rw[st.ps]),cQ.k (k:=Sum.inr "where") (s3 _ _ g_st),_,rfl,S1.pw,_,rfl,dg,hQ' _ _ _ ⟨_,rfl⟩ (aH.refl _) ⟨_,rfl⟩⟩
  intro D ys H3 hD s3 gD hlen hR;obtain⟨ns,rfl⟩:∃ns:Ls,ys=ns.map V.int:=by
   clear hlen gD;have:∀y∈ys,∃z,y=V.int z:=λy hy=>by
    obtain⟨i,hi⟩:=List.mem_iff_getElem?.mp hy;exact hR i y hi
   clear hR
   induction ys with
   | nil=>exact⟨[],rfl⟩
   | cons y ys ih=>
    obtain⟨ns,e⟩:=ih λz hz=>this z (mem_cons_of_mem _ hz);obtain⟨z,ez⟩:=this y mem_cons_self;exact⟨z::ns,by rw[map_cons,e,ez]⟩
  have nD:D≠S1.pw:=λz=>by rw[z,g0]at hD; cases hD
  have s4:aH H1 (upd H3 S1.pw (.dK (wsK M1.wh))):=λb u e=>by
   by_cases yb:b=S1.pw
   ·subst yb;rw[aB,<- e,h1.wh]
   ·rw[aF yb];exact s3 _ _ (u0 b u e yb)
  refine⟨S1.pw,o,_,s3 _ _ g0,⟨_,h1.wh⟩,?_⟩;have gD4:upd H3 S1.pw (.dK (wsK M1.wh)) D=some (.lst (ns.map V.int)):=by rw[aF nD]; exact gD
  generalize upd H3 S1.pw (.dK (wsK M1.wh))=H4 at s4 gD4 ⊢;have h4:=h1.same s4;refine⟨D,_,rfl,.inl (SqL.of gD4),rfl,nE _,_,rfl,?_⟩;rw[if_pos rfl,pK];cases hb:decide (M1.first∈ns) with
  | true=>exact bB ⟨_,rfl,q S1 M1 H4 _ (st.trans (aH.stepS s4)) h4 (ok1.mono (le_refl _) (by omega))⟩
  | false=>
   cases er:M1.rows with
   | nil=>exact absurd er ok1.ne
   | cons r rs=>
    refine aU ⟨λσ' H'=>∃j S1 M1,σ'=[some (.ref S.ps),some (.ref d),some (.ref se),some (.int most),some (.int hold),some (.int tries),some (.str y),none,none,none,none,none,some (.int j)]/\StepS S S1 H H'/\StAt H' S1 M1/\MsOk M1 c n/\M1.rows.length=rs.length,λσ' H' hh=>⟨rs.length,by rw[length_cons]; omega,hh⟩,?_⟩;refine⟨_,rfl,S1,M1,r,rs,(by rw[st.ps]),h4,er,λS2 H6 st6 h6=>?_⟩;refine⟨_,rfl,_,_,rfl,rfl,_,S2,_,rfl,st.trans ((aH.stepS s4).trans st6),h6,ok1.front er ?_,rfl⟩;intro z;rw[er,z]at hgt;exact absurd (show (1:Int)<1 from hgt) (by decide)
 ·rw[decide_eq_false hgt];refine bB (bB ?_);exact⟨_,rfl,q S1 M1 H1 _ st h1 (ok1.mono (le_refl _) (by omega))⟩
end
abbrev DW:Stmt:=top 79
def MsOk.addH(h:MsOk M c n)(hj:j∈M.ls.map (·.1))(nj:j ∉ M.hs.map (·.1))(ha:eG a.1):MsOk { M with hs:=iI M.hs j a } (c+1) n:=by
 have e:iI M.hs j a=M.hs++[(j,a)]:=BA a nj;rw[e];have af:=h.af;refine⟨⟨af.1,by show M.after<=9 * ((c+1:Nat):Int); omega⟩,h.so,h.lt,le_trans h.cnt (by omega),h.wk,?_,?_,λp hp=>?_,h.ne,h.rl,h.sg⟩
 ·show ((M.hs++[(j,a)]).map (·.1)).Nodup;rw[map_append,nodup_append];refine⟨h.hn,by simp,λx hx y hy=>?_⟩;rw[mem_singleton.mp (show y∈[j] from hy)];exact λz=>nj (by rw[<- z]; exact hx)
 ·show (M.hs++[(j,a)]).length<=c+1;rw[length_append];exact Nat.add_le_add_right h.hl 1
 ·have hp:p∈M.hs++[(j,a)]:=hp;rcases mem_append.mp hp with z | z
  ·exact h.hk p z
  ·rw[mem_singleton.mp z];exact⟨hj,ha⟩
def kN{H:Hp}{p:Addr}{ns:Ls}(g:H p=some (.lst (ns.map V.int))):Den H (.list (ns.map .int)) (.ref p):=by
 simp only[Den];exact⟨p,_,rfl,g,bR.mpr rfl⟩
def JT(h:eG x):x ≠ "":=λz=>by
 rw[z]at h;exact absurd h (by unfold eG; decide)
def vG(k:Int)(bss:Lq):L8:=fJ "part" k bss++[(("deal",k,[(bss.length:Int)]):Rw)]
inductive tI(vs:L6)(H:Hp)(Q:VK)(x_3:XK):Prop
 | mk:∀(S:Sl)(M:Ms)(t se:Addr)(d:mU)(args:L6)(most hold tries:Int)(c n:Nat),vs=[.ref S.ps,.ref t,.ref se]->StAt H S M->MsOk M c n->n<=70000->c<=49->H se=some (.tup [.int most,.int hold,.int tries])->H t=some (.tup (.str (cB d)::args))->aP H (cN d) args->yV eG d->IE S H (c+1) (n+1000) Q->tI vs H Q x_3
section
variable{P:Program}{w:World}{K:Ln}{mg:Lp}{base:Heap}{A:Ad}
def Gv{f:Addr}{fd:Lx}(F:Fun K "_law_told" "_law_told" DW f fd)(T:‹3›)(al2:‹15› "_law_put" 3 ["_law_state","_law_bodies","_law_most","_law_rows"] zA)(ab3:‹7›)(ac2:‹13›)(am3:‹15› "_law_given" 3 ["_law_state","_law_deed_here","_law_most"] qE)(am4:‹15› "_law_other" 3 ["_law_state","_law_deed_here","_law_settings_here"] qD):‹14› 4 f fd ["_law_state","_law_deed_here","_law_settings_here"] tI:=by
 refine F.okY ["_law_state","_law_deed_here","_law_settings_here","_law_most","_law_hold","_law_tries","_law_word","_law_first","_law_rows","_law_ready_here","_law_body","_law_times"] λcdv A' outer s H vs Q E hr nD0 h=>?_;obtain⟨S,M,t,se,d,args,most,hold,tries,c,n,rfl,h,ok,hn,hc,gs,gt,da,dok,q⟩:=h;refine⟨_,aA (uL (pv 2) (iK K (n:=3) (cJ ‹53› (cJ ‹71› (cJ (bG (i:=5) nD0 ⋯ ⋯) iJ)))))
  (aA (aX (i:=6) nD0 ⋯ ⋯ ‹20›)
  (aA (aX (i:=7) nD0 ⋯ ⋯ ‹21›)
  (aA (a8 ‹69›
   (aA (aY (bC al2 ‹18› aZ (aE (pv 0) (fH (cD ‹78›) (aE (pv 3) (fH (cD (bV (bE (aN bH (aE (pv 7) ‹78›))) aG)) aG))))))
   (aC (aQ (pv 7))))
   aO)
  (aA (a8 ‹69›
   (aA (lG (i:=8) ["_law_k","_law_body"] [("_law_first",7)] nD0 ⋯ ⋯ ⋯ (Gi K T.af9 ‹20›) (λC s2 H2 ex=>(iK K (n:=2) (cJ (bG (i:=0) (show List.Nodup (["_law_k","_law_body","_law_first"]:Lu) by decide +kernel) ⋯ (Or.inl ⋯)) (cJ (bG (i:=1) (show List.Nodup (["_law_k","_law_body","_law_first"]:Lu) by decide +kernel) ⋯ (Or.inl ⋯)) iJ)))) ‹40› (λC s2 H2 ex=>(bE (aN bH (bQ (bA cU (pv 2) (pv 0)) ‹26›)))))
   (aA (aY (bC al2 ‹18› aZ (aE (pv 0) (aM ‹20› (aE (pv 3) (bQ (bA Cc (pv 8) (cD (bV (bE (aN bH (aE (pv 7) (bV (bE (cG (bF (dD K) ⋯ T.ad1 fW ‹78›) aG)) aG)))) aG))) aG))))))
   (aC (aQ (uO ⋯ ⋯ T.as9 ⋯ T.ai5 (aE (pv 7) ‹89›))))))
   aO)
  (aA (a8 ‹69›
   (aA (aX (i:=9) nD0 ⋯ ⋯ (cF (cS K) (bC ac2 ‹18› aZ (aE (pv 0) (aE (pv 5) aG))) aI (λ_ _=>rfl)))
   (aA (a8 (aR (Cb hr.units) (pv 9) (cD aG) (bD _))
    ‹67›
    aO)
   (aA (aY (bC ab3 ‹18› aZ (aE (pv 0) (fH (cD (bV (bE (aN bH (aM ‹49› ‹46›))) aG)) ‹47›))))
   (aA (uL (dX (hu1 hr.units) ‹21› ‹49› (λ_ _=>rfl)) (iK K (n:=2) (cJ (bG (i:=10) nD0 ⋯ ⋯) (cJ (bG (i:=11) nD0 ⋯ ⋯) iJ))))
   (aA (fS (hu1 hr.units) ‹21› ‹49› (bE (aE (pv 10) (bQ (bA cU (pv 11) aI) aG))) ⋯)
   (aA (fS (hu1 hr.units) ‹21› ‹49› (bE (aM ‹20› ‹89›)) ⋯)
   (aC (aQ (bE (aM ‹49› (aE (pv 10) (bQ (bA cU (pv 11) aI) aG))))))))))))
   aO)
  (aA (a8 (aR (Ca K) (pv 6) (bE (aN bH ‹24›)) ⋯)
   (aC (aQ (bC am3 ‹18› aZ (aE (pv 0) (aE (pv 1) ‹47›)))))
   aO)
  (aC (aQ (bC am4 ‹18› aZ (aE (pv 0) (aE (pv 1) ‹37›))))))))))),?_⟩
 have cnt:=ok.cnt;have hl:=ok.hl;have wl:M.wh.length=M.ls.length:=by
  have:=congrArg List.length ok.wk;rw[length_map,length_map]at this;exact this
 obtain⟨y,ey⟩:∃y,y=cB d:=⟨_,rfl⟩;rw[<- ey]at gt;refine⟨_,rfl,se,_,rfl,SqT.of gs,rfl,_,_,rfl,_,_,rfl,_,_,rfl,rfl,_,rfl,t,_,_,.str y,rfl,rfl,SqT.of gt,aT (by decide) rfl,_,rfl,S.ps,_,rfl,h.g_after,?_⟩;refine⟨_,rfl,rfl,_,rfl,?_⟩;show if decide (V.str y=V.str "put")=true then _ else _
 by_cases e1:y = "put"
 ·rw[decide_eq_true (by rw[e1])];obtain⟨b,rfl⟩:∃b,d = .put b:=by
   rw[e1]at ey;cases d <;> first | exact⟨_,rfl⟩ | (dsimp only[cB]at ey; exact absurd ey (by decide))
  obtain⟨bok,bl⟩:=dok;simp only[cN,aP]at da;obtain⟨vb,r,rfl,db,rfl⟩:=da;simp only[Den]at db;obtain⟨pbv,zs,rfl,gb,dz⟩:=db;have ez:=bR.mp dz;subst ez;refine aU ⟨_,rfl,_,rfl,t,_,_,.ref pbv,rfl,rfl,SqT.of gt,aT (by decide) rfl,aJ,new_h λpb hpb H1 s1 g1=>?_⟩;refine⟨_,rfl,_,rfl,_,rfl,t,_,_,.ref pbv,rfl,rfl,SqT.of (s1 _ _ gt),aT (by decide) rfl,aJ,λp1 hp1=>⟨aJ,λp2 hp2=>?_⟩⟩;obtain⟨H2,eUU,s2,g2⟩:=gUU (o:=.tup [.str "put",.int M.after,.ref pbv]) hp1;rw[eUU]at hp2 ⊢;obtain⟨H3,eUU,s3,g3⟩:=gUU (o:=.lst [.ref p1]) hp2;rw[eUU];have S13:=s1.trans (s2.trans s3);have dbt:Den H3 (.tuple (b.map .int)) (.ref pbv):=by
   simp only[Den];exact⟨pbv,_,rfl,S13 _ _ gb,bR.mpr rfl⟩
  refine⟨S,M,pb,p2,[b],[.ref pbv],[("put",M.after,b)],[.ref p1],most,n,rfl,h.same S13,ok.ne,ok.rl,λs hs=>(ok.sg s hs).1,by show n+1<=90000; omega,by show M.wh.length+1<=90000; omega,g3,h.off ((s1.trans s2).free hp2),?_,.inl ((s2.trans s3) _ _ g1),h.off hpb,i6 dbt,by show M.ls.length+1<=90000; omega,λS' H' st h'=>?_⟩
  ·refine i6 ?_;unfold cC fM;simp only[Den,aP];exact⟨p1,_,rfl,s3 _ _ g2,_,_,rfl,rfl,_,_,rfl,rfl,_,_,rfl,⟨pbv,_,rfl,S13 _ _ gb,bR.mpr rfl⟩,rfl⟩
  ·exact⟨_,rfl,q S' _ H' _ ((aH.stepS S13).trans st) h' ((ok.put (w:="put") (bs:=[b]) (tl:=[]) (most:=most) rfl (λx hx=>by rw[mem_singleton.mp hx]; exact bl) (by show 1<=9; omega) (zero_le _) (λr hr=>by cases hr)).mono (le_refl _) (by omega))⟩
 rw[decide_eq_false (λe=>e1 (by injection e))];refine bB ⟨_,rfl,rfl,_,rfl,?_⟩;show if decide (V.str y=V.str "all")=true then _ else _
 by_cases e2:y = "all"
 ·rw[decide_eq_true (by rw[e2])];obtain⟨bss,rfl⟩:∃bss,d = .all bss:=by
   rw[e2]at ey;cases d <;> first | exact⟨_,rfl⟩ | (dsimp only[cB]at ey; exact absurd ey (by decide))
  obtain⟨b1,b9,bok⟩:=dok;simp only[cN,aP]at da;obtain⟨va,r,rfl,dva,rfl⟩:=da;simp only[Den]at dva;obtain⟨a,xs,rfl,ha,dxs⟩:=dva;have lb:(dZ bss).length=bss.length:=length_map _;have lx:=dxs.length;rw[lb]at lx;refine aU ⟨_,rfl,t,_,_,.ref a,rfl,rfl,SqT.of gt,aT (by decide) rfl,a,_,rfl,SqT.of ha,?_⟩;refine c9 (tH (K:=K) 0 (SqT.of ha)) (by rw[lx]; exact le_trans b9 (by decide)) (λi y H'=>Den H' (cC ("part",M.after+(i:Int),bss.getD i [])) y) (λi y G1 G2 s h=>h.n s (lD _ _ _)) (λσ=>∃z1 z2,σ = [z1,z2,some (.int M.after)]) ⟨none,none,rfl⟩ ?_ ?_
  ·intro i x σc H3 hi hσ s3 hx Q' hQ';obtain⟨z1,z2,rfl⟩:=hσ;obtain⟨p,u,rfl,hp,hv⟩:=hx;obtain⟨e,he,dn⟩:=dxs.get hv;rw[lx]at hi;have eb:bss[i]? = some (bss.getD i []):=by rw[getD_eq_getElem?_getD,getElem?_eq_getElem hi]; rfl
   unfold dZ at he;rw[getElem?_map,eb]at he;cases (Option.some.inj he:PyData.tuple ((bss.getD i []).map .int)=e);refine⟨p,_,rfl,SqT.of hp,rfl,_,_,rfl,_,_,rfl,rfl,?_⟩;refine⟨_,rfl,_,rfl,_,_,rfl,rfl,_,rfl,aJ,λpt hpt=>?_⟩;have ei:M.after+(0+(i:Int))=M.after+(i:Int):=by omega
   refine hQ' _ _ _ ⟨_,_,rfl⟩ (aD hpt) ?_;show Den (upd H3 pt (.tup [.str "part",.int (M.after+(0+(i:Int))),u])) _ _;rw[ei];unfold cC fM;simp only[Den,aP];refine⟨pt,_,rfl,aB,_,_,rfl,rfl,_,_,rfl,rfl,_,_,rfl,?_,rfl⟩;have:=dn.same (s3.trans (aD (o:=.tup [.str "part",.int (M.after+(i:Int)),u]) hpt));simp only[Den]at this;exact this
  intro D ys H2 hD S2 gD hlen hR;rw[lx]at hlen;have gt2:=S2 _ _ gt;have ha2:=S2 _ _ ha;refine⟨_,rfl,_,rfl,t,_,_,.ref a,rfl,rfl,SqT.of gt2,aT (by decide) rfl,_,rfl,_,rfl,_,rfl,_,rfl,t,_,_,.ref a,rfl,rfl,SqT.of gt2,aT (by decide) rfl,a,_,rfl,.inr (SqT.of ha2),aJ,λt1 ht1=>⟨aJ,λt2 ht2=>⟨aJ,λl3 hl3=>?_⟩⟩⟩;rw[lx]at ht2 hl3 ⊢;obtain⟨H3,eUU,U1,u1⟩:=gUU (o:=.tup [.int (bss.length:Int)]) ht1;rw[eUU]at ht2 hl3 ⊢;obtain⟨H4,eUU,U2,u2⟩:=gUU (o:=.tup [.str "deal",.int M.after,.ref t1]) ht2;rw[eUU]at hl3 ⊢;obtain⟨H5,eUU,U3,u3⟩:=gUU (o:=.lst [.ref t2]) hl3;rw[eUU];have S25:=U1.trans (U2.trans U3);refine⟨D,l3,ys,_,rfl,rfl,S25 _ _ gD,u3,?_,λpc hpc=>?_⟩
  ·rw[hlen];exact le_trans (show _<=10 by simp; omega) (by decide)
  obtain⟨H6,eUU,U4,u4⟩:=gUU (o:=.lst (ys++[.ref t2])) hpc;rw[eUU];have S26:=S25.trans U4;have S06:=S2.trans S26;have na:a ∉ stL S:=λz=>by
   obtain⟨o,e,nt⟩:=h.here z;rw[ha]at e;cases e;exact nt _ rfl
  have plen:(vG M.after bss).length=bss.length+1:=by
   unfold vG;rw[length_append,kG];rfl
  refine⟨S,M,a,pc,bss,xs,vG M.after bss,ys++[.ref t2],most,n,rfl,h.same S06,ok.ne,ok.rl,λs hs=>(ok.sg s hs).1,by rw[plen]; omega,by rw[plen]; omega,u4,h.off ((S2.trans S25).free hpc),?_,.inr (S06 _ _ ha),na,dxs.same S06,by omega,λS' H' st h'=>?_⟩
  ·unfold vG;rw[map_append];refine aP.app (jK (by rw[length_map,kG,hlen]) λi y e=>?_) (i6 ?_)
   ·have hi:i<bss.length:=by
     have:=(List.getElem?_eq_some_iff.mp e).1;omega
    have eb:bss[i]? = some (bss.getD i []):=by rw[getD_eq_getElem?_getD,getElem?_eq_getElem hi]; rfl
    refine⟨_,?_,(hR i y e).same S26⟩;rw[getElem?_map,xV eb];rfl
   ·unfold cC fM;simp only[Den,aP,map_cons,map_nil];exact⟨t2,_,rfl,U4 _ _ (U3 _ _ u2),_,_,rfl,rfl,_,_,rfl,rfl,_,_,rfl,⟨t1,_,rfl,U4 _ _ (U3 _ _ (U2 _ _ u1)),_,_,rfl,rfl,rfl⟩,rfl⟩
  ·have st':=(aH.stepS S06).trans st;have okp:MsOk (CV M bss (vG M.after bss) most) (c+1) (n+11):=ok.put (w:="part") (bs:=bss) (tl:=[("deal",M.after,[(bss.length:Int)])]) (most:=most) rfl (λx hx=>(bok x hx).2) b9 (le_refl _) (λr hr=>by rw[mem_singleton.mp hr]; exact⟨rfl,by show 1<=61; omega⟩);have ea:(CV M bss (vG M.after bss) most).after=M.after+(bss.length:Int):=by
    unfold CV;rw[(vK bss _).1,(fX M _ most).2.2.1]
   have af:=ok.af;generalize CV M bss (vG M.after bss) most=M' at h' okp ea;refine⟨_,rfl,_,rfl,S'.ps,_,(by rw[st'.ps]),h'.g_after,_,_,rfl,?_,?_,λp hp=>?_⟩
   ·rw[ea];exact⟨by omega,by omega,by omega,by omega⟩
   ·rw[ea];exact le_trans (show _<=9 by omega) (by decide)
   ·have sp:=aD (o:=.lst ((List.range (M'.after - M.after).toNat).map λk=>.int (M.after+(k:Nat)))) hp;exact q S' M' _ _ (st'.trans (aH.stepS sp)) (h'.same sp) (okp.mono (le_refl _) (by omega))
 rw[decide_eq_false (λe=>e2 (by injection e))];refine bB ⟨_,rfl,rfl,_,rfl,?_⟩;show if decide (V.str y=V.str "take")=true then _ else _
 by_cases e3:y = "take"
 ·rw[decide_eq_true (by rw[e3])];obtain⟨x,rfl⟩:∃x,d = .take x:=by
   rw[e3]at ey;cases d <;> first | exact⟨_,rfl⟩ | (dsimp only[cB]at ey; exact absurd ey (by decide))
  have xok:eG x:=dok;simp only[cN,aP,Den]at da;obtain⟨_,_,rfl,rfl,rfl⟩:=da;refine aU ⟨_,rfl,_,rfl,S,M,tries,rfl,h,ok.so,by omega,λp p1 p2 H1 s1 gp g1 g2 f1 f2=>?_⟩;have hsm:∀j∈jS M tries,j∈M.ls.map (·.1)/\j ∉ M.hs.map (·.1):=λj hj=>by
   have:=mem_filter.mp ‹54›;exact⟨this.1,of_decide_eq_true this.2⟩
  generalize jS M tries=rd at g1 hsm;refine⟨p,_,_,.ref p1,rfl,rfl,SqT.of gp,aT (by decide) rfl,?_⟩;refine⟨_,rfl,aJ,new_o λpe H2 s2 g3=>?_⟩;refine⟨.list (rd.map .int),.list (([]:Ls).map .int),kN (s2 _ _ g1),kN (ns:=[]) g3,cX _,cX _,_,rfl,?_⟩;rw[kJ];have S12:=s1.trans s2;have h2:=h.same S12;cases rd with
  | nil=>exact aU (q S M H2 _ (aH.stepS S12) h2 (ok.mono (by omega) (by omega)))
  | cons j rd=>
   refine bB ⟨_,rfl,_,rfl,p1,_,_,.int j,rfl,rfl,SqL.of (s2 _ _ g1),aT (by decide) rfl,aJ,λq0 hq0=>⟨aJ,λq1 hq1=>⟨aJ,λq2 hq2=>⟨_,rfl,?_⟩⟩⟩⟩;refine zP (E:=E0) h2 ok (by omega) (by omega) (λS1 H3 st3 h3=>?_) hq0 hq1 hq2;have ok1:=ok.write1 (r:=("out",j,[])) (most:=most) (zero_le _) (λz=>by cases z);obtain⟨w1,w2,w3,w4,w5⟩:=fX M [("out",j,[])] most;generalize eI M [("out",j,[])] most=M1 at h3 ok1 w1 w2 w3 w4 w5;have st:=(aH.stepS S12).trans st3;have np1:p1 ∉ stL S:=h.off f1;have g13:=st3.frm _ _ (s2 _ _ g1) np1;have np3:p1 ∉ stL S1:=st3.not (s2 _ _ g1) np1;have gt3:=st.tup _ _ gt;obtain⟨hjl,hjh⟩:=hsm j mem_cons_self;rw[<- w1]at hjl;rw[<- w2]at hjh;obtain⟨kl3,a1,a2⟩:=h3.ls;obtain⟨a,v,ha,ev,tt,b,ev2,gtt,gb⟩:=a2.look hjl;have dg:=cQ.k (k:=Sum.inl j) a1;rw[ev,ev2]at dg;have hbl:a.1.length<=60:=(ok1.lt _ ha).2.2;have cn1:=ok1.cnt;have hl1:=ok1.hl;refine⟨_,rfl,S1.ps,_,(by rw[st.ps]),h3.g_letters,_,rfl,p1,_,_,.int j,rfl,rfl,SqL.of g13,aT (by decide) rfl,S1.pl,_,rfl,dg,tt,_,rfl,SqT.of gtt,rfl,_,_,rfl,_,_,rfl,rfl,?_⟩;refine⟨_,rfl,_,rfl,_,_,rfl,rfl,aJ,new_o λpt H4 s4 g4=>?_⟩;have h4:=h3.same s4;obtain⟨kl4,a5,a6⟩:=h4.ls;refine⟨_,rfl,S1.ps,_,(by rw[st.ps]),h4.g_letters,_,rfl,p1,_,_,.int j,rfl,rfl,SqL.of (s4 _ _ g13),aT (by decide) rfl,S1.pl,_,rfl,kP.k (k:=Sum.inl j) a5 (by rw[a6.len]; exact lt_of_le_of_lt ‹63› (by decide)),?_⟩;have h5:=h4.setL (a6.put (n:=j) (a:=(a.1,a.2+1)) (v:=.ref pt) ⟨pt,b,rfl,g4,s4 _ _ gb⟩);have st5:=(aH.stepS s4).trans (bX h4 HD (.dK (eF kl4 (Sum.inl j) (.ref pt))));have ok5:=ok1.setL1 (a:=(a.1,a.2+1)) hjl hbl;have hjl5:j∈(iI M1.ls j (a.1,a.2+1)).map (·.1):=by rw[xT _ hjl]; exact hjl
   generalize upd H4 S1.pl (.dK (eF kl4 (Sum.inl j) (.ref pt)))=H5 at h5 st5 ⊢;have g15:=st5.frm _ _ g13 np3;have gt5:=st5.tup _ _ gt3;refine⟨_,rfl,t,_,_,.str x,rfl,rfl,SqT.of gt5,aT (by decide) rfl,_,rfl,S1.ps,_,(by rw[st.ps]),h5.g_time,aJ,λph hph=>?_⟩;have s6:=aD (o:=.tup [.str x,.int M1.time]) hph;have g6:upd H5 ph (.tup [.str x,.int M1.time]) ph=some (.tup [.str x,.int M1.time]):=aB;have hM5:({ M1 with ls:=iI M1.ls j (a.1,a.2+1) }:Ms).time=M1.time:=rfl;rw[hM5];generalize upd H5 ph (.tup [.str x,.int M1.time])=H6 at s6 g6 ⊢;have h6:=h5.same s6;obtain⟨kh6,b3,b4⟩:=h6.hs;refine⟨_,rfl,S1.ps,_,(by rw[st.ps]),h6.g_hands,_,rfl,p1,_,_,.int j,rfl,rfl,SqL.of (s6 _ _ g15),aT (by decide) rfl,S1.ph,_,rfl,kP.k (k:=Sum.inl j) b3 (by rw[b4.len]; exact lt_of_le_of_lt (show _<=1000 by show M1.hs.length<=1000; omega) (by decide)),?_⟩;have h7:=h6.setH (b4.put (n:=j) (a:=(x,M1.time)) (v:=.ref ph) ⟨ph,rfl,g6⟩);have st7:=(aH.stepS s6).trans (bX h6 JM (.dK (eF kh6 (Sum.inl j) (.ref ph))));have ok7:=ok5.addH (j:=j) (a:=(x,M1.time)) hjl5 hjh xok;generalize upd H6 S1.ph (.dK (eF kh6 (Sum.inl j) (.ref ph)))=H7 at h7 st7 ⊢;have g17:=st7.frm _ _ g15 np3;refine⟨_,rfl,p1,_,_,.int j,rfl,rfl,SqL.of g17,aT (by decide) rfl,_,rfl,_,rfl,_,_,rfl,rfl,aJ,λpz hpz=>?_⟩;have s8:=aD (o:=.tup [.int j,.ref b,.int (a.2+1)]) hpz;exact q S1 _ _ _ (st.trans (st5.trans (st7.trans (aH.stepS s8)))) (h7.same s8) (ok7.mono (le_refl _) (by omega))
 rw[decide_eq_false (λe=>e3 (by injection e))];refine bB ⟨_,rfl,aJ,new_o λpk H1 s1 g1=>?_⟩;have h1:=h.same s1;refine⟨pk,_,rfl,.inr (SqT.of g1),rfl,rfl,_,rfl,?_⟩;show if inV (V.str y) [V.str "done",V.str "back"]=true then _ else _
 cases hb:inV (V.str y) [V.str "done",V.str "back"] with
 | true=>
  obtain⟨x,k,hargs,xok⟩:∃x k,args=[.str x,.int k]/\eG x:=by
   rw[ey]at hb;cases d <;> first | (simp only[cN,aP,Den]at da; obtain⟨_,_,rfl,rfl,_,_,rfl,rfl,rfl⟩:=da; exact⟨_,_,rfl,dok.1⟩) | (dsimp only[cB]at hb; exact absurd hb (by decide))
  subst hargs;exact aU ⟨_,rfl,_,rfl,_,rfl,S,M,t,most,y,x,k,c,n,rfl,h1,ok,by omega,by omega,s1 _ _ gt,JT xok,λS' M' H' v st h' ok'=>q S' M' H' v ((aH.stepS s1).trans st) h' (ok'.mono (by omega) (by omega))⟩
 | false=>
  refine bB ⟨_,rfl,_,rfl,_,rfl,S,M,t,se,most,hold,tries,y,args,c,n,rfl,h1,ok,hn,by omega,s1 _ _ gs,s1 _ _ gt,λz=>?_,λz=>?_,λS' M' H' v st h' ok'=>q S' M' H' v ((aH.stepS s1).trans st) h' (ok'.mono (by omega) (by omega))⟩
  ·rw[z]at ey;cases d <;> first | (simp only[cN,aP,Den]at da; obtain⟨_,_,rfl,rfl,rfl⟩:=da; exact⟨_,rfl⟩) | (dsimp only[cB]at ey; exact absurd ey (by decide))
  ·rw[z]at ey;cases d <;> first | (simp only[cN,aP,Den]at da; obtain⟨_,_,rfl,rfl,rfl⟩:=da; exact⟨_,rfl⟩) | (dsimp only[cB]at ey; exact absurd ey (by decide))
end
abbrev Dc:Stmt:=top 73
def mJ(x m:Int):Int:=if x / 5 % 2=0 then x / 7 % (m+1) else x / 7 % 4
def By(x:Int)(k:Nat):Int:=if (k:Int) % 2=0 then Dp (oS x k) 256 else x / 11 % 3 * 100
def jV(x m:Int):Ls:=(List.range (mJ x m).toNat).map (By x)
def Dx(h0:0<=m):0<=mJ x m/\(mJ x m<=m\/mJ x m<=3):=by
 unfold mJ;have h1:=emod_nonneg (x / 7) (show m+1≠0 by omega);have h2:=emod_lt_of_pos (x / 7) (show 0<m+1 by omega);split <;> omega
def yO(h:3<=m)(h2:m<=60):(jV x m).length<=60:=by
 unfold jV;rw[length_map,length_range];have:=Dx (x:=x) (m:=m) (by omega);omega
def Bx(x m:Int):dQ (jV x m):=by
 intro b hb;unfold jV at hb;obtain⟨k,_,e⟩:=mem_map.mp hb;rw[<- e];unfold By Dp;split
 ·have h1:=emod_nonneg (oS x k / 97) (show (256:Int)≠0 by decide);have h2:=emod_lt_of_pos (oS x k / 97) (show (0:Int)<256 by decide);omega
 ·have h1:=emod_nonneg (x / 11) (show (3:Int)≠0 by decide);have h2:=emod_lt_of_pos (x / 11) (show (0:Int)<3 by decide);omega
inductive tQ(vs:L6)(H:Hp)(Q:VK)(x_3:XK):Prop
 | mk:∀(x m:Int),vs=[.int x,.int m]->0<=m->m<=1000->(∀p H',aH H H'->H' p=some (.tup ((jV x m).map V.int))->Q (.ref p) H')->tQ vs H Q x_3
section
variable{P:Program}{w:World}{K:Ln}{mg:Lp}{base:Heap}{A:Ad}
def G4(F:Fun K "_law_bytes" "_law_bytes" Dc f fd)(T:‹3›)(ab5:‹10›)(af2:‹15› "_law_pick" 1 ["_law_seed_here","_law_many"] sK) :
  ‹14› 2 f fd ["_law_seed_here","_law_most"] tQ:=by
 refine F.okY ["_law_seed_here","_law_most","_law_many"] λcdv A' outer s H vs Q E hr nD0 h=>?_;obtain⟨x,m,rfl,m0,m9,q⟩:=h;refine⟨_,aA (aX (i:=2) nD0 ⋯ ⋯ (cF (cK K) (cD (bQ (bA dU (bA m7 (pv 0) aI) (bA cU (pv 1) aI)) (bQ (bA dU (bA m7 (pv 0) aI) aI) aG))) (bA dU (bA m7 (pv 0) aI) aI) (λ_ _=>rfl)))
  (aC (aQ (kF (mQ K) ⋯ T.ai4 pT (dY (dC ["_law_k"] [("_law_seed_here",0)] ⋯ (qJ ⋯ T.ai5 ‹37›) (λC s2 H2 ex=>(bG (i:=0) (show List.Nodup (["_law_k","_law_seed_here"]:Lu) by decide +kernel) ⋯ (Or.inl ⋯))) ‹40› (λC s2 H2 ex=>(cF (cK K) (cD (cG (bC af2 ‹18› aZ (cG (bC ab5 ‹18› aZ (aE (pv 1) ‹34›)) ‹35›)) (bQ (bA mG ‹27› aI) aG))) (bA dU (pv 0) aI) (λ_ _=>rfl)))) aG)))),?_⟩
 have d0:=emod_nonneg (x / 5) (show (2:Int)≠0 by decide);have d1:=emod_lt_of_pos (x / 5) (show (0:Int)<2 by decide);obtain⟨b0,b1⟩:=Dx (x:=x) m0;refine⟨_,rfl,_,_,rfl,rfl,⟨by decide,by decide⟩,_,rfl,_,_,rfl,rfl,_,_,rfl,rfl,(by show (0:Int)<m+1; omega),_,rfl,_,_,rfl,rfl,⟨by decide,by decide⟩,_,_,rfl,rfl,(by show (0:Int)<4; decide),(by show 2<=sizeLine; decide),λp1 hp1=>?_⟩;refine⟨_,rfl,_,_,rfl,rfl,⟨by decide,by decide⟩,_,_,rfl,rfl,(by show (0:Int)<2; decide),p1,_,_,.int (mJ x m),rfl,rfl,SqL.of aB,aT d0 ?_,?_⟩
 ·unfold mJ;by_cases h:x / 5 % 2=0
  ·rw[h,if_pos rfl];rfl
  ·have h1:x / 5 % 2=1:=by omega
   rw[h1,if_neg (by decide)];rfl
 have S1:aH H _:=aD (o:=.lst [V.int (x / 7 % (m+1)),V.int (x / 7 % 4)]) hp1;refine⟨_,rfl,mJ x m,rfl,by omega,by omega,?_⟩;refine c9 (pY (H:=upd H p1 (.lst [V.int (x / 7 % (m+1)),V.int (x / 7 % 4)])) 0 (mJ x m).toNat) ?zl (λi y _=>y = .int (By x i)) (λ_ _ _ _ _ h=>h) (λσ=>∃z,σ = [z,some (.int x)]) ?z0 ?_ ?_
 case zl=>exact le_trans (show (mJ x m).toNat<=1003 by omega) (by decide)
 case z0=>exact⟨none,rfl⟩
 ·intro i y σc H3 hi hσ s3 hx Q' hQ';obtain⟨z,rfl⟩:=hσ;subst hx;have e0:(0:Int)+(i:Int)=i:=by omega
  have i0:=emod_nonneg (i:Int) (show (2:Int)≠0 by decide);have i1:=emod_lt_of_pos (i:Int) (show (0:Int)<2 by decide);refine⟨_,rfl,_,rfl,x,_,rfl,_,256,rfl,by decide,?_⟩;refine⟨_,rfl,_,_,rfl,rfl,⟨by decide,by decide⟩,_,_,rfl,rfl,(by show (0:Int)<3; decide),_,_,rfl,rfl,.inr ⟨by decide,by decide⟩,(by show 2<=sizeLine; decide),λp2 hp2=>?_⟩;refine⟨_,rfl,_,_,rfl,rfl,(by show (0:Int)<2; decide),p2,_,_,.int (By x i),rfl,rfl,SqL.of aB,?_,?_⟩
  ·rw[e0];refine aT i0 ?_;unfold By;by_cases h:(i:Int) % 2=0
   ·rw[h,if_pos rfl];rfl
   ·have h1:(i:Int) % 2=1:=by omega
    rw[h1,if_neg (by decide)];rfl
  ·exact hQ' _ _ _ ⟨_,rfl⟩ (aD hp2) rfl
 ·intro D ys H' hD s' hD' hlen hR;have ey:ys=(jV x m).map V.int:=by
   unfold jV;apply ext_getElem?;intro i;cases e:ys[i]? with
   | none=>
    have:ys.length<=i:=List.getElem?_eq_none_iff.mp e;rw[getElem?_eq_none (by rw[length_map,length_map,length_range]; omega)]
   | some y=>
    have hi:i<(mJ x m).toNat:=by
     have:=(List.getElem?_eq_some_iff.mp e).1;omega
    rw[hR i y e,getElem?_map,getElem?_map,getElem?_range hi];rfl
  refine⟨D,_,rfl,.inl ⟨SqL.of hD',λl hl=>?_⟩⟩;refine q l _ ((S1.trans s').trans (aD hl)) ?_;rw[aB,ey]
end
abbrev DZ:Stmt:=top 83
def JU(h0:0<=i)(h3:i<3):∃x,atI [V.str "a",V.str "b",V.str "hhhhhz"] i=some (.str x)/\eG x:=by
 have:i=0\/i=1\/i=2:=by omega
 rcases this with rfl | rfl | rfl
 ·exact⟨_,rfl,.inl rfl⟩
 ·exact⟨_,rfl,.inr (.inl rfl)⟩
 ·exact⟨_,rfl,.inr (.inr rfl)⟩
def tD(ns:Ls):iA (.tuple (ns.map .int))=true:=by
 show cY (ns.map .int)=true
 induction ns with
 | nil=>rfl
 | cons x b ih=>exact ih
def CF(h0:0<=i)(h3:i<2):∃x,atI [V.int a,V.int b] i=some (.int x)/\(x=a\/x=b):=by
 have:i=0\/i=1:=by omega
 rcases this with rfl | rfl
 ·exact⟨_,rfl,.inl rfl⟩
 ·exact⟨_,rfl,.inr rfl⟩
def md{i j:Int}(h:0<j):0<=i % j/\i % j<j:=⟨emod_nonneg i (by omega),emod_lt_of_pos i h⟩
def EC{ns:Ls}{i:Int}(h0:0<=i)(h:i<(ns.length:Int)):∃x∈ns,atI (ns.map V.int) i=some (.int x):=by
 have hi:i.toNat<ns.length:=by omega
 exact⟨ns[i.toNat],List.getElem_mem hi,aT h0 (by rw[getElem?_map,getElem?_eq_getElem hi]; rfl)⟩
inductive tL(vs:L6)(H:Hp)(Q:VK)(x_3:XK):Prop
 | mk:∀(S:Sl)(M:Ms)(x tries:Int)(c n:Nat),vs=[.ref S.ps,.int x,.int tries]->StAt H S M->MsOk M c n->c<=50->(∀d t args H',aH H H'->H' t=some (.tup (.str (cB d)::args))->aP H' (cN d) args->yV eG d->Q (.ref t) H')->tL vs H Q x_3
section
variable{P:Program}{w:World}{K:Ln}{mg:Lp}{base:Heap}{A:Ad}
def Gy{f:Addr}{fd:Lx}(F:Fun K "_law_deed" "_law_deed" DZ f fd)(T:‹3›)(af2:‹15› "_law_pick" 1 ["_law_seed_here","_law_many"] sK)(ac2:‹13›)(ah6:‹15› "_law_bytes" 2 ["_law_seed_here","_law_most"] tQ)(ab5:‹10›):‹14› 3 f fd ["_law_state","_law_seed_here","_law_tries"] tL:=by
 refine F.okY ["_law_state","_law_seed_here","_law_tries","_law_pick_here","_law_some","_law_dead","_law_number","_law_hand","_law_many"] λcdv A' outer s H vs Q E hr nD0 h=>?_;obtain⟨S,M,x,tries,c,n,rfl,h,ok,hc,q⟩:=h;refine⟨_,aA (aX (i:=3) nD0 ⋯ ⋯ (bC af2 ‹18› aZ (aE (pv 1) ‹35›)))
  (aA (aX (i:=4) nD0 ⋯ ⋯ (bF (gI ⋯) ⋯ T.ae5 gS ‹89›))
  (aA (aX (i:=5) nD0 ⋯ ⋯ (cF (cS K) (bC ac2 ‹18› aZ (aE (pv 0) ‹37›)) aI (λ_ _=>rfl)))
  (aA (aX (i:=6) nD0 ⋯ ⋯ (bA dU ‹30› (bA cU ‹21› aI)))
  (aA (aX (i:=7) nD0 ⋯ ⋯ (cF (cK K) (cD ‹87›) ‹27› (λ_ _=>rfl)))
  (aA (a8 ‹70›
   (aC (aQ (bE (aN bH (cG (bC ah6 ‹18› aZ (cG (bC ab5 ‹18› aZ (aE (pv 1) ‹35›)) (aM ‹80› aG))) aG)))))
   aO)
  (aA (a8 (aR fK (pv 3) aI (bD _))
   (aA (aX (i:=8) nD0 ⋯ ⋯ (bA cU aI (bA dU ‹30› ‹80›)))
   (aC (aQ (bE (aN bH (cG (kF (mQ K) ⋯ T.ai4 pT (dY (dC ["_law_k"] [("_law_seed_here",1)] ⋯ (qJ ⋯ T.ai5 (aE (pv 8) aG)) (λC s2 H2 ex=>(bG (i:=0) (show List.Nodup (["_law_k","_law_seed_here"]:Lu) by decide +kernel) ⋯ (Or.inl ⋯))) ‹40› (λC s2 H2 ex=>(bC ah6 ‹18› aZ (cG (bC ab5 ‹18› aZ (aE (pv 1) ‹34›)) ‹35›)))) aG)) aG))))))
   aO)
  (aA (a8 ‹70›
   (aC (aQ (bE (aN bH (aE (pv 7) aG)))))
   aO)
  (aA (a8 ‹70›
   (aA (a8 (lF (aR (mF hr.units) (pv 4) (cD aG) (bD _)) (iH (aR nK ‹27› aI (bD _)))).pt
    (aA (aX (i:=6) nD0 ⋯ ⋯ (cF (cK K) (pv 4) (bA dU ‹30› (bF (dD K) ⋯ T.ad1 fW ‹65›)) (λ_ _=>rfl)))
    (aC (aX (i:=7) nD0 ⋯ ⋯ (cF (cS K) (dX (hu1 hr.units) ‹21› (pv 6) (λ_ _=>rfl)) aI (λ_ _=>rfl)))))
    aO)
   (aC (aQ (bE (aM (cF (cK K) (cD (aN bH ‹87›)) (bA i4 (pv 3) aI) (λ_ _=>rfl)) (aE (pv 7) (aE (pv 6) aG)))))))
   aO)
  (aA (a8 (aR fK (pv 3) aI (bD _))
   (aC (aQ (bE (aN bH (Gq (BD (lF (aR (mF hr.units) (pv 5) (cD aG) (bD _)) (iH (aR nK ‹27› aI (bD _)))).pt (cF (cK K) (pv 5) (bA dU ‹30› (bF (dD K) ⋯ T.ad1 fW (aE (pv 5) aG))) (λ_ _=>rfl)) (pv 6)) aG)))))
   aO)
  (aC (aQ (cF (cK K) (cD (bV (bE (aN bH (bQ (bA cU aI (bA dU ‹30› (cF (cK K) (cD (aN aI ‹35›)) (kF yM ⋯ T.ba5 DB (uQ (gA fK ‹27› aI (bD _)) aG)) (λ_ _=>rfl)))) aG))) (bV (bE ‹24›) (bV (bE ‹24›) aG)))) (bA i4 (pv 3) aI) (λ_ _=>rfl))))))))))))),?_⟩
 have cnt:=ok.cnt;have hl:=ok.hl;have af:=ok.af;obtain⟨kh,l3,l4⟩:=h.hs;refine⟨_,rfl,x,16,rfl,by decide,?_⟩;obtain⟨pk,epk⟩:∃pk,pk=Dp x 16:=⟨_,rfl⟩;have pk0:0<=pk/\pk<16:=by rw[epk]; exact md (by decide)
 rw[<- epk];refine⟨_,rfl,S.ps,_,rfl,h.g_hands,S.ph,kh,M.hs.map (·.1),rfl,l3,l4.keys,.inl (by rw[length_map]; omega),by rw[length_map]; omega,λps ms perm pw hps=>?_⟩;have lms:ms.length<=1000:=by rw[perm.length_eq,length_map]; omega
 have mk:∀k∈ms,k∈M.hs.map (·.1):=λk hk=>perm.mem_iff.mp hk;obtain⟨H1,eUU,s1,g1⟩:=gUU (o:=.lst (ms.map V.int)) hps;rw[eUU];have h1:=h.same s1;refine⟨_,rfl,_,rfl,S,M,tries,rfl,h1,ok.so,by omega,λp pq1 pd H2 s2 gp gq1 gpd fq1 fpd=>⟨p,_,_,.ref pd,rfl,rfl,SqT.of gp,aT (by decide) rfl,?_⟩⟩;have hdl:∀j∈((rC M).filter λn=>decide (n ∉ jS M tries)),j∈M.ls.map (·.1):=λj hj=>(mem_filter.mp ‹54›).1;generalize ((rC M).filter λn=>decide (n ∉ jS M tries))=dl at gpd hdl;have h2:=h1.same s2;have lsb:∀j∈M.ls.map (·.1),0<=j/\j<=999999:=λj hj=>by
  obtain⟨p,hp,e⟩:=mem_map.mp hj;have:=ok.lt p hp;omega
 obtain⟨nu,enu⟩:∃nu,nu=x / 7 % (M.after+1):=⟨_,rfl⟩;have nu0:0<=nu/\nu<=999999:=by
  have:=md (i:=x / 7) (show 0<M.after+1 by omega);rw[enu];omega
 refine⟨_,rfl,_,_,rfl,rfl,⟨by decide,by decide⟩,_,rfl,S.ps,_,rfl,h2.g_after,_,_,rfl,rfl,_,_,rfl,rfl,(by show 0<M.after+1; omega),?_⟩;show rV 6 (V.int (x / 7 % (M.after+1))) _ _ _;rw[<- enu];refine⟨aJ,new_o λp3 H3 s3 g3=>?_⟩;obtain⟨hd,ehd,hok⟩:=JU (i:=x / 11 % 3) (md (by decide)).1 (md (by decide)).2;refine⟨_,rfl,_,_,rfl,rfl,⟨by decide,by decide⟩,_,_,rfl,rfl,(by show (0:Int)<3; decide),p3,_,_,.str hd,rfl,rfl,SqL.of g3,ehd,?_⟩;have S3:=s1.trans (s2.trans s3);have h3:=h2.same s3;have g13:=(s2.trans s3) _ _ g1;have gd3:=s3 _ _ gpd;refine⟨_,rfl,_,_,rfl,rfl,_,rfl,?_⟩;by_cases c1:pk<3
 ·rw[decide_eq_true c1];refine aU ⟨_,rfl,x,1,rfl,aJ,new_o λp4 H4 s4 g4=>?_⟩;obtain⟨mm,em,hm⟩:=CF (a:=20) (b:=60) (i:=x / 17 % 2) (md (by decide)).1 (md (by decide)).2;refine⟨_,rfl,_,_,rfl,rfl,⟨by decide,by decide⟩,_,_,rfl,rfl,(by show (0:Int)<2; decide),p4,_,_,.int mm,rfl,rfl,SqL.of g4,em,oS x 1,mm,rfl,by omega,by omega,λpb H5 s5 gb=>⟨aJ,λpt hpt=>?_⟩⟩;have s6:=aD (o:=.tup [.str "put",.ref pb]) hpt;refine q (.put (jV (oS x 1) mm)) pt [.ref pb] _ (S3.trans (s4.trans (s5.trans s6))) aB ?_ ⟨Bx _ _,yO (by omega) (by omega)⟩;simp only[cN,aP,Den];exact⟨_,_,rfl,⟨pb,_,rfl,s6 _ _ gb,bR.mpr rfl⟩,rfl⟩
 rw[decide_eq_false c1];refine bB ⟨_,rfl,rfl,_,rfl,?_⟩;show if decide (V.int pk=V.int 3)=true then _ else _
 by_cases c2:pk=3
 ·rw[decide_eq_true (by rw[c2])];refine aU ⟨_,rfl,_,_,rfl,rfl,⟨by decide,by decide⟩,aJ,new_o λp4 H4 s4 g4=>?_⟩;obtain⟨mm,em,hm⟩:=CF (a:=4) (b:=9) (i:=x / 17 % 2) (md (by decide)).1 (md (by decide)).2;refine⟨_,rfl,_,_,rfl,rfl,⟨by decide,by decide⟩,_,_,rfl,rfl,(by show (0:Int)<2; decide),p4,_,_,.int mm,rfl,rfl,SqL.of g4,em,_,_,rfl,rfl,(by show (0:Int)<mm; omega),_,_,rfl,rfl,?_⟩;obtain⟨nm,enm⟩:∃nm:Nat,(nm:Int)=1+x / 7 % mm:=⟨(1+x / 7 % mm).toNat,by have:=md (i:=x / 7) (show 0<mm by omega); omega⟩;have nm0:1<=nm/\nm<=9:=by
   have:=md (i:=x / 7) (show 0<mm by omega);omega
  show rV 8 (V.int (1+x / 7 % mm)) _ _ _;rw[<- enm];refine⟨_,rfl,(nm:Int),rfl,by omega,by omega,?_⟩;refine c9 (pY (H:=H4) 0 (nm:Int).toNat) (le_trans (show _<=9 by omega) (by decide)) (λi y H'=>Den H' (.tuple ((jV (oS x i) 8).map .int)) y) (λi y G1 G2 s h=>h.n s ?_) (λσ=>∃z,σ = [z,some (.int x)]) ⟨none,rfl⟩ ?_ ?_
  ·exact tD _
  ·intro i y σc H5 hi hσ s5 hx Q' hQ';obtain⟨z,rfl⟩:=hσ;subst hx;have e0:(0:Int)+(i:Int)=i:=by omega
   refine⟨_,rfl,_,rfl,x,_,rfl,_,8,rfl,by decide,by decide,λpb H6 s6 gb=>?_⟩;rw[e0]at gb;refine hQ' _ _ _ ⟨_,rfl⟩ s6 ?_;simp only[Den];exact⟨pb,_,rfl,gb,bR.mpr rfl⟩
  ·intro D ys H5 hD s5 gD hlen hR;refine⟨D,_,rfl,.inl ⟨SqL.of gD,λl hl=>⟨aJ,λpt hpt=>?_⟩⟩⟩;obtain⟨H6,eUU,s6,g6⟩:=gUU (o:=.tup ys) hl;rw[eUU]at hpt ⊢;have s7:=aD (o:=.tup [.str "all",.ref l]) hpt;refine q (.all ((List.range nm).map λ(i:Nat)=>jV (oS x (i:Int)) 8)) pt [.ref l] _ (S3.trans (s4.trans (s5.trans (s6.trans s7)))) aB ?_ ⟨?_,?_,?_⟩
   ·simp only[cN,aP];refine⟨_,_,rfl,?_,rfl⟩;simp only[Den];refine⟨l,ys,rfl,s7 _ _ g6,jK (by unfold dZ; rw[length_map,length_map,length_range]; omega) λi y e=>?_⟩;have hi:i<nm:=by
     have:=(List.getElem?_eq_some_iff.mp e).1;omega
    refine⟨_,?_,(hR i y e).same (s6.trans s7)⟩;unfold dZ;rw[getElem?_map,getElem?_map,getElem?_range hi];rfl
   ·rw[length_map,length_range];exact nm0.1
   ·rw[length_map,length_range];exact nm0.2
   ·intro b hb;obtain⟨i,_,e⟩:=mem_map.mp hb;rw[<- e];exact⟨Bx _ _,yO (by decide) (by decide)⟩
 rw[decide_eq_false (λe=>c2 (by injection e))];refine bB ⟨_,rfl,_,_,rfl,rfl,_,rfl,?_⟩;by_cases c3:pk<8
 ·rw[decide_eq_true c3];refine aU ⟨_,rfl,aJ,λpt hpt=>?_⟩;have s4:=aD (o:=.tup [.str "take",.str hd]) hpt;refine q (.take hd) pt [.str hd] _ (S3.trans s4) aB ?_ hok;simp only[cN,aP,Den];exact⟨_,_,rfl,rfl,rfl⟩
 rw[decide_eq_false c3];refine bB ⟨_,rfl,_,_,rfl,rfl,_,rfl,?_⟩;have word:∀{i:Int},0<=i->i<4->∃y,atI [V.str "done",V.str "done",V.str "back",V.str "done"] i=some (.str y)/\(y = "done"\/y = "back"):=λ{i} h0 h4=>by
  have:i=0\/i=1\/i=2\/i=3:=by omega
  rcases this with rfl | rfl | rfl | rfl
  ·exact⟨_,rfl,.inl rfl⟩
  ·exact⟨_,rfl,.inl rfl⟩
  ·exact⟨_,rfl,.inr rfl⟩
  ·exact⟨_,rfl,.inl rfl⟩
 by_cases c4:pk<12
 ·rw[decide_eq_true c4];have fin:∀(k:Int)(z:Str)(H4:Hp),aH H H4->eG z->0<=k->k<=999999->(KM (eU (tOp (Ih K) (tLst (eU (tC (V.str "done")) (eU (tC (V.str "done")) (eU (tC (V.str "back")) (eU (tC (V.str "done")) lV))))) (tOp (rI0 λi j=>V.int (i - j)) (lU 3) (tC (V.int 8)))) (eU (lU 7) (eU (lU 6) lV)))) [some (.ref S.ps),some (.int x),some (.int tries),some (.int pk),some (.ref ps),some (.ref pd),some (.int k),some (.str z),none] H4 Q:=by
   intro k z H4 S4 zok k0 k9;obtain⟨y,ey,hy⟩:=word (i:=pk - 8) (by omega) (by omega);refine⟨aJ,new_o λp5 H5 s5 g5=>?_⟩;refine⟨_,rfl,_,_,rfl,rfl,p5,_,_,.str y,rfl,rfl,SqL.of g5,ey,_,rfl,_,rfl,aJ,λpt hpt=>?_⟩;rcases hy with rfl | rfl
   ·have s6:=aD (o:=.tup [.str "done",.str z,.int k]) hpt;refine q (.done z k) pt [.str z,.int k] _ (S4.trans (s5.trans s6)) aB ?_ ⟨zok,k0,k9⟩;simp only[cN,aP,Den];exact⟨_,_,rfl,rfl,_,_,rfl,rfl,rfl⟩
   ·have s6:=aD (o:=.tup [.str "back",.str z,.int k]) hpt;refine q (.back z k) pt [.str z,.int k] _ (S4.trans (s5.trans s6)) aB ?_ ⟨zok,k0,k9⟩;simp only[cN,aP,Den];exact⟨_,_,rfl,rfl,_,_,rfl,rfl,rfl⟩
  refine aU ⟨_,rfl,aJ,new_o λpe H4 s4 g4=>?_⟩;have g14:=s4 _ _ g13;have h4:=h3.same s4;refine⟨.list (ms.map .int),.list (([]:Ls).map .int),kN g14,kN (ns:=[]) g4,cX _,cX _,_,rfl,?_⟩;rw[kJ];by_cases em:ms=[]
  ·rw[decide_eq_true em];exact bB (bB (fin nu hd H4 (S3.trans s4) hok nu0.1 nu0.2))
  rw[decide_eq_false em];refine aU ⟨_,rfl,_,_,rfl,rfl,⟨by decide,by decide⟩,_,_,rfl,rfl,(by show (0:Int)<5; decide),_,_,rfl,rfl,_,rfl,?_⟩;by_cases c5:(0:Int)<x / 13 % 5
  ·rw[decide_eq_true c5];have lpos:0<(ms.length:Int):=by
    cases ms with
    | nil=>exact absurd rfl em
    | cons a b=>rw[length_cons]; omega
   obtain⟨k,hk,ek⟩:=EC (ns:=ms) (i:=x / 7 % (ms.length:Int)) (md lpos).1 (md lpos).2;have lm:((ms.map V.int).length:Int)=(ms.length:Int):=by rw[length_map]
   obtain⟨kh4,b3,b4⟩:=h4.hs;obtain⟨a,v,ha,ev,t,ev2,gt⟩:=b4.look (mk k hk);have dg:=cQ.k (k:=Sum.inl k) b3;rw[ev,ev2]at dg;have:=lsb k (ok.hk _ ha).1;refine aU ⟨_,rfl,_,rfl,_,_,rfl,rfl,⟨by decide,by decide⟩,_,rfl,ps,_,rfl,.inl (SqL.of g14),_,_,rfl,rfl,(by show (0:Int)<((ms.map V.int).length:Int); rw[lm]; exact lpos),ps,_,_,.int k,rfl,rfl,SqL.of g14,(by rw[lm]; exact ek),_,rfl,S.ps,_,rfl,h4.g_hands,_,rfl,S.ph,_,rfl,dg,t,_,_,.str a.1,rfl,rfl,SqT.of gt,aT (by decide) rfl,fin k a.1 H4 (S3.trans s4) (ok.hk _ ha).2 this.1 this.2⟩
  ·rw[decide_eq_false c5];exact bB (fin nu hd H4 (S3.trans s4) hok nu0.1 nu0.2)
 rw[decide_eq_false c4];refine bB ⟨_,rfl,rfl,_,rfl,?_⟩;show if decide (V.int pk=V.int 12)=true then _ else _
 by_cases c6:pk=12
 ·rw[decide_eq_true (by rw[c6])];have fin:∀(k:Int)(H4:Hp),aH H H4->0<=k/\k<=999999->∀pt,H4 pt=none->Q (.ref pt) (upd H4 pt (.tup [.str "new",.int k])):=λk H4 S4 k0 pt hpt=>by
   have s6:=aD (o:=.tup [.str "new",.int k]) hpt;refine q (.new k) pt [.int k] _ (S4.trans s6) aB ?_ k0;simp only[cN,aP,Den];exact⟨_,_,rfl,rfl,rfl⟩
  refine aU ⟨_,rfl,aJ,new_o λpe H4 s4 g4=>?_⟩;have g14:=s4 _ _ gd3;refine⟨.list (dl.map .int),.list (([]:Ls).map .int),kN g14,kN (ns:=[]) g4,cX _,cX _,_,rfl,?_⟩;rw[kJ];by_cases em:dl=[]
  ·rw[decide_eq_true em];exact bB (bB ⟨_,rfl,aJ,fin nu H4 (S3.trans s4) nu0⟩)
  rw[decide_eq_false em];refine aU ⟨_,rfl,_,_,rfl,rfl,⟨by decide,by decide⟩,_,_,rfl,rfl,(by show (0:Int)<4; decide),_,_,rfl,rfl,_,rfl,?_⟩;by_cases c5:(0:Int)<x / 13 % 4
  ·rw[decide_eq_true c5];have lpos:0<(dl.length:Int):=by
    cases dl with
    | nil=>exact absurd rfl em
    | cons a b=>rw[length_cons]; omega
   obtain⟨k,hk,ek⟩:=EC (ns:=dl) (i:=x / 7 % (dl.length:Int)) (md lpos).1 (md lpos).2;have lm:((dl.map V.int).length:Int)=(dl.length:Int):=by rw[length_map]
   exact aU ⟨_,rfl,_,rfl,_,_,rfl,rfl,⟨by decide,by decide⟩,_,rfl,pd,_,rfl,.inl (SqL.of g14),_,_,rfl,rfl,(by show (0:Int)<((dl.map V.int).length:Int); rw[lm]; exact lpos),pd,_,_,.int k,rfl,rfl,SqL.of g14,(by rw[lm]; exact ek),aJ,fin k H4 (S3.trans s4) (lsb k (hdl k hk))⟩
  ·rw[decide_eq_false c5];exact bB ⟨_,rfl,aJ,fin nu H4 (S3.trans s4) nu0⟩
 rw[decide_eq_false (λe=>c6 (by injection e))];refine bB ⟨_,rfl,_,_,rfl,rfl,⟨by decide,by decide⟩,aJ,new_o λp5 H5 s5 g5=>?_⟩;obtain⟨mm,em,hm⟩:=CF (a:=6) (b:=99) (i:=if decide (V.int (x / 17 % 5)=V.int 0)=true then 1 else 0) (by split <;> omega) (by split <;> omega);have mw:=md (i:=x / 7) (show 0<mm by omega);refine⟨_,rfl,_,_,rfl,rfl,⟨by decide,by decide⟩,_,_,rfl,rfl,(by show (0:Int)<5; decide),rfl,.inr ⟨_,rfl,p5,_,_,.int mm,rfl,rfl,SqL.of g5,em,_,_,rfl,rfl,(by show (0:Int)<mm; omega),_,_,rfl,rfl,aJ,λt1 ht1=>⟨aJ,λt2 ht2=>⟨aJ,λt3 ht3=>⟨aJ,λpl hpl=>?_⟩⟩⟩⟩⟩;have s6:=aD (o:=.tup [.str "wait",.int (1+x / 7 % mm)]) ht1;have g6:upd H5 t1 (.tup [.str "wait",.int (1+x / 7 % mm)]) t1=some (.tup [.str "wait",.int (1+x / 7 % mm)]):=aB;have e6:upd H5 t1 (.tup [.str "wait",(λi j=>V.int (i+j)) 1 (x / 7 % mm)])=upd H5 t1 (.tup [.str "wait",.int (1+x / 7 % mm)]):=rfl;rw[e6]at ht2 ht3 hpl ⊢;clear e6;generalize upd H5 t1 (.tup [.str "wait",.int (1+x / 7 % mm)])=H6 at s6 g6 ht2 ht3 hpl ⊢;obtain⟨H7,eUU,s7,g7⟩:=gUU (o:=.tup [.str "sweep"]) ht2;rw[eUU]at ht3 hpl ⊢;obtain⟨H8,eUU,s8,g8⟩:=gUU (o:=.tup [.str "carry"]) ht3;rw[eUU]at hpl ⊢;obtain⟨H9,eUU,s9,g9⟩:=gUU (o:=.lst [.ref t1,.ref t2,.ref t3]) hpl;rw[eUU];have S9:=S3.trans (s5.trans (s6.trans (s7.trans (s8.trans s9))));have:pk - 13=0\/pk - 13=1\/pk - 13=2:=by omega
 rcases this with e | e | e
 ·refine⟨_,rfl,_,_,rfl,rfl,pl,_,_,.ref t1,rfl,rfl,SqL.of g9,(by rw[e]; rfl),?_⟩;refine q (.wait (1+x / 7 % mm)) t1 [.int (1+x / 7 % mm)] H9 S9 ((s7.trans (s8.trans s9)) _ _ g6) ?_ ⟨by omega,by omega⟩;simp only[cN,aP,Den];exact⟨_,_,rfl,rfl,rfl⟩
 ·refine⟨_,rfl,_,_,rfl,rfl,pl,_,_,.ref t2,rfl,rfl,SqL.of g9,(by rw[e]; rfl),?_⟩;refine q .sweep t2 [] H9 S9 ((s8.trans s9) _ _ g7) ?_ trivial;simp only[cN,aP]
 ·refine⟨_,rfl,_,_,rfl,rfl,pl,_,_,.ref t3,rfl,rfl,SqL.of g9,(by rw[e]; rfl),?_⟩;refine q .carry t3 [] H9 S9 (s9 _ _ g8) ?_ trivial;simp only[cN,aP]
end
section
variable{A:Ad}{H H1 H2:Hp}{L0 D0:Addr}{L L':Pl}{q q':Qs}{S S':Sl}{M M':Ms}
end
def depth_ints:∀ns:Ls,PyData.depthAll (ns.map .int)=0
 | []=>rfl
 | n::ns=>by
  show max 0 (PyData.depthAll (ns.map .int))=0;rw[depth_ints ns];rfl
def nX(h:∀d∈ds,jA d=true/\PyData.depth d<=2):jA (.list ds)=true/\PyData.depth (.list ds)<=64:=by
 constructor
 ·show lP ds=true;exact tZ λd hd=>(h d hd).1
 ·show PyData.depthAll ds+1<=64;have:=qZ λd hd=>(h d hd).2;omega
def pB(h1:Den G d v1)(h2:Den G d v2)(hs:jA d=true)(hd:PyData.depth d<=64)(q:Q (.bl false) G):Ig v1 v2 G Q:=by
 refine⟨d,d,h1,h2,wQ hs hd,wQ hs hd,?_⟩;rw[Bf hs];exact q
def Bz:∀bss:Lq,cY (dZ bss)=true
 | []=>rfl
 | b::bss=>by
  show (iA (.tuple (b.map .int)) && cY (dZ bss))=true;rw[Bz bss,tD];rfl
def B6(d:mU):cY (cN d)=true:=by
 cases d with
 | put b=>
  show (iA (.tuple (b.map .int)) && true)=true;rw[tD];rfl
 | all bss=>
  show (cY (dZ bss) && true)=true;rw[Bz];rfl
 | _=>rfl
def m4(k:Int)(e:Ent):jA (lX k e)=true/\PyData.depth (lX k e)<=64:=by
 constructor
 ·unfold lX;simp only[jA,lP,GJ];rfl
 ·show max 0 (max (PyData.depthAll (e.1.map .int)+1) (max 0 0))+1<=64;rw[depth_ints];decide
def Ki(h:pV x=true):PyData.strOk x=true:=by
 unfold pV at h;unfold PyData.strOk;rw[Array.all_eq_true]at h ⊢;intro i hi;have:=of_decide_eq_true (h i hi);exact decide_eq_true (by omega)
def xY(h:bU hs k=some o):(k,o)∈hs:=by
 unfold bU at h;cases y:hs.find? λp=>decide (p.1=k) with
 | none=>
  rw[y]at h;cases h
 | some p=>
  rw[y]at h;cases h;have h1:=List.mem_of_find?_eq_some y;have h2:=List.find?_some (p:=λp:Int × (Str × Int)=>decide (p.1=k)) y;have h2:p.1=k:=of_decide_eq_true h2;rw[<- h2];exact h1
def CP(ms:Ls)(h:∀p∈hs,PyData.strOk p.2.1=true):jA (.list (lQ hs ms))=true/\PyData.depth (.list (lQ hs ms))<=64:=nX λd hd=>by
 unfold lQ at hd;obtain⟨k,_,rfl⟩:=mem_map.mp hd;refine⟨?_,by show max 0 (max 0 0)+1<=2; decide⟩;show (true && (PyData.strOk ((bU hs k).getD ("",0)).1 && true))=true;rw[Bool.true_and,Bool.and_true];cases y:bU hs k with
 | none=>decide +kernel
 | some o=>exact h _ (xY y)
structure Bt(A:Ad)(H:Hp)(L0 D0 L9 D9:Addr)(H1:Hp)(L:Pl)(q:Qs)(R:Pl)(r:Qs)(S:Sl)(M:Ms):Prop where
 a:Kc A H L0 D0 H1 L q
 b:Kc A H L9 D9 H1 R r
 h:StAt H1 S M
 oa:∀c∈stL S,Off H L c
 ob:∀c∈stL S,Off H R c
 dis:∀c,eQ L c->¬ eQ R c
section
variable{A:Ad}{H H1 H2:Hp}{L0 D0 L9 D9:Addr}{L L' R R':Pl}{q q' r r':Qs}{S S':Sl}{M M':Ms}
def Bt.same(t:Bt A H L0 D0 L9 D9 H1 L q R r S M)(s:aH H1 H2):Bt A H L0 D0 L9 D9 H2 L q R r S M:=⟨t.a.sames s,t.b.sames s,t.h.same s,t.oa,t.ob,t.dis⟩
def Kc.aside(k:Kc A H L0 D0 H1 L q)(b:Kc A H L9 D9 H1 R r)(dis:∀c,eQ L c->¬ eQ R c)(st:Step L L' H1 H2)(k':Kc A H L0 D0 H2 L' q'):Kc A H L9 D9 H2 R r/\∀c,eQ L' c->¬ eQ R c:=
 ⟨⟨k'.same,b.qu,b.dk,b.fr,b.qw.keep (λc o e hc=>st.frm c o e λz=>dis c z hc) st.tup⟩,λc hc hr=>(st.grow c hc).elim (λz=>dis c z hr) λz=>by
  obtain⟨o,e⟩:=eK b.qw hr;rw[e]at z;cases z⟩
def Bt.one(t:Bt A H L0 D0 L9 D9 H1 L q R r S M)(st:Step L L' H1 H2)(k':Kc A H L0 D0 H2 L' q'):Bt A H L0 D0 L9 D9 H2 L' q' R r S M:=by
 obtain⟨b',d'⟩:=t.a.aside t.b t.dis st k';exact⟨k',b',t.h.keep (λc o e hc=>st.frm c o e (t.oa c hc).2) st.tup,λc hc=>by
  obtain⟨o,e,_⟩:=t.h.here hc;exact((t.oa c hc).step st e).1,t.ob,d'⟩
def Bt.flip(t:Bt A H L0 D0 L9 D9 H1 L q R r S M):Bt A H L9 D9 L0 D0 H1 R r L q S M:=⟨t.b,t.a,t.h,t.ob,t.oa,λc hc z=>t.dis c z hc⟩
def Bt.two(t:Bt A H L0 D0 L9 D9 H1 L q R r S M)(st:Step R R' H1 H2)(k':Kc A H L9 D9 H2 R' r'):Bt A H L0 D0 L9 D9 H2 L q R' r' S M:=(t.flip.one st k').flip
def Bt.state(t:Bt A H L0 D0 L9 D9 H1 L q R r S M)(st:StepS S S' H1 H2)(h':StAt H2 S' M'):Bt A H L0 D0 L9 D9 H2 L q R r S' M':=by
 have nt:∀c,c∈stL S->∀xs,H1 c≠some (.tup xs):=λc hc xs e=>by
  obtain⟨o,e2,n⟩:=t.h.here hc;rw[e2]at e;cases e;exact n _ rfl
 exact⟨t.a.buts (S:=λc=>c∈stL S) (λc o e n=>st.frm c o e n) t.oa nt,t.b.buts (S:=λc=>c∈stL S) (λc o e n=>st.frm c o e n) t.ob nt,h',λc hc=>(st.grow c hc).elim (t.oa c) (λz=>t.a.off z),λc hc=>(st.grow c hc).elim (t.ob c) (λz=>t.b.off z),t.dis⟩
def Bt.told(t:Bt A H L0 D0 L9 D9 H1 L q R r S M)(o:Out L L' H1 H2 v)(e:v = .ref p)(g:H2 p=some (.lst xs)):¬ eQ L' p/\p ∉ stL S/\¬ eQ R p:=by
 obtain⟨h1,h2⟩:=o p xs e g;refine⟨h1,λz=>?_,λz=>?_⟩
 ·rcases h2 with y | y
  ·exact t.h.off y z
  ·exact(t.oa p z).2 y
 ·rcases h2 with y | y
  ·exact(t.b.off y).2 z
  ·exact t.dis p y z
end
def Aa{α : Type}{f:α->PyData}(h:∀x,iA (f x)=true):∀l:List α,cY (l.map f)=true
 | []=>rfl
 | x::l=>by
  show (iA (f x) && cY (l.map f))=true;rw[h,Aa h l];rfl
def CA(r:PyData):Prop:=jA r=true/\PyData.depth r<=64/\(iA r=true\/∃ds,r = .list ds/\cY ds=true)
def x9{α : Type}{f:α->PyData}(h:∀x,iA (f x)=true)(h2:∀x,jA (f x)=true/\PyData.depth (f x)<=2)(l:List α):CA (.list (l.map f)):=by
 obtain⟨h3,h4⟩:=nX (ds:=l.map f) λd hd=>by
  obtain⟨x,_,rfl⟩:=mem_map.mp hd;exact h2 x
 exact⟨h3,h4,.inr ⟨_,rfl,Aa h l⟩⟩
def qO(k:Int)(e:Ent):PyData.depth (lX k e)<=2:=by
 show max 0 (max (PyData.depthAll (e.1.map .int)+1) (max 0 0))+1<=2;rw[depth_ints];decide
def Hh(k:Int)(e:Ent):CA (lX k e):=⟨(m4 k e).1,(m4 k e).2,.inl (pH k e)⟩
def FW:CA .none:=⟨rfl,by decide,.inl rfl⟩
def Hg:CA Ee:=⟨by decide +kernel,by decide,.inl rfl⟩
def EX(q:Qs)(d:mU):CA (d8 q d):=by
 have hI:∀i:Int,CA (.int i):=λi=>⟨rfl,by show 0<=64; decide,.inl rfl⟩;cases d with
 | put b=>exact hI _
 | all bs=>exact x9 (f:=PyData.int) (λ_=>rfl) (λ_=>⟨rfl,by show 0<=2; decide⟩) _
 | wait m=>exact x9 (f:=hJ q.B.es) (λn=>pH n _) (λn=>⟨(m4 n _).1,qO n _⟩) _
 | sweep=>exact hI _
 | _=>
  simp only[d8];split
  ·exact FW
  ·first | exact Hg | exact Hh _ _ | exact hI _
def CA.keep(f:CA r)(t:fR H H')(l:∀p xs,v = .ref p->H p=some (.lst xs)->H' p=some (.lst xs))(h:Den H r v):Den H' r v:=by
 rcases f.2.2 with y | ⟨ds,rfl,y⟩
 ·exact yF t y h
 ·simp only[Den]at h ⊢;obtain⟨p,xs,e,g,dd⟩:=h;exact⟨p,xs,e,l p xs e g,fN t y dd⟩
def sg(x:Str):Str:=if x = "a" then "bb" else if x = "b" then "a" else if x = "hhhhhz" then "c" else x
def swH(p:Int × (Str × Int)):Int × (Str × Int):=(p.1,(sg p.2.1,p.2.2))
def twQ(e:Int)(q:Qs):Qs:={ q with D:=⟨q.D.fs,q.D.done+e,q.D.left⟩,hs:=q.hs.map swH }
def swD:mU->mU
 | .take x=>.take (sg x)
 | .done x m=>.done (sg x) m
 | .back x m=>.back (sg x) m
 | d=>d
def Kl(hx:eG x)(hy:eG y)(e:sg x=sg y):x=y:=by
 rcases hx with rfl | rfl | rfl <;> rcases hy with rfl | rfl | rfl <;> first | rfl | exact absurd e (by decide)
def jW(h:eG x):qT x/\qT (sg x):=by
 rcases h with rfl | rfl | rfl <;> (refine⟨⟨?_,?_⟩,?_,?_⟩ <;> decide +kernel)
def Jc(h:yV eG d):AT d/\AT (swD d):=by
 cases d with
 | take x=>exact jW h
 | done x m=>exact⟨⟨(jW h.1).1,h.2⟩,(jW h.1).2,h.2⟩
 | back x m=>exact⟨⟨(jW h.1).1,h.2⟩,(jW h.1).2,h.2⟩
 | _=>exact⟨h,h⟩
section
variable{q:Qs}{hs:Ma}{e:Int}
def sN(n:Int):bU (hs.map swH) n=(bU hs n).map λo=>(sg o.1,o.2):=by
 unfold bU;rw[List.find?_map,Option.map_map,Option.map_map];rfl
def AE:hW (hs.map swH)=hW hs:=funext λn=>by
 unfold hW;rw[sN];cases bU hs n <;> rfl
def D5(m:Int):dP (twQ e q) m=dP q m:=by
 unfold dP;rw[show hU (twQ e q) m=hU q m from funext λn=>by
  show decide (q.now+m - ((bU (q.hs.map swH) n).getD ("",0)).2 > q.hold)=_;rw[sN];unfold hU;cases bU q.hs n <;> rfl]
 show (wP ((q.hs.map swH).map (·.1))).filter _=_;rw[map_map];rfl
def A6(ms:Ls):fU (twQ e q) ms=fU q ms/\lT (twQ e q) ms=lT q ms:=by
 constructor <;> (show (ms.filter (hW (q.hs.map swH))).filter _=_; rw[AE]; rfl)
def EH(hok:∀p∈q.hs,eG p.2.1)(hx:eG x)(m:Int):((bU (twQ e q).hs m).map (·.1)=some (sg x)) ↔ ((bU q.hs m).map (·.1)=some x):=by
 show (bU (q.hs.map swH) m).map (·.1)=_ ↔ _;rw[sN];cases y:bU q.hs m with
 | none=>constructor <;> (intro z; cases z)
 | some o=>
  refine⟨λz=>?_,λz=>?_⟩
  ·injection z with z
   exact congrArg some (Kl (hok _ (xY y)) hx z)
  ·injection z with z
   exact congrArg (λx=>some (sg x)) z
def IK:aV (twQ e q)=twQ e (aV q):=by
 unfold aV;show (if u9 q (hV q)=true then _ else _)=_;split
 ·show Qs.mk ⟨_,q.D.done+e+1+7,_⟩ _ _ _ _ _ _ _ _=Qs.mk ⟨_,q.D.done+1+7+e,_⟩ _ _ _ _ _ _ _ _;rw[show q.D.done+e+1+7=q.D.done+1+7+e by omega];rfl
 ·rfl
def wF(rs:L8)(hs:Ma):wrQ (twQ e q) rs (hs.map swH)=twQ e (wrQ q rs hs):=by
 unfold wrQ;rw[IK];show Qs.mk ⟨_,(aV q).D.done+e+_,_⟩ _ _ _ _ _ _ _ _=Qs.mk ⟨_,(aV q).D.done+_+e,_⟩ _ _ _ _ _ _ _ _;rw[Int.add_right_comm];rfl
def DH:lR (twQ e q)=twQ e (lR q):=by
 show Qs.mk ⟨_,q.D.done+e+1,_⟩ _ _ _ _ _ _ _ _=Qs.mk ⟨_,q.D.done+1+e,_⟩ _ _ _ _ _ _ _ _;rw[Int.add_right_comm];rfl
def CG:∀(f:Nat)(q:Qs),y7 f (twQ e q)=twQ e (y7 f q)
 | 0,_=>rfl
 | f+1,q=>by
  show (if q.first<q.last/\gR q=[] then _ else _)=twQ e (if _ then _ else _);split
  ·rw[DH,CG f]
  ·rfl
def Fq:∀(ns:Ls)(q:Qs),ns.foldl v5 (twQ e q)=twQ e (ns.foldl v5 q)
 | [],_=>rfl
 | n::ns,q=>by
  rw[List.foldl_cons,List.foldl_cons,<- Fq ns,show v5 (twQ e q) n=twQ e (v5 q n) from wF _ q.hs]
def AJ(P:Int->Bool):(hs.map swH).filter (λp=>P p.1)=(hs.filter λp=>P p.1).map swH:=by
 rw[filter_map];rfl
def do_tw(hok:∀p∈q.hs,eG p.2.1)(dok:yV eG d):doQ (twQ e q) (swD d)=twQ e (doQ q d)/\d8 (twQ e q) (swD d)=d8 q d:=by
 cases d with
 | put b=>exact⟨wF _ _,rfl⟩
 | all bs=>exact⟨wF _ _,rfl⟩
 | take x=>
  have hr:fU (twQ e q) (qM (twQ e q))=fU q (qM q):=(A6 _).1;simp only[doQ,d8,swD,hr];cases fU q (qM q) with
  | nil=>exact⟨rfl,rfl⟩
  | cons m r=>
   refine⟨?_,rfl⟩;show wrQ (twQ e q) _ (q.hs.map swH++[swH (m,(x,q.now))])=_;rw[<- wF,map_append];rfl
 | done x m=>
  simp only[doQ,d8,swD];have hi:=EH (e:=e) hok dok.1 m;by_cases z:(bU q.hs m).map (·.1)=some x
  ·rw[if_pos z,if_pos (hi.mpr z),if_pos z,if_pos (hi.mpr z),<- wF];exact⟨congrArg (wrQ (twQ e q) _) (AJ λk=>decide (k≠m)),rfl⟩
  ·rw[if_neg z,if_neg (λy=>z (hi.mp y)),if_neg z,if_neg (λy=>z (hi.mp y))];exact⟨rfl,rfl⟩
 | back x m=>
  simp only[doQ,d8,swD];have hi:=EH (e:=e) hok dok.1 m;by_cases z:(bU q.hs m).map (·.1)=some x
  ·rw[if_pos z,if_pos (hi.mpr z),if_pos z,if_pos (hi.mpr z)];exact⟨congrArg (λh=>({ twQ e q with hs:=h }:Qs)) (AJ λk=>decide (k≠m)),rfl⟩
  ·rw[if_neg z,if_neg (λy=>z (hi.mp y)),if_neg z,if_neg (λy=>z (hi.mp y))];exact⟨rfl,rfl⟩
 | wait m=>
  simp only[doQ,d8,swD,D5];exact⟨congrArg (λh=>({ twQ e q with now:=q.now+m,hs:=h }:Qs)) (AJ λk=>decide (k ∉ dP q m)),rfl⟩
 | new m=>
  have hr:lT (twQ e q) (qM (twQ e q))=lT q (qM q):=(A6 _).2;simp only[doQ,d8,swD,hr];split
  ·exact⟨wF _ _,trivial⟩
  ·exact⟨rfl,trivial⟩
 | sweep=>
  refine⟨CG _ _,?_⟩;show PyData.int ((y7 _ (twQ e q)).first - _)=_;rw[CG];rfl
 | carry=>
  refine⟨?_,rfl⟩;show (if q.first=q.last then _ else _)=twQ e (if _ then _ else _);split
  ·rfl
  ·rw[<- DH,<- Fq];rfl
def Ho(hok:∀p∈q.hs,eG p.2.1)(dok:yV eG d):∀p∈(doQ q d).hs,eG p.2.1:=by
 have hf:∀{P:Int × (Str × Int)->Bool},∀p∈q.hs.filter P,eG p.2.1:=λp hp=>hok p (mem_filter.mp hp).1;cases d with
 | put b=>exact hok
 | all bs=>exact hok
 | take x=>
  simp only[doQ];split
  ·exact hok
  ·intro p hp;rcases mem_append.mp (show p∈q.hs++[_] from hp) with z | z
   ·exact hok p z
   ·rw[mem_singleton.mp z];exact dok
 | done x m=>
  simp only[doQ];split
  ·exact hf
  ·exact hok
 | back x m=>
  simp only[doQ];split
  ·exact hf
  ·exact hok
 | wait m=>exact hf
 | new m=>
  simp only[doQ];split <;> exact hok
 | sweep=>
  have:∀(f:Nat)(q:Qs),(y7 f q).hs=q.hs:=λf=>by
   induction f with
   | zero=>exact λ_=>rfl
   | succ f ih=>
    intro q;show (if _ then _ else _:Qs).hs=_;split
    ·exact ih _
    ·rfl
  rw[show (doQ q .sweep).hs=q.hs from this _ _];exact hok
 | carry=>
  have:∀(ns:Ls)(q:Qs),(ns.foldl v5 q).hs=q.hs:=λns=>by
   induction ns with
   | nil=>exact λ_=>rfl
   | cons n ns ih=>exact λq=>ih _
  simp only[doQ];split
  ·exact hok
  ·rw[show (lR ((gR q).foldl v5 q)).hs=q.hs from this _ _];exact hok
def mH:n∈dP q m ↔ n∈q.hs.map (·.1)/\hU q m n=true:=by
 unfold dP;rw[mem_filter,(lC _).mem_iff]
def BV(P:Int->Bool)(h:P n=true):bU (hs.filter λp=>P p.1) n=bU hs n:=by
 unfold bU;rw[List.find?_filter];congr 2;funext p;by_cases z:p.1=n
 ·simp [z,h]
 ·simp [z]
def BZ(hm:1<m):(n∈dP q 1\/n∈dP (doQ q (.wait 1)) (m - 1)) ↔ n∈dP q m:=by
 by_cases h1:n∈dP q 1
 ·refine⟨λ_=>?_,λ_=>.inl h1⟩;obtain⟨a,b⟩:=mH.mp h1;refine mH.mpr ⟨a,?_⟩;have b:=of_decide_eq_true b;exact decide_eq_true (by omega)
 ·have e1:n∈(doQ q (.wait 1)).hs.map (·.1) ↔ n∈q.hs.map (·.1):=by
   show n∈(q.hs.filter λp=>decide (p.1 ∉ dP q 1)).map (·.1) ↔ _;constructor
   ·intro z;obtain⟨p,hp,rfl⟩:=mem_map.mp z;exact mem_map_of_mem (mem_filter.mp hp).1
   ·intro z;obtain⟨p,hp,rfl⟩:=mem_map.mp z;exact mem_map_of_mem (mem_filter.mpr ⟨hp,decide_eq_true h1⟩)
  have e2:hU (doQ q (.wait 1)) (m - 1) n=hU q m n:=by
   show decide (q.now+1+(m - 1) - ((bU (q.hs.filter λp=>decide (p.1 ∉ dP q 1)) n).getD ("",0)).2 > q.hold)=_;rw[BV (λk=>decide (k ∉ dP q 1)) (decide_eq_true h1),show q.now+1+(m - 1)=q.now+m by omega];rfl
  rw[mH (q:=doQ q (.wait 1)),e1,e2,<- mH];exact⟨λz=>z.resolve_left h1,.inr⟩
def zY(nd:(q.hs.map (·.1)).Nodup)(m:Int):(dP q m).Nodup:=((lC _).nodup_iff.mpr nd).filter _
def FG(nd:(q.hs.map (·.1)).Nodup)(hm:1<m):(dP q 1++dP (doQ q (.wait 1)) (m - 1)).Nodup/\(dP q 1++dP (doQ q (.wait 1)) (m - 1)).Perm (dP q m):=by
 have n1:(dP q 1++dP (doQ q (.wait 1)) (m - 1)).Nodup:=by
  rw[nodup_append];refine⟨zY nd _,zY ?_ _,λa ha b hb e=>?_⟩
  ·exact nd.sublist (filter_sublist.map _)
  ·subst e;obtain⟨p,hp,rfl⟩:=mem_map.mp (mH.mp hb).1;exact of_decide_eq_true (mem_filter.mp (show p∈q.hs.filter λp=>decide (p.1 ∉ dP q 1) from hp)).2 ha
 refine⟨n1,(List.perm_ext_iff_of_nodup n1 (zY nd m)).mpr λn=>?_⟩;rw[mem_append];exact BZ hm
def Fg(hm:1<m):doQ (doQ q (.wait 1)) (.wait (m - 1))=doQ q (.wait m):=by
 show wC (doQ q (.wait 1)) (m - 1) (dP (doQ q (.wait 1)) (m - 1))=wC q m (dP q m);unfold wC;show Qs.mk _ _ _ _ _ _ _ (q.now+1+(m - 1)) ((q.hs.filter λp=>decide (p.1 ∉ dP q 1)).filter λp=>decide (p.1 ∉ dP (doQ q (.wait 1)) (m - 1)))=_;rw[show q.now+1+(m - 1)=q.now+m by omega,List.filter_filter];congr 1;refine List.filter_congr λp _=>?_;rw[<- Bool.decide_and,decide_eq_decide,<- BZ hm];exact⟨λz y=>y.elim z.2 z.1,λz=>⟨λy=>z (.inr y),λy=>z (.inl y)⟩⟩
end
def zX:∀{ks:Ls}{xs:L6},aP H (ks.map (hJ es)) xs->∃zs:List (Int × Addr),xs=zs.map (λz=>.ref z.2)/\zs.map (·.1)=ks/\∀z∈zs,Den H (hJ es z.1) (.ref z.2)
 | [],xs,d=>by
  simp only[map_nil,aP]at d;exact⟨[],d,rfl,λz hz=>by cases hz⟩
 | k::ks,xs,d=>by
  simp only[map_cons,aP]at d;obtain⟨x,r,rfl,h1,h2⟩:=d;obtain⟨zs,rfl,e,h3⟩:=zX h2;have h1':=h1;unfold hJ lX at h1';simp only[Den]at h1';obtain⟨a,ys,rfl,_⟩:=h1';exact⟨(k,a)::zs,rfl,by rw[map_cons,e],λz hz=>by
   rcases mem_cons.mp hz with rfl | hz
   ·exact h1
   ·exact h3 z hz⟩
def DD:∀{zs:List (Int × Addr)},(∀z∈zs,Den H (hJ es z.1) (.ref z.2))->aP H ((zs.map (·.1)).map (hJ es)) (zs.map λz=>.ref z.2)
 | [],_=>by simp only[map_nil,aP]
 | z::zs,h=>by
  simp only[map_cons,aP];exact⟨_,_,rfl,h z mem_cons_self,DD λy hy=>h y (mem_cons_of_mem _ hy)⟩
def LE{H:Hp}{es:L7}{z:Int × Addr}(h:Den H (hJ es z.1) (.ref z.2)):∃r,H z.2=some (.tup (.int z.1::r)):=by
 unfold hJ lX at h;simp only[Den,aP]at h;obtain⟨a,xs,e,g,x,r,rfl,rfl,_⟩:=h;cases e;exact⟨r,g⟩
abbrev DX:Stmt:=top 86
def wN(q:Qs):PyData:=.tuple [.list ((q.B.es.map (·.1)).map (hJ q.B.es)),.int q.B.up]
inductive tJ(A:Ad)(vs:L6)(H:Hp)(Q:VK)(x_3:XK):Prop
 | mk:∀(L:Pl)(q:Qs),vs=[.ref L.qu]->QueueW A H L q false->(q.B.es.length<800/\(q.B.es.map (·.1)).Pairwise (· <= ·))->(∀p H',aH H H'->Den H' (wN q) (.ref p)->Q (.ref p) H')->tJ A vs H Q x_3
section
variable{P:Program}{w:World}{K:Ln}{mg:Lp}{base:Heap}{A:Ad}
def Gw(F:Fun K "_law_stay" "_law_stay" DX f fd)(T:‹3›)(aq9:‹16› A.queue "letters" 3 ["self"] (kT A))(au0:‹16› A.queue "coming" 1 ["self"] (l7 A)):‹14› 4 f fd ["_law_queue_here"] (tJ A):=by
 refine F.okY ["_law_queue_here"] λcdv A' outer s H vs Q E hr nD0 h=>?_;obtain⟨L,q,rfl,hq,few,qq⟩:=h;refine⟨_,aA (a8 (aR K6 (pv 0) jT (bD _))
   ‹67›
   aO)
  (aC (aQ (bE (cG (dI aq9 T.aa0 ‹18› aZ (pv 0)) (cG (dI au0 T.aa0 ‹18› aZ (pv 0)) aG))))),?_⟩
 obtain⟨dx,h1⟩:=hq.self;refine⟨_,rfl,rfl,_,rfl,bB (cP rfl ?_)⟩;refine⟨_,rfl,L.qu,dx,_,rfl,h1,rfl,L,q,rfl,hq,few,λms perm pw p H1 s1 f1 d1=>?_⟩;obtain rfl:ms=q.B.es.map (·.1):=dM perm pw few.2;refine⟨_,rfl,L.qu,dx,_,rfl,s1 _ _ h1,rfl,L,q,rfl,hq.same s1,aJ,λpt hpt=>?_⟩;have s2:=aD (o:=.tup [.ref p,.int q.B.up]) hpt;refine qq pt _ (s1.trans s2) ?_;unfold wN;have d2:=d1.same s2;simp only[Den,aP]at d2 ⊢;exact⟨pt,_,rfl,aB,_,_,rfl,d2,_,_,rfl,rfl,rfl⟩
end
abbrev rH:Stmt:=top 87
inductive tM(K:Ln)(vs:L6)(H:Hp)(Q:VK)(x_3:XK):Prop
 | mk:∀(a:Addr)(ns:Ls),vs=[.ref a]->SqL K H a (ns.map V.int)->(∀H',Q (.bl true) H')->tM K vs H Q x_3
def sM(h:k [] H):lV σ H k:=h
def Hb{J:It}{H0 H:Hp}{n:Nat}{Y:Nat->V->Hp->Prop}{g:TG}{tb:TS}{D:Ends}{σ : St}(S:Src J H0 n Y)(Pv:Nat->St->Hp->Prop)(h0:Pv 0 σ H)(keep:∀i σ H',Pv i σ H'->aH H0 H')
  (step:∀(D':Ends) i x σ H1 H2,(∀σ H,Pv (i+1) σ H->D'.nx σ H/\D'.ct σ H)->i<n->Pv i σ H1->aH H1 H2->Y i x H2->g x σ H2 λσ2 H3=>tb D' σ2 H3) (fin:∀σ H',Pv n σ H'->D.nx σ H') :
  ∃W:Nat->Nat->St->Hp->Prop,(∃m,W 0 m σ H)/\∀i m σ H,W i m σ H->
   (J.stop i H/\D.nx σ H)\/(J.go i H/\∃N:St->Hp->Prop,(∀σ' H',N σ' H'->∃m',m'<m/\W (i+1) m' σ' H')/\∀x H',J.yld i H x H'->g x σ H' λσ2 H2=>tb { D with nx:=N,ct:=N,bk:=D.nx } σ2 H2):=
 gC S Pv h0 keep (λi x σ H1 H2 h1 h2 h3 h4=>step { D with nx:=Pv (i+1),ct:=Pv (i+1),bk:=D.nx } i x σ H1 H2 (λ_ _ h=>⟨h,h⟩) h1 h2 h3 h4) fin
def EJ{G:Hp}{p1 p2:Addr}{ns:Ls}{Q:VK}(h1:G p1=some (.lst (ns.map V.int)))(h2:G p2=some (.lst (ns.map V.int)))(q:Q (.bl true) G):Kt (.ref p1) (.ref p2) G Q:=by
 refine⟨.list (ns.map .int),.list (ns.map .int),?_,?_,cX _,cX _,?_⟩
 ·simp only[Den];exact⟨p1,_,rfl,h1,bR.mpr rfl⟩
 ·simp only[Den];exact⟨p2,_,rfl,h2,bR.mpr rfl⟩
 rw[kJ,decide_eq_true rfl];exact q
def J4(hdk:H1 dk=none)(hdx:H1 dx=none)(f2:∀b o,upd (upd H1 dx (.own dk)) dk (.ins C dx []) b=some o->b≠dk->H2 b=some o)(hdf:upd (upd H1 dx (.own dk)) dk (.ins C dx []) df=none):aH H1 H2/\∀b,own dk df [] b->H1 b=none:=by
 refine⟨λb o e=>?_,?_⟩
 ·have nb:b≠dk:=bL e hdk;have nd:b≠dx:=bL e hdx;exact f2 b o (by rw[aF nb,aF nd]; exact e) nb
 ·rintro b (rfl | rfl | hb)
  ·exact hdk
  ·cases e:H1 b with
   | none=>rfl
   | some o=>
    rw[aF (bL e hdk),aF (bL e hdx),e]at hdf;cases hdf
  ·simp at hb
def J3(bs:aH H H1)(S2:aH H1 H2)(fr:∀b,own dk df [] b->H1 b=none)(eL:L.dk=dk)(f7:∀b o,H2 b=some o->¬ own dk df [] b->H7 b=some o)(w7:∀b,eQ L b->own dk df [] b\/H2 b=none)(hq7:QueueW A H7 L q false):aH H1 H7/\(∀b,eQ L b->H1 b=none)/\Kc A H L.qu dk H7 L q:=by
 have S7:aH H1 H7:=λb o e=>f7 b o (S2 b o e) (λho=>by rw[fr b ho]at e; cases e);have fr7:∀b,eQ L b->H1 b=none:=λb hb=>by
  rcases w7 b hb with y | y
  ·exact fr b y
  ·exact S2.free y
 exact⟨S7,fr7,bs.trans S7,rfl,eL,λb hb=>bs.free (fr7 b hb),hq7⟩
def Bt.base(t:Bt A H L0 D0 L9 D9 H1 L q R r S M)(hp:H1 p=none)(o:HO):Bt A (upd H p o) L0 D0 L9 D9 (upd H1 p o) L q R r S M:=by
 have s:=aD (o:=o) hp;have sm:aH (upd H p o) (upd H1 p o):=λb u e=>by
  by_cases z:b=p
  ·subst z;rw[aB]at e ⊢;exact e
  ·rw[aF z]at e ⊢;exact t.a.same _ _ e
 have no:∀{b:Addr}{u:HO},H1 b=some u->H b=none->upd H p o b=none:=λe n=>by
  rw[aF (bL e hp)];exact n
 have kc:∀{L:Pl}{q:Qs}{L0 D0:Addr},Kc A H L0 D0 H1 L q->Kc A (upd H p o) L0 D0 (upd H1 p o) L q:=λk=>⟨sm,k.qu,k.dk,λb hb=>by
  obtain⟨u,e⟩:=eK k.qw hb;exact no e (k.fr b hb),k.qw.same s⟩
 exact⟨kc t.a,kc t.b,t.h.same s,λc hc=>by
  obtain⟨u,e,_⟩:=t.h.here hc;exact⟨no e (t.oa c hc).1,(t.oa c hc).2⟩,λc hc=>by
  obtain⟨u,e,_⟩:=t.h.here hc;exact⟨no e (t.ob c hc).1,(t.ob c hc).2⟩,t.dis⟩
def Qi.tw(h:Qi q n c)(e:Int):Qi (twQ e q) n c:=
 ⟨⟨h.sz.left,h.sz.f0,h.sz.top,h.sz.keys,h.sz.len,h.sz.m8,h.sz.m67⟩,h.pt,h.eo,λp hp=>by
  obtain⟨r,hr,rfl⟩:=mem_map.mp (show p∈q.hs.map swH from hp);exact h.hk r hr,by
  show ((q.hs.map swH).map (·.1)).Nodup;rw[map_map];exact h.hn,by
  show (q.hs.map swH).length<=c;rw[length_map];exact h.hl,h.tr⟩
def JS(hs:Ma)(ms:Ls):lQ (hs.map swH) ms=ms.map λn=>.tuple [.int n,.str (sg ((bU hs n).getD ("",0)).1)]:=by
 unfold lQ;refine map_congr_left λn _=>?_;rw[sN];cases bU hs n <;> rfl
def LO{A B:Prop}(h1:c=true->A)(h2:c=false->B):if c=true then A else B:=by
 cases c with
 | true=>exact aU (h1 rfl)
 | false=>exact bB (h2 rfl)
def handB:mU->Bool
 | .take _=>true
 | .done _ _=>true
 | .back _ _=>true
 | _=>false
def AX(k:Kc A H L0 D0 H1 L q)(z:Qi q n c)(hc:c<=48)(h1:1<=m)(h9:m<=99)(go:∀p H2,Step L L H1 H2->Kc A H L0 D0 H2 L (doQ q (.wait m))->Qi (doQ q (.wait m)) n (c+1)->H1 p=none->Den H2 (d8 q (.wait m)) (.ref p)->Q (.ref p) H2):iN A [.ref L0,.int m] H1 Q E:=by
 have hl:=z.hl;rw[<- k.qu];refine⟨L,q,m,rfl,k.qw,h1,h9,by omega,z.hn,z.hk,λms perm pw p H2 st hq fp dp=>?_⟩;have em:=tT perm pw;subst em;exact go p H2 st (k.step st hq) (z.held _ _) fp dp
def HH(q:Qs)(m:Int):(dP q m).length<=q.hs.length:=by
 have:=length_filter_le (hU q m) (wP (q.hs.map (·.1)));rw[(lC _).length_eq,length_map]at this;exact this
def JP(q:Qs)(m:Int):(dP q m).Pairwise (· <= ·):=(Ah _).sublist filter_sublist
def swK:Lz:=[(Sum.inr "a",.str "bb"),(Sum.inr "b",.str "a"),(Sum.inr "hhhhhz",.str "c")]
def Kh(x:Str):(dE swK (Sum.inr x)).getD (.str x) = .str (sg x):=by
 unfold sg;by_cases h1:x = "a"
 ·rw[h1];rfl
 by_cases h2:x = "b"
 ·rw[h2];rfl
 by_cases h3:x = "hhhhhz"
 ·rw[h3];rfl
 rw[if_neg h1,if_neg h2,if_neg h3];have:swK.find? (λkv=>decide (kv.1=Sum.inr x))=none:=by
  rw[find?_eq_none];intro kv hkv;simp only[swK,mem_cons,not_mem_nil,or_false]at hkv;rcases hkv with rfl | rfl | rfl <;> (rw[decide_eq_true_eq]; intro z; injection z with z)
  ·exact h1 z.symm
  ·exact h2 z.symm
  ·exact h3 z.symm
 unfold dE;rw[this];rfl
def Kg(h:eG x):dE swK (Sum.inr x)=some (.str (sg x)):=by
 rcases h with rfl | rfl | rfl <;> rfl
def wM(q:Qs):jA (wN q)=true/\PyData.depth (wN q)<=64:=by
 obtain⟨h1,h2⟩:=nX (ds:=(q.B.es.map (·.1)).map (hJ q.B.es)) λd hd=>by
  obtain⟨k,_,rfl⟩:=mem_map.mp hd;unfold hJ;exact⟨(m4 _ _).1,qO _ _⟩
 have h3:PyData.depthAll ((q.B.es.map (·.1)).map (hJ q.B.es))<=2:=qZ λd hd=>by
  obtain⟨k,_,rfl⟩:=mem_map.mp hd;unfold hJ;exact qO _ _
 constructor
 ·unfold wN;show (jA (.list _) && (true && true))=true;rw[h1];rfl
 ·unfold wN;show max (PyData.depthAll _+1) (max 0 0)+1<=64;omega
section
variable{P:Program}{w:World}{K:Ln}{mg:Lp}{base:Heap}{A:Ad}
def K8(F:Fun K "law" "law" rH f fd)(T:‹3›)(bb4:‹17› "Disk" A.disk 3 ["self","steps"] (tP A.disk A.badNumber))(c_do:‹15› "do" 10 ["queue","deed"] (Ag A))
  (ag7:‹16› A.queue "ready" 4 ["self"] (gO A ltB)) (aj0:‹16› A.queue "dead" 4 ["self"] (gO A geB)) (ax7:‹16› A.queue "held" 1 ["self"] (nU A)) (ar0:‹16› A.queue "clock" 1 ["self"] (nV A)) (aj1:‹16› A.queue "wait" 3 ["self","many"] (iN A))
  (ag0:‹15› "_law_cell" 1 ["_law_script","_law_k"] (zC K)) (ar1:‹15› "_law_mix" 1 ["_law_cell_here","_law_prime","_law_many"] CM) (ab5:‹10›) (ah7:‹15› "_law_settings" 2 ["_law_cell_here"] lZ) (ah8:‹15› "_law_queue" 10 ["_law_disk","_law_settings_here"] (qC A))
  (am5:‹15› "_law_begin" 1 [] wO) (ao8:‹15› "_law_deed" 3 ["_law_state","_law_seed_here","_law_tries"] tL) (ao9:‹15› "_law_told" 4 ["_law_state","_law_deed_here","_law_settings_here"] tI) (aj3:‹15› "_law_stay" 4 ["_law_queue_here"] (tJ A)) :
  ‹14› 11 f fd ["_law_script"] (tM K):=by
 refine F.okY ["_law_script","_law_settings_here","_law_state","_law_one","_law_two","_law_other_here","_law_k","_law_deed_here","_law_told_here","_law_theirs","_law_first","_law_hands"] λcdv A' outer s H vs Q E hr nD0 h=>?_;obtain⟨a,ns,rfl,hs,hQ⟩:=h;refine⟨_,aA (aX (i:=1) nD0 ⋯ ⋯ (bC ah7 ‹18› aZ (cG (bC ag0 ‹18› aZ (aE (pv 0) ‹35›)) aG)))
  (aA (aX (i:=2) nD0 ⋯ ⋯ (K3 am5 ‹18› aZ))
  (aA (aX (i:=3) nD0 ⋯ ⋯ (bC ah8 ‹18› aZ (cG (Gk bb4 ‹18› aZ (aN jT aG)) ‹26›)))
  (aA (aX (i:=4) nD0 ⋯ ⋯ (bC ah8 ‹18› aZ (cG (Gk bb4 ‹18› aZ (aN jT aG)) ‹26›)))
  (aA (aX (i:=5) nD0 ⋯ ⋯ (Dr (fO bH bH (fO bH bH (fO bH bH Dm))) ⋯ ⋯ (List.cons_ne_nil _ _) (by decide)))
  (aA (fZ (lW eJ) ⋯ (qJ ⋯ T.ai5 (cG (bC ar1 ‹18› aZ (cG (bC ag0 ‹18› aZ (aE (pv 0) ‹35›)) (aN aI ‹35›))) aG)) (bG (i:=6) nD0 ⋯ ⋯)
   (aA (aX (i:=7) nD0 ⋯ ⋯ (bC ao8 ‹18› aZ (aE (pv 2) (cG (bC ab5 ‹18› aZ (bQ (bA cU (bC ag0 ‹18› aZ (aE (pv 0) (bQ (bA cU aI (bA dU (pv 6) aI)) aG))) (bA mG aI (pv 6))) (aE (pv 6) aG))) ‹78›))))
   (aA (aX (i:=8) nD0 ⋯ ⋯ (bC c_do ‹18› aZ (aE (pv 3) (aE (pv 7) aG))))
   (aA (aY (bC ao9 ‹18› aZ (aE (pv 2) (aE (pv 7) ‹26›))))
   (aA (aX (i:=9) nD0 ⋯ ⋯ (pv 7))
   (aA (a8 (aR (Ca K) ‹45› (bE ‹87›) ⋯)
    (aC (aX (i:=9) nD0 ⋯ ⋯ (bA jI (bE (aM ‹45› (aM (dX (hu1 hr.units) (pv 5) ‹45› (λ_ _=>rfl)) aG))) (f9 (mZ K) (pv 7) (gX aI) jH))))
    aO)
   (aA (a8 (lF (aR fK ‹45› bH (bD _)) (iH (aR nK ‹45› aI (bD _)))).pt
    (aA (aX (i:=10) nD0 ⋯ ⋯ (cO aj1 T.aa0 ‹18› aZ (pv 4) ‹35›))
    (aC (a8 (aR (mF hr.units) (bF AM ⋯ T.ae5 gS (bQ (bA Cc (pv 10) (cO aj1 T.aa0 ‹18› aZ (pv 4) (bQ (bA i4 ‹45› aI) aG))) aG)) (pv 8) (bD _))
     ‹61›
     aO)))
    (aC (a8 (aR (mF hr.units) (bC c_do ‹18› aZ (aE (pv 4) (aE (pv 9) aG))) (pv 8) (bD _))
     ‹61›
     aO)))
   (aA (lG (i:=11) ["_law_number","_law_hand"] [("_law_other_here",5)] nD0 ⋯ ⋯ ⋯ (bT K (dI ax7 T.aa0 ‹18› aZ (pv 3))) (λC s2 H2 ex=>(iK K (n:=2) (cJ (bG (i:=0) (show List.Nodup (["_law_number","_law_hand","_law_other_here"]:Lu) by decide +kernel) ⋯ (Or.inl ⋯)) (cJ (bG (i:=1) (show List.Nodup (["_law_number","_law_hand","_law_other_here"]:Lu) by decide +kernel) ⋯ (Or.inl ⋯)) iJ)))) ‹40› (λC s2 H2 ex=>(bE (aE (pv 0) (cG (iD K PySem.F.plainAttrs_dict PySem.F.slot_dict_get PySem.F.type_dict_get (BQ (hu1 hr.units)) (pv 2) (aE (pv 1) ‹26›)) aG)))))
   (aC (a8 (mC (aR (mF hr.units) (dI ax7 T.aa0 ‹18› aZ (pv 4)) (pv 11) (bD _)) (iY (aR (mF hr.units) (bC aj3 ‹18› aZ ‹47›) (bC aj3 ‹18› aZ ‹65›) (bD _)))).pt
    ‹61›
    aO))))))))))
  (aC (aQ (n5 (gA (Cb hr.units) (dI ag7 T.aa0 ‹18› aZ (pv 3)) (dI ag7 T.aa0 ‹18› aZ (pv 4)) (bD _)) (n5 (gA (Cb hr.units) (dI aj0 T.aa0 ‹18› aZ (pv 3)) (dI aj0 T.aa0 ‹18› aZ (pv 4)) (bD _)) (uN (gA fK (dI ar0 T.aa0 ‹18› aZ (pv 3)) (dI ar0 T.aa0 ‹18› aZ (pv 4)) (bD _)))))))))))),?_⟩
 refine⟨_,rfl,a,ns,0,rfl,by decide,hs,_,rfl,λm hh tr p H2 m1 m2 h1 h2 t1 t2 S1 g1=>?_⟩;refine⟨rfl,λS H3 s3 fs3 h3=>?_⟩;have mset:tX (.int m) (.int hh) (.int tr)=true:=by
  unfold tX;simp only[bO,and_eq_true,decide_eq_true_eq];omega
 refine λdk dx hdk hdx ne=>⟨dk,dx,.non,.none,rfl,aB,by simp only[Den],(λz=>by cases z),λ_ df H4 f4 hdf hD4=>⟨rfl,_,rfl,?_⟩⟩;obtain⟨S4,fr4⟩:=J4 hdk hdx f4 hdf;refine⟨dk,df,p,[],⟨[],0,none⟩,m,hh,tr,rfl,S4 _ _ (s3 _ _ g1),mset,hD4,⟨rfl,rfl⟩,λL d5 H5 eL f5 w5 hq5=>?_⟩;obtain⟨S5,fq5,k5⟩:=J3 (H:=H2) s3 S4 fr4 eL f5 w5 hq5;refine λdk9 dx9 hdk9 hdx9 ne9=>⟨dk9,dx9,.non,.none,rfl,aB,by simp only[Den],(λz=>by cases z),λ_ df9 H6 f6 hdf9 hD6=>⟨rfl,_,rfl,?_⟩⟩;obtain⟨S6,fr6⟩:=J4 hdk9 hdx9 f6 hdf9;refine⟨dk9,df9,p,[],⟨[],0,none⟩,m,hh,tr,rfl,S6 _ _ (S5 _ _ (s3 _ _ g1)),mset,hD6,⟨rfl,rfl⟩,λR d7 H7 eR f7 w7 hq7=>?_⟩;obtain⟨S7,fq7,k7⟩:=J3 (H:=H2) (s3.trans S5) S6 fr6 eR f7 w7 hq7;have b7:Bt A H2 L.qu dk R.qu dk9 H7 L _ R _ S M0:=⟨k5.sames S7,k7,h3.same (S5.trans S7),λc hc=>⟨fs3 c hc,λz=>by
  obtain⟨o,e,_⟩:=h3.here hc;rw[fq5 c z]at e;cases e⟩,λc hc=>⟨fs3 c hc,λz=>by
  obtain⟨o,e,_⟩:=(h3.same S5).here hc;rw[fq7 c z]at e;cases e⟩,λc hc hr=>by
  obtain⟨o,e⟩:=eK k5.qw hc;rw[fq7 c hr]at e;cases e⟩
 have z5:Qi (nM m hh tr d5) 0 0:=Qi.first m1 m2 t1 t2;have f5:nM m hh tr d7=twQ (d7 - d5) (nM m hh tr d5)/\(nM m hh tr d5).hs=[]:=by
  refine⟨?_,rfl⟩;show Qs.mk ⟨_,d7,_⟩ _ _ _ _ _ _ _ _=Qs.mk ⟨_,d5+(d7 - d5),_⟩ _ _ _ _ _ _ _ _;rw[show d5+(d7 - d5)=d7 by omega];rfl
 generalize nM m hh tr d5=q5 at b7 z5 f5 hq5 k5;generalize nM m hh tr d7=q7 at b7 f5 hq7 k7;obtain⟨L0,eL0⟩:∃L0,L0=L.qu:=⟨_,rfl⟩;obtain⟨L9,eL9⟩:∃L9,L9=R.qu:=⟨_,rfl⟩;obtain⟨P0,eP0⟩:∃P0,P0=S.ps:=⟨_,rfl⟩;rw[<- eL0,<- eL9,<- eP0];rw[<- eL0,<- eL9]at b7;clear hq5 k5 hq7 k7 fq5 fq7 f6 f7 w5 w7 hD4 hD6 S4 S6 fr4 fr6 hdf hdf9 f4 hdk hdx hdk9 hdx9 mset;refine λpo hpo=>⟨aB,swK,rfl,by decide,?_⟩;have fo:=b7.a.same.free hpo;have b7:=b7.base hpo (.dK swK);rw[show upd (upd H7 po (.dK [])) po (.dK (oB [] swK))=upd H7 po (.dK swK) from funext λb=>by
  by_cases z:b=po
  ·rw[z,aB,aB];rfl
  ·rw[aF z,aF z,aF z]]
 have go:upd H2 po (.dK swK) po=some (.dK swK):=aB;have S1:=S1.trans (aD (o:=.dK swK) fo);have g1:=aD (o:=.dK swK) fo _ _ g1;generalize upd H2 po (.dK swK)=H2 at b7 go S1 g1;generalize upd H7 po (.dK swK)=H7 at b7 ⊢;clear fo hpo S5 S7 s3 fs3 h3;obtain⟨N,eN⟩:∃N:Nat,(N:Int)=HA (ns.getD (Int.toNat 1) 0) 9949 41:=⟨(HA (ns.getD (Int.toNat 1) 0) 9949 41).toNat,by
  have mb:=md (i:=(ns.getD (Int.toNat 1) 0 * 48271 % 9949) ^ 3 % 9949) (j:=41) (by decide);unfold HA;omega⟩
 have N40:N<=40:=by
  have mb:=md (i:=(ns.getD (Int.toNat 1) 0 * 48271 % 9949) ^ 3 % 9949) (j:=41) (by decide);unfold HA at eN;omega
 refine⟨_,rfl,a,ns,1,rfl,by decide,(S1.trans b7.a.same).seq hs,_,9949,41,rfl,by decide,by decide,by decide,(N:Int),by rw[eN],by omega,by omega,?_⟩;refine Hb (pY (H:=λ_=>none) 0 (N:Int).toNat) (λi σ H'=>∃L q R e S M z6 z7 z8 z9 z10 z11,σ = [some (.ref a),some (.ref p),some (.ref P0),some (.ref L0),some (.ref L9),some (.ref po),z6,z7,z8,z9,z10,z11]/\Bt A H2 L0 dk L9 dk9 H' L q R (twQ e q) S M/\Qi q (500 * i) i/\MsOk M i (1+1000 * i)/\P0=S.ps/\∀p∈q.hs,eG p.2.1) ⟨L,q5,R,d7 - d5,S,M0,_,_,_,_,_,_,rfl,by rw[<- f5.1]; exact b7,z5,M0_ok,eP0,λp hp=>by rw[f5.2]at hp; cases hp⟩ (λi σ H' hh b u e=>by cases e) ?_ ?_
 ·rintro D' i x σ H5 H6 hD' hi ⟨L,q,R,e,S,M,z6,z7,z8,z9,z10,z11,rfl,b5,zq,okM,eP,hok⟩ s6 rfl;have b6:=b5.same s6;have hi':i<40:=by omega
  have gp:=b6.a.same _ _ g1;have hs6:=(S1.trans b6.a.same).seq hs;have i7:=md (i:=0+(i:Int)) (j:=7) (by decide);refine⟨_,rfl,_,rfl,_,rfl,_,_,rfl,rfl,(by show (0:Int)<7; decide),_,_,rfl,rfl,a,ns,_,rfl,(by show 0<=2+(0+(i:Int)) % 7; omega),hs6,?_⟩;refine⟨_,rfl,_,_,rfl,rfl,.inl ⟨by decide,by decide⟩,_,_,rfl,rfl,_,rfl,_,_,rfl,_,rfl,p,_,_,.int tr,rfl,rfl,SqT.of gp,aT (by decide) rfl,S,M,_,tr,i,1+1000 * i,(by rw[eP]),b6.h,okM,by omega,λd td args H7 s7 gt da dok=>?_⟩;have b7:=b6.same s7;obtain⟨ok1,ok2⟩:=Jc dok;refine⟨_,rfl,_,rfl,sM (Fo b7.a zq (by omega) (by omega) ok1 gt da λv L' q' H8 st k' z' rel out=>?_)⟩;have b8:=b7.one st k';refine⟨_,rfl,_,rfl,_,rfl,S,M,td,p,d,args,m,hh,tr,i,1+1000 * i,(by rw[eP]),b8.h,okM,by omega,by omega,b8.a.same _ _ g1,st.tup _ _ gt,fN st.tup (B6 d) da,dok,λS' M' H9 v' st' h' ok'=>?_⟩;have b9:=b8.state st' h';have gt9:=(st.tup.trans st'.tup) _ _ gt;have da9:=fN (st.tup.trans st'.tup) (B6 d) da;have eP':P0=S'.ps:=eP.trans st'.ps.symm;obtain⟨rel1,rel2⟩:=rel;have hok':∀p∈q'.hs,eG p.2.1:=by
   rw[rel1];exact Ho hok dok
  refine⟨_,rfl,JV (λσ' H'=>∃th args',σ'=[some (.ref a),some (.ref p),some (.ref P0),some (.ref L0),some (.ref L9),some (.ref po),some (.int (0+(i:Int))),some (.ref td),some v,some (.ref th),z10,z11]/\aH H9 H'/\H' th=some (.tup (.str (cB (swD d))::args'))/\aP H' (cN (swD d)) args') (λnx hnx=>?_) ?_⟩
  ·refine⟨_,rfl,td,_,_,.str (cB d),rfl,rfl,SqT.of gt9,aT (by decide) rfl,aJ,new_o λpk H10 s10 g10=>?_⟩;refine⟨pk,_,rfl,.inr (SqT.of g10),rfl,rfl,_,rfl,?_⟩;show if inV (V.str (cB d)) [V.str "take",V.str "done",V.str "back"]=true then _ else _
   rw[show inV (V.str (cB d)) [V.str "take",V.str "done",V.str "back"]=handB d by cases d <;> first | rfl | decide +kernel];have gt10:=s10 _ _ gt9;refine LO (λhc=>?_) (λhc=>?_)
   ·obtain⟨x,rest,rfl,hx,hl,hw,hdn⟩:∃x rest,args = .str x::rest/\eG x/\(rest=[]\/∃r,rest=[r])/\cB (swD d)=cB d/\∀H',aP H' (cN (swD d)) (.str (sg x)::rest):=by
     cases d with
     | take x=>
      simp only[cN,aP,Den]at da9;obtain⟨_,_,rfl,rfl,rfl⟩:=da9;exact⟨x,[],rfl,dok,.inl rfl,rfl,λH'=>by simp only[swD,cN,aP,Den]; exact⟨_,_,rfl,rfl,rfl⟩⟩
     | done x n=>
      simp only[cN,aP,Den]at da9;obtain⟨_,_,rfl,rfl,_,_,rfl,rfl,rfl⟩:=da9;exact⟨x,_,rfl,dok.1,.inr ⟨_,rfl⟩,rfl,λH'=>by simp only[swD,cN,aP,Den]; exact⟨_,_,rfl,rfl,_,_,rfl,rfl,rfl⟩⟩
     | back x n=>
      simp only[cN,aP,Den]at da9;obtain⟨_,_,rfl,rfl,_,_,rfl,rfl,rfl⟩:=da9;exact⟨x,_,rfl,dok.1,.inr ⟨_,rfl⟩,rfl,λH'=>by simp only[swD,cN,aP,Den]; exact⟨_,_,rfl,rfl,_,_,rfl,rfl,rfl⟩⟩
     | _=>cases hc
    have dg:=cQ.k (k:=Sum.inr x) (s10 _ _ (b9.a.same _ _ go));rw[Kg hx]at dg;refine⟨_,rfl,td,_,_,.str (cB d),rfl,rfl,SqT.of gt10,aT (by decide) rfl,_,rfl,_,rfl,td,_,_,.str x,rfl,rfl,SqT.of gt10,aT (by decide) rfl,po,_,rfl,dg,aJ,new_o λpa H11 s11 g11=>?_⟩;have cutr:i8 (.str (cB d) :: .str x::rest) (some 2) none=rest/\¬ HT.sIx (V.str (cB d)::V.str x::rest).length 0 (some 2)=0/\2+rest.length<=sizeLine:=by
     rcases hl with rfl | ⟨r,rfl⟩
     ·exact⟨rfl,show ¬ HT.sIx 2 0 (some 2)=0 by decide,show 2<=sizeLine by decide⟩
     ·exact⟨rfl,show ¬ HT.sIx 3 0 (some 2)=0 by decide,show 3<=sizeLine by decide⟩
    refine⟨_,rfl,_,rfl,td,_,rfl,SqT.of (s11 _ _ gt10),λy=>absurd y.1 cutr.2.1,λ_ pb hpb=>?_⟩;rw[cutr.1];have s12:=aD (o:=.tup rest) hpb;refine⟨pa,pb,_,rest,rfl,rfl,s12 _ _ g11,aB,cutr.2.2,λth H13 s13 g13=>?_⟩;refine hnx _ _ ⟨th,_,rfl,s10.trans (s11.trans (s12.trans s13)),?_,hdn _⟩;rw[hw];exact g13
   ·have e:swD d=d:=by cases d <;> first | rfl | cases hc
    exact hnx _ _ ⟨td,args,rfl,s10,by rw[e]; exact gt10,by rw[e]; exact da9.same s10⟩
  rintro σ' H10 ⟨th,args',rfl,s10,gth,dth⟩;have b10:=b9.same s10;have gt10:=s10 _ _ gt9;have da10:=da9.same s10;have fl:=EX q d;obtain⟨tw1,tw2⟩:=do_tw (e:=e) hok dok;refine Ai (λσ' H'=>∃R' z10,σ'=[some (.ref a),some (.ref p),some (.ref P0),some (.ref L0),some (.ref L9),some (.ref po),some (.int (0+(i:Int))),some (.ref td),some v,some (.ref th),z10,z11]/\Bt A H2 L0 dk L9 dk9 H' L' q' R' (twQ e q') S' M') (λnx hnx=>?_) ?_
  ·refine⟨_,rfl,td,_,_,.str (cB d),rfl,rfl,SqT.of gt10,aT (by decide) rfl,rfl,_,rfl,?_⟩;show if decide (V.str (cB d)=V.str "wait")=true then _ else _
   have fin:IL (Ab (tOp Ig (tFn (Ag A) E0 (eU (lU 4) (eU (lU 9) lV))) (lU 8))) (KN (tC (V.bl false))) Ac (D'.next nx) [some (.ref a),some (.ref p),some (.ref P0),some (.ref L0),some (.ref L9),some (.ref po),some (.int (0+(i:Int))),some (.ref td),some v,some (.ref th),z10,z11] H10:=by
    refine⟨_,rfl,_,rfl,sM (Fo b10.b (zq.tw e) (by omega) (by omega) ok2 gth dth λv2 R' r' H11 st2 k2 z2 rel' out2=>?_)⟩;have b11:=b10.two st2 k2;obtain⟨r1,r2⟩:=rel';rw[tw1,<- rel1]at r1;subst r1;rw[tw2]at r2;have dv:Den H11 (d8 q d) v:=fl.keep (st'.tup.trans ((aH.tup s10).trans st2.tup)) (λp' xs e g=>by
     obtain⟨n1,n2,n3⟩:=b7.told out e g;exact st2.frm _ _ (s10 _ _ (st'.frm _ _ g n2)) n3) rel2
    exact⟨_,rfl,pB r2 dv fl.1 fl.2.1 ⟨_,rfl,bB (hnx _ _ ⟨R',z10,rfl,b11⟩)⟩⟩
   by_cases hw:∃m,d = .wait m
   ·obtain⟨m,rfl⟩:=hw;simp only[cN,aP,Den]at da10;obtain⟨_,_,rfl,rfl,rfl⟩:=da10;refine aU ⟨_,rfl,td,_,_,.int m,rfl,rfl,SqT.of gt10,aT (by decide) rfl,_,_,rfl,rfl,_,rfl,?_⟩;by_cases hm:1<m
    ·rw[decide_eq_true hm];obtain⟨dx10,e10⟩:=b10.b.self;refine aU ⟨_,rfl,L9,dx10,_,rfl,e10,rfl,sM (σ:=[]) (AX b10.b (zq.tw e) (by omega) (Int.le_refl _) (by decide) λp1 H11 st2 k2 zr fp1 dp1=>?_)⟩;have b11:=b10.two st2 k2;have np1:=(b10.b.off fp1).2;simp only[d8,Den]at dp1;obtain⟨_,xs1,e1,g11,dx1⟩:=dp1;cases e1;obtain⟨dx11,e11⟩:=b11.b.self;have gt11:=st2.tup _ _ gt10;refine⟨_,rfl,_,rfl,L9,dx11,_,rfl,e11,rfl,_,rfl,td,_,_,.int m,rfl,rfl,SqT.of gt11,aT (by decide) rfl,_,_,rfl,rfl,sM (σ:=[]) (AX b11.b zr (by omega) (show 1<=m - 1 by omega) (by have:=dok.2; omega) λp2 H12 st3 k3 zr3 fp2 dp2=>?_)⟩;have b12:=b11.two st3 k3;simp only[d8,Den]at dp2;obtain⟨_,xs2,e2,g12,dx2⟩:=dp2;cases e2;obtain⟨zs1,rfl,ek1,dz1⟩:=zX dx1;obtain⟨zs2,rfl,ek2,dz2⟩:=zX (es:=q.B.es) dx2;obtain⟨nd,pm⟩:=FG (q:=twQ e q) (zq.tw e).hn hm;rw[<- ek1,<- ek2,<- map_append]at nd pm;have hln:(zs1++zs2).length<=i:=by
      have h1:=pm.length_eq;have h2:=HH (twQ e q) m;have h3:=(zq.tw e).hl;rw[length_map]at h1;omega
     refine⟨p1,p2,_,_,rfl,rfl,st3.frm _ _ g11 np1,g12,?_,λp3 hp3=>?_⟩
     ·rw[length_map,length_map,<- length_append];exact le_trans ‹63› (by decide)
     obtain⟨H13,eUU,s13,g13⟩:=gUU (o:=.lst (zs1.map (λz=>V.ref z.2)++zs2.map λz=>V.ref z.2)) hp3;rw[eUU];rw[<- map_append]at g13;have dz:∀z∈zs1++zs2,Den H13 (hJ q.B.es z.1) (.ref z.2):=λz hz=>(mem_append.mp hz).elim (λy=>(yF st3.tup (pH _ _) (dz1 z y)).same s13) (λy=>(dz2 z y).same s13);refine⟨p3,zs1++zs2,rfl,g13,λz hz=>LE (dz z hz),nd,by omega,λp4 ys py pw hp4=>?_⟩;obtain⟨H14,eUU,s14,g14⟩:=gUU (o:=.lst (ys.map λz=>V.ref z.2)) hp4;rw[eUU];have ey:ys.map (·.1)=dP q m:=(dM ((py.map _).trans pm) (pw.imp Int.le_of_lt) (JP _ m)).trans (D5 m);have dv4:Den H14 (d8 q (.wait m)) (.ref p4):=by
      simp only[d8,Den];rw[<- ey];exact⟨p4,_,rfl,g14,DD λz hz=>(dz z (py.mem_iff.mp hz)).same s14⟩
     have dv:Den H14 (d8 q (.wait m)) v:=fl.keep (st'.tup.trans ((aH.tup s10).trans (st2.tup.trans (st3.tup.trans (aH.tup (s13.trans s14)))))) (λp' xs e g=>by
      obtain⟨n1,n2,n3⟩:=b7.told out e g;exact(s13.trans s14) _ _ (st3.frm _ _ (st2.frm _ _ (s10 _ _ (st'.frm _ _ g n2)) n3) n3)) rel2
     refine⟨_,rfl,pB dv4 dv fl.1 fl.2.1 ⟨_,rfl,bB (hnx _ _ ⟨R,_,rfl,?_⟩)⟩⟩;rw[show twQ e q'=doQ (twQ e q) (.wait m) by rw[rel1]; exact tw1.symm];have b14:=b12.same (s13.trans s14);rw[Fg hm]at b14;exact b14
    ·rw[decide_eq_false hm];exact bB fin
   ·rw[decide_eq_false (λz=>hw (by
     injection z with z
     cases d <;> first | exact⟨_,rfl⟩ | (dsimp only[cB]at z; exact absurd z (by decide))))]
    exact bB (bB fin)
  rintro σ' H11 ⟨R',z10',rfl,b11⟩;have hl1:=z'.hl;obtain⟨dx11,e11⟩:=b11.a.self;refine⟨_,rfl,L0,dx11,_,rfl,e11,rfl,L',q',(by rw[b11.a.qu]),b11.a.qw,by omega,λhm1 pm1 pw1 ph1 H12 s12 f12 d12=>?_⟩;have b12:=b11.same s12;simp only[Den]at d12;obtain⟨_,xs,e1,g12,dxs⟩:=d12;cases e1;have lx:=dxs.length;unfold lQ at lx;rw[length_map,pm1.length_eq,length_map]at lx;have go12:=b12.a.same _ _ go;refine⟨ph1,rfl,⟨_,SqL.of g12⟩,?_⟩;refine c9 (bS (K:=K) (SqL.of g12)) (by rw[lx]; exact le_trans ‹63› (by decide)) (λj y H'=>∃n,hm1[j]? = some n/\Den H' (.tuple [.int n,.str (sg ((bU q'.hs n).getD ("",0)).1)]) y) (λj y G1 G2 s h=>by obtain⟨n,e,h⟩:=h; exact⟨n,e,h.n s rfl⟩) (λσ=>∃z0 z1,σ = [z0,z1,some (.ref po)]) ⟨none,none,rfl⟩ ?_ ?_
  ·intro j x σc H13 hj hσ s13 hx Q' hQ';obtain⟨z0,z1,rfl⟩:=hσ;obtain⟨dd,hd,dn⟩:=dxs.get hx;unfold lQ at hd;rw[getElem?_map]at hd;cases ej:hm1[j]? with
   | none=>rw[ej]at hd; cases hd
   | some n=>
    rw[ej]at hd;cases hd;simp only[Den,aP]at dn;obtain⟨t,_,rfl,gt,_,_,rfl,rfl,_,_,rfl,rfl,rfl⟩:=dn;have dg:=cQ.k (k:=Sum.inr ((bU q'.hs n).getD ("",0)).1) (s13 _ _ go12);refine⟨t,_,rfl,SqT.of (s13 _ _ gt),rfl,_,_,rfl,_,_,rfl,rfl,?_⟩;refine⟨_,rfl,_,rfl,.inr (.inr (.inl ⟨rfl,.inl ⟨_,s13 _ _ go12⟩⟩)),_,rfl,_,rfl,po,_,_,_,rfl,rfl,dg,?_⟩;rw[Kh];refine⟨aJ,λpt hpt=>?_⟩;refine hQ' _ _ _ ⟨_,_,rfl⟩ (aD hpt) ⟨n,ej,?_⟩;simp only[Den,aP];exact⟨pt,_,rfl,aB,_,_,rfl,rfl,_,_,rfl,rfl,rfl⟩
  ·intro D ys H13 hD s13 gD hlen hR;have b13:=b12.same s13;have dh:Den H13 (.list (lQ (twQ e q').hs hm1)) (.ref D):=by
    rw[show lQ (twQ e q').hs hm1=_ from JS q'.hs hm1];simp only[Den];refine⟨D,ys,rfl,gD,jK (by rw[length_map,hlen,lx,pm1.length_eq,length_map]) λj y ej=>?_⟩;obtain⟨n,en,dn⟩:=hR j y ej;exact⟨_,by rw[getElem?_map,en]; rfl,dn⟩
   obtain⟨dx13,e13⟩:=b13.b.self;have hl2:=(z'.tw e).hl;refine⟨_,rfl,L9,dx13,_,rfl,e13,rfl,R',twQ e q',(by rw[b13.b.qu]),b13.b.qw,by omega,λhm2 pm2 pw2 ph2 H14 s14 f14 d14=>?_⟩;rw[show (twQ e q').hs.map (·.1)=q'.hs.map (·.1) by show (q'.hs.map swH).map (·.1)=_; rw[map_map]; rfl]at pm2;obtain rfl:hm2=hm1:=dM (pm2.trans pm1.symm) pw2 pw1;obtain⟨sh1,sh2⟩:=CP (hs:=(twQ e q').hs) hm2 λp hp=>by
    obtain⟨r,hr,rfl⟩:=mem_map.mp (show p∈q'.hs.map swH from hp);exact Ki (jW (hok' r hr)).2.2.2
   refine⟨_,rfl,pB d14 (dh.same s14) sh1 sh2 ⟨_,rfl,bB ?_⟩⟩;have b14:=b13.same s14;have few1:q'.B.es.length<800/\(q'.B.es.map (·.1)).Pairwise (· <= ·):=⟨by have:=z'.eo.cnt; omega,z'.eo.so.imp Int.le_of_lt⟩;refine⟨_,rfl,L',q',(by rw[b14.a.qu]),b14.a.qw,few1,λps1 H15 s15 d15=>?_⟩;have b15:=b14.same s15;refine⟨_,rfl,R',twQ e q',(by rw[b15.b.qu]),b15.b.qw,few1,λps2 H16 s16 d16=>?_⟩;exact pB (d15.same s16) d16 (wM q').1 (wM q').2 ⟨_,rfl,bB (hD' _ _ ⟨L',q',R',e,S',M',_,_,_,_,_,_,rfl,b15.same s16,z'.mono (by omega) (by omega),ok'.mono (by omega) (by omega),eP',hok'⟩).1⟩
 ·rintro σ H' ⟨L,q,R,e,S,M,z6,z7,z8,z9,z10,z11,rfl,b,zq,_,_,_⟩;have few1:q.B.es.length<800/\(q.B.es.map (·.1)).Pairwise (· <= ·):=⟨by have:=zq.eo.cnt; omega,zq.eo.so.imp Int.le_of_lt⟩;obtain⟨dx1,e1⟩:=b.a.self;refine⟨_,rfl,L0,dx1,_,rfl,e1,rfl,L,q,(by rw[b.a.qu]),b.a.qw,few1,λms1 pm1 pw1 p1 H1' s1 _ g1'=>?_⟩;have b1:=b.same s1;obtain⟨dx2,e2⟩:=b1.b.self;refine⟨_,rfl,L9,dx2,_,rfl,e2,rfl,R,twQ e q,(by rw[b1.b.qu]),b1.b.qw,few1,λms2 pm2 pw2 p3 H2' s2 _ g2'=>?_⟩;have b2:=b1.same s2;obtain rfl:ms2=ms1:=dM (pm2.trans pm1.symm) pw2 pw1;rw[show hW (twQ e q).hs=hW q.hs from AE]at g2';refine EJ (s2 _ _ g1') g2' ⟨_,rfl,aU ?_⟩;obtain⟨dx3,e3⟩:=b2.a.self;refine⟨_,rfl,L0,dx3,_,rfl,e3,rfl,L,q,(by rw[b2.a.qu]),b2.a.qw,few1,λms3 pm3 pw3 p4 H3' s3 _ g3'=>?_⟩;have b3:=b2.same s3;obtain⟨dx4,e4⟩:=b3.b.self;refine⟨_,rfl,L9,dx4,_,rfl,e4,rfl,R,twQ e q,(by rw[b3.b.qu]),b3.b.qw,few1,λms4 pm4 pw4 p5 H4' s4 _ g4'=>?_⟩;have b4:=b3.same s4;obtain rfl:ms4=ms3:=dM (pm4.trans pm3.symm) pw4 pw3;rw[show hW (twQ e q).hs=hW q.hs from AE]at g4';refine EJ (s4 _ _ g3') g4' ⟨_,rfl,aU ?_⟩;obtain⟨dx5,e5⟩:=b4.a.self;obtain⟨dx6,e6⟩:=b4.b.self;refine⟨_,rfl,L0,dx5,_,rfl,e5,rfl,L,q,(by rw[b4.a.qu]),b4.a.qw,_,rfl,L9,dx6,_,rfl,e6,rfl,R,twQ e q,(by rw[b4.b.qu]),b4.b.qw,rfl,?_⟩;rw[show q.now=(twQ e q).now from rfl,decide_eq_true rfl];exact hQ _
end
structure DefIn(K:Ln)(x:Str)(st:Stmt):Prop where
 ex:∃(f:Addr) (oc:Value) (od:Option Addr) (kV doc pm:Value) (an:Option Addr) (cdv ct:Value) (osl:Lr),nsIn K mainGlobals x=some (some (.ref f))/\
  K.lookup f=some ⟨oc,od,.func (fnOf x x (gG st) (fI st) (c8 st) .none kV doc pm an cdv ct),osl⟩/\codeIn K cdv x=true/\keepIn K (.ref f)=true
def a9{K:Ln}{x:Str}{st:Stmt}{f:Addr}{oc:Value}{od an:Option Addr}{osl:Lr}{kV doc pm cdv ct:Value}(a:nsIn K mainGlobals x=some (some (.ref f)))
  (l:K.lookup f=some ⟨oc,od,.func (fnOf x x (gG st) (fI st) (c8 st) .none kV doc pm an cdv ct),osl⟩) (c:codeIn K cdv x=true) (k:keepIn K (.ref f)=true):DefIn K x st:=⟨⟨f,oc,od,kV,doc,pm,an,cdv,ct,osl,a,l,c,k⟩⟩
def DefIn.get{K:Ln}{h:Heap}{mg:Lp}{x:Str}{st:Stmt}(X:K.In h)(G:h.Ns mainGlobals mg)(D:DefIn K x st):∃f fd,Fun K x x st f fd/\mg x=some (.ref f)/\keepIn K (.ref f)=true:=by
 obtain⟨f,oc,od,kV,doc,pm,an,cdv,ct,osl,a,l,c,k⟩:=D.ex;exact⟨f,_,C6 l c k,mg_of X G a,k⟩
def sH:Lu->Lv->Bool
 | [],[]=>true
 | k::ks,.str x _::vs=>decide (x=k) && sH ks vs
 | _,_=>false
def oI:∀{ks:Lu}{vs:Lv},sH ks vs=true->bZ (ks.map V.str) vs
 | [],[],_=>.nil
 | k::ks,.str x t::vs,h=>by
  simp only[sH,and_eq_true,decide_eq_true_eq]at h;obtain⟨h1,h2⟩:=h;subst h1;exact .cons ⟨t,rfl⟩ (oI h2)
def zZ(K:Ln)(a:Addr):Bool:=match K.lookup a with
 | some ⟨.type t,none,.seq its n,_⟩=>decide (t = "tuple") && (decide (its.size<=100) && sH cT its.toList)
 | _=>false
def C0{K:Ln}{a:Addr}(h:zZ K a=true):(∀H,SqT K H a (cT.map V.str))/\∃o,K.lookup a=some o/\o.cls = .type "tuple"/\o.dict=none:=by
 unfold zZ at h;split at h
 ·next t its n sl e=>
  simp only[and_eq_true,decide_eq_true_eq]at h;obtain⟨h1,h2,h3⟩:=h;subst h1;exact⟨λH=>.inr ⟨_,its,n,e,rfl,rfl,aJ h2,oI h3⟩,_,e,rfl,rfl⟩
 ·cases h
structure MethIn(K:Ln)(C:Addr)(x qual:Str)(st:Stmt):Prop where
 ex:∃(f:Addr) (oc:Value) (od:Option Addr) (kV doc pm:Value) (an:Option Addr) (cdv ct:Value) (osl:Lr),findIn K (.ref C) x=some (some (.ref f))/\PySem.W.isFn K (.ref f)=true/\
  K.lookup f=some ⟨oc,od,.func (fnOf x qual (gG st) (fI st) (c8 st) .none kV doc pm an cdv ct),osl⟩/\codeIn K cdv qual=true/\keepIn K (.ref f)=true
def a7{K:Ln}{C:Addr}{x qual:Str}{st:Stmt}{f:Addr}{oc:Value}{od an:Option Addr}{osl:Lr}{kV doc pm cdv ct:Value}(a:findIn K (.ref C) x=some (some (.ref f)))(i:PySem.W.isFn K (.ref f)=true)
  (l:K.lookup f=some ⟨oc,od,.func (fnOf x qual (gG st) (fI st) (c8 st) .none kV doc pm an cdv ct),osl⟩) (c:codeIn K cdv qual=true) (k:keepIn K (.ref f)=true):MethIn K C x qual st:=⟨⟨f,oc,od,kV,doc,pm,an,cdv,ct,osl,a,i,l,c,k⟩⟩
def MethIn.get{K:Ln}{C:Addr}{x qual:Str}{st:Stmt}(D:MethIn K C x qual st):∃f fd,Fun K x qual st f fd/\findIn K (.ref C) x=some (some (.ref f))/\PySem.W.isFn K (.ref f)=true/\keepIn K (.ref f)=true:=by
 obtain⟨f,oc,od,kV,doc,pm,an,cdv,ct,osl,a,i,l,c,k⟩:=D.ex;exact⟨f,_,C6 l c k,a,i,k⟩
def ucs{P:Lv->Prop}{n:Nat}(h:∀a us,us.length=n->P (a::us)):∀us,us.length=n+1->P us:=λus hl=>by
 cases us with
 | nil=>cases hl
 | cons a r=>exact h a r (Nat.succ.inj hl)
def us0{P:Lv->Prop}(h:P []):∀us,us.length=0->P us:=λus hl=>by
 cases us with
 | nil=>exact h
 | cons a r=>cases hl
def IF(x qual:Str)(st:Stmt)(ps:Lu):Prop:=∀(kV doc pm:Value)(an:Option Addr)(cdv ct:Value)(us:Lv),us.length=ps.length->bindArgs (fnOf x qual (gG st) (fI st) (c8 st) .none kV doc pm an cdv ct) ⟨us,[]⟩=pure (ps.zip us)
local macro_rules | `(tactic| trivial) => `(tactic| (intro _ _ _ _ _ _; (repeat refine ucs λ_ => ?_); exact us0 rfl))
structure Ev(P:Program)(w:World)(K:Ln)(mg:Lp)(base h:Heap):Prop where
 X:K.In h
 G:h.Ns mainGlobals mg
section
variable{P:Program}{w:World}{K:Ln}{mg:Lp}{base h:Heap}{x qual:Str}{st:Stmt}{C:Addr}{k:Nat}{ps:Lu}{sp:Sp}
def Ev.c(V:Ev P w K mg base h)(D:DefIn K x st)(ok:∀{f fd},Fun K x x st f fd->‹14› k f fd ps sp)(b:IF x x st ps:=by trivial):‹15› x k ps sp:=by
 obtain⟨f,fd,F,m,kp⟩:=D.get V.X V.G;exact⟨f,fd,ok F,m,kp,F.binds b⟩
def Ev.m(V:Ev P w K mg base h)(D:MethIn K C x qual st)(ok:∀{f fd},Fun K x qual st f fd->‹14› k f fd ps sp)(b:IF x qual st ps:=by trivial):‹16› C x k ps sp:=by
 obtain⟨f,fd,F,a,i,kp⟩:=D.get;exact⟨f,fd,ok F,⟨a,i,kp⟩,F.binds b⟩
def Ev.mk2{y:Str}(V:Ev P w K mg base h)(D:MethIn K C "__init__" qual st)(mk:PySem.W.makesIn K C=true)(kc:keepIn K (.ref C)=true)(bn:nsIn K mainGlobals y=some (some (.ref C)))(ok:∀{f fd},Fun K "__init__" qual st f fd->‹14› k f fd ps sp)(b:IF "__init__" qual st ps:=by trivial):‹17› y C k ps sp:=by
 obtain⟨f,fd,F,a,i,kp⟩:=D.get;exact⟨f,fd,ok F,⟨mk,a,i,kc⟩,mg_of V.X V.G bn,F.binds b⟩
end
def LH{l:PySem.W.OpenLaw}{w:World}{K:Ln}{h:Heap}{mg:Lp}{fa fL aa9 aa2 aa5 ab9 aa6 aa3 aa1 ak2 aj4 as8 ab0 aj5 ad9 ab4 aa7 aa4 aa8:Addr}(X:K.In h)(G:h.Ns mainGlobals mg)(hfa:mg "law" = some (.ref fa))
  {odL anL:Option Addr} {slL:Lr} {ocL kVL dcL pmL cdL ctL:Value} {t0 t1 t2 t3 t4 t5 t6 t7 t8 t9 t10 t11 t12 t13 t14 t15:Tok}
  (ay1:DefIn K "is_number" rJ)
  (ar5:DefIn K "check_steps" nJ)
  (au1:DefIn K "check_deed" o0)
  (bb5:DefIn K "is_bytes" uG)
  (ay2:DefIn K "fits_kind" rK)
  (bh5:DefIn K "is_row" A1)
  (au2:DefIn K "check_body" o5)
  (ap5:DefIn K "segment_name" l9)
  (ay3:DefIn K "checks_of" rM)
  (ay4:DefIn K "row_bytes" rE)
  (au3:DefIn K "segment_of" oU)
  (ar6:DefIn K "segments_on" nI)
  (be7:DefIn K "row_end" w6)
  (bb6:DefIn K "row_from" uC)
  (be8:DefIn K "rows_in" wZ)
  (ah9:DefIn K "without_last_parts" wW)
  (be9:DefIn K "is_word" xJ)
  (au4:DefIn K "check_name" oX)
  (ay5:DefIn K "make_good" rG)
  (ap6:DefIn K "check_bodies" mB)
  (au5:DefIn K "check_hand" oY)
  (bf0:DefIn K "told_by" wX)
  (d_do:DefIn K "do" s_do)
  (ay6:DefIn K "_law_cell" GT)
  (bb7:DefIn K "_law_mix" Jv)
  (ay7:DefIn K "_law_seed" GM)
  (an7:DefIn K "_law_settings" uB)
  (am6:DefIn K "check_settings" kB)
  (bf1:DefIn K "rows_of" wY)
  (bf2:DefIn K "book_of" xK)
  (au6:DefIn K "_law_queue" Av)
  (au7:DefIn K "_law_begin" A0)
  (ay8:DefIn K "_law_pick" GO)
  (au8:DefIn K "_law_ready" Au)
  (au9:DefIn K "_law_bytes" Dc)
  (ay9:DefIn K "_law_deed" DZ)
  (az0:DefIn K "_law_size" DY)
  (av0:DefIn K "_law_write" At)
  (bb8:DefIn K "_law_put" GQ)
  (av1:DefIn K "_law_given" Ax)
  (ak5:DefIn K "_law_front_goes" Ay)
  (av2:DefIn K "_law_other" Aw)
  (az1:DefIn K "_law_told" DW)
  (az2:DefIn K "_law_stay" DX)
  (bj8:nsIn K mainGlobals "Disk" = some (some (.ref aa7))) (bd7:plainGet K aa7 Str.empty=true) (bd8:hasDictIn K aa7=true) (bd9:PySem.W.plainOver K aa7=true) (be0:findIn K (.ref aa7) "__setattr__" = some (some (.builtin "object.__setattr__"))) (bi3:PySem.W.makesIn K aa7=true) (bi4:keepIn K (.ref aa7)=true)
  (av3:findIn K (.ref aa7) "files" = some none)
  (ak6:findIn K (.ref aa7) "steps_done" = some none)
  (aj9:findIn K (.ref aa7) "steps_ahead" = some none)
  (an8:MethIn K aa7 "__init__" "Disk.__init__" Db)
  (av4:MethIn K aa7 "names" "Disk.names" DV)
  (ak7:MethIn K aa7 "check_file" "Disk.check_file" oZ)
  (az3:MethIn K aa7 "read" "Disk.read" GN)
  (az4:MethIn K aa7 "size" "Disk.size" GL)
  (ak8:MethIn K aa7 "count_step" "Disk.count_step" oW)
  (az5:MethIn K aa7 "make" "Disk.make" GP)
  (az6:MethIn K aa7 "drop" "Disk.drop" GS)
  (bb9:MethIn K aa7 "cut" "Disk.cut" Jw)
  (bc0:MethIn K aa7 "add" "Disk.add" Jx)
  (bj9:nsIn K mainGlobals "Book" = some (some (.ref aa4))) (be1:plainGet K aa4 Str.empty=true) (be2:hasDictIn K aa4=true) (be3:PySem.W.plainOver K aa4=true) (be4:findIn K (.ref aa4) "__setattr__" = some (some (.builtin "object.__setattr__"))) (bi5:PySem.W.makesIn K aa4=true) (bi6:keepIn K (.ref aa4)=true)
  (ap7:findIn K (.ref aa4) "entries" = some none)
  (ai0:findIn K (.ref aa4) "upcoming" = some none)
  (av5:findIn K (.ref aa4) "parts" = some none)
  (am7:MethIn K aa4 "enter_put" "Book.enter_put" rL)
  (ak9:MethIn K aa4 "enter_deal" "Book.enter_deal" oV)
  (ai3:MethIn K aa4 "change_entry" "Book.change_entry" A2)
  (av6:MethIn K aa4 "enter" "Book.enter" Da)
  (ar7:MethIn K aa4 "letter" "Book.letter" Az)
  (ap8:MethIn K aa4 "letters" "Book.letters" xI)
  (al0:MethIn K aa4 "numbers_in" "Book.numbers_in" rN)
  (an9:MethIn K aa4 "__init__" "Book.__init__" GR)
  (bi7:nsIn K mainGlobals "Queue" = some (some (.ref aa8))) (bh6:plainGet K aa8 Str.empty=true) (bh7:hasDictIn K aa8=true) (bh8:PySem.W.plainOver K aa8=true) (bh9:findIn K (.ref aa8) "__setattr__" = some (some (.builtin "object.__setattr__"))) (bi0:PySem.W.makesIn K aa8=true) (bi1:keepIn K (.ref aa8)=true)
  (av7:findIn K (.ref aa8) "disk" = some none)
  (av8:findIn K (.ref aa8) "most" = some none)
  (av9:findIn K (.ref aa8) "hold" = some none)
  (ar8:findIn K (.ref aa8) "tries" = some none)
  (aw0:findIn K (.ref aa8) "book" = some none)
  (ar9:findIn K (.ref aa8) "first" = some none)
  (aw1:findIn K (.ref aa8) "last" = some none)
  (ao0:findIn K (.ref aa8) "writing" = some none)
  (ao1:findIn K (.ref aa8) "holders" = some none)
  (az7:findIn K (.ref aa8) "now" = some none)
  (ai1:MethIn K aa8 "is_last_full" "Queue.is_last_full" Ao)
  (ah0:MethIn K aa8 "begin_segment" "Queue.begin_segment" xH)
  (as0:MethIn K aa8 "write" "Queue.write" xA)
  (az8:MethIn K aa8 "put" "Queue.put" DU)
  (ao2:MethIn K aa8 "put_all" "Queue.put_all" uE)
  (ai2:MethIn K aa8 "free_letters" "Queue.free_letters" Ap)
  (as1:MethIn K aa8 "ready" "Queue.ready" xC)
  (aw2:MethIn K aa8 "take" "Queue.take" Al)
  (ak0:MethIn K aa8 "check_held" "Queue.check_held" xF)
  (aw3:MethIn K aa8 "done" "Queue.done" Aq)
  (al1:MethIn K aa8 "give_back" "Queue.give_back" As)
  (aw4:MethIn K aa8 "wait" "Queue.wait" Ak)
  (aw5:MethIn K aa8 "dead" "Queue.dead" Ar)
  (ap9:MethIn K aa8 "revive" "Queue.revive" uD)
  (ak1:MethIn K aa8 "drop_first" "Queue.drop_first" xD)
  (as2:MethIn K aa8 "sweep" "Queue.sweep" xB)
  (as3:MethIn K aa8 "carry" "Queue.carry" xG)
  (aw6:MethIn K aa8 "held" "Queue.held" An)
  (as4:MethIn K aa8 "clock" "Queue.clock" xE)
  (am8:MethIn K aa8 "__init__" "Queue.__init__" Am)
  (ao3:MethIn K aa8 "letters" "Queue.letters" rF)
  (aq0:MethIn K aa8 "coming" "Queue.coming" uF)
  (aL:nsIn K mainGlobals "law" = some (some (.ref fL))) (lL:K.lookup fL=some ⟨ocL,odL,.func (fnOf "law" "law" (gG rH) (fI rH) (c8 rH) .none kVL dcL pmL anL cdL ctL),slL⟩) (cL:codeIn K cdL "law" = true) (kL:keepIn K (.ref fL)=true)
  (ax8:nsIn K mainGlobals "len" = some none)
  (ae4:nsIn K mainGlobals "isinstance" = some none)
  (bg5:nsIn K mainGlobals "all" = some none)
  (bc1:nsIn K mainGlobals "sum" = some none)
  (al6:nsIn K mainGlobals "tuple" = some none)
  (bc2:nsIn K mainGlobals "int" = some none)
  (bc3:nsIn K mainGlobals "bool" = some none)
  (bc4:nsIn K mainGlobals "str" = some none)
  (aq1:nsIn K mainGlobals "range" = some none)
  (ag1:nsIn K mainGlobals "enumerate" = some none)
  (aw7:nsIn K mainGlobals "list" = some none)
  (bk2:nsIn K mainGlobals "max" = some none)
  (bk3:nsIn K mainGlobals "min" = some none)
  (ar2:nsIn K mainGlobals "sorted" = some none)
  (af7:nsIn K mainGlobals "HIGHEST_BYTE" = some (some (.int 255 t0)))
  (ae8:nsIn K mainGlobals "HIGHEST_NUMBER" = some (some (.int 999999 t1)))
  (aj2:nsIn K mainGlobals "LONGEST_BODY" = some (some (.int 60 t2)))
  (af3:nsIn K mainGlobals "HIGHEST_TIMES" = some (some (.int 9 t3)))
  (af8:nsIn K mainGlobals "LARGEST_DEAL" = some (some (.int 9 t4)))
  (as5:nsIn K mainGlobals "CHECKS_SIZE" = some (some (.int 2 t5)))
  (az9:nsIn K mainGlobals "HEAD_SIZE" = some (some (.int 7 t6)))
  (aq2:nsIn K mainGlobals "LARGEST_MOST" = some (some (.int 2000 t7)))
  (aq3:nsIn K mainGlobals "LONGEST_HOLD" = some (some (.int 99 t8)))
  (ao4:nsIn K mainGlobals "HIGHEST_TRIES" = some (some (.int 9 t9)))
  (aq4:nsIn K mainGlobals "LONGEST_HAND" = some (some (.int 6 t10)))
  (aq5:nsIn K mainGlobals "LONGEST_NAME" = some (some (.int 8 t11)))
  (aw8:nsIn K mainGlobals "MOST_STEPS" = some (some (.int 100000 t12)))
  (aq6:nsIn K mainGlobals "LONGEST_WAIT" = some (some (.int 99 t13)))
  (aw9:nsIn K mainGlobals "NAME_SIGNS" = some (some (.str cV t14)))
  (ax0:nsIn K mainGlobals "HAND_SIGNS" = some (some (.str "abcdefghijklmnopqrstuvwxyz" t15)))
  (aK:nsIn K mainGlobals "KINDS" = some (some (.ref aa9))) (qK:zZ K aa9=true)
  (bf3:nsIn K mainGlobals "BadName" = some (some (.ref aa2))) (an2:dO K aa2=true)
  (bf4:nsIn K mainGlobals "Missing" = some (some (.ref aa5))) (an3:dO K aa5=true)
  (bi8:nsIn K mainGlobals "There" = some (some (.ref ab9))) (ax6:dO K ab9=true)
  (ax1:nsIn K mainGlobals "Stopped" = some (some (.ref aa6))) (an4:dO K aa6=true)
  (ar3:nsIn K mainGlobals "Broken" = some (some (.ref aa3))) (af4:dO K aa3=true)
  (ar4:nsIn K mainGlobals "BadRow" = some (some (.ref aa1))) (ag4:dO K aa1=true)
  (as7:nsIn K mainGlobals "BadSettings" = some (some (.ref ak2))) (ag2:dO K ak2=true)
  (bf5:nsIn K mainGlobals "BadBody" = some (some (.ref aj4))) (aj6:dO K aj4=true)
  (bf6:nsIn K mainGlobals "BadHand" = some (some (.ref as8))) (an5:dO K as8=true)
  (ap0:nsIn K mainGlobals "BadNumber" = some (some (.ref ab0))) (ae9:dO K ab0=true)
  (bf7:nsIn K mainGlobals "NotHeld" = some (some (.ref aj5))) (aj7:dO K aj5=true)
  (bf8:nsIn K mainGlobals "BadDeed" = some (some (.ref ad9))) (am9:dO K ad9=true)
  (ax2:nsIn K mainGlobals "QueueError" = some (some (.ref ab4))) (bi2:dO K ab4=true)
  (hex0:PySem.W.exmOne K (.ref aj5) (.ref aa6)=some false)
  (hex1:PySem.W.exmOne K (.ref aj5) (.ref ab4)=some true)
  (hex2:PySem.W.exmOne K (.ref ab0) (.ref aa6)=some false)
  (hex3:PySem.W.exmOne K (.ref ab0) (.ref ab4)=some true)
  (hex4:PySem.W.exmOne K (.ref aj4) (.ref aa6)=some false)
  (hex5:PySem.W.exmOne K (.ref aj4) (.ref ab4)=some true)
  {a_S:Addr} {esS:Array DictEntry} {epS:Nat}
  (aS:nsIn K mainGlobals "SIZES_OF_DEEDS" = some (some (.ref a_S)))
  (lS:K.lookup a_S=some ⟨.type "dict",none,.dict esS epS,#[]⟩)
  (sS:(a_S == sysModules)=false)
  (hS:esS.toList.map (·.hash)=zH.map λp=>PyData.keyHash w.params p.1)
  (eS:pQ zH esS.toList=true)
  : ∃fd:Lx,(∀(s:Shared)(v:Value),BindsTo s fd ⟨[v],[]⟩ [("_law_script",v)])/\∀base:Heap,K.In base->base.Ns mainGlobals mg->FnOk l.prog w K mg base (CXE l.prog w) 11 fa fd ["_law_script"] (tM K):=by
 have e:=hfa.symm.trans (mg_of X G aL);cases e;obtain⟨kk1,kk2⟩:=C0 qK;have TK:TxtK K mg aa9 aa1 aa3 aa4:=⟨⟨mg_none_of X G ax8,mg_none_of X G ae4,mg_none_of X G bg5,mg_none_of X G bc1,mg_none_of X G al6,mg_none_of X G bc2,mg_none_of X G bc3,mg_none_of X G bc4,mg_none_of X G aq1,mg_none_of X G ag1,⟨_,mg_of X G af7⟩,⟨_,mg_of X G ae8⟩,⟨_,mg_of X G aj2⟩,⟨_,mg_of X G af3⟩,⟨_,mg_of X G af8⟩,mg_of X G aK,kk1,kk2,ag4,mg_of X G ar4⟩,mg_none_of X G aw7,mg_none_of X G bk2,mg_none_of X G ar2,af4,mg_of X G ar3,⟨be1,be2,be3,be4⟩,ap7,ai0,av5⟩;have TB:TxtB K mg aa9 aa1 aa3:=⟨⟨mg_none_of X G ax8,mg_none_of X G ae4,mg_none_of X G bg5,mg_none_of X G bc1,mg_none_of X G al6,mg_none_of X G bc2,mg_none_of X G bc3,mg_none_of X G bc4,mg_none_of X G aq1,mg_none_of X G ag1,⟨_,mg_of X G af7⟩,⟨_,mg_of X G ae8⟩,⟨_,mg_of X G aj2⟩,⟨_,mg_of X G af3⟩,⟨_,mg_of X G af8⟩,mg_of X G aK,kk1,kk2,ag4,mg_of X G ar4⟩,mg_none_of X G aw7,⟨_,mg_of X G as5⟩,⟨_,mg_of X G az9⟩,af4,mg_of X G ar3⟩;have TD:TxtD K mg aa2 aa5 ab9 aa6 aa1 ab0 aa7:=⟨⟨mg_none_of X G ax8,mg_none_of X G ae4,mg_none_of X G bg5,mg_none_of X G bc1,mg_none_of X G al6,mg_none_of X G bc2,mg_none_of X G bc3,mg_none_of X G bc4,mg_none_of X G aq1,mg_none_of X G ag1,mg_none_of X G aw7,mg_none_of X G ar2,⟨_,mg_of X G af7⟩⟩,⟨_,mg_of X G aw9⟩,⟨_,mg_of X G aq5⟩,⟨_,mg_of X G aw8⟩,an2,mg_of X G bf3,an3,mg_of X G bf4,ax6,mg_of X G bi8,an4,mg_of X G ax1,ag4,mg_of X G ar4,ae9,mg_of X G ap0,⟨bd7,bd8,bd9,be0⟩,av3,ak6,aj9⟩;have TQ:TxtQ K mg ‹19›:=⟨mg_none_of X G ax8,mg_none_of X G bc2,mg_none_of X G ar2,mg_none_of X G bc1,af4,mg_of X G ar3,⟨be1,be2,be3,be4⟩,⟨bd7,bd8,bd9,be0⟩,⟨bh6,bh7,bh8,bh9⟩,mg_none_of X G bk3,⟨_,mg_of X G aq2⟩,⟨_,mg_of X G aq3⟩,⟨_,mg_of X G ao4⟩,⟨_,mg_of X G ax0⟩,⟨_,mg_of X G aq4⟩,⟨_,mg_of X G ae8⟩,⟨_,mg_of X G af3⟩,ag2,mg_of X G as7,aj6,mg_of X G bf5,an5,mg_of X G bf6,aj7,mg_of X G bf7,ai0,av7,av8,av9,ar8,aw0,ar9,aw1,ao0,ao1,az7,mg_none_of X G ae4,mg_none_of X G al6,mg_none_of X G ag1,mg_none_of X G aq1,mg_none_of X G aw7,⟨_,mg_of X G af8⟩,ae9,mg_of X G ap0⟩;have TS:TxtS l.prog w K mg ‹19› a_S ad9 ab4:=⟨mg_none_of X G ax8,mg_none_of X G ae4,mg_none_of X G al6,mg_none_of X G bc4,am9,mg_of X G bf8,mg_of X G ax1,List.forall_mem_cons.mpr ⟨⟨hex0,hex1⟩,List.forall_mem_cons.mpr ⟨⟨hex2,hex3⟩,List.forall_mem_cons.mpr ⟨⟨hex4,hex5⟩,λ_ h=>nomatch h⟩⟩⟩,mg_of X G ax2,mg_of X G aS,gd_of (ps:=zH) sS lS hS eS (by decide)⟩;refine⟨fnOf "law" "law" (gG rH) (fI rH) (c8 rH) .none kVL dcL pmL anL cdL ctL,λs v=>.of_eq rfl,λbase _ _=>?_⟩;have V:Ev l.prog w K mg base h:=⟨X,G⟩;have ab1:=V.c ay1 λF=>zS F TK.toTxtR;have ak3:=V.c ar5 λF=>uT F TD ab1;have bb4:=V.mk2 an8 bi3 bi4 bj8 λF=>G3 F TD ak3;have am2:=V.c au1 λF=>vX F TS;have ac8:=V.c bb5 λF=>BO F TK.toTxtR ab1;have ao5:=V.c ay2 λF=>zT F TK.toTxtR;have ae6:=V.c bh5 λF=>E4 F TK.toTxtR ab1 ac8 ao5;have ae2:=V.c au2 λF=>vY F TQ ae6;have ab2:=V.c ap5 λF=>r8 F;have af0:=V.c ay3 λF=>zV F TK.toTxtR;have ac0:=V.c ay4 λF=>zQ F TK.toTxtR ae6 af0;have am0:=V.c au3 λF=>uS F;have ba2:=V.m av4 λF=>Et F TD;have ad6:=V.c ar6 λF=>rZ F TQ am0 ba2;have an1:=V.c be7 λF=>Cf F TB;have aq7:=V.c bb6 λF=>BJ F TB ae6 af0;have at6:=V.c be8 λF=>Ce F TB ac8 an1 aq7;have ae7:=V.c ah9 λF=>BG F TQ;have ag9:=V.c be9 λF=>Cs F TD.toTxtN;have ae1:=V.c au4 λF=>vU F TD ag9;have ag3:=V.m ak7 λF=>vW F TD ae1;have bd3:=V.m az3 λF=>JA F TD ag3;have al3:=V.m az4 λF=>Iz F TD ag3;have ak4:=V.m ak8 λF=>vT F TD;have al4:=V.m az5 λF=>JC F TD ae1 ak4;have al5:=V.m az6 λF=>JF F TD ag3 ak4;have bh2:=V.m bb9 λF=>JG F;have ah4:=V.m bc0 λF=>K9 F TD ac8 ag3 ak4;have af1:=V.c ay5 λF=>Gz F TQ ab2 ad6 at6 ae7 ac0 bd3 al3 al4 al5 bh2 ah4;have ax3:=V.m am7 λF=>zU F TK;have bg4:=V.m ak9 λF=>vS F TK ax3;have bc5:=V.m ai3 λF=>E5 F TK;have ai8:=V.m av6 λF=>G0 F TK ax3 bg4 bc5;have ah5:=V.m ai1 λF=>Ep F TQ ab2 al3;have ag6:=V.m ah0 λF=>Cp F TQ ab2 ac0 al4 ah4;have ab6:=V.m as0 λF=>Cg F TQ ab2 ac0 af1 ah4 ai8 ah5 ag6;have bh4:=V.m az8 λF=>Gu F TQ ae2 ab6;have ai9:=V.c ap6 λF=>sA F TQ ae2;have aq8:=V.m ao2 λF=>BL F TQ ai9 ab6;have ae3:=V.c au5 λF=>vV F TQ ag9;have ac9:=V.m ar7 λF=>E2 F TK;have af6:=V.m ap8 λF=>Cr F TK ac9;have ac6:=V.m ai2 λF=>Er F TQ af6;have ag7:=V.m as1 λF=>Ci F TQ ac6;have bd4:=V.m aw2 λF=>Eo F TQ ae3 ac9 ag7 ab6;have ad7:=V.m ak0 λF=>BN F TQ ab1 ae3;have bd5:=V.m aw3 λF=>Cm F TQ ad7 ab6;have am1:=V.m al1 λF=>Cq F TQ ad7;have aj1:=V.m aw4 λF=>En F TQ ab1 ac9 (hw:=⟨_,mg_of X G aq6⟩);have aj0:=V.m aw5 λF=>Es F TQ ac6;have at8:=V.m ap9 λF=>BK F TQ ab1 aj0 ab6;have ad4:=V.m al0 λF=>zW F TK;have ad5:=V.m ak1 λF=>Cl F TQ ab2 al5;have ba3:=V.m as2 λF=>Ch F TQ ad4 ad5;have ba4:=V.m as3 λF=>Co F TQ ad4 ac9 ad5 ab6;have at9:=V.c bf0 λF=>Cd F TQ bh4 aq8 bd4 bd5 am1 aj1 at8 ba3 ba4;have c_do:=V.c d_do λF=>ok_do F TQ TS am2 at9;have ax7:=V.m aw6 λF=>Ck F TQ;have ar0:=V.m as4 λF=>Cn F TQ;have ag0:=V.c ay6 λF=>JH F TQ;have ar1:=V.c bb7 λF=>K7 F;have ab5:=V.c ay7 λF=>I0 F;have ah7:=V.c an7 λF=>BH F TQ ab5;have ag8:=V.c am6 λF=>pA F TQ ab1;have at5:=V.c bf1 λF=>BI F;have bh1:=V.mk2 an9 bi5 bi6 bj9 λF=>JE F TK;have at7:=V.c bf2 λF=>G5 F TQ ad6 at5 bh1 ai8;have bd6:=V.mk2 am8 bi0 bi1 bi7 λF=>Cj F TQ ag8 at7 af1;have ah8:=V.c au6 λF=>Ex (A:=‹19›) F bd6;have am5:=V.c au7 λF=>E3 F;have af2:=V.c ay8 λF=>JB F;have ac2:=V.c au8 λF=>Ew F TQ;have ah6:=V.c au9 λF=>G4 F TQ ab5 af2;have ao8:=V.c ay9 λF=>Gy F TQ af2 ac2 ah6 ab5;have ao7:=V.c az0 λF=>Gx F TQ;have ab3:=V.c av0 λF=>Eu F TQ ao7;have al2:=V.c bb8 λF=>JD F TQ ab3;have am3:=V.c av1 λF=>Ez F TQ ab3;have ae0:=V.c ak5 λF=>E1 F;have am4:=V.c av2 λF=>Ey F TQ ab3 ac2 ae0;have ao9:=V.c az1 λF=>Gv F TQ al2 ab3 ac2 am3 am4;have aq9:=V.m ao3 λF=>zR F TQ af6;have au0:=V.m aq0 λF=>BM F TQ;have aj3:=V.c az2 λF=>Gw F TQ aq9 au0;exact K8 (C6 (st:=rH) lL cL kL) TQ bb4 c_do ag7 aj0 ax7 ar0 aj1 ag0 ar1 ab5 ah7 ah8 am5 ao8 ao9 aj3
def walk{l:PySem.W.OpenLaw}{q:Program}{loose:Lu}{XP:(Lp)->Heap->Prop}{YP:World->Heap->Prop}{d:DefRec}{K:Params->Ln}(hn:l.most=some 63)(hdf:d.params.defaults=[])
  (hY:∀(w:World)(h:Heap),YP w h->(K w.params).In h)
  (F:∀(w:World)(mg:Lp)(fa:Addr)(h:Heap),(K w.params).In h->h.Ns mainGlobals mg->mg d.name=some (.ref fa)->
   ∃fd:Lx,(∀(s:Shared)(u:Value),BindsTo s fd ⟨[u],[]⟩ [("_law_script",u)])/\∀base:Heap,(K w.params).In base->base.Ns mainGlobals mg->FnOk l.prog w (K w.params) mg base (CXE l.prog w) 11 fa fd ["_law_script"] (tM (K w.params))) :
  PySem.W.WalkO q loose XP YP l.row.toRowW d [] (λf vs=>PySem.call f vs):=
 L2.II (n:=63) (k:=11) (x:="_law_script") (CX:=λw=>CXE l.prog w) (sp:=λw=>tM (K w.params)) hn (by decide) hdf ⟨rfl,by decide,by decide⟩ hY F (λ_ _ a ns hl _ hS=>⟨a,ns,rfl,hS,λ_=>rfl⟩) λ_ _ _ _ _ ⟨_,_,_,_,_,z⟩=>z
end Qh
end
structure PySem.W.Fast:Prop where
 (tw1969129891093587821 tw9380700511418068604 tw409505412526834041 tw5475925602249405681 tw4682612833763068971 tw13179222649725519017 tw16999747836187237191 tw16459858014602241560 tw8595276473586603291 tw7405429693400590604 tw10740336909854454216 tw15191216138300833019 tw11439269715122655037 tw16270802954182638184 tw1159088156999016689 tw15721520828107747475 tw16588262901608552057 tw3218613954381692250 tw11979941576099810548 tw9904016070200883906 tw6628941200078280337 tw8251461699967321649 tw2364974976045452655 tw12215294921490316606 tw6514404095573654458 tw13597166249282774271 tw17496168160290347470 tw13162658698891568133 tw5527075215871805797 tw15241682320259913356 tw13847493996356118408 tw15029660943200324881 tw13568472711624138325 tw17309962251770625465 tw8613787093515397474 tw5882322617671406591 tw7847363327738070160 tw12827647282507785079 tw8351958901485676894 tw455123343426905984 tw2569810275178762771 tw1074689351228126905 tw12276805106902245076 tw12383492399347337139 tw2623534820760525962 tw15663466997061494667 tw16989709364464710476 tw6309986317938089347 tw15353879761750780287 tw3014482962963361123 tw1254002912178022951 tw15354415627701152413 tw9076434233030304236 tw6225455820441748487 tw3673159397248379820 tw4676562033456754481 tw8757600014235275953 tw16822963432065757006 tw758750862733262344 tw1776421527381971025 tw10188071453782345052 tw18151179151717443091 tw5427629869985649083 tw1564451533624360122 tw5887665540394859601 tw7052354379623170049 tw8738303008106143980 tw4909043970055509212 tw11754395441615682346 tw1811855138744739525 tw1255057462143156012 tw674840305810424502 tw14942769803615666069 tw2121279866871903083 tw10674657555175226288 tw9346639514881988016 tw13591725298751798157 tw12548368903242144558 tw9157324574788930449 tw15664712671872196077 tw7297535749769442346 tw86897087508623925 tw7353382227001966767 tw1557868343251901323 tw8083149774205930508 tw11465793907747334218 tw10975348939422572203 tw14084728454229689051 tw2265109574793644958 tw12949690889055467144 tw6702047624827126351 tw16538981014581756346 tw15478105017458329599 tw8776214853082271319 tw5215743463012852783 tw17811008671201438836 tw12719537780320431981 tw14708970695548409152 tw1782147205662396741 tw6740765191185777969 tw13979000451819948504 tw4353822886554685045 tw13953601200389338143 tw17425870852647743467 tw16317007870986740808 tw14089947222596193660 tw104374904682376946 tw3611641940303436650 tw9594154489410684424 tw12486886584522055187 tw9475176237775372653 tw10875453579280611678 tw7202755476202520073 tw9228362777128333857 tw4829551162091604547 tw14560270443556680436 tw318373931566638549 tw3805266939860046195 tw16894411354266982743 tw13260950520162795120 tw17455705508509823894 tw12093866214589582042 tw13157288812138261705 tw15608240209124412600 tw2079907708294843435 tw17694808854080009512 tw10424001527628675198 tw3048009662413983012 tw16358286080244723138 tw466678584399992079 tw8117482317833273628 tw13735410594111217832 tw9793595563261322609 tw16207576817467998114 tw6106400271293579646 tw7586875283465110965 tw13528781476244226635 tw15690535353485136185 tw11585169548754701933 tw6880999405486123296 tw2613168247840990693 tw8845579037707421992 tw17773177358420187695 tw11191347901495646099 tw11956933037886585014 tw7617492956352145492 tw7558435972202622760 tw13696986688938145392 tw10801657327970332744 tw6550378071112142801 tw4403720945155460754 tw4250909490932342148 tw168239759930069309 tw8921375395892832476 tw9381368394453580828 tw11601097606989861528 tw7444804166167522258 tw9279468305724558581 tw15895588925959590248 tw3540910146364787378 tw3230264154532786778 tw16100398216614144578 tw13105965571242626120 tw9439921609142812828 tw10387710886944246603 tw11907480404708179997 tw9994895729608934632 tw11345997006260972850 tw16563183320446056735 tw7417330407982272247 tw10388970624996027110 tw16792308815069802659 tw9341962652219943971 tw15411625730549877733 tw5164701385532502773 tw1072674234982530754 tw9423682646413914002 tw17922921248965894088 tw8398258859740672434 tw4280052382172093828 tw2772141095550022377 tw9954161262872161870 tw4965386464386209376 tw9977075879843013523 tw4045619737414317323 tw9134700923533989028 tw13160326099305993587 tw4770510784742832302 tw10102202394933492551 tw9965005341552281252 tw746041099058496502 tw332563776667432751 tw10823466320551881885 tw17844452299261009603 tw16420221027102142394 tw13301991073524315539 tw1956242499852051310 tw9435243871106852146 tw6802330683667619372 tw13956953931449196562 tw9363256923220763440 tw9387706045917969689 tw9974517074160295692 tw8460631777296167537 tw14265484492801913741 tw7686250341213454583 tw3677579920889952129 tw9530986035983360719 tw5454319347575775817 tw8593358888136878509 tw2678572881265726514 tw3388549390687552996 tw17047972636294283396 tw13324448897333992737 tw7664057948468937533 tw18881525771064106 tw14165610641424550530 tw7464476262519164903 tw9899924033273641479 tw8321333840215125592 tw18213322016488616549 tw9003826488098045864 tw14391014412216583880 tw14685321970192449811 tw13298803962035847234 tw4258658390571535539 tw11457294925141272846 tw10887497392001057853 tw1941387433899344033 tw3593692480027885012 tw472311620591955409 tw5861427560611974175 tw11403088058428517611 tw5871488463908481699 tw3969886892160594022 tw8191046717564434179 tw14430111574570231417 tw6928083827635338234 tw15918674351240802535 tw15686306088278811580 tw8330941920151830078 tw69611529096477058 tw1519104785458838255 tw14080642922542041512 tw10214968330245360929 tw11647820085479152937 tw18370756555375347438 tw9250332277511984147 tw2338236207995041041 tw9691715308928397380 tw6821013287856254785 tw857580357379223021 tw8930757122795746231 tw8890276101838625182 tw15193934246909933274 tw8266964882959113053 tw5283131482010331356 tw14394255864054714914 tw1219651648884246150 tw8826852939604724988 tw8838879670845950159 tw12677138357769527414 tw12479297887403800859 tw2486509309363346990 tw2488409318311593400 tw11642382874237643785 tw10383388515681663182 tw93875519674865390 tw2728622683156278772 tw7505870423354071258 tw16546056840937020015 tw1160401366199774590 tw1933568338615869868 tw18293451210753571934 tw17758701786128021852 tw15986055481523089033 tw1132997157100568402 tw811590964234896816 tw14223977940936434877 tw17380554314794910780 tw9523243453423279799 tw16716764907354283612 tw9707033860923892983 tw4073135207906954940 tw7181290873803403019 tw10739599487242842592 tw7875618640311323348 tw10552007558801896378 tw671108045279591523 tw2988294319033055435 tw15894378684202960252 tw1443199928765443012 tw3727250259685056053 tw2697189364339136885 tw4971898122466164557 tw11282638641687774044 tw11328353325709250299 tw1180427729512206514 tw16580690565125966426 tw1564517847647982277 tw14516444879773930859 tw15025167370380276046 tw4344167690856464163 tw3224209323209082249 tw4252182074719364610 tw6685714529295904694 tw11305017318166998642 tw10696310336396880436 tw16446169352626697279 tw7238327539256981982 tw8592158925788335890 tw7949439337294372395 tw1349970455184458593 tw16262917897713688228 tw16174591842746654998 tw10801894606994082193 tw8772091449794523762 tw4922545697678561352 tw1731183502803540815 tw7934055172215556183 tw6328595156577851437 tw2003358960482141158 tw1574420357748499399 tw8901768409529784079 tw17747807521725156276 tw6080231596829231194 tw3036697897598362579 tw16392927728009936085 tw6930689426075937923 tw11996477444934683474 tw5668196177964267097 tw11081932457433823759 tw1571922207710512921 tw15867587406216488089 tw520555749278724633 tw4803835108219901461 tw1365566223838902148 tw8842955575710138528 tw17820155650421063633 tw12636581012239784151 tw3144723182752259124 tw10234743926789997756 tw12964952670542523518 tw1622606510921765630 tw4132060408408197047 tw2287997570419479225 tw11213095508803511981 tw2813482542157928049 tw2150501671100709486 tw18409988344313731160 tw5674586826685935914 tw516771749566584544 tw336751565849622485 tw7874429327658123289 tw12225863175727567171 tw15968075925041840669 tw16908725920467368182 tw8665399943835403062 tw10120881416598803603 tw14512868781719684231 tw9003108432290253683 tw16310130784011293937 tw16577935552099339997 tw629140595815530206 tw11552742429252131819 tw16540296440228976681 tw771249954225664434 tw4114320155045980496 tw4738542822913761884 tw4673208811371173359 tw5315735834822037793 tw13217418282840298976 tw17538051207926371075 tw6815011213103110204 tw3815991017219640488 tw4723193578295152102 tw7863349989561687483 tw1472044570175137655 tw16829018024948943830 tw8550876053947286466 tw6740122072633549583 tw1288996253467724020 tw7937202425732022362 tw15306762066566644312 tw8671039847303666955 tw15094197455919412043 tw10746553656337845420 tw13297879308908359182 tw9352938956094393762 tw11956621820185045490 tw9823739138914832847 tw18428386923387386590 tw6209559148887326367 tw7260947996611850843 tw13221167049261956839 tw9156549252706038286 tw7574217346777584241 tw10294929206162551663 tw1727746258764275917 tw10772290751708429481:True)
open PySem PySem.W PyProof.Rows
set_option maxRecDepth 100000 in
set_option maxHeartbeats 0 in
theorem PySem.Challenge.cw_queuehold_k39_whole_hands_and_times_holds : PySem.Challenge.rw_queuehold_k39_whole_hands_and_times.Holds := by
 w_on; o_law; k_head; (case hw=>w_witness2)
 k_fill
 refine Qh.walk (l:=PySem.Challenge.rw_queuehold_k39_whole_hands_and_times) rfl rfl (λw h Y=>PySem.W.kIn_of Y) ?F
 case F=>
  intro w mg fa h KX G hmg
  refine' Qh.LH KX G hmg ?ay1 ?ar5 ?au1 ?bb5 ?ay2 ?bh5 ?au2 ?ap5 ?ay3 ?ay4 ?au3 ?ar6 ?be7 ?bb6 ?be8 ?ah9 ?be9 ?au4 ?ay5 ?ap6 ?au5 ?bf0 ?A0 ?ay6 ?bb7 ?ay7 ?an7 ?am6 ?bf1 ?bf2 ?au6 ?au7 ?ay8 ?au8 ?au9 ?ay9 ?az0 ?av0 ?bb8 ?av1 ?ak5 ?av2 ?az1 ?az2 ?bj8 ?bd7 ?bd8 ?bd9 ?be0 ?bi3 ?bi4 ?av3 ?ak6 ?aj9 ?an8 ?av4 ?ak7 ?az3 ?az4 ?ak8 ?az5 ?az6 ?bb9 ?bc0 ?bj9 ?be1 ?be2 ?be3 ?be4 ?bi5 ?bi6 ?ap7 ?ai0 ?av5 ?am7 ?ak9 ?ai3 ?av6 ?ar7 ?ap8 ?al0 ?an9 ?bi7 ?bh6 ?bh7 ?bh8 ?bh9 ?bi0 ?bi1 ?av7 ?av8 ?av9 ?ar8 ?aw0 ?ar9 ?aw1 ?ao0 ?ao1 ?az7 ?ai1 ?ah0 ?as0 ?az8 ?ao2 ?ai2 ?as1 ?aw2 ?ak0 ?aw3 ?al1 ?aw4 ?aw5 ?ap9 ?ak1 ?as2 ?as3 ?aw6 ?as4 ?am8 ?ao3 ?aq0 ?aL ?lL ?cL ?kL ?ax8 ?ae4 ?bg5 ?bc1 ?al6 ?bc2 ?bc3 ?bc4 ?aq1 ?ag1 ?aw7 ?bk2 ?bk3 ?ar2 ?af7 ?ae8 ?aj2 ?af3 ?af8 ?as5 ?az9 ?aq2 ?aq3 ?ao4 ?aq4 ?aq5 ?aw8 ?aq6 ?aw9 ?ax0 ?aK ?qK ?bf3 ?an2 ?bf4 ?an3 ?bi8 ?ax6 ?ax1 ?an4 ?ar3 ?af4 ?ar4 ?ag4 ?as7 ?ag2 ?bf5 ?aj6 ?bf6 ?an5 ?ap0 ?ae9 ?bf7 ?aj7 ?bf8 ?am9 ?ax2 ?bi2 ?A1 ?A2 ?A3 ?A4 ?A5 ?A6 ?aS ?lS ?sS ?hS ?eS
  case ay1|ar5|au1|bb5|ay2|bh5|au2|ap5|ay3|ay4|au3|ar6|be7|bb6|be8|ah9|be9|au4|ay5|ap6|au5|bf0|A0|ay6|bb7|ay7|an7|am6|bf1|bf2|au6|au7|ay8|au8|au9|ay9|az0|av0|bb8|av1|ak5|av2|az1|az2=>refine' Qh.a9 ?a ?l ?c ?k; case a|l|c|k=>k_is
  case bj8|bd7|bd8|bd9|be0|bi3|bi4|av3|ak6|aj9=>k_is
  case an8|av4|ak7|az3|az4|ak8|az5|az6|bb9|bc0=>refine' Qh.a7 ?a ?i ?l ?c ?k; case a|i|l|c|k=>k_is
  case bj9|be1|be2|be3|be4|bi5|bi6|ap7|ai0|av5=>k_is
  case am7|ak9|ai3|av6|ar7|ap8|al0|an9=>refine' Qh.a7 ?a ?i ?l ?c ?k; case a|i|l|c|k=>k_is
  case bi7|bh6|bh7|bh8|bh9|bi0|bi1|av7|av8|av9|ar8|aw0|ar9|aw1|ao0|ao1|az7=>k_is
  case ai1|ah0|as0|az8|ao2|ai2|as1|aw2|ak0|aw3|al1|aw4|aw5|ap9|ak1|as2|as3|aw6|as4|am8|ao3|aq0=>refine' Qh.a7 ?a ?i ?l ?c ?k; case a|i|l|c|k=>k_is
  case aL|lL|cL|kL|ax8|ae4|bg5|bc1|al6|bc2|bc3|bc4|aq1|ag1|aw7|bk2|bk3|ar2|af7|ae8|aj2|af3|af8|as5|az9|aq2|aq3|ao4|aq4|aq5|aw8|aq6|aw9|ax0|aK=>k_is
  (case qK=>exact rfl)
  case bf3=>k_is
  (case an2=>exact rfl)
  case bf4=>k_is
  (case an3=>exact rfl)
  case bi8=>k_is
  (case ax6=>exact rfl)
  case ax1=>k_is
  (case an4=>exact rfl)
  case ar3=>k_is
  (case af4=>exact rfl)
  case ar4=>k_is
  (case ag4=>exact rfl)
  case as7=>k_is
  (case ag2=>exact rfl)
  case bf5=>k_is
  (case aj6=>exact rfl)
  case bf6=>k_is
  (case an5=>exact rfl)
  case ap0=>k_is
  (case ae9=>exact rfl)
  case bf7=>k_is
  (case aj7=>exact rfl)
  case bf8=>k_is
  (case am9=>exact rfl)
  case ax2=>k_is
  (case bi2=>exact rfl)
  (case A1=>kts_exm)
  (case A2=>kts_exm)
  (case A3=>kts_exm)
  (case A4=>kts_exm)
  (case A5=>kts_exm)
  (case A6=>kts_exm)
  case aS|lS=>k_is
  (case sS=>exact rfl)
  (case hS=>exact rfl)
  (case eS=>exact rfl)
end

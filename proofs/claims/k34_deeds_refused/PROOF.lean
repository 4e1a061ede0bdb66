import PyProof.Rows.All
import Wide.All
import OpenK.AllK
import Wide.FinOn
import Lean
import PyProof.EqAt
import PyProof.EqKinds
import PyProof.TupleCall
import PySem.Challenge.RW_queuehold_k34_deeds_refused
open List (length_map map_cons getElem?_map mem_cons length_cons mem_map mem_singleton length_append mem_cons_of_mem getElem?_eq_getElem map_map mem_cons_self mem_filter mem_append map_append find?_cons append_assoc mem_of_getElem? mem_append_right size_toArray getD_eq_getElem?_getD all_eq_true mem_map_of_mem map_nil length_range map_congr_left append_nil length_filter_le take_length nodup_cons find?_eq_none filter_cons ext_getElem? any_eq_true length_eq_one_iff mem_range getElem?_eq_none any_cons take_succ drop_eq_getElem_cons nodup_append length_take take_append_drop all_map mem_append_left getElem?_append_right all_cons map_id extract_eq_take_drop getElem?_range not_mem_nil filter_map filterMap_cons getElem?_append_left length_nil range_succ_eq_map)
open Nat (le_refl le_trans ne_of_lt zero_le lt_of_lt_of_le lt_trans le_of_ble_eq_true lt_of_le_of_lt le_of_lt le_succ lt_succ_of_lt lt_succ_self lt_irrefl ne_of_gt le_succ_of_le)
open PySem.W (nsIn mg_of mg_none_of findIn keepIn fnOf kia_one emptyDict instObj codeIn plainGet hideAll hasDictIn hideAll_get callWith_K of_hideAll plainGet_of callWith_K0 kitx_list kitx_dict methodCall_KW kdu_collect kdl_dict)
open Bool (and_eq_true)
open PySem.Heap (lt_size get?_push_of_some get?_push_size size_push)
open Array (toList_append length_toList getElem?_toList toList_extract toList_push)
open Int (emod_nonneg emod_lt_of_pos)
open Option (map_eq_none_iff)
set_option maxHeartbeats 4000000
noncomputable section
abbrev Mt:=List (Int×(PySem.Str×Int))
abbrev Mm:=PySem.Value->PySem.Shared->Prop
abbrev Ml:=PySem.FuncData
abbrev Mj:=List PySem.PyData
abbrev Mh:=List PySem.Value
abbrev Mg:=List PySem.Str
abbrev Mf:=List Int
abbrev Me:=Array (Option PySem.Value)
abbrev Md:=List (Mf)
abbrev Mc:=PySem.Str->Option PySem.Value
abbrev Mb:=List (PySem.Addr×PySem.Obj)
abbrev Ma:=PySem.W.Frag
set_option Elab.async false
set_option linter.all false
set_option maxRecDepth 100000
namespace L2
open PySem PySem.Spec PyProof.Rows
abbrev Key:=Sum Int Str
def sD:Key->Value->Bool
 | .inl k,v=>Value.isInt k v
 | .inr x,v=>Value.isStrOf x v
def L9(w:World):Key->Int
 | .inl k=>hashInt k
 | .inr x=>hashStr w x
theorem c8:∀{k:Key}{v:Value},sD k v=true->(∃i t,k=Sum.inl i/\v=Value.int i t)\/(∃x t,k=Sum.inr x/\v=Value.str x t)
 | .inl i,v,h=>by
  obtain⟨t,e⟩:=Value.isInt_shape (k:=i) (v:=v) h;exact .inl ⟨i,t,rfl,e⟩
 | .inr x,v,h=>by
  obtain⟨t,e⟩:=Value.isStrOf_shape (x:=x) (v:=v) h;exact .inr ⟨x,t,rfl,e⟩
theorem Fo(i:Int)(t:Tok):sD (.inl i) (.int i t)=true:=by simp [sD,Value.isInt]
theorem rH(x:Str)(t:Tok):sD (.inr x) (.str x t)=true:=by simp [sD,Value.isStrOf]
theorem L8(a b:Int):decide ((Sum.inl a:Key)=Sum.inl b)=(a == b):=by
 by_cases e:a=b
 ·subst e;simp
 ·have h:¬(Sum.inl a:Key)=Sum.inl b:=λq=>e (Sum.inl.inj q);rw[decide_eq_false h];exact(beq_eq_false_iff_ne.mpr e).symm
theorem L3(a b:Str):decide ((Sum.inr a:Key)=Sum.inr b)=decide (a=b):=by
 by_cases e:a=b
 ·subst e;simp
 ·have h:¬(Sum.inr a:Key)=Sum.inr b:=λq=>e (Sum.inr.inj q);rw[decide_eq_false h,decide_eq_false e]
theorem L7(a:Int)(b:Str):decide ((Sum.inl a:Key)=Sum.inr b)=false:=decide_eq_false (λq=>nomatch q)
theorem L6(a:Str)(b:Int):decide ((Sum.inr a:Key)=Sum.inl b)=false:=decide_eq_false (λq=>nomatch q)
def bI(prog:Program)(w:World):PySem.KeyKind prog w Key where
 is:=sD
 hash:=L9 w
 inj:=λv a b ha hb=>by
  rcases c8 ha with ⟨i,t,rfl,rfl⟩ | ⟨x,t,rfl,rfl⟩
  ·rcases c8 hb with ⟨j,u,rfl,e⟩ | ⟨y,u,rfl,e⟩
   ·injection e with e1 _;rw[e1]
   ·exact nomatch e
  ·rcases c8 hb with ⟨j,u,rfl,e⟩ | ⟨y,u,rfl,e⟩
   ·exact nomatch e
   ·injection e with e1 _;rw[e1]
 byValue:=λk v h=>by
  rcases c8 h with ⟨i,t,rfl,rfl⟩ | ⟨x,t,rfl,rfl⟩ <;> rfl
 pyHash:=λhv h=>by
  rcases c8 hv with ⟨i,t,rfl,rfl⟩ | ⟨x,t,rfl,rfl⟩
  ·exact wpAny_pyHash_int h
  ·exact wpAny_pyHash_str h
 eqBool:=λhu hv h=>by
  rcases c8 hu with ⟨i,t,rfl,rfl⟩ | ⟨x,t,rfl,rfl⟩
  ·rcases c8 hv with ⟨j,u,rfl,rfl⟩ | ⟨y,u,rfl,rfl⟩
   ·rw[L8]at h;exact wpAny_eqBool_int h
   ·rw[L7]at h;exact SeqAt.EqAt.int_str i t y u _ _ _ _ h
  ·rcases c8 hv with ⟨j,u,rfl,rfl⟩ | ⟨y,u,rfl,rfl⟩
   ·rw[L6]at h;exact SeqAt.EqAt.str_int x t j u _ _ _ _ h
   ·rw[L3]at h;exact wpAny_eqBool_str h
 «strs»:=λk x t v h=>by
  rcases c8 h with ⟨i,u,rfl,e⟩ | ⟨y,u,rfl,e⟩
  ·exact nomatch e
  ·injection e with e1 _
   subst e1;cases v <;> rfl
theorem Br(b:Program)(w:World)(i:Int)(t:Tok):(bI b w).is (.inl i) (.int i t)=true:=Fo i t
theorem Bq(b:Program)(w:World)(x:Str)(t:Tok):(bI b w).is (.inr x) (.str x t)=true:=rH x t
inductive V where
 |non |bl (b:Bool) |int (i:Int) |str (x:Str) |byt (b:Array UInt8) |flt (b:UInt64) |ref (a:Addr) |ty (n:String)
 deriving DecidableEq
abbrev Mp:=List V
abbrev Mo:=List (Str×V)
abbrev Mn:=List (Key×V)
def cD:V->Value->Prop
 | .non,u=>u=Value.none
 | .bl b,u=>u=Value.bool b
 | .int i,u=>∃t,u=Value.int i t
 | .str x,u=>∃t,u=Value.str x t
 | .byt b,u=>∃t,u=Value.bytes b t
 | .flt b,u=>∃t,u=Value.float b t
 | .ref a,u=>u=Value.ref a
 | .ty n,u=>u=Value.type n
abbrev cE:Mp->Mh->Prop:=Paired cD
theorem cE.length(r:cE b e):b.length=e.length:=Paired.length r
theorem cE.get:∀{b:Mp}{f:Mh}{i:Nat}{x:V},cE b f->b[i]? = some x->∃u,f[i]? = some u/\cD x u
 |_,_,_,_,.nil,e=>by simp at e
 |_,_,0,_,.cons r _,e=>by simp at e;subst e;exact⟨_,rfl,r⟩
 |_,_,i+1,x,.cons _ t,e=>by
  obtain⟨u,g,m⟩:=cE.get (i:=i) (x:=x) t (by simpa using e);exact⟨u,by simpa using g,m⟩
theorem cE.append:∀{b e:Mp}{f g:Mh},cE b f->cE e g->cE (b++e) (f++g)
 |_,_,_,_,.nil,s=>s
 |_,_,_,_,.cons r t,s=>.cons r (cE.append t s)
theorem cE.take:∀{b:Mp}{e:Mh}(n:Nat),cE b e->cE (b.take n) (e.take n)
 |_,_,0,_=>.nil
 |_,_,_+1,.nil=>.nil
 |_,_,n+1,.cons r t=>.cons r (cE.take n t)
theorem cE.drop:∀{b:Mp}{e:Mh}(n:Nat),cE b e->cE (b.drop n) (e.drop n)
 |_,_,0,r=>r
 |_,_,_+1,.nil=>.nil
 |_,_,n+1,.cons _ t=>cE.drop n t
def kO:Option V->Option Value->Prop
 |some v,some u=>cD v u
 |none,none=>True
 |_,_=>False
def KV{b : Type}:List (b×V)->List (b×Value)->Prop:=Paired λ(p:b×V)(q:b×Value)=>p.1=q.1/\cD p.2 q.2
def kV:Key->V
 | .inl i=>.int i
 | .inr x=>.str x
inductive HO where
  |lst (xs:Mp)
  |tup (xs:Mp)
  |dK (kvs:Mn) |dT (kvs:List (List Key×V))
  |set (S:Int->Bool) (n:Nat)
  |ins (C dx:Addr) (fs:Mo)
  |own (x:Addr)
  |xd (fs:Mo)
  |met (f x:Addr)
  |rng (lo hi:Int)
  |frz (o:Obj) (u:HO)
  |tbl (ps:Array Value)
  |ext (φ : Heap->Prop)
abbrev Hp:=Addr->Option HO
def upd(H:Hp)(a:Addr)(o:HO):Hp:=λb=>if b=a then some o else H b
theorem aB:upd H a o a=some o:=by unfold upd;rw[if_pos rfl]
theorem aH(h:b≠a):upd H a o b=H b:=by unfold upd;rw[if_neg h]
theorem ne_of{H:Hp}{a b:Addr}{o u:HO}(h:H a=some o)(f:H b=some u)(d:o≠u):a≠b:=by
 intro e;subst e;rw[h]at f;exact d (Option.some.inj f)
theorem bU{H:Hp}{a b:Addr}{o:HO}(h:H a=some o)(f:H b=none):a≠b:=by
 intro e;subst e;rw[h]at f;cases f
section
variable(P:Program)(w:World)
def eG(H:Hp)(h:Heap)(a:Addr):HO->Prop
 | .lst g=>g.length<=sizeLine/\∃(b:Mh) (n:Nat),cE g b/\h.get? a=some {cls:=.type "list",data:=.seq b.toArray n}
 | .tup g=>g.length<=sizeLine/\∃b:Mh,cE g b/\IsTup h a b.toArray
 | .dK e=>e.length<=sizeLine/\(a == sysModules)=false/\∃D,KV e D/\h.DictOf (bI P w) a D
 | .dT e=>e.length<=sizeLine/\(a == sysModules)=false/\∃g:List (List Key×Addr×Value),
   Paired (λ(p:List Key×V)(q:List Key×Addr×Value)=>p.1=q.1/\H q.2.1=some (.tup (p.1.map kV))/\cD p.2 q.2.2) e g/\
   ∃o E J,h.get? a=some o/\o.ExactDict/\o.data = .dict E J/\E.toList=g.map (entryOfKey (tupleKind (bI P w)))/\(g.map (·.1)).Nodup
 | .set S n=>h.SetOf (intKind P w) a S n
 | .ins C z y=>H z=some (.own a)/\y.length<=1000/\z≠a/\h.get? a=some (instObj C z)/\
   ∃r,h.Ns1 z r/\(∀f,kO (y.lookup f) (r f))/\PySem.Within r (y.map (·.1))
 | .own _=>∃o,h.get? a=some o
 | .xd y=>∃r,h.Ns1 a r/\∀f,kO (y.lookup f) (r f)
 | .rng lo L=>∃t u v,h.get? a=some {cls:=.type "range",data:=.fields #[.int lo t,.int L u,.int 1 v] }
 | .frz o u=>h.get? a=some o/\eG H h a u
 | .tbl N=>h.get? a=some {cls:=.none,data:=.fields N}
 | .met f x=>h.get? a=some (PySem.W.methodObj (.ref f) (.ref x))
 | .ext B=>B h/\(∃o,h.get? a=some o)/\∀G I:Heap,B G->(∀o,G.get? a=some o->I.get? a=some o)->B I
def HOk(H:Hp)(h:Heap):Prop:=∀a o,H a=some o->eG P w H h a o
end
section
variable{P:Program}{w:World}{H H':Hp}{h h':Heap}{a:Addr}{o:HO}
theorem eG.lt(x:eG P w H h a o):a<h.objs.size:=by
 cases o with
 |lst g=>obtain⟨_,_,_,_,e⟩:=x;exact lt_size e
 |tup g=>obtain⟨_,_,_,p⟩:=x;exact p.lt
 |dK b=>obtain⟨_,_,_,_,o,_,_,e,_⟩:=x;exact lt_size e
 |dT b=>obtain⟨_,_,_,_,o,_,_,e,_⟩:=x;exact lt_size e
 |set S n=>obtain⟨o,_,_,_,e,_⟩:=x;exact lt_size e
 |ins C q m=>obtain⟨_,_,_,e,_⟩:=x;exact lt_size e
 |own y=>obtain⟨_,e⟩:=x;exact lt_size e
 |xd m=>obtain⟨_,⟨_,_,_,e,_⟩,_⟩:=x;exact lt_size e
 |rng lo r=>obtain⟨_,_,_,e⟩:=x;exact lt_size e
 |frz s u=>obtain⟨e,_⟩:=x;exact lt_size e
 |tbl t=>exact lt_size (show h.get? a=some _ from x)
 |met f y=>exact lt_size (show h.get? a=some _ from x)
 |ext z=>obtain⟨_,⟨_,e⟩,_⟩:=x;exact lt_size e
theorem Paired.mapP{m n : Type}{F G:m->n->Prop}:∀{e : List m}{g : List n},Paired F e g->(∀a b,F a b->G a b)->Paired G e g
 |_,_,.nil,_=>.nil
 |_,_,.cons r t,f=>.cons (f _ _ r) (Paired.mapP t f)
theorem eG.stay(x:eG P w H h a o)(k:∀b u,(b=a\/H b=some (.own a))->h.get? b=some u->h'.get? b=some u)
  (O:∀b,H b=some (.own a)->H' b=some (.own a)) (Q:∀b D,H b=some (.tup D)->H' b=some (.tup D)):eG P w H' h' a o:=by
 induction o with
 |lst D=>obtain⟨z,B,n,r,e⟩:=x;exact⟨z,B,n,r,k _ _ (.inl rfl) e⟩
 |tup D=>obtain⟨z,B,r,g,e,c⟩:=x;exact⟨z,B,r,g,k _ _ (.inl rfl) e,c⟩
 |dK G=>obtain⟨z,y,R,r,g,m,s,e,c⟩:=x;exact⟨z,y,R,r,g,m,s,k _ _ (.inl rfl) e,c⟩
 |dT G=>
  obtain⟨z,y,D,r,g,m,s,e,c⟩:=x;exact⟨z,y,D,Paired.mapP r λp q z=>⟨z.1,Q _ _ z.2.1,z.2.2⟩,g,m,s,k _ _ (.inl rfl) e,c⟩
 |set S n=>obtain⟨g,m,s,t,e,c⟩:=x;exact⟨g,m,s,t,k _ _ (.inl rfl) e,c⟩
 |ins C Y U=>
  obtain⟨d,z,V,e,I,⟨J,m,s,W,c⟩,r⟩:=x;exact⟨O _ d,z,V,k _ _ (.inl rfl) e,I,⟨J,m,s,k _ _ (.inr d) W,c⟩,r⟩
 |own y=>obtain⟨g,e⟩:=x;exact⟨g,k _ _ (.inl rfl) e⟩
 |xd U=>obtain⟨I,⟨J,m,s,e,c⟩,r⟩:=x;exact⟨I,⟨J,m,s,k _ _ (.inl rfl) e,c⟩,r⟩
 |rng lo Z=>obtain⟨t,u,v,e⟩:=x;exact⟨t,u,v,k _ _ (.inl rfl) e⟩
 |frz g u X=>obtain⟨e,q⟩:=x;exact⟨k _ _ (.inl rfl) e,X q⟩
 |tbl N=>
  have e:h.get? a=some {cls:=.none,data:=.fields N}:=x;show h'.get? a=some {cls:=.none,data:=.fields N};exact k a _ (.inl rfl) e
 |met f y=>
  have e:h.get? a=some (PySem.W.methodObj (.ref f) (.ref y)):=x;show h'.get? a=some (PySem.W.methodObj (.ref f) (.ref y));exact k a _ (.inl rfl) e
 |ext φ=>obtain⟨p,⟨o,e⟩,st⟩:=x;exact⟨st _ _ p λo q=>k _ _ (.inl rfl) q,⟨o,k _ _ (.inl rfl) e⟩,st⟩
theorem HOk.lt(x:HOk P w H h)(e:H a=some o):a<h.objs.size:=(x a o e).lt
theorem HOk.fresh(x:HOk P w H h)(e:h.objs.size<=a):H a=none:=by
 cases q:H a with
 |none=>rfl
 |some u=>exact absurd (lt_of_lt_of_le (x.lt q) e) (lt_irrefl _)
theorem HOk.kept(x:HOk P w H h)(k:∀b u,h.get? b=some u->h'.get? b=some u):HOk P w H h':=λa o e=>
 (x a o e).stay (λb u _ q=>k b u q) (λ_ q=>q) λ_ _ q=>q
theorem HOk.laid(x:HOk P w H h)(k:∀b u,h.get? b=some u->h'.get? b=some u)(m:h.objs.size<=a)(new:eG P w (upd H a o) h' a o):HOk P w (upd H a o) h':=λb u e=>by
 have f:=x.fresh m;by_cases g:b=a
 ·subst g;rw[aB]at e;cases e;exact new
 ·rw[aH g]at e;exact(x b u e).stay (λc v _ q=>k c v q) (λc q=>by rw[aH (bU q f)];exact q) λc n q=>by rw[aH (bU q f)];exact q
end
def Rd(H:Hp)(a:Addr)(u:HO):Prop:=H a=some u\/∃o,H a=some (.frz o u)
theorem Rd.ok(r:Rd H a u)(x:HOk P w H h):eG P w H h a u:=by
 rcases r with r | ⟨o,r⟩
 ·exact x a u r
 ·obtain⟨_,q⟩:=x a _ r;exact q
def Mut:Option HO->Prop
 |some (.lst _)=>True
 |some (.dK _)=>True
 |some (.dT _)=>True
 |some (.set _ _)=>True
 |some (.ins _ _ _)=>True
 |some (.ext _)=>True
 |_=>False
section
variable{P:Program}{w:World}{H:Hp}{h h':Heap}{x e:Addr}{o':HO}
theorem HOk.write(ok:HOk P w H h)(n:Mut (H x))(B:e=x\/H e=some (.own x))(k:∀b u,b≠e->h.get? b=some u->h'.get? b=some u)(t:∃u,h'.get? e=some u)
  (new:eG P w (upd H x o') h' x o'):HOk P w (upd H x o') h':=λb u q=>by
 have g:∀c y,H c=some (.own y)->c≠x:=λc y r z=>by subst z;rw[r]at n;exact n
 have m:∀c o,H c=some (.tup o)->c≠x:=λc o r z=>by subst z;rw[r]at n;exact n
 by_cases p:b=x
 ·subst p;rw[aB]at q;cases q;exact new
 ·rw[aH p]at q;by_cases f:b=e
  ·have D:H b=some (.own x):=by
    rcases B with z |z
    ·exact absurd (f.trans z) p
    ·rw[f];exact z
   rw[q]at D;cases D;obtain⟨v,E⟩:=t;exact⟨v,by rw[f];exact E⟩
  ·refine(ok b u q).stay (λc v s r=>k c v ?_ r) (λc r=>by rw[aH (g c b r)];exact r) λc o r=>by rw[aH (m c o r)];exact r
   rcases s with rfl |s
   ·exact f
   ·rintro rfl;rcases B with z |z
    ·exact g c b s z
    ·rw[s]at z;cases z;exact p rfl
end
structure Un(fs ex:List Addr)(H H':Hp)(h h':Heap):Prop where
 keep:∀b o,h.get? b=some o->H b=none->b∉fs->b∉ex->h'.get? b=some o
 slot:∀b o,h.get? b=some o->H b=none->b∈fs->b∉ex->∃sl,h'.get? b=some {o with slots:=sl}
 free:∀b o,h.get? b=some o->H b=none->b∉ex->H' b=none
 there:∀b o,h.get? b=some o->b∉ex->∃o',h'.get? b=some o'
 tups:∀b xs,H b=some (.tup xs)->H' b=some (.tup xs)
 frzs:∀b o u,H b=some (.frz o u)->H' b=some (.frz o u)
 tbls:∀b ps,H b=some (.tbl ps)->∃more,H' b=some (.tbl (ps++more))
section
variable{fs fs' ex ex':List Addr}{H H1 H2:Hp}{h h1 h2 h':Heap}{a x e:Addr}{o:HO}
theorem Un.any(u:Un fs ex H H1 h h1)(q:h.get? b=some f)(n:H b=none)(m:b∉ex):∃r,h1.get? b=some {f with slots:=r}:=by
 by_cases p:b∈fs
 ·exact u.slot b f q n p m
 ·exact⟨f.slots,u.keep b f q n p m⟩
theorem Un.kept(k:∀b u,h.get? b=some u->h'.get? b=some u):Un fs ex H H h h':=
 ⟨λb f q _ _ _=>k b f q,λb f q _ _ _=>⟨f.slots,k b f q⟩,λ_ _ _ n _=>n,λb f q _=>⟨f,k b f q⟩,λ_ _ q=>q,λ_ _ _ q=>q,λ_ g q=>⟨#[],by rw[q];simp⟩⟩
theorem Un.refl:Un fs ex H H h h:=Un.kept λ_ _ q=>q
theorem Un.laid(k:∀b u,h.get? b=some u->h'.get? b=some u)(hp:h.objs.size<=a)(hn:H a=none):Un fs ex H (upd H a o) h h' where
 keep:=λb u q _ _ _=>k b u q
 slot:=λb u q _ _ _=>⟨u.slots,k b u q⟩
 free:=λb u q n _=>by rw[aH (ne_of_lt (lt_of_lt_of_le (lt_size q) hp))];exact n
 there:=λb u q _=>⟨u,k b u q⟩
 tups:=λb xs q=>by rw[aH (bU q hn)];exact q
 frzs:=λb u xs q=>by rw[aH (bU q hn)];exact q
 tbls:=λb ps q=>⟨#[],by rw[aH (bU q hn),q];simp⟩
theorem Un.write(g:Mut (H x))(y:e=x\/H e=some (.own x))(k:∀b u,b≠e->h.get? b=some u->h'.get? b=some u)(m:∃u,h'.get? e=some u):Un fs ex H (upd H x o) h h':=by
 have s:∀b,H b=none->b≠x:=λb n z=>by subst z;rw[n]at g;exact g
 have t:∀b,H b=none->b≠e:=λb n z=>by
  subst z;rcases y with r |r
  ·exact s b n r
  ·rw[n]at r;cases r
 have p:∀b u,H b=some u->¬Mut (some u)->b≠x:=λb u q B z=>by subst z;rw[q]at g;exact B g
 refine⟨λb u q n _ _=>k b u (t b n) q,λb u q n _ _=>⟨u.slots,k b u (t b n) q⟩,λb u q n _=>by rw[aH (s b n)];exact n,λb u q _=>?_,
  λb D q=>by rw[aH (p b _ q λz=>z)];exact q,λb u D q=>by rw[aH (p b _ q λz=>z)];exact q,λb E q=>⟨#[],by rw[aH (p b _ q λz=>z),q];simp⟩⟩
 by_cases f:b=e
 ·subst f;exact m
 ·exact⟨u,k b u f q⟩
end
def trk(h:Heap)(H:Hp):List Addr:=(List.range h.objs.size).filter λa=>(H a).isSome
def AX(h:Heap)(H:Hp):Heap:=hideAll h (trk h H)
theorem Fw(h:Heap)(H:Hp):(AX h H).objs.size=h.objs.size:=PySem.W.hideAll_size _ _
theorem II(e:h.get? b=some o)(n:H b=none):(AX h H).get? b=some o:=
 hideAll_get _ e λf=>by
  have q:(H b).isSome=true:=(mem_filter.mp f).2;rw[n]at q;simp at q
theorem Jz(e:(AX h H).get? b=some o):h.get? b=some o/\H b=none:=by
 have f:h.get? b=some o:=of_hideAll (trk h H) e;refine⟨f,?_⟩;cases q:H b with
 |none=>rfl
 |some x=>
  have g:b∈trk h H:=mem_filter.mpr ⟨mem_range.mpr (lt_size f),by simp [q]⟩;have z:(AX h H).get? b=none:=PySem.W.hideAll_none (trk h H) g;rw[z]at e;cases e
def KP(g h:Heap)(L:Addr):Mb:=(List.range h.objs.size).filterMap λa=>if a=L\/(g.get? a).isSome=true then none else (h.get? a).map λo=>(a,o)
def rest(g h:Heap)(L d:Addr):Mb:=(KP g h L).filter λp=>decide (p.1≠d)
structure Mod(K:Ma)(mg:Mc)(base:Heap):Prop where
 kin:K.In base
 glob:base.Ns mainGlobals mg
 blt:∃mb,base.Ns builtinsNs mb/\∀x:Str,x ≠ "__name__"->mb x=bootBuiltins x
 nolimit:base.NoLimit
structure Cx where
 prog:Program
 w:World
 K:Ma
 mg:Mc
 base:Heap
 A:Around
 N:Mg
 s₀ : Shared
 H₀ : Hp
 env:Env
 outer:List Env
 stack:List Env
 ex:List Addr
 fn:Str->Bool
 calm:Bool
 pn:Mb
 xe:Value->Shared->Prop
def frs(l:List Env):List Addr:=l.filterMap (·.frame)
abbrev Cx.fs(X:Cx):List Addr:=frs X.outer
def Vis(b:Scope)(x:Str):Prop:=b.names.lookup x=some .local\/b.names.lookup x=some .cell\/b.names.lookup x=some .free
def Loc(b:Scope)(x:Str):Prop:=b.names.lookup x=some .local\/b.names.lookup x=some .cell
def Look(b:Env)(h:Heap)(m:Mc)(x:Str)(u:Value):Prop:=
 (b.kindOf x=some .local/\m x=some u)\/((b.kindOf x=some .cell\/b.kindOf x=some .free)/\∃c,b.cells.lookup x=some c/\h.IsCell c (some u))
structure Cx.Ok(X:Cx):Prop where
 mod:Mod X.K X.mg X.base
 kind:X.env.scope.kind = .function
 glob:X.env.globals=mainGlobals
 blt:X.env.builtins=builtinsNs
 above:X.s₀.heap.objs.size<=X.env.locals
 inj:∀x y c,X.env.cells.lookup x=some c->X.env.cells.lookup y=some c->x=y
 has:∀x,(X.env.kindOf x=some .cell\/X.env.kindOf x=some .free)->∃c,X.env.cells.lookup x=some c
 cab:∀x c,X.fn x=true->X.env.cells.lookup x=some c->X.s₀.heap.objs.size<=c
 hd:X.calm=true->X.A.handled=none
 frames:X.A.frames=some X.stack
 stk:X.stack=X.outer\/(X.stack=X.env::X.outer/\X.env.frame=some X.env.locals)
 exf:∀b∈X.ex,b≠X.env.locals/\∀x c,X.env.cells.lookup x=some c->c≠b
 bs:∀b o,X.base.get? b=some o->X.s₀.heap.get? b=some o/\X.H₀ b=none
 bsz:X.base.objs.size<=X.s₀.heap.objs.size
 noex:∀b o,X.base.get? b=some o->b∉X.ex
 exfs:∀b∈X.ex,b∉X.fs
 funs:X.s₀.heap.FunFrames X.base X.outer
 frf:∀b∈X.fs,X.H₀ b=none
structure Inv(X:Cx)(pins:Mb)(σ : List (Option V))(H:Hp)(s:Shared):Prop where
 ok:X.Ok
 os:s.os=X.s₀.os
 bare:AllBare s.gens
 base:Un X.fs X.ex X.H₀ H X.s₀.heap s.heap
 loc:∃m,s.heap.Ns X.env.locals m/\∀(i:Nat)(x:Str)(v:V),X.N[i]? = some x->σ[i]? = some (some v)->Vis X.env.scope x->∃u,cD v u/\Look X.env s.heap m x u
 cell:∀x c,X.env.cells.lookup x=some c->∃v,s.heap.IsCell c v
 free:H X.env.locals=none
 freeC:∀x c,X.env.cells.lookup x=some c->H c=none
 pin:∀p∈X.pn++pins,s.heap.get? p.1=some p.2/\H p.1=none/\p.1≠X.env.locals/\p.1∉X.fs/\∀v,p.2.data ≠ .cell v
 hok:HOk X.prog X.w H s.heap
 len:σ.length=X.N.length
section
variable{X:Cx}{pins:Mb}{σ : List (Option V)}{H H':Hp}{s:Shared}{h':Heap}
theorem Cx.Ok.nofr(ok:X.Ok)(e:X.base.get? b=some o):b∉X.fs:=λf=>by
 have:=(ok.funs.mem f).1;rw[e]at this;cases this
theorem Inv.bs(I:Inv X pins σ H s):∀b o,X.base.get? b=some o->s.heap.get? b=some o/\H b=none:=λb o e=>
 ⟨I.base.keep b o (I.ok.bs b o e).1 (I.ok.bs b o e).2 (I.ok.nofr e) (I.ok.noex b o e),I.base.free b o (I.ok.bs b o e).1 (I.ok.bs b o e).2 (I.ok.noex b o e)⟩
theorem Inv.bk(I:Inv X pins σ H s):∀b o,X.base.get? b=some o->s.heap.get? b=some o:=λb o e=>(I.bs b o e).1
theorem Inv.mod(I:Inv X pins σ H s):Mod X.K X.mg X.base:=I.ok.mod
theorem Inv.kIn(I:Inv X pins σ H s):X.K.In s.heap:=I.ok.mod.kin.keeps I.bk
theorem Inv.lt(I:Inv X pins σ H s):X.env.locals<s.heap.objs.size:=let ⟨_,b,_⟩:=I.loc;b.lt
theorem Inv.sz(I:Inv X pins σ H s):X.s₀.heap.objs.size<=s.heap.objs.size:=le_trans I.ok.above (le_of_lt I.lt)
theorem Inv.nofs(I:Inv X pins σ H s)(h:s.heap.objs.size<=a):a∉X.fs:=λb=>by
 obtain⟨_,o,e,_⟩:=I.ok.funs.mem b;exact absurd (lt_of_lt_of_le (lt_size e) (le_trans I.sz h)) (lt_irrefl _)
theorem Inv.cne(I:Inv X pins σ H s):∀x c,X.env.cells.lookup x=some c->c≠X.env.locals:=λx c e z=>by
 obtain⟨v,o,g,n⟩:=I.cell x c e;obtain⟨m,⟨p,q,r,b,f,_⟩,_⟩:=I.loc;rw[z,b]at g;cases g;rw[f]at n;cases n
theorem Inv.funs(I:Inv X pins σ H s):s.heap.FunFrames X.base X.outer:=by
 have all:∀(l:List Env),(∀b∈frs l,b∈X.fs)->X.s₀.heap.FunFrames X.base l->s.heap.FunFrames X.base l:=by
  intro l
  induction l with
  |nil=>intro _ _;trivial
  |cons p r q=>
   intro n t;obtain⟨u,⟨L,o,f,x,y,B⟩,hr⟩:=t;have g:L∈X.fs:=n L (by unfold frs;rw[filterMap_cons,f];exact mem_cons_self);obtain⟨D,e⟩:=I.base.slot L o y (I.ok.frf L g) g λz=>I.ok.exfs L z g;exact⟨u,⟨L,_,f,x,e,B⟩,q (λb m=>n b (by unfold frs;rw[filterMap_cons,f];exact mem_cons_of_mem _ m)) hr⟩
 exact all X.outer (λ_ m=>m) I.ok.funs
theorem Inv.stack(I:Inv X pins σ H s):s.heap.FunFrames X.base X.stack:=by
 rcases I.ok.stk with e | ⟨e,b⟩
 ·rw[e];exact I.funs
 ·rw[e];obtain⟨m,f,_⟩:=I.loc;refine .cons (by rw[I.ok.kind];decide) b f ?_ I.funs;exact Heap.get?_none_of_le (le_trans I.ok.bsz I.ok.above)
theorem Inv.stkSub(I:Inv X pins σ H s):∀b∈frs X.stack,b∈X.env.locals::X.fs:=λb f=>by
 rcases I.ok.stk with e | ⟨e,g⟩
 ·rw[e]at f;exact mem_cons_of_mem _ f
 ·rw[e]at f;unfold frs at f;rw[filterMap_cons,g]at f;exact f
theorem Inv.stkFree(I:Inv X pins σ H s):∀b∈frs X.stack,H b=none:=λb f=>by
 rcases mem_cons.mp (I.stkSub b f) with e |f
 ·rw[e];exact I.free
 ·obtain⟨_,o,g,_⟩:=I.ok.funs.mem f;exact I.base.free b o g (I.ok.frf b f) λz=>I.ok.exfs b z f
theorem Inv.step{g':Array GenState}{t':Nat}{d':Drawn}{ch:List Addr}(I:Inv X pins σ H s)
  (t:∀b∈ch,(b∈X.ex\/X.s₀.heap.objs.size<=b)/\b≠X.env.locals/\(∀x c,X.env.cells.lookup x=some c->c≠b)/\∀p∈X.pn++pins,p.1≠b)
  (y:∀b o,b≠X.env.locals->b∉X.fs->b∉ch->s.heap.get? b=some o->H b=none->h'.get? b=some o)
  (slot:∀b o,b≠X.env.locals->b∈X.fs->b∉ch->s.heap.get? b=some o->H b=none->∃sl,h'.get? b=some {o with slots:=sl}) (g:∀b o,b∉ch->s.heap.get? b=some o->H b=none->H' b=none)
  (L:∀b o,b∉ch->s.heap.get? b=some o->∃Q,h'.get? b=some Q)
  (R:∀b J,H b=some (.tup J)->H' b=some (.tup J)) (S:∀b o u,H b=some (.frz o u)->H' b=some (.frz o u)) (U:∀b Z,H b=some (.tbl Z)->∃V,H' b=some (.tbl (Z++V)))
  (ns:∀m,s.heap.Ns X.env.locals m->h'.Ns X.env.locals m) (ab:HOk X.prog X.w H' h') (hg:AllBare g') :
  Inv X pins σ H' {s with heap:=h',gens:=g',drawn:=d',toks:=t'}:=by
 have W:∀b o,X.s₀.heap.get? b=some o->b≠X.env.locals:=λb o e=>ne_of_lt (lt_of_lt_of_le (lt_size e) I.ok.above);have E:∀b o,X.s₀.heap.get? b=some o->b∉X.ex->b∉ch:=λb o e f N=>by
  rcases (t b N).1 with z |z
  ·exact f z
  ·exact absurd (lt_of_lt_of_le (lt_size e) z) (lt_irrefl _)
 have B:∀x c,X.env.cells.lookup x=some c->∀v,s.heap.IsCell c v->h'.IsCell c v:=λx c e v ⟨o,O,hd⟩=>by
  have D:c∉ch:=λz=>(t c z).2.2.1 x c e rfl;by_cases hc:c∈X.fs
  ·obtain⟨sl,q⟩:=slot c o (I.cne x c e) hc D O (I.freeC x c e);exact⟨_,q,hd⟩
  ·exact⟨o,y c o (I.cne x c e) hc D O (I.freeC x c e),hd⟩
 refine⟨I.ok,I.os,hg,⟨λb o e n N f=>?_,λb o e n N f=>?_,λb o e n f=>?_,λb o e f=>?_,λb J e=>R b J (I.base.tups b J e),λb o J e=>S b o J (I.base.frzs b o J e),λb Z e=>?_⟩,?_,λx c e=>?_,?_,λx c e=>?_,λp hp=>?_,ab,I.len⟩
 ·exact y b o (W b o e) N (E b o e f) (I.base.keep b o e n N f) (I.base.free b o e n f)
 ·obtain⟨sl,G⟩:=I.base.slot b o e n N f;obtain⟨ac,Y⟩:=slot b _ (W b o e) N (E b o e f) G (I.base.free b o e n f);exact⟨ac,Y⟩
 ·obtain⟨Q,G⟩:=I.base.there b o e f;exact g b Q (E b o e f) G (I.base.free b o e n f)
 ·obtain⟨Q,G⟩:=I.base.there b o e f;exact L b Q (E b o e f) G
 ·obtain⟨m1,G⟩:=I.base.tbls b Z e;obtain⟨m2,Y⟩:=U b _ G;exact⟨m1++m2,by rw[Y,Array.append_assoc]⟩
 ·obtain⟨m,hn,hl⟩:=I.loc;refine⟨m,ns m hn,λi x v G Y e3=>?_⟩;obtain⟨u,r,l⟩:=hl i x v G Y e3;refine⟨u,r,?_⟩;rcases l with l | ⟨k,c,e,z⟩
  ·exact .inl l
  ·exact .inr ⟨k,c,e,B x c e _ z⟩
 ·obtain⟨v,z⟩:=I.cell x c e;exact⟨v,B x c e v z⟩
 ·obtain⟨m,⟨o,_,_,O,_⟩,_⟩:=I.loc;exact g _ o (λz=>(t _ z).2.1 rfl) O I.free
 ·obtain⟨v,o,O,hd⟩:=I.cell x c e;exact g c o (λz=>(t c z).2.2.1 x c e rfl) O (I.freeC x c e)
 ·obtain⟨e,n,ne,nf,d⟩:=I.pin p hp;have D:p.1∉ch:=λz=>(t p.1 z).2.2.2 p hp rfl;exact⟨y p.1 p.2 ne nf D e n,g p.1 p.2 D e n,ne,nf,d⟩
theorem Inv.un{t':Nat}(I:Inv X pins σ H s)(u:Un X.fs [] H H' s.heap h')(g:HOk X.prog X.w H' h'):Inv X pins σ H' {s with heap:=h',toks:=t'}:=by
 obtain⟨m,⟨o,J,L,B,r⟩,_⟩:=id I.loc;obtain⟨N,D⟩:=u.any B I.free (by simp);exact I.step (g':=s.gens) (d':=s.drawn) (ch:=[]) (λ_ z=>nomatch z) (λb o _ p _ e n=>u.keep b o e n p (by simp)) (λb o _ p _ e n=>u.slot b o e n p (by simp)) (λb o _ e n=>u.free b o e n (by simp)) (λb o _ e=>u.there b o e (by simp)) u.tups u.frzs u.tbls (λS E=>by
  obtain⟨U,q,t,f,G⟩:=E;rw[B]at f;cases f;exact⟨_,q,t,D,G⟩) g I.bare
theorem Inv.call{g':Array GenState}{t':Nat}{d':Drawn}{ch:List Addr}(I:Inv X pins σ H s)(u:Un (frs X.stack) ch H H' s.heap h')(t:HOk X.prog X.w H' h')(N:AllBare g')
  (g:∀b∈ch,(b∈X.ex\/X.s₀.heap.objs.size<=b)/\b≠X.env.locals/\(∀x c,X.env.cells.lookup x=some c->c≠b)/\∀p∈X.pn++pins,p.1≠b) :
  Inv X pins σ H' {s with heap:=h',gens:=g',drawn:=d',toks:=t'}:=by
 obtain⟨m,⟨o,S,U,L,r⟩,_⟩:=id I.loc;obtain⟨V,y⟩:=u.any L I.free λz=>(g _ z).2.1 rfl;exact I.step (ch:=ch) g (λb o y O f e n=>u.keep b o e n (λz=>(mem_cons.mp (I.stkSub b z)).elim y O) f) (λb o _ _ f e n=>u.any e n f) (λb o f e n=>u.free b o e n f) (λb o f e=>u.there b o e f) u.tups u.frzs u.tbls (λW Q=>by
  obtain⟨Y,B,D,q,R⟩:=Q;rw[L]at q;cases q;exact⟨_,B,D,y,R⟩) t N
theorem Inv.turned{t':Nat}{it:Addr}(I:Inv X pins σ H s)(k:∀b o,b≠it->s.heap.get? b=some o->h'.get? b=some o)(D:H it=none)(t:it≠X.env.locals)
  (E:it∈X.ex\/X.s₀.heap.objs.size<=it) (G:∀x c,X.env.cells.lookup x=some c->c≠it) (J:∀p∈X.pn++pins,p.1≠it):Inv X pins σ H {s with heap:=h',toks:=t'}:=by
 have g:∀b u,H b=some u->b≠it:=λb u e z=>by rw[z,D]at e;cases e
 refine I.step (g':=s.gens) (d':=s.drawn) (ch:=[it]) (λb L=>?_) (λb o _ _ f e _=>k b o (λz=>f (by simp [z])) e) (λb o _ _ f e _=>⟨o.slots,k b o (λz=>f (by simp [z])) e⟩) (λ_ _ _ _ n=>n)
  (λb o f e=>⟨o,k b o (λz=>f (by simp [z])) e⟩) (λ_ _ e=>e) (λ_ _ _ e=>e) (λb W e=>⟨#[],by rw[e];simp⟩) (λm N=>?_) (λb u e=>?_) I.bare
 ·have e:b=it:=by simpa using L
  subst e;exact⟨E,t,G,J⟩
 ·obtain⟨o,O,Q,R,r⟩:=N;exact⟨o,O,Q,k _ o (Ne.symm t) R,r⟩
 ·refine(I.hok b u e).stay (λc v f q=>k c v ?_ q) (λ_ q=>q) λ_ _ q=>q;rcases f with z |z
  ·rw[z];exact g b u e
  ·exact g c _ z
theorem Inv.tok(I:Inv X pins σ H s)(t:Nat):Inv X pins σ H {s with toks:=t}:=I.un (h':=s.heap) (t':=t) Un.refl I.hok
theorem Inv.kept(I:Inv X pins σ H s)(k:∀b u,s.heap.get? b=some u->h'.get? b=some u):Inv X pins σ H {s with heap:=h',toks:=t'}:=I.un (Un.kept k) (I.hok.kept k)
theorem Inv.laid(I:Inv X pins σ H s)(k:∀b u,s.heap.get? b=some u->h'.get? b=some u)(e:s.heap.objs.size<=a)(new:eG X.prog X.w (upd H a o) h' a o) :
  Inv X pins σ (upd H a o) {s with heap:=h',toks:=t'}:=I.un (Un.laid k e (I.hok.fresh e)) (I.hok.laid k e new)
theorem Inv.write(I:Inv X pins σ H s)(g:Mut (H x))(m:e=x\/H e=some (.own x))(k:∀b u,b≠e->s.heap.get? b=some u->h'.get? b=some u)(f:∃u,h'.get? e=some u)
  (new:eG X.prog X.w (upd H x o) h' x o):Inv X pins σ (upd H x o) {s with heap:=h',toks:=q}:=I.un (Un.write g m k f) (I.hok.write g m k f new)
theorem Inv.pins_of(I:Inv X pins σ H s)(h:∀p∈b,s.heap.get? p.1=some p.2/\H p.1=none/\p.1≠X.env.locals/\p.1∉X.fs/\∀v,p.2.data ≠ .cell v):Inv X b σ H s:=
 ⟨I.ok,I.os,I.bare,I.base,I.loc,I.cell,I.free,I.freeC,λp e=>(mem_append.mp e).elim (λz=>I.pin p (mem_append_left _ z)) (h p),I.hok,I.len⟩
theorem Bm{N:Mg}(e:N.Nodup){i j:Nat}{x:Str}(a:N[i]? = some x)(b:N[j]? = some x):i=j:=by
 obtain⟨m,f⟩:=List.getElem?_eq_some_iff.mp a;obtain⟨n,g⟩:=List.getElem?_eq_some_iff.mp b;exact(List.getElem_inj e).mp (f.trans g.symm)
theorem E1{M:Model}{A:Around}{E:Mm}{i:Nat}{x:Str}{v:V}{u:Value}{Q:Unit->Shared->Prop}(I:Inv X pins σ H s)(hN:X.N.Nodup)(U:X.N[i]? = some x)(D:Loc X.env.scope x)(r:cD v u)
  (h:∀s',Inv X pins (σ.set i (some v)) H s'->(∃a,Heap.SameBut a s.heap s'.heap/\(a=X.env.locals\/X.env.cells.lookup x=some a))->Q () s') (hf:X.fn x=true\/X.env.scope.names.lookup x=some .local:=by first |exact .inl rfl |exact .inr rfl |assumption):wpAny M A (storeName X.env x u) Q E s:=by
 obtain⟨m,hn,hl⟩:=id I.loc;have W:(X.env.scope.kind == .class || (X.env.scope.kind == .module && X.env.locals != X.env.globals))=false:=by rw[I.ok.kind];rfl
 have L : i < σ.length:=by rw[I.len];exact(List.getElem?_eq_some_iff.mp U).1
 have O:=I.cne;have g:∀{a:Addr}{h':Heap},(∃o,s.heap.get? a=some o/\H a=none)->Heap.SameBut a s.heap h'->HOk X.prog X.w H h':=λ{a h'} ha f b ob e=>by
  obtain⟨_,_,G⟩:=ha;refine(I.hok b ob e).stay (λc w' B q=>(f.2 c ?_).trans q) (λ_ q=>q) λ_ _ q=>q;rintro rfl;rcases B with rfl |B
  ·rw[G]at e;cases e
  ·rw[G]at B;cases B
 rcases D with N |N
 ·refine wpAny_storeName_local N hn (λh' ac f=>?_) W;obtain⟨oL,_,_,ad,_⟩:=id hn;refine h _ ⟨I.ok,I.os,I.bare,⟨λb o e n R D=>?_,λb o e n R D=>?_,I.base.free,λb o e D=>?_,I.base.tups,I.base.frzs,I.base.tbls⟩,⟨_,ac,λj y v' t J e3=>?_⟩,λy c e=>?_,I.free,I.freeC,λp hp=>?_,g ⟨oL,ad,I.free⟩ f,by simpa using I.len⟩ ⟨_,f,.inl rfl⟩
  ·exact(f.2 b (ne_of_lt (lt_of_lt_of_le (lt_size e) I.ok.above))).trans (I.base.keep b o e n R D)
  ·obtain⟨sl,t⟩:=I.base.slot b o e n R D;exact⟨sl,(f.2 b (ne_of_lt (lt_of_lt_of_le (lt_size e) I.ok.above))).trans t⟩
  ·obtain⟨o',t⟩:=I.base.there b o e D;exact⟨o',(f.2 b (ne_of_lt (lt_of_lt_of_le (lt_size e) I.ok.above))).trans t⟩
  ·by_cases hj:j=i
   ·subst hj;rw[U]at t;cases t;rw[List.getElem?_set_self L]at J;cases J;exact⟨u,r,.inl ⟨N,by simp⟩⟩
   ·rw[List.getElem?_set_ne (Ne.symm hj)]at J;obtain⟨u',r',q⟩:=hl j y v' t J e3;refine⟨u',r',?_⟩;rcases q with ⟨k,e⟩ | ⟨k,c,e,z⟩
    ·refine .inl ⟨k,?_⟩;have:y≠x:=λe=>hj (Bm hN t (e ▸ U));simp [this,e]
    ·exact .inr ⟨k,c,e,z.sameBut f (O y c e)⟩
  ·obtain⟨w',z⟩:=I.cell y c e;exact⟨w',z.sameBut f (O y c e)⟩
  ·obtain⟨e,n,ne,nf,d⟩:=I.pin p hp;exact⟨(f.2 p.1 ne).trans e,n,ne,nf,d⟩
 ·have S:X.fn x=true:=by
   rcases hf with z |z
   ·exact z
   ·rw[z]at N;cases N
  obtain⟨c,B⟩:=I.ok.has x (.inl N);obtain⟨w',z⟩:=I.cell x c B;refine wpAny_storeName_cell I.ok.kind N B z (λh' Y f=>?_);obtain⟨oc,Z,aa⟩:=id z;refine h {s with heap:=h'} ⟨I.ok,I.os,I.bare,⟨λb o e n R D=>?_,λb o e n R D=>?_,I.base.free,λb o e D=>?_,I.base.tups,I.base.frzs,I.base.tbls⟩,⟨m,hn.sameBut f (Ne.symm (O x c B)),λj y v' t J e3=>?_⟩,λy c' e=>?_,I.free,I.freeC,λp hp=>?_,g ⟨oc,Z,I.freeC x c B⟩ f,by simpa using I.len⟩ ⟨c,f,.inr B⟩
  ·exact(f.2 b (ne_of_lt (lt_of_lt_of_le (lt_size e) (I.ok.cab x c S B)))).trans (I.base.keep b o e n R D)
  ·obtain⟨sl,t⟩:=I.base.slot b o e n R D;exact⟨sl,(f.2 b (ne_of_lt (lt_of_lt_of_le (lt_size e) (I.ok.cab x c S B)))).trans t⟩
  ·obtain⟨o',t⟩:=I.base.there b o e D;exact⟨o',(f.2 b (ne_of_lt (lt_of_lt_of_le (lt_size e) (I.ok.cab x c S B)))).trans t⟩
  ·by_cases hj:j=i
   ·subst hj;rw[U]at t;cases t;rw[List.getElem?_set_self L]at J;cases J;exact⟨u,r,.inr ⟨.inl N,c,B,Y⟩⟩
   ·rw[List.getElem?_set_ne (Ne.symm hj)]at J;obtain⟨u',r',q⟩:=hl j y v' t J e3;refine⟨u',r',?_⟩;rcases q with q | ⟨k,c',e,z'⟩
    ·exact .inl q
    ·refine .inr ⟨k,c',e,z'.sameBut f ?_⟩;rintro rfl;exact hj (Bm hN t (I.ok.inj _ _ _ e B ▸ U))
  ·by_cases ab:c'=c
   ·subst ab;exact⟨_,Y⟩
   ·obtain⟨w2,z2⟩:=I.cell y c' e;exact⟨w2,z2.sameBut f ab⟩
  ·obtain⟨e,n,ne,nf,d⟩:=I.pin p hp;refine⟨(f.2 p.1 ?_).trans e,n,ne,nf,d⟩;intro q;rw[q,Z]at e;have q':oc=p.2:=Option.some.inj e;exact d w' (by rw[<- q'];exact aa)
theorem uB(I:Inv X pins σ H s)(e:X.N.Nodup)(f:X.N[i]? = some x)(g:Loc X.env.scope x)(r:cD v u)
  (h:∀b,Inv X pins (σ.set i (some v)) H b->Q () b) (m:X.fn x=true\/X.env.scope.names.lookup x=some .local:=by first |exact .inl rfl |exact .inr rfl |assumption):wpAny M A (storeName X.env x u) Q E s:=
 E1 I e f g r (λb n _=>h b n) m
theorem Inv.call'(I:Inv X pins σ H s)(q:s'.os=s.os)(u:Un (frs X.stack) ch H H' s.heap s'.heap)(f:HOk X.prog X.w H' s'.heap)(r:AllBare s'.gens)
  (g:∀b∈ch,(b∈X.ex\/X.s₀.heap.objs.size<=b)/\b≠X.env.locals/\(∀x c,X.env.cells.lookup x=some c->c≠b)/\∀p∈X.pn++pins,p.1≠b):Inv X pins σ H' s':=by
 obtain⟨h',m,n,o,t⟩:=s';have e:t=s.os:=q;subst e;exact I.call (g':=m) (t':=o) (d':=n) u f r g
end
abbrev XK:=Value->Option Addr->Hp->Prop
abbrev St:=List (Option V)
abbrev VK:=V->Hp->Prop
abbrev TE:=St->Hp->VK->Prop
abbrev TT:=St->Hp->(Bool->Hp->Prop)->Prop
abbrev TA:=St->Hp->(Mp->Hp->Prop)->Prop
structure Ends where
 nx:St->Hp->Prop
 rt:VK
 bk:St->Hp->Prop:=λ_ _=>False
 ct:St->Hp->Prop:=λ_ _=>False
def Ends.next(D:Ends)(f:St->Hp->Prop):Ends:={D with nx:=f}
def Ends.loop(D:Ends)(N:St->Hp->Prop):Ends:={D with nx:=N,ct:=N,bk:=D.nx}
def Ends.fn(Q:VK):Ends:={nx:=λ_ b=>Q .non b,rt:=Q}
abbrev TS:=Ends->St->Hp->Prop
inductive EP(X:Cx)(pins:Mb)(σ : St)(Q:VK)(u:Value)(s':Shared):Prop
 |mk:∀v H',Inv X pins σ H' s'->cD v u->Q v H'->EP X pins σ Q u s'
def TP(X:Cx)(e:Mb)(g : St)(Q:Bool->Hp->Prop)(b:Bool)(m:Shared):Prop:=∃f,Inv X e g f m/\Q b f
inductive AP(X:Cx)(pins:Mb)(σ : St)(Q:Mp->Hp->Prop)(us:Mh)(s':Shared):Prop
 |mk:∀vs H',Inv X pins σ H' s'->cE vs us->Q vs H'->AP X pins σ Q us s'
def SP(X:Cx)(e:Mb)(D:Ends)(f:Flow)(m:Shared):Prop:=
 match f with
 | .next=>∃b g,Inv X e b g m/\D.nx b g
 | .brk=>∃b g,Inv X e b g m/\D.bk b g
 | .cont=>∃b g,Inv X e b g m/\D.ct b g
 | .ret u=>∃v b g,Inv X e b g m/\cD v u/\D.rt v g
def PE(X:Cx)(e:Expr)(t:TE):Prop:=
 ∀b s f H(Q:VK),Inv X b f H s->t f H Q->wpAny (model X.prog X.w) X.A (eval e X.env) (EP X b f Q) X.xe s
def PT(X:Cx)(e:Expr)(t:TT):Prop:=
 ∀b s f H(Q:Bool->Hp->Prop),Inv X b f H s->t f H Q->wpAny (model X.prog X.w) X.A (isTrue e X.env (eval e X.env)) (TP X b f Q) X.xe s
def PW(X:Cx)(e:Expr)(t:TT):Prop:=
 ∀(whole:Sem Value)(b:Mb)(s:Shared)(f : St)(H:Hp)(Q:Bool->Hp->Prop),Inv X b f H s->t f H Q->wpAny (model X.prog X.w) X.A (isTrue e X.env whole) (TP X b f Q) X.xe s
theorem PW.pt{X:Cx}{e:Expr}{t:TT}(h:PW X e t):PT X e t:=h _
def PA(X:Cx)(g:List Expr)(t:TA):Prop:=
 ∀(e:Pos)(b:Mb)(s:Shared)(f : St)(H:Hp)(Q:Mp->Hp->Prop),Inv X b f H s->t f H Q->wpAny (model X.prog X.w) X.A (spliced (backTo e (starEach g X.env))) (AP X b f Q) X.xe s
def PS(X:Cx)(st:Stmt)(t:TS):Prop:=
 ∀b s e H(D:Ends),Inv X b e H s->t D e H->wpAny (model X.prog X.w) X.A (exec st X.env) (SP X b D) X.xe s
def PSs(X:Cx)(st:List Stmt)(t:TS):Prop:=
 ∀b s e H(D:Ends),Inv X b e H s->t D e H->wpAny (model X.prog X.w) X.A (execs st X.env) (SP X b D) X.xe s
theorem thn{b : Type}{t:Sem b}{Q e:b->Shared->Prop}{M:Model}{A:Around}{E:Mm}{s:Shared}(h:wpAny M A t Q E s)(f:∀a s,Q a s->e a s):wpAny M A t e E s:=wpAny_mono h f λ_ _ x=>x
section
variable{X:Cx}
inductive nJ(i:Nat)(σ : St)(H:Hp)(Q:VK):Prop
 |mk:∀v,σ[i]? = some (some v)->Q v H->nJ i σ H Q
def tC(v:V):TE:=λ_ H Q=>Q v H
theorem Lf(q:X.N[i]? = some x)(t:Vis X.env.scope x)(n:(x == ("__debug__" : Str))=false:=by decide)(o:(x == ("__classdict__" : Str))=false:=by decide):PE X (.Name x y) (nJ i):=by
 intro g s z H Q I h;obtain⟨v,e,h⟩:=h;obtain⟨m,B,D⟩:=I.loc;obtain⟨u,r,l⟩:=D i x v q e t;have fin:EP X g z Q u s:=⟨v,H,I,r,h⟩;rcases l with ⟨f,E⟩ | ⟨f,c,p,b⟩
 ·exact wpAny_Name (wpAny_loadName_local I.ok.kind f B E fin) n
 ·rcases f with f |f
  ·exact wpAny_Name (wpAny_loadName_cell I.ok.kind f p b fin) n
  ·exact wpAny_Name (wpAny_loadName_free I.ok.kind f p b fin o) n
theorem aM{i j b}:PE X (.Constant (.int i) j b) (tC (.int i)):=λ_ _ _ H _ I h=>wpAny_Constant_int ⟨.int i,H,I.tok _,⟨_,rfl⟩,h⟩
theorem nO{b j e}:PE X (.Constant (.bool b) j e) (tC (.bl b)):=λ_ _ _ H _ I h=>Constant_bool ⟨.bl b,H,I,rfl,h⟩
theorem jM{j b}:PE X (.Constant .none j b) (tC .non):=λ_ _ _ H _ I h=>Constant_none ⟨.non,H,I,rfl,h⟩
theorem bR{x j b}:PE X (.Constant (.str x) j b) (tC (.str x)):=λ_ _ _ H _ I h=>Calls.Constant_str ⟨.str x,H,I.tok _,⟨_,rfl⟩,h⟩
def Gl(X:Cx)(x:Str):Prop:=X.env.kindOf x=some .globalImplicit
theorem iI(I:Inv X b n H s)(e:Gl X x)(f:X.mg x=some u)(h:Q u s)
  (g:(x == ("__debug__" : Str))=false:=by decide):wpAny (model X.prog X.w) X.A (eval (.Name x m) X.env) Q E s:=
 Calls.Name_function_global I.ok.kind e (Calls.loadGlobal_global (by rw[I.ok.glob];exact I.mod.glob.keeps I.bk) f h) g
theorem lI(I:Inv X b r H s)(e:Gl X x)(f:X.mg x=none)(g:bootBuiltins x=some u)(h:Q u s)
  (m:x ≠ "__name__":=by decide) (n:(x == ("__debug__" : Str))=false:=by decide):wpAny (model X.prog X.w) X.A (eval (.Name x o) X.env) Q E s:=by
 obtain⟨t,p,q⟩:=I.mod.blt;exact Calls.Name_function_global I.ok.kind e (Calls.loadGlobal_builtin (by rw[I.ok.glob];exact I.mod.glob.keeps I.bk) f (by rw[I.ok.blt];exact p.keeps I.bk) ((q x m).trans g) h) n
theorem cT(b:Gl X x)(e:X.mg x=some u)(r:cD v u)(f:(x == ("__debug__" : Str))=false:=by decide):PE X (.Name x g) (tC v):=
 λ_ _ _ H _ I h=>iI I b e ⟨v,H,I,r,h⟩ f
theorem tG(b:Gl X x)(e:X.mg x=none)(f:bootBuiltins x=some u)(r:cD v u)(g:x ≠ "__name__":=by decide)(m:(x == ("__debug__" : Str))=false:=by decide):PE X (.Name x n) (tC v):=
 λ_ _ _ H _ I h=>lI I b e f ⟨v,H,I,r,h⟩ g m
variable{a b:Expr}{ta tb:TE}{pos:Pos}
def PC(X:Cx)(n:CmpOp)(a b:Expr)(t:TE):Prop:=
 ∀e s m H(Q:VK),Inv X e m H s->t m H Q->
  wpAny (model X.prog X.w) X.A (eval a X.env) (λv f=>wpAny (model X.prog X.w) X.A (eval b X.env) (λu g=>wpAny (model X.prog X.w) X.A (compareOp n v u) (EP X e m Q) X.xe g) X.xe f) X.xe s
theorem Hj(b:Expr)(h:e ≠ .In)(f:e ≠ .NotIn):behindInMarks e b=false:=by
 have g:(e == CmpOp.In)=false:=by cases e <;> first |rfl |exact absurd rfl h
 have m:(e == CmpOp.NotIn)=false:=by cases e <;> first |rfl |exact absurd rfl f
 cases b <;> simp [behindInMarks,g,m]
inductive tBX(Q:(Bool->Hp->Prop))(x:V)(H1:Hp):Prop
 |mk:∀c,x = .bl c->Q c H1->tBX Q x H1
def tB(t:TE):TT:=λe H Q=>t e H (tBX Q)
theorem oA(h:PC X m a b t)(f:behindInMarks m b=false:=by first |exact Hj _ (by decide) (by decide) |rfl):PT X (.Compare a [m] [b] pos) (tB t):=by
 intro e s n H Q I hw;refine wpAny_isTrue_Compare1 (thn (h e s n H _ I hw) λv B f=>thn f λu s2 o=>thn o λc D g=>?_) f;obtain⟨x,p,r,y,z⟩:=g;obtain⟨d,rfl,q⟩:=z;cases y;exact wpAny_truthy_bool ⟨p,r,q⟩
theorem dL(h:PE X e t)(m:∀whole,isTrue e X.env whole=(do let v <- whole;standAt e.pos;holding [v] (truthy v)):=by intro _;rfl):PT X e (tB t):=by
 intro f s n H Q I hw;refine isTrue_plain (thn (h f s n H _ I hw) λv y g=>?_) (m _);obtain⟨x,o,p,r,u⟩:=g;obtain⟨d,rfl,q⟩:=u;cases r;exact wpAny_truthy_bool ⟨o,p,q⟩
variable{tA tB':TT}{rest:List Expr}
abbrev LK(u:TT)(f : St)(Q:(Bool->Hp->Prop)):Bool->Hp->Prop:=λc e=>if c=true then u f e Q else Q false e
def tAnd(t u:TT):TT:=λe H Q=>t e H (LK u e Q)
abbrev tOr_1(u:TT)(f : St)(Q:(Bool->Hp->Prop)):Bool->Hp->Prop:=λc e=>if c=true then Q true e else u f e Q
def tOr(t u:TT):TT:=λe H Q=>t e H (tOr_1 u e Q)
abbrev K5(Q:(Bool->Hp->Prop)):Bool->Hp->Prop:=λc e=>Q (!c) e
def tNot(t:TT):TT:=λe H Q=>t e H (K5 Q)
theorem jC(g:PT X a tA):PW X (.BoolOp .And [a] pos) tA:=by
 intro n f s m H Q I h;refine isTrue_and (thn (g f s m H Q I h) λc o e=>?_);cases c with
 |true=>exact isTrue_and_nil e
 |false=>exact e
theorem iV(g:PT X a tA):PW X (.BoolOp .Or [a] pos) tA:=by
 intro n f s m H Q I h;refine isTrue_or (thn (g f s m H Q I h) λc o e=>?_);cases c with
 |false=>exact isTrue_or_nil e
 |true=>exact e
theorem mC(p:PT X a tA)(q:PW X (.BoolOp .And (b::rest) pos) tB'):PW X (.BoolOp .And (a::b::rest) pos) (tAnd tA tB'):=by
 intro r e s g H Q I h;refine isTrue_and (thn (p e s g H _ I h) λc t f=>?_);obtain⟨m,n,o⟩:=f;cases c with
 |true=>exact q r e t g m Q n o
 |false=>exact⟨m,n,o⟩
theorem lQ(p:PT X a tA)(q:PW X (.BoolOp .Or (b::rest) pos) tB'):PW X (.BoolOp .Or (a::b::rest) pos) (tOr tA tB'):=by
 intro r e s g H Q I h;refine isTrue_or (thn (p e s g H _ I h) λc t f=>?_);obtain⟨m,n,o⟩:=f;cases c with
 |true=>exact⟨m,n,o⟩
 |false=>exact q r e t g m Q n o
theorem cY(f:PT X a tA):PT X (.UnaryOp .Not a pos) (tNot tA):=by
 intro e s g H Q I h;exact isTrue_not (f e s g H (λc m=>Q (!c) m) I h)
inductive Ga(tb:TE)(σ : St)(Q:VK)(x:V)(H1:Hp):Prop
 |mk:∀c,x = .bl c->(if c=true then tb σ H1 Q else Q (.bl false) H1)->Ga tb σ Q x H1
def tAndV(ta tb:TE):TE:=λe H Q=>ta e H (Ga tb e Q)
theorem vD{f}(h:PE X a t):PE X (.BoolOp f [a] pos) t:=λe s g H Q I hw=>BoolOp_one (h e s g H Q I hw)
theorem qZ(p:PE X a ta)(q:PE X (.BoolOp .And (b::rest) pos) tb):PE X (.BoolOp .And (a::b::rest) pos) (tAndV ta tb):=by
 intro e s m H Q I h;refine BoolOp_and (thn (p e s m H _ I h) λv r g=>?_);obtain⟨x,n,o,t,f⟩:=g;obtain⟨c,rfl,f⟩:=f;cases t;refine wpAny_truthy_bool ?_;cases c with
 |true=>exact q e r m n Q o f
 |false=>exact⟨.bl false,n,o,rfl,f⟩
abbrev tIf_1(ta:TE)(tb:TE)(e : St)(Q:VK):Bool->Hp->Prop:=λc f=>if c=true then ta e f Q else tb e f Q
def tIf(t:TT)(ta tb:TE):TE:=λe H Q=>t e H (tIf_1 ta tb e Q)
theorem BW(q:PT X c tA)(r:PE X a ta)(t:PE X b tb):PE X (.IfExp c a b pos) (tIf tA ta tb):=by
 intro e s f H Q I h;refine wpAny_IfExp (thn (q e s f H _ I h) λd m g=>?_);obtain⟨n,o,p⟩:=g;cases d with
 |true=>exact r e m f n Q o p
 |false=>exact t e m f n Q o p
end
def SqL(K:Ma)(H:Hp)(a:Addr)(e:Mp):Prop:=
 Rd H a (.lst e)\/
  ∃(o:Obj) (b:Array Value) (n:Nat),K.lookup a=some o/\o.cls = .type "list"/\o.dict=none/\o.data = .seq b n/\b.size<=sizeLine/\cE e b.toList
def SqT(K:Ma)(H:Hp)(a:Addr)(e:Mp):Prop:=
 Rd H a (.tup e)\/
  ∃(o:Obj) (b:Array Value) (n:Nat),K.lookup a=some o/\o.cls = .type "tuple"/\o.data = .seq b n/\b.size<=sizeLine/\cE e b.toList
def absV:Value->Option V
 | .none=>some .non
 | .bool b=>some (.bl b)
 | .int i _=>some (.int i)
 | .str x _=>some (.str x)
 | .bytes b _=>some (.byt b)
 | .float b _=>some (.flt b)
 | .ref a=>some (.ref a)
 | .type n=>some (.ty n)
 |_=>none
theorem cD.abs(r:cD x u):absV u=some x:=by
 cases x with
 |non=>cases r;rfl
 |bl _=>cases r;rfl
 |int _=>obtain⟨t,rfl⟩:=r;rfl
 |str _=>obtain⟨t,rfl⟩:=r;rfl
 |byt _=>obtain⟨t,rfl⟩:=r;rfl
 |flt _=>obtain⟨t,rfl⟩:=r;rfl
 |ref _=>cases r;rfl
 |ty _=>cases r;rfl
theorem cD.inj(r:cD x u)(q:cD y u):x=y:=Option.some.inj (r.abs.symm.trans q.abs)
theorem cE.inj:∀{b e:Mp}{f:Mh},cE b f->cE e f->b=e
 |_,_,_,.nil,.nil=>rfl
 |_,_,_,.cons r t,.cons g m=>by rw[r.inj g,cE.inj t m]
section
variable{X:Cx}{pins:Mb}{σ : St}{H:Hp}{s:Shared}{a:Addr}{xs ys:Mp}
theorem SqL.of{K:Ma}(h:H a=some (.lst xs)):SqL K H a xs:=.inl (.inl h)
theorem SqT.of{K:Ma}(h:H a=some (.tup xs)):SqT K H a xs:=.inl (.inl h)
theorem Inv.list(I:Inv X pins σ H s)(h:SqL X.K H a xs):∃b:Mh,cE xs b/\PlainL s.heap a b.toArray/\xs.length<=sizeLine:=by
 rcases h with h | ⟨o,b,n,f,g,m,p,q,r⟩
 ·obtain⟨z,b,n,r,e⟩:=h.ok I.hok;exact⟨b,r,⟨_,n,e,rfl,rfl,rfl⟩,z⟩
 ·refine⟨b.toList,r,⟨o,n,I.kIn a o f,g,m,by simpa using p⟩,?_⟩;have e:=r.length;simp only[length_toList]at e;omega
theorem Inv.tuple(I:Inv X pins σ H s)(h:SqT X.K H a xs):∃b:Mh,cE xs b/\IsTup s.heap a b.toArray/\xs.length<=sizeLine:=by
 rcases h with h | ⟨o,b,n,f,g,m,q,r⟩
 ·obtain⟨z,b,r,p⟩:=h.ok I.hok;exact⟨b,r,p,z⟩
 ·refine⟨b.toList,r,⟨o,I.kIn a o f,g,n,by simpa using m⟩,?_⟩;have e:=r.length;simp only[length_toList]at e;omega
theorem Inv.list_inj(I:Inv X pins σ H s)(h:SqL X.K H a xs)(p:SqL X.K H a ys):xs=ys:=by
 obtain⟨f,r,⟨o,n,e,_,_,d⟩,_⟩:=I.list h;obtain⟨b,q,⟨u,x,g,_,_,m⟩,_⟩:=I.list p;rw[e]at g;cases g;rw[d]at m;injection m with t _
 have:f=b:=by simpa using congrArg Array.toList t
 subst this;exact r.inj q
theorem Inv.tuple_inj(I:Inv X pins σ H s)(h:SqT X.K H a xs)(p:SqT X.K H a ys):xs=ys:=by
 obtain⟨f,r,⟨o,e,_,n,d⟩,_⟩:=I.tuple h;obtain⟨b,q,⟨u,g,_,x,m⟩,_⟩:=I.tuple p;rw[e]at g;cases g;rw[d]at m;injection m with t _
 have:f=b:=by simpa using congrArg Array.toList t
 subst this;exact r.inj q
end
abbrev Cx.wish(X:Cx)(E:Mm):Cx:={X with xe:=E}
abbrev Cx.nox(X:Cx):Cx:=X.wish λ_ _=>False
theorem Cx.Ok.wish{X:Cx}(ok:X.Ok)(E:Mm):(X.wish E).Ok:=
 ⟨ok.mod,ok.kind,ok.glob,ok.blt,ok.above,ok.inj,ok.has,ok.cab,ok.hd,ok.frames,ok.stk,ok.exf,ok.bs,ok.bsz,ok.noex,ok.exfs,ok.funs,ok.frf⟩
theorem Cx.Ok.unwish{X:Cx}{E:Mm}(ok:(X.wish E).Ok):X.Ok:=
 ⟨ok.mod,ok.kind,ok.glob,ok.blt,ok.above,ok.inj,ok.has,ok.cab,ok.hd,ok.frames,ok.stk,ok.exf,ok.bs,ok.bsz,ok.noex,ok.exfs,ok.funs,ok.frf⟩
section
variable{X:Cx}{pins:Mb}{σ : St}{H:Hp}{s:Shared}{E:Mm}
theorem Inv.wish(I:Inv X pins σ H s)(E:Mm):Inv (X.wish E) pins σ H s:=⟨I.ok.wish E,I.os,I.bare,I.base,I.loc,I.cell,I.free,I.freeC,I.pin,I.hok,I.len⟩
theorem Inv.unwish(I:Inv (X.wish E) pins σ H s):Inv X pins σ H s:=⟨I.ok.unwish,I.os,I.bare,I.base,I.loc,I.cell,I.free,I.freeC,I.pin,I.hok,I.len⟩
theorem SP.unwish(h:SP (X.wish E) pins D f g):SP X pins D f g:=by
 cases f with
 |next=>obtain⟨b,e,I,q⟩:=h;exact⟨b,e,I.unwish,q⟩
 |brk=>obtain⟨b,e,I,q⟩:=h;exact⟨b,e,I.unwish,q⟩
 |cont=>obtain⟨b,e,I,q⟩:=h;exact⟨b,e,I.unwish,q⟩
 |ret u=>obtain⟨v,b,e,I,r,q⟩:=h;exact⟨v,b,e,I.unwish,r,q⟩
end
section
variable{X:Cx}{st:Stmt}{rest:List Stmt}{t u:TS}{e:Expr}{te:TE}{pos:Pos}
def Dg:TS:=λD b H=>D.nx b H
def wM(t u:TS):TS:=λD b H=>t (D.next (u D)) b H
theorem aO:PSs X [] Dg:=λ_ _ b H _ I h=>wpAny_execs_nil ⟨b,H,I,h⟩
theorem aA(m:PS X st t)(n:PSs X rest u):PSs X (st::rest) (wM t u):=by
 intro b s o H D I h;refine wpAny_execs_cons (thn (m b s o H (D.next (u D)) I h) λf p q=>?_);cases f with
 |next=>
  obtain⟨g,r,x,q⟩:=q;exact n b p g r D x q
 |ret v=>exact q
 |brk=>exact q
 |cont=>exact q
theorem aC(g:PS X st t):PSs X [st] t:=by
 intro b s m H D I h;refine wpAny_execs_cons (thn (g b s m H D I h) λf n q=>?_);cases f with
 |next=>exact wpAny_execs_nil q
 |ret v=>exact q
 |brk=>exact q
 |cont=>exact q
theorem Inv.quiet(I:Inv X b f H s):interactive X.env=false:=by simp [interactive,I.ok.kind]
abbrev JD(D:Ends)(b : St):V->Hp->Prop:=λf g=>D.nx b g
def KZ(te:TE):TS:=λD b H=>te b H (JD D b)
theorem aX(g:PE X e te)(m:swapsWith e none pos.line X.env=pure false:=by rfl):PS X (.Expr e pos) (KZ te):=by
 intro b s f H D I h;exact wpAny_Expr_any (thn (g b s f H _ I h) λv q ⟨x,n,o,r,p⟩=>⟨f,n,o,p⟩) I.quiet m
def tRet(te:TE):TS:=λD b H=>te b H D.rt
theorem aP(g:PE X e te):PS X (.Return (some e) pos) (tRet te):=by
 intro b s f H D I h;exact wpAny_Return_some (thn (g b s f H _ I h) λv q ⟨x,m,n,o,p⟩=>⟨x,f,m,n,o,p⟩)
abbrev K9(t:TS)(u:TS)(D:Ends)(f : St):Bool->Hp->Prop:=λb g=>if b=true then t D f g else u D f g
def LA(c:TT)(t u:TS):TS:=λD b H=>c b H (K9 t u D b)
theorem bE{c:Expr}{a b:List Stmt}{n:TT}(x:PT X c n)(y:PSs X a t)(z:PSs X b u):PS X (.If c a b pos) (LA n t u):=by
 intro f s g H D I h;refine wpAny_If (thn (x f s g H _ I h) λd o m=>?_);obtain⟨p,q,r⟩:=m;cases d with
 |true=>exact y f o g p D q r
 |false=>exact z f o g p D q r
end
abbrev TG:=V->St->Hp->(St->Hp->Prop)->Prop
abbrev TGs:=Mp->St->Hp->(St->Hp->Prop)->Prop
def PG(X:Cx)(b:Expr)(t:TG):Prop:=
 ∀e s g H(v:V)(u:Value)(Q:St->Hp->Prop),Inv X e g H s->cD v u->t v g H Q->
  wpAny (model X.prog X.w) X.A (assign b X.env u) (λ_ n=>∃f m,Inv X e f m n/\Q f m) X.xe s
def PGs(X:Cx)(o:List Expr)(t:TGs):Prop:=
 ∀b s f H(g:Mp)(m:Mh)(Q:St->Hp->Prop),Inv X b f H s->cE g m->t g f H Q->
  wpAny (model X.prog X.w) X.A (assignInOrder ((assignEach o X.env).map (·.2)) m) (λ_ p=>∃e n,Inv X b e n p/\Q e n) X.xe s
abbrev TIp:=V->V->Hp->VK->Prop
def PIp(X:Cx)(f:Operator)(t:TIp):Prop:=
 ∀b s e H(x y:V)(v u:Value)(Q:VK),Inv X b e H s->cD x v->cD y u->t x y H Q->
  wpAny (model X.prog X.w) X.A (inplaceOp f v u) (EP X b e Q) X.xe s
section
variable{X:Cx}{pos:Pos}
def sE(i:Nat):TG:=λv b H Q=>Q (b.set i (some v)) H
theorem bK{i:Nat}{x:Str}(e:X.N.Nodup)(f:X.N[i]? = some x)(g:Loc X.env.scope x)(m:X.fn x=true\/X.env.scope.names.lookup x=some .local:=by first |exact .inl rfl |exact .inr rfl |assumption):PG X (.Name x pos) (sE i):=by
 intro b s o H v u Q I r h;exact wpAny_assign_Name (uB I e f g r (λp n=>⟨_,H,n,h⟩) m)
def gNil:TGs:=λb e H Q=>b=[]/\Q e H
abbrev KE(u:TGs)(Q:(St->Hp->Prop))(r:Mp):St->Hp->Prop:=λb e=>u r b e Q
inductive Ks(t:TG)(u:TGs)(vs:Mp)(σ : St)(H:Hp)(Q:(St->Hp->Prop)):Prop
 |mk:∀v r,vs=v::r->t v σ H (KE u Q r)->Ks t u vs σ H Q
theorem iG:PGs X [] gNil:=by
 intro b s f H g m Q I r h;obtain⟨e,h⟩:=h;subst e;cases r;exact assignInOrder_nil ⟨f,H,I,h⟩
theorem cJ{e:Expr}{f:List Expr}{t:TG}{u:TGs}(n:PG X e t)(o:PGs X f u)
  (p:(assignEach (e::f) X.env).map (·.2)=assign e X.env::(assignEach f X.env).map (·.2):=by rfl):PGs X (e::f) (Ks t u):=by
 intro b s q H G J Q I r h;obtain⟨v,L,x,h⟩:=h;subst x;cases r with
 |cons r y=>
  rw[p];refine assignInOrder_cons (thn (n b s q H _ _ _ I r h) λ_ z g=>?_);obtain⟨m,B,D,E⟩:=g;exact o b z m B _ _ Q D y E
inductive MJ(K:Ma)(n:Nat)(t:TGs)(v:V)(σ : St)(H:Hp)(Q:(St->Hp->Prop)):Prop
 |mk:∀a xs,v = .ref a->SqT K H a xs->xs.length=n->t xs σ H Q->MJ K n t v σ H Q
theorem Ld(y:X.calm=true)(h:PGs X g t)
  (z:(assignEach g X.env).length=n:=by rfl) (m:(assignEach g X.env).findIdx? (·.1)=none:=by rfl):PG X (.Tuple g k pos) (MJ X.K n t):=by
 intro f s p H v u Q I r hw;obtain⟨a,B,D,E,G,hw⟩:=hw;subst D;cases r;obtain⟨J,q,L,S⟩:=I.tuple E;refine assign_Tuple_tuple (I.ok.hd y) L (by simp [z,<- G,q.length]) m λN O=>?_;have R:Inv X f p H {s with heap:=N}:=I.kept (t':=s.toks) λb o e=>O b o (ne_of_lt (lt_size e)) e;exact h f _ p H B _ Q R (by simpa using q) hw
abbrev Cf(g:TG)(D:Ends)(b : St):V->Hp->Prop:=λx e=>g x b e D.nx
def LJ(e:TE)(g:TG):TS:=λD b H=>e b H (Cf g D b)
theorem qX{f e:Expr}{n:TE}{g:TG}(p:PE X e n)(r:PG X f g)(t:swapsWithSole [f] e pos.line X.env=pure false:=by rfl)(hw:swappedStores [f] e X.env=pure none:=by rfl)
  (u:(assignEach [f] X.env).map (·.2)=[assign f X.env]:=by rfl):PS X (.Assign [f] e pos) (LJ n g):=by
 intro b s o H D I h;refine wpAny_Assign_stores (thn (p b s o H _ I h) λv y m=>?_) t hw;obtain⟨x,z,B,E,G⟩:=m;rw[u];exact thn (r b y o z x v _ B E G) λ_ s2 q=>q
theorem a9{i:Nat}{x:Str}{e:Expr}{m:TE}{b:Pos}(n:X.N.Nodup)(o:X.N[i]? = some x)(p:Loc X.env.scope x)(q:PE X e m)(r:swapsWith e (some (.Name x b)) pos.line X.env=pure false:=by rfl)(t:X.fn x=true\/X.env.scope.names.lookup x=some .local:=by first |exact .inl rfl |exact .inr rfl |assumption) :
  PS X (.Assign [.Name x b] e pos) (LJ m (sE i)):=by
 intro f s u H D I h;refine wpAny_Assign_Name (thn (q f s u H _ I h) λv L g=>?_) r;obtain⟨y,z,B,E,G⟩:=g;exact uB B n o p E (λs2 J=>⟨_,z,J,G⟩) t
abbrev LH(i:Nat)(D:Ends)(b : St):V->Hp->Prop:=λz H2=>D.nx (b.set i (some z)) H2
abbrev LI(i:Nat)(b:TIp)(D:Ends)(e : St)(x:V):V->Hp->Prop:=λy f=>b x y f (LH i D e)
inductive tAug(i:Nat)(te:TE)(ti:TIp)(D:Ends)(σ : St)(H:Hp):Prop
 |mk:∀x,σ[i]? = some (some x)->te σ H (LI i ti D σ x)->tAug i te ti D σ H
theorem Cs{i:Nat}{x:Str}{e:Expr}{G:TE}{t:Operator}{J:TIp}{o:Pos}(O:X.N.Nodup)(L:X.N[i]? = some x)(B:Loc X.env.scope x)(Q:PE X e G)(R:PIp X t J)(S:X.fn x=true\/X.env.scope.names.lookup x=some .local:=by first |exact .inl rfl |exact .inr rfl |assumption) :
  PS X (.AugAssign (.Name x o) t e pos) (tAug i G J):=by
 intro b s N H D I h;obtain⟨v,U,h⟩:=h;obtain⟨m,V,W⟩:=I.loc;have E:Vis X.env.scope x:=by rcases B with k |k;exact .inl k;exact .inr (.inl k)
 obtain⟨u,r,l⟩:=W i x v L U E;refine wpAny_AugAssign_Name ?_;have go:wpAny (model X.prog X.w) X.A (eval e X.env) (λw p=>wpAny (model X.prog X.w) X.A (inplaceOp t u w) (λr q=>wpAny (model X.prog X.w) X.A (storeName X.env x r) (λ_=>SP X b D .next) X.xe q) X.xe p) X.xe s:=by
  refine thn (Q b s N H _ I h) λw Y g=>?_;obtain⟨y,Z,I1,r1,q1⟩:=g;refine thn (R b Y N Z v y u w _ I1 r r1 q1) λz s2 g=>?_;obtain⟨zv,H2,I2,r2,q2⟩:=g;exact uB I2 O L B r2 (λs3 I3=>⟨_,H2,I3,q2⟩) S
 rcases l with ⟨f,hm⟩ | ⟨f,c,hc,n⟩
 ·exact wpAny_loadName_local I.ok.kind f V hm go
 ·rcases f with f |f
  ·exact wpAny_loadName_cell I.ok.kind f hc n go
  ·rcases B with k |k
   ·have:X.env.scope.names.lookup x=some .free:=f;rw[k]at this;cases this
   ·have:X.env.scope.names.lookup x=some .free:=f;rw[k]at this;cases this
inductive ipI(f:Int->Int->Int)(x:V)(y:V)(H:Hp)(Q:VK):Prop
 |mk:∀i j,x = .int i->y = .int j->Q (.int (f i j)) H->ipI f x y H Q
theorem IA:PIp X .Add (ipI λi j=>i+j):=by
 intro b s n H x y v u Q I e f h;obtain⟨i,j,g,m,q⟩:=h;subst g;subst m;obtain⟨t,rfl⟩:=e;obtain⟨o,rfl⟩:=f;exact iadd_int ⟨.int _,H,I.tok _,⟨_,rfl⟩,q⟩
theorem MC:PIp X .Sub (ipI λi j=>i-j):=by
 intro b s n H x y v u Q I e f h;obtain⟨i,j,g,m,q⟩:=h;subst g;subst m;obtain⟨t,rfl⟩:=e;obtain⟨o,rfl⟩:=f;exact isub_int ⟨.int _,H,I.tok _,⟨_,rfl⟩,q⟩
def K2(c:TT)(p:TS):TS:=λD e H=>∃W:Nat->St->Hp->Prop,(∃m,W m e H)/\∀m e H,W m e H->
 c e H λb g=>if b=true then ∃N:St->Hp->Prop,(∀f n,N f n->∃o,o<m/\W o f n)/\p (D.loop (N)) e g else D.nx e g
theorem pD{c:Expr}{o:List Stmt}{G:TT}{J:TS}(L:PassesOwn (model X.prog X.w) X.A X.env X.xe)(U:PT X c G)(V:PSs X o J):PS X (.While c o [] pos) (K2 G J):=by
 intro e s Y H D I h;obtain⟨W,⟨Z,w0⟩,turn⟩:=h;refine wpAny_While (codeAny_whileLoop (λn s'=>∃p O,Inv X e p O s'/\W n p O) ?_ Z ⟨Y,H,I,w0⟩);rintro n s1 ⟨m,Q,I1,w1⟩;refine wpAny_passesOwn L (thn (U e s1 m Q _ I1 (turn n m Q w1)) λb s2 u=>?_);obtain⟨H2,R,r⟩:=u;cases b with
 |true=>
  obtain⟨N,S,r⟩:=r;rw[if_pos rfl];refine wpAny_passesOwn L (thn (V e s2 m H2 _ R r) λf s3 t=>?_);cases f with
  |next=>
   obtain⟨g,q,x,y⟩:=t;obtain⟨z,B,E⟩:=S g q y;exact⟨z,B,g,q,x,E⟩
  |cont=>
   obtain⟨g,q,x,y⟩:=t;obtain⟨z,B,E⟩:=S g q y;exact⟨z,B,g,q,x,E⟩
  |brk=>exact t
  |ret v=>exact t
 |false=>
  rw[if_neg Bool.false_ne_true];exact wpAny_execs_nil ⟨m,H2,R,r⟩
end
structure It where
 go:Nat->Hp->Prop
 yld:Nat->Hp->V->Hp->Prop
 stop:Nat->Hp->Prop
def rO(X:Cx)(e:Mb)(H:Hp)(b:Addr):Prop:=
 H b=none/\b≠X.env.locals/\b∉X.fs/\(b∈X.ex\/X.s₀.heap.objs.size<=b)/\(∀x c,X.env.cells.lookup x=some c->c≠b)/\∀p∈X.pn++e,p.1≠b
theorem Inv.fpOk(I:Inv X f o H s)(g:s.heap.objs.size<=b)(m:H' b=none):rO X f H' b:=by
 refine⟨m,ne_of_gt (lt_of_lt_of_le I.lt g),I.nofs g,.inr (le_trans I.sz g),λx c e z=>?_,λp n z=>?_⟩
 ·obtain⟨v,q⟩:=I.cell x c e;exact absurd (lt_of_lt_of_le q.lt (by rw[z];exact g)) (lt_irrefl _)
 ·exact absurd (lt_of_lt_of_le (lt_size (I.pin p n).1) (by rw[z];exact g)) (lt_irrefl _)
structure Turn(P:Program)(w:World)(K:Ma)(tg:Expr)(J:It)(fp:List Addr)(it:Addr)(tn:Nat->Heap->Prop):Prop where
 mem:it∈fp
 obj:∀i h,tn i h->∀b∈fp,∃o,h.get? b=some o/\∀v,o.data ≠ .cell v
 keep:∀i h h',tn i h->(∀b∈fp,∀o,h.get? b=some o->h'.get? b=some o)->tn i h'
 item:∀(X:Cx),X.prog=P->X.w=w->X.K=K->X.calm=true->∀(i:Nat)(pins:Mb)(s:Shared)(σ : St)(H:Hp)(E:Mm),Inv X pins σ H s->(∀b∈fp,rO X pins H b)->tn i s.heap->J.go i H->
  wpAny (model P w) X.A (pyNext (.ref it)) (λr s1=>∃u,r=some u/\
   wpAny (model P w) X.A (letOwnedTupleGo tg (.ref it) u) (λ_ s2=>∃x H',Inv X pins σ H' s2/\cD x u/\J.yld i H x H'/\tn (i+1) s2.heap/\∀b∈fp,H' b=none) E s1) E s
 done:∀(X:Cx),X.prog=P->X.w=w->X.K=K->X.calm=true->∀(i:Nat)(pins:Mb)(s:Shared)(σ : St)(H:Hp)(E:Mm),Inv X pins σ H s->(∀b∈fp,rO X pins H b)->tn i s.heap->J.stop i H->
  wpAny (model P w) X.A (pyNext (.ref it)) (λr s1=>r=none/\Inv X pins σ H s1) E s
 self:∀(A:Around)(i:Nat)(s:Shared)(Q:Mm)(E:Mm),tn i s.heap->Q (.ref it) s->wpAny (model P w) A (pyIter (.ref it)) Q E s
abbrev TI:=St->Hp->(It->Hp->Prop)->Prop
inductive PIE(X:Cx)(pins:Mb)(σ : St)(tg:Expr)(R:It->Hp->Prop)(itv:Value)(s2:Shared):Prop
 |mk:∀(it:Addr)(fp:List Addr)(tn:Nat->Heap->Prop)(J:It)(H':Hp),itv = .ref it->Inv X pins σ H' s2->Turn X.prog X.w X.K tg J fp it tn->tn 0 s2.heap->(∀b∈fp,rO X pins H' b)->R J H'->PIE X pins σ tg R itv s2
def PI(X:Cx)(f iter:Expr)(g:TI):Prop:=
 ∀b s e H(R:It->Hp->Prop),Inv X b e H s->g e H R->
  wpAny (model X.prog X.w) X.A (eval iter X.env) (λv m=>wpAny (model X.prog X.w) X.A (pyIter v) (PIE X b e f R) X.xe m) X.xe s
theorem Bz(e:s.heap.get? f=some o)(g:o.cls = .type n)(m:o.data = .fields p)
  (q:["enumerate","zip","dict_itemiterator","dict_reverseitemiterator","odict_iterator","itertools.zip_longest","itertools.pairwise"].contains n=false) (b:Q () s):wpAny M A (letOwnedTupleGo r (.ref f) u) Q E s:=by
 unfold letOwnedTupleGo;cases r <;> first
  |exact wpAny_pure b
  | (cases u <;> first
    |exact wpAny_pure b
    | (refine wpAny_bind (wpAny_load e ?_)
       rw[g,m];show wpAny M A (if (["enumerate","zip","dict_itemiterator","dict_reverseitemiterator","odict_iterator","itertools.zip_longest","itertools.pairwise"].contains n && p[0]? == some (rawInt _))=true then _ else _) Q E s;rw[if_neg (by intro h;rw[q,Bool.false_and]at h;cases h)];exact wpAny_pure b))
def Itl(K:Ma)(a:Addr):It:=
 ⟨λi H=>∃b x,SqL K H a b/\b[i]? = some x,λi H x e=>e=H/\∀b,SqL K H a b->b[i]? = some x,λi H=>∃b,SqL K H a b/\b.length<=i⟩
def Itt(K:Ma)(a:Addr):It:=
 ⟨λi H=>∃b x,SqT K H a b/\b[i]? = some x,λi H x e=>e=H/\∀b,SqT K H a b->b[i]? = some x,λi H=>∃b,SqT K H a b/\b.length<=i⟩
def Itr(lo:Int)(n:Nat):It:=⟨λi _=>i<n,λi H x b=>b=H/\x = .int (lo+i),λi _=>n<=i⟩
theorem w6{P:Program}{w:World}{K:Ma}{tg:Expr}(a it:Addr):Turn P w K tg (Itl K a) [it] it (λi h=>h.IsListIter it a i) where
 mem:=by simp
 obj:=λi h st b hb=>by
  have e:b=it:=by simpa using hb
  subst e;obtain⟨o,e,c,d⟩:=st;exact⟨o,e,λv z=>by rw[d]at z;cases z⟩
 keep:=λi h h' st k=>st.at λo e=>k it (by simp) o e
 item:=by
  intro X hP hw hK hc i pins s σ H E I hf st hg;subst hP hw hK;obtain⟨xs,x,hq,hx⟩:=hg;obtain⟨its,rv,p,hz⟩:=I.list hq;obtain⟨u,hu,ru⟩:=rv.get hx;obtain⟨f0,f1,f2,f3,f4,f5⟩:=hf it (by simp);refine wpAny_pyNext_list_item st p.isList (x:=u) (by simpa using hu) λh' st' sb=>?_;have I1:Inv X pins σ H {s with heap:=h'}:=I.turned (t':=s.toks) (λb o hb e=>(sb.2 b hb).trans e) f0 f1 f3 f4 f5;obtain⟨o,e,c,d⟩:=id st';exact⟨u,rfl,Bz (s:={s with heap:=h'}) e c d (by decide) ⟨x,H,I1,ru,⟨rfl,λys hy=>by rw[I.list_inj hy hq];exact hx⟩,st',λb hb=>(hf b hb).1⟩⟩
 done:=by
  intro X hP hw hK hc i pins s σ H E I hf st hg;subst hP hw hK;obtain⟨xs,hq,hx⟩:=hg;obtain⟨its,rv,p,hz⟩:=I.list hq;obtain⟨f0,f1,f2,f3,f4,f5⟩:=hf it (by simp);have hl:=rv.length;exact wpAny_pyNext_list_end (I.ok.hd hc) st p.isList (by simp;omega) λh' eb=>⟨rfl,I.turned (t':=s.toks) (λb o hb e=>eb b o hb e) f0 f1 f3 f4 f5⟩
 self:=λ_ _ _ _ _ st h=>wpAny_pyIter_listiter st h
theorem tV{P:Program}{w:World}{K:Ma}{tg:Expr}(a it:Addr):Turn P w K tg (Itt K a) [it] it (λi h=>h.IsTupleIter it a i) where
 mem:=by simp
 obj:=λi h st b hb=>by
  have e:b=it:=by simpa using hb
  subst e;obtain⟨o,e,c,d⟩:=st;exact⟨o,e,λv z=>by rw[d]at z;cases z⟩
 keep:=λi h h' st k=>st.at λo e=>k it (by simp) o e
 item:=by
  intro X hP hw hK hc i pins s σ H E I hf st hg;subst hP hw hK;obtain⟨xs,x,hq,hx⟩:=hg;obtain⟨its,rv,p,hz⟩:=I.tuple hq;obtain⟨u,hu,ru⟩:=rv.get hx;obtain⟨f0,f1,f2,f3,f4,f5⟩:=hf it (by simp);refine wpAny_pyNext_tuple_item st (show s.heap.IsTuple a its.toArray from p) (x:=u) (by simpa using hu) λh' st' sb=>?_;have I1:Inv X pins σ H {s with heap:=h'}:=I.turned (t':=s.toks) (λb o hb e=>(sb.2 b hb).trans e) f0 f1 f3 f4 f5;obtain⟨o,e,c,d⟩:=id st';exact⟨u,rfl,Bz (s:={s with heap:=h'}) e c d (by decide) ⟨x,H,I1,ru,⟨rfl,λys hy=>by rw[I.tuple_inj hy hq];exact hx⟩,st',λb hb=>(hf b hb).1⟩⟩
 done:=by
  intro X hP hw hK hc i pins s σ H E I hf st hg;subst hP hw hK;obtain⟨xs,hq,hx⟩:=hg;obtain⟨its,rv,p,hz⟩:=I.tuple hq;obtain⟨f0,f1,f2,f3,f4,f5⟩:=hf it (by simp);have hl:=rv.length;exact wpAny_pyNext_tuple_end (I.ok.hd hc) st (show s.heap.IsTuple a its.toArray from p) (by simp;omega) λh' eb=>⟨rfl,I.turned (t':=s.toks) (λb o hb e=>eb b o hb e) f0 f1 f3 f4 f5⟩
 self:=λ_ _ _ _ _ st h=>wpAny_pyIter_tupleiter st h
theorem Ca{P:Program}{w:World}{K:Ma}{tg:Expr}(it:Addr)(lo:Int)(n:Nat):Turn P w K tg (Itr lo n) [it] it (λi h=>IsRangeIter h it (lo+(i:Nat)*1) ((n:Int)-(i:Nat)) 1) where
 mem:=by simp
 obj:=λi h st b hb=>by
  have e:b=it:=by simpa using hb
  subst e;exact⟨_,st,λv z=>by
   have z':Data.fields _=Data.cell v:=z;cases z'⟩
 keep:=λi h h' st k=>k it (by simp) _ st
 item:=by
  intro X hP hw hK hc i pins s σ H E I hf st hg;subst hP hw hK;obtain⟨f0,f1,f2,f3,f4,f5⟩:=hf it (by simp);have W:=Walks.range (prog:=X.prog) (w:=X.w) (I.ok.hd hc) it lo 1 n;refine W.item i s _ _ hg st λv h' tk hv st' kk=>?_;obtain⟨t,rfl⟩:=hv;have I1:Inv X pins σ H {s with heap:=h',toks:=tk}:=I.turned (λb o hb e=>kk b o (by simpa using hb) e) f0 f1 f3 f4 f5;refine⟨_,rfl,Bz (s:={s with heap:=h',toks:=tk}) (n:="range_iterator") st' rfl rfl (by decide) ⟨.int (lo+i),H,I1,⟨t,?_⟩,⟨rfl,rfl⟩,st',λb hb=>(hf b hb).1⟩⟩;rw[Int.mul_one]
 done:=by
  intro X hP hw hK hc i pins s σ H E I hf st hg;subst hP hw hK;obtain⟨f0,f1,f2,f3,f4,f5⟩:=hf it (by simp);exact wpAny_pyNext_range_end (I.ok.hd hc) st (by have:n<=i:=hg;omega) λh' eb=>⟨rfl,I.turned (t':=s.toks) (λb o hb e=>eb b o hb e) f0 f1 f3 f4 f5⟩
 self:=λ_ _ _ _ _ st h=>wpAny_pyIter_rangeiter st h
section
variable{X:Cx}{tg:Expr}
inductive IE(K:Ma)(R:(It->Hp->Prop))(x:V)(H1:Hp):Prop
 |mk:∀a,x = .ref a->(∃xs,SqL K H1 a xs)->R (Itl K a) H1->IE K R x H1
def Kr(K:Ma)(b:TE):TI:=λe H R=>b e H (IE K R)
inductive Kn(K:Ma)(R:(It->Hp->Prop))(x:V)(H1:Hp):Prop
 |mk:∀a,x = .ref a->(∃xs,SqT K H1 a xs)->R (Itt K a) H1->Kn K R x H1
def iTup(K:Ma)(b:TE):TI:=λe H R=>b e H (Kn K R)
theorem Jb{l:Expr}{r:TE}(t:PE X l r):PI X tg l (Kr X.K r):=by
 intro f s u H R I h;refine thn (t f s u H _ I h) λv g n=>?_;obtain⟨x,y,m,z,B⟩:=n;obtain⟨a,e,⟨J,D⟩,q⟩:=B;subst e;cases z;obtain⟨E,L,p,N⟩:=m.list D;refine wpAny_pyIter_list p.isList ?_;refine⟨g.heap.objs.size,[g.heap.objs.size],_,_,y,rfl,m.kept (t':=g.toks) λb o e=>get?_push_of_some _ e,w6 a _,⟨_,get?_push_size _ rfl,rfl,rfl⟩,λb G=>?_,q⟩;have e:b=g.heap.objs.size:=by simpa using G
 subst e;exact m.fpOk (le_refl _) (m.hok.fresh (le_refl _))
theorem Lb{l:Expr}{t:TE}(u:PE X l t):PI X tg l (iTup X.K t):=by
 intro f s y H R I h;refine thn (u f s y H _ I h) λv g n=>?_;obtain⟨x,z,m,B,D⟩:=n;obtain⟨a,e,⟨J,E⟩,q⟩:=D;subst e;cases B;obtain⟨r,L,p,N⟩:=m.tuple E;refine wpAny_pyIter_tuple (show g.heap.IsTuple a r.toArray from p) ?_;refine⟨g.heap.objs.size,[g.heap.objs.size],_,_,z,rfl,m.kept (t':=g.toks) λb o e=>get?_push_of_some _ e,tV a _,⟨_,get?_push_size _ rfl,rfl,rfl⟩,λb G=>?_,q⟩;have e:b=g.heap.objs.size:=by simpa using G
 subst e;exact m.fpOk (le_refl _) (m.hok.fresh (le_refl _))
theorem G5{m:Mb}{x : St}{H:Hp}{s:Shared}{R:It->Hp->Prop}{E:Mm}{lo g:Int}{t u v:Tok}{y:Nat}(I:Inv X m x H s)(B:-(2 ^ 62)<=lo)(D:lo<2 ^ 62)(G:-(2 ^ 62)<=g)(J:g<2 ^ 62)
  (q:R (Itr lo (g-lo).toNat) H):wpAny (model X.prog X.w) X.A (pyIter (.ref s.heap.objs.size)) (PIE X m x tg R) E {s with heap:=s.heap.push {cls:=.type "range",data:=.fields #[.int lo t,.int g u,.int 1 v] },toks:=y}:=by
 refine wpAny_pyIter_range (IsRange.new ..) (small_one B D G J) ?_;have z:Inv X m x H {s with heap:=s.heap.push {cls:=.type "range",data:=.fields #[.int lo t,.int g u,.int 1 v] },toks:=y}:=I.kept λb o e=>get?_push_of_some _ e;refine⟨(s.heap.push {cls:=.type "range",data:=.fields #[.int lo t,.int g u,.int 1 v] }).objs.size,[(s.heap.push {cls:=.type "range",data:=.fields #[.int lo t,.int g u,.int 1 v] }).objs.size],_,_,H,rfl,
  z.kept (t':=y) λb o e=>get?_push_of_some _ e,Ca _ lo (g-lo).toNat,?_,λb L=>?_,q⟩
 ·have N:lo+((0:Nat):Int)*1=lo:=by simp
  have O:(((g-lo).toNat:Nat):Int)-((0:Nat):Int)=Builtin.Range.rangeSize lo g 1:=by rw[rangeSize_one];split <;> omega
  show IsRangeIter _ _ (lo+((0:Nat):Int)*1) ((((g-lo).toNat:Nat):Int)-((0:Nat):Int)) 1;rw[N,O];exact get?_push_size _ rfl
 ·have e:b=(s.heap.push {cls:=.type "range",data:=.fields #[.int lo t,.int g u,.int 1 v] }).objs.size:=by simpa using L
  subst e;exact z.fpOk (le_refl _) (z.hok.fresh (le_refl _))
inductive ID(R:(It->Hp->Prop))(vs:Mp)(H1:Hp):Prop
 |mk:∀j:Int,vs=[.int j]->-(2 ^ 62)<=j->j<2 ^ 62->R (Itr 0 j.toNat) H1->ID R vs H1
def iRng1(b:TA):TI:=λe H R=>b e H (ID R)
theorem qY{a:Expr}{n:TA}{p b:Pos}(o:Gl X "range")(u:X.mg "range" = none)(x:PA X [a] n)(y:starEach [a] X.env=[(false,eval a X.env)]:=by rfl):PI X tg (.Call (.Name "range" p) [a] [] b) (iRng1 n):=by
 intro f s z H R I h;refine Call_ (lI I o u boot_range (PyProof.Rows.callWith_type1 (thn (x b f s z H _ I h) λJ L g=>?_) y rfl));obtain⟨N,O,B,D,m⟩:=g;obtain⟨j,e,m,E,q⟩:=m;subst e;cases D with
 |cons r G=>
  cases G;obtain⟨t,rfl⟩:=r;exact call_range_1 (G5 B (by omega) (by omega) m E (by simpa using q))
def LB(g:TG)(p:TS)(D:Ends)(b : St):It->Hp->Prop:=λJ q=>∃W:Nat->Nat->St->Hp->Prop,(∃m,W 0 m b q)/\∀i m b H,W i m b H->
 (J.stop i H/\D.nx b H)\/(J.go i H/\∃N:St->Hp->Prop,(∀e f,N e f->∃o,o<m/\W (i+1) o e f)/\∀x f,J.yld i H x f->g x b f λn H2=>p (D.loop (N)) n H2)
def LC(e:TI)(g:TG)(f:TS):TS:=λD b H=>e b H (LB g f D b)
def vC(e:List Addr)(h:Heap):Mb:=e.filterMap λb=>(h.get? b).map λo=>(b,o)
theorem lH(f:b∈g)(e:h.get? b=some o):(b,o)∈vC g h:=List.mem_filterMap.mpr ⟨b,f,by rw[e];rfl⟩
theorem FY(f:p∈vC g h):p.1∈g/\h.get? p.1=some p.2:=by
 obtain⟨b,m,e⟩:=List.mem_filterMap.mp f;cases q:h.get? b with
 |none=>rw[q]at e;cases e
 |some o=>
  rw[q]at e;have n:(b,o)=p:=Option.some.inj e;subst n;exact⟨m,q⟩
theorem Inv.pinned(I:Inv X f q H s)(r:∀b∈g,rO X f H b)(t:∀b∈g,∃o,s.heap.get? b=some o/\∀v,o.data ≠ .cell v):Inv X (f++vC g s.heap) q H s:=
 I.pins_of λp u=>(mem_append.mp u).elim (λz=>I.pin p (mem_append_right _ z)) λz=>by
  obtain⟨m,e⟩:=FY z;obtain⟨x,y,B,_⟩:=r p.1 m;obtain⟨o,n,d⟩:=t p.1 m;rw[e]at n;cases n;exact⟨e,x,y,B,d⟩
theorem Inv.unpinned(I:Inv X (b++g) e H s):Inv X b e H s:=I.pins_of λp f=>I.pin p (mem_append_right _ (mem_append_left _ f))
theorem fQ{iter:Expr}{Q:List Stmt}{wi:TI}{g:TG}{tb:TS}{ac:Pos}(V:PassesOwn (model X.prog X.w) X.A X.env X.xe)(hc:X.calm=true)(hi:PI X tg iter wi)(hg:PG X tg g)(y:PSs X Q tb)
  (hs:∀x,foldedSetIterable iter X.env x=pure x:=by intro _;rfl):PS X (.For tg iter Q [] ac) (LC wi g tb):=by
 intro p s σ H D I h;refine wpAny_For (thn (hi p s σ H _ I h) λv s1 h1=>thn h1 λal s2 h2=>?_) hs;obtain⟨it,Y,tn,J,H2,e,I2,T,ad,f2,W,⟨m0,w0⟩,turn⟩:=h2;subst e
 -- aj ae true of af R Z through af ak
 have z:∀{O:Hp},(∀b∈Y,O b=none)->∀b∈Y,rO X p O b:=λhn b y=>⟨hn b y,(f2 b y).2⟩;refine codeAny_forLoop_any (λn s'=>∃i B O,Inv X p B O s'/\tn i s'.heap/\(∀b∈Y,O b=none)/\W i n B O) ?_ m0 ⟨0,σ,H2,I2,ad,λb y=>(f2 b y).1,w0⟩;rintro n s3 ⟨i,E,H3,I3,aa,ab,w3⟩;rcases turn i n E H3 w3 with ⟨stop,qn⟩ | ⟨go,N,hN,step⟩
 ·refine wpAny_passesOwn V (thn (T.done X rfl rfl rfl hc i p s3 E H3 X.xe I3 (z ab) aa stop) λr s4 t=>?_);obtain⟨hr,I4⟩:=t;subst hr;exact wpAny_execs_nil ⟨E,H3,I4,qn⟩
 ·refine wpAny_passesOwn V (thn (T.item X rfl rfl rfl hc i p s3 E H3 X.xe I3 (z ab) aa go) λr s4 t=>?_);obtain⟨u,hr,h4⟩:=t;subst hr;refine wpAny_passesOwn V (thn h4 λ_ s5 t=>?_);obtain⟨x,H5,I5,r5,y5,U,ag⟩:=t;have ah:=I5.pinned (z ag) (T.obj _ _ U);refine wpAny_passesOwn V (thn (hg _ s5 E H5 x u _ ah r5 (step x H5 y5)) λ_ s6 t=>?_);obtain⟨ai,H6,I6,q6⟩:=t;refine wpAny_passesOwn V (thn (y _ s6 ai H6 _ I6 q6) λf s7 S=>?_);have again:∀{q:St}{G:Hp},Inv X (p++vC Y s5.heap) q G s7->N q G->∃m,m<n/\∃i B O,Inv X p B O s7/\tn i s7.heap/\(∀b∈Y,O b=none)/\W i m B O:=λ{q G} L n7=>by
   obtain⟨m',hm,w7⟩:=hN q G n7;refine⟨m',hm,i+1,q,G,L.unpinned,T.keep _ _ _ U λb y o e=>(L.pin (b,o) (mem_append_right _ (mem_append_right _ (lH y e)))).1,λb y=>?_,w7⟩;obtain⟨o,e,d⟩:=T.obj _ _ U b y;exact(L.pin (b,o) (mem_append_right _ (mem_append_right _ (lH y e)))).2.1
  cases f with
  |next=>obtain⟨q,G,L,n7⟩:=S;exact again L n7
  |cont=>obtain⟨q,G,L,n7⟩:=S;exact again L n7
  |brk=>obtain⟨q,G,L,S⟩:=S;exact⟨q,G,L.unpinned,S⟩
  |ret v=>obtain⟨x7,q,G,L,r7,S⟩:=S;exact⟨x7,q,G,L.unpinned,r7,S⟩
end
abbrev R2:=V->V->Hp->VK->Prop
def OpR(X:Cx)(f:Value->Value->Sem Value)(r:R2):Prop:=
 ∀b s e H(x y:V)(v u:Value)(Q:VK),Inv X b e H s->cD x v->cD y u->r x y H Q->
  wpAny (model X.prog X.w) X.A (f v u) (EP X b e Q) X.xe s
def UnR(X:Cx)(f:Value->Sem Value)(r:V->Hp->VK->Prop):Prop:=
 ∀b s e H(x:V)(v:Value)(Q:VK),Inv X b e H s->cD x v->r x H Q->
  wpAny (model X.prog X.w) X.A (f v) (EP X b e Q) X.xe s
def gP(X:Cx)(f:Value)(r:Mp->Hp->VK->Prop):Prop:=
 ∀b s e H(g:Mp)(m:Mh)(Q:VK),Inv X b e H s->cE g m->r g H Q->
  wpAny (model X.prog X.w) X.A (call f m) (EP X b e Q) X.xe s
def TruR(X:Cx)(r:V->Hp->(Bool->Hp->Prop)->Prop):Prop:=
 ∀b s e H(x:V)(v:Value)(Q:Bool->Hp->Prop),Inv X b e H s->cD x v->r x H Q->
  wpAny (model X.prog X.w) X.A (truthy v) (TP X b e Q) X.xe s
abbrev tOp_2(r:R2)(Q:VK)(x:V):V->Hp->Prop:=λy H2=>r x y H2 Q
abbrev tOp_1(r:R2)(b:TE)(e : St)(Q:VK):V->Hp->Prop:=λx f=>b e f (tOp_2 r Q x)
def tOp(r:R2)(e f:TE):TE:=λb H Q=>e b H (tOp_1 r f b Q)
abbrev tUn_1(r:V->Hp->VK->Prop)(Q:VK):V->Hp->Prop:=λx b=>r x b Q
def tUn(r:V->Hp->VK->Prop)(b:TE):TE:=λe H Q=>b e H (tUn_1 r Q)
inductive rI(C:Int->Int->Prop)(g:Int->Int->V)(x:V)(y:V)(H:Hp)(Q:VK):Prop
 |mk:∀i j,x = .int i->y = .int j->C i j->Q (g i j) H->rI C g x y H Q
inductive rI0(g:Int->Int->V)(x:V)(y:V)(H:Hp)(Q:VK):Prop
 |mk:∀i j,x = .int i->y = .int j->Q (g i j) H->rI0 g x y H Q
inductive rU(g:Int->V)(x:V)(H:Hp)(Q:VK):Prop
 |mk:∀i,x = .int i->Q (g i) H->rU g x H Q
section
variable{X:Cx}{a b c:Expr}{ta tb tc:TE}{pos:Pos}
theorem MS(q:PE X a ta)(r:PE X b tb){e:Mb}{s:Shared}{m : St}{H:Hp}{R:V->V->Hp->Prop}(I:Inv X e m H s)
  (h:ta m H λx p=>tb m p λy H2=>R x y H2) {Q:Mm} {f:Value->Value->Sem Value}
  (t:∀v u s2 x y H2,Inv X e m H2 s2->cD x v->cD y u->R x y H2->wpAny (model X.prog X.w) X.A (f v u) Q X.xe s2) :
  wpAny (model X.prog X.w) X.A (eval a X.env) (λv n=>wpAny (model X.prog X.w) X.A (eval b X.env) (λu o=>wpAny (model X.prog X.w) X.A (f v u) Q X.xe o) X.xe n) X.xe s:=by
 refine thn (q e s m H _ I h) λv z g=>?_;obtain⟨x,p,B,D,E⟩:=g;refine thn (r e z m p _ B E) λu s2 g=>?_;obtain⟨y,H2,G,J,L⟩:=g;exact t v u s2 x y H2 G D J L
theorem bD{f:Operator}{r:R2}(g:OpR X (binaryOp f) r)(m:PE X a ta)(n:PE X b tb):PE X (.BinOp a f b pos) (tOp r ta tb):=by
 intro e s o H Q I h;exact wpAny_BinOp (MS m n I h λv u s2 x y H2 p t z q=>g e s2 o H2 x y v u Q p t z q)
theorem yE(g:UnR X (unaryOp m) r)(n:PE X a ta):PE X (.UnaryOp m a pos) (tUn r ta):=by
 intro e s f H Q I h;exact UnaryOp_ (thn (n e s f H _ I h) λv o ⟨x,p,q,t,u⟩=>g e o f p x v Q q t u)
theorem opI{f:Value->Value->Sem Value}{C:Int->Int->Prop}{g:Int->Int->Int}
  (rule:∀(i j:Int)(t u:Tok)(s:Shared)(Q:Mm)(E:Mm),C i j->Q (.int (g i j) s.toks) {s with toks:=s.toks+1}->wpAny (model X.prog X.w) X.A (f (.int i t) (.int j u)) Q E s) :
  OpR X f (rI C λi j=>.int (g i j)):=by
 intro m s z H x y v u Q I n o h;obtain⟨i,j,rfl,rfl,p,q⟩:=h;obtain⟨t,rfl⟩:=n;obtain⟨r,rfl⟩:=o;exact rule i j t r s _ _ p ⟨.int (g i j),H,I.tok _,⟨_,rfl⟩,q⟩
theorem opI0{f:Value->Value->Sem Value}{g:Int->Int->Int}
  (rule:∀(i j:Int)(t u:Tok)(s:Shared)(Q:Mm)(E:Mm),Q (.int (g i j) s.toks) {s with toks:=s.toks+1}->wpAny (model X.prog X.w) X.A (f (.int i t) (.int j u)) Q E s) :
  OpR X f (rI0 λi j=>.int (g i j)):=by
 intro m s r H x y v u Q I n o h;obtain⟨i,j,rfl,rfl,q⟩:=h;obtain⟨t,rfl⟩:=n;obtain⟨p,rfl⟩:=o;exact rule i j t p s _ _ ⟨.int (g i j),H,I.tok _,⟨_,rfl⟩,q⟩
theorem Jn{f:Value->Value->Sem Value}{g:Int->Int->Bool}
  (rule:∀(i j:Int)(t u:Tok)(s:Shared)(Q:Mm)(E:Mm),Q (.bool (g i j)) s->wpAny (model X.prog X.w) X.A (f (.int i t) (.int j u)) Q E s) :
  OpR X f (rI0 λi j=>.bl (g i j)):=by
 intro e s p H x y v u Q I m n h;obtain⟨i,j,rfl,rfl,q⟩:=h;obtain⟨t,rfl⟩:=m;obtain⟨o,rfl⟩:=n;exact rule i j t o s _ _ ⟨.bl (g i j),H,I,rfl,q⟩
def CDiv(i j:Int):Prop:=0<j/\j<1073741824
def CPow(i j:Int):Prop:=0<=j/\j<=1000000/\i.natAbs<2 ^ 64
def MX(i j:Int):Prop:=(-(2 ^ 64)<i/\i<2 ^ 64)\/(-(2 ^ 64)<j/\j<2 ^ 64)
theorem MX.ok(h:MX i j):IntMulOk i j:=by
 rcases h with ⟨e,f⟩ | ⟨e,f⟩
 ·exact .of_left (intBits_le_64 e f)
 ·exact .of_right (intBits_le_64 e f)
theorem cW:OpR X (binaryOp .Add) (rI0 λi j=>.int (i+j)):=opI0 λ_ _ _ _ _ _ _ q=>add_int q
theorem lG:OpR X (binaryOp .Sub) (rI0 λi j=>.int (i-j)):=opI0 λ_ _ _ _ _ _ _ q=>sub_int q
theorem rA:OpR X (binaryOp .Mult) (rI MX λi j=>.int (i*j)):=opI λ_ _ _ _ _ _ _ e q=>mul_int q e.ok
theorem m7:OpR X (binaryOp .FloorDiv) (rI CDiv λi j=>.int (i / j)):=opI λi j _ _ _ _ _ e q=>by
 have f:(0:Int)<j:=e.1;have g:j<1073741824:=e.2;exact floordiv_int (by omega) (by rw[Int.fdiv_eq_ediv_of_nonneg i (by omega)];exact q) (.inl (PyProof.noPylong_small (by omega)))
theorem dW:OpR X (binaryOp .Mod) (rI (λ_ j=>0<j) λi j=>.int (i % j)):=opI λi j _ _ _ _ _ e q=>by
 have f:(0:Int)<j:=e;exact mod_int' (by omega) (by rw[Int.fmod_eq_emod_of_nonneg i (by omega)];exact q)
theorem HP:OpR X (binaryOp .Pow) (rI CPow λi j=>.int (i ^ j.toNat)):=opI λ_ _ _ _ _ _ _ e q=>pow_int_small e.1 e.2.1 e.2.2 q
theorem unI{f:Value->Sem Value}{g:Int->Int}
  (rule:∀(i:Int)(t:Tok)(s:Shared)(Q:Mm)(E:Mm),Q (.int (g i) s.toks) {s with toks:=s.toks+1}->wpAny (model X.prog X.w) X.A (f (.int i t)) Q E s) :
  UnR X f (rU λi=>.int (g i)):=by
 intro m s o H x v Q I n h;obtain⟨i,rfl,q⟩:=h;obtain⟨t,rfl⟩:=n;exact rule i t s _ _ ⟨.int (g i),H,I.tok _,⟨_,rfl⟩,q⟩
theorem qI:UnR X (unaryOp .USub) (rU λi=>.int (-i)):=unI λ_ _ _ _ _ q=>neg_int q
end
def scal:V->V->Bool
 | .non,.non=>true | .non,.int _=>true | .int _,.non=>true | .non,.bl _=>true | .bl _,.non=>true | .non,.str _=>true | .str _,.non=>true
 | .int _,.int _=>true | .bl _,.bl _=>true | .str _,.str _=>true | .byt _,.byt _=>true
 | .int _,.str _=>true | .str _,.int _=>true | .bl _,.str _=>true | .str _,.bl _=>true
 |_,_=>false
def rEq:R2:=λx y H Q=>scal x y=true/\Q (.bl (decide (x=y))) H
def rNe:R2:=λx y H Q=>scal x y=true/\Q (.bl (!decide (x=y))) H
theorem Ei:decide (V.int i=V.int j)=(i == j):=by
 rw[Bool.eq_iff_iff];simp
theorem IZ:decide (V.bl i=V.bl j)=(i == j):=by
 rw[Bool.eq_iff_iff];simp
theorem Eh:decide (V.str i=V.str j)=(i == j):=by
 rw[Bool.eq_iff_iff];simp
theorem Ej:decide (V.byt i=V.byt j)=(i.toList == j.toList):=by
 rw[Bool.eq_iff_iff];cases i;cases j;simp
section
variable{X:Cx}{a b c:Expr}{ta tb tc:TE}{pos:Pos}
theorem cF(I:Inv X f g H s)(q:Q (.bl k) H)(e:k=m):EP X f g Q (.bool m) s:=by
 subst e;exact⟨.bl k,H,I,rfl,q⟩
theorem fY:OpR X (compareOp .Eq) rEq:=by
 intro n s o H x y v u Q I m e h;obtain⟨g,q⟩:=h;cases x with
 |non=>
  cases m;cases y with
  |non=>cases e;exact PySem.EqNone.eq_none_none (cF I q (by simp))
  |bl j=>cases e;exact PySem.EqNone.eq_none_bool (cF I q (by simp))
  |int j=>obtain⟨f,rfl⟩:=e;exact PySem.EqNone.eq_none_int (cF I q (by simp))
  |str j=>obtain⟨f,rfl⟩:=e;exact PySem.EqNone.eq_none_str (cF I q (by simp))
  |_=>exact absurd (show false=true from g) Bool.false_ne_true
 |bl i=>
  cases m;cases y with
  |non=>cases e;exact PySem.EqNone.eq_bool_none (cF I q (by simp))
  |bl j=>cases e;exact eq_bool (cF I q IZ)
  |str j=>obtain⟨f,rfl⟩:=e;exact PySem.EqMixed.eq_bool_str (cF I q (by simp))
  |_=>exact absurd (show false=true from g) Bool.false_ne_true
 |int i=>
  obtain⟨t,rfl⟩:=m;cases y with
  |non=>cases e;exact PySem.EqNone.eq_int_none (cF I q (by simp))
  |int j=>obtain⟨f,rfl⟩:=e;exact eq_int (cF I q Ei)
  |str j=>obtain⟨f,rfl⟩:=e;exact PySem.EqMixed.eq_int_str (cF I q (by simp))
  |_=>exact absurd (show false=true from g) Bool.false_ne_true
 |str i=>
  obtain⟨t,rfl⟩:=m;cases y with
  |non=>cases e;exact PySem.EqNone.eq_str_none (cF I q (by simp))
  |bl j=>cases e;exact PySem.EqMixed.eq_str_bool (cF I q (by simp))
  |int j=>obtain⟨f,rfl⟩:=e;exact PySem.EqMixed.eq_str_int (cF I q (by simp))
  |str j=>obtain⟨f,rfl⟩:=e;exact eq_str (cF I q Eh)
  |_=>exact absurd (show false=true from g) Bool.false_ne_true
 |byt i=>
  obtain⟨t,rfl⟩:=m;cases y with
  |byt j=>obtain⟨f,rfl⟩:=e;exact PySem.W.eq_bytes (cF I q Ej)
  |_=>exact absurd (show false=true from g) Bool.false_ne_true
 |_=>cases y <;> exact absurd (show false=true from g) Bool.false_ne_true
theorem yH:OpR X (compareOp .NotEq) rNe:=by
 intro n s o H x y v u Q I m e h;obtain⟨g,q⟩:=h;cases x with
 |non=>
  cases m;cases y with
  |non=>cases e;exact PySem.EqNone.ne_none_none (cF I q (by simp))
  |bl j=>cases e;exact PySem.EqNone.ne_none_bool (cF I q (by simp))
  |int j=>obtain⟨f,rfl⟩:=e;exact PySem.EqNone.ne_none_int (cF I q (by simp))
  |str j=>obtain⟨f,rfl⟩:=e;exact PySem.EqNone.ne_none_str (cF I q (by simp))
  |_=>exact absurd (show false=true from g) Bool.false_ne_true
 |bl i=>
  cases m;cases y with
  |non=>cases e;exact PySem.EqNone.ne_bool_none (cF I q (by simp))
  |bl j=>cases e;exact ne_bool (cF I q (congrArg not IZ))
  |str j=>obtain⟨f,rfl⟩:=e;exact PySem.EqMixed.ne_bool_str (cF I q (by simp))
  |_=>exact absurd (show false=true from g) Bool.false_ne_true
 |int i=>
  obtain⟨t,rfl⟩:=m;cases y with
  |non=>cases e;exact PySem.EqNone.ne_int_none (cF I q (by simp))
  |int j=>obtain⟨f,rfl⟩:=e;exact ne_int (cF I q (congrArg not Ei))
  |str j=>obtain⟨f,rfl⟩:=e;exact PySem.EqMixed.ne_int_str (cF I q (by simp))
  |_=>exact absurd (show false=true from g) Bool.false_ne_true
 |str i=>
  obtain⟨t,rfl⟩:=m;cases y with
  |non=>cases e;exact PySem.EqNone.ne_str_none (cF I q (by simp))
  |bl j=>cases e;exact PySem.EqMixed.ne_str_bool (cF I q (by simp))
  |int j=>obtain⟨f,rfl⟩:=e;exact PySem.EqMixed.ne_str_int (cF I q (by simp))
  |str j=>obtain⟨f,rfl⟩:=e;exact ne_str (cF I q (congrArg not Eh))
  |_=>exact absurd (show false=true from g) Bool.false_ne_true
 |byt i=>
  obtain⟨t,rfl⟩:=m;cases y with
  |byt j=>obtain⟨f,rfl⟩:=e;exact PySem.W.ne_bytes (cF I q (congrArg not Ej))
  |_=>exact absurd (show false=true from g) Bool.false_ne_true
 |_=>cases y <;> exact absurd (show false=true from g) Bool.false_ne_true
theorem vI:OpR X (compareOp .Lt) (rI0 λi j=>.bl (decide (i<j))):=Jn λ_ _ _ _ _ _ _ q=>lt_int q
theorem kD:OpR X (compareOp .LtE) (rI0 λi j=>.bl (decide (i<=j))):=Jn λ_ _ _ _ _ _ _ q=>le_int q
theorem pF:OpR X (compareOp .Gt) (rI0 λi j=>.bl (decide (j<i))):=Jn λ_ _ _ _ _ _ _ q=>gt_int q
theorem HS:OpR X (compareOp .GtE) (rI0 λi j=>.bl (decide (j<=i))):=Jn λ_ _ _ _ _ _ _ q=>ge_int q
theorem FF:OpR X (compareOp .In) (λx y H Q=>∃i j,x = .str i/\y = .str j/\Q (.bl (!(Builtin.Str.occurrences j i 0 j.length 1).isEmpty)) H):=by
 intro e s m H x y v u Q I f g h;obtain⟨i,j,rfl,rfl,q⟩:=h;obtain⟨t,rfl⟩:=f;obtain⟨n,rfl⟩:=g;exact in_str (cF I q rfl)
theorem HQ:OpR X (compareOp .Is) (λx y H Q=>y = .non/\Q (.bl (decide (x = .non))) H):=by
 intro e s m H x y v u Q I f g h;obtain⟨rfl,q⟩:=h;cases g;refine is_none_gen (cF I q ?_);cases x <;> first
  | (cases f;rfl)
  | (obtain⟨t,rfl⟩:=f;rfl)
theorem AG:OpR X (compareOp .IsNot) (λx y H Q=>y = .non/\Q (.bl (!decide (x = .non))) H):=by
 intro e s m H x y v u Q I f g h;obtain⟨rfl,q⟩:=h;cases g;refine isnot_none_gen (cF I q ?_);cases x <;> first
  | (cases f;rfl)
  | (obtain⟨t,rfl⟩:=f;rfl)
theorem bJ(b:Expr)(h:e ≠ .In:=by decide)(f:e ≠ .NotIn:=by decide):behindInMarks e b=false:=by
 have g:(e == CmpOp.In)=false:=by cases e <;> first |rfl |exact absurd rfl h
 have m:(e == CmpOp.NotIn)=false:=by cases e <;> first |rfl |exact absurd rfl f
 cases b <;> simp [behindInMarks,g,m]
theorem hJ(g:OpR X (compareOp f) r)(m:PE X a ta)(n:PE X b tb)(o:behindInMarks f b=false):PE X (.Compare a [f] [b] pos) (tOp r ta tb):=by
 intro e s p H Q I h;exact wpAny_Compare1 (MS m n I h λv u s2 x y H2 t z B q=>g e s2 p H2 x y v u Q t z B q) o
inductive GQ(Q:(Bool->Hp->Prop))(x:V)(H':Hp):Prop
 |mk:∀k,x = .bl k->Q k H'->GQ Q x H'
def De(t:TE):TT:=λe H Q=>t e H (GQ Q)
theorem aW{g:CmpOp}{r:R2}(n:OpR X (compareOp g) r)(o:PE X a ta)(p:PE X b tb)(q:behindInMarks g b=false):PT X (.Compare a [g] [b] pos) (De (tOp r ta tb)):=by
 intro f s m H Q I h;refine wpAny_isTrue_Compare1 (thn (o f s m H _ I h) λv t ⟨x,B,D,E,G⟩=>thn (p f t m B _ D G) λu s2 ⟨y,H2,J,L,N⟩=>
  thn (n f s2 m H2 x y v u _ J E L N) λc V ⟨z,O,R,S,k,e,U⟩=>?_) q
 subst e;cases S;exact wpAny_truthy_bool ⟨O,R,U⟩
inductive Ax(r':R2)(tc:TE)(σ : St)(Q:VK)(y:V)(z:V)(H3:Hp):Prop
 |mk:∀k,z = .bl k->(if k=true then tc σ H3 λw' H4=>r' y w' H4 Q else Q (.bl false) H3)->Ax r' tc σ Q y z H3
abbrev GX(r:R2)(e:R2)(tc:TE)(f : St)(Q:VK)(x:V):V->Hp->Prop:=λy H2=>r x y H2 (Ax e tc f Q y)
abbrev GY(r:R2)(f:R2)(tb:TE)(tc:TE)(e : St)(Q:VK):V->Hp->Prop:=λx g=>tb e g (GX r f tc e Q x)
def GZ(r f:R2)(ta tb tc:TE):TE:=λe H Q=>ta e H (GY r f tb tc e Q)
theorem vF(D:OpR X (compareOp o) r)(n:OpR X (compareOp g) E)(G:PE X a ta)(J:PE X b tb)(L:PE X c tc)
  (N:lastMarks [o,g] [b,c]=false:=by with_unfolding_all rfl):PE X (.Compare a [o,g] [b,c] pos) (GZ r E ta tb tc):=by
 intro f s m H Q I h;refine Compare_chain (thn (G f s m H _ I h) λv O ⟨x,R,S,U,V⟩=>chain_link (thn (J f O m R _ S V) λu s2 ⟨y,H2,W,p,Y⟩=>
  thn (D f s2 m H2 x y v u _ W U p Y) λd Z ⟨z,q,t,r3,k,e,B⟩=>?_)) N
 subst e;cases r3;refine wpAny_truthy_bool ?_;cases k with
 |false=>exact ite_ff ⟨.bl false,q,t,rfl,B⟩
 |true=>exact ite_tt (chain_last (thn (L f Z m q _ t B) λw' s4 ⟨z',H4,I4,r4,q4⟩=>n f s4 m H4 y z' u w' Q I4 p r4 q4))
theorem BU(E:OpR X (compareOp p) r)(n:OpR X (compareOp g) G)(J:PE X a ta)(L:PE X b tb)(N:PE X c tc)
  (O:lastMarks [p,g] [b,c]=false:=by with_unfolding_all rfl):PT X (.Compare a [p,g] [b,c] pos) (De (GZ r G ta tb tc)):=by
 intro f s m H Q I h;refine isTrue_chain (thn (J f s m H _ I h) λv R ⟨x,S,U,V,W⟩=>test_link (thn (L f R m S _ U W) λu s2 ⟨y,H2,Y,q,Z⟩=>
  thn (E f s2 m H2 x y v u _ Y V q Z) λd s3 ⟨z,t,B,r3,k,e,D⟩=>?_)) O
 subst e;cases r3;refine wpAny_truthy_bool ?_;cases k with
 |false=>
  obtain⟨k',e',q'⟩:=D;cases e';exact ite_ff ⟨t,B,q'⟩
 |true=>
  refine ite_tt (test_last (thn (N f s3 m t _ B D) λw' s4 ⟨z',H4,I4,r4,q4⟩=>thn (n f s4 m H4 y z' u w' _ I4 q r4 q4) λd' s5 o=>?_));obtain⟨z2,H5,I5,r5,k2,e2,q5⟩:=o;subst e2;cases r5;exact wpAny_truthy_bool ⟨H5,I5,q5⟩
def TruV(K:Ma)(x:V)(H:Hp)(k:Bool):Prop:=
 match x with
 | .non=>k=false
 | .bl b=>k=b
 | .int i=>k=(i != 0)
 | .str y=>y.length<=sizeLine/\k=((y.length:Int) != 0)
 | .byt y=>y.size<=sizeLine/\k=((y.size:Int) != 0)
 | .ref p=>(∃e,SqL K H p e/\k = !e.isEmpty)\/(∃e,SqT K H p e/\k = !e.isEmpty)\/∃f,H p=some (.dK f)/\k = !f.isEmpty
 |_=>False
theorem DM{f : Type}{e:List (f×V)}{g:List (f×Value)}(r:KV e g):(!g.isEmpty) = !e.isEmpty:=by
 cases r <;> rfl
theorem vR(r:cE f e):(!e.toArray.isEmpty) = !f.isEmpty:=by
 cases r <;> simp
theorem vO:(sizeLine:Nat)<2 ^ 63:=by rw[sizeLine_eq];decide
theorem K0:TruR X (λx H Q=>∃k,TruV X.K x H k/\Q k H):=by
 intro G s N H x v Q I u h;obtain⟨k,e,q⟩:=h;have O:=vO;have R:sizeLine=16777216:=sizeLine_eq;cases x with
 |non=>
  cases u;have f:k=false:=e;subst f;exact truthy_none ⟨H,I,q⟩
 |bl b=>
  cases u;have f:k=b:=e;subst f;exact wpAny_truthy_bool ⟨H,I,q⟩
 |int i=>
  obtain⟨t,rfl⟩:=u;have f:k=(i != 0):=e;subst f;exact PySem.P.truthy_int ⟨H,I,q⟩
 |str y=>
  obtain⟨t,rfl⟩:=u;obtain⟨L,f⟩:y.length<=sizeLine/\k=((y.length:Int) != 0):=e;subst f;exact PySem.P.truthy_str (by omega) ⟨H,I.tok _,q⟩
 |byt y=>
  obtain⟨t,rfl⟩:=u;obtain⟨L,f⟩:y.size<=sizeLine/\k=((y.size:Int) != 0):=e;subst f;exact PySem.W.truthy_bytes (by omega) ⟨H,I.tok _,q⟩
 |ref p=>
  cases u;have f:(∃o,SqL X.K H p o/\k = !o.isEmpty)\/(∃o,SqT X.K H p o/\k = !o.isEmpty)\/∃g,H p=some (.dK g)/\k = !g.isEmpty:=e;rcases f with ⟨o,z,f⟩ | ⟨o,z,f⟩ | ⟨g,z,f⟩
  ·subst f;obtain⟨D,r,E,J⟩:=I.list z;have n:=r.length;exact wpAny_truthy_list E.isList (by simp only[size_toArray];omega) ⟨H,I.tok _,by rw[vR r];exact q⟩
  ·subst f;obtain⟨D,r,E,J⟩:=I.tuple z;have n:=r.length;exact truthy_tuple E (by simp only[size_toArray];omega) ⟨H,I.tok _,by rw[vR r];exact q⟩
  ·subst f;obtain⟨J,hS,B,r,m⟩:g.length<=sizeLine/\(p == sysModules)=false/\∃B,KV g B/\s.heap.DictOf (bI X.prog X.w) p B:=I.hok p _ z;have n:g.length=B.length:=Paired.length r;exact wpAny_truthy_dict hS m (by omega) ⟨H,I.tok _,by rw[DM r];exact q⟩
 |_=>exact(show False from e).elim
theorem wZ(r:cE [x] e):∃u,e=[u]/\cD x u:=by
 cases r with
 |cons f g=>cases g;exact⟨_,rfl,f⟩
theorem GH(r:cE [x,y] f):∃u e,f=[u,e]/\cD x u/\cD y e:=by
 cases r with
 |cons g m=>
  cases m with
  |cons n o=>cases o;exact⟨_,_,rfl,g,n⟩
theorem zE(g:X.calm=true):gP X (.builtin "max") (λe H Q=>∃i j,e=[.int i,.int j]/\Q (.int (if j > i then j else i)) H):=by
 intro f s m H e n Q I r h;obtain⟨i,j,rfl,q⟩:=h;obtain⟨u,o,rfl,⟨t,rfl⟩,⟨p,rfl⟩⟩:=GH r;refine max_two_ints (I.ok.hd g) λx y k=>⟨_,H,I.kept k,?_,q⟩;by_cases hj:j > i
 ·rw[if_pos hj,if_pos hj];exact⟨_,rfl⟩
 ·rw[if_neg hj,if_neg hj];exact⟨_,rfl⟩
theorem F9(g:X.calm=true):gP X (.builtin "min") (λe H Q=>∃i j,e=[.int i,.int j]/\Q (.int (if j<i then j else i)) H):=by
 intro f s m H e n Q I r h;obtain⟨i,j,rfl,q⟩:=h;obtain⟨u,o,rfl,⟨t,rfl⟩,⟨p,rfl⟩⟩:=GH r;refine min_two_ints (I.ok.hd g) λx y k=>⟨_,H,I.kept k,?_,q⟩;by_cases hj:j<i
 ·rw[if_pos hj,if_pos hj];exact⟨_,rfl⟩
 ·rw[if_neg hj,if_neg hj];exact⟨_,rfl⟩
theorem zF:gP X (.type "int") (λe H Q=>(∃i,e=[.int i]/\Q (.int i) H)\/∃k,e=[.bl k]/\Q (.int (if k then 1 else 0)) H):=by
 intro f s m H e n Q I r h;rcases h with ⟨i,rfl,q⟩ | ⟨k,rfl,q⟩
 ·obtain⟨u,rfl,t,rfl⟩:=wZ r;exact call_int_int ⟨.int i,H,I,⟨_,rfl⟩,q⟩
 ·obtain⟨u,rfl,g⟩:=wZ r;cases g;exact call_int_bool ⟨.int (if k then 1 else 0),H,I.tok _,⟨_,rfl⟩,q⟩
end
structure ObjM(h:Heap)(x dx C:Addr)(mA:Mc):Prop where
 obj:h.get? x=some (instObj C dx)
 ns:h.Ns1 dx mA
 ne:dx≠x
theorem Fi{h:Heap}{g:Addr}{m:Mc}(n:h.Ns1 g m):∃p,h.get? g=some p/\∀b,PySem.W.lookIn b p=some (m b):=by
 obtain⟨o,r,G,s,u,x,_,B⟩:=n;refine⟨o,s,λb=>?_⟩;have e:=B b;unfold nsFind findBy at e;rw[<- Array.find?_toList]at e;unfold PySem.W.lookIn;rw[u];dsimp only;split
 ·rename_i y q;rw[q]at e;exact congrArg some e
 ·rename_i q;rw[q]at e;have a:r.toList.any (·.refKey)=false:=by
   rw[List.any_eq_false];intro y D;obtain⟨z,t,f⟩:=x y (Array.mem_toList_iff.mp D);simp [DictEntry.refKey,f]
  have E:¬r.toList.any (·.refKey)=true:=by rw[a];exact Bool.false_ne_true
  rw[if_neg E];exact congrArg some e
theorem ObjM.look(I:ObjM h x f C g):∃e,PySem.W.InstAt h x (instObj C f) C (some e)/\∀b,PySem.W.lookIn b e=some (g b):=
 let ⟨e,m,n⟩:=Fi I.ns
 ⟨e,⟨I.obj,rfl,rfl,m⟩,n⟩
section
variable{prog:Program}{w:World}{A:Around}{E:Mm}{s:Shared}{K:Ma}{x dx C f:Addr}{mA:Mc}{name:Str}{v:Value}
theorem KC(X:K.In s.heap)(I:ObjM s.heap x dx C mA)(m:plainGet K C name=true)(n:hasDictIn K C=true)
  (o:findIn K (.ref C) name=some none) (p:mA name=some v) (b:PySem.W.handedIn v=true) (h:Q v {s with toks:=s.toks+1}) :
  wpAny (model prog w) A (getAttr (.ref x) name g) Q E s:=by
 obtain⟨r,J,q⟩:=I.look;exact PySem.W.get_value X J (plainGet_of m).1 (PySem.W.findObj_own n o rfl (by rw[q,p])) b h
theorem IJ(X:K.In s.heap)(I:ObjM s.heap x dx C mA)(b:plainGet K C name=true)
  (e:findIn K (.ref C) name=some (some (.ref f))) (g:PySem.W.isFn K (.ref f)=true) (m:mA name=none) (h:Q (.ref f,[.ref x]) s) :
  wpAny (model prog w) A (getMethod (.ref x) name p) Q E s:=by
 obtain⟨n,J,o⟩:=I.look;exact PySem.W.method_fn X J (plainGet_of b).1 (plainGet_of b).2 e (beq_iff_eq.mp g) (by show (PySem.W.lookIn name n).map (·.isSome)=some false;rw[o,m];rfl) h
theorem JO(X:K.In s.heap)(I:ObjM s.heap x dx C mA)
  (z:findIn K (.ref C) "__setattr__" = some (some (.builtin "object.__setattr__"))) (B:PySem.W.plainOver K C=true) (D:PySem.W.takerIn K C name=some none) (G:hasDictIn K C=true)
  (hw:PySem.Within mA H) (L:H.length<=sizeLine)
  (h:∀n,ObjM n x dx C (λy=>if y=name then some v else mA y)->Heap.SameBut dx s.heap n->Q () {s with heap:=n,toks:=s.toks+2}) :
  wpAny (model prog w) A (setAttr (.ref x) name v) Q E s:=by
 obtain⟨U,J,V⟩:=I.look;refine PySem.W.set_plain X J z (PySem.W.osa_open (s:={s with toks:=s.toks+1}) (r:=none) X J B D λb=>?_);obtain⟨W,N,o⟩:=PySem.W.any_some G;have O:s.heap.get? x=some ⟨.ref C,some dx,.plain,#[]⟩:=I.obj;refine wpAny_bind (wpAny_pure (wpAny_bind (wpAny_bind (wpAny_loadPart O (wpAny_bind (PySem.W.Looks.here (s:={s with toks:=s.toks+1}) (PySem.W.looks_clsIn X N) ?_))))));rw[o];refine wpAny_pure (a:=some dx) (wpAny_bind (wpAny_pure (wpAny_bind ?_)));refine wpAny_nsSet1 (s:={s with toks:=s.toks+1}) I.ns λn g m=>?_;obtain⟨Y,R,S,p,q,t⟩:=g.count (PySem.Within.cons name v hw);refine wpAny_bind (wpAny_lookBehind p (by rw[q];exact pastItsLine_dict (le_trans t (by rw[length_cons];omega))) ?_);exact wpAny_pure (h _ ⟨(m.2 _ (Ne.symm I.ne)).trans I.obj,g,I.ne⟩ m)
theorem Hs(X:K.In s.heap)(o:PySem.W.makesIn K C=true)
  (p:findIn K (.ref C) "__init__" = some (some (.ref f))) (q:PySem.W.typeIn K (.ref f)=some (.type "function"))
  (h:codeAny (model prog w) (A.under (.builtin "type.__call__" ⟨.ref C::e,m⟩)) (.call (.ref f) ⟨.ref (s.heap.objs.size+1)::e,m⟩) (PySem.W.InitBack (s.heap.objs.size+1) R)
   {s with heap:=(s.heap.push emptyDict).push (instObj C s.heap.objs.size)}) :
  codeAny (model prog w) A (.call (.ref C) ⟨e,m⟩) R s:=by
 obtain⟨r,g,d,t,os⟩:=s;exact PySem.W.make_core (PySem.W.makes_of X o) (PySem.W.looks_findIn X p) (λb=>PySem.W.bind_fn X b q) (.inl rfl) h
end
def hV(f:Str)(v:V):Mo->Mo
 |[]=>[(f,v)]
 | (g,x)::r=>if g=f then (g,v)::r else (g,x)::hV f v r
theorem sB(f g:Str)(v:V):∀n:Mo,(hV f v n).lookup g=if g=f then some v else n.lookup g
 |[]=>by
  show List.lookup g [(f,v)]=_;by_cases h:g=f
  ·have b:(g == f)=true:=beq_iff_eq.mpr h;simp only[List.lookup,b,if_pos h]
  ·have b:(g == f)=false:=beq_eq_false_iff_ne.mpr h;simp only[List.lookup,b,if_neg h]
 | (k,x)::r=>by
  have o:=sB f g v r;rw[show hV f v ((k,x)::r)=(if k=f then (k,v)::r else (k,x)::hV f v r) from rfl];by_cases m:k=f
  ·rw[if_pos m];by_cases h:g=k
   ·have b:(g == k)=true:=beq_iff_eq.mpr h;simp only[List.lookup,b,if_pos (h.trans m)]
   ·have b:(g == k)=false:=beq_eq_false_iff_ne.mpr h;simp only[List.lookup,b,if_neg (λe:g=f=>h (e.trans m.symm))]
  ·rw[if_neg m];by_cases h:g=k
   ·have b:(g == k)=true:=beq_iff_eq.mpr h;simp only[List.lookup,b,if_neg (λe:g=f=>m (h.symm.trans e))]
   ·have b:(g == k)=false:=beq_eq_false_iff_ne.mpr h;simp only[List.lookup,b];exact o
theorem rG(f:Str)(v:V):∀b:Mo,f∈(hV f v b).map (·.1)/\∀g,g∈b.map (·.1)->g∈(hV f v b).map (·.1)
 |[]=>⟨by simp [hV],λg h=>by simp at h⟩
 | (k,x)::r=>by
  obtain⟨n,o⟩:=rG f v r;rw[show hV f v ((k,x)::r)=(if k=f then (k,v)::r else (k,x)::hV f v r) from rfl];by_cases m:k=f
  ·rw[if_pos m];subst m;exact⟨by simp,λg h=>by simpa using h⟩
  ·rw[if_neg m];refine⟨?_,λg h=>?_⟩
   ·rw[map_cons];exact mem_cons_of_mem _ n
   ·rw[map_cons]at h⊢;rcases mem_cons.mp h with e |e
    ·exact mem_cons.mpr (.inl e)
    ·exact mem_cons_of_mem _ (o g e)
theorem sC(f:Str)(v:V):∀b:Mo,(hV f v b).length<=b.length+1
 |[]=>by simp [hV]
 | (k,x)::r=>by
  have g:=sC f v r;rw[show hV f v ((k,x)::r)=(if k=f then (k,v)::r else (k,x)::hV f v r) from rfl];by_cases e:k=f
  ·rw[if_pos e,length_cons,length_cons];omega
  ·rw[if_neg e,length_cons,length_cons];omega
theorem kO.some_of(r:kO (some v) o):∃u,o=some u/\cD v u:=by
 cases o with
 |none=>exact(show False from r).elim
 |some u=>exact⟨u,rfl,r⟩
theorem kO.none_of(r:kO none o):o=none:=by
 cases o with
 |none=>rfl
 |some u=>exact(show False from r).elim
theorem Fx(r:cD v u):PySem.W.handedIn u=true:=by
 cases v with
 |non=>cases (show u=Value.none from r);rfl
 |bl b=>cases (show u=Value.bool b from r);rfl
 |int i=>obtain⟨t,e⟩:=(show ∃t,u=Value.int i t from r);cases e;rfl
 |str x=>obtain⟨t,e⟩:=(show ∃t,u=Value.str x t from r);cases e;rfl
 |byt b=>obtain⟨t,e⟩:=(show ∃t,u=Value.bytes b t from r);cases e;rfl
 |flt b=>obtain⟨t,e⟩:=(show ∃t,u=Value.float b t from r);cases e;rfl
 |ref a=>cases (show u=Value.ref a from r);rfl
 |ty n=>cases (show u=Value.type n from r);rfl
section
variable{P:Program}{w:World}{H H':Hp}{h h':Heap}{a C dx:Addr}{fs fs':Mo}
theorem tI(g:HOk P w H h)(e:H a=some (.ins C dx fs)):∃b,ObjM h a dx C b/\(∀f,kO (fs.lookup f) (b f))/\PySem.Within b (fs.map (·.1))/\fs.length<=1000/\H dx=some (.own a):=by
 obtain⟨d,z,m,o,b,n,r,q⟩:=(show eG P w H h a (.ins C dx fs) from g a _ e);exact⟨b,⟨o,n,m⟩,r,q,z,d⟩
end
structure Cls(K:Ma)(C:Addr):Prop where
 pg:plainGet K C Str.empty=true
 hd:hasDictIn K C=true
 po:PySem.W.plainOver K C=true
 sa:findIn K (.ref C) "__setattr__" = some (some (.builtin "object.__setattr__"))
theorem Cls.get{K:Ma}{C:Addr}(c:Cls K C)(f:Str):plainGet K C f=true:=c.pg
def dG(K:Ma)(C:Addr)(f:Str):Prop:=findIn K (.ref C) f=some none
theorem dG.taker{K:Ma}{C:Addr}{f:Str}(n:dG K C f):PySem.W.takerIn K C f=some none:=by
 unfold PySem.W.takerIn;rw[show findIn K (.ref C) f=some none from n];rfl
structure Meth(K:Ma)(C:Addr)(m:Str)(f:Addr):Prop where
 at_:findIn K (.ref C) m=some (some (.ref f))
 fn:PySem.W.isFn K (.ref f)=true
 kp:keepIn K (.ref f)=true
section
variable{X:Cx}{pins:Mb}{σ : St}{H:Hp}{s:Shared}{a C dx:Addr}{fs:Mo}{f:Str}{v:V}{A:Around}{E:Mm}
theorem vU(I:Inv X pins σ H s)(e:H a=some (.ins C dx fs))(c:Cls X.K C)(n:dG X.K C f)(l:fs.lookup f=some v)
  (h:∀u g,Inv X pins σ H g->cD v u->Q u g):wpAny (model X.prog X.w) A (getAttr (.ref a) f b) Q E s:=by
 obtain⟨p,O,r,_,_,_⟩:=tI I.hok e;obtain⟨u,q,m⟩:=kO.some_of (v:=v) (o:=p f) (by rw[<- l];exact r f);exact KC I.kIn O (c.get f) c.hd n q (Fx m) (h u _ (I.tok _) m)
theorem vT(I:Inv X pins σ H s)(e:H a=some (.ins C dx fs))(c:Cls X.K C)(k:Meth X.K C m g)(l:fs.lookup m=none)
  (h:Q (.ref g,[.ref a]) s):wpAny (model X.prog X.w) A (getMethod (.ref a) m o) Q E s:=by
 obtain⟨b,O,r,_,_,_⟩:=tI I.hok e;have n:b m=none:=kO.none_of (by rw[<- l];exact r m);exact IJ I.kIn O (c.get m) k.at_ k.fn n h
theorem uS(I:Inv X pins σ H s)(e:H a=some (.ins C dx fs))(c:Cls X.K C)(n:dG X.K C f)(W:fs.length<1000)(G:cD y u)
  (h:∀p,Inv X pins σ (upd H a (.ins C dx (hV f y fs))) p->Q () p):wpAny (model X.prog X.w) A (setAttr (.ref a) f u) Q E s:=by
 obtain⟨t,O,r,B,_,D⟩:=tI I.hok e;have J:(fs.map (·.1)).length<=sizeLine:=by rw[length_map,sizeLine_eq];omega
 refine JO I.kIn O c.sa c.po n.taker c.hd B J λL m N=>h _ ?_;have R:∃o,L.get? dx=some o:=let ⟨o,_,_,S,_⟩:=m.ns;⟨o,S⟩;refine I.write (x:=a) (e:=dx) (by rw[e];exact True.intro) (.inr D) (λb q U z=>(N.2 b U).trans z) R ?_;refine⟨by rw[aH O.ne];exact D,?_,O.ne,m.obj,_,m.ns,λg=>?_,λg V=>?_⟩
 ·have:=sC f y fs;omega
 ·show kO ((hV f y fs).lookup g) (if g=f then some u else t g);rw[sB];by_cases q:g=f
  ·rw[if_pos q,if_pos q];exact G
  ·rw[if_neg q,if_neg q];exact r g
 ·by_cases q:g=f
  ·rw[q];exact(rG f y fs).1
  ·refine(rG f y fs).2 g (B g λz=>V ?_);show (if g=f then some u else t g)=none;rw[if_neg q];exact z
theorem Inv.made(I:Inv X pins σ H s):Inv X pins σ (upd (upd H s.heap.objs.size (.own (s.heap.objs.size+1))) (s.heap.objs.size+1) (.ins C s.heap.objs.size []))
  {s with heap:=(s.heap.push emptyDict).push (instObj C s.heap.objs.size)}:=by
 have m:(s.heap.push emptyDict).get? s.heap.objs.size=some emptyDict:=get?_push_size s.heap rfl;have p:((s.heap.push emptyDict).push (instObj C s.heap.objs.size)).get? (s.heap.objs.size+1)=some (instObj C s.heap.objs.size):=by
  have:=get?_push_size (s.heap.push emptyDict) (o:=instObj C s.heap.objs.size) rfl
  rwa [size_push]at this
 have r:(s.heap.push emptyDict).Ns s.heap.objs.size (λ_=>none):=⟨emptyDict,#[],_,m,rfl,(λe t=>absurd t (by simp)),λ_=>rfl⟩;have x:=I.laid (a:=s.heap.objs.size) (o:=.own (s.heap.objs.size+1)) (h':=s.heap.push emptyDict) (t':=s.toks) (λb u q=>get?_push_of_some _ q) (le_refl _) ⟨_,m⟩;refine x.laid (a:=s.heap.objs.size+1) (o:=.ins C s.heap.objs.size []) (t':=s.toks) (λb u q=>get?_push_of_some _ q) (Nat.le_of_eq (size_push _ _)) ?_;have n:s.heap.objs.size≠s.heap.objs.size+1:=ne_of_lt (lt_succ_self _);refine⟨by rw[aH n,aB],zero_le _,n,p,λ_=>none,(Heap.Ns1.of_empty r).at λo q=>get?_push_of_some _ q,λ_=>True.intro,λy B=>absurd rfl B⟩
theorem KO(n:attributeBase e f b (eval e b)=eval e b)
  (h:wpAny (model g w) A (eval e b) (λo m=>wpAny (model g w) A (getAttr o f true) Q E m) E s):wpAny (model g w) A (eval (.Attribute e f p) b) Q E s:=
 Attribute_any_ h (by rw[arm_eval_Attribute,n])
end
inductive KY(K:Ma)(f:Str)(Q:VK)(x:V)(H1:Hp):Prop
 |mk:∀a C dx fs v,x = .ref a->H1 a=some (.ins C dx fs)->Cls K C->dG K C f->fs.lookup f=some v->Q v H1->KY K f Q x H1
def tFld(K:Ma)(b:TE)(f:Str):TE:=λe H Q=>b e H (KY K f Q)
inductive G0(K:Ma)(f:Str)(D:Ends)(σ : St)(y:V)(x:V)(H2:Hp):Prop
 |mk:∀a C dx fs,x = .ref a->H2 a=some (.ins C dx fs)->Cls K C->dG K C f->fs.length<1000->D.nx σ (upd H2 a (.ins C dx (hV f y fs)))->G0 K f D σ y x H2
abbrev LP(K:Ma)(e:TE)(f:Str)(D:Ends)(b : St):V->Hp->Prop:=λy g=>e b g (G0 K f D b y)
def sFld(K:Ma)(e g:TE)(f:Str):TS:=λD b H=>g b H (LP K e f D b)
def KR(X:Cx)(f:Operator)(g:V->V->Hp->VK->Prop):Prop:=
 ∀b s e H(x y:V)(u v:Value)(Q:VK),Inv X b e H s->cD x u->cD y v->g x y H Q->wpAny (model X.prog X.w) X.A (inplaceOp f u v) (EP X b e Q) X.xe s
inductive x6(f:Str)(D:Ends)(σ : St)(a:Addr)(C:Addr)(z:V)(H3:Hp):Prop
 |mk:∀dx' fs',H3 a=some (.ins C dx' fs')->fs'.length<1000->D.nx σ (upd H3 a (.ins C dx' (hV f z fs')))->x6 f D σ a C z H3
abbrev E7(b:V->V->Hp->VK->Prop)(f:Str)(D:Ends)(e : St)(a:Addr)(C:Addr)(v:V):V->Hp->Prop:=λy H2=>b v y H2 (x6 f D e a C)
inductive BI(K:Ma)(tv:TE)(rd:V->V->Hp->VK->Prop)(f:Str)(D:Ends)(σ : St)(x:V)(H1:Hp):Prop
 |mk:∀a C dx fs v,x = .ref a->H1 a=some (.ins C dx fs)->Cls K C->dG K C f->fs.lookup f=some v->tv σ H1 (E7 rd f D σ a C v)->BI K tv rd f D σ x H1
def JQ(K:Ma)(e g:TE)(m:V->V->Hp->VK->Prop)(f:Str):TS:=λD b H=>e b H (BI K g m f D b)
section
variable{X:Cx}{o e value:Expr}{f:Str}{pos pos' tpos:Pos}{ta tv:TE}
theorem oB(m:PE X e ta)(p:attributeBase e f X.env (eval e X.env)=eval e X.env):PE X (.Attribute e f pos) (tFld X.K ta f):=by
 intro b s r H Q I h;refine KO p (thn (m b s r H _ I h) λu G g=>?_);obtain⟨x,t,y,z,a,C,J,L,v,ex,B,c,n,l,q⟩:=g;subst ex;obtain rfl:u=Value.ref a:=z;exact vU y B c n l λN s2 D E=>⟨v,t,D,E,q⟩
theorem dU(p:PE X o ta)(r:PE X value tv)(t:swapsWith value (some (.Attribute o f pos')) pos.line X.env=pure false):PS X (.Assign [.Attribute o f pos'] value pos) (sFld X.K ta tv f):=by
 intro b s g H D I h;refine plainObj_wpAny_Assign_Attribute (thn (r b s g H _ I h) λu z ⟨y,B,E,G,q⟩=>thn (p b z g B _ E q) λJ s2 m=>?_) t;obtain⟨x,H2,L,N,a,C,S,U,ex,O,c,n,l,Q⟩:=m;subst ex;obtain rfl:J=Value.ref a:=N;exact uS L O c n l G λV R=>⟨g,_,R,Q⟩
theorem qW(t:PE X o ta)(B:PE X value tv)(p:KR X E G):PS X (.AugAssign (.Attribute o f tpos) E value pos) (JQ X.K ta tv G f):=by
 intro b s m H D I h;refine wpAny_AugAssign_AttributeAny (thn (t b s m H _ I h) λJ s1 g=>?_);obtain⟨x,L,N,O,a,C,dx,fs,v,ex,Q,c,n,l,q⟩:=g;subst ex;obtain rfl:J=Value.ref a:=O;refine vU N Q c n l λu s2 R S=>thn (B b s2 m L _ R q) λU V ⟨y,H2,W,Y,Z⟩=>thn (p b V m H2 v y u U _ W S Y Z) λw4 s4 g=>?_;obtain⟨z,H3,I4,rz,aa,ab,r,l',q4⟩:=g;exact uS I4 r c n l' rz λs5 I5=>⟨m,_,I5,q4⟩
inductive LY(x:V)(y:V)(H:Hp)(Q:VK):Prop
 |mk:∀i j,x = .int i->y = .int j->Q (.int (i+j)) H->LY x y H Q
inductive rSub(x:V)(y:V)(H:Hp)(Q:VK):Prop
 |mk:∀i j,x = .int i->y = .int j->Q (.int (i-j)) H->rSub x y H Q
theorem vS:KR X .Add LY:=by
 rintro b s p H x y u v Q I m n ⟨i,j,rfl,rfl,q⟩;obtain⟨t,rfl⟩:=(show ∃t,u=Value.int i t from m);obtain⟨g,rfl⟩:=(show ∃g,v=Value.int j g from n);exact PyProof.Rows.iadd_int ⟨.int (i+j),H,I.tok _,⟨_,rfl⟩,q⟩
theorem MD:KR X .Sub rSub:=by
 rintro b s p H x y u v Q I m n ⟨i,j,rfl,rfl,q⟩;obtain⟨t,rfl⟩:=(show ∃t,u=Value.int i t from m);obtain⟨g,rfl⟩:=(show ∃g,v=Value.int j g from n);exact PyProof.Rows.isub_int ⟨.int (i-j),H,I.tok _,⟨_,rfl⟩,q⟩
end
section
variable{X:Cx}{pins:Mb}{σ : St}{H:Hp}{s:Shared}{A:Around}{E:Mm}{Q:Mm}{c:Value}{b:Bool}
inductive qG(K:Ma)(H:Hp):V->Value->Prop where
 |non:qG K H .non (.type "NoneType")
 |bl (x:Bool):qG K H (.bl x) (.type "bool")
 |int (i:Int):qG K H (.int i) (.type "int")
 |str (x:Str):qG K H (.str x) (.type "str")
 |flt (x:UInt64):qG K H (.flt x) (.type "float")
 |lst {a:Addr} {xs:Mp} (e:H a=some (.lst xs)):qG K H (.ref a) (.type "list")
 |frz {a:Addr} {o:Obj} {xs:Mp} (e:H a=some (.frz o (.lst xs))):qG K H (.ref a) (.type "list")
 |tup {a:Addr} {xs:Mp} (e:H a=some (.tup xs)):qG K H (.ref a) (.type "tuple")
 |dK {a:Addr} {kvs:Mn} (e:H a=some (.dK kvs)):qG K H (.ref a) (.type "dict")
 |dT {a:Addr} {kvs:List (List Key×V)} (e:H a=some (.dT kvs)):qG K H (.ref a) (.type "dict")
 |ins {a C dx:Addr} {fs:Mo} (e:H a=some (.ins C dx fs)) (cl:Cls K C) (ha:findIn K (.ref C) "__class__" = some (some (.builtin "object.__class__")))
   (hn:PySem.W.specialIn K (.builtin "object.__class__") "__get__" = some (some (.builtin "getset_descriptor.__get__"))) (htk:PySem.W.takesIn K (.builtin "object.__class__")=some true)
   (hm:PySem.W.mroIn K C (.type "object")=some true):qG K H (.ref a) (.ref C)
theorem Fp(I:Inv X pins σ H s)(f:cD x u)(ty:qG X.K H x t)(e:PySem.W.kitOne X.K t c=some b)(h:∀R,Q (.bool b) {s with toks:=R}) :
  wpAny (model X.prog X.w) A (call (.builtin "isinstance") [u,c]) Q E s:=by
 cases ty with
 |non=>cases (show u=Value.none from f);exact kia_one PySem.W.kitx_none I.kIn True.intro e (λz=>nomatch z) h
 |bl y=>cases (show u=Value.bool y from f);exact kia_one PySem.W.kitx_bool I.kIn True.intro e (λz=>nomatch z) h
 |int i=>obtain⟨t,q⟩:=(show ∃t,u=Value.int i t from f);cases q;exact kia_one PySem.W.kitx_int I.kIn True.intro e (λz=>nomatch z) h
 |str y=>obtain⟨t,q⟩:=(show ∃t,u=Value.str y t from f);cases q;exact kia_one PySem.W.kitx_str I.kIn True.intro e (λz=>nomatch z) h
 |flt y=>obtain⟨t,q⟩:=(show ∃t,u=Value.float y t from f);cases q;exact kia_one PySem.W.kitx_float I.kIn True.intro e (λz=>nomatch z) h
 | @lst a B g=>
  cases (show u=Value.ref a from f);obtain⟨_,_,n,_,m⟩:=(show eG X.prog X.w H s.heap a (.lst B) from I.hok a _ g);exact kia_one kitx_list I.kIn ⟨_,m,rfl⟩ e (λz=>nomatch z) h
 | @frz a S B g=>
  cases (show u=Value.ref a from f);obtain⟨_,_,_,n,_,m⟩:=(show eG X.prog X.w H s.heap a (.frz S (.lst B)) from I.hok a _ g);exact kia_one kitx_list I.kIn ⟨_,m,rfl⟩ e (λz=>nomatch z) h
 | @tup a B g=>
  cases (show u=Value.ref a from f);obtain⟨_,_,_,p⟩:=(show eG X.prog X.w H s.heap a (.tup B) from I.hok a _ g);obtain⟨o,m,D,_⟩:=p;exact kia_one PySem.W.kitx_tuple I.kIn ⟨o,m,D⟩ e (λz=>nomatch z) h
 | @dK a r g=>
  cases (show u=Value.ref a from f);obtain⟨_,_,vs,_,p⟩:=(show eG X.prog X.w H s.heap a (.dK r) from I.hok a _ g);obtain⟨o,U,V,m,D,_⟩:=p;exact kia_one kitx_dict I.kIn ⟨o,m,D.1⟩ e (λz=>nomatch z) h
 | @dT a r g=>
  cases (show u=Value.ref a from f);obtain⟨_,_,B,_,o,U,V,m,D,_⟩:=(show eG X.prog X.w H s.heap a (.dT r) from I.hok a _ g);exact kia_one kitx_dict I.kIn ⟨o,m,D.1⟩ e (λz=>nomatch z) h
 | @ins a C dx fs g N W Y G Z=>
  cases (show u=Value.ref a from f);obtain⟨mA,O,_⟩:=tI I.hok g;obtain⟨od,J,_⟩:=O.look;exact kia_one (PySem.W.kitx_own (N.get _) N.hd W Y G Z) I.kIn J e (λz=>nomatch z) h
end
structure Room(k:Nat)(A:Around):Prop where
 hd:A.handled=none
 dp:A.depth+3*k+5<recursionLimit
 un:A.units+16*k+200<cLine
theorem Room.mono(r:Room k A)(h:j<=k):Room j A:=⟨r.hd,by have:=r.dp;omega,by have:=r.un;omega⟩
theorem Room.deeper(r:Room (k+1) A)(b:Env):Room k (A.deeper b):=
 ⟨r.hd,by have:=r.dp;show A.depth+1+3*k+5<_;omega,by have:=r.un;show A.units+3+16*k+200<_;omega⟩
theorem DH{A:Around}{C:Addr}{b:Mh}{e:List (Str×Value)}:(A.under (.builtin "type.__call__" ⟨.ref C::b,e⟩)).depth=A.depth+1:=by
 first |rfl |simp [Around.under,Code.weight,Code.isCreation,Code.isGuard,Code.isCaller,Code.frames,Code.isFrame,guardIds]
theorem DG{A:Around}{C:Addr}{b:Mh}{e:List (Str×Value)}:(A.under (.builtin "type.__call__" ⟨.ref C::b,e⟩)).units=A.units+1:=by
 first |rfl |simp [Around.under,Code.cUnits,Code.frames,Code.isFrame]
theorem Room.make(r:Room (k+1) A)(C:Addr)(b:Mh)(e:List (Str×Value)):Room k (A.under (.builtin "type.__call__" ⟨.ref C::b,e⟩)):=
 ⟨r.hd,by have:=r.dp;rw[DH];omega,by have:=r.un;rw[DG];omega⟩
theorem Room.depth(r:Room k A):A.depth<recursionLimit:=by have:=r.dp;omega
theorem Room.units(r:Room k A):A.units+64<cLine:=by have:=r.un;omega
def lR:TA:=λ_ H Q=>Q [] H
abbrev JG(Q:(Mp->Hp->Prop))(x:V):Mp->Hp->Prop:=λb H2=>Q (x::b) H2
abbrev JH(b:TA)(e : St)(Q:(Mp->Hp->Prop)):V->Hp->Prop:=λx f=>b e f (JG Q x)
def eW(e:TE)(f:TA):TA:=λb H Q=>e b H (JH f b Q)
section
variable{X:Cx}{e:Expr}{es:List Expr}{te:TE}{t:TA}{pos:Pos}
theorem aF:PA X [] lR:=λ_ _ _ _ H Q I h=>Calls.spliced_nil ⟨[],H,I,.nil,h⟩
theorem eT(m:PE X e te)(hr:PA X es t)(n:starEach (e::es) X.env=(false,eval e X.env)::starEach es X.env:=by rfl):PA X (e::es) (eW te t):=by
 intro pos b s g H Q I h;rw[n];show wpAny _ _ (spliced ((false,eval e X.env)::backTo pos (starEach es X.env))) _ _ s;refine Calls.spliced_cons (thn (m b s g H _ I h) λu o f=>?_);obtain⟨x,p,q,r,y⟩:=f;exact thn (hr pos b o g p _ q y) λG s2 ⟨z,H2,B,D,E⟩=>⟨x::z,H2,B,.cons r D,E⟩
abbrev K3(Q:VK):Mp->Hp->Prop:=λb f=>b.length<=sizeLine/\∀p,f p=none->Q (.ref p) (upd f p (.tup b))
def JB(t:TA):TE:=λb H Q=>t b H (K3 Q)
abbrev K7(Q:VK):Mp->Hp->Prop:=λb f=>b.length<=sizeLine/\∀p,f p=none->Q (.ref p) (upd f p (.lst b))
def K8(t:TA):TE:=λb H Q=>t b H (K7 Q)
theorem aU{o}(h:PA X es t):PE X (.Tuple es o pos) (JB t):=by
 intro f s p H Q I x;refine wpAny_Tuple_spliced (thn (h pos f s p H _ I x) λy g ⟨B,m,n,r,z,q⟩=>⟨by rw[<- r.length];exact z,?_⟩);have D:m g.heap.objs.size=none:=n.hok.fresh (le_refl _);refine⟨.ref g.heap.objs.size,upd m g.heap.objs.size (.tup B),n.laid (t':=g.toks) (λb u e=>get?_push_of_some _ e) (le_refl _) ?_,rfl,q _ D⟩;exact⟨z,y,r,⟨_,get?_push_size _ rfl,rfl,_,rfl⟩⟩
theorem cA(h:PA X es t):PE X (.List es pos) (K8 t):=by
 intro f s o H Q I p;refine wpAny_List_spliced (thn (h pos f s o H _ I p) λx g ⟨y,m,n,r,z,q⟩=>⟨by rw[<- r.length];exact z,?_⟩);have B:m g.heap.objs.size=none:=n.hok.fresh (le_refl _);refine⟨.ref g.heap.objs.size,upd m g.heap.objs.size (.lst y),n.laid (t':=g.toks) (λb u e=>get?_push_of_some _ e) (le_refl _) ?_,rfl,q _ B⟩;exact⟨z,x,0,r,get?_push_size _ rfl⟩
end
abbrev Sp:=Mp->Hp->VK->XK->Prop
abbrev CXT:=List Env->Hp->Shared->XK->Value->Shared->Prop
structure Env0(P:Program)(w:World)(K:Ma)(mg:Mc)(base:Heap)(A:Around)(outer:List Env)(s:Shared)(H:Hp):Prop where
 frames:A.frames=some outer
 mod:Mod K mg base
 bs:∀b o,base.get? b=some o->s.heap.get? b=some o/\H b=none
 bsz:base.objs.size<=s.heap.objs.size
 funs:s.heap.FunFrames base outer
 frf:∀b∈frs outer,H b=none
 hok:HOk P w H s.heap
 bare:AllBare s.gens
inductive CE(outer:List Env)(P:Program)(w:World)(H:Hp)(s:Shared)(Q:VK)(u:Value)(s':Shared):Prop
 |mk:∀v H',s'.os=s.os->AllBare s'.gens->Un (frs outer) [] H H' s.heap s'.heap->HOk P w H' s'.heap->cD v u->Q v H'->CE outer P w H s Q u s'
def CR(g:CXT)(b:List Env)(P:Program)(w:World)(H:Hp)(s:Shared)(Q:VK)(E:XK)(r:Result)(f:Shared):Prop:=
 match r with
 | .ok (.ret u)=>CE b P w H s Q u f
 | .ok _=>False
 | .error e=>g b H s E e f
structure FnOk(P:Program)(w:World)(K:Ma)(mg:Mc)(base:Heap)(CX:CXT)(k:Nat)(f:Addr)(fd:Ml)(ps:Mg)(sp:Sp):Prop where
 len:∀vs H Q E,sp vs H Q E->vs.length=ps.length
 run:∀(A:Around)(outer:List Env)(s:Shared)(H:Hp)(args:Args)(us:Mh)(vs:Mp)(Q:VK)(E:XK),Room k A->Env0 P w K mg base A outer s H->BindsTo s fd args (ps.zip us)->cE vs us->sp vs H Q E->
  codeAny (model P w) A (.call (.ref f) args) (CR CX outer P w H s Q E) s
theorem Env0.make{P:Program}{w:World}{K:Ma}{mg:Mc}{base:Heap}{A:Around}{b:List Env}{s:Shared}{H:Hp}(e:Env0 P w K mg base A b s H)(C:Addr)(f:Mh)(g:List (Str×Value)) :
  Env0 P w K mg base (A.under (.builtin "type.__call__" ⟨.ref C::f,g⟩)) b s H:=⟨by first |exact e.frames | (simpa [Around.under,Code.envs,Code.isFrame,pushEnvs] using e.frames),e.mod,e.bs,e.bsz,e.funs,e.frf,e.hok,e.bare⟩
section
variable{X:Cx}{pins:Mb}{σ : St}{H:Hp}{s s':Shared}
theorem Inv.env0(I:Inv X pins σ H s):Env0 X.prog X.w X.K X.mg X.base X.A X.stack s H:=
 ⟨I.ok.frames,I.ok.mod,I.bs,le_trans I.ok.bsz I.sz,I.stack,I.stkFree,I.hok,I.bare⟩
theorem Inv.after(I:Inv X pins σ H s)(h:CE X.stack X.prog X.w H s Q u s'):EP X pins σ Q u s':=by
 obtain⟨v,m,os,bare,un,e,r,q⟩:=h;obtain⟨n,g,d,t,f⟩:=s';obtain rfl:f=s.os:=os;exact⟨v,m,I.call (h':=n) (g':=g) (d':=d) (t':=t) (ch:=[]) un e bare (λb z=>absurd z (by simp)),r,q⟩
end
abbrev Dn(e:Sp)(b:Mp)(E:XK)(Q:VK):Mp->Hp->Prop:=λf g=>e (f++b) g Q E
def Do(e:Sp)(b:Mp)(E:XK)(t:TA):TE:=λf H Q=>t f H (Dn e b E Q)
abbrev zS(e:Sp)(b:Mp)(E:XK)(Q:VK)(x:V):Mp->Hp->Prop:=λf H2=>e (x::(f++b)) H2 Q E
inductive Ce(C:Addr)(m:Str)(sp:Sp)(dvs:Mp)(E:XK)(t:TA)(σ : St)(Q:VK)(x:V)(H1:Hp):Prop
 |mk:∀a dx fs,x = .ref a->H1 a=some (.ins C dx fs)->fs.lookup m=none->t σ H1 (zS sp dvs E Q x)->Ce C m sp dvs E t σ Q x H1
def Dh(C:Addr)(m:Str)(f:Sp)(b:Mp)(E:XK)(g:TE)(t:TA):TE:=λe H Q=>g e H (Ce C m f b E t e Q)
abbrev zT(C:Addr)(g:Sp)(e:Mp)(E:XK)(Q:VK):Mp->Hp->Prop:=λm f=>∀x b,f x=none->f b=none->b≠x->
 g (.ref x::(m++e)) (upd (upd f b (.own x)) x (.ins C b [])) (λv H2=>v = .non/\Q (.ref x) H2) E
def Dj(C:Addr)(e:Sp)(b:Mp)(E:XK)(t:TA):TE:=λf H Q=>t f H (zT C e b E Q)
def i7(K:Ma)(g:Ml)(e:Mg)(f:Mh):Prop:=
 ∀(s:Shared)(b:Mh),K.In s.heap->(b++f).length=e.length->BindsTo s g ⟨b,[]⟩ (e.zip (b++f))
theorem i7.all{K:Ma}{f:Ml}{e:Mg}(h:∀b:Mh,b.length=e.length->bindArgs f ⟨b,[]⟩=pure (e.zip b)):i7 K f e []:=λs b _ g=>by
 rw[append_nil]at g⊢;exact .of_eq (h b g)
def fI(g:CXT)(X:Cx)(E:XK):Prop:=∀(b:Mb)(m : St)(H:Hp)(s:Shared)(e:Value)(f:Shared),Inv X b m H s->g X.stack H s E e f->X.xe e f
section
variable{X:Cx}{CX:CXT}{k:Nat}{f C:Addr}{fd:Ml}{ps:Mg}{sp:Sp}{dvs:Mp}{ds:Mh}{E:XK}{x m:Str}{p pos apos:Pos}{e o:Expr}{es:List Expr}{ta:TE}{t:TA}
theorem AB(F:FnOk X.prog X.w X.K X.mg X.base CX k f fd ps sp)(hr:Room k X.A)(y:i7 X.K fd ps ds)(z:cE dvs ds)(B:fI CX X E)
  (I:Inv X b n H s) (r:cE vs us) (h:sp (vs++dvs) H Q E):wpAny (model X.prog X.w) X.A (call (.ref f) us) (EP X b n Q) X.xe s:=by
 have q:cE (vs++dvs) (us++ds):=r.append z;have D:(us++ds).length=ps.length:=by rw[<- q.length];exact F.len _ _ _ _ h
 refine wpAny_call (codeAny_mono (F.run X.A X.stack s H ⟨us,[]⟩ (us++ds) (vs++dvs) Q E hr I.env0 (y s us I.kIn D) q h) λr G g=>?_);cases r with
 |error e=>exact B b n H s e G I g
 |ok J=>
  cases J with
  |ret u=>exact I.after g
  |next=>exact False.elim g
  |brk=>exact False.elim g
  |cont=>exact False.elim g
theorem Jj(F:FnOk X.prog X.w X.K X.mg X.base CX k f fd ps sp)(hr:Room k X.A)(z:Gl X x)(B:X.mg x=some (.ref f))(D:keepIn X.K (.ref f)=true)(G:i7 X.K fd ps ds)(J:cE dvs ds)(L:fI CX X E)
  (N:PA X (e::es) t) (g:(x == ("__debug__" : Str))=false:=by decide) (O:starEach (e::es) X.env=(false,eval e X.env)::starEach es X.env:=by rfl) (n:(backTo pos (starEach es X.env)).any (·.1)=false:=by rfl) :
  PE X (.Call (.Name x p) (e::es) [] pos) (Do sp dvs E t):=by
 intro b s R H Q I h;refine wpAny_Call_Name_kw (iI I z B ?_ g);refine callWith_K (h₀:=X.base) I.ok.mod.kin D (thn (N pos b s R H _ I h) λS U ⟨V,W,y,r,q⟩=>⟨y.kIn,?_⟩) O n;exact AB F hr G J L y r q
theorem HL(F:FnOk X.prog X.w X.K X.mg X.base CX k f fd ps sp)(hr:Room k X.A)(n:Gl X x)(q:X.mg x=some (.ref f))(r:keepIn X.K (.ref f)=true)(u:i7 X.K fd ps ds)(y:cE dvs ds)(z:fI CX X E)
  (b:(x == ("__debug__" : Str))=false:=by decide):PE X (.Call (.Name x p) [] [] pos) (Do sp dvs E lR):=by
 intro g s B H Q I h;refine wpAny_Call_Name_kw (iI I n q ?_ b);exact callWith_K0 I.kIn r (AB (us:=[]) F hr u y z I .nil h)
theorem Jf(S:PE X o ta)(c:Cls X.K C)(z:Meth X.K C m f)(F:FnOk X.prog X.w X.K X.mg X.base CX k f fd ps sp)(hr:Room k X.A)(U:i7 X.K fd ps ds)(V:cE dvs ds)(W:fI CX X E)(Y:PA X (e::es) t)
  (g:starEach (e::es) X.env=(false,eval e X.env)::starEach es X.env:=by rfl) (n:(backTo pos (starEach es X.env)).any (·.1)=false:=by rfl)
  (Z:eval (.Call (.Attribute o m apos) (e::es) [] pos) X.env=(do
   let B <- eval o X.env
   standAt apos.atName
   let (f,first) <- holding [B] (getMethod B m D)
   callWith pos f first (backTo pos (starEach (e::es) X.env)) (backToKw pos (keywordEach [] X.env))):=by rfl) :
  PE X (.Call (.Attribute o m apos) (e::es) [] pos) (Dh C m sp dvs E ta t):=by
 intro b s G H Q I h;refine methodCall_KW (pl:=D) (thn (S b s G H _ I h) λu s1 y=>?_) Z;obtain⟨x,H1,J,rx,a,dx,fs,ex,ea,l,q⟩:=y;subst ex;obtain rfl:u=Value.ref a:=rx;refine vT J ea c z l ?_;refine callWith_K (first:=[.ref a]) (h₀:=X.base) I.ok.mod.kin z.kp (thn (Y pos b s1 G H1 _ J q) λN s2 ⟨O,H2,R,r,q2⟩=>⟨R.kIn,?_⟩) g n;exact AB (us:=.ref a::N) (vs:=.ref a::O) F hr U V W R (.cons rfl r) q2
theorem HJ(B:PE X o ta)(c:Cls X.K C)(r:Meth X.K C m f)(F:FnOk X.prog X.w X.K X.mg X.base CX k f fd ps sp)(hr:Room k X.A)(D:i7 X.K fd ps ds)(G:cE dvs ds)(J:fI CX X E)
  (L:eval (.Call (.Attribute o m apos) [] [] pos) X.env=(do
   let y <- eval o X.env
   standAt apos.atName
   let (f,first) <- holding [y] (getMethod y m z)
   callWith pos f first (backTo pos (starEach [] X.env)) (backToKw pos (keywordEach [] X.env))):=by rfl) :
  PE X (.Call (.Attribute o m apos) [] [] pos) (Dh C m sp dvs E ta lR):=by
 intro b s N H Q I h;refine methodCall_KW (pl:=z) (thn (B b s N H _ I h) λu S g=>?_) L;obtain⟨x,U,n,O,a,V,W,ex,R,l,q⟩:=g;subst ex;obtain rfl:u=Value.ref a:=O;refine vT n R c r l ?_;exact callWith_K0 (first:=[.ref a]) n.kIn r.kp (AB (us:=[.ref a]) (vs:=[.ref a]) F hr D G J n (.cons rfl .nil) q)
structure Mk(K:Ma)(C f:Addr):Prop where
 makes:PySem.W.makesIn K C=true
 init:findIn K (.ref C) "__init__" = some (some (.ref f))
 fn:PySem.W.isFn K (.ref f)=true
 kp:keepIn K (.ref C)=true
theorem BJ(M:Mk X.K C f)(F:FnOk X.prog X.w X.K X.mg X.base CX k f fd ps sp)(hr:Room (k+1) X.A)(G:i7 X.K fd ps ds)(J:cE dvs ds)
  (L:fI CX X E) (I:Inv X g y H s) (r:cE z us)
  (h:∀x n,H x=none->H n=none->n≠x->sp (.ref x::(z++dvs)) (upd (upd H n (.own x)) x (.ins C n [])) (λv H2=>v = .non/\Q (.ref x) H2) E) :
  wpAny (model X.prog X.w) X.A (call (.ref C) us) (EP X g y Q) X.xe s:=by
 have B:=h (s.heap.objs.size+1) s.heap.objs.size (I.hok.fresh (le_succ _)) (I.hok.fresh (le_refl _)) (ne_of_lt (lt_succ_self _));have q:=Inv.made (C:=C) I;have D:cE (V.ref (s.heap.objs.size+1)::(z++dvs)) (Value.ref (s.heap.objs.size+1)::(us++ds)):=.cons rfl (r.append J);have N:(Value.ref (s.heap.objs.size+1)::us++ds).length=ps.length:=by
  have e:=D.length;rw[F.len _ _ _ _ B]at e;exact e.symm
 refine wpAny_call (Hs (f:=f) I.kIn M.makes M.init (beq_iff_eq.mp M.fn) (codeAny_mono (F.run _ X.stack _ _ ⟨Value.ref (s.heap.objs.size+1)::us,[]⟩ (Value.ref (s.heap.objs.size+1)::(us++ds)) _ _ E (hr.make C us [])
  (q.env0.make C us []) (G _ (Value.ref (s.heap.objs.size+1)::us) q.kIn N) D B) λr O b=>?_))
 cases r with
 |error e=>exact L g y _ _ e O q b
 |ok R=>
  cases R with
  |ret u=>
   obtain⟨v,S,U,W,Y,Z⟩:=q.after b;subst Y;exact⟨W,⟨V.ref (s.heap.objs.size+1),S,U,rfl,Z⟩⟩
  |next=>exact False.elim b
  |brk=>exact False.elim b
  |cont=>exact False.elim b
theorem Jg(M:Mk X.K C f)(F:FnOk X.prog X.w X.K X.mg X.base CX k f fd ps sp)(hr:Room (k+1) X.A)(z:Gl X x)(B:X.mg x=some (.ref C))(D:i7 X.K fd ps ds)(G:cE dvs ds)(J:fI CX X E)
  (L:PA X (e::es) t) (g:(x == ("__debug__" : Str))=false:=by decide) (N:starEach (e::es) X.env=(false,eval e X.env)::starEach es X.env:=by rfl) (n:(backTo pos (starEach es X.env)).any (·.1)=false:=by rfl) :
  PE X (.Call (.Name x p) (e::es) [] pos) (Dj C sp dvs E t):=by
 intro b s O H Q I h;refine wpAny_Call_Name_kw (iI I z B ?_ g);refine callWith_K (h₀:=X.base) I.ok.mod.kin M.kp (thn (L pos b s O H _ I h) λR S ⟨U,V,y,r,q⟩=>⟨y.kIn,?_⟩) N n;exact BJ M F hr D G J y r q
theorem HK(M:Mk X.K C f)(F:FnOk X.prog X.w X.K X.mg X.base CX k f fd ps sp)(hr:Room (k+1) X.A)(n:Gl X x)(q:X.mg x=some (.ref C))(r:i7 X.K fd ps ds)(u:cE dvs ds)(y:fI CX X E)
  (b:(x == ("__debug__" : Str))=false:=by decide):PE X (.Call (.Name x p) [] [] pos) (Dj C sp dvs E lR):=by
 intro g s z H Q I h;refine wpAny_Call_Name_kw (iI I n q ?_ b);exact callWith_K0 I.kIn M.kp (BJ (us:=[]) M F hr r u y I .nil h)
end
section
variable{X:Cx}{CX:CXT}{k:Nat}{f C:Addr}{fd:Ml}{ps ks:Mg}{sp:Sp}{E:XK}{x m:Str}{p pos apos kpos:Pos}{e o:Expr}{es:List Expr}{kws:List Keyword}{te ta:TE}{t tk:TA}{nm:Option Str}
variable{g:Mh->Mh->Mh}{gV:Mp->Mp->Mp}
end
structure FnScope(N P:Mg)(sc:Scope):Prop where
 kind:sc.kind = .function
 co:sc.isCoroutine=false
 gen:sc.isGenerator=false
 nd:N.Nodup
 pre:N.take P.length=P
 par:∀x∈P,sc.names.lookup x=some .local\/sc.names.lookup x=some .cell
 nofree:∀y∈sc.names,y.2 ≠ .free
theorem zJ{kindOf:Str->Option NameKind}{x:Str}:∀{b:List (Str×Value)}{m:Mc},(∀v,(x,v)∉b)->bindL kindOf b m x=m x
 |[],_,_=>rfl
 | (n,v)::r,m,h=>by
  unfold bindL;rw[zJ λw hw=>h w (mem_cons_of_mem _ hw)];split
  ·have:x≠n:=by rintro rfl;exact h v mem_cons_self
   simp [this]
  ·rfl
theorem zL{kindOf:Str->Option NameKind}{x:Str}:∀{b:List (Str×Value)}{m:Mc},(∀v,(x,v)∉b)->bindC kindOf b m x=m x
 |[],_,_=>rfl
 | (n,v)::r,m,h=>by
  unfold bindC;rw[zL λw hw=>h w (mem_cons_of_mem _ hw)];split
  ·rfl
  ·have:x≠n:=by rintro rfl;exact h v mem_cons_self
   simp [this]
theorem zK{kindOf:Str->Option NameKind}{x:Str}{v:Value}:∀{P:Mg}{b:Mh}{i:Nat}{m:Mc},P.Nodup->P[i]? = some x->b[i]? = some v->kindOf x=some .local->
  bindL kindOf (P.zip b) m x=some v
 |[],_,_,_,_,h,_,_=>by simp at h
 |_::_,[],_,_,_,_,h,_=>by simp at h
 |p::P,w::b,0,m,g,e,f,n=>by
  simp at e f;subst e;subst f;show bindL kindOf ((p,w)::P.zip b) m p=_;unfold bindL;rw[zJ λv o=>(nodup_cons.mp g).1 (List.of_mem_zip o).1,if_pos n];simp
 |p::P,w::b,i+1,m,g,e,f,n=>by
  show bindL kindOf ((p,w)::P.zip b) m x=_;unfold bindL;exact zK (i:=i) (nodup_cons.mp g).2 (by simpa using e) (by simpa using f) n
theorem zM{kindOf:Str->Option NameKind}{x:Str}{v:Value}:∀{P:Mg}{b:Mh}{i:Nat}{m:Mc},P.Nodup->P[i]? = some x->b[i]? = some v->kindOf x≠some .local->
  bindC kindOf (P.zip b) m x=some v
 |[],_,_,_,_,h,_,_=>by simp at h
 |_::_,[],_,_,_,_,h,_=>by simp at h
 |p::P,w::b,0,m,g,e,f,n=>by
  simp at e f;subst e;subst f;show bindC kindOf ((p,w)::P.zip b) m p=_;unfold bindC;rw[zL λv o=>(nodup_cons.mp g).1 (List.of_mem_zip o).1,if_neg n];simp
 |p::P,w::b,i+1,m,g,e,f,n=>by
  show bindC kindOf ((p,w)::P.zip b) m x=_;unfold bindC;exact zM (i:=i) (nodup_cons.mp g).2 (by simpa using e) (by simpa using f) n
def oO(N:Mg)(b:Mp):St:=b.map some++List.replicate (N.length-b.length) none
def Ag(CX:CXT)(P:Program)(w:World)(K:Ma)(mg:Mc)(base:Heap)(N:Mg)(qual:Str)(scope:Scope)(f:Addr)(cd:Value)(A:Around)(outer:List Env)(s:Shared)(H:Hp)(E:XK):Cx where
 prog:=P
 w:=w
 K:=K
 mg:=mg
 base:=base
 A:=A.deeper (envOfC qual scope s.heap.objs.size f cd)
 N:=N
 s₀:=s
 H₀:=H
 env:=envOfC qual scope s.heap.objs.size f cd
 outer:=outer
 stack:=envOfC qual scope s.heap.objs.size f cd::outer
 ex:=[]
 calm:=true
 fn:=λ_=>true
 pn:=[]
 xe:=λe s'=>wpAny (model P w) (A.deeper (envOfC qual scope s.heap.objs.size f cd)) (leaving (envOfC qual scope s.heap.objs.size f cd) e) (λ_ s''=>CX outer H s E e s'') (λe' s''=>CX outer H s E e' s'') s'
theorem CH{b:Scope}{n:Nat}{x:Str}(h:b.names.lookup x=some .cell):∃c,(cellsFrom n b.names []).lookup x=some c:=by
 have q:=PySem.W.cellsFrom_some b.names n [] (.inl h);exact Option.isSome_iff_exists.mp q
theorem Ft{W:CXT}{P:Program}{w:World}{K:Ma}{mg:Mc}{base:Heap}{N D:Mg}{o:Str}{g:Scope}{f:Addr}{Q:Value}{A:Around}{m:List Env}{s X:Shared}{H:Hp}{E:XK}{V:Mh}{G:Mp}
  (S:FnScope N D g) (hd:A.handled=none) (B:Env0 P w K mg base A m s H) (hl:G.length=D.length) (r:cE G V)
  (x:InCallC s s.heap.objs.size (bindL (envOfC o g s.heap.objs.size f Q).kindOf (D.zip V) λ_=>none) (cellsFrom (s.heap.objs.size+1) g.names []) (bindC (envOfC o g s.heap.objs.size f Q).kindOf (D.zip V) λ_=>none) X) :
  Inv (Ag W P w K mg base N o g f Q A m s H E) [] (oO N G) H X:=by
 have aa:D.length<=N.length:=by have:=congrArg List.length S.pre;rw[length_take]at this;omega
 obtain⟨R,tk,rfl,Y⟩:=x.done;have I:∀b:Addr,b∉(Ag W P w K mg base N o g f Q A m s H E).ex:=λb z=>absurd (show b∈([]:List Addr) from z) (by simp);refine⟨⟨B.mod,S.kind,rfl,rfl,le_refl _,λy z c R t=>?_,λy J=>?_,λy c _ h=>?_,λ_=>hd,Around.frames_deeper B.frames,.inr ⟨rfl,rfl⟩,λb z=>absurd z (I b),B.bs,B.bsz,λb _ _=>I b,λb z=>absurd z (I b),B.funs,B.frf⟩,
  rfl,B.bare,Un.kept Y,⟨_,x.toInCall.ns,λi y v R t h3=>?_⟩,λy c h=>⟨_,x.cell y c h⟩,B.hok.fresh (le_refl _),λy c h=>?_,λp L=>absurd (show p∈([]:Mb) from L) (by simp),B.hok.kept Y,?_⟩
 ·exact name_of_addr x.apart (PySem.mem_of_lookup R) (PySem.mem_of_lookup t)
 ·have J:g.names.lookup y=some .cell\/g.names.lookup y=some .free:=J;rcases J with J |J
  ·exact CH J
  ·exact absurd rfl (S.nofree _ (PySem.mem_of_lookup J))
 ·exact le_of_lt (x.above y c (PySem.mem_of_lookup h))
 ·have U:i<G.length:=by
   unfold oO at t;by_cases U:i<G.length
   ·exact U
   ·rw[getElem?_append_right (by simpa using U)]at t;rw[List.getElem?_replicate]at t;split at t <;> cases t
  have ha:G[i]? = some v:=by
   unfold oO at t;rw[getElem?_append_left (by simpa using U),getElem?_map]at t;cases e:G[i]? with
   |none=>rw[e]at t;cases t
   |some a=>rw[e]at t;cases t;rfl
  obtain⟨u,Z,rv⟩:=r.get ha;have L:D[i]? = some y:=by
   rw[<- S.pre,List.getElem?_take_of_lt (by omega)];exact R
  have O:D.Nodup:=by rw[<- S.pre];exact S.nd.sublist (List.take_sublist _ _)
  refine⟨u,rv,?_⟩;rcases S.par y (mem_of_getElem? L) with k |k
  ·exact .inl ⟨k,zK O L Z k⟩
  ·obtain⟨c,e⟩:=CH (n:=s.heap.objs.size+1) k;refine .inr ⟨.inl k,c,e,?_⟩;have q:=x.cell y c e;rw[zM O L Z (by show g.names.lookup y≠_;rw[k];decide)]at q;exact q
 ·exact B.hok.fresh (le_of_lt (x.above y c (PySem.mem_of_lookup h)))
 ·unfold oO;show _=N.length;rw[length_append,length_map,List.length_replicate];omega
theorem fn_of{CX:CXT}{P:Program}{w:World}{K:Ma}{mg:Mc}{base:Heap}{k:Nat}{f:Addr}{O p:Str}{B:Arguments}{D:List Stmt}{g:Scope}{dV kV Y pm z ct oc:Value}{an od:Option Addr}
  {ab:Me} {N ps:Mg} {sp:Sp} (lk:K.lookup f=some ⟨oc,od,.func (fnOf O p B D g dV kV Y pm an z ct),ab⟩) (ac:codeIn K z p=true) (S:FnScope N ps g)
  (len:∀G H Q E,sp G H Q E->G.length=ps.length)
  (R:∀(A:Around)(m:List Env)(s:Shared)(H:Hp)(G:Mp)(Q:VK)(E:XK),Room k (A.deeper (envOfC p g s.heap.objs.size f z))->sp G H Q E->
   ∃t,PSs (Ag CX P w K mg base N p g f z A m s H E) D t/\t (Ends.fn Q) (oO N G) H) :
  FnOk P w K mg base CX (k+1) f (fnOf O p B D g dV kV Y pm an z ct) ps sp:=by
 refine⟨len,λA m s H ae us G Q E hr Z hb r aa=>?_⟩;have hl:=len _ _ _ _ aa;have KX:K.In s.heap:=Z.mod.kin.keeps λb o e=>(Z.bs b o e).1;have ad:s.heap.NoLimit:=Z.mod.nolimit.keeps λb o e=>(Z.bs b o e).1;have U:∀y∈ps.zip us,g.names.lookup y.1=some .local\/(g.names.lookup y.1=some .cell/\((cellsFrom (s.heap.objs.size+1) g.names []).lookup y.1).isSome=true):=λ⟨n,v⟩ hy=>by
  rcases S.par n (List.of_mem_zip hy).1 with q |q
  ·exact .inl q
  ·exact .inr ⟨q,PySem.W.cellsFrom_some _ _ _ (.inl q)⟩
 refine codeAny_call_function hr.depth (KX _ _ lk) rfl S.co S.gen rfl (PySem.W.codeRec_of KX ac) (hb _ _ _ _ ?_);refine wpAny_newFunctionEnv_cells S.kind U λaf he s1 x=>?_;subst he;refine⟨ad.keeps x.toInCall.keep,codeAny_func ?_⟩;obtain⟨t,ht,hq⟩:=R A m s H G Q E (hr.deeper _) aa;have I:Inv (Ag CX P w K mg base N p g f z A m s H E) [] (oO N G) H s1:=Ft S hr.hd Z hl r x;refine wpAny_mono (ht [] s1 (oO N G) H _ I hq) (λfl s' W=>?_) λe s' W=>W;have fin:∀{L:St}{X:Hp}{v:V}{u:Value},Inv (Ag CX P w K mg base N p g f z A m s H E) [] L X s'->cD v u->Q v X->CE m P w H s Q u s':=
  λ{L X v u} J rv q=>⟨v,X,J.os,J.bare,J.base,J.hok,rv,q⟩
 cases fl with
 |ret u=>
  obtain⟨v,L,X,J,rv,q⟩:=W;exact fin J rv q
 |next=>
  obtain⟨L,X,J,q⟩:=W;exact fin (v:=V.non) (u:=Value.none) J rfl q
 |brk=>
  obtain⟨_,_,_,q⟩:=W;exact False.elim q
 |cont=>
  obtain⟨_,_,_,q⟩:=W;exact False.elim q
section
variable{X:Cx}{x:Str}{p pos:Pos}{e:Expr}{es:List Expr}{t:TA}{id T:String}{r:Mp->Hp->VK->Prop}
abbrev tCB_1(r:Mp->Hp->VK->Prop)(Q:VK):Mp->Hp->Prop:=λb f=>r b f Q
def tCB(r:Mp->Hp->VK->Prop)(t:TA):TE:=λb H Q=>t b H (tCB_1 r Q)
theorem bL(n:gP X (.builtin id) r)(o:Gl X x)(q:X.mg x=none)(u:bootBuiltins x=some (.builtin id))(y:PA X (e::es) t)(z:x ≠ "__name__":=by decide)(f:(x == ("__debug__" : Str))=false:=by decide)
  (B:starEach (e::es) X.env=(false,eval e X.env)::starEach es X.env:=by rfl) (g:(backTo pos (starEach es X.env)).any (·.1)=false:=by rfl):PE X (.Call (.Name x p) (e::es) [] pos) (tCB r t):=by
 intro b s m H Q I h;refine wpAny_Call_Name_kw (lI I o q u ?_ z f);exact PyProof.Rows.callWith_builtin1 (thn (y pos b s m H _ I h) λD E ⟨G,J,L,N,O⟩=>n b E m J G D Q L N O) B g
theorem jZ(n:gP X (.type T) r)(o:Gl X x)(q:X.mg x=none)(u:bootBuiltins x=some (.type T))(y:PA X (e::es) t)(z:x ≠ "__name__":=by decide)(f:(x == ("__debug__" : Str))=false:=by decide)
  (B:starEach (e::es) X.env=(false,eval e X.env)::starEach es X.env:=by rfl) (g:(backTo pos (starEach es X.env)).any (·.1)=false:=by rfl):PE X (.Call (.Name x p) (e::es) [] pos) (tCB r t):=by
 intro b s m H Q I h;refine wpAny_Call_Name_kw (lI I o q u ?_ z f);exact PyProof.Rows.callWith_type1 (thn (y pos b s m H _ I h) λD E ⟨G,J,L,N,O⟩=>n b E m J G D Q L N O) B g
end
end L2
namespace HT
open PySem PyProof.Rows
section
open PySem.SeqAt
open PySem.AutoSeq1 (wpAny_loadPart')
open PySem.MeetsSeq PySem.MeetsSeq2 PySem.MeetsSeq3
end
section
variable{prog:Program}{w:World}{A:Around}{E:Mm}{s:Shared}
theorem KL(O:IsTup s.heap t m.toArray)(R:IsTup s.heap b f.toArray)(B:m≠[])
  (S:f=[]->Q (.ref t) s) (U:f≠[]->Q (.ref s.heap.objs.size) {s with heap:=s.heap.push {cls:=.type "tuple",data:=.seq (m++f).toArray} })
  (z:m.length+f.length<=sizeLine):wpAny (model prog w) A (binaryOp .Add (.ref t) (.ref b)) Q E s:=by
 obtain⟨⟨y,G,o,H⟩,x,I,n,J⟩:=id O;obtain⟨⟨L,p,data2,q⟩,g,r,N,u⟩:=id R;simp only at I J r u;subst I J r u;have e:m.toArray++f.toArray=(m++f).toArray:=by simp
 by_cases hw:f=[]
 ·exact concat_meets ⟨_,x,rfl⟩ ⟨_,g,rfl⟩ noFill_tuple_add seq_tuple_add PySem.F.slot_tuple_add PySem.F.entry_tuple_add (PySem.F.args_tuple_add_2 _ _)
   (tuple_addW1 t b m.toArray f.toArray n N G p H q (by simpa using B) (by simp [hw])) ⟨x,g,S hw⟩
 ·refine concat_meets ⟨_,x,rfl⟩ ⟨_,g,rfl⟩ noFill_tuple_add seq_tuple_add PySem.F.slot_tuple_add PySem.F.entry_tuple_add (PySem.F.args_tuple_add_2 _ _)
   (tuple_addW2 t b m.toArray f.toArray n N G p H q (by simpa using B) (by simpa using hw) (by rw[size_toArray,size_toArray];exact z)) ⟨x,g,?_⟩
  rw[e];exact U hw
def sIx(n d:Nat):Option Int->Nat
 |none=>d
 |some v=>if v<0 then (v+(n:Int)).toNat else min v.toNat n
theorem Gz(n d:Nat):sIx n d none=d:=rfl
theorem JP(n d k:Nat):sIx n d (some (k:Int))=min k n:=by
 show (if (k:Int)<0 then ((k:Int)+(n:Int)).toNat else min (k:Int).toNat n)=min k n;rw[if_neg (by omega),Int.toNat_natCast]
theorem LO(n d:Nat)(e:d<=n)(o:Option Int):sIx n d o<=n:=by
 cases o with
 |none=>exact e
 |some v=>
  show (if v<0 then (v+(n:Int)).toNat else min v.toNat n)<=n;by_cases b:v<0
  ·rw[if_pos b];omega
  ·rw[if_neg b];exact Nat.min_le_right _ _
theorem Ek(v:Int)(n d:Nat):(if v<0 then max (v+(n:Int)) 0 else min v (n:Int))=((sIx n d (some v):Nat):Int):=by
 show (if v<0 then max (v+(n:Int)) 0 else min v (n:Int))=(((if v<0 then (v+(n:Int)).toNat else min v.toNat n):Nat):Int);by_cases b:v<0
 ·simp only[if_pos b];omega
 ·simp only[if_neg b];omega
theorem DZ(lo b:Option Int)(n:Nat):Builtin.Slice.sliceAdjust lo b 1 (n:Int)=(((sIx n 0 lo:Nat):Int),((sIx n n b:Nat):Int)):=by
 have e:¬((1:Int)<0):=by omega
 unfold Builtin.Slice.sliceAdjust;simp only[e,if_false];refine Prod.ext ?_ ?_
 ·cases lo with
  |none=>rfl
  |some v=>exact Ek v n 0
 ·cases b with
  |none=>rfl
  |some v=>exact Ek v n n
theorem Ct(i j:Nat):Builtin.Slice.slicePlaces (i:Int) (j:Int) 1=j-i:=by
 unfold Builtin.Slice.slicePlaces;have b:(1:Int) > 0:=by omega
 simp only[b,if_true,Int.ediv_one];split <;> omega
theorem uP(p:IsPart v o)(h:Q o s):wpAny (model prog w) A (Builtin.Slice.slicePartIndex v) Q E s:=by
 cases p with
 |none=>exact slicePart_none h
 |int i t=>exact slicePart_int h
theorem jU{o:Addr}{g m:Value}{lo b:Option Int}{n:Nat}{Q:Int×Int×Nat->Shared->Prop}(p:s.heap.IsSliceOf o g m .none)(q:IsPart g lo)(r:IsPart m b)
  (h:Q (((sIx n 0 lo:Nat):Int),1,sIx n n b-sIx n 0 lo) s):wpAny (model prog w) A (Builtin.Slice.sliceApplied (.ref o) (pure (n:Int))) Q E s:=by
 obtain⟨os,e,t,f⟩:=id p;unfold Builtin.Slice.sliceApplied Builtin.Slice.sliceFields;refine wpAny_bind (wpAny_bind (wpAny_field e f (x:=g) rfl (wpAny_bind (wpAny_field e f (x:=m) rfl (wpAny_bind (wpAny_field e f (x:=.none) rfl (wpAny_pure ?_)))))));refine wpAny_bind (slicePart_none ?_);show wpAny _ _ (if ((1:Int) == 0)=true then _ else _) _ _ s;rw[if_neg (by decide)];refine wpAny_bind (uP q (wpAny_bind (uP r (wpAny_bind (wpAny_pure ?_)))));show wpAny _ _ (match Builtin.Slice.sliceAdjust lo b 1 (n:Int) with | (lo,b)=>pure (lo,(1:Int),Builtin.Slice.slicePlaces lo b 1)) _ _ s;rw[DZ lo b n];show wpAny _ _ (pure (((sIx n 0 lo:Nat):Int),(1:Int),Builtin.Slice.slicePlaces ((sIx n 0 lo:Nat):Int) ((sIx n n b:Nat):Int) 1)) _ _ s;rw[Ct];exact wpAny_pure h
theorem HE(b:Array Value)(i k:Nat):((List.range k).filterMap λ(m:Nat)=>b[((i:Int)+(m:Int)*1).toNat]?).toArray=((b.toList.drop i).take k).toArray:=by
 have e:(λ(m:Nat)=>b[((i:Int)+(m:Int)*1).toNat]?)=λm=>b[i+m]?:=by
  funext m;have:((i:Int)+(m:Int)*1).toNat=i+m:=by omega
  rw[this]
 rw[e];have:=pick_run b i k;rw[List.filterMap_map]at this;have f:((λx=>b[x]?) ∘ λx=>i+x)=λm=>b[i+m]?:=rfl;rw[f]at this;rw[this]
theorem pV{t n:Addr}{b:Array Value}{x y:Value}{lo f:Option Int}{Q:Mm}(g:IsTup s.heap t b)(z:s.heap.IsSliceOf n x y .none)(H:IsPart x lo)(I:IsPart y f)
  (hw:¬(sIx b.size 0 lo=0/\sIx b.size b.size f=b.size))
  (h:Q (.ref s.heap.objs.size) {s with heap:=s.heap.push {cls:=.type "tuple",data:=.seq ((b.toList.drop (sIx b.size 0 lo)).take (sIx b.size b.size f-sIx b.size 0 lo)).toArray} })
  (L:b.size<=sizeLine):wpAny (model prog w) A (getItem (.ref t) (.ref n)) Q E s:=by
 have e:sizeOk (.seq ((b.toList.drop (sIx b.size 0 lo)).take (sIx b.size b.size f-sIx b.size 0 lo)).toArray):=by
  show ((b.toList.drop (sIx b.size 0 lo)).take (sIx b.size b.size f-sIx b.size 0 lo)).toArray.size<=sizeLine;rw[size_toArray,length_take,List.length_drop,length_toList];omega
 have hj:sIx b.size b.size f<=b.size:=LO _ _ (le_refl _) f;obtain⟨os,o,p,N⟩:=id z;have r:s.TypeIs (.ref n) "slice":=⟨os,o,p⟩;unfold getItem
 try with_reducible refine wpAny_holding ?_
 first |refine wpAny_bind (wpAny_pure ?_) |skip
 refine wpAny_bind (wpAny_sequenceKey g.typeIs (by decide) ?_);refine wpAny_bind (wpAny_callSpecial?_slot (name:=Str.ofString "__getitem__") g.typeIs PyProof.Rows.slot_tuple_getitem
  (wpAny_call_entry PyProof.Rows.slot_tuple_getitem g.typeIs entry_tuple_getitem ?_ (args_tuple_getitem _ _)))
 show wpAny _ _ (Builtin.Tuple.tupleItemsOf (.ref t) >>= _) _ _ s;refine wpAny_bind (tupleItemsOf_ g ?_);refine wpAny_bind (wpAny_typeOf r ?_);rw[if_pos (by decide)];refine wpAny_bind (jU z H I ?_);have u:¬((((sIx b.size 0 lo:Nat):Int) == 0 && (1:Int) == 1 && (sIx b.size b.size f-sIx b.size 0 lo) == b.size)=true):=by
  intro q;rw[and_eq_true,and_eq_true]at q;have O:((sIx b.size 0 lo:Nat):Int)=0:=eq_of_beq q.1.1;have R:sIx b.size b.size f-sIx b.size 0 lo=b.size:=eq_of_beq q.2;exact hw ⟨by omega,by omega⟩
 show wpAny _ _ (if (((sIx b.size 0 lo:Nat):Int) == 0 && (1:Int) == 1 && (sIx b.size b.size f-sIx b.size 0 lo) == b.size)=true then _ else _) _ _ s;rw[if_neg u,HE]
 first
  |exact wpAny_bind (m:=Builtin.Tuple.tupleExact _) (wpAny_newObj_type (wpAny_pure ⟨_,rfl,wpAny_pure h⟩) e)
  |exact wpAny_bind (m:=Builtin.Tuple.tupleExact _) (wpAny_newObj_type (wpAny_bind (wpAny_pure (wpAny_pure ⟨_,rfl,wpAny_pure h⟩))) e)
  |exact wpAny_bind (wpAny_bind (m:=Builtin.Tuple.tupleExact _) (wpAny_newObj_type (wpAny_pure (wpAny_pure ⟨_,rfl,wpAny_pure h⟩)) e))
  |exact wpAny_bind (wpAny_bind (m:=Builtin.Tuple.tupleExact _) (wpAny_newObj_type (wpAny_pure ⟨_,rfl,wpAny_pure h⟩) e))
end
end HT
namespace L2
open PySem PySem.Spec PyProof.Rows
abbrev TO:=St->Hp->(Option Int->Hp->Prop)->Prop
def PO(X:Cx)(e:Option Expr)(t:TO):Prop:=
 ∀b s f H(Q:Option Int->Hp->Prop),Inv X b f H s->t f H Q->
  wpAny (model X.prog X.w) X.A (evalPart e X.env) (λu m=>∃o g,Inv X b f g m/\IsPart u o/\Q o g) X.xe s
def Df:TO:=λ_ H Q=>Q none H
inductive GS(Q:(Option Int->Hp->Prop))(x:V)(H1:Hp):Prop
 |mk:∀i,x = .int i->Q (some i) H1->GS Q x H1
def tPart(t:TE):TO:=λb H Q=>t b H (GS Q)
section
variable{X:Cx}{e:Expr}{te:TE}{lo hi:Option Expr}{tl th:TO}{pos p2:Pos}
theorem tF:PO X none Df:=by
 intro b s f H Q I h;rw[evalPart_none];exact wpAny_pure ⟨none,H,I,.none,h⟩
theorem m4(h:PE X e te):PO X (some e) (tPart te):=by
 intro b s g H Q I hw;rw[evalPart_some];refine thn (h b s g H _ I hw) λu r f=>?_;obtain⟨x,m,n,o,p⟩:=f;obtain⟨i,rfl,q⟩:=p;obtain⟨t,rfl⟩:=o;exact⟨some i,m,n,.int i t,q⟩
def SlR(X:Cx)(r:V->Option Int->Option Int->Hp->VK->Prop):Prop:=
 ∀b s f H(x:V)(v g m:Value)(lo hi:Option Int)(n:Addr)(Q:VK),Inv X b f H s->cD x v->s.heap.IsSliceOf n g m .none->IsPart g lo->IsPart m hi->r x lo hi H Q->
  ∃T id,typeLookup (.type T) "__getitem__" = pure (some (.builtin id))/\s.TypeIs v T/\wpAny (model X.prog X.w) X.A (getItem v (.ref n)) (EP X b f Q) X.xe s
abbrev tSl_3(r:V->Option Int->Option Int->Hp->VK->Prop)(Q:VK)(x:V)(l:Option Int):Option Int->Hp->Prop:=λu b=>r x l u b Q
abbrev tSl_2(r:V->Option Int->Option Int->Hp->VK->Prop)(th:TO)(b : St)(Q:VK)(x:V):Option Int->Hp->Prop:=λl H2=>th b H2 (tSl_3 r Q x l)
abbrev tSl_1(r:V->Option Int->Option Int->Hp->VK->Prop)(tl:TO)(th:TO)(b : St)(Q:VK):V->Hp->Prop:=λx f=>tl b f (tSl_2 r th b Q x)
def tSl(r:V->Option Int->Option Int->Hp->VK->Prop)(te:TE)(tl th:TO):TE:=λb H Q=>te b H (tSl_1 r tl th b Q)
theorem mG{r:V->Option Int->Option Int->Hp->VK->Prop}(hr:SlR X r)(D:PE X e te)(E:PO X lo tl)(G:PO X hi th):PE X (.Subscript e (.Slice lo hi none p2) pos) (tSl r te tl th):=by
 intro f s p H Q I h;refine Subscript_ (thn (D f s p H _ I h) λv J o=>?_);obtain⟨x,L,N,O,R⟩:=o;refine wpAny_Slice (thn (E f J p L _ N R) λy s2 ⟨l,H2,S,U,W⟩=>thn (G f s2 p H2 _ S W) λz g o=>?_);obtain⟨u,B,Y,Z,q3⟩:=o;rw[evalPart_none];refine wpAny_pure ?_;have I4:Inv X f p B {g with heap:=g.heap.push {cls:=.type "slice",data:=.fields #[y,z,.none] } }:=Y.kept (t':=g.toks) λb ob q=>get?_push_of_some _ q;obtain⟨T,id,hT,ht,hg⟩:=hr f {g with heap:=g.heap.push {cls:=.type "slice",data:=.fields #[y,z,.none] } } p B x v y z l u g.heap.objs.size Q I4 O (Heap.IsSliceOf.new ..) U Z q3;show wpAny (model X.prog X.w) X.A (subscriptTail e (.Slice lo hi none p2) v (.ref g.heap.objs.size)) (EP X f p Q) X.xe {g with heap:=g.heap.push {cls:=.type "slice",data:=.fields #[y,z,.none] } };exact tail_any (ops:=[.ref g.heap.objs.size,v]) ht hT hg (by with_unfolding_all rfl)
def sT(b:Mp)(lo hi:Option Int):Mp:=(b.drop (HT.sIx b.length 0 lo)).take (HT.sIx b.length b.length hi-HT.sIx b.length 0 lo)
theorem sI(b:Mp)(lo hi:Option Int):(sT b lo hi).length<=b.length:=by
 unfold sT;rw[length_take,List.length_drop];omega
inductive rSlT(K:Ma)(x:V)(lo:Option Int)(hi:Option Int)(H:Hp)(Q:VK):Prop
 |mk:∀a xs,x = .ref a->SqT K H a xs->(¬(HT.sIx xs.length 0 lo=0/\HT.sIx xs.length xs.length hi=xs.length))->(∀p,H p=none->Q (.ref p) (upd H p (.tup (sT xs lo hi))))->rSlT K x lo hi H Q
theorem LN:SlR X (rSlT X.K):=by
 intro n s E H x v G J lo hi L Q I u y z B h;obtain⟨a,g,rfl,D,hw,q⟩:=h;cases u;obtain⟨m,r,p,t⟩:=I.tuple D;have f:m.toArray.size=g.length:=by rw[size_toArray];exact r.length.symm
 refine⟨"tuple",_,PyProof.Rows.slot_tuple_getitem.lookup,p.typeIs,?_⟩;refine HT.pV p y z B (by rw[f];exact hw) ?_ (by rw[f];exact t);rw[f];refine⟨.ref s.heap.objs.size,_,I.laid (t':=s.toks) (o:=.tup (sT g lo hi)) (λb O q=>get?_push_of_some _ q) (le_refl _) ?_,rfl,q _ (I.hok.fresh (le_refl _))⟩;exact⟨le_trans (sI g lo hi) t,_,(r.drop (HT.sIx g.length 0 lo)).take (HT.sIx g.length g.length hi-HT.sIx g.length 0 lo),IsTup.new _ _⟩
inductive Kj(K:Ma)(x:V)(y:V)(H:Hp)(Q:VK):Prop
 |mk:∀a b xs ys,x = .ref a->y = .ref b->SqT K H a xs->SqT K H b ys->xs≠[]->xs.length+ys.length<=sizeLine->(ys=[]->Q (.ref a) H)->(ys≠[]->∀p,H p=none->Q (.ref p) (upd H p (.tup (xs++ys))))->Kj K x y H Q
theorem cE.nil_iff(r:cE b f):f=[] ↔ b=[]:=by
 cases r with
 |nil=>simp
 |cons _ _=>simp
theorem Jm:OpR X (binaryOp .Add) (Kj X.K):=by
 intro m s S H x y v u Q I r t h;obtain⟨a,b,B,D,rfl,rfl,E,G,J,n,L,N⟩:=h;cases r;cases t;obtain⟨O,g,R,_⟩:=I.tuple E;obtain⟨p,f,p2,_⟩:=I.tuple G;refine HT.KL R p2 (λz=>J (g.nil_iff.mp z)) (λz=>⟨.ref a,H,I,rfl,L (f.nil_iff.mp z)⟩) (λz=>?_) (by rw[<- g.length,<- f.length];exact n);refine⟨.ref s.heap.objs.size,_,I.laid (t':=s.toks) (o:=.tup (B++D)) (λb V q=>get?_push_of_some _ q) (le_refl _) ?_,rfl,N (λw=>z (f.nil_iff.mpr w)) _ (I.hok.fresh (le_refl _))⟩;exact⟨by rw[length_append];exact n,_,g.append f,IsTup.new _ _⟩
end
def ixN(n:Nat)(i:Int):Option Nat:=if 0<=i then (if i<n then some i.toNat else none) else if -(n:Int)<=i then some (i+n).toNat else none
def atI{b : Type}(e:List b)(i:Int):Option b:=(ixN e.length i).bind λj=>e[j]?
theorem J9(h:ixN n i=some j):seqIndex? i n=some j/\j<n/\-(n:Int)<=i/\i<n:=by
 unfold ixN at h;by_cases f:0<=i
 ·rw[if_pos f]at h;by_cases b:i<n
  ·rw[if_pos b]at h;have e:i.toNat=j:=Option.some.inj h;exact⟨by rw[seqIndex_of f b,e],by omega,by omega,b⟩
  ·rw[if_neg b]at h;cases h
 ·rw[if_neg f]at h;by_cases b:-(n:Int)<=i
  ·rw[if_pos b]at h;have e:(i+n).toNat=j:=Option.some.inj h;exact⟨by rw[seqIndex_neg (by omega) b,e],by omega,b,by omega⟩
  ·rw[if_neg b]at h;cases h
theorem Em{f : Type}{b:List f}{i:Int}{v:f}(h:atI b i=some v):∃j,seqIndex? i b.length=some j/\b[j]? = some v/\j<b.length/\-(b.length:Int)<=i/\i<b.length:=by
 unfold atI at h;cases e:ixN b.length i with
 |none=>rw[e]at h;cases h
 |some j=>
  rw[e]at h;obtain⟨g,m,n,o⟩:=J9 e;exact⟨j,g,h,m,n,o⟩
theorem cO{f : Type}{b:List f}{j:Nat}{v:f}(h:b[j]? = some v):atI b (j:Int)=some v:=by
 have hj:j<b.length:=(List.getElem?_eq_some_iff.mp h).1;have e:ixN b.length (j:Int)=some j:=by
  unfold ixN;rw[if_pos (by omega),if_pos (by omega)];simp
 unfold atI;rw[e];exact h
theorem CP{f : Type}(b:List f)(v:f):atI (b++[v]) (-1)=some v:=by
 have g:(b++[v]).length=b.length+1:=by simp
 have e:ixN (b++[v]).length (-1)=some b.length:=by
  unfold ixN;rw[g,if_neg (by decide),if_pos (by omega)];congr 1;omega
 unfold atI;rw[e];show (b++[v])[b.length]? = some v;simp
def KQ(b:Expr):Prop:=∀o i,subscripted b false o i=operate [o,i] (getItem o i)
def IxR(X:Cx)(r:R2):Prop:=
 ∀(f b:Expr)(e:Mb)(s:Shared)(g : St)(H:Hp)(x y:V)(v u:Value)(Q:VK),Inv X e g H s->cD x v->cD y u->r x y H Q->
  subscripted b false v u=operate [v,u] (getItem v u)->wpAny (model X.prog X.w) X.A (subscriptTail f b v u) (EP X e g Q) X.xe s
def MtR(X:Cx)(id:String)(r:V->Mp->Hp->VK->Prop):Prop:=
 ∀b s e H(x:V)(f:Mp)(v:Value)(g:Mh)(Q:VK),Inv X b e H s->cD x v->cE f g->r x f H Q->
  wpAny (model X.prog X.w) X.A (call (.builtin id) (v::g)) (EP X b e Q) X.xe s
section
variable{X:Cx}{a b:Expr}{ta tb:TE}{pos:Pos}
theorem cG{r:R2}(hr:IxR X r)(f:PE X a ta)(g:PE X b tb)(m:KQ b):PE X (.Subscript a b pos) (tOp r ta tb):=by
 intro e s n H Q I h;exact Subscript_ (MS f g I h λv u s2 x y H2 o p t q=>hr a b e s2 n H2 x y v u Q o p t q (m _ _))
inductive JX(K:Ma)(x:V)(y:V)(H:Hp)(Q:VK):Prop
 |mk:∀p xs i v,x = .ref p->y = .int i->SqL K H p xs->atI xs i=some v->Q v H->JX K x y H Q
inductive LT(K:Ma)(x:V)(y:V)(H:Hp)(Q:VK):Prop
 |mk:∀p xs i v,x = .ref p->y = .int i->SqT K H p xs->atI xs i=some v->Q v H->LT K x y H Q
theorem J8:IxR X (JX X.K):=by
 intro g m e s D H x y v u Q I L N h E;obtain⟨p,Z,i,z,rfl,rfl,O,R,q⟩:=h;cases L;obtain⟨t,rfl⟩:=N;obtain⟨n,r,o,hz⟩:=I.list O;obtain⟨j,f,S,h3,U,V⟩:=Em R;obtain⟨w,G,B⟩:=r.get S;have W:=r.length;have hn:=vO;have fin:EP X e D Q w s:=⟨z,H,I,B,q⟩;by_cases J:0<=i
 ·have hj:i.toNat=j:=by
   rw[seqIndex_of J V]at f;exact Option.some.inj f
  exact item_listR o.isList J (by omega) (by rw[hj];simpa using G) fin E
 ·have hj:(i+(n.toArray.size:Int)).toNat=j:=by
   rw[seqIndex_neg (by omega) U]at f;rw[size_toArray,<- W];exact Option.some.inj f
  exact subscriptTail_builtinR (x:=w) o.isList.typeIs slot_list_getitem.lookup
   (wpAny_getItem_list_neg (Q:=λr Y=>r=w/\EP X e D Q r Y) o.isList (by omega) (by rw[size_toArray] <;> omega) (by omega) (by rw[hj];simpa using G) ⟨rfl,fin⟩) E
theorem MA:IxR X (LT X.K):=by
 intro f g e s n H x y v u Q I B D h E;obtain⟨p,V,i,z,rfl,rfl,G,J,q⟩:=h;cases B;obtain⟨t,rfl⟩:=D;obtain⟨L,r,o,W⟩:=I.tuple G;obtain⟨j,N,O,Y,Z,h5⟩:=Em J;obtain⟨w,R,m⟩:=r.get O;have S:=r.length;have hn:=vO;have fin:EP X e n Q w s:=⟨z,H,I,m,q⟩;exact subscriptTail_builtinR (x:=w) o.typeIs slot_tuple_getitem.lookup
  (getItem_tuple (j:=j) (Q:=λr U=>r=w/\EP X e n Q r U) o (by omega) (by omega) (by rw[size_toArray,<- S];exact N) (by simpa using R) ⟨rfl,fin⟩) E
theorem z9(lo e:Option Int)(n:Nat):(sliceBounds lo e none n).1=((HT.sIx n 0 lo:Nat):Int)/\(sliceBounds lo e none n).2.1=((HT.sIx n n e:Nat):Int)/\(sliceBounds lo e none n).2.2=1:=by
 refine⟨?_,?_,rfl⟩
 ·cases lo with
  |none=>simp [sliceBounds,HT.sIx]
  |some i=>
   simp only[sliceBounds,HT.sIx,Option.getD_none,show (1:Int) > 0 by decide,if_true];by_cases h:i<0
   ·simp only[h,if_true] <;> omega
   ·simp only[h,if_false] <;> omega
 ·cases e with
  |none=>simp [sliceBounds,HT.sIx]
  |some i=>
   simp only[sliceBounds,HT.sIx,Option.getD_none,show (1:Int) > 0 by decide,if_true];by_cases h:i<0
   ·simp only[h,if_true] <;> omega
   ·simp only[h,if_false] <;> omega
theorem wN(e:Mh)(lo f:Option Int):slicePick e.toArray lo f none=((e.drop (HT.sIx e.length 0 lo)).take (HT.sIx e.length e.length f-HT.sIx e.length 0 lo)).toArray:=by
 obtain⟨g,m,n⟩:=z9 lo f e.toArray.size;unfold slicePick;rw[g,m,n];simp only[sliceRange_one,pick_run,size_toArray] <;> rfl
inductive LR(K:Ma)(x:V)(lo:Option Int)(hi:Option Int)(H:Hp)(Q:VK):Prop
 |mk:∀a xs,x = .ref a->SqL K H a xs->(∀p,H p=none->Q (.ref p) (upd H p (.lst (sT xs lo hi))))->LR K x lo hi H Q
theorem JL:SlR X (LR X.K):=by
 intro m s E H x v G J lo g L Q I p t u y h;obtain⟨a,e,rfl,z,q⟩:=h;cases p;obtain⟨B,r,n,D⟩:=I.list z;have f:=r.length;refine⟨"list",_,slot_list_getitem.lookup,n.isList.typeIs,?_⟩;refine wpAny_getItem_list_slice n.isList t u y .none (by simp) ?_ (by rw[size_toArray] <;> omega);rw[wN,<- f];refine⟨.ref s.heap.objs.size,_,I.laid (t':=s.toks) (o:=.lst (sT e lo g)) (λb O q=>get?_push_of_some _ q) (le_refl _) ?_,rfl,q _ (I.hok.fresh (le_refl _))⟩;exact⟨le_trans (sI e lo g) D,_,0,(r.drop (HT.sIx e.length 0 lo)).take (HT.sIx e.length e.length g-HT.sIx e.length 0 lo),get?_push_size _ rfl⟩
def nU:V->Bool
 | .non=>true
 | .bl _=>true
 | .int _=>true
 | .str _=>true
 |_=>false
def eqV:V->V->Bool
 | .non,.non=>true
 | .bl a,.bl b=>a == b
 | .bl a,.int b=>(if a then 1 else 0) == b
 | .int a,.bl b=>a == (if b then 1 else 0)
 | .int a,.int b=>a == b
 | .str a,.str b=>a == b
 |_,_=>false
theorem MM(g:cD y u)(e:cD x v)(n:nU y=true)(m:nU x=true):SeqAt.EqAt A s u v (eqV y x):=by
 cases y with
 |non=>
  cases g;cases x with
  |non=>cases e;exact SeqAt.EqAt.same _
  |bl b=>cases e;exact SeqAt.EqAt.none_bool b
  |int b=>obtain⟨t,rfl⟩:=e;exact SeqAt.EqAt.none_int b t
  |str b=>obtain⟨t,rfl⟩:=e;exact SeqAt.EqAt.none_str b t
  |_=>exact absurd (show false=true from m) Bool.false_ne_true
 |bl a=>
  cases g;cases x with
  |non=>cases e;exact SeqAt.EqAt.bool_none a
  |bl b=>cases e;exact SeqAt.EqAt.bool_bool a b
  |int b=>obtain⟨t,rfl⟩:=e;exact SeqAt.EqAt.bool_int a b t
  |str b=>obtain⟨t,rfl⟩:=e;exact SeqAt.EqAt.bool_str a b t
  |_=>exact absurd (show false=true from m) Bool.false_ne_true
 |int a=>
  obtain⟨f,rfl⟩:=g;cases x with
  |non=>cases e;exact SeqAt.EqAt.int_none a f
  |bl b=>cases e;exact SeqAt.EqAt.int_bool a f b
  |int b=>obtain⟨t,rfl⟩:=e;exact SeqAt.EqAt.int_int a f b t
  |str b=>obtain⟨t,rfl⟩:=e;exact SeqAt.EqAt.int_str a f b t
  |_=>exact absurd (show false=true from m) Bool.false_ne_true
 |str a=>
  obtain⟨f,rfl⟩:=g;cases x with
  |non=>cases e;exact SeqAt.EqAt.str_none a f
  |bl b=>cases e;exact SeqAt.EqAt.str_bool a f b
  |int b=>obtain⟨t,rfl⟩:=e;exact SeqAt.EqAt.str_int a f b t
  |str b=>obtain⟨t,rfl⟩:=e;exact SeqAt.EqAt.str_str a f b t
  |_=>exact absurd (show false=true from m) Bool.false_ne_true
 |_=>exact absurd (show false=true from n) Bool.false_ne_true
def eqU(x:V)(u:Value):Bool:=match u with
 | .none=>eqV .non x
 | .bool b=>eqV (.bl b) x
 | .int i _=>eqV (.int i) x
 | .str z _=>eqV (.str z) x
 |_=>false
theorem IV(r:cD y u)(f:nU y=true):eqU x u=eqV y x:=by
 cases y with
 |non=>cases r;rfl
 |bl b=>cases r;rfl
 |int i=>obtain⟨t,rfl⟩:=r;rfl
 |str z=>obtain⟨t,rfl⟩:=r;rfl
 |_=>exact absurd (show false=true from f) Bool.false_ne_true
theorem qE:∀{e:Mp}{g:Mh},cE e g->e.all nU=true->g.any (eqU x)=e.any λy=>eqV y x
 |_,_,.nil,_=>rfl
 |y::e,u::g,.cons r t,f=>by
  rw[all_cons,and_eq_true]at f;rw[any_cons,any_cons,IV r f.1,qE t f.2]
theorem mH(n:cD x v)(o:nU x=true):∀{g:Mp}{m:Mh},cE g m->g.all nU=true->∀u∈m,SeqAt.EqAt A s u v (eqU x u)
 |_,_,.nil,_=>λu e=>by cases e
 |y::g,u::m,.cons r t,f=>λp e=>by
  rw[all_cons,and_eq_true]at f;rcases mem_cons.mp e with rfl |e
  ·rw[IV r f.1];exact MM r n f.1 o
  ·exact mH n o t f.2 p e
def inV(x:V)(e:Mp):Bool:=e.any λy=>eqV y x
inductive rIn(K:Ma)(neg:Bool)(x:V)(y:V)(H:Hp)(Q:VK):Prop
 |mk:∀p xs,y = .ref p->(SqL K H p xs\/SqT K H p xs)->nU x=true->xs.all nU=true->Q (.bl (if neg then !inV x xs else inV x xs)) H->rIn K neg x y H Q
theorem FG:OpR X (compareOp .In) (rIn X.K false):=by
 intro n s D H x y v u Q I o z h;obtain⟨p,E,rfl,f,t,g,q⟩:=h;cases z;rcases f with f |f
 ·obtain⟨e,r,m,B⟩:=I.list f;refine SeqAt.in_listAt (eqU x) m.isList (λw hw=>mH o t r g w (by simpa using hw)) ⟨.bl _,H,I,rfl,?_⟩;rw[show e.toArray.any (eqU x)=e.any (eqU x) by simp,qE r g];exact q
 ·obtain⟨e,r,m,B⟩:=I.tuple f;refine SeqAt.in_tupleAt (eqU x) m (λw hw=>mH o t r g w (by simpa using hw)) ⟨.bl _,H,I,rfl,?_⟩;rw[show e.toArray.any (eqU x)=e.any (eqU x) by simp,qE r g];exact q
theorem AH:OpR X (compareOp .NotIn) (rIn X.K true):=by
 intro n s D H x y v u Q I o z h;obtain⟨p,E,rfl,f,t,g,q⟩:=h;cases z;rcases f with f |f
 ·obtain⟨e,r,m,B⟩:=I.list f;refine SeqAt.notIn_listAt (eqU x) m.isList (λw hw=>mH o t r g w (by simpa using hw)) ⟨.bl _,H,I,rfl,?_⟩;rw[show e.toArray.any (eqU x)=e.any (eqU x) by simp,qE r g];exact q
 ·obtain⟨e,r,m,B⟩:=I.tuple f;refine SeqAt.notIn_tupleAt (eqU x) m (λw hw=>mH o t r g w (by simpa using hw)) ⟨.bl _,H,I,rfl,?_⟩;rw[show e.toArray.any (eqU x)=e.any (eqU x) by simp,qE r g];exact q
theorem Ak:gP X (.builtin "len") (λt H Q=>∃p f,t=[.ref p]/\(SqL X.K H p f\/SqT X.K H p f)/\Q (.int f.length) H):=by
 intro x s B H t D Q I r h;obtain⟨p,f,rfl,g,q⟩:=h;obtain⟨u,rfl,y⟩:=wZ r;cases y;have E:=vO;rcases g with g |g
 ·obtain⟨m,n,o,z⟩:=I.list g;have e:=n.length;exact Calls.call_len_list o.isList (by simp only[size_toArray] <;> omega) ⟨.int f.length,H,I.tok _,⟨s.toks+1,by rw[size_toArray,e]⟩,q⟩
 ·obtain⟨m,n,o,z⟩:=I.tuple g;have e:=n.length;exact len_tuple o (by simp only[size_toArray] <;> omega) ⟨.int f.length,H,I.tok _,⟨s.toks+1,by rw[size_toArray,e]⟩,q⟩
theorem Aj:gP X (.builtin "len") (λe H Q=>∃z,e=[.str z]/\z.length<=sizeLine/\Q (.int z.length) H):=by
 intro f s g H e m Q I r h;obtain⟨z,rfl,n,q⟩:=h;obtain⟨u,rfl,t,rfl⟩:=wZ r;have o:=vO;exact len_str (by omega) ⟨.int z.length,H,I.tok _,⟨_,rfl⟩,q⟩
theorem wV:gP X (.type "tuple") (λB H Q=>∃p m,B=[.ref p]/\((SqL X.K H p m/\∀l,H l=none->Q (.ref l) (upd H l (.tup m)))\/(SqT X.K H p m/\Q (.ref p) H))):=by
 intro f s D H B U Q I r h;obtain⟨p,m,rfl,h⟩:=h;obtain⟨u,rfl,N⟩:=wZ r;cases N;rcases h with ⟨x,q⟩ | ⟨x,q⟩
 ·obtain⟨g,y,z,E⟩:=I.list x;have G:=y.length;refine call_tuple_list z.isList (λt kp=>?_) (by simp only[size_toArray] <;> omega);have J:Inv X f D H {s with heap:=t}:=I.kept (t':=s.toks) kp;have R:Inv X f D (upd H t.objs.size (.tup m)) {s with heap:=t.push {cls:=.type "tuple",data:=.seq g.toArray} }:=
   J.laid (t':=s.toks) (λb o e=>get?_push_of_some _ e) (le_refl _) (show eG X.prog X.w _ _ _ (.tup m) from ⟨E,g,y,IsTup.new _ _⟩)
  exact⟨.ref t.objs.size,_,R,rfl,q _ (J.hok.fresh (le_refl _))⟩
 ·obtain⟨g,y,z,E⟩:=I.tuple x;exact call_tuple_same z ⟨.ref p,H,I,rfl,q⟩
def tyV(K:Ma)(T:String)(x:V)(H:Hp):Prop:=match x with
 | .str _=>T = "str"
 | .int _=>T = "int"
 | .ref p=>(T = "list"/\∃f,SqL K H p f)\/(T = "tuple"/\∃o,K.lookup p=some o/\o.cls = .type "tuple"/\o.dict=none)\/
   (T = "dict"/\((∃e,H p=some (.dK e))\/∃e,H p=some (.dT e)))\/(T = "set"/\∃S n,H p=some (.set S n))
 |_=>False
theorem Kz(I:Inv X u J H s)(r:cD x v)(ty:tyV X.K T x H) :
  s.TypeIs v T/\∀a,v = .ref a->∃y,s.heap.get? a=some y/\y.dict=none:=by
 cases x with
 |str z=>
  obtain⟨t,rfl⟩:=r;cases (show T = "str" from ty);exact⟨typeIs_str s z t,λ_ e=>nomatch e⟩
 |int i=>
  obtain⟨t,rfl⟩:=r;cases (show T = "int" from ty);exact⟨typeIs_int s i t,λ_ e=>nomatch e⟩
 |ref p=>
  cases r;rcases ty with ⟨rfl,L,D⟩ | ⟨rfl,o,f,E,g⟩ | ⟨rfl,f⟩ | ⟨rfl,S,n,f⟩
  ·obtain⟨G,_,B,_⟩:=I.list D;refine⟨B.isList.typeIs,λa e=>?_⟩;cases e;obtain⟨o,n,e,c,g,_⟩:=B;exact⟨o,e,g⟩
  ·refine⟨⟨o,I.kIn p o f,E⟩,λa e=>?_⟩;cases e;exact⟨o,I.kIn _ o f,g⟩
  ·have z:∃o,s.heap.get? p=some o/\o.ExactDict:=by
    rcases f with ⟨m,f⟩ | ⟨m,f⟩
    ·obtain⟨_,_,_,_,o,_,_,e,ex,_⟩:=I.hok p _ f;exact⟨o,e,ex⟩
    ·obtain⟨_,_,_,_,o,_,_,e,ex,_⟩:=I.hok p _ f;exact⟨o,e,ex⟩
   obtain⟨o,e,ex⟩:=z;refine⟨⟨o,e,ex.1⟩,λa q=>?_⟩;cases q;exact⟨o,e,ex.2.1⟩
  ·obtain⟨o,_,_,_,e,ex,_⟩:=I.hok p _ f;refine⟨⟨o,e,ex.1⟩,λa q=>?_⟩;cases q;exact⟨o,e,ex.2.1⟩
 |_=>exact False.elim ty
abbrev tBM_2(r:V->Mp->Hp->VK->Prop)(Q:VK)(x:V):Mp->Hp->Prop:=λe H2=>r x e H2 Q
abbrev tBM_1(K:Ma)(T:String)(r:V->Mp->Hp->VK->Prop)(t:TA)(f : St)(Q:VK):V->Hp->Prop:=λx e=>tyV K T x e/\t f e (tBM_2 r Q x)
def tBM(K:Ma)(T:String)(r:V->Mp->Hp->VK->Prop)(f:TE)(t:TA):TE:=λe H Q=>f e H (tBM_1 K T r t e Q)
variable{o e:Expr}{es:List Expr}{to:TE}{t:TA}{name:Str}{apos cpos:Pos}{T id:String}{r:V->Mp->Hp->VK->Prop}
theorem pe_bm(E:PlainAttrs T)(slot:Slot T name id)(q:typeOf (.builtin id)=pure (.type "method_descriptor"))(G:MtR X id r)(J:PE X o to)(L:PA X (e::es) t)
  (m:attributeBase o name X.env (eval o X.env)=eval o X.env:=by rfl)
  (p:((backTo cpos (starEach (e::es) X.env)).all (λx=>!x.1) && (backToKw cpos (keywordEach [] X.env)).all (λx=>x.1.isSome)
   && decide ((e::es).length+([]:List Keyword).length+(if ([]:List Keyword).isEmpty then 0 else 1)<30))=true:=by rfl)
  (n:(apos.endLine == cpos.line)=true:=by rfl) (N:starEach (e::es) X.env=(false,eval e X.env)::starEach es X.env:=by rfl) (g:(backTo cpos (starEach es X.env)).any (·.1)=false:=by rfl) :
  PE X (.Call (.Attribute o name apos) (e::es) [] cpos) (tBM X.K T r to t):=by
 intro f s u H Q I h;refine wpAny_Call_method_late m p n rfl (thn (J f s u H _ I h) λv O y=>?_);obtain⟨x,R,z,B,ty,S⟩:=y;obtain⟨U,V⟩:=Kz z B ty;refine⟨T,id,E,slot,q,U,V,?_⟩;have D:=L cpos f O u R _ z S;rw[N]at D⊢;refine Calls.callWith_builtin (by show (false || (backTo cpos (starEach es X.env)).any (·.1))=false;rw[g] <;> rfl) (Calls.evalArgs_plain ?_);exact thn D λW s2 ⟨Y,H2,Z,r2,q2⟩=>G f s2 u H2 x Y v W Q Z B r2 q2
end
def MtM(X:Cx)(id:String)(r:V->Mp->Hp->VK->Prop):Prop:=
 ∀b s e H(x:V)(f:Mp)(v:Value)(g:Mh)(Q:VK),Inv X b e H s->cD x v->cE f g->r x f H Q->
  wpAny (model X.prog X.w) X.A (call (.builtin id) (v::g)) (EP X b e Q) X.xe s
theorem cE.one:∀{x:V}{b:Mh},cE [x] b->∃u,b=[u]/\cD x u
 |_,_,.cons r .nil=>⟨_,rfl,r⟩
section
variable{X:Cx}{pins:Mb}{σ : St}{H:Hp}{s:Shared}{l b:Addr}{xs ys zs:Mp}
theorem Inv.lset{g its':Mh}{n:Nat}{f:Array Value->Array Value}{r:Nat}(I:Inv X pins σ H s)(t:H l=some (.lst xs))
  (e:s.heap.get? l=some {cls:=.type "list",data:=.seq g.toArray n}) (z:f g.toArray=its'.toArray) (B:cE ys its') (D:ys.length<=sizeLine) :
  Inv X pins σ (upd H l (.lst ys)) {s with heap:=s.heap.update l (Obj.mapSeq f),toks:=r}:=by
 have q:=PySem.IsL.update e f;rw[z]at q;refine I.write (x:=l) (e:=l) (by rw[t];exact trivial) (.inl rfl) (λJ u E G=>(Heap.get?_update_other s.heap (Obj.mapSeq f) (Ne.symm E)).trans G) ⟨_,q⟩ ?_;exact⟨D,its',_,B,q⟩
theorem Inv.lnew(I:Inv X pins σ H s)(n:cE ys e)(o:ys.length<=sizeLine) :
  Inv X pins σ (upd H s.heap.objs.size (.lst ys)) {s with heap:=s.heap.push {cls:=.type "list",data:=.seq e.toArray},toks:=t'}:=
 I.laid (λ_ _ q=>get?_push_of_some _ q) (le_refl _) ⟨o,e,0,n,get?_push_size _ rfl⟩
theorem Inv.fresh(I:Inv X pins σ H s):H s.heap.objs.size=none:=I.hok.fresh (le_refl _)
theorem Inv.lstM(I:Inv X pins σ H s)(m:H l=some (.lst xs)):xs.length<=sizeLine/\∃(f:Mh) (n:Nat),cE xs f/\xs.length=f.length/\s.heap.get? l=some {cls:=.type "list",data:=.seq f.toArray n}:=by
 obtain⟨z,f,n,r,e⟩:=I.hok l _ m;exact⟨z,f,n,r,r.length,e⟩
end
section
variable{X:Cx}
inductive EE(x:V)(vs:Mp)(H:Hp)(Q:VK):Prop
 |mk:∀l xs y,x = .ref l->vs=[y]->H l=some (.lst xs)->xs.length<sizeLine->Q .non (upd H l (.lst (xs++[y])))->EE x vs H Q
theorem iM:MtM X "list.append" EE:=by
 intro f s B H x D v E Q I o p h;obtain⟨l,G,y,rfl,rfl,g,J,q⟩:=h;cases o;obtain⟨u,rfl,t⟩:=p.one;obtain⟨z,b,n,r,L,e⟩:=I.lstM g;refine call_meets F.slot_list_append ⟨_,e,rfl⟩ F.entry_list_append (F.args_list_append_2 _ _) (PySem.list_append l b.toArray n u (by rw[size_toArray];omega)) ⟨e,?_⟩;refine⟨.non,_,I.lset (its':=b++[u]) g e (by simp) (r.append (.cons t .nil)) ?_,rfl,q⟩;rw[length_append,List.length_singleton];omega
inductive LW(x:V)(y:V)(H:Hp)(Q:VK):Prop
 |mk:∀l b xs zs,x = .ref l->y = .ref b->H l=some (.lst xs)->H b=some (.lst zs)->xs.length+zs.length<=sizeLine->(∀p,H p=none->Q (.ref p) (upd H p (.lst (xs++zs))))->LW x y H Q
theorem Cv:OpR X (binaryOp .Add) LW:=by
 intro m s L H x y v u Q I o p h;obtain⟨l,b,N,O,rfl,rfl,t,B,R,q⟩:=h;cases o;cases p;obtain⟨z,g,n,r,S,e⟩:=I.lstM t;obtain⟨U,f,V,D,E,G⟩:=I.lstM B;refine PySem.P.add_list e G ?_ (by rw[size_toArray,size_toArray];omega);have J:g.toArray++f.toArray=(g++f).toArray:=by simp
 rw[J];exact⟨.ref _,_,I.lnew (t':=s.toks) (r.append D) (by rw[length_append];omega),rfl,q _ I.fresh⟩
end
section
variable{prog:Program}{w:World}{A:Around}{E:Mm}{s:Shared}
end
section
variable{X:Cx}
end
section
variable{κ : Type} [DecidableEq κ]
def dD(b:List (κ×V))(k:κ):Option V:=(b.find? λe=>decide (e.1=k)).map (·.2)
def eJ(b:List (κ×V))(k:κ)(v:V):List (κ×V):=
 if (b.any λe=>decide (e.1=k))=true then b.map (λe=>if e.1=k then (e.1,v) else e) else b++[(k,v)]
def fA(b:List (κ×V))(k:κ):List (κ×V):=b.filter λe=>decide (e.1≠k)
theorem iO{p:κ×V}{r:List (κ×V)}{k:κ}(e:p.1=k):dD (p::r) k=some p.2:=by simp [dD,find?_cons,e]
theorem iP{p:κ×V}{r:List (κ×V)}{k:κ}(e:¬p.1=k):dD (p::r) k=dD r k:=by simp [dD,find?_cons,e]
theorem oK(k:κ):∀b:List (κ×V),(b.any λf=>decide (f.1=k))=(dD b k).isSome
 |[]=>rfl
 |p::r=>by
  rw[any_cons];by_cases e:p.1=k
  ·simp only[iO e,decide_eq_true e,Bool.true_or,Option.isSome_some]
  ·rw[iP e,decide_eq_false e,Bool.false_or];exact oK k r
theorem mK(b:List (κ×V))(k:κ)(v:V):(eJ b k v).length<=b.length+1:=by
 unfold eJ;split
 ·rw[length_map];omega
 ·rw[length_append,length_cons,length_nil];omega
theorem BT{b:List (κ×V)}{k:κ}(v:V)(h:dD b k=none):eJ b k v=b++[(k,v)]:=by
 unfold eJ;rw[oK,h];exact if_neg (by decide)
theorem kO.isSome_eq(r:kO o u):o.isSome=u.isSome:=by
 cases o with
 |none=>cases u with
  |none=>rfl
  |some _=>exact(show False from r).elim
 |some _=>cases u with
  |none=>exact(show False from r).elim
  |some _=>rfl
theorem kO.getD(r:kO o u)(b:cD d e):cD (o.getD d) (u.getD e):=by
 cases o with
 |none=>cases u with
  |none=>exact b
  |some _=>exact(show False from r).elim
 |some _=>cases u with
  |none=>exact(show False from r).elim
  |some _=>exact r
theorem KV.val{f:List (κ×V)}{n:List (κ×Value)}(r:KV f n)(k:κ):kO (dD f k) (valueAt n k):=by
 unfold KV at r
 induction r with
 |nil=>exact True.intro
 | @cons p q x g h t s=>
  obtain⟨o,u⟩:=h;by_cases e:p.1=k
  ·have m:q.1=k:=o.symm.trans e;have b:valueAt (q::g) k=some q.2:=by simp [valueAt,find?_cons,m]
   rw[iO e,b];exact u
  ·have m:¬q.1=k:=λz=>e (o.trans z);have b:valueAt (q::g) k=valueAt g k:=by simp [valueAt,find?_cons,m]
   rw[iP e,b];exact s
theorem KV.any(r:KV b f)(k:κ):(b.any λe=>decide (e.1=k))=f.any λe=>decide (e.1=k):=by
 unfold KV at r
 induction r with
 |nil=>rfl
 |cons h t g=>rw[any_cons,any_cons,g,h.1]
theorem KV.repl(r:KV g m)(k:κ)(n:cD y u) :
  KV (g.map λb=>if b.1=k then (b.1,y) else b) (m.map λb=>if b.1=k then (b.1,u) else b):=by
 unfold KV at r⊢
 induction r with
 |nil=>exact .nil
 | @cons p q x B h t o=>
  rw[map_cons,map_cons];refine .cons ?_ o;obtain⟨f,s⟩:=h;by_cases e:p.1=k
  ·rw[if_pos e,if_pos (f.symm.trans e)];exact⟨f,n⟩
  ·rw[if_neg e,if_neg (λz=>e (f.trans z))];exact⟨f,s⟩
theorem KV.put(r:KV b f)(k:κ)(g:cD y u):KV (eJ b k y) (stored f k u):=by
 unfold eJ stored;rw[r.any k];by_cases e:(f.any λm=>decide (m.1=k))=true
 ·rw[if_pos e,if_pos e];exact r.repl k g
 ·rw[if_neg e,if_neg e];exact Paired.snoc r ⟨rfl,g⟩
theorem KV.drop(r:KV f n)(k:κ):KV (fA f k) (without n k):=by
 unfold KV at r⊢;unfold fA without
 induction r with
 |nil=>exact .nil
 | @cons p q u x h t m=>
  obtain⟨g,o⟩:=h;rw[filter_cons,filter_cons];by_cases e:p.1=k
  ·have a:¬decide (p.1≠k)=true:=by simp [e]
   have b:¬decide (q.1≠k)=true:=by simp [g.symm.trans e]
   rw[if_neg a,if_neg b];exact m
  ·have s:¬q.1=k:=λz=>e (g.trans z);have a:decide (p.1≠k)=true:=by simp [e]
   have b:decide (q.1≠k)=true:=by simp [s]
   rw[if_pos a,if_pos b];exact .cons ⟨g,o⟩ m
theorem KV.length(r:KV b e):b.length=e.length:=Paired.length r
theorem IY(b:List (κ×V))(k:κ):(fA b k).length<=b.length:=length_filter_le _ _
end
theorem nS(r:cD (kV k) u):(bI P w).is k u=true:=by
 cases k with
 |inl i=>obtain⟨t,e⟩:=(show ∃t,u=Value.int i t from r);subst e;exact Br P w i t
 |inr x=>obtain⟨t,e⟩:=(show ∃t,u=Value.str x t from r);subst e;exact Bq P w x t
theorem yP:∀{b:List Key}{e:Mh},cE (b.map kV) e->ItemsAre (bI P w) b e
 |[],_,r=>by rw[map_nil]at r;cases r;exact .nil
 |k::b,_,r=>by
  rw[map_cons]at r;cases r with
  |cons h t=>exact .cons (nS h) (yP t)
abbrev KT(H:Hp):List (List Key×V)->List (List Key×Addr×Value)->Prop:=Paired λp q=>p.1=q.1/\H q.2.1=some (.tup (p.1.map kV))/\cD p.2 q.2.2
theorem KT.val{H:Hp}{f:List (List Key×V)}{n:List (List Key×Addr×Value)}(r:KT H f n)(k:List Key):kO (dD f k) ((atKey n k).map (·.2)):=by
 induction r with
 |nil=>exact True.intro
 | @cons p q x g h t s=>
  obtain⟨o,_,u⟩:=h;by_cases e:p.1=k
  ·have m:q.1=k:=o.symm.trans e;have b:atKey (q::g) k=some q.2:=by simp [atKey,find?_cons,m]
   rw[iO e,b];exact u
  ·have m:¬q.1=k:=λz=>e (o.trans z);have b:atKey (q::g) k=atKey g k:=by simp [atKey,find?_cons,m]
   rw[iP e,b];exact s
theorem KT.repl(r:KT H f n)(k:List Key)(o:cD y u) :
  KT H (f.map λg=>if g.1=k then (g.1,y) else g) (n.map (putAt k u)):=by
 induction r with
 |nil=>exact .nil
 | @cons p q B D h t s=>
  rw[map_cons,map_cons];refine .cons ?_ s;obtain⟨b,m,x⟩:=h;unfold putAt;by_cases e:p.1=k
  ·rw[if_pos e,if_pos (b.symm.trans e)];exact⟨b,m,o⟩
  ·rw[if_neg e,if_neg (λz=>e (b.trans z))];exact⟨b,m,x⟩
theorem KT.put(r:KT H f g)(k:List Key)(n:H b=some (.tup (k.map kV)))(m:cD y u) :
  KT H (eJ f k y) (storedH g k b u):=by
 have e:(f.any λo=>decide (o.1=k))=(atKey g k).isSome:=by
  rw[oK,(r.val k).isSome_eq,Option.isSome_map]
 unfold eJ storedH;rw[e];by_cases q:(atKey g k).isSome=true
 ·rw[if_pos q,if_pos q];exact r.repl k m
 ·rw[if_neg q,if_neg q];exact Paired.snoc r ⟨rfl,n,m⟩
theorem KT.keeps(r:KT H e g)(m:∀b f,H b=some (.tup f)->n b=some (.tup f)):KT n e g:=
 Paired.mapP r λ_ _ z=>⟨z.1,m _ _ z.2.1,z.2.2⟩
section
variable{P:Program}{w:World}{H:Hp}{h:Heap}{a:Addr}
theorem Ki(ok:HOk P w H h)(e:Rd H a u):eG P w H h a u:=e.ok ok
theorem y7(ok:HOk P w H h)(e:Rd H a (.dK b)):b.length<=sizeLine/\(a == sysModules)=false/\∃f,KV b f/\h.DictOf (bI P w) a f:=
 show eG P w H h a (.dK b) from Ki ok e
theorem sF(ok:HOk P w H h)(e:H a=some (.dK b)):b.length<=sizeLine/\(a == sysModules)=false/\∃f,KV b f/\h.DictOf (bI P w) a f:=y7 ok (.inl e)
theorem oH(ok:HOk P w H h)(e:H a=some (.tup (ks.map kV))):(tupleKind (bI P w)).is h ks a:=by
 obtain⟨_,b,r,o,f,g,n,m⟩:=(show eG P w H h a (.tup (ks.map kV)) from ok a _ e);exact⟨o,b.toArray,n,f,g,m,by simpa using yP r⟩
theorem yV(ok:HOk P w H h)(e:Rd H a (.dT b)):b.length<=sizeLine/\(a == sysModules)=false/\
  ∃g,KT H b g/\h.DictOfH (tupleKind (bI P w)) a g:=by
 obtain⟨z,y,g,r,o,s,u,B,D,E,G,I⟩:=(show eG P w H h a (.dT b) from Ki ok e);refine⟨z,y,g,r,o,s,u,B,D,E,G,λx f=>?_,I⟩;have all:∀{l:List (List Key×V)}{m:List (List Key×Addr×Value)},KT H l m->∀x∈m,(tupleKind (bI P w)).is h x.1 x.2.1:=by
  intro l m q
  induction q with
  |nil=>intro x f;exact nomatch f
  | @cons p q L N n t J=>
   intro x f;rcases mem_cons.mp f with e |f
   ·subst e;exact oH ok (by rw[<- n.1];exact n.2.1)
   ·exact J x f
 exact all r x f
theorem dt_of(ok:HOk P w H h)(e:H a=some (.dT b)):b.length<=sizeLine/\(a == sysModules)=false/\
  ∃f,KT H b f/\h.DictOfH (tupleKind (bI P w)) a f:=yV ok (.inl e)
end
def cQ(H:Hp)(a:Addr)(y:V)(r:Option V):Prop:=
 (∃e k,Rd H a (.dK e)/\y=kV k/\r=dD e k)\/∃e k b,Rd H a (.dT e)/\y = .ref b/\H b=some (.tup (k.map kV))/\r=dD e k
def jQ(H:Hp)(a:Addr)(y v:V)(f:Hp):Prop:=
 (∃e k,H a=some (.dK e)/\y=kV k/\e.length<sizeLine/\f=upd H a (.dK (eJ e k v)))\/
 ∃e k b,H a=some (.dT e)/\y = .ref b/\H b=some (.tup (k.map kV))/\e.length<sizeLine/\f=upd H a (.dT (eJ e k v))
theorem cQ.k{H:Hp}{a:Addr}{b:Mn}{k:Key}(e:H a=some (.dK b)):cQ H a (kV k) (dD b k):=.inl ⟨b,k,.inl e,rfl,rfl⟩
theorem jQ.k{H:Hp}{a:Addr}{b:Mn}{k:Key}{v:V}(e:H a=some (.dK b))(f:b.length<sizeLine):jQ H a (kV k) v (upd H a (.dK (eJ b k v))):=.inl ⟨b,k,e,rfl,f,rfl⟩
section
variable{X:Cx}{pins:Mb}{σ : St}{H:Hp}{s:Shared}{a:Addr}{y v:V}{u r:Value}{o:Option V}{A:Around}{E:Mm}
theorem Inv.big(I:Inv X pins σ H s):sysModules<s.heap.objs.size:=by
 have h:mainGlobals<s.heap.objs.size:=(I.mod.glob.keeps I.bk).lt;exact lt_trans (by decide) h
theorem zB(J:A.units+1<cLine)(I:Inv X pins σ H s)(g:cQ H a y (some v))(D:cD y u)(h:∀n G,Inv X pins σ H G->cD v n->Q n G) :
  wpAny (model X.prog X.w) A (getItem (.ref a) u) Q E s:=by
 rcases g with ⟨q,k,e,t,l⟩ | ⟨q,k,b,e,t,L,l⟩
 ·subst t;obtain⟨z,N,O,f,x⟩:=y7 I.hok e;obtain⟨n,hw,m⟩:=kO.some_of (v:=v) (o:=valueAt O k) (by rw[l];exact f.val k);exact wpAny_getItem_of (nS D) x.mapOf hw (h n _ (I.tok _) m)
 ·subst t;cases (show u=Value.ref b from D);obtain⟨z,N,R,f,x⟩:=yV I.hok e;obtain⟨n,hw,m⟩:=kO.some_of (v:=v) (o:=(atKey R k).map (·.2)) (by rw[l];exact f.val k);obtain⟨p,S,B⟩:=Option.map_eq_some_iff.mp hw;refine wpAny_getItem_heap (tupleKind_room_in1 J) (oH I.hok L) x S ?_;rw[B];exact h n _ (I.tok _) m
theorem d_in(D:A.units+1<cLine)(I:Inv X pins σ H s)(g:cQ H a y o)(x:cD y u)(h:∀B,Inv X pins σ H B->Q (.bool o.isSome) B) :
  wpAny (model X.prog X.w) A (compareOp .In u (.ref a)) Q E s:=by
 rcases g with ⟨m,k,e,n,l⟩ | ⟨m,k,b,e,n,G,l⟩
 ·subst n;obtain⟨z,p,J,f,t⟩:=y7 I.hok e;refine wpAny_in_of (nS x) p t.mapOf ?_;rw[<- (f.val k).isSome_eq,<- l];exact h _ (I.tok _)
 ·subst n;cases (show u=Value.ref b from x);obtain⟨z,p,L,f,t⟩:=yV I.hok e;refine wpAny_in_heap (tupleKind_room_in1 D) (oH I.hok G) p t ?_;have q:=(f.val k).isSome_eq;rw[Option.isSome_map]at q;rw[<- q,<- l];exact h _ (I.tok _)
theorem KI(D:A.units+1<cLine)(I:Inv X pins σ H s)(g:cQ H a y o)(x:cD y u)(h:∀B,Inv X pins σ H B->Q (.bool (!o.isSome)) B) :
  wpAny (model X.prog X.w) A (compareOp .NotIn u (.ref a)) Q E s:=by
 rcases g with ⟨m,k,e,n,l⟩ | ⟨m,k,b,e,n,G,l⟩
 ·subst n;obtain⟨z,p,J,f,t⟩:=y7 I.hok e;refine wpAny_notIn_of (nS x) p t.mapOf ?_;rw[<- (f.val k).isSome_eq,<- l];exact h _ (I.tok _)
 ·subst n;cases (show u=Value.ref b from x);obtain⟨z,p,L,f,t⟩:=yV I.hok e;refine wpAny_notIn_heap (tupleKind_room_in1 D) (oH I.hok G) p t ?_;have q:=(f.val k).isSome_eq;rw[Option.isSome_map]at q;rw[<- q,<- l];exact h _ (I.tok _)
theorem tN(I:Inv X pins σ H s)(p:Mut (H a))(t:Heap.SameBut a s.heap f)(B:∃q,f.get? a=some q)(new:eG X.prog X.w (upd H a g) f a g) :
  Inv X pins σ (upd H a g) {s with heap:=f,toks:=G}:=
 I.write (x:=a) (e:=a) p (.inl rfl) (λb q D z=>(t.2 b D).trans z) B new
theorem DU(z:b.length<=sizeLine)(g:(a == sysModules)=false)(e:KV b f)(m:n.DictOf (bI P w) a f) :
  eG P w p n a (.dK b):=⟨z,g,f,e,m⟩
theorem zA(Y:A.units+1<cLine)(I:Inv X pins σ H s)(g:jQ H a y v Z)(O:cD y u)(R:cD v r)(h:∀S,Inv X pins σ Z S->Q () S) :
  wpAny (model X.prog X.w) A (setItem (.ref a) u r) Q E s:=by
 rcases g with ⟨f,k,e,t,l,x⟩ | ⟨f,k,b,e,t,U,l,x⟩
 ·subst t x;obtain⟨z,B,vs,m,D⟩:=sF I.hok e;have G:vs.length<=sizeLine:=by rw[<- m.length];exact z
  have J:(eJ f k v).length<=sizeLine:=by have:=mK f k v;omega
  refine wpAny_setItem_pairs (hsz:=G) (nS O) D λV n N=>h _ ?_;have he:∃q,V.get? a=some q:=let ⟨q,_,_,p,_⟩:=n;⟨q,p⟩;exact tN I (by rw[e];exact True.intro) N he (DU J B (m.put k R) n)
 ·subst t x;cases (show u=Value.ref b from O);obtain⟨z,B,xs,m,D⟩:=dt_of I.hok e;have G:xs.length<=sizeLine:=by rw[<- Paired.length m];exact z
  have J:(eJ f k v).length<=sizeLine:=by have:=mK f k v;omega
  refine wpAny_setItem_heap (hsz:=G) (tupleKind_room_in1 Y) (oH I.hok U) D λV n N=>h _ ?_;obtain⟨q,es,ep,p,h2,h3,h4,_,h5⟩:=n;refine tN I (by rw[e];exact True.intro) N ⟨q,p⟩ ⟨J,B,_,(m.put k U R).keeps λc ys W=>?_,q,es,ep,p,h2,h3,h4,h5⟩;rw[aH (ne_of W e (λz=>nomatch z))];exact W
end
section
variable{X:Cx}{pins:Mb}{σ : St}{H:Hp}{s:Shared}{a:Addr}{kvs:Mn}{k:Key}{u:Value}{A:Around}{E:Mm}
theorem d_pop(I:Inv X pins σ H s)(e:H a=some (.dK kvs))(n:cD (kV k) u)(l:dD kvs k=some v)(r:b=[]\/∃x,b=[x])
  (h:∀g y,Inv X pins σ (upd H a (.dK (fA kvs k))) y->cD v g->Q g y):wpAny (model X.prog X.w) A (call (.builtin "dict.pop") (.ref a::u::b)) Q E s:=by
 obtain⟨z,G,B,f,D⟩:=sF I.hok e;obtain⟨g,hw,p⟩:=kO.some_of (v:=v) (o:=valueAt B k) (by rw[<- l];exact f.val k);have J:(keyPart u).isSome=true:=by
  cases k with
  |inl i=>obtain⟨t,q⟩:=(show ∃t,u=Value.int i t from n);subst q;rfl
  |inr x=>obtain⟨t,q⟩:=(show ∃t,u=Value.str x t from n);subst q;rfl
 have L:argsOk "dict.pop" ⟨.ref a::u::b,[]⟩:=by
  rcases r with q | ⟨x,q⟩
  ·subst q;exact PySem.F.args_dict_pop_2 _ _
  ·subst q;exact PySem.F.args_dict_pop_3 _ _ _
 refine call_meetsIn PySem.F.slot_dict_pop D.typeIs PySem.F.entry_dict_pop L (meets_dict_pop_there (bI X.prog X.w) a (nS n) b r J)
  ⟨B,g,D,by rw[<- f.length];exact z,hw,λN m O=>h g _ ?_ p⟩
 have R:∃q,N.get? a=some q:=let ⟨q,_,_,S,_⟩:=m;⟨q,S⟩;exact tN I (by rw[e];exact True.intro) O R (DU (le_trans (IY kvs k) z) G (f.drop k) m)
end
def MU(i:Expr):Prop:=∀b e,subscripted i false b e=operate [b,e] (getItem b e)
theorem Dp{b:Program}{w:World}{A:Around}{E:Mm}{s:Shared}{q:Env}{f e:Expr}{y:Pos}{T id:String}{Q:Mm}
  (B:typeLookup (.type T) "__getitem__" = pure (some (.builtin id))) (D:MU e)
  (h:wpAny (model b w) A (eval f q) (λo n=>wpAny (model b w) A (eval e q) (λi g=>g.TypeIs o T/\wpAny (model b w) A (getItem o i) Q E g) E n) E s) :
  wpAny (model b w) A (eval (.Subscript f e y) q) Q E s:=by
 refine Subscript_ (wpAny_mono h (λo n t=>wpAny_mono t (λi g m=>?_) λ_ _ x=>x) λ_ _ x=>x);obtain⟨z,m⟩:=m;unfold subscriptTail;refine wpAny_bind ?_;rw[getitemInPython_of_ne z.not_modules];refine wpAny_bind (wpAny_specialOf z B ?_);have fin:wpAny (model b w) A (subscripted e false o i) (λr p=>wpAny (model b w) A (letTemporaryGo f o r >>= λ_=>pure r) Q E p) E g:=by
  rw[D o i];exact wpAny_operating (wpAny_mono m (λr p u=>wpAny_bind (wpAny_letTemporaryGo (wpAny_pure u))) λ_ _ x=>x)
 first
  |exact wpAny_pure (wpAny_bind fin)
  |exact wpAny_bind (wpAny_pure (wpAny_bind fin))
  |exact wpAny_bind fin
theorem CB(I:Inv X n p H s)(g:cQ H a y o):s.TypeIs (.ref a) "dict":=by
 rcases g with ⟨f,k,e,_,_⟩ | ⟨f,k,b,e,_,_,_⟩
 ·obtain⟨_,_,q,_,m⟩:=y7 I.hok e;exact m.typeIs
 ·obtain⟨_,_,r,_,m⟩:=yV I.hok e;exact m.typeIs
inductive Dl(Q:VK)(x:V)(y:V)(H2:Hp):Prop
 |mk:∀a v,x = .ref a->cQ H2 a y (some v)->Q v H2->Dl Q x y H2
abbrev JF(ty:TE)(b : St)(Q:VK):V->Hp->Prop:=λx e=>ty b e (Dl Q x)
def Dm(e ty:TE):TE:=λb H Q=>e b H (JF ty b Q)
inductive GW(Q:VK)(y:V)(x:V)(H2:Hp):Prop
 |mk:∀a o,x = .ref a->cQ H2 a y o->Q (.bl o.isSome) H2->GW Q y x H2
abbrev LE(b:TE)(e : St)(Q:VK):V->Hp->Prop:=λy f=>b e f (GW Q y)
def tDIn(ty e:TE):TE:=λb H Q=>ty b H (LE e b Q)
inductive xD(Q:VK)(y:V)(x:V)(H2:Hp):Prop
 |mk:∀a o,x = .ref a->cQ H2 a y o->Q (.bl (!o.isSome)) H2->xD Q y x H2
abbrev Ez(b:TE)(e : St)(Q:VK):V->Hp->Prop:=λy f=>b e f (xD Q y)
def JE(ty e:TE):TE:=λb H Q=>ty b H (Ez e b Q)
inductive EA(D:Ends)(σ : St)(v:V)(x:V)(y:V)(H3:Hp):Prop
 |mk:∀a H4,x = .ref a->jQ H3 a y v H4->D.nx σ H4->EA D σ v x y H3
abbrev JR(ty:TE)(D:Ends)(b : St)(v:V):V->Hp->Prop:=λx H2=>ty b H2 (EA D b v x)
abbrev JS(e:TE)(ty:TE)(D:Ends)(b : St):V->Hp->Prop:=λv f=>e b f (JR ty D b v)
def Kg(e ty f:TE):TS:=λD b H=>f b H (JS e ty D b)
inductive EB(D:Ends)(σ : St)(y:V)(a:Addr)(z:V)(H4:Hp):Prop
 |mk:∀H5,jQ H4 a y z H5->D.nx σ H5->EB D σ y a z H4
abbrev JT(b:V->V->Hp->VK->Prop)(D:Ends)(e : St)(y:V)(a:Addr)(v:V):V->Hp->Prop:=λf g=>b v f g (EB D e y a)
inductive EC(tv:TE)(rd:V->V->Hp->VK->Prop)(D:Ends)(σ : St)(x:V)(y:V)(H2:Hp):Prop
 |mk:∀a v,x = .ref a->cQ H2 a y (some v)->tv σ H2 (JT rd D σ y a v)->EC tv rd D σ x y H2
abbrev JU(ty:TE)(e:TE)(f:V->V->Hp->VK->Prop)(D:Ends)(b : St):V->Hp->Prop:=λx g=>ty b g (EC e f D b x)
def Kh(e ty f:TE)(g:V->V->Hp->VK->Prop):TS:=λD b H=>e b H (JU ty f g D b)
section
variable{X:Cx}{o i e value:Expr}{pos pos' tpos:Pos}{td ty tv:TE}
theorem dO(q:X.A.units+1<cLine)(r:PE X o td)(t:PE X i ty)(z:MU i):PE X (.Subscript o i pos) (Dm td ty):=by
 intro b s n H Q I h;refine Dp PySem.F.slot_dict_getitem.lookup z (thn (r b s n H _ I h) λu B ⟨x,D,E,G,J⟩=>thn (t b B n D _ E J) λR s2 f=>?_);obtain⟨y,H2,p,L,a,v,ex,g,N⟩:=f;subst ex;obtain rfl:u=Value.ref a:=G;exact⟨CB p g,zB q p g L λS U O m=>⟨v,H2,O,m,N⟩⟩
theorem HM(n:X.A.units+1<cLine)(p:PE X i ty)(q:PE X o td):PC X .In i o (tDIn ty td):=by
 intro b s m H Q I h;refine thn (p b s m H _ I h) λO r ⟨y,t,z,B,D⟩=>thn (q b r m t _ z D) λu s2 f=>?_;obtain⟨x,H2,E,G,a,J,ex,g,L⟩:=f;subst ex;obtain rfl:u=Value.ref a:=G;exact d_in n E g B λR N=>⟨.bl J.isSome,H2,N,rfl,L⟩
theorem m6(n:X.A.units+1<cLine)(p:PE X i ty)(q:PE X o td):PC X .NotIn i o (JE ty td):=by
 intro b s m H Q I h;refine thn (p b s m H _ I h) λO r ⟨y,t,z,B,D⟩=>thn (q b r m t _ z D) λu s2 f=>?_;obtain⟨x,H2,E,G,a,J,ex,g,L⟩:=f;subst ex;obtain rfl:u=Value.ref a:=G;exact KI n E g B λR N=>⟨.bl (!J.isSome),H2,N,rfl,L⟩
theorem fN(n:X.A.units+1<cLine)(p:PE X o td)(q:PE X i ty)(t:PE X value tv)(z:swapsWith value (some (.Subscript o i pos')) pos.line X.env=pure false) :
  PS X (.Assign [.Subscript o i pos'] value pos) (Kg td ty tv):=by
 intro b s f H D I h;refine wpAny_Assign_Subscript (thn (t b s f H _ I h) λr B ⟨v,E,G,J,L⟩=>thn (p b B f E _ G L) λu s2 ⟨x,H2,N,O,Q⟩=>thn (q b s2 f H2 _ N Q) λY Z m=>?_) z;obtain⟨y,H3,R,S,a,U,ex,g,V⟩:=m;subst ex;obtain rfl:u=Value.ref a:=O;exact zA n R g S J λs4 W=>⟨f,U,W,V⟩
theorem AC{B:Operator}{E:V->V->Hp->VK->Prop}(G:X.A.units+1<cLine)(L:PE X o td)(N:PE X i ty)(O:PE X value tv)(q:KR X B E)
  (Q:∀p m new,augStore i p m new=(do holding [new,p,m] (setItem p m new);release [new,p,m] [];pure .next)):PS X (.AugAssign (.Subscript o i tpos) B value pos) (Kh td ty tv E):=by
 intro b s n H D I h;refine wpAny_AugAssign_SubscriptAny (thn (L b s n H _ I h) λu R ⟨x,S,U,W,Y⟩=>thn (N b R n S _ U Y) λm s2 f=>?_) Q;obtain⟨y,H2,Z,J,a,v,ex,g,q2⟩:=f;subst ex;obtain rfl:u=Value.ref a:=W;refine zB G Z g J λw' s3 I3 r=>thn (O b s3 n H2 _ I3 q2) λw2 s4 ⟨y2,H3,I4,t,q3⟩=>thn (q b s4 n H3 v y2 w' w2 _ I4 r t q3) λw3 s5 f=>?_;obtain⟨z,H4,I5,rz,H5,g5,q4⟩:=f;exact zA G I5 g5 J rz λs6 I6=>⟨n,H5,I6,q4⟩
end
theorem CA(h:Heap)(e:sysModules<h.objs.size):eG P w H (h.push {cls:=.type "dict",data:=.dict #[] }) h.objs.size (.dK []):=
 ⟨zero_le _,beq_eq_false_iff_ne.mpr (Ne.symm (ne_of_lt e)),[],.nil,Heap.DictOf.new h⟩
def LD:TE:=λ_ H Q=>∀p,H p=none->Q (.ref p) (upd H p (.dK []))
section
variable{X:Cx}{pos:Pos}
theorem iY:PE X (.Dict [] [] pos) LD:=λb s e H Q I h=>
 wpAny_Dict_empty ⟨.ref s.heap.objs.size,_,I.laid (a:=s.heap.objs.size) (o:=.dK []) (t':=s.toks) (λ_ _ q=>get?_push_of_some _ q) (le_refl _) (CA s.heap I.big),rfl,h _ (I.hok.fresh (le_refl _))⟩
end
def Cd:List (TE×TE)->St->Hp->(List (V×V)->Hp->Prop)->Prop
 |[],_,H,Q=>Q [] H
 | (e,f)::r,b,H,Q=>e b H λx g=>f b g λy H2=>Cd r b H2 λm n=>Q ((x,y)::m) n
abbrev VV:List (V×V)->List (Value×Value)->Prop:=Paired λp q=>cD p.1 q.1/\cD p.2 q.2
def PPs(X:Cx)(g:Pos)(f:List (Option Expr))(b:List Expr)(m:List (TE×TE)):Prop:=
 ∀e s n H(Q:List (V×V)->Hp->Prop),Inv X e n H s->Cd m n H Q->
  wpAny (model X.prog X.w) X.A (evalPairs (pairTrees f b X.env g)) (λq r=>∃o p,Inv X e n p r/\VV o q/\Q o p) X.xe s
theorem JZ{X:Cx}{b:Pos}:PPs X b [] [] []:=λe s f H Q I h=>pairTrees_nil_walk ⟨[],H,I,.nil,h⟩
theorem iX{X:Cx}{e:Pos}{k v:Expr}{n:List (Option Expr)}{o:List Expr}{p q:TE}{f:List (TE×TE)}(r:PE X k p)(t:PE X v q)(hr:PPs X e n o f) :
  PPs X e (some k::n) (v::o) ((p,q)::f):=λb s g H Q I h=>
 pairTrees_cons_walk (thn (r b s g H _ I h) λu z ⟨x,B,D,E,G⟩=>thn (t b z g B _ D G) λV s2 ⟨y,H2,J,L,N⟩=>
  thn (hr b s2 g H2 _ J N) λW Y ⟨O,R,S,m,U⟩=>⟨(x,y)::O,R,S,.cons ⟨E,L⟩ m,U⟩)
def rB(e b:Mn):Mn:=b.foldl (λf g=>eJ f g.1 g.2) e
theorem KV.merge:∀{b:Mn}{m:List (Key×Value)}{f:Mn}{g:List (Key×Value)},KV b m->KV f g->KV (rB f b) (merged g m):=by
 intro b m f g r;unfold KV at r
 induction r generalizing f g with
 |nil=>intro q;exact q
 | @cons p q s u h t n=>
  intro o;have e:KV (eJ f p.1 p.2) (stored g q.1 q.2):=by
   have:=o.put p.1 h.2;rw[<- h.1];exact this
  exact n e
theorem nR:∀(e b:Mn),(rB b e).length<=b.length+e.length
 |[],b=>by show b.length<=b.length+0;omega
 |p::r,b=>by
  have f:=nR r (eJ b p.1 p.2);have g:=mK b p.1 p.2;show (rB (eJ b p.1 p.2) r).length<=_;rw[length_cons];omega
theorem wE:∀{e:Mn}{g:List (Value×Value)},VV (e.map λm=>(kV m.1,m.2)) g->∃f,Carries (bI P w) g f/\KV e f
 |[],_,r=>by rw[map_nil]at r;cases r;exact⟨[],True.intro,.nil⟩
 |p::e,_,r=>by
  rw[map_cons]at r;cases r with
  | @cons a b o s h t=>
   obtain⟨f,c,q⟩:=wE (P:=P) (w:=w) t;obtain⟨u,n⟩:=b;exact⟨(p.1,n)::f,⟨nS h.1,rfl,c⟩,.cons ⟨rfl,h.2⟩ q⟩
def tDisp(e:List (TE×TE)):TE:=λg H Q=>∀p,H p=none->Cd e g (upd H p (.dK [])) λm H2=>H2 p=some (.dK [])/\∃b:Mn,m=b.map (λf=>(kV f.1,f.2))/\b.length<=15/\Q (.ref p) (upd H2 p (.dK (rB [] b)))
theorem Ji{X:Cx}{g:Pos}{b:List (Option Expr)}{f:List Expr}{m:List (TE×TE)}(h:PPs X g b f m)(n:b.all (·.isSome)=true)(G:b.length=f.length)(J:b≠[])
  (u:b.length<=15):PE X (.Dict b f g) (tDisp m):=by
 intro p s L H Q I q;have N:=I.hok.fresh (le_refl s.heap.objs.size);have O:=I.laid (a:=s.heap.objs.size) (o:=.dK []) (h':=s.heap.push {cls:=.type "dict",data:=.dict #[] }) (t':=s.toks) (λ_ _ q=>get?_push_of_some _ q) (le_refl _) (CA s.heap I.big);refine wpAny_Dict_walk (knd:=bI X.prog X.w) n G J u (thn (h p _ L _ _ O (q _ N)) λws s2 x=>?_);obtain⟨ps,H2,E,y,e,r,U,lk,V⟩:=x;subst U;obtain⟨W,c,Y⟩:=wE (P:=X.prog) (w:=X.w) y;obtain⟨z,Z,aa,r0,dd⟩:=sF E.hok e;cases r0;refine⟨W,c,dd,λB t hs=>⟨.ref s.heap.objs.size,_,?_,rfl,V⟩⟩;have hz:(rB [] r).length<=sizeLine:=by
  have h1:=nR r [];rw[length_nil]at h1;rw[sizeLine_eq];omega
 have he:∃q,B.get? s.heap.objs.size=some q:=let ⟨q,_,_,hq,_⟩:=t;⟨q,hq⟩;exact tN E (by rw[e];exact True.intro) hs he (DU hz Z (Y.merge .nil) t)
structure M1(X:Cx)(o:Expr)(m:Str)(apos:Pos)(e:Expr)(cpos:Pos):Prop where
 base:attributeBase o m X.env (eval o X.env)=eval o X.env
 few:((backTo cpos (starEach [e] X.env)).all (λx=>!x.1) && (backToKw cpos (keywordEach [] X.env)).all (λx=>x.1.isSome)
  && decide (([e]:List Expr).length+([]:List Keyword).length+(if ([]:List Keyword).isEmpty then 0 else 1)<30))=true
 line:(apos.endLine == cpos.line)=true
 trees:backTo cpos (starEach [e] X.env)=[(false,eval e X.env)]
section
variable{X:Cx}{pins:Mb}{σ : St}{H:Hp}{s:Shared}{a:Addr}{y d:V}{u r:Value}{o:Option V}{A:Around}{E:Mm}
theorem MN(G:A.units+1<cLine)(I:Inv X pins σ H s)(g:cQ H a y o)(t:cD y u)(x:cD d r)(h:∀B D,Inv X pins σ H D->cD (o.getD d) B->Q B D) :
  wpAny (model X.prog X.w) A (call (.builtin "dict.get") [.ref a,u,r]) Q E s:=by
 rcases g with ⟨n,k,e,p,l⟩ | ⟨n,k,b,e,p,J,l⟩
 ·subst p;obtain⟨z,q,N,f,m⟩:=y7 I.hok e;refine call_meetsIn PySem.F.slot_dict_get m.typeIs PySem.F.entry_dict_get (PySem.F.args_dict_get_3 _ _ _) (meets_dict_get_default (bI X.prog X.w) a (nS t) q r) ⟨_,m.mapOf,h _ _ (I.tok _) ?_⟩;rw[l];exact(f.val k).getD x
 ·subst p;cases (show u=Value.ref b from t);obtain⟨z,q,L,f,m⟩:=yV I.hok e;refine call_meetsIn PySem.F.slot_dict_get m.typeIs PySem.F.entry_dict_get (PySem.F.args_dict_get_3 _ _ _) (meetsH_dict_get_default (tupleKind (bI X.prog X.w)) a b q r) ⟨tupleKind_room_in1 G,k,L,oH I.hok J,m,h _ _ (I.tok _) ?_⟩;rw[l];exact(f.val k).getD x
end
section
variable{X:Cx}{o e f:Expr}{apos cpos:Pos}{td ty tx:TE}
end
section
variable{X:Cx}{pins:Mb}{σ : St}{H:Hp}{s:Shared}{a:Addr}{kvs:Mn}{A:Around}{E:Mm}
end
section
variable{X:Cx}{pins:Mb}{σ : St}{H:Hp}{s:Shared}{a:Addr}{y:V}{u:Value}{A:Around}{E:Mm}
end
end L2
namespace Att
open PySem PySem.W PySem.Calls PyProof.Rows
theorem sR:∀(e:Mf)(f:Mh),WellAll P h f (e.map WData.int)->IntsAre f e:=by
 intro e
 induction e with
 |nil=>
  intro f w;rw[map_nil]at w;cases w;exact .nil
 |cons n e g=>
  intro f w;rw[map_cons]at w;cases w with
  |cons a b=>
   cases a;exact .cons _ _ (g _ b)
theorem E5{l:OpenLaw}{n:Nat}(B:l.most=some n){P:Params}{h:Heap}{b:List WData}{f:Mh}
  (g:l.row.toRowW.claim.pre b=true) (t:WellAll P h f b) :
  ∃a x e,f=[Value.ref a]/\b=[WData.list (e.map WData.int)]/\h.get? a=some {cls:=.type "list",data:=.seq x.toArray}/\IntsAre x e/\e.length<=n:=by
 have u:WShape.hasAll [] b [.list .int]=true:=(pre_splitW g).1;have z:l.pre.holds [] {args:=b}=true:=(pre_splitW g).2;obtain⟨d,r,rfl,E,G⟩:=hasAllW_cons u;obtain rfl:=hasAllW_nil G;obtain⟨O,rfl,H⟩:=hasW_list E;obtain⟨e,rfl⟩:=items_int H;have m:e.length<=n:=by
  unfold OpenLaw.pre at z;have p:(WTm.not (.lt (.lit (.int (n:Int))) (.len (.arg 0)))).holds [] {args:=[.list (e.map .int)] }=true:=by
   have p:=(holds_andW z).1;rw[B]at p;exact p
  have s:=condW_of p (w_not (w_lt w_lit (w_len_list (w_arg rfl))));rw[length_map]at s;refine Nat.le_of_not_lt λq=>?_;have I:(n:Int)<((e.length:Nat):Int):=by omega
  first
   | (rw[decide_eq_true I]at s;exact absurd s (by decide))
   | (simp at s;omega)
 cases t with
 |cons J L=>
  cases L;cases J with
  |list N o=>exact⟨_,_,e,rfl,rfl,N,sR e _ o,m⟩
theorem FB(l:OpenLaw)(b:List WData):l.row.toRowW.claim.post b (.bool true) b=true:=
 postW_of (r:=l.row.toRowW) (X:=(true == true))
  (show WShape.has [] (.bool true) .bool=true by first |rfl |decide |simp [WShape.has,WShape.arms,WShape.armsAll])
  (show (WTm.eq .res (.lit (.bool true))).value [] {args:=b,res:=some (.bool true),after:=b}=some (.bool (true == true)) from w_eq_bool (w_res rfl) w_lit) rfl
theorem CO{l:OpenLaw}{n:Nat}{q:Program}{e:Mg}{XP:(Mc)->Heap->Prop}{O:World->Heap->Prop}{d:DefRec}
  (W:l.most=some n) (E:d.params.defaults=[])
  (call:∀(w:World)(g b : Shared)(mg H:Mc)(t:Addr)(o:Obj)(I z m:Value)(a:Addr)(s:Mh)(B:Mf),
   Ground q e [] XP w g mg H b.heap->O w b.heap->
   b.heap.get? t=some o->o.data = .func (docDef d.name d.params d.body d.scope I z m)->b.heap.CodeRec z d.name->mg d.name=some (.ref t)->
   b.heap.get? a=some {cls:=.type "list",data:=.seq s.toArray}->IntsAre s B->B.length<=n->b.gens = #[]->
   codeAny (model l.prog w) callerA (.call (.ref t) ⟨[.ref a],[]⟩) (λr D=>r = .ok (.ret (.bool true))/\OldK b.heap D.heap/\D.os=b.os/\AllBare D.gens) b) :
  WalkO q e XP O l.row.toRowW d [] (λf s=>PySem.call f s):=by
 intro w g b mg H G Y t o I z m Z kV ho hd J R L hg S U as u V aa N ab;obtain rfl:Z = .none:=Dflts.none R E;obtain rfl:kV = .none:=Dflts.noKw R;obtain⟨a,s,B,rfl,rfl,x,p,y⟩:=E5 W u N;refine enter_call (codeAny_mono (call w g b mg H t o I z m a s B G Y ho (fd_plain hd) J L x p y hg) λr D hq=>?_);obtain⟨rfl,h2,h3,h4⟩:=hq;exact⟨.inl ⟨.bool true,.bool true,[],rfl,λ_=>rfl,.bool true,FB l _,λ_=>⟨List.Pairwise.nil,λ_ hm=>(nomatch hm)⟩⟩,h2,h3,h4⟩
section
variable{prog:Program}{w:World}{A:Around}{E:Mm}{s:Shared}{K:Frag}
end
end Att
namespace L2
open PySem PySem.Spec PyProof.Rows
theorem mR:∀{b:Mh}{e:Mf},IntsAre b e->cE (e.map V.int) b
 |_,_,.nil=>.nil
 |_,_,.cons n t h=>.cons ⟨t,rfl⟩ (mR h)
def MT(H:Hp):Prop:=∀b,H b=none\/∃o e,H b=some (.frz o (.lst e))
theorem Hw{P:Program}{w:World}{K:Ma}{mg mb:Mc}{CX:CXT}{k:Nat}{fa a:Addr}{fd:Ml}{x:Str}{sp:Sp}{f : Shared}{G:Mh}{N:Mf}
  (KX:K.In f.heap) (O:f.heap.Ns mainGlobals mg) (p:f.heap.Ns builtinsNs mb) (ad:∀x:Str,x ≠ "__name__"->mb x=bootBuiltins x) (Q:f.heap.NoLimit) (hg:f.gens = #[])
  (ha:f.heap.get? a=some {cls:=.type "list",data:=.seq G.toArray}) (hi:IntsAre G N) (hl:N.length<=sizeLine) (hr:Room k callerA)
  (F:∀base:Heap,K.In base->base.Ns mainGlobals mg->FnOk P w K mg base CX k fa fd [x] sp) (I:∀(s:Shared)(u:Value),BindsTo s fd ⟨[u],[]⟩ [(x,u)])
  (ae:∀H:Hp,MT H->SqL K H a (N.map V.int)->sp [.ref a] H (λv _=>v = .bl true) λ_ _ _=>False)
  (af:∀H e t,CX [] H f (λ_ _ _=>False) e t->False) :
  codeAny (model P w) callerA (.call (.ref fa) ⟨[.ref a],[]⟩) (λr t=>r = .ok (.ret (.bool true))/\OldK f.heap t.heap/\t.os=f.os/\AllBare t.gens) f:=by
 have rv:=mR hi;have S:=hi.length
 -- from an J ai in ag U aj W y ak be X
 have E:∀H:Hp,MT H->SqL K H a (N.map V.int)->HOk P w H f.heap->(∀b,H b≠none->b=a)->(H a≠none->K.lookup a=none)->
   codeAny (model P w) callerA (.call (.ref fa) ⟨[.ref a],[]⟩) (λr t=>r = .ok (.ret (.bool true))/\OldK f.heap t.heap/\t.os=f.os/\AllBare t.gens) f:=by
  intro H hO hS Y hA hK;have g:∀{b:Addr}{o:Obj},f.heap.get? b=some o->H b=none->(AX f.heap H).get? b=some o:=λe n=>II e n;have ah:∀{b:Addr}{o:Obj}{Z:Array DictEntry}{ep:Nat},f.heap.get? b=some o->o.data = .dict Z ep->H b=none:=λ{b o Z ep} e d=>by
   cases q:H b with
   |none=>rfl
   |some u=>
    have e':b=a:=hA b (by rw[q];simp);subst e';rw[ha]at e;cases e;have d':Data.seq G.toArray _=Data.dict Z ep:=d;cases d'
  have B:∀{b:Addr}{m:Mc},f.heap.Ns b m->(AX f.heap H).Ns b m:=λ{b m} ⟨o,Z,ep,e,d,r⟩=>⟨o,Z,ep,g e (ah e d),d,r⟩;have aa:K.In (AX f.heap H):=λb o e=>g (KX b o e) (by
   cases q:H b with
   |none=>rfl
   |some u=>
    have e':b=a:=hA b (by rw[q];simp);subst e';rw[hK (by rw[q];simp)]at e;cases e)
  have hM:Mod K mg (AX f.heap H):=⟨aa,B O,⟨mb,B p,ad⟩,let ⟨mc,h1,h2⟩:=Q;⟨mc,B h1,h2⟩⟩;have e0:Env0 P w K mg (AX f.heap H) callerA [] f H:=⟨rfl,hM,λb o e=>Jz e,Nat.le_of_eq (Fw _ _),trivial,λb p=>absurd (show b∈([]:List Addr) from p) (by simp),Y,.of_eq hg⟩;refine codeAny_mono ((F _ aa (B O)).run callerA [] f H ⟨[.ref a],[]⟩ [.ref a] [.ref a] _ _ hr e0 (I f (.ref a)) (.cons rfl .nil) (ae H hO hS)) λr t h=>?_;cases r with
  |error e=>exact(af H e t h).elim
  |ok fl=>
   cases fl with
   |next=>exact False.elim h
   |brk=>exact False.elim h
   |cont=>exact False.elim h
   |ret u=>
    obtain⟨v,H',os,bare,un,ab,r',q⟩:=h;have q':v = .bl true:=q;subst q';obtain rfl:u=Value.bool true:=r';refine⟨rfl,OldK.of_keep λb o e=>?_,os,bare⟩;cases q:H b with
    |none=>exact un.keep b o e q (by intro z;exact absurd (show b∈([]:List Addr) from z) (by simp)) (by simp)
    |some u=>
     rcases hO b with z | ⟨ob,xs,z⟩
     ·rw[q]at z;cases z
     ·have z2:=un.frzs b ob _ z;obtain⟨e1,_⟩:=Y b _ z;obtain⟨e2,_⟩:=ab b _ z2;rw[e]at e1;cases e1;exact e2
 cases hk:K.lookup a with
 |some o=>
  -- W y is al of W L own ac
  have e:=KX a o hk;rw[ha]at e;cases e;refine E (λ_=>none) (λ_=>.inl rfl) (.inr ⟨_,G.toArray,_,hk,rfl,rfl,rfl,by rw[size_toArray,S];exact hl,by simpa using rv⟩) (λb u z=>by have z':(none:Option HO)=some u:=z;cases z') (λb z=>absurd rfl z) λz=>absurd rfl z
 |none=>
  refine E (λb=>if b=a then some (.frz {cls:=.type "list",data:=.seq G.toArray} (.lst (N.map V.int))) else none) (λb=>?_) (.inl (.inr ⟨{cls:=.type "list",data:=.seq G.toArray},if_pos rfl⟩)) (λb u z=>?_) (λb z=>?_) λ_=>hk
  ·by_cases p:b=a
   ·exact .inr ⟨_,_,if_pos p⟩
   ·exact .inl (if_neg p)
  ·by_cases p:b=a
   ·have z':=(if_pos p).symm.trans z;cases z';subst p;exact⟨ha,by rw[length_map];exact hl,G,_,rv,ha⟩
   ·have z':=(if_neg p).symm.trans z;cases z'
  ·by_cases p:b=a
   ·exact p
   ·exact absurd (if_neg p) z
theorem I0{l:PySem.W.OpenLaw}{n k:Nat}{q:Program}{g:Mg}{XP:(Mc)->Heap->Prop}{N:World->Heap->Prop}{d:DefRec}{K:Params->Ma}{CX:World->CXT}{sp:World->Sp}{x:Str}
  (S:l.most=some n) (z:n<=sizeLine) (B:d.params.defaults=[]) (hr:Room k callerA)
  (U:∀(w:World)(h:Heap),N w h->(K w.params).In h)
  (F:∀(w:World)(mg:Mc)(t:Addr)(h:Heap),(K w.params).In h->h.Ns mainGlobals mg->mg d.name=some (.ref t)->
   ∃D:Ml,(∀(s:Shared)(u:Value),BindsTo s D ⟨[u],[]⟩ [(x,u)])/\
    ∀base:Heap,(K w.params).In base->base.Ns mainGlobals mg->FnOk l.prog w (K w.params) mg base (CX w) k t D [x] (sp w))
  (E:∀(w:World)(H:Hp)(a:Addr)(y:Mf),y.length<=n->MT H->SqL (K w.params) H a (y.map V.int)->sp w [.ref a] H (λv _=>v = .bl true) λ_ _ _=>False)
  (I:∀(w:World)(H:Hp)(s:Shared)(e:Value)(J:Shared),CX w [] H s (λ_ _ _=>False) e J->False) :
  PySem.W.WalkO q g XP N l.row.toRowW d [] (λf O=>PySem.call f O):=by
 refine Att.CO S B λw Q p mg mb t o pm cd W a O y G Y ho hd X L r m b Z=>?_;have R:=U w _ Y;obtain⟨D,hb,hF⟩:=F w mg t _ R G.T.g L;exact Hw R G.T.g G.T.b G.T.builtins G.T.nolimit Z r m (le_trans b z) hr hF hb (λH hO hS=>E w H a y b hO hS) λH e J=>I w H p e J
def bN(s:Stmt)(j:Nat):Stmt:=match s with
 | .ClassDef _ _ _ b _ _ _ _ _ _ _=>b.getD j (.Pass ⟨0,0,0,0⟩)
 |_=>.Pass ⟨0,0,0,0⟩
def gL(s:Stmt):Arguments:=match s with
 | .FunctionDef _ a _ _ _ _ _ _ _ _=>a
 |_=>{posonlyargs:=[],args:=[],vararg:=none,kwonlyargs:=[],kw_defaults:=[],kwarg:=none,defaults:=[] }
def fO(s:Stmt):List Stmt:=match s with
 | .FunctionDef _ _ b _ _ _ _ _ _ _=>b
 |_=>[]
def c9(s:Stmt):Scope:=match s with
 | .FunctionDef _ _ _ _ _ _ g _ _ _=>g
 |_=>{kind:=.function,names:=[],isGenerator:=false,isCoroutine:=false}
abbrev E0:XK:=λ_ _ _=>False
structure Fun(K:Ma)(x qual:Str)(st:Stmt)(f:Addr)(fd:Ml):Prop where
 ex:∃(oc:Value) (od:Option Addr) (kV doc pm:Value) (an:Option Addr) (cdv ct:Value) (osl:Me),
  fd=fnOf x qual (gL st) (fO st) (c9 st) .none kV doc pm an cdv ct/\K.lookup f=some ⟨oc,od,.func fd,osl⟩/\codeIn K cdv qual=true
 kp:keepIn K (.ref f)=true
section
variable{P:Program}{w:World}{K:Ma}{mg:Mc}{base:Heap}
theorem Fun.binds{x b:Str}{st:Stmt}{f:Addr}{r:Ml}{m:Mg}(F:Fun K x b st f r)
  (h:∀(kV e n:Value)(o:Option Addr)(g p:Value)(q:Mh),q.length=m.length->bindArgs (fnOf x b (gL st) (fO st) (c9 st) .none kV e n o g p) ⟨q,[]⟩=pure (m.zip q)):i7 K r m []:=by
 obtain⟨u,y,kV,e,n,o,g,p,s,rfl,z,t⟩:=F.ex;exact .all (h kV e n o g p)
theorem DP{x b:Str}{st:Stmt}{f:Addr}{q:Value}{r n:Option Addr}{m:Me}{kV g o e p:Value}(l:K.lookup f=some ⟨q,r,.func (fnOf x b (gL st) (fO st) (c9 st) .none kV g o n e p),m⟩)
  (c:codeIn K e b=true) (k:keepIn K (.ref f)=true):Fun K x b st f (fnOf x b (gL st) (fO st) (c9 st) .none kV g o n e p):=⟨⟨q,r,kV,g,o,n,e,p,m,rfl,l,c⟩,k⟩
end
section
variable{X:Cx}
theorem pv(i:Nat){x:Str}{b:Pos}(f:X.N[i]? = some x:=by rfl)(g:Vis X.env.scope x:=by first |exact Or.inl rfl |exact Or.inr (Or.inl rfl) |exact Or.inr (Or.inr rfl))(m:(x == ("__debug__" : Str))=false:=by decide)
  (e:(x == ("__classdict__" : Str))=false:=by decide):PE X (.Name x b) (nJ i):=Lf f g m e
end
theorem bH{A B:Prop}(h:B):if false=true then A else B:=by
 rw[if_neg Bool.false_ne_true];exact h
theorem aZ{A B:Prop}(h:A):if true=true then A else B:=by
 rw[if_pos rfl];exact h
def aG(H e:Hp):Prop:=∀b o,H b=some o->e b=some o
theorem aG.refl(H:Hp):aG H H:=λ_ _ h=>h
theorem aG.trans(a:aG H e)(b:aG e H2):aG H H2:=λc o h=>b c o (a c o h)
theorem aG.free(e:aG H b)(h:b l=Option.none):H l=Option.none:=by
 cases q:H l with
 |none=>rfl
 |some o=>
  rw[e l o q]at h;cases h
theorem aG.seq{K:Ma}{H b:Hp}{a:Addr}{f:Mp}(e:aG H b)(h:SqL K H a f):SqL K b a f:=by
 rcases h with (h | ⟨o,h⟩) |h
 ·exact .inl (.inl (e _ _ h))
 ·exact .inl (.inr ⟨o,e _ _ h⟩)
 ·exact .inr h
section
variable{κ : Type} [DecidableEq κ]
theorem yZ{p:κ×V}{r:List (κ×V)}{k:κ}(e:p.1=k):fA (p::r) k=fA r k:=by
 unfold fA;rw[filter_cons,if_neg (by simp [e])]
theorem y4{p:κ×V}{r:List (κ×V)}{k:κ}(e:¬p.1=k):fA (p::r) k=p::fA r k:=by
 unfold fA;rw[filter_cons,if_pos (by simp [e])]
end
def MW(B:Heap)(l:List Env)(e:Addr)(b f g:Value)(h:Heap):Prop:=B.StaysIn h/\B.get? e=none/\h.FunFrames B l/\h.TracedAtW B e b f g
structure Fly(P:Program)(w:World)(l:List Env)(H H':Hp)(s s':Shared)(e:Addr)(cls fl:Value):Prop where
 os:s'.os=s.os
 bare:AllBare s'.gens
 fr:∀b o,s.heap.get? b=some o->H b=none->H' b=none
 tups:∀b xs,H b=some (.tup xs)->H' b=some (.tup xs)
 frzs:∀b o u,H b=some (.frz o u)->H' b=some (.frz o u)
 tbls:∀b ps,H b=some (.tbl ps)->∃more,H' b=some (.tbl (ps++more))
 sl:∀b o,s.heap.get? b=some o->b∈frs l->∃sl,s'.heap.get? b=some {o with slots:=sl}
 fly:∃B a0,MW B l e cls a0 fl s'.heap/\HOk P w H' B/\(∀b o,s.heap.get? b=some o->H b=none->b∉frs l->B.get? b=some o)/\∀b o,s.heap.get? b=some o->b∉frs l->∃o',B.get? b=some o'
section
variable{P:Program}{w:World}{l:List Env}{H H':Hp}{s s':Shared}{e:Addr}{cls fl:Value}
theorem Fly.un(F:Fly P w l H H' s s' e cls fl):Un (frs l) [] H H' s.heap s'.heap:=by
 obtain⟨B,p,fl,r,kp,g⟩:=F.fly;refine⟨λb o q n f _=>fl.1 _ _ (kp b o q n f),λb o q n f _=>F.sl b o q f,λb o q n _=>F.fr b o q n,λb o q _=>?_,F.tups,F.frzs,F.tbls⟩;by_cases f:b∈frs l
 ·obtain⟨t,z⟩:=F.sl b o q f;exact⟨_,z⟩
 ·obtain⟨m,z⟩:=g b o q f;exact⟨m,fl.1 _ _ z⟩
theorem Fly.hok(F:Fly P w l H H' s s' e cls fl):HOk P w H' s'.heap:=by
 obtain⟨B,g,fl,f,_⟩:=F.fly;exact f.kept λb o q=>fl.1 b o q
theorem JK{h m:Heap}{B:Heap}{l:List Env}(fl:h.FunFrames B l)(u:h.UpToSlots m){b:Addr}{o:Obj}{p:Me}(q:b∈frs l)(e:h.get? b=some {o with slots:=p}):∃g,m.get? b=some {o with slots:=g}:=by
 obtain⟨_,t,n,r⟩:=fl.mem q;rw[e]at n;cases n;obtain⟨g,z⟩:=u b _ e r;exact⟨g,z⟩
theorem Fly.go(F:Fly P w l H H' s s' e cls fl):∃B g,MW B l e cls g fl s'.heap/\∀m f,MW B l e cls g f m->s'.heap.UpToSlots m->Fly P w l H H' s {s' with heap:=m} e cls f:=by
 obtain⟨B,g,fl,r,kp,t⟩:=F.fly;refine⟨B,g,fl,λm f u x=>⟨F.os,F.bare,F.fr,F.tups,F.frzs,F.tbls,λb o q p=>?_,B,g,u,r,kp,t⟩⟩;obtain⟨y,z⟩:=F.sl b o q p;exact JK (o:=o) fl.2.2.1 x p z
theorem Fly.drop(F:Fly P w (p::f) H H' s s' e cls fl)(E:p.frame=some L)
  (I:m.heap.objs.size<=L) (J:s.os=m.os) (U:Un (frs f) [] r H m.heap s.heap) (N:∀b∈frs f,r b=none):Fly P w f r H' m s' e cls fl:=by
 obtain⟨B,O,⟨Q,R,⟨_,_,S⟩,V⟩,W,kp,X⟩:=F.fly;have sub:∀b,b∈frs (p::f)->b=L\/b∈frs f:=λb g=>by
  unfold frs at g;rw[filterMap_cons,E]at g;exact mem_cons.mp g
 have x:∀b,b∈frs f->b∈frs (p::f):=λb g=>by
  unfold frs;rw[filterMap_cons,E];exact mem_cons_of_mem _ g
 have t:∀b o,m.heap.get? b=some o->b∉frs f->b∉frs (p::f):=λb o q g z=>by
  rcases sub b z with rfl |z
  ·exact absurd (lt_of_lt_of_le (lt_size q) I) (lt_irrefl _)
  ·exact g z
 have nx:∀b,b∉([]:List Addr):=λb=>by simp
 refine⟨F.os.trans J,F.bare,λb o q n=>?_,λb G q=>F.tups b G (U.tups b G q),λb o u q=>F.frzs b o u (U.frzs b o u q),λb Y q=>?_,λb o q g=>?_,B,O,⟨Q,R,S,V⟩,W,λb o q n g=>?_,λb o q g=>?_⟩
 ·obtain⟨y,z⟩:=U.there b o q (nx b);exact F.fr b y z (U.free b o q n (nx b))
 ·obtain⟨Z,z1⟩:=U.tbls b Y q;obtain⟨m2,z2⟩:=F.tbls b _ z1;exact⟨Z++m2,by rw[z2,Array.append_assoc]⟩
 ·obtain⟨sl,z⟩:=U.slot b o q (N b g) g (nx b);obtain⟨D,z'⟩:=F.sl b _ z (x b g);exact⟨D,z'⟩
 ·exact kp b o (U.keep b o q n g (nx b)) (U.free b o q n (nx b)) (t b o q g)
 ·obtain⟨y,z⟩:=U.there b o q (nx b);exact X b y z (t b o q g)
theorem IH{P:Program}{w:World}{H:Hp}{h:Heap}{l:List Addr}(x:HOk P w H h)(g:∀b∈l,H b=none):HOk P w H (hideAll h l):=λa o e=>
 (x a o e).stay (λb u f q=>hideAll_get _ q λm=>by
  have n:=g b m;rcases f with rfl |f
  ·rw[e]at n;cases n
  ·rw[f]at n;cases n) (λ_ q=>q) λ_ _ q=>q
section
variable{M:Model}{A:Around}{E:Mm}{Q:Unit->Shared->Prop}{env:Env}{outer:List Env}{L:Addr}
theorem vX(F:Fly P w l H H' s s' e cls fl)(m:∀f,Fly P w l H H' s {s' with heap:=f} e cls .none->Q () {s' with heap:=f}):wpAny M A (setFlight (.ref e) none) Q E s':=by
 obtain⟨B,G,⟨n,p,q,r⟩,go⟩:=F.go;exact wpAny_setFlight_noneW n q r λf t u x y=>m f (go f _ ⟨t,p,u,x⟩ λb o z D=>⟨o.slots,y b o z D⟩)
theorem IM(F:Fly P w l H H' s s' e cls fl)(W:∀O,Fly P w l H H' s {s' with heap:=O} e cls (rawInt L)->Q () {s' with heap:=O}):wpAny M A (setFlight (.ref e) (some L)) Q E s':=by
 obtain⟨B,a0,⟨G,I,X,Y,J,T,oT,R,S,y,U,V,z,D,N,r,Z⟩,go⟩:=F.go;have t:3<R.size:=(Array.getElem?_eq_some_iff.mp Z).1;have m:∀b,b≠T->(s'.heap.update T (Obj.mapFields (·.setIfInBounds 3 ((some L).elim Value.none λf=>rawInt f)))).get? b=s'.heap.get? b:=
  λb n=>Heap.get?_update_other _ _ (Ne.symm n)
 have g:∀b o,s'.heap.get? b=some o->(∀J,o.data ≠ .fields J)->b≠T:=λb o n p q=>by
  rw[q,N]at n;injection n with n;subst n;exact p R r
 unfold setFlight;refine wpAny_bind (wpAny_field S U V ?_);rw[if_pos (show (Value.ref T != Value.none)=true from by simp)];refine wpAny_setField N r t (W _ (go _ _ ⟨λb o u=>(m b λq=>by rw[q,z]at u;cases u).trans (G b o u),I,
  X.of_keeps λb o n p=>⟨o,(m b (g b o n p)).trans n,rfl⟩,?_⟩ λb o n p=>⟨o.slots,(m b (g b o n p)).trans n⟩))
 exact⟨Y,J,T,_,_,(m e (Ne.symm D)).trans S,y,U,V,z,D,Heap.get?_update_self _ N (Obj.isFreed_of_fields (Obj.data_mapFields r _)),Obj.data_mapFields r _,by simp [t]⟩
theorem IN(g:A.frames=some (env::outer))(n:env.frame=some L)(F:Fly P w (env::outer) H H' s s' e cls .none)
  (o:∀b,Fly P w (env::outer) H H' s {s' with heap:=b} e cls (rawInt L)->Q () {s' with heap:=b}):wpAny M A (noteFrame (.ref e) env) Q E s':=by
 obtain⟨B,z,⟨p,m,q,r⟩,go⟩:=F.go;exact wpAny_noteFrame_onW g q n r p m λb ⟨t,u,x,y⟩=>o b (go b _ ⟨t,m,u,x⟩ y)
theorem Fz(b:env.frame=some L)(F:Fly P w l H H' s s' e cls (rawInt L))(f:Q () s'):wpAny M A (noteFrame (.ref e) env) Q E s':=by
 obtain⟨B,m,⟨n,o,p,g⟩,go⟩:=F.go;exact wpAny_noteFrame_againW b g f
theorem DQ(F:Fly P w l H H' s s' e cls fl)(f:∀T:Addr,R (.ref T) s'):wpAny M A (field (.ref e) 1) R E s':=by
 obtain⟨B,q,⟨g,m,r,t,u,T,x,y,n,b,o,p,_⟩,_⟩:=F.go;exact wpAny_field n o p (f T)
end
end
def CXE(P:Program)(w:World):CXT:=λb H s E e m=>∃(a:Addr) (f:Value) (g:Hp),e = .ref a/\Fly P w b H g s m a f .none/\E f none g
def AtX(X:Cx)(b:Mb)(o : St)(p:Hp)(m:Shared)(e:Addr)(f:Value):Prop:=
 (∃s g,Inv X b o p s/\Heap.MadeExcOf s.heap m.heap e f g/\m = {s with heap:=m.heap})\/
 ∃H s n,Inv X b o H s/\Fly X.prog X.w X.stack H p s m e f n/\(n = .none\/n=rawInt X.env.locals)
structure Own(X:Cx):Prop where
 stk:X.stack=X.env::X.outer
 fra:X.env.frame=some X.env.locals
 ex:X.ex=[]
section
variable{X:Cx}{pins:Mb}{σ : St}{H':Hp}{s':Shared}{e:Addr}{cls:Value}
theorem Ff(O:Own X)(r:A.frames=some X.stack)(I:Inv X pins σ H' s)(mk:Heap.MadeExcOf s.heap s'.heap e cls N)(R:s' = {s with heap:=s'.heap})
  (W:∀S,Fly X.prog X.w X.stack H' H' s {s' with heap:=S} e cls (rawInt X.env.locals)->Q () {s' with heap:=S}):wpAny M A (noteFrame (.ref e) X.env) Q E s':=by
 have y:=I.stack;have g:=I.stkFree;have G:∀m∈X.stack,∀a,m.frame=some a->a∈frs X.stack:=λm D a Y=>List.mem_filterMap.mpr ⟨m,D,Y⟩;obtain⟨t,D,Z,ht⟩:=mk.there;have FH:=PySem.W.funFrames_hide (as:=frs X.stack) y G;have B:(hideAll s.heap (frs X.stack)).get? e=none:=by
  cases q:(hideAll s.heap (frs X.stack)).get? e with
  |none=>rfl
  |some o=>have:=of_hideAll _ q;rw[mk.new]at this;cases this
 have H:s'.os=s.os:=by rw[R]
 have J:s'.gens=s.gens:=by rw[R]
 unfold noteFrame;simp only[O.fra];refine wpAny_bind (wpAny_field D rfl (x:=Value.none) rfl ?_);rw[if_neg (by decide)];have L:s.heap.FunFrames (hideAll s.heap (frs X.stack)) (X.env::X.outer):=by
  have z:=O.stk;rw[<- z];exact FH
 rw[O.stk]at r;refine wpAny_entryW (base:=hideAll s.heap (frs X.stack)) (a0:=.ref t) r (L.of_keeps λb o p _=>⟨o,mk.keeps b o p,rfl⟩) O.fra D (λb o z=>mk.keeps b o (of_hideAll _ z)) B rfl (by simp) rfl λh2 hN=>?_;obtain⟨k1,U,k3,k4⟩:=hN;refine W h2 ⟨H,by rw[J];exact I.bare,λb o z n=>n,λb xs q=>q,λb o u q=>q,λb ps q=>⟨#[],by rw[q];simp⟩,λb o z p=>?_,_,_,⟨k1,B,(by have z:=O.stk;rw[<- z]at U;exact U),k3⟩,IH I.hok g,λb o z n p=>hideAll_get _ z p,λb o z p=>⟨o,hideAll_get _ z p⟩⟩;obtain⟨_,o',V,hd⟩:=y.mem p;rw[z]at V;cases V;exact k4 b _ (mk.keeps _ _ z) hd
theorem Ao(O:Own X)(b:A.frames=some X.stack)(F:AtX X pins σ H' s' e cls)
  (m:∀H s f,Inv X pins σ H s->Fly X.prog X.w X.stack H H' s {s' with heap:=f} e cls (rawInt X.env.locals)->Q () {s' with heap:=f}):wpAny M A (noteFrame (.ref e) X.env) Q E s':=by
 rcases F with ⟨s,n,I,mk,o⟩ | ⟨H,s,q,I,F,rfl |rfl⟩
 ·exact Ff O b I mk o λf F=>m _ _ f I F
 ·rw[O.stk]at b F;exact IN b O.fra F λf p=>m H s f I (by rw[O.stk];exact p)
 ·refine Fz O.fra F ?_;have:=m H s s'.heap I F;exact this
theorem Ij(O:Own X)(f:A.frames=some X.stack)(F:AtX X pins σ H' s' e cls)
  (n:∀g,Fly X.prog X.w X.outer X.H₀ H' X.s₀ {s' with heap:=g} e cls .none->Q () {s' with heap:=g}):wpAny M A (leaving X.env (.ref e)) Q E s':=by
 unfold leaving;refine wpAny_bind (Ao O f F λH s g I o=>?_);refine vX o λp m=>n p ?_;rw[O.stk]at m;have U:=I.base;rw[O.ex]at U;exact m.drop O.fra I.ok.above I.os U I.ok.frf
end
abbrev XC:=Value->St->Hp->Prop
inductive XP(X:Cx)(R:XC)(e:Value)(s':Shared):Prop
 |mk:∀(pins:Mb)(a:Addr)(cls:Value)(σ : St)(H':Hp),e = .ref a->AtX X pins σ H' s' a cls->R cls σ H'->XP X R e s'
section
variable{X:Cx}{R:XC}
theorem AtX.frames(F:AtX X b m n o e g):X.A.frames=some X.stack:=by
 rcases F with ⟨s,f,I,_⟩ | ⟨H,s,p,I,_⟩
 ·exact I.ok.frames
 ·exact I.ok.frames
theorem Kw(O:Own X):PassesOwn (model X.prog X.w) X.A X.env (XP X R):=by
 rintro _ o ⟨b,a,e,g,m,rfl,F,q⟩;refine Ao O F.frames F λH s p I f=>?_;unfold cameBackBy;refine wpAny_bind (DQ f λT=>?_);rw[if_neg (show ¬((Value.ref T == Value.none)=true) from by simp)];rw[O.fra];exact IM f λr n=>⟨b,a,e,g,m,rfl,.inr ⟨H,s,_,I,n,.inr rfl⟩,q⟩
end
abbrev Cx.bod(X:Cx)(E:XK):Cx:=X.wish (XP X λc _ H=>E c none H)
section
variable{X:Cx}{E E':XK}
theorem eE{P:Program}{w:World}{K:Ma}{mg:Mc}{base:Heap}{N:Mg}{g:Str}{b:Scope}{f:Addr}{m:Value}{A:Around}{e:List Env}{s:Shared}{H:Hp}{n:CXT} :
  Own (Ag n P w K mg base N g b f m A e s H E):=⟨rfl,rfl,rfl⟩
theorem passB(g:∀c o H,E' c o H->E c none H):fI (CXE X.prog X.w) (X.bod E) E':=by
 intro b m n p e t I ⟨a,f,r,s,F,q⟩;exact⟨b,a,f,m,r,s,.inr ⟨n,p,.none,I.unwish,F,.inl rfl⟩,g _ _ _ q⟩
theorem bT:fI (CXE X.prog X.w) (X.bod E) (λc _ H=>E c none H):=passB λ_ _ _ q=>q
theorem bB:fI (CXE P w) X E0:=λ_ _ _ _ _ _ _ ⟨_,_,_,_,_,q⟩=>False.elim q
def Ip(X:Cx)(E:Value->Hp->Prop):Prop:=∀(b:Mb)(o : St)(H:Hp)(s:Shared)(m:Heap)(e:Addr)(f:Value)(g:Mh),Inv X b o H s->Heap.MadeExcOf s.heap m e f g->E f H->X.xe (.ref e) {s with heap:=m}
theorem eX:Ip (X.bod E) (λc H=>E c none H):=λb m H s n e g f I mk q=>⟨b,e,g,m,H,rfl,.inl ⟨s,f,I.unwish,mk,rfl⟩,q⟩
theorem kB(O:Own X):PassesOwn (model X.prog X.w) X.A X.env (X.bod E).xe:=Kw O
end
section
variable{P:Program}{w:World}{K:Ma}{mg:Mc}{base:Heap}
theorem PSs.leave{X:Cx}{E:XK}{st:List Stmt}{t:TS}(O:Own X)(o:X.xe=λe m=>wpAny (model X.prog X.w) X.A (leaving X.env e) (λ_ f=>CXE X.prog X.w X.outer X.H₀ X.s₀ E e f) (λp f=>CXE X.prog X.w X.outer X.H₀ X.s₀ E p f) m)
  (h:PSs (X.bod E) st t):PSs X st t:=λb s n H D I hw=>
 wpAny_mono (h b s n H D (I.wish _) hw) (λ_ _ q=>q.unwish) λe m ⟨b,a,g,n,r,u,F,q⟩=>by
  subst u;rw[o];exact Ij O F.frames F λy x=>⟨a,g,r,rfl,x,q⟩
theorem Fun.okX{x e:Str}{st:Stmt}{f:Addr}{y:Ml}{N o:Mg}{k:Nat}{p:Sp}(F:Fun K x e st f y)(S:FnScope N o (c9 st))(len:∀m H Q E,p m H Q E->m.length=o.length)
  (n:∀(g:Value)(A:Around)(b:List Env)(s:Shared)(H:Hp)(m:Mp)(Q:VK)(E:XK),Room k (A.deeper (envOfC e (c9 st) s.heap.objs.size f g))->p m H Q E->
   ∃t,PSs ((Ag (CXE P w) P w K mg base N e (c9 st) f g A b s H E).bod E) (fO st) t/\t (Ends.fn Q) (oO N m) H):FnOk P w K mg base (CXE P w) (k+1) f y o p:=by
 obtain⟨G,I,kV,z,J,L,g,O,B,rfl,D,r⟩:=F.ex;refine fn_of D r S len λA b s H m Q E hr u=>?_;obtain⟨t,h,q⟩:=n g A b s H m Q E hr u;exact⟨t,PSs.leave eE rfl h,q⟩
end
def J4(K:Ma)(N:Addr):Bool:=match K.lookup N with
 |some ⟨_,_,.dict b _,_⟩=>b.toList.all (λe=>match e.key with | .str _ _=>true |_=>false) && (b.toList.find? (·.key.isStr "__init__")).isNone
 |_=>false
theorem EL{K:Ma}{h:Heap}{N:Addr}(X:K.In h)(e:J4 K N=true):∃m,h.Ns N m/\m "__init__" = none:=by
 unfold J4 at e;split at e
 ·rename_i c d f n u q;rw[and_eq_true]at e;obtain⟨p,o⟩:=e;refine⟨nsFind f,⟨_,f,n,X _ _ q,rfl,λr g=>?_,λ_=>rfl⟩,?_⟩
  ·have z:=all_eq_true.mp p r (by simpa using g);split at z
   ·rename_i a b s;exact⟨a,b,s⟩
   ·cases z
  ·unfold nsFind findBy;rw[<- Array.find?_toList];cases t:f.toList.find? (·.key.isStr "__init__") with
   |none=>rfl
   |some v=>rw[t]at o;cases o
 ·cases e
abbrev Db:Mh:=[.type "ValueError",.type "Exception",.type "BaseException",.type "object"]
def uA(K:Ma):Mh->Bool
 |[]=>false
 |v::b=>(v::b == Db) || (match v with
  | .ref a=>(match K.lookup a with |some ⟨_,_,.cls e,_⟩=>J4 K e.ns |_=>false) && uA K b
  |_=>false)
theorem tZ{K:Ma}{h:Heap}(X:K.In h):∀{l:Mh},uA K l=true->OwnTail h Db l
 |[],e=>by
  unfold uA at e;cases e
 |v::o,e=>by
  unfold uA at e;rw[Bool.or_eq_true]at e;rcases e with e |e
  ·rw[beq_iff_eq.mp e];exact .base
  ·split at e
   ·rw[and_eq_true]at e;obtain⟨b,f⟩:=e;split at b
    ·rename_i c d p r q;obtain⟨m,g,n⟩:=EL X b;exact .own (X _ _ q) g n (tZ X f)
    ·cases b
   ·cases e
def dH(K:Ma)(C:Addr):Bool:=match K.lookup C with
 |some ⟨.type "type",_,.cls b,e⟩=>(match b.mro,e.toList with
  | .ref f::g,[_,_,_,_,some (.builtin n),_]=>f == C && !b.hasDel && n == "ValueError.__new__" && J4 K b.ns && uA K g
  |_,_=>false)
 |_=>false
theorem F3{K:Ma}{h:Heap}{C:Addr}{x:Str}{mg:Mc}(X:K.In h)(D:mg x=some (.ref C))(q:dH K C=true):OwnCls x C Db "ValueError.__new__" mg h:=by
 unfold dH at q;split at q
 ·rename_i E G r H;split at q
  ·rename_i Y I s t u y n z e B;simp only[and_eq_true,beq_iff_eq,Bool.not_eq_true']at q;obtain⟨⟨⟨⟨rfl,b⟩,rfl⟩,J⟩,L⟩:=q;obtain⟨m,f,g⟩:=EL X J;obtain⟨N,O,mro,Q,R,S,U,sub,V,o,W⟩:=G;dsimp only at e b f;subst e b;have p:r = #[s,t,u,y,some (.builtin "ValueError.__new__"),z]:=by
    obtain⟨l⟩:=r;simp only at B;rw[B]
   subst p;exact⟨D,I,Q,N,R,O,S,U,sub,V,o,E,s,t,u,y,z,m,X _ _ H,f,g,tZ X L⟩
  ·cases q
 ·cases q
abbrev GR(C:Addr)(E:Value->Hp->Prop):Mp->Hp->Prop:=λb e=>b.length<=sizeLine/\E (.ref C) e
def K4(C:Addr)(E:Value->Hp->Prop)(t:TA):TS:=λb e H=>t e H (GR C E)
theorem dY{X:Cx}{x:Str}{C:Addr}{np b u:Pos}{f : Expr}{rest:List Expr}{t:TA}{E:Value->Hp->Prop}(hR:Ip X E)(hc:X.calm=true)(hC:dH X.K C=true)(hg:Gl X x)(L:X.mg x=some (.ref C))(ha:PA X (f :: rest) t)
  (Q:starEach (f :: rest) X.env=(false,eval f X.env)::starEach rest X.env:=by rfl) (B:(backTo b (starEach rest X.env)).any (·.1)=false:=by rfl) (hd:(x == ("__debug__" : Str))=false:=by decide) :
  PS X (.Raise (some (.Call (.Name x np) (f :: rest) [] b)) none u) (K4 C E t):=by
 intro g s R H D I h;have O:OwnCls x C Db "ValueError.__new__" X.mg X.base:=F3 I.mod.kin L hC;obtain⟨tl,N,S,q,U,m,V,sub,W,n,Y,Z,k1,k2,k3,k5,mN,G,hN,J,T⟩:=O.obj;refine wpAny_Raise_call_subU (C:=C) (nm:=S) (q:=q) (N:=N) (bs:=U) (bm:=tl) (hdct:=m) (sn:=V) (sub:=sub) (ab:=W) (col:=n) (dd:=Y) (k0:=Z) (k1:=k1) (k2:=k2) (k3:=k3) (k5:=k5)
  PySem.F.excBase_ValueError (by decide) PySem.F.excBase_ValueError (mN:=mN) (T.hasType PySem.F.excBase_ValueError.hasBase) (I.ok.hd hc) (by rw[Q];show (false || (backTo b (starEach rest X.env)).any (·.1))=false;rw[B];rfl) J (iI I hg L ⟨rfl,?_⟩ hd)
 have o:=ha b g s R H _ I h;rw[Q]at o⊢;refine Calls.evalArgs_plain (wpAny_mono o (λvs p z=>?_) λ_ _ y=>y);obtain⟨ws,H2,r,r2,z,q2⟩:=z;exact⟨rfl,by rw[<- r2.length];exact z,r.bk _ _ G,hN.keeps r.bk,T.keeps r.bk,λh' e mk=>hR g R H2 p h' e _ _ r mk q2⟩
structure Callee(P:Program)(w:World)(K:Ma)(mg:Mc)(base:Heap)(x:Str)(k:Nat)(ps:Mg)(sp:Sp):Prop where
 ex:∃f fd,FnOk P w K mg base (CXE P w) k f fd ps sp/\mg x=some (.ref f)/\keepIn K (.ref f)=true/\i7 K fd ps []
structure Method(P:Program)(w:World)(K:Ma)(mg:Mc)(base:Heap)(C:Addr)(m:Str)(k:Nat)(ps:Mg)(sp:Sp):Prop where
 ex:∃f fd,FnOk P w K mg base (CXE P w) k f fd ps sp/\Meth K C m f/\i7 K fd ps []
structure Maker(P:Program)(w:World)(K:Ma)(mg:Mc)(base:Heap)(x:Str)(C:Addr)(k:Nat)(ps:Mg)(sp:Sp):Prop where
 ex:∃f fd,FnOk P w K mg base (CXE P w) k f fd ps sp/\Mk K C f/\mg x=some (.ref C)/\i7 K fd ps []
abbrev KW(b:Sp)(E:XK)(Q:VK):Mp->Hp->Prop:=λe f=>b e f Q E
def tFn(b:Sp)(E:XK)(t:TA):TE:=λe H Q=>t e H (KW b E Q)
abbrev GU(b:Sp)(E:XK)(Q:VK)(x:V):Mp->Hp->Prop:=λe H2=>b (x::e) H2 Q E
inductive K6(C:Addr)(m:Str)(sp:Sp)(E:XK)(t:TA)(σ : St)(Q:VK)(x:V)(H1:Hp):Prop
 |mk:∀a dx fs,x = .ref a->H1 a=some (.ins C dx fs)->fs.lookup m=none->t σ H1 (GU sp E Q x)->K6 C m sp E t σ Q x H1
def tMe(C:Addr)(m:Str)(e:Sp)(E:XK)(f:TE)(t:TA):TE:=λb H Q=>f b H (K6 C m e E t b Q)
abbrev GT(C:Addr)(f:Sp)(E:XK)(Q:VK):Mp->Hp->Prop:=λg e=>∀x b,e x=none->e b=none->b≠x->
 f (.ref x::g) (upd (upd e b (.own x)) x (.ins C b [])) (λv H2=>v = .non/\Q (.ref x) H2) E
def tMk(C:Addr)(b:Sp)(E:XK)(t:TA):TE:=λe H Q=>t e H (GT C b E Q)
section
variable{X:Cx}{k:Nat}{C:Addr}{ps:Mg}{sp:Sp}{E:XK}{x m:Str}{p pos apos:Pos}{e o:Expr}{es:List Expr}{ta:TE}{t:TA}
theorem xE{st:St}{H:Hp}{Q:VK}(h:tFn sp E t st H Q):Do sp [] E t st H Q:=by
 unfold Do;unfold tFn at h;have e:Dn sp [] E Q=KW sp E Q:=by
  funext b f;show sp (b++[]) f Q E=_;rw[append_nil]
 rw[e];exact h
theorem bC(c:Callee X.prog X.w X.K X.mg X.base x k ps sp)(hr:Room k X.A)(q:fI (CXE X.prog X.w) X E)(r:PA X (e::es) t)(u:Gl X x:=by rfl)(g:(x == ("__debug__" : Str))=false:=by decide)
  (y:starEach (e::es) X.env=(false,eval e X.env)::starEach es X.env:=by rfl) (n:(backTo pos (starEach es X.env)).any (·.1)=false:=by rfl):PE X (.Call (.Name x p) (e::es) [] pos) (tFn sp E t):=by
 obtain⟨f,J,F,z,B,D⟩:=c.ex;intro b s G H Q I h;exact Jj F hr u z B D .nil q r g y n b s G H Q I (xE h)
theorem Lh(c:Callee X.prog X.w X.K X.mg X.base x k ps sp)(hr:Room k X.A)(n:fI (CXE X.prog X.w) X E)(q:Gl X x:=by rfl)(g:(x == ("__debug__" : Str))=false:=by decide):PE X (.Call (.Name x p) [] [] pos) (tFn sp E lR):=by
 obtain⟨f,B,F,r,u,y⟩:=c.ex;intro b s z H Q I h;exact HL F hr q r u y .nil n g b s z H Q I (xE h)
theorem xB{st:St}{H:Hp}{Q:VK}(h:tMe C m sp E ta t st H Q):Dh C m sp [] E ta t st H Q:=by
 unfold Dh;unfold tMe at h;have e:Ce C m sp [] E t st Q=K6 C m sp E t st Q:=by
  funext x u;refine propext ⟨λ⟨a,b,f,g,n,q,r⟩=>⟨a,b,f,g,n,q,?_⟩,λ⟨a,b,f,g,n,q,r⟩=>⟨a,b,f,g,n,q,?_⟩⟩
  ·rw[show GU sp E Q x=zS sp [] E Q x by funext s H2;show _=sp (x::(s++[])) H2 Q E;rw[append_nil]];exact r
  ·rw[show zS sp [] E Q x=GU sp E Q x by funext s H2;show sp (x::(s++[])) H2 Q E=_;rw[append_nil]];exact r
 rw[e];exact h
theorem cP(c:Method X.prog X.w X.K X.mg X.base C m k ps sp)(r:Cls X.K C)(hr:Room k X.A)(u:fI (CXE X.prog X.w) X E)(y:PE X o ta)(z:PA X (e::es) t)
  (g:starEach (e::es) X.env=(false,eval e X.env)::starEach es X.env:=by rfl) (n:(backTo pos (starEach es X.env)).any (·.1)=false:=by rfl)
  (B:eval (.Call (.Attribute o m apos) (e::es) [] pos) X.env=(do
   let q <- eval o X.env
   standAt apos.atName
   let (f,first) <- holding [q] (getMethod q m L)
   callWith pos f first (backTo pos (starEach (e::es) X.env)) (backToKw pos (keywordEach [] X.env))):=by rfl) :
  PE X (.Call (.Attribute o m apos) (e::es) [] pos) (tMe C m sp E ta t):=by
 obtain⟨f,N,F,D,G⟩:=c.ex;intro b s J H Q I h;exact Jf y r D F hr G .nil u z g n B b s J H Q I (xB h)
theorem eK(c:Method X.prog X.w X.K X.mg X.base C m k ps sp)(n:Cls X.K C)(hr:Room k X.A)(q:fI (CXE X.prog X.w) X E)(r:PE X o ta)
  (u:eval (.Call (.Attribute o m apos) [] [] pos) X.env=(do
   let g <- eval o X.env
   standAt apos.atName
   let (f,first) <- holding [g] (getMethod g m D)
   callWith pos f first (backTo pos (starEach [] X.env)) (backToKw pos (keywordEach [] X.env))):=by rfl) :
  PE X (.Call (.Attribute o m apos) [] [] pos) (tMe C m sp E ta lR):=by
 obtain⟨f,G,F,y,z⟩:=c.ex;intro b s B H Q I h;exact HJ r n y F hr z .nil q u b s B H Q I (xB h)
theorem xC{st:St}{H:Hp}{Q:VK}(h:tMk C sp E t st H Q):Dj C sp [] E t st H Q:=by
 unfold Dj;unfold tMk at h;rw[show zT C sp [] E Q=GT C sp E Q by unfold zT GT;simp only[append_nil]];exact h
theorem Kl(c:Maker X.prog X.w X.K X.mg X.base x C k ps sp)(hr:Room (k+1) X.A)(q:fI (CXE X.prog X.w) X E)(r:PA X (e::es) t)(u:Gl X x:=by rfl)(g:(x == ("__debug__" : Str))=false:=by decide)
  (y:starEach (e::es) X.env=(false,eval e X.env)::starEach es X.env:=by rfl) (n:(backTo pos (starEach es X.env)).any (·.1)=false:=by rfl):PE X (.Call (.Name x p) (e::es) [] pos) (tMk C sp E t):=by
 obtain⟨f,G,F,M,z,B⟩:=c.ex;intro b s D H Q I h;exact Jg M F hr u z B .nil q r g y n b s D H Q I (xC h)
end
inductive XPp(X:Cx)(pins:Mb)(R:XC)(e:Value)(s':Shared):Prop
 |mk:∀(a:Addr)(cls:Value)(σ : St)(H':Hp),e = .ref a->AtX X pins σ H' s' a cls->R cls σ H'->XPp X pins R e s'
abbrev TX:=Ends->XC->St->Hp->Prop
abbrev TEX:=St->Hp->VK->(Value->Hp->Prop)->Prop
def PEx(X:Cx)(e:Expr)(t:TEX):Prop:=
 ∀b s f H(Q:VK)(R:Value->Hp->Prop),Inv X b f H s->t f H Q R->wpAny (model X.prog X.w) X.A (eval e X.env) (EP X b f Q) (XPp X b λc g m=>g = f/\R c m) s
def PSx(X:Cx)(st:Stmt)(t:TX):Prop:=
 ∀b s e H(D:Ends)(R:XC),Inv X b e H s->t D R e H->wpAny (model X.prog X.w) X.A (exec st X.env) (SP X b D) (XPp X b R) s
def Iq(X:Cx)(st:List Stmt)(t:TX):Prop:=
 ∀b s e H(D:Ends)(R:XC),Inv X b e H s->t D R e H->wpAny (model X.prog X.w) X.A (execs st X.env) (SP X b D) (XPp X b R) s
section
variable{X:Cx}{k:Nat}{C:Addr}{ps:Mg}{sp:Sp}{x m:Str}{p pos apos:Pos}{e o:Expr}{es:List Expr}{ta:TE}{t:TA}
theorem JV{b:Mb}{B : St}{H:Hp}{s:Shared}{Q:VK}{g:Mh}{D:Mp}{f:Addr}{J:Ml}{R:Value->Hp->Prop}(F:FnOk X.prog X.w X.K X.mg X.base (CXE X.prog X.w) k f J ps sp)(hr:Room k X.A)(L:i7 X.K J ps [])
  (I:Inv X b B H s) (r:cE D g) (h:sp D H Q λc _ n=>R c n):wpAny (model X.prog X.w) X.A (call (.ref f) g) (EP X b B Q) (XPp X b λc E n=>E = B/\R c n) s:=by
 have N:(g++[]).length=ps.length:=by rw[append_nil,<- r.length];exact F.len _ _ _ _ h
 have y:=L s g I.kIn N;rw[append_nil]at y;refine wpAny_call (codeAny_mono (F.run X.A X.stack s H ⟨g,[]⟩ g D Q _ hr I.env0 y r h) λr V z=>?_);cases r with
 |error e=>
  obtain⟨a,G,n,O,S,q⟩:=z;exact⟨a,G,B,n,O,.inr ⟨H,s,.none,I,S,.inl rfl⟩,rfl,q⟩
 |ok U=>
  cases U with
  |ret u=>exact I.after z
  |next=>exact False.elim z
  |brk=>exact False.elim z
  |cont=>exact False.elim z
theorem Ll(g:PA X.nox es t)(I:Inv X b f H s)(h:t f H Q):wpAny (model X.prog X.w) X.A (spliced (backTo pos (starEach es X.env))) (AP X b f Q) E s:=
 wpAny_mono (g pos b s f H Q (I.wish _) h) (λ_ _ ⟨n,u,y,r,q⟩=>⟨n,u,y.unwish,r,q⟩) λ_ _ z=>False.elim z
abbrev xFn_1(sp:Sp)(Q:VK)(R:(Value->Hp->Prop)):Mp->Hp->Prop:=λb f=>sp b f Q λc _ g=>R c g
def xFn(sp:Sp)(t:TA):TEX:=λb H Q R=>t b H (xFn_1 sp Q R)
theorem px_fn(c:Callee X.prog X.w X.K X.mg X.base x k ps sp)(hr:Room k X.A)(z:PA X.nox (e::es) t)(B:Gl X x:=by rfl)(b:(x == ("__debug__" : Str))=false:=by decide)
  (D:starEach (e::es) X.env=(false,eval e X.env)::starEach es X.env:=by rfl) (g:(backTo pos (starEach es X.env)).any (·.1)=false:=by rfl):PEx X (.Call (.Name x p) (e::es) [] pos) (xFn sp t):=by
 obtain⟨f,L,F,E,G,J⟩:=c.ex;intro n s N H Q R I h;refine wpAny_Call_Name_kw (iI I B E ?_ b);refine callWith_K (h₀:=X.base) I.ok.mod.kin G (thn (Ll (pos:=pos) z I h) λO S ⟨U,V,y,r,q⟩=>⟨y.kIn,?_⟩) D g;exact JV F hr J y r q
variable{st:Stmt}{sts rest:List Stmt}{tS:TS}{tx ux:TX}{te:TEX}
theorem JY(h:PEx X e te):PSx X (.Return (some e) pos) (λD R b H=>te b H D.rt (λc g=>R c b g)):=by
 intro f s b H D R I hw;exact wpAny_Return_some (wpAny_mono (h f s b H _ _ I hw) (λv J ⟨x,y,z,B,E⟩=>⟨x,b,y,z,B,E⟩) λL N ⟨a,n,r,g,G,F,u,q⟩=>⟨a,n,r,g,G,F,by rw[u];exact q⟩)
theorem HD:Iq X [] (λD _ b H=>D.nx b H):=λ_ _ b H _ _ I h=>wpAny_execs_nil ⟨b,H,I,h⟩
theorem FA(u:PSx X st tx)(y:Iq X rest ux):Iq X (st::rest) (λD R n H=>tx (D.next (ux D R)) R n H):=by
 intro b s n H D R I hw;refine wpAny_execs_cons (thn (u b s n H _ R I hw) λf z g=>?_);cases f with
 |next=>obtain⟨r,B,E,q⟩:=g;exact y b z r B D R E q
 |brk=>exact g
 |cont=>exact g
 |ret v=>exact g
theorem HC(f:PSx X st tx):Iq X [st] tx:=λb s g H D R I hw=>FA f HD b s g H D R I (by
 cases D;exact hw)
end
def Cx.hand(X:Cx)(e:Addr):Cx:={X with A:=X.A.mark (some (.ref e)),calm:=false,xe:=λ_ _=>False}
section
variable{X:Cx}{pins:Mb}{σ : St}{H:Hp}{s:Shared}{e:Addr}
theorem Cx.Ok.hand(ok:X.Ok)(e:Addr):(X.hand e).Ok:=
 ⟨ok.mod,ok.kind,ok.glob,ok.blt,ok.above,ok.inj,ok.has,ok.cab,(λz=>Bool.noConfusion z),ok.frames,ok.stk,ok.exf,ok.bs,ok.bsz,ok.noex,ok.exfs,ok.funs,ok.frf⟩
theorem Inv.hand(I:Inv X pins σ H s)(e:Addr):Inv (X.hand e) pins σ H s:=⟨I.ok.hand e,I.os,I.bare,I.base,I.loc,I.cell,I.free,I.freeC,I.pin,I.hok,I.len⟩
theorem Inv.unhand(ok:X.Ok)(I:Inv (X.hand e) pins σ H s):Inv X pins σ H s:=⟨ok,I.os,I.bare,I.base,I.loc,I.cell,I.free,I.freeC,I.pin,I.hok,I.len⟩
theorem SP.unhand(ok:X.Ok)(h:SP (X.hand e) pins D f m):SP X pins D f m:=by
 cases f with
 |next=>obtain⟨b,g,I,q⟩:=h;exact⟨b,g,I.unhand ok,q⟩
 |brk=>obtain⟨b,g,I,q⟩:=h;exact⟨b,g,I.unhand ok,q⟩
 |cont=>obtain⟨b,g,I,q⟩:=h;exact⟨b,g,I.unhand ok,q⟩
 |ret u=>obtain⟨v,b,g,I,r,q⟩:=h;exact⟨v,b,g,I.unhand ok,r,q⟩
inductive PH(X:Cx):List ExceptHandler->(Value->TS)->Prop where
 |nil:PH X [] (λ_ _ _ _=>False)
 |cons {x:Str} {c:Value} {np pos:Pos} {b₀ : Stmt} {suite:List Stmt} {rest:List ExceptHandler} {t:TS} {u:Value->TS} (hg:Gl X x) (hm:X.mg x=some c) (hd:(x == ("__debug__" : Str))=false) (hs:∀e,PSs (X.hand e) (b₀ :: suite) t) (hr:PH X rest u) :
   PH X (.ExceptHandler (some (.Name x np)) none (b₀ :: suite) pos::rest) (λcls D σ H=>(PySem.W.exmOne X.K cls c=some true/\t D σ H)\/(PySem.W.exmOne X.K cls c=some false/\u cls D σ H))
theorem Fly.inv(I:Inv X pins σ H s)(F:Fly X.prog X.w X.stack H f s g e m n):Inv X pins σ f g:=
 I.call' F.os F.un F.hok F.bare λb z=>absurd z (by simp)
theorem Fly.ty(F:Fly P w l H n s g e b o):PySem.W.Looks M g.heap (typeOf (.ref e)) b:=by
 obtain⟨B,p,⟨_,_,_,q,r,T,t,u,m,f,_⟩,_⟩:=F.go;obtain⟨f,_⟩:=f;subst f;exact(PySem.W.Looks.ld m).andThen .now
theorem MF(N:PH X O u):∀{n:Hp}{m:Shared}{g:Value}{D:Ends},Inv X pins σ H s->Fly X.prog X.w X.stack H n s m e g .none->u g D σ n->
  wpAny (model X.prog X.w) X.A (handleBy (.ref e) X.env O) (SP X pins D) X.xe m:=by
 induction N with
 |nil=>intro n m g D I F h;exact False.elim h
 | @cons x c V Q B p rest t u G J L r hr S=>
  intro n m g D I F h;have y:=F.inv I;have o:∀(b:Bool){R:Bool->Shared->Prop}{E:Mm},PySem.W.exmOne X.K g c=some b->R b m->wpAny (model X.prog X.w) (X.A.mark (some (.ref e))) (excMatches (.ref e) c) R E m:=λb R E z q=>
   (PySem.W.exm_one y.kIn F.ty z).here q
  rcases h with ⟨z,h⟩ | ⟨z,h⟩
  ·refine wpAny_handleBy_cons (codeAny_handlers_test (iI (X:=X.hand e) (y.hand e) G J (o true z ?_) L)) (by intro q;cases q);refine codeAny_handlers_suite (vX F λW U=>?_);refine wpAny_mono (r e pins _ σ n D ((U.inv I).hand e) h) (λf s2 q=>?_) λ_ _ z=>False.elim z;exact SP.unhand I.ok q
  ·refine wpAny_handleBy_cons (codeAny_handlers_test (iI (X:=X.hand e) (y.hand e) G J (o false z ?_) L)) (by intro q;cases q);exact S I F h
theorem LZ(O:Own X)(o:Iq X b p)(r:PH X (g :: t) u):PS X (.Try b (g :: t) [] [] x) (λD σ H=>p D (λc m n=>u c D m n) σ H):=by
 intro pins s σ H D I h;refine wpAny_Try_except (wpAny_mono (o pins s σ H D _ I h) (λf y q=>?_) λL y ⟨a,z,m,n,B,F,q⟩=>?_)
 ·cases f with
  |next=>exact wpAny_execs_nil q
  |brk=>exact q
  |cont=>exact q
  |ret v=>exact q
 ·subst B;refine Ao O F.frames F λH s N E G=>?_;refine vX G λQ J=>?_;exact MF r E J q
end
section
variable{prog:Program}{w:World}{A:Around}{R:Result->Shared->Prop}{s:Shared}
theorem CG(I:Nat->Shared->Prop)
  (turn:∀n s,I n s->wpAny (model prog w) A (pyNext O) (λr f=>match r with
   |none=>R (.ok .next) f
   |some v=>wpAny (model prog w) A (letOwnedTupleGo b O v) (λ_ g=>wpAny (model prog w) A (assign b e v) (λ_ q=>
     wpAny (model prog w) A (forIn E true λc r=>if r=true then do let ok <- isTrue c e (eval c e);pure (ForInStep.yield ok) else pure (ForInStep.yield r)) (λok o=>
      if ok=true then wpAny (model prog w) A (eval G e) (λx t=>
       wpAny (model prog w) A (call (.builtin "list.append") [H,x]) (λ_ u=>∃m,m<n/\I m u) (λ_ _=>False) t) (λ_ _=>False) o
      else ∃m,m<n/\I m o) (λ_ _=>False) q) (λ_ _=>False) g) (λ_ _=>False) f) (λ_ _=>False) s)
  (n:Nat) (h:I n s) :
  codeAny (model prog w) A (.compLoop (.ListComp G [⟨b,iter,E,0⟩] B Q) 0 O H e) R s:=by
 refine codeAny_loop rfl I (λn s S=>?_) n h;show wpAny _ A ((compTurn (.ListComp G [⟨b,iter,E,0⟩] B Q) 0 O H e).onRaise (λx=>do noteFrame x e;theTreesLotGoes x)) _ _ s;refine wpAny_noted ?_;rw[compTurn_list];refine wpAny_noRaise ?_;refine wpAny_bind (wpAny_standAt (wpAny_bind (wpAny_mono (turn n s S) (λr f y=>?_) λ_ _ p=>p)));cases r with
 |none=>exact wpAny_pure y
 |some v=>
  refine wpAny_bind (wpAny_mono y (λ_ g D=>?_) λ_ _ p=>p);refine wpAny_bind (wpAny_mono D (λ_ q J=>wpAny_bind (wpAny_mono J (λok o z=>?_) λ_ _ p=>p)) λ_ _ p=>p);cases ok with
  |false=>exact wpAny_pure ⟨rfl,z⟩
  |true=>
   exact wpAny_bind (wpAny_bind (wpAny_mono z (λx t L=>wpAny_bind (wpAny_mono L (λ_ u N=>wpAny_pure (wpAny_pure ⟨rfl,N⟩)) λ_ _ p=>p)) λ_ _ p=>p))
end
def wD(b:Scope)(e:Env):List (Str×Addr):=(b.names.filterMap λy=>if y.2 == .free then (e.cells.lookup y.1).map (λc=>(y.1,c)) else none).reverse
theorem vL{f g : Type} [BEq f] [LawfulBEq f]{l:List (f×g)}{x:f}{c:g}(h:l.lookup x=some c):(x,c)∈l:=by
 induction l with
 |nil=>cases h
 |cons p r m=>
  obtain⟨a,b⟩:=p;rw[List.lookup_cons]at h;split at h
  ·rename_i e;cases h;rw[beq_iff_eq.mp e];exact mem_cons_self
  ·exact mem_cons_of_mem _ (m h)
theorem KJ(h:(wD f b).lookup x=some c):b.cells.lookup x=some c:=by
 have m:=vL h;unfold wD at m;rw[List.mem_reverse]at m;obtain⟨y,_,e⟩:=List.mem_filterMap.mp m;split at e
 ·cases q:b.cells.lookup y.1 with
  |none=>rw[q]at e;cases e
  |some d=>
   rw[q]at e;cases e;exact q
 ·cases e
def eO(X:Cx)(scope:Scope)(Nc:Mg)(C:Addr)(s₂ : Shared)(H₂ : Hp)(ex:List Addr):Cx where
 prog:=X.prog
 w:=X.w
 K:=X.K
 mg:=X.mg
 base:=X.base
 A:=X.A
 N:=Nc
 s₀:=s₂
 H₀:=H₂
 env:=compEnvC scope (wD scope X.env) C X.env
 outer:=X.stack
 stack:=X.stack
 ex:=ex
 fn:=λ_=>false
 calm:=X.calm
 pn:=[]
 xe:=λ_ _=>False
def mO(X:Cx)(b:Scope)(F:List (Str×Nat)):Bool:=
 b.names.all (λy=>y.2 != .cell) && b.names.all (λy=>y.2 != .local || b.names.lookup y.1 == some .local) &&
 (relabel b X.env).names.all (λy=>(y.2 != .cell && y.2 != .free) || ((wD b X.env).lookup y.1).isSome) &&
 F.all (λp=>X.N[p.2]? == some p.1 && (X.env.kindOf p.1 == some .cell || X.env.kindOf p.1 == some .free) && ((relabel b X.env).names.lookup p.1 == some .cell || (relabel b X.env).names.lookup p.1 == some .free))
def lM(T:Mg)(F:List (Str×Nat))(b : St):St:=T.map (λ_=>none)++F.map (λp=>(b[p.2]?).join)
def fH(T:Mg)(F:List (Str×Nat)):Mg:=T++F.map (·.1)
section
variable{X:Cx}{pins:Mb}{σ : St}{H:Hp}{s:Shared}{scope:Scope}{T:Mg}{F:List (Str×Nat)}{fp:List Addr}
theorem DW(I:Inv X pins σ H s)(V:scope.kind = .function)(ok:mO X scope F=true)(S:∀b∈fp,rO X pins H b)(W:∀b∈fp,∃o,s.heap.get? b=some o) 
  (hn:n.Ns (s.heap.objs.size+1) (λ_=>none)) (hs:Heap.SameBut (s.heap.objs.size+1) ((s.heap.push {cls:=.type "list",data:=.seq #[] }).push {cls:=.type "dict",data:=.dict #[] }) n) :
  Inv (eO X scope (fH T F) (s.heap.objs.size+1) s H fp) [] (lM T F σ) (upd H s.heap.objs.size (.lst [])) {s with heap:=n,toks:=t}:=by
 unfold mO at ok;simp only[and_eq_true]at ok;obtain⟨⟨⟨ad,ae⟩,Y⟩,Z⟩:=ok;have nH:H s.heap.objs.size=none:=I.hok.fresh (le_refl _);have kp:∀b o,s.heap.get? b=some o->n.get? b=some o:=λb o e=>by
  have l:=lt_size e;rw[hs.2 b (ne_of_lt (lt_succ_of_lt l))];exact get?_push_of_some _ (get?_push_of_some _ e)
 have hD:n.get? s.heap.objs.size=some {cls:=.type "list",data:=.seq #[] }:=by
  rw[hs.2 _ (ne_of_lt (lt_succ_self _))];exact get?_push_of_some _ (get?_push_size _ rfl)
 have g:∀x c,(wD scope X.env).lookup x=some c->X.env.cells.lookup x=some c:=λx c e=>KJ e;have O:∀x c,X.env.cells.lookup x=some c->c<s.heap.objs.size:=λx c e=>by
  obtain⟨v,o,W,_⟩:=I.cell x c e;exact lt_size W
 have OK:(eO X scope (fH T F) (s.heap.objs.size+1) s H fp).Ok:=by
  refine⟨I.ok.mod,V,I.ok.glob,I.ok.blt,le_succ _,λx y c r f=>I.ok.inj x y c (g _ _ r) (g _ _ f),λx E=>?_,(λx c z=>Bool.noConfusion z),I.ok.hd,I.ok.frames,.inl rfl,λb G=>⟨?_,λx c e=>?_⟩,I.bs,?_,λb o e G=>?_,λb G aa=>?_,I.stack,I.stkFree⟩
  ·have E:(relabel scope X.env).names.lookup x=some .cell\/(relabel scope X.env).names.lookup x=some .free:=E;have q:∀k,(relabel scope X.env).names.lookup x=some k->(k = .cell\/k = .free)->((wD scope X.env).lookup x).isSome=true:=λk e V=>by
    have z:=all_eq_true.mp Y (x,k) (vL e);rcases V with rfl |rfl
    ·simpa using z
    ·simpa using z
   rcases E with E |E
   ·exact Option.isSome_iff_exists.mp (q _ E (.inl rfl))
   ·exact Option.isSome_iff_exists.mp (q _ E (.inr rfl))
  ·obtain⟨o,e⟩:=W b G;exact ne_of_lt (lt_succ_of_lt (lt_size e))
  ·exact(S b G).2.2.2.2.1 x c (g x c e)
  ·exact le_trans I.ok.bsz I.sz
  ·obtain⟨_,_,_,Q,_⟩:=S b G;rcases Q with Q |Q
   ·exact I.ok.noex b o e Q
   ·exact absurd (lt_of_lt_of_le (lt_size e) (le_trans I.ok.bsz Q)) (lt_irrefl _)
  ·rcases mem_cons.mp (I.stkSub b aa) with z |z
   ·exact(S b G).2.1 z
   ·exact(S b G).2.2.1 z
 refine⟨OK,rfl,I.bare,Un.laid kp (le_refl _) nH,⟨_,hn,λi x v r f hv=>?_⟩,λx c e=>?_,?_,λx c e=>?_,λp hp=>absurd (show p∈([]:Mb) from hp) (by simp),?_,?_⟩
 ·have r:(fH T F)[i]? = some x:=r;unfold fH at r;unfold lM at f;by_cases hi:i<T.length
  ·rw[getElem?_append_left (by simpa using hi),getElem?_map]at f;cases q:T[i]? with
   |none=>rw[q]at f;cases f
   |some z=>rw[q]at f;cases f
  ·rw[getElem?_append_right (by simpa using hi),getElem?_map]at f;rw[getElem?_append_right (by simpa using hi),getElem?_map]at r;rw[length_map]at f;cases q:F[i-T.length]? with
   |none=>rw[q]at f;cases f
   |some p=>
    rw[q]at r f;have r:p.1=x:=Option.some.inj r;have f:(σ[p.2]?).join=some v:=Option.some.inj f;subst r;have z:=all_eq_true.mp Z p (mem_of_getElem? q);simp only[and_eq_true,Bool.or_eq_true,beq_iff_eq]at z;obtain⟨⟨z1,B⟩,z3⟩:=z;have e3:σ[p.2]? = some (some v):=by
     cases q2:σ[p.2]? with
     |none=>rw[q2]at f;cases f
     |some y=>rw[q2]at f;exact congrArg some f
    obtain⟨m,hm,hl⟩:=I.loc;obtain⟨u,ru,L⟩:=hl p.2 p.1 v z1 e3 (by rcases B with B |B;exact .inr (.inl B);exact .inr (.inr B));refine⟨u,ru,.inr ⟨z3,?_⟩⟩;have U:∃c,(wD scope X.env).lookup p.1=some c:=OK.has p.1 z3;obtain⟨c,U⟩:=U;refine⟨c,U,?_⟩;rcases L with ⟨L,_⟩ | ⟨_,c',R,J⟩
    ·rcases B with B |B
     ·rw[B]at L;cases L
     ·rw[B]at L;cases L
    ·rw[g _ _ U]at R;cases R;exact J.keeps kp
 ·obtain⟨v,q⟩:=I.cell x c (g x c e);exact⟨v,q.keeps kp⟩
 ·show upd H s.heap.objs.size (.lst []) (s.heap.objs.size+1)=none;rw[aH (ne_of_gt (lt_succ_self _))];exact I.hok.fresh (le_succ _)
 ·have l:=O x c (g x c e);show upd H s.heap.objs.size (.lst []) c=none;rw[aH (ne_of_lt l)];exact I.freeC x c (g x c e)
 ·exact I.hok.laid kp (le_refl _) ⟨zero_le _,[],0,.nil,hD⟩
 ·show (lM T F σ).length=(fH T F).length;unfold lM fH;simp
def wC(T:Mg)(F:List (Str×Nat))(g:TG)(u:TT)(z:TE)(σ : St)(Q:VK)(J:It)(p:Hp):Prop:=∀D,p D=none->∃W:Nat->Nat->Mp->St->Hp->Prop,(∃m,W 0 m [] (lM T F σ) (upd p D (.lst [])))/\
 ∀i m f n H2,W i m f n H2->H2 D=some (.lst f)/\((J.stop i H2/\Q (.ref D) H2)\/(J.go i H2/\f.length<sizeLine/\∀x q,J.yld i H2 x q->g x n q λe B=>u e B λb r=>
  if b=true then z e r λy t=>t D=some (.lst f)/\∃o,o<m/\W (i+1) o (f++[y]) e (upd t D (.lst (f++[y]))) else ∃o,o<m/\W (i+1) o f e r))
def Ka(T:Mg)(F:List (Str×Nat))(b:TI)(g:TG)(e:TT)(f:TE):TE:=λσ H Q=>b σ H (wC T F g e f σ Q)
def PIf(X:Cx)(b:List Expr)(t:TT):Prop:=
 ∀pins s σ H(Q:Bool->Hp->Prop),Inv X pins σ H s->t σ H Q->wpAny (model X.prog X.w) X.A (forIn b true λc r=>if r=true then do let ok <- isTrue c X.env (eval c X.env);pure (ForInStep.yield ok) else pure (ForInStep.yield r)) (TP X pins σ Q) X.xe s
def GO:TT:=λ_ H Q=>Q true H
theorem AD{X:Cx}:PIf X [] GO:=λpins s σ H Q I h=>wpAny_tests_nil ⟨H,I,h⟩
theorem hG{X:Cx}{c:Expr}{t:TT}(h:PT X c t):PIf X [c] t:=λpins s σ H Q I q=>wpAny_tests_one (h pins s σ H Q I q)
theorem CF(I:Inv X pins σ H2 s2)(E:∀b∈fp,rO X pins H2 b)(m:Inv (eO X scope S (s2.heap.objs.size+1) s2 H2 fp) [] G y p)(x:Heap.SameBut (s2.heap.objs.size+1) p.heap D):Inv X pins σ y {p with heap:=D}:=by
 have U:Un (frs X.stack) fp H2 y s2.heap p.heap:=m.base;have B:∀b o,s2.heap.get? b=some o->b≠s2.heap.objs.size+1:=λb o e=>ne_of_lt (lt_succ_of_lt (lt_size e));have g:y (s2.heap.objs.size+1)=none:=m.free;refine I.call' (s':={p with heap:=D}) (ch:=fp) m.os ⟨λb o q n f t=>(x.2 b (B b o q)).trans (U.keep b o q n f t),λb o q n f t=>?_,U.free,λb o q t=>?_,U.tups,U.frzs,U.tbls⟩ ?_ m.bare λb f=>?_
 ·obtain⟨J,z⟩:=U.slot b o q n f t;exact⟨J,(x.2 b (B b o q)).trans z⟩
 ·obtain⟨L,z⟩:=U.there b o q t;exact⟨L,(x.2 b (B b o q)).trans z⟩
 ·intro a o e;refine(m.hok a o e).stay (λb u f q=>(x.2 b ?_).trans q) (λ_ q=>q) λ_ _ q=>q;rintro rfl;rcases f with f |f
  ·rw[<- f,g]at e;cases e
  ·rw[g]at f;cases f
 ·obtain⟨W,N,Y,O,Q,R⟩:=E b f;exact⟨O,N,Q,R⟩
theorem zD{ae tg iter:Expr}{af:List Expr}{ak:Pos}{g:TG}{tc:TT}{te:TE}{J:It}{it:Addr}{tn:Nat->Heap->Prop}{s2:Shared}{H2:Hp}{RR:Value->Addr->Result->Shared->Prop}{E:Mm}{Q:Addr->Hp->Prop}
  (hc:X.calm=true) (hk:scope.kind = .function) (ok:mO X scope F=true)
  (hg:∀C G I ex,PG (eO X scope (fH T F) C G I ex) tg g) (au:∀C G I ex,PIf (eO X scope (fH T F) C G I ex) af tc) (he:∀C G I ex,PE (eO X scope (fH T F) C G I ex) ae te)
  (I2:Inv X pins σ H2 s2) (Y:Turn X.prog X.w X.K tg J fp it tn) (ag:tn 0 s2.heap) (f2:∀b∈fp,rO X pins H2 b)
  (h3:∀D,H2 D=none->∃W:Nat->Nat->Mp->St->Hp->Prop,(∃m,W 0 m [] (lM T F σ) (upd H2 D (.lst [])))/\
   ∀i m O Z H2,W i m O Z H2->H2 D=some (.lst O)/\((J.stop i H2/\Q D H2)\/(J.go i H2/\O.length<sizeLine/\∀x H3,J.yld i H2 x H3->g x Z H3 λt H4=>tc t H4 λb H5=>
    if b=true then te t H5 λy H6=>H6 D=some (.lst O)/\∃R,R<m/\W (i+1) R (O++[y]) t (upd H6 D (.lst (O++[y]))) else ∃R,R<m/\W (i+1) R O t H5)))
  (av:∀D s' Z L,Inv (eO X scope (fH T F) (s2.heap.objs.size+1) s2 H2 fp) [] Z L s'->Q D L->RR (.ref D) (s2.heap.objs.size+1) (.ok .next) s') :
  wpAny (model X.prog X.w) X.A (newList []) (λal am=>wpAny (model X.prog X.w) X.A (newFunctionEnv scope X.env.globals (wD scope X.env) [] X.env.qual none .none (some X.env)) (λac an=>
   codeAny (model X.prog X.w) X.A (.compStart (.ListComp ae [⟨tg,iter,af,0⟩] scope ak) 0 (.ref it) al {ac with scope:=relabel scope X.env}) (RR al ac.locals) an) E am) E s2:=by
 have ah:=ok;unfold mO at ah;simp only[and_eq_true]at ah;obtain⟨⟨⟨aw,a5⟩,a6⟩,ba⟩:=ah;have ai:∀y∈scope.names,y.2 ≠ .cell:=λy hy z=>by
  have:=all_eq_true.mp aw y hy;rw[z]at this;cases this
 refine wpAny_newObj_type (wpAny_newFunctionEnv ai (by intro y hy;simp at hy) (λS B q=>?_) hk);dsimp only at B q⊢;have ax:(s2.heap.push {cls:=.type "list",dict:=none,data:=.seq ([]:Mh).toArray}).objs.size=s2.heap.objs.size+1:=size_push _ _;rw[ax]at B q⊢;have I3:Inv (eO X scope (fH T F) (s2.heap.objs.size+1) s2 H2 fp) [] (lM T F σ) (upd H2 s2.heap.objs.size (.lst [])) {s2 with heap:=S,toks:=s2.toks+([]:List (Str×Value)).length}:=
  DW I2 hk ok f2 (λb N=>let ⟨o,e,_⟩:=Y.obj _ _ ag b N;⟨o,e⟩) B q
 obtain⟨W,⟨m0,w0⟩,turn⟩:=h3 s2.heap.objs.size (I2.hok.fresh (le_refl _));have U:∀{L:Hp},(∀b∈fp,L b=none)->∀b∈fp,rO (eO X scope (fH T F) (s2.heap.objs.size+1) s2 H2 fp) [] L b:=λ{L} hn b N=>
  ⟨hn b N,(I3.ok.exf b N).1,I3.ok.exfs b N,.inl N,(I3.ok.exf b N).2,λp hp=>absurd (show p∈([]:Mb) from hp) (by simp)⟩
 have aq:tn 0 S:=Y.keep _ _ _ ag λb N o e=>by
  have l:=lt_size e;rw[q.2 b (ne_of_lt (lt_succ_of_lt l))];exact get?_push_of_some _ (get?_push_of_some _ e)
 have ay:∀b∈fp,(upd H2 s2.heap.objs.size (.lst [])) b=none:=λb N=>by
  obtain⟨o,e,_⟩:=Y.obj _ _ ag b N;rw[aH (ne_of_lt (lt_size e))];exact(f2 b N).1
 have ad:codeAny (model X.prog X.w) X.A (.compLoop (.ListComp ae [⟨tg,iter,af,0⟩] scope ak) 0 (.ref it) (.ref s2.heap.objs.size) (compEnvC scope (wD scope X.env) (s2.heap.objs.size+1) X.env))
   (RR (.ref s2.heap.objs.size) (s2.heap.objs.size+1)) {s2 with heap:=S,toks:=s2.toks+([]:List (Str×Value)).length}:=by
  refine CG (λn s'=>∃i O V L,Inv (eO X scope (fH T F) (s2.heap.objs.size+1) s2 H2 fp) [] V L s'/\tn i s'.heap/\(∀b∈fp,L b=none)/\W i n O V L) ?_ m0 ⟨0,[],_,_,I3,aq,ay,w0⟩;rintro n s4 ⟨i,O,t,H4,I4,ar,as,w4⟩;obtain⟨hD,go⟩:=turn i n O t H4 w4;rcases go with ⟨stop,qn⟩ | ⟨go,hz,step⟩
  ·refine thn (Y.done (eO X scope (fH T F) (s2.heap.objs.size+1) s2 H2 fp) rfl rfl rfl hc i [] s4 t H4 (λ_ _=>False) I4 (U as) ar stop) λr s5 f=>?_;obtain⟨hr,I5⟩:=f;subst hr;exact av _ s5 t H4 I5 qn
  ·refine thn (Y.item (eO X scope (fH T F) (s2.heap.objs.size+1) s2 H2 fp) rfl rfl rfl hc i [] s4 t H4 (λ_ _=>False) I4 (U as) ar go) λr s5 f=>?_;obtain⟨u,hr,h5⟩:=f;subst hr;refine thn h5 λ_ s6 f=>?_;obtain⟨x,H6,I6,r6,y6,aj,az⟩:=f;have a0:=I6.pinned (U az) (Y.obj _ _ aj);refine thn (hg _ _ _ _ _ s6 t H6 x u _ a0 r6 (step x H6 y6)) λ_ s7 f=>?_;obtain⟨aa,H7,I7,q7⟩:=f;refine thn (au _ _ _ _ _ s7 aa H7 _ I7 q7) λb s8 f=>?_;obtain⟨H8,I8,q8⟩:=f;have again:∀{s9:Shared}{ab:St}{H9:Hp}{zs:Mp},Inv (eO X scope (fH T F) (s2.heap.objs.size+1) s2 H2 fp) ([]++vC fp s6.heap) ab H9 s9->(∃R,R<n/\W (i+1) R zs ab H9)->
     ∃m,m<n/\∃i O V L,Inv (eO X scope (fH T F) (s2.heap.objs.size+1) s2 H2 fp) [] V L s9/\tn i s9.heap/\(∀b∈fp,L b=none)/\W i m O V L:=λ{s9 ab H9 zs} I9 ⟨R,hm,w9⟩=>by
    refine⟨R,hm,i+1,zs,ab,H9,I9.unpinned,Y.keep _ _ _ aj λb N o e=>(I9.pin (b,o) (mem_append_right _ (mem_append_right _ (lH N e)))).1,λb N=>?_,w9⟩;obtain⟨o,e,d⟩:=Y.obj _ _ aj b N;exact(I9.pin (b,o) (mem_append_right _ (mem_append_right _ (lH N e)))).2.1
   cases b with
   |false=>
    rw[if_neg Bool.false_ne_true]at q8⊢;exact again I8 q8
   |true=>
    rw[if_pos rfl]at q8⊢;refine thn (he _ _ _ _ _ s8 aa H8 _ I8 q8) λuy s9 f=>?_;obtain⟨y,H9,I9,r9,a1,q9⟩:=f;refine thn (iM _ s9 aa H9 (.ref s2.heap.objs.size) [y] (.ref s2.heap.objs.size) [uy] (λ_ L=>∃R,R<n/\W (i+1) R (O++[y]) aa L) I9 rfl (.cons r9 .nil) ⟨_,O,y,rfl,rfl,a1,hz,q9⟩) λ_ bc f=>?_;obtain⟨_,bd,a2,_,a3⟩:=f;exact again a2 a3
 exact codeAny_compStart_list ad (Y.self _ 0 _ _ _ aq ad)
theorem cZ{r u iter:Expr}{t:List Expr}{y:Pos}{R:TI}{g:TG}{S:TT}{U:TE}(T:Mg)(F:List (Str×Nat))(hc:X.calm=true)(hi:PI X u iter R)
  (hg:∀C b f ex,PG (eO X scope (fH T F) C b f ex) u g) (B:∀C b f ex,PIf (eO X scope (fH T F) C b f ex) t S) (he:∀C b f ex,PE (eO X scope (fH T F) C b f ex) r U)
  (o:closureFor scope X.env=pure (wD scope X.env):=by rfl) (V:scope.kind = .function:=by rfl) (ok:mO X scope F=true:=by rfl) (hs:∀x,foldedSetIterable iter X.env x=pure x:=by intro _;rfl) :
  PE X (.ListComp r [⟨u,iter,t,0⟩] scope y) (Ka T F R g S U):=by
 intro pins s σ H Q I h;have p:=ok;unfold mO at p;simp only[and_eq_true]at p;obtain⟨⟨⟨aa,E⟩,ab⟩,ac⟩:=p;have n:∀x∈scope.names,x.2 = .local->scope.names.lookup x.1=some .local:=λx hx z=>by
  have:=all_eq_true.mp E x hx;rw[z]at this;simpa using this
 rw[eval_ListComp];refine wpAny_comprehension_free (use:=none) rfl hs o V n (thn (hi pins s σ H _ I h) λv s1 h1=>thn h1 λae s2 h2=>?_);obtain⟨it,fp,tn,J,H2,e,W,Tn,G,Y,h3⟩:=h2;subst e;refine zD (RR:=λL C=>compPost (model X.prog X.w) X.A X.xe none (EP X pins σ Q) L C) (Q:=λD N=>Q (.ref D) N) hc V ok hg B he W Tn G Y h3 λD s' af N Z q=>?_;obtain⟨m,hn,_⟩:=Z.loc;exact⟨m,hn,λh' O=>⟨.ref D,N,CF W Y Z O,rfl,q⟩⟩
theorem lE{y:Str}{i:Nat}{N G:Pos}{t U iter:Expr}{u:List Expr}{B:Pos}{wi:TI}{g:TG}{tc:TT}{te:TE}(T:Mg)(F:List (Str×Nat))(hN:X.N.Nodup)(hy:X.N[i]? = some y)(Y:Loc X.env.scope y)(hc:X.calm=true)(hi:PI X U iter wi)
  (hg:∀C f n ex,PG (eO X scope (fH T F) C f n ex) U g) (Z:∀C f n ex,PIf (eO X scope (fH T F) C f n ex) u tc) (he:∀C f n ex,PE (eO X scope (fH T F) C f n ex) t te)
  (aa:swapsWith (.ListComp t [⟨U,iter,u,0⟩] scope B) (some (.Name y N)) G.line X.env=pure true:=by rfl)
  (O:closureFor scope X.env=pure (wD scope X.env):=by rfl) (hk:scope.kind = .function:=by rfl) (ok:mO X scope F=true:=by rfl) (hs:∀x,foldedSetIterable iter X.env x=pure x:=by intro _;rfl)
  (ab:X.fn y=true\/X.env.scope.names.lookup y=some .local:=by first |exact .inl rfl |exact .inr rfl |assumption) :
  PS X (.Assign [.Name y N] (.ListComp t [⟨U,iter,u,0⟩] scope B) G) (λD σ H=>Ka T F wi g tc te σ H λv r=>D.nx (σ.set i (some v)) r):=by
 intro pins s σ H D I h;have R:=ok;unfold mO at R;simp only[and_eq_true]at R;obtain⟨⟨⟨am,ac⟩,an⟩,ao⟩:=R;have E:∀x∈scope.names,x.2 = .local->scope.names.lookup x.1=some .local:=λx Y z=>by
  have:=all_eq_true.mp ac x Y;rw[z]at this;simpa using this
 rw[exec_Assign_Name_used _ _ _ _ aa];refine wpAny_bind (wpAny_standAt (wpAny_bind ?_));show wpAny _ X.A (do let _ <- comprehension (.ListComp t [⟨U,iter,u,0⟩] scope B) scope X.env _ (newList []) false (eval iter X.env) (some (assign (.Name y N) X.env))) _ _ s;refine wpAny_bind (wpAny_mono (wpAny_comprehension_free (use:=some (assign (.Name y N) X.env)) (Q:=λ_ L=>SP X pins D .next L) rfl hs O hk E
  (thn (hi pins s σ H _ I h) λv s1 h1=>thn h1 λaq s2 h2=>?_)) (λ_ L hq=>wpAny_pure (wpAny_pure hq)) λ_ _ e=>e)
 obtain⟨it,fp,tn,J,H2,e,I2,Tn,ad,f2,h3⟩:=h2;subst e;refine zD (RR:=λae C=>compPost (model X.prog X.w) X.A X.xe (some (assign (.Name y N) X.env)) (λ_ L=>SP X pins D .next L) ae C) (Q:=λS r=>D.nx (σ.set i (some (.ref S))) r) hc hk ok hg Z he I2 Tn ad f2 h3 λS L ar r I' q=>?_;have I3:Inv X pins σ r L:=CF I2 f2 I' ⟨rfl,λ_ _=>rfl⟩;obtain⟨m,hn,_⟩:=I'.loc;obtain⟨W,es,ep,af,V,ag,ah⟩:=hn;have fC:r (s2.heap.objs.size+1)=none:=I'.free;have ai:s2.heap.objs.size<=s2.heap.objs.size+1:=le_succ _;have F0:=I2.fpOk (H':=r) ai fC;obtain⟨g0,g1,g2,g3,g4,g5⟩:=F0;have I4:Inv X (pins++[(s2.heap.objs.size+1,W)]) σ r L:=I3.pins_of λp hp=>(mem_append.mp hp).elim (λz=>I3.pin p (mem_append_right _ z)) λz=>by
  have e:p=(s2.heap.objs.size+1,W):=by simpa using z
  subst e;exact⟨af,fC,g1,g2,λv z=>by rw[V]at z;cases z⟩
 show wpAny _ X.A (assign (.Name y N) X.env (.ref S)) _ _ _;refine thn (bK (pos:=N) hN hy Y ab _ L σ r (.ref S) (.ref S) _ I4 rfl (show sE i (.ref S) σ r D.nx from q)) λ_ s5 aj=>?_;obtain⟨ak,H5,I5,q5⟩:=aj;have p5:=I5.pin (s2.heap.objs.size+1,W) (mem_append_right _ (mem_append_right _ (by simp)));refine⟨m,⟨W,es,ep,p5.1,V,ag,ah⟩,λh' al=>?_⟩;refine⟨ak,H5,?_,q5⟩;have I6:=I5.unpinned;exact I6.turned (it:=s2.heap.objs.size+1) (t':=s5.toks) (λb o hb e=>(al.2 b hb).trans e) p5.2.1 g1 g3 g4 g5
end
mutual
def Den(H:Hp):PyData->V->Prop
 | .none,v=>v = .non
 | .bool b,v=>v = .bl b
 | .int i,v=>v = .int i
 | .str x,v=>v = .str x
 | .tuple f,v=>∃a e,v = .ref a/\H a=some (.tup e)/\aQ H f e
 | .list f,v=>∃a e,v = .ref a/\H a=some (.lst e)/\aQ H f e
 | .dict _,_=>False
def aQ(H:Hp):Mj->Mp->Prop
 |[],b=>b=[]
 |d::e,b=>∃x r,b=x::r/\Den H d x/\aQ H e r
end
section
variable{X:Cx}{pins:Mb}{σ : St}{H H':Hp}{s:Shared}{K:Ma}
theorem aG.seqT(e:aG H H')(h:SqT K H a b):SqT K H' a b:=by
 rcases h with (h | ⟨o,h⟩) |h
 ·exact .inl (.inl (e _ _ h))
 ·exact .inl (.inr ⟨o,e _ _ h⟩)
 ·exact .inr h
mutual
theorem Den.same(e:aG H H'):∀{d:PyData}{v:V},Den H d v->Den H' d v
 | .none,v,h=>by simp only[Den]at h⊢;exact h
 | .bool b,v,h=>by simp only[Den]at h⊢;exact h
 | .int i,v,h=>by simp only[Den]at h⊢;exact h
 | .str x,v,h=>by simp only[Den]at h⊢;exact h
 | .tuple p,v,h=>by
  simp only[Den]at h⊢;obtain⟨a,f,g,m,o⟩:=h;exact⟨a,f,g,e _ _ m,aQ.same e o⟩
 | .list p,v,h=>by
  simp only[Den]at h⊢;obtain⟨a,f,g,m,o⟩:=h;exact⟨a,f,g,e _ _ m,aQ.same e o⟩
 | .dict _,v,h=>by simp only[Den]at h
theorem aQ.same(e:aG H H'):∀{f:Mj}{b:Mp},aQ H f b->aQ H' f b
 |[],b,h=>by simp only[aQ]at h⊢;exact h
 |d::f,b,h=>by
  simp only[aQ]at h⊢;obtain⟨x,r,g,m,o⟩:=h;exact⟨x,r,g,Den.same e m,aQ.same e o⟩
end
mutual
theorem kK(I:Inv X G N H s):∀{d:PyData}{v:V}{u:Value},Den H d v->cD v u->∃f,Reads s.heap u d f
 | .none,v,u,h,r=>by
  simp only[Den]at h;subst h;cases (show u=Value.none from r);exact⟨_,.none⟩
 | .bool b,v,u,h,r=>by
  simp only[Den]at h;subst h;cases (show u=Value.bool b from r);exact⟨_,.bool b⟩
 | .int i,v,u,h,r=>by
  simp only[Den]at h;subst h;obtain⟨t,e⟩:=(show ∃t,u=Value.int i t from r);subst e;exact⟨_,.int i t⟩
 | .str x,v,u,h,r=>by
  simp only[Den]at h;subst h;obtain⟨t,e⟩:=(show ∃t,u=Value.str x t from r);subst e;exact⟨_,.str x t⟩
 | .tuple J,v,u,h,r=>by
  simp only[Den]at h;obtain⟨a,L,g,m,p⟩:=h;subst g;cases (show u=Value.ref a from r);obtain⟨q,y,⟨o,z,B,n,D⟩,_⟩:=I.tuple (SqT.of m);obtain⟨f,E⟩:=oJ I p y;exact⟨f,.tuple z B D (by simpa using E)⟩
 | .list J,v,u,h,r=>by
  simp only[Den]at h;obtain⟨a,L,g,m,p⟩:=h;subst g;cases (show u=Value.ref a from r);obtain⟨q,y,⟨o,n,z,B,_,D⟩,_⟩:=I.list (SqL.of m);obtain⟨f,E⟩:=oJ I p y;exact⟨a::f,.list z B D (by simpa using E)⟩
 | .dict _,v,u,h,r=>by simp only[Den]at h
theorem oJ(I:Inv X g z H s):∀{f:Mj}{b:Mp}{e:Mh},aQ H f b->cE b e->∃m,ReadsAll s.heap e f m
 |[],b,e,h,r=>by
  simp only[aQ]at h;subst h;cases r;exact⟨_,.nil⟩
 |d::f,b,e,h,r=>by
  simp only[aQ]at h;obtain⟨x,B,n,o,p⟩:=h;subst n;cases r with
  |cons q t=>
   obtain⟨m,u⟩:=kK I o q;obtain⟨D,y⟩:=oJ I p t;exact⟨_,.cons u y⟩
end
end
section
variable{X:Cx}
inductive LV(x:V)(y:V)(H:Hp)(Q:VK):Prop
 |mk:∀d e,Den H d x->Den H e y->SeqAt.shaped d=true->SeqAt.shaped e=true->Q (.bl (PyData.eqv d e)) H->LV x y H Q
inductive LS(x:V)(y:V)(H:Hp)(Q:VK):Prop
 |mk:∀d e,Den H d x->Den H e y->SeqAt.shaped d=true->SeqAt.shaped e=true->Q (.bl (!PyData.eqv d e)) H->LS x y H Q
theorem HU(f:X.A.units+64<cLine):OpR X (compareOp .Eq) LV:=by
 intro b s z H x y v u Q I g m h;obtain⟨d,e,n,o,p,s2,q⟩:=h;obtain⟨B,r⟩:=kK I n g;obtain⟨D,t⟩:=kK I o m;exact eq_dataH r t p s2 f ⟨.bl _,H,I,rfl,q⟩
theorem vH(f:X.A.units+64<cLine):OpR X (compareOp .NotEq) LS:=by
 intro b s z H x y v u Q I g m h;obtain⟨d,e,n,o,p,s2,q⟩:=h;obtain⟨B,r⟩:=kK I n g;obtain⟨D,t⟩:=kK I o m;exact ne_dataH r t p s2 f ⟨.bl _,H,I,rfl,q⟩
inductive LU(K:Ma)(xs:Mp)(H:Hp)(Q:VK):Prop
 |mk:∀x n t b,xs=[x,.ty n]->qG K H x t->PySem.W.kitOne K t (.type n)=some b->Q (.bl b) H->LU K xs H Q
theorem Ia:gP X (.builtin "isinstance") (LU X.K):=by
 intro f s u H y z Q I r h;obtain⟨x,n,t,b,rfl,ty,g,q⟩:=h;cases r with
 |cons m e=>
  cases e with
  |cons e o=>
   cases o;cases (show _=Value.type n from e);exact Fp I m ty g λp=>⟨.bl b,H,I.tok p,rfl,q⟩
theorem aD(h:H p=none):aG H (upd H p o):=λb u e=>by
 rw[aH (bU e h)];exact e
theorem gUU{H:Hp}{p:Addr}{o:HO}(h:H p=none):∃b,upd H p o=b/\aG H b/\b p=some o:=⟨_,rfl,aD h,aB⟩
theorem new_h{H:Hp}{o:HO}{Q:Addr->Hp->Prop}(h:∀p,H p=none->∀b,aG H b->b p=some o->Q p b):∀p,H p=none->Q p (upd H p o):=λp e=>h p e _ (aD e) aB
theorem new_o{H:Hp}{o:HO}{Q:Addr->Hp->Prop}(h:∀p b,aG H b->b p=some o->Q p b):∀p,H p=none->Q p (upd H p o):=new_h λp _=>h p
inductive Kk(x:V)(y:V)(H:Hp)(Q:VK):Prop
 |mk:∀a b xs ys,x = .ref a->y = .ref b->H a=some (.tup xs)->H b=some (.tup ys)->xs.length+ys.length<=sizeLine->(∀p H',aG H H'->H' p=some (.tup (xs++ys))->Q (.ref p) H')->Kk x y H Q
theorem jD:OpR X (binaryOp .Add) Kk:=by
 intro e s V H x y v u Q I D E h;obtain⟨a,b,G,W,rfl,rfl,o,r,Y,q⟩:=h;by_cases J:G=[]
 ·subst J;cases (show v=Value.ref a from D);cases (show u=Value.ref b from E);obtain⟨Z,r1,p1,_⟩:=I.tuple (SqT.of o);obtain⟨L,r2,p2,_⟩:=I.tuple (SqT.of r);cases r1;obtain⟨⟨aa,dd,N,sl⟩,O,R,n,S⟩:=p1;obtain⟨⟨U,t,data2,B⟩,f,g,n2,m⟩:=p2;simp only at R S g m;subst R S g m;refine concat_meets ⟨_,O,rfl⟩ ⟨_,f,rfl⟩ noFill_tuple_add seq_tuple_add PySem.F.slot_tuple_add PySem.F.entry_tuple_add (PySem.F.args_tuple_add_2 _ _)
   (tuple_addW0 a b _ _ n n2 dd t sl B rfl) ⟨O,f,?_⟩
  exact⟨.ref b,H,I,rfl,q b H (aG.refl H) r⟩
 ·refine Jm e s V H (.ref a) (.ref b) v u Q I D E ⟨a,b,G,W,rfl,rfl,SqT.of o,SqT.of r,J,Y,λz=>?_,λz p hp=>q p _ (aD hp) aB⟩;subst z;refine q a H (aG.refl H) ?_;rw[append_nil];exact o
inductive LQ(K:Ma)(xs:Mp)(H:Hp)(Q:VK):Prop
 |mk:∀(p:Addr)(ns:Mf),xs=[.ref p]->(SqL K H p (ns.map V.int)\/SqT K H p (ns.map V.int))->Q (.int ns.sum) H->LQ K xs H Q
theorem mE(b:Mf):∀n,n<=b.length->PySem.preSum (λi=>b.getD i 0) n=(b.take n).sum
 |0,_=>by simp [PySem.preSum]
 |n+1,h=>by
  have e:=mE b n (by omega);have f:n<b.length:=by omega
  unfold PySem.preSum;rw[e,take_succ,List.sum_append];simp [List.getD,f]
theorem EU{f:Mf}:∀{b:Mh},cE (f.map V.int) b->∀i v,b.toArray[i]? = some v->∃t,v=Value.int (f.getD i 0) t:=by
 intro b r i v g;have g:b[i]? = some v:=by simpa using g
 have p:i<b.length:=(List.getElem?_eq_some_iff.mp g).1;have m:i<f.length:=by
  have:=r.length;rw[length_map]at this;omega
 obtain⟨u,n,o⟩:=r.get (i:=i) (x:=V.int f[i]) (by simp [m]);rw[g]at n;cases n;obtain⟨t,e⟩:=o;exact⟨t,by rw[e];simp [List.getD,m]⟩
theorem F8(hc:X.calm=true):gP X (.builtin "sum") (LQ X.K):=by
 intro L s σ H xs us Q I r h;obtain⟨p,B,rfl,N,q⟩:=h;cases r with
 |cons r1 r2=>
  cases r2;cases (show _=Value.ref p from r1);have V:X.A.in1.handled=none:=I.ok.hd hc;have fin:∀t,(∀b o,b ∉ [s.heap.objs.size]->(s.heap.get? b=some o->t.heap.get? b=some o))->t.gens=s.gens->t.os=s.os->∀D,EP X L σ Q (.int B.sum D) t:=λt W Y x D=>by
   obtain⟨Z,g',d',R,aa⟩:=t;dsimp only at Y x;subst Y x;refine⟨.int B.sum,H,I.call (h':=Z) (g':=s.gens) (d':=d') (t':=R) (ch:=[]) (Un.kept λb u e=>W b u (by simpa using ne_of_lt (lt_size e)) e) (I.hok.kept λb u e=>W b u (by simpa using ne_of_lt (lt_size e)) e) I.bare (λb z=>absurd z (by simp)),⟨D,rfl⟩,q⟩
  refine call_sum_walkAnyS ?_;rcases N with N |N
  ·obtain⟨f,O,y,hz⟩:=I.list N;have g:f.toArray.size=B.length:=by
    have:=O.length;rw[length_map]at this;simp [this]
   have S:p≠s.heap.objs.size:=by
    obtain⟨o,n,x,_⟩:=y;exact ne_of_lt (lt_size x)
   refine wpAny_pyIter_list y.isList ⟨s.heap.objs.size,_,_,_,_,_,_,(λi=>B.getD i 0),rfl,(Walks.list V s.heap.objs.size p S f.toArray).toS,⟨⟨_,get?_push_size _ rfl,rfl,rfl⟩,?_⟩,?_,λi v U=>EU O i v U,λt D E=>?_⟩
   ·obtain⟨o,n,x,G,ab,J⟩:=y;exact⟨o,get?_push_of_some _ x,G,n,J⟩
   ·obtain⟨o,n,x,_⟩:=y;intro b m;rw[size_push];rcases mem_cons.mp m with rfl |m
    ·exact lt_succ_self _
    ·have:b=p:=by simpa using m
     subst this;exact lt_succ_of_lt (lt_size x)
   ·rw[g,mE B _ (le_refl _),take_length];exact fin t (λb o m e=>E.heap b o m (get?_push_of_some _ e)) E.gens E.os D
  ·obtain⟨f,O,y,hz⟩:=I.tuple N;have g:f.toArray.size=B.length:=by
    have:=O.length;rw[length_map]at this;simp [this]
   have S:p≠s.heap.objs.size:=ne_of_lt y.lt;refine wpAny_pyIter_tuple (show s.heap.IsTuple p f.toArray from y) ⟨s.heap.objs.size,_,_,_,_,_,_,(λi=>B.getD i 0),rfl,(Walks.tuple V s.heap.objs.size p S f.toArray).toS,⟨⟨_,get?_push_size _ rfl,rfl,rfl⟩,?_⟩,?_,λi v U=>EU O i v U,λt D E=>?_⟩
   ·obtain⟨o,x,G,n,J⟩:=y;exact⟨o,get?_push_of_some _ x,G,n,J⟩
   ·intro b m;rw[size_push];rcases mem_cons.mp m with rfl |m
    ·exact lt_succ_self _
    ·have:b=p:=by simpa using m
     subst this;exact lt_succ_of_lt y.lt
   ·rw[g,mE B _ (le_refl _),take_length];exact fin t (λb o m e=>E.heap b o m (get?_push_of_some _ e)) E.gens E.os D
end
section
variable{prog:Program}{w:World}{A:Around}{E:Mm}{s:Shared}
theorem tU(e:TypeCalled T o "object.__init__")
  (B:checkTypeCall T ⟨m,kw⟩=pure ()) (q:checkBuiltinCall o ⟨.type T::m,kw⟩=pure ()) (t:entryFor table o=some D) (g:Meets (D ⟨.type T::m,kw⟩) S)
  (G:∀(b:Value),argsOk "object.__init__" ⟨b::m,kw⟩) (H:∀(b:Value),Meets (Builtin.«object.__init__» ⟨b::m,kw⟩) (λ_ R s=>s.TypeIs b T/\R (.ok (.ret .none)) s))
  (h:S A.in1 (wants (λb f=>f.TypeIs b T/\Q b f) E) s):wpAny (model prog w) A (call (.type T) m kw) Q E s:=by
 obtain⟨U,V,W⟩:=e.mro;have X:=e.made;have Y:=e.sub;refine wpAny_call (codeAny_of_tree ?tree)
 case tree=>
  show wpAny _ _ (callAny (.type T) _) _ _ _;refine wpAny_pure ⟨Code.quiet_builtin _ (by decide +kernel),codeAny_builtin PySem.F.entry_type_call ?inner⟩;rw[Around.under_plain (weight_type_call_type T m kw) (units_type_call_type T m kw)];have Z:=e.notType;have e4:=e.canCreate
  repeat (any_goals (first |assumption |wp_step))
  refine codeAny_mono (codeAny_call_builtin e.plain t (wpAny_of_eq q (g prog w A.in1 _ s h))) λI u x=>?_;cases I with
  |error ex=>exact x
  |ok J=>
   cases J with
   |ret n=>
    have y:u.TypeIs n T/\Q n u:=x;obtain⟨ty,L⟩:=y;have e5:=e.init.lookup;have e6:=e.init.bind n
    repeat (any_goals (first |assumption |wp_step))
    refine codeAny_mono (codeAny_call_builtin e.init.plain PySem.F.entry_object_init (e.init.check _ _ _ _ _ _ _ _ ty (G n) (H n prog w A.in1 (wants (λr p=>r = .none/\Q n p) E) u ⟨ty,rfl,L⟩))) λN s2 z=>?_;cases N with
    |error ex=>exact z
    |ok O=>
     cases O with
     |ret rr=>
      obtain⟨rfl,q4⟩:=z
      repeat (any_goals (first |assumption |wp_step))
     |_=>exact z.elim
   |_=>exact x.elim
theorem nV(a b:Value):checkTypeCall "enumerate" ⟨[a],[("start",b)]⟩=pure ():=by kernel_rfl
theorem pW(a b:Value):checkBuiltinCall "enumerate.__new__" ⟨[.type "enumerate",a],[("start",b)]⟩=pure ():=by kernel_rfl
theorem B5(l:Addr)(b:Array Value)(n:Nat)(o:Option Addr)(u:Me)(t:Tok) :
  Meets (Builtin.«enumerate.__new__» ⟨[.type "enumerate",.ref l],[("start",.int 1 t)]⟩) (λ_ R s=>s.heap.get? l=some {cls:=.type "tuple",dict:=o,data:=.seq b n,slots:=u}/\
   R (.ok (.ret (.ref (s.heap.push {cls:=.type "tuple_iterator",data:=.fields #[.ref l,.int 0 0] }).objs.size)))
    {s with heap:=(s.heap.push {cls:=.type "tuple_iterator",data:=.fields #[.ref l,.int 0 0] }).push {cls:=.type "enumerate",data:=.fields #[.none,.bool false,.ref s.heap.objs.size,rawInt 1,.none,.none] } }):=
 .of_wp λprog w A R s h=>by
  obtain⟨x,g,d,y,os⟩:=s;obtain⟨m,h⟩:=h;have z1:=sub_enumerate;have q:Heap.IsTuple (Shared.heap ⟨x,g,d,y,os⟩) l b:=⟨_,m,rfl,n,rfl⟩
  wp_walk using AutoSeq1.wpAny_loadPart' m
  refine wpAny_stack_any λst=>wpAny_pure ?_;split
  ·rename_i c _ _ _ _ _;cases (c == Value.type "enumerate")
   ·wp_walk using AutoSeq1.wpAny_loadPart' m,wpAny_pyIter_tuple q
    exact⟨_,rfl,h⟩
   ·wp_walk using AutoSeq1.wpAny_loadPart' m,wpAny_pyIter_tuple q
    exact⟨_,rfl,h⟩
  ·wp_walk using AutoSeq1.wpAny_loadPart' m,wpAny_pyIter_tuple q
   exact⟨_,rfl,h⟩
theorem Ac(l:Addr)(b:Array Value)(n:Nat)(o:Option Addr)(t:Me) :
  Meets (Builtin.«enumerate.__new__» ⟨[.type "enumerate",.ref l],[]⟩) (λ_ R s=>s.heap.get? l=some {cls:=.type "tuple",dict:=o,data:=.seq b n,slots:=t}/\
   R (.ok (.ret (.ref (s.heap.push {cls:=.type "tuple_iterator",data:=.fields #[.ref l,.int 0 0] }).objs.size)))
    {s with heap:=(s.heap.push {cls:=.type "tuple_iterator",data:=.fields #[.ref l,.int 0 0] }).push {cls:=.type "enumerate",data:=.fields #[.none,.bool false,.ref s.heap.objs.size,rawInt 0,.none,.none] } }):=
 .of_wp λprog w A R s h=>by
  obtain⟨u,g,d,x,os⟩:=s;obtain⟨m,h⟩:=h;have z1:=sub_enumerate;have q:Heap.IsTuple (Shared.heap ⟨u,g,d,x,os⟩) l b:=⟨_,m,rfl,n,rfl⟩
  wp_walk using AutoSeq1.wpAny_loadPart' m
  refine wpAny_stack_any λst=>wpAny_pure ?_;split
  ·rename_i c _ _ _ _ _;cases (c == Value.type "enumerate")
   ·wp_walk using AutoSeq1.wpAny_loadPart' m,wpAny_pyIter_tuple q
    exact⟨_,rfl,h⟩
   ·wp_walk using AutoSeq1.wpAny_loadPart' m,wpAny_pyIter_tuple q
    exact⟨_,rfl,h⟩
  ·wp_walk using AutoSeq1.wpAny_loadPart' m,wpAny_pyIter_tuple q
   exact⟨_,rfl,h⟩
theorem EX(e a b:Value):argsOk "object.__init__" ⟨[e,a],[("start",b)]⟩:=by
 unfold argsOk;rw[signature?_of (id:="object.__init__") (n:=['_','_','t','i','n','i','_','_']) (o:=['t','c','e','j','b','o']) (by kernel_rfl) PySem.F.owner_object]
 kernel_rfl
theorem nT(e a b:Value):Meets (Builtin.«object.__init__» ⟨[e,a],[("start",b)]⟩) (λ_ R s=>s.TypeIs e "enumerate"/\R (.ok (.ret .none)) s):=by
 refine Meets.of_wp λprog w A R s f=>?_;obtain⟨ty,q⟩:=f;have g:=PySem.F.called_enumerate.made;have m:=PySem.F.called_enumerate.init.lookup
 repeat (any_goals (first |assumption |wp_step))
 exact⟨_,rfl,q⟩
theorem J5(f:s.heap.IsTupleIter m t i)(y:s.heap.IsTuple t g)(z:g[i]? = some x)
  (B:∀n,n.IsTupleIter m t (i+1)->Heap.SameBut m s.heap n->Q x {s with heap:=n}):wpAny (model prog w) A (Builtin.SmallTypes.nextOf (.ref m)) Q E s:=by
 obtain⟨D,e,o,b⟩:=id f;obtain⟨G,p,_,H,q⟩:=y;unfold Builtin.SmallTypes.nextOf;refine wpAny_bind (wpAny_callSpecial?_slot (name:=Str.ofString "__next__") f.typeIs PySem.F.slot_tuple_iterator_next (wpAny_call_entry PySem.F.slot_tuple_iterator_next f.typeIs PySem.F.entry_tuple_iterator_next ?nx (PySem.F.args_tuple_iterator_next_1 _)))
 case nx=>
  show wpAny _ _ (field (.ref m) 0 >>= _) _ _ s;refine wpAny_bind (wpAny_field e b (x:=.ref t) rfl ?_);show wpAny _ _ (if (Value.ref t == Value.none)=true then _ else _) _ _ s;rw[if_neg (show ¬((Value.ref t == Value.none)=true) from Bool.false_ne_true)];show wpAny _ _ (field (.ref m) 1 >>= _) _ _ s;refine wpAny_bind (wpAny_field e b (x:=.int i 0) rfl ?_);show wpAny _ _ (seqItems? (.ref t) >>= _) _ _ s;refine wpAny_bind (wpAny_seqItems p q ?_);simp only[Int.toNat_natCast,z];refine wpAny_bind (wpAny_setField e b (by simp) (wpAny_pure ⟨x,rfl,wpAny_pure (B _ ⟨_,Heap.get?_update_self _ e (Obj.isFreed_of_fields (Obj.data_mapFields b _)),(Obj.cls_mapFields ..).trans o,?_⟩ (Heap.SameBut.update ..))⟩));rw[Obj.data_mapFields b];simp [rawInt]
theorem IW{e f t:Addr}{i:Nat}{lo:Int}{B:Array Value}{x m:Value}{Q:Option Value->Shared->Prop}
  (Z:IsEnum s.heap e f (lo+i) m) (aa:s.heap.IsTupleIter f t i) (ht:s.heap.IsTuple t B) (hx:B[i]? = some x) (n:e≠f)
  (hQ:∀V,IsEnumOut V e f (lo+i+1) x s.heap.objs.size->V.IsTupleIter f t (i+1)->
   V.get? s.heap.objs.size=some {cls:=.type "tuple",data:=.seq #[.int (lo+i) s.toks,x] }->(∀b o,b≠e->b≠f->s.heap.get? b=some o->V.get? b=some o)->
   Q (some (.ref s.heap.objs.size)) {s with heap:=V,toks:=s.toks+1}):wpAny (model prog w) A (pyNext (.ref e)) Q E s:=by
 have ty:s.TypeIs (.ref e) "enumerate":=⟨_,Z,rfl⟩;unfold pyNext;refine wpAny_bind (wpAny_attempt (wpAny_callSpecial?_slot (name:=Str.ofString "__next__") ty PySem.F.slot_enumerate_next (wpAny_call_entry PySem.F.slot_enumerate_next ty PySem.F.entry_enumerate_next ?nx (PySem.F.args_enumerate_next_1 _))))
 case nx=>
  obtain⟨L,g,d,z,os⟩:=s;show wpAny _ _ (field (.ref e) 2 >>= _) _ _ _;refine wpAny_bind (wpAny_field Z rfl (x:=.ref f) rfl ?_);refine wpAny_bind (J5 aa ht hx λN O p=>?_);replace p:Heap.SameBut f L N:=p;have g1:IsEnum N e f (lo+i) m:=(p.2 e n).trans Z;show wpAny _ _ (field (.ref e) 3 >>= _) _ _ ⟨N,g,d,z,os⟩;refine wpAny_bind (wpAny_field g1 rfl (x:=rawInt (lo+i)) rfl ?_);show wpAny _ _ (field (.ref e) 4 >>= _) _ _ ⟨N,g,d,z,os⟩;refine wpAny_bind (wpAny_field g1 rfl (x:=.none) rfl ?_);show wpAny _ _ (mkInt (lo+i) >>= _) _ _ ⟨N,g,d,z,os⟩;refine wpAny_bind (wpAny_mkInt ?_);show wpAny _ _ (setField (.ref e) 3 (rawInt (lo+i+1)) >>= _) _ _ ⟨N,g,d,z+1,os⟩;refine wpAny_bind (wpAny_setField_rec g1 (by simp) λW g2 u=>?_);replace u:Heap.SameBut e N W:=u;replace g2:IsEnum W e f (lo+i+1) m:=g2;show wpAny _ _ (setField (.ref e) 4 .none >>= _) _ _ ⟨W,g,d,z+1,os⟩;refine wpAny_bind (wpAny_setField_rec g2 (by simp) λS g3 y=>?_);replace y:Heap.SameBut e W S:=y;replace g3:IsEnum S e f (lo+i+1) m:=g3;show wpAny _ _ (newTuple [.int (lo+i) z,x] >>= _) _ _ ⟨S,g,d,z+1,os⟩;refine wpAny_bind (wpAny_newTuple ?_);have g4:IsEnum (S.push {cls:=.type "tuple",data:=.seq #[.int (lo+i) z,x] }) e f (lo+i+1) m:=get?_push_of_some _ g3;generalize J:S.push {cls:=.type "tuple",data:=.seq #[.int (lo+i) z,x] }=X at g4;have sz:S.objs.size=L.objs.size:=by rw[y.1,u.1,p.1]
  have el:e<L.objs.size:=lt_size Z;have t4:X.get? L.objs.size=some {cls:=.type "tuple",data:=.seq #[.int (lo+i) z,x] }:=by
   rw[<- J,<- sz];exact get?_push_size _ rfl
  have ab:∀b o,b≠e->b≠f->L.get? b=some o->X.get? b=some o:=λb o U n2 q=>by
   rw[<- J];exact get?_push_of_some _ (y.extBut b o U (u.extBut b o U (p.extBut b o n2 q)))
  have Y:X.IsTupleIter f t (i+1):=by
   obtain⟨o,ho,r⟩:=O;rw[<- J];exact⟨o,get?_push_of_some _ (y.extBut f o (Ne.symm n) (u.extBut f o (Ne.symm n) ho)),r⟩
  show wpAny _ _ (Builtin.SmallTypes.ownedTupleIsFree (.ref e) >>= _) _ _ ⟨X,g,d,z+1,os⟩;rw[sz];clear J g3 y g2 u g1 p O sz S W N;refine wpAny_bind ?_;unfold Builtin.SmallTypes.ownedTupleIsFree;refine wpAny_bind (wpAny_field g4 rfl (x:=.none) rfl (wpAny_pure ?_));simp only[if_true];refine wpAny_bind (wpAny_rule ?_);refine wpAny_bind (wpAny_field g4 rfl (x:=m) rfl ?_);refine wpAny_bind (wpAny_setField_rec g4 (by simp) λk5 g5 G=>?_);replace G:Heap.SameBut e X k5:=G;replace g5:IsEnum k5 e f (lo+i+1) x:=g5;show wpAny _ _ (Builtin.SmallTypes.ownedTupleHandOut (.ref e) (.ref L.objs.size) >>= _) _ _ ⟨k5,g,d,z+1,os⟩;refine wpAny_bind ?_;unfold Builtin.SmallTypes.ownedTupleHandOut;refine wpAny_bind (wpAny_setField_rec g5 (by simp) λk6 g6 H=>?_);replace H:Heap.SameBut e k5 k6:=H;replace g6:IsEnumOut k6 e f (lo+i+1) x L.objs.size:=g6;refine wpAny_setField_rec g6 (by simp) λk7 g7 I=>?_;replace I:Heap.SameBut e k6 k7:=I;replace g7:IsEnumOut k7 e f (lo+i+1) x L.objs.size:=g7;refine wpAny_bind (wpAny_letGo (wpAny_pure ⟨_,rfl,wpAny_pure (hQ k7 g7 ?_ ?_ ?_)⟩))
  ·obtain⟨o,ho,r⟩:=Y;exact⟨o,I.extBut f o (Ne.symm n) (H.extBut f o (Ne.symm n) (G.extBut f o (Ne.symm n) ho)),r⟩
  ·exact I.extBut _ _ (ne_of_gt el) (H.extBut _ _ (ne_of_gt el) (G.extBut _ _ (ne_of_gt el) t4))
  ·exact λb o U n2 q=>I.extBut b o U (H.extBut b o U (G.extBut b o U (ab b o U n2 q)))
theorem KF{e p t:Addr}{i:Nat}{lo:Int}{f:Array Value}{r:Value}{Q:Option Value->Shared->Prop}(u:A.handled=none)
  (B:IsEnum s.heap e p lo r) (g:s.heap.IsTupleIter p t i) (H:s.heap.IsTuple t f) (I:f[i]? = none)
  (J:∀D,Heap.ExtBut p s.heap D->Q none {s with heap:=D}):wpAny (model prog w) A (pyNext (.ref e)) Q E s:=by
 have ty:s.TypeIs (.ref e) "enumerate":=⟨_,B,rfl⟩;obtain⟨N,n,L,o⟩:=id g;obtain⟨O,y,_,R,z⟩:=H;unfold pyNext;refine wpAny_bind (wpAny_attempt (wpAny_callSpecial?_slot (name:=Str.ofString "__next__") ty PySem.F.slot_enumerate_next (wpAny_call_entry PySem.F.slot_enumerate_next ty PySem.F.entry_enumerate_next ?nx (PySem.F.args_enumerate_next_1 _))))
 case nx=>
  show wpAny _ _ (field (.ref e) 2 >>= _) _ _ _;refine wpAny_bind (wpAny_field B rfl (x:=.ref p) rfl ?_);refine wpAny_bind ?_;unfold Builtin.SmallTypes.nextOf;refine wpAny_bind (wpAny_callSpecial?_slot (name:=Str.ofString "__next__") g.typeIs PySem.F.slot_tuple_iterator_next (wpAny_call_entry PySem.F.slot_tuple_iterator_next g.typeIs PySem.F.entry_tuple_iterator_next ?nx2 (PySem.F.args_tuple_iterator_next_1 _)))
  case nx2=>
   show wpAny _ _ (field (.ref p) 0 >>= _) _ _ s;refine wpAny_bind (wpAny_field n o (x:=.ref t) rfl ?_);show wpAny _ _ (if (Value.ref t == Value.none)=true then _ else _) _ _ s;rw[if_neg (show ¬((Value.ref t == Value.none)=true) from Bool.false_ne_true)];show wpAny _ _ (field (.ref p) 1 >>= _) _ _ s;refine wpAny_bind (wpAny_field n o (x:=.int i 0) rfl ?_);show wpAny _ _ (seqItems? (.ref t) >>= _) _ _ s;refine wpAny_bind (wpAny_seqItems y z ?_);simp only[Int.toNat_natCast,I];refine wpAny_bind (wpAny_rule (wpAny_bind (wpAny_setField n o (by simp) ?_)));show wpAny _ _ (newExc (.type "StopIteration") [] >>= _) _ _ _;refine wpAny_bind ?_;simp only[newExc,newTuple];refine wpAny_bind (wpAny_newObj_type ?_ (by size_fits));refine wpAny_bind (m:=firstArgMember _ _) (wpAny_of_eq (a:=Value.none) (by first |rfl | (simp only[firstArgMember];rfl)) ?_);refine wpAny_newObj_type ?_ (by size_fits);simp only[raiseNew];refine wpAny_bind (wpAny_handled ?_)
   first |rw[show A.in1.handled=none from u] |rw[show A.in1.in1.handled=none from u] |rw[u]
   refine wpAny_bind (wpAny_pure (wpAny_throw ?_));refine wpAny_bind (wpAny_isInstance (T:="StopIteration") (b:=true) ⟨_,get?_push_size _ rfl,rfl⟩ isSubtype_stop ?_);exact wpAny_pure (J _ (((Heap.SameBut.update ..).extBut.push _).push _))
end
def Ite(K:Ma)(lo:Int)(a:Addr):It:=
 ⟨λi H=>∃b x,SqT K H a b/\b[i]? = some x,λi H x e=>∃p v,x = .ref p/\H p=none/\e=upd H p (.tup [.int (lo+i),v])/\∀b,SqT K H a b->b[i]? = some v,λi H=>∃b,SqT K H a b/\b.length<=i⟩
section
variable{X:Cx}{pins:Mb}{σ : St}{H:Hp}{s:Shared}
theorem Inv.turned2(I:Inv X pins σ H s)(g:rO X pins H e)(m:rO X pins H E)(G:s.heap.objs.size<=p)(k:∀b o,b≠e->b≠E->s.heap.get? b=some o->x.get? b=some o)
  (O:(∃o,x.get? e=some o)/\∃o,x.get? E=some o) (new:eG X.prog X.w (upd H p (.tup J)) x p (.tup J)):Inv X pins σ (upd H p (.tup J)) {s with heap:=x,toks:=t'}:=by
 have D:=I.hok.fresh G;have N:∀b o,s.heap.get? b=some o->b≠p:=λb o q=>ne_of_lt (lt_of_lt_of_le (lt_size q) G);refine I.call' (s':={s with heap:=x,toks:=t'}) (ch:=[e,E]) rfl ⟨λb o q n _ f=>?_,λb o q n _ f=>⟨o.slots,?_⟩,λb o q n _=>?_,λb o q f=>⟨o,?_⟩,λb L q=>?_,λb u L q=>?_,λb S q=>⟨#[],?_⟩⟩ ?_ I.bare λb t=>?_
 ·exact k b o (λz=>f (by simp [z])) (λz=>f (by simp [z])) q
 ·exact k b o (λz=>f (by simp [z])) (λz=>f (by simp [z])) q
 ·rw[aH (N b o q)];exact n
 ·exact k b o (λz=>f (by simp [z])) (λz=>f (by simp [z])) q
 ·rw[aH (bU q D)];exact q
 ·rw[aH (bU q D)];exact q
 ·rw[aH (bU q D),q];simp
 ·intro b u q;by_cases t:b=p
  ·subst t;rw[aB]at q;cases q;exact new
  ·rw[aH t]at q;refine(I.hok b u q).stay (λc v f r=>k c v ?_ ?_ r) (λc r=>by rw[aH (bU r D)];exact r) λc L r=>by rw[aH (bU r D)];exact r
   ·rintro rfl;rcases f with f |f
    ·rw[<- f,g.1]at q;cases q
    ·rw[g.1]at f;cases f
   ·rintro rfl;rcases f with f |f
    ·rw[<- f,m.1]at q;cases q
    ·rw[m.1]at f;cases f
 ·rcases mem_cons.mp t with rfl |t
  ·exact⟨g.2.2.2.1,g.2.1,g.2.2.2.2.1,g.2.2.2.2.2⟩
  ·have:b=E:=by simpa using t
   subst this;exact⟨m.2.2.2.1,m.2.1,m.2.2.2.2.1,m.2.2.2.2.2⟩
theorem Eu{P:Program}{w:World}{K:Ma}{elts:List Expr}{x1:Nat}{tp:Pos}(lo:Int)(a e it:Addr)(hne:e≠it) :
  Turn P w K (.Tuple elts x1 tp) (Ite K lo a) [e,it] e (λi h=>(∃old,IsEnum h e it (lo+(i:Nat)) old)/\h.IsTupleIter it a i) where
 mem:=by simp
 obj:=λi h st b hb=>by
  obtain⟨⟨old,he⟩,o,ho,hc,hd⟩:=st;rcases mem_cons.mp hb with rfl |hb
  ·exact⟨_,he,λv z=>by cases (show Data.fields _=Data.cell v from z)⟩
  ·have:b=it:=by simpa using hb
   subst this;exact⟨o,ho,λv z=>by rw[hd]at z;cases z⟩
 keep:=λi h h' st k=>by
  obtain⟨⟨old,he⟩,o,ho,r⟩:=st;exact⟨⟨old,k e (by simp) _ he⟩,o,k it (by simp) _ ho,r⟩
 item:=by
  intro X hP hw hK hc i pins s σ H E I hf st hg;subst hP hw hK;obtain⟨⟨old,he⟩,hit⟩:=st;obtain⟨xs,x,hq,hx⟩:=hg;obtain⟨its,rv,p,hz⟩:=I.tuple hq;obtain⟨u,hu,ru⟩:=rv.get hx;refine IW he hit (show s.heap.IsTuple a its.toArray from p) (x:=u) (by simpa using hu) hne λh' ho hit' ht kp=>⟨.ref s.heap.objs.size,rfl,?_⟩;refine wpAny_letOwnedTupleGo_enum ho λh2 he2 sb2=>?_;have el:e<s.heap.objs.size:=lt_size he;have il:it<s.heap.objs.size:=by
   obtain⟨o,ho',_⟩:=hit;exact lt_size ho'
  have t2:h2.get? s.heap.objs.size=some {cls:=.type "tuple",data:=.seq #[.int (lo+i) s.toks,u] }:=(sb2.2 _ (ne_of_gt el)).trans ht;have hit2:h2.IsTupleIter it a (i+1):=by
   obtain⟨o,ho',r⟩:=hit';exact⟨o,(sb2.2 it (Ne.symm hne)).trans ho',r⟩
  have eqi:lo+(i:Int)+1=lo+((i+1:Nat):Int):=by omega
  refine⟨.ref s.heap.objs.size,upd H s.heap.objs.size (.tup [.int (lo+i),x]),?_,rfl,⟨_,x,rfl,I.hok.fresh (le_refl _),rfl,λys hy=>by rw[I.tuple_inj hy hq];exact hx⟩,⟨⟨u,by rw[<- eqi];exact he2⟩,hit2⟩,λb hb=>?_⟩
  ·refine I.turned2 (t':=s.toks+1) (hf e (by simp)) (hf it (by simp)) (le_refl _) (λb o n1 n2 q=>(sb2.2 b n1).trans (kp b o n1 n2 q)) ⟨⟨_,he2⟩,let ⟨o,h,_⟩:=hit2;⟨o,h⟩⟩ ?_;refine⟨(by show 2<=sizeLine;decide),[.int (lo+i) s.toks,u],.cons ⟨_,rfl⟩ (.cons ru .nil),⟨_,t2,rfl,_,rfl⟩⟩
  ·rw[aH ?_]
   ·exact(hf b hb).1
   ·rcases mem_cons.mp hb with rfl |hb
    ·exact ne_of_lt el
    ·have:b=it:=by simpa using hb
     subst this;exact ne_of_lt il
 done:=by
  intro X hP hw hK hc i pins s σ H E I hf st hg;subst hP hw hK;obtain⟨⟨old,he⟩,hit⟩:=st;obtain⟨xs,hq,hx⟩:=hg;obtain⟨its,rv,p,hz⟩:=I.tuple hq;obtain⟨f0,f1,f2,f3,f4,f5⟩:=hf it (by simp);have hl:=rv.length;exact KF (I.ok.hd hc) he hit (show s.heap.IsTuple a its.toArray from p) (by simp;omega) λh' eb=>⟨rfl,I.turned (t':=s.toks) (λb o hb e=>eb b o hb e) f0 f1 f3 f4 f5⟩
 self:=λA i s Q E st h=>by
  obtain⟨⟨old,he⟩,_⟩:=st;exact wpAny_pyIter_enum he h
inductive AW(K:Ma)(lo:Int)(R:(It->Hp->Prop))(x:V)(H1:Hp):Prop
 |mk:∀a xs,x = .ref a->SqT K H1 a xs->R (Ite K lo a) H1->AW K lo R x H1
def EY(K:Ma)(lo:Int)(b:TE):TI:=λσ H R=>b σ H (AW K lo R)
theorem wA{tg:Expr}{m:List Expr}{u:Nat}{x:Pos}{R:It->Hp->Prop}{lo:Int}{a:Addr}{E:Mm}{tk:Nat}(I:Inv X pins σ H s)(q:R (Ite X.K lo a) H) :
  wpAny (model X.prog X.w) X.A (pyIter (.ref (s.heap.objs.size+1))) (PIE X pins σ (.Tuple m u x) R) E
   {s with heap:=(s.heap.push {cls:=.type "tuple_iterator",data:=.fields #[.ref a,.int 0 0] }).push {cls:=.type "enumerate",data:=.fields #[.none,.bool false,.ref s.heap.objs.size,rawInt lo,.none,.none] },toks:=tk}:=by
 have z:(s.heap.push {cls:=.type "tuple_iterator",data:=.fields #[.ref a,.int 0 0] }).objs.size=s.heap.objs.size+1:=size_push _ _;have t:IsEnum ((s.heap.push {cls:=.type "tuple_iterator",data:=.fields #[.ref a,.int 0 0] }).push {cls:=.type "enumerate",data:=.fields #[.none,.bool false,.ref s.heap.objs.size,rawInt lo,.none,.none] }) (s.heap.objs.size+1) s.heap.objs.size lo .none:=by
  have q:=get?_push_size (s.heap.push {cls:=.type "tuple_iterator",data:=.fields #[.ref a,.int 0 0] }) (o:={cls:=.type "enumerate",data:=.fields #[.none,.bool false,.ref s.heap.objs.size,rawInt lo,.none,.none] }) rfl;rw[z]at q;exact q
 have y:Inv X pins σ H {s with heap:=(s.heap.push {cls:=.type "tuple_iterator",data:=.fields #[.ref a,.int 0 0] }).push {cls:=.type "enumerate",data:=.fields #[.none,.bool false,.ref s.heap.objs.size,rawInt lo,.none,.none] },toks:=tk}:=
  I.kept λb o e=>get?_push_of_some _ (get?_push_of_some _ e)
 refine wpAny_pyIter_enum t ⟨s.heap.objs.size+1,[s.heap.objs.size+1,s.heap.objs.size],_,Ite X.K lo a,H,rfl,y,Eu lo a _ _ (ne_of_gt (lt_succ_self _)),⟨⟨.none,by simpa using t⟩,⟨_,get?_push_of_some _ (get?_push_size _ rfl),rfl,rfl⟩⟩,λb r=>?_,q⟩;rcases mem_cons.mp r with rfl |r
 ·exact I.fpOk (le_succ _) (I.hok.fresh (le_succ _))
 ·have:b=s.heap.objs.size:=by simpa using r
  subst this;exact I.fpOk (le_refl _) (I.hok.fresh (le_refl _))
theorem Jc{ex:Expr}{f:List Expr}{N:Nat}{O p g:Pos}{y:TE}(Q:X.mg "enumerate" = none)(S:PE X ex y)(U:Gl X "enumerate":=by rfl)(G:starEach [ex] X.env=[(false,eval ex X.env)]:=by rfl) :
  PI X (.Tuple f N O) (.Call (.Name "enumerate" p) [ex] [] g) (EY X.K 0 y):=by
 intro pins s σ H R I h;refine Call_ (lI I U Q boot_enumerate (PyProof.Rows.callWith_type1 (thn (eT S aF G g pins s σ H (λJ b=>∃a u,J=[V.ref a]/\SqT X.K b a u/\R (Ite X.K 0 a) b) I ?_) λus W ⟨J,b,L,Y,Z⟩=>?_) G rfl))
 ·have e:(λ(x:V)(b:Hp)=>lR σ b λu H2=>∃a m,x::u=[V.ref a]/\SqT X.K H2 a m/\R (Ite X.K 0 a) H2)=AW X.K 0 R:=by
   funext x b;exact propext ⟨λ⟨a,m,z,B,D⟩=>⟨a,m,(List.cons.inj z).1,B,D⟩,λ⟨a,m,z,B,D⟩=>⟨a,m,congrArg (· :: []) z,B,D⟩⟩
  exact Eq.mpr (congrArg (y σ H) e) h
 ·obtain⟨a,u,e,hq,q⟩:=Z;subst e;cases Y with
  |cons r rr=>
   cases rr;cases (show _=Value.ref a from r);obtain⟨aa,rv,⟨⟨c,dd,dt,sl⟩,ho,o,n,t⟩,hz⟩:=L.tuple hq;dsimp only at o t;subst o t;refine callType_new PySem.F.called_enumerate (by decide) (PySem.F.typeCall_enumerate_1 _) (PySem.F.newCall_enumerate_1 _) (λE=>PySem.F.args_object_init_2 E _) PySem.F.entry_enumerate_new (Ac a _ n dd sl) ⟨ho,⟨_,get?_push_size _ rfl,rfl⟩,?_⟩;rw[size_push];exact wA (tg:=ex) (tk:=W.toks) L q
theorem CI{M:Model}{A:Around}{E:Mm}{s:Shared}{g:Pos}{T:String}{x:Sem Value}{rest:List (Bool×Sem Value)}{b:List (Option Str×Sem Value)}{Q:Mm}(o:rest.any (·.1)=false)(p:b.any (·.1.isNone)=false)(q:b.all (·.1.isSome)=true)
  (h:wpAny M A (spliced ((false,x)::rest)) (λm e=>wpAny M A (evalAll (b.map (·.2))) (λn f=>wpAny M A (call (.type T) m ((b.filterMap (·.1)).zip n)) Q E f) E e) E s):wpAny M A (callWith g (.type T) [] ((false,x)::rest) b) Q E s:=by
 unfold callWith;refine wpAny_bind (wpAny_holding (evalArgs_kwB q (wpAny_mono h (λm D t=>wpAny_mono t (λn s2 u=>wpAny_bind (wpAny_standAt ?_)) λ_ _ y=>y) λ_ _ y=>y)));have z:(((false,x)::rest).any (·.1))=false:=by
  rw[any_cons,o];rfl
 simp only[z,p,Bool.or_false];refine wpAny_bind (wpAny_pure ?_);exact wpAny_bind (wpAny_mono u (λr G B=>wpAny_bind (wpAny_holding (wpAny_point (wpAny_pure B)))) λ_ _ y=>y)
theorem HI{ex:Expr}{g:List Expr}{S k:Nat}{U p m W kp:Pos}{D:TE}(Y:X.mg "enumerate" = none)(Z:PE X ex D)(hg:Gl X "enumerate":=by rfl)(E:starEach [ex] X.env=[(false,eval ex X.env)]:=by rfl) :
  PI X (.Tuple g S U) (.Call (.Name "enumerate" p) [ex] [⟨some "start",.Constant (.int 1) k W,kp⟩] m) (EY X.K 1 D):=by
 intro pins s σ H R I h;refine wpAny_Call_Name_kw (lI I hg Y boot_enumerate ?_);rw[E];refine CI (x:=eval ex X.env) (rest:=[]) rfl rfl rfl ?_;have o:=eT Z aF E m pins s σ H (λN f=>∃a B,N=[V.ref a]/\SqT X.K f a B/\R (Ite X.K 1 a) f) I (by
  have e:(λ(x:V)(f:Hp)=>lR σ f λB H2=>∃a t,x::B=[V.ref a]/\SqT X.K H2 a t/\R (Ite X.K 1 a) H2)=AW X.K 1 R:=by
   funext x f;exact propext ⟨λ⟨a,t,z,G,J⟩=>⟨a,t,(List.cons.inj z).1,G,J⟩,λ⟨a,t,z,G,J⟩=>⟨a,t,congrArg (· :: []) z,G,J⟩⟩
  exact Eq.mpr (congrArg (D σ H) e) h)
 rw[E]at o;refine thn o λus O L=>?_;obtain⟨N,f,I1,r1,q1⟩:=L;refine kws_cons (wpAny_Constant_int ?_);refine kws_nil ?_;obtain⟨a,B,e,hq,q⟩:=q1;subst e;cases r1 with
 |cons r rr=>
  cases rr;cases (show _=Value.ref a from r);have Q:=I1.tok (O.toks+1);obtain⟨aa,rv,⟨⟨c,dd,dt,sl⟩,ho,u,n,y⟩,hz⟩:=Q.tuple hq;dsimp only at u y;subst u y;refine tU (kw:=[("start",_)]) PySem.F.called_enumerate (nV _ _) (pW _ _) PySem.F.entry_enumerate_new (B5 a _ n dd sl _) (λb=>EX b _ _) (λb=>nT b _ _) ⟨ho,⟨_,get?_push_size _ rfl,rfl⟩,?_⟩;rw[size_push];exact wA (tg:=ex) (tk:=O.toks+1) Q q
end
section
variable{X:Cx}
inductive LX(K:Ma)(xs:Mp)(H:Hp)(Q:VK):Prop
 |mk:∀(p:Addr)(bs:List Bool),xs=[.ref p]->SqL K H p (bs.map V.bl)->Q (.bl (bs.all id)) H->LX K xs H Q
theorem Id{b:List Bool}:∀{f:Mh},cE (b.map V.bl) f->∀i v,f.toArray[i]? = some v->v=Value.bool (b.getD i false):=by
 intro f r i v g;have g:f[i]? = some v:=by simpa using g
 have p:i<f.length:=(List.getElem?_eq_some_iff.mp g).1;have m:i<b.length:=by
  have:=r.length;rw[length_map]at this;omega
 obtain⟨u,n,o⟩:=r.get (i:=i) (x:=V.bl b[i]) (by simp [m]);rw[g]at n;cases n;have e:v=Value.bool b[i]:=o;rw[e];simp [List.getD,m]
theorem Il(g:List Bool):((List.range g.length).all λi=>g.getD i false)=g.all id:=by
 rw[Bool.eq_iff_iff,all_eq_true,all_eq_true];constructor
 ·intro h b m;obtain⟨i,f,e⟩:=List.mem_iff_getElem.mp m;have:=h i (mem_range.mpr f);simp [List.getD,f,e]at this;simpa using this
 ·intro h i f;have f:=mem_range.mp f;have:=h g[i] (List.getElem_mem f);simpa [List.getD,f] using this
theorem GA(E:X.calm=true):gP X (.builtin "all") (LX X.K):=by
 intro z s Y H Z us Q I r h;obtain⟨p,B,rfl,G,q⟩:=h;cases r with
 |cons J L=>
  cases L;cases (show _=Value.ref p from J);have N:X.A.in1.handled=none:=I.ok.hd E;refine call_all_walk ?_;obtain⟨f,D,m,hz⟩:=I.list G;have g:f.toArray.size=B.length:=by
   have:=D.length;rw[length_map]at this;simp [this]
  have O:p≠s.heap.objs.size:=by
   obtain⟨o,n,t,_⟩:=m;exact ne_of_lt (lt_size t)
  refine wpAny_pyIter_list m.isList ⟨s.heap.objs.size,_,_,_,_,_,(λi=>B.getD i false),rfl,Walks.list N s.heap.objs.size p O f.toArray,⟨⟨_,get?_push_size _ rfl,rfl,rfl⟩,?_⟩,λi v s' Q' E' R S=>?_,λh' U V=>?_⟩
  ·obtain⟨o,n,t,x,W,y⟩:=m;exact⟨o,get?_push_of_some _ t,x,n,y⟩
  ·rw[Id D i v R];exact wpAny_truthy_bool S
  ·rw[g,Il];refine⟨.bl _,H,I.kept (t':=U) λb u e=>V b u (by simpa using ne_of_lt (lt_size e)) (get?_push_of_some _ e),rfl,q⟩
theorem G4{M:Model}{A:Around}{E:Mm}{s:Shared}{e : Type}{hi:Nat}(f:Nat->e->Sem (ForInStep e))(I:List Nat->e->Shared->Prop)(Q:e->Shared->Prop)
  (turn:∀x rest b s,I (x::rest) b s->wpAny M A (f x b) (λr m=>match r with | .yield g=>I rest g m | .done g=>Q g m) E s)
  (fin:∀b s,I [] b s->Q b s) (b:e) (h:I (List.range' 0 hi) b s):wpAny M A (forIn [0:hi] b f) Q E s:=by
 rw[Std.Legacy.Range.forIn_eq_forIn_range'];refine wpAny_forIn_list f I Q turn fin _ b ?_;simpa [Std.Legacy.Range.size] using h
theorem tW(l:Addr)(f:Array Value)(n:Nat)(z:Option Addr)(B:Me)(x:Value)(e:Value->Bool)(j:Nat)(hj:j<f.size)(D:e f[j]=true)(E:∀i(h:i<j),e f[i]=false) :
  Meets (Builtin.«tuple.index» ⟨[.ref l,x],[]⟩) (λA R s=>s.heap.get? l=some {cls:=.type "tuple",dict:=z,data:=.seq f n,slots:=B}/\(∀y,y∈f->SeqAt.EqAt A.in1 s y x (e y))/\R (.ok (.ret (.int j s.toks))) {s with toks:=s.toks+1}):=
 .of_wp λm w A R s h=>by
  obtain⟨H,g,d,I,os⟩:=s;obtain⟨J,L,h⟩:=h
  wp_walk using AutoSeq1.wpAny_loadPart' J,G4 _ (λrest b q=>b.1=none/\q=⟨H,g,d,I,os⟩/\∃i,i<=j/\rest=List.range' i (f.size-i)) _
  case turn=>
   rintro y rest b q ⟨N,rfl,i,O,hr⟩;have o:i<f.size:=by omega
   have Q:f.size-i=(f.size-(i+1))+1:=by omega
   rw[Q,List.range'_succ]at hr;obtain⟨rfl,rfl⟩:=List.cons.inj hr;have S:f[y]? = some f[y]:=by simp [o]
   rw[S];dsimp only;refine wpAny_bind (L f[y] (Array.getElem_mem o) m w _ _ ?_);by_cases r:y=j
   ·subst r;rw[D]
    wp_walk
    exact⟨_,rfl,h⟩
   ·rw[E y (by omega)]
    wp_walk
    exact⟨rfl,rfl,y+1,by omega,rfl⟩
  case fin=>
   rintro ⟨U,V⟩ q ⟨N,rfl,i,O,hr⟩;have:(List.range' i (f.size-i)).length=0:=by rw[<- hr];rfl
   rw[List.length_range']at this;omega
  case h=>
   refine⟨rfl,rfl,0,zero_le _,?_⟩;simp
inductive Cq(K:Ma)(x:V)(vs:Mp)(H:Hp)(Q:VK):Prop
 |mk:∀(a:Addr)(ks:Mg)(k:Str)(j:Nat),x = .ref a->vs=[.str k]->SqT K H a (ks.map V.str)->ks[j]? = some k->(∀i,i<j->ks[i]? ≠ some k)->Q (.int j) H->Cq K x vs H Q
theorem Hk:MtR X "tuple.index" (Cq X.K):=by
 intro L s σ H x vs v us Q I R D h;obtain⟨a,g,k,j,rfl,rfl,S,hj,U,q⟩:=h;cases (show v=Value.ref a from R);cases D with
 |cons W Y=>
  cases Y;obtain⟨t,e⟩:=W;subst e;obtain⟨b,D,⟨⟨c,Z,dt,sl⟩,N,p,n,r⟩,hz⟩:=I.tuple S;dsimp only at p r;subst p r;have f:b.length=g.length:=by
   have:=D.length;rw[length_map]at this;exact this.symm
  have m:j<g.length:=(List.getElem?_eq_some_iff.mp hj).1;have o:∀i(h:i<g.length),∃t,b[i]? = some (Value.str g[i] t):=λi h=>by
   obtain⟨u,hu,ru⟩:=D.get (i:=i) (x:=V.str g[i]) (by simp [h]);obtain⟨t,e⟩:=ru;exact⟨t,by rw[hu,e]⟩
  refine call_meets PySem.F.slot_tuple_index ⟨_,N,rfl⟩ PySem.F.entry_tuple_index (PySem.F.args_tuple_index_2 _ _)
   (tW a b.toArray n Z sl (.str k t) (λv=>match v with | .str y _=>y == k |_=>false) j (by simpa [f] using m) ?_ ?_) ⟨N,λy hy=>?_,?_⟩
  ·obtain⟨E,e⟩:=o j m;have G:b.toArray[j]'(by simpa [f] using m)=Value.str g[j] E:=by
    have:=List.getElem?_eq_some_iff.mp e;simpa using this.2
   rw[G];have:g[j]=k:=by
    have:=List.getElem?_eq_some_iff.mp hj;exact this.2
   simp [this]
  ·intro i J;have B:i<g.length:=by omega
   obtain⟨E,e⟩:=o i B;have G:b.toArray[i]'(by simp [f];omega)=Value.str g[i] E:=by
    have:=List.getElem?_eq_some_iff.mp e;simpa using this.2
   rw[G];have ne:g[i]≠k:=λz=>U i J (by rw[getElem?_eq_getElem B,z]);simpa using ne
  ·obtain⟨i,J,e⟩:=List.mem_iff_getElem.mp (show y∈b by simpa using hy);obtain⟨E,O⟩:=o i (by omega);rw[getElem?_eq_getElem J,e]at O;cases O;exact SeqAt.EqAt.str_str _ _ _ _
  ·exact⟨.int j,H,I.tok _,⟨_,rfl⟩,q⟩
end
structure Src(J:It)(H:Hp)(n:Nat)(Y:Nat->V->Hp->Prop):Prop where
 go:∀i H',i<n->aG H H'->J.go i H'
 yld:∀i H' x H'',i<n->aG H H'->J.yld i H' x H''->aG H' H''/\Y i x H''
 stop:∀H',aG H H'->J.stop n H'
section
variable{K:Ma}{H:Hp}{a:Addr}{xs:Mp}
theorem bP(h:SqL K H a xs):Src (Itl K a) H xs.length (λi x _=>xs[i]? = some x) where
 go:=λi H' hi s=>⟨xs,xs[i],s.seq h,by simp [hi]⟩
 yld:=λi H' x H'' hi s y=>⟨by rw[y.1];exact aG.refl _,y.2 xs (s.seq h)⟩
 stop:=λH' s=>⟨xs,s.seq h,le_refl _⟩
theorem s0(h:SqT K H a xs):Src (Itt K a) H xs.length (λi x _=>xs[i]? = some x) where
 go:=λi H' hi s=>⟨xs,xs[i],s.seqT h,by simp [hi]⟩
 yld:=λi H' x H'' hi s y=>⟨by rw[y.1];exact aG.refl _,y.2 xs (s.seqT h)⟩
 stop:=λH' s=>⟨xs,s.seqT h,le_refl _⟩
theorem qJ(lo:Int)(n:Nat):Src (Itr lo n) H n (λi x _=>x = .int (lo+i)) where
 go:=λi H' hi s=>hi
 yld:=λi H' x H'' hi s y=>⟨by rw[y.1];exact aG.refl _,y.2⟩
 stop:=λH' s=>le_refl _
theorem uC(lo:Int)(h:SqT K H a xs):Src (Ite K lo a) H xs.length (λi x H'=>∃p v,x = .ref p/\H' p=some (.tup [.int (lo+i),v])/\xs[i]? = some v) where
 go:=λi H' hi s=>⟨xs,xs[i],s.seqT h,by simp [hi]⟩
 yld:=λi H' x H'' hi s ⟨p,v,e1,e2,e3,e4⟩=>⟨by rw[e3];exact aD e2,p,v,e1,by rw[e3];exact aB,e4 xs (s.seqT h)⟩
 stop:=λH' s=>⟨xs,s.seqT h,le_refl _⟩
end
def CU(H e:Hp):Prop:=∀b o,H b=some o->(∀f,o ≠ .lst f)->e b=some o
theorem aG.n(s:aG H f):CU H f:=λb o e _=>s b o e
theorem E6(h:H D=some (.lst f)):CU H (upd H D (.lst zs)):=λb o e n=>by
 rw[aH (λz=>by rw[z,h]at e;exact n f (Option.some.inj e).symm)];exact e
theorem cX(S:Src J H n Y)(hn:n<=sizeLine)(R:Nat->V->Hp->Prop)(r:∀i y B H2,CU B H2->R i y B->R i y H2)(Z:St->Prop)(h0:Z (lM T F σ))
  (step:∀i x q E,i<n->Z q->aG H E->Y i x E->∀(Q':St->V->Hp->Prop),(∀o y p,Z o->aG E p->R i y p->Q' o y p)->g x q E λo H4=>te o H4 λy p=>Q' o y p)
  (fin:∀D f I,H D=none->aG H I->I D=some (.lst f)->f.length=n->(∀i y,f[i]? = some y->R i y I)->Q (.ref D) I) :
  wC T F g GO te σ Q J H:=by
 intro D N;refine⟨λi m f q H2=>m=n-i/\i<=n/\Z q/\aG H H2/\H2 D=some (.lst f)/\f.length=i/\∀j y,f[j]? = some y->R j y H2,⟨n,rfl,zero_le _,h0,aD N,aB,rfl,λj y e=>by simp at e⟩,?_⟩;rintro i m f q H2 ⟨rfl,hi,hz,G,O,U,hr⟩;refine⟨O,?_⟩;by_cases t:i<n
 ·refine .inr ⟨S.go i H2 t G,by omega,λx E y=>?_⟩;obtain⟨L,y3⟩:=S.yld i H2 x E t G y;simp only[GO,if_true];refine step i x q E t hz (G.trans L) y3 (λo y p=>p D=some (.lst f)/\∃m',m'<n-i/\m'=n-(i+1)/\i+1<=n/\Z o/\aG H (upd p D (.lst (f++[y])))/\(upd p D (.lst (f++[y]))) D=some (.lst (f++[y]))/\(f++[y]).length=i+1/\∀j z,(f++[y])[j]? = some z->R j z (upd p D (.lst (f++[y])))) λo y p z4 W r6=>?_;have d6:p D=some (.lst f):=W _ _ (L _ _ O);have sU:∀{B:Hp},aG B p->B D=none->aG B (upd p D (.lst (f++[y]))):=λ{B} s b=>λc u e=>by
   rw[aH (bU e b)];exact s c u e
  refine⟨d6,n-(i+1),by omega,rfl,t,z4,sU ((G.trans L).trans W) N,aB,by rw[length_append,U];rfl,λj z e=>?_⟩;have up:=E6 (zs:=f++[y]) d6;by_cases hj:j<f.length
  ·rw[getElem?_append_left hj]at e;exact r _ _ _ _ up (r _ _ _ _ (L.trans W).n (hr j z e))
  ·have X:j=f.length:=by
    have:=(List.getElem?_eq_some_iff.mp e).1;rw[length_append]at this;simp at this;omega
   subst X;rw[getElem?_append_right (le_refl _)]at e;simp at e;subst e;rw[U];exact r _ _ _ _ up r6
 ·have aa:i=n:=by omega
  subst aa;exact .inl ⟨S.stop H2 G,fin D f H2 N G O U hr⟩
mutual
def lU:PyData->Bool
 | .none | .bool _ | .int _ | .str _=>true
 | .tuple b=>fE b
 |_=>false
def fE:Mj->Bool
 |[]=>true
 |d::b=>lU d && fE b
end
mutual
theorem Den.n(e:CU H f):∀{d:PyData}{v:V},lU d=true->Den H d v->Den f d v
 | .none,v,t,h=>by simp only[Den]at h⊢;exact h
 | .bool b,v,t,h=>by simp only[Den]at h⊢;exact h
 | .int i,v,t,h=>by simp only[Den]at h⊢;exact h
 | .str x,v,t,h=>by simp only[Den]at h⊢;exact h
 | .tuple g,v,t,h=>by
  simp only[Den]at h⊢;simp only[lU]at t;obtain⟨a,m,o,p,q⟩:=h;exact⟨a,m,o,e _ _ p (λr z=>by cases z),aQ.n e t q⟩
 | .list g,v,t,h=>by simp [lU]at t
 | .dict _,v,t,h=>by simp only[Den]at h
theorem aQ.n(e:CU H g):∀{b:Mj}{f:Mp},fE b=true->aQ H b f->aQ g b f
 |[],f,t,h=>by simp only[aQ]at h⊢;exact h
 |d::b,f,t,h=>by
  simp only[aQ]at h⊢;simp only[fE,and_eq_true]at t;obtain⟨x,r,m,o,p⟩:=h;exact⟨x,r,m,Den.n e t.1 o,aQ.n e t.2 p⟩
end
def tyD:PyData->Value
 | .none=>.type "NoneType"
 | .bool _=>.type "bool"
 | .int _=>.type "int"
 | .str _=>.type "str"
 | .tuple _=>.type "tuple"
 | .list _=>.type "list"
 | .dict _=>.type "dict"
theorem Den.ty{K:Ma}{H:Hp}:∀{d:PyData}{v:V},Den H d v->qG K H v (tyD d)
 | .none,v,h=>by simp only[Den]at h;subst h;exact .non
 | .bool b,v,h=>by simp only[Den]at h;subst h;exact .bl b
 | .int i,v,h=>by simp only[Den]at h;subst h;exact .int i
 | .str x,v,h=>by simp only[Den]at h;subst h;exact .str x
 | .tuple g,v,h=>by
  simp only[Den]at h;obtain⟨a,m,e,f,o⟩:=h;subst e;exact .tup f
 | .list g,v,h=>by
  simp only[Den]at h;obtain⟨a,m,e,f,o⟩:=h;subst e;exact .lst f
 | .dict _,v,h=>by simp only[Den]at h
theorem cC:∀{e:Mf}{b:Mp},aQ H (e.map PyData.int) b ↔ b=e.map V.int
 |[],b=>by simp [aQ]
 |n::e,b=>by
  simp only[map_cons,aQ,Den];constructor
  ·rintro ⟨x,r,f,g,h⟩;subst g;rw[f,cC.mp h]
  ·intro h;exact⟨_,_,h,rfl,cC.mpr rfl⟩
theorem aQ.length:∀{e:Mj}{b:Mp},aQ H e b->b.length=e.length
 |[],b,h=>by simp only[aQ]at h;subst h;rfl
 |d::e,b,h=>by
  simp only[aQ]at h;obtain⟨x,r,f,_,g⟩:=h;rw[f,length_cons,length_cons,aQ.length g]
theorem aQ.get:∀{f:Mj}{b:Mp}{i:Nat}{x:V},aQ H f b->b[i]? = some x->∃d,f[i]? = some d/\Den H d x
 |[],b,i,x,h,e=>by simp only[aQ]at h;subst h;simp at e
 |d::f,b,0,x,h,e=>by
  simp only[aQ]at h;obtain⟨y,r,g,m,_⟩:=h;subst g;simp at e;subst e;exact⟨d,rfl,m⟩
 |d::f,b,i+1,x,h,e=>by
  simp only[aQ]at h;obtain⟨y,r,g,_,o⟩:=h;subst g;simp at e;obtain⟨p,q,s⟩:=aQ.get o e;exact⟨p,by simpa using q,s⟩
theorem Hx{K:Ma}(d:PyData):PySem.W.kitOne K (tyD d) (.type "bool")=some (match d with | .bool _=>true |_=>false):=by
 cases d <;> rfl
theorem nE{K:Ma}(d:PyData):PySem.W.kitOne K (tyD d) (.type "int")=some (match d with | .bool _=>true | .int _=>true |_=>false):=by
 cases d <;> rfl
theorem ET{K:Ma}(d:PyData):PySem.W.kitOne K (tyD d) (.type "str")=some (match d with | .str _=>true |_=>false):=by
 cases d <;> rfl
theorem rF{K:Ma}(d:PyData):PySem.W.kitOne K (tyD d) (.type "tuple")=some (match d with | .tuple _=>true |_=>false):=by
 cases d <;> rfl
section
variable{X:Cx}
theorem cK(K:Ma)(b:X.K=K:=by rfl):IxR X (JX K):=by
 subst b;exact J8
theorem cV(K:Ma)(b:X.K=K:=by rfl):IxR X (LT K):=by
 subst b;exact MA
theorem HR(K:Ma)(b:X.K=K:=by rfl):OpR X (compareOp .In) (rIn K false):=by
 subst b;exact FG
theorem kC(K:Ma)(b:X.K=K:=by rfl):OpR X (compareOp .NotIn) (rIn K true):=by
 subst b;exact AH
inductive rLen(K:Ma)(xs:Mp)(H:Hp)(Q:VK):Prop
 |mk:∀p ys,xs=[.ref p]->(SqL K H p ys\/SqT K H p ys)->Q (.int ys.length) H->rLen K xs H Q
theorem dI(K:Ma)(e:X.K=K:=by rfl):gP X (.builtin "len") (rLen K):=by
 subst e;exact λf s g H m n Q I v ⟨p,o,a,b,c⟩=>Ak f s g H m n Q I v ⟨p,o,a,b,c⟩
theorem iN(K:Ma)(b:X.K=K:=by rfl):gP X (.builtin "isinstance") (LU K):=by
 subst b;exact Ia
theorem nI(K:Ma)(b:X.calm=true:=by rfl)(e:X.K=K:=by rfl):gP X (.builtin "sum") (LQ K):=by
 subst e;exact F8 b
theorem zG(K:Ma)(b:X.calm=true:=by rfl)(e:X.K=K:=by rfl):gP X (.builtin "all") (LX K):=by
 subst e;exact GA b
inductive BL(K:Ma)(xs:Mp)(H:Hp)(Q:VK):Prop
 |mk:∀p ys,xs=[.ref p]->((SqL K H p ys/\∀l,H l=none->Q (.ref l) (upd H l (.tup ys)))\/(SqT K H p ys/\Q (.ref p) H))->BL K xs H Q
theorem mP(K:Ma)(e:X.K=K:=by rfl):gP X (.type "tuple") (BL K):=by
 subst e;exact λf s g H m n Q I v ⟨p,o,a,b⟩=>wV f s g H m n Q I v ⟨p,o,a,b⟩
theorem Fb(K:Ma)(b:X.K=K:=by rfl):MtR X "tuple.index" (Cq K):=by
 subst b;exact Hk
theorem uQ(K:Ma)(b:X.K=K:=by rfl):SlR X (LR K):=by
 subst b;exact JL
theorem iH(K:Ma){b:List Expr}{k:Nat}{t:TGs}{n:Nat}{e:Pos}(h:PGs X b t)(g:X.calm=true:=by rfl)(m:X.K=K:=by rfl)(o:(assignEach b X.env).length=n:=by rfl)(f:(assignEach b X.env).findIdx? (·.1)=none:=by rfl):PG X (.Tuple b k e) (MJ K n t):=by
 subst m;exact Ld g h o f
theorem bV(K:Ma){e l:Expr}{b:TE}(f:PE X l b)(g:X.K=K:=by rfl):PI X e l (Kr K b):=by
 subst g;exact Jb f
theorem AE(K:Ma)(b:PE X l e)(f:X.K=K:=by rfl):PI X g l (iTup K e):=by
 subst f;exact Lb b
theorem HH(K:Ma)(e:X.mg "enumerate" = none)(f:PE X ex g)(m:Gl X "enumerate":=by rfl)(n:starEach [ex] X.env=[(false,eval ex X.env)]:=by rfl)(o:X.K=K:=by rfl) :
  PI X (.Tuple b r s) (.Call (.Name "enumerate" p) [ex] [] q) (EY K 0 g):=by
 subst o;exact Jc e f m n
theorem FC(K:Ma)(e:X.mg "enumerate" = none)(f:PE X ex g)(m:Gl X "enumerate":=by rfl)(n:starEach [ex] X.env=[(false,eval ex X.env)]:=by rfl)(o:X.K=K:=by rfl) :
  PI X (.Tuple b r s) (.Call (.Name "enumerate" p) [ex] [⟨some "start",.Constant (.int 1) k t,kp⟩] q) (EY K 1 g):=by
 subst o;exact HI e f m n
end
inductive TupM(K:Ma)(H:Hp)(x:V):Prop
 |mk:∀p,x = .ref p->((∃o u,H p=some (.frz o u)/\o.cls = .type "tuple"/\o.dict=none)\/∃o,K.lookup p=some o/\o.cls = .type "tuple"/\o.dict=none)->TupM K H x
abbrev LF(r:V->Mp->Hp->VK->Prop)(Q:VK)(x:V):Mp->Hp->Prop:=λb H2=>r x b H2 Q
abbrev LG(K:Ma)(r:V->Mp->Hp->VK->Prop)(t:TA)(e : St)(Q:VK):V->Hp->Prop:=λx b=>TupM K b x/\t e b (LF r Q x)
def tBMT(K:Ma)(r:V->Mp->Hp->VK->Prop)(e:TE)(t:TA):TE:=λb H Q=>e b H (LG K r t b Q)
section
variable{X:Cx}{o e:Expr}{es:List Expr}{t:TA}{to:TE}{pos apos cpos:Pos}{name:Str}{id:String}{r:V->Mp->Hp->VK->Prop}
theorem Lk(K:Ma)(slot:Slot "tuple" name id)(B:typeOf (.builtin id)=pure (.type "method_descriptor"))(U:MtR X id r)(V:PE X o to)(W:PA X (e::es) t)(Y:X.K=K:=by rfl)
  (q:attributeBase o name X.env (eval o X.env)=eval o X.env:=by rfl)
  (z:((backTo cpos (starEach (e::es) X.env)).all (λx=>!x.1) && (backToKw cpos (keywordEach [] X.env)).all (λx=>x.1.isSome)
   && decide ((e::es).length+([]:List Keyword).length+(if ([]:List Keyword).isEmpty then 0 else 1)<30))=true:=by rfl)
  (y:(apos.endLine == cpos.line)=true:=by rfl) (Z:starEach (e::es) X.env=(false,eval e X.env)::starEach es X.env:=by rfl) (n:(backTo cpos (starEach es X.env)).any (·.1)=false:=by rfl) :
  PE X (.Call (.Attribute o name apos) (e::es) [] cpos) (tBMT K r to t):=by
 subst Y;intro f s D H Q I h;refine wpAny_Call_method_late q z y rfl (thn (V f s D H _ I h) λv O E=>?_);obtain⟨x,H1,G,r1,ty,q1⟩:=E;obtain⟨p,ex,ty⟩:=ty;subst ex;cases (show v=Value.ref p from r1);have J:∃m,O.heap.get? p=some m/\m.cls = .type "tuple"/\m.dict=none:=by
  rcases ty with ⟨m,u,z1,L,N⟩ | ⟨m,z1,L,N⟩
  ·obtain⟨g,_⟩:=G.hok p _ z1;exact⟨m,g,L,N⟩
  ·exact⟨m,G.kIn _ _ z1,L,N⟩
 obtain⟨m,R,g2,g3⟩:=J;refine⟨"tuple",id,PySem.F.plainAttrs_tuple,slot,B,⟨m,R,g2⟩,(λb eb=>by cases eb;exact⟨m,R,g3⟩),?_⟩;have S:=W cpos f O D H1 _ G q1;rw[Z]at S⊢;refine Calls.callWith_builtin (by show (false || (backTo cpos (starEach es X.env)).any (·.1))=false;rw[n] <;> rfl) (Calls.evalArgs_plain ?_);exact thn S λus s2 ⟨vs,H2,I2,r2,q2⟩=>U f s2 D H2 (.ref p) vs (.ref p) us Q I2 rfl r2 q2
end
theorem aQ.app:∀{m b:Mj}{o f:Mp},aQ H m o->aQ H b f->aQ H (m++b) (o++f)
 |[],b,o,f,g,p=>by
  simp only[aQ]at g;subst g;exact p
 |d::m,b,o,f,g,p=>by
  simp only[aQ]at g;obtain⟨x,r,e,q,s⟩:=g;subst e;show aQ H (d::(m++b)) (x::(r++f));simp only[aQ];exact⟨x,_,rfl,q,s.app p⟩
theorem bA{b : Type}{f:List b}{i:Int}{v:b}(h:0<=i)(e:f[i.toNat]? = some v):atI f i=some v:=by
 obtain⟨j,rfl⟩:=Int.eq_ofNat_of_zero_le h;exact cO (by simpa using e)
theorem Bw:∀b:Mf,PyData.canLayAll0 (b.map .int)=true
 |[]=>rfl
 |n::b=>by
  show (true && _)=true;rw[Bool.true_and];exact Bw b
theorem depth_ints:∀b:Mf,PyData.depthAll (b.map .int)=0
 |[]=>rfl
 |n::b=>by
  show max 0 (PyData.depthAll (b.map .int))=0;rw[depth_ints b];rfl
section
variable{X:Cx}{es:List Expr}{te:TE}{t:TA}
theorem aI{v:Const}{k:Nat}{p:Pos}(b:PE X (.Constant v k p) te)(hr:PA X es t):PA X (.Constant v k p::es) (eW te t):=eT b hr rfl
theorem aE{x:Str}{p:Pos}(b:PE X (.Name x p) te)(hr:PA X es t):PA X (.Name x p::es) (eW te t):=eT b hr rfl
theorem bF{l:List Expr}{k:Nat}{p:Pos}(b:PE X (.Tuple l k p) te)(hr:PA X es t):PA X (.Tuple l k p::es) (eW te t):=eT b hr rfl
theorem eZ{l:List Expr}{p:Pos}(b:PE X (.List l p) te)(hr:PA X es t):PA X (.List l p::es) (eW te t):=eT b hr rfl
theorem bW(e:PE X (.BinOp a o b p) te)(hr:PA X es t):PA X (.BinOp a o b p::es) (eW te t):=eT e hr rfl
theorem Cu(b:PE X (.UnaryOp o a p) te)(hr:PA X es t):PA X (.UnaryOp o a p::es) (eW te t):=eT b hr rfl
theorem cN(b:PE X (.Call f e g p) te)(hr:PA X es t):PA X (.Call f e g p::es) (eW te t):=eT b hr rfl
theorem aN{a b:Expr}{p:Pos}(e:PE X (.Subscript a b p) te)(hr:PA X es t):PA X (.Subscript a b p::es) (eW te t):=eT e hr rfl
theorem gE(b:PE X (.Attribute a x p) te)(hr:PA X es t):PA X (.Attribute a x p::es) (eW te t):=eT b hr rfl
theorem vG(e:PE X (.Compare a b f p) te)(hr:PA X es t):PA X (.Compare a b f p::es) (eW te t):=eT e hr rfl
theorem dZ{a:Expr}{b:List Comprehension}{e:Scope}{p:Pos}(f:PE X (.ListComp a b e p) te)(hr:PA X es t):PA X (.ListComp a b e p::es) (eW te t):=eT f hr rfl
theorem HN(e:PE X (.IfExp a b c p) te)(hr:PA X es t):PA X (.IfExp a b c p::es) (eW te t):=eT e hr rfl
end
theorem Jk{E:XK}{P:Program}{w:World}{K:Ma}{mg:Mc}{base:Heap}{N:Mg}{g:Str}{b:Scope}{f:Addr}{m:Value}{A:Around}{e:List Env}{s:Shared}{H:Hp}{n:CXT} :
  Own ((Ag n P w K mg base N g b f m A e s H E).bod E):=⟨rfl,rfl,rfl⟩
end L2
namespace HT
open PySem PySem.Spec PyProof.Rows
section
variable{prog:Program}{w:World}{A:Around}{E:Mm}{s:Shared}
theorem nK{t m:Addr}{b:Array Value}{q r:Value}{lo g:Option Int}{Q:Mm}(e:IsTup s.heap t b)(u:s.heap.IsSliceOf m q r .none)(y:IsPart q lo)(z:IsPart r g)
  (hw:sIx b.size 0 lo=0/\sIx b.size b.size g=b.size) (h:Q (.ref t) s):wpAny (model prog w) A (getItem (.ref t) (.ref m)) Q E s:=by
 obtain⟨os,n,o,B⟩:=id u;have p:s.TypeIs (.ref m) "slice":=⟨os,n,o⟩;unfold getItem
 try with_reducible refine wpAny_holding ?_
 first |refine wpAny_bind (wpAny_pure ?_) |skip
 refine wpAny_bind (wpAny_sequenceKey e.typeIs (by decide) ?_);refine wpAny_bind (wpAny_callSpecial?_slot (name:=Str.ofString "__getitem__") e.typeIs PyProof.Rows.slot_tuple_getitem
  (wpAny_call_entry PyProof.Rows.slot_tuple_getitem e.typeIs entry_tuple_getitem ?_ (args_tuple_getitem _ _)))
 show wpAny _ _ (Builtin.Tuple.tupleItemsOf (.ref t) >>= _) _ _ s;refine wpAny_bind (tupleItemsOf_ e ?_);refine wpAny_bind (wpAny_typeOf p ?_);rw[if_pos (by decide)];refine wpAny_bind (jU u y z ?_);have f:(((sIx b.size 0 lo:Nat):Int) == 0 && (1:Int) == 1 && (sIx b.size b.size g-sIx b.size 0 lo) == b.size)=true:=by
  rw[hw.1,hw.2];simp
 show wpAny _ _ (if (((sIx b.size 0 lo:Nat):Int) == 0 && (1:Int) == 1 && (sIx b.size b.size g-sIx b.size 0 lo) == b.size)=true then _ else _) _ _ s;rw[if_pos f];refine wpAny_bind ?_;unfold Builtin.Tuple.tupleIsExact;refine wpAny_bind (wpAny_typeOf e.typeIs (wpAny_pure ?_));rw[if_pos (by decide)];refine wpAny_bind (wpAny_rule ?_);exact wpAny_pure ⟨_,rfl,wpAny_pure h⟩
end
end HT
namespace L2
open PySem PySem.Spec PyProof.Rows
section
variable{X:Cx}
inductive ED(K:Ma)(x:V)(lo:Option Int)(hi:Option Int)(H:Hp)(Q:VK):Prop
 |mk:∀a xs,x = .ref a->SqT K H a xs->((HT.sIx xs.length 0 lo=0/\HT.sIx xs.length xs.length hi=xs.length)->Q (.ref a) H)->(¬(HT.sIx xs.length 0 lo=0/\HT.sIx xs.length xs.length hi=xs.length)->∀p,H p=none->Q (.ref p) (upd H p (.tup (sT xs lo hi))))->ED K x lo hi H Q
theorem E3:SlR X (ED X.K):=by
 intro e s y H x v z B lo m D Q I n o p q h;obtain⟨a,b,rfl,t,E,G⟩:=h;by_cases hw:HT.sIx b.length 0 lo=0/\HT.sIx b.length b.length m=b.length
 ·cases n;obtain⟨g,r,u,J⟩:=I.tuple t;have f:g.toArray.size=b.length:=by rw[size_toArray];exact r.length.symm
  refine⟨"tuple",_,PyProof.Rows.slot_tuple_getitem.lookup,u.typeIs,?_⟩;exact HT.nK u o p q (by rw[f];exact hw) ⟨.ref a,H,I,rfl,E hw⟩
 ·exact LN e s y H (.ref a) v z B lo m D Q I n o p q ⟨a,b,rfl,t,hw,G hw⟩
theorem Ds(K:Ma)(b:X.K=K:=by rfl):SlR X (ED K):=by
 subst b;exact E3
end
theorem fR{J:It}{H0 H:Hp}{n:Nat}{Y:Nat->V->Hp->Prop}{g:TG}{z:TS}{D:Ends}{b : St}(S:Src J H0 n Y)(Pv:Nat->St->Hp->Prop)(E:Pv 0 b H)(s:∀i b e,Pv i b e->aG H0 e)
  (step:∀i x b f H2,i<n->Pv i b f->aG f H2->Y i x H2->g x b H2 λq G=>z (D.loop (Pv (i+1))) q G) (fin:∀b e,Pv n b e->D.nx b e) :
  ∃W:Nat->Nat->St->Hp->Prop,(∃m,W 0 m b H)/\∀i m b H,W i m b H->
   (J.stop i H/\D.nx b H)\/(J.go i H/\∃N:St->Hp->Prop,(∀r e,N r e->∃B,B<m/\W (i+1) B r e)/\∀x e,J.yld i H x e->g x b e λq H2=>z (D.loop (N)) q H2):=by
 refine⟨λi m b e=>m=n-i/\i<=n/\Pv i b e,⟨n,rfl,zero_le _,E⟩,?_⟩;rintro i m b f ⟨rfl,O,p⟩;have t:=s i b f p;by_cases o:i<n
 ·refine .inr ⟨S.go i f o t,Pv (i+1),λr e I=>⟨n-(i+1),by omega,rfl,o,I⟩,λx e y=>?_⟩;obtain⟨s2,L⟩:=S.yld i f x e o t y;exact step i x b f e o p s2 L
 ·have u:i=n:=by omega
  subst u;exact .inl ⟨S.stop f t,fin b f p⟩
theorem fS(S:Src J H n Y)(hn:n<=sizeLine)(t:Nat->Bool)(f:Nat->V)(Z:St->Prop)(h0:Z (lM T F σ))
  (step:∀i x p s,i<n->Z p->aG H s->Y i x s->∀(Q1:Hp->Prop)(Q2:St->V->Hp->Prop)(Q3:St->Hp->Prop),(∀o,Z o->t i=true->Q2 o (f i) s)->(∀o,Z o->t i=false->Q3 o s)->
   g x p s λo H4=>tc o H4 λb B=>if b=true then te o B λy E=>Q2 o y E else Q3 o B)
  (fin:∀D N,H D=none->aG H N->N D=some (.lst (((List.range n).filter t).map f))->Q (.ref D) N) :
  wC T F g tc te σ Q J H:=by
 intro D O;refine⟨λi m q p H2=>m=n-i/\i<=n/\Z p/\aG H H2/\H2 D=some (.lst q)/\q=((List.range i).filter t).map f,⟨n,rfl,zero_le _,h0,aD O,aB,rfl⟩,?_⟩;rintro i m q p H2 ⟨rfl,hi,hz,z,R,I⟩;refine⟨R,?_⟩;by_cases r:i<n
 ·refine .inr ⟨S.go i H2 r z,?_,λx s y=>?_⟩
  ·rw[I,length_map];have:=length_filter_le t (List.range i);rw[length_range]at this;omega
  obtain⟨L,y3⟩:=S.yld i H2 x s r z y;have d3:s D=some (.lst q):=L _ _ R;refine step i x p s r hz (z.trans L) y3 (λ_=>True) (λo y E=>E D=some (.lst q)/\∃G,G<n-i/\G=n-(i+1)/\i+1<=n/\Z o/\aG H (upd E D (.lst (q++[y])))/\(upd E D (.lst (q++[y]))) D=some (.lst (q++[y]))/\(q++[y])=((List.range (i+1)).filter t).map f)
   (λo B=>∃G,G<n-i/\G=n-(i+1)/\i+1<=n/\Z o/\aG H B/\B D=some (.lst q)/\q=((List.range (i+1)).filter t).map f) (λo U W=>?_) λo U W=>?_
  ·refine⟨d3,n-(i+1),by omega,rfl,r,U,λc u e=>?_,aB,?_⟩
   ·rw[aH (bU e O)];exact(z.trans L) c u e
   ·rw[List.range_succ,List.filter_append,map_append,<- I];simp [W]
  ·refine⟨n-(i+1),by omega,rfl,r,U,z.trans L,d3,?_⟩;rw[List.range_succ,List.filter_append,map_append,<- I];simp [W]
 ·have X:i=n:=by omega
  subst X;exact .inl ⟨S.stop H2 z,fin D H2 O z (by rw[R,I])⟩
section
variable{X:Cx}{pins:Mb}{σ : St}{H:Hp}{s:Shared}
end
section
variable{K:Ma}{H:Hp}{a:Addr}{xs:Mp}
end
theorem oX(a:Value):checkBuiltinCall "sorted" ⟨[a],[]⟩=pure ():=by kernel_rfl
section
variable{X:Cx}
theorem Fn{prog:Program}{w:World}{e:List (Key×Value)}{f:Mf}(g:e.map (·.1)=f.map Sum.inl):∀{b:Mh},b.length=e.length->(∀(j:Nat)(v:Value),b[j]? = some v->∃k x,e[j]? = some (k,x)/\(bI prog w).is k v=true)->IntsAre b f:=by
 induction e generalizing f with
 |nil=>
  intro b o _;cases f with
  |nil=>
   cases b with
   |nil=>exact .nil
   |cons _ _=>simp at o
  |cons _ _=>simp at g
 |cons s e u=>
  intro b o h;cases f with
  |nil=>simp at g
  |cons n f=>
   cases b with
   |nil=>simp at o
   |cons v b=>
    simp only[map_cons,List.cons.injEq]at g;obtain⟨k,x,m,p⟩:=h 0 v rfl;have m:s=(k,x):=by simpa using m
    subst m;have q:k=Sum.inl n:=g.1;subst q;have r:∃t,v = .int n t:=by
     have p:Value.isInt n v=true:=p;cases v <;> simp_all [Value.isInt]
    obtain⟨t,rfl⟩:=r;exact .cons n t (u g.2 (by simpa using o) λj v r=>by
     obtain⟨k,x,m,p⟩:=h (j+1) v (by simpa using r);exact⟨k,x,by simpa using m,p⟩)
theorem AT{e : Type}{b:List (e×V)}{f:List (e×Value)}(r:KV b f):b.map (·.1)=f.map (·.1):=by
 induction r with
 |nil=>rfl
 |cons h _ g=>
  rw[map_cons,map_cons,g];congr 1;exact h.1
inductive tLRX(Q:VK)(vs:Mp)(H1:Hp):Prop
 |mk:∀i j:Int,vs=[.int i,.int j]->(-(2 ^ 62)<=i/\i<2 ^ 62/\-(2 ^ 62)<=j/\j<2 ^ 62)->(j-i).toNat<=sizeLine->(∀p,H1 p=none->Q (.ref p) (upd H1 p (.lst ((List.range (j-i).toNat).map λk=>.int (i+(k:Nat))))))->tLRX Q vs H1
def tLR(b:TA):TE:=λe H Q=>b e H (tLRX Q)
theorem CW:∀{n:Nat}{b:Mh},b.length=n->(∀(j:Nat) v,b[j]? = some v->∃t,v=Value.int (i+(j:Int)*1) t)->cE ((List.range n).map λk=>V.int (i+(k:Nat))) b:=by
 intro n b g h;have m:∀{n:Nat}{b:Mh}{f:Nat->Int},b.length=n->(∀(j:Nat) v,b[j]? = some v->∃t,v=Value.int (f j) t)->cE ((List.range n).map λk=>V.int (f k)) b:=by
  intro n
  induction n with
  |zero=>
   intro b f g _;cases b with
   |nil=>exact .nil
   |cons _ _=>simp at g
  |succ n p=>
   intro b f g h;cases b with
   |nil=>simp at g
   |cons u b=>
    rw[range_succ_eq_map,map_cons,map_map];obtain⟨t,e⟩:=h 0 u rfl;exact .cons ⟨t,e⟩ (p (f:=λk=>f (k+1)) (by simpa using g) λj v o=>h (j+1) v (by simpa using o))
 exact m g λj v o=>by
  obtain⟨t,e⟩:=h j v o;exact⟨t,by rw[e,Int.mul_one]⟩
theorem vE(Y:X.calm=true)(z:Gl X "list")(B:X.mg "list" = none)(Z:Gl X "range")(hm:X.mg "range" = none)(ha:PA X [a,b] ta)
  (hs:starEach [a,b] X.env=[(false,eval a X.env),(false,eval b X.env)]:=by rfl) (m:starEach [b] X.env=[(false,eval b X.env)]:=by rfl)
  (u:starEach [.Call (.Name "range" p2) [a,b] [] f] X.env=[(false,eval (.Call (.Name "range" p2) [a,b] [] f) X.env)]:=by rfl) :
  PE X (.Call (.Name "list" p) [.Call (.Name "range" p2) [a,b] [] f] [] aa) (tLR ta):=by
 intro g s L H Q I h;refine wpAny_Call_Name_kw (lI I z B boot_list ?_);refine PyProof.Rows.callWith_type1 ?_ u rfl;rw[u];show wpAny _ _ (spliced ((false,eval (.Call (.Name "range" p2) [a,b] [] f) X.env)::[])) _ _ s;refine Calls.spliced_cons ?_;refine Call_ (lI I Z hm boot_range (PyProof.Rows.callWith_type1 (thn (ha f g s L H _ I h) λus y D=>?_) (by rw[hs,m]) (by rw[m];rfl)));obtain⟨vs,N,I1,r1,E⟩:=D;obtain⟨i,j,e,⟨E,q2,q3,q4⟩,O,q⟩:=E;subst e;cases r1 with
 |cons r G=>
  cases G with
  |cons r' G=>
   cases G;obtain⟨t,rfl⟩:=r;obtain⟨R,rfl⟩:=r';refine call_range_2 ?_;refine Calls.spliced_nil ?_;have S:Inv X g L N {y with heap:=y.heap.push {cls:=.type "range",data:=.fields #[.int i t,.int j R,.int 1 y.toks] },toks:=y.toks+1}:=I1.kept λb o e=>get?_push_of_some _ e;refine call_list_range (n:=(j-i).toNat) (I.ok.hd Y) (IsRange.new ..) (small_one E q2 q3 q4) (by rw[rangeSize_one];split <;> omega) (le_trans O (by decide)) λh' tk J c' kp g' x=>?_;refine⟨.ref _,upd N _ (.lst ((List.range (j-i).toNat).map λk=>.int (i+(k:Nat)))),S.laid (t':=tk) kp (le_refl _) ?_,rfl,q _ (S.hok.fresh (le_refl _))⟩;refine⟨by rw[length_map,length_range];exact O,J.toList,c',CW (by have:=x.1;simpa using this) λk v hv=>x.2 k v (by simpa using hv),?_⟩;simpa using g'
inductive G6(x:V)(vs:Mp)(H:Hp)(Q:VK):Prop
 |mk:∀a kvs k v,x = .ref a->vs=[kV k]->H a=some (.dK kvs)->dD kvs k=some v->Q v (upd H a (.dK (fA kvs k)))->G6 x vs H Q
theorem pI:MtR X "dict.pop" G6:=by
 intro e s t H x z v B Q I f g h;obtain⟨a,m,k,y,rfl,rfl,n,o,q⟩:=h;cases (show v=Value.ref a from f);obtain⟨u,rfl,p⟩:=wZ g;exact d_pop I n p o (.inl rfl) λD E r b=>⟨y,_,r,b,q⟩
theorem Lg(c:Maker X.prog X.w X.K X.mg X.base x C k u g)(hr:Room (k+1) X.A)(m:fI (CXE X.prog X.w) X E)(n:Gl X x:=by rfl)(e:(x == ("__debug__" : Str))=false:=by decide) :
  PE X (.Call (.Name x p) [] [] o) (tMk C g E lR):=by
 obtain⟨f,y,F,M,q,r⟩:=c.ex;intro b s t H Q I h;exact HK M F hr n q r .nil m e b s t H Q I (xC h)
inductive tLTX(K:Ma)(Q:(Bool->Hp->Prop))(x:V)(H':Hp):Prop
 |mk:∀a xs,x = .ref a->SqL K H' a xs->Q (!xs.isEmpty) H'->tLTX K Q x H'
def tLT(K:Ma)(b:TE):TT:=λe H Q=>b e H (tLTX K Q)
theorem iW(K:Ma)(f:PE X a g)(m:∀whole,isTrue a X.env whole=(do let v <- whole;standAt a.pos;holding [v] (truthy v)):=by intro _;rfl)(n:X.K=K:=by rfl):PT X a (tLT K g):=by
 subst n;intro b s e H Q I h;refine isTrue_plain (thn (f b s e H _ I h) λv o ⟨x,p,q,r,z,t,ex,u,y⟩=>K0 b o e p x v Q q r ?_) (m _);subst ex;exact⟨_,.inl ⟨t,u,rfl⟩,y⟩
theorem iZ(K:Ma){T id:String}{f:Str}{r:V->Mp->Hp->VK->Prop}{o e:Expr}{n:List Expr}{y:TE}{t:TA}{m b:Pos}(z:PlainAttrs T)(slot:Slot T f id)(u:typeOf (.builtin id)=pure (.type "method_descriptor"))(B:MtR X id r)(D:PE X o y)(E:PA X (e::n) t)
  (p:attributeBase o f X.env (eval o X.env)=eval o X.env:=by rfl)
  (s:((backTo b (starEach (e::n) X.env)).all (λx=>!x.1) && (backToKw b (keywordEach [] X.env)).all (λx=>x.1.isSome)
   && decide ((e::n).length+([]:List Keyword).length+(if ([]:List Keyword).isEmpty then 0 else 1)<30))=true:=by rfl)
  (q:(m.endLine == b.line)=true:=by rfl) (G:starEach (e::n) X.env=(false,eval e X.env)::starEach n X.env:=by rfl) (g:(backTo b (starEach n X.env)).any (·.1)=false:=by rfl) (H:X.K=K:=by rfl) :
  PE X (.Call (.Attribute o f m) (e::n) [] b) (tBM K T r y t):=by
 subst H;exact pe_bm z slot u B D E p s q G g
theorem Fm{prog:Program}{w:World}{f:List (Key×Value)}{g:Mg}(m:f.map (·.1)=g.map Sum.inr):∀{b:Mh},b.length=f.length->(∀(j:Nat)(v:Value),b[j]? = some v->∃k x,f[j]? = some (k,x)/\(bI prog w).is k v=true)->StrsAre b g:=by
 induction f generalizing g with
 |nil=>
  intro b p _;cases g with
  |nil=>
   cases b with
   |nil=>exact .nil
   |cons _ _=>simp at p
  |cons _ _=>simp at m
 |cons s f u=>
  intro b p h;cases g with
  |nil=>simp at m
  |cons n g=>
   cases b with
   |nil=>simp at p
   |cons v b=>
    simp only[map_cons,List.cons.injEq]at m;obtain⟨k,x,o,q⟩:=h 0 v rfl;have o:s=(k,x):=by simpa using o
    subst o;have r:k=Sum.inr n:=m.1;subst r;obtain⟨t,rfl⟩:∃t,v = .str n t:=by
     rcases c8 (k:=Sum.inr n) (v:=v) q with ⟨i,t,e,_⟩ | ⟨y,t,e,z⟩
     ·cases e
     ·cases e;exact⟨t,z⟩
    exact .cons n t (u m.2 (by simpa using p) λj v B=>by
     obtain⟨k,x,o,q⟩:=h (j+1) v (by simpa using B);exact⟨k,x,by simpa using o,q⟩)
theorem wY:∀{b:Mh}{e:Mg},StrsAre b e->cE (e.map V.str) b
 |_,_,.nil=>.nil
 |_,_,.cons y t h=>.cons ⟨t,rfl⟩ (wY h)
theorem yO{v₁ b : Value}{rest:Mh}{e:Mg}(h:StrsAre (v₁ :: b :: rest) e):keyKind' (v₁ :: b :: rest).toArray=pure oneType':=by
 exact keyKind_strs h
def Its(x:Str):It:=⟨λi _=>i<x.cps.size,λi H v b=>b=H/\∃c,x.cps[i]? = some c/\v = .str ⟨#[c]⟩,λi _=>x.cps.size<=i⟩
theorem GM{P:Program}{w:World}{K:Ma}{tg:Expr}(x:Str)(t:Tok)(it:Addr)(hx:(x.cps.all λc=>decide (c<128))=true):Turn P w K tg (Its x) [it] it (λi h=>h.IsStrIter it "str_ascii_iterator" x t i) where
 mem:=by simp
 obj:=λi h st b hb=>by
  have e:b=it:=by simpa using hb
  subst e;obtain⟨o,e,c,d⟩:=st;exact⟨o,e,λv z=>by rw[d]at z;cases z⟩
 keep:=λi h h' st k=>by
  obtain⟨o,e,r⟩:=st;exact⟨o,k it (by simp) o e,r⟩
 item:=by
  intro X hP hw hK hc i pins s σ H E I hf st hg;subst hP hw hK;have hg:i<x.cps.size:=hg;obtain⟨f0,f1,f2,f3,f4,f5⟩:=hf it (by simp);refine wpAny_pyNext_ascii_item st (c:=x.cps[i]) (by simp [hg]) λh' st' sb=>?_;have I1:Inv X pins σ H {s with heap:=h',toks:=s.toks+1}:=I.turned (t':=s.toks+1) (λb o hb e=>(sb.2 b hb).trans e) f0 f1 f3 f4 f5;obtain⟨o,e,c,d⟩:=id st';exact⟨_,rfl,Bz (s:={s with heap:=h',toks:=s.toks+1}) e c d (by decide) ⟨.str ⟨#[x.cps[i]]⟩,H,I1,⟨_,rfl⟩,⟨rfl,_,by simp [hg],rfl⟩,st',λb hb=>(hf b hb).1⟩⟩
 done:=by
  intro X hP hw hK hc i pins s σ H E I hf st hg;subst hP hw hK;have hg:x.cps.size<=i:=hg;obtain⟨f0,f1,f2,f3,f4,f5⟩:=hf it (by simp);exact wpAny_pyNext_ascii_end (I.ok.hd hc) st (by simp [hg]) λh' eb=>⟨rfl,I.turned (t':=s.toks) (λb o hb e=>eb b o hb e) f0 f1 f3 f4 f5⟩
 self:=λ_ _ _ _ _ st h=>wpAny_pyIter_striter_ascii st h
inductive Ko(R:(It->Hp->Prop))(v:V)(H1:Hp):Prop
 |mk:∀x:Str,v = .str x->(x.cps.all λc=>decide (c<128))=true->R (Its x) H1->Ko R v H1
def iStr(b:TE):TI:=λe H R=>b e H (Ko R)
theorem Lc{u l:Expr}{p:TE}(z:PE X l p):PI X u l (iStr p):=by
 intro f s B H R I h;refine thn (z f s B H _ I h) λv g m=>?_;obtain⟨y,D,n,E,G⟩:=m;obtain⟨x,e,r,q⟩:=G;subst e;obtain⟨t,rfl⟩:=E;refine wpAny_pyIter_strU ?_;have J:strIterType x = "str_ascii_iterator":=by unfold strIterType;rw[if_pos r]
 rw[J];refine⟨g.heap.objs.size,[g.heap.objs.size],_,_,D,rfl,n.kept (t':=g.toks) λb o e=>get?_push_of_some _ e,GM x t _ r,⟨_,get?_push_size _ rfl,rfl,rfl⟩,λb L=>?_,q⟩;have e:b=g.heap.objs.size:=by simpa using L
 subst e;exact n.fpOk (le_refl _) (n.hok.fresh (le_refl _))
theorem JJ(x:Str):Src (Its x) H x.cps.size (λi v _=>∃c,x.cps[i]? = some c/\v = .str ⟨#[c]⟩) where
 go:=λi H' hi s=>hi
 yld:=λi H' v H'' hi s y=>⟨by rw[y.1];exact aG.refl _,y.2⟩
 stop:=λH' s=>le_refl _
end
inductive GN(H:Hp)(v:V)(bs:Mf):Prop
 |mk:∀t,v = .ref t->H t=some (.tup (bs.map V.int))->GN H v bs
def TbR(H:Hp):List (Str×Mf)->Mn->Prop
 |[],[]=>True
 |p::e,q::b=>q.1=Sum.inr p.1/\GN H q.2 p.2/\TbR H e b
 |_,_=>False
def nQ(b:List (Str×Mf))(n:Str):Option (Mf):=(b.find? λp=>decide (p.1=n)).map (·.2)
def okT(b:List (Str×Mf))(p:Str×Mf):Bool:=match nQ b p.1 with
 |some e=>decide (p.2=e)
 |none=>false
def eqT(b e:List (Str×Mf)):Bool:=decide (b.length=e.length) && b.all (okT e)
def EnR(b:Program)(w:World)(h:Heap):List (Str×Mf)->List DictEntry->Prop
 |[],[]=>True
 |p::f,e::g=>(bI b w).is (Sum.inr p.1) e.key=true/\e.hash=(bI b w).hash (Sum.inr p.1)/\(∃t,e.val = .ref t/\IsTupleKey (bI b w) h (p.2.map Sum.inl) t)/\EnR b w h f g
 |_,_=>False
section
variable{X:Cx}{pins:Mb}{σ : St}{H:Hp}{s:Shared}
theorem IB(b:Mf):b.map V.int=(b.map Sum.inl:List Key).map kV:=by
 rw[map_map];rfl
theorem EnR.of(ok:HOk X.prog X.w H s.heap):∀{o:List (Str×Mf)}{f:Mn}{B:List (Key×Value)}{u:List DictEntry},TbR H o f->KV f B->Pairs (bI X.prog X.w) u B->(∀e∈u,∃k,(bI X.prog X.w).is k e.key=true/\e.hash=(bI X.prog X.w).hash k)->EnR X.prog X.w s.heap o u
 |[],[],_,_,_,.nil,.nil,_=>trivial
 |p::o,q::f,_,_,h,Paired.cons (b:=v) D r,.cons (e:=e) G m I,E=>by
  obtain⟨J,⟨t,L,g⟩,N⟩:=h;have n:(bI X.prog X.w).is (Sum.inr p.1) e.key=true:=by
   have:v.1=Sum.inr p.1:=D.1 ▸ J;rw[<- this];exact G
  obtain⟨k,x,y⟩:=E e (by simp);have O:k=Sum.inr p.1:=(bI X.prog X.w).inj _ _ _ x n;subst O;refine⟨n,y,⟨t,?_,?_⟩,EnR.of ok N r I λQ z=>E Q (by simp [z])⟩
  ·rw[m];have:=D.2;rw[L]at this;exact this
  ·have:=oH (P:=X.prog) (w:=X.w) ok (ks:=p.2.map Sum.inl) (by rw[<- IB];exact g);exact this
 |[],_::_,_,_,h,_,_,_=>h.elim
 |_::_,[],_,_,h,_,_,_=>h.elim
theorem EnR.len:∀{b:List (Str×Mf)}{f:List DictEntry},EnR g w h b f->f.length=b.length
 |[],[],_=>rfl
 |p::b,e::f,r=>by rw[length_cons,length_cons,EnR.len r.2.2.2]
 |[],_::_,r=>r.elim
 |_::_,[],r=>r.elim
theorem EnR.at:∀{f:List (Str×Mf)}{g:List DictEntry}{i:Nat},EnR b w h f g->i<f.length->∃p e,f[i]? = some p/\g[i]? = some e/\(bI b w).is (Sum.inr p.1) e.key=true/\e.hash=(bI b w).hash (Sum.inr p.1)/\∃t,e.val = .ref t/\IsTupleKey (bI b w) h (p.2.map Sum.inl) t
 |p::f,e::g,0,r,_=>⟨p,e,rfl,rfl,r.1,r.2.1,r.2.2.1⟩
 |p::f,e::g,i+1,r,m=>by
  obtain⟨n,o,q,u,x⟩:=EnR.at r.2.2.2 (by simpa using m);exact⟨n,o,by simpa using q,by simpa using u,x⟩
 |[],_,_,_,m=>by simp at m
 |_::_,[],_,r,_=>r.elim
theorem EnR.find:∀{f:List (Str×Mf)}{g:List DictEntry},EnR b w h f g->
  (match g.findIdx? (λe=>(bI b w).is (Sum.inr n) e.key) with |none=>nQ f n=none |some j=>∃m e t,nQ f n=some m/\g[j]? = some e/\e.val = .ref t/\IsTupleKey (bI b w) h (m.map Sum.inl) t)
 |[],[],_=>rfl
 |p::f,e::g,r=>by
  obtain⟨q,O,u,x⟩:=r;have o:=EnR.find (n:=n) x;rw[List.findIdx?_cons];by_cases z:p.1=n
  ·subst z;rw[q];obtain⟨t,B,D⟩:=u;exact⟨p.2,e,t,by simp [nQ],rfl,B,D⟩
  ·have E:(bI b w).is (Sum.inr n) e.key=false:=by
    cases y:(bI b w).is (Sum.inr n) e.key with
    |false=>rfl
    |true=>exact absurd (Sum.inr.inj ((bI b w).inj _ _ _ q y)) z
   rw[E];have G:nQ (p::f) n=nQ f n:=by simp [nQ,z]
   rw[G];cases hj:g.findIdx? (λe=>(bI b w).is (Sum.inr n) e.key) with
   |none=>
    rw[hj]at o;exact o
   |some j=>
    rw[hj]at o;obtain⟨m,I,t,J,L,N⟩:=o;exact⟨m,I,t,J,by simpa using L,N⟩
 |[],_::_,r=>r.elim
 |_::_,[],r=>r.elim
theorem Cn{A:Around}{E:Mm}{id:String}{a b:Addr}{o1 o2:Obj}{r g:Array DictEntry}{Y Z:Nat}{fs gs:List (Str×Mf)}{Q:Bool->Shared->Prop}(hu:A.units<cLine)
  (na:(a == sysModules)=false) (nb:(b == sysModules)=false) (U:s.heap.get? a=some o1) (V:o1.data = .dict r Y) (r1:EnR X.prog X.w s.heap fs r.toList) (g2:s.heap.get? b=some o2) (d2:o2.data = .dict g Z) (k2:KeysOf (bI X.prog X.w) g) (r2:EnR X.prog X.w s.heap gs g.toList)
  (q:Q (eqT fs gs) s):wpAny (model X.prog X.w) A (Builtin.Dict.samePairs id a b) Q E s:=by
 have l1:r.size=fs.length:=by have:=r1.len;simpa using this
 have l2:g.size=gs.length:=by have:=r2.len;simpa using this
 unfold Builtin.Dict.samePairs Builtin.Dict.showsAll;rw[na,nb];refine wpAny_bind (wpAny_pure ?_);refine wpAny_bind (wpAny_pure ?_);refine wpAny_bind (wpAny_dictEntries U V ?_);refine wpAny_bind (wpAny_dictEntries g2 d2 ?_);dsimp only;rw[l1,l2];by_cases W:fs.length=gs.length
 ·rw[if_neg (by rw[W];simp)];refine wpAny_bind (wpAny_dictEpoch U V ?_);refine wpAny_bind ?_;refine G4 (hi:=fs.length) _ (λrest b s'=>b=(none,())/\s'=s/\∃i,i<=fs.length/\rest=List.range' i (fs.length-i)/\(fs.take i).all (okT gs)=true) _ ?_ ?_ _ ⟨rfl,rfl,0,zero_le _,rfl,rfl⟩
  ·rintro x rest b s' ⟨rfl,rfl,i,hi,hr,m⟩;have il:i<fs.length:=by
    rcases Nat.lt_or_ge i fs.length with h |h
    ·exact h
    ·have:fs.length-i=0:=by omega
     rw[this]at hr;cases hr
   have D:fs.length-i=(fs.length-(i+1))+1:=by omega
   rw[D,List.range'_succ]at hr;injection hr with hx G
   subst hx;obtain⟨p,e,hp,he,hk,hh,t,I,aa⟩:=r1.at il;have ab:r[x]? = some e:=by simpa using he
   have ef:g.findIdx? (λe=>(bI X.prog X.w).is (Sum.inr p.1) e.key)=g.toList.findIdx? (λe=>(bI X.prog X.w).is (Sum.inr p.1) e.key):=by
    cases g;simp
   have tk:fs.take (x+1)=fs.take x++[p]:=by
    rw[List.take_add_one,hp];rfl
   have J:okT gs p=false->eqT fs gs=false:=λL=>by
    unfold eqT;have:fs.all (okT gs)=false:=by
     cases y:fs.all (okT gs) with
     |false=>rfl
     |true=>
      have:=all_eq_true.mp y p (mem_of_getElem? hp);rw[L]at this;cases this
    rw[this];exact Bool.and_false _
   have o:=r2.find (n:=p.1);rw[<- ef]at o;refine wpAny_bind (wpAny_dictEntries U V ?_);rw[ab];dsimp only;rw[hh];refine wpAny_bind (wpAny_holding (wpAny_bind (wpAny_dictFind_of hk g2 d2 k2 ?_)));cases hj:g.findIdx? (λe=>(bI X.prog X.w).is (Sum.inr p.1) e.key) with
   |none=>
    rw[hj]at o;have L:okT gs p=false:=by
     unfold okT;rw[show nQ gs p.1=none from o]
    dsimp only;refine wpAny_pure ?_;rw[if_pos (show (!false)=true from rfl)];refine wpAny_pure ?_;have N:=q;rw[J L]at N;exact wpAny_pure N
   |some j=>
    rw[hj]at o;obtain⟨bs,f,u,O,hf,R,fk⟩:=o;have ac:g[j]? = some f:=by simpa using hf
    dsimp only;refine wpAny_bind (wpAny_dictEntries g2 d2 ?_);rw[ac];dsimp only;rw[I,R];refine wpAny_holding (wpAny_eqBool_tuple hu aa fk ?_);have S:(p.2.map Sum.inl:List Key)=bs.map Sum.inl ↔ p.2=bs:=by
     constructor
     ·intro z;have:=congrArg (List.map (λk:Key=>match k with | .inl i=>i | .inr _=>0)) z;rw[map_map,map_map]at this;have e1:∀l:Mf,l.map ((λk:Key=>match k with | .inl i=>i | .inr _=>0) ∘ Sum.inl)=l:=λl=>map_id _;rw[e1,e1]at this;exact this
     ·intro z;rw[z]
    by_cases B:p.2=bs
    ·rw[decide_eq_true (S.mpr B),if_neg (by decide)];refine wpAny_bind (wpAny_dictEpoch U V ?_);rw[if_neg (by simp)];refine wpAny_pure ⟨rfl,rfl,x+1,il,G,?_⟩;rw[tk,List.all_append,m];show (true && (okT gs p && true))=true;have:okT gs p=true:=by
      unfold okT;rw[O];exact decide_eq_true B
     rw[this];rfl
    ·rw[decide_eq_false (λz=>B (S.mp z)),if_pos (show (!false)=true from rfl)];have L:okT gs p=false:=by
      unfold okT;rw[O];exact decide_eq_false B
     refine wpAny_pure ?_;have N:=q;rw[J L]at N;exact wpAny_pure N
  ·rintro b s' ⟨rfl,rfl,i,hi,hr,m⟩;have:i=fs.length:=by
    rcases Nat.lt_or_ge i fs.length with h |h
    ·have D:fs.length-i=(fs.length-(i+1))+1:=by omega
     rw[D,List.range'_succ]at hr;cases hr
    ·omega
   subst this;rw[take_length]at m;have:eqT fs gs=true:=by
    unfold eqT;rw[decide_eq_true W,m];rfl
   rw[this]at q;exact wpAny_pure q
 ·rw[if_pos (by simpa using W)];refine wpAny_bind (wpAny_rule (wpAny_pure ?_));have:eqT fs gs=false:=by
   unfold eqT;rw[decide_eq_false W];rfl
  rw[this]at q;exact q
inductive rTab(k:Bool->Bool)(x:V)(y:V)(H:Hp)(Q:VK):Prop
 |mk:∀a b kvs lvs fs gs,x = .ref a->y = .ref b->H a=some (.dK kvs)->H b=some (.dK lvs)->TbR H fs kvs->TbR H gs lvs->Q (.bl (k (eqT fs gs))) H->rTab k x y H Q
theorem Lm(hu:X.A.units+64<cLine):OpR X (compareOp .NotEq) (rTab not):=by
 intro pins s σ H x y v u Q I E G h;obtain⟨a,b,J,L,f,g,rfl,rfl,N,O,R,S,q⟩:=h;cases (show v=Value.ref a from E);cases (show u=Value.ref b from G);obtain⟨_,U,vs,m,V,W,Y,p,Z,d1,k1,p1,_⟩:=sF I.hok N;obtain⟨_,nb,ws,n,o2,aa,ab,r,x2,d2,t,p2,_⟩:=sF I.hok O;have B:s.TypeIs (.ref a) "dict":=⟨V,p,Z.1⟩;have D:s.TypeIs (.ref b) "dict":=⟨o2,r,x2.1⟩;show wpAny _ _ (richCompare .NotEq (.ref a) (.ref b)) _ _ s;refine wpAny_richCompare_same_room B D PySem.F.slot_dict_ne ?_ (by omega);refine wpAny_call_entry PySem.F.slot_dict_ne B PySem.F.entry_dict_ne ?_ (PySem.F.args_dict_ne_2 _ _);show wpAny _ _ (Builtin.Dict.dictSlotArgs "__ne__" ⟨[.ref a,.ref b],[]⟩ >>= _) _ _ s;refine wpAny_bind (wpAny_of_eq (a:=(Value.ref a,Value.ref b)) (by rfl) ?_);dsimp only;refine wpAny_bind (wpAny_isInstance (T:="dict") (b:=true) D (by kernel_rfl) ?_);rw[if_neg (by decide)];refine wpAny_bind (wpAny_of_eq (a:=a) (by rfl) ?_);refine wpAny_bind (wpAny_of_eq (a:=b) (by rfl) ?_);refine wpAny_bind (Cn (fs:=f) (gs:=g) (by show X.A.units+1<cLine;omega) U nb p d1 (EnR.of I.hok R m p1 λe o=>k1 e (by simpa using o)) r d2 t (EnR.of I.hok S n p2 λe o=>t e (by simpa using o)) ?_);refine wpAny_pure ⟨_,rfl,(λz=>by cases z),?_⟩;refine⟨.bl _,H,I,?_,q⟩;show Value.bool (eqT f g == false)=Value.bool (!eqT f g);cases eqT f g <;> rfl
end
section
variable{X:Cx}
def Itd(a:Addr)(o:Obj)(b:Mn):It:=⟨λi H=>H a=some (.frz o (.dK b))/\i<b.length,λi H v e=>e=H/\∃k y,b[i]? = some (k,y)/\v=kV k,λi H=>H a=some (.frz o (.dK b))/\b.length<=i⟩
theorem B0(ok:HOk P w H h)(e:H a=some (.frz o (.dK b))):h.get? a=some o/\(a == sysModules)=false/\∃f m p,KV b f/\o.data = .dict m p/\h.DictAt (bI P w) a f p:=by
 obtain⟨g,z,n,f,s,q,m,p,t,u,r,x⟩:=(show eG P w H h a (.frz o (.dK b)) from ok a _ e);have y:q=o:=Option.some.inj (t.symm.trans g);subst y;exact⟨g,n,f,m,p,s,r,q,m,g,u,r,x⟩
theorem Ew{P:Program}{w:World}{K:Ma}{tg:Expr}(a it:Addr)(o:Obj)(kvs:Mn)(es:Array DictEntry)(ep:Nat)(ho:o.data = .dict es ep):Turn P w K tg (Itd a o kvs) [it] it (λi h=>h.IsKeyIter it a i kvs.length ep) where
 mem:=by simp
 obj:=λi h st b hb=>by
  have e:b=it:=by simpa using hb
  subst e;obtain⟨o,e,c,d⟩:=st;exact⟨o,e,λv z=>by rw[d]at z;cases z⟩
 keep:=λi h h' st k=>by
  obtain⟨o,e,r⟩:=st;exact⟨o,k it (by simp) o e,r⟩
 item:=by
  intro X hP hw hK hc i pins s σ H E I hf st hg;subst hP hw hK;obtain⟨hfz,hlt⟩:=hg;obtain⟨g,n,vs,es',ep',kv,e1,dat⟩:=B0 I.hok hfz;rw[ho]at e1;cases e1;have hl:vs.length=kvs.length:=kv.length.symm;rw[<- hl]at st;have hlt':i<vs.length:=by omega
  obtain⟨f0,f1,f2,f3,f4,f5⟩:=hf it (by simp);refine wpAny_pyNext_dict_item st dat (k:=vs[i].1) (v:=vs[i].2) (getElem?_eq_getElem hlt') λkey h' hk st' sb=>?_;have I1:Inv X pins σ H {s with heap:=h'}:=I.turned (t':=s.toks) (λb o hb e=>(sb.2 b hb).trans e) f0 f1 f3 f4 f5;obtain⟨o',e,c,d⟩:=id st';rw[hl]at st';have hkey:kvs[i].1=vs[i].1:=by
   have h1:=congrArg (λl=>l[i]?) (AT kv);simp only[getElem?_map]at h1;rw[getElem?_eq_getElem hlt,getElem?_eq_getElem hlt']at h1;exact Option.some.inj h1
  refine⟨key,rfl,Bz (s:={s with heap:=h'}) e c d (by decide) ⟨kV kvs[i].1,H,I1,?_,⟨rfl,kvs[i].1,kvs[i].2,getElem?_eq_getElem hlt,rfl⟩,st',λb hb=>(hf b hb).1⟩⟩;rw[hkey];rcases c8 (k:=vs[i].1) (v:=key) hk with ⟨j,t,e1,e2⟩ | ⟨y,t,e1,e2⟩
  ·rw[e1,e2];exact⟨t,rfl⟩
  ·rw[e1,e2];exact⟨t,rfl⟩
 done:=by
  intro X hP hw hK hc i pins s σ H E I hf st hg;subst hP hw hK;obtain⟨hfz,hle⟩:=hg;obtain⟨g,n,vs,es',ep',kv,e1,dat⟩:=B0 I.hok hfz;rw[ho]at e1;cases e1;have hl:vs.length=kvs.length:=kv.length.symm;rw[<- hl]at st;obtain⟨f0,f1,f2,f3,f4,f5⟩:=hf it (by simp);exact wpAny_pyNext_dict_end (I.ok.hd hc) st dat (getElem?_eq_none (by omega)) λh' eb=>⟨rfl,I.turned (t':=s.toks) (λb o hb e=>eb b o hb e) f0 f1 f3 f4 f5⟩
 self:=λ_ _ _ _ _ st h=>wpAny_pyIter_keyiter st h
inductive IG(R:(It->Hp->Prop))(x:V)(H1:Hp):Prop
 |mk:∀a kvs,x = .ref a->H1 a=some (.dK kvs)->(∀o,R (Itd a o kvs) (upd H1 a (.frz o (.dK kvs))))->IG R x H1
def iDict(b:TE):TI:=λe H R=>b e H (IG R)
theorem Jd{W l:Expr}{G:TE}(Y:PE X l G):PI X W l (iDict G):=by
 intro f s J H R I h;refine thn (Y f s J H _ I h) λv m t=>?_;obtain⟨x,L,N,Z,q1⟩:=t;obtain⟨a,p,e,O,q⟩:=q1;subst e;cases (show v=Value.ref a from Z);obtain⟨z,n,Q,S,o,y,B,g,r⟩:=sF N.hok O;have D:Inv X f J (upd L a (.frz o (.dK p))) {m with heap:=m.heap,toks:=m.toks}:=N.write (x:=a) (e:=a) (by rw[O];exact True.intro) (.inl rfl) (λb u _ e=>e) ⟨o,g⟩ ⟨g,z,n,Q,S,o,y,B,g,r⟩;have E:m.heap.DictAt (bI X.prog X.w) a Q B:=⟨o,y,g,r⟩;refine wpAny_pyIter_dict n E ?_;refine⟨m.heap.objs.size,[m.heap.objs.size],_,_,upd L a (.frz o (.dK p)),rfl,D.kept (t':=m.toks) λb o e=>get?_push_of_some _ e,Ew a _ o p y B r.2.1,⟨_,get?_push_size _ rfl,rfl,by rw[S.length];rfl⟩,λb hb=>?_,q o⟩;have e:b=m.heap.objs.size:=by simpa using hb
 subst e;exact D.fpOk (le_refl _) (D.hok.fresh (le_refl _))
theorem Gb(h:H a=some (.frz o (.dK kvs))):Src (Itd a o kvs) H kvs.length (λi v _=>∃k y,kvs[i]? = some (k,y)/\v=kV k) where
 go:=λi H' hi s=>⟨s _ _ h,hi⟩
 yld:=λi H' v H'' hi s y=>⟨by rw[y.1];exact aG.refl _,y.2⟩
 stop:=λH' s=>⟨s _ _ h,le_refl _⟩
end
end L2
namespace TS
open PySem PyProof.Rows
abbrev SM:=StateT SortSt Sem
def kk(b : KeyKind)(p:Keyed):b.α:=(b.keyOf p.1).getD b.dflt
def Ky(b : KeyKind)(p:Keyed):Prop:=∃a,b.keyOf p.1=some a
def Le(b : KeyKind)(p q:Keyed):Prop:=b.kle (kk b p) (kk b q)
def AllK(b : KeyKind)(e:Array Keyed):Prop:=∀(i:Nat) p,e[i]? = some p->Ky b p
section
variable{prog:Program}{w:World}{A:Around}{E:Mm}{s:Shared}{κ : KeyKind}
theorem KS(g:κ.OneLt){st:SortSt}{x y:Keyed}{Q:Option Bool->SortSt->Prop}(m:kindOf st=oneType')(n:Ky κ x)(o:Ky κ y)(h:Q (some (κ.blt (kk κ x) (kk κ y))) st):wpS (model prog w) A E s (lt' x y) Q st:=by
 obtain⟨a,e⟩:=n;obtain⟨b,f⟩:=o;have h:Q (some (κ.blt a b)) st:=by
  unfold kk at h;rw[e,f]at h;exact h
 rw[lt'_eq];refine wpS_bind (wpS_get ?_);rw[m,keyLt'_oneType];exact wpS_bind (wpS_lift (wpAny_attempt (g prog w A _ s x.1 y.1 a b e f ⟨rfl,wpS_pure h⟩)))
theorem zP{st:SortSt}{b:Array Keyed}{i:Nat}{p:Keyed}{Q:Keyed->SortSt->Prop}(e:b[i]? = some p)(h:Q p st):wpS (model prog w) A E s (elem' b i) Q st:=by
 rw[elem'_eq,e];exact wpS_pure h
end
def KD:Bool->Keyed->Array Keyed->Nat->Nat->Nat->SM (Option Nat):=sortPriv% PySem.Builtin.gallop
def bey(left:Bool)(b:Keyed)(e:Array Keyed)(base i:Nat):SM (Option Bool):=do
 let x <- elem' e (base+i)
 if left then lt' x b else return (<- lt' b x).map (!·)
section
variable{prog:Program}{w:World}{A:Around}{E:Mm}{s:Shared}{κ : KeyKind}
end
end TS
namespace TS
open PySem PyProof.Rows
def fB(st b:SortSt):Prop:=kindOf b=kindOf st/\arrOf b=arrOf st/\pendingOf b=pendingOf st/\failedOf b=failedOf st
theorem fB.refl(st:SortSt):fB st st:=⟨rfl,rfl,rfl,rfl⟩
def setG:Nat->SM Unit:=sortPriv% PySem.Builtin.setMinGallop
def Ho:Array Keyed->Array Keyed->SM (Array Keyed):=sortPriv% PySem.Builtin.mergeLo
theorem Ey{b:Array Keyed}{i:Nat}{p:Keyed}(e:b[i]? = some p):b.toList.take (i+1)=b.toList.take i++[p]:=by
 rw[List.take_add_one,getElem?_toList,e];rfl
theorem Hu{b:Array Keyed}{i:Nat}{p:Keyed}(e:b[i]? = some p):i<b.size:=by
 rcases Nat.lt_or_ge i b.size with h |h
 ·exact h
 ·rw[Array.getElem?_eq_none h]at e;cases e
theorem qD{b:Array Keyed}{i:Nat}(h:i<b.size):∃p,b[i]? = some p:=⟨_,getElem?_pos b i h⟩
section
variable{κ : KeyKind}{a b o:Array Keyed}{i j:Nat}
end
section
variable{prog:Program}{w:World}{A:Around}{E:Mm}{s:Shared}{κ : KeyKind}{a b:Array Keyed}
theorem KN{m n:Nat}(h:m=n):(m == n)=true:=by simpa using h
end
end TS
namespace TS
open PySem PyProof.Rows
def Hq:Array Keyed->Array Keyed->SM (Array Keyed):=sortPriv% PySem.Builtin.mergeHi
theorem yW{b:Array Keyed}{i:Nat}{p:Keyed}(e:b[i]? = some p):b.toList.drop i=p::b.toList.drop (i+1):=by
 have h:=Hu e;rw[drop_eq_getElem_cons (by simpa using h)];rw[getElem?_pos b i h]at e;rw[<- Option.some.inj e];rfl
section
variable{κ : KeyKind}{a b o:Array Keyed}{i j:Nat}
end
section
variable{prog:Program}{w:World}{A:Around}{E:Mm}{s:Shared}{κ : KeyKind}{a b:Array Keyed}
end
end TS
namespace TS
open PySem PyProof.Rows
def SR(e : KeyKind)(b:Array Keyed)(lo f:Nat):Prop:=∀(i j:Nat) p q,lo<=i->i<=j->j<f->b[i]? = some p->b[j]? = some q->Le e p q
def put(b:Array Keyed)(u:Nat)(l:List Keyed)(k:Nat):Array Keyed:=(l.zipIdx k).foldl (λa(p,j)=>a.setIfInBounds (u+j) p) b
theorem BP(u:Nat):∀(l:List Keyed)(k:Nat)(b:Array Keyed),u+k+l.length<=b.size->(put b u l k).toList=b.toList.take (u+k)++l++b.toList.drop (u+k+l.length)
 |[],k,b,h=>by
  show b.toList=_;rw[append_nil,length_nil,Nat.add_zero,take_append_drop]
 |p::l,k,b,h=>by
  rw[length_cons]at h;show (put (b.setIfInBounds (u+k) p) u l (k+1)).toList=_;rw[BP u l (k+1) _ (by rw[Array.size_setIfInBounds];omega)];have f:u+k<b.toList.length:=by rw[length_toList];omega
  rw[Array.toList_setIfInBounds,List.drop_set_of_lt (by omega),show u+(k+1)=(u+k)+1 by omega];have e:(b.toList.set (u+k) p).take (u+k+1)=b.toList.take (u+k)++[p]:=by
   rw[List.take_add_one,List.take_set_of_le (le_refl _),List.getElem?_set_self f];rfl
  rw[e,append_assoc,append_assoc,append_assoc];show _++(p::l++b.toList.drop (u+k+1+l.length))=_++(p::l++b.toList.drop (u+k+(l.length+1)));rw[show u+k+1+l.length=u+k+(l.length+1) by omega]
theorem G9{b:Array Keyed}{u v m:Nat}{r:Array Keyed}(g:u<=v)(p:v+m<=b.size)(hr:r.toList.Perm ((b.extract u v).toList++(b.extract v (v+m)).toList)):(put b u r.toList 0).Perm b/\r.toList.length=v-u+m:=by
 have f:r.toList.length=v-u+m:=by
  have:=hr.length_eq;rw[length_append,length_toList,length_toList,length_toList,Array.size_extract,Array.size_extract]at this;rw[length_toList];omega
 refine⟨?_,f⟩;rw[Array.perm_iff_toList_perm,BP u r.toList 0 b (by omega),Nat.add_zero,f];rw[toList_extract,toList_extract,extract_eq_take_drop,extract_eq_take_drop]at hr;have e:b.toList=b.toList.take u++((b.toList.drop u).take (v-u)++(b.toList.drop v).take (v+m-v))++b.toList.drop (u+(v-u+m)):=by
  have n:(b.toList.drop u).take (v-u)++(b.toList.drop v).take (v+m-v)=(b.toList.drop u).take (v-u+m):=by
   rw[List.take_add,List.drop_drop,show u+(v-u)=v by omega,show v+m-v=m by omega]
  rw[n,append_assoc];have o:(b.toList.drop u).take (v-u+m)++b.toList.drop (u+(v-u+m))=b.toList.drop u:=by
   rw[<- List.drop_drop,take_append_drop]
  rw[o,take_append_drop]
 exact((List.Perm.append_left _ hr).append_right _).trans (List.Perm.of_eq e.symm)
structure SB(κ : KeyKind)(a₀ : Array Keyed)(st:SortSt):Prop where
 kind:kindOf st=oneType'
 failed:failedOf st=none
 perm:(arrOf st).Perm a₀
theorem SB.size{e : KeyKind}{b : Array Keyed}{st:SortSt}(h:SB e b st):(arrOf st).size=b.size:=h.perm.size_eq
theorem SB.keys{f : KeyKind}{b : Array Keyed}{st:SortSt}(h:SB f b st)(g:KeysOf f b):AllK f (arrOf st):=λi p e=>by
 refine g p ((Array.perm_iff_toList_perm.mp h.perm).mem_iff.mp ?_);rw[<- getElem?_toList]at e;exact mem_of_getElem? e
section
variable{prog:Program}{w:World}{A:Around}{E:Mm}{s:Shared}{κ : KeyKind}{a₀ : Array Keyed}
end
end TS
namespace TS
open PySem PyProof.Rows
def kAt(b : KeyKind)(e:Array Keyed)(i:Nat):Option b.α:=e[i]?.map (kk b)
def Up(b : KeyKind)(e:Array Keyed)(lo f:Nat):Prop:=∀(i j:Nat) x y,lo<=i->i<=j->j<f->kAt b e i=some x->kAt b e j=some y->b.kle x y
theorem Up.sr{b : KeyKind}{f:Array Keyed}{lo g:Nat}(h:Up b f lo g):SR b f lo g:=λi j p q m n o e r=>h i j (kk b p) (kk b q) m n o (by unfold kAt;rw[e];rfl) (by unfold kAt;rw[r];rfl)
theorem Hy(e:b[i]? = some p):kAt f b i=some (kk f p):=by unfold kAt;rw[e];rfl
section
variable{prog:Program}{w:World}{A:Around}{E:Mm}{s:Shared}{κ : KeyKind}{a₀ : Array Keyed}
theorem Iz(g:κ.OneLt)(f:KeysOf κ a₀){st:SortSt}(B:SB κ a₀ st){i j:Nat}{Q:Option Bool->SortSt->Prop}(m:i<a₀.size)(hj:j<a₀.size)(h:∀x y,kAt κ (arrOf st) i=some x->kAt κ (arrOf st) j=some y->Q (some (κ.blt x y)) st):wpS (model prog w) A E s (ltAt' i j) Q st:=by
 obtain⟨p,b⟩:=qD (show i<(arrOf st).size by rw[B.size];exact m);obtain⟨q,e⟩:=qD (show j<(arrOf st).size by rw[B.size];exact hj);rw[ltAt'_eq];refine wpS_bind (wpS_get ?_);dsimp only;exact wpS_bind (zP b (wpS_bind (zP e (KS g B.kind (B.keys f _ _ b) (B.keys f _ _ e) (h _ _ (Hy b) (Hy e))))))
end
end TS
namespace TS
open PySem PyProof.Rows
section
variable{prog:Program}{w:World}{A:Around}{E:Mm}{s:Shared}{κ : KeyKind}{a₀ : Array Keyed}
theorem MB(c:Prop) [Decidable c](i:Nat):(if c then i-1 else i)<=i:=by
 split
 ·omega
 ·exact le_refl _
end
end TS
namespace TS
open PySem PyProof.Rows
theorem SR.toK(h:SR m b 0 n)(o:n<=b.size):SortedToK m b n:=λi j e hj=>by
 obtain⟨p,f⟩:=qD (show i<b.size by omega);obtain⟨q,g⟩:=qD (show j<b.size by omega);have:=h i j p q (zero_le _) e hj f g;unfold KK;rw[f,g];exact this
section
variable{prog:Program}{w:World}{A:Around}{E:Mm}{s:Shared}{κ : KeyKind}
end
end TS
namespace TS
open PySem PyProof.Rows
def nA:KeyKind where
 α:=Int
 blt a b:=decide (a<b)
 irrefl a:=decide_eq_false (Int.lt_irrefl a)
 trans a b c h1 h2:=decide_eq_true (Int.lt_trans (of_decide_eq_true h1) (of_decide_eq_true h2))
 negTrans a b c h:=by
  have h:=of_decide_eq_true h;by_cases z:a<b
  ·exact .inl (decide_eq_true z)
  ·exact .inr (decide_eq_true (by omega))
 total a b h1 h2:=by
  have h1:=of_decide_eq_false h1;have h2:=of_decide_eq_false h2;omega
 keyOf v:=match v with
  | .int n _=>some n
  |_=>none
 dflt:=0
theorem Ls:nA.OneLt:=by
 intro e w A E s x y a b Q f g q;cases x with
 |int n t=>
  cases y with
  |int m u=>
   cases (show some n=some a from f);cases (show some m=some b from g);exact oneLt_int q
  |_=>cases g
 |_=>cases f
theorem Hi(h:IntsAre b g):KeysOf nA (pairsOf b):=λp f=>by
 obtain⟨n,t,e⟩:=h.intKeys p f;exact⟨n,by rw[e];rfl⟩
theorem DC(h:SortedToK nA b n):SortedTo b n:=λi j f hj=>by
 have:=h i j f hj;have e:∀k,KK nA b k=K b k:=λk=>by
  unfold KK K;cases b[k]? with
  |none=>rfl
  |some p=>
   dsimp only;cases p.1 <;> rfl
 rw[e,e]at this;have this:decide (K b j<K b i)=false:=this;have:=of_decide_eq_false this;omega
end TS
namespace L2
open PySem PySem.Spec PyProof.Rows
section
variable{X:Cx}
inductive tFwX(a:Str)(Q:VK)(v:V)(H1:Hp):Prop
 |mk:∀i:Int,v = .int i->0<=i->i<10 ^ 10->Q (.str (a++Str.ofString (toString i))) H1->tFwX a Q v H1
def tFw(a:Str)(b:TE):TE:=λe H Q=>b e H (tFwX a Q)
theorem Fj{a:Int}(b:0<=a)(h:a<10 ^ 10):a.natAbs.log2<1920:=by
 have h:a.natAbs<10 ^ 10:=by omega
 by_cases b:a.natAbs=0
 ·rw[b];decide
 ·have e:a.natAbs.log2<64:=(Nat.log2_lt b).mpr (lt_of_lt_of_le h (by decide));omega
theorem pe_fw{a:Str}{e:Expr}{o:TE}{k:Nat}{g p2 m:Pos}(D:PE X e o)(E:a.length<=1000:=by decide):PE X (.JoinedStr [.Constant (.str a) k g,.FormattedValue e (-1) none p2] m) (tFw a o):=by
 intro b s p H Q I h;refine wpAny_JoinedStr ?_;have G:evalEach [.Constant (.str a) k g,.FormattedValue e (-1) none p2] X.env=[eval (.Constant (.str a) k g) X.env,eval (.FormattedValue e (-1) none p2) X.env]:=by rfl
 rw[G];unfold Joins;refine thn (bR b s p H (λv r=>v = .str a/\r=H) I ⟨rfl,rfl⟩) λv J f=>?_;obtain⟨x,r,L,N,n,O⟩:=f;subst n O;obtain⟨t,rfl⟩:=N;refine⟨a,t,rfl,?_,?_⟩
 ·rw[PySem.W.KT.empty_app];exact le_trans E (by decide)
 rw[PySem.W.KT.empty_app];unfold Joins;refine wpAny_FormattedValue_plain (thn (D b J p _ _ L h) λv s2 f=>?_);obtain⟨x,H2,R,S,i,n,y,z,q⟩:=f;subst n;obtain⟨u,rfl⟩:=S;have B:(a++Str.ofString (toString i)).length<=sizeLine:=by
  have:=PySem.W.KT.len_num y z;rw[strLen_append];exact le_trans (show _<=1010 by omega) (by decide)
 refine wpAny_formatField_int (Fj y z) ⟨_,_,rfl,B,B,?_⟩;exact⟨.str _,H2,R.kept (λ_ _ e=>e),⟨_,rfl⟩,q⟩
theorem yR:∀{b:Mf}{e:Mh},cE (b.map V.int) e->IntsAre e b
 |[],_,h=>by cases h;exact .nil
 |n::b,_,h=>by
  cases h with
  |cons r h=>
   obtain⟨t,rfl⟩:=r;exact .cons n t (yR h)
theorem Fk:∀{b:Mh}{e:Mf},IntsAre b e->2<=e.length->keyKind' b.toArray=pure oneType'
 |[],_,h,f=>by cases h;simp at f
 |[_],_,h,f=>by
  have:=IntsAre.length h;simp at this;omega
 |v₁ :: g :: rest,_,h,_=>keyKind_ints h
inductive yB(xs:Mp)(H:Hp)(Q:VK):Prop
 |mk:∀l ns,xs=[.ref l]->H l=some (.lst (ns.map .int))->ns.length<64->(∀p ms,List.Perm ms ns->ms.Pairwise (· <= ·)->H p=none->Q (.ref p) (upd H p (.lst (ms.map .int))))->yB xs H Q
theorem wW:gP X (.builtin "sorted") yB:=by
 intro t s U H V W Q I r h;obtain⟨l,x,rfl,E,G,q⟩:=h;have n:x.length<=sizeLine:=le_trans (le_of_lt G) (by decide);cases r with
 |cons J L=>
  cases L;cases (show _=Value.ref l from J);obtain⟨y,z,N,Y⟩:=I.list (SqL.of E);have O:=yR z;have B:y.length=x.length:=by have:=z.length;rw[length_map]at this;omega
  refine sorted_ints N.isList O (by omega) λg D m f R=>?_;obtain⟨o,p⟩:=sortedAll_at s.heap y g;have S:H (s.heap.objs.size+1)=none:=I.hok.fresh (le_succ _);refine⟨.ref (s.heap.objs.size+1),upd H (s.heap.objs.size+1) (.lst (D.map .int)),I.laid (t':=s.toks) (λb u e=>sortedAll_old e) (le_succ _) ?_,rfl,q _ D f R S⟩;refine⟨?_,g.toList,o,mR m,?_⟩
  ·rw[length_map,f.length_eq];exact n
  ·simpa [seqObj] using p
theorem EH(K:Ma)(b:PE X e g)(m:attributeBase e f X.env (eval e X.env)=eval e X.env)(n:X.K=K:=by rfl):PE X (.Attribute e f o) (tFld K g f):=by
 subst n;exact oB b m
end
theorem Ae(l:Addr)(b:Array Value)(n:Nat)(o:Option Addr)(x:Me)(lo:Int)(t:Tok)(y:0<=lo/\lo<1000000000) :
  Meets (Builtin.«enumerate.__new__» ⟨[.type "enumerate",.ref l],[("start",.int lo t)]⟩) (λ_ R s=>s.heap.get? l=some {cls:=.type "tuple",dict:=o,data:=.seq b n,slots:=x}/\
   R (.ok (.ret (.ref (s.heap.push {cls:=.type "tuple_iterator",data:=.fields #[.ref l,.int 0 0] }).objs.size)))
    {s with heap:=(s.heap.push {cls:=.type "tuple_iterator",data:=.fields #[.ref l,.int 0 0] }).push {cls:=.type "enumerate",data:=.fields #[.none,.bool false,.ref s.heap.objs.size,rawInt lo,.none,.none] } }):=
 .of_wp λu w A R s h=>by
  obtain⟨z,g,d,B,os⟩:=s;obtain⟨m,h⟩:=h;have z1:=sub_enumerate;have D:Builtin.SmallTypes.fitsIndex lo=true:=by
   unfold Builtin.SmallTypes.fitsIndex;simp;omega
  have q:Heap.IsTuple (Shared.heap ⟨z,g,d,B,os⟩) l b:=⟨_,m,rfl,n,rfl⟩
  wp_walk using AutoSeq1.wpAny_loadPart' m
  refine wpAny_stack_any λst=>wpAny_pure ?_;split
  ·rename_i c _ _ _ _ _;cases (c == Value.type "enumerate")
   ·wp_walk using AutoSeq1.wpAny_loadPart' m,wpAny_pyIter_tuple q
    exact⟨_,rfl,h⟩
   ·wp_walk using AutoSeq1.wpAny_loadPart' m,wpAny_pyIter_tuple q
    exact⟨_,rfl,h⟩
  ·wp_walk using AutoSeq1.wpAny_loadPart' m,wpAny_pyIter_tuple q
   exact⟨_,rfl,h⟩
section
variable{X:Cx}
inductive mL(K:Ma)(R:(It->Hp->Prop))(x:V)(y:V)(H2:Hp):Prop
 |mk:∀a xs lo,x = .ref a->y = .int lo->0<=lo->lo<1000000000->SqT K H2 a xs->R (Ite K lo a) H2->mL K R x y H2
abbrev IF(K:Ma)(b:TE)(e : St)(R:(It->Hp->Prop)):V->Hp->Prop:=λx f=>b e f (mL K R x)
def ME(K:Ma)(e f:TE):TI:=λb H R=>e b H (IF K f b R)
theorem HG(K:Ma)(W:X.mg "enumerate" = none)(Y:PE X ex N)(Z:PE X e2 D)(hg:Gl X "enumerate":=by rfl)(E:starEach [ex] X.env=[(false,eval ex X.env)]:=by rfl)(hK:X.K=K:=by rfl) :
  PI X (.Tuple O x1 tp) (.Call (.Name "enumerate" p) [ex] [⟨some "start",e2,kp⟩] G) (ME K N D):=by
 subst hK;intro b s g H R I h;refine wpAny_Call_Name_kw (lI I hg W boot_enumerate ?_);rw[E];refine CI (x:=eval ex X.env) (rest:=[]) rfl rfl rfl ?_;have t:=eT Y aF E G b s g H (λQ f=>∃x,Q=[x]/\D g f (mL X.K R x)) I (by
  have e:(λ(x:V)(f:Hp)=>lR g f λS H2=>∃z,x::S=[z]/\D g H2 (mL X.K R z))=λx f=>D g f (mL X.K R x):=by
   funext x f;simp only[lR,List.cons.injEq,and_true];apply propext;constructor
   ·rintro ⟨z,rfl,h⟩;exact h
   ·intro h;exact⟨x,rfl,h⟩
  exact Eq.mpr (congrArg (N g H) e) h)
 rw[E]at t;refine thn t λus s1 m=>?_;obtain⟨Q,f,I1,r1,x,ev,q1⟩:=m;subst ev;refine kws_cons (thn (Z b s1 g f _ I1 q1) λv2 s2 m=>?_);obtain⟨y,H2,U,ry,a,S,lo,J,ey,l0,l1,hq,q⟩:=m;refine kws_nil ?_;subst J ey;cases r1 with
 |cons r rr=>
  cases rr;cases (show _=Value.ref a from r);obtain⟨L,rfl⟩:∃L,v2 = .int lo L:=ry;obtain⟨aa,rv,⟨⟨c,dd,dt,sl⟩,ho,u,n,B⟩,hz⟩:=U.tuple hq;dsimp only at u B;subst u B;refine tU (kw:=[("start",_)]) PySem.F.called_enumerate (nV _ _) (pW _ _) PySem.F.entry_enumerate_new (Ae a _ n dd sl lo L ⟨l0,l1⟩) (λo=>EX o _ _) (λo=>nT o _ _) ⟨ho,⟨_,get?_push_size _ rfl,rfl⟩,?_⟩;rw[size_push];exact wA (tg:=ex) (tk:=s2.toks) U q
inductive G7(x:V)(vs:Mp)(H:Hp)(Q:VK):Prop
 |mk:∀a y z o,x = .ref a->vs=[y,z]->cQ H a y o->Q (o.getD z) H->G7 x vs H Q
theorem Hl(f:X.A.units+1<cLine):MtR X "dict.get" G7:=by
 intro e s u H x B v D Q I m n h;obtain⟨a,y,z,o,rfl,rfl,g,q⟩:=h;cases (show v=Value.ref a from m);obtain⟨E,G,rfl,p,r⟩:=GH n;exact MN f I g p r λJ L t b=>⟨_,H,t,b,q⟩
structure GD(P:Program)(w:World)(K:Ma)(a:Addr)(kvs:Mn):Prop where
 sys:(a == sysModules)=false
 ex:∃o vs,K.lookup a=some o/\KV kvs vs/\o.IsDictOf (bI P w) vs
theorem GD.here(g:GD X.prog X.w X.K a e)(I:Inv X f q H s):∃b,KV e b/\s.heap.DictOf (bI X.prog X.w) a b:=by
 obtain⟨o,b,m,n,p⟩:=g.ex;exact⟨b,n,Heap.dictOf_iff.mpr ⟨o,I.kIn _ _ m,p⟩⟩
inductive GV(kvs:Mn)(Q:VK)(y:V)(H1:Hp):Prop
 |mk:∀k v,y=kV k->dD kvs k=some v->Q v H1->GV kvs Q y H1
def tGGet(b:Mn)(ty:TE):TE:=λe H Q=>ty e H (GV b Q)
inductive Aw(kvs:Mn)(Q:VK)(y:V)(H1:Hp):Prop
 |mk:∀k,y=kV k->Q (.bl (!(dD kvs k).isSome)) H1->Aw kvs Q y H1
def JC(b:Mn)(ty:TE):TE:=λe H Q=>ty e H (Aw b Q)
theorem Jh{K:Ma}{a:Addr}{f:Mn}{o i:Expr}{ty:TE}{m:Pos}(g:GD X.prog X.w K a f)(B:PE X o (tC (.ref a)))(D:PE X i ty)(E:MU i)(G:X.K=K:=by rfl):PE X (.Subscript o i m) (tGGet f ty):=by
 subst G;intro b s r H Q I h;refine Dp PySem.F.slot_dict_getitem.lookup E (thn (B b s r H (λx n=>x = .ref a/\n=H) I ⟨rfl,rfl⟩) λu J e=>?_);obtain⟨x,n,L,N,ex,O⟩:=e;subst ex O;obtain rfl:u=Value.ref a:=N;refine thn (D b J r n _ L h) λW s2 e=>?_;obtain⟨y,H2,t,R,k,v,S,l,U⟩:=e;subst S;obtain⟨V,p,z⟩:=g.here t;obtain⟨Y,hw,q⟩:=kO.some_of (v:=v) (o:=valueAt V k) (by rw[<- l];exact p.val k);exact⟨z.typeIs,wpAny_getItem_of (nS R) z.mapOf hw ⟨v,H2,t.tok _,q,U⟩⟩
theorem FD{K:Ma}{a:Addr}{e:Mn}{o i:Expr}{ty:TE}(g:GD X.prog X.w K a e)(r:PE X i ty)(t:PE X o (tC (.ref a)))(z:X.K=K:=by rfl):PC X .NotIn i o (JC e ty):=by
 subst z;intro b s n H Q I h;refine thn (r b s n H _ I h) λR B ⟨y,p,D,E,k,G,J⟩=>thn (t b B n p (λx H2=>x = .ref a/\H2=p) D ⟨rfl,rfl⟩) λu s2 f=>?_;obtain⟨x,H2,q,L,ex,N⟩:=f;subst ex N G;obtain rfl:u=Value.ref a:=L;obtain⟨S,m,O⟩:=g.here q;refine wpAny_notIn_of (nS E) g.sys O.mapOf ⟨.bl _,H2,q.tok _,rfl,?_⟩;rw[<- (m.val k).isSome_eq];exact J
def DK(x:Str):Value->Bool
 | .str y _=>decide (y=x)
 |_=>false
def DL(n:Int):Value->Bool
 | .int m _=>decide (m=n)
 |_=>false
theorem Fq(h:DK x v=true):∃t,v = .str x t:=by
 unfold DK at h;split at h
 ·exact⟨_,by rw[of_decide_eq_true h]⟩
 ·cases h
theorem Fr(h:DL n v=true):∃t,v = .int n t:=by
 unfold DL at h;split at h
 ·exact⟨_,by rw[of_decide_eq_true h]⟩
 ·cases h
def pX:List (Str×Int)->List DictEntry->Bool
 |[],[]=>true
 |p::b,e::f=>(DK p.1 e.key && DL p.2 e.val) && pX b f
 |_,_=>false
theorem KG:∀{m:List (Str×Int)}{f:List DictEntry},f.map (·.hash)=m.map (λp=>PyData.keyHash w.params p.1)->pX m f=true->
  (∀e∈f,∃k:Key,sD k e.key=true/\e.hash=L9 w k)/\∃n:List (Key×Value),KV (m.map λp=>(Sum.inr p.1,V.int p.2)) n/\(∀(P:Program),Pairs (bI P w) f n)/\n.map (·.1)=m.map λp=>Sum.inr p.1:=by
 intro m
 induction m with
 |nil=>
  intro f _ g;cases f with
  |nil=>exact⟨(λe h=>by cases h),[],.nil,(λ_=>.nil),rfl⟩
  |cons e f=>cases g
 |cons p m r=>
  intro f o g;cases f with
  |nil=>cases g
  |cons e f=>
   rw[map_cons,map_cons]at o;injection o with q s
   unfold pX at g;rw[and_eq_true,and_eq_true]at g;obtain⟨a,n,b,c,d⟩:=r s g.2;obtain⟨hash,x,y⟩:=e;dsimp only at g q;obtain⟨t,rfl⟩:=Fq g.1.1;obtain⟨u,rfl⟩:=Fr g.1.2;have B:∃k:Key,sD k (.str p.1 t)=true/\hash=L9 w k:=⟨Sum.inr p.1,rH _ _,by rw[q];rfl⟩;refine⟨λe h=>?_,(Sum.inr p.1,.int p.2 u)::n,.cons ⟨rfl,⟨_,rfl⟩⟩ b,λP=>.cons (rH p.1 t) rfl (c P),by rw[map_cons,map_cons,d]⟩;rcases mem_cons.mp h with z |z
   ·rw[z];exact B
   ·exact a e z
theorem gd_of{P:Program}{w:World}{K:Ma}{a:Addr}{b:Array DictEntry}{g:Nat}{ps:List (Str×Int)}(f:(a == sysModules)=false)(l:K.lookup a=some ⟨.type "dict",none,.dict b g,#[]⟩)(m:b.toList.map (·.hash)=ps.map λp=>PyData.keyHash w.params p.1)(n:pX ps b.toList=true)(o:(ps.map λp=>(Sum.inr p.1:Key)).Nodup) :
  GD P w K a (ps.map λp=>(Sum.inr p.1,V.int p.2)):=by
 obtain⟨q,r,s,t,u⟩:=KG m n;exact⟨f,_,r,l,s,b,g,⟨rfl,rfl,rfl⟩,rfl,λe h=>q e (by simpa using h),t P,by rw[u];exact o⟩
end
section
variable{X:Cx}{tg:Expr}
inductive Kq(K:Ma)(R:(It->Hp->Prop))(x:V)(H1:Hp):Prop
 |mk:∀a,x = .ref a->(((∃xs,SqL K H1 a xs)/\R (Itl K a) H1)\/((∃xs,SqT K H1 a xs)/\R (Itt K a) H1))->Kq K R x H1
def iSeq(K:Ma)(b:TE):TI:=λe H R=>b e H (Kq K R)
theorem Ja(K:Ma)(z:PE X l B)(D:X.K=K:=by rfl):PI X tg l (iSeq K B):=by
 subst D;intro g s E H R I h;refine thn (z g s E H _ I h) λv f r=>?_;obtain⟨x,t,m,G,J⟩:=r;obtain⟨a,e,q⟩:=J;subst e;cases G;have y:∀b∈[f.heap.objs.size],rO X g t b:=λb L=>by
  have e:b=f.heap.objs.size:=by simpa using L
  subst e;exact m.fpOk (le_refl _) (m.hok.fresh (le_refl _))
 rcases q with ⟨⟨N,u⟩,q⟩ | ⟨⟨N,u⟩,q⟩
 ·obtain⟨n,O,p,Q⟩:=m.list u;refine wpAny_pyIter_list p.isList ?_;exact⟨f.heap.objs.size,[f.heap.objs.size],_,_,t,rfl,m.kept (t':=f.toks) λb o e=>get?_push_of_some _ e,w6 a _,⟨_,get?_push_size _ rfl,rfl,rfl⟩,y,q⟩
 ·obtain⟨n,O,p,Q⟩:=m.tuple u;refine wpAny_pyIter_tuple (show f.heap.IsTuple a n.toArray from p) ?_;exact⟨f.heap.objs.size,[f.heap.objs.size],_,_,t,rfl,m.kept (t':=f.toks) λb o e=>get?_push_of_some _ e,tV a _,⟨_,get?_push_size _ rfl,rfl,rfl⟩,y,q⟩
end
section
variable{X:Cx}{pins:Mb}{σ : List (Option V)}{H H':Hp}{s:Shared}
theorem Inv.thaw(I:Inv X pins σ H' s)(D:H' a=some (.frz o (.dK f)))(G:∀o u,X.H₀ a≠some (.frz o u)):Inv X pins σ (upd H' a (.dK f)) s:=by
 have m:∀{b:Addr},H' b=none->upd H' a (.dK f) b=none:=λ{b} e=>by
  rw[aH (λz=>by rw[z,D]at e;cases e)];exact e
 have t:∀{b:Addr}{u:HO},H' b=some u->(∀o J,u ≠ .frz o J)->upd H' a (.dK f) b=some u:=λ{b u} e n=>by
  rw[aH (λz=>by rw[z,D]at e;cases e;exact n _ _ rfl)];exact e
 refine⟨I.ok,I.os,I.bare,⟨I.base.keep,I.base.slot,λb B q n L=>m (I.base.free b B q n L),I.base.there,λb E e=>t (I.base.tups b E e) (λ_ _ z=>by cases z),λb B u e=>?_,λb N e=>?_⟩,I.loc,I.cell,m I.free,λx c e=>m (I.freeC x c e),λp O=>?_,λb u e=>?_,I.len⟩
 ·rw[aH (λz=>G B u (by rw[<- z];exact e))];exact I.base.frzs b B u e
 ·obtain⟨g,Q⟩:=I.base.tbls b N e;exact⟨g,t Q (λ_ _ z=>by cases z)⟩
 ·obtain⟨R,S,U⟩:=I.pin p O;exact⟨R,m S,U⟩
 ·by_cases y:b=a
  ·subst y;rw[aB]at e;cases e;exact(I.hok b _ D).2
  ·rw[aH y]at e;exact(I.hok b u e).stay (λc v _ r=>r) (λc r=>t r (λ_ _ z=>by cases z)) λc E r=>t r (λ_ _ z=>by cases z)
inductive GP(H:Hp)(Q:VK)(v:V)(H':Hp):Prop
 |mk:∀a o kvs,H' a=some (.frz o (.dK kvs))->(∃kvs0,H a=some (.dK kvs0))->Q v (upd H' a (.dK kvs))->GP H Q v H'
def tThaw(t:TE):TE:=λσ H Q=>t σ H (GP H Q)
theorem Je(h:PE X e t):PE X e (tThaw t):=by
 intro pins s σ H Q I g;refine thn (h pins s σ H _ I g) λu x b=>?_;obtain⟨v,y,m,n,a,o,p,r,⟨B,f⟩,q⟩:=b;exact⟨v,_,m.thaw r (λo u z=>by rw[I.base.frzs a o u z]at f;cases f),n,q⟩
end
end L2
namespace TS
open PySem PyProof.Rows
theorem yI:∀(f n r:Nat),r<=1->minRun' f n r<=n+r
 |0,n,r,_=>Nat.le_of_eq rfl
 |f+1,n,r,h=>by
  rw[minRun'_succ];split
  ·exact le_refl _
  ·have:=yI f (n / 2) (max r (n % 2)) (by omega);omega
section
variable{prog:Program}{w:World}{A:Around}{E:Mm}{s:Shared}{κ : KeyKind}{a₀ : Array Keyed}
theorem Ah(e:κ.OneLt)(f:KeysOf κ a₀){st:SortSt}(B:SB κ a₀ st)(hr:1<=a₀.size)(g:Up κ (arrOf st) 0 a₀.size){Q:Option Nat->SortSt->Prop}(h:Q (some a₀.size) st):wpS (model prog w) A E s (countRun' 0 a₀.size) Q st:=by
 rw[countRun'_eq];dsimp only;refine wpS_bind (wpS_mono (wpS_forRange (I:=λx c b=>b=st/\c=(none,x)) (Q:=λc b=>b=st/\c=(none,a₀.size)) ?step ?fin ⟨rfl,rfl⟩) ?post)
 case fin=>
  rintro c b ⟨rfl,rfl⟩;rw[show max 1 a₀.size=a₀.size by omega];exact⟨rfl,rfl⟩
 case step=>
  rintro x c b m n ⟨rfl,rfl⟩;dsimp only;refine wpS_bind (Iz e f B (by omega) (by omega) λo p ex q=>?_);have:κ.blt o p=false:=g _ _ _ _ (zero_le _) (by omega) (by omega) q ex;rw[this];dsimp only;rw[if_neg (by decide)];exact wpS_pure ⟨rfl,rfl⟩
 case post=>
  rintro c b ⟨rfl,rfl⟩;dsimp only;rw[if_pos (KN rfl)];exact wpS_pure h
theorem z6(n:κ.OneLt)(o:KeysOf κ a₀){st:SortSt}(B:SB κ a₀ st)(m:pendingOf st = #[])(y:2<=a₀.size)(p:Up κ (arrOf st) 0 a₀.size){Q:Unit->SortSt->Prop}
  (h:∀b,arrOf b=arrOf st->failedOf b=none->Q () b):wpS (model prog w) A E s sortRuns' Q st:=by
 rw[sortRuns'_eq];refine wpS_bind (wpS_get ?_);dsimp only;rw[B.size];have g:minRun' a₀.size a₀.size 0<=a₀.size:=yI _ _ _ (by omega);generalize minRun' a₀.size a₀.size 0=D at g;refine wpS_bind (wpS_mono (wpS_forRange (I:=λx c b=>(x=0/\c=(none,0)/\b=st)\/(c=(none,a₀.size)/\arrOf b=arrOf st/\failedOf b=none/\(pendingOf b).size<=1)) (Q:=λc b=>c=(none,a₀.size)/\arrOf b=arrOf st/\failedOf b=none/\(pendingOf b).size<=1) ?step ?fin (.inl ⟨rfl,rfl,rfl⟩)) ?post)
 case fin=>
  rintro c b (⟨z,_⟩ |f)
  ·omega
  ·exact f
 case step=>
  rintro x c b _ q (⟨rfl,rfl,rfl⟩ | ⟨rfl,f⟩)
  ·dsimp only;rw[if_neg (by omega)];refine wpS_bind (Ah n o B (by omega) p ?_);dsimp only;rw[if_neg (by omega)];refine wpS_bind (wpS_get ?_);rw[m];dsimp only[Array.back?];refine wpS_bind (wpS_modify (wpS_pure (.inr ⟨?_,rfl,B.failed,?_⟩)))
   ·rw[Nat.zero_add]
   ·show ((pendingOf b).push _).size<=1;rw[m];exact le_refl _
  ·dsimp only;rw[if_pos (le_refl _)];exact wpS_pure ⟨rfl,f⟩
 case post=>
  rintro c b ⟨rfl,r,t,u⟩;dsimp only;refine wpS_bind (wpS_mono (wpS_forRange (I:=λx c e=>c=(none,())/\e=b) (Q:=λc e=>c=(none,())/\e=b) ?s2 (λ_ _ f=>f) ⟨rfl,rfl⟩) ?p2)
  case s2=>
   rintro x c e _ q ⟨rfl,rfl⟩;refine wpS_bind (wpS_get ?_);rw[if_pos u];exact wpS_pure ⟨rfl,rfl⟩
  case p2=>
   rintro c e ⟨rfl,rfl⟩;exact wpS_pure (h _ r t)
theorem Gc(I:κ.OneLt){a:Addr}{f:Mh}{n:Nat}{P:PySem.Fin->Shared->Prop}(t:s.heap.get? a=some (seqObj "list" f.toArray n))(J:KeysOf κ (pairsOf f))(D:Up κ (pairsOf f) 0 (pairsOf f).size)(x:keyKind' f.toArray=pure oneType')(L:2<=f.length)(G:f.length<=sizeLine)
  (h:∀b:SortSt,(arrOf b).Perm (pairsOf f)->SortedToK κ (arrOf b) (pairsOf f).size->P (.done (.ret .none)) {s with heap:=sortedHeap s.heap a f ((arrOf b).map (·.2))}):wpAny (model prog w) A (Builtin.«list.sort» ⟨[.ref a],[]⟩) P E s:=by
 have H:a<s.heap.objs.size:=lt_size t;have o:f.toArray.size=f.length:=by simp
 rw[list_sort_plain];refine wpAny_bind (listItems_at t rfl (wpAny_bind (listUpdate_at t rfl ?_ (by rw[o];exact G))));have m:=get?_update_seq t (λ_=>#[]);generalize (if ((λ_=>#[]:Array Value->Array Value) f.toArray).size == f.toArray.size then n else n+1)=N at m;refine wpAny_bind (seqEpoch_at m rfl (wpAny_bind (wpAny_newTuple (wpAny_bind (wpAny_newList (wpAny_holding ?_))) (by simpa using G))));generalize p:((s.heap.update a (Obj.mapSeq λ_=>#[])).push (seqObj "tuple" f.toArray 0)).push (seqObj "list" #[] 0)=y;have q:y.get? a=some (seqObj "list" #[] N):=by
  rw[<- p,Heap.get?_push_ne _ _ _ (by rw[size_push',Heap.size_update];exact ne_of_lt (lt_succ_of_lt H)),Heap.get?_push_ne _ _ _ (by rw[Heap.size_update];exact ne_of_lt H)];exact m
 have r:¬f.toArray.size<2:=by rw[o];omega
 show wpAny (model prog w) A _ P E {s with heap:=y};dsimp only;rw[if_neg r,if_neg r,x];refine wpAny_bind (wpAny_pure ?_);have fin:∀b:SortSt,(arrOf b).Perm (pairsOf f)->SortedToK κ (arrOf b) (pairsOf f).size->P (.done (.ret .none)) {s with heap:=y.update a (Obj.mapSeq λ_=>(arrOf b).map (·.2))}:=λb u z=>by
  have:=h b u z;unfold sortedHeap at this;rw[p]at this;exact this
 refine wpAny_bind (wpAny_mono (z6 (κ:=κ) I (a₀:=pairsOf f) (st:=SortSt.mk' oneType' (f.toArray.zip f.toArray) #[] 7 none) (Q:=λ_ b=>(arrOf b).Perm (pairsOf f)/\failedOf b=none/\SR κ (arrOf b) 0 (pairsOf f).size) J ⟨rfl,rfl,Array.Perm.refl _⟩ rfl (by rw[pairsOf_size];exact L) D λb u z=>⟨by rw[u];exact Array.Perm.refl _,z,by rw[u];exact D.sr⟩) ?_ λ_ _ e=>e);rintro ⟨⟨⟩,b⟩ S ⟨rfl,B,O,R⟩;have U:((arrOf b).map (·.2)).size=f.length:=by rw[Array.size_map,B.size_eq,pairsOf_size]
 dsimp only;refine wpAny_bind (seqEpoch_at q rfl (wpAny_bind (listUpdate_at q rfl ?_ (by show 0<=sizeLine;omega) (by show ((arrOf b).map (·.2)).size<=sizeLine+1;omega))));rw[O];simp only[bne_self_eq_false,Bool.false_eq_true,if_false];exact wpAny_pure (fin b B (R.toK (by rw[B.size_eq];exact le_refl _)))
end
theorem Lr(h:IntsAre g b)(p:b.Pairwise (· <= ·)):Up nA (pairsOf g) 0 (pairsOf g).size:=by
 intro i j x y _ q hj ex r;rw[pairsOf_size,h.length]at hj;have f:∀{k:Nat}{z:Int},(n:k<b.length)->kAt nA (pairsOf g) k=some z->z=b[k]:=λ{k z} n e=>by
  obtain⟨t,o⟩:=h.get k b[k] (getElem?_eq_getElem n);have m:(pairsOf g)[k]? = some (Value.int b[k] t,Value.int b[k] t):=by
   unfold pairsOf;rw[Array.getElem?_zip_eq_some];exact⟨by simpa using o,by simpa using o⟩
  unfold kAt at e;rw[m]at e;cases e;rfl
 have s:=f (by omega) ex;have m:=f hj r;rw[s,m];show decide (b[j]<b[i])=false;rw[decide_eq_false_iff_not];by_cases z:i=j
 ·subst z;omega
 ·have:=(List.pairwise_iff_getElem.mp p) i j (by omega) hj (by omega);omega
end TS
namespace L2
open PySem PySem.Spec PyProof.Rows
section
variable{X:Cx}
inductive BN(xs:Mp)(H:Hp)(Q:VK):Prop
 |mk:∀d kvs ns,xs=[.ref d]->H d=some (.dK kvs)->kvs.map (·.1)=ns.map Sum.inl->(ns.length<64\/ns.Pairwise (· <= ·))->ns.length<=100000->(∀p ms,List.Perm ms ns->ms.Pairwise (· <= ·)->H p=none->Q (.ref p) (upd H p (.lst (ms.map .int))))->BN xs H Q
theorem Gd(t:s.heap.get? a=some (seqObj "list" b.toArray n))(e:IntsAre b p)(q:p.length<64\/p.Pairwise (· <= ·))(G:b.length=p.length)(y:b.length<=sizeLine)
  (h:∀(f:Array Value)(g:Mf),IntsAre f.toList g->g.Perm p->g.Pairwise (· <= ·)->P (.done (.ret .none)) {s with heap:=sortedHeap s.heap a b f}):wpAny (model x w) A (Builtin.«list.sort» ⟨[.ref a],[]⟩) P E s:=by
 by_cases r:b.length<64
 ·exact list_sort_tree t e r h
 refine TS.Gc TS.Ls t (TS.Hi e) (TS.Lr e (q.resolve_left (by omega))) (Fk e (by omega)) (by omega) y λz B p2=>?_;obtain⟨g,m,o,D⟩:=sorted_out e B (TS.DC p2);exact h _ g m o D
theorem gM(hc:X.calm=true):gP X (.builtin "sorted") BN:=by
 intro ab s σ H xs us Q I r h;obtain⟨d,O,N,rfl,hd,hk,R,hl,q⟩:=h;have n:N.length<=sizeLine:=le_trans hl (by decide);cases r with
 |cons r1 r2=>
  cases r2;cases (show _=Value.ref d from r1);obtain⟨hz,S,D,E,o,es,ep,dd⟩:=sF I.hok hd;have hh:X.A.in1.handled=none:=I.ok.hd hc;have f:D.length=N.length:=by
   have h1:=E.length;have G:=congrArg List.length hk;rw[length_map,length_map]at G;omega
  have U:D.map (·.1)=N.map Sum.inl:=by rw[<- AT E];exact hk
  refine wpAny_call (codeAny_call_builtin plain_sorted entry_sorted (wpAny_of_eq (oX _) ?_));show wpAny _ _ (checkCount "sorted" 1 1 1 >>= _) _ _ s;refine wpAny_bind (wpAny_of_eq (a:=()) (by rfl) ?_);refine wpAny_bind (kdu_collect (kdl_dict (knd:=bI X.prog X.w) (kvs:=D) (ep:=ep) S) hh ⟨o,es,dd⟩ (by rw[f];exact n) λp V m t J=>?_);have g:m.toList.length=D.length:=by
   have:=J.1;simpa using this
  have y:IntsAre m.toList N:=Fn (prog:=X.prog) (w:=X.w) U g λj v hv=>J.2 j v (by simpa using hv);refine wpAny_bind (wpAny_newList ?_ (by rw[g,f];exact n));generalize z:p.push {cls:=.type "list",data:=.seq m.toList.toArray}=G;have W:G.get? p.objs.size=some (seqObj "list" m.toList.toArray 0):=by
   rw[<- z];exact get?_push_size _ rfl
  refine wpAny_bind (wpAny_holding ?_);refine wpAny_call_entry (T:="list") PyProof.Rows.slot_list_sort ⟨_,W,rfl⟩ PyProof.Rows.entry_list_sort ?_ (PyProof.Rows.args_list_sort _);refine Gd W y R (by rw[g,f]) (by rw[g,f];exact n) λB ms L x pw=>?_;refine⟨_,rfl,wpAny_pure ?_⟩;obtain⟨Y,Z⟩:=sortedHeap_at (h:=G) (a:=p.objs.size) (vs:=m.toList) (out:=B) W;have hf:H p.objs.size=none:=(I.kept (t':=V) t).hok.fresh (le_refl _);refine⟨.ref p.objs.size,upd H p.objs.size (.lst (ms.map .int)),(I.kept (t':=V) t).laid (t':=V) (λb u e=>?_) (le_refl _) ?_,rfl,q _ ms x pw hf⟩
  ·have hb:b<p.objs.size:=lt_size e;have aa:G.objs.size=p.objs.size+1:=by rw[<- z];exact size_push _ _
   rw[sortedHeap_old (ne_of_lt hb) (by rw[aa];exact lt_succ_of_lt hb),<- z];exact get?_push_of_some _ e
  ·refine⟨?_,B.toList,Y,mR L,?_⟩
   ·rw[length_map,x.length_eq];exact n
   ·simpa [seqObj] using Z
end
theorem Fun.okY{P:Program}{w:World}{K:Ma}{mg:Mc}{base:Heap}{x e:Str}{st:Stmt}{f:Addr}{q:Ml}{o:Mg}{k:Nat}{p:Sp}(F:Fun K x e st f q)(N:Mg)
  (m:∀(g:Value)(A:Around)(b:List Env)(s:Shared)(H:Hp)(n:Mp)(Q:VK)(E:XK),Room k (A.deeper (envOfC e (c9 st) s.heap.objs.size f g))->N.Nodup->p n H Q E->
   ∃t,PSs ((Ag (CXE P w) P w K mg base N e (c9 st) f g A b s H E).bod E) (fO st) t/\t (Ends.fn Q) (oO N n) H) (len:∀n H Q E,p n H Q E->n.length=o.length:=by intro _ _ _ _ h;cases h;subst_vars;rfl) (S:FnScope N o (c9 st):=by exact⟨rfl,rfl,rfl,by decide +kernel,rfl,by decide +kernel,by decide +kernel⟩):FnOk P w K mg base (CXE P w) (k+1) f q o p:=F.okX S len λg A b s H n Q E hr h=>m g A b s H n Q E hr S.nd h
end L2
namespace TT
open PySem PySem.W PyProof.Rows
section
variable(key:Nat->Int)(n:Nat)
end
section
variable{key:Nat->Int}{n:Nat}{p:Array Nat}{s:Shared}
variable(hk:∀i j,i<n->j<n->i≠j->key i≠key j)
include hk
end
open Calls in
section
variable{prog:Program}{w:World}{A:Around}{E:Mm}{s:Shared}
end
end TT
namespace L2
open PySem PySem.Spec PySem.W PyProof.Rows
section
variable{X:Cx}
end
end L2
namespace TL
open PySem PyProof.Rows TS
def G{e : Type}(m:SM e)(Q:e->SortSt->Prop)(st:SortSt):Prop:=∃r b,Q r b/\∀(P:Program)(w:World)(A:Around)(E:Mm)(s:Shared)(R:e->SortSt->Prop),R r b->wpS (model P w) A E s m R st
section
variable{α β : Type}{st:SortSt}{κ : KeyKind}{z:Array Keyed}
theorem aV{a:α}{Q:α->SortSt->Prop}(h:Q a st):G (pure a) Q st:=⟨_,_,h,λ_ _ _ _ _ _ z=>wpS_pure z⟩
theorem aR{m:SM α}{f:α->SM β}{Q:β->SortSt->Prop}(h:G m (λa b=>G (f a) Q b) st):G (m >>= f) Q st:=by
 obtain⟨a,n,⟨r,s2,q,e⟩,g⟩:=h;exact⟨r,s2,q,λP w A E s R z=>wpS_bind (g P w A E s _ (e P w A E s R z))⟩
theorem Iu{m:SM α}{Q R:α->SortSt->Prop}(h:G m Q st)(b:∀a s,Q a s->R a s):G m R st:=by
 obtain⟨a,e,q,g⟩:=h;exact⟨a,e,b _ _ q,g⟩
theorem qH{Q:SortSt->SortSt->Prop}(h:Q st st):G get Q st:=⟨_,_,h,λ_ _ _ _ _ _ z=>wpS_get z⟩
theorem wK{f:SortSt->SortSt}{Q:PUnit->SortSt->Prop}(h:Q ⟨⟩ (f st)):G (modify f) Q st:=⟨_,_,h,λ_ _ _ _ _ _ z=>wpS_modify z⟩
theorem G_set{x:SortSt}{Q:PUnit->SortSt->Prop}(h:Q ⟨⟩ x):G (set x) Q st:=⟨_,_,h,λ_ _ _ _ _ _ z=>by unfold wpS;rw[StateT.run_set];exact wpAny_pure ⟨rfl,z⟩⟩
theorem rM{x:String}{Q:PUnit->SortSt->Prop}(h:Q ⟨⟩ st):G (liftM (rule x)) Q st:=⟨_,_,h,λ_ _ _ _ _ _ z=>wpS_lift (wpAny_rule ⟨rfl,z⟩)⟩
theorem Iw{f:Nat->β->SM (ForInStep β)}{I:Nat->β->SortSt->Prop}{R:β->SortSt->Prop}:∀(n a:Nat)(c:β)(st:SortSt),(∀i c st,a<=i->i<a+n->I i c st->G (f i c) (λr e=>match r with | .done b=>R b e | .yield b=>I (i+1) b e) st)->(∀c st,I (a+n) c st->R c st)->I a c st->G (forIn (List.range' a n 1) c f) R st
 |0,a,c,st,_,g,h=>aV (g _ _ h)
 |n+1,a,c,st,o,g,h=>by
  rw[List.range'_succ,List.forIn_cons];refine aR (Iu (o a c st (le_refl _) (by omega) h) λr p m=>?_);cases r with
  |done b=>exact aV m
  |yield b=>exact Iw n (a+1) b p (λi c st m q=>o i c st (by omega) (by omega)) (λc st z=>g c st (by rw[<- show a+1+n=a+(n+1) by omega];exact z)) m
theorem iD{a b:Nat}{c:β}{f:Nat->β->SM (ForInStep β)}{k:β->SM α}{P:α->SortSt->Prop}(I:Nat->β->SortSt->Prop)(R:β->SortSt->Prop)(h:I a c st)(m:∀c st,I (max a b) c st->R c st)(n:∀c st,R c st->G (k c) P st)(o:∀i c st,a<=i->i<b->I i c st->G (f i c) (λr e=>match r with | .done g=>R g e | .yield g=>I (i+1) g e) st):G (forIn [a:b] c f >>= k) P st:=by
 refine aR (Iu (Q:=R) ?_ n);rw[Std.Legacy.Range.forIn_eq_forIn_range'];show G (forIn (List.range' a ([a:b]:Std.Legacy.Range).size 1) c f) R st;have p:([a:b]:Std.Legacy.Range).size=b-a:=by simp [Std.Legacy.Range.size]
 rw[p];exact Iw (I:=I) _ a c st (λi c st q s=>o i c st q (by omega)) (λc st z=>m c st (by rw[show max a b=a+(b-a) by omega];exact z)) h
theorem Kv{F T:Nat->SM α}{Q:α->SortSt->Prop}(h:∀g,G (F g) Q st)(b:∀g,T g=F (g-1))(g:Nat):G (if g > 1 then T g else F g) Q st:=by
 split
 ·rw[b];exact h _
 ·exact h _
theorem jP{m n:Nat}{f g:SM α}{Q:α->SortSt->Prop}(h:m=n->G f Q st)(b:¬m=n->G g Q st):G (if (m == n)=true then f else g) Q st:=by
 by_cases e:m=n
 ·rw[if_pos (by simpa using e)];exact h e
 ·rw[if_neg (by simpa using e)];exact b e
theorem fJ{c:Prop} [Decidable c]{f g:SM α}{Q:α->SortSt->Prop}(h:c->G f Q st)(b:¬c->G g Q st):G (if c then f else g) Q st:=by
 split
 ·exact h ‹_›
 ·exact b ‹_›
def Kp(κ : KeyKind)(z:Array Keyed):Prop:=κ.OneLt/\∀p∈z,Ky κ p
def Al(z b:Array Keyed):Prop:=∀p∈b,p∈z
theorem Iv(hS:Kp κ z){x y:Keyed}{Q:Option Bool->SortSt->Prop}(e:kindOf st=oneType')(f:x∈z)(g:y∈z)(h:∀b,Q (some b) st):G (lt' x y) Q st:=⟨_,_,h _,λ_ _ _ _ _ _ z=>KS hS.1 e (hS.2 _ f) (hS.2 _ g) z⟩
theorem dN{xs:Array Keyed}{i:Nat}{Q:Keyed->SortSt->Prop}(e:Al z xs)(b:i<xs.size)(h:∀p,p∈z->xs[i]? = some p->Q p st):G (elem' xs i) Q st:=⟨_,_,h xs[i] (e _ (Array.getElem_mem b)) (getElem?_pos xs i b),λ_ _ _ _ _ _ z=>zP (getElem?_pos xs i b) z⟩
theorem kF(hS:Kp κ z){left:Bool}{e:Keyed}{arr:Array Keyed}{base n f:Nat}{Q:Option Nat->SortSt->Prop}(q:kindOf st=oneType')(t:e∈z)(y:Al z arr)(D:base+n<=arr.size)(B:f<n)(h:∀k,k<=n->Q (some k) st):G (KD left e arr base n f) Q st:=by
 have ask:∀{i:Nat}{Q:Option Bool->SortSt->Prop},i<n->(∀b,Q (some b) st)->G (bey left e arr base i) Q st:=λo z=>aR (dN y (by omega) λp x _=>by
  cases left
  ·exact aR (Iv hS q t x λb=>aV (z _))
  ·exact Iv hS q x t z)
 have fin:∀u v:Nat,v<=n->G (do
   let mut u:=u; let mut v:=v
   for _ in [0:n] do
    if u ≥ v then break
    let m:=u+(v-u) / 2
    let some r <- bey left e arr base m | return none
    if r then u:=m+1 else v:=m
   return some v) Q st:=λu v g=>by
  refine iD (λ_ c s=>s=st/\∃u v,c=(none,u,v)/\v<=n) (λc s=>s=st/\∃u v,c=(none,u,v)/\v<=n) ⟨rfl,_,_,rfl,g⟩ (λ_ _ z=>z) ?_ ?_
  ·rintro _ _ ⟨rfl,u,v,rfl,g⟩;exact aV (h v g)
  ·rintro i _ _ _ o ⟨rfl,u,v,rfl,g⟩;dsimp only;split
   ·exact aV ⟨rfl,_,_,rfl,g⟩
   ·refine aR (ask (by omega) λb=>?_);cases b
    ·exact aV ⟨rfl,_,_,rfl,by omega⟩
    ·exact aV ⟨rfl,_,_,rfl,g⟩
 refine aR (ask B λb=>?_);cases b
 ·refine iD (λ_ c s=>s=st/\∃l r,c=(none,l,r)) (λc s=>s=st/\∃l r,c=(none,l,r)) ⟨rfl,_,_,rfl⟩ (λ_ _ z=>z) ?_ ?_
  ·rintro _ _ ⟨rfl,l,r,rfl⟩;exact fin _ _ (by omega)
  ·rintro i _ _ _ o ⟨rfl,l,r,rfl⟩;dsimp only;split
   ·exact aV ⟨rfl,_,_,rfl⟩
   ·refine aR (ask (by omega) λb=>?_);cases b <;> exact aV ⟨rfl,_,_,rfl⟩
 ·refine iD (λ_ c s=>s=st/\∃l r,c=(none,l,r)) (λc s=>s=st/\∃l r,c=(none,l,r)) ⟨rfl,_,_,rfl⟩ (λ_ _ z=>z) ?_ ?_
  ·rintro _ _ ⟨rfl,l,r,rfl⟩;exact fin _ _ (by omega)
  ·rintro i _ _ _ o ⟨rfl,l,r,rfl⟩;dsimp only;split
   ·exact aV ⟨rfl,_,_,rfl⟩
   ·refine aR (ask (by omega) λb=>?_);cases b <;> exact aV ⟨rfl,_,_,rfl⟩
theorem Al.ext{a:Array Keyed}{i j:Nat}(h:Al z a):Al z (a.extract i j):=λp b=>h p (by
 obtain⟨k,f,e⟩:=Array.mem_iff_getElem.mp b;rw[Array.getElem_extract]at e;rw[<- e];exact Array.getElem_mem _)
structure Ok(z:Array Keyed)(pd:Array (Nat×Nat×Nat))(st:SortSt):Prop where
 kind:kindOf st=oneType'
 failed:failedOf st=none
 perm:(arrOf st).Perm z
 pend:pendingOf st=pd
theorem Ok.al{b:Array (Nat×Nat×Nat)}(k:Ok z b st):Al z (arrOf st):=λp e=>k.perm.mem_iff.mp e
theorem Ok.sz{b:Array (Nat×Nat×Nat)}(k:Ok z b st):(arrOf st).size=z.size:=k.perm.size_eq
variable{pd:Array (Nat×Nat×Nat)}
def W(a b o:Array Keyed)(i j:Nat):Prop:=(o.toList++(a.toList.drop i++b.toList.drop j)).Perm (a.toList++b.toList)
def V(a b o:Array Keyed)(i j:Nat):Prop:=(a.toList.take i++(b.toList.take j++o.toList.reverse)).Perm (a.toList++b.toList)
section
variable{a b o:Array Keyed}{i j k:Nat}{p:Keyed}
theorem W.pa(m:W a b o i j)(e:a[i]? = some p):W a b (o.push p) (i+1) j:=by
 unfold W at *;rw[yW e]at m;simpa using m
theorem W.pb(m:W a b o i j)(e:b[j]? = some p):W a b (o.push p) i (j+1):=by
 unfold W at *;rw[yW e]at m;rw[toList_push,append_assoc];exact(List.Perm.append_left _ (List.perm_middle (a:=p) (l₁:=a.toList.drop i)).symm).trans m
theorem B7(a:Array Keyed)(i k:Nat):a.toList.drop i=(a.extract i (i+k)).toList++a.toList.drop (i+k):=by
 rw[toList_extract,extract_eq_take_drop,Nat.add_sub_cancel_left,<- List.drop_drop,take_append_drop]
theorem W.xa(m:W a b o i j):W a b (o++a.extract i (i+k)) (i+k) j:=by
 unfold W at *;rw[B7 a i k]at m;rw[toList_append,append_assoc];rw[append_assoc]at m;exact m
theorem W.xb(m:W a b o i j):W a b (o++b.extract j (j+k)) i (j+k):=by
 unfold W at *;rw[B7 b j k]at m;rw[toList_append,append_assoc];exact(List.Perm.append_left _ (List.perm_append_comm_assoc _ _ _)).trans m
theorem tJ(a:Array Keyed)(i:Nat):(a.extract i).toList=a.toList.drop i:=by
 rw[toList_extract,extract_eq_take_drop,List.take_of_length_le (by rw[List.length_drop];exact le_refl _)]
theorem W.fa(m:W a b o i j):(o++a.extract i++b.extract j).toList.Perm (a.toList++b.toList):=by
 rw[toList_append,toList_append,tJ,tJ,append_assoc];exact m
theorem W.fb(m:W a b o i j):(o++b.extract j++a.extract i).toList.Perm (a.toList++b.toList):=by
 rw[toList_append,toList_append,tJ,tJ,append_assoc];exact(List.Perm.append_left _ List.perm_append_comm).trans m
theorem xA{a:Array Keyed}(f:0<i)(e:a[i-1]? = some p):a.toList.take i=a.toList.take (i-1)++[p]:=by
 have:=Ey e;rw[Nat.sub_add_cancel f]at this;exact this
theorem V.pa(m:V a b o i j)(f:0<i)(e:a[i-1]? = some p):V a b (o.push p) (i-1) j:=by
 unfold V at *;rw[xA f e,append_assoc]at m;rw[toList_push,List.reverse_append];exact(List.Perm.append_left _ List.perm_middle).trans m
theorem V.pb(m:V a b o i j)(hj:0<j)(e:b[j-1]? = some p):V a b (o.push p) i (j-1):=by
 unfold V at *;rw[xA hj e,append_assoc]at m;rw[toList_push,List.reverse_append];exact m
theorem Av(a:Array Keyed)(h:k<=i):a.toList.take i=a.toList.take k++(a.extract k i).toList:=by
 rw[toList_extract,extract_eq_take_drop,<- List.take_add,Nat.add_sub_cancel' h]
theorem V.xa(m:V a b o i j)(h:k<=i):V a b (o++(a.extract k i).reverse) k j:=by
 unfold V at *;rw[Av a h,append_assoc]at m;rw[toList_append,List.reverse_append,Array.toList_reverse,List.reverse_reverse];exact(List.Perm.append_left _ (List.perm_append_comm_assoc _ _ _)).trans m
theorem V.xb(m:V a b o i j)(h:k<=j):V a b (o++(b.extract k j).reverse) i k:=by
 unfold V at *;rw[Av b h,append_assoc]at m;rw[toList_append,List.reverse_append,Array.toList_reverse,List.reverse_reverse];exact m
theorem tK(a:Array Keyed)(i:Nat):(a.extract 0 i).toList=a.toList.take i:=by
 rw[toList_extract,extract_eq_take_drop];rfl
theorem V.fa(m:V a b o i j):(a.extract 0 i++b.extract 0 j++o.reverse).toList.Perm (a.toList++b.toList):=by
 rw[toList_append,toList_append,tK,tK,Array.toList_reverse,append_assoc];exact m
theorem V.fb(m:V a b o i j):(b.extract 0 j++a.extract 0 i++o.reverse).toList.Perm (a.toList++b.toList):=by
 rw[toList_append,toList_append,tK,tK,Array.toList_reverse,append_assoc];exact(List.perm_append_comm_assoc _ _ _).trans m
end
theorem Ap{g:Nat}{s:SortSt}{Q:Unit->SortSt->Prop}(k:fB s st)(h:∀b,fB s b->Q () b):G (setG g) Q st:=wK (h _ k)
theorem Fc(hS:Kp κ z){a b:Array Keyed}(H:Al z a)(E:Al z b)(a0:0<a.size)(V:0<b.size)(R:kindOf st=oneType'){Q:Array Keyed->SortSt->Prop}(h:∀r I,fB st I->r.toList.Perm (a.toList++b.toList)->Q r I):G (Ho a b) Q st:=by
 refine aR (rM (aR (dN E V λp hp X=>?_)));have S:W a b #[p] 0 1:=W.pb (o:=#[]) (List.Perm.refl _) X;refine jP (λ_=>aV (h _ _ (fB.refl _) (S.fa))) λh1=>jP (λ_=>aV (h _ _ (fB.refl _) (S.fb))) λh2=>aR (qH ?_);refine iD (λx c s=>fB st s/\∃o i j g,c=(none,o,i,j,g)/\W a b o i j/\i+1<a.size/\j<b.size/\x<=i+j) (λc s=>fB st s/\∃r o,c=(some r,o)/\r.toList.Perm (a.toList++b.toList)) ⟨fB.refl _,_,_,_,_,rfl,S,by omega,by omega,by omega⟩ ?_ ?_ ?_
 ·rintro _ _ ⟨_,o,i,j,g,_,_,f,e,n⟩;omega
 ·rintro _ _ ⟨k,r,o,rfl,g⟩;exact aV (h _ _ k g)
 rintro x _ _ _ hx ⟨k,o,i,j,g,rfl,m,f,e,n⟩;refine iD (λy c s=>fB st s/\∃o i j p q,c=(none,o,i,j,p,q)/\W a b o i j/\i+1<a.size/\j<b.size/\x+y<=i+j) (λc s=>fB st s/\((∃r o,c=(some r,o)/\r.toList.Perm (a.toList++b.toList))\/∃o i j p q,c=(none,o,i,j,p,q)/\W a b o i j/\i+1<a.size/\j<b.size/\x+1<=i+j)) ⟨k,_,_,_,_,_,rfl,m,f,e,by omega⟩ ?_ ?_ ?_
 ·rintro _ _ ⟨k,o,i,j,p,q,rfl,m,f,e,n⟩;exact⟨k,.inr ⟨_,_,_,_,_,rfl,m,f,e,by omega⟩⟩
 ·rintro _ _ ⟨k,⟨r,o,rfl,g⟩ | ⟨o,i,j,p,q,rfl,m,f,e,n⟩⟩
  ·exact aV ⟨k,_,_,rfl,g⟩
  refine aR (rM ?_);refine iD (λy c s=>fB st s/\∃o i j g p q,c=(none,o,i,j,g,p,q)/\W a b o i j/\i+1<a.size/\j<b.size/\x+1<=i+j) (λc s=>fB st s/\((∃r o,c=(some r,o)/\r.toList.Perm (a.toList++b.toList))\/∃o i j g p q,c=(none,o,i,j,g,p,q)/\W a b o i j/\i+1<a.size/\j<b.size/\x+1<=i+j)) ⟨k,_,_,_,_,_,_,rfl,m,f,e,n⟩ (λ_ _ ⟨k,z⟩=>⟨k,.inr z⟩) ?_ ?_
  ·rintro _ _ ⟨k,⟨r,o,rfl,g⟩ | ⟨o,i,j,g,p,q,rfl,m,f,e,n⟩⟩
   ·exact aV ⟨k,_,_,rfl,g⟩
   exact aR (Ap k λ_ k=>aV ⟨k,_,_,_,_,rfl,m,f,e,n⟩)
  rintro y _ _ _ Y ⟨k,o,i,j,g,p,q,rfl,m,f,e,n⟩;dsimp only;revert g;refine Kv (λg=>?_) (λ_=>rfl);refine aR (Ap k λ_ k=>aR (dN E e λN u J=>aR (kF hS (k.1.trans R) u H (by omega) (by omega) λt ht=>?_)));dsimp only;refine fJ (λ_=>jP (λ_=>aV ⟨k,.inl ⟨_,_,rfl,(m.xa (k:=t)).fb⟩⟩) λO=>jP (λ_=>aV ⟨k,.inl ⟨_,_,rfl,(m.xa (k:=t)).fa⟩⟩) λh7=>?_) λ_=>?_
  all_goals try
   have f:0<t/\i+t+1<a.size:=by omega
   replace f:=f.2;have m:=m.xa (k:=t);have n:x+1<=i+t+j:=by omega
   generalize o++a.extract i (i+t)=o at m⊢;generalize i+t=i at m f n⊢
  all_goals
   refine aR (dN E e λN u J=>?_);have m:=m.pb J;refine jP (λ_=>aV ⟨k,.inl ⟨_,_,rfl,m.fa⟩⟩) λh8=>?_;have e:j+1<b.size:=by omega
   have n:x+1<=i+(j+1):=by omega
   generalize o.push N=o at m⊢;generalize j+1=j at m e n⊢;refine aR (dN H (by omega) λU B L=>aR (kF hS (k.1.trans R) B E (by omega) (by omega) λD Z=>?_));dsimp only;refine fJ (λ_=>jP (λ_=>aV ⟨k,.inl ⟨_,_,rfl,(m.xb (k:=D)).fa⟩⟩) λO=>?_) λ_=>?_
   all_goals try
    have e:0<D/\j+D<b.size:=by omega
    replace e:=e.2;have m:=m.xb (k:=D);have n:x+1<=i+(j+D):=by omega
    generalize o++b.extract j (j+D)=o at m⊢;generalize j+D=j at m e n⊢
   all_goals
    refine aR (dN H (Nat.lt_of_succ_lt f) λU B L=>?_);have m:=m.pa L;exact jP (λ_=>aV ⟨k,.inl ⟨_,_,rfl,m.fb⟩⟩) λO=>fJ (λ_=>aV ⟨k,.inr ⟨_,_,_,_,_,_,rfl,m,Nat.lt_of_le_of_ne f O,e,Nat.le_trans n (Nat.add_le_add_right (Nat.le_succ _) _)⟩⟩) λ_=>aV ⟨k,_,_,_,_,_,_,rfl,m,Nat.lt_of_le_of_ne f O,e,Nat.le_trans n (Nat.add_le_add_right (Nat.le_succ _) _)⟩
 ·rintro y _ _ _ Y ⟨k,o,i,j,p,q,rfl,m,f,e,n⟩;dsimp only;refine aR (dN E e λN u J=>aR (dN H (by omega) λU B L=>aR (Iv hS (k.1.trans R) u B λr=>?_)));cases r
  ·refine aR (dN H (by omega) λU B L=>?_);have m:=m.pa L;exact jP (λ_=>aV ⟨k,.inl ⟨_,_,rfl,m.fb⟩⟩) λO=>fJ (λ_=>aV ⟨k,.inr ⟨_,_,_,_,_,rfl,m,by omega,e,by omega⟩⟩) λ_=>aV ⟨k,_,_,_,_,_,rfl,m,by omega,e,by omega⟩
  ·refine aR (dN E e λN u J=>?_);have m:=m.pb J;exact jP (λ_=>aV ⟨k,.inl ⟨_,_,rfl,m.fa⟩⟩) λO=>fJ (λ_=>aV ⟨k,.inr ⟨_,_,_,_,_,rfl,m,f,by omega,by omega⟩⟩) λ_=>aV ⟨k,_,_,_,_,_,rfl,m,f,by omega,by omega⟩
theorem Fd(hS:Kp κ z){a b:Array Keyed}(E:Al z a)(I:Al z b)(X:0<a.size)(b0:0<b.size)(S:kindOf st=oneType'){Q:Array Keyed->SortSt->Prop}(h:∀r J,fB st J->r.toList.Perm (a.toList++b.toList)->Q r J):G (Hq a b) Q st:=by
 refine aR (rM (aR (dN E (Nat.sub_lt X Nat.one_pos) λp hp Z=>?_)));have U:V a b #[p] (a.size-1) b.size:=V.pa (o:=#[]) (by unfold V;rw[<- length_toList,<- length_toList,take_length,take_length];simp) X Z;refine jP (λ_=>aV (h _ _ (fB.refl _) (U.fa))) λh1=>jP (λ_=>aV (h _ _ (fB.refl _) (U.fb))) λh2=>aR (qH ?_);refine iD (λx c s=>fB st s/\∃i j o g,c=(none,i,j,o,g)/\V a b o i j/\(0<i/\i<=a.size)/\(1<j/\j<=b.size)/\x+i+j<=a.size+b.size) (λc s=>fB st s/\∃r o,c=(some r,o)/\r.toList.Perm (a.toList++b.toList)) ⟨fB.refl _,_,_,_,_,rfl,U,by omega,by omega,by omega⟩ ?_ ?_ ?_
 ·rintro _ _ ⟨_,i,j,o,g,_,_,f,e,n⟩;omega
 ·rintro _ _ ⟨k,r,o,rfl,g⟩;exact aV (h _ _ k g)
 rintro x _ _ _ hx ⟨k,i,j,o,g,rfl,m,f,e,n⟩;refine iD (λy c s=>fB st s/\∃i j o p q,c=(none,i,j,o,p,q)/\V a b o i j/\(0<i/\i<=a.size)/\(1<j/\j<=b.size)/\x+y+i+j<=a.size+b.size) (λc s=>fB st s/\((∃r o,c=(some r,o)/\r.toList.Perm (a.toList++b.toList))\/∃i j o p q,c=(none,i,j,o,p,q)/\V a b o i j/\(0<i/\i<=a.size)/\(1<j/\j<=b.size)/\x+1+i+j<=a.size+b.size)) ⟨k,_,_,_,_,_,rfl,m,f,e,by omega⟩ ?_ ?_ ?_
 ·rintro _ _ ⟨k,i,j,o,p,q,rfl,m,f,e,n⟩;exact⟨k,.inr ⟨_,_,_,_,_,rfl,m,f,e,by omega⟩⟩
 ·rintro _ _ ⟨k,⟨r,o,rfl,g⟩ | ⟨i,j,o,p,q,rfl,m,f,e,n⟩⟩
  ·exact aV ⟨k,_,_,rfl,g⟩
  refine aR (rM ?_);refine iD (λy c s=>fB st s/\∃i j o g p q,c=(none,i,j,o,g,p,q)/\V a b o i j/\(0<i/\i<=a.size)/\(1<j/\j<=b.size)/\x+1+i+j<=a.size+b.size) (λc s=>fB st s/\((∃r o,c=(some r,o)/\r.toList.Perm (a.toList++b.toList))\/∃i j o g p q,c=(none,i,j,o,g,p,q)/\V a b o i j/\(0<i/\i<=a.size)/\(1<j/\j<=b.size)/\x+1+i+j<=a.size+b.size)) ⟨k,_,_,_,_,_,_,rfl,m,f,e,n⟩ (λ_ _ ⟨k,z⟩=>⟨k,.inr z⟩) ?_ ?_
  ·rintro _ _ ⟨k,⟨r,o,rfl,g⟩ | ⟨i,j,o,g,p,q,rfl,m,f,e,n⟩⟩
   ·exact aV ⟨k,_,_,rfl,g⟩
   exact aR (Ap k λ_ k=>aV ⟨k,_,_,_,_,rfl,m,f,e,n⟩)
  rintro y _ _ _ hy ⟨k,i,j,o,g,p,q,rfl,m,f,e,n⟩;dsimp only;revert g;refine Kv (λg=>?_) (λ_=>rfl);refine aR (Ap k λ_ k=>aR (dN I (by omega) λO u L=>aR (kF hS (k.1.trans S) u E (by omega) (by omega) λt Y=>?_)));dsimp only;refine fJ (λ_=>jP (λ_=>aV ⟨k,.inl ⟨_,_,rfl,(m.xa Y).fa⟩⟩) λR=>?_) λ_=>?_
  all_goals try
   have f:0<i-t/\0<t/\t<=a.size:=by omega
   have m:=m.xa Y;have n:x+1+t+j<=a.size+b.size:=by omega
   replace f:=f.2;generalize o++(a.extract t i).reverse=o at m⊢;generalize t=i at m f n⊢
  all_goals
   refine aR (dN I (by omega) λO u L=>?_);have m:=m.pb (by omega) L;refine jP (λ_=>aV ⟨k,.inl ⟨_,_,rfl,m.fb⟩⟩) λh8=>?_;have e:1<j-1/\j-1<=b.size:=by omega
   have n:x+1+i+(j-1)<=a.size+b.size:=by omega
   generalize o.push O=o at m⊢;generalize j-1=j at m e n⊢;refine aR (dN E (by omega) λW B N=>aR (kF hS (k.1.trans S) B I (by omega) (by omega) λH D=>?_));dsimp only;refine fJ (λ_=>jP (λ_=>aV ⟨k,.inl ⟨_,_,rfl,(m.xb D).fb⟩⟩) λR=>jP (λ_=>aV ⟨k,.inl ⟨_,_,rfl,(m.xb D).fa⟩⟩) λh7=>?_) λ_=>?_
   all_goals try
    have e:0<j-H/\1<H/\H<=b.size:=by omega
    have m:=m.xb D;have n:x+1+i+H<=a.size+b.size:=by omega
    replace e:=e.2;generalize o++(b.extract H j).reverse=o at m⊢;generalize H=j at m e n⊢
   all_goals
    refine aR (dN E (by omega) λW B N=>?_);have m:=m.pa (by omega) N;exact jP (λ_=>aV ⟨k,.inl ⟨_,_,rfl,m.fa⟩⟩) λR=>fJ (λ_=>aV ⟨k,.inr ⟨_,_,_,_,_,_,rfl,m,by omega,e,by omega⟩⟩) λ_=>aV ⟨k,_,_,_,_,_,_,rfl,m,by omega,e,by omega⟩
 ·rintro y _ _ _ hy ⟨k,i,j,o,p,q,rfl,m,f,e,n⟩;dsimp only;refine aR (dN I (by omega) λO u L=>aR (dN E (by omega) λW B N=>aR (Iv hS (k.1.trans S) u B λr=>?_)));cases r
  ·refine aR (dN I (by omega) λO u L=>?_);have m:=m.pb (by omega) L;exact jP (λ_=>aV ⟨k,.inl ⟨_,_,rfl,m.fb⟩⟩) λR=>fJ (λ_=>aV ⟨k,.inr ⟨_,_,_,_,_,rfl,m,f,by omega,by omega⟩⟩) λ_=>aV ⟨k,_,_,_,_,_,rfl,m,f,by omega,by omega⟩
  ·refine aR (dN E (by omega) λW B N=>?_);have m:=m.pa (by omega) N;exact jP (λ_=>aV ⟨k,.inl ⟨_,_,rfl,m.fa⟩⟩) λR=>fJ (λ_=>aV ⟨k,.inr ⟨_,_,_,_,_,rfl,m,by omega,e,by omega⟩⟩) λ_=>aV ⟨k,_,_,_,_,_,rfl,m,by omega,e,by omega⟩
theorem Ok.to{b:Array Keyed}(k:Ok z pd st)(e:b.Perm (arrOf st)):Ok z pd (setArr st b):=⟨k.kind,k.failed,e.trans k.perm,k.pend⟩
theorem Er{i j:Nat}{Q:Unit->SortSt->Prop}(k:Ok z pd st)(h:∀s,Ok z pd s->Q () s):G (reverseSlice' i j) Q st:=by
 rw[reverseSlice'_eq];exact wK (h _ (k.to (mirror_perm _ _ _ _)))
theorem MV{i j:Nat}{Q:Unit->SortSt->Prop}(k:Ok z pd st)(h:∀s,Ok z pd s->Q () s):G (moveDown' i j) Q st:=by
 rw[moveDown'_eq];exact wK (h _ (k.to (bubble_perm _ _ _)))
theorem wL(hS:Kp κ z){i j:Nat}{Q:Option Bool->SortSt->Prop}(k:Ok z pd st)(e:i<z.size)(hj:j<z.size)(h:∀b,Q (some b) st):G (ltAt' i j) Q st:=by
 rw[ltAt'_eq];exact aR (qH (aR (dN k.al (by rw[k.sz];exact e) λx f _=>aR (dN k.al (by rw[k.sz];exact hj) λy g _=>Iv hS k.kind f g h))))
theorem Ku(hS:Kp κ z){lo a n:Nat}(p:1<=a)(o:a<=n)(q:lo+n<=z.size){Q:Option Nat->SortSt->Prop}(k:Ok z pd st){f:Option (Option Nat)×Nat->SM (Option Nat)}(h:∀m,1<=m->m<=n->G (f (none,m)) Q st):G (forIn [a:n] (none,a) (λ_ c=>do
   let some y <- ltAt' (lo+c.2) (lo+c.2-1) | return .done (some none,c.2)
   if y then return .done (none,c.2) else return .yield (none,c.2+1)) >>= f) Q st:=by
 refine iD (λx c s=>s=st/\c=(none,x)) (λc s=>s=st/\∃m,c=(none,m)/\1<=m/\m<=n) ⟨rfl,rfl⟩ ?_ ?_ ?_
 ·rintro _ _ ⟨rfl,rfl⟩;exact⟨rfl,_,rfl,by omega,by omega⟩
 ·rintro _ _ ⟨rfl,m,rfl,e,g⟩;exact h m e g
 ·rintro x _ _ e g ⟨rfl,rfl⟩;refine aR (wL hS k (by omega) (by omega) λb=>?_);cases b
  ·exact aV ⟨rfl,rfl⟩
  ·exact aV ⟨rfl,x,rfl,by omega,by omega⟩
theorem DV(hS:Kp κ z){lo n:Nat}(hr:1<=n)(o:lo+n<=z.size)(k:Ok z pd st){Q:Option Nat->SortSt->Prop}(h:∀m s,Ok z pd s->1<=m->m<=n->Q (some m) s):G (countRun' lo n) Q st:=by
 rw[countRun'_eq];refine Ku hS (le_refl 1) hr o k λm p q=>jP (λ_=>aV (h m _ k p q)) λf=>?_;refine fJ (λ_=>aR (wL hS k (by omega) (by dsimp only;omega) λb=>fJ (λ_=>aV (h m _ k p q)) λ_=>aR (Er k λs k=>?_))) λ_=>?_
 all_goals
  refine aR (rM ?_);dsimp only at *;refine iD (λx c s=>Ok z pd s/\∃e,c=(none,x,e)) (λc s=>Ok z pd s/\∃x e,c=(none,x,e)/\1<=x/\x<=n) ⟨k,_,rfl⟩ ?_ ?_ ?_
  ·rintro _ _ ⟨k,e,rfl⟩;exact⟨k,_,_,rfl,by omega,by omega⟩
  ·rintro _ _ ⟨k,x,e,rfl,f,g⟩;refine fJ (λ_=>aR (Er k λs k=>?_)) λ_=>?_
   all_goals exact aR (Er k λs k=>Ku hS f g o k λm f g=>aV (h m s k f g))
  ·rintro x _ _ f g ⟨k,e,rfl⟩;dsimp only;refine aR (wL hS k (by omega) (by omega) λb=>?_);cases b
   ·refine aR (wL hS k (by omega) (by omega) λb=>?_);cases b
    ·exact aV ⟨k,_,rfl⟩
    ·exact aV ⟨k,_,_,rfl,by omega,by omega⟩
   ·exact fJ (λ_=>fJ (λ_=>aR (Er k λs k=>aV ⟨k,_,rfl⟩)) λ_=>aV ⟨k,_,rfl⟩) λz=>absurd rfl z
theorem Ig(hS:Kp κ z){lo n ok:Nat}(m:lo+n<=z.size)(k:Ok z pd st){Q:Bool->SortSt->Prop}(h:∀s,Ok z pd s->Q true s):G (binarySort' lo n ok) Q st:=by
 rw[binarySort'_eq];refine iD (λ_ c s=>c=(none,())/\Ok z pd s) (λc s=>c=(none,())/\Ok z pd s) ⟨rfl,k⟩ (λ_ _ z=>z) ?_ ?_
 ·rintro _ _ ⟨rfl,k⟩;exact aV (h _ k)
 rintro x _ _ o p ⟨rfl,k⟩;refine iD (λ_ c s=>Ok z pd s/\∃l r,c=(none,l,r)/\r<=x) (λc s=>Ok z pd s/\∃l r,c=(none,l,r)) ⟨k,_,_,rfl,le_refl _⟩ (λ_ _ ⟨k,l,r,e,_⟩=>⟨k,l,r,e⟩) ?_ ?_
 ·rintro _ _ ⟨k,l,r,rfl⟩;exact aR (MV k λs k=>aV ⟨rfl,k⟩)
 rintro y _ _ q t ⟨k,l,r,rfl,f⟩;refine fJ (λ_=>aV ⟨k,_,_,rfl⟩) λg=>?_;dsimp only at g;refine aR (wL hS k (by omega) (by dsimp only;omega) λb=>?_);cases b
 ·exact aV ⟨k,_,_,rfl,f⟩
 ·exact aV ⟨k,_,_,rfl,by dsimp only;omega⟩
def Ch(lo:Nat)(l:List (Nat×Nat×Nat)):Prop:=l.Pairwise (λr t=>r.1+r.2.1<=t.1)/\∀r∈l,0<r.2.1/\r.1+r.2.1<=lo
theorem yJ(hS:Kp κ z){i lo:Nat}(Z:i+1<pd.size)(k:Ok z pd st)(c:Ch lo pd.toList)(aa:lo<=z.size){Q:Bool->SortSt->Prop}(h:∀pd s,Ok z pd s->Ch lo pd.toList->Q true s):G (mergeAt' i) Q st:=by
 have hl:i+1<pd.toList.length:=Z;have e:pd.toList=pd.toList.take i++pd.toList[i]::pd.toList[i+1]::pd.toList.drop (i+2):=by
  rw[<- drop_eq_getElem_cons hl,<- drop_eq_getElem_cons (show i<_ by omega),take_append_drop]
 have H:pd[i]? = some pd.toList[i]:=by rw[<- getElem?_toList,getElem?_eq_getElem]
 have I:pd[i+1]? = some pd.toList[i+1]:=by rw[<- getElem?_toList,getElem?_eq_getElem]
 have f:∀x,((pd.setIfInBounds i x).eraseIdxIfInBounds (i+1)).toList=pd.toList.take i++x::pd.toList.drop (i+2):=λx=>by
  rw[Array.toList_eraseIdxIfInBounds,Array.toList_setIfInBounds,List.eraseIdx_eq_take_drop_succ,List.drop_set_of_lt (by omega),List.take_add_one,List.take_set_of_le (le_refl _),List.getElem?_set_self (by omega),append_assoc];rfl
 generalize pd.toList[i]=r1 at e H;generalize pd.toList[i+1]=r2 at e I;generalize pd.toList.take i=l1 at e f;generalize pd.toList.drop (i+2)=l2 at e f;obtain⟨u,n,D⟩:=r1;obtain⟨v,m,p2⟩:=r2;have N:=c;rw[e]at N;obtain⟨O,B⟩:=N;simp only[List.pairwise_append,List.pairwise_cons,mem_cons,mem_append]at O B;obtain⟨c3,⟨c4,c5,c6⟩,R⟩:=O;have S:=B (u,n,D) (.inr (.inl rfl));have d2:=B (v,m,p2) (.inr (.inr (.inl rfl)));have d3:=c4 (v,m,p2) (.inl rfl);dsimp only at S d2 d3;have E:Ch lo ((pd.setIfInBounds i (u,n+m,D)).eraseIdxIfInBounds (i+1)).toList:=by
  rw[f];refine⟨?_,?_⟩
  ·simp only[List.pairwise_append,List.pairwise_cons,mem_cons];refine⟨c3,⟨λt U=>?_,c6⟩,λa V b J=>?_⟩
   ·have:=c5 t U;show u+(n+m)<=t.1;omega
   ·rcases J with rfl |J
    ·exact R a V (u,n,D) (.inl rfl)
    ·exact R a V b (.inr (.inr J))
  ·intro r hr;rcases mem_append.mp hr with z |z
   ·exact B r (.inl z)
   rcases mem_cons.mp z with rfl |z
   ·dsimp only;omega
   ·exact B r (.inr (.inr (.inr z)))
 rw[<- k.pend]at H I E;refine aR (qH ?_)
 erw [H,I]
 refine aR (G_set ?_);have g:Ok z _ (setPending st (((pendingOf st).setIfInBounds i (u,n+m,D)).eraseIdxIfInBounds (i+1))):=⟨k.kind,k.failed,k.perm,rfl⟩;have o:=k.al;have sz:=k.sz;refine aR (dN (xs:=arrOf st) o (show v<_ by omega) λx hx _=>aR (kF hS (arr:=arrOf st) g.kind hx o (by omega) S.1 λt U=>?_));refine jP (λ_=>aV (h _ _ g E)) λh1=>aR (dN (xs:=arrOf st) o (show u+t+(n-t)-1<_ by omega) λy hy _=>aR (kF hS (arr:=arrOf st) g.kind hy o (show v+m<=_ by omega) (by omega) λW ab=>?_));refine jP (λ_=>aV (h _ _ g E)) λh2=>?_;have z1:0<((arrOf st).extract (u+t) v).size:=by rw[Array.size_extract];omega
 have X:0<((arrOf st).extract v (v+W)).size:=by rw[Array.size_extract];omega
 refine fJ (λ_=>aR (Fc hS o.ext o.ext z1 X g.kind λr s q hr=>?_)) λ_=>aR (Fd hS o.ext o.ext z1 X g.kind λr s q hr=>?_)
 all_goals
  have Y:Ok z _ (setArr s ((r.toList.zipIdx 0).foldl (λa(p,j)=>a.setIfInBounds (u+t+j) p) (arrOf s))):=⟨q.1.trans g.kind,q.2.2.2.trans g.failed,(G9 (v:=v) (m:=W) (by omega) (by rw[q.2.1];show _<=(arrOf st).size;omega) (by rw[q.2.1];exact hr)).1.trans (by rw[q.2.1];exact k.perm),q.2.2.1⟩;refine aR (wK (aR (qH ?_)));have:=h _ _ Y E;refine aV ?_;rw[<- show (failedOf (setArr s ((r.toList.zipIdx 0).foldl (λa(p,j)=>a.setIfInBounds (u+t+j) p) (arrOf s)))).isNone=true by rw[Y.failed];rfl]at this;exact this
theorem Ch.push{lo n:Nat}{l:List (Nat×Nat×Nat)}(c:Ch lo l)(e:0<n):Ch (lo+n) (l++[(lo,n,0)]):=by
 refine⟨List.pairwise_append.mpr ⟨c.1,List.pairwise_singleton _ _,λa f b g=>by rw[mem_singleton.mp g];exact(c.2 a f).2⟩,λr hr=>?_⟩;rcases mem_append.mp hr with z |z
 ·have:=c.2 r z;omega
 ·rw[mem_singleton.mp z];exact⟨e,le_refl _⟩
theorem Ch.congr{lo:Nat}{l b:List (Nat×Nat×Nat)}(c:Ch lo l)(e:b.map (λr=>(r.1,r.2.1))=l.map (λr=>(r.1,r.2.1))):Ch lo b:=by
 have h:∀l:List (Nat×Nat×Nat),Ch lo l ↔ (l.map (λr=>(r.1,r.2.1))).Pairwise (λr t=>r.1+r.2<=t.1)/\∀r∈l.map (λr=>(r.1,r.2.1)),0<r.2/\r.1+r.2<=lo:=λl=>by
  rw[List.pairwise_map,List.forall_mem_map];rfl
 rw[h,e,<- h];exact c
theorem repow{b:Nat}:(pd.modify (pd.size-1) λ(x,y,_)=>(x,y,b)).toList.map (λr=>(r.1,r.2.1))=pd.toList.map (λr=>(r.1,r.2.1)):=by
 apply ext_getElem?;intro i;rw[getElem?_map,getElem?_map,getElem?_toList,getElem?_toList,Array.getElem?_modify];split
 ·cases pd[i]? <;> rfl
 ·rfl
theorem Cj(hS:Kp κ z)(k:Ok z #[] st){Q:Unit->SortSt->Prop}(h:∀pd s,Ok z pd s->Q () s):G sortRuns' Q st:=by
 rw[sortRuns'_eq];refine aR (qH ?_);dsimp only;rw[k.sz];generalize minRun' z.size z.size 0=e;refine iD (λ_ c s=>∃lo pd,c=(none,lo)/\Ok z pd s/\Ch lo pd.toList/\lo<=z.size) (λc s=>∃lo pd,c=(none,lo)/\Ok z pd s/\Ch lo pd.toList/\lo<=z.size) ⟨0,_,rfl,k,⟨List.Pairwise.nil,λr hr=>by cases hr⟩,zero_le _⟩ (λ_ _ z=>z) ?_ ?_
 ·rintro _ _ ⟨lo,pd,rfl,k,c,b⟩;refine iD (λ_ c s=>∃pd,c=(none,())/\Ok z pd s/\Ch lo pd.toList) (λc s=>∃pd,c=(none,())/\Ok z pd s/\Ch lo pd.toList) ⟨pd,rfl,k,c⟩ (λ_ _ z=>z) ?_ ?_
  ·rintro _ _ ⟨pd,rfl,k,c⟩;exact aV (h _ _ k)
  rintro x _ _ _ _ ⟨pd,rfl,k,c⟩;refine aR (qH (fJ (λ_=>aV ⟨pd,rfl,k,c⟩) λg=>aR (yJ hS ?_ k c b λpd s k c=>aV ⟨pd,rfl,k,c⟩)));have g:¬pd.size<=1:=by rw[<- k.pend];exact g
  refine lt_of_le_of_lt (Nat.add_le_add_right (MB _ _) 1) ?_;rw[k.pend];omega
 rintro x _ _ _ _ ⟨lo,pd,rfl,k,c,b⟩;refine fJ (λ_=>aV ⟨lo,pd,rfl,k,c,b⟩) λg=>aR (DV hS (by dsimp only at *;omega) (by dsimp only at *;omega) k λn s k f p=>?_);dsimp only at *;refine fJ (λo=>aR (rM (aR (Ig hS (by omega) k λs k=>fJ (λz=>absurd z (by decide)) λ_=>?_)))) λo=>?_
 all_goals try
  have f:n<e/\1<=min (z.size-lo) e/\lo+min (z.size-lo) e<=z.size:=by omega
  replace f:=f.2;generalize min (z.size-lo) e=n at f⊢
 all_goals
  refine aR (qH ?_);cases q:(pendingOf s).back? with
  |none=>
   refine aR (wK (aV ⟨_,_,rfl,⟨k.kind,k.failed,k.perm,rfl⟩,?_,by omega⟩));rw[k.pend,toList_push];exact c.push (by omega)
  |some r=>
   refine iD (λ_ c s=>∃pd,c=(none,())/\Ok z pd s/\Ch lo pd.toList) (λc s=>∃pd,c=(none,())/\Ok z pd s/\Ch lo pd.toList) ⟨pd,rfl,k,c⟩ (λ_ _ z=>z) ?_ ?_
   ·rintro _ _ ⟨pd,rfl,k,c⟩;refine aR (wK (aR (wK (aV ⟨_,_,rfl,⟨k.kind,k.failed,k.perm,rfl⟩,?_,by omega⟩))));show Ch _ (Array.push (Array.modify (pendingOf _) _ _) _).toList;rw[k.pend,toList_push];exact(c.congr repow).push (by omega)
   rintro y _ _ _ _ ⟨pd,rfl,k,c⟩;refine aR (qH ?_);rw[k.pend];by_cases m:pd.size > 1
   ·rw[if_pos m,getElem?_pos pd (pd.size-2) (by omega)];exact fJ (λ_=>aV ⟨pd,rfl,k,c⟩) λ_=>aR (yJ hS (by omega) k c b λpd s k c=>fJ (λz=>absurd z (by decide)) λ_=>aV ⟨pd,rfl,k,c⟩)
   ·rw[if_neg m];exact aV ⟨pd,rfl,k,c⟩
theorem BV{b:Mh}{f:Mg}(hS:StrsAre b f){e:Array Keyed}(n:e.Perm (pairsOf b)):∃g,StrsAre (e.map (·.2)).toList g/\g.Perm f:=by
 have o:e.toList.Perm (b.zip b):=by rw[<- pairsOf_toList];exact Array.perm_iff_toList_perm.mp n
 have m:(e.map (·.2)).toList.Perm b:=by
  rw[Array.toList_map];have:=o.map Prod.snd;rw[List.map_snd_zip (le_refl _)]at this;exact this
 refine⟨(e.map (·.2)).toList.map strOf,strsAre_map _ λv p=>hS.all _ (m.mem_iff.mp p),?_⟩;have:=m.map strOf;rw[hS.strs]at this;exact this
theorem E2{P:Program}{w:World}{A:Around}{E:Mm}{s:Shared}{a:Addr}{b:Mh}{L:Mg}{n:Nat}{Q:PySem.Fin->Shared->Prop}(o:s.heap.get? a=some (seqObj "list" b.toArray n))(hS:StrsAre b L)(N:b.length<=sizeLine)
  (h:∀(q:Array Value)(m:Mg),StrsAre q.toList m->m.Perm L->Q (.done (.ret .none)) {s with heap:=sortedHeap s.heap a b q}):wpAny (model P w) A (Builtin.«list.sort» ⟨[.ref a],[]⟩) Q E s:=by
 by_cases t:b.length<2
 ·exact list_sort_treeK strKind_oneLt o hS.keysOf (λv₁ O rest e=>L2.yO (e ▸ hS)) (by omega) λu U _=>by
   obtain⟨m,H,I⟩:=BV hS U;exact h _ m H I
 have R:a<s.heap.objs.size:=lt_size o;have x:b.toArray.size=b.length:=by simp
 rw[list_sort_plain];refine wpAny_bind (listItems_at o rfl (wpAny_bind (listUpdate_at o rfl ?_ (by rw[x];exact N))));have f:=get?_update_seq o (λ_=>#[]);generalize (if ((λ_=>#[]:Array Value->Array Value) b.toArray).size == b.toArray.size then n else n+1)=V at f;refine wpAny_bind (seqEpoch_at f rfl (wpAny_bind (wpAny_newTuple (wpAny_bind (wpAny_newList (wpAny_holding ?_))) (by simpa using N))));generalize y:((s.heap.update a (Obj.mapSeq λ_=>#[])).push (seqObj "tuple" b.toArray 0)).push (seqObj "list" #[] 0)=S;have B:S.get? a=some (seqObj "list" #[] V):=by
  rw[<- y,Heap.get?_push_ne _ _ _ (by rw[size_push',Heap.size_update];exact ne_of_lt (lt_succ_of_lt R)),Heap.get?_push_ne _ _ _ (by rw[Heap.size_update];exact ne_of_lt R)];exact f
 have D:¬b.toArray.size<2:=by rw[x];exact t
 have J:keyKind' b.toArray=pure oneType':=by
  match b,hS,t with
  |[],_,z=>exact absurd (by decide) z
  |[_],_,z=>exact absurd (lt_succ_self 1) z
  |_::_::_,hS,_=>exact L2.yO hS
 show wpAny (model P w) A _ Q E {s with heap:=S};dsimp only;rw[if_neg D,if_neg D,J];refine wpAny_bind (wpAny_pure ?_);obtain⟨⟨⟩,u,⟨G,W⟩,g⟩:=Cj (κ:=strKind) (z:=pairsOf b) (st:=SortSt.mk' oneType' (b.toArray.zip b.toArray) #[] 7 none) ⟨strKind_oneLt,λp G=>hS.keysOf p (Array.mem_toList_iff.mpr G)⟩ ⟨rfl,rfl,Array.Perm.refl _,rfl⟩ (Q:=λ_ s=>(arrOf s).Perm (pairsOf b)/\failedOf s=none) λ_ _ k=>⟨k.perm,k.failed⟩;refine wpAny_bind (wpAny_mono (g P w A E _ (λ_ s=>s=u) rfl) ?_ λ_ _ e=>e);rintro ⟨⟨⟩,s2⟩ X ⟨rfl,e⟩;dsimp only at e;subst e;have Y:((arrOf s2).map (·.2)).size=b.length:=by rw[Array.size_map,G.size_eq,pairsOf_size]
 dsimp only;refine wpAny_bind (seqEpoch_at B rfl (wpAny_bind (listUpdate_at B rfl ?_ (by show 0<=sizeLine;omega) (by show ((arrOf s2).map (·.2)).size<=sizeLine+1;omega))));rw[W];simp only[bne_self_eq_false,Bool.false_eq_true,if_false];obtain⟨m,H,I⟩:=BV hS G;have:=h _ m H I;unfold sortedHeap at this;rw[y]at this;exact wpAny_pure this
end
end TL
namespace L2
open PySem PySem.Spec PyProof.Rows
inductive BM(xs:Mp)(H:Hp)(Q:VK):Prop
 |mk:∀d kvs ns,xs=[.ref d]->H d=some (.dK kvs)->kvs.map (·.1)=ns.map Sum.inr->ns.length<=100000->(∀p ms,List.Perm ms ns->H p=none->Q (.ref p) (upd H p (.lst (ms.map .str))))->BM xs H Q
theorem Ai{X:Cx}(hc:X.calm=true):gP X (.builtin "sorted") BM:=by
 intro aa s σ H xs us Q I r h;obtain⟨d,O,N,rfl,hd,hk,hl,q⟩:=h;have n:N.length<=sizeLine:=le_trans hl (by decide);cases r with
 |cons r1 r2=>
  cases r2;cases (show _=Value.ref d from r1);obtain⟨hz,R,D,E,o,es,ep,dd⟩:=sF I.hok hd;have hh:X.A.in1.handled=none:=I.ok.hd hc;have f:D.length=N.length:=by
   have h1:=E.length;have G:=congrArg List.length hk;rw[length_map,length_map]at G;omega
  have S:D.map (·.1)=N.map Sum.inr:=by rw[<- AT E];exact hk
  refine wpAny_call (codeAny_call_builtin plain_sorted entry_sorted (wpAny_of_eq (oX _) ?_));show wpAny _ _ (checkCount "sorted" 1 1 1 >>= _) _ _ s;refine wpAny_bind (wpAny_of_eq (a:=()) (by rfl) ?_);refine wpAny_bind (kdu_collect (kdl_dict (knd:=bI X.prog X.w) (kvs:=D) (ep:=ep) R) hh ⟨o,es,dd⟩ (by rw[f];exact n) λp U g t J=>?_);have m:g.toList.length=D.length:=by
   have:=J.1;simpa using this
  have y:StrsAre g.toList N:=Fm (prog:=X.prog) (w:=X.w) S m λj v hv=>J.2 j v (by simpa using hv);refine wpAny_bind (wpAny_newList ?_ (by rw[m,f];exact n));generalize z:p.push {cls:=.type "list",data:=.seq g.toList.toArray}=G;have V:G.get? p.objs.size=some (seqObj "list" g.toList.toArray 0):=by
   rw[<- z];exact get?_push_size _ rfl
  refine wpAny_bind (wpAny_holding ?_);refine wpAny_call_entry (T:="list") PyProof.Rows.slot_list_sort ⟨_,V,rfl⟩ PyProof.Rows.entry_list_sort ?_ (PyProof.Rows.args_list_sort _);refine TL.E2 V y (by rw[m,f];exact n) λB ms L x=>?_;refine⟨_,rfl,wpAny_pure ?_⟩;obtain⟨W,Y⟩:=sortedHeap_at (h:=G) (a:=p.objs.size) (vs:=g.toList) (out:=B) V;have hf:H p.objs.size=none:=(I.kept (t':=U) t).hok.fresh (le_refl _);refine⟨.ref p.objs.size,upd H p.objs.size (.lst (ms.map .str)),(I.kept (t':=U) t).laid (t':=U) (λb u e=>?_) (le_refl _) ?_,rfl,q _ ms x hf⟩
  ·have hb:b<p.objs.size:=lt_size e;have Z:G.objs.size=p.objs.size+1:=by rw[<- z];exact size_push _ _
   rw[sortedHeap_old (ne_of_lt hb) (by rw[Z];exact lt_succ_of_lt hb),<- z];exact get?_push_of_some _ e
  ·refine⟨?_,B.toList,W,wY L,?_⟩
   ·rw[length_map,x.length_eq];exact n
   ·simpa [seqObj] using Y
end L2
section
local macro_rules | `(tactic| trivial) => `(tactic| first | rfl | decide | exact .inl rfl | exact .inr rfl | exact .inr (.inl rfl) | exact .inr (.inr rfl) | (intro _; rfl) | with_unfolding_all rfl)
local macro_rules | `(⋯) => `(by trivial)
local macro_rules | `(‹0›) => `(⟨rfl, rfl, rfl, by decide +kernel, rfl, by decide +kernel, by decide +kernel⟩)
set_option hygiene false
local macro_rules
 | `(‹1›) => `(TxtD K mg aa2 aa4 ac0 aa5 aa1 ab0 aa6)
 | `(‹2›) => `(TxtQ K mg A)
 | `(‹3›) => `(Callee P w K mg base "is_number" 1 ["thing", "least", "most"] kZ)
 | `(‹4›) => `(Method P w K mg base A.queue "write" 7 ["self", "rows"] (nX A))
 | `(‹5›) => `(Method P w K mg base aa6 "check_file" 3 ["self", "name"] (jI aa6 aa2 aa4))
 | `(‹6›) => `(Method P w K mg base A.disk "add" 4 ["self", "name", "some"] (zZ A.disk A.badName A.missing A.badRow A.stopped))
 | `(‹7›) => `(Callee P w K mg base "_law_write" 2 ["_law_state", "_law_rows", "_law_most"] jT)
 | `(‹8›) => `(TxtK K mg aa9 aa1 aa7 aa3)
 | `(‹9›) => `(Callee P w K mg base "segment_name" 1 ["segment"] hZ)
 | `(‹10›) => `(Callee P w K mg base "_law_seed" 1 ["_law_seed_here", "_law_k"] zV)
 | `(‹11›) => `(Method P w K mg base aa6 "count_step" 1 ["self"] (jH aa6 aa5))
 | `(‹12›) => `(Method P w K mg base A.book "letter" 1 ["self", "number"] (mW A.book))
 | `(‹13›) => `(Callee P w K mg base "_law_ready" 1 ["_law_state", "_law_tries"] qM)
 | `(‹14›) => `(FnOk P w K mg base (CXE P w))
 | `(‹15›) => `(Callee P w K mg base)
 | `(‹16›) => `(Method P w K mg base)
 | `(‹17›) => `(Maker P w K mg base)
 | `(‹18›) => `((hr.mono (by decide)))
 | `(‹19›) => `((⟨aa9, aa1, aa7, aa3, aa2, aa4, ac0, aa5, ab0, aa6, aa8, ak2, aj3, aj4, aj5⟩ : Ad))
 | `(‹20›) => `(dO (hu1 hr.units) (pv 0) bR (λ_ _ => rfl))
 | `(‹21›) => `(cG (cV K) (pv 1) aM (λ_ _ => rfl))
 | `(‹22›) => `(oB (pv 0) ⋯)
 | `(‹23›) => `(@dO _ _ _ _ _ _ (hu1 hr.units) (@pv _ 0 _ _ ⋯ ⋯ ⋯ ⋯) (@bR _ _ _ _) (λ_ _ => rfl))
 | `(‹24›) => `(cG (cV K) (pv 0) aM (λ_ _ => rfl))
 | `(‹25›) => `(aI bR aF)
 | `(‹26›) => `(bD dW (bD m7 (pv 1) aM) aM)
 | `(‹27›) => `(bL (iN K) ⋯ T.ac2 eU (aE (pv 0) (aE (tG (v := .ty "tuple") ⋯ T.ai2 qB ⋯) aF)))
 | `(‹28›) => `(bL (dI K) ⋯ T.ad8 gN (aE (pv 0) aF))
 | `(‹29›) => `(@dO _ _ _ _ _ _ (hu1 hr.units) (@dO _ _ _ _ _ _ (hu1 hr.units) (@pv _ 1 _ _ ⋯ ⋯ ⋯ ⋯) (@bR _ _ _ _) (λ_ _ => rfl)) (@pv _ 0 _ _ ⋯ ⋯ ⋯ ⋯) (λ_ _ => rfl))
 | `(‹30›) => `(@bR _ _ _ _)
local macro_rules
 | `(‹31›) => `(@pv _ 0 _ _ ⋯ ⋯ ⋯ ⋯)
 | `(‹32›) => `(aE (pv 1) aF)
 | `(‹33›) => `(bD m7 (pv 1) aM)
 | `(‹34›) => `(λC s2 H2 ex => (bK (i := 0) (show List.Nodup (["number", "self"] : Mg) by decide +kernel) ⋯ (Or.inl ⋯)))
 | `(‹35›) => `(@cG _ _ _ _ _ _ _ (cV K) (@pv _ 1 _ _ ⋯ ⋯ ⋯ ⋯) (@aM _ _ _ _) (λ_ _ => rfl))
 | `(‹36›) => `(aE (pv 0) aF)
 | `(‹37›) => `(aE (pv 2) aF)
 | `(‹38›) => `(cG (cV K) (pv 3) aM (λ_ _ => rfl))
 | `(‹39›) => `(λC s2 H2 ex => (bK (i := 0) (show List.Nodup (["_law_number", "_law_state"] : Mg) by decide +kernel) ⋯ (Or.inl ⋯)))
 | `(‹40›) => `(@aI _ _ _ _ _ _ _ (@aM _ _ _ _) (@aF _))
 | `(‹41›) => `(show List.Nodup (["_law_number", "_law_state"] : Mg) by decide +kernel)
 | `(‹42›) => `(λC s2 H2 ex => (bK (i := 0) (show List.Nodup (["letter", "self"] : Mg) by decide +kernel) ⋯ (Or.inl ⋯)))
 | `(‹43›) => `(@aM _ _ _ _)
 | `(‹44›) => `(λC s2 H2 ex => AD)
 | `(‹45›) => `(cG (cV K) (dO (hu1 hr.units) (EH K (pv 1) ⋯) (pv 0) (λ_ _ => rfl)) aM (λ_ _ => rfl))
 | `(‹46›) => `(aI aM aF)
 | `(‹47›) => `(dO (hu1 hr.units) (dO (hu1 hr.units) (pv 1) bR (λ_ _ => rfl)) (pv 0) (λ_ _ => rfl))
 | `(‹48›) => `(aI aM (aE (cT (v := .int 999999) ⋯ ad0 ⟨_, rfl⟩) aF))
 | `(‹49›) => `(aW fY (pv 2) bR (bJ _))
 | `(‹50›) => `(bF (aU aF) aF)
 | `(‹51›) => `(cG (cK K) (pv 9) aM (λ_ _ => rfl))
 | `(‹52›) => `(bD cW (pv 1) (cT (v := .int 7) ⋯ bh0 ⟨_, rfl⟩))
 | `(‹53›) => `(aE (pv 3) aF)
 | `(‹54›) => `(aW fY (pv 3) bR (bJ _))
 | `(‹55›) => `(@aI _ _ _ _ _ _ _ (@jM _ _ _) (@aF _))
 | `(‹56›) => `(bK (i := 3) nD0 ⋯ ⋯)
 | `(‹57›) => `(show j ∈ (M.ls.map (·.1)).filter _ from (mem_filter.mp hj).1)
 | `(‹58›) => `(aE (tG (v := .ty "str") ⋯ T.bj8 MP ⋯) aF)
 | `(‹59›) => `(cG (cK K) (pv 1) (yE qI aM) (λ_ _ => rfl))
 | `(‹60›) => `(cG (cV K) (pv 5) aM (λ_ _ => rfl))
local macro_rules
 | `(‹61›) => `(aX (eK al9 T.cl ‹18› bT (pv 0)))
 | `(‹62›) => `(aE (pv 4) aF)
 | `(‹63›) => `(EH K (pv 1) ⋯)
 | `(‹64›) => `(show _ ≤ 1000 by omega)
 | `(‹65›) => `(@pv _ 2 _ _ ⋯ ⋯ ⋯ ⋯)
 | `(‹66›) => `(aW fY (pv 0) bR (bJ _))
 | `(‹67›) => `(λC s2 H2 ex => (pv 0))
 | `(‹68›) => `(@pv _ 6 _ _ ⋯ ⋯ ⋯ ⋯)
 | `(‹69›) => `(aC (aP jM))
 | `(‹70›) => `(aC (qW (pv 0) aM vS))
 | `(‹71›) => `(aE (pv 5) aF)
 | `(‹72›) => `(aW fY (pv 6) bR (bJ _))
 | `(‹73›) => `(aW vI (pv 3) aM (bJ _))
 | `(‹74›) => `(bK (i := 4) nD0 ⋯ ⋯)
 | `(‹75›) => `(bL (dI K) ⋯ T.ad8 gN ‹32›)
 | `(‹76›) => `(bV K (bL (gM ⋯) ⋯ T.ae7 gW (gE ‹22› aF)))
 | `(‹77›) => `(aC (aX (iZ K PySem.F.plainAttrs_dict PySem.F.slot_dict_pop PySem.F.type_dict_pop pI ‹22› ‹37›)))
 | `(‹78›) => `(aX (iZ K PySem.F.plainAttrs_dict PySem.F.slot_dict_pop PySem.F.type_dict_pop pI ‹20› ‹71›))
 | `(‹79›) => `(gE ‹22› aF)
 | `(‹80›) => `(aN ‹21› aF)
 | `(‹81›) => `(@dO _ _ _ _ _ _ (hu1 hr.units) (@pv _ 4 _ _ ⋯ ⋯ ⋯ ⋯) ‹30› (λ_ _ => rfl))
 | `(‹82›) => `(aC (dY eX ⋯ T.af4 ⋯ T.ba2 ‹25›))
 | `(‹83›) => `(aX (cP ag9 T.cl ‹18› bT (pv 0) ‹32›))
 | `(‹84›) => `(cG (cK K) (cA (aI aM ‹46›)) ‹26› (λ_ _ => rfl))
 | `(‹85›) => `(bL (gM ⋯) ⋯ T.ae7 gW (aN ‹20› aF))
 | `(‹86›) => `(aC (dY eX ⋯ T.ag1 ⋯ T.bg4 ‹25›))
 | `(‹87›) => `(dO (hu1 hr.units) ‹22› (pv 1) (λ_ _ => rfl))
 | `(‹88›) => `(aC (dY eX ⋯ T.af0 ⋯ T.ay1 ‹25›))
 | `(‹89›) => `(aC (dY eX ⋯ T.an1 ⋯ T.bk0 ‹25›))
 | `(‹90›) => `(aC (dY eX ⋯ T.ag3 ⋯ T.bh1 ‹25›))
local macro_rules
 | `(‹91›) => `(@aN _ _ _ _ _ _ _ ‹23› (@aF _))
 | `(‹92›) => `(aN ‹20› aF)
 | `(‹93›) => `(@aW _ _ _ _ _ _ _ _ fY ‹68› ‹30› (bJ _))
 | `(‹94›) => `(aI bR (aI bR ‹25›))
 | `(‹95›) => `(bC ab3 ‹18› bB ‹79›)
set_option hygiene true
namespace Qh
open PySem L2
def top(i:Nat):Stmt:=PySem.Challenge.pw_queuehold_k34_deeds_refused.main.body.getD i (.Pass ⟨0,0,0,0⟩)
abbrev rV:Stmt:=top 22
abbrev u7:Stmt:=top 23
abbrev rW:Stmt:=top 40
abbrev BG:Stmt:=top 41
abbrev rY:Stmt:=top 42
theorem gN:bootBuiltins "len" = some (.builtin "len"):=by decide +kernel
theorem eU:bootBuiltins "isinstance" = some (.builtin "isinstance"):=by decide +kernel
theorem Ic:bootBuiltins "all" = some (.builtin "all"):=by decide +kernel
theorem Am:bootBuiltins "sum" = some (.builtin "sum"):=by decide +kernel
theorem qB:bootBuiltins "tuple" = some (.type "tuple"):=by decide +kernel
theorem DX:bootBuiltins "int" = some (.type "int"):=by decide +kernel
theorem KM:bootBuiltins "bool" = some (.type "bool"):=by decide +kernel
theorem MP:bootBuiltins "str" = some (.type "str"):=by decide +kernel
def dM:Mg:=["put","out","done","from","part","deal","carried","new"]
structure TxtR(K:Ma)(mg:Mc)(aa9 aa1:Addr):Prop where
 ad8:mg "len" = none
 ac2:mg "isinstance" = none
 bj9:mg "all" = none
 ax8:mg "sum" = none
 ai2:mg "tuple" = none
 ba8:mg "int" = none
 bk1:mg "bool" = none
 bj8:mg "str" = none
 ai3:mg "range" = none
 af9:mg "enumerate" = none
 ap5:∃t,mg "HIGHEST_BYTE" = some (.int 255 t)
 ad3:∃t,mg "HIGHEST_NUMBER" = some (.int 999999 t)
 bc8:∃t,mg "LONGEST_BODY" = some (.int 60 t)
 ah0:∃t,mg "HIGHEST_TIMES" = some (.int 9 t)
 ai4:∃t,mg "LARGEST_DEAL" = some (.int 9 t)
 bj0:mg "KINDS" = some (.ref aa9)
 bj1:∀H,SqT K H aa9 (dM.map V.str)
 l_KINDS:∃o,K.lookup aa9=some o/\o.cls = .type "tuple"/\o.dict=none
 ag3:dH K aa1=true
 bh1:mg "BadRow" = some (.ref aa1)
def bM(lo b:Int):PyData->Bool
 | .int i=>decide (lo<=i) && decide (i<=b)
 |_=>false
def dR:PyData->Bool
 | .tuple b=>b.all (bM 0 255)
 |_=>false
def fG(k:Str)(b:Mf):Bool:=
 if k = "put"\/k = "part" then decide (b.length<=60)
 else if k = "carried" then decide (1<=b.length) && decide (b.length<=61) && decide (b.headD 0<=9)
 else if k = "deal" then decide (b.length=1) && decide (1<=b.headD 0) && decide (b.headD 0<=9)
 else decide (b.length=0)
inductive kZ(vs:Mp)(H:Hp)(Q:VK)(x_3:XK):Prop
 |mk:∀v d lo hi,vs=[v,.int lo,.int hi]->Den H d v->Q (.bl (bM lo hi d)) H->kZ vs H Q x_3
inductive hU(vs:Mp)(H:Hp)(Q:VK)(x_3:XK):Prop
 |mk:∀v d,vs=[v]->Den H d v->(∀ds,d = .tuple ds->ds.length<=sizeLine)->(∀H',aG H H'->Q (.bl (dR d)) H')->hU vs H Q x_3
inductive k8(vs:Mp)(H:Hp)(Q:VK)(x_3:XK):Prop
 |mk:∀k a ns,vs=[.str k,.ref a]->H a=some (.tup (ns.map V.int))->Q (.bl (fG k ns)) H->k8 vs H Q x_3
theorem tM(h:a=b):decide (V.str a=V.str b)=true:=decide_eq_true (by rw[h])
theorem tL(h:¬a=b):decide (V.str a=V.str b)=false:=decide_eq_false (λz=>h (V.str.inj z))
theorem pY(h:¬a=b):decide (V.int a=V.int b)=false:=decide_eq_false (λz=>h (V.int.inj z))
section
variable{P:Program}{w:World}{K:Ma}{mg:Mc}{base:Heap}{aa9 aa1:Addr}
theorem AM(F:Fun K "is_number" "is_number" rV f o)(T:TxtR K mg aa9 aa1):‹14› 1 f o ["thing","least","most"] kZ:=by
 refine F.okY ["thing","least","most"] λp A n s H r Q E hr nD0 h=>?_;obtain⟨v,d,lo,t,rfl,g,q⟩:=h;refine⟨_,aA (bE (lQ (dL (bL (iN K) ⋯ T.ac2 eU (aE (pv 0) (aE (tG (v:=.ty "bool") ⋯ T.bk1 KM ⋯) aF)))) (iV (cY (dL (bL (iN K) ⋯ T.ac2 eU (aE (pv 0) (aE (tG (v:=.ty "int") ⋯ T.ba8 DX ⋯) aF))))))).pt
   (aC (aP nO))
   aO)
  (aC (aP (vF kD kD (pv 1) (pv 0) (pv 2)))),?_⟩
 refine⟨_,rfl,_,_,_,_,rfl,g.ty,Hx d,_,rfl,?_⟩;cases d with
 |bool b=>exact aZ (aZ q)
 |int i=>
  refine bH ⟨_,rfl,_,_,_,_,rfl,g.ty,nE _,_,rfl,bH ?_⟩;have e:v = .int i:=by simpa only[Den] using g
  subst e;refine⟨_,rfl,_,rfl,_,_,rfl,rfl,_,rfl,?_⟩;simp only[bM]at q;by_cases m:lo<=i
  ·rw[if_pos (decide_eq_true m)];refine⟨_,rfl,_,_,rfl,rfl,?_⟩;rw[decide_eq_true m,Bool.true_and]at q;exact q
  ·rw[if_neg (by simpa using m)];rw[decide_eq_false m,Bool.false_and]at q;exact q
 |none=>exact bH ⟨_,rfl,_,_,_,_,rfl,g.ty,nE _,_,rfl,aZ q⟩
 |str x=>exact bH ⟨_,rfl,_,_,_,_,rfl,g.ty,nE _,_,rfl,aZ q⟩
 |tuple x=>exact bH ⟨_,rfl,_,_,_,_,rfl,g.ty,nE _,_,rfl,aZ q⟩
 |list x=>exact bH ⟨_,rfl,_,_,_,_,rfl,g.ty,nE _,_,rfl,aZ q⟩
 |dict x=>exact bH ⟨_,rfl,_,_,_,_,rfl,g.ty,nE _,_,rfl,aZ q⟩
theorem Bl(F:Fun K "is_bytes" "is_bytes" u7 f R)(T:TxtR K mg aa9 aa1)(n:‹3›):‹14› 2 f R ["thing"] hU:=by
 obtain⟨_,o⟩:=T.ap5;refine F.okY ["thing"] λS A p s H vs Q E hr nD0 h=>?_;obtain⟨v,d,rfl,L,U,q⟩:=h;refine⟨_,aC (aP (qZ ‹27› (vD (bL (zG K) ⋯ T.bj9 Ic (dZ (cZ ["one"] [] ⋯ (AE K (pv 0)) (λC s2 H2 ex=>(bK (i:=0) (show List.Nodup (["one"]:Mg) by decide +kernel) ⋯ (Or.inl ⋯))) ‹44› (λC s2 H2 ex=>(bC n ‹18› bB (aE (pv 0) (aI aM (aE (cT (v:=.int 255) ⋯ o ⟨_,rfl⟩) aF)))))) aF))))),?_⟩;refine⟨_,rfl,_,_,_,_,rfl,L.ty,rF d,_,rfl,?_⟩;cases d with
 |tuple m=>
  refine aZ ?_;have b:=L;simp only[Den]at b;obtain⟨a,W,rfl,N,g⟩:=b;have X:=g.length;refine⟨_,rfl,a,rfl,⟨W,SqT.of N⟩,?_⟩;refine cX (s0 (K:=K) (SqT.of N)) (by rw[X];exact U m rfl) (λi y _=>∃d,m[i]? = some d/\y = .bl (bM 0 255 d)) (λ_ _ _ _ _ h=>h) (λY=>Y.length=1) ?z0 ?_ ?_
  case z0=>rfl
  ·intro i x r H3 hi t Z hx Q' u;obtain⟨d,B,G⟩:=g.get hx
   match r,t with
   |[z],_=>
    refine⟨_,rfl,x,d,0,255,rfl,G.same Z,?_⟩;exact u _ _ _ rfl (aG.refl _) ⟨d,B,rfl⟩
  ·intro D I H' hD s' J O hR;have ey:I=(m.map (bM 0 255)).map V.bl:=by
    apply ext_getElem?;intro i;cases e:I[i]? with
    |none=>
     have:I.length<=i:=List.getElem?_eq_none_iff.mp e;rw[getElem?_eq_none (by rw[length_map,length_map];omega)]
    |some y=>
     obtain⟨d,h1,h2⟩:=hR i y e;rw[getElem?_map,getElem?_map,h1,h2];rfl
   refine⟨D,m.map (bM 0 255),rfl,SqL.of (by rw[J,ey]),?_⟩;have:=q H' s';simp only[dR]at this;rw[all_map];exact this
 |none=>exact bH (q H (aG.refl H))
 |bool x=>exact bH (q H (aG.refl H))
 |int x=>exact bH (q H (aG.refl H))
 |str x=>exact bH (q H (aG.refl H))
 |list x=>exact bH (q H (aG.refl H))
 |dict x=>exact bH (q H (aG.refl H))
theorem AN(F:Fun K "fits_kind" "fits_kind" rW f N)(T:TxtR K mg aa9 aa1):‹14› 1 f N ["kind","body"] k8:=by
 obtain⟨_,p⟩:=T.bc8;obtain⟨_,G⟩:=T.ah0;obtain⟨_,I⟩:=T.ai4;refine F.okY ["kind","body"] λO A J s H U Q E hr nD0 h=>?_;obtain⟨k,a,g,rfl,R,q⟩:=h;refine⟨_,aA (bE (lQ ‹66› (iV ‹66›)).pt
   (aC (aP (hJ kD ‹75› (cT (v:=.int 60) ⋯ p ⟨_,rfl⟩) (bJ _))))
   aO)
  (aA (bE ‹66›
   (aC (aP (qZ (vF kD kD aM ‹75› (bD cW aM (cT (v:=.int 60) ⋯ p ⟨_,rfl⟩))) (vD (hJ kD ‹21› (cT (v:=.int 9) ⋯ G ⟨_,rfl⟩) (bJ _))))))
   aO)
  (aA (bE ‹66›
   (aC (aP (qZ (hJ fY ‹75› aM (bJ _)) (vD (vF kD kD aM ‹21› (cT (v:=.int 9) ⋯ I ⟨_,rfl⟩))))))
   aO)
  (aC (aP (hJ fY ‹75› aM (bJ _)))))),?_⟩
 have b:SqT K H a (g.map V.int):=SqT.of R;have m:∀x r,g=x::r->atI (g.map V.int) 0=some (V.int x):=λx r e=>by
  subst e;exact cO (j:=0) rfl
 have o:((g.map V.int).length:Int)=(g.length:Int):=by rw[length_map]
 unfold fG at q;refine⟨_,rfl,rfl,_,rfl,?_⟩;by_cases t:k = "put"
 ·rw[if_pos (.inl t)]at q;rw[tM t];refine aZ (aZ ⟨_,rfl,a,_,rfl,.inr b,_,_,rfl,rfl,?_⟩);have e:decide (((g.map V.int).length:Int)<=60)=decide (g.length<=60):=by
   apply decide_eq_decide.mpr;rw[o];omega
  show Q (.bl (decide (((g.map V.int).length:Int)<=60))) H;rw[e];exact q
 rw[tL t];refine bH ⟨_,rfl,rfl,_,rfl,?_⟩;by_cases u:k = "part"
 ·rw[if_pos (.inr u)]at q;rw[tM u];refine aZ ⟨_,rfl,a,_,rfl,.inr b,_,_,rfl,rfl,?_⟩;have e:decide (((g.map V.int).length:Int)<=60)=decide (g.length<=60):=by
   apply decide_eq_decide.mpr;rw[o];omega
  show Q (.bl (decide (((g.map V.int).length:Int)<=60))) H;rw[e];exact q
 rw[tL u];rw[if_neg (by rintro (z |z);exact t z;exact u z)]at q;refine bH ⟨_,rfl,rfl,_,rfl,?_⟩;by_cases B:k = "carried"
 ·rw[if_pos B]at q;rw[tM B];refine aZ ⟨_,rfl,a,_,rfl,.inr b,_,_,rfl,rfl,_,rfl,?_⟩;by_cases n:1<=g.length
  ·rw[if_pos (decide_eq_true (by rw[o];omega))];rw[decide_eq_true n,Bool.true_and]at q;refine⟨_,_,rfl,rfl,_,_,rfl,rfl,_,rfl,?_⟩;by_cases L:g.length<=61
   ·rw[if_pos (decide_eq_true (by rw[o];omega))];rw[decide_eq_true L,Bool.true_and]at q
    match g,n,m,q,b with
    |x::r,_,m,q,b=>
     exact⟨_,rfl,a,_,_,_,rfl,rfl,b,m x r rfl,_,_,rfl,rfl,q⟩
   ·rw[if_neg (by rw[decide_eq_true_eq,o];omega)];rw[decide_eq_false L,Bool.false_and]at q;exact q
  ·rw[if_neg (by rw[decide_eq_true_eq,o];omega)];rw[decide_eq_false n,Bool.false_and,Bool.false_and]at q;exact⟨_,rfl,bH q⟩
 rw[tL B];rw[if_neg B]at q;refine bH ⟨_,rfl,rfl,_,rfl,?_⟩;by_cases D:k = "deal"
 ·rw[if_pos D]at q;rw[tM D];refine aZ ⟨_,rfl,a,_,rfl,.inr b,rfl,_,rfl,?_⟩
  match g,m,q,b with
  |[],m,q,b=>exact bH q
  |[x],m,q,b=>
   refine aZ ⟨_,rfl,a,_,_,_,rfl,rfl,b,m x [] rfl,_,_,rfl,rfl,_,rfl,?_⟩;have q:Q (.bl (decide (1<=x) && decide (x<=9))) H:=q;by_cases n:1<=x
   ·rw[if_pos (decide_eq_true n)];rw[decide_eq_true n,Bool.true_and]at q;exact⟨_,_,rfl,rfl,q⟩
   ·rw[if_neg (by simpa using n)];rw[decide_eq_false n,Bool.false_and]at q;exact q
  |x::y::r,m,q,b=>
   have e:decide ((((x::y::r).length:Nat):Int)=1)=false:=decide_eq_false (by simp;omega);have S:decide ((x::y::r).length=1)=false:=decide_eq_false (by simp);rw[S,Bool.false_and,Bool.false_and]at q;rw[pY (by simp;omega)];exact bH q
 rw[tL D];rw[if_neg D]at q;refine bH ⟨_,rfl,a,_,rfl,.inr b,rfl,?_⟩;show Q (.bl (decide (V.int ((g.map V.int).length:Int)=V.int 0))) H;have e:decide (V.int ((g.map V.int).length:Int)=V.int 0)=decide (g.length=0):=by
  apply decide_eq_decide.mpr;rw[o];constructor
  ·intro z;have:=V.int.inj z;omega
  ·intro z;rw[z];rfl
 rw[e];exact q
def bX:PyData->Mf
 | .tuple b=>b.map λd=>match d with | .int i=>i |_=>0
 |_=>[]
def bS:PyData->Bool
 | .tuple [.str k,n,b]=>dM.contains k && (bM 0 999999 n && (dR b && fG k (bX b)))
 |_=>false
theorem Lx{e : Type}{l:List e}(h:l.length=3):∃a b c,l=[a,b,c]:=by
 match l,h with
 |[a,b,c],_=>exact⟨a,b,c,rfl⟩
theorem yQ(h:e.length≠3):bS (.tuple e)=false:=by
 match e,h with
 |[],_=>rfl
 |[a],_=>cases a <;> rfl
 |[a,b],_=>cases a <;> rfl
 |[_,_,_],h=>exact absurd rfl h
 |a::b::c::d::r,_=>cases a <;> rfl
theorem Fu(k:Str)(b:Mg):inV (.str k) (b.map V.str)=b.contains k:=by
 unfold inV;rw[List.any_map,List.contains_eq_any_beq];congr 1;funext y;show (y == k)=(k == y);exact Bool.beq_comm
theorem F1(b:Mg):(b.map V.str).all nU=true:=by
 rw[all_map];exact all_eq_true.mpr λ_ _=>rfl
theorem qA:∀{b:Mj}{f:Mp},aQ H b f->b.all (bM 0 255)=true->f=(bX (.tuple b)).map V.int
 |[],f,h,_=>by
  simp only[aQ]at h;subst h;rfl
 |d::b,f,h,e=>by
  simp only[aQ]at h;obtain⟨x,r,m,g,n⟩:=h;rw[all_cons,and_eq_true]at e;have o:=qA n e.2;cases d with
  |int i=>
   simp only[Den]at g;rw[m,g,o];rfl
  |_=>exact absurd e.1 (by simp [bM])
inductive mX(vs:Mp)(H:Hp)(Q:VK)(x_3:XK):Prop
 |mk:∀v d,vs=[v]->Den H d v->(∀k n bs,d = .tuple [k,n,.tuple bs]->bs.length<=sizeLine)->(∀H',aG H H'->Q (.bl (bS d)) H')->mX vs H Q x_3
theorem FW(F:Fun K "is_row" "is_row" BG f fd)(T:TxtR K mg aa9 aa1)(p:‹3›)
  (r:‹15› "is_bytes" 2 ["thing"] hU) (t:‹15› "fits_kind" 1 ["kind","body"] k8):‹14› 3 f fd ["thing"] mX:=by
 obtain⟨_,ad0⟩:=T.ad3;refine F.okY ["thing","kind"] λaa A u s H vs Q E hr nD0 h=>?_;obtain⟨v,d,rfl,L,hz,q⟩:=h;refine⟨_,aA (bE (lQ (cY (dL ‹27›)) (iV (aW yH ‹28› aM (bJ _)))).pt
   (aC (aP nO))
   aO)
  (aA (a9 (i:=1) nD0 ⋯ ⋯ ‹24›)
  (aA (bE (lQ (cY (dL (bL (iN K) ⋯ T.ac2 eU (aE (pv 1) ‹58›)))) (iV (aW (kC K) (pv 1) (cT (v:=.ref aa9) ⋯ T.bj0 ⋯) ⋯))).pt
   (aC (aP nO))
   aO)
  (aC (aP (qZ (bC p ‹18› bB (aN ‹24› ‹48›)) (qZ (bC r ‹18› bB (aN ‹24› aF)) (vD (bC t ‹18› bB (aE (pv 1) (aN ‹24› aF)))))))))),?_⟩
 refine⟨_,rfl,_,_,_,_,rfl,L.ty,rF d,_,rfl,?_⟩;cases d with
 |none=>exact aZ (aZ (q H (aG.refl H)))
 |bool x=>exact aZ (aZ (q H (aG.refl H)))
 |int x=>exact aZ (aZ (q H (aG.refl H)))
 |str x=>exact aZ (aZ (q H (aG.refl H)))
 |list x=>exact aZ (aZ (q H (aG.refl H)))
 |dict x=>exact aZ (aZ (q H (aG.refl H)))
 |tuple ds=>
  have g:=L;simp only[Den]at g;obtain⟨a,xs,rfl,y,b⟩:=g;have N:=b.length;by_cases z:ds.length=3
  ·obtain⟨O,R,B,rfl⟩:=Lx z;obtain⟨x0,S,U,rfl⟩:=Lx (N.trans z)
   ·refine bH ⟨_,rfl,a,_,rfl,.inr (SqT.of y),rfl,_,rfl,?_⟩;refine bH ?_;simp only[aQ]at b;obtain⟨y0,r0,e0,D,y1,r1,e1,k1,y2,r2,e2,G,e3⟩:=b;subst e3;cases e2;cases e1;cases e0;have m:SqT K H a [x0,S,U]:=SqT.of y;refine⟨_,rfl,a,_,_,_,rfl,rfl,m,cO (j:=0) rfl,?_⟩;refine⟨_,rfl,_,_,_,_,rfl,D.ty,ET O,_,rfl,?_⟩;cases O with
    |none=>exact aZ (aZ (q H (aG.refl H)))
    |bool x=>exact aZ (aZ (q H (aG.refl H)))
    |int x=>exact aZ (aZ (q H (aG.refl H)))
    |tuple x=>exact aZ (aZ (q H (aG.refl H)))
    |list x=>exact aZ (aZ (q H (aG.refl H)))
    |dict x=>exact aZ (aZ (q H (aG.refl H)))
    |str k=>
     simp only[Den]at D;subst D;refine bH ⟨_,rfl,aa9,_,rfl,.inr (T.bj1 H),rfl,F1 dM,_,rfl,?_⟩;rw[if_pos rfl,Fu];simp only[bS]at q;cases W:dM.contains k with
     |false=>
      rw[W]at q;exact aZ (q H (aG.refl H))
     |true=>
      rw[W]at q;refine bH ?_;refine⟨_,rfl,a,_,_,_,rfl,rfl,m,cO (j:=1) rfl,S,R,0,999999,rfl,k1,_,rfl,?_⟩;cases X:bM 0 999999 R with
      |false=>
       rw[X]at q;exact bH (q H (aG.refl H))
      |true=>
       rw[X]at q;refine aZ ⟨_,rfl,a,_,_,_,rfl,rfl,m,cO (j:=2) rfl,U,B,rfl,G,λY e=>hz _ _ Y (by rw[e]),λZ n=>⟨_,rfl,?_⟩⟩;cases o:dR B with
       |false=>
        rw[o]at q;exact bH (q Z n)
       |true=>
        rw[o]at q;cases B with
        |tuple Y=>
         simp only[Den]at G;obtain⟨a2,ys,rfl,I,J⟩:=G;have ei:=qA J o;subst ei;refine aZ ⟨_,rfl,_,rfl,a,_,_,_,rfl,rfl,n.seqT m,cO (j:=2) rfl,k,a2,_,rfl,n _ _ I,q Z n⟩
        |_=>exact absurd o (by simp [dR])
  ·have e:(!decide (V.int (xs.length:Int)=V.int 3))=true:=by
    rw[N,pY (by omega)];rfl
   have q':=q H (aG.refl H);rw[yQ z]at q';refine bH ⟨_,rfl,a,_,rfl,.inr (SqT.of y),rfl,_,rfl,?_⟩;rw[e];exact aZ q'
def pZ(b:Mf):Int×Int:=(b.sum % 256,((List.range b.length).map λ(i:Nat)=>(1+(i:Int))*b.getD i 0).sum % 256)
inductive lA(vs:Mp)(H:Hp)(Q:VK)(x_3:XK):Prop
 |mk:∀a ns,vs=[.ref a]->H a=some (.tup (ns.map V.int))->ns.length<=1000->(∀p H',aG H H'->H' p=some (.tup [.int (pZ ns).1,.int (pZ ns).2])->Q (.ref p) H')->lA vs H Q x_3
theorem AQ(F:Fun K "checks_of" "checks_of" rY f L)(T:TxtR K mg aa9 aa1):‹14› 1 f L ["behind"] lA:=by
 refine F.okY ["behind","plain","weighed"] λN A o s H Z Q E hr nD0 h=>?_;obtain⟨a,b,rfl,O,R,q⟩:=h;refine⟨_,aA (a9 (i:=1) nD0 ⋯ ⋯ (bL (nI K) ⋯ T.ax8 Am ‹36›))
  (aA (a9 (i:=2) nD0 ⋯ ⋯ (bL (nI K) ⋯ T.ax8 Am (dZ (cZ ["place","one"] [] ⋯ (FC K T.af9 (pv 0)) (λC s2 H2 ex=>(iH K (n:=2) (cJ (bK (i:=0) (show List.Nodup (["place","one"]:Mg) by decide +kernel) ⋯ (Or.inl ⋯)) (cJ (bK (i:=1) (show List.Nodup (["place","one"]:Mg) by decide +kernel) ⋯ (Or.inl ⋯)) iG)))) ‹44› (λC s2 H2 ex=>(bD rA (pv 0) (pv 1)))) aF)))
  (aC (aP (aU (bW (bD dW (pv 1) aM) (bW (bD dW (pv 2) aM) aF)))))),?_⟩
 have r:SqT K H a (b.map V.int):=SqT.of O;refine⟨_,rfl,a,b,rfl,.inr r,?_⟩;refine⟨_,rfl,a,_,rfl,r,?_⟩;refine cX (uC (K:=K) 1 r) (by rw[length_map];exact le_trans R (by decide)) (λi y _=>y = .int ((1+(i:Int))*b.getD i 0)) (λ_ _ _ _ _ h=>h) (λS=>S.length=2) ?z0 ?_ ?_
 case z0=>rfl
 ·intro i x t H3 g u s3 U Q' z;obtain⟨p,v,rfl,B,J⟩:=U;rw[length_map]at g;rw[getElem?_map,getElem?_eq_getElem g]at J;cases J
  match t,u with
  |[z1,z2],_=>
   refine⟨p,_,rfl,SqT.of B,rfl,_,_,rfl,_,_,rfl,rfl,?_⟩;refine⟨_,rfl,_,rfl,_,_,rfl,rfl,.inl ⟨by omega,by omega⟩,?_⟩;refine z _ _ _ rfl (aG.refl _) ?_;rw[getD_eq_getElem?_getD,getElem?_eq_getElem g];rfl
 ·intro D G H' hD W I m X;have Y:G=((List.range b.length).map λ(i:Nat)=>(1+(i:Int))*b.getD i 0).map V.int:=by
   apply ext_getElem?;intro i;rw[length_map]at m;cases e:G[i]? with
   |none=>
    have:G.length<=i:=List.getElem?_eq_none_iff.mp e;rw[getElem?_eq_none (by rw[length_map,length_map,length_range];omega)]
   |some y=>
    have g:i<b.length:=by
     have:=(List.getElem?_eq_some_iff.mp e).1;omega
    rw[X i y e,getElem?_map,getElem?_map,getElem?_range g];rfl
  refine⟨D,_,rfl,.inl (SqL.of (by rw[I,Y])),?_⟩;refine⟨_,rfl,_,_,rfl,rfl,(by show (0:Int)<256;decide),_,rfl,_,_,rfl,rfl,(by show (0:Int)<256;decide),(by show 2<=sizeLine;decide),λp B=>?_⟩;exact q p _ (W.trans (aD B)) aB
def gO(k:Str)(n:Int)(b:Mf):Mf:=[(dM.idxOf k:Int)+1]++[n / 65536,n / 256 % 256,n % 256]++[(b.length:Int)]++b
def iF(k:Str)(n:Int)(b:Mf):Mf:=[(pZ (gO k n b)).1,(pZ (gO k n b)).2]++gO k n b
def G3:PyData->Mf
 | .tuple [.str k,.int n,b]=>iF k n (bX b)
 |_=>[]
theorem oI(h:bS d=true):∃k n b,d = .tuple [.str k,.int n,.tuple b]/\dM.contains k=true/\0<=n/\n<=999999/\b.all (bM 0 255)=true/\fG k (bX (.tuple b))=true:=by
 cases d with
 |tuple m=>
  by_cases f:m.length=3
  ·obtain⟨o,p,q,rfl⟩:=Lx f;cases o with
   |str k=>
    simp only[bS,and_eq_true]at h;obtain⟨r,e,g,s⟩:=h;cases p with
    |int n=>
     simp only[bM,and_eq_true,decide_eq_true_eq]at e;cases q with
     |tuple b=>exact⟨k,n,b,rfl,r,e.1,e.2,g,s⟩
     |_=>simp [dR]at g
    |_=>simp [bM]at e
   |_=>cases h
  ·rw[yQ f]at h;cases h
 |_=>cases h
theorem Fv(h:dM.contains k=true):dM[dM.idxOf k]? = some k/\∀i,i<dM.idxOf k->dM[i]? ≠ some k:=by
 have m:k∈dM:=by simpa using h
 have f:=List.idxOf_lt_length_of_mem m;refine⟨by rw[getElem?_eq_getElem f,List.getElem_idxOf],λi g e=>?_⟩;have:=List.not_of_lt_findIdx (p:=(· == k)) (xs:=dM) (i:=i) g;have b:i<dM.length:=lt_trans g f;rw[getElem?_eq_getElem b]at e;have e:=Option.some.inj e;rw[e]at this;simp at this
theorem vY(h:fG k b=true):b.length<=61:=by
 unfold fG at h;split at h
 ·have:=of_decide_eq_true h;omega
 ·split at h
  ·simp only[and_eq_true,decide_eq_true_eq]at h;omega
  ·split at h
   ·simp only[and_eq_true,decide_eq_true_eq]at h;omega
   ·have:=of_decide_eq_true h;omega
end
abbrev rQ:Stmt:=top 43
section
variable{P:Program}{w:World}{K:Ma}{mg:Mc}{base:Heap}{aa9 aa1:Addr}
inductive fM(aa1:Addr)(vs:Mp)(H:Hp)(Q:VK)(E:XK):Prop
 |mk:∀v d,vs=[v]->Den H d v->(∀k n bs,d = .tuple [k,n,.tuple bs]->bs.length<=sizeLine)->(bS d=true->∀p H',aG H H'->H' p=some (.tup ((G3 d).map V.int))->Q (.ref p) H')->(bS d=false->∀H',aG H H'->E (.ref aa1) none H')->fM aa1 vs H Q E
theorem AK(F:Fun K "row_bytes" "row_bytes" rQ f fd)(T:TxtR K mg aa9 aa1)(p:‹15› "is_row" 3 ["thing"] mX)
  (r:‹15› "checks_of" 1 ["behind"] lA):‹14› 4 f fd ["row"] (fM aa1):=by
 refine F.okY ["row","number","body","figures","behind"] λaa A t s H vs Q E hr nD0 h=>?_;obtain⟨v,d,rfl,X,hz,q,qe⟩:=h;refine⟨_,aA (bE (cY (dL (bC p ‹18› bB ‹36›)))
   ‹90›
   aO)
  (aA (a9 (i:=1) nD0 ⋯ ⋯ ‹24›)
  (aA (a9 (i:=2) nD0 ⋯ ⋯ ‹24›)
  (aA (a9 (i:=3) nD0 ⋯ ⋯ (aU (bW ‹33› (bW ‹26› (bW (bD dW (pv 1) aM) aF)))))
  (aA (a9 (i:=4) nD0 ⋯ ⋯ (bD jD (bD jD (bD jD (aU (bW (bD cW (Lk K PySem.F.slot_tuple_index PySem.F.type_tuple_index (Fb K) (cT (v:=.ref aa9) ⋯ T.bj0 ⋯) (aN ‹24› aF)) aM) aF)) (pv 3)) (aU (cN (bL (dI K) ⋯ T.ad8 gN ‹37›) aF))) (pv 2)))
  (aC (aP (bD jD (bC r ‹18› bB ‹62›) (pv 4)))))))),?_⟩
 refine⟨_,rfl,v,d,rfl,X,hz,λY u=>⟨_,rfl,?_⟩⟩;cases x:bS d with
 |false=>exact aZ ⟨(by show 1<=sizeLine;decide),qe x Y u⟩
 |true=>
  refine bH ?_;obtain⟨k,n,b,rfl,hk,n0,n9,y,hf⟩:=oI x;have e:=X.same u;simp only[Den,aQ]at e;obtain⟨a,xs,rfl,ha,y0,r0,e0,k0,y1,r1,e1,k1,y2,r2,e2,⟨m,ys,k2,z,h2⟩,e3⟩:=e;subst e3 k0 k1 k2;subst e2;subst e1;subst e0;have ei:=qA h2 y;subst ei;have fl:=vY hf;have B:SqT K Y a [.str k,.int n,.ref m]:=SqT.of ha;obtain⟨i1,i2⟩:=Fv hk;refine⟨_,rfl,a,_,_,_,rfl,rfl,B,cO (j:=1) rfl,?_⟩;refine⟨_,rfl,a,_,_,_,rfl,rfl,B,cO (j:=2) rfl,?_⟩;refine⟨_,rfl,_,_,rfl,rfl,⟨by decide,by decide⟩,_,rfl,_,_,rfl,rfl,⟨by decide,by decide⟩,_,_,rfl,rfl,(by show (0:Int)<256;decide),_,rfl,_,_,rfl,rfl,(by show (0:Int)<256;decide),(by show 3<=sizeLine;decide),λp3 D=>?_⟩;have G:=aD (o:=.tup [.int (n / 65536),.int (n / 256 % 256),.int (n % 256)]) D;refine⟨⟨aa9,rfl,.inr T.l_KINDS⟩,_,rfl,a,_,_,_,rfl,rfl,G.seqT B,cO (j:=0) rfl,aa9,dM,k,dM.idxOf k,rfl,rfl,T.bj1 _,i1,i2,?_⟩;refine⟨_,_,rfl,rfl,(by show 1<=sizeLine;decide),λp4 I=>?_⟩;have J:=aD (o:=.tup [V.int ((dM.idxOf k:Int)+1)]) I;refine⟨_,rfl,p4,p3,_,_,rfl,rfl,aB,J _ _ aB,(by show 1+3<=sizeLine;decide),λp5 H5 Z g5=>?_⟩;have g2:H5 m=some (.tup ((bX (.tuple b)).map V.int)):=Z _ _ (J _ _ (G _ _ z));refine⟨_,rfl,m,_,rfl,.inr (SqT.of g2),(by show 1<=sizeLine;decide),λp6 L=>?_⟩;have N:=aD (o:=.tup [V.int (((bX (.tuple b)).map V.int).length:Int)]) L;refine⟨p5,p6,_,_,rfl,rfl,N _ _ g5,aB,(by show 4+1<=sizeLine;decide),λp7 H7 S7 g7=>?_⟩;have zl:(100:Nat)<=sizeLine:=by decide
  refine⟨_,rfl,p7,m,_,_,rfl,rfl,g7,S7 _ _ (N _ _ g2),?_,λO H8 S8 g8=>?_⟩
  ·show 5+((bX (.tuple b)).map V.int).length<=sizeLine;rw[length_map];omega
  have eb:([V.int ((dM.idxOf k:Int)+1)]++[V.int (n / 65536),V.int (n / 256 % 256),V.int (n % 256)]++[V.int (((bX (.tuple b)).map V.int).length:Int)]++(bX (.tuple b)).map V.int)=(gO k n (bX (.tuple b))).map V.int:=by
   unfold gO;rw[length_map];simp
  have g:H8 O=some (.tup ((gO k n (bX (.tuple b))).map V.int)):=by rw[<- eb];exact g8
  have lb:(gO k n (bX (.tuple b))).length=5+(bX (.tuple b)).length:=by
   unfold gO;simp;omega
  refine⟨_,rfl,O,_,rfl,g,by omega,λp9 H9 S9 g9=>?_⟩;refine⟨_,rfl,p9,O,_,_,rfl,rfl,g9,S9 _ _ g,?_,λR S U W=>?_⟩
  ·show 2+((gO k n (bX (.tuple b))).map V.int).length<=sizeLine;rw[length_map];omega
  refine q x R S (u.trans (G.trans (J.trans (Z.trans (N.trans (S7.trans (S8.trans (S9.trans U)))))))) ?_;rw[W];simp only[G3,iF,map_append];rfl
end
theorem gG(b:Mf):bX (.tuple (b.map .int))=b:=by
 show (b.map PyData.int).map _=b;rw[map_map];exact map_id _
theorem tO{ns:Mf}(h:∀b∈ns,0<=b/\b<=255):dR (.tuple (ns.map .int))=true:=by
 show (ns.map PyData.int).all (bM 0 255)=true;rw[all_map,all_eq_true];intro b e;have:=h b e;show (decide (0<=b) && decide (b<=255))=true;rw[decide_eq_true this.1,decide_eq_true this.2];rfl
theorem cM(e:D.nx=n)(h:n b H):Dg D b H:=by
 subst e;exact h
theorem aJ(h:n<=100:=by exact le_of_ble_eq_true rfl):n<=sizeLine:=le_trans h (by decide)
theorem eI(k:Str)(n:Int)(b:Mf):(iF k n b).length=7+b.length:=by
 unfold iF gO;simp;omega
abbrev xQ:Stmt:=top 44
abbrev uX:Stmt:=top 45
abbrev xP:Stmt:=top 46
structure TxtB(K:Ma)(mg:Mc)(aa9 aa1 aa7:Addr):Prop extends TxtR K mg aa9 aa1 where
 at6:mg "list" = none
 bl5:∃t,mg "CHECKS_SIZE" = some (.int 2 t)
 bi9:∃t,mg "HEAD_SIZE" = some (.int 7 t)
 af4:dH K aa7=true
 ba2:mg "Broken" = some (.ref aa7)
def dP(e:Mf):Prop:=∀b∈e,0<=b/\b<=255
section
variable{P:Program}{w:World}{K:Ma}{mg:Mc}{base:Heap}{aa9 aa1 aa7:Addr}
end
theorem kJ(h:Den H d v):aQ H [d] [v]:=by
 simp only[aQ];exact⟨v,[],rfl,h,rfl⟩
theorem wF(e:dR d=true):dP (bX d):=by
 cases d with
 |tuple m=>
  have e:m.all (bM 0 255)=true:=e;rw[all_eq_true]at e;intro b f;have f:b∈m.map λd=>match d with | .int i=>i |_=>0:=f
  rw[mem_map]at f;obtain⟨d,o,g⟩:=f;have n:=e d o;cases d with
  |int i=>
   have g:i=b:=g;subst g;simpa [bM] using n
  |_=>exact absurd n (by simp [bM])
 |_=>exact absurd e (by simp [dR])
theorem JM(f:H a=some (.tup g))(h:∀b e,aG H e->e b=some (.tup (sT g lo m))->Q (.ref b) e):ED K (.ref a) lo m H Q:=by
 refine⟨a,g,rfl,SqT.of f,λz=>?_,λ_ p n=>h p _ (aD n) aB⟩;refine h a H (aG.refl H) ?_;rw[f];unfold sT;rw[z.1,z.2,List.drop_zero,Nat.sub_zero,take_length]
section
variable{P:Program}{w:World}{K:Ma}{mg:Mc}{base:Heap}{aa9 aa1 aa7:Addr}
end
mutual
def jK:PyData->Bool
 | .none | .bool _ | .int _=>true
 | .str x=>PyData.strOk x
 | .tuple b=>lP b
 | .list b=>lP b
 | .dict _=>false
def lP:Mj->Bool
 |[]=>true
 |d::b=>jK d && lP b
end
mutual
theorem v5:∀{d:PyData},jK d=true->PyData.eqv d d=true
 | .none,_=>rfl
 | .bool b,_=>by cases b <;> rfl
 | .int i,_=>by simp [PyData.eqv]
 | .str x,_=>by simp [PyData.eqv]
 | .tuple e,h=>by
  simp only[jK]at h;simp only[PyData.eqv];exact rJ h
 | .list e,h=>by
  simp only[jK]at h;simp only[PyData.eqv];exact rJ h
 | .dict _,h=>by simp [jK]at h
theorem rJ:∀{b:Mj},lP b=true->PyData.eqvAll b b=true
 |[],_=>rfl
 |d::b,h=>by
  simp only[lP,and_eq_true]at h;simp only[PyData.eqvAll];rw[v5 h.1,rJ h.2];rfl
end
mutual
theorem ER:∀{d:PyData},jK d=true->PyData.canLay0 d=true
 | .none,_=>rfl
 | .bool b,_=>rfl
 | .int i,_=>rfl
 | .str x,h=>by
  simp only[jK]at h;simp only[PyData.canLay0];exact h
 | .tuple e,h=>by
  simp only[jK]at h;simp only[PyData.canLay0];exact vP h
 | .list e,h=>by
  simp only[jK]at h;simp only[PyData.canLay0];exact vP h
 | .dict _,h=>by simp [jK]at h
theorem vP:∀{b:Mj},lP b=true->PyData.canLayAll0 b=true
 |[],_=>rfl
 |d::b,h=>by
  simp only[lP,and_eq_true]at h;simp only[PyData.canLayAll0];rw[ER h.1,vP h.2];rfl
end
theorem rL:∀{b:Mj},(∀d∈b,PyData.depth d<=n)->PyData.depthAll b<=n
 |[],_=>zero_le _
 |d::b,h=>by
  simp only[PyData.depthAll];exact Nat.max_le.mpr ⟨h d (by simp),rL λx e=>h x (by simp [e])⟩
theorem uV:∀{b:Mj},(∀d∈b,jK d=true)->lP b=true
 |[],_=>rfl
 |d::b,h=>by
  simp only[lP];rw[h d (by simp),uV λx e=>h x (by simp [e])];rfl
theorem Gm(e:Mf):lP (e.map .int)=true:=uV λd b=>by
 rw[mem_map]at b;obtain⟨i,_,rfl⟩:=b;rfl
theorem mY(h:jK d=true)(b:PyData.depth d<=64):SeqAt.shaped d=true:=by
 unfold SeqAt.shaped;rw[ER h,decide_eq_true b];rfl
theorem Ib:bootBuiltins "max" = some (.builtin "max"):=by decide +kernel
theorem gW:bootBuiltins "sorted" = some (.builtin "sorted"):=by decide +kernel
theorem hu1(h:a+64<c):a+1<c:=by omega
abbrev Ent:=Mf×Int×Int
abbrev Mq:=List (Int×Ent)
def fP(k:Str)(n:Int)(b:Mf):PyData:=.tuple [.str k,.int n,.tuple (b.map .int)]
structure Bk where
 es:Mq
 up:Int
 parts:List (Int×Mf)
def bQ(b:Mq)(n:Int):Option Ent:=(b.find? λp=>decide (p.1=n)).map (·.2)
def eR(b:Mq)(n:Int)(e:Ent):Mq:=if (b.any λp=>decide (p.1=n))=true then b.map (λp=>if p.1=n then (p.1,e) else p) else b++[(n,e)]
def gJ(b:Mq)(n:Int):Mq:=b.filter λp=>decide (p.1≠n)
def mD(B:Bk)(n:Int)(b:Mf)(e:Int):Option Bk:=if n<B.up then none else some ⟨eR B.es n (b,0,e),n+1,B.parts⟩
def sK(b:Int):Bk->List (Int×Mf)->Option Bk
 |B,[]=>some B
 |B,p::e=>match mD B p.1 p.2 b with
  |none=>none
  |some f=>sK b f e
def y8(B:Bk)(n m:Int)(b:Int):Option Bk:=if B.parts.map (·.1)=(List.range m.toNat).map (λ(k:Nat)=>n+(k:Int)) then sK b ⟨B.es,B.up,[]⟩ B.parts else none
def Hr(i j:Int):Int:=if j > i then j else i
def dE(B:Bk)(k:Str)(n:Int)(b:Mf)(f:Int):Option Bk:=
 if k = "part" then some ⟨B.es,B.up,B.parts++[(n,b)]⟩
 else if k = "deal" then y8 B n (b.getD 0 0) f
 else if B.parts≠[] then none
 else if k = "put" then mD B n b f
 else if k = "from" then some ⟨B.es,Hr B.up n,B.parts⟩
 else if k = "carried" then some ⟨eR B.es n (b.drop 1,b.getD 0 0,f),Hr B.up (n+1),B.parts⟩
 else match bQ B.es n with
  |none=>some B
  |some e=>if k = "out" then some ⟨eR B.es n (e.1,e.2.1+1,e.2.2),B.up,B.parts⟩ else if k = "new" then some ⟨eR B.es n (e.1,0,e.2.2),B.up,B.parts⟩ else some ⟨gJ B.es n,B.up,B.parts⟩
theorem jY(b:Mq)(n:Int)(e:Ent):(eR b n e).length<=b.length+1:=by
 unfold eR;split
 ·rw[length_map];omega
 ·rw[length_append];exact le_refl _
def fX(H f:Hp):Prop:=∀b e,H b=some (.tup e)->f b=some (.tup e)
theorem aG.tup(s:aG H f):fX H f:=λb g e=>s b _ e
theorem fX.trans(a:fX H g)(b:fX g H2):fX H H2:=λc f e=>b c f (a c f e)
mutual
theorem Eg(e:fX H f):∀{d:PyData}{v:V},lU d=true->Den H d v->Den f d v
 | .none,v,t,h=>by simp only[Den]at h⊢;exact h
 | .bool b,v,t,h=>by simp only[Den]at h⊢;exact h
 | .int i,v,t,h=>by simp only[Den]at h⊢;exact h
 | .str x,v,t,h=>by simp only[Den]at h⊢;exact h
 | .tuple g,v,t,h=>by
  simp only[Den]at h⊢;simp only[lU]at t;obtain⟨a,m,n,o,p⟩:=h;exact⟨a,m,n,e _ _ o,gK e t p⟩
 | .list g,v,t,h=>by simp [lU]at t
 | .dict _,v,t,h=>by simp only[Den]at h
theorem gK(e:fX H g):∀{b:Mj}{f:Mp},fE b=true->aQ H b f->aQ g b f
 |[],f,t,h=>by simp only[aQ]at h⊢;exact h
 |d::b,f,t,h=>by
  simp only[aQ]at h⊢;simp only[fE,and_eq_true]at t;obtain⟨x,r,m,n,o⟩:=h;exact⟨x,r,m,Eg e t.1 n,gK e t.2 o⟩
end
inductive kI(H:Hp)(v:V)(e:Ent):Prop
 |mk:∀t b,v = .ref t->H t=some (.tup [.ref b,.int e.2.1,.int e.2.2])->H b=some (.tup (e.1.map V.int))->kI H v e
theorem kI.t(s:fX H f)(h:kI H v e):kI f v e:=by
 obtain⟨t,b,g,m,n⟩:=h;exact⟨t,b,g,s _ _ m,s _ _ n⟩
def EsR(H:Hp):Mq->Mn->Prop
 |[],[]=>True
 |p::e,q::b=>q.1=Sum.inl p.1/\kI H q.2 p.2/\EsR H e b
 |_,_=>False
theorem EsR.t(s:fX H f):∀{e:Mq}{b:Mn},EsR H e b->EsR f e b
 |[],[],_=>trivial
 |p::e,q::b,h=>⟨h.1,h.2.1.t s,EsR.t s h.2.2⟩
 |[],_::_,h=>h.elim
 |_::_,[],h=>h.elim
theorem EsR.len:∀{e:Mq}{b:Mn},EsR H e b->b.length=e.length
 |[],[],_=>rfl
 |p::e,q::b,h=>by rw[length_cons,length_cons,EsR.len h.2.2]
 |[],_::_,h=>h.elim
 |_::_,[],h=>h.elim
theorem EsR.keys:∀{e:Mq}{b:Mn},EsR H e b->b.map (·.1)=(e.map (·.1)).map Sum.inl
 |[],[],_=>rfl
 |p::e,q::b,h=>by rw[map_cons,map_cons,map_cons,h.1,EsR.keys h.2.2]
 |[],_::_,h=>h.elim
 |_::_,[],h=>h.elim
theorem AV:((Sum.inl a:Key)=Sum.inl b) ↔ a=b:=⟨Sum.inl.inj,λh=>by rw[h]⟩
theorem EsR.val:∀{f:Mq}{b:Mn},EsR H f b->(match bQ f n with |none=>dD b (Sum.inl n)=none |some e=>∃v,dD b (Sum.inl n)=some v/\kI H v e)
 |[],[],_=>rfl
 |p::f,q::b,h=>by
  obtain⟨g,m,o⟩:=h;have r:=EsR.val (n:=n) o;by_cases e:p.1=n
  ·have:bQ (p::f) n=some p.2:=by simp [bQ,e]
   rw[this];exact⟨q.2,iO (by rw[g,e]),m⟩
  ·have s:bQ (p::f) n=bQ f n:=by simp [bQ,e]
   have u:dD (q::b) (Sum.inl n)=dD b (Sum.inl n):=iP (by rw[g,AV];exact e);rw[s,u];exact r
 |[],_::_,h=>h.elim
 |_::_,[],h=>h.elim
theorem EsR.any:∀{e:Mq}{b:Mn},EsR H e b->(b.any λf=>decide (f.1=Sum.inl n))=(e.any λp=>decide (p.1=n))
 |[],[],_=>rfl
 |p::e,q::b,h=>by
  obtain⟨g,o,m⟩:=h;rw[any_cons,any_cons,EsR.any m,g];congr 1;exact decide_eq_decide.mpr AV
 |[],_::_,h=>h.elim
 |_::_,[],h=>h.elim
theorem EsR.mapP(g:kI H v e):∀{m:Mq}{b:Mn},EsR H m b->EsR H (m.map λp=>if p.1=n then (p.1,e) else p) (b.map λo=>if o.1=Sum.inl n then (o.1,v) else o)
 |[],[],_=>trivial
 |p::m,q::b,h=>by
  obtain⟨f,s,r⟩:=h;rw[map_cons,map_cons];by_cases z:p.1=n
  ·rw[if_pos z,if_pos (show q.1=Sum.inl n by rw[f,z])];exact⟨f,g,EsR.mapP g r⟩
  ·rw[if_neg z,if_neg (show ¬q.1=Sum.inl n by rw[f,AV];exact z)];exact⟨f,s,EsR.mapP g r⟩
 |[],_::_,h=>h.elim
 |_::_,[],h=>h.elim
theorem EsR.snoc(g:kI H v e):∀{f:Mq}{b:Mn},EsR H f b->EsR H (f++[(n,e)]) (b++[(Sum.inl n,v)])
 |[],[],_=>⟨rfl,g,trivial⟩
 |p::f,q::b,h=>⟨h.1,h.2.1,EsR.snoc g h.2.2⟩
 |[],_::_,h=>h.elim
 |_::_,[],h=>h.elim
theorem EsR.put(h:EsR H f b)(g:kI H v e):EsR H (eR f n e) (eJ b (Sum.inl n) v):=by
 unfold eR eJ;rw[h.any];by_cases z:(f.any λp=>decide (p.1=n))=true
 ·rw[if_pos z,if_pos z];exact h.mapP g
 ·rw[if_neg z,if_neg z];exact h.snoc g
theorem EsR.drop:∀{b:Mq}{e:Mn},EsR H b e->EsR H (gJ b n) (fA e (Sum.inl n))
 |[],[],_=>trivial
 |p::b,q::e,h=>by
  obtain⟨f,o,r⟩:=h;have m:=EsR.drop (n:=n) r;by_cases z:p.1=n
  ·have g:gJ (p::b) n=gJ b n:=by simp [gJ,z]
   rw[g,yZ (by rw[f,z])];exact m
  ·have g:gJ (p::b) n=p::gJ b n:=by simp [gJ,z]
   rw[g,y4 (by rw[f,AV];exact z)];exact⟨f,o,m⟩
 |[],_::_,h=>h.elim
 |_::_,[],h=>h.elim
def fV(b:List (Int×Mf)):Mj:=b.map λp=>fP "part" p.1 p.2
theorem lB(k:Str)(n:Int)(b:Mf):lU (fP k n b)=true:=by
 have e:∀l:Mf,fE (l.map PyData.int)=true:=by
  intro l
  induction l with
  |nil=>rfl
  |cons x l f=>exact f
 unfold fP;simp only[lU,fE,Bool.true_and,Bool.and_true];exact e b
theorem iK:∀b:List (Int×Mf),fE (fV b)=true
 |[]=>rfl
 |p::b=>by
  show (lU (fP "part" p.1 p.2) && fE (fV b))=true;rw[lB,iK b];rfl
def bkF(b e:Addr)(f:Int):Mo:=[("entries",.ref b),("upcoming",.int f),("parts",.ref e)]
structure BookAt(C:Addr)(H:Hp)(bk de dp:Addr)(B:Bk):Prop where
 self:∃dx,H bk=some (.ins C dx (bkF de dp B.up))
 ent:∃kvs,H de=some (.dK kvs)/\EsR H B.es kvs
 par:∃ps,H dp=some (.lst ps)/\aQ H (fV B.parts) ps
def Frm(e f g:Addr)(H m:Hp):Prop:=∀b o,H b=some o->b≠e->b≠f->b≠g->m b=some o
theorem Frm.refl(b f g:Addr)(H:Hp):Frm b f g H H:=λ_ _ e _ _ _=>e
theorem Frm.trans(a:Frm m n p H t)(b:Frm m n f t H2)(g:f=p\/H f=none):Frm m n p H H2:=λc o e q r s=>by
 refine b c o (a c o e q r s) q r ?_;rintro rfl;rcases g with rfl |g
 ·exact s rfl
 ·rw[g]at e;cases e
theorem aG.frm(s:aG H f):Frm g m dp H f:=λb o e _ _ _=>s b o e
theorem BookAt.tup(h:BookAt C H g m n B)(f:Frm g m n H o):fX H o:=λb t e=>by
 obtain⟨u,p⟩:=h.self;obtain⟨q,r,_⟩:=h.ent;obtain⟨x,s,_⟩:=h.par;exact f b _ e (by rintro rfl;rw[p]at e;cases e) (by rintro rfl;rw[r]at e;cases e) (by rintro rfl;rw[s]at e;cases e)
theorem BookAt.same(h:BookAt C H e f g B)(s:aG H m):BookAt C m e f g B:=by
 obtain⟨n,o⟩:=h.self;obtain⟨b,p,q⟩:=h.ent;obtain⟨r,t,u⟩:=h.par;exact⟨⟨n,s _ _ o⟩,⟨b,s _ _ p,q.t (aG.tup s)⟩,⟨r,s _ _ t,u.same s⟩⟩
theorem BookAt.ne(h:BookAt C H f g m B):f≠g/\f≠m/\g≠m:=by
 obtain⟨p,n⟩:=h.self;obtain⟨o,e,q⟩:=h.ent;obtain⟨r,b,s⟩:=h.par;refine⟨?_,?_,?_⟩
 ·rintro rfl;rw[n]at e;cases e
 ·rintro rfl;rw[n]at b;cases b
 ·rintro rfl;rw[e]at b;cases b
theorem kP(h:H a=some o)(g:∀f,o ≠ .tup f):fX H (upd H a o'):=λb f e=>by
 rw[aH (λz=>by rw[z,h]at e;exact g f (Option.some.inj e))];exact e
theorem wG(h:BookAt C H g f m B)(hr:EsR H e b):BookAt C (upd H f (.dK b)) g f m ⟨e,B.up,B.parts⟩:=by
 obtain⟨n,D,o⟩:=h.ne;obtain⟨p,q⟩:=h.self;obtain⟨r,s,E⟩:=h.ent;obtain⟨u,x,y⟩:=h.par;have t:=kP (o':=.dK b) s (λI z=>by cases z);exact⟨⟨p,by rw[aH n];exact q⟩,⟨b,aB,hr.t t⟩,⟨u,by rw[aH (Ne.symm o)];exact x,gK t (iK _) y⟩⟩
theorem tP(h:BookAt C H e f D B)(u:Int)(g:H b=some (.lst n))(p:aQ H (fV parts) n):BookAt C (upd H e (.ins C dx (bkF f b u))) e f b ⟨B.es,u,parts⟩:=by
 obtain⟨q,E,G⟩:=h.ne;obtain⟨r,o⟩:=h.self;obtain⟨m,s,x⟩:=h.ent;have t:=kP (o':=.ins C dx (bkF f b u)) o (λJ z=>by cases z);have y:b≠e:=by
  rintro rfl;rw[o]at g;cases g
 exact⟨⟨dx,aB⟩,⟨m,by rw[aH (Ne.symm q)];exact s,x.t t⟩,⟨n,by rw[aH y];exact g,gK t (iK _) p⟩⟩
theorem MR(h:BookAt C H n o m B)(p:aQ H (fV b) e):BookAt C (upd H m (.lst e)) n o m ⟨B.es,B.up,b⟩:=by
 obtain⟨E,q,r⟩:=h.ne;obtain⟨f,s⟩:=h.self;obtain⟨g,u,x⟩:=h.ent;obtain⟨y,D,_⟩:=h.par;have t:=kP (o':=.lst e) D (λI z=>by cases z);exact⟨⟨f,by rw[aH q];exact s⟩,⟨g,by rw[aH r];exact u,x.t t⟩,⟨e,aB,gK t (iK _) p⟩⟩
theorem AY:Frm f m n H (upd H f o):=λb u e g _ _=>by rw[aH g];exact e
theorem vV:Frm m f n H (upd H f o):=λb u e _ g _=>by rw[aH g];exact e
theorem MK:Frm m n f H (upd H f o):=λb u e _ _ g=>by rw[aH g];exact e
theorem Cr:hV "parts" (.ref b) (bkF e f u)=bkF e b u:=rfl
structure TxtK(K:Ma)(mg:Mc)(aa9 aa1 aa7 aa3:Addr):Prop extends TxtR K mg aa9 aa1 where
 at6:mg "list" = none
 bl1:mg "max" = none
 ae7:mg "sorted" = none
 af4:dH K aa7=true
 ba2:mg "Broken" = some (.ref aa7)
 cl:Cls K aa3
 ac4:dG K aa3 "entries"
 ab8:dG K aa3 "upcoming"
 ap6:dG K aa3 "parts"
abbrev Gw:Stmt:=bN (top 48) 0
abbrev D6:Stmt:=bN (top 48) 1
abbrev rX:Stmt:=bN (top 48) 2
abbrev o0:Stmt:=bN (top 48) 3
abbrev BH:Stmt:=bN (top 48) 4
abbrev BE:Stmt:=bN (top 48) 5
abbrev x3:Stmt:=bN (top 48) 6
inductive iE(C:Addr)(aa7:Addr)(vs:Mp)(H:Hp)(Q:VK)(E:XK):Prop
 |mk:∀(bk de dp b:Addr)(B:Bk)(n seg:Int)(body:Mf),vs=[.ref bk,.int n,.ref b,.int seg]->BookAt C H bk de dp B->H b=some (.tup (body.map V.int))->B.es.length<1000->(∀B',mD B n body seg=some B'->∀H',Frm bk de dp H H'->BookAt C H' bk de dp B'->Q .non H')->(mD B n body seg=none->∀H',Frm bk de dp H H'->E (.ref aa7) none H')->iE C aa7 vs H Q E
inductive qR(C:Addr)(vs:Mp)(H:Hp)(Q:VK)(x_3:XK):Prop
 |mk:∀(bk de dp:Addr)(B:Bk)(k:Str)(n:Int)(e:Ent),vs=[.ref bk,.str k,.int n]->BookAt C H bk de dp B->bQ B.es n=some e->B.es.length<1000->(∀H',Frm bk de dp H H'->BookAt C H' bk de dp (if k = "out" then ⟨eR B.es n (e.1,e.2.1+1,e.2.2),B.up,B.parts⟩ else if k = "new" then ⟨eR B.es n (e.1,0,e.2.2),B.up,B.parts⟩ else ⟨gJ B.es n,B.up,B.parts⟩)->Q .non H')->qR C vs H Q x_3
def sQ(n:Int)(e:Ent):PyData:=.tuple [.int n,.tuple (e.1.map .int),.int e.2.1]
inductive mW(C:Addr)(vs:Mp)(H:Hp)(Q:VK)(x_3:XK):Prop
 |mk:∀(bk de dp:Addr)(B:Bk)(n:Int)(e:Ent),vs=[.ref bk,.int n]->BookAt C H bk de dp B->bQ B.es n=some e->(∀p H',aG H H'->Den H' (sQ n e) (.ref p)->Q (.ref p) H')->mW C vs H Q x_3
theorem hX(h:k=x):decide (V.str k=V.str x)=true:=decide_eq_true (by rw[h])
theorem gI(h:¬k=x):decide (V.str k=V.str x)=false:=decide_eq_false (λz=>h (V.str.inj z))
section
variable{P:Program}{w:World}{K:Ma}{mg:Mc}{base:Heap}{aa9 aa1 aa7 aa3:Addr}
theorem AO(F:Fun K "enter_put" "Book.enter_put" rX f Z)(T:‹8›):‹14› 1 f Z ["self","number","body","segment"] (iE aa3 aa7):=by
 refine F.okY ["self","number","body","segment"] λaa A G s H vs Q E hr nD0 h=>?_;obtain⟨y,z,dp,b,B,n,e,p,rfl,U,hb,hl,q,I⟩:=h;refine⟨_,aA (bE (aW vI (pv 1) ‹22› (bJ _))
   ‹82›
   aO)
  (aA (fN (hu1 hr.units) ‹22› (pv 1) (aU (aE (pv 2) (aI aM ‹53›))) ⋯)
  (aC (dU (pv 0) (bD cW (pv 1) aM) ⋯))),?_⟩
 obtain⟨V,W⟩:=U.self;refine⟨_,rfl,_,rfl,y,_,V,_,_,rfl,W,T.cl,T.ab8,rfl,_,_,rfl,rfl,_,rfl,?_⟩;show if decide (n<B.up)=true then _ else _
 unfold mD at q I;by_cases D:n<B.up
 ·rw[if_pos (decide_eq_true D)];rw[if_pos D]at I;exact⟨(by show 1<=sizeLine;decide),I rfl H (Frm.refl _ _ _ _)⟩
 rw[if_neg (by rw[decide_eq_true_eq];exact D)];rw[if_neg D]at q;refine cM rfl ?_;refine⟨_,rfl,_,rfl,(by show 3<=sizeLine;decide),λt ht=>?_⟩;have r:=aD (o:=.tup [.ref b,.int 0,.int e]) ht;generalize J:upd H t (.tup [.ref b,.int 0,.int e])=u at r⊢;have g1:u t=some (.tup [.ref b,.int 0,.int e]):=by rw[<- J];exact aB
 have x:=U.same r;obtain⟨m,h2,X⟩:=x.ent;have he:kI u (.ref t) (p,0,e):=⟨t,b,rfl,g1,r _ _ hb⟩;have L:m.length<sizeLine:=by rw[X.len];exact lt_trans hl (by decide)
 refine⟨_,rfl,y,_,V,_,_,rfl,r _ _ W,T.cl,T.ac4,rfl,_,rfl,z,_,rfl,jQ.k (k:=Sum.inl n) h2 L,?_⟩;have g:=wG x (X.put (n:=n) he);have Y:Frm y z dp u (upd u z (.dK (eJ m (Sum.inl n) (.ref t)))):=vV;generalize upd u z (.dK (eJ m (Sum.inl n) (.ref t)))=H2 at g Y⊢;obtain⟨N,O⟩:=g.self;obtain⟨ab,R,S⟩:=g.par;refine⟨_,rfl,_,_,rfl,rfl,_,rfl,y,_,N,_,rfl,O,T.cl,T.ab8,(by show 3<1000;decide),?_⟩;exact q _ rfl _ (((aG.frm r).trans Y (.inl rfl)).trans AY (.inl rfl)) (tP g (n+1) R S)
theorem FX(F:Fun K "change_entry" "Book.change_entry" BH f fd)(T:‹8›):‹14› 1 f fd ["self","kind","number"] (qR aa3):=by
 refine F.okY ["self","kind","number","entry"] λaa A U s H vs Q E hr nD0 h=>?_;obtain⟨L,r,dp,B,k,n,e,rfl,x,he,hl,q⟩:=h;refine⟨_,aA (a9 (i:=3) nD0 ⋯ ⋯ (dO (hu1 hr.units) ‹22› (pv 2) (λ_ _=>rfl)))
  (aC (bE (aW fY (pv 1) bR (bJ _))
   (aC (fN (hu1 hr.units) ‹22› (pv 2) (aU (aN ‹38› (bW (bD cW ‹38› aM) (aN ‹38› aF)))) ⋯))
   (aC (bE (aW fY (pv 1) bR (bJ _))
    (aC (fN (hu1 hr.units) ‹22› (pv 2) (aU (aN ‹38› (aI aM (aN ‹38› aF)))) ⋯))
    ‹77›)))),?_⟩
 obtain⟨N,O⟩:=x.self;obtain⟨m,y,z⟩:=x.ent;have Y:=z.val (n:=n);rw[he]at Y;obtain⟨v,D,t,b,rfl,gt,Z⟩:=Y;have G:SqT K H t [.ref b,.int e.2.1,.int e.2.2]:=SqT.of gt;have dg:cQ H r (.int n) (some (.ref t)):=by
  have:=cQ.k (k:=Sum.inl n) y;rw[D]at this;exact this
 have I:m.length<sizeLine:=by rw[z.len];exact lt_trans hl (by decide)
 refine⟨_,rfl,L,_,N,_,_,rfl,O,T.cl,T.ac4,rfl,_,rfl,r,_,rfl,dg,?_⟩;refine⟨_,rfl,rfl,_,rfl,?_⟩;by_cases R:k = "out"
 ·rw[if_pos R]at q;rw[hX R];refine aZ ?_;refine⟨_,rfl,t,_,_,_,rfl,rfl,G,cO (j:=0) rfl,_,rfl,t,_,_,_,rfl,rfl,G,cO (j:=1) rfl,_,_,rfl,rfl,_,rfl,t,_,_,_,rfl,rfl,G,cO (j:=2) rfl,(by show 3<=sizeLine;decide),λu V=>?_⟩;have g:=aD (o:=.tup [.ref b,.int (e.2.1+1),.int e.2.2]) V;generalize p:upd H u (.tup [.ref b,.int (e.2.1+1),.int e.2.2])=J at g⊢;have W:J u=some (.tup [.ref b,.int (e.2.1+1),.int e.2.2]):=by rw[<- p];exact aB
  have X:kI J (.ref u) (e.1,e.2.1+1,e.2.2):=⟨u,b,rfl,W,g _ _ Z⟩;refine⟨_,rfl,L,_,N,_,_,rfl,g _ _ O,T.cl,T.ac4,rfl,_,rfl,r,_,rfl,jQ.k (k:=Sum.inl n) (g _ _ y) I,?_⟩;exact q _ ((aG.frm g).trans vV (.inl rfl)) (wG (x.same g) ((z.t (aG.tup g)).put X))
 rw[if_neg R]at q;rw[gI R];refine bH ⟨_,rfl,rfl,_,rfl,?_⟩;by_cases S:k = "new"
 ·rw[if_pos S]at q;rw[hX S];refine aZ ?_;refine⟨_,rfl,t,_,_,_,rfl,rfl,G,cO (j:=0) rfl,_,rfl,t,_,_,_,rfl,rfl,G,cO (j:=2) rfl,(by show 3<=sizeLine;decide),λu V=>?_⟩;have g:=aD (o:=.tup [.ref b,.int 0,.int e.2.2]) V;generalize p:upd H u (.tup [.ref b,.int 0,.int e.2.2])=J at g⊢;have W:J u=some (.tup [.ref b,.int 0,.int e.2.2]):=by rw[<- p];exact aB
  have X:kI J (.ref u) (e.1,0,e.2.2):=⟨u,b,rfl,W,g _ _ Z⟩;refine⟨_,rfl,L,_,N,_,_,rfl,g _ _ O,T.cl,T.ac4,rfl,_,rfl,r,_,rfl,jQ.k (k:=Sum.inl n) (g _ _ y) I,?_⟩;exact q _ ((aG.frm g).trans vV (.inl rfl)) (wG (x.same g) ((z.t (aG.tup g)).put X))
 rw[if_neg S]at q;rw[gI S];refine bH ?_;refine⟨_,rfl,L,_,N,_,_,rfl,O,T.cl,T.ac4,rfl,.inr (.inr (.inl ⟨rfl,.inl ⟨m,y⟩⟩)),_,rfl,r,m,Sum.inl n,_,rfl,rfl,y,D,?_⟩;exact q _ vV (wG x z.drop)
theorem FU(F:Fun K "letter" "Book.letter" BE f D)(T:‹8›):‹14› 1 f D ["self","number"] (mW aa3):=by
 refine F.okY ["self","number","entry"] λG A g s H Y Q E hr nD0 h=>?_;obtain⟨I,r,Z,B,n,e,rfl,u,J,q⟩:=h;refine⟨_,aA (a9 (i:=2) nD0 ⋯ ⋯ ‹87›)
  (aC (aP (aU (aE (pv 1) (aN (cG (cV K) (pv 2) aM (λ_ _=>rfl)) (aN (cG (cV K) (pv 2) aM (λ_ _=>rfl)) aF)))))),?_⟩
 obtain⟨L,N⟩:=u.self;obtain⟨O,R,S⟩:=u.ent;have x:=S.val (n:=n);rw[J]at x;obtain⟨v,m,t,b,rfl,U,V⟩:=x;have y:SqT K H t [.ref b,.int e.2.1,.int e.2.2]:=SqT.of U;have W:cQ H r (.int n) (some (.ref t)):=by
  have:=cQ.k (k:=Sum.inl n) R;rw[m]at this;exact this
 refine⟨_,rfl,I,_,L,_,_,rfl,N,T.cl,T.ac4,rfl,_,rfl,r,_,rfl,W,?_⟩;refine⟨_,rfl,_,rfl,t,_,_,_,rfl,rfl,y,cO (j:=0) rfl,_,rfl,t,_,_,_,rfl,rfl,y,cO (j:=1) rfl,(by show 3<=sizeLine;decide),λp X=>?_⟩;have z:=aD (o:=.tup [.int n,.ref b,.int e.2.1]) X;refine q p _ z ?_;unfold sQ;simp only[Den,aQ];exact⟨p,_,rfl,aB,_,_,rfl,rfl,_,_,rfl,⟨b,_,rfl,z _ _ V,cC.mpr rfl⟩,_,_,rfl,rfl,rfl⟩
end
def lT(b:Mq)(n:Int):PyData:=sQ n ((bQ b n).getD ([],0,0))
inductive kX(C:Addr)(vs:Mp)(H:Hp)(Q:VK)(x_3:XK):Prop
 |mk:∀(bk de dp:Addr)(B:Bk),vs=[.ref bk]->BookAt C H bk de dp B->(B.es.length<800/\(B.es.map (·.1)).Pairwise (· <= ·))->(∀ms,List.Perm ms (B.es.map (·.1))->ms.Pairwise (· <= ·)->∀p H',aG H H'->H p=none->Den H' (.list (ms.map (lT B.es))) (.ref p)->Q (.ref p) H')->kX C vs H Q x_3
inductive jG(C:Addr)(aa7:Addr)(vs:Mp)(H:Hp)(Q:VK)(E:XK):Prop
 |mk:∀(bk de dp:Addr)(B:Bk)(n m seg:Int),vs=[.ref bk,.int n,.int m,.int seg]->BookAt C H bk de dp B->0<=n->n<=999999->0<=m->m<=9->B.es.length+B.parts.length<900->(∀B',y8 B n m seg=some B'->∀dq H',Frm bk de dp H H'->H dq=none->BookAt C H' bk de dq B'->Q .non H')->(y8 B n m seg=none->∀H',Frm bk de dp H H'->E (.ref aa7) none H')->jG C aa7 vs H Q E
theorem hW(h:n∈es.map (·.1)):∃e,bQ es n=some e:=by
 induction es with
 |nil=>simp at h
 |cons p es b=>
  by_cases e:p.1=n
  ·exact⟨p.2,by simp [bQ,e]⟩
  ·have:n∈es.map (·.1):=by
    rw[map_cons,mem_cons]at h;rcases h with h |h
    ·exact absurd h.symm e
    ·exact h
   obtain⟨x,f⟩:=b this;exact⟨x,by simpa [bQ,e] using f⟩
theorem AS(n:Int)(e:Ent):lU (sQ n e)=true:=by
 have b:∀l:Mf,fE (l.map PyData.int)=true:=by
  intro l
  induction l with
  |nil=>rfl
  |cons x l f=>exact f
 unfold sQ;simp only[lU,fE,Bool.true_and,Bool.and_true];exact b _
theorem iJ:∀{H:Hp}{f:Mj}{b:Mp},b.length=f.length->(∀(i:Nat)(y:V),b[i]? = some y->∃d,f[i]? = some d/\Den H d y)->aQ H f b
 |H,[],[],_,_=>by simp only[aQ]
 |H,d::f,y::b,g,h=>by
  simp only[aQ];obtain⟨m,e,n⟩:=h 0 y rfl;cases (Option.some.inj e:d=m);exact⟨y,b,rfl,n,iJ (by simpa using g) λi z o=>h (i+1) z o⟩
 |H,[],y::b,g,_=>by simp at g
 |H,d::f,[],g,_=>by simp at g
theorem nG(b e:Mf):PyData.eqv (.list (b.map .int)) (.list (e.map .int))=decide (b=e):=by
 show PyData.eqvAll _ _=_;exact PySem.W.ked_eqvAll b e
theorem dX(b:Mf):SeqAt.shaped (.list (b.map .int))=true:=by
 unfold SeqAt.shaped;have e:PyData.canLay0 (.list (b.map .int))=true:=Bw b;have f:PyData.depth (.list (b.map .int))=1:=by
  show PyData.depthAll (b.map .int)+1=1;rw[depth_ints]
 rw[e,f];rfl
theorem u8(b:Int):∀{g:List (Int×Mf)}{B f:Bk},sK b B g=some f->f.parts=B.parts
 |[],B,f,h=>by
  cases (Option.some.inj h:B=f);rfl
 |p::g,B,f,h=>by
  unfold sK at h;cases e:mD B p.1 p.2 b with
  |none=>rw[e]at h;cases h
  |some m=>
   rw[e]at h;have:=u8 b h;rw[this];unfold mD at e;split at e
   ·cases e
   ·cases (Option.some.inj e);rfl
section
variable{P:Program}{w:World}{K:Ma}{mg:Mc}{base:Heap}{aa9 aa1 aa7 aa3:Addr}
theorem DA(F:Fun K "letters" "Book.letters" x3 f fd)(T:‹8›)(J:‹16› aa3 "letter" 1 ["self","number"] (mW aa3)):‹14› 2 f fd ["self"] (kX aa3):=by
 refine F.okY ["self"] λaa A L s H vs Q E hr nD0 h=>?_;obtain⟨G,Z,dp,B,rfl,N,hl,q⟩:=h;refine⟨_,aC (aP (cZ ["number"] [("self",0)] ⋯ ‹76› ‹34› ‹44› (λC s2 H2 ex=>(cP J T.cl ‹18› bB (pv 1) ‹36›)))),?_⟩;obtain⟨dx,h1⟩:=N.self;obtain⟨O,h2,h3⟩:=N.ent;refine⟨_,rfl,G,_,dx,_,_,rfl,h1,T.cl,T.ac4,rfl,Z,O,_,rfl,h2,h3.keys,.inr hl.2,by rw[length_map];omega,λp g b pw hp=>?_⟩;have I:=aD (o:=.lst (g.map .int)) hp;generalize R:upd H p (.lst (g.map .int))=H1 at I⊢;have g1:H1 p=some (.lst (g.map .int)):=by rw[<- R];exact aB
 have lm:(g.map V.int).length=g.length:=length_map _;have pl:=b.length_eq;rw[length_map]at pl;refine⟨p,rfl,⟨_,SqL.of g1⟩,?_⟩;refine cX (bP (K:=K) (SqL.of g1)) ?zl (λi y S=>∃n,g[i]? = some n/\Den S (lT B.es n) y) (λi y H1 H2 s h=>by obtain⟨n,e,h⟩:=h;exact⟨n,e,h.n s (AS _ _)⟩) (λσ=>∃z,σ = [z,some (.ref G)]) ?z0 ?_ ?_
 case zl=>
  rw[lm,pl];exact le_of_lt (lt_trans hl.1 (by decide))
 case z0=>exact⟨none,rfl⟩
 ·intro i x ab H3 hi U s3 m Q' W;obtain⟨z,rfl⟩:=U;rw[getElem?_map]at m;cases e:g[i]? with
  |none=>rw[e]at m;cases m
  |some n=>
   rw[e]at m;cases m;have X:n∈B.es.map (·.1):=b.mem_iff.mp (mem_of_getElem? e);obtain⟨en,r⟩:=hW X;have t:aG H H3:=I.trans s3;refine⟨_,rfl,G,dx,_,rfl,t _ _ h1,rfl,_,rfl,G,Z,dp,B,n,en,rfl,N.same t,r,λp4 H4 S4 d4=>?_⟩;refine W _ _ _ ⟨_,rfl⟩ S4 ⟨n,e,?_⟩;unfold lT;rw[r];exact d4
 ·intro D ys S hD s' Y u hR;refine q g b pw D S (I.trans s') (I.free hD) ?_;simp only[Den];refine⟨D,ys,rfl,Y,iJ (by rw[length_map,u,lm]) λi y e=>?_⟩;obtain⟨n,e1,e2⟩:=hR i y e;exact⟨_,by rw[getElem?_map,e1];rfl,e2⟩
theorem wO(F:Fun K "enter_deal" "Book.enter_deal" o0 f fd)(T:‹8›)(ah:‹16› aa3 "enter_put" 1 ["self","number","body","segment"] (iE aa3 aa7)):‹14› 2 f fd ["self","number","many","segment"] (jG aa3 aa7):=by
 refine F.okY ["self","number","many","segment","parts","part"] λa3 A ai s H vs Q E hr nD0 h=>?_;obtain⟨I,U,r,B,n,m,g,rfl,hB,n0,n9,m0,m9,hl,q,qe⟩:=h;refine⟨_,aA (a9 (i:=4) nD0 ⋯ ⋯ ‹22›)
  (aA (dU (pv 0) (cA aF) ⋯)
  (aA (bE (aW (vH hr.units) (cZ ["part"] [] ⋯ (bV K (pv 4)) (λC s2 H2 ex=>(bK (i:=0) (show List.Nodup (["part"]:Mg) by decide +kernel) ⋯ (Or.inl ⋯))) ‹44› (λC s2 H2 ex=>‹24›)) (vE ⋯ ⋯ T.at6 ⋯ T.ai3 (aE (pv 1) (bW (bD cW (pv 1) (pv 2)) aF))) (bJ _))
   ‹82›
   aO)
  (aC (fQ (kB eE) ⋯ (bV K (pv 4)) (bK (i:=5) nD0 ⋯ ⋯)
   (aC (aX (cP ah T.cl ‹18› bT (pv 0) (aN ‹60› (aN ‹60› ‹53›))))))))),?_⟩
 obtain⟨X,h1⟩:=hB.self;obtain⟨W,h4,h5⟩:=hB.par;obtain⟨a4,ab,aj⟩:=hB.ne;refine⟨_,rfl,I,_,X,_,_,rfl,h1,T.cl,T.ap6,rfl,?_⟩;refine⟨(by show 0<=sizeLine;decide),λO J=>?_⟩;have S1:=aD (o:=.lst []) J;generalize ak:upd H O (.lst [])=H1 at S1⊢;have g1:H1 O=some (.lst []):=by rw[<- ak];exact aB
 refine⟨_,rfl,I,_,X,_,rfl,S1 _ _ h1,T.cl,T.ap6,(by show 3<1000;decide),?_⟩;have ac:=tP (hB.same S1) (dx:=X) B.up (parts:=[]) g1 (by simp only[fV,map_nil,aQ]);have F2:Frm I U r H (upd H1 I (.ins aa3 X (bkF U O B.up))):=(aG.frm S1).trans AY (.inl rfl);have g2:upd H1 I (.ins aa3 X (bkF U O B.up)) r=some (.lst W):=by rw[aH (Ne.symm ab)];exact S1 _ _ h4
 have T2:fX H (upd H1 I (.ins aa3 X (bkF U O B.up))):=hB.tup F2;rw[Cr];generalize upd H1 I (.ins aa3 X (bkF U O B.up))=H2 at ac F2 g2 T2⊢;have d2:aQ H2 (fV B.parts) W:=gK T2 (iK _) h5;have lp:W.length=B.parts.length:=by rw[h5.length];unfold fV;rw[length_map]
 have ad:O≠r:=λz=>by rw[z,h4]at J;cases J
 refine⟨_,rfl,r,rfl,⟨_,SqL.of g2⟩,?_⟩;refine cX (bP (K:=K) (SqL.of g2)) ?zl (λi y _=>∃p,B.parts[i]? = some p/\y = .int p.1) (λi y H1 H2 s h=>h) (λσ=>σ.length=1) ?z0 ?_ ?_
 case zl=>
  rw[lp];exact le_of_lt (lt_trans (show _<900 by omega) (by decide))
 case z0=>rfl
 ·intro i x am H3 hi an s3 hx Q' ao;obtain⟨d,L,dn⟩:=d2.get hx;unfold fV at L;rw[getElem?_map]at L;cases e:B.parts[i]? with
  |none=>rw[e]at L;cases L
  |some u=>
   rw[e]at L;cases (Option.some.inj L:fP "part" u.1 u.2=d);have G:=dn.same s3;unfold fP at G;simp only[Den,aQ]at G;obtain⟨t,xt,rfl,gt,y0,r0,f0,f1,y1,r1,f2,f3,y2,r2,f4,⟨pb,yb,f5,gb,db⟩,f6⟩:=G;subst f6 f5 f4 f3 f2 f1 f0
   match am,an with
   |[z],_=>
    refine⟨_,rfl,t,_,_,_,rfl,rfl,SqT.of gt,cO (j:=1) rfl,?_⟩;exact ao _ _ _ rfl (aG.refl _) ⟨u,e,rfl⟩
 intro D ys H3 hD S3 g3 a2 hR;have ey:ys=(B.parts.map (·.1)).map V.int:=by
  apply ext_getElem?;intro i;cases e:ys[i]? with
  |none=>
   have:ys.length<=i:=List.getElem?_eq_none_iff.mp e;rw[getElem?_eq_none (by rw[length_map,length_map];omega)]
  |some y=>
   obtain⟨p,e1,e2⟩:=hR i y e;rw[getElem?_map,getElem?_map,e1,e2];rfl
 have ap:(n+m-n).toNat=m.toNat:=by omega
 refine⟨_,rfl,_,rfl,_,rfl,_,_,rfl,rfl,n,n+m,rfl,⟨by omega,by omega,by omega,by omega⟩,le_trans (show _<=9 by omega) (by decide),λp4 aq=>?_⟩;rw[ap];have er:((List.range m.toNat).map λ(k:Nat)=>V.int (n+(k:Int)))=((List.range m.toNat).map λ(k:Nat)=>n+(k:Int)).map V.int:=by rw[map_map];rfl
 rw[er];have S4:=aD (o:=.lst (((List.range m.toNat).map λ(k:Nat)=>n+(k:Int)).map V.int)) aq;generalize ar:upd H3 p4 (.lst (((List.range m.toNat).map λ(k:Nat)=>n+(k:Int)).map V.int))=Y at S4⊢;have g4:Y p4=some (.lst (((List.range m.toNat).map λ(k:Nat)=>n+(k:Int)).map V.int)):=by rw[<- ar];exact aB
 have dA:Den Y (.list ((B.parts.map (·.1)).map .int)) (.ref D):=by
  simp only[Den];exact⟨D,ys,rfl,S4 _ _ g3,by rw[ey];exact cC.mpr rfl⟩
 have dB:Den Y (.list (((List.range m.toNat).map λ(k:Nat)=>n+(k:Int)).map .int)) (.ref p4):=by
  simp only[Den];exact⟨p4,_,rfl,g4,cC.mpr rfl⟩
 refine⟨_,_,dA,dB,dX _,dX _,_,rfl,?_⟩;rw[nG];have F4:Frm I U r H Y:=F2.trans (aG.frm (S3.trans S4)) (.inl rfl);unfold y8 at q qe;by_cases hc:B.parts.map (·.1)=(List.range m.toNat).map λ(k:Nat)=>n+(k:Int)
 case neg=>
  rw[if_neg hc]at qe;rw[decide_eq_false hc];exact aZ ⟨(by show 1<=sizeLine;decide),qe rfl Y F4⟩
 rw[if_pos hc]at q qe;rw[decide_eq_true hc];refine bH ?_;refine cM rfl ?_;have as:=ac.same (S3.trans S4);have ae:Y r=some (.lst W):=S4 _ _ (S3 _ _ g2);have d4:aQ Y (fV B.parts) W:=(d2.same S3).same S4;refine⟨_,rfl,r,rfl,⟨_,SqL.of ae⟩,?_⟩;have au:SqL K (λa=>if a=r then some (.lst W) else none) r W:=SqL.of (if_pos rfl);refine fR (H0:=λa=>if a=r then some (.lst W) else none) (bP (K:=K) au) (λi σ H'=>H' r=some (.lst W)/\fX Y H'/\Frm I U r H H'/\i<=B.parts.length/\∃R z5,BookAt aa3 H' I U O R/\R.es.length<=B.es.length+i/\sK g ⟨B.es,B.up,[]⟩ B.parts=sK g R (B.parts.drop i)/\σ = [some (.ref I),some (.int n),some (.int m),some (.int g),some (.ref r),z5]) ?i0 ?kp ?_ ?_
 case i0=>exact⟨ae,λ_ _ e=>e,F4,zero_le _,_,none,as,le_refl _,rfl,rfl⟩
 case kp=>
  intro i σ H' h b o e;by_cases z:b=r
  ·subst z;have e:some (HO.lst W)=some o:=by simpa using e
   rw[<- e];exact h.1
  ·have e:none=some o:=by simpa [z] using e
   cases e
 ·rintro i x σ H5 H6 hi ⟨af,t5,f5,av,R,z5,Z,aw,N,rfl⟩ s6 hx;obtain⟨d,L,dn⟩:=d4.get hx;unfold fV at L;rw[getElem?_map]at L;cases e:B.parts[i]? with
  |none=>rw[e]at L;cases L
  |some u=>
   rw[e]at L;cases (Option.some.inj L:fP "part" u.1 u.2=d);have G:=Eg (t5.trans (aG.tup s6)) (lB _ _ _) dn;unfold fP at G;simp only[Den,aQ]at G;obtain⟨t,xt,rfl,gt,y0,r0,f0,f1,y1,r1,f2,f3,y2,r2,f4,⟨pb,yb,ax,gb,db⟩,f6⟩:=G;have eb:=cC.mp db;subst eb f6 ax f4 f3 f2 f1 f0;have iL:i<B.parts.length:=(List.getElem?_eq_some_iff.mp e).1;have ed:B.parts.drop i=u::B.parts.drop (i+1):=by
    rw[drop_eq_getElem_cons iL];have:=(List.getElem?_eq_some_iff.mp e).2;rw[this]
   rw[ed]at N;have aa:=Z.same s6;obtain⟨ay,az⟩:=aa.self;refine⟨_,rfl,I,ay,_,rfl,az,rfl,_,rfl,t,_,_,_,rfl,rfl,SqT.of gt,cO (j:=1) rfl,_,rfl,t,_,_,_,rfl,rfl,SqT.of gt,cO (j:=2) rfl,_,rfl,I,U,O,pb,R,u.1,g,u.2,rfl,aa,gb,by omega,λB' S H7 f7 a0=>?_,λhn H7 f7=>?_⟩
   ·have ag:O=r\/H O=none:=.inr J;have a1:Frm I U r H H7:=(f5.trans (aG.frm (dp:=r) s6) (.inl rfl)).trans f7 ag;refine⟨f7 _ _ (s6 _ _ af) (Ne.symm ab) (λz=>aj z.symm) (Ne.symm ad),(t5.trans (aG.tup s6)).trans (aa.tup f7),a1,iL,B',_,a0,?_,?_,rfl⟩
    ·unfold mD at S;split at S
     ·cases S
     ·cases (Option.some.inj S);have:=jY R.es u.1 (u.2,0,g);show (eR R.es u.1 (u.2,0,g)).length<=_;omega
    ·rw[N];show (match mD R u.1 u.2 g with |none=>none |some B'=>sK g B' (B.parts.drop (i+1)))=_;rw[S]
   ·refine qe ?_ H7 ((f5.trans (aG.frm (dp:=r) s6) (.inl rfl)).trans f7 (.inr J));rw[N];show (match mD R u.1 u.2 g with |none=>none |some B'=>sK g B' (B.parts.drop (i+1)))=none;rw[hn]
 ·rintro σ H5 ⟨af,t5,f5,av,R,z5,Z,aw,N,rfl⟩;rw[lp,List.drop_of_length_le (le_refl _)]at N;exact q R N O H5 f5 J Z
end
inductive oV(C:Addr)(aa7:Addr)(vs:Mp)(H:Hp)(Q:VK)(E:XK):Prop
 |mk:∀(bk de dp pr:Addr)(B:Bk)(k:Str)(n seg:Int)(body:Mf),vs=[.ref bk,.ref pr,.int seg]->BookAt C H bk de dp B->Den H (fP k n body) (.ref pr)->bS (fP k n body)=true->B.es.length+B.parts.length<900->(∀B',dE B k n body seg=some B'->∀dq H',Frm bk de dp H H'->(dq=dp\/H dq=none)->BookAt C H' bk de dq B'->Q .non H')->(dE B k n body seg=none->∀H',Frm bk de dp H H'->E (.ref aa7) none H')->oV C aa7 vs H Q E
inductive zY(C:Addr)(vs:Mp)(H:Hp)(Q:VK)(x_3:XK):Prop
 |mk:∀(bk dx:Addr),vs=[.ref bk]->H bk=some (.ins C dx [])->(∀de dp H',(∀b o,H b=some o->b≠bk->H' b=some o)->H de=none->H dp=none->BookAt C H' bk de dp ⟨[],0,[]⟩->Q .non H')->zY C vs H Q x_3
theorem yA(h:bS (fP k n body)=true):k∈dM/\0<=n/\n<=999999/\(k = "deal"->1<=body.length/\1<=body.getD 0 0/\body.getD 0 0<=9)/\(k = "carried"->1<=body.length)/\body.length<=61:=by
 unfold fP at h;simp only[bS,and_eq_true]at h;obtain⟨m,e,p,b⟩:=h;rw[gG]at b;simp only[bM,and_eq_true,decide_eq_true_eq]at e;refine⟨by simpa using m,e.1,e.2,?_,?_,?_⟩
 ·rintro rfl;unfold fG at b;rw[if_neg (by decide),if_neg (by decide),if_pos rfl]at b;simp only[and_eq_true,decide_eq_true_eq]at b;obtain⟨⟨o,f⟩,g⟩:=b
  match body,o,f,g with
  |[x],_,f,g=>exact⟨le_refl _,f,g⟩
 ·rintro rfl;unfold fG at b;rw[if_neg (by decide),if_pos rfl]at b;simp only[and_eq_true,decide_eq_true_eq]at b;exact b.1.1
 ·unfold fG at b;split at b
  ·have:=of_decide_eq_true b;omega
  ·split at b
   ·simp only[and_eq_true,decide_eq_true_eq]at b;omega
   ·split at b
    ·simp only[and_eq_true,decide_eq_true_eq]at b;omega
    ·have:=of_decide_eq_true b;omega
theorem zC(h:1<=b.length):sT b (some 1) none=b.drop 1:=by
 unfold sT;have e:HT.sIx b.length 0 (some 1)=1:=(HT.JP b.length 0 1).trans (Nat.min_eq_left h);rw[e,HT.Gz,List.take_of_length_le (by rw[List.length_drop];omega)]
section
variable{P:Program}{w:World}{K:Ma}{mg:Mc}{base:Heap}{aa9 aa1 aa7 aa3:Addr}
theorem Jv(F:Fun K "__init__" "Book.__init__" Gw f S)(T:‹8›):‹14› 1 f S ["self"] (zY aa3):=by
 refine F.okY ["self"] λU A G s H V Q E hr nD0 h=>?_;obtain⟨m,t,rfl,I,q⟩:=h;refine⟨_,aA (dU (pv 0) iY ⋯)
  (aA (dU (pv 0) aM ⋯)
  (aC (dU (pv 0) (cA aF) ⋯))),?_⟩
 refine λp u=>?_;have n:m≠p:=λz=>by rw[z,u]at I;cases I
 refine⟨_,rfl,m,_,t,_,rfl,by rw[aH n];exact I,T.cl,T.ac4,(by show 0<1000;decide),?_⟩;refine⟨_,rfl,m,_,t,_,rfl,aB,T.cl,T.ab8,(by show 1<1000;decide),?_⟩;refine⟨(by show 0<=sizeLine;decide),λB g=>?_⟩;generalize x:upd (upd (upd H p (.dK [])) m (.ins aa3 t (hV "entries" (.ref p) []))) m (.ins aa3 t (hV "upcoming" (.int 0) (hV "entries" (.ref p) [])))=J at g⊢;have N:J m=some (.ins aa3 t (hV "upcoming" (.int 0) (hV "entries" (.ref p) []))):=by rw[<- x];exact aB
 have O:J p=some (.dK []):=by rw[<- x,aH (Ne.symm n),aH (Ne.symm n)];exact aB
 have R:∀b o,H b=some o->b≠m->J b=some o:=λb o e D=>by
  rw[<- x,aH D,aH D,aH (λz=>by rw[z,u]at e;cases e)];exact e
 have y:m≠B:=λz=>by rw[<- z,N]at g;cases g
 have L:p≠B:=λz=>by rw[<- z,O]at g;cases g
 have r:H B=none:=by
  cases e:H B with
  |none=>rfl
  |some o=>rw[R B o e (Ne.symm y)]at g;cases g
 refine⟨_,rfl,m,_,t,_,rfl,by rw[aH y];exact N,T.cl,T.ap6,(by show 2<1000;decide),?_⟩;refine q p B _ (λb o e D=>?_) u r ⟨⟨t,?_⟩,⟨[],?_,trivial⟩,⟨[],?_,by simp only[fV,map_nil,aQ]⟩⟩
 ·rw[aH D,aH (λz=>by rw[z,r]at e;cases e)];exact R b o e D
 ·rw[aB];rfl
 ·rw[aH (Ne.symm n),aH L];exact O
 ·rw[aH (Ne.symm y)];exact aB
theorem He(F:Fun K "enter" "Book.enter" D6 f fd)(T:‹8›)(af:‹16› aa3 "enter_put" 1 ["self","number","body","segment"] (iE aa3 aa7))
  (ag:‹16› aa3 "enter_deal" 2 ["self","number","many","segment"] (jG aa3 aa7)) (ah:‹16› aa3 "change_entry" 1 ["self","kind","number"] (qR aa3)):‹14› 3 f fd ["self","row","segment"] (oV aa3 aa7):=by
 refine F.okY ["self","row","segment","kind","number","body"] λao A ai s H vs Q E hr nD0 h=>?_;obtain⟨g,O,r,pr,B,k,n,m,b,rfl,y,hd,aa,hl,q,p⟩:=h;refine⟨_,aA (a9 (i:=3) nD0 ⋯ ⋯ ‹21›)
  (aA (a9 (i:=4) nD0 ⋯ ⋯ ‹21›)
  (aA (a9 (i:=5) nD0 ⋯ ⋯ ‹21›)
  (aC (bE ‹54›
   (aC (aX (iZ K PySem.F.plainAttrs_list PySem.F.slot_list_append PySem.F.type_list_append iM ‹22› ‹32›)))
   (aC (bE ‹54›
    (aC (aX (cP ag T.cl ‹18› bT (pv 0) (aE (pv 4) (aN ‹60› ‹37›)))))
    (aC (bE (iW K ‹22›)
     ‹82›
     (aC (bE ‹54›
      (aC (aX (cP af T.cl ‹18› bT (pv 0) (aE (pv 4) (aE (pv 5) ‹37›)))))
      (aC (bE ‹54›
       (aC (dU (pv 0) (bL (zE ⋯) ⋯ T.bl1 Ib (gE ‹22› ‹62›)) ⋯))
       (aC (bE ‹54›
        (aA (fN (hu1 hr.units) ‹22› (pv 4) (aU (aN (mG (Ds K) (pv 5) (m4 aM) tF) (aN ‹60› ‹37›))) ⋯)
        (aC (dU (pv 0) (bL (zE ⋯) ⋯ T.bl1 Ib (gE ‹22› (bW (bD cW (pv 4) aM) aF))) ⋯)))
        (aC (bE (oA (HM (hu1 hr.units) (pv 4) ‹22›))
         (aC (aX (cP ah T.cl ‹18› bB (pv 0) (aE (pv 3) ‹62›))))
         aO)))))))))))))))),?_⟩
 obtain⟨hk,n0,n9,R,ab,ap⟩:=yA aa;obtain⟨D,G⟩:=y.self;obtain⟨I,h2,h3⟩:=y.ent;obtain⟨S,h4,h5⟩:=y.par;have U:=hd;unfold fP at U;simp only[Den,aQ]at U;obtain⟨t,xt,et,gt,y0,r0,f0,f1,y1,r1,f2,f3,y2,r2,f4,⟨pb,yb,f5,gb,db⟩,f6⟩:=U;have eb:=cC.mp db;cases et;subst eb f6 f5 f4 f3 f2 f1 f0;have sq:SqT K H pr [.str k,.int n,.ref pb]:=SqT.of gt;have ac:SqT K H pb (b.map V.int):=SqT.of gb;have lp:S.length=B.parts.length:=by rw[h5.length];unfold fV;rw[length_map]
 have aj:I.length<sizeLine:=by rw[h3.len];exact lt_trans (show _<900 by omega) (by decide)
 refine⟨_,rfl,pr,_,_,_,rfl,rfl,sq,cO (j:=0) rfl,_,rfl,pr,_,_,_,rfl,rfl,sq,cO (j:=1) rfl,_,rfl,pr,_,_,_,rfl,rfl,sq,cO (j:=2) rfl,?_⟩;unfold dE at q p;refine⟨_,rfl,rfl,_,rfl,?_⟩;by_cases k1:k = "part"
 ·rw[if_pos k1]at q;rw[hX k1];refine aZ ?_;refine⟨_,rfl,g,_,D,_,_,rfl,G,T.cl,T.ap6,rfl,.inl ⟨rfl,_,SqL.of h4⟩,_,rfl,r,_,_,rfl,rfl,h4,by rw[lp];exact lt_trans (show _<900 by omega) (by decide),?_⟩;refine q _ rfl r _ MK (.inl rfl) (MR y ?_);show aQ H (fV (B.parts++[(n,b)])) (S++[.ref pr]);unfold fV;rw[map_append];refine h5.app (kJ ?_);rw[<- k1];exact hd
 rw[if_neg k1]at q p;rw[gI k1];refine bH ⟨_,rfl,rfl,_,rfl,?_⟩;by_cases k2:k = "deal"
 ·rw[if_pos k2]at q p;rw[hX k2];refine aZ ?_;obtain⟨b1,b2,b3⟩:=R k2;have W:atI (b.map V.int) 0=some (.int (b.getD 0 0)):=by
   refine cO (j:=0) ?_;rw[getElem?_map,getD_eq_getElem?_getD,getElem?_eq_getElem (by omega)];rfl
  refine⟨_,rfl,g,D,_,rfl,G,rfl,_,rfl,_,rfl,pb,_,_,_,rfl,rfl,ac,W,_,rfl,g,O,r,B,n,b.getD 0 0,m,rfl,y,n0,n9,by omega,b3,hl,λB' X dq J L hq h'=>q B' X dq J L (.inr hq) h',λhn J L=>p hn J L⟩
 rw[if_neg k2]at q p;rw[gI k2];refine bH ?_;refine⟨_,rfl,g,_,D,_,_,rfl,G,T.cl,T.ap6,rfl,r,S,rfl,SqL.of h4,?_⟩;by_cases kp:B.parts=[]
 case neg=>
  rw[if_pos kp]at p;have:(!S.isEmpty)=true:=by
   cases S with
   |nil=>
    rw[length_nil]at lp;exact absurd (List.length_eq_zero_iff.mp lp.symm) kp
   |cons _ _=>rfl
  rw[this];exact aZ ⟨(by show 1<=sizeLine;decide),p rfl H (Frm.refl _ _ _ _)⟩
 rw[if_neg (λz=>z kp)]at q p;have:(!S.isEmpty)=false:=by
  cases S with
  |nil=>rfl
  |cons _ _=>
   rw[kp]at lp;simp at lp
 rw[this];refine bH ⟨_,rfl,rfl,_,rfl,?_⟩;by_cases k3:k = "put"
 ·rw[if_pos k3]at q p;rw[hX k3];refine aZ ?_;refine⟨_,rfl,g,D,_,rfl,G,rfl,_,rfl,_,rfl,_,rfl,g,O,r,pb,B,n,m,b,rfl,y,gb,by omega,λB' X J L h'=>q B' X r J L (.inl rfl) h',λhn J L=>p hn J L⟩
 rw[if_neg k3]at q p;rw[gI k3];refine bH ⟨_,rfl,rfl,_,rfl,?_⟩;by_cases k4:k = "from"
 ·rw[if_pos k4]at q;rw[hX k4];refine aZ ?_;refine⟨_,rfl,g,_,D,_,_,rfl,G,T.cl,T.ab8,rfl,_,rfl,_,_,rfl,_,rfl,g,_,D,_,rfl,G,T.cl,T.ab8,(by show 3<1000;decide),?_⟩;exact q _ rfl r _ AY (.inl rfl) (tP y (Hr B.up n) h4 h5)
 rw[if_neg k4]at q p;rw[gI k4];refine bH ⟨_,rfl,rfl,_,rfl,?_⟩;by_cases k5:k = "carried"
 ·rw[if_pos k5]at q;rw[hX k5];refine aZ ?_;have b1:=ab k5;have W:atI (b.map V.int) 0=some (.int (b.getD 0 0)):=by
   refine cO (j:=0) ?_;rw[getElem?_map,getD_eq_getElem?_getD,getElem?_eq_getElem (by omega)];rfl
  refine⟨_,rfl,_,rfl,?_⟩;dsimp only[Df];refine JM gb λp5 H5 S5 g5=>?_;rw[zC (by rw[length_map];exact b1),<- List.map_drop]at g5;refine⟨_,rfl,pb,_,_,_,rfl,rfl,S5.seqT ac,W,_,rfl,(by show 3<=sizeLine;decide),λu hu=>?_⟩;have S6:=aD (o:=.tup [.ref p5,.int (b.getD 0 0),.int m]) hu;generalize ak:upd H5 u (.tup [.ref p5,.int (b.getD 0 0),.int m])=Y at S6⊢;have g6:Y u=some (.tup [.ref p5,.int (b.getD 0 0),.int m]):=by rw[<- ak];exact aB
  have x:aG H Y:=S5.trans S6;have hE:kI Y (.ref u) (b.drop 1,b.getD 0 0,m):=⟨u,p5,rfl,g6,S6 _ _ g5⟩;refine⟨_,rfl,g,_,D,_,_,rfl,x _ _ G,T.cl,T.ac4,rfl,_,rfl,O,_,rfl,jQ.k (k:=Sum.inl n) (x _ _ h2) aj,?_⟩;have N:=wG (y.same x) ((h3.t (aG.tup x)).put (n:=n) hE);have F7:Frm g O r Y (upd Y O (.dK (eJ I (Sum.inl n) (.ref u)))):=vV;generalize upd Y O (.dK (eJ I (Sum.inl n) (.ref u)))=H7 at N F7⊢;obtain⟨ad,ae⟩:=N.self;obtain⟨aq,al,am⟩:=N.par;refine⟨_,rfl,g,_,ad,_,_,rfl,ae,T.cl,T.ab8,rfl,_,rfl,_,_,rfl,rfl,_,_,rfl,_,rfl,g,_,ad,_,rfl,ae,T.cl,T.ab8,(by show 3<1000;decide),?_⟩;exact q _ rfl r _ (((aG.frm x).trans F7 (.inl rfl)).trans AY (.inl rfl)) (.inl rfl) (tP N (Hr B.up (n+1)) al am)
 rw[if_neg k5]at q p;rw[gI k5];refine bH ?_;refine⟨_,rfl,_,rfl,g,_,D,_,_,rfl,G,T.cl,T.ac4,rfl,O,_,rfl,cQ.k (k:=Sum.inl n) h2,_,rfl,?_⟩;have Z:=h3.val (n:=n);cases he:bQ B.es n with
 |none=>
  rw[he]at Z q;have Z:dD I (Sum.inl n)=none:=Z;rw[Z];refine bH ?_;exact q B rfl r H (Frm.refl _ _ _ _) (.inl rfl) y
 |some e=>
  rw[he]at Z q;obtain⟨v,an,_⟩:=Z;rw[an];refine aZ ?_;refine⟨_,rfl,g,D,_,rfl,G,rfl,_,rfl,_,rfl,g,O,r,B,k,n,e,rfl,y,he,by omega,λJ L h'=>?_⟩;refine q _ ?_ r J L (.inl rfl) h'
  try dsimp only
  split
  ·rfl
  ·split <;> rfl
end
abbrev Rw:=Str×Int×Mf
abbrev Mr:=List Rw
def cI(r:Rw):PyData:=fP r.1 r.2.1 r.2.2
def dS(b:Int):Bk->Mr->Option Bk
 |B,[]=>some B
 |B,r::e=>match dE B r.1 r.2.1 r.2.2 b with
  |none=>none
  |some f=>dS b f e
theorem yC(b:Int):∀{g:List (Int×Mf)}{B f:Bk},sK b B g=some f->f.es.length<=B.es.length+g.length
 |[],B,f,h=>by
  cases (Option.some.inj h:B=f);exact le_refl _
 |p::g,B,f,h=>by
  unfold sK at h;cases e:mD B p.1 p.2 b with
  |none=>rw[e]at h;cases h
  |some n=>
   rw[e]at h;have m:=yC b h;unfold mD at e;split at e
   ·cases e
   ·cases (Option.some.inj e);have:=jY B.es p.1 (p.2,0,b);rw[length_cons];have m:f.es.length<=(eR B.es p.1 (p.2,0,b)).length+g.length:=m;omega
theorem DT(h:dE B k n b f=some g):g.es.length+g.parts.length<=B.es.length+B.parts.length+1:=by
 unfold dE at h;split at h
 ·cases (Option.some.inj h);show B.es.length+(B.parts++[(n,b)]).length<=_;rw[length_append];exact le_refl _
 ·split at h
  ·unfold y8 at h;split at h
   ·have m:=yC f h;have o:=u8 f h;rw[o];have m:g.es.length<=B.es.length+B.parts.length:=m;show g.es.length+0<=_;omega
   ·cases h
  ·split at h
   ·cases h
   ·split at h
    ·unfold mD at h;split at h
     ·cases h
     ·cases (Option.some.inj h);have:=jY B.es n (b,0,f);show (eR B.es n (b,0,f)).length+B.parts.length<=_;omega
    ·split at h
     ·cases (Option.some.inj h);exact le_succ _
     ·split at h
      ·cases (Option.some.inj h);have:=jY B.es n (b.drop 1,b.getD 0 0,f);show (eR B.es n (b.drop 1,b.getD 0 0,f)).length+B.parts.length<=_;omega
      ·split at h
       ·cases (Option.some.inj h);exact le_succ _
       ·rename_i e _;split at h
        ·cases (Option.some.inj h);have:=jY B.es n (e.1,e.2.1+1,e.2.2);show (eR B.es n (e.1,e.2.1+1,e.2.2)).length+B.parts.length<=_;omega
        ·split at h
         ·cases (Option.some.inj h);have:=jY B.es n (e.1,0,e.2.2);show (eR B.es n (e.1,0,e.2.2)).length+B.parts.length<=_;omega
         ·cases (Option.some.inj h);have:(gJ B.es n).length<=B.es.length:=length_filter_le _ _;show (gJ B.es n).length+B.parts.length<=_;omega
theorem rows_of(h:o.all bS=true):∃m:Mr,o=m.map cI/\∀r∈m,bS (cI r)=true:=by
 induction o with
 |nil=>exact⟨[],rfl,λr hr=>absurd hr (by simp)⟩
 |cons d o p=>
  rw[all_cons,and_eq_true]at h;obtain⟨m,e,hr⟩:=p h.2;have f:=h.1;have:∃r:Rw,d=cI r:=by
   match d,f with
   | .tuple [.str k,.int n,.tuple g],f=>
    simp only[bS,and_eq_true]at f;have u:g.all (bM 0 255)=true:=f.2.2.1;refine⟨(k,n,bX (.tuple g)),?_⟩;show PyData.tuple [.str k,.int n,.tuple g] = .tuple [.str k,.int n,.tuple ((bX (.tuple g)).map .int)];congr 4;have:∀l:Mj,l.all (bM 0 255)=true->l=(bX (.tuple l)).map .int:=by
     intro l q
     induction l with
     |nil=>rfl
     |cons x l p=>
      rw[all_cons,and_eq_true]at q;have:=p q.2;cases x with
      |int i=>
       show PyData.int i::l=PyData.int i::(bX (.tuple l)).map .int;rw[<- this]
      |_=>exact absurd q.1 (by simp [bM])
    exact congrArg PyData.tuple (this g u)
   | .tuple [.str k,.int n,.list _],f=>simp [bS,dR]at f
   | .tuple [.str k,.int n,.int _],f=>simp [bS,dR]at f
   | .tuple [.str k,.int n,.str _],f=>simp [bS,dR]at f
   | .tuple [.str k,.int n,.bool _],f=>simp [bS,dR]at f
   | .tuple [.str k,.int n,.none],f=>simp [bS,dR]at f
   | .tuple [.str k,.int n,.dict _],f=>simp [bS,dR]at f
   | .tuple [.str k,.str _,b],f=>simp [bS,bM]at f
   | .tuple [.str k,.bool _,b],f=>simp [bS,bM]at f
   | .tuple [.str k,.none,b],f=>simp [bS,bM]at f
   | .tuple [.str k,.list _,b],f=>simp [bS,bM]at f
   | .tuple [.str k,.tuple _,b],f=>simp [bS,bM]at f
   | .tuple [.str k,.dict _,b],f=>simp [bS,bM]at f
  obtain⟨r,t⟩:=this;refine⟨r::m,by rw[map_cons,<- t,<- e],λx s=>?_⟩;rcases mem_cons.mp s with rfl |s
  ·rw[<- t];exact f
  ·exact hr x s
section
variable{P:Program}{w:World}{K:Ma}{mg:Mc}{base:Heap}{aa9 aa1 aa7 aa3:Addr}
end
def But(e:Addr)(H f:Hp):Prop:=∀b o,H b=some o->b≠e->f b=some o
theorem But.refl:But f H H:=λb o e _=>e
theorem pB(h:Den H (cI r) v):∃t b,v = .ref t/\H t=some (.tup [.str r.1,.int r.2.1,.ref b])/\H b=some (.tup (r.2.2.map V.int)):=by
 unfold cI fP at h;simp only[Den,aQ]at h;obtain⟨t,_,rfl,f,_,_,rfl,rfl,_,_,rfl,rfl,_,_,rfl,⟨b,m,rfl,g,e⟩,rfl⟩:=h;have:=cC.mp e;subst this;exact⟨t,b,rfl,f,g⟩
structure TxtN(K:Ma)(mg:Mc):Prop where
 ad8:mg "len" = none
 ac2:mg "isinstance" = none
 bj9:mg "all" = none
 ax8:mg "sum" = none
 ai2:mg "tuple" = none
 ba8:mg "int" = none
 bk1:mg "bool" = none
 bj8:mg "str" = none
 ai3:mg "range" = none
 af9:mg "enumerate" = none
 at6:mg "list" = none
 ae7:mg "sorted" = none
 ap5:∃t,mg "HIGHEST_BYTE" = some (.int 255 t)
section
variable{P:Program}{w:World}{K:Ma}{mg:Mc}{base:Heap} 
end
abbrev x4:Stmt:=top 24
abbrev o6:Stmt:=top 29
abbrev nN:Stmt:=top 30
def cS:Str:="abcdefghijklmnopqrstuvwxyz0123456789"
def inS(signs:Str)(c:Nat):Bool:=!(Builtin.Str.occurrences signs ⟨#[c]⟩ 0 signs.length 1).isEmpty
def iC(x:Str):Bool:=x.cps.all λc=>decide (c<128)
def cR(signs:Str)(l:Int):PyData->Bool
 | .str x=>(decide (1<=(x.length:Int)) && decide ((x.length:Int)<=l)) && x.cps.toList.all (inS signs)
 |_=>false
inductive kY(vs:Mp)(H:Hp)(Q:VK)(x_3:XK):Prop
 |mk:∀(v:V)(d:PyData)(signs:Str)(l:Int),vs=[v,.str signs,.int l]->Den H d v->(∀x,d = .str x->x.length<=1000/\iC x=true)->(∀H',aG H H'->Q (.bl (cR signs l d)) H')->kY vs H Q x_3
structure TxtD(K:Ma)(mg:Mc)(aa2 aa4 ac0 aa5 aa1 ab0 aa6:Addr):Prop extends TxtN K mg where
 bh3:∃t,mg "NAME_SIGNS" = some (.str cS t)
 bd0:∃t,mg "LONGEST_NAME" = some (.int 8 t)
 bh4:∃t,mg "MOST_STEPS" = some (.int 100000 t)
 an3:dH K aa2=true
 bk2:mg "BadName" = some (.ref aa2)
 an4:dH K aa4=true
 bk3:mg "Missing" = some (.ref aa4)
 ax9:dH K ac0=true
 bl4:mg "There" = some (.ref ac0)
 an5:dH K aa5=true
 at7:mg "Stopped" = some (.ref aa5)
 ag3:dH K aa1=true
 bh1:mg "BadRow" = some (.ref aa1)
 af0:dH K ab0=true
 ay1:mg "BadNumber" = some (.ref ab0)
 cl:Cls K aa6
 af5:dG K aa6 "files"
 am0:dG K aa6 "steps_done"
 ac9:dG K aa6 "steps_ahead"
inductive gX(aa2:Addr)(vs:Mp)(H:Hp)(Q:VK)(E:XK):Prop
 |mk:∀(v:V)(d:PyData),vs=[v]->Den H d v->(∀x,d = .str x->x.length<=1000/\iC x=true)->(cR cS 8 d=true->∀H',aG H H'->Q .non H')->(cR cS 8 d=false->∀H',aG H H'->E (.ref aa2) none H')->gX aa2 vs H Q E
def kQ:PyData->Bool
 | .none=>true
 |d=>bM 0 100000 d
inductive iT(ab0:Addr)(vs:Mp)(H:Hp)(Q:VK)(E:XK):Prop
 |mk:∀(v:V)(d:PyData),vs=[v]->Den H d v->(kQ d=true->Q .non H)->(kQ d=false->E (.ref ab0) none H)->iT ab0 vs H Q E
section
variable{P:Program}{w:World}{K:Ma}{mg:Mc}{base:Heap}{aa2 aa4 ac0 aa5 aa1 ab0 aa6:Addr}
theorem DB(F:Fun K "is_word" "is_word" x4 f B)(T:TxtN K mg):‹14› 1 f B ["thing","signs","longest"] kY:=by
 refine F.okY ["thing","signs","longest"] λG A m s H Y Q E hr nD0 h=>?_;obtain⟨v,d,signs,l,rfl,t,I,q⟩:=h;refine⟨_,aA (bE (lQ (cY (dL (bL (iN K) ⋯ T.ac2 eU (aE (pv 0) ‹58›)))) (iV (cY (BU kD kD aM (bL Aj ⋯ T.ad8 gN ‹36›) (pv 2))))).pt
   (aC (aP nO))
   aO)
  (aC (aP (bL (zG K) ⋯ T.bj9 Ic (dZ (cZ ["sign"] [("signs",1)] ⋯ (Lc (pv 0)) (λC s2 H2 ex=>(bK (i:=0) (show List.Nodup (["sign","signs"]:Mg) by decide +kernel) ⋯ (Or.inl ⋯))) ‹44› (λC s2 H2 ex=>(hJ FF (pv 0) (pv 1) ⋯))) aF)))),?_⟩
 refine⟨_,rfl,_,_,_,_,rfl,t.ty,ET d,_,rfl,?_⟩;cases d with
 |none=>exact aZ (aZ (q H (aG.refl H)))
 |bool x=>exact aZ (aZ (q H (aG.refl H)))
 |int x=>exact aZ (aZ (q H (aG.refl H)))
 |tuple x=>exact aZ (aZ (q H (aG.refl H)))
 |list x=>exact aZ (aZ (q H (aG.refl H)))
 |dict x=>exact aZ (aZ (q H (aG.refl H)))
 |str x=>
 refine bH ?_;obtain⟨z1,J⟩:=I x rfl;have e:v = .str x:=by simpa only[Den] using t
 subst e;have zl:x.length<=sizeLine:=le_trans z1 (by decide);refine⟨_,rfl,x,rfl,zl,_,_,rfl,rfl,_,rfl,?_⟩;simp only[cR]at q;by_cases b:1<=(x.length:Int)
 case neg=>
  rw[if_neg (by rw[decide_eq_true_eq];exact b)];rw[decide_eq_false b,Bool.false_and,Bool.false_and]at q;exact⟨_,rfl,aZ (q H (aG.refl H))⟩
 rw[if_pos (decide_eq_true b)];rw[decide_eq_true b,Bool.true_and]at q;refine⟨_,rfl,_,_,rfl,rfl,_,rfl,?_⟩;show if (!decide ((x.length:Int)<=l))=true then _ else _
 by_cases g:(x.length:Int)<=l
 case neg=>
  rw[decide_eq_false g]at q⊢;exact aZ (q H (aG.refl H))
 rw[decide_eq_true g]at q⊢;rw[Bool.true_and]at q;refine bH ?_;refine cM rfl ?_;refine⟨_,rfl,x,rfl,J,?_⟩;refine cX (JJ (H:=H) x) zl (λi y _=>∃c,x.cps[i]? = some c/\y = .bl (inS signs c)) (λ_ _ _ _ _ h=>h) (λL=>∃z,L = [z,some (.str signs)]) ?z0 ?_ ?_
 case z0=>exact⟨none,rfl⟩
 ·intro i y N Z hi n s3 O Q' o;obtain⟨z,rfl⟩:=n;obtain⟨c,R,rfl⟩:=O;refine⟨_,rfl,_,rfl,_,_,rfl,rfl,?_⟩;exact o _ _ _ ⟨_,rfl⟩ (aG.refl _) ⟨c,R,rfl⟩
 intro D p S hD U r u W;have X:p=(x.cps.toList.map (inS signs)).map V.bl:=by
  apply ext_getElem?;intro i;cases e:p[i]? with
  |none=>
   have:p.length<=i:=List.getElem?_eq_none_iff.mp e;rw[getElem?_eq_none (by rw[length_map,length_map,length_toList];omega)]
  |some y=>
   obtain⟨c,b,g⟩:=W i y e;rw[getElem?_map,getElem?_map,getElem?_toList,b,g];rfl
 refine⟨D,x.cps.toList.map (inS signs),rfl,SqL.of (by rw[r,X]),?_⟩;rw[all_map];exact q S U
theorem wQ(F:Fun K "check_name" "check_name" o6 f r)(T:‹1›)(b:‹15› "is_word" 1 ["thing","signs","longest"] kY):‹14› 2 f r ["name"] (gX aa2):=by
 obtain⟨_,e⟩:=T.bh3;obtain⟨_,g⟩:=T.bd0;refine F.okY ["name"] λt A m s H z Q E hr nD0 h=>?_;obtain⟨v,d,rfl,u,x,q,y⟩:=h;refine⟨_,aC (bE (cY (dL (bC b ‹18› bB (aE (pv 0) (aE (cT (v:=.str "abcdefghijklmnopqrstuvwxyz0123456789") ⋯ e ⟨_,rfl⟩) (aE (cT (v:=.int 8) ⋯ g ⟨_,rfl⟩) aF))))))
   (aC (dY eX ⋯ T.an3 ⋯ T.bk2 ‹25›))
   aO),?_⟩
 refine⟨_,rfl,v,d,cS,8,rfl,u,x,λn o=>⟨_,rfl,?_⟩⟩;cases p:cR cS 8 d with
 |false=>exact aZ ⟨(by show 1<=sizeLine;decide),y p n o⟩
 |true=>exact bH (q p n o)
theorem vK(F:Fun K "check_steps" "check_steps" nN f u)(T:‹1›)(m:‹3›):‹14› 2 f u ["steps"] (iT ab0):=by
 obtain⟨_,n⟩:=T.bh4;refine F.okY ["steps"] λx A o s H y Q E hr nD0 h=>?_;obtain⟨v,d,rfl,g,q,r⟩:=h;refine⟨_,aC (bE (mC (aW AG (pv 0) jM (bJ _)) (jC (cY (dL (bC m ‹18› bB (aE (pv 0) (aI aM (aE (cT (v:=.int 100000) ⋯ n ⟨_,rfl⟩) aF)))))))).pt
   ‹88›
   aO),?_⟩
 by_cases p:v = .non
 ·subst p;have:kQ d=true:=by
   cases d with
   |none=>rfl
   |bool b=>simp only[Den]at g;cases g
   |int b=>simp only[Den]at g;cases g
   |str b=>simp only[Den]at g;cases g
   |tuple b=>simp only[Den]at g;obtain⟨_,_,e,_⟩:=g;cases e
   |list b=>simp only[Den]at g;obtain⟨_,_,e,_⟩:=g;cases e
   |dict b=>simp only[Den]at g
  exact⟨_,rfl,rfl,_,rfl,bH (bH (q this))⟩
 ·have e:kQ d=bM 0 100000 d:=by
   cases d with
   |none=>simp only[Den]at g;exact absurd g p
   |_=>rfl
  rw[e]at q r;refine⟨_,rfl,rfl,_,rfl,?_⟩;rw[decide_eq_false p];refine aZ ⟨_,rfl,v,d,0,100000,rfl,g,_,rfl,?_⟩;cases t:bM 0 100000 d with
  |false=>exact aZ ⟨(by show 1<=sizeLine;decide),r t⟩
  |true=>exact bH (q t)
end
structure Dk where
 fs:List (Str×Mf)
 done:Int
 left:Option Int
def Hv:Option Int->V
 |none=>.non
 |some n=>.int n
def aT(b:List (Str×Mf))(n:Str):Option (Mf):=(b.find? λp=>decide (p.1=n)).map (·.2)
def gQ(b:List (Str×Mf))(n:Str):List (Str×Mf):=b.filter λp=>decide (p.1≠n)
inductive Aa(H:Hp)(v:V)(bs:Mf):Prop
 |mk:∀l,v = .ref l->H l=some (.lst (bs.map V.int))->Aa H v bs
def FsR(H:Hp):List (Str×Mf)->Mn->Prop
 |[],[]=>True
 |p::e,q::b=>q.1=Sum.inr p.1/\Aa H q.2 p.2/\FsR H e b
 |_,_=>False
def dkF(b:Addr)(done:Int)(left:Option Int):Mo:=[("files",.ref b),("steps_done",.int done),("steps_ahead",Hv left)]
structure DiskAt(C:Addr)(H:Hp)(dk df:Addr)(kvs:Mn)(D:Dk):Prop where
 self:∃dx,H dk=some (.ins C dx (dkF df D.done D.left))
 files:H df=some (.dK kvs)
 rel:FsR H D.fs kvs
 nd:(kvs.map (·.2)).Nodup
 kn:(D.fs.map (·.1)).Nodup
def own(f g:Addr)(e:Mn)(b:Addr):Prop:=b=f\/b=g\/V.ref b∈e.map (·.2)
def rN(f g:Addr)(e:Mn)(H m:Hp):Prop:=∀b o,H b=some o->¬own f g e b->m b=some o
def GF(g m:Addr)(f e:Mn)(H:Hp):Prop:=∀b,own g m e b->own g m f b\/H b=none
theorem FsR.same:∀{n:List (Str×Mf)}{f:Mn},(∀b o,H b=some o->V.ref b∈f.map (·.2)->r b=some o)->FsR H n f->FsR r n f
 |[],[],_,_=>trivial
 |p::n,q::f,s,h=>by
  obtain⟨t,⟨l,e,g⟩,u⟩:=h;exact⟨t,⟨l,e,s l _ g (by rw[map_cons,e];exact mem_cons_self)⟩,FsR.same (λb o e m=>s b o e (mem_cons_of_mem _ m)) u⟩
 |[],_::_,_,h=>h.elim
 |_::_,[],_,h=>h.elim
theorem FsR.len:∀{e:List (Str×Mf)}{b:Mn},FsR H e b->b.length=e.length
 |[],[],_=>rfl
 |p::e,q::b,h=>by rw[length_cons,length_cons,FsR.len h.2.2]
 |[],_::_,h=>h.elim
 |_::_,[],h=>h.elim
theorem FsR.keys:∀{e:List (Str×Mf)}{b:Mn},FsR H e b->b.map (·.1)=(e.map (·.1)).map Sum.inr
 |[],[],_=>rfl
 |p::e,q::b,h=>by rw[map_cons,map_cons,map_cons,h.1,FsR.keys h.2.2]
 |[],_::_,h=>h.elim
 |_::_,[],h=>h.elim
theorem DN:((Sum.inr a:Key)=Sum.inr b) ↔ a=b:=⟨Sum.inr.inj,λh=>by rw[h]⟩
theorem FsR.val:∀{f:List (Str×Mf)}{b:Mn},FsR H f b->(match aT f n with |none=>dD b (Sum.inr n)=none |some e=>∃v,dD b (Sum.inr n)=some v/\Aa H v e)
 |[],[],_=>rfl
 |p::f,q::b,h=>by
  obtain⟨g,m,o⟩:=h;have r:=FsR.val (n:=n) o;by_cases e:p.1=n
  ·have:aT (p::f) n=some p.2:=by simp [aT,e]
   rw[this];exact⟨q.2,iO (by rw[g,e]),m⟩
  ·have s:aT (p::f) n=aT f n:=by simp [aT,e]
   have t:dD (q::b) (Sum.inr n)=dD b (Sum.inr n):=iP (by rw[g,DN];exact e);rw[s,t];exact r
 |[],_::_,h=>h.elim
 |_::_,[],h=>h.elim
theorem pE(h:DiskAt C H t u f D):t≠u/\V.ref t∉f.map (·.2)/\V.ref u∉f.map (·.2):=by
 have n:∀{o:List (Str×Mf)}{f:Mn},FsR H o f->∀b,V.ref b∈f.map (·.2)->∃r,H b=some (.lst r):=by
  intro o
  induction o with
  |nil=>
   intro f hr b m;cases f with
   |nil=>simp at m
   |cons _ _=>exact hr.elim
  |cons p o x=>
   intro f hr b m;cases f with
   |nil=>exact hr.elim
   |cons q f=>
    obtain⟨_,⟨l,e,g⟩,y⟩:=hr;rw[map_cons,mem_cons]at m;rcases m with m |m
    ·rw[e]at m;cases m;exact⟨_,g⟩
    ·exact x y b m
 obtain⟨z,s⟩:=h.self;refine⟨?_,λm=>?_,λm=>?_⟩
 ·rintro rfl;rw[h.files]at s;cases s
 ·obtain⟨r,e⟩:=n h.rel _ m;rw[s]at e;cases e
 ·obtain⟨r,e⟩:=n h.rel _ m;rw[h.files]at e;cases e
theorem rK(h:DiskAt C H g n f D)(done:Int)(left:Option Int):DiskAt C (upd H g (.ins C dx (dkF n done left))) g n f ⟨D.fs,done,left⟩:=by
 obtain⟨p,q,r⟩:=pE h;refine⟨⟨dx,aB⟩,by rw[aH (Ne.symm p)];exact h.files,h.rel.same λb o e m=>?_,h.nd,h.kn⟩;rw[aH (λz=>by rw[z]at m;exact q m)];exact e
theorem DiskAt.same(h:DiskAt C H g m f D)(s:aG H n):DiskAt C n g m f D:=by
 obtain⟨p,q⟩:=h.self;exact⟨⟨p,s _ _ q⟩,s _ _ h.files,h.rel.same λb o e _=>s b o e,h.nd,h.kn⟩
def iQ(D:Dk):Option Dk:=match D.left with
 |none=>some ⟨D.fs,D.done+1,none⟩
 |some n=>if n=0 then none else some ⟨D.fs,D.done+1,some (n-1)⟩
abbrev o5:Stmt:=bN (top 31) 12
inductive jH(C:Addr)(aa5:Addr)(vs:Mp)(H:Hp)(Q:VK)(E:XK):Prop
 |mk:∀(dk df:Addr)(kvs:Mn)(D:Dk),vs=[.ref dk]->DiskAt C H dk df kvs D->(∀D',iQ D=some D'->∀H',(∀b o,H b=some o->b≠dk->H' b=some o)->DiskAt C H' dk df kvs D'->Q .non H')->(iQ D=none->E (.ref aa5) none H)->jH C aa5 vs H Q E
section
variable{P:Program}{w:World}{K:Ma}{mg:Mc}{base:Heap}{aa2 aa4 ac0 aa5 aa1 ab0 aa6:Addr}
theorem wP(F:Fun K "count_step" "Disk.count_step" o5 f I)(T:‹1›):‹14› 1 f I ["self"] (jH aa6 aa5):=by
 refine F.okY ["self"] λJ A t s H R Q E hr nD0 h=>?_;obtain⟨m,y,L,D,rfl,u,q,B⟩:=h;refine⟨_,aA (bE (aW fY ‹22› aM (bJ _))
   (aC (dY eX ⋯ T.an5 ⋯ T.at7 ‹25›))
   aO)
  (aA (bE (aW AG ‹22› jM (bJ _))
   (aC (qW (pv 0) aM MD))
   aO)
  ‹70›),?_⟩
 obtain⟨g,p⟩:=u.self;obtain⟨S,done,left⟩:=D;unfold iQ at q B;cases left with
 |none=>
  refine⟨_,rfl,m,_,g,_,_,rfl,p,T.cl,T.ac9,rfl,rfl,_,rfl,bH ?_⟩;refine cM rfl ?_;refine⟨_,rfl,m,_,g,_,_,rfl,p,T.cl,T.ac9,rfl,rfl,_,rfl,bH ?_⟩;refine cM rfl ?_;refine⟨_,rfl,m,_,g,_,_,rfl,p,T.cl,T.am0,rfl,_,_,rfl,rfl,g,_,p,(by show 3<1000;decide),?_⟩;exact q _ rfl _ (λb o e r=>by rw[aH r];exact e) (rK u (done+1) none)
 |some n=>
  refine⟨_,rfl,m,_,g,_,_,rfl,p,T.cl,T.ac9,rfl,rfl,_,rfl,?_⟩;by_cases x:n=0
  ·subst x;refine aZ ?_;exact⟨(by show 1<=sizeLine;decide),B rfl⟩
  ·have N:decide (V.int n=V.int 0)=false:=decide_eq_false (λz=>x (V.int.inj z));show if decide (V.int n=V.int 0)=true then _ else _
   rw[N];refine bH ?_;refine cM rfl ?_;refine⟨_,rfl,m,_,g,_,_,rfl,p,T.cl,T.ac9,rfl,rfl,_,rfl,aZ ?_⟩;refine⟨_,rfl,m,_,g,_,_,rfl,p,T.cl,T.ac9,rfl,_,_,rfl,rfl,g,_,p,(by show 3<1000;decide),?_⟩;have O:=rK (dx:=g) u done (some (n-1));have G:upd H m (.ins aa6 g (dkF y done (some (n-1)))) m=some (.ins aa6 g (dkF y done (some (n-1)))):=aB;refine⟨_,rfl,m,_,g,_,_,rfl,G,T.cl,T.am0,rfl,_,_,rfl,rfl,g,_,G,(by show 3<1000;decide),?_⟩;exact q _ (by dsimp only;rw[if_neg x]) _ (λb o e r=>by rw[aH r,aH r];exact e) (rK O (done+1) (some (n-1)))
end
abbrev D8:Stmt:=bN (top 31) 0
abbrev Gs:Stmt:=bN (top 31) 2
abbrev Gx:Stmt:=bN (top 31) 5
abbrev Dx:Stmt:=bN (top 31) 6
abbrev Gq:Stmt:=bN (top 31) 7
abbrev Go:Stmt:=bN (top 31) 8
abbrev Gv:Stmt:=bN (top 31) 10
abbrev o8:Stmt:=bN (top 31) 11
def oG(d:PyData):Prop:=∀x,d = .str x->x.length<=1000/\iC x=true
theorem tR(h:cR signs l d=true):∃x,d = .str x:=by
 cases d with
 |str x=>exact⟨x,rfl⟩
 |_=>cases h
inductive jI(C:Addr)(aa2:Addr)(aa4:Addr)(vs:Mp)(H:Hp)(Q:VK)(E:XK):Prop
 |mk:∀(dk df:Addr)(kvs:Mn)(D:Dk)(v:V)(d:PyData),vs=[.ref dk,v]->DiskAt C H dk df kvs D->Den H d v->oG d->(cR cS 8 d=false->∀H',aG H H'->E (.ref aa2) none H')->(∀n,d = .str n->cR cS 8 d=true->(aT D.fs n=none->∀H',aG H H'->E (.ref aa4) none H')/\(∀bs,aT D.fs n=some bs->∀H',aG H H'->Q .non H'))->jI C aa2 aa4 vs H Q E
inductive oR(C:Addr)(aa2:Addr)(aa4:Addr)(vs:Mp)(H:Hp)(Q:VK)(E:XK):Prop
 |mk:∀(dk df:Addr)(kvs:Mn)(D:Dk)(v:V)(d:PyData),vs=[.ref dk,v]->DiskAt C H dk df kvs D->Den H d v->oG d->(cR cS 8 d=false->∀H',aG H H'->E (.ref aa2) none H')->(∀n,d = .str n->cR cS 8 d=true->(aT D.fs n=none->∀H',aG H H'->E (.ref aa4) none H')/\(∀bs,aT D.fs n=some bs->∀p H',aG H H'->H' p=some (.tup (bs.map V.int))->Q (.ref p) H'))->oR C aa2 aa4 vs H Q E
inductive oP(C:Addr)(aa2:Addr)(aa4:Addr)(vs:Mp)(H:Hp)(Q:VK)(E:XK):Prop
 |mk:∀(dk df:Addr)(kvs:Mn)(D:Dk)(v:V)(d:PyData),vs=[.ref dk,v]->DiskAt C H dk df kvs D->Den H d v->oG d->(cR cS 8 d=false->∀H',aG H H'->E (.ref aa2) none H')->(∀n,d = .str n->cR cS 8 d=true->(aT D.fs n=none->∀H',aG H H'->E (.ref aa4) none H')/\(∀bs,aT D.fs n=some bs->∀H',aG H H'->Q (.int (bs.length:Int)) H'))->oP C aa2 aa4 vs H Q E
inductive zX(C:Addr)(vs:Mp)(H:Hp)(Q:VK)(x_3:XK):Prop
 |mk:∀(dk df:Addr)(kvs:Mn)(D:Dk),vs=[.ref dk]->DiskAt C H dk df kvs D->Q (Hv D.left) H->zX C vs H Q x_3
def Km:PyData->Option Int
 | .int n=>some n
 |_=>none
inductive uL(C:Addr)(ab0:Addr)(vs:Mp)(H:Hp)(Q:VK)(E:XK):Prop
 |mk:∀(dk dx:Addr)(v:V)(d:PyData),vs=[.ref dk,v]->H dk=some (.ins C dx [])->Den H d v->(kQ d=false->E (.ref ab0) none H)->(kQ d=true->∀df H',(∀b o,H b=some o->b≠dk->H' b=some o)->H df=none->DiskAt C H' dk df [] ⟨[],0,Km d⟩->Q .non H')->uL C ab0 vs H Q E
inductive oU(C:Addr)(aa2:Addr)(ac0:Addr)(aa5:Addr)(vs:Mp)(H:Hp)(Q:VK)(E:XK):Prop
 |mk:∀(dk df:Addr)(kvs:Mn)(D:Dk)(v:V)(d:PyData),vs=[.ref dk,v]->DiskAt C H dk df kvs D->Den H d v->oG d->D.fs.length<100000->(cR cS 8 d=false->∀H',aG H H'->E (.ref aa2) none H')->(∀n,d = .str n->cR cS 8 d=true->(∀bs,aT D.fs n=some bs->∀H',aG H H'->E (.ref ac0) none H')/\
  (aT D.fs n=none->(iQ D=none->∀H',aG H H'->E (.ref aa5) none H')/\(∀D1,iQ D=some D1->∀kvs' H',rN dk df kvs H H'->GF dk df kvs kvs' H->DiskAt C H' dk df kvs' ⟨D1.fs++[(n,[])],D1.done,D1.left⟩->Q .non H')))->oU C aa2 ac0 aa5 vs H Q E
inductive oW(C:Addr)(aa2:Addr)(aa4:Addr)(aa5:Addr)(vs:Mp)(H:Hp)(Q:VK)(E:XK):Prop
 |mk:∀(dk df:Addr)(kvs:Mn)(D:Dk)(v:V)(d:PyData),vs=[.ref dk,v]->DiskAt C H dk df kvs D->Den H d v->oG d->(cR cS 8 d=false->∀H',aG H H'->E (.ref aa2) none H')->(∀n,d = .str n->cR cS 8 d=true->(aT D.fs n=none->∀H',aG H H'->E (.ref aa4) none H')/\
  (∀bs,aT D.fs n=some bs->(iQ D=none->∀H',aG H H'->E (.ref aa5) none H')/\(∀D1,iQ D=some D1->∀kvs' H',rN dk df kvs H H'->GF dk df kvs kvs' H->DiskAt C H' dk df kvs' ⟨gQ D1.fs n,D1.done,D1.left⟩->Q .non H')))->oW C aa2 aa4 aa5 vs H Q E
theorem oN(h:iQ D=some b):b.fs=D.fs:=by
 unfold iQ at h;split at h
 ·cases (Option.some.inj h);rfl
 ·split at h
  ·cases h
  ·cases (Option.some.inj h);rfl
theorem FsR.snoc(g:Aa H v e):∀{f:List (Str×Mf)}{b:Mn},FsR H f b->FsR H (f++[(n,e)]) (b++[(Sum.inr n,v)])
 |[],[],_=>⟨rfl,g,trivial⟩
 |p::f,q::b,h=>⟨h.1,h.2.1,FsR.snoc g h.2.2⟩
 |[],_::_,h=>h.elim
 |_::_,[],h=>h.elim
theorem FsR.drop:∀{b:List (Str×Mf)}{e:Mn},FsR H b e->FsR H (gQ b n) (fA e (Sum.inr n))
 |[],[],_=>trivial
 |p::b,q::e,h=>by
  obtain⟨f,o,r⟩:=h;have m:=FsR.drop (n:=n) r;by_cases z:p.1=n
  ·have g:gQ (p::b) n=gQ b n:=by simp [gQ,z]
   rw[g,yZ (by rw[f,z])];exact m
  ·have g:gQ (p::b) n=p::gQ b n:=by simp [gQ,z]
   rw[g,y4 (by rw[f,DN];exact z)];exact⟨f,o,m⟩
 |[],_::_,h=>h.elim
 |_::_,[],h=>h.elim
theorem yL(h:aT e n=none):n∉e.map (·.1):=by
 intro b;rw[mem_map]at b;obtain⟨p,f,rfl⟩:=b;unfold aT at h;rw[map_eq_none_iff,find?_eq_none]at h;exact h p f (decide_eq_true rfl)
section
variable{P:Program}{w:World}{K:Ma}{mg:Mc}{base:Heap}{aa2 aa4 ac0 aa5 aa1 ab0 aa6:Addr}
theorem wS(F:Fun K "check_file" "Disk.check_file" o8 f y)(T:‹1›)(m:‹15› "check_name" 2 ["name"] (gX aa2)):‹14› 3 f y ["self","name"] (jI aa6 aa2 aa4):=by
 refine F.okY ["self","name"] λz A o s H U Q E hr nD0 h=>?_;obtain⟨B,G,p,D,v,d,rfl,r,u,I,J,q⟩:=h;refine⟨_,aA (aX (bC m ‹18› bT ‹32›))
  (aC (bE (oA (m6 (hu1 hr.units) (pv 1) ‹22›))
   (aC (dY eX ⋯ T.an4 ⋯ T.bk3 ‹25›))
   aO)),?_⟩
 refine⟨_,rfl,v,d,rfl,u,I,λhw x e=>?_,J⟩;obtain⟨n,rfl⟩:=tR hw;obtain⟨L,q⟩:=q n rfl hw;have N:v = .str n:=by simpa only[Den] using u
 subst N;obtain⟨O,R⟩:=r.self;refine⟨_,rfl,_,rfl,B,_,O,_,_,rfl,e _ _ R,T.cl,T.af5,rfl,G,_,rfl,cQ.k (k:=Sum.inr n) (e _ _ r.files),_,rfl,?_⟩;have b:=r.rel.val (n:=n);cases g:aT D.fs n with
 |none=>
  rw[g]at b;have b:dD p (Sum.inr n)=none:=b;rw[b];exact aZ ⟨(by show 1<=sizeLine;decide),L g x e⟩
 |some S=>
  rw[g]at b;obtain⟨v,t,_⟩:=b;rw[t];exact bH (q S g x e)
theorem Jq(F:Fun K "read" "Disk.read" Gq f I)(T:‹1›)(ag9:‹5›):‹14› 4 f I ["self","name"] (oR aa6 aa2 aa4):=by
 refine F.okY ["self","name"] λJ A m s H Z Q E hr nD0 h=>?_;obtain⟨o,r,t,D,v,d,rfl,e,x,L,N,q⟩:=h;refine⟨_,aA ‹83›
  (aC (aP (jZ (mP K) ⋯ T.ai2 qB (aN ‹87› aF)))),?_⟩
 obtain⟨y,z⟩:=e.self;refine⟨_,rfl,o,y,_,rfl,z,rfl,_,rfl,o,r,t,D,v,d,rfl,e,x,L,N,λn B hw=>?_⟩;obtain⟨O,R⟩:=q n B hw;subst B;have S:v = .str n:=by simpa only[Den] using x
 subst S;refine⟨O,λU b V g=>?_⟩;have G:=e.rel.val (n:=n);rw[b]at G;obtain⟨v,u,l,rfl,W⟩:=G;have X:cQ V r (.str n) (some (.ref l)):=by
  have:=cQ.k (k:=Sum.inr n) (g _ _ e.files);rw[u]at this;exact this
 refine⟨_,rfl,o,_,y,_,_,rfl,g _ _ z,T.cl,T.af5,rfl,_,rfl,r,_,rfl,X,l,_,rfl,.inl ⟨SqL.of (g _ _ W),λp Y=>?_⟩⟩;exact R U b p _ (g.trans (aD Y)) aB
theorem Jo(F:Fun K "size" "Disk.size" Go f I)(T:‹1›)(ag9:‹5›):‹14› 4 f I ["self","name"] (oP aa6 aa2 aa4):=by
 refine F.okY ["self","name"] λJ A m s H X Q E hr nD0 h=>?_;obtain⟨o,p,r,D,v,d,rfl,e,u,L,N,q⟩:=h;refine⟨_,aA ‹83›
  (aC (aP (bL (dI K) ⋯ T.ad8 gN (aN ‹87› aF)))),?_⟩
 obtain⟨x,y⟩:=e.self;refine⟨_,rfl,o,x,_,rfl,y,rfl,_,rfl,o,p,r,D,v,d,rfl,e,u,L,N,λn z hw=>?_⟩;obtain⟨O,R⟩:=q n z hw;subst z;have S:v = .str n:=by simpa only[Den] using u
 subst S;refine⟨O,λU b B g=>?_⟩;have G:=e.rel.val (n:=n);rw[b]at G;obtain⟨v,t,l,rfl,V⟩:=G;have W:cQ B p (.str n) (some (.ref l)):=by
  have:=cQ.k (k:=Sum.inr n) (g _ _ e.files);rw[t]at this;exact this
 refine⟨_,rfl,o,_,x,_,_,rfl,g _ _ y,T.cl,T.af5,rfl,_,rfl,p,_,rfl,W,l,_,rfl,.inl (SqL.of (g _ _ V)),?_⟩;rw[length_map];exact R U b B g
theorem Ju(F:Fun K "left" "Disk.left" Gv f e)(T:‹1›):‹14› 1 f e ["self"] (zX aa6):=by
 refine F.okY ["self"] λg A b s H t Q E hr nD0 h=>?_;obtain⟨m,u,n,D,rfl,o,q⟩:=h;refine⟨_,aC (aP ‹22›),?_⟩;obtain⟨p,r⟩:=o.self;exact⟨_,rfl,m,_,p,_,_,rfl,r,T.cl,T.ac9,rfl,q⟩
theorem Ly(b:Den H d v)(e:kQ d=true):v=Hv (Km d):=by
 cases d with
 |none=>simp only[Den]at b;exact b
 |int n=>simp only[Den]at b;exact b
 |_=>cases e
theorem Hf(F:Fun K "__init__" "Disk.__init__" D8 f G)(T:‹1›)(r:‹15› "check_steps" 2 ["steps"] (iT ab0)):‹14› 3 f G ["self","steps"] (uL aa6 ab0):=by
 refine F.okY ["self","steps"] λI A t s H N Q E hr nD0 h=>?_;obtain⟨n,p,v,d,rfl,u,y,J,q⟩:=h;refine⟨_,aA (aX (bC r ‹18› bT ‹32›))
  (aA (dU (pv 0) iY ⋯)
  (aA (dU (pv 0) aM ⋯)
  (aC (dU (pv 0) (pv 1) ⋯)))),?_⟩
 refine⟨_,rfl,v,d,rfl,y,λB=>?_,J⟩;have L:=Ly y B;subst L;refine λD m=>?_;have g:n≠D:=λz=>by rw[z,m]at u;cases u
 refine⟨_,rfl,n,_,p,_,rfl,by rw[aH g];exact u,T.cl,T.af5,(by show 0<1000;decide),?_⟩;refine⟨_,rfl,n,_,p,_,rfl,aB,T.cl,T.am0,(by show 1<1000;decide),?_⟩;refine⟨_,rfl,_,rfl,n,_,p,_,rfl,aB,T.cl,T.ac9,(by show 2<1000;decide),?_⟩;refine q B D _ (λb o e x=>?_) m ⟨⟨p,?_⟩,?_,trivial,List.nodup_nil,List.nodup_nil⟩
 ·rw[aH x,aH x,aH x,aH (λz=>by rw[z,m]at e;cases e)];exact e
 ·rw[aB];rfl
 ·rw[aH (Ne.symm g),aH (Ne.symm g),aH (Ne.symm g)];exact aB
theorem Js(F:Fun K "make" "Disk.make" Gs f fd)(T:‹1›)(X:‹15› "check_name" 2 ["name"] (gX aa2))(al9:‹11›):‹14› 3 f fd ["self","name"] (oU aa6 aa2 ac0 aa5):=by
 refine F.okY ["self","name"] λak A Y s H vs Q E hr nD0 h=>?_;obtain⟨I,J,r,D,v,d,rfl,S,hd,hn,hl,qb,q⟩:=h;refine⟨_,aA (aX (bC X ‹18› bT ‹32›))
  (aA (bE (oA (HM (hu1 hr.units) (pv 1) ‹22›))
   (aC (dY eX ⋯ T.ax9 ⋯ T.bl4 ‹25›))
   aO)
  (aA ‹61›
  (aC (fN (hu1 hr.units) ‹22› (pv 1) (cA aF) ⋯)))),?_⟩
 refine⟨_,rfl,v,d,rfl,hd,hn,λhw H1 L=>?_,qb⟩;obtain⟨n,rfl⟩:=tR hw;obtain⟨qt,q2⟩:=q n rfl hw;have ev:v = .str n:=by simpa only[Den] using hd
 subst ev;have x:=S.same L;obtain⟨dx,h1⟩:=x.self;refine⟨_,rfl,_,rfl,I,_,dx,_,_,rfl,h1,T.cl,T.af5,rfl,J,_,rfl,cQ.k (k:=Sum.inr n) x.files,_,rfl,?_⟩;have G:=x.rel.val (n:=n);cases N:aT D.fs n with
 |some bs=>
  rw[N]at G;obtain⟨v,Z,_⟩:=G;rw[Z];exact aZ ⟨(by show 1<=sizeLine;decide),qt bs N H1 L⟩
 |none=>
  rw[N]at G;have G:dD r (Sum.inr n)=none:=G;rw[G];refine bH ?_;refine cM rfl ?_;obtain⟨qs,q3⟩:=q2 N;refine⟨_,rfl,I,dx,_,rfl,h1,rfl,I,J,r,D,rfl,x,λD1 U H2 f2 y=>?_,λU=>qs U H1 L⟩;refine⟨(by show 0<=sizeLine;decide),λl u=>?_⟩;have S3:=aD (o:=.lst []) u;generalize aa:upd H2 l (.lst [])=H3 at S3⊢;have g3:H3 l=some (.lst []):=by rw[<- aa];exact aB
  have B:=y.same S3;obtain⟨O,R⟩:=B.self;have ab:r.length<sizeLine:=by rw[S.rel.len];exact lt_trans hl (by decide)
  refine⟨_,rfl,I,_,O,_,_,rfl,R,T.cl,T.af5,rfl,_,rfl,J,_,rfl,jQ.k (k:=Sum.inr n) B.files ab,?_⟩;have ac:eJ r (Sum.inr n) (V.ref l)=r++[(Sum.inr n,V.ref l)]:=BT _ G;rw[ac];obtain⟨o1,o2,o3⟩:=pE B;have ad:V.ref l∉r.map (·.2):=λhm=>by
   have:∀{W:List (Str×Mf)}{r:Mn},FsR H2 W r->V.ref l∈r.map (·.2)->H2 l≠none:=by
    intro W
    induction W with
    |nil=>
     intro r hr t;cases r with
     |nil=>simp at t
     |cons _ _=>exact hr.elim
    |cons p W ih=>
     intro r hr t;cases r with
     |nil=>exact hr.elim
     |cons q r=>
      obtain⟨_,⟨l',e,g⟩,h3⟩:=hr;rw[map_cons,mem_cons]at t;rcases t with t |t
      ·rw[e]at t;cases t;rw[g];exact λz=>by cases z
      ·exact ih h3 t
   exact this y.rel hm u
  have ae:l≠J:=λz=>by rw[z,y.files]at u;cases u
  have af:H l=none:=by
   cases e:H l with
   |none=>rfl
   |some o=>
    have ag:l≠I:=λz=>by
     obtain⟨al,ah⟩:=y.self;rw[z,ah]at u;cases u
    rw[f2 l o (L _ _ e) ag]at u;cases u
  refine q3 D1 U (r++[(Sum.inr n,V.ref l)]) _ (λb o e nb=>?_) (λb t=>?_) ⟨⟨O,by rw[aH o1];exact R⟩,aB,?_,?_,?_⟩
  ·have ai:b≠I:=λz=>nb (.inl z);have aj:b≠J:=λz=>nb (.inr (.inl z));rw[aH aj];exact S3 _ _ (f2 b o (L _ _ e) ai)
  ·rcases t with t |t |t
   ·exact .inl (.inl t)
   ·exact .inl (.inr (.inl t))
   ·rw[map_append,mem_append]at t;rcases t with t |t
    ·exact .inl (.inr (.inr t))
    ·have:b=l:=by simpa using t
     subst this;exact .inr af
  ·refine(B.rel.same λb o e m=>?_).snoc ⟨l,rfl,by rw[aH ae];exact g3⟩;rw[aH (λz=>by rw[z]at m;exact o3 m)];exact e
  ·rw[map_append,nodup_append];refine⟨S.nd,by simp,?_⟩;intro a ha b t;have:b=V.ref l:=by simpa using t
   subst this;rintro rfl;exact ad ha
  ·show ((D1.fs++[(n,([]:Mf))]).map (·.1)).Nodup;rw[map_append,nodup_append,oN U];refine⟨S.kn,by simp,?_⟩;intro a ha b t;have:b=n:=by simpa using t
   subst this;rintro rfl;exact yL N ha
end
abbrev Kf:Stmt:=bN (top 31) 3
abbrev Ke:Stmt:=bN (top 31) 4
def fF(b:List (Str×Mf))(n:Str)(e:Mf):List (Str×Mf):=b.map λp=>if p.1=n then (p.1,e) else p
theorem mZ(b:List (Str×Mf))(n:Str)(e:Mf):(fF b n e).map (·.1)=b.map (·.1):=by
 unfold fF;rw[map_map];apply map_congr_left;intro p _;show (if p.1=n then (p.1,e) else p).1=p.1;split <;> rfl
theorem Dt(h:n∉b.map (·.1)):fF b n e=b:=by
 unfold fF;have:b.map (λp=>if p.1=n then (p.1,e) else p)=b.map id:=by
  apply map_congr_left;intro p f;rw[if_neg (λz=>h (by rw[<- z];exact mem_map_of_mem f))];rfl
 rw[this,map_id]
theorem xJ(h:aT b n=some f):aT (fF b n e) n=some e:=by
 induction b with
 |nil=>cases h
 |cons p b g=>
  unfold fF;rw[map_cons];by_cases z:p.1=n
  ·rw[if_pos z];simp [aT,z]
  ·rw[if_neg z];have m:aT b n=some f:=by simpa [aT,z] using h
   have:=g m;unfold fF at this;simpa [aT,z] using this
theorem Da{b:Mn}{k:Key}{v:V}(h:dD b k=some v):v∈b.map (·.2):=by
 unfold dD at h;rw[Option.map_eq_some_iff]at h;obtain⟨p,e,rfl⟩:=h;exact mem_map_of_mem (List.mem_of_find?_eq_some e)
theorem FsR.wr{H:Hp}{n:Str}{l:Addr}{e:Mf}:∀{r:List (Str×Mf)}{f:Mn},FsR H r f->(f.map (·.2)).Nodup->(r.map (·.1)).Nodup->dD f (Sum.inr n)=some (.ref l)->FsR (upd H l (.lst (e.map V.int))) (fF r n e) f
 |[],[],_,_,_,h=>by cases h
 |p::r,q::f,h,t,x,s=>by
  obtain⟨u,⟨E,G,g⟩,I⟩:=h;rw[map_cons,nodup_cons]at t x;by_cases z:p.1=n
  ·have B:dD (q::f) (Sum.inr n)=some q.2:=iO (by rw[u,z]);rw[B]at s;have J:q.2=V.ref l:=Option.some.inj s;have D:fF (p::r) n e=(p.1,e)::r:=by
    show (if p.1=n then (p.1,e) else p)::fF r n e=_;rw[if_pos z,Dt (by rw[<- z];exact x.1)]
   rw[D];refine⟨u,⟨l,J,aB⟩,I.same λb o L m=>?_⟩;rw[aH (λy=>by rw[y,<- J]at m;exact t.1 m)];exact L
  ·have B:dD (q::f) (Sum.inr n)=dD f (Sum.inr n):=iP (by rw[u,DN];exact z);rw[B]at s;have D:fF (p::r) n e=p::fF r n e:=by
    show (if p.1=n then (p.1,e) else p)::fF r n e=_;rw[if_neg z]
   rw[D];have N:E≠l:=λy=>by
    subst y;exact t.1 (by rw[G];exact Da s)
   exact⟨u,⟨E,G,by rw[aH N];exact g⟩,FsR.wr I t.2 x.2 s⟩
 |[],_::_,h,_,_,_=>h.elim
 |_::_,[],h,_,_,_=>h.elim
theorem GB(f:Den H d v)(g:dR d=true):∃a b,d = .tuple b/\v = .ref a/\H a=some (.tup ((bX d).map V.int))/\(bX d).length=b.length:=by
 cases d with
 |tuple b=>
  simp only[Den]at f;obtain⟨a,o,rfl,m,e⟩:=f;have n:=qA e g;subst n;exact⟨a,b,rfl,rfl,m,length_map _⟩
 |_=>exact absurd g (by simp [dR])
def sW(n:Str):Dk->Mf->Dk×Bool
 |D,[]=>(D,true)
 |D,b::f=>match iQ D with
  |none=>(D,false)
  |some e=>sW n ⟨fF e.fs n ((aT e.fs n).getD []++[b]),e.done,e.left⟩ f
inductive zZ(C:Addr)(aa2:Addr)(aa4:Addr)(aa1:Addr)(aa5:Addr)(vs:Mp)(H:Hp)(Q:VK)(E:XK):Prop
 |mk:∀(dk df:Addr)(kvs:Mn)(D:Dk)(v v2:V)(d d2:PyData),vs=[.ref dk,v,v2]->DiskAt C H dk df kvs D->Den H d v->oG d->Den H d2 v2->(∀bs,d2 = .tuple bs->bs.length<=100000)->(∀n bs,aT D.fs n=some bs->bs.length<=100000)->(cR cS 8 d=false->∀H',aG H H'->E (.ref aa2) none H')->(∀n,d = .str n->cR cS 8 d=true->(aT D.fs n=none->∀H',aG H H'->E (.ref aa4) none H')/\
  (∀bs,aT D.fs n=some bs->(dR d2=false->∀H',aG H H'->E (.ref aa1) none H')/\(dR d2=true->∀H',rN dk df kvs H H'->DiskAt C H' dk df kvs (sW n D (bX d2)).1->((sW n D (bX d2)).2=true->Q .non H')/\((sW n D (bX d2)).2=false->E (.ref aa5) none H'))))->zZ C aa2 aa4 aa1 aa5 vs H Q E
section
variable{P:Program}{w:World}{K:Ma}{mg:Mc}{base:Heap}{aa2 aa4 ac0 aa5 aa1 ab0 aa6:Addr}
theorem Jw(F:Fun K "drop" "Disk.drop" Gx f fd)(T:‹1›)(ag9:‹5›)(al9:‹11›):‹14› 4 f fd ["self","name"] (oW aa6 aa2 aa4 aa5):=by
 refine F.okY ["self","name"] λaa A J s H vs Q E hr nD0 h=>?_;obtain⟨t,L,p,D,v,d,rfl,N,U,hn,qb,q⟩:=h;refine⟨_,aA ‹83›
  (aA ‹61›
  (aC (aX (iZ K PySem.F.plainAttrs_dict PySem.F.slot_dict_pop PySem.F.type_dict_pop pI ‹22› ‹32›)))),?_⟩
 obtain⟨V,W⟩:=N.self;refine⟨_,rfl,t,V,_,rfl,W,rfl,_,rfl,t,L,p,D,v,d,rfl,N,U,hn,qb,λn X hw=>?_⟩;obtain⟨qm,q2⟩:=q n X hw;subst X;have ev:v = .str n:=by simpa only[Den] using U
 subst ev;refine⟨qm,λbs u H1 G=>?_⟩;obtain⟨qs,q3⟩:=q2 bs u;have O:=N.same G;refine⟨_,rfl,t,V,_,rfl,G _ _ W,rfl,t,L,p,D,rfl,O,λR I H2 f2 g=>?_,λI=>qs I H1 G⟩;obtain⟨x,y⟩:=g.self;have Y:=g.rel.val (n:=n);rw[oN I,u]at Y;obtain⟨v,S,_⟩:=Y;refine⟨_,rfl,t,_,x,_,_,rfl,y,T.cl,T.af5,rfl,.inr (.inr (.inl ⟨rfl,.inl ⟨p,g.files⟩⟩)),_,rfl,L,p,Sum.inr n,_,rfl,rfl,g.files,S,?_⟩;obtain⟨o1,o2,o3⟩:=pE g;have sub:(fA p (Sum.inr n)).Sublist p:=List.filter_sublist;have B:(gQ R.fs n).Sublist R.fs:=List.filter_sublist;refine q3 R I (fA p (Sum.inr n)) _ (λb o e Z=>?_) (λb r=>?_) ⟨⟨x,by rw[aH o1];exact y⟩,aB,?_,?_,?_⟩
 ·rw[aH (λz=>Z (.inr (.inl z)))];exact f2 b o (G _ _ e) (λz=>Z (.inl z))
 ·rcases r with r |r |r
  ·exact .inl (.inl r)
  ·exact .inl (.inr (.inl r))
  ·exact .inl (.inr (.inr ((sub.map _).subset r)))
 ·refine(g.rel.drop (n:=n)).same λb o e m=>?_;rw[aH (λz=>by rw[z]at m;exact o3 ((sub.map _).subset m))];exact e
 ·exact g.nd.sublist (sub.map _)
 ·exact g.kn.sublist (B.map _)
theorem Lq{f:Addr}{fd:Ml}(F:Fun K "add" "Disk.add" Kf f fd)(T:‹1›)(ai:‹15› "is_bytes" 2 ["thing"] hU)(ag9:‹5›)(al9:‹11›):‹14› 4 f fd ["self","name","some"] (zZ aa6 aa2 aa4 aa1 aa5):=by
 refine F.okY ["self","name","some","one"] λaq A aj s H vs Q E hr nD0 h=>?_;obtain⟨N,U,m,D,v,v2,d,d2,rfl,hD,hd,hn,ab,ac,ak,qb,q⟩:=h;refine⟨_,aA ‹83›
  (aA (bE (cY (dL (bC ai ‹18› bB ‹37›)))
   ‹90›
   aO)
  (aC (fQ (kB eE) ⋯ (AE K (pv 2)) ‹56›
   (aA ‹61›
   (aC (aX (iZ K PySem.F.plainAttrs_list PySem.F.slot_list_append PySem.F.type_list_append iM ‹87› ‹53›))))))),?_⟩
 obtain⟨dx,h1⟩:=hD.self;refine⟨_,rfl,N,dx,_,rfl,h1,rfl,_,rfl,N,U,m,D,v,d,rfl,hD,hd,hn,qb,λn en hw=>?_⟩;obtain⟨qm,q2⟩:=q n en hw;subst en;have ev:v = .str n:=by simpa only[Den] using hd
 subst ev;refine⟨qm,λbs W H1 S1=>?_⟩;obtain⟨qr,q3⟩:=q2 bs W;refine⟨_,rfl,v2,d2,rfl,ab.same S1,λds e=>le_trans (ac ds e) (by decide),λH2 S2=>⟨_,rfl,?_⟩⟩;have O:aG H H2:=S1.trans S2;cases G:dR d2 with
 |false=>exact aZ ⟨(by show 1<=sizeLine;decide),qr G H2 O⟩
 |true=>
 refine bH ?_;refine cM rfl ?_;have q4:=q3 G;have R:=hD.same O;obtain⟨I,ad,rfl,rfl,ae,l2⟩:=GB ab G;have z2:=ac ad rfl;have zf:=ak n bs W;generalize bX (.tuple ad)=t at ae l2 q4;have X:H2 I=some (.tup (t.map V.int)):=O _ _ ae;refine⟨_,rfl,I,rfl,⟨_,SqT.of X⟩,?_⟩;have al:SqT K (λa=>if a=I then some (.tup (t.map V.int)) else none) I (t.map V.int):=SqT.of (if_pos rfl);have lm:(t.map V.int).length=t.length:=length_map _;have na:¬own N U m I:=by
  rintro (z |z |z)
  ·obtain⟨ar,am⟩:=R.self;rw[z,am]at X;cases X
  ·rw[z,R.files]at X;cases X
  ·have an:∀{fs:List (Str×Mf)}{m:Mn},FsR H2 fs m->V.ref I∈m.map (·.2)->∃xs,H2 I=some (.lst xs):=by
    intro fs
    induction fs with
    |nil=>
     intro m hr G;cases m with
     |nil=>simp at G
     |cons _ _=>exact hr.elim
    |cons p fs ih=>
     intro m hr G;cases m with
     |nil=>exact hr.elim
     |cons q m=>
      obtain⟨_,⟨l',e,g⟩,h3⟩:=hr;rw[map_cons,mem_cons]at G;rcases G with G |G
      ·rw[e]at G;cases G;exact⟨_,g⟩
      ·exact ih h3 G
   obtain⟨xs,e⟩:=an R.rel z;rw[X]at e;cases e
 refine fR (H0:=λa=>if a=I then some (.tup (t.map V.int)) else none) (s0 (K:=K) al) (λi σ H'=>H' I=some (.tup (t.map V.int))/\rN N U m H H'/\∃L r z3,DiskAt aa6 H' N U m L/\aT L.fs n=some r/\r.length<=bs.length+i/\sW n D t=sW n L (t.drop i)/\σ = [some (.ref N),some (.str n),some (.ref I),z3]) ?i0 ?kp ?_ ?_
 case i0=>exact⟨X,λb o e _=>O b o e,D,bs,none,R,W,le_refl _,rfl,rfl⟩
 case kp=>
  intro i σ H' h b o e;by_cases z:b=I
  ·subst z;have e:some (HO.tup (t.map V.int))=some o:=by simpa using e
   rw[<- e];exact h.1
  ·have e:none=some o:=by simpa [z] using e
   cases e
 ·rintro i x σ H5 H6 hi ⟨g5,f5,L,r,z3,Y,S,af,y,rfl⟩ s6 hx;rw[lm]at hi;rw[getElem?_map,getElem?_eq_getElem hi]at hx;cases hx;rw[drop_eq_getElem_cons hi]at y;have Z:=Y.same s6;obtain⟨ao,ap⟩:=Z.self;have f6:rN N U m H H6:=λb o e nb=>s6 _ _ (f5 b o e nb);refine⟨_,rfl,N,ao,_,rfl,ap,rfl,N,U,m,L,rfl,Z,λB hs H7 f7 u=>?_,λhs=>?_⟩
  ·obtain⟨ag,ah⟩:=u.self;have hv:=u.rel.val (n:=n);rw[oN hs,S]at hv;obtain⟨v7,aa,l,rfl,gl⟩:=hv;have dg:cQ H7 U (.str n) (some (.ref l)):=by
    have:=cQ.k (k:=Sum.inr n) u.files;rw[aa]at this;exact this
   refine⟨_,rfl,N,_,ag,_,_,rfl,ah,T.cl,T.af5,rfl,_,rfl,U,_,rfl,dg,.inl ⟨rfl,_,SqL.of gl⟩,_,rfl,l,_,_,rfl,rfl,gl,?_,?_⟩
   ·rw[length_map];exact lt_of_le_of_lt (show _<=200000 by omega) (by decide)
   have J:=Da aa;have em:r.map V.int++[V.int t[i]]=(r++[t[i]]).map V.int:=by rw[map_append];rfl
   rw[em];obtain⟨o1,o2,o3⟩:=pE u;have nl:I≠l:=λz=>na (.inr (.inr (by rw[z];exact J)));have nk:I≠N:=λz=>na (.inl z);refine⟨?_,λb o e nb=>?_,⟨fF B.fs n (r++[t[i]]),B.done,B.left⟩,r++[t[i]],_,⟨⟨ag,?_⟩,?_,u.rel.wr u.nd u.kn aa,u.nd,?_⟩,?_,?_,?_,rfl⟩
   ·rw[aH nl];exact f7 _ _ (s6 _ _ g5) nk
   ·rw[aH (λz=>nb (.inr (.inr (by rw[z];exact J))))];exact f7 _ _ (f6 b o e nb) (λz=>nb (.inl z))
   ·rw[aH (λz=>by rw[<- z]at J;exact o2 J)];exact ah
   ·rw[aH (λz=>by rw[<- z]at J;exact o3 J)];exact u.files
   ·show ((fF B.fs n (r++[t[i]])).map (·.1)).Nodup;rw[mZ];exact u.kn
   ·show aT (fF B.fs n (r++[t[i]])) n=_;rw[oN hs];exact xJ S
   ·rw[length_append];show r.length+1<=_;omega
   ·rw[y];show (match iQ L with |none=>(L,false) |some B=>sW n ⟨fF B.fs n ((aT B.fs n).getD []++[t[i]]),B.done,B.left⟩ (t.drop (i+1)))=_;rw[hs]
    try dsimp only
    rw[oN hs,S];rfl
  ·have e1:sW n D t=(L,false):=by
    rw[y];show (match iQ L with |none=>(L,false) |some B=>sW n ⟨fF B.fs n ((aT B.fs n).getD []++[t[i]]),B.done,B.left⟩ (t.drop (i+1)))=_;rw[hs]
   rw[e1]at q4;exact(q4 H6 f6 Z).2 rfl
 ·rintro σ H5 ⟨g5,f5,L,r,z3,Y,S,af,y,rfl⟩;rw[lm,List.drop_of_length_le (le_refl _)]at y;have e1:sW n D t=(L,true):=y;rw[e1]at q4;exact(q4 H5 f5 Y).1 rfl
end
theorem vZ:∀{n:List (Str×Mf)}{f:Mn},FsR H n f->∀{b:Addr},V.ref b∈f.map (·.2)->∃o,H b=some (.lst o)
 |[],[],_,b,h=>by simp at h
 |p::n,q::f,hr,b,m=>by
  obtain⟨_,⟨s,e,g⟩,r⟩:=hr;rw[map_cons,mem_cons]at m;rcases m with m |m
  ·rw[e]at m;cases m;exact⟨_,g⟩
  ·exact vZ r m
 |[],_::_,h,_,_=>h.elim
 |_::_,[],h,_,_=>h.elim
section
variable{P:Program}{w:World}{K:Ma}{mg:Mc}{base:Heap}{aa2 aa4 ac0 aa5 aa1 ab0 aa6:Addr}
end
structure Ad where
 dM:Addr
 badRow:Addr
 broken:Addr
 book:Addr
 badName:Addr
 missing:Addr
 there:Addr
 stopped:Addr
 badNumber:Addr
 disk:Addr
 queue:Addr
 badSettings:Addr
 badBody:Addr
 badHand:Addr
 notHeld:Addr
structure TxtQ(K:Ma)(mg:Mc)(A:Ad):Prop where
 ad8:mg "len" = none
 ba8:mg "int" = none
 ae7:mg "sorted" = none
 ax8:mg "sum" = none
 af4:dH K A.broken=true
 ba2:mg "Broken" = some (.ref A.broken)
 ac7:Cls K A.book
 ac6:Cls K A.disk
 aa0:Cls K A.queue
 bl6:mg "min" = none
 bd1:∃t,mg "LARGEST_MOST" = some (.int 2000 t)
 bd2:∃t,mg "LONGEST_HOLD" = some (.int 99 t)
 bb1:∃t,mg "HIGHEST_TRIES" = some (.int 9 t)
 bh5:∃t,mg "HAND_SIGNS" = some (.str "abcdefghijklmnopqrstuvwxyz" t)
 bd3:∃t,mg "LONGEST_HAND" = some (.int 6 t)
 ad3:∃t,mg "HIGHEST_NUMBER" = some (.int 999999 t)
 ah0:∃t,mg "HIGHEST_TIMES" = some (.int 9 t)
 ag1:dH K A.badSettings=true
 bg4:mg "BadSettings" = some (.ref A.badSettings)
 aj6:dH K A.badBody=true
 bf0:mg "BadBody" = some (.ref A.badBody)
 an6:dH K A.badHand=true
 bk4:mg "BadHand" = some (.ref A.badHand)
 aj7:dH K A.notHeld=true
 bf1:mg "NotHeld" = some (.ref A.notHeld)
 ab8:dG K A.book "upcoming"
 ap7:dG K A.queue "disk"
 bk5:dG K A.queue "most"
 bk7:dG K A.queue "hold"
 bd4:dG K A.queue "tries"
 ad9:dG K A.queue "book"
 ai6:dG K A.queue "first"
 aj8:dG K A.queue "last"
 an7:dG K A.queue "writing"
 ac5:dG K A.queue "holders"
 bb2:dG K A.queue "now"
 ac2:mg "isinstance" = none
 ai2:mg "tuple" = none
 af9:mg "enumerate" = none
 ai3:mg "range" = none
 at6:mg "list" = none
 ai4:∃t,mg "LARGEST_DEAL" = some (.int 9 t)
 af0:dH K A.badNumber=true
 ay1:mg "BadNumber" = some (.ref A.badNumber)
def bO(n:Int):Str:=("s" : Str)++Str.ofString (toString n)
abbrev l9:Stmt:=top 60
abbrev oZ:Stmt:=top 61
def e7(n:Int):Prop:=0<=n/\n<10000000
theorem EK(h:e7 n):1<=(Str.ofString (toString n)).length/\(Str.ofString (toString n)).length<=7:=⟨PySem.W.KLn.one_le h.1,PyProof.Rows.toString_length_le h.1 (by decide) h.2⟩
theorem IC(m:Nat):Builtin.Str.strSliceIndices (some 1) none 1 (m+1)=(List.range m).map (· + 1):=by
 have b:Builtin.Str.strSliceIndices (some 1) none 1 (m+1)=sliceRange (max 0 (min 1 ((m+1:Nat):Int))) ((m+1:Nat):Int) 1:=rfl;have e:(max 0 (min 1 ((m+1:Nat):Int)):Int)=1:=by omega
 rw[b,e];unfold sliceRange;simp only[show (1:Int) > 0 by decide,if_true];have f:(if (1:Int)<((m+1:Nat):Int) then (((m+1:Nat):Int)-1+1-1) / 1 else 0)=(m:Int):=by
  split <;> omega
 rw[f,Int.toNat_natCast];apply map_congr_left;intro k _;omega
theorem Cc(c:Nat):∀cs:List Nat,((List.range cs.length).map (· + 1)).filterMap (λi=>(c::cs)[i]?)=cs
 |cs=>by
  rw[List.filterMap_map];have:((λi=>(c::cs)[i]?) ∘ λx=>x+1)=λi=>cs[i]?:=by
   funext i;rfl
  rw[this];apply ext_getElem?;intro i;have b:∀(l:List Nat)(k:Nat),k<=l.length->(List.range k).filterMap (λi=>l[i]?)=l.take k:=by
   intro l k
   induction k with
   |zero=>intro _;rfl
   |succ k e=>
    intro f;rw[List.range_succ,List.filterMap_append,e (by omega),take_succ,getElem?_eq_getElem (by omega)];simp [getElem?_eq_getElem (show k<l.length by omega)]
  rw[b cs cs.length (le_refl _),take_length]
theorem Cl(h:x.cps.toList=c::cs):Txt.slice x (some 1) none=⟨cs.toArray⟩:=by
 have b:x.length=cs.length+1:=by
  show x.cps.size=_;rw[<- length_toList,h];rfl
 unfold Txt.slice;rw[b,IC,if_neg (by simp)];have e:(λi:Nat=>x.cps[i]?)=λi=>(c::cs)[i]?:=by
  funext i;rw[<- getElem?_toList,h]
 rw[e,Cc]
theorem DD{n:Int}(h:0<=n):∀c∈(Str.ofString (toString n)).cps.toList,48<=c/\c<=57:=by
 obtain⟨m,rfl⟩:=Int.eq_ofNat_of_zero_le h;intro c f;rw[PySem.W.KIN.signs_num]at f;obtain⟨g,b,e⟩:=mem_map.mp f;have r:=PyProof.Rows.digit_range (Nat.isDigit_of_mem_toDigits (by decide) (by decide) b);rw[<- e];exact r
theorem Dv(n:Int):(bO n).cps.toList=115::(Str.ofString (toString n)).cps.toList:=by
 show ((("s" : Str)).cps++(Str.ofString (toString n)).cps).toList=_;rw[toList_append];rfl
theorem xK(n:Int):Txt.slice (bO n) (some 1) none=Str.ofString (toString n):=by
 rw[Cl (Dv n),Array.toArray_toList]
theorem Du(h:e7 n):(bO n).length<=8:=by
 have:=(EK h).2;unfold bO;rw[strLen_append];show 1+_<=8;omega
inductive hZ(vs:Mp)(H:Hp)(Q:VK)(x_3:XK):Prop
 |mk:∀n:Int,vs=[.int n]->e7 n->Q (.str (bO n)) H->hZ vs H Q x_3
section
variable{P:Program}{w:World}{K:Ma}{mg:Mc}{base:Heap}{A:Ad}
theorem sN(F:Fun K "segment_name" "segment_name" l9 f e):‹14› 1 f e ["segment"] hZ:=by
 refine F.okY ["segment"] λg A b s H p Q E hr nD0 h=>?_;obtain⟨n,rfl,⟨m,o⟩,q⟩:=h;refine⟨_,aC (aP (pe_fw (pv 0))),?_⟩;exact⟨_,rfl,n,rfl,m,Int.lt_of_lt_of_le o (by decide),q⟩
end
abbrev nM:Stmt:=top 62
section
variable{P:Program}{w:World}{K:Ma}{mg:Mc}{base:Heap}{A:Ad}
end
abbrev xM:Stmt:=top 63
section
variable{P:Program}{w:World}{K:Ma}{mg:Mc}{base:Heap}{A:Ad}
end
abbrev xO:Stmt:=top 64
theorem xL(h:e7 n):∀c∈(bO n).cps.toList,c=115\/(48<=c/\c<=57):=by
 intro c b;rw[Dv]at b;rcases mem_cons.mp b with z |z
 ·exact .inl z
 ·exact .inr (DD h.1 c z)
theorem jV(h:e7 n):cR cS 8 (.str (bO n))=true:=by
 have g:1<=(bO n).length:=by
  have:=(EK h).1;unfold bO;rw[strLen_append];omega
 have m:=Du h;have b:∀c:Nat,c<58->48<=c->inS cS c=true:=by decide +kernel
 have e:inS cS 115=true:=by decide +kernel
 show ((decide (1<=((bO n).length:Int)) && decide (((bO n).length:Int)<=8)) && (bO n).cps.toList.all (inS cS))=true;rw[decide_eq_true (by omega),decide_eq_true (by omega),Bool.true_and,Bool.true_and,all_eq_true];intro c f;rcases xL h c f with z | ⟨z1,o⟩
 ·rw[z];exact e
 ·exact b c (by omega) z1
theorem qS(h:e7 n):oG (.str (bO n)):=by
 intro x e;injection e with e
 subst e;refine⟨le_trans (Du h) (by decide),?_⟩;unfold iC;rw[<- Array.all_toList,all_eq_true];intro c b;rcases xL h c b with z | ⟨z1,f⟩ <;> exact decide_eq_true (by omega)
section
variable{P:Program}{w:World}{K:Ma}{mg:Mc}{base:Heap}{A:Ad}
end
abbrev x5:Stmt:=top 65
theorem Bv(h:n∈b.map (·.1)):∃f,aT b n=some f:=by
 unfold aT;cases e:b.find? λp=>decide (p.1=n) with
 |none=>
  rw[find?_eq_none]at e;rw[mem_map]at h;obtain⟨p,g,m⟩:=h;exact absurd (decide_eq_true m) (e p g)
 |some p=>exact⟨p.2,rfl⟩
section
variable{P:Program}{w:World}{K:Ma}{mg:Mc}{base:Heap}{A:Ad}
end
abbrev jW:Stmt:=top 56
abbrev pA:Stmt:=top 57
abbrev o7:Stmt:=top 59
def fZ:Str:="abcdefghijklmnopqrstuvwxyz"
def uT(b e f:PyData):Bool:=bM 1 2000 b && (bM 0 99 e && bM 1 9 f)
inductive gA(A:Ad)(vs:Mp)(H:Hp)(Q:VK)(E:XK):Prop
 |mk:∀(v1 v2 v3:V)(d1 d2 d3:PyData),vs=[v1,v2,v3]->Den H d1 v1->Den H d2 v2->Den H d3 v3->(uT d1 d2 d3=true->Q .non H)->(uT d1 d2 d3=false->E (.ref A.badSettings) none H)->gA A vs H Q E
inductive gY(A:Ad)(vs:Mp)(H:Hp)(Q:VK)(E:XK):Prop
 |mk:∀(v:V)(d:PyData),vs=[v]->Den H d v->(∀x,d = .str x->x.length<=1000/\iC x=true)->(cR fZ 6 d=true->∀H',aG H H'->Q .non H')->(cR fZ 6 d=false->∀H',aG H H'->E (.ref A.badHand) none H')->gY A vs H Q E
inductive gZ(A:Ad)(vs:Mp)(H:Hp)(Q:VK)(E:XK):Prop
 |mk:∀(v:V)(d:PyData),vs=[v]->Den H d v->(∀bs,d = .tuple bs->bs.length<=sizeLine)->(bS (.tuple [.str "put",.int 0,d])=true->∀H',aG H H'->Q .non H')->(bS (.tuple [.str "put",.int 0,d])=false->∀H',aG H H'->E (.ref A.badBody) none H')->gZ A vs H Q E
section
variable{P:Program}{w:World}{K:Ma}{mg:Mc}{base:Heap}{A:Ad}
theorem pG(F:Fun K "check_settings" "check_settings" jW f B)(T:‹2›)(e:‹3›):‹14› 2 f B ["most","hold","tries"] (gA A):=by
 obtain⟨_,m⟩:=T.bd1;obtain⟨_,n⟩:=T.bd2;obtain⟨_,o⟩:=T.bb1;refine F.okY ["most","hold","tries"] λD R p s H S Q E hr nD0 h=>?_;obtain⟨G,I,J,r,t,u,rfl,L,N,O,q,b⟩:=h;refine⟨_,aA (bE (cY (dL (bC e ‹18› bB (aE (pv 0) (aI aM (aE (cT (v:=.int 2000) ⋯ m ⟨_,rfl⟩) aF))))))
   ‹86›
   aO)
  (aA (bE (cY (dL (bC e ‹18› bB (aE (pv 1) (aI aM (aE (cT (v:=.int 99) ⋯ n ⟨_,rfl⟩) aF))))))
   ‹86›
   aO)
  (aC (bE (cY (dL (bC e ‹18› bB (aE (pv 2) (aI aM (aE (cT (v:=.int 9) ⋯ o ⟨_,rfl⟩) aF))))))
   ‹86›
   aO))),?_⟩
 unfold uT at q b;have g:(1:Nat)<=sizeLine:=by decide
 refine⟨_,rfl,G,r,1,2000,rfl,L,_,rfl,?_⟩;cases x:bM 1 2000 r with
 |false=>
  rw[x]at b;exact aZ ⟨g,b rfl⟩
 |true=>
 rw[x]at q b;refine bH (cM rfl ?_);refine⟨_,rfl,I,t,0,99,rfl,N,_,rfl,?_⟩;cases y:bM 0 99 t with
 |false=>
  rw[y]at b;exact aZ ⟨g,b rfl⟩
 |true=>
 rw[y]at q b;refine bH (cM rfl ?_);refine⟨_,rfl,J,u,1,9,rfl,O,_,rfl,?_⟩;cases z:bM 1 9 u with
 |false=>
  rw[z]at b;exact aZ ⟨g,b rfl⟩
 |true=>
 rw[z]at q;exact bH (q rfl)
theorem wR(F:Fun K "check_hand" "check_hand" o7 f r)(T:‹2›)(b:‹15› "is_word" 1 ["thing","signs","longest"] kY):‹14› 2 f r ["hand"] (gY A):=by
 obtain⟨_,e⟩:=T.bh5;obtain⟨_,g⟩:=T.bd3;refine F.okY ["hand"] λt z m s H B Q E hr nD0 h=>?_;obtain⟨v,d,rfl,u,x,q,y⟩:=h;refine⟨_,aC (bE (cY (dL (bC b ‹18› bB (aE (pv 0) (aE (cT (v:=.str "abcdefghijklmnopqrstuvwxyz") ⋯ e ⟨_,rfl⟩) (aE (cT (v:=.int 6) ⋯ g ⟨_,rfl⟩) aF))))))
   (aC (dY eX ⋯ T.an6 ⋯ T.bk4 ‹25›))
   aO),?_⟩
 refine⟨_,rfl,v,d,fZ,6,rfl,u,x,λn o=>⟨_,rfl,?_⟩⟩;cases p:cR fZ 6 d with
 |false=>exact aZ ⟨(by show 1<=sizeLine;decide),y p n o⟩
 |true=>exact bH (q p n o)
theorem wU(F:Fun K "check_body" "check_body" pA f u)(T:‹2›)(b:‹15› "is_row" 3 ["thing"] mX):‹14› 4 f u ["body"] (gZ A):=by
 refine F.okY ["body"] λx I g s H J Q E hr nD0 h=>?_;obtain⟨v,d,rfl,y,z,q,B⟩:=h;refine⟨_,aC (bE (cY (dL (bC b ‹18› bB (bF (aU (aI bR (aI aM ‹36›))) aF))))
   (aC (dY eX ⋯ T.aj6 ⋯ T.bf0 ‹25›))
   aO),?_⟩
 refine⟨_,rfl,aJ,λp D=>?_⟩;have S:=aD (o:=.tup [.str "put",.int 0,v]) D;refine⟨.ref p,.tuple [.str "put",.int 0,d],rfl,?_,λk n G e=>?_,λm r=>⟨_,rfl,?_⟩⟩
 ·simp only[Den,aQ];exact⟨p,_,rfl,aB,_,_,rfl,rfl,_,_,rfl,rfl,_,_,rfl,y.same S,rfl⟩
 ·injection e with e
  injection e with _ e
  injection e with _ e
  injection e with e _
  exact z G e
 cases t:bS (.tuple [.str "put",.int 0,d]) with
 |false=>exact aZ ⟨(by show 1<=sizeLine;decide),B t m (S.trans r)⟩
 |true=>exact bH (q t m (S.trans r))
end
abbrev rS:Stmt:=top 66
def mkN(D:Dk)(n:Str):Dk:=⟨D.fs++[(n,[])],D.done+1,none⟩
def Ef(D:Dk)(n:Str):Dk:=⟨gQ D.fs n,D.done+1,none⟩
def uU(D:Dk)(n:Str)(b:Mf)(k:Nat):Dk:=⟨fF D.fs n b,D.done+(k:Int),none⟩
theorem jR(h:D.left=none):iQ D=some ⟨D.fs,D.done+1,none⟩:=by
 unfold iQ;rw[h]
theorem Gj(e:List (Str×Mf))(n:Str)(a b:Mf):fF (fF e n a) n b=fF e n b:=by
 unfold fF;rw[map_map];apply map_congr_left;intro p _;by_cases z:p.1=n
 ·simp [z]
 ·simp [z]
theorem xI:∀{b:List (Str×Mf)},(b.map (·.1)).Nodup->aT b n=some f->fF b n f=b
 |[],_,_=>rfl
 |p::b,g,h=>by
  rw[map_cons,nodup_cons]at g;show (if p.1=n then (p.1,f) else p)::fF b n f=_;by_cases z:p.1=n
  ·have e:aT (p::b) n=some p.2:=by simp [aT,z]
   rw[e]at h;cases h;rw[if_pos z,Dt (λm=>g.1 (by rw[z];exact m))]
  ·have e:aT (p::b) n=aT b n:=by simp [aT,z]
   rw[e]at h;rw[if_neg z,xI g.2 h]
theorem zN:∀{e:Mf}{D:Dk}{bs:Mf},D.left=none->(D.fs.map (·.1)).Nodup->aT D.fs n=some bs->sW n D e=(uU D n (bs++e) e.length,true)
 |[],D,bs,f,o,g=>by
  obtain⟨p,done,left⟩:=D;have f:left=none:=f;subst f;show ((⟨p,done,none⟩:Dk),true)=(⟨fF p n (bs++[]),done+((0:Nat):Int),none⟩,true);rw[append_nil,xI o g];simp
 |b::e,D,bs,f,o,g=>by
  show (match iQ D with |none=>(D,false) |some m=>sW n ⟨fF m.fs n ((aT m.fs n).getD []++[b]),m.done,m.left⟩ e)=_;rw[jR f]
  try dsimp only
  rw[g,zN (bs:=bs++[b]) rfl (by rw[mZ];exact o) (xJ g)];unfold uU
  try dsimp only
  rw[Option.getD_some,Gj,append_assoc,length_cons];have:D.done+1+(e.length:Int)=D.done+((e.length+1:Nat):Int):=by omega
  rw[this];rfl
theorem oF(h:DiskAt C H m n f D)(g:own m n f b):∃o,H b=some o:=by
 rcases g with rfl |rfl |g
 ·obtain⟨q,p⟩:=h.self;exact⟨_,p⟩
 ·exact⟨_,h.files⟩
 ·obtain⟨r,e⟩:=vZ h.rel g;exact⟨_,e⟩
theorem pK(b:List (Str×Mf))(n m:Str)(e:Mf)(h:aT b n=none):aT (b++[(n,e)]) m=if m=n then some e else aT b m:=by
 unfold aT at h⊢;rw[map_eq_none_iff,find?_eq_none]at h;rw[List.find?_append];by_cases z:m=n
 ·subst z;have:b.find? (λp=>decide (p.1=m))=none:=find?_eq_none.mpr h;rw[this,if_pos rfl];simp
 ·rw[if_neg z];have f:¬n=m:=λy=>z y.symm;cases b.find? (λp=>decide (p.1=m)) with
  |none=>simp [f]
  |some p=>simp
theorem Bs(b:List (Str×Mf))(n m:Str)(e:Mf):aT (fF b n e) m=if m=n then (aT b n).map (λ_=>e) else aT b m:=by
 unfold aT fF
 induction b with
 |nil=>split <;> rfl
 |cons p b f=>
  rw[map_cons,find?_cons,find?_cons,find?_cons];by_cases z:m=n
  ·subst z;rw[if_pos rfl]at f⊢;by_cases y:p.1=m
   ·simp [y]
   ·simp only[y,if_false,decide_false];exact f
  ·rw[if_neg z]at f⊢;by_cases y:p.1=n
   ·have:¬p.1=m:=λx=>z (x.symm.trans y);simp only[y,if_true];rw[decide_eq_false (λx:n=m=>z x.symm)];exact f
   ·simp only[y,if_false];by_cases x:p.1=m
    ·simp [x]
    ·simp only[x,decide_false];exact f
theorem Ec(b:0<=n)(e:n<=999999):bS (cI ("from",n,[]))=true:=by
 show (dM.contains "from" && (bM 0 999999 (.int n) && (dR (.tuple []) && fG "from" (bX (.tuple [])))))=true;have:bM 0 999999 (.int n)=true:=by
  simp only[bM,and_eq_true,decide_eq_true_eq];exact⟨b,e⟩
 rw[this];decide +kernel
theorem gR(h:k [] H):lR b H k:=h
section
variable{C c1 c2 c3 c4 dk df:Addr}{kvs:Mn}{D:Dk}{n:Int}{H:Hp}{Q:V->Hp->Prop}{E:XK}{bs:Mf}
theorem Au(t:DiskAt C H dk df kvs D)(p:D.left=none)(r:e7 n)(u:D.fs.length<100000)(o:aT D.fs (bO n)=none)(q:∀b m,rN dk df kvs H m->GF dk df kvs b H->DiskAt C m dk df b (mkN D (bO n))->Q .non m):oU C c1 c2 c3 [.ref dk,.str (bO n)] H Q E:=by
 refine⟨dk,df,kvs,D,_,.str (bO n),rfl,t,by simp only[Den],qS r,u,(λz=>by rw[jV r]at z;cases z),λx e _=>?_⟩;injection e with e
 subst e;refine⟨(λbs z=>by rw[o]at z;cases z),λ_=>⟨(λz=>by rw[jR p]at z;cases z),λy s b m f g h=>?_⟩⟩;rw[jR p]at s;cases s;exact q _ _ f g h
theorem GK(s:DiskAt C H dk df kvs D)(o:D.left=none)(p:e7 n)(t:aT D.fs (bO n)=some bs)(q:∀b m,rN dk df kvs H m->GF dk df kvs b H->DiskAt C m dk df b (Ef D (bO n))->Q .non m):oW C c1 c2 c3 [.ref dk,.str (bO n)] H Q E:=by
 refine⟨dk,df,kvs,D,_,.str (bO n),rfl,s,by simp only[Den],qS p,(λz=>by rw[jV p]at z;cases z),λx e _=>?_⟩;injection e with e
 subst e;refine⟨(λz=>by rw[t]at z;cases z),λu z=>⟨(λz=>by rw[jR o]at z;cases z),λy r b m f g h=>?_⟩⟩;rw[jR o]at r;cases r;exact q _ _ f g h
theorem zQ(s:DiskAt C H dk df kvs D)(u:D.left=none)(t:e7 n)(o:aT D.fs (bO n)=some bs)(x:∀n bs,aT D.fs n=some bs->bs.length<=100000)(y:H a=some (.tup (g.map V.int)))(p:∀b∈g,0<=b/\b<=255)(r:g.length<=100000)(q:∀m,rN dk df kvs H m->DiskAt C m dk df kvs (uU D (bO n) (bs++g) g.length)->Q .non m):zZ C c1 c2 c3 c4 [.ref dk,.str (bO n),.ref a] H Q E:=by
 refine⟨dk,df,kvs,D,_,_,.str (bO n),.tuple (g.map .int),rfl,s,by simp only[Den],qS t,by simp only[Den];exact⟨a,_,rfl,y,cC.mpr rfl⟩,(λI e=>by injection e with e;rw[<- e,length_map];exact r),x,(λz=>by rw[jV t]at z;cases z),λJ e _=>?_⟩;injection e with e
 subst e;refine⟨(λz=>by rw[o]at z;cases z),λB z=>?_⟩;rw[o]at z;cases z;have G:dR (.tuple (g.map .int))=true:=tO p
 refine⟨(λz=>by rw[G]at z;cases z),λ_ m f h=>?_⟩;rw[gG,zN u s.kn o]at h⊢;exact⟨λ_=>q m f h,(λz=>by cases z)⟩
theorem At(m:DiskAt C H dk df kvs D)(b:e7 n)(f:aT D.fs (bO n)=some bs)(q:∀g,aG H g->Q (.int (bs.length:Int)) g):oP C c1 c2 [.ref dk,.str (bO n)] H Q E:=by
 refine⟨dk,df,kvs,D,_,.str (bO n),rfl,m,by simp only[Den],qS b,(λz=>by rw[jV b]at z;cases z),λp e _=>?_⟩;injection e with e
 subst e;refine⟨(λz=>by rw[f]at z;cases z),λo z=>?_⟩;rw[f]at z;cases z;exact q
theorem GJ(m:DiskAt C H dk df kvs D)(f:e7 n)(g:aT D.fs (bO n)=some bs)(q:∀p b,aG H b->b p=some (.tup (bs.map V.int))->Q (.ref p) b):oR C c1 c2 [.ref dk,.str (bO n)] H Q E:=by
 refine⟨dk,df,kvs,D,_,.str (bO n),rfl,m,by simp only[Den],qS f,(λz=>by rw[jV f]at z;cases z),λr e _=>?_⟩;injection e with e
 subst e;refine⟨(λz=>by rw[g]at z;cases z),λo z=>?_⟩;rw[g]at z;cases z;exact q
theorem x9(h:bS (cI r)=true):dM.contains r.1=true/\0<=r.2.1/\r.2.1<=999999/\dP r.2.2/\fG r.1 r.2.2=true:=by
 obtain⟨k,n,bs,e,p,q,s,t,g⟩:=oI h;unfold cI fP at e;injection e with e
 injection e with f e
 injection e with m e
 injection e with o e
 injection f with f
 injection m with m
 injection o with o
 have b:dP (bX (.tuple bs)):=wF t;rw[<- o,gG]at g b;rw[f,m];exact⟨p,q,s,b,by rw[<- f]at g⊢;exact g⟩
theorem qT(h:bS (cI r)=true):r.2.2.length<=61:=vY (x9 h).2.2.2.2
theorem lC(h:bS (cI r)=true):∀b∈iF r.1 r.2.1 r.2.2,0<=b/\b<=255:=by
 obtain⟨g,p,q,m,o⟩:=x9 h;have s:=vY o;have e:r.1∈dM:=by simpa using g
 have f:=List.idxOf_lt_length_of_mem e;have f:dM.idxOf r.1<8:=f;intro b e;unfold iF gO pZ at e;simp only[mem_append,mem_cons,not_mem_nil,or_false]at e;rcases e with (z |z) | (((z |z |z |z) |z) |z)
 ·omega
 ·omega
 ·omega
 ·omega
 ·omega
 ·omega
 ·omega
 ·exact m b z
theorem JW(r:Rw):G3 (cI r)=iF r.1 r.2.1 r.2.2:=by
 show iF r.1 r.2.1 (bX (.tuple (r.2.2.map .int)))=_;rw[gG]
theorem CY(m:Den H (cI r) v)(hr:bS (cI r)=true)(q:∀p b,aG H b->b p=some (.tup ((iF r.1 r.2.1 r.2.2).map V.int))->Q (.ref p) b):fM c1 [v] H Q E:=by
 refine⟨v,cI r,rfl,m,λk n bs e=>?_,λ_ p b S g=>q p b S (by rw[<- JW];exact g),(λz=>by rw[hr]at z;cases z)⟩;have o:=qT hr;unfold cI fP at e;injection e with e
 injection e with s e
 injection e with t e
 injection e with f e
 injection f with f
 rw[<- f,length_map];exact le_trans o (by decide)
end
theorem Gk(J:St->Hp->Prop)(f:∀n:St->Hp->Prop,(∀b e,J b e->n b e)->s (D.next n) g H)(m:∀b e,J b e->o D b e):wM s o D g H:=f _ m
theorem J2{s f:TS}{m D:Ends}{g : St}{H:Hp}(J:St->Hp->Prop)(o:∀n:St->Hp->Prop,(∀b e,J b e->n b e)->s (D.next n) g H)(p:∀b e,J b e->f D b e):(m.next (wM s f D)).nx g H:=o _ p
section
variable{P:Program}{w:World}{K:Ma}{mg:Mc}{base:Heap}{A:Ad}
end
structure Qs where
 D:Dk
 B:Bk
 most:Int
 hold:Int
 tries:Int
 first:Int
 last:Int
 now:Int
 hs:Mt
structure Pl where
 qu:Addr
 dk:Addr
 df:Addr
 bk:Addr
 de:Addr
 dp:Addr
 hd:Addr
 kvs:Mn
def quF(L:Pl)(q:Qs)(b:Bool):Mo:=[("disk",.ref L.dk),("most",.int q.most),("hold",.int q.hold),("tries",.int q.tries),("book",.ref L.bk),("first",.int q.first),("last",.int q.last),("writing",.bl b),("holders",.ref L.hd),("now",.int q.now)]
def HoR(H:Hp):Mt->Mn->Prop
 |[],[]=>True
 |p::e,r::b=>r.1=Sum.inl p.1/\(∃t,r.2 = .ref t/\H t=some (.tup [.str p.2.1,.int p.2.2]))/\HoR H e b
 |_,_=>False
theorem HoR.t(s:fX H m):∀{f:Mt}{b:Mn},HoR H f b->HoR m f b
 |[],[],_=>trivial
 |p::f,r::b,h=>by
  obtain⟨n,⟨t,e,g⟩,o⟩:=h;exact⟨n,⟨t,e,s _ _ g⟩,HoR.t s o⟩
 |[],_::_,h=>h.elim
 |_::_,[],h=>h.elim
def Bx(L:Pl)(b:Addr):Prop:=b=L.bk\/b=L.de\/b=L.dp
def Hz(L:Pl)(b:Addr):Prop:=own L.dk L.df L.kvs b
def gT(L:Pl)(b:Addr):Prop:=b=L.qu\/b=L.hd\/Bx L b\/Hz L b
structure QueueW(A:Ad)(H:Hp)(L:Pl)(q:Qs)(wr:Bool):Prop where
 self:∃dx,H L.qu=some (.ins A.queue dx (quF L q wr))
 disk:DiskAt A.disk H L.dk L.df L.kvs q.D
 book:BookAt A.book H L.bk L.de L.dp q.B
 held:∃hk,H L.hd=some (.dK hk)/\HoR H q.hs hk
 a_bd:∀b,Bx L b->¬Hz L b
 a_qu:¬Bx L L.qu/\¬Hz L L.qu
 a_hd:L.hd≠L.qu/\¬Bx L L.hd/\¬Hz L L.hd
structure Step(L L':Pl)(H H':Hp):Prop where
 qu:L'.qu=L.qu
 dk:L'.dk=L.dk
 frm:∀b o,H b=some o->¬gT L b->H' b=some o
 grow:∀b,gT L' b->gT L b\/H b=none
 tup:fX H H'
theorem Step.trans(a:Step L g H m)(b:Step g L2 m H2):Step L L2 H H2:=by
 refine⟨b.qu.trans a.qu,b.dk.trans a.dk,λc o e f=>b.frm c o (a.frm c o e f) (λz=>(a.grow c z).elim f (λy=>by rw[y]at e;cases e)),λc n=>?_,a.tup.trans b.tup⟩;rcases b.grow c n with z |z
 ·exact a.grow c z
 ·by_cases y:gT L c
  ·exact .inl y
  ·refine .inr ?_;cases e:H c with
   |none=>rfl
   |some o=>rw[a.frm c o e y]at z;cases z
theorem aG.step(s:aG H f):Step L L H f:=⟨rfl,rfl,λb o e _=>s b o e,λb h=>.inl h,aG.tup s⟩
theorem Step.not(a:Step L f H g)(e:H b=some o)(n:¬gT L b):¬gT f b:=λz=>(a.grow b z).elim n (λy=>by rw[y]at e;cases e)
theorem DiskAt.keep(h:DiskAt C H g n f D)(s:∀b o,H b=some o->own g n f b->p b=some o):DiskAt C p g n f D:=by
 obtain⟨q,r⟩:=h.self;exact⟨⟨q,s _ _ r (.inl rfl)⟩,s _ _ h.files (.inr (.inl rfl)),h.rel.same λb o e m=>s b o e (.inr (.inr m)),h.nd,h.kn⟩
theorem BookAt.keep(h:BookAt C H f g m B)(s:∀b o,H b=some o->b=f\/b=g\/b=m->n b=some o)(t:fX H n):BookAt C n f g m B:=by
 obtain⟨p,q⟩:=h.self;obtain⟨e,r,u⟩:=h.ent;obtain⟨x,y,z⟩:=h.par;exact⟨⟨p,s _ _ q (.inl rfl)⟩,⟨e,s _ _ r (.inr (.inl rfl)),u.t t⟩,⟨x,s _ _ y (.inr (.inr rfl)),gK t (iK _) z⟩⟩
theorem rN.tup(h:DiskAt C H m n g D)(f:rN m n g H o):fX H o:=λb r e=>by
 refine f b _ e ?_;rintro (rfl |rfl |z)
 ·obtain⟨s,p⟩:=h.self;rw[p]at e;cases e
 ·rw[h.files]at e;cases e
 ·obtain⟨t,q⟩:=vZ h.rel z;rw[q]at e;cases e
section
variable{A:Ad}{H H':Hp}{L:Pl}{q:Qs}{wr:Bool}
theorem QueueW.same(h:QueueW A H L q wr)(s:aG H H'):QueueW A H' L q wr:=by
 obtain⟨b,e⟩:=h.self;obtain⟨f,g,m⟩:=h.held;exact⟨⟨b,s _ _ e⟩,h.disk.same s,h.book.same s,⟨f,s _ _ g,m.t (aG.tup s)⟩,h.a_bd,h.a_qu,h.a_hd⟩
theorem QueueW.fields(h:QueueW A H L q wr)(g:Qs)(f:Bool)(n:g.D=q.D)(p:g.B=q.B)(r:g.hs=q.hs):QueueW A (upd H L.qu (.ins A.queue dx (quF L g f))) L g f/\Step L L H (upd H L.qu (.ins A.queue dx (quF L g f))):=by
 obtain⟨s,u⟩:=h.self;obtain⟨x,y,B⟩:=h.held;have t:fX H (upd H L.qu (.ins A.queue dx (quF L g f))):=kP u (λE z=>by cases z);refine⟨⟨⟨dx,aB⟩,?_,?_,⟨x,by rw[aH h.a_hd.1];exact y,by rw[r];exact B.t t⟩,h.a_bd,h.a_qu,h.a_hd⟩,⟨rfl,rfl,λb o e D=>by rw[aH (λz=>D (.inl z))];exact e,λb m=>.inl m,t⟩⟩
 ·rw[n];refine h.disk.keep λb o e m=>?_;rw[aH (λz=>by rw[z]at m;exact h.a_qu.2 m)];exact e
 ·rw[p];refine h.book.keep (λb o e m=>?_) t;rw[aH (λz=>by rw[z]at m;exact h.a_qu.1 m)];exact e
theorem QueueW.toDisk(h:QueueW A H L q wr)(f:rN L.dk L.df L.kvs H H')(g:GF L.dk L.df L.kvs m H)(E:DiskAt A.disk H' L.dk L.df m G):QueueW A H' {L with kvs:=m} {q with D:=G} wr/\Step L {L with kvs:=m} H H':=by
 obtain⟨u,x⟩:=h.self;obtain⟨I,B,J⟩:=h.held;have t:fX H H':=f.tup h.disk;have n:∀b o,H b=some o->¬Hz L b->¬own L.dk L.df m b:=λb o e p z=>(g b z).elim p (λy=>by rw[y]at e;cases e);refine⟨⟨⟨u,f _ _ x h.a_qu.2⟩,E,h.book.keep (λb o e r=>f b o e (h.a_bd b r)) t,⟨I,f _ _ B h.a_hd.2.2,J.t t⟩,λb r=>?_,⟨h.a_qu.1,n _ _ x h.a_qu.2⟩,⟨h.a_hd.1,h.a_hd.2.1,n _ _ B h.a_hd.2.2⟩⟩,⟨rfl,rfl,λb o e p=>f b o e (λz=>p (.inr (.inr (.inr z)))),λb r=>?_,t⟩⟩
 ·obtain⟨R,N⟩:=h.book.self;obtain⟨s,O,_⟩:=h.book.ent;obtain⟨S,Q,_⟩:=h.book.par;have p:=h.a_bd b r;rcases r with z |z |z
  ·exact n b _ (by rw[z];exact N) p
  ·exact n b _ (by rw[z];exact O) p
  ·exact n b _ (by rw[z];exact Q) p
 ·rcases r with z |z |z |z
  ·exact .inl (.inl z)
  ·exact .inl (.inr (.inl z))
  ·exact .inl (.inr (.inr (.inl z)))
  ·rcases g b z with y |y
   ·exact .inl (.inr (.inr (.inr y)))
   ·exact .inr y
theorem QueueW.toBook(h:QueueW A H L q wr)(f:Frm L.bk L.de L.dp H H')(u:m=L.dp\/H m=none)(I:BookAt A.book H' L.bk L.de m J):QueueW A H' {L with dp:=m} {q with B:=J} wr/\Step L {L with dp:=m} H H':=by
 obtain⟨r,D⟩:=h.self;obtain⟨N,E,O⟩:=h.held;have t:fX H H':=h.book.tup f;have p:∀b o,H b=some o->¬Bx L b->H' b=some o:=λb o e g=>f b o e (λz=>g (.inl z)) (λz=>g (.inr (.inl z))) (λz=>g (.inr (.inr z)));have s:∀b o,H b=some o->¬Bx L b->¬Bx {L with dp:=m} b:=λb o e g z=>by
  rcases z with z |z |z
  ·exact g (.inl z)
  ·exact g (.inr (.inl z))
  ·rcases u with y |y
   ·exact g (.inr (.inr (z.trans y)))
   ·have z:b=m:=z;rw[z,y]at e;cases e
 refine⟨⟨⟨r,p _ _ D h.a_qu.1⟩,h.disk.keep (λb o e n=>p b o e (λz=>h.a_bd b z n)),I,⟨N,p _ _ E h.a_hd.2.1,O.t t⟩,λb n G=>?_,⟨s _ _ D h.a_qu.1,h.a_qu.2⟩,⟨h.a_hd.1,s _ _ E h.a_hd.2.1,h.a_hd.2.2⟩⟩,⟨rfl,rfl,λb o e g=>p b o e (λz=>g (.inr (.inr (.inl z)))),λb n=>?_,t⟩⟩
 ·obtain⟨o,e⟩:=oF h.disk G;by_cases y:Bx L b
  ·exact h.a_bd b y G
  ·exact s b o e y n
 ·rcases n with z |z |z |z
  ·exact .inl (.inl z)
  ·exact .inl (.inr (.inl z))
  ·rcases z with z |z |z
   ·exact .inl (.inr (.inr (.inl (.inl z))))
   ·exact .inl (.inr (.inr (.inl (.inr (.inl z)))))
   ·rcases u with y |y
    ·exact .inl (.inr (.inr (.inl (.inr (.inr (z.trans y))))))
    ·have z:b=m:=z;rw[z];exact .inr y
  ·exact .inl (.inr (.inr (.inr z)))
end
abbrev rR:Stmt:=bN (top 67) 8
abbrev A4:Stmt:=bN (top 67) 17
abbrev xT:Stmt:=bN (top 67) 9
abbrev A6:Stmt:=bN (top 67) 10
abbrev A2:Stmt:=bN (top 67) 11
abbrev u5:Stmt:=bN (top 67) 12
abbrev xV:Stmt:=bN (top 67) 13
theorem pP(h:Den H (sQ n e) v):∃t b,v = .ref t/\H t=some (.tup [.int n,.ref b,.int e.2.1])/\H b=some (.tup (e.1.map V.int)):=by
 unfold sQ at h;simp only[Den,aQ]at h;obtain⟨t,_,rfl,g,_,_,rfl,rfl,_,_,rfl,⟨b,o,rfl,f,m⟩,_,_,rfl,rfl,rfl⟩:=h;rw[cC.mp m]at f;exact⟨t,b,rfl,g,f⟩
theorem Cp{e : Type}(b:List e)(d:e):(List.range b.length).map (λj=>b.getD j d)=b:=by
 apply ext_getElem?;intro i;rw[getElem?_map];by_cases h:i<b.length
 ·rw[getElem?_range h,Option.map_some,getD_eq_getElem?_getD,getElem?_eq_getElem h];rfl
 ·rw[getElem?_eq_none (by rw[length_range];omega),getElem?_eq_none (by omega)];rfl
theorem gH(b:Mf)(t:Int->Bool):((List.range b.length).filter (λj=>t (b.getD j 0))).map (λj=>V.int (b.getD j 0))=(b.filter t).map V.int:=by
 have h:=congrArg (λl=>(l.filter t).map V.int) (Cp b 0);rw[filter_map,map_map]at h;exact h
def eV(b:Mq)(n:Int):Int:=((bQ b n).getD ([],0,0)).2.1
inductive kR(A:Ad)(vs:Mp)(H:Hp)(Q:VK)(x_3:XK):Prop
 |mk:∀(L:Pl)(q:Qs),vs=[.ref L.qu]->QueueW A H L q false->(q.B.es.length<800/\(q.B.es.map (·.1)).Pairwise (· <= ·))->(∀ms,List.Perm ms (q.B.es.map (·.1))->ms.Pairwise (· <= ·)->∀p H',aG H H'->H p=none->Den H' (.list (ms.map (lT q.B.es))) (.ref p)->Q (.ref p) H')->kR A vs H Q x_3
def bY(b:Mt)(n:Int):Option (Str×Int):=(b.find? λp=>decide (p.1=n)).map (·.2)
def kG(b:Mt)(n:Int):Bool:=(bY b n).isNone
inductive mU(A:Ad)(vs:Mp)(H:Hp)(Q:VK)(x_3:XK):Prop
 |mk:∀(L:Pl)(q:Qs),vs=[.ref L.qu]->QueueW A H L q false->(q.B.es.length<800/\(q.B.es.map (·.1)).Pairwise (· <= ·))->(∀ms,List.Perm ms (q.B.es.map (·.1))->ms.Pairwise (· <= ·)->∀p H',aG H H'->Den H' (.list ((ms.filter (kG q.hs)).map (lT q.B.es))) (.ref p)->Q (.ref p) H')->mU A vs H Q x_3
inductive jS(A:Ad)(t:Int->Int->Bool)(vs:Mp)(H:Hp)(Q:VK)(x_3:XK):Prop
 |mk:∀(L:Pl)(q:Qs),vs=[.ref L.qu]->QueueW A H L q false->(q.B.es.length<800/\(q.B.es.map (·.1)).Pairwise (· <= ·))->(∀ms,List.Perm ms (q.B.es.map (·.1))->ms.Pairwise (· <= ·)->∀p H',aG H H'->H p=none->H' p=some (.lst (((ms.filter (kG q.hs)).filter λn=>t (eV q.B.es n) q.tries).map V.int))->Q (.ref p) H')->jS A t vs H Q x_3
def ltB(i j:Int):Bool:=decide (i<j)
def geB(i j:Int):Bool:=decide (i ≥ j)
inductive lZ(A:Ad)(vs:Mp)(H:Hp)(Q:VK)(x_3:XK):Prop
 |mk:∀(L:Pl)(q:Qs),vs=[.ref L.qu]->QueueW A H L q false->Q (.int q.B.up) H->lZ A vs H Q x_3
inductive nZ(A:Ad)(vs:Mp)(H:Hp)(Q:VK)(x_3:XK):Prop
 |mk:∀(L:Pl)(q:Qs),vs=[.ref L.qu]->QueueW A H L q false->Q (.int q.now) H->nZ A vs H Q x_3
theorem HoR.look:∀{b:Mt}{f:Mn},HoR H b f->(bY b n=none->dD f (Sum.inl n)=none)/\∀x m,bY b n=some (x,m)->∃t,dD f (Sum.inl n)=some (.ref t)/\H t=some (.tup [.str x,.int m])
 |[],[],_=>⟨λ_=>rfl,λx m e=>by cases e⟩
 |p::b,r::f,h=>by
  obtain⟨q,⟨t,s,g⟩,u⟩:=h;have y:=HoR.look (n:=n) u;by_cases e:p.1=n
  ·have o:bY (p::b) n=some p.2:=by
    unfold bY;rw[find?_cons,decide_eq_true e];rfl
   rw[o,iO (by rw[q,e])];refine⟨(λz=>by cases z),λx m z=>⟨t,by rw[s],?_⟩⟩;rw[Option.some.inj z]at g;exact g
  ·have o:bY (p::b) n=bY b n:=by
    unfold bY;rw[find?_cons,decide_eq_false e]
   rw[o,iP (λz=>e (Sum.inl.inj (q.symm.trans z)))];exact y
 |[],_::_,h=>h.elim
 |_::_,[],h=>h.elim
theorem HoR.snoc{H:Hp}{n:Int}{x:Str}{b:Int}{t:Addr}(g:H t=some (.tup [.str x,.int b])):∀{e:Mt}{f:Mn},HoR H e f->HoR H (e++[(n,(x,b))]) (f++[(Sum.inl n,.ref t)])
 |[],[],_=>⟨rfl,⟨t,rfl,g⟩,trivial⟩
 |_::_,_::_,⟨m,o,p⟩=>⟨m,o,HoR.snoc g p⟩
 |[],_::_,h=>h.elim
 |_::_,[],h=>h.elim
def dropH(b:Mt)(n:Int):Mt:=b.filter λp=>decide (p.1≠n)
theorem HoR.drop:∀{b:Mt}{f:Mn},HoR H b f->HoR H (dropH b n) (fA f (Sum.inl n))
 |[],[],_=>trivial
 |p::b,r::f,h=>by
  obtain⟨g,o,q⟩:=h;have m:=HoR.drop (n:=n) q;unfold dropH fA at m⊢;rw[filter_cons,filter_cons];by_cases e:p.1=n
  ·rw[if_neg (by rw[decide_eq_true_eq];exact λz=>z e),if_neg (by rw[decide_eq_true_eq,g,e];exact λz=>z rfl)];exact m
  ·rw[if_pos (show decide (p.1≠n)=true from decide_eq_true e),if_pos (show decide (r.1≠Sum.inl n)=true from decide_eq_true (λz=>e (Sum.inl.inj (g.symm.trans z))))];exact⟨g,o,m⟩
 |[],_::_,h=>h.elim
 |_::_,[],h=>h.elim
theorem HoR.len:∀{b:Mt}{e:Mn},HoR H b e->e.length=b.length
 |[],[],_=>rfl
 |_::_,_::_,⟨_,_,f⟩=>by rw[length_cons,length_cons,HoR.len f]
 |[],_::_,h=>h.elim
 |_::_,[],h=>h.elim
theorem CC:∀{b:Mf}{e:Mp},aQ H (b.map f) e->aQ H ((b.filter p).map f) (((List.range e.length).filter λj=>p (b.getD j 0)).map λj=>e.getD j .non)
 |[],e,h=>by
  have h:aQ H [] e:=h;simp only[aQ]at h;subst h;simp only[List.filter_nil,map_nil,length_nil,List.range_zero,aQ]
 |m::b,e,h=>by
  rw[map_cons]at h;simp only[aQ]at h;obtain⟨x,r,rfl,n,o⟩:=h;have g:=CC (p:=p) o;rw[length_cons,range_succ_eq_map,filter_cons,filter_cons,filter_map];have q:((m::b).getD 0 0)=m:=rfl;have s:((λj=>p ((m::b).getD j 0)) ∘ Nat.succ)=λj=>p (b.getD j 0):=rfl;rw[q,s];cases t:p m with
  |true=>
   rw[if_pos rfl,if_pos rfl,map_cons,map_cons,map_map];simp only[aQ];exact⟨x,_,rfl,n,g⟩
  |false=>
   rw[if_neg (by decide),if_neg (by decide),map_map];exact g
theorem eQ{a b:Mf}(h:List.Perm a b)(e:a.Pairwise (· <= ·))(f:b.Pairwise (· <= ·)):a=b:=List.Perm.eq_of_pairwise (λx y _ _ g m=>by omega) e f h
section
variable{P:Program}{w:World}{K:Ma}{mg:Mc}{base:Heap}{A:Ad}
theorem AL(F:Fun K "letters" "Queue.letters" rR f m)(T:‹2›)(b:‹16› A.book "letters" 2 ["self"] (kX A.book)):‹14› 3 f m ["self"] (kR A):=by
 refine F.okY ["self"] λn y e s H z Q E hr nD0 h=>?_;obtain⟨L,q,rfl,g,o,p⟩:=h;refine⟨_,aC (aP (eK b T.ac7 ‹18› bB ‹22›)),?_⟩;obtain⟨r,t⟩:=g.self;obtain⟨u,x⟩:=g.book.self;exact⟨_,rfl,L.qu,_,r,_,_,rfl,t,T.aa0,T.ad9,rfl,L.bk,u,_,rfl,x,rfl,L.bk,L.de,L.dp,q.B,rfl,g.book,o,p⟩
theorem Bf{f:Addr}{e:Ml}(F:Fun K "coming" "Queue.coming" u5 f e)(T:‹2›):‹14› 1 f e ["self"] (lZ A):=by
 refine F.okY ["self"] λm u b s H x Q E hr nD0 h=>?_;obtain⟨L,q,rfl,g,n⟩:=h;refine⟨_,aC (aP (oB ‹22› ⋯)),?_⟩;obtain⟨o,p⟩:=g.self;obtain⟨r,t⟩:=g.book.self;exact⟨_,rfl,L.qu,_,o,_,_,rfl,p,T.aa0,T.ad9,rfl,L.bk,_,r,_,_,rfl,t,T.ac7,T.ab8,rfl,n⟩
theorem C5{f:Addr}{e:Ml}(F:Fun K "clock" "Queue.clock" xV f e)(T:‹2›):‹14› 1 f e ["self"] (nZ A):=by
 refine F.okY ["self"] λg r b s H t Q E hr nD0 h=>?_;obtain⟨L,q,rfl,m,n⟩:=h;refine⟨_,aC (aP ‹22›),?_⟩;obtain⟨o,p⟩:=m.self;exact⟨_,rfl,L.qu,_,o,_,_,rfl,p,T.aa0,T.bb2,rfl,n⟩
theorem FL(F:Fun K "free_letters" "Queue.free_letters" A4 f fd)(T:‹2›)(J:‹16› A.book "letters" 2 ["self"] (kX A.book)):‹14› 3 f fd ["self"] (mU A):=by
 refine F.okY ["self"] λaa A' N s H vs Q E hr nD0 h=>?_;obtain⟨L,q,rfl,B,V,qq⟩:=h;refine⟨_,aC (aP (cZ ["letter"] [("self",0)] ⋯ (bV K (eK J T.ac7 ‹18› bB ‹22›)) ‹42› (λC s2 H2 ex=>(hG (oA (m6 (hu1 hr.units) ‹24› ‹63›)))) ‹67›)),?_⟩;obtain⟨W,X⟩:=B.self;obtain⟨db,h2⟩:=B.book.self;obtain⟨hk,h3,Y⟩:=B.held;refine⟨_,rfl,L.qu,_,W,_,_,rfl,X,T.aa0,T.ad9,rfl,L.bk,db,_,rfl,h2,rfl,L.bk,L.de,L.dp,q.B,rfl,B.book,V,λG e pw p H1 O _ d1=>?_⟩;have m:=d1;simp only[Den]at m;obtain⟨_,Z,e1,g1,g⟩:=m;cases e1;have lx:=g.length;rw[length_map]at lx;have pl:=e.length_eq;rw[length_map]at pl;refine⟨p,rfl,⟨_,SqL.of g1⟩,?_⟩;refine fS (bP (K:=K) (SqL.of g1)) (by rw[lx,pl];exact le_of_lt (lt_trans V.1 (by decide))) (λj=>kG q.hs (G.getD j 0)) (λj=>Z.getD j .non) (λσ=>∃z,σ = [z,some (.ref L.qu)]) ?z0 ?_ ?_
 case z0=>exact⟨none,rfl⟩
 ·intro j x ab H3 hj R S hx Q1 Q2 Q3 r u;obtain⟨z,rfl⟩:=R;obtain⟨d,y,dn⟩:=g.get hx;rw[getElem?_map]at y;cases U:G[j]? with
  |none=>rw[U]at y;cases y
  |some n=>
   rw[U]at y;cases (Option.some.inj y:lT q.B.es n=d);obtain⟨t,b,rfl,gt,gb⟩:=pP dn;have eg:Z.getD j .non = .ref t:=by rw[getD_eq_getElem?_getD,hx];rfl
   have em:G.getD j 0=n:=by rw[getD_eq_getElem?_getD,U];rfl
   rw[eg,em]at r;rw[em]at u;have dg:cQ H3 L.hd (.int n) (dD hk (Sum.inl n)):=cQ.k (k:=Sum.inl n) (S _ _ (O _ _ h3));refine⟨_,rfl,t,_,_,.int n,rfl,rfl,SqT.of (S _ _ gt),bA (by decide) rfl,_,rfl,L.qu,_,W,_,_,rfl,S _ _ (O _ _ X),T.aa0,T.ac5,rfl,L.hd,_,rfl,dg,_,rfl,?_⟩;cases I:bY q.hs n with
   |none=>
    rw[(Y.look (n:=n)).1 I];exact aZ ⟨_,rfl,r _ ⟨_,rfl⟩ (by unfold kG;rw[I];rfl)⟩
   |some o=>
    obtain⟨t',ev,_⟩:=(Y.look (n:=n)).2 o.1 o.2 I;rw[ev];exact bH (u _ ⟨_,rfl⟩ (by unfold kG;rw[I];rfl))
 intro D H2 hD S2 g2;refine qq G e pw D H2 (O.trans S2) ?_;simp only[Den];exact⟨D,_,rfl,g2,(CC g).same S2⟩
theorem C0(F:Fun K "ready" "Queue.ready" xT f fd)(T:‹2›)(I:‹16› A.queue "free_letters" 3 ["self"] (mU A)):‹14› 4 f fd ["self"] (jS A ltB):=by
 refine F.okY ["self"] λaa A' J s H vs Q E hr nD0 h=>?_;obtain⟨L,q,rfl,X,Y,qq⟩:=h;refine⟨_,aC (aP (cZ ["letter"] [("self",0)] ⋯ (bV K (eK I T.aa0 ‹18› bB (pv 0))) ‹42› (λC s2 H2 ex=>(hG (aW vI ‹24› ‹63› (bJ _)))) (λC s2 H2 ex=>‹24›))),?_⟩;obtain⟨Z,h1⟩:=X.self;refine⟨_,rfl,L.qu,Z,_,rfl,h1,rfl,L,q,rfl,X,Y,λm e pw p H1 N d1=>?_⟩;obtain⟨g,o⟩:∃g,g=m.filter (kG q.hs):=⟨_,rfl⟩;rw[<- o]at d1;have r:=d1;simp only[Den]at r;obtain⟨_,xs,e1,g1,u⟩:=r;cases e1;have O:=u.length;rw[length_map]at O;have pl:=e.length_eq;rw[length_map]at pl;have ab:g.length<=m.length:=by rw[o];exact length_filter_le _ _
 refine⟨p,rfl,⟨_,SqL.of g1⟩,?_⟩;refine fS (bP (K:=K) (SqL.of g1)) (by rw[O];exact le_of_lt (lt_of_le_of_lt (show _<=q.B.es.length by omega) (lt_trans Y.1 (by decide)))) (λj=>ltB (eV q.B.es (g.getD j 0)) q.tries) (λj=>V.int (g.getD j 0)) (λσ=>∃z,σ = [z,some (.ref L.qu)]) ?z0 ?_ ?_
 case z0=>exact⟨none,rfl⟩
 ·intro j x ac H3 hj R S hx Q1 Q2 Q3 y B;obtain⟨z,rfl⟩:=R;obtain⟨d,G,dn⟩:=u.get hx;rw[getElem?_map]at G;cases U:g[j]? with
  |none=>rw[U]at G;cases G
  |some n=>
   rw[U]at G;cases (Option.some.inj G:lT q.B.es n=d);obtain⟨t,b,rfl,gt,gb⟩:=pP dn;have eg:g.getD j 0=n:=by rw[getD_eq_getElem?_getD,U];rfl
   rw[eg]at y B;refine⟨_,rfl,t,_,_,.int (eV q.B.es n),rfl,rfl,SqT.of (S _ _ gt),bA (by decide) rfl,_,rfl,L.qu,_,Z,_,_,rfl,S _ _ (N _ _ h1),T.aa0,T.bd4,rfl,_,_,rfl,rfl,_,rfl,?_⟩;show if ltB (eV q.B.es n) q.tries=true then _ else _
   cases hb:ltB (eV q.B.es n) q.tries with
   |true=>exact aZ ⟨_,rfl,t,_,_,.int n,rfl,rfl,SqT.of (S _ _ gt),bA (by decide) rfl,y _ ⟨_,rfl⟩ hb⟩
   |false=>exact bH (B _ ⟨_,rfl⟩ hb)
 intro D H2 hD S2 W;rw[O,gH g (λn=>ltB (eV q.B.es n) q.tries)]at W;rw[o]at W;exact qq m e pw D H2 (N.trans S2) (N.free hD) W
theorem FM(F:Fun K "dead" "Queue.dead" A6 f fd)(T:‹2›)(I:‹16› A.queue "free_letters" 3 ["self"] (mU A)):‹14› 4 f fd ["self"] (jS A geB):=by
 refine F.okY ["self"] λaa A' J s H vs Q E hr nD0 h=>?_;obtain⟨L,q,rfl,X,Y,qq⟩:=h;refine⟨_,aC (aP (cZ ["letter"] [("self",0)] ⋯ (bV K (eK I T.aa0 ‹18› bB (pv 0))) ‹42› (λC s2 H2 ex=>(hG (aW HS ‹24› ‹63› (bJ _)))) (λC s2 H2 ex=>‹24›))),?_⟩;obtain⟨Z,h1⟩:=X.self;refine⟨_,rfl,L.qu,Z,_,rfl,h1,rfl,L,q,rfl,X,Y,λm e pw p H1 N d1=>?_⟩;obtain⟨g,o⟩:∃g,g=m.filter (kG q.hs):=⟨_,rfl⟩;rw[<- o]at d1;have r:=d1;simp only[Den]at r;obtain⟨_,xs,e1,g1,u⟩:=r;cases e1;have O:=u.length;rw[length_map]at O;have pl:=e.length_eq;rw[length_map]at pl;have ab:g.length<=m.length:=by rw[o];exact length_filter_le _ _
 refine⟨p,rfl,⟨_,SqL.of g1⟩,?_⟩;refine fS (bP (K:=K) (SqL.of g1)) (by rw[O];exact le_of_lt (lt_of_le_of_lt (show _<=q.B.es.length by omega) (lt_trans Y.1 (by decide)))) (λj=>geB (eV q.B.es (g.getD j 0)) q.tries) (λj=>V.int (g.getD j 0)) (λσ=>∃z,σ = [z,some (.ref L.qu)]) ?z0 ?_ ?_
 case z0=>exact⟨none,rfl⟩
 ·intro j x ac H3 hj R S hx Q1 Q2 Q3 y B;obtain⟨z,rfl⟩:=R;obtain⟨d,G,dn⟩:=u.get hx;rw[getElem?_map]at G;cases U:g[j]? with
  |none=>rw[U]at G;cases G
  |some n=>
   rw[U]at G;cases (Option.some.inj G:lT q.B.es n=d);obtain⟨t,b,rfl,gt,gb⟩:=pP dn;have eg:g.getD j 0=n:=by rw[getD_eq_getElem?_getD,U];rfl
   rw[eg]at y B;refine⟨_,rfl,t,_,_,.int (eV q.B.es n),rfl,rfl,SqT.of (S _ _ gt),bA (by decide) rfl,_,rfl,L.qu,_,Z,_,_,rfl,S _ _ (N _ _ h1),T.aa0,T.bd4,rfl,_,_,rfl,rfl,_,rfl,?_⟩;show if geB (eV q.B.es n) q.tries=true then _ else _
   cases hb:geB (eV q.B.es n) q.tries with
   |true=>exact aZ ⟨_,rfl,t,_,_,.int n,rfl,rfl,SqT.of (S _ _ gt),bA (by decide) rfl,y _ ⟨_,rfl⟩ hb⟩
   |false=>exact bH (B _ ⟨_,rfl⟩ hb)
 intro D H2 hD S2 W;rw[O,gH g (λn=>geB (eV q.B.es n) q.tries)]at W;rw[o]at W;exact qq m e pw D H2 (N.trans S2) (N.free hD) W
end
abbrev A3:Stmt:=bN (top 67) 20
abbrev xY:Stmt:=bN (top 67) 21
abbrev xU:Stmt:=bN (top 67) 22
abbrev xR:Stmt:=bN (top 67) 19
def cH(b:Mr):Mf:=(b.map λr=>iF r.1 r.2.1 r.2.2).flatten
def iB(q:Qs):Mf:=(aT q.D.fs (bO q.last)).getD []
def yS(q:Qs)(b:Mf):Bool:=!decide (q.B.up > 999999) && decide ((b.length:Int) ≥ q.most)
def wH(q:Qs):Qs:={q with D:=uU (mkN q.D (bO (q.last+1))) (bO (q.last+1)) (iF "from" q.B.up []) 7,last:=q.last+1}
def a8(q:Qs):Qs:=if yS q (iB q)=true then wH q else q
def nL(q:Qs)(b:Mf)(B:Bk):Qs:={q with D:=uU q.D (bO q.last) (iB q++b) b.length,B:=B}
structure WOk(q:Qs)(k:Nat):Prop where
 left:q.D.left=none
 last:e7 q.last
 nxt:e7 (q.last+1)
 here:∃bs,aT q.D.fs (bO q.last)=some bs
 new:aT q.D.fs (bO (q.last+1))=none
 len:∀n bs,aT q.D.fs n=some bs->bs.length<=100000
 files:q.D.fs.length<90000
 up:0<=q.B.up
 ents:q.B.es.length+q.B.parts.length+k<900
inductive qL(A:Ad)(vs:Mp)(H:Hp)(Q:VK)(x_3:XK):Prop
 |mk:∀(L:Pl)(q:Qs)(wr:Bool)(bs:Mf),vs=[.ref L.qu]->QueueW A H L q wr->e7 q.last->aT q.D.fs (bO q.last)=some bs->(∀H',aG H H'->Q (.bl (yS q bs)) H')->qL A vs H Q x_3
inductive n5(A:Ad)(vs:Mp)(H:Hp)(Q:VK)(x_3:XK):Prop
 |mk:∀(L:Pl)(q:Qs)(wr:Bool),vs=[.ref L.qu]->QueueW A H L q wr->q.D.left=none->e7 (q.last+1)->aT q.D.fs (bO (q.last+1))=none->q.D.fs.length<100000->(∀n bs,aT q.D.fs n=some bs->bs.length<=100000)->0<=q.B.up->q.B.up<=999999->(∀L' H',Step L L' H H'->QueueW A H' L' (wH q) wr->Q .non H')->n5 A vs H Q x_3
inductive kS(A:Ad)(vs:Mp)(H:Hp)(Q:VK)(x_3:XK):Prop
 |mk:∀(L:Pl)(q:Qs)(wr:Bool)(bs:Mf),vs=[.ref L.qu]->QueueW A H L q wr->q.D.left=none->e7 q.first->aT q.D.fs (bO q.first)=some bs->(∀L' H',Step L L' H H'->QueueW A H' L' {q with D:=Ef q.D (bO q.first),first:=q.first+1} wr->Q .non H')->kS A vs H Q x_3
inductive nX(A:Ad)(vs:Mp)(H:Hp)(Q:VK)(x_3:XK):Prop
 |mk:∀(L:Pl)(q:Qs)(a:Addr)(rs:Mr)(B':Bk),vs=[.ref L.qu,.ref a]->QueueW A H L q false->WOk q rs.length->(¬gT L a)->Den H (.list (rs.map cI)) (.ref a)->(∀r∈rs,bS (cI r)=true)->dS (a8 q).last (a8 q).B rs=some B'->(∀L' H',Step L L' H H'->QueueW A H' L' (nL (a8 q) (cH rs) B') false->Q .non H')->nX A vs H Q x_3
section
variable{P:Program}{w:World}{K:Ma}{mg:Mc}{base:Heap}{A:Ad}
theorem FK(F:Fun K "is_last_full" "Queue.is_last_full" A3 f x)(T:‹2›)(ab3:‹9›)(o:‹16› A.disk "size" 4 ["self","name"] (oP A.disk A.badName A.missing)):‹14› 5 f x ["self"] (qL A):=by
 obtain⟨_,ad0⟩:=T.ad3;refine F.okY ["self"] λy J p s H N Q E hr nD0 h=>?_;obtain⟨L,q,O,R,rfl,e,t,r,b⟩:=h;refine⟨_,aA (bE (aW pF (oB ‹22› ⋯) (cT (v:=.int 999999) ⋯ ad0 ⟨_,rfl⟩) (bJ _))
   (aC (aP nO))
   aO)
  (aC (aP (hJ HS (cP o T.ac6 ‹18› bT ‹22› (cN ‹95› aF)) ‹22› (bJ _)))),?_⟩
 obtain⟨g,m⟩:=e.self;obtain⟨z,B⟩:=e.book.self;obtain⟨D,G⟩:=e.disk.self;unfold yS at b;refine⟨_,rfl,L.qu,_,g,_,_,rfl,m,T.aa0,T.ad9,rfl,L.bk,_,z,_,_,rfl,B,T.ac7,T.ab8,rfl,_,_,rfl,rfl,_,rfl,?_⟩;show if decide (q.B.up > 999999)=true then _ else _
 by_cases n:q.B.up > 999999
 ·rw[if_pos (decide_eq_true n)];rw[decide_eq_true n]at b;exact b H (aG.refl H)
 ·rw[if_neg (by rw[decide_eq_true_eq];exact n)];rw[decide_eq_false n]at b;refine cM rfl ?_;refine⟨_,rfl,L.qu,_,g,_,_,rfl,m,T.aa0,T.ap7,rfl,L.dk,D,_,rfl,G,rfl,_,rfl,L.qu,_,g,_,_,rfl,m,T.aa0,T.aj8,rfl,q.last,rfl,t,gR (At e.disk t r λI u=>?_)⟩;exact⟨_,rfl,L.qu,_,g,_,_,rfl,u _ _ m,T.aa0,T.bk5,rfl,_,_,rfl,rfl,b I u⟩
theorem C7(F:Fun K "begin_segment" "Queue.begin_segment" xY f fd)(T:‹2›)(ab3:‹9›)(N:‹15› "row_bytes" 4 ["row"] (fM A.badRow))(O:‹16› A.disk "make" 3 ["self","name"] (oU A.disk A.badName A.there A.stopped))(R:‹6›):‹14› 5 f fd ["self"] (n5 A):=by
 refine F.okY ["self","some","name"] λai A' S s H vs Q E hr nD0 h=>?_;obtain⟨L,q,wr,rfl,U,hl,V,g,hf,hz,u0,u1,qq⟩:=h;refine⟨_,aA (a9 (i:=1) nD0 ⋯ ⋯ (bC N ‹18› bT (bF (aU (aI bR (gE (oB ‹22› ⋯) ‹50›))) aF)))
  (aA (a9 (i:=2) nD0 ⋯ ⋯ (bC ab3 ‹18› bB (bW (bD cW ‹22› aM) aF)))
  (aA (aX (cP O T.ac6 ‹18› bT ‹22› ‹37›))
  (aA (aX (cP R T.ac6 ‹18› bT ‹22› (aE (pv 2) ‹32›)))
  ‹70›))),?_⟩
 obtain⟨J,W⟩:=U.self;obtain⟨db,h2⟩:=U.book.self;refine⟨_,rfl,L.qu,_,J,_,_,rfl,W,T.aa0,T.ad9,rfl,L.bk,_,db,_,_,rfl,h2,T.ac7,T.ab8,rfl,aJ,λp0 X=>⟨aJ,λp1 y=>?_⟩⟩;obtain⟨H1,n,S1,g0⟩:=gUU (o:=.tup []) X;rw[n]at y⊢;obtain⟨H2,n,S2,g1⟩:=gUU (o:=.tup [.str "from",.int q.B.up,.ref p0]) y;rw[n];have fo:=Ec u0 u1;refine gR (CY (r:=("from",q.B.up,[])) ?_ fo λpb H3 S3 g3=>?_)
 ·unfold cI fP;simp only[Den,aQ];exact⟨p1,_,rfl,g1,_,_,rfl,rfl,_,_,rfl,rfl,_,_,rfl,⟨p0,[],rfl,S2 _ _ g0,rfl⟩,rfl⟩
 have e:=S1.trans (S2.trans S3);have p:=U.same e;refine⟨_,rfl,L.qu,_,J,_,_,rfl,e _ _ W,T.aa0,T.aj8,rfl,_,_,rfl,rfl,q.last+1,rfl,V,?_⟩;obtain⟨dd,h4⟩:=p.disk.self;refine⟨_,rfl,L.qu,_,J,_,_,rfl,e _ _ W,T.aa0,T.ap7,rfl,L.dk,dd,_,rfl,h4,rfl,_,rfl,gR (Au p.disk hl V hf g λah H4 f4 w4 z=>?_)⟩;obtain⟨t,B⟩:=p.toDisk f4 w4 z;obtain⟨Y,Z⟩:=t.self;obtain⟨aa,ab⟩:=t.disk.self;have ac:aT (mkN q.D (bO (q.last+1))).fs (bO (q.last+1))=some []:=by
  show aT (q.D.fs++[(bO (q.last+1),[])]) (bO (q.last+1))=some [];rw[pK _ _ _ _ g,if_pos rfl]
 refine⟨_,rfl,L.qu,_,Y,_,_,rfl,Z,T.aa0,T.ap7,rfl,L.dk,aa,_,rfl,ab,rfl,_,rfl,_,rfl,gR (zQ z rfl V ac (λm bs x=>?_) (B.tup _ _ g3) (lC fo) (by rw[eI];show 7<=100000;decide) λH5 f5 ad=>?_)⟩
 ·have x:aT (q.D.fs++[(bO (q.last+1),[])]) m=some bs:=x;rw[pK _ _ _ _ g]at x;split at x
  ·cases x;exact zero_le _
  ·exact hz m bs x
 obtain⟨D,ae⟩:=t.toDisk f5 (λb h=>.inl h) ad;obtain⟨u,G⟩:=D.self;have I:(iF "from" q.B.up []).length=7:=by rw[eI];rfl
 refine⟨_,rfl,L.qu,_,u,_,_,rfl,G,T.aa0,T.aj8,rfl,_,_,rfl,rfl,u,_,G,by show 10<1000;decide,?_⟩;obtain⟨af,ag⟩:=D.fields (dx:=u) (wH q) wr (by rw[I];rfl) rfl rfl;exact qq _ _ ((aG.step e).trans (B.trans (ae.trans ag))) af
theorem C3(F:Fun K "drop_first" "Queue.drop_first" xU f G)(T:‹2›)(ab3:‹9›)(n:‹16› A.disk "drop" 4 ["self","name"] (oW A.disk A.badName A.missing A.stopped)):‹14› 5 f G ["self"] (kS A):=by
 refine F.okY ["self"] λI X o s H Y Q E hr nD0 h=>?_;obtain⟨L,q,J,Z,rfl,m,N,y,O,R⟩:=h;refine⟨_,aA (aX (cP n T.ac6 ‹18› bT ‹22› (cN ‹95› aF)))
  ‹70›,?_⟩
 obtain⟨p,z⟩:=m.self;obtain⟨S,U⟩:=m.disk.self;refine⟨_,rfl,L.qu,_,p,_,_,rfl,z,T.aa0,T.ap7,rfl,L.dk,S,_,rfl,U,rfl,_,rfl,L.qu,_,p,_,_,rfl,z,T.aa0,T.ai6,rfl,q.first,rfl,y,gR (GK m.disk N y O λB H4 V W r=>?_)⟩;obtain⟨e,t⟩:=m.toDisk V W r;obtain⟨b,g⟩:=e.self;refine⟨_,rfl,L.qu,_,b,_,_,rfl,g,T.aa0,T.ai6,rfl,_,_,rfl,rfl,b,_,g,by show 10<1000;decide,?_⟩;obtain⟨u,x⟩:=e.fields (dx:=b) {q with D:=Ef q.D (bO q.first),first:=q.first+1} J rfl rfl rfl;exact R _ _ (t.trans x) u
end
theorem pC:hV "writing" (.bl b) (quF L q a)=quF L q b:=rfl
theorem Co(b:Mr)(r:Rw):cH (b++[r])=cH b++iF r.1 r.2.1 r.2.2:=by
 unfold cH;rw[map_append,List.flatten_append];simp
theorem x8(h:∀r∈rs,bS (cI r)=true):(cH rs).length<=68*rs.length:=by
 unfold cH
 induction rs with
 |nil=>exact le_refl _
 |cons r rs b=>
  rw[map_cons,List.flatten_cons,length_append,eI,length_cons];have f:=b (λx e=>h x (mem_cons_of_mem _ e));have g:=qT (h r mem_cons_self);omega
theorem BK(h:∀r∈g,bS (cI r)=true):∀b∈cH g,0<=b/\b<=255:=by
 intro b e;unfold cH at e;rw[List.mem_flatten]at e;obtain⟨l,f,e⟩:=e;rw[mem_map]at f;obtain⟨r,hr,rfl⟩:=f;exact lC (h r hr) b e
theorem lN(q:Qs)(h:aT q.D.fs (bO (q.last+1))=none)(m:Str):aT (wH q).D.fs m=if m=bO (q.last+1) then some (iF "from" q.B.up []) else aT q.D.fs m:=by
 show aT (fF (q.D.fs++[(bO (q.last+1),[])]) (bO (q.last+1)) (iF "from" q.B.up [])) m=_;rw[Bs,pK _ _ _ _ h,pK _ _ _ _ h];by_cases z:m=bO (q.last+1)
 ·rw[if_pos z,if_pos z,if_pos rfl];rfl
 ·rw[if_neg z,if_neg z,if_neg z]
structure NOk(q:Qs):Prop where
 left:q.D.left=none
 last:e7 q.last
 here:aT q.D.fs (bO q.last)=some (iB q)
 len:∀n bs,aT q.D.fs n=some bs->bs.length<=100000
theorem vQ(h:aT q.D.fs (bO q.last)=some b):iB q=b:=by
 unfold iB;rw[h];rfl
theorem WOk.next(h:WOk q k):NOk (a8 q)/\(a8 q).B=q.B:=by
 unfold a8;split
 ·refine⟨⟨rfl,h.nxt,?_,λn b e=>?_⟩,rfl⟩
  ·have e:=lN q h.new (bO (q.last+1));rw[if_pos rfl]at e;have g:iB (wH q)=iF "from" q.B.up []:=vQ e;rw[g];exact e
  ·rw[lN q h.new]at e;split at e
   ·cases e;rw[eI];decide
   ·exact h.len n b e
 ·obtain⟨b,f⟩:=h.here;exact⟨⟨h.left,h.last,by rw[vQ f];exact f,h.len⟩,rfl⟩
section
variable{P:Program}{w:World}{K:Ma}{mg:Mc}{base:Heap}{A:Ad}
theorem Cy(F:Fun K "write" "Queue.write" xR f fd)(T:‹2›)(ab3:‹9›)(a1:‹15› "row_bytes" 4 ["row"] (fM A.badRow))(a2:‹15› "make_good" 6 ["disk"] bz)(a3:‹6›)(a4:‹16› A.book "enter" 3 ["self","row","segment"] (oV A.book A.broken))(a5:‹16› A.queue "is_last_full" 5 ["self"] (qL A))(a6:‹16› A.queue "begin_segment" 5 ["self"] (n5 A)):‹14› 7 f fd ["self","rows"] (nX A):=by
 refine F.okY ["self","rows","some","row"] λbG A' ba s H vs Q E hr nD0 h=>?_;obtain⟨L,q,a,g,B',rfl,hq,ok,na,da,J,Z,qq⟩:=h;refine⟨_,aA (a9 (i:=2) nD0 ⋯ ⋯ (aU aF))
  (aA (fQ (kB eE) ⋯ (bV K (pv 1)) ‹56›
   (aC (a9 (i:=2) nD0 ⋯ ⋯ (bD jD (pv 2) (bC a1 ‹18› bT ‹53›)))))
  (aA (bE (dL ‹22›)
   (aC (aX (bC a2 ‹18› bT ‹79›)))
   aO)
  (aA (dU (pv 0) nO ⋯)
  (aA (bE (dL (eK a5 T.aa0 ‹18› bT (pv 0)))
   (aC (aX (eK a6 T.aa0 ‹18› bT (pv 0))))
   aO)
  (aA (aX (cP a3 T.ac6 ‹18› bT ‹22› (cN ‹95› ‹37›)))
  (aA (dU (pv 0) nO ⋯)
  (aC (fQ (kB eE) ⋯ (bV K (pv 1)) ‹56›
   (aC (aX (cP a4 T.ac7 ‹18› bT ‹22› (aE (pv 3) ‹79›)))))))))))),?_⟩
 have ar:=da;simp only[Den]at ar;obtain⟨_,xs,e,ga,ah⟩:=ar;cases e;have lx:=ah.length;rw[length_map]at lx;refine⟨aJ,new_o λp0 H1 S1 g0=>?_⟩;refine⟨_,rfl,a,rfl,⟨_,SqL.of (S1 _ _ ga)⟩,?_⟩;refine fR (bP (K:=K) (SqL.of (S1 _ _ ga))) (λi σ W=>aG H1 W/\∃pa z3,W pa=some (.tup ((cH (g.take i)).map V.int))/\σ = [some (.ref L.qu),some (.ref a),some (.ref pa),z3]) ?i0 (λ_ _ _ h=>h.1) ?_ ?_
 case i0=>exact⟨aG.refl _,p0,none,g0,rfl⟩
 ·rintro i x σ H5 H6 hi ⟨s5,pa,z3,g5,rfl⟩ s6 hx;obtain⟨d,N,dn⟩:=ah.get hx;rw[getElem?_map]at N;cases X:g[i]? with
  |none=>rw[X]at N;cases N
  |some r=>
   rw[X]at N;cases (Option.some.inj N:cI r=d);have as:=J r (mem_of_getElem? X);have et:g.take (i+1)=g.take i++[r]:=by
    rw[take_succ,X];rfl
   refine⟨_,rfl,_,rfl,gR (CY (dn.same (S1.trans (s5.trans s6))) as λpb H7 S7 g7=>?_)⟩;refine⟨pa,pb,_,_,rfl,rfl,S7 _ _ (s6 _ _ g5),g7,?_,λp8 H8 S8 g8=>?_⟩
   ·have h1:=x8 (rs:=g.take i) (λr h=>J r (List.mem_of_mem_take h));have h2:=qT as;have h3:=ok.ents;rw[length_map,length_map,eI];rw[length_take]at h1;refine le_trans (m:=100000) ?_ (by decide);omega
   ·refine⟨s5.trans (s6.trans (S7.trans S8)),p8,_,?_,rfl⟩;rw[et,Co,map_append];exact g8
 rintro σ H2 ⟨S2,pa,z3,g2,rfl⟩;rw[show g.take xs.length=g by rw[lx,take_length]]at g2;have au:=S1.trans S2;have p:=hq.same au;obtain⟨dx,h1⟩:=p.self;obtain⟨bs,av⟩:=ok.here;refine⟨_,rfl,L.qu,_,dx,_,_,rfl,h1,T.aa0,T.an7,rfl,_,rfl,bH (cM rfl ?_)⟩;refine⟨_,rfl,L.qu,_,dx,_,rfl,h1,T.aa0,T.an7,by show 10<1000;decide,?_⟩;rw[pC];obtain⟨aa,ai⟩:=p.fields (dx:=dx) q true rfl rfl rfl;generalize upd H2 L.qu (.ins A.queue dx (quF L q true))=H3 at aa ai⊢;obtain⟨bb,bc⟩:=aa.self;have ae:Step L L H H3:=(aG.step au).trans ai;have aw:=ai.tup _ _ g2;obtain⟨O,nB⟩:=ok.next
 try dsimp only
 refine J2 (λbd W=>bd=[some (.ref L.qu),some (.ref a),some (.ref pa),z3]/\W pa=some (.tup ((cH g).map V.int))/\∃L4,Step L L4 H W/\QueueW A W L4 (a8 q) true) (λn hn=>?_) ?_
 ·refine⟨_,rfl,L.qu,bb,_,rfl,bc,rfl,L,q,true,bs,rfl,aa,ok.last,av,λH4 S4=>⟨_,rfl,?_⟩⟩;have aj:=aa.same S4;obtain⟨be,bf⟩:=aj.self;have el:iB q=bs:=vQ av;cases hb:yS q bs with
  |true=>
   refine aZ ?_;have hu:q.B.up<=999999:=by
    unfold yS at hb;simp only[and_eq_true,Bool.not_eq_true',decide_eq_false_iff_not]at hb;omega
   refine⟨_,rfl,L.qu,be,_,rfl,bf,rfl,L,q,true,rfl,aj,ok.left,ok.nxt,ok.new,lt_trans ok.files (by decide),ok.len,ok.up,hu,λR H5 u B=>?_⟩;refine hn _ _ ⟨rfl,u.tup _ _ (S4 _ _ aw),R,ae.trans ((aG.step S4).trans u),?_⟩;unfold a8;rw[el,if_pos hb];exact B
  |false=>
   refine bH (cM rfl (hn _ _ ⟨rfl,S4 _ _ aw,L,ae.trans (aG.step S4),?_⟩));unfold a8;rw[el,if_neg (by rw[hb];decide)];exact aj
 rintro _ H5 ⟨rfl,bg,R,u,B⟩;have bx:(a8 q).B.es.length+(a8 q).B.parts.length+g.length<900:=by rw[nB];exact ok.ents
 generalize a8 q=r at *;obtain⟨ax,ak⟩:=B.self;obtain⟨bh,bi⟩:=B.disk.self;rw[u.qu]at ak;have lb:(cH g).length<=100000:=by
  have h1:=x8 J;have h3:=ok.ents;omega
 refine⟨_,rfl,L.qu,_,ax,_,_,rfl,ak,T.aa0,T.ap7,rfl,R.dk,bh,_,rfl,bi,rfl,_,rfl,L.qu,_,ax,_,_,rfl,ak,T.aa0,T.aj8,rfl,r.last,rfl,O.last,_,rfl,gR (zQ B.disk O.left O.last O.here O.len bg (BK J) lb λH6 f6 bj=>?_)⟩;obtain⟨ab,al⟩:=B.toDisk f6 (λb h=>.inl h) bj;obtain⟨ac,am⟩:=ab.self;have am:H6 R.qu=some (.ins A.queue ac (quF R {r with D:=uU r.D (bO r.last) (iB r++cH g) (cH g).length} true)):=am;have af:=am;rw[u.qu]at af;refine⟨_,rfl,L.qu,_,ac,_,rfl,af,T.aa0,T.an7,by show 10<1000;decide,?_⟩;rw[pC];have ab:QueueW A H6 R {r with D:=uU r.D (bO r.last) (iB r++cH g) (cH g).length} true:=ab;have al:Step R R H5 H6:=al;obtain⟨an,ao⟩:=ab.fields (dx:=ac) {r with D:=uU r.D (bO r.last) (iB r++cH g) (cH g).length} false rfl rfl rfl;rw[u.qu]at an ao;generalize upd H6 L.qu (.ins A.queue ac (quF R {r with D:=uU r.D (bO r.last) (iB r++cH g) (cH g).length} false))=H7 at an ao⊢;have ag:Step L R H H7:=u.trans (al.trans ao);have bk:=ag.frm _ _ ga na;refine⟨_,rfl,a,rfl,⟨_,SqL.of bk⟩,?_⟩;refine fR (H0:=λc=>if c=a then some (.lst xs) else none) (bP (K:=K) (SqL.of (if_pos rfl))) (λj σ W=>∃Y S z3,Step L Y H W/\QueueW A W Y (nL r (cH g) S) false/\S.es.length+S.parts.length<=r.B.es.length+r.B.parts.length+j/\dS r.last r.B g=dS r.last S (g.drop j)/\σ = [some (.ref L.qu),some (.ref a),some (.ref pa),z3]) ?j0 ?kp ?_ ?_
 case j0=>exact⟨R,r.B,_,ag,an,le_refl _,rfl,rfl⟩
 case kp=>
  rintro j σ W ⟨Y,S,z,st,_⟩ b o eb;by_cases y:b=a
  ·subst y;have eb:some (HO.lst xs)=some o:=by simpa using eb
   rw[<- eb];exact st.frm _ _ ga na
  ·have eb:none=some o:=by simpa [y] using eb
   cases eb
 ·rintro j y σ G1 G2 hj ⟨Y,S,z,ad,ap,bm,G,rfl⟩ sG hy;obtain⟨d,N,dn⟩:=ah.get hy;rw[getElem?_map]at N;cases X:g[j]? with
  |none=>rw[X]at N;cases N
  |some I=>
   rw[X]at N;cases (Option.some.inj N:cI I=d);have jL:j<g.length:=(List.getElem?_eq_some_iff.mp X).1;have bn:g.drop j=I::g.drop (j+1):=by
    rw[drop_eq_getElem_cons jL,(List.getElem?_eq_some_iff.mp X).2]
   rw[bn]at G;have U:dS r.last S (I::g.drop (j+1))=match dE S I.1 I.2.1 I.2.2 r.last with |none=>none |some B'=>dS r.last B' (g.drop (j+1)):=rfl
   obtain⟨t,b,rfl,gt,gb⟩:=pB dn;have ay:=ad.trans (aG.step sG);have bo:Den G2 (fP I.1 I.2.1 I.2.2) (.ref t):=Eg ay.tup (lB _ _ _) dn;have p:=ap.same sG;obtain⟨az,aq⟩:=p.self;obtain⟨bp,bq⟩:=p.book.self;rw[ad.qu]at aq;refine⟨_,rfl,L.qu,_,az,_,_,rfl,aq,T.aa0,T.ad9,rfl,Y.bk,bp,_,rfl,bq,rfl,_,rfl,_,rfl,L.qu,_,az,_,_,rfl,aq,T.aa0,T.aj8,rfl,Y.bk,Y.de,Y.dp,t,S,I.1,I.2.1,r.last,I.2.2,rfl,p.book,bo,J I (mem_of_getElem? X),by omega,λB2 a0 dq H8 f8 br bt=>?_,λbu=>?_⟩
   ·obtain⟨bv,bw⟩:=p.toBook f8 br bt;refine⟨_,B2,_,ay.trans bw,bv,?_,?_,rfl⟩
    ·have:=DT a0;omega
    ·rw[G,U,a0]
   ·rw[G,U,bu]at Z;cases Z
 ·rintro σ H8 ⟨Y,S,z,ad,ap,bm,G,rfl⟩;rw[lx,List.drop_of_length_le (le_refl _)]at G;rw[G]at Z;cases (Option.some.inj Z:S=B');exact qq Y H8 ad ap
end
abbrev Dw:Stmt:=bN (top 67) 1
abbrev uZ:Stmt:=bN (top 67) 2
abbrev mB:Stmt:=top 58
theorem fT{A:Ad}{H:Hp}{L:Pl}{q:Qs}{e:Bool}(h:QueueW A H L q e){b:Addr}(f:gT L b):∃o,H b=some o:=by
 obtain⟨s,g⟩:=h.self;obtain⟨t,m,_⟩:=h.held;obtain⟨u,n⟩:=h.book.self;obtain⟨x,p,_⟩:=h.book.ent;obtain⟨y,r,_⟩:=h.book.par;rcases f with z |z | (z |z |z) |z
 ·exact⟨_,by rw[z];exact g⟩
 ·exact⟨_,by rw[z];exact m⟩
 ·exact⟨_,by rw[z];exact n⟩
 ·exact⟨_,by rw[z];exact p⟩
 ·exact⟨_,by rw[z];exact r⟩
 ·exact oF h.disk z
def i5(d:PyData):Bool:=bS (.tuple [.str "put",.int 0,d])
def fU:PyData->Bool
 | .tuple b=>decide (1<=b.length) && (decide (b.length<=9) && b.all i5)
 |_=>false
def l8(d:PyData):Prop:=∀b,d = .tuple b->b.length<=1000
theorem qU{k:Str}{n:Int}{b:Mf}(e:k = "put"\/k = "part")(f:0<=n)(g:n<=999999)(m:dP b)(o:b.length<=60):bS (cI (k,n,b))=true:=by
 have p:dM.contains k=true:=by rcases e with rfl |rfl <;> decide +kernel
 show (dM.contains k && (bM 0 999999 (.int n) && (dR (.tuple (b.map .int)) && fG k (bX (.tuple (b.map .int))))))=true;have q:bM 0 999999 (.int n)=true:=by
  simp only[bM,and_eq_true,decide_eq_true_eq];exact⟨f,g⟩
 have r:dR (.tuple (b.map .int))=true:=tO m;have s:fG k b=true:=by
  unfold fG;rw[if_pos e];exact decide_eq_true o
 rw[p,q,r,gG,s];rfl
theorem KH{n:Int}{m:Nat}(e:0<=n)(f:n<=999999)(r:1<=m)(s:m<=9):bS (cI ("deal",n,[(m:Int)]))=true:=by
 show (dM.contains "deal" && (bM 0 999999 (.int n) && (dR (.tuple [.int (m:Int)]) && fG "deal" (bX (.tuple [.int (m:Int)])))))=true;have g:bM 0 999999 (.int n)=true:=by
  simp only[bM,and_eq_true,decide_eq_true_eq];exact⟨e,f⟩
 have o:dR (.tuple [.int (m:Int)])=true:=tO (ns:=[(m:Int)]) (λb p=>by rw[mem_singleton.mp p];omega);have q:fG "deal" (bX (.tuple [.int (m:Int)]))=true:=by
  show fG "deal" [(m:Int)]=true;unfold fG;rw[if_neg (by decide),if_neg (by decide),if_pos rfl];show (decide (1=1) && decide (1<=(m:Int)) && decide ((m:Int)<=9))=true;rw[decide_eq_true (show 1<=(m:Int) by omega),decide_eq_true (show (m:Int)<=9 by omega)];rfl
 rw[g,o,q];decide +kernel
theorem zI(h:i5 d=true):∃b:Mf,d = .tuple (b.map .int)/\dP b/\b.length<=60:=by
 obtain⟨k,n,f,e,s,_,_,g,m⟩:=oI h;injection e with e
 injection e with o e
 injection e with _ e
 injection e with q e
 injection o with o
 subst o;have p:dR (.tuple f)=true:=g;refine⟨bX (.tuple f),?_,wF p,?_⟩
 ·rw[q];have:f=(bX (.tuple f)).map .int:=by
   rw[all_eq_true]at g;show f=(f.map _).map _;rw[map_map]
   conv=>lhs;rw[<- map_id f]
   apply map_congr_left;intro x r;have:=g x r;cases x with
   |int i=>rfl
   |_=>simp [bM]at this
  rw[<- this]
 ·unfold fG at m;rw[if_pos (.inl rfl)]at m;exact of_decide_eq_true m
inductive iA(A:Ad)(vs:Mp)(H:Hp)(Q:VK)(E:XK):Prop
 |mk:∀(v:V)(d:PyData),vs=[v]->Den H d v->(∀ds,d = .tuple ds->ds.length<=1000/\∀e∈ds,l8 e)->(fU d=true->∀H',aG H H'->Q .non H')->(fU d=false->∀H',aG H H'->E (.ref A.badBody) none H')->iA A vs H Q E
def putQ(q:Qs)(b:Mf)(e:Bk):Qs:=nL (a8 q) (cH [("put",q.B.up,b)]) e
inductive oS(A:Ad)(vs:Mp)(H:Hp)(Q:VK)(E:XK):Prop
 |mk:∀(L:Pl)(q:Qs)(v:V)(d:PyData),vs=[.ref L.qu,v]->QueueW A H L q false->Den H d v->l8 d->(i5 d=false->∀H',aG H H'->E (.ref A.badBody) none H')->(∀body:Mf,d = .tuple (body.map .int)->dP body->body.length<=60->WOk q 1/\q.B.up<=999999/\∃B',dS (a8 q).last (a8 q).B [("put",q.B.up,body)]=some B'/\∀L' H',Step L L' H H'->QueueW A H' L' (putQ q body B') false->Q (.int q.B.up) H')->oS A vs H Q E
def i4(e:Int)(b:Md):Mr:=(List.range b.length).map λ(k:Nat)=>("part",e+(k:Int),b.getD k [])
def kN(e:Int)(b:Md):Mr:=i4 e b++([("deal",e,[(b.length:Int)])]:Mr)
def allQ(q:Qs)(b:Md)(e:Bk):Qs:=nL (a8 q) (cH (kN q.B.up b)) e
def dF(e:Md):Mj:=e.map λb=>.tuple (b.map .int)
def pH(b:Int)(n:Nat):Mf:=(List.range n).map λ(k:Nat)=>b+(k:Int)
inductive i9(A:Ad)(vs:Mp)(H:Hp)(Q:VK)(E:XK):Prop
 |mk:∀(L:Pl)(q:Qs)(v:V)(d:PyData),vs=[.ref L.qu,v]->QueueW A H L q false->Den H d v->(∀ds,d = .tuple ds->ds.length<=1000/\∀e∈ds,l8 e)->(fU d=false->∀H',aG H H'->E (.ref A.badBody) none H')->(∀bss:Md,d = .tuple (dF bss)->1<=bss.length->bss.length<=9->(∀b∈bss,dP b/\b.length<=60)->WOk q (bss.length+1)/\q.B.up+(bss.length:Int)<=1000000/\∃B',dS (a8 q).last (a8 q).B (kN q.B.up bss)=some B'/\∀p L' H',Step L L' H H'->QueueW A H' L' (allQ q bss B') false->¬gT L' p->(H p=none\/gT L p)->H' p=some (.lst ((pH q.B.up bss.length).map V.int))->Q (.ref p) H')->i9 A vs H Q E
theorem CM{g:Mj}(h:g.all i5=true):∃f:Md,g=dF f/\∀b∈f,dP b/\b.length<=60:=by
 induction g with
 |nil=>exact⟨[],rfl,(λb m=>by cases m)⟩
 |cons d g o=>
  rw[all_cons,and_eq_true]at h;obtain⟨f,e,m⟩:=o h.2;obtain⟨b,p,q,r⟩:=zI h.1;refine⟨b::f,by rw[e,p];rfl,λx n=>?_⟩;rcases mem_cons.mp n with rfl |n
  ·exact⟨q,r⟩
  ·exact m x n
section
variable{P:Program}{w:World}{K:Ma}{mg:Mc}{base:Heap}{A:Ad}
theorem sO(F:Fun K "check_bodies" "check_bodies" mB f Y)(T:‹2›)(y:‹15› "check_body" 4 ["body"] (gZ A)):‹14› 5 f Y ["bodies"] (iA A):=by
 obtain⟨_,B⟩:=T.ai4;refine F.okY ["bodies","body"] λZ A' D s H vs Q E hr nD0 h=>?_;obtain⟨v,d,rfl,O,hz,q,g⟩:=h;refine⟨_,aA (bE (lQ (cY (dL ‹27›)) (iV (cY (BU kD kD aM ‹28› (cT (v:=.int 9) ⋯ B ⟨_,rfl⟩))))).pt
   (aC (dY eX ⋯ T.aj6 ⋯ T.bf0 ‹25›))
   aO)
  (aC (fQ (kB eE) ⋯ (AE K (pv 0)) (bK (i:=1) nD0 ⋯ ⋯)
   (aC (aX (bC y ‹18› bT ‹32›))))),?_⟩
 have b:(1:Nat)<=sizeLine:=by decide
 refine⟨_,rfl,_,_,_,_,rfl,O.ty,rF d,_,rfl,?_⟩;cases d with
 |none=>exact aZ (aZ ⟨b,g rfl H (aG.refl H)⟩)
 |bool x=>exact aZ (aZ ⟨b,g rfl H (aG.refl H)⟩)
 |int x=>exact aZ (aZ ⟨b,g rfl H (aG.refl H)⟩)
 |str x=>exact aZ (aZ ⟨b,g rfl H (aG.refl H)⟩)
 |list x=>exact aZ (aZ ⟨b,g rfl H (aG.refl H)⟩)
 |dict x=>exact aZ (aZ ⟨b,g rfl H (aG.refl H)⟩)
 |tuple n=>
 refine bH ?_;obtain⟨z1,z2⟩:=hz n rfl;have r:=O;simp only[Den]at r;obtain⟨a,xs,rfl,G,t⟩:=r;have R:=t.length;refine⟨_,rfl,a,_,rfl,.inr (SqT.of G),_,_,rfl,rfl,_,rfl,?_⟩;rw[R];unfold fU at q g;dsimp only at q g;by_cases S:1<=n.length
 case neg=>
  rw[decide_eq_false S,Bool.false_and]at g;rw[if_neg (by rw[decide_eq_true_eq];omega)];exact⟨_,rfl,aZ ⟨b,g rfl H (aG.refl H)⟩⟩
 rw[decide_eq_true S,Bool.true_and]at q g;rw[if_pos (decide_eq_true (by omega))];refine⟨_,_,rfl,rfl,_,rfl,?_⟩;show if (!decide ((n.length:Int)<=9))=true then _ else _
 by_cases U:n.length<=9
 case neg=>
  rw[decide_eq_false U,Bool.false_and]at g;rw[decide_eq_false (by omega)];exact aZ ⟨b,g rfl H (aG.refl H)⟩
 rw[decide_eq_true U,Bool.true_and]at q g;rw[decide_eq_true (show (n.length:Int)<=9 by omega)];refine bH (cM rfl ?_);refine⟨_,rfl,a,rfl,⟨_,SqT.of G⟩,?_⟩;refine fR (s0 (K:=K) (SqT.of G)) (λi I H'=>aG H H'/\(n.take i).all i5=true/\∃z,I = [some (.ref a),z]) ?i0 (λ_ _ _ h=>h.1) ?_ ?_
 case i0=>exact⟨aG.refl _,rfl,none,rfl⟩
 ·rintro i x I V H6 hi ⟨J,m,z,rfl⟩ s6 hx;obtain⟨e,W,dn⟩:=t.get hx;have L:=J.trans s6;have u:e∈n:=mem_of_getElem? W;refine⟨_,rfl,x,e,rfl,dn.same L,λbs eb=>le_trans (z2 e u bs eb) (by decide),λp X N=>?_,λp X N=>?_⟩
  ·refine⟨L.trans N,?_,_,rfl⟩;rw[take_succ,W,List.all_append,m];show (true && (i5 e && true))=true;have:i5 e=true:=p;rw[this];rfl
  ·refine g ?_ X (L.trans N);rw[<- Bool.not_eq_true,all_eq_true];intro o;have:i5 e=true:=o e u;have p:i5 e=false:=p;rw[this]at p;cases p
 ·rintro I V ⟨J,m,z,rfl⟩;rw[R,take_length]at m;exact q m V J
theorem HV(F:Fun K "put" "Queue.put" Dw f fd)(T:‹2›)(y:‹15› "check_body" 4 ["body"] (gZ A))(B:‹4›):‹14› 8 f fd ["self","body"] (oS A):=by
 refine F.okY ["self","body","number"] λaa A' D s H vs Q E hr nD0 h=>?_;obtain⟨L,q,v,d,rfl,hq,R,hz,qe,qg⟩:=h;refine⟨_,aA (aX (bC y ‹18› bT ‹32›))
  (aA (a9 (i:=2) nD0 ⋯ ⋯ (oB ‹22› ⋯))
  (aA (aX (cP B T.aa0 ‹18› bT (pv 0) (eZ (cA (bF (aU (aI bR (aE (pv 2) ‹32›))) aF)) aF)))
  (aC (aP (pv 2))))),?_⟩
 refine⟨_,rfl,v,d,rfl,R,(λbs e=>le_trans (hz bs e) (by decide)),λhg S u=>?_,λx S u=>qe x S u⟩;obtain⟨b,rfl,x,U⟩:=zI hg;obtain⟨ok,hu,B',G,qq⟩:=qg b rfl x U;have n:bS (cI ("put",q.B.up,b))=true:=qU (.inl rfl) ok.up hu x U;have g:=hq.same u;obtain⟨V,W⟩:=g.self;obtain⟨db,h2⟩:=g.book.self;refine⟨_,rfl,L.qu,_,V,_,_,rfl,W,T.aa0,T.ad9,rfl,L.bk,_,db,_,_,rfl,h2,T.ac7,T.ab8,rfl,?_⟩;refine⟨_,rfl,L.qu,V,_,rfl,W,rfl,_,rfl,_,rfl,aJ,λX I=>⟨aJ,λp2 m=>?_⟩⟩;obtain⟨H2,p,Y,g1⟩:=gUU (o:=.tup [.str "put",.int q.B.up,v]) I;rw[p]at m⊢;obtain⟨H3,p,Z,g2⟩:=gUU (o:=.lst [.ref X]) m;rw[p];have t:=Y.trans Z;have J:=g.same t;refine⟨L,q,p2,[("put",q.B.up,b)],B',rfl,J,ok,λz=>?_,?_,λr N=>?_,G,λL' H' st O=>⟨_,rfl,qq L' H' ((aG.step (u.trans t)).trans st) O⟩⟩
 ·obtain⟨o,e⟩:=fT (g.same Y) z;rw[e]at m;cases m
 ·simp only[Den,map_cons,map_nil,aQ];refine⟨p2,_,rfl,g2,_,_,rfl,?_,rfl⟩;unfold cI fP;simp only[Den,aQ];refine⟨X,_,rfl,Z _ _ g1,_,_,rfl,rfl,_,_,rfl,rfl,_,_,rfl,?_,rfl⟩;have:=R.same (u.trans t);simp only[Den]at this;exact this
 ·rcases mem_cons.mp N with rfl |z
  ·exact n
  ·cases z
theorem Be{f:Addr}{fd:Ml}(F:Fun K "put_all" "Queue.put_all" uZ f fd)(T:‹2›)(ah:‹15› "check_bodies" 5 ["bodies"] (iA A))(ai:‹4›):‹14› 8 f fd ["self","bodies"] (i9 A):=by
 refine F.okY ["self","bodies","first","parts"] λap A' aj s H vs Q E hr nD0 h=>?_;obtain⟨L,q,v,d,rfl,hq,dv,hz,qe,qg⟩:=h;refine⟨_,aA (aX (bC ah ‹18› bT ‹32›))
  (aA (a9 (i:=2) nD0 ⋯ ⋯ (oB ‹22› ⋯))
  (aA (lE (i:=3) ["number","body"] [] nD0 ⋯ ⋯ ⋯ (HG K T.af9 (pv 1) (pv 2)) (λC s2 H2 ex=>(iH K (n:=2) (cJ (bK (i:=0) (show List.Nodup (["number","body"]:Mg) by decide +kernel) ⋯ (Or.inl ⋯)) (cJ (bK (i:=1) (show List.Nodup (["number","body"]:Mg) by decide +kernel) ⋯ (Or.inl ⋯)) iG)))) ‹44› (λC s2 H2 ex=>(aU (aI bR (aE (pv 0) ‹32›)))))
  (aA (aX (cP ai T.aa0 ‹18› bT (pv 0) (bW (bD Cv (pv 3) (cA (bF (aU (aI bR (aE (pv 2) (bF (aU (cN ‹75› aF)) aF)))) aF))) aF)))
  (aC (aP (cZ ["part"] [] ⋯ (bV K (pv 3)) (λC s2 H2 ex=>(bK (i:=0) (show List.Nodup (["part"]:Mg) by decide +kernel) ⋯ (Or.inl ⋯))) ‹44› (λC s2 H2 ex=>‹24›))))))),?_⟩
 refine⟨_,rfl,v,d,rfl,dv,hz,λhg H1 S1=>?_,λhb H1 S1=>qe hb H1 S1⟩;cases d with
 |tuple ds=>
 simp only[fU,and_eq_true,decide_eq_true_eq]at hg;obtain⟨g1,g9,aa⟩:=hg;obtain⟨g,rfl,J⟩:=CM aa;have lb:(dF g).length=g.length:=length_map _;rw[lb]at g1 g9;obtain⟨ok,hu,B',ak,qq⟩:=qg g rfl g1 g9 J;have N:=hq.same S1;obtain⟨dx,h1⟩:=N.self;obtain⟨db,h2⟩:=N.book.self;have ab:=dv.same S1;simp only[Den]at ab;obtain⟨a,xs,rfl,ha,ac⟩:=ab;have lx:=ac.length;rw[lb]at lx;refine⟨_,rfl,L.qu,_,dx,_,_,rfl,h1,T.aa0,T.ad9,rfl,L.bk,_,db,_,_,rfl,h2,T.ac7,T.ab8,rfl,?_⟩;refine⟨_,rfl,_,rfl,a,_,q.B.up,rfl,rfl,ok.up,by omega,SqT.of ha,?_⟩;refine cX (uC (K:=K) q.B.up (SqT.of ha)) (by rw[lx];exact le_trans g9 (by decide)) (λi y H'=>Den H' (cI ("part",q.B.up+(i:Int),g.getD i [])) y) (λi y G1 G2 s h=>h.n s (lB _ _ _)) (λσ=>σ.length=2) ?z0 ?_ ?_
 case z0=>rfl
 ·intro i x O H3 hi R s3 hx Q' S;obtain⟨p,u,rfl,hp,hv⟩:=hx;obtain⟨e,he,dn⟩:=ac.get hv;rw[lx]at hi;have eb:g[i]? = some (g.getD i []):=by rw[getD_eq_getElem?_getD,getElem?_eq_getElem hi];rfl
  unfold dF at he;rw[getElem?_map,eb]at he;cases (Option.some.inj he:PyData.tuple ((g.getD i []).map .int)=e)
  match O,R with
  |[z1,z2],_=>
   refine⟨p,_,rfl,SqT.of hp,rfl,_,_,rfl,_,_,rfl,rfl,?_⟩;refine⟨_,rfl,_,rfl,aJ,λpt ad=>?_⟩;refine S _ _ _ rfl (aD ad) ?_;unfold cI fP;simp only[Den,aQ];refine⟨pt,_,rfl,aB,_,_,rfl,rfl,_,_,rfl,rfl,_,_,rfl,?_,rfl⟩;have:=dn.same (s3.trans (aD (o:=.tup [.str "part",.int (q.B.up+(i:Int)),u]) ad));simp only[Den]at this;exact this
 intro D ys H2 hD S2 gD B hR;rw[lx]at B;have U:=S1.trans S2;have ae:=hq.same U;refine⟨_,rfl,L.qu,dx,_,rfl,S2 _ _ h1,rfl,_,rfl,_,rfl,_,rfl,a,_,rfl,.inr (SqT.of (S2 _ _ ha)),aJ,λt1 al=>⟨aJ,λt2 W=>⟨aJ,λl3 I=>?_⟩⟩⟩;rw[lx]at W I⊢;obtain⟨H3,m,U1,u1⟩:=gUU (o:=.tup [.int (g.length:Int)]) al;rw[m]at W I⊢;obtain⟨H4,m,U2,u2⟩:=gUU (o:=.tup [.str "deal",.int q.B.up,.ref t1]) W;rw[m]at I⊢;obtain⟨H5,m,U3,u3⟩:=gUU (o:=.lst [.ref t2]) I;rw[m];have X:=U1.trans (U2.trans U3);refine⟨D,l3,ys,_,rfl,rfl,X _ _ gD,u3,?_,λpc Y=>?_⟩
 ·rw[B];exact le_trans (show _<=10 by simp;omega) (by decide)
 obtain⟨H6,m,U4,u4⟩:=gUU (o:=.lst (ys++[.ref t2])) Y;rw[m];have G:=X.trans U4;have am:=ae.same G;have dl:(kN q.B.up g).length=g.length+1:=by
  unfold kN i4;rw[length_append,length_map,length_range];rfl
 refine⟨L,q,pc,kN q.B.up g,B',rfl,am,by rw[dl];exact ok,λz=>?_,?_,λr Z=>?_,ak,λL' H7 st af=>?_⟩
 ·obtain⟨o,e⟩:=fT (ae.same X) z;rw[e]at Y;cases Y
 ·simp only[Den];refine⟨pc,_,rfl,u4,iJ (by rw[length_map,dl,length_append,B];rfl) λi y e=>?_⟩;by_cases hi:i<ys.length
  ·rw[getElem?_append_left hi]at e;refine⟨cI ("part",q.B.up+(i:Int),g.getD i []),?_,(hR i y e).same G⟩;unfold kN i4;rw[getElem?_map,getElem?_append_left (by rw[length_map,length_range];omega),getElem?_map,getElem?_range (by omega)];rfl
  ·rw[getElem?_append_right (by omega)]at e;have an:i-ys.length=0:=by
    have:=(List.getElem?_eq_some_iff.mp e).1;rw[List.length_singleton]at this;omega
   rw[an]at e;cases (Option.some.inj e:V.ref t2=y);refine⟨cI ("deal",q.B.up,[(g.length:Int)]),?_,?_⟩
   ·unfold kN i4;rw[getElem?_map,getElem?_append_right (by rw[length_map,length_range];omega),length_map,length_range,show i-g.length=0 by omega];rfl
   ·unfold cI fP;simp only[Den,aQ,map_cons,map_nil];exact⟨t2,_,rfl,U4 _ _ (U3 _ _ u2),_,_,rfl,rfl,_,_,rfl,rfl,_,_,rfl,⟨t1,_,rfl,U4 _ _ (U3 _ _ (U2 _ _ u1)),_,_,rfl,rfl,rfl⟩,rfl⟩
 ·unfold kN i4 at Z;rw[mem_append]at Z;rcases Z with z |z
  ·rw[mem_map]at z;obtain⟨k,hk,rfl⟩:=z;rw[mem_range]at hk;have hb:=J (g.getD k []) (by rw[getD_eq_getElem?_getD,getElem?_eq_getElem hk];exact List.getElem_mem hk);have:=ok.up;exact qU (.inr rfl) (by omega) (by omega) hb.1 hb.2
  ·rw[mem_singleton.mp z];exact KH ok.up (by omega) g1 g9
 have nD:¬gT L D:=λz=>by
  obtain⟨o,e⟩:=fT N z;rw[e]at hD;cases hD
 have g7:=st.frm _ _ (G _ _ gD) nD;refine⟨_,rfl,D,rfl,⟨_,SqL.of g7⟩,?_⟩;refine cX (bP (K:=K) (SqL.of g7)) (by rw[B];exact le_trans g9 (by decide)) (λi y _=>y = .int (q.B.up+(i:Int))) (λ_ _ _ _ _ h=>h) (λσ=>σ.length=1) ?z1 ?_ ?_
 case z1=>rfl
 ·intro i x O H8 hi R s8 hx Q' S;obtain⟨t,b,rfl,gt,gb⟩:=pB (hR i x hx)
  match O,R with
  |[z],_=>
   refine⟨_,rfl,t,_,_,.int (q.B.up+(i:Int)),rfl,rfl,SqT.of (s8 _ _ (st.tup _ _ (G _ _ gt))),bA (by decide) rfl,?_⟩;exact S _ _ _ rfl (aG.refl _) rfl
 intro p zs H9 hp S9 ag aq ao;have ez:zs=(pH q.B.up g.length).map V.int:=by
  apply ext_getElem?;intro j;cases ej:zs[j]? with
  |none=>
   have h1:=List.getElem?_eq_none_iff.mp ej;rw[List.getElem?_eq_none_iff.mpr];unfold pH;rw[length_map,length_map,length_range];omega
  |some y=>
   have hj:j<g.length:=by
    have:=(List.getElem?_eq_some_iff.mp ej).1;omega
   rw[ao j y ej];unfold pH;rw[getElem?_map,getElem?_map,getElem?_range hj];rfl
 rw[ez]at ag;refine qq p L' H9 ((aG.step (U.trans G)).trans (st.trans (aG.step S9))) (af.same S9) (λz=>?_) ?_ ag
 ·obtain⟨o,e⟩:=fT af z;rw[e]at hp;cases hp
 ·by_cases z:gT L p
  ·exact .inr z
  ·refine .inl ?_;cases e:H p with
   |none=>rfl
   |some o=>
    rw[st.frm _ _ ((U.trans G) _ _ e) z]at hp;cases hp
 |_=>simp [fU]at hg
end
abbrev A0:Stmt:=bN (top 67) 3
abbrev A7:Stmt:=bN (top 67) 5
abbrev xW:Stmt:=bN (top 67) 18
abbrev uY:Stmt:=bN (top 67) 7
def qV(q:Qs)(b:Mf):Mf:=(b.filter (kG q.hs)).filter λn=>ltB (eV q.B.es n) q.tries
def y9(q:Qs)(b:Mf):Mf:=(b.filter (kG q.hs)).filter λn=>geB (eV q.B.es n) q.tries
def outQ(q:Qs)(n:Int)(x:Str)(b:Bk):Qs:={nL (a8 q) (cH [("out",n,[])]) b with hs:=q.hs++[(n,(x,q.now))] }
def newQ(q:Qs)(n:Int)(b:Bk):Qs:=nL (a8 q) (cH [("new",n,[])]) b
def backQ(q:Qs)(n:Int):Qs:={q with hs:=dropH q.hs n}
inductive mT(A:Ad)(vs:Mp)(H:Hp)(Q:VK)(E:XK):Prop
 |mk:∀(L:Pl)(q:Qs)(v:V),vs=[.ref L.qu,v]->QueueW A H L q false->((∃(x:Str) (ms:Mf),v = .str x/\(q.B.es.length<800/\(q.B.es.map (·.1)).Pairwise (· <= ·))/\q.hs.length<900/\cR fZ 6 (.str x)=true/\(x.length<=1000/\iC x=true)/\List.Perm ms (q.B.es.map (·.1))/\ms.Pairwise (· <= ·)/\
 (qV q ms=[]->∀H',aG H H'->Q .non H')/\
 (∀n r,qV q ms=n::r->WOk q 1/\0<=n/\n<=999999/\∃B' e,dS (a8 q).last (a8 q).B [("out",n,[])]=some B'/\bQ B'.es n=some e/\∀p L' H',Step L L' H H'->QueueW A H' L' (outQ q n x B') false->Den H' (sQ n e) (.ref p)->Q (.ref p) H'))\/
 ∃d,Den H d v/\(∀x,d = .str x->x.length<=1000/\iC x=true)/\cR fZ 6 d=false/\∀H',aG H H'->E (.ref A.badHand) none H')->mT A vs H Q E
inductive i8(A:Ad)(vs:Mp)(H:Hp)(Q:VK)(E:XK):Prop
 |mk:∀(L:Pl)(q:Qs)(v:V)(d:PyData)(ms:Mf),vs=[.ref L.qu,v]->QueueW A H L q false->(q.B.es.length<800/\(q.B.es.map (·.1)).Pairwise (· <= ·))->Den H d v->List.Perm ms (q.B.es.map (·.1))->ms.Pairwise (· <= ·)->((∀n∈y9 q ms,bM 0 999999 (.int n)=true->d ≠ .int n)->∀H',aG H H'->E (.ref A.badNumber) none H')->(∀n,d = .int n->n∈y9 q ms->0<=n->n<=999999->WOk q 1/\∃B',dS (a8 q).last (a8 q).B [("new",n,[])]=some B'/\∀L' H',Step L L' H H'->QueueW A H' L' (newQ q n B') false->Q .non H')->i8 A vs H Q E
theorem nF(b:Mf):(b.map V.int).all nU=true:=by
 rw[all_map];exact all_eq_true.mpr λ_ _=>rfl
theorem pS(n:Int)(b:Mf):inV (.int n) (b.map V.int)=decide (n∈b):=by
 unfold inV;rw[List.any_map];by_cases h:n∈b
 ·rw[decide_eq_true h,any_eq_true];exact⟨n,h,beq_self_eq_true n⟩
 ·rw[decide_eq_false h,<- Bool.not_eq_true,any_eq_true];rintro ⟨x,f,e⟩;have e:(x == n)=true:=e;rw[beq_iff_eq]at e;rw[e]at f;exact h f
theorem An(b:k = "out"\/k = "new"\/k = "done")(e:0<=n)(f:n<=999999):bS (cI (k,n,[]))=true:=by
 have g:bM 0 999999 (.int n)=true:=by
  simp only[bM,and_eq_true,decide_eq_true_eq];exact⟨e,f⟩
 show (dM.contains k && (bM 0 999999 (.int n) && (dR (.tuple []) && fG k (bX (.tuple [])))))=true;rw[g];rcases b with rfl |rfl |rfl <;> decide +kernel
theorem QueueW.toHeld(h:QueueW A H L q n)(r:HoR H m f):QueueW A (upd H L.hd (.dK f)) L {q with hs:=m} n/\Step L L H (upd H L.hd (.dK f)):=by
 obtain⟨p,s⟩:=h.self;obtain⟨B,u,D⟩:=h.held;have t:fX H (upd H L.hd (.dK f)):=kP u (λE z=>by cases z);refine⟨⟨⟨p,by rw[aH (λz=>h.a_hd.1 z.symm)];exact s⟩,h.disk.keep λb o e g=>?_,h.book.keep (λb o e g=>?_) t,⟨f,aB,r.t t⟩,h.a_bd,h.a_qu,h.a_hd⟩,⟨rfl,rfl,λb o e x=>by rw[aH (λz=>x (.inr (.inl z)))];exact e,λb g=>.inl g,t⟩⟩
 ·rw[aH (λz=>by rw[z]at g;exact h.a_hd.2.2 g)];exact e
 ·rw[aH (λz=>by rw[z]at g;exact h.a_hd.2.1 g)];exact e
theorem cU(q:Qs):(a8 q).now=q.now/\(a8 q).hs=q.hs/\(a8 q).tries=q.tries/\(a8 q).B=q.B:=by
 unfold a8;split <;> exact⟨rfl,rfl,rfl,rfl⟩
section
variable{P:Program}{w:World}{K:Ma}{mg:Mc}{base:Heap}{A:Ad}
theorem FJ(F:Fun K "take" "Queue.take" A0 f fd)(T:‹2›)(ab:‹15› "check_hand" 2 ["hand"] (gY A))(ac:‹12›)(ad:‹16› A.queue "ready" 4 ["self"] (jS A ltB))(ae:‹4›):‹14› 8 f fd ["self","hand"] (mT A):=by
 refine F.okY ["self","hand","numbers","number"] λas A' af s H vs Q E hr nD0 h=>?_;obtain⟨L,q,v,rfl,hq,h⟩:=h;refine⟨_,aA (aX (bC ab ‹18› bT ‹32›))
  (aA (a9 (i:=2) nD0 ⋯ ⋯ (eK ad T.aa0 ‹18› bB (pv 0)))
  (aA (bE (cY (iW K (pv 2)))
   ‹69›
   aO)
  (aA (a9 (i:=3) nD0 ⋯ ⋯ (cG (cK K) (pv 2) aM (λ_ _=>rfl)))
  (aA (aX (cP ae T.aa0 ‹18› bT (pv 0) (eZ (cA (bF (aU (aI bR (aE (pv 3) ‹50›))) aF)) aF)))
  (aA (fN (hu1 hr.units) ‹22› (pv 3) (aU (aE (pv 1) ‹79›)) ⋯)
  (aC (aP (cP ac T.ac7 ‹18› bB ‹22› ‹53›)))))))),?_⟩
 rcases h with ⟨x,ms,rfl,hl,hh,hw,hz,J,pw,qn,qs⟩ | ⟨d,dd,hz,hw,qe⟩
 rotate_left
 ·exact⟨_,rfl,v,d,rfl,dd,hz,(λz=>by rw[hw]at z;cases z),λ_=>qe⟩
 refine⟨_,rfl,.str x,.str x,rfl,by simp only[Den],(λy e=>by injection e with e;rw[<- e];exact hz),λ_ H1 S1=>?_,(λz=>by rw[hw]at z;cases z)⟩;have N:=hq.same S1;obtain⟨dx,h1⟩:=N.self;refine⟨_,rfl,L.qu,dx,_,rfl,h1,rfl,L,q,rfl,N,hl,λt u ag p H2 S2 hp B=>?_⟩;have em:t=ms:=eQ (u.trans J.symm) ag pw;subst em;have B:H2 p=some (.lst ((qV q t).map V.int)):=B;cases O:qV q t with
 |nil=>
  rw[O]at B;exact⟨_,rfl,p,_,rfl,SqL.of B,aZ (qn O H2 (S1.trans S2))⟩
 |cons n r=>
  rw[O]at B;obtain⟨ok,n0,n9,B',e,ah,ai,qq⟩:=qs n r O;refine⟨_,rfl,p,_,rfl,SqL.of B,bH (cM rfl ?_)⟩;refine⟨_,rfl,p,_,_,.int n,rfl,rfl,SqL.of B,bA (by decide) rfl,?_⟩;have R:=S1.trans S2;have D:=hq.same R;obtain⟨aj,h2⟩:=D.self;refine⟨_,rfl,L.qu,aj,_,rfl,h2,rfl,_,rfl,aJ,λp0 ak=>⟨aJ,λp1 S=>⟨aJ,λp2 g=>?_⟩⟩⟩;obtain⟨H3,b,V0,v0⟩:=gUU (o:=.tup []) ak;rw[b]at S g⊢;obtain⟨H4,b,V1,v1⟩:=gUU (o:=.tup [.str "out",.int n,.ref p0]) S;rw[b]at g⊢;obtain⟨H5,b,V2,v2⟩:=gUU (o:=.lst [.ref p1]) g;rw[b];have U:=V0.trans (V1.trans V2);have al:=D.same U;refine⟨L,q,p2,[("out",n,[])],B',rfl,al,ok,λz=>?_,?_,λr am=>?_,ah,λG H6 st I=>?_⟩
  ·obtain⟨o,e⟩:=fT (D.same (V0.trans V1)) z;rw[e]at g;cases g
  ·simp only[Den,map_cons,map_nil,aQ];refine⟨p2,_,rfl,v2,_,_,rfl,?_,rfl⟩;unfold cI fP;simp only[Den,aQ,map_nil];exact⟨p1,_,rfl,V2 _ _ v1,_,_,rfl,rfl,_,_,rfl,rfl,_,_,rfl,⟨p0,_,rfl,V2 _ _ (V1 _ _ v0),rfl⟩,rfl⟩
  ·rw[mem_singleton.mp am];exact An (.inl rfl) n0 n9
  obtain⟨nn,nh,_,_⟩:=cU q;have W:=(aG.step (R.trans U)).trans st;obtain⟨X,h6⟩:=I.self;obtain⟨Y,g6,r6⟩:=I.held;rw[show (nL (a8 q) (cH [("out",n,[])]) B').hs=q.hs from nh]at r6;rw[st.qu]at h6;refine⟨_,rfl,_,rfl,L.qu,_,X,_,_,rfl,h6,T.aa0,T.bb2,rfl,aJ,λpt an=>?_⟩;have Z:(nL (a8 q) (cH [("out",n,[])]) B').now=q.now:=nn;rw[Z];obtain⟨H7,b,V6,v6⟩:=gUU (o:=.tup [.str x,.int q.now]) an;rw[b];have fr:bY q.hs n=none:=by
   have hm:n∈qV q t:=by rw[O];exact mem_cons_self
   have:=(mem_filter.mp (mem_filter.mp hm).1).2;exact Option.isNone_iff_eq_none.mp this
  have ev:=(r6.look (n:=n)).1 fr;have ep:eJ Y (Sum.inl n) (V.ref pt)=Y++[(Sum.inl n,V.ref pt)]:=by
   unfold eJ;rw[oK,ev];rfl
  have ao:Y.length<sizeLine:=by
   rw[r6.len];exact lt_trans hh (by decide)
  refine⟨_,rfl,L.qu,_,X,_,_,rfl,V6 _ _ h6,T.aa0,T.ac5,rfl,_,rfl,G.hd,_,rfl,jQ.k (k:=Sum.inl n) (V6 _ _ g6) ao,?_⟩;rw[ep];obtain⟨m,aa⟩:=(I.same V6).toHeld (HoR.snoc v6 (r6.t (aG.tup V6)):HoR H7 (q.hs++[(n,(x,q.now))]) (Y++[(Sum.inl n,.ref pt)]));generalize upd H7 G.hd (.dK (Y++[(Sum.inl n,.ref pt)]))=H8 at m aa⊢;obtain⟨ap,h8⟩:=m.self;obtain⟨aq,ar⟩:=m.book.self;rw[st.qu]at h8;refine⟨_,rfl,L.qu,_,ap,_,_,rfl,h8,T.aa0,T.ad9,rfl,G.bk,aq,_,rfl,ar,rfl,_,rfl,G.bk,G.de,G.dp,B',n,e,rfl,m.book,ai,λpr H9 S9 d9=>?_⟩;exact qq pr G H9 (W.trans ((aG.step V6).trans (aa.trans (aG.step S9)))) (m.same S9) d9
theorem Bd(F:Fun K "revive" "Queue.revive" uY f fd)(T:‹2›)(J:‹3›)(N:‹16› A.queue "dead" 4 ["self"] (jS A geB))(O:‹4›):‹14› 8 f fd ["self","number"] (i8 A):=by
 obtain⟨_,ad0⟩:=T.ad3;refine F.okY ["self","number"] λaf A' R s H vs Q E hr nD0 h=>?_;obtain⟨L,q,v,d,ms,rfl,S,hl,U,B,pw,qe,qs⟩:=h;refine⟨_,aA (bE (lQ (cY (dL (bC J ‹18› bB (aE (pv 1) ‹48›)))) (iV (aW (kC K) (pv 1) (eK N T.aa0 ‹18› bB (pv 0)) ⋯))).pt
   ‹88›
   aO)
  (aC (aX (cP O T.aa0 ‹18› bT (pv 0) (eZ (cA (bF (aU (aI bR (aE (pv 1) ‹50›))) aF)) aF)))),?_⟩
 have fail:bM 0 999999 d=false->∀H',aG H H'->E (.ref A.badNumber) none H':=λz=>qe (λn _ t e=>by rw[e,t]at z;cases z);refine⟨_,rfl,v,d,0,999999,rfl,U,_,rfl,?_⟩;cases t:bM 0 999999 d with
 |false=>
  refine aZ (aZ ?_);exact⟨aJ,fail t H (aG.refl H)⟩
 |true=>
  obtain⟨n,rfl,n0,n9⟩:∃n,d = .int n/\0<=n/\n<=999999:=by
   cases d with
   |int n=>
    simp only[bM,and_eq_true,decide_eq_true_eq]at t;exact⟨n,rfl,t.1,t.2⟩
   |_=>cases t
  simp only[Den]at U;subst U;obtain⟨dx,h1⟩:=S.self;refine bH ⟨_,rfl,_,rfl,L.qu,dx,_,rfl,h1,rfl,L,q,rfl,S,hl,λu x W p H2 X hp Y=>?_⟩;have em:u=ms:=eQ (x.trans B.symm) W pw;subst em;have Y:H2 p=some (.lst ((y9 q u).map V.int)):=Y;refine⟨p,_,rfl,.inl (SqL.of Y),rfl,nF _,_,rfl,?_⟩;rw[if_pos rfl,pS];by_cases D:n∈y9 q u
  ·rw[decide_eq_true D];refine bH (cM rfl ?_);obtain⟨ok,B',Z,qq⟩:=qs n rfl D n0 n9;have y:=S.same X;obtain⟨aa,h2⟩:=y.self;refine⟨_,rfl,L.qu,aa,_,rfl,h2,rfl,_,rfl,aJ,λp0 ab=>⟨aJ,λp1 G=>⟨aJ,λp2 b=>?_⟩⟩⟩;obtain⟨H3,g,V0,v0⟩:=gUU (o:=.tup []) ab;rw[g]at G b⊢;obtain⟨H4,g,V1,v1⟩:=gUU (o:=.tup [.str "new",.int n,.ref p0]) G;rw[g]at b⊢;obtain⟨H5,g,V2,v2⟩:=gUU (o:=.lst [.ref p1]) b;rw[g];have I:=V0.trans (V1.trans V2);have ac:=y.same I;refine⟨L,q,p2,[("new",n,[])],B',rfl,ac,ok,λz=>?_,?_,λr ad=>?_,Z,λL' H6 st ae=>qq L' H6 ((aG.step (X.trans I)).trans st) ae⟩
   ·obtain⟨o,e⟩:=fT (y.same (V0.trans V1)) z;rw[e]at b;cases b
   ·simp only[Den,map_cons,map_nil,aQ];refine⟨p2,_,rfl,v2,_,_,rfl,?_,rfl⟩;unfold cI fP;simp only[Den,aQ,map_nil];exact⟨p1,_,rfl,V2 _ _ v1,_,_,rfl,rfl,_,_,rfl,rfl,_,_,rfl,⟨p0,_,rfl,V2 _ _ (V1 _ _ v0),rfl⟩,rfl⟩
   ·rw[mem_singleton.mp ad];exact An (.inr (.inl rfl)) n0 n9
  ·rw[decide_eq_false D];refine aZ ⟨aJ,?_⟩;exact qe (λm hm _ e=>by injection e with e;rw[e]at D;exact D hm) H2 X
end
abbrev A5:Stmt:=bN (top 67) 4
abbrev xS:Stmt:=bN (top 67) 15
abbrev rZ:Stmt:=bN (top 48) 7
def Kt(q:Qs)(n:Int)(b:Bk):Qs:={nL (a8 q) (cH [("done",n,[])]) b with hs:=dropH q.hs n}
def B9(q:Qs):Qs:={q with D:=Ef q.D (bO q.first),first:=q.first+1}
def sJ(b:Mq)(n:Int):Int:=((bQ b n).getD ([],0,0)).2.2
inductive kW(C:Addr)(vs:Mp)(H:Hp)(Q:VK)(x_3:XK):Prop
 |mk:∀(bk de dp:Addr)(B:Bk)(seg:Int),vs=[.ref bk,.int seg]->BookAt C H bk de dp B->(B.es.length<800/\(B.es.map (·.1)).Pairwise (· <= ·))->(∀ms,List.Perm ms (B.es.map (·.1))->ms.Pairwise (· <= ·)->∀p H',aG H H'->H p=none->H' p=some (.lst ((ms.filter λn=>decide (sJ B.es n=seg)).map V.int))->Q (.ref p) H')->kW C vs H Q x_3
def AZ(q:Qs):Mf:=(q.B.es.map (·.1)).filter λn=>decide (sJ q.B.es n=q.first)
inductive iR(A:Ad)(vs:Mp)(H:Hp)(Q:VK)(x_3:XK):Prop
 |mk:∀(L:Pl)(q:Qs)(I:Qs->Prop),vs=[.ref L.qu]->QueueW A H L q false->I q->(∀q',I q'->(q'.B.es.length<800/\(q'.B.es.map (·.1)).Pairwise (· <= ·))/\(q'.first<q'.last->AZ q'=[]->q'.D.left=none/\e7 q'.first/\(∃bs,aT q'.D.fs (bO q'.first)=some bs)/\I (B9 q')))->(∀L' q' H',Step L L' H H'->QueueW A H' L' q' false->I q'->(¬q'.first<q'.last\/AZ q'≠[])->Q (.int (q'.first-q.first)) H')->iR A vs H Q x_3
section
variable{P:Program}{w:World}{K:Ma}{mg:Mc}{base:Heap}{A:Ad}
theorem AR(F:Fun K "numbers_in" "Book.numbers_in" rZ f fd)(T:‹8›):‹14› 1 f fd ["self","segment"] (kW aa3):=by
 refine F.okY ["self","segment"] λaa A' N s H vs Q E hr nD0 h=>?_;obtain⟨O,R,dp,B,g,rfl,hB,hl,qq⟩:=h;refine⟨_,aC (aP (cZ ["number"] [("self",0),("segment",1)] ⋯ ‹76› (λC s2 H2 ex=>(bK (i:=0) (show List.Nodup (["number","self","segment"]:Mg) by decide +kernel) ⋯ (Or.inl ⋯))) (λC s2 H2 ex=>(hG (aW fY ‹45› (pv 2) (bJ _)))) ‹67›)),?_⟩;obtain⟨dx,h1⟩:=hB.self;obtain⟨S,h2,h3⟩:=hB.ent;refine⟨_,rfl,O,_,dx,_,_,rfl,h1,T.cl,T.ac4,rfl,R,S,_,rfl,h2,h3.keys,.inr hl.2,by rw[length_map];omega,λp q m pw hp=>?_⟩;obtain⟨H1,U,W,g1⟩:=gUU (o:=.lst (q.map .int)) hp;rw[U];have lm:(q.map V.int).length=q.length:=length_map _;have pl:=m.length_eq;rw[length_map]at pl;refine⟨p,rfl,⟨_,SqL.of g1⟩,?_⟩;refine fS (bP (K:=K) (SqL.of g1)) (by rw[lm,pl];exact le_of_lt (lt_trans hl.1 (by decide))) (λj=>decide (sJ B.es (q.getD j 0)=g)) (λj=>V.int (q.getD j 0)) (λσ=>∃z,σ = [z,some (.ref O),some (.int g)]) ⟨none,rfl⟩ ?_ ?_
 ·intro j x ab H3 hj X s3 I Q1 Q2 Q3 r u;obtain⟨z,rfl⟩:=X;rw[getElem?_map]at I;cases e:q[j]? with
  |none=>rw[e]at I;cases I
  |some n=>
   rw[e]at I;cases I;have eg:q.getD j 0=n:=by rw[getD_eq_getElem?_getD,e];rfl
   rw[eg]at r u;have Y:n∈B.es.map (·.1):=m.mem_iff.mp (mem_of_getElem? e);obtain⟨L,J⟩:=hW Y;have G:aG H H3:=W.trans s3;have hv:=h3.val (n:=n);rw[J]at hv;obtain⟨v,Z,t,b,rfl,gt,gb⟩:=hv;have dg:cQ H3 R (.int n) (some (.ref t)):=by
    have:=cQ.k (k:=Sum.inl n) (G _ _ h2);rw[Z]at this;exact this
   have es:sJ B.es n=L.2.2:=by
    unfold sJ;rw[J];rfl
   rw[es]at r u;refine⟨_,rfl,O,_,dx,_,_,rfl,G _ _ h1,T.cl,T.ac4,rfl,_,rfl,R,_,rfl,dg,t,_,_,.int L.2.2,rfl,rfl,SqT.of (G _ _ gt),bA (by decide) rfl,_,rfl,rfl,_,rfl,?_⟩;by_cases y:L.2.2=g
   ·rw[decide_eq_true (show V.int L.2.2=V.int g by rw[y])];exact aZ ⟨_,rfl,r _ ⟨_,rfl⟩ (decide_eq_true y)⟩
   ·rw[pY y];exact bH (u _ ⟨_,rfl⟩ (decide_eq_false y))
 intro D H2 hD S2 g2;rw[lm,gH q (λn=>decide (sJ B.es n=g))]at g2;exact qq q m pw D H2 (W.trans S2) (W.free hD) g2
theorem Cz(F:Fun K "sweep" "Queue.sweep" xS f fd)(T:‹2›)(R:‹16› A.book "numbers_in" 1 ["self","segment"] (kW A.book))(S:‹16› A.queue "drop_first" 5 ["self"] (kS A)):‹14› 6 f fd ["self"] (iR A):=by
 refine F.okY ["self","went"] λac A' U s H vs Q E hr nD0 h=>?_;obtain⟨L,q,I,rfl,hq,hI,W,qq⟩:=h;refine⟨_,aA (a9 (i:=1) nD0 ⋯ ⋯ aM)
  (aA (pD (kB eE) (mC (aW vI ‹22› ‹22› (bJ _)) (jC (cY (iW K (cP R T.ac7 ‹18› bB ‹22› ‹79›))))).pt
   (aA (aX (eK S T.aa0 ‹18› bT (pv 0)))
   (aC (Cs (i:=1) nD0 ⋯ ⋯ aM IA))))
  (aC (aP (pv 1)))),?_⟩
 refine⟨λm σ N=>∃o b,m=(b.last-b.first).toNat/\Step L o H N/\QueueW A N o b false/\I b/\σ = [some (.ref L.qu),some (.int (b.first-q.first))],⟨_,L,q,rfl,aG.step (aG.refl H),hq,hI,by rw[Int.sub_self];rfl⟩,?_⟩;rintro m σ N ⟨o,b,rfl,st,g,x,rfl⟩;obtain⟨e1,e3⟩:=W b x;obtain⟨O,B⟩:=g.self;obtain⟨db,hb⟩:=g.book.self;rw[st.qu]at B;refine⟨_,rfl,L.qu,_,O,_,_,rfl,B,T.aa0,T.ai6,rfl,_,rfl,L.qu,_,O,_,_,rfl,B,T.aa0,T.aj8,rfl,_,_,rfl,rfl,_,rfl,?_⟩;show if decide (b.first<b.last)=true then _ else _
 by_cases t:b.first<b.last
 ·rw[if_pos (decide_eq_true t)];refine⟨_,rfl,L.qu,_,O,_,_,rfl,B,T.aa0,T.ad9,rfl,o.bk,db,_,rfl,hb,rfl,_,rfl,L.qu,_,O,_,_,rfl,B,T.aa0,T.ai6,rfl,o.bk,o.de,o.dp,b.B,_,rfl,g.book,e1,λms D pw p H4 X ad g4=>?_⟩;have G:List.Perm (ms.filter λn=>decide (sJ b.B.es n=b.first)) (AZ b):=D.filter _;have z:=g.same X;refine⟨p,_,rfl,SqL.of g4,?_⟩;cases er:ms.filter (λn=>decide (sJ b.B.es n=b.first)) with
  |nil=>
   rw[er]at G;have ef:AZ b=[]:=List.Perm.eq_nil G.symm;obtain⟨l1,l2,⟨bs,l3⟩,l4⟩:=e3 t ef;refine aZ ⟨λJ Y=>∃u e,(e.last-e.first).toNat<(b.last-b.first).toNat/\Step L u H Y/\QueueW A Y u e false/\I e/\J=[some (.ref L.qu),some (.int (e.first-q.first))],λJ Y ⟨u,e,w1,w2,w3,w4,w5⟩=>⟨_,w1,u,e,rfl,w2,w3,w4,w5⟩,?_⟩;obtain⟨Z,h4⟩:=z.self;rw[st.qu]at h4;refine⟨_,rfl,L.qu,Z,_,rfl,h4,rfl,o,b,false,bs,by rw[st.qu],z,l1,l2,l3,λL5 H5 aa ab=>?_⟩;refine⟨.int (b.first-q.first),rfl,_,_,rfl,rfl,L5,B9 b,by show (b.last-(b.first+1)).toNat<_;omega,st.trans ((aG.step X).trans aa),ab,l4,?_⟩;show [_,some (V.int (b.first-q.first+1))]=[_,some (V.int (b.first+1-q.first))];rw[show b.first-q.first+1=b.first+1-q.first by omega]
  |cons n r=>
   rw[er]at G;refine bH ⟨_,rfl,qq o b H4 (st.trans (aG.step X)) z x (.inr λy=>?_)⟩;rw[y]at G;have:=G.eq_nil;cases this
 ·rw[if_neg (by rw[decide_eq_true_eq];exact t)];exact bH ⟨_,rfl,qq o b N st g x (.inl t)⟩
end
theorem kH{J:It}{s H:Hp}{n:Nat}{Y:Nat->V->Hp->Prop}{g:TG}{t:TS}{D:Ends}{b : St}(S:Src J s n Y)(Pv:Nat->St->Hp->Prop)(y:Pv 0 b H)(o:∀i b e,Pv i b e->aG s e)
  (step:∀(r:Ends) i x b q H2,(∀b H,Pv (i+1) b H->r.nx b H)->r.rt=D.rt->i<n->Pv i b q->aG q H2->Y i x H2->g x b H2 λf z=>t r f z) (fin:∀b e,Pv n b e->D.nx b e) :
  ∃W:Nat->Nat->St->Hp->Prop,(∃m,W 0 m b H)/\∀i m b H,W i m b H->
   (J.stop i H/\D.nx b H)\/(J.go i H/\∃N:St->Hp->Prop,(∀p e,N p e->∃u,u<m/\W (i+1) u p e)/\∀x e,J.yld i H x e->g x b e λf H2=>t {D with nx:=N,ct:=N,bk:=D.nx} f H2):=
 fR S Pv y o (λi x b q H2 G I L O=>step {D with nx:=Pv (i+1),ct:=Pv (i+1),bk:=D.nx} i x b q H2 (λ_ _ h=>h) rfl G I L O) fin
abbrev xX:Stmt:=bN (top 67) 16
theorem MQ:bootBuiltins "min" = some (.builtin "min"):=by decide +kernel
def sV(n:Int)(e:Ent):Rw:=("carried",n,(if (9:Int)<e.2.1 then 9 else e.2.1)::e.1)
inductive iS(A:Ad)(vs:Mp)(H:Hp)(Q:VK)(x_3:XK):Prop
 |mk:∀(L:Pl)(q:Qs)(I:Nat->Qs->Prop)(ns:Mf),vs=[.ref L.qu]->QueueW A H L q false->(q.B.es.length<800/\(q.B.es.map (·.1)).Pairwise (· <= ·))->(q.first=q.last->Q .non H)->(q.first≠q.last->(∀ms,List.Perm ms (q.B.es.map (·.1))->ms.Pairwise (· <= ·)->(ms.filter λn=>decide (sJ q.B.es n=q.first))=ns)/\I 0 q/\
 (∀i n q',ns[i]? = some n->I i q'->∃e B',bQ q'.B.es n=some e/\bS (cI (sV n e))=true/\WOk q' 1/\dS (a8 q').last (a8 q').B [sV n e]=some B'/\I (i+1) (nL (a8 q') (cH [sV n e]) B'))/\
 ∀q',I ns.length q'->q'.D.left=none/\e7 q'.first/\(∃bs,aT q'.D.fs (bO q'.first)=some bs)/\∀L' H',Step L L' H H'->QueueW A H' L' (B9 q') false->Q (.int (ns.length:Int)) H')->iS A vs H Q x_3
section
variable{P:Program}{w:World}{K:Ma}{mg:Mc}{base:Heap}{A:Ad}
theorem C6(F:Fun K "carry" "Queue.carry" xX f fd)(T:‹2›)(af:‹16› A.book "numbers_in" 1 ["self","segment"] (kW A.book))(ag:‹12›)(ah:‹16› A.queue "drop_first" 5 ["self"] (kS A))(ai:‹4›):‹14› 8 f fd ["self"] (iS A):=by
 obtain⟨_,aj⟩:=T.ah0;refine F.okY ["self","numbers","number","letter","times"] λa1 A' ak s H vs Q E hr nD0 h=>?_;obtain⟨L,q,I,ns,rfl,Y,he,q1,q2⟩:=h;refine⟨_,aA (bE (aW fY ‹22› ‹22› (bJ _))
   ‹69›
   aO)
  (aA (a9 (i:=1) nD0 ⋯ ⋯ (cP af T.ac7 ‹18› bB ‹22› ‹79›))
  (aA (fQ (kB eE) ⋯ (bV K (pv 1)) (bK (i:=2) nD0 ⋯ ⋯)
   (aA (a9 (i:=3) nD0 ⋯ ⋯ (cP ag T.ac7 ‹18› bB ‹22› ‹37›))
   (aA (a9 (i:=4) nD0 ⋯ ⋯ (bL (F9 ⋯) ⋯ T.bl6 MQ (aN ‹38› (aE (cT (v:=.int 9) ⋯ aj ⟨_,rfl⟩) aF))))
   (aC (aX (cP ai T.aa0 ‹18› bT (pv 0) (eZ (cA (bF (aU (aI bR (aE (pv 2) (bW (bD jD (aU ‹62›) ‹38›) aF)))) aF)) aF)))))))
  (aA (aX (eK ah T.aa0 ‹18› bT (pv 0)))
  (aC (aP ‹75›))))),?_⟩
 obtain⟨dx,h1⟩:=Y.self;refine⟨_,rfl,L.qu,_,dx,_,_,rfl,h1,T.aa0,T.ai6,rfl,_,rfl,L.qu,_,dx,_,_,rfl,h1,T.aa0,T.aj8,rfl,rfl,_,rfl,?_⟩;by_cases J:q.first=q.last
 ·rw[decide_eq_true (show V.int q.first=V.int q.last by rw[J])];exact aZ (q1 J)
 rw[pY J];refine bH (cM rfl ?_);obtain⟨Z,i0,X,aa⟩:=q2 J;obtain⟨db,h2⟩:=Y.book.self;refine⟨_,rfl,L.qu,_,dx,_,_,rfl,h1,T.aa0,T.ad9,rfl,L.bk,db,_,rfl,h2,rfl,_,rfl,L.qu,_,dx,_,_,rfl,h1,T.aa0,T.ai6,rfl,L.bk,L.de,L.dp,q.B,_,rfl,Y.book,he,λms W pw p H4 S4 ab g4=>?_⟩;rw[Z ms W pw]at g4;clear Z W pw ms;have np:¬gT L p:=λz=>by
  obtain⟨o,e⟩:=fT Y z;rw[e]at ab;cases ab
 refine⟨_,rfl,p,rfl,⟨_,SqL.of g4⟩,?_⟩;refine kH (bP (K:=K) (H:=upd (λ_=>none) p (.lst (ns.map V.int))) (SqL.of aB)) (λi σ H'=>∃B N z2 z3 z4,Step L B H H'/\QueueW A H' B N false/\I i N/\¬gT B p/\H' p=some (.lst (ns.map V.int))/\σ = [some (.ref L.qu),some (.ref p),z2,z3,z4]) ⟨L,q,_,_,_,aG.step S4,Y.same S4,i0,np,g4,rfl⟩ (λi σ H' hh b o e=>?_) ?_ ?_
 ·obtain⟨_,_,_,_,_,_,_,_,_,g,_⟩:=hh;by_cases y:b=p
  ·subst y;rw[aB]at e;injection e with e
   rw[<- e];exact g
  ·rw[aH y]at e;cases e
 ·rintro D' i x σ H5 H6 al-hi ⟨B,N,z2,z3,z4,st,O,ii,R,gi,rfl⟩ s6 hx;rw[length_map]at hi;have hx:(ns.map V.int)[i]? = some x:=hx;rw[getElem?_map]at hx;obtain⟨n,en⟩:∃n,ns[i]? = some n:=⟨_,getElem?_eq_getElem hi⟩;rw[en]at hx;cases hx;obtain⟨e,B',el,ac,am,an,ao⟩:=X i n N en ii;have m:=O.same s6;have S:=st.trans (aG.step s6);obtain⟨ap,h6⟩:=m.self;rw[st.qu]at h6;obtain⟨aq,ar⟩:=m.book.self;refine⟨_,rfl,L.qu,_,ap,_,_,rfl,h6,T.aa0,T.ad9,rfl,B.bk,aq,_,rfl,ar,rfl,_,rfl,B.bk,B.de,B.dp,N.B,n,e,rfl,m.book,el,λpt H7 S7 d7=>?_⟩;obtain⟨t,b,et,gt,gb⟩:=pP d7;cases et;refine⟨_,rfl,pt,_,_,.int e.2.1,rfl,rfl,SqT.of gt,bA (by decide) rfl,_,_,rfl,?_⟩;have as:=m.same S7;obtain⟨au,h7⟩:=as.self;rw[st.qu]at h7;have rf:=yA (k:="carried") (n:=n) (body:=(sV n e).2.2) ac;refine⟨_,rfl,L.qu,au,_,rfl,h7,rfl,_,rfl,_,rfl,aJ,λp0 av=>?_⟩;obtain⟨tm,ad⟩:∃tm:Int,tm=if (9:Int)<e.2.1 then 9 else e.2.1:=⟨_,rfl⟩
  rw[<- ad];obtain⟨H8,D,V0,v0⟩:=gUU (o:=.tup [.int tm]) av;rw[D];refine⟨_,rfl,pt,_,_,.ref b,rfl,rfl,SqT.of (V0 _ _ gt),bA (by decide) rfl,p0,b,_,_,rfl,rfl,v0,V0 _ _ gb,?_,λp9 H9 S9 g9=>⟨aJ,λp1 aw=>⟨aJ,λp2 U=>?_⟩⟩⟩
  ·rw[length_map];have:=rf.2.2.2.2.2;have:1+e.1.length<=61:=by
    have h:(sV n e).2.2.length=e.1.length+1:=rfl;omega
   exact le_trans this (by decide)
  obtain⟨a2,D,V1,v1⟩:=gUU (o:=.tup [.str "carried",.int n,.ref p9]) aw;rw[D]at U⊢;obtain⟨a3,D,V2,v2⟩:=gUU (o:=.lst [.ref p1]) U;rw[D];have u:=S7.trans (V0.trans (S9.trans (V1.trans V2)));refine⟨B,N,p2,[sV n e],B',by rw[st.qu],m.same u,am,λz=>?_,?_,λr ax=>?_,an,λL' a4 G ae=>?_⟩
  ·obtain⟨o,e⟩:=fT (m.same (S7.trans (V0.trans (S9.trans V1)))) z;rw[e]at U;cases U
  ·simp only[Den,map_cons,map_nil,aQ];refine⟨p2,_,rfl,v2,_,_,rfl,?_,rfl⟩;unfold cI fP sV;rw[<- ad];simp only[Den,aQ];refine⟨p1,_,rfl,V2 _ _ v1,_,_,rfl,rfl,_,_,rfl,rfl,_,_,rfl,⟨p9,_,rfl,V2 _ _ (V1 _ _ g9),?_⟩,rfl⟩;exact cC.mpr rfl
  ·rw[mem_singleton.mp ax];exact ac
  have ay:¬gT L' p:=G.not (u _ _ (s6 _ _ gi)) R;exact al _ _ ⟨L',_,_,_,_,S.trans ((aG.step u).trans G),ae,ao,ay,G.frm _ _ (u _ _ (s6 _ _ gi)) R,rfl⟩
 rintro σ H5 ⟨B,N,z2,z3,z4,st,O,ii,R,gi,rfl⟩;rw[length_map]at ii;obtain⟨l1,l2,⟨bs,l3⟩,qq⟩:=aa N ii;obtain⟨az,h5⟩:=O.self;rw[st.qu]at h5;refine⟨_,rfl,L.qu,az,_,rfl,h5,rfl,B,N,false,bs,by rw[st.qu],O,l1,l2,l3,λL' H6 S m=>?_⟩;have g6:=S.frm _ _ gi R;refine⟨_,rfl,p,_,rfl,.inl (SqL.of g6),?_⟩;rw[length_map];exact qq L' H6 (st.trans S) m
end
def spF:Sp:=λ_ _ _ _=>False
def yT:Mf:=iF "from" 0 []
abbrev A1:Stmt:=bN (top 67) 0
def wB(D:Dk):Prop:=D.fs=[]/\D.left=none
inductive oQ(A:Ad)(vs:Mp)(H:Hp)(Q:VK)(x_3:XK):Prop
 |mk:∀(dk df:Addr)(kvs:Mn)(D:Dk),vs=[.ref dk]->DiskAt A.disk H dk df kvs D->wB D->(∀p H',aG H H'->H p=none->H' p=some (.lst [])->Q (.ref p) H')->oQ A vs H Q x_3
inductive mV(C:Addr)(vs:Mp)(H:Hp)(Q:VK)(x_3:XK):Prop
 |mk:∀(dk df:Addr)(kvs:Mn)(D:Dk),vs=[.ref dk]->DiskAt C H dk df kvs D->D.fs.length<=100000->(∀p ms H',aG H H'->H p=none->List.Perm ms (D.fs.map (·.1))->H' p=some (.lst (ms.map .str))->Q (.ref p) H')->mV C vs H Q x_3
inductive lY(vs:Mp)(H:Hp)(Q:VK)(x_3:XK):Prop
 |mk:∀(a:Addr),vs=[.ref a,.int 0]->H a=some (.tup [])->Q .non H->lY vs H Q x_3
inductive lX(vs:Mp)(H:Hp)(Q:VK)(x_3:XK):Prop
 |mk:∀(a:Addr),vs=[.ref a]->H a=some (.tup [])->(∀p pL H',aG H H'->H' p=some (.tup [.ref pL,.int 0])->H' pL=some (.lst [])->Q (.ref p) H')->lX vs H Q x_3
inductive lV(vs:Mp)(H:Hp)(Q:VK)(x_3:XK):Prop
 |mk:∀(p:Addr),vs=[.ref p]->H p=some (.lst [])->(∀p H',aG H H'->H' p=some (.lst [])->Q (.ref p) H')->lV vs H Q x_3
inductive uN(A:Ad)(vs:Mp)(H:Hp)(Q:VK)(x_3:XK):Prop
 |mk:∀(dk df:Addr)(kvs:Mn)(D:Dk),vs=[.ref dk]->DiskAt A.disk H dk df kvs D->wB D->(∀bk de dp H',aG H H'->H bk=none->H de=none->H dp=none->BookAt A.book H' bk de dp ⟨[],0,[]⟩->Q (.ref bk) H')->uN A vs H Q x_3
inductive uJ(A:Ad)(vs:Mp)(H:Hp)(Q:VK)(x_3:XK):Prop
 |mk:∀(dk df:Addr)(kvs:Mn)(D:Dk),vs=[.ref dk]->DiskAt A.disk H dk df kvs D->wB D->(∀kvs' d p H',rN dk df kvs H H'->GF dk df kvs kvs' H->DiskAt A.disk H' dk df kvs' ⟨[(bO 0,yT)],d,none⟩->H' p=some (.lst [.int 0])->¬own dk df kvs' p->Q (.ref p) H')->uJ A vs H Q x_3
def nP(m h t d:Int):Qs:=⟨⟨[(bO 0,yT)],d,none⟩,⟨[],0,[]⟩,m,h,t,0,0,0,[]⟩
inductive uI(A:Ad)(vs:Mp)(H:Hp)(Q:VK)(x_3:XK):Prop
 |mk:∀(qu dx dk df:Addr)(kvs:Mn)(D:Dk)(m h t:Int),vs=[.ref qu,.ref dk,.int m,.int h,.int t]->H qu=some (.ins A.queue dx [])->DiskAt A.disk H dk df kvs D->(¬own dk df kvs qu)->uT (.int m) (.int h) (.int t)=true->wB D->(∀L' d H',L'.qu=qu->L'.dk=dk->(∀b o,H b=some o->b≠qu->¬own dk df kvs b->H' b=some o)->(∀b,gT L' b->b=qu\/own dk df kvs b\/H b=none)->QueueW A H' L' (nP m h t d) false->Q .non H')->uI A vs H Q x_3
structure Fs(C qu dx:Addr)(H0 H1:Hp)(fs:Mo):Prop where
 at_:H1 qu=some (.ins C dx fs)
 but:But qu H0 H1
theorem Fs.set(j:Fs C b g p q m)(f:Str)(v:V):∃G,G=upd q b (.ins C g (hV f v m))/\Fs C b g p G (hV f v m):=
 ⟨_,rfl,aB,λc o e n=>by rw[aH n];exact j.but c o e n⟩
theorem Fs.new(j:Fs C g m n f q)(b:f p=none):∃G,G=upd f p o/\Fs C g m n G q/\G p=some o/\aG f G/\p≠g:=
 ⟨_,rfl,⟨aD b _ _ j.at_,λc u e r=>aD b _ _ (j.but c u e r)⟩,aB,aD b,λz=>by rw[z,j.at_]at b;cases b⟩
section
variable{P:Program}{w:World}{K:Ma}{mg:Mc}{base:Heap}{A:Ad}
theorem okF:‹14› k f b e spF:=⟨λ_ _ _ _ h=>h.elim,λ_ _ _ _ _ _ _ _ _ _ _ _ _ h=>h.elim⟩
theorem vJ(F:Fun K "segment_of" "segment_of" oZ f b):‹14› 2 f b ["name"] spF:=by
 exact okF
theorem Ba(F:Fun K "rows_of" "rows_of" xO f b):‹14› 6 f b ["disk","segment","last"] spF:=by
 exact okF
theorem Jx(F:Fun K "cut" "Disk.cut" Ke f b):‹14› 4 f b ["self","name","size"] spF:=by
 exact okF
theorem AJ{f:Addr}{b:Ml}(F:Fun K "row_from" "row_from" uX f b):‹14› 4 f b ["whole"] spF:=by
 exact okF
theorem Bc{aa9 aa1 aa7 f:Addr}{e:Ml}(F:Fun K "row_end" "row_end" xQ f e)(T:TxtB K mg aa9 aa1 aa7):‹14› 1 f e ["some","start"] lY:=by
 obtain⟨_,bh0⟩:=T.bi9;refine F.okY ["some","start","end"] λg A b s H n Q E hr nD0 h=>?_;obtain⟨a,rfl,m,q⟩:=h;refine⟨_,aA (bE (aW pF ‹52› ‹28› (bJ _))
   ‹69›
   aO)
  (aA (a9 (i:=2) nD0 ⋯ ⋯ (bD cW ‹52› (cG (cV K) (pv 0) (bD lG ‹52› aM) (λ_ _=>rfl))))
  (aC (aP (BW (aW kD (pv 2) ‹28› (bJ _)) (pv 2) jM)))),?_⟩
 exact⟨_,rfl,_,_,rfl,rfl,_,rfl,a,_,rfl,.inr (SqT.of m),_,_,rfl,rfl,_,rfl,aZ q⟩
theorem Bb{aa9 aa1 aa7 f:Addr}{u:Ml}(F:Fun K "rows_in" "rows_in" xP f u)(T:TxtB K mg aa9 aa1 aa7)(g:‹15› "is_bytes" 2 ["thing"] hU)(b:‹15› "row_end" 1 ["some","start"] lY)(n:‹15› "row_from" 4 ["whole"] spF):‹14› 5 f u ["some"] lX:=by
 refine F.okY ["some","rows","start","end"] λD A o s H L Q E hr nD0 h=>?_;obtain⟨a,rfl,r,q⟩:=h;refine⟨_,aA (bE (cY (dL (bC g ‹18› bB ‹36›)))
   ‹90›
   aO)
  (aA (a9 (i:=1) nD0 ⋯ ⋯ (cA aF))
  (aA (a9 (i:=2) nD0 ⋯ ⋯ aM)
  (aA (a9 (i:=3) nD0 ⋯ ⋯ (bC b ‹18› bB (aE (pv 0) ‹37›)))
  (aA (pD (kB eE) (aW AG (pv 3) jM (bJ _))
   (aA (aX (iZ K PySem.F.plainAttrs_list PySem.F.slot_list_append PySem.F.type_list_append iM (pv 1) (cN (bC n ‹18› bT (aN (mG (Ds K) (pv 0) (m4 (pv 2)) (m4 (pv 3))) aF)) aF)))
   (aA (a9 (i:=2) nD0 ⋯ ⋯ (pv 3))
   (aC (a9 (i:=3) nD0 ⋯ ⋯ (bC b ‹18› bB (aE (pv 0) ‹37›)))))))
  (aC (aP (aU (aE (pv 1) (bW (bD lG ‹28› (pv 2)) aF))))))))),?_⟩
 refine⟨_,rfl,.ref a,.tuple [],rfl,(by simp only[Den];exact⟨a,_,rfl,r,by simp only[aQ]⟩),(λ_ e=>by cases e;decide),λN G=>⟨_,rfl,bH ?_⟩⟩;refine⟨aJ,new_o λx H2 I J=>?_⟩;have t:=G.trans I;refine⟨_,rfl,_,rfl,a,rfl,t _ _ r,?_⟩;refine⟨λm y z=>z=H2/\y = [some (.ref a),some (.ref x),some (.int 0),some .non],⟨0,rfl,rfl⟩,?_⟩;rintro m y z ⟨rfl,rfl⟩;refine⟨_,rfl,rfl,_,rfl,bH ?_⟩;refine⟨_,rfl,_,rfl,a,_,rfl,.inr (SqT.of (t _ _ r)),_,rfl,_,_,rfl,rfl,aJ,λp B=>?_⟩;exact q p x _ (t.trans (aD B)) aB (aD B _ _ J)
theorem FN(F:Fun K "names" "Disk.names" Dx f o)(T:‹1›):‹14› 1 f o ["self"] (mV aa6):=by
 refine F.okY ["self"] λr G e s H I Q E hr nD0 h=>?_;obtain⟨t,u,g,D,rfl,m,x,q⟩:=h;refine⟨_,aC (aP (bL (Ai ⋯) ⋯ T.ae7 gW ‹79›)),?_⟩;obtain⟨y,z⟩:=m.self;exact⟨_,rfl,t,_,y,_,_,rfl,z,T.cl,T.af5,rfl,u,g,D.fs.map (·.1),rfl,m.files,(by rw[m.rel.keys,map_map];first |done |rfl),by rw[length_map];exact x,λp B b n=>q p B _ (aD n) n b aB⟩
theorem sM(F:Fun K "segments_on" "segments_on" nM f O)(T:‹2›)(g:‹15› "segment_of" 2 ["name"] spF)(m:‹16› A.disk "names" 1 ["self"] (mV A.disk)):‹14› 3 f O ["disk"] (oQ A):=by
 refine F.okY ["disk","segments"] λR A' n s H vs Q E hr nD0 h=>?_;obtain⟨t,S,r,D,rfl,u,z,q⟩:=h;refine⟨_,aA (a9 (i:=1) nD0 ⋯ ⋯ (bL wW ⋯ T.ae7 gW (dZ (cZ ["name"] [] ⋯ (bV K (eK m T.ac6 ‹18› bB (pv 0))) (λC s2 H2 ex=>(bK (i:=0) (show List.Nodup (["name"]:Mg) by decide +kernel) ⋯ (Or.inl ⋯))) ‹44› (λC s2 H2 ex=>(bC g ‹18› bB ‹36›))) aF)))
  (aA (bE (mC (iW K (pv 1)) (jC (aW yH (bD cW (bD lG ‹59› (cG (cK K) (pv 1) aM (λ_ _=>rfl))) aM) ‹75› (bJ _)))).pt
   ‹82›
   aO)
  (aC (aP (pv 1)))),?_⟩
 obtain⟨U,W⟩:=u.self;refine⟨_,rfl,t,U,_,rfl,W,rfl,t,S,r,D,rfl,u,(by rw[z.1];exact zero_le _),λX B H1 G Y I J=>?_⟩;rw[z.1]at I;cases I.eq_nil;refine⟨X,rfl,⟨_,SqL.of J⟩,?_⟩;refine cX (bP (K:=K) (SqL.of J)) (zero_le _) (λi y _=>False) (λ_ _ _ _ _ h=>h) (λσ=>True) trivial (λi x Z H3 hi=>absurd hi (Nat.not_lt_zero _)) ?_;intro D2 ys H2 aa L gD e hR;have ey:ys=[]:=List.length_eq_zero_iff.mp e;subst ey;refine⟨D2,[],rfl,gD,by decide,λp B b ab N=>?_⟩;have em:B=[]:=b.eq_nil;subst em;have S3:=aD (o:=.lst ([].map V.int)) N;refine⟨_,rfl,p,_,rfl,SqL.of aB,?_⟩;exact bH ⟨_,rfl,q p _ (G.trans (L.trans S3)) ((G.trans L).free N) aB⟩
theorem BY(F:Fun K "without_last_parts" "without_last_parts" xM f r)(T:‹2›):‹14› 1 f r ["rows"] lV:=by
 refine F.okY ["rows","many"] λt u b s H x Q E hr nD0 h=>?_;obtain⟨a,rfl,g,q⟩:=h;refine⟨_,aA (a9 (i:=1) nD0 ⋯ ⋯ ‹28›)
  (aA (pD (kB eE) (mC (aW pF (pv 1) aM (bJ _)) (jC (aW fY (cG (cV K) (cG (cK K) (pv 0) (bD lG (pv 1) aM) (λ_ _=>rfl)) aM (λ_ _=>rfl)) bR (bJ _)))).pt
   (aC (Cs (i:=1) nD0 ⋯ ⋯ aM MC)))
  (aC (aP (mG (uQ K) (pv 0) tF (m4 (pv 1)))))),?_⟩
 refine⟨_,rfl,a,_,rfl,.inl (SqL.of g),?_⟩;refine⟨λm n o=>o=H/\n = [some (.ref a),some (.int 0)],⟨0,rfl,rfl⟩,?_⟩;rintro m n o ⟨rfl,rfl⟩;refine⟨_,rfl,_,_,rfl,rfl,_,rfl,?_⟩;refine bH (bH ⟨_,rfl,_,rfl,_,rfl,a,_,rfl,SqL.of g,λp e=>?_⟩);exact q p _ (aD e) aB
theorem Hh(F:Fun K "book_of" "book_of" x5 f fd)(T:‹2›)(J:‹15› "segments_on" 3 ["disk"] (oQ A))(L:‹15› "rows_of" 6 ["disk","segment","last"] spF)(N:‹17› "Book" A.book 1 ["self"] (zY A.book))(O:‹16› A.book "enter" 3 ["self","row","segment"] (oV A.book A.broken)):‹14› 7 f fd ["disk"] (uN A):=by
 refine F.okY ["disk","segments","book","segment","row"] λaa A' R s H vs Q E hr nD0 h=>?_;obtain⟨Z,df,S,D,rfl,hD,ok,q⟩:=h;refine⟨_,aA (a9 (i:=1) nD0 ⋯ ⋯ (bC J ‹18› bT ‹36›))
  (aA (a9 (i:=2) nD0 ⋯ ⋯ (Lg N ‹18› bT))
  (aA (fQ (kB eE) ⋯ (bV K (pv 1)) ‹56›
   (aC (fQ (kB eE) ⋯ (bV K (bC L ‹18› bT (aE (pv 0) (aE (pv 3) (aN ‹59› aF))))) ‹74›
    (aC (aX (cP O T.ac7 ‹18› bT (pv 2) (aE (pv 4) ‹53›)))))))
  (aC (aP (pv 2))))),?_⟩
 refine⟨_,rfl,Z,df,S,D,rfl,hD,ok,λp r B hp g1=>?_⟩;refine λg t m u ab=>⟨g,t,rfl,aB,λde dp H2 f2 U V W=>⟨rfl,?_⟩⟩;have n:aG r H2:=λb o e=>by
  have G:b≠g:=λz=>by rw[z,m]at e;cases e
  have X:b≠t:=λz=>by rw[z,u]at e;cases e
  exact f2 b o (by rw[aH G,aH X];exact e) G
 have fr:∀c,upd (upd r t (.own g)) g (.ins A.book t []) c=none->r c=none:=λc e=>by
  cases y:r c with
  |none=>rfl
  |some o=>
   have G:c≠g:=λz=>by rw[z,m]at y;cases y
   have X:c≠t:=λz=>by rw[z,u]at y;cases y
   rw[aH G,aH X,y]at e;cases e
 refine⟨_,rfl,p,rfl,⟨_,SqL.of (n _ _ g1)⟩,?_⟩;refine fR (bP (K:=K) (SqL.of g1)) (λi I Y=>Y=H2/\I = [some (.ref Z),some (.ref p),some (.ref g),none,none]) ⟨rfl,rfl⟩ (λi I Y h=>by rw[h.1];exact n) (λi x I r H2 hi=>absurd hi (Nat.not_lt_zero _)) ?_;rintro I Y ⟨rfl,rfl⟩;exact⟨_,rfl,q g de dp _ (B.trans n) (B.free m) (B.free (fr _ U)) (B.free (fr _ V)) W⟩
theorem Ha(F:Fun K "make_good" "make_good" rS f fd)(T:‹2›)(ab3:‹9›)(aa:‹15› "segments_on" 3 ["disk"] (oQ A))(ab:‹15› "rows_in" 5 ["some"] lX)(ac:‹15› "without_last_parts" 1 ["rows"] lV)(N:‹15› "row_bytes" 4 ["row"] (fM A.badRow))
  (ad:‹16› A.disk "read" 4 ["self","name"] (oR A.disk A.badName A.missing)) (ae:‹16› A.disk "size" 4 ["self","name"] (oP A.disk A.badName A.missing)) (af:‹16› A.disk "make" 3 ["self","name"] (oU A.disk A.badName A.there A.stopped)) (ag:‹16› A.disk "drop" 4 ["self","name"] (oW A.disk A.badName A.missing A.stopped)) (ah:‹16› A.disk "cut" 4 ["self","name","size"] spF) (ai:‹6›):‹14› 6 f fd ["disk"] (uJ A):=by
 refine F.okY ["disk","segments","name","rows","size"] λa2 A' aj s H vs Q E hr nD0 h=>?_;obtain⟨I,df,ak,⟨fs,Z,left⟩,rfl,hD,⟨rfl,rfl⟩,q⟩:=h;refine⟨_,aA (a9 (i:=1) nD0 ⋯ ⋯ (bC aa ‹18› bT ‹36›))
  (aA (bE (cY (iW K (pv 1)))
   (aA (aX (cP af T.ac6 ‹18› bT (pv 0) (cN (bC ab3 ‹18› bB ‹46›) aF)))
   (aC (a9 (i:=1) nD0 ⋯ ⋯ (cA ‹46›))))
   aO)
  (aA (a9 (i:=2) nD0 ⋯ ⋯ (bC ab3 ‹18› bB (aN ‹59› aF)))
  (aA (a9 (i:=3) nD0 ⋯ ⋯ (bC ac ‹18› bB (aN (cG (cV K) (bC ab ‹18› bT (cN (cP ad T.ac6 ‹18› bT (pv 0) ‹37›) aF)) aM (λ_ _=>rfl)) aF)))
  (aA (bE (mC (cY (iW K (pv 3))) (jC (aW pF ‹75› aM (bJ _)))).pt
   (aA (aX (cP ag T.ac6 ‹18› bT (pv 0) ‹37›))
   (aC (aP (mG (uQ K) (pv 1) tF (m4 (yE qI aM))))))
   aO)
  (aA (a9 (i:=4) nD0 ⋯ ⋯ (bL (nI K) ⋯ T.ax8 Am (dZ (cZ ["row"] [] ⋯ (bV K (pv 3)) (λC s2 H2 ex=>(bK (i:=0) (show List.Nodup (["row"]:Mg) by decide +kernel) ⋯ (Or.inl ⋯))) ‹44› (λC s2 H2 ex=>(bL (dI K) ⋯ T.ad8 gN (cN (bC N ‹18› bB ‹36›) aF)))) aF)))
  (aA (bE (aW vI (pv 4) (cP ae T.ac6 ‹18› bT (pv 0) ‹37›) (bJ _))
   (aC (aX (cP ah T.ac6 ‹18› bT (pv 0) (aE (pv 2) ‹62›))))
   aO)
  (aA (bE (cY (iW K (pv 3)))
   (aC (aX (cP ai T.ac6 ‹18› bT (pv 0) (aE (pv 2) (cN (bC N ‹18› bT (bF (aU (aI bR (aI aM ‹50›))) aF)) aF)))))
   aO)
  (aC (aP (pv 1)))))))))),?_⟩
 refine⟨_,rfl,I,df,ak,_,rfl,hD,⟨rfl,rfl⟩,λp H1 S1 hp g1=>?_⟩;have O:=hD.same S1;obtain⟨al,am⟩:=O.self;have g:e7 0:=⟨by decide,by decide⟩;refine⟨_,rfl,p,_,rfl,SqL.of g1,aZ ?_⟩;refine⟨_,rfl,I,al,_,rfl,am,rfl,0,rfl,g,gR (Au O rfl g (le_of_ble_eq_true rfl) rfl λm H2 f2 w2 R=>?_)⟩;refine⟨aJ,new_h λp2 S H3 S2 g2=>?_⟩;have J:=R.same S2;have U:¬own I df m p2:=λz=>by
  obtain⟨o,e⟩:=oF R z;rw[e]at S;cases S
 have l0:aT (mkN ⟨[],Z,none⟩ (bO 0)).fs (bO 0)=some []:=by
  show aT [(bO 0,[])] (bO 0)=some [];simp [aT]
 obtain⟨an,ao⟩:=J.self
 try dsimp only
 refine⟨_,rfl,1,rfl,p2,_,_,.int 0,rfl,rfl,SqL.of g2,rfl,0,rfl,g,?_⟩;refine⟨_,rfl,I,an,_,rfl,ao,rfl,_,rfl,gR (GJ J g l0 λp4 H4 S4 g4=>?_)⟩;refine gR ⟨p4,rfl,g4,λp5 pL H5 S5 g5 gx=>?_⟩;refine⟨p5,_,_,.ref pL,rfl,rfl,SqT.of g5,bA (by decide) rfl,pL,rfl,gx,λp6 H6 S6 g6=>?_⟩;have ap:=J.same (S4.trans (S5.trans S6))
 try dsimp only
 refine⟨_,rfl,p6,_,rfl,SqL.of g6,aZ ⟨_,rfl,p2,_,rfl,.inl (SqL.of (S6 _ _ (S5 _ _ (S4 _ _ g2)))),_,_,rfl,rfl,_,rfl,bH (cM rfl ?_)⟩⟩;refine⟨_,rfl,p6,rfl,⟨_,SqL.of g6⟩,?_⟩;refine cX (bP (K:=K) (SqL.of g6)) (zero_le _) (λi y _=>False) (λ_ _ _ _ _ h=>h) (λσ=>True) trivial (λi x a3 H3 hi=>absurd hi (Nat.not_lt_zero _)) ?_;intro D7 ys H7 _ S7 g7 V _;have ey:ys=[]:=List.length_eq_zero_iff.mp V;subst ey;have t:=ap.same S7;obtain⟨aq,ar⟩:=t.self;refine⟨D7,[],rfl,.inl (SqL.of g7),?_⟩;refine⟨_,rfl,_,rfl,I,aq,_,rfl,ar,rfl,_,rfl,gR (At t g l0 λH8 S8=>?_)⟩;refine⟨_,_,rfl,rfl,_,rfl,bH (cM rfl ?_)⟩;have as:=t.same S8;obtain⟨au,av⟩:=as.self;refine⟨_,rfl,p6,_,rfl,SqL.of (S8 _ _ (S7 _ _ g6)),aZ ?_⟩;refine⟨_,rfl,I,au,_,rfl,av,rfl,_,rfl,aJ,λp9 aw=>⟨aJ,λax u=>?_⟩⟩;obtain⟨H9,L,V9,v9⟩:=gUU (o:=.tup []) aw;rw[L]at u⊢;obtain⟨a4,L,W,ay⟩:=gUU (o:=.tup [.str "from",.int 0,.ref p9]) u;rw[L];have fo:bS (cI ("from",0,[]))=true:=Ec (by decide) (by decide);refine gR (CY (r:=("from",0,[])) (by
  unfold cI fP;simp only[Den,aQ,map_nil];exact⟨ax,_,rfl,ay,_,_,rfl,rfl,_,_,rfl,rfl,_,_,rfl,⟨p9,[],rfl,W _ _ v9,rfl⟩,rfl⟩) fo λa5 a6 az a0=>?_)
 have B:=S8.trans (V9.trans (W.trans az));have X:=t.same B;have b4:=lC (r:=("from",0,[])) fo;refine gR (zQ X rfl g l0 (λn bs e=>?_) a0 b4 (by rw[eI];decide) λa1 Y D=>?_)
 ·have e:aT [(bO 0,[])] n=some bs:=e;unfold aT at e;rw[find?_cons]at e;split at e
  ·cases e;decide
  ·cases e
 have G:=S4.trans (S5.trans (S6.trans (S7.trans B)));refine⟨_,rfl,q m (Z+1+(((iF "from" 0 []).length:Nat):Int)) p2 a1 (λb o e nb=>?_) (λb hb=>?_) ?_ ?_ U⟩
 ·have n2:¬own I df m b:=λz=>(w2 b z).elim nb (λy=>by rw[S1 _ _ e]at y;cases y);exact Y b o (G _ _ (S2 _ _ (f2 b o (S1 _ _ e) nb))) n2
 ·rcases w2 b hb with y |y
  ·exact .inl y
  ·exact .inr (S1.free y)
 ·have e1:(uU (mkN ⟨[],Z,none⟩ (bO 0)) (bO 0) ([]++iF "from" 0 []) (iF "from" 0 []).length)=⟨[(bO 0,yT)],Z+1+(((iF "from" 0 []).length:Nat):Int),none⟩:=by
   unfold uU mkN fF;show (⟨[((if bO 0=bO 0 then (bO 0,[]++iF "from" 0 []) else (bO 0,[])):Str×Mf)],_,none⟩:Dk)=_;rw[if_pos rfl];rfl
  rw[e1]at D;exact D
 ·exact Y _ _ (G _ _ g2) U
theorem C1(F:Fun K "__init__" "Queue.__init__" A1 f fd)(T:‹2›)(an:‹15› "check_settings" 2 ["most","hold","tries"] (gA A))(ao:‹15› "book_of" 7 ["disk"] (uN A))(ap:‹15› "make_good" 6 ["disk"] (uJ A)):‹14› 8 f fd ["self","disk","most","hold","tries"] (uI A):=by
 refine F.okY ["self","disk","most","hold","tries","segments"] λbg A' aq s H vs Q E hr nD0 h=>?_;obtain⟨g,u,I,J,q,D,m,h,t,rfl,h0,hD,Y,ab,he,qq⟩:=h;refine⟨_,aA (aX (bC an ‹18› bT (aE (pv 2) (aE (pv 3) ‹62›))))
  (aA (dU (pv 0) (pv 1) ⋯)
  (aA (dU (pv 0) (pv 2) ⋯)
  (aA (dU (pv 0) (pv 3) ⋯)
  (aA (dU (pv 0) (pv 4) ⋯)
  (aA (dU (pv 0) (bC ao ‹18› bT ‹32›) ⋯)
  (aA (a9 (i:=5) nD0 ⋯ ⋯ (bC ap ‹18› bT ‹32›))
  (aA (dU (pv 0) (cG (cK K) (pv 5) aM (λ_ _=>rfl)) ⋯)
  (aA (dU (pv 0) (cG (cK K) (pv 5) (yE qI aM) (λ_ _=>rfl)) ⋯)
  (aA (dU (pv 0) nO ⋯)
  (aA (dU (pv 0) iY ⋯)
  (aC (dU (pv 0) aM ⋯)))))))))))),?_⟩
 have ac:∀{H':Hp},But g H H'->DiskAt A.disk H' I J q D:=λb=>hD.keep λc o e r=>b c o e (λz=>by rw[z]at r;exact Y r);have j0:Fs A.queue g u H H []:=⟨h0,But.refl⟩;refine⟨_,rfl,_,rfl,_,rfl,.int m,.int h,.int t,.int m,.int h,.int t,rfl,by simp only[Den],by simp only[Den],by simp only[Den],λ_=>?_,(λz=>by rw[ab]at z;cases z)⟩;refine⟨_,rfl,_,rfl,g,_,u,_,rfl,j0.at_,T.aa0,T.ap7,(le_of_ble_eq_true rfl),?_⟩;obtain⟨H1,e1,j1⟩:=j0.set "disk" (.ref I);rw[<- e1];refine⟨_,rfl,_,rfl,g,_,u,_,rfl,j1.at_,T.aa0,T.bk5,(le_of_ble_eq_true rfl),?_⟩;obtain⟨H2,e2,j2⟩:=j1.set "most" (.int m);rw[<- e2];refine⟨_,rfl,_,rfl,g,_,u,_,rfl,j2.at_,T.aa0,T.bk7,(le_of_ble_eq_true rfl),?_⟩;obtain⟨H3,e3,j3⟩:=j2.set "hold" (.int h);rw[<- e3]
 try dsimp only
 refine⟨_,rfl,_,rfl,g,_,u,_,rfl,j3.at_,T.aa0,T.bd4,(le_of_ble_eq_true rfl),?_⟩;obtain⟨H4,e4,j4⟩:=j3.set "tries" (.int t);rw[<- e4];refine⟨_,rfl,I,J,q,D,rfl,ac j4.but,he,λbk de dp H5 S5 ar as au av=>?_⟩;have n4:∀{c:Addr},H4 c=none->c≠g/\H c=none:=λ{c} z=>by
  refine⟨(λy=>by rw[y,j4.at_]at z;cases z),?_⟩;cases e:H c with
  |none=>rfl
  |some o=>
   by_cases y:c=g
   ·rw[y,j4.at_]at z;cases z
   ·rw[j4.but c o e y]at z;cases z
 obtain⟨aw,ax⟩:=n4 ar;obtain⟨ay,az⟩:=n4 as;obtain⟨a0,a1⟩:=n4 au;have j5:Fs A.queue g u H H5 _:=⟨S5 _ _ j4.at_,λc o e nc=>S5 _ _ (j4.but c o e nc)⟩;refine⟨_,rfl,g,_,u,_,rfl,j5.at_,T.aa0,T.ad9,(le_of_ble_eq_true rfl),?_⟩;obtain⟨H6,e6,j6⟩:=j5.set "book" (.ref bk);rw[<- e6];have k6:∀c o,H5 c=some o->c≠g->H6 c=some o:=λc o e n=>by rw[e6,aH n];exact e
 have t6:fX H5 H6:=by rw[e6];exact kP j5.at_ (λxs z=>by cases z)
 have G:∀{c:Addr},c=bk\/c=de\/c=dp->c≠g/\H c=none:=λr=>by
  rcases r with y |y |y
  ·rw[y];exact⟨aw,ax⟩
  ·rw[y];exact⟨ay,az⟩
  ·rw[y];exact⟨a0,a1⟩
 have O:BookAt A.book H6 bk de dp ⟨[],0,[]⟩:=av.keep (λc o e r=>k6 c o e (G r).1) t6;have ad:=ac j6.but
 try dsimp only
 refine⟨_,rfl,I,J,q,D,rfl,ad,he,λB d p V f7 w7 ae gp np=>?_⟩;have W:∀{c:Addr},H c=none->¬own I J q c:=λz y=>by
  obtain⟨o,e⟩:=oF hD y;rw[z]at e;cases e
 have af:∀{c:Addr}{o:HO},H6 c=some o->¬own I J q c->¬own I J B c:=λe nc z=>(w7 _ z).elim nc (λy=>by rw[y]at e;cases e);have h7:=f7 _ _ j6.at_ Y;have b7:∀b o,H b=some o->b≠g->¬own I J q b->V b=some o:=λb o e nb no=>f7 b o (j6.but b o e nb) no;have R:BookAt A.book V bk de dp ⟨[],0,[]⟩:=O.keep (λc o e r=>f7 c o e (W (G r).2)) (f7.tup ad);have X:¬own I J B g:=af j6.at_ Y;have a2:p≠g:=λz=>by rw[z,h7]at gp;cases gp
 have j7:Fs A.queue g u V V _:=⟨h7,But.refl⟩;refine⟨_,rfl,p,_,_,.int 0,rfl,rfl,SqL.of gp,bA (by decide) rfl,_,rfl,g,_,u,_,rfl,j7.at_,T.aa0,T.ai6,(le_of_ble_eq_true rfl),?_⟩;obtain⟨H8,e8,j8⟩:=j7.set "first" (.int 0);rw[<- e8];refine⟨_,rfl,1,rfl,p,_,_,.int 0,rfl,rfl,SqL.of (j8.but _ _ gp a2),rfl,_,rfl,g,_,u,_,rfl,j8.at_,T.aa0,T.aj8,(le_of_ble_eq_true rfl),?_⟩;obtain⟨H9,e9,j9⟩:=j8.set "last" (.int 0);rw[<- e9];refine⟨_,rfl,g,_,u,_,rfl,j9.at_,T.aa0,T.an7,(le_of_ble_eq_true rfl),?_⟩;obtain⟨bh,a3,ag⟩:=j9.set "writing" (.bl false);rw[<- a3];refine λS Z=>?_;obtain⟨bi,a4,ah,gh,bj,L⟩:=ag.new (o:=.dK []) Z;rw[<- a4];have U:V S=none:=by
  cases e:V S with
  |none=>rfl
  |some o=>rw[ag.but _ _ e L]at Z;cases Z
 refine⟨_,rfl,g,_,u,_,rfl,ah.at_,T.aa0,T.ac5,(le_of_ble_eq_true rfl),?_⟩;obtain⟨bm,ai,aj⟩:=ah.set "holders" (.ref S);rw[<- ai];refine⟨_,rfl,g,_,u,_,rfl,aj.at_,T.aa0,T.bb2,(le_of_ble_eq_true rfl),?_⟩;obtain⟨aa,ak,N⟩:=aj.set "now" (.int 0);rw[<- ak];have al:aa S=some (.dK []):=by rw[ak,aH L,ai,aH L];exact gh
 have a5:fX V aa:=λb xs e=>N.but b _ e (λz=>by rw[z,h7]at e;cases e);obtain⟨db,a6⟩:=R.self;obtain⟨kb,ba,_⟩:=R.ent;obtain⟨pb,bb,_⟩:=R.par;obtain⟨dc,bc⟩:=O.self;obtain⟨kc,bd,_⟩:=O.ent;obtain⟨pc,be,_⟩:=O.par;have am:∀{c:Addr},c=bk\/c=de\/c=dp->(∃o,V c=some o)/\∃o,H6 c=some o:=λr=>by
  rcases r with y |y |y
  ·rw[y];exact⟨⟨_,a6⟩,_,bc⟩
  ·rw[y];exact⟨⟨_,ba⟩,_,bd⟩
  ·rw[y];exact⟨⟨_,bb⟩,_,be⟩
 have bf:¬own I J B S:=λz=>by
  obtain⟨o,e⟩:=oF ae z;rw[U]at e;cases e
 refine qq ⟨g,I,J,bk,de,dp,S,B⟩ d aa rfl rfl (λb o e nb no=>N.but b o (b7 b o e nb no) nb) (λb hb=>?_) ⟨⟨u,N.at_⟩,ae.keep (λc o e r=>N.but c o e (λz=>by rw[z]at r;exact X r)),R.keep (λc o e r=>N.but c o e (G r).1) a5,⟨[],al,trivial⟩,λb hb=>?_,⟨λz=>(G z).1 rfl,X⟩,⟨L,λz=>?_,bf⟩⟩
 ·rcases hb with z |z |z |z
  ·exact .inl z
  ·have z:b=S:=z;rw[z];by_cases y:own I J q S
   ·exact .inr (.inl y)
   ·refine .inr (.inr ?_);cases e:H S with
    |none=>rfl
    |some o=>rw[b7 _ _ e L y]at U;cases U
  ·exact .inr (.inr (G z).2)
  ·rcases w7 b z with y |y
   ·exact .inr (.inl y)
   ·by_cases x:b=g
    ·exact .inl x
    ·refine .inr (.inr ?_);cases e:H b with
     |none=>rfl
     |some o=>rw[j6.but b o e x]at y;cases y
 ·obtain⟨_,o,e⟩:=am hb;exact af e (W (G hb).2)
 ·obtain⟨⟨o,e⟩,_⟩:=am z;rw[U]at e;cases e
end
abbrev Az:Stmt:=bN (top 67) 6
def gU(x:Str):Prop:=cR fZ 6 (.str x)=true/\(x.length<=1000/\iC x=true)/\x ≠ "zz"
inductive lK(q:Qs)(dh:PyData)(dn:PyData):Prop
 |mk:∀x n tm,dh = .str x->dn = .int n->0<=n->n<=999999->bY q.hs n=some (x,tm)->lK q dh dn
inductive jA(A:Ad)(vs:Mp)(H:Hp)(Q:VK)(E:XK):Prop
 |mk:∀(L:Pl)(q:Qs)(vh vn:V)(dh dn:PyData),vs=[.ref L.qu,vh,vn]->QueueW A H L q false->Den H dh vh->Den H dn vn->(∀x,dh = .str x->x.length<=1000/\iC x=true)->(cR fZ 6 dh=true->lK q dh dn->∀H',aG H H'->Q .non H')->(cR fZ 6 dh=true->¬lK q dh dn->∀H',aG H H'->E (.ref A.notHeld) none H')->(cR fZ 6 dh=false->∀H',aG H H'->E (.ref A.badHand) none H')->jA A vs H Q E
inductive kT(A:Ad)(vs:Mp)(H:Hp)(Q:VK)(E:XK):Prop
 |mk:∀(L:Pl)(q:Qs)(vh vn:V)(dh dn:PyData),vs=[.ref L.qu,vh,vn]->QueueW A H L q false->Den H dh vh->Den H dn vn->(∀x,dh = .str x->x.length<=1000/\iC x=true)->(∀x n tm,dh = .str x->dn = .int n->0<=n->n<=999999->bY q.hs n=some (x,tm)->WOk q 1/\∃B',dS (a8 q).last (a8 q).B [("done",n,[])]=some B'/\∀L' H',Step L L' H H'->QueueW A H' L' (Kt q n B') false->Q .non H')->(cR fZ 6 dh=true->¬lK q dh dn->∀H',aG H H'->E (.ref A.notHeld) none H')->(cR fZ 6 dh=false->∀H',aG H H'->E (.ref A.badHand) none H')->kT A vs H Q E
inductive kU(A:Ad)(vs:Mp)(H:Hp)(Q:VK)(E:XK):Prop
 |mk:∀(L:Pl)(q:Qs)(vh vn:V)(dh dn:PyData),vs=[.ref L.qu,vh,vn]->QueueW A H L q false->Den H dh vh->Den H dn vn->(∀x,dh = .str x->x.length<=1000/\iC x=true)->(∀x n tm,dh = .str x->dn = .int n->bY q.hs n=some (x,tm)->∀H',Step L L H H'->QueueW A H' L (backQ q n) false->Q .non H')->(cR fZ 6 dh=true->¬lK q dh dn->∀H',aG H H'->E (.ref A.notHeld) none H')->(cR fZ 6 dh=false->∀H',aG H H'->E (.ref A.badHand) none H')->kU A vs H Q E
theorem J3{a b:Int}{d:PyData}(h:bM a b d=true):∃n,d = .int n/\a<=n/\n<=b:=by
 cases d <;> first |cases h |skip
 simp only[bM,and_eq_true,decide_eq_true_eq]at h;exact⟨_,rfl,h⟩
def pT(b:Mt)(e:Mf):Mj:=e.map λn=>.tuple [.int n,.str ((bY b n).getD ("",0)).1]
inductive nY(A:Ad)(vs:Mp)(H:Hp)(Q:VK)(x_3:XK):Prop
 |mk:∀(L:Pl)(q:Qs),vs=[.ref L.qu]->QueueW A H L q false->q.hs.length<64->(∀ms,List.Perm ms (q.hs.map (·.1))->ms.Pairwise (· <= ·)->∀p H',aG H H'->H p=none->Den H' (.list (pT q.hs ms)) (.ref p)->Q (.ref p) H')->nY A vs H Q x_3
def pR(q:Qs)(m n:Int):Bool:=decide (q.now+m-((bY q.hs n).getD ("",0)).2 > q.hold)
def KU(q:Qs)(m:Int)(l:Mf):Qs:={q with now:=q.now+m,hs:=q.hs.filter λp=>decide (p.1∉l)}
inductive mS(A:Ad)(vs:Mp)(H:Hp)(Q:VK)(E:XK):Prop
 |mk:∀(L:Pl)(q:Qs)(m:Int),vs=[.ref L.qu,.int m]->QueueW A H L q false->(bM 1 99 (.int m)=false->E (.ref A.badNumber) none H)->(bM 1 99 (.int m)=true->q.hs.length<64/\(q.hs.map (·.1)).Nodup/\(∀p∈q.hs,∃e,bQ q.B.es p.1=some e)/\
 ∀ms,List.Perm ms (q.hs.map (·.1))->ms.Pairwise (· <= ·)->∀p H',Step L L H H'->QueueW A H' L (KU q m (ms.filter (pR q m))) false->H p=none->Den H' (.list ((ms.filter (pR q m)).map (lT q.B.es))) (.ref p)->Q (.ref p) H')->mS A vs H Q E
theorem HoR.keys:∀{b:Mt}{e:Mn},HoR H b e->e.map (·.1)=(b.map (·.1)).map Sum.inl
 |[],[],_=>rfl
 |_::_,_::_,⟨f,_,g⟩=>by rw[map_cons,map_cons,map_cons,HoR.keys g,f]
 |[],_::_,h=>h.elim
 |_::_,[],h=>h.elim
theorem mJ(h:n∈b.map (·.1)):∃x f,bY b n=some (x,f):=by
 unfold bY;cases y:b.find? λp=>decide (p.1=n) with
 |none=>
  rw[find?_eq_none]at y;obtain⟨p,g,e⟩:=mem_map.mp h;exact absurd (decide_eq_true e) (y p g)
 |some p=>exact⟨p.2.1,p.2.2,rfl⟩
section
variable{P:Program}{w:World}{K:Ma}{mg:Mc}{base:Heap}{A:Ad}
theorem Bg(F:Fun K "check_held" "Queue.check_held" xW f Y)(T:‹2›)(D:‹3›)(G:‹15› "check_hand" 2 ["hand"] (gY A)):‹14› 3 f Y ["self","hand","number"] (jA A):=by
 obtain⟨_,ad0⟩:=T.ad3;refine F.okY ["self","hand","number"] λZ A' I s H vs Q E hr nD0 h=>?_;obtain⟨L,q,vh,vn,dh,O,rfl,hq,b,g,hz,qq,J,qb⟩:=h;refine⟨_,aA (aX (bC G ‹18› bT ‹32›))
  (aA (bE (lQ (cY (dL (bC D ‹18› bB (aE (pv 2) ‹48›)))) (iV (oA (m6 (hu1 hr.units) (pv 2) ‹22›)))).pt
   (aC (dY eX ⋯ T.aj7 ⋯ T.bf1 ‹25›))
   aO)
  (aC (bE (aW yH (cG (cV K) (dO (hu1 hr.units) ‹22› (pv 2) (λ_ _=>rfl)) aM (λ_ _=>rfl)) (pv 1) (bJ _))
   (aC (dY eX ⋯ T.aj7 ⋯ T.bf1 ‹25›))
   aO))),?_⟩
 refine⟨_,rfl,vh,dh,rfl,b,hz,λhw B p=>?_,qb⟩;have r:=hq.same p;obtain⟨R,S⟩:=r.self;obtain⟨hk,g1,U⟩:=r.held;refine⟨_,rfl,vn,O,0,999999,rfl,g.same p,_,rfl,?_⟩;cases m:bM 0 999999 O with
 |false=>
  exact aZ ⟨aJ,J hw (λ⟨_,n,_,_,e,V,W,_⟩=>by rw[e]at m;simp only[bM,Bool.and_eq_false_iff,decide_eq_false_iff_not]at m;omega) B p⟩
 |true=>
 obtain⟨n,rfl,V,W⟩:=J3 m;obtain⟨x,rfl⟩:=tR hw;simp only[Den]at b g;subst b g;have N:=cQ.k (k:=Sum.inl n) g1;refine bH ⟨_,rfl,_,rfl,L.qu,_,R,_,_,rfl,S,T.aa0,T.ac5,rfl,L.hd,_,rfl,N,_,rfl,?_⟩;cases u:bY q.hs n with
 |none=>
  rw[(U.look (n:=n)).1 u];exact aZ ⟨aJ,J hw (λ⟨_,_,_,_,e,_,_,z⟩=>by cases e;rw[u]at z;cases z) B p⟩
 |some o=>
  obtain⟨y,X⟩:=o;obtain⟨t,ev,gt⟩:=(U.look (n:=n)).2 y X u;rw[ev]at N⊢;refine bH (cM rfl ?_);refine⟨_,rfl,L.qu,_,R,_,_,rfl,S,T.aa0,T.ac5,rfl,_,rfl,L.hd,_,rfl,N,?_⟩;refine⟨t,_,_,.str y,rfl,rfl,SqT.of gt,bA (by decide) rfl,_,rfl,rfl,_,rfl,?_⟩;by_cases e:y=x
  ·subst e;rw[decide_eq_true rfl];exact bH (qq hw ⟨_,_,X,rfl,rfl,V,W,u⟩ B p)
  ·rw[gI e];exact aZ ⟨aJ,J hw (λ⟨_,_,_,e1,e2,_,_,z⟩=>by cases e1;cases e2;exact e (by rw[u]at z;exact congrArg (·.1) (Option.some.inj z))) B p⟩
theorem C8(F:Fun K "give_back" "Queue.give_back" A7 f N)(T:‹2›)(m:‹16› A.queue "check_held" 3 ["self","hand","number"] (jA A)):‹14› 4 f N ["self","hand","number"] (kU A):=by
 refine F.okY ["self","hand","number"] λO A' o s H vs Q E hr nD0 h=>?_;obtain⟨L,q,R,S,U,V,rfl,p,b,e,W,r,X,Y⟩:=h;refine⟨_,aA (aX (cP m T.aa0 ‹18› bT (pv 0) (aE (pv 1) ‹37›)))
  ‹77›,?_⟩
 obtain⟨u,Z⟩:=p.self;refine⟨_,rfl,L.qu,u,_,rfl,Z,rfl,_,rfl,_,rfl,L,q,R,S,U,V,rfl,p,b,e,W,λ_ ⟨x,n,B,e1,e2,n0,n9,D⟩ H1 G=>?_,X,Y⟩;subst e1 e2;have r:=r x n;simp only[Den]at b e;subst b e;have g:=p.same G;obtain⟨dx,h1⟩:=g.self;obtain⟨hk,I,J⟩:=g.held;obtain⟨t,ev,gt⟩:=(J.look (n:=n)).2 x B D;refine⟨_,rfl,L.qu,_,dx,_,_,rfl,h1,T.aa0,T.ac5,rfl,?_⟩;refine⟨.inr (.inr (.inl ⟨rfl,.inl ⟨_,I⟩⟩)),_,rfl,L.hd,hk,Sum.inl n,_,rfl,rfl,I,ev,?_⟩;obtain⟨y,z⟩:=g.toHeld (J.drop (n:=n));exact r B rfl rfl D _ ((aG.step G).trans z) y
theorem C4(F:Fun K "done" "Queue.done" A5 f fd)(T:‹2›)(G:‹16› A.queue "check_held" 3 ["self","hand","number"] (jA A))(I:‹4›):‹14› 8 f fd ["self","hand","number"] (kT A):=by
 refine F.okY ["self","hand","number"] λad A' J s H vs Q E hr nD0 h=>?_;obtain⟨L,q,vh,vn,dh,dn,rfl,N,m,p,hz,O,qe,qb⟩:=h;refine⟨_,aA (aX (cP G T.aa0 ‹18› bT (pv 0) (aE (pv 1) ‹37›)))
  (aA (aX (cP I T.aa0 ‹18› bT (pv 0) (eZ (cA (bF (aU (aI bR (aE (pv 2) ‹50›))) aF)) aF)))
  ‹77›),?_⟩
 obtain⟨R,h0⟩:=N.self;refine⟨_,rfl,L.qu,R,_,rfl,h0,rfl,_,rfl,_,rfl,L,q,vh,vn,dh,dn,rfl,N,m,p,hz,λ_ ⟨x,n,tm,e1,e2,n0,n9,el⟩ H2 S2=>?_,qe,qb⟩;subst e1 e2;simp only[Den]at m p;subst m p;obtain⟨ok,B',S,O⟩:=O x n tm rfl rfl n0 n9 el;have u:=N.same S2;obtain⟨U,h2⟩:=u.self;refine⟨_,rfl,L.qu,U,_,rfl,h2,rfl,_,rfl,aJ,λp0 V=>⟨aJ,λp1 B=>⟨aJ,λp2 b=>?_⟩⟩⟩;obtain⟨H3,g,V0,v0⟩:=gUU (o:=.tup []) V;rw[g]at B b⊢;obtain⟨H4,g,W,v1⟩:=gUU (o:=.tup [.str "done",.int n,.ref p0]) B;rw[g]at b⊢;obtain⟨H5,g,X,v2⟩:=gUU (o:=.lst [.ref p1]) b;rw[g];have D:=V0.trans (W.trans X);have Y:=u.same D;refine⟨L,q,p2,[("done",n,[])],B',rfl,Y,ok,λz=>?_,?_,λr Z=>?_,S,λL' H6 st y=>?_⟩
 ·obtain⟨o,e⟩:=fT (u.same (V0.trans W)) z;rw[e]at b;cases b
 ·simp only[Den,map_cons,map_nil,aQ];refine⟨p2,_,rfl,v2,_,_,rfl,?_,rfl⟩;unfold cI fP;simp only[Den,aQ,map_nil];exact⟨p1,_,rfl,X _ _ v1,_,_,rfl,rfl,_,_,rfl,rfl,_,_,rfl,⟨p0,_,rfl,X _ _ (W _ _ v0),rfl⟩,rfl⟩
 ·rw[mem_singleton.mp Z];exact An (.inr (.inr rfl)) n0 n9
 obtain⟨aa,h6⟩:=y.self;obtain⟨hk,g6,r6⟩:=y.held;rw[show (nL (a8 q) (cH [("done",n,[])]) B').hs=q.hs from (cU q).2.1]at r6;obtain⟨t,ev,gt⟩:=(r6.look (n:=n)).2 x tm el;rw[st.qu]at h6;refine⟨_,rfl,L.qu,_,aa,_,_,rfl,h6,T.aa0,T.ac5,rfl,.inr (.inr (.inl ⟨rfl,.inl ⟨_,g6⟩⟩)),_,rfl,L'.hd,hk,Sum.inl n,_,rfl,rfl,g6,ev,?_⟩;obtain⟨ab,ac⟩:=y.toHeld (r6.drop (n:=n));exact O L' _ ((aG.step (S2.trans D)).trans (st.trans ac)) ab
theorem C2(F:Fun K "held" "Queue.held" A2 f fd)(T:‹2›):‹14› 1 f fd ["self"] (nY A):=by
 refine F.okY ["self"] λaa A' u s H vs Q E hr nD0 h=>?_;obtain⟨L,q,rfl,O,hl,qq⟩:=h;refine⟨_,aC (aP (cZ ["number"] [("self",0)] ⋯ ‹76› ‹34› ‹44› (λC s2 H2 ex=>(aU (aE (pv 0) (aN ‹45› aF)))))),?_⟩;obtain⟨R,U⟩:=O.self;obtain⟨hk,V,W⟩:=O.held;refine⟨_,rfl,L.qu,_,R,_,_,rfl,U,T.aa0,T.ac5,rfl,L.hd,hk,q.hs.map (·.1),rfl,V,W.keys,.inl (by rw[length_map];omega),by rw[length_map];omega,λp r b pw hp=>?_⟩;obtain⟨H1,B,G,X⟩:=gUU (o:=.lst (r.map .int)) hp;rw[B];have pl:=b.length_eq;rw[length_map]at pl;refine⟨p,rfl,⟨_,SqL.of X⟩,?_⟩;refine cX (bP (K:=K) (SqL.of X)) (by rw[length_map];exact le_trans ‹64› (by decide)) (λi y H'=>∃n,r[i]? = some n/\Den H' (.tuple [.int n,.str ((bY q.hs n).getD ("",0)).1]) y) (λi y H1 H2 s h=>by obtain⟨n,e,h⟩:=h;exact⟨n,e,h.n s rfl⟩) (λσ=>∃z,σ = [z,some (.ref L.qu)]) ⟨none,rfl⟩ ?_ ?_
 ·intro i x ab H3 hi I s3 m Q' J;obtain⟨z,rfl⟩:=I;rw[getElem?_map]at m;cases e:r[i]? with
  |none=>rw[e]at m;cases m
  |some n=>
   rw[e]at m;cases m;obtain⟨x,tm,Y⟩:=mJ (b.mem_iff.mp (mem_of_getElem? e));obtain⟨t,ev,gt⟩:=(W.look (n:=n)).2 x tm Y;have S:=G.trans s3;have Z:=cQ.k (k:=Sum.inl n) (S _ _ V);rw[ev]at Z;refine⟨_,rfl,_,rfl,L.qu,_,R,_,_,rfl,S _ _ U,T.aa0,T.ac5,rfl,_,rfl,L.hd,_,rfl,Z,t,_,_,.str x,rfl,rfl,SqT.of (S _ _ gt),bA (by decide) rfl,aJ,λp4 N=>?_⟩;refine J _ _ _ ⟨_,rfl⟩ (aD N) ⟨n,e,?_⟩;rw[Y];simp only[Den,aQ];exact⟨p4,_,rfl,aB,_,_,rfl,rfl,_,_,rfl,rfl,rfl⟩
 intro D ys H2 hD S2 gD g hR;refine qq r b pw D H2 (G.trans S2) (G.free hD) ?_;simp only[Den];refine⟨D,ys,rfl,gD,iJ (by unfold pT;rw[length_map];rw[length_map]at g;exact g) λi y e=>?_⟩;obtain⟨n,e1,e2⟩:=hR i y e;exact⟨_,by unfold pT;rw[getElem?_map,e1];rfl,e2⟩
theorem FI{f:Addr}{fd:Ml}(F:Fun K "wait" "Queue.wait" Az f fd)(T:‹2›)(al:‹3›)(am:‹12›){hw:∃t,mg "LONGEST_WAIT" = some (.int 99 t)}:‹14› 3 f fd ["self","many"] (mS A):=by
 obtain⟨_,an⟩:=hw;refine F.okY ["self","many","late","number"] λba A' ao s H vs Q E hr nD0 h=>?_;obtain⟨L,q,m,rfl,hq,qb,h⟩:=h;refine⟨_,aA (bE (cY (dL (bC al ‹18› bB (aE (pv 1) (aI aM (aE (cT (v:=.int 99) ⋯ an ⟨_,rfl⟩) aF))))))
   ‹88›
   aO)
  (aA (qW (pv 0) (pv 1) vS)
  (aA (lE (i:=2) ["number"] [("self",0)] nD0 ⋯ ⋯ ⋯ ‹76› ‹34› (λC s2 H2 ex=>(hG (aW pF (bD lG ‹63› ‹45›) ‹63› (bJ _)))) ‹67›)
  (aA (fQ (kB eE) ⋯ (bV K (pv 2)) ‹56›
   (aC (aX (iZ K PySem.F.plainAttrs_dict PySem.F.slot_dict_pop PySem.F.type_dict_pop pI ‹22› ‹53›))))
  (aC (aP (cZ ["number"] [("self",0)] ⋯ (bV K (pv 2)) ‹34› ‹44› (λC s2 H2 ex=>(cP am T.ac7 ‹18› bB ‹63› ‹36›)))))))),?_⟩
 obtain⟨dx,h1⟩:=hq.self;refine⟨_,rfl,.int m,.int m,1,99,rfl,by simp only[Den],_,rfl,?_⟩;cases af:bM 1 99 (.int m) with
 |false=>exact aZ ⟨aJ,qb af⟩
 |true=>
 obtain⟨hl,hn,he,qq⟩:=h af;refine bH (cM rfl ?_);refine⟨_,rfl,L.qu,_,dx,_,_,rfl,h1,T.aa0,T.bb2,rfl,_,rfl,_,_,rfl,rfl,dx,_,h1,(le_of_ble_eq_true rfl),?_⟩;obtain⟨J,aa⟩:=hq.fields (dx:=dx) {q with now:=q.now+m} false rfl rfl rfl;show wM _ _ _ _ (upd H L.qu (.ins A.queue dx (quF L {q with now:=q.now+m} false)));generalize upd H L.qu (.ins A.queue dx (quF L {q with now:=q.now+m} false))=H1 at J aa⊢;obtain⟨q1,O⟩:∃q1:Qs,q1 = {q with now:=q.now+m}:=⟨_,rfl⟩;rw[<- O]at J;obtain⟨R,U⟩:=J.self;obtain⟨hk,g1,r1⟩:=J.held;have eh:q1.hs=q.hs:=by rw[O]
 rw[eh]at r1;refine⟨_,rfl,L.qu,_,R,_,_,rfl,U,T.aa0,T.ac5,rfl,L.hd,hk,q.hs.map (·.1),rfl,g1,r1.keys,.inl (by rw[length_map];omega),by rw[length_map];omega,λp W B pw hp=>?_⟩;obtain⟨H2,ap,S2,g2⟩:=gUU (o:=.lst (W.map .int)) hp;rw[ap];have pl:=B.length_eq;rw[length_map]at pl;refine⟨p,rfl,⟨_,SqL.of g2⟩,?_⟩;refine fS (bP (K:=K) (SqL.of g2)) (by rw[length_map];exact le_trans ‹64› (by decide)) (λj=>pR q m (W.getD j 0)) (λj=>V.int (W.getD j 0)) (λY=>∃z,Y = [z,some (.ref L.qu)]) ⟨none,rfl⟩ ?_ ?_
 ·intro j x aq H3 hj ac s3 G Q1 Q2 Q3 ag ah;obtain⟨z,rfl⟩:=ac;rw[getElem?_map]at G;cases e:W[j]? with
  |none=>rw[e]at G;cases G
  |some n=>
   rw[e]at G;cases G;have eg:W.getD j 0=n:=by rw[getD_eq_getElem?_getD,e];rfl
   rw[eg]at ag ah;obtain⟨x,tm,el⟩:=mJ (B.mem_iff.mp (mem_of_getElem? e));obtain⟨t,ev,gt⟩:=(r1.look (n:=n)).2 x tm el;have S:=S2.trans s3;have dg:=cQ.k (k:=Sum.inl n) (S _ _ g1);rw[ev]at dg;refine⟨_,rfl,L.qu,_,R,_,_,rfl,S _ _ U,T.aa0,T.bb2,rfl,_,rfl,L.qu,_,R,_,_,rfl,S _ _ U,T.aa0,T.ac5,rfl,_,rfl,L.hd,_,rfl,dg,t,_,_,.int tm,rfl,rfl,SqT.of (S _ _ gt),bA (by decide) rfl,_,_,rfl,rfl,_,rfl,L.qu,_,R,_,_,rfl,S _ _ U,T.aa0,T.bk7,rfl,_,_,rfl,rfl,_,rfl,?_⟩;have eb:pR q m n=decide (q1.hold<q1.now-tm):=by
    unfold pR;rw[el,O];rfl
   cases hb:pR q m n with
   |true=>
    rw[<- eb,hb];exact aZ ⟨_,rfl,ag _ ⟨_,rfl⟩ hb⟩
   |false=>
    rw[<- eb,hb];exact bH (ah _ ⟨_,rfl⟩ hb)
 intro u H3 X S3 g3;rw[length_map,gH W (pR q m)]at g3;obtain⟨r,N⟩:∃r,r=W.filter (pR q m):=⟨_,rfl⟩;rw[<- N]at g3;have lsN:r.Nodup:=by
  rw[N];exact List.Pairwise.filter _ (B.nodup_iff.mpr hn)
 have ar:r.length<=1000:=by
  rw[N];have:=length_filter_le (pR q m) W;omega
 have ai:∀n∈r,n∈q.hs.map (·.1):=λn h=>by
  rw[N]at h;exact B.mem_iff.mp (mem_filter.mp h).1
 have as:=J.same (S2.trans S3);have au:=aa.trans (aG.step (L:=L) (S2.trans S3));have aj:¬gT L u:=λz=>by
  obtain⟨o,e⟩:=fT (J.same S2) z;rw[e]at X;cases X
 have a6:H u=none:=by
  cases e:H u with
  |none=>rfl
  |some o=>
   rw[S2 _ _ (aa.frm _ _ e aj)]at X;cases X
 refine⟨_,rfl,u,rfl,⟨_,SqL.of g3⟩,?_⟩;refine fR (bP (K:=K) (H:=upd (λ_=>none) u (.lst (r.map V.int))) (SqL.of aB)) (λi Y H'=>∃z3,Step L L H H'/\QueueW A H' L {q1 with hs:=q.hs.filter λp=>decide (p.1∉r.take i)} false/\H' u=some (.lst (r.map V.int))/\Y = [some (.ref L.qu),some (.int m),some (.ref u),z3]) ⟨_,au,?_,g3,rfl⟩ (λi Y H' hh b o e=>?_) ?_ ?_
 ·rw[List.take_zero,List.filter_eq_self.mpr (λp _=>decide_eq_true (by simp)),<- eh];exact as
 ·obtain⟨_,_,_,g,_⟩:=hh;by_cases y:b=u
  ·subst y;rw[aB]at e;injection e with e
   rw[<- e];exact g
  ·rw[aH y]at e;cases e
 ·rintro i x Y H5 H6 hi ⟨z3,st,I,gi,rfl⟩ s6 G;rw[length_map]at hi;have G:(r.map V.int)[i]? = some x:=G;rw[getElem?_map]at G;obtain⟨n,en⟩:∃n,r[i]? = some n:=⟨_,getElem?_eq_getElem hi⟩;rw[en]at G;cases G;have ad:=I.same s6;obtain⟨av,h6⟩:=ad.self;obtain⟨aw,g6,r6⟩:=ad.held;have tk:r.take (i+1)=r.take i++[n]:=by rw[take_succ,en];rfl
  have ax:n∉r.take i:=λz=>by
   have hd:r.take i++r.drop i=r:=take_append_drop _ _;have nd:=lsN;rw[<- hd,nodup_append]at nd;have h2:n∈r.drop i:=by
    rw[drop_eq_getElem_cons hi];have:r[i]=n:=(List.getElem?_eq_some_iff.mp en).2;rw[this];exact mem_cons_self
   exact nd.2.2 n z n h2 rfl
  have ay:n∈(q.hs.filter λp=>decide (p.1∉r.take i)).map (·.1):=by
   obtain⟨p,hp,ep⟩:=mem_map.mp (ai n (mem_of_getElem? en));exact mem_map.mpr ⟨p,mem_filter.mpr ⟨hp,decide_eq_true (by rw[ep];exact ax)⟩,ep⟩
  obtain⟨x,tm,el⟩:=mJ ay;obtain⟨t,ev,gt⟩:=(r6.look (n:=n)).2 x tm el;refine⟨_,rfl,L.qu,_,av,_,_,rfl,h6,T.aa0,T.ac5,rfl,.inr (.inr (.inl ⟨rfl,.inl ⟨_,g6⟩⟩)),_,rfl,L.hd,aw,Sum.inl n,_,rfl,rfl,g6,ev,?_⟩;obtain⟨az,ak⟩:=ad.toHeld (r6.drop (n:=n));refine⟨_,st.trans ((aG.step s6).trans ak),?_,ak.frm _ _ (s6 _ _ gi) aj,rfl⟩;have e1:dropH (q.hs.filter λp=>decide (p.1∉r.take i)) n=q.hs.filter λp=>decide (p.1∉r.take (i+1)):=by
   unfold dropH;rw[List.filter_filter];refine List.filter_congr λp _=>?_;rw[tk,<- Bool.decide_and];refine decide_eq_decide.mpr ?_;rw[mem_append,mem_singleton];exact⟨λh z=>z.elim h.2 h.1,λh=>⟨λz=>h (.inr z),λz=>h (.inl z)⟩⟩
  rw[<- e1];exact az
 rintro Y H5 ⟨z3,st,I,gi,rfl⟩;rw[length_map,take_length]at I;obtain⟨a0,h5⟩:=I.self;obtain⟨a1,a2⟩:=I.book.self;refine⟨_,rfl,u,rfl,⟨_,SqL.of gi⟩,?_⟩;refine cX (bP (K:=K) (SqL.of gi)) (by rw[length_map];exact le_trans ar (by decide)) (λi y H'=>∃n,r[i]? = some n/\Den H' (lT q.B.es n) y) (λi y H1 H2 s h=>by obtain⟨n,e,h⟩:=h;exact⟨n,e,h.n s (AS _ _)⟩) (λY=>∃z,Y = [z,some (.ref L.qu)]) ⟨none,rfl⟩ ?_ ?_
 ·intro i x aq H6 hi ac s6 G Q' a3;obtain⟨z,rfl⟩:=ac;rw[getElem?_map]at G;cases e:r[i]? with
  |none=>rw[e]at G;cases G
  |some n=>
   rw[e]at G;cases G;obtain⟨p,hp,ep⟩:=mem_map.mp (ai n (mem_of_getElem? e));obtain⟨en,ae⟩:=he p hp;rw[ep]at ae;have a4:BookAt A.book H6 L.bk L.de L.dp q.B:=by
    have:=(I.same s6).book;rw[show ({q1 with hs:=q.hs.filter λp=>decide (p.1∉r)}:Qs).B=q.B by rw[O]]at this;exact this
   refine⟨_,rfl,L.qu,_,a0,_,_,rfl,s6 _ _ h5,T.aa0,T.ad9,rfl,L.bk,a1,_,rfl,s6 _ _ a2,rfl,_,rfl,L.bk,L.de,L.dp,q.B,n,en,rfl,a4,ae,λp7 H7 S7 d7=>?_⟩;refine a3 _ _ _ ⟨_,rfl⟩ S7 ⟨n,e,?_⟩;unfold lT;rw[ae];exact d7
 intro D ys H6 hD S6 gD Z hR;have a5:H D=none:=by
  cases e:H D with
  |none=>rfl
  |some o=>
   by_cases y:gT L D
   ·obtain⟨o',e'⟩:=fT I y;rw[e']at hD;cases hD
   ·rw[st.frm _ _ e y]at hD;cases hD
 refine qq W B pw D H6 (st.trans (aG.step S6)) ?_ a5 ?_
 ·rw[<- N];unfold KU;have:=I.same S6;rw[O]at this;exact this
 ·rw[<- N];simp only[Den];refine⟨D,ys,rfl,gD,iJ (by rw[length_map];rw[length_map]at Z;exact Z) λi y e=>?_⟩;obtain⟨n,e1,e2⟩:=hR i y e;exact⟨_,by rw[getElem?_map,e1];rfl,e2⟩
end
abbrev o9:Stmt:=top 17
abbrev xN:Stmt:=top 18
abbrev s_do:Stmt:=top 19
inductive mQ where
 |put (b:Mf) |all (bs:Md) |take (x:Str) |done (x:Str) (n:Int) |back (x:Str) (n:Int) |wait (m:Int) |new (n:Int) |sweep |carry
def eC:mQ->Str
 | .put _=>"put"
 | .all _=>"all"
 | .take _=>"take"
 | .done _ _=>"done"
 | .back _ _=>"back"
 | .wait _=>"wait"
 | .new _=>"new"
 | .sweep=>"sweep"
 | .carry=>"carry"
def dC:mQ->Mj
 | .put b=>[.tuple (b.map .int)]
 | .all e=>[.tuple (dF e)]
 | .take x=>[.str x]
 | .done x n=>[.str x,.int n]
 | .back x n=>[.str x,.int n]
 | .wait m=>[.int m]
 | .new n=>[.int n]
 | .sweep=>[]
 | .carry=>[]
def AA:List (Str×Int):=[("put",2),("all",2),("take",2),("done",3),("back",3),("wait",2),("new",2),("sweep",1),("carry",1)]
def Gf:Mn:=AA.map λp=>(Sum.inr p.1,V.int p.2)
inductive jJ(vs:Mp)(H:Hp)(Q:VK)(x_3:XK):Prop
 |mk:∀(t:Addr)(args:Mp)(d:mQ),vs=[.ref t]->H t=some (.tup (.str (eC d)::args))->args.length=(dC d).length->Q .non H->jJ vs H Q x_3
theorem JN(d:mQ):dD Gf (Sum.inr (eC d))=some (.int ((dC d).length+1:Nat)):=by
 cases d <;> rfl
theorem bZ(e:f[i]? = some (some (.str x)))(h:decide (x=k)=false)(g:b D f H):wM (LA (De (tOp rEq (nJ i) (tC (V.str k)))) a Dg) b D f H:=by
 refine⟨_,e,rfl,_,rfl,?_⟩;rw[gI (of_decide_eq_false h)];exact bH g
theorem jB(e:f[i]? = some (some (.str x)))(h:x=k)(g:a {D with nx:=b D} f H):wM (LA (De (tOp rEq (nJ i) (tC (V.str k)))) a Dg) b D f H:=by
 refine⟨_,e,rfl,_,rfl,?_⟩;rw[hX h];exact aZ g
def LM(A:Ad):mQ->Sp
 | .put _=>oS A
 | .all _=>i9 A
 | .take _=>mT A
 | .done _ _=>kT A
 | .back _ _=>kU A
 | .wait _=>mS A
 | .new _=>i8 A
 | .sweep=>iR A
 | .carry=>iS A
inductive zU(A:Ad)(vs:Mp)(H:Hp)(Q:VK)(E:XK):Prop
 |mk:∀(L:Pl)(q:Qs)(t:Addr)(args:Mp)(d:mQ),vs=[.ref L.qu,.ref t]->QueueW A H L q false->H t=some (.tup (.str (eC d)::args))->args.length=(dC d).length->LM A d (.ref L.qu::args) H Q (λc _ H'=>E c none H')->zU A vs H Q E
inductive xH(A:Ad)(vs:Mp)(H:Hp)(Q:VK)(x_3:XK):Prop
 |mk:∀(L:Pl)(q:Qs)(t:Addr)(args:Mp)(d:mQ),vs=[.ref L.qu,.ref t]->QueueW A H L q false->H t=some (.tup (.str (eC d)::args))->args.length=(dC d).length->(∀E':XK,(∀a H',a∈[A.notHeld,A.badNumber,A.badBody,A.badHand]->Q (.str "refused") H'->E' (.ref a) none H')->LM A d (.ref L.qu::args) H Q E')->xH A vs H Q x_3
structure TxtS(P:Program)(w:World)(K:Ma)(mg:Mc)(A:Ad)(ab9 ae0 ab4:Addr):Prop where
 ad8:mg "len" = none
 ac2:mg "isinstance" = none
 ai2:mg "tuple" = none
 bj8:mg "str" = none
 an1:dH K ae0=true
 bk0:mg "BadDeed" = some (.ref ae0)
 at7:mg "Stopped" = some (.ref A.stopped)
 e_s:∀c∈[A.notHeld,A.badNumber,A.badBody,A.badHand],PySem.W.exmOne K (.ref c) (.ref A.stopped)=some false/\PySem.W.exmOne K (.ref c) (.ref ab4)=some true
 bh8:mg "QueueError" = some (.ref ab4)
 g_S:mg "SIZES_OF_DEEDS" = some (.ref ab9)
 G_S:GD P w K ab9 Gf
section
variable{P:Program}{w:World}{K:Ma}{mg:Mc}{base:Heap}{A:Ad}{ab9 ae0 ab4:Addr}
theorem wT(F:Fun K "check_deed" "check_deed" o9 f p)(T:TxtS P w K mg A ab9 ae0 ab4):‹14› 1 f p ["deed"] jJ:=by
 have b:=T.G_S;have e:=T.g_S;refine F.okY ["deed","word"] λr x n s H y Q E hr nD0 h=>?_;obtain⟨t,g,d,rfl,m,u,q⟩:=h;refine⟨_,aA (bE (lQ (cY (dL ‹27›)) (iV (aW fY ‹28› aM (bJ _)))).pt
   ‹89›
   aO)
  (aA (a9 (i:=1) nD0 ⋯ ⋯ ‹24›)
  (aA (bE (lQ (cY (dL (bL (iN K) ⋯ T.ac2 eU (aE (pv 1) ‹58›)))) (iV (oA (FD b (pv 1) (cT (v:=.ref ab9) ⋯ e ⋯))))).pt
   ‹89›
   aO)
  (aC (bE (aW yH ‹28› (Jh b (cT (v:=.ref ab9) ⋯ e ⋯) (pv 1) (λ_ _=>rfl)) (bJ _))
   ‹89›
   aO)))),?_⟩
 refine⟨_,rfl,_,"tuple",_,true,rfl,.tup m,rfl,_,rfl,bH ?_⟩;refine⟨_,rfl,t,_,rfl,.inr (SqT.of m),rfl,_,rfl,?_⟩;rw[length_cons,pY (show ((g.length+1:Nat):Int)≠0 by omega)];refine bH (cM rfl ?_);refine⟨_,rfl,t,_,_,.str (eC d),rfl,rfl,SqT.of m,bA (by decide) rfl,?_⟩;refine⟨_,rfl,_,"str",_,true,rfl,.str _,rfl,_,rfl,bH ?_⟩;have o:=JN d;refine⟨_,rfl,Sum.inr (eC d),rfl,_,rfl,?_⟩;rw[o];refine bH (cM rfl ?_);refine⟨_,rfl,t,_,rfl,.inr (SqT.of m),_,rfl,Sum.inr (eC d),_,rfl,o,rfl,_,rfl,?_⟩;rw[length_cons,u,decide_eq_true rfl];exact bH q
theorem tH{b : Type}:∀{l:List b},l.length=2->∃x y,l=[x,y]
 |[x,y],_=>⟨x,y,rfl⟩
theorem Cw(F:Fun K "told_by" "told_by" xN f U)(T:‹2›)(r:‹16› A.queue "put" 8 ["self","body"] (oS A))(u:‹16› A.queue "put_all" 8 ["self","bodies"] (i9 A))(B:‹16› A.queue "take" 8 ["self","hand"] (mT A))(D:‹16› A.queue "done" 8 ["self","hand","number"] (kT A))(G:‹16› A.queue "give_back" 4 ["self","hand","number"] (kU A))(I:‹16› A.queue "wait" 3 ["self","many"] (mS A))(J:‹16› A.queue "revive" 8 ["self","number"] (i8 A))(N:‹16› A.queue "sweep" 6 ["self"] (iR A))(O:‹16› A.queue "carry" 8 ["self"] (iS A)):‹14› 9 f U ["queue","deed"] (zU A):=by
 refine F.okY ["queue","deed","word"] λV X R s H Y Q E hr nD0 h=>?_;obtain⟨L,q,t,S,d,rfl,W,e,g,m⟩:=h;refine⟨_,aA (a9 (i:=2) nD0 ⋯ ⋯ ‹21›)
  (aA (bE ‹49›
   (aC (aP (cP r T.aa0 ‹18› bT (pv 0) ‹80›)))
   aO)
  (aA (bE ‹49›
   (aC (aP (cP u T.aa0 ‹18› bT (pv 0) ‹80›)))
   aO)
  (aA (bE ‹49›
   (aC (aP (cP B T.aa0 ‹18› bT (pv 0) ‹80›)))
   aO)
  (aA (bE ‹49›
   (aC (aP (cP D T.aa0 ‹18› bT (pv 0) (aN ‹21› ‹80›))))
   aO)
  (aA (bE ‹49›
   (aC (aP (cP G T.aa0 ‹18› bT (pv 0) (aN ‹21› ‹80›))))
   aO)
  (aA (bE ‹49›
   (aC (aP (cP I T.aa0 ‹18› bT (pv 0) ‹80›)))
   aO)
  (aA (bE ‹49›
   (aC (aP (cP J T.aa0 ‹18› bT (pv 0) ‹80›)))
   aO)
  (aA (bE ‹49›
   (aC (aP (eK N T.aa0 ‹18› bT (pv 0))))
   aO)
  (aC (aP (eK O T.aa0 ‹18› bT (pv 0)))))))))))),?_⟩
 obtain⟨o,p⟩:=W.self;refine⟨_,rfl,t,_,_,.str (eC d),rfl,rfl,SqT.of e,bA (by decide) rfl,?_⟩;cases d with
 |put b=>
  obtain⟨x,rfl⟩:=length_eq_one_iff.mp g;exact jB rfl rfl ⟨_,rfl,L.qu,o,_,rfl,p,rfl,_,rfl,t,_,_,x,rfl,rfl,SqT.of e,rfl,m⟩
 |all Z=>
  obtain⟨x,rfl⟩:=length_eq_one_iff.mp g;exact bZ rfl rfl (jB rfl rfl ⟨_,rfl,L.qu,o,_,rfl,p,rfl,_,rfl,t,_,_,x,rfl,rfl,SqT.of e,rfl,m⟩)
 |take y=>
  obtain⟨x,rfl⟩:=length_eq_one_iff.mp g;exact bZ rfl rfl (bZ rfl rfl (jB rfl rfl ⟨_,rfl,L.qu,o,_,rfl,p,rfl,_,rfl,t,_,_,x,rfl,rfl,SqT.of e,rfl,m⟩))
 |done y n=>
  obtain⟨x,z,rfl⟩:=tH g;exact bZ rfl rfl (bZ rfl rfl (bZ rfl rfl (jB rfl rfl ⟨_,rfl,L.qu,o,_,rfl,p,rfl,_,rfl,t,_,_,x,rfl,rfl,SqT.of e,rfl,_,rfl,t,_,_,z,rfl,rfl,SqT.of e,rfl,m⟩)))
 |back y n=>
  obtain⟨x,z,rfl⟩:=tH g;exact bZ rfl rfl (bZ rfl rfl (bZ rfl rfl (bZ rfl rfl (jB rfl rfl ⟨_,rfl,L.qu,o,_,rfl,p,rfl,_,rfl,t,_,_,x,rfl,rfl,SqT.of e,rfl,_,rfl,t,_,_,z,rfl,rfl,SqT.of e,rfl,m⟩))))
 |wait n=>
  obtain⟨x,rfl⟩:=length_eq_one_iff.mp g;exact bZ rfl rfl (bZ rfl rfl (bZ rfl rfl (bZ rfl rfl (bZ rfl rfl (jB rfl rfl ⟨_,rfl,L.qu,o,_,rfl,p,rfl,_,rfl,t,_,_,x,rfl,rfl,SqT.of e,rfl,m⟩)))))
 |new n=>
  obtain⟨x,rfl⟩:=length_eq_one_iff.mp g;exact bZ rfl rfl (bZ rfl rfl (bZ rfl rfl (bZ rfl rfl (bZ rfl rfl (bZ rfl rfl (jB rfl rfl ⟨_,rfl,L.qu,o,_,rfl,p,rfl,_,rfl,t,_,_,x,rfl,rfl,SqT.of e,rfl,m⟩))))))
 |sweep=>
  obtain rfl:=List.length_eq_zero_iff.mp g;exact bZ rfl rfl (bZ rfl rfl (bZ rfl rfl (bZ rfl rfl (bZ rfl rfl (bZ rfl rfl (bZ rfl rfl (jB rfl rfl ⟨_,rfl,L.qu,o,_,rfl,p,rfl,m⟩)))))))
 |carry=>
  obtain rfl:=List.length_eq_zero_iff.mp g;exact bZ rfl rfl (bZ rfl rfl (bZ rfl rfl (bZ rfl rfl (bZ rfl rfl (bZ rfl rfl (bZ rfl rfl (bZ rfl rfl ⟨_,rfl,L.qu,o,_,rfl,p,rfl,m⟩)))))))
theorem ok_do(F:Fun K "do" "do" s_do f p)(T0:‹2›)(T:TxtS P w K mg A ab9 ae0 ab4)(e:‹15› "check_deed" 1 ["deed"] jJ)(g:‹15› "told_by" 9 ["queue","deed"] (zU A)):‹14› 10 f p ["queue","deed"] (xH A):=by
 refine F.okY ["queue","deed"] λr D m s H G Q E hr nD0 h=>?_;obtain⟨L,q,t,b,d,rfl,u,n,o,x⟩:=h;refine⟨_,aA (aX (bC e ‹18› bT ‹32›))
  (aC (LZ Jk (HC (JY (px_fn g ‹18› (aE (pv 0) ‹32›))))
   (PH.cons ⋯ T.at7 (by decide) (λex=>(aC (aP bR))) (PH.cons ⋯ T.bh8 (by decide) (λex=>(aC (aP bR))) PH.nil)))),?_⟩
 refine⟨_,rfl,t,b,d,rfl,n,o,?_⟩;refine⟨_,rfl,_,rfl,L,q,t,b,d,rfl,u,n,o,?_⟩;refine x _ λa I y h=>?_;obtain⟨z,B⟩:=T.e_s a y;exact .inr ⟨z,.inl ⟨B,h⟩⟩
end
theorem iU(r:Rw)(b:Mr):cH (r::b)=iF r.1 r.2.1 r.2.2++cH b:=by
 unfold cH;rw[map_cons,List.flatten_cons]
theorem Ay(b:e7 n)(f:e7 m)(e:bO n=bO m):n=m:=by
 have g:=PySem.W.KIN.num_reads b.1 (Int.lt_of_lt_of_le b.2 (by decide));have o:=PySem.W.KIN.num_reads f.1 (Int.lt_of_lt_of_le f.2 (by decide));have p:Str.ofString (toString n)=Str.ofString (toString m):=by rw[<- xK n,<- xK m,e]
 rw[p]at g;exact Option.some.inj (g.symm.trans o)
theorem Bu(h:n∉b.map (·.1)):aT b n=none:=by
 unfold aT;rw[map_eq_none_iff,find?_eq_none];intro p e z;exact h (by rw[<- of_decide_eq_true z];exact mem_map_of_mem e)
theorem DI(b:List (Str×Mf))(h:x≠n):aT (gQ b n) x=aT b x:=by
 unfold aT gQ;congr 1;rw[List.find?_filter];congr 1;funext p;by_cases y:p.1=x
 ·rw[decide_eq_true y,decide_eq_true (show p.1≠n from λw=>h (y.symm.trans w))];rfl
 ·rw[decide_eq_false y];exact decide_eq_false (λw=>by cases w.2)
theorem EF(e:Ent)(h:∀p∈b,p.1<n):eR b n e=b++[(n,e)]:=by
 unfold eR;rw[if_neg];rw[any_eq_true];rintro ⟨p,f,z⟩;have:=h p f;have:=of_decide_eq_true z;omega
theorem Eb(l:Int)(b:Mf)(e:B.parts=[])(f:∀p∈B.es,p.1<n)(m:B.up=n):dS l B [("put",n,b)]=some ⟨B.es++[(n,(b,0,l))],n+1,[]⟩:=by
 show (match dE B "put" n b l with |none=>none |some g=>some g)=_;have:dE B "put" n b l=some ⟨B.es++[(n,(b,0,l))],n+1,[]⟩:=by
  unfold dE;rw[if_neg (by decide),if_neg (by decide),if_neg (λy=>y e),if_pos rfl];unfold mD;rw[if_neg (by omega),EF _ f,e]
 rw[this]
theorem Ih(k:Str)(n:Int):(cH [(k,n,[])]).length=7:=by
 rw[iU,length_append,eI];rfl
structure Sz(q:Qs)(n:Nat):Prop where
 left:q.D.left=none
 f0:0<=q.first
 top:q.last<=(n:Int)
 keys:∃k:Nat,q.last=q.first+(k:Int)/\q.D.fs.map (·.1)=(List.range (k+1)).map λ(i:Nat)=>bO (q.first+(i:Int))
 len:∀x bs,aT q.D.fs x=some bs->(bs.length:Int)<=q.most+706
 m8:1<=q.most
 m67:q.most<=2000
section
variable{q:Qs}{n:Nat}
theorem Sz.here(h:Sz q n):∃b,aT q.D.fs (bO q.last)=some b:=by
 obtain⟨k,e,f⟩:=h.keys;refine Bv ?_;rw[f,mem_map];exact⟨k,mem_range.mpr (by omega),by rw[e]⟩
theorem Sz.wok(h:Sz q n)(s:n<=80000)(f:0<=q.B.up)(g:q.B.es.length+q.B.parts.length+m<900):WOk q m:=by
 obtain⟨k,e,b⟩:=h.keys;have t:=h.f0;have top:=h.top;have o:=h.m67;refine⟨h.left,⟨by omega,by omega⟩,⟨by omega,by omega⟩,h.here,Bu ?_,λx p y=>?_,?_,f,g⟩
 ·rw[b,mem_map];rintro ⟨i,r,y⟩;rw[mem_range]at r;have:=Ay ⟨by omega,by omega⟩ ⟨by omega,by omega⟩ y;omega
 ·have:=h.len x p y;omega
 ·have:=congrArg List.length b;rw[length_map,length_map,length_range]at this;omega
theorem Sz.step(h:Sz q n)(E:n<=80000)(G:0<=q.B.up)(H:q.B.up<=999999)(O:q.B.es.length+q.B.parts.length<800)(Q:p.length<=700)(I:Bk)(z:Mt):Sz {nL (a8 q) p I with hs:=z} (n+1)/\(a8 q).last<=(n:Int)+1:=by
 have wok:=h.wok E (m:=0) G (by omega);obtain⟨k,e,B⟩:=h.keys;have D:=h.m8;have r:=h.m67;have nx:Sz (a8 q) (n+1)/\∃g,aT (a8 q).D.fs (bO (a8 q).last)=some g/\(g.length:Int)<=(a8 q).most+6:=by
  obtain⟨g,f⟩:=h.here;have b:iB q=g:=by unfold iB;rw[f];rfl
  unfold a8;split
  ·refine⟨⟨rfl,h.f0,by show q.last+1<=_;have:=h.top;omega,⟨k+1,by show q.last+1=q.first+((k+1:Nat):Int);omega,?_⟩,λx p y=>?_,D,r⟩,iF "from" q.B.up [],?_,by rw[eI];show ((7+0:Nat):Int)<=q.most+6;omega⟩
   ·show (fF (q.D.fs++[(bO (q.last+1),[])]) _ _).map (·.1)=_;rw[mZ,map_append,B,List.range_succ (n:=k+1),map_append,e];show _++[bO (q.first+(k:Int)+1)]=_++[bO (q.first+((k+1:Nat):Int))];rw[show q.first+(k:Int)+1=q.first+((k+1:Nat):Int) by omega];rfl
   ·rw[lN q wok.new]at y;split at y
    ·cases y;rw[eI];show ((7+0:Nat):Int)<=q.most+706;omega
    ·exact h.len x p y
   ·rw[lN q wok.new];exact if_pos rfl
  ·rename_i t;refine⟨⟨h.left,h.f0,Int.le_trans h.top (by omega),⟨k,e,B⟩,h.len,D,r⟩,g,f,?_⟩;rw[b]at t;unfold yS at t;rw[and_eq_true,not_and]at t;have:=t (by rw[Bool.not_eq_true',decide_eq_false_iff_not];omega);rw[decide_eq_true_eq]at this;omega
 obtain⟨o,g,f,J⟩:=nx;obtain⟨L,N,u⟩:=o.keys;have b:iB (a8 q)=g:=by unfold iB;rw[f];rfl
 refine⟨⟨rfl,o.f0,o.top,⟨L,N,?_⟩,λx s y=>?_,o.m8,o.m67⟩,by have:=o.top;omega⟩
 ·show (fF (a8 q).D.fs _ _).map (·.1)=_;rw[mZ];exact u
 ·have y:aT (fF (a8 q).D.fs (bO (a8 q).last) (iB (a8 q)++p)) x=some s:=y;rw[Bs,f,b]at y;split at y
  ·cases y;rw[length_append];show (((g.length+p.length:Nat)):Int)<=(a8 q).most+706;omega
  ·exact o.len x s y
theorem Sz.drop(h:Sz q n)(D:n<=80000)(r:q.first<q.last):q.D.left=none/\e7 q.first/\(∃b,aT q.D.fs (bO q.first)=some b)/\Sz (B9 q) n:=by
 obtain⟨k,e,m⟩:=h.keys;have E:=h.f0;have top:=h.top;obtain⟨f,rfl⟩:∃f,k=f+1:=⟨k-1,by omega⟩;have s:∀i:Nat,i<f+1->bO (q.first+1+(i:Int))≠bO q.first:=λi g y=>by
  have:=Ay ⟨by omega,by omega⟩ ⟨by omega,by omega⟩ y;omega
 refine⟨h.left,⟨by omega,by omega⟩,Bv ?_,⟨rfl,by show 0<=q.first+1;omega,h.top,⟨f,by show q.last=q.first+1+_;omega,?_⟩,λx b y=>?_,h.m8,h.m67⟩⟩
 ·rw[m,mem_map];exact⟨0,mem_range.mpr (by omega),by rw[show q.first+((0:Nat):Int)=q.first by omega]⟩
 ·show (gQ q.D.fs (bO q.first)).map (·.1)=_;have t:(gQ q.D.fs (bO q.first)).map (·.1)=(q.D.fs.map (·.1)).filter λx=>decide (x≠bO q.first):=by
   unfold gQ;rw[filter_map];rfl
  rw[t,m,range_succ_eq_map,map_cons,filter_cons,if_neg (by simp),map_map,List.filter_eq_self.mpr]
  ·apply map_congr_left;intro i _;show bO (q.first+((i+1:Nat):Int))=bO (q.first+1+(i:Int));rw[show q.first+((i+1:Nat):Int)=q.first+1+(i:Int) by omega]
  ·intro x o;rw[mem_map]at o;obtain⟨i,g,rfl⟩:=o;rw[mem_range]at g;refine decide_eq_true ?_;have:=s i g;show bO (q.first+((i+1:Nat):Int))≠bO q.first;rw[show q.first+((i+1:Nat):Int)=q.first+1+(i:Int) by omega];exact this
 ·have y:aT (gQ q.D.fs (bO q.first)) x=some b:=y;by_cases z:x=bO q.first
  ·subst z;have:aT (gQ q.D.fs (bO q.first)) (bO q.first)=none:=Bu (by
    unfold gQ;rw[mem_map];rintro ⟨p,u,B⟩;have:=of_decide_eq_true (mem_filter.mp u).2;exact this B)
   rw[this]at y;cases y
  ·rw[DI _ z]at y;exact h.len x b y
end
section
variable{es:Mq}{n up:Int}{e:Ent}
theorem vM(h:bQ es n=some e):(n,e)∈es:=by
 unfold bQ at h;cases y:es.find? λp=>decide (p.1=n) with
 |none=>
  rw[y]at h;cases h
 |some p=>
  rw[y]at h;cases h;have f:=List.mem_of_find?_eq_some y;have b:=List.find?_some (p:=λp:Int×Ent=>decide (p.1=n)) y;have b:p.1=n:=of_decide_eq_true b;rw[<- b];exact f
theorem pM(h:bQ es n=some e):(es.any λp=>decide (p.1=n))=true:=any_eq_true.mpr ⟨_,vM h,decide_eq_true rfl⟩
theorem u9(h:bQ es n=some e)(b:Ent):(eR es n b).map (·.1)=es.map (·.1):=by
 unfold eR;rw[if_pos (pM h),map_map];apply map_congr_left;intro p _;show (if p.1=n then (p.1,b) else p).1=p.1;split <;> rfl
theorem B4:∀(es:Mq)(n k:Int)(f:Ent),bQ (es.map λp=>if p.1=n then (p.1,f) else p) k=if k=n then (bQ es n).map (λ_=>f) else bQ es k
 |[],n,k,f=>by
  split <;> rfl
 |p::r,n,k,f=>by
  have m:=B4 r n k f;unfold bQ at m⊢;rw[map_cons,find?_cons,find?_cons,find?_cons];have o:(if p.1=n then (p.1,f) else p).1=p.1:=by split <;> rfl
  rw[o];by_cases g:p.1=k
  ·rw[decide_eq_true g];by_cases b:k=n
   ·subst b;rw[if_pos g,if_pos rfl,decide_eq_true g];rfl
   ·rw[if_neg (λz=>b (g.symm.trans z)),if_neg b]
  ·rw[decide_eq_false g];by_cases b:k=n
   ·subst b;rw[if_pos rfl,decide_eq_false g];rw[if_pos rfl]at m;exact m
   ·rw[if_neg b];rw[if_neg b]at m;exact m
theorem pJ(h:bQ es n=some e)(b:Ent)(k:Int):bQ (eR es n b) k=if k=n then some b else bQ es k:=by
 unfold eR;rw[if_pos (pM h),B4,h];rfl
theorem vN(es:Mq)(n k:Int):bQ (gJ es n) k=if k=n then none else bQ es k:=by
 unfold bQ gJ;rw[List.find?_filter];by_cases h:k=n
 ·subst h;rw[if_pos rfl,find?_eq_none.mpr λp _=>by simp];rfl
 ·rw[if_neg h];have b:(λa:Int×Ent=>decide (decide (a.1≠n)=true/\decide (a.1=k)=true))=λa=>decide (a.1=k):=by
   funext p;by_cases z:p.1=k
   ·rw[decide_eq_true z];exact decide_eq_true ⟨decide_eq_true (λy=>h (z.symm.trans y)),rfl⟩
   ·rw[decide_eq_false z];exact decide_eq_false (λy=>Bool.false_ne_true y.2)
  exact congrArg (λf=>Option.map (·.2) (es.find? f)) b
theorem CS(l:Int)(b:Mf)(t:Int)(g:n+1<=up):dS l ⟨es,up,[]⟩ [("carried",n,t::b)]=some ⟨eR es n (b,t,l),up,[]⟩:=by
 show (match dE ⟨es,up,[]⟩ "carried" n (t::b) l with |none=>none |some f=>some f)=_;have:dE ⟨es,up,[]⟩ "carried" n (t::b) l=some ⟨eR es n (b,t,l),up,[]⟩:=by
  unfold dE;rw[if_neg (by decide),if_neg (by decide),if_neg (λy=>y rfl),if_neg (by decide),if_neg (by decide),if_pos rfl];unfold Hr;rw[if_neg (show ¬n+1 > up by omega)];rfl
 rw[this]
theorem En(l:Int)(h:bQ es n=some e):dS l ⟨es,up,[]⟩ [("out",n,[])]=some ⟨eR es n (e.1,e.2.1+1,e.2.2),up,[]⟩:=by
 show (match dE ⟨es,up,[]⟩ "out" n [] l with |none=>none |some b=>some b)=_;have:dE ⟨es,up,[]⟩ "out" n [] l=some ⟨eR es n (e.1,e.2.1+1,e.2.2),up,[]⟩:=by
  unfold dE;rw[if_neg (by decide),if_neg (by decide),if_neg (λy=>y rfl),if_neg (by decide),if_neg (by decide),if_neg (by decide)];show (match bQ es n with |none=>_ |some e=>_)=_;rw[h];rfl
 rw[this]
theorem CQ(l:Int)(h:bQ es n=some e):dS l ⟨es,up,[]⟩ [("done",n,[])]=some ⟨gJ es n,up,[]⟩:=by
 show (match dE ⟨es,up,[]⟩ "done" n [] l with |none=>none |some b=>some b)=_;have:dE ⟨es,up,[]⟩ "done" n [] l=some ⟨gJ es n,up,[]⟩:=by
  unfold dE;rw[if_neg (by decide),if_neg (by decide),if_neg (λy=>y rfl),if_neg (by decide),if_neg (by decide),if_neg (by decide)];show (match bQ es n with |none=>_ |some e=>_)=_;rw[h];rfl
 rw[this]
end
structure EntOk(es:Mq)(up:Int)(c:Nat):Prop where
 up0:0<=up/\up<=9*(c:Int)
 so:(es.map (·.1)).Pairwise (· < ·)
 ent:∀k e,bQ es k=some e->0<=k/\k+1<=up/\0<=e.2.1/\e.2.1<=9/\dP e.1/\e.1.length<=60
 cnt:es.length<=9*c
structure Qi(q:Qs)(n c:Nat):Prop where
 sz:Sz q n
 pt:q.B.parts=[]
 eo:EntOk q.B.es q.B.up c
 hk:∀p∈q.hs,∃e,bQ q.B.es p.1=some e
 hn:(q.hs.map (·.1)).Nodup
 hl:q.hs.length<=c
 tr:1<=q.tries/\q.tries<=9
theorem EntOk.mono{b:Mq}{e:Int}{c f:Nat}(h:EntOk b e c)(g:c<=f):EntOk b e f:=⟨⟨h.up0.1,by have:=h.up0.2;omega⟩,h.so,h.ent,by have:=h.cnt;omega⟩
section
variable{q:Qs}{n c:Nat}
theorem Qi.mono(h:Qi q n c){b e:Nat}(g:n<=b)(f:c<=e):Qi q b e:=⟨⟨h.sz.left,h.sz.f0,Int.le_trans h.sz.top (by omega),h.sz.keys,h.sz.len,h.sz.m8,h.sz.m67⟩,h.pt,h.eo.mono f,h.hk,h.hn,le_trans h.hl f,h.tr⟩
theorem Qi.wok(h:Qi q n c)(b:n<=70000)(e:c<=50)(f:m<=50):WOk q m:=by
 have:=h.eo.cnt;have:=h.eo.up0;have g:q.B.parts.length=0:=by rw[h.pt];rfl
 exact h.sz.wok (by omega) h.eo.up0.1 (by omega)
theorem Qi.write(h:Qi q n c)(t:n<=70000)(u:c<=50){rs:Mr}(len:(cH rs).length<=700)(b:Bk)(f:Mt){c':Nat}(m:b.parts=[])(o:EntOk b.es b.up c')(r:∀p∈f,∃e,bQ b.es p.1=some e)(g:(f.map (·.1)).Nodup)(s:f.length<=c'):Qi {nL (a8 q) (cH rs) b with hs:=f} (n+1) c':=by
 have:=h.eo.cnt;have:=h.eo.up0;have x:q.B.parts.length=0:=by rw[h.pt];rfl
 refine⟨(h.sz.step (by omega) h.eo.up0.1 (by omega) (by omega) len b f).1,m,o,r,g,s,?_⟩;have:=(cU q).2.2.1;show 1<=(a8 q).tries/\(a8 q).tries<=9;rw[this];exact h.tr
theorem Qi.bk(h:Qi q n c):(a8 q).B=⟨q.B.es,q.B.up,[]⟩:=by
 rw[(cU q).2.2.2,<- h.pt]
theorem mM(h:EntOk b g c):∀p∈b,p.1<g:=λp m=>by
 obtain⟨e,o⟩:=hW (mem_map_of_mem (f:=(·.1)) m);have:=(h.ent _ e o).2.1;omega
theorem yK(e:Ent)(h:∀p∈b,p.1<m)(k:Int):bQ (b++[(m,e)]) k=if k=m then some e else bQ b k:=by
 unfold bQ;rw[List.find?_append];by_cases z:k=m
 ·subst z;have f:b.find? (λp=>decide (p.1=k))=none:=by
   rw[find?_eq_none];intro p g y;have:=h p g;have:=of_decide_eq_true y;omega
  rw[f,if_pos rfl,find?_cons,decide_eq_true rfl];rfl
 ·rw[if_neg z,find?_cons,decide_eq_false (λy=>z y.symm)];cases b.find? (λp=>decide (p.1=k)) <;> rfl
theorem B6(h:EntOk m f c)(g:dP b)(bl:b.length<=60)(d:Nat)(o:f+1<=9*(d:Int))(r:m.length+1<=9*d):EntOk (m++[(f,(b,0,s))]) (f+1) d:=by
 refine⟨⟨by have:=h.up0.1;omega,o⟩,?_,λk e y=>?_,by rw[length_append];exact r⟩
 ·rw[map_append,List.pairwise_append];refine⟨h.so,List.pairwise_singleton _ _,λx t y u=>?_⟩;rw[mem_singleton.mp u];obtain⟨p,B,rfl⟩:=mem_map.mp t;exact mM h p B
 ·rw[yK _ (mM h)]at y;split at y
  ·cases y;rename_i z;have:=h.up0.1;exact⟨by omega,by omega,Int.le_refl _,by show (0:Int)<=9;decide,g,bl⟩
  ·obtain⟨D,G,E⟩:=h.ent k e y;exact⟨D,by omega,E⟩
theorem EZ{b:Mq}{m:Int}{e:Ent}(g:∀p∈b,p.1<m){f:Mt}(h:∀p∈f,∃e,bQ b p.1=some e):∀p∈f,∃o,bQ (b++[(m,e)]) p.1=some o:=λp r=>by
 obtain⟨s,t⟩:=h p r;rw[yK _ g];split
 ·exact⟨_,rfl⟩
 ·exact⟨s,t⟩
theorem Qi.put(h:Qi q n c)(g:n<=70000)(m:c<=49){b:Mf}(e:dP b)(bl:b.length<=60):∃f,dS (a8 q).last (a8 q).B [("put",q.B.up,b)]=some f/\Qi (putQ q b f) (n+1) (c+1):=by
 have u:=h.eo.up0;have o:=h.eo.cnt;refine⟨⟨q.B.es++[(q.B.up,(b,0,(a8 q).last))],q.B.up+1,[]⟩,?_,?_⟩
 ·rw[h.bk];exact Eb (B:=⟨q.B.es,q.B.up,[]⟩) _ b rfl (mM h.eo) rfl
 ·have:=h.write (c':=c+1) g (by omega) (rs:=[("put",q.B.up,b)]) (by rw[iU,length_append,eI];show 7+b.length+0<=700;omega) ⟨q.B.es++[(q.B.up,(b,0,(a8 q).last))],q.B.up+1,[]⟩ (a8 q).hs rfl (B6 h.eo e bl (c+1) (by omega) (by omega)) ?_ ?_ ?_
  ·exact this
  ·rw[(cU q).2.1];exact EZ (mM h.eo) h.hk
  ·rw[(cU q).2.1];exact h.hn
  ·rw[(cU q).2.1];exact le_succ_of_le h.hl
def wX(s:Int):Mq->Int->Md->Mq
 |e,_,[]=>e
 |e,f,b::r=>wX s (e++[(f,(b,0,s))]) (f+1) r
def jN(e:Int):Md->List (Int×Mf)
 |[]=>[]
 |b::r=>(e,b)::jN (e+1) r
theorem Fa(b:Int)(n:Nat):pH b (n+1)=b::pH (b+1) n:=by
 unfold pH;rw[range_succ_eq_map,map_cons,map_map];show (b+((0:Nat):Int))::_=_;rw[show b+((0:Nat):Int)=b by omega];congr 1;apply map_congr_left;intro k _;show b+((k+1:Nat):Int)=_;omega
theorem r8(f:Int)(b:Mf)(e:Md):i4 f (b::e)=(("part",f,b):Rw)::i4 (f+1) e:=by
 unfold i4;rw[length_cons,range_succ_eq_map,map_cons,map_map];congr 1
 ·simp
 ·apply map_congr_left;intro x _;show (("part",f+((x+1:Nat):Int),(b::e).getD (x+1) []):Rw)=(("part",f+1+(x:Int),e.getD x []):Rw);rw[show f+((x+1:Nat):Int)=f+1+(x:Int) by omega];rfl
theorem sA:∀(f:Int)(e:Md),(jN f e).map (·.1)=pH f e.length
 |f,[]=>rfl
 |f,b::e=>by
  show f::(jN (f+1) e).map (·.1)=pH f (e.length+1);rw[sA (f+1) e,Fa]
theorem vW(e:Int)(o:Mq)(p:Int)(rest:Mr):∀(g:Int)(f:Md)(m:List (Int×Mf)),dS e ⟨o,p,m⟩ (i4 g f++rest)=dS e ⟨o,p,m++jN g f⟩ rest
 |g,[],m=>by
  show dS e ⟨o,p,m⟩ rest=dS e ⟨o,p,m++[]⟩ rest;rw[append_nil]
 |g,b::f,m=>by
  rw[r8];show dS e ⟨o,p,m++[(g,b)]⟩ (i4 (g+1) f++rest)=dS e ⟨o,p,m++(g,b)::jN (g+1) f⟩ rest;rw[vW e o p rest (g+1) f,append_assoc];rfl
theorem BO(s:Int):∀(f:Md)(g:Mq)(e:Int),(∀p∈g,p.1<e)->sK s ⟨g,e,[]⟩ (jN e f)=some ⟨wX s g e f,e+(f.length:Int),[]⟩
 |[],g,e,_=>by
  show some _=some _;rw[show e+(([]:Md).length:Int)=e from Int.add_zero e];rfl
 |b::f,g,e,h=>by
  have o:mD ⟨g,e,[]⟩ e b s=some ⟨g++[(e,(b,0,s))],e+1,[]⟩:=by
   unfold mD;rw[if_neg (by show ¬e<e;omega),EF _ h]
  show (match mD ⟨g,e,[]⟩ e b s with |none=>none |some r=>sK s r (jN (e+1) f))=_;rw[o]
  try dsimp only
  rw[BO s f _ _ (λp m=>by
   rw[mem_append,mem_singleton]at m;rcases m with m |rfl
   ·have:=h p m;omega
   ·show e<e+1;omega)]
  rw[length_cons,show e+1+(f.length:Int)=e+((f.length+1:Nat):Int) by omega];rfl
theorem B3(s:Int)(h:∀p∈f,p.1<e):dS s ⟨f,e,[]⟩ (kN e b)=some ⟨wX s f e b,e+(b.length:Int),[]⟩:=by
 unfold kN;rw[vW,List.nil_append];show (match dE ⟨f,e,jN e b⟩ "deal" e [(b.length:Int)] s with |none=>none |some g=>some g)=_;have:dE ⟨f,e,jN e b⟩ "deal" e [(b.length:Int)] s=some ⟨wX s f e b,e+(b.length:Int),[]⟩:=by
  unfold dE;rw[if_neg (by decide),if_pos rfl];unfold y8;rw[if_pos (by
   show (jN e b).map (·.1)=(List.range ((b.length:Int)).toNat).map _;rw[sA,Int.toNat_natCast];rfl)]
  exact BO s b f e h
 rw[this]
theorem Ed(s:Int){d:Nat}:∀(f:Md)(m:Mq)(g:Int)(o:Mt),EntOk m g d->(∀b∈f,dP b/\b.length<=60)->g+(f.length:Int)<=9*(d:Int)->m.length+f.length<=9*d->(∀p∈o,∃e,bQ m p.1=some e)->
  EntOk (wX s m g f) (g+(f.length:Int)) d/\∀p∈o,∃e,bQ (wX s m g f) p.1=some e
 |[],m,g,o,h,_,_,_,u=>⟨by rw[show g+(([]:Md).length:Int)=g from Int.add_zero g];exact h,u⟩
 |b::f,m,g,o,h,y,z,B,u=>by
  rw[length_cons]at z B;have t:=y b mem_cons_self;have D:=B6 h (s:=s) t.1 t.2 d (by omega) (by omega);have r:=Ed s f _ _ o D (λx E=>y x (mem_cons_of_mem _ E)) (by omega) (by rw[length_append];show m.length+1+f.length<=_;omega) (EZ (mM h) u);rw[length_cons,show g+((f.length+1:Nat):Int)=g+1+(f.length:Int) by omega];exact r
theorem E8(a b:Mr):cH (a++b)=cH a++cH b:=by
 unfold cH;rw[map_append,List.flatten_append]
theorem yF:∀(e:Md)(f:Int),(∀b∈e,b.length<=60)->(cH (i4 f e)).length<=67*e.length
 |[],f,_=>le_refl _
 |b::e,f,h=>by
  rw[r8,iU,length_append,eI,length_cons];have:=yF e (f+1) (λx g=>h x (mem_cons_of_mem _ g));have:=h b mem_cons_self;show 7+b.length+_<=_;omega
theorem Qi.all(h:Qi q n c)(o:n<=70000)(s:c<=49)(t:e.length<=9)(g:∀b∈e,dP b/\b.length<=60):∃m,dS (a8 q).last (a8 q).B (kN q.B.up e)=some m/\Qi (allQ q e m) (n+1) (c+1):=by
 have u:=h.eo.up0;have x:=h.eo.cnt;obtain⟨p,r⟩:=Ed (a8 q).last (d:=c+1) e q.B.es q.B.up q.hs (h.eo.mono (by omega)) g (by omega) (by omega) h.hk;refine⟨⟨wX (a8 q).last q.B.es q.B.up e,q.B.up+(e.length:Int),[]⟩,?_,?_⟩
 ·rw[h.bk];exact B3 _ (mM h.eo)
 ·have:=h.write (c':=c+1) o (by omega) (rs:=kN q.B.up e) ?_ ⟨wX (a8 q).last q.B.es q.B.up e,q.B.up+(e.length:Int),[]⟩ (a8 q).hs rfl p ?_ ?_ ?_
  ·exact this
  ·unfold kN;rw[E8,length_append];have:=yF e q.B.up λb f=>(g b f).2;have:(cH ([("deal",q.B.up,[(e.length:Int)])]:Mr)).length=8:=by rw[iU,length_append,eI];rfl
   omega
  ·rw[(cU q).2.1];exact r
  ·rw[(cU q).2.1];exact h.hn
  ·rw[(cU q).2.1];exact le_succ_of_le h.hl
theorem Af{f:Mq}{g:Int}{d:Nat}(h:EntOk f g d){k:Int}{e e':Ent}(b:bQ f k=some e)(o:e'.1=e.1)(p:0<=e'.2.1)(r:e'.2.1<=9):EntOk (eR f k e') g d:=by
 refine⟨h.up0,by rw[u9 b];exact h.so,λm em y=>?_,?_⟩
 ·rw[pJ b]at y;split at y
  ·cases y;rename_i z;subst z;obtain⟨s,t,B,D,u,x⟩:=h.ent _ e b;exact⟨s,t,p,r,by rw[o];exact u,by rw[o];exact x⟩
  ·exact h.ent m em y
 ·have:=congrArg List.length (u9 b e');rw[length_map,length_map]at this;rw[this];exact h.cnt
theorem DO{b:Mq}{k:Int}{e m:Ent}(o:bQ b k=some e){g:Mt}(h:∀p∈g,∃e,bQ b p.1=some e):∀p∈g,∃f,bQ (eR b k m) p.1=some f:=λp r=>by
 obtain⟨s,t⟩:=h p r;rw[pJ o];split
 ·exact⟨_,rfl⟩
 ·exact⟨s,t⟩
theorem wI(k:Str)(m:Int):(cH [(k,m,[])]).length<=700:=by
 rw[Ih];decide
theorem Qi.out(h:Qi q n c)(s:n<=70000)(D:c<=49){k:Int}{e:Ent}(f:bQ q.B.es k=some e)(E:e.2.1<q.tries)(t:bY q.hs k=none)(x:Str):∃m,dS (a8 q).last (a8 q).B [("out",k,[])]=some m/\m.es=eR q.B.es k (e.1,e.2.1+1,e.2.2)/\Qi (outQ q k x m) (n+1) (c+1):=by
 obtain⟨_,_,G,_⟩:=h.eo.ent k e f;have H:=h.tr;refine⟨_,by rw[h.bk];exact En _ f,rfl,?_⟩;have u:=Af (e':=(e.1,e.2.1+1,e.2.2)) (h.eo.mono (show c<=c+1 by omega)) f rfl (by show 0<=e.2.1+1;omega) (by show e.2.1+1<=9;omega);refine h.write s (by omega) (wI _ _) ⟨_,_,[]⟩ (q.hs++[(k,(x,q.now))]) rfl u (λp g=>?_) ?_ ?_
 ·rw[mem_append,mem_singleton]at g;rcases g with g |rfl
  ·exact DO f h.hk p g
  ·exact⟨_,by rw[pJ f,if_pos rfl]⟩
 ·rw[map_append,nodup_append];refine⟨h.hn,by simp,λa B b o=>?_⟩;have o:b∈[k]:=o;rw[mem_singleton.mp o];intro z;subst z;obtain⟨y,J,r⟩:=mJ B;rw[t]at r;cases r
 ·rw[length_append];have:=h.hl;show q.hs.length+1<=_;omega
theorem Eo{b:Mq}{n f:Int}{e:Ent}(l:Int)(h:bQ b n=some e):dS l ⟨b,f,[]⟩ [("new",n,[])]=some ⟨eR b n (e.1,0,e.2.2),f,[]⟩:=by
 show (match dE ⟨b,f,[]⟩ "new" n [] l with |none=>none |some g=>some g)=_;have:dE ⟨b,f,[]⟩ "new" n [] l=some ⟨eR b n (e.1,0,e.2.2),f,[]⟩:=by
  unfold dE;rw[if_neg (by decide),if_neg (by decide),if_neg (λy=>y rfl),if_neg (by decide),if_neg (by decide),if_neg (by decide)];show (match bQ b n with |none=>_ |some e=>_)=_;rw[h];rfl
 rw[this]
theorem Qi.new(h:Qi q n c)(g:n<=70000)(o:c<=49){k:Int}{e:Ent}(b:bQ q.B.es k=some e):∃f,dS (a8 q).last (a8 q).B [("new",k,[])]=some f/\Qi (newQ q k f) (n+1) (c+1):=by
 refine⟨_,by rw[h.bk];exact Eo _ b,?_⟩;have m:=Af (e':=(e.1,0,e.2.2)) (h.eo.mono (show c<=c+1 by omega)) b rfl (Int.le_refl _) (by show (0:Int)<=9;decide);refine h.write g (by omega) (wI _ _) ⟨_,_,[]⟩ (a8 q).hs rfl m ?_ ?_ ?_
 ·rw[(cU q).2.1];exact DO b h.hk
 ·rw[(cU q).2.1];exact h.hn
 ·rw[(cU q).2.1];exact le_succ_of_le h.hl
theorem IX(h:p∈dropH b k):p∈b/\p.1≠k:=by
 obtain⟨e,f⟩:=mem_filter.mp h;exact⟨e,of_decide_eq_true f⟩
theorem Ee{b:Mt}(P:Int×(Str×Int)->Bool)(h:(b.map (·.1)).Nodup):((b.filter P).map (·.1)).Nodup:=h.sublist (List.filter_sublist.map _)
theorem Qi.done(h:Qi q n c)(f:n<=70000)(z:c<=49){k:Int}{e:Ent}(g:bQ q.B.es k=some e):∃b,dS (a8 q).last (a8 q).B [("done",k,[])]=some b/\Qi (Kt q k b) (n+1) (c+1):=by
 refine⟨_,by rw[h.bk];exact CQ _ g,?_⟩;have o:EntOk (gJ q.B.es k) q.B.up (c+1):=by
  refine(EntOk.mono ⟨h.eo.up0,?_,λm em y=>?_,?_⟩ (show c<=c+1 by omega))
  ·unfold gJ;exact h.eo.so.sublist (List.filter_sublist.map _)
  ·rw[vN]at y;split at y
   ·cases y
   ·exact h.eo.ent m em y
  ·exact le_trans (length_filter_le _ _) h.eo.cnt
 refine h.write f (by omega) (wI _ _) ⟨_,_,[]⟩ (dropH q.hs k) rfl o (λp r=>?_) (Ee _ h.hn) ?_
 ·obtain⟨s,t⟩:=IX r;obtain⟨u,x⟩:=h.hk p s;exact⟨u,by rw[vN,if_neg t];exact x⟩
 ·exact le_trans (length_filter_le _ _) (le_succ_of_le h.hl)
theorem Qi.held(h:Qi q n c)(P:Int×(Str×Int)->Bool)(b:Int):Qi {q with now:=b,hs:=q.hs.filter P} n (c+1):=
 ⟨⟨h.sz.left,h.sz.f0,h.sz.top,h.sz.keys,h.sz.len,h.sz.m8,h.sz.m67⟩,h.pt,h.eo.mono (by omega),λp e=>h.hk p (mem_filter.mp e).1,Ee _ h.hn,le_trans (length_filter_le _ _) (le_succ_of_le h.hl),h.tr⟩
theorem Qi.drop(h:Qi q n c)(m:n<=70000)(e:q.first<q.last):q.D.left=none/\e7 q.first/\(∃f,aT q.D.fs (bO q.first)=some f)/\Qi (B9 q) n c:=by
 obtain⟨a,b,g,d⟩:=h.sz.drop (by omega) e;exact⟨a,b,g,⟨d,h.pt,h.eo,h.hk,h.hn,h.hl,h.tr⟩⟩
theorem MO{n t:Int}{b:Mf}(f:0<=n)(g:n<=999999)(u:0<=t)(m:t<=9)(o:dP b)(y:b.length<=60):bS (cI ("carried",n,t::b))=true:=by
 show (dM.contains "carried" && (bM 0 999999 (.int n) && (dR (.tuple ((t::b).map .int)) && fG "carried" (bX (.tuple ((t::b).map .int))))))=true;have p:bM 0 999999 (.int n)=true:=by
  simp only[bM,and_eq_true,decide_eq_true_eq];exact⟨f,g⟩
 have r:dR (.tuple ((t::b).map .int))=true:=tO (ns:=t::b) (λx e=>by
  rcases mem_cons.mp e with rfl |e
  ·omega
  ·exact o x e)
 have s:fG "carried" (t::b)=true:=by
  unfold fG;rw[if_neg (by decide),if_pos rfl];rw[decide_eq_true (show 1<=(t::b).length by rw[length_cons];omega),decide_eq_true (show (t::b).length<=61 by rw[length_cons];omega),decide_eq_true (show (t::b).headD 0<=9 from m)];rfl
 rw[p,r,gG,s];decide +kernel
theorem DE(q:Qs):(a8 q).first=q.first/\q.last<=(a8 q).last:=by
 unfold a8;split
 ·exact⟨rfl,by show q.last<=q.last+1;omega⟩
 ·exact⟨rfl,Int.le_refl _⟩
theorem Qi.car(h:Qi q n c)(f:n<=70000)(y:c<=49){k:Int}{e:Ent}(b:bQ q.B.es k=some e):bS (cI (sV k e))=true/\WOk q 1/\dS (a8 q).last (a8 q).B [sV k e]=some ⟨eR q.B.es k (e.1,e.2.1,(a8 q).last),q.B.up,[]⟩/\Qi (nL (a8 q) (cH [sV k e]) ⟨eR q.B.es k (e.1,e.2.1,(a8 q).last),q.B.up,[]⟩) (n+1) c:=by
 obtain⟨o,p,g,m,r,s⟩:=h.eo.ent k e b;have u:=h.eo.up0;have t:sV k e=(("carried",k,e.2.1::e.1):Rw):=by
  unfold sV;rw[if_neg (show ¬(9:Int)<e.2.1 by omega)]
 rw[t];refine⟨MO o (by omega) g m r s,h.wok f (by omega) (by omega),by rw[h.bk];exact CS _ _ _ p,?_⟩;have x:=Af (e':=(e.1,e.2.1,(a8 q).last)) h.eo b rfl g m;refine h.write f (by omega) (rs:=[("carried",k,e.2.1::e.1)]) (by rw[iU,length_append,eI];show 7+(e.1.length+1)+0<=700;omega) ⟨_,_,[]⟩ (a8 q).hs rfl x ?_ ?_ ?_
 ·rw[(cU q).2.1];exact DO b h.hk
 ·rw[(cU q).2.1];exact h.hn
 ·rw[(cU q).2.1];exact h.hl
theorem Qi.first(b:1<=m)(f:m<=2000)(g:1<=t)(o:t<=9):Qi (nP m h t d) 0 0:=by
 unfold nP;refine⟨⟨rfl,Int.le_refl _,Int.le_refl _,⟨0,rfl,rfl⟩,λx r e=>?_,b,f⟩,rfl,⟨⟨Int.le_refl _,Int.le_refl _⟩,List.Pairwise.nil,(λk e y=>by cases y),le_refl _⟩,(λp s=>by cases s),List.nodup_nil,le_refl _,g,o⟩;have e:aT [(bO 0,yT)] x=some r:=e;unfold aT at e;rw[find?_cons]at e;split at e
 ·cases e;show ((yT.length:Nat):Int)<=m+706;have:yT.length=7:=by decide +kernel
  omega
 ·cases e
end
abbrev La:=List (Int×(Mf×Int))
structure Ab where
 ls:La
 up:Int
 hs:Mt
 now:Int
def bare(p:Int×Ent):Int×(Mf×Int):=(p.1,(p.2.1,p.2.2.1))
def fW(q:Qs):Ab:=⟨q.B.es.map bare,q.B.up,q.hs,q.now⟩
def gF(b:La)(n:Int):Option (Mf×Int):=(b.find? λp=>decide (p.1=n)).map (·.2)
def setL(b:La)(n:Int)(e:Mf×Int):La:=b.map λp=>if p.1=n then (p.1,e) else p
def dropL(b:La)(n:Int):La:=b.filter λp=>decide (p.1≠n)
def Im(e:Int):Md->La
 |[]=>[]
 |b::f=>(e,(b,0))::Im (e+1) f
def Dr(l:Mf):Mf:=l.mergeSort λa b=>decide (a<=b)
def mF(a:Ab)(t:Int->Bool):Mf:=((a.ls.map (·.1)).filter (kG a.hs)).filter λn=>t ((gF a.ls n).getD ([],0)).2
def ES(b:Int)(a:Ab)(m:Int):Mf:=(Dr (a.hs.map (·.1))).filter λn=>decide (a.now+m-((bY a.hs n).getD ("",0)).2 > b)
def lD(f e:Int)(a:Ab):mQ->Ab
 | .put b=>{a with ls:=a.ls++[(a.up,(b,0))],up:=a.up+1}
 | .all o=>{a with ls:=a.ls++Im a.up o,up:=a.up+(o.length:Int)}
 | .take x=>match mF a λt=>decide (t<e) with
  |[]=>a
  |m::_=>{a with ls:=setL a.ls m (((gF a.ls m).getD ([],0)).1,((gF a.ls m).getD ([],0)).2+1),hs:=a.hs++[(m,(x,a.now))] }
 | .done x m=>if ((bY a.hs m).map (·.1))=some x then {a with ls:=dropL a.ls m,hs:=a.hs.filter λp=>decide (p.1≠m)} else a
 | .back x m=>if ((bY a.hs m).map (·.1))=some x then {a with hs:=a.hs.filter λp=>decide (p.1≠m)} else a
 | .wait m=>{a with now:=a.now+m,hs:=a.hs.filter λp=>decide (p.1∉ES f a m)}
 | .new m=>if m∈mF a (λt=>decide (t ≥ e)) then {a with ls:=setL a.ls m (((gF a.ls m).getD ([],0)).1,0)} else a
 | .sweep=>a
 | .carry=>a
theorem Ck(l:Mf):List.Perm (Dr l) l:=List.mergeSort_perm l _
theorem Ge(l:Mf):(Dr l).Pairwise (· <= ·):=by
 have h:=List.pairwise_mergeSort (le:=λa b:Int=>decide (a<=b)) (λa b c e f=>by simp only[decide_eq_true_eq]at *;omega) (λa b=>by simp only[Bool.or_eq_true,decide_eq_true_eq];omega) l;exact h.imp λh=>of_decide_eq_true h
theorem uO(p:List.Perm b l)(h:b.Pairwise (· <= ·)):b=Dr l:=eQ (p.trans (Ck l).symm) h (Ge l)
section
variable{es:Mq}
theorem GC(es:Mq):(es.map bare).map (·.1)=es.map (·.1):=by
 rw[map_map];rfl
theorem rD(es:Mq)(n:Int):gF (es.map bare) n=(bQ es n).map λe=>(e.1,e.2.1):=by
 unfold gF bQ;rw[List.find?_map,Option.map_map,Option.map_map];rfl
theorem Cb(es:Mq)(n:Int):eV es n=((gF (es.map bare) n).getD ([],0)).2:=by
 rw[rD];unfold eV;cases bQ es n <;> rfl
theorem BQ(h:bQ es n=some e)(b:Ent):(eR es n b).map bare=setL (es.map bare) n (b.1,b.2.1):=by
 unfold eR setL;rw[if_pos (pM h),map_map,map_map];refine map_congr_left λp _=>?_;show bare (if p.1=n then _ else _)=if (bare p).1=n then _ else _
 by_cases z:p.1=n
 ·rw[if_pos z,if_pos (show (bare p).1=n from z)];rfl
 ·rw[if_neg z,if_neg (show ¬(bare p).1=n from z)]
theorem F5(es:Mq)(n:Int):(gJ es n).map bare=dropL (es.map bare) n:=by
 unfold gJ dropL;rw[filter_map];rfl
theorem m5(q:Qs)(t:Int->Int->Bool):(((q.B.es.map (·.1)).filter (kG q.hs)).filter λn=>t (eV q.B.es n) q.tries)=mF (fW q) λx=>t x q.tries:=by
 unfold mF fW
 try dsimp only
 rw[GC];congr 1;funext n;rw[Cb]
theorem CT(s:Int):∀(f:Md)(es:Mq)(e:Int),(wX s es e f).map bare=es.map bare++Im e f
 |[],es,e=>(append_nil _).symm
 |b::g,es,e=>by
  show (wX s (es++[(e,(b,0,s))]) (e+1) g).map bare=_;rw[CT s g _ (e+1),map_append,append_assoc];rfl
end
theorem Step.keepS(st:Step L m n p)(S:aG f n)(g:∀b,gT L b->f b=none):aG f p/\∀b,gT m b->f b=none:=by
 refine⟨λb o e=>st.frm b o (S b o e) (λz=>by rw[g b z]at e;cases e),λb q=>?_⟩;rcases st.grow b q with z |z
 ·exact g b z
 ·exact S.free z
theorem QueueW.keep(h:QueueW A H L q m)(s:∀b o,H b=some o->gT L b->g b=some o)(t:fX H g):QueueW A g L q m:=by
 obtain⟨n,p⟩:=h.self;obtain⟨r,u,x⟩:=h.held;exact⟨⟨n,s _ _ p (.inl rfl)⟩,h.disk.keep λb o e f=>s b o e (.inr (.inr (.inr f))),h.book.keep (λb o e f=>s b o e (.inr (.inr (.inl f)))) t,⟨r,s _ _ u (.inr (.inl rfl)),x.t t⟩,h.a_bd,h.a_qu,h.a_hd⟩
structure Kc(A:Ad)(H:Hp)(L0 D0:Addr)(H1:Hp)(L:Pl)(q:Qs):Prop where
 same:aG H H1
 qu:L.qu=L0
 dk:L.dk=D0
 fr:∀b,gT L b->H b=none
 qw:QueueW A H1 L q false
def Off(H:Hp)(L:Pl)(a:Addr):Prop:=H a=none/\¬gT L a
section
variable{A:Ad}{H H1 H2:Hp}{L0 D0:Addr}{L L':Pl}{q q':Qs}{n:Nat}{Q:V->Hp->Prop}{E:XK}
theorem Kc.sames(k:Kc A H L0 D0 H1 L q)(s:aG H1 H2):Kc A H L0 D0 H2 L q:=⟨k.same.trans s,k.qu,k.dk,k.fr,k.qw.same s⟩
theorem Kc.step(k:Kc A H L0 D0 H1 L q)(st:Step L L' H1 H2)(b:QueueW A H2 L' q' false):Kc A H L0 D0 H2 L' q':=by
 obtain⟨s,f⟩:=st.keepS k.same k.fr;exact⟨s,st.qu.trans k.qu,st.dk.trans k.dk,f,b⟩
theorem Off.step(f:Off H L a)(st:Step L L' H1 H2)(b:H1 a=some o):Off H L' a/\H2 a=some o:=⟨⟨f.1,st.not b f.2⟩,st.frm _ _ b f.2⟩
theorem Kc.off(k:Kc A H L0 D0 H1 L q)(b:H1 a=none):Off H L a:=⟨k.same.free b,λz=>by
 obtain⟨o,e⟩:=fT k.qw z;rw[e]at b;cases b⟩
theorem Kc.self(k:Kc A H L0 D0 H1 L q):∃b,H1 L0=some (.ins A.queue b (quF L q false)):=by
 obtain⟨b,h⟩:=k.qw.self;rw[k.qu]at h;exact⟨b,h⟩
theorem Kc.disk(k:Kc A H L0 D0 H1 L q):DiskAt A.disk H1 D0 L.df L.kvs q.D:=by
 have:=k.qw.disk;rw[k.dk]at this;exact this
end
def MY(S:Addr->Prop)(H e:Hp):Prop:=∀b o,H b=some o->¬S b->e b=some o
theorem MY.tup(s:MY S H g)(m:∀b,S b->∀f,H b≠some (.tup f)):fX H g:=λb f e=>s b _ e λz=>m b z f e
open Classical in
section
variable{A:Ad}{H H1 H2:Hp}{L0 D0:Addr}{L L':Pl}{q q':Qs}{n:Nat}{Q:V->Hp->Prop}{E:XK}
theorem Kc.buts(k:Kc A H L0 D0 H1 L q)(f:MY S H1 H2)(off:∀b,S b->Off H L b)(g:∀b,S b->∀m,H1 b≠some (.tup m)):Kc A H L0 D0 H2 L q:=
 ⟨λb o e=>f b o (k.same b o e) (λz=>by rw[(off b z).1]at e;cases e),k.qu,k.dk,k.fr,k.qw.keep (λb o e p=>f b o e λz=>(off b z).2 p) (f.tup g)⟩
end
def Aq:mQ->Prop
 | .put b=>dP b/\b.length<=60
 | .all e=>1<=e.length/\e.length<=9/\∀b∈e,dP b/\b.length<=60
 | .take x=>gU x
 | .done x n=>gU x/\0<=n/\n<=999999
 | .back x n=>gU x/\0<=n/\n<=999999
 | .wait m=>1<=m/\m<=99
 | .new n=>0<=n/\n<=999999
 | .sweep=>True
 | .carry=>True
def Io(q b:Qs):Prop:=b.tries=q.tries/\b.hold=q.hold/\b.most=q.most
def DoR(q:Qs)(d:mQ)(b:Qs):Prop:=Io q b/\fW b=lD q.hold q.tries (fW q) d
theorem kE(q:Qs):(a8 q).tries=q.tries/\(a8 q).hold=q.hold/\(a8 q).most=q.most:=by
 unfold a8;split <;> exact⟨rfl,rfl,rfl⟩
theorem Ep(q:Qs)(f:Mf)(b:Bk)(e:Mt):fW {nL (a8 q) f b with hs:=e}=⟨b.es.map bare,b.up,e,q.now⟩:=by
 show Ab.mk _ _ _ (a8 q).now=_;rw[(cU q).1];rfl
theorem qF(q:Qs)(e:Mf)(b:Bk):fW (nL (a8 q) e b)=⟨b.es.map bare,b.up,q.hs,q.now⟩:=by
 show Ab.mk _ _ (a8 q).hs (a8 q).now=_;rw[(cU q).1,(cU q).2.1];rfl
theorem rC(z:Qi q n c)(h:bY q.hs k=some o):∃e,bQ q.B.es k=some e:=by
 unfold bY at h;cases y:q.hs.find? λp=>decide (p.1=k) with
 |none=>
  rw[y]at h;cases h
 |some p=>
  have f:=List.mem_of_find?_eq_some y;have b:=List.find?_some (p:=λp:Int×(Str×Int)=>decide (p.1=k)) y;have b:p.1=k:=of_decide_eq_true b;rw[<- b];exact z.hk p f
theorem By{b:Mt}{m e:Int}{x:Str}(h:bY b m=some (x,e)):(bY b m).map (·.1)=some x:=by rw[h];rfl
theorem Ea{b:Mt}{m:Int}{x:Str}(h:∀f,bY b m≠some (x,f)):¬(bY b m).map (·.1)=some x:=by
 intro e;cases y:bY b m with
 |none=>rw[y]at e;cases e
 |some p=>
  rw[y]at e;injection e with e
  exact h p.2 (by rw[y,<- e])
theorem DF{o : Type}:∀{g:List (Int×o)}{p r:Int×o},(g.map (·.1)).Nodup->p∈g->r∈g->p.1=r.1->p=r
 |[],_,_,_,n,_,_=>by cases n
 |x::g,p,r,m,n,hr,e=>by
  rw[map_cons,nodup_cons]at m;rcases mem_cons.mp n with f |f
  ·rcases mem_cons.mp hr with b |b
   ·rw[f,b]
   ·exact absurd (by rw[<- f,e];exact mem_map_of_mem b) m.1
  ·rcases mem_cons.mp hr with b |b
   ·exact absurd (by rw[<- b,<- e];exact mem_map_of_mem f) m.1
   ·exact DF m.2 f b e
theorem Gh{f:Mq}(g:(f.map (·.1)).Pairwise (· < ·)){n s:Int}{e:Ent}(h:bQ f n=some e):(eR f n (e.1,e.2.1,s)).map bare=f.map bare:=by
 unfold eR;rw[if_pos (pM h),map_map];refine map_congr_left λp m=>?_;show bare (if p.1=n then _ else _)=bare p;by_cases y:p.1=n
 ·have o:p.2=e:=by
   have q:=vM h;have r:(f.map (·.1)).Nodup:=g.imp λa b=>by omega
   exact congrArg Prod.snd (DF r m q y)
  rw[if_pos y];unfold bare;rw[o]
 ·rw[if_neg y]
theorem Fe(h:m∈qV q ms):m∈ms/\bY q.hs m=none/\eV q.B.es m<q.tries:=by
 obtain⟨b,e⟩:=mem_filter.mp h;obtain⟨f,g⟩:=mem_filter.mp b;exact⟨f,Option.isNone_iff_eq_none.mp g,of_decide_eq_true e⟩
section
variable{A:Ad}{H H1:Hp}{L0 D0:Addr}{L:Pl}{q:Qs}{n c:Nat}{Q:V->Hp->Prop}{E:XK}
theorem Es(k:Kc A H L0 D0 H1 L q)(z:Qi q n c)(t:n<=60000)(u:c<=48)(go:∀v f b H2,Step L f H1 H2->Kc A H L0 D0 H2 f b->Qi b (n+500) c->Io q b/\fW b=fW q->Q v H2):iR A [.ref L0] H1 Q E:=by
 have x:=z.eo.cnt;have y:(q.B.es.map (·.1)).Pairwise (· <= ·):=z.eo.so.imp Int.le_of_lt;rw[<- k.qu];refine⟨L,q,λb=>Qi b n c/\Io q b/\fW b=fW q,rfl,k.qw,⟨z,⟨rfl,rfl,rfl⟩,rfl⟩,λb e=>?_,λf b H2 st m e _=>?_⟩
 ·have g:=e.1;have:=g.eo.cnt;refine⟨⟨by omega,g.eo.so.imp Int.le_of_lt⟩,λlt _=>?_⟩;obtain⟨o,p,r,s⟩:=g.drop (by omega) lt;exact⟨o,p,r,s,e.2⟩
 ·exact go _ f _ H2 st (k.step st m) (e.1.mono (by omega) (le_refl _)) e.2
theorem Et(k:Kc A H L0 D0 H1 L q)(z:Qi q n c)(hn:n<=60000)(hc:c<=48)(go:∀v p f H2,Step L p H1 H2->Kc A H L0 D0 H2 p f->Qi f (n+500) c->Io q f/\fW f=fW q->Q v H2):iS A [.ref L0] H1 Q E:=by
 have cn:=z.eo.cnt;have G:(q.B.es.map (·.1)).Pairwise (· <= ·):=z.eo.so.imp Int.le_of_lt;rw[<- k.qu];have O:((q.B.es.map (·.1)).filter λn=>decide (sJ q.B.es n=q.first)).length<=9*c:=by
  have:=length_filter_le (λn=>decide (sJ q.B.es n=q.first)) (q.B.es.map (·.1));rw[length_map]at this;omega
 obtain⟨kk,ek,_⟩:=z.sz.keys;refine⟨L,q,λi f=>Qi f (n+i) c/\f.first=q.first/\q.last<=f.last/\f.B.es.map (·.1)=q.B.es.map (·.1)/\Io q f/\fW f=fW q,((q.B.es.map (·.1)).filter λn=>decide (sJ q.B.es n=q.first)),rfl,k.qw,⟨by omega,G⟩,λ_=>?_,λne=>⟨λR g S=>?_,⟨z,rfl,Int.le_refl _,rfl,⟨rfl,rfl,rfl⟩,rfl⟩,λi m f I ⟨r,J,N,t,o,u⟩=>?_,λf ⟨r,J,N,t,o,u⟩=>?_⟩⟩
 ·exact go _ L q H1 (aG.step (aG.refl _)) k (z.mono (by omega) (le_refl _)) ⟨⟨rfl,rfl,rfl⟩,rfl⟩
 ·have em:R=q.B.es.map (·.1):=eQ g S G;rw[em]
 ·obtain⟨U,_⟩:=List.getElem?_eq_some_iff.mp I;obtain⟨e,s⟩:=hW (es:=f.B.es) (n:=m) (by rw[t];exact(mem_filter.mp (mem_of_getElem? I)).1);obtain⟨x,B,V,D⟩:=r.car (by omega) (by omega) s;obtain⟨W,X⟩:=DE f;refine⟨e,_,s,x,B,V,D,W.trans J,Int.le_trans N X,?_,?_,?_⟩
  ·show (eR f.B.es m (e.1,e.2.1,(a8 f).last)).map (·.1)=_;rw[u9 s];exact t
  ·have y:=kE f;exact⟨y.1.trans o.1,y.2.1.trans o.2.1,y.2.2.trans o.2.2⟩
  ·refine(qF f _ _).trans (Eq.trans ?_ u);show Ab.mk ((eR f.B.es m (e.1,e.2.1,(a8 f).last)).map bare) _ _ _=fW f;rw[Gh r.eo.so s];rfl
 ·obtain⟨a,b,Y,D⟩:=r.drop (by omega) (by omega);exact⟨a,b,Y,λp H2 st Z=>go _ p _ H2 st (k.step st Z) (D.mono (by omega) (le_refl _)) ⟨o,u⟩⟩
theorem GL(k:Kc A H L0 D0 H1 L q)(z:Qi q n c)(hn:n<=60000)(hc:c<=48){d:mQ}(ok:Aq d){U:Mp}(g:aQ H1 (dC d) U)
  (go:∀v u X H2,Step L u H1 H2->Kc A H L0 D0 H2 u X->Qi X (n+500) (c+1)->DoR q d X->Q v H2) (E':XK) (hE:∀a D,a∈[A.notHeld,A.badNumber,A.badBody,A.badHand]->Q (.str "refused") D->E' (.ref a) none D):LM A d (.ref L0::U) H1 Q E':=by
 have cn:=z.eo.cnt;have up:=z.eo.up0;have hl:=z.hl;have so:(q.B.es.map (·.1)).Pairwise (· <= ·):=z.eo.so.imp Int.le_of_lt;rw[<- k.qu];have ref:∀{a:Addr},a∈[A.notHeld,A.badNumber,A.badBody,A.badHand]->lD q.hold q.tries (fW q) d=fW q->∀D,aG H1 D->E' (.ref a) none D:=λha nt D s=>hE _ D ha (go _ L q D (aG.step s) (k.sames s) (z.mono (by omega) (by omega)) ⟨⟨rfl,rfl,rfl⟩,nt.symm⟩);cases d with
 |put b=>
  obtain⟨G,bl⟩:=ok;simp only[dC,aQ]at g;obtain⟨vb,r,rfl,db,rfl⟩:=g;obtain⟨O,I,J⟩:=z.put (by omega) (by omega) G bl;have gd:i5 (.tuple (b.map .int))=true:=qU (k:="put") (n:=0) (.inl rfl) (by decide) (by decide) G bl;refine⟨L,q,vb,.tuple (b.map .int),rfl,k.qw,db,(λV e=>by injection e with e;rw[<- e,length_map];omega),(λy=>by rw[gd]at y;cases y),λW e Z hl=>?_⟩;have eb:W=b:=by
   have:=congrArg bX e;rw[gG,gG]at this;exact this.symm
  subst eb;refine⟨z.wok (by omega) (by omega) (by omega),by omega,O,I,λu H2 st N=>go _ u _ H2 st (k.step st N) (J.mono (by omega) (by omega)) ⟨kE q,?_⟩⟩;have e:=Option.some.inj (I.symm.trans (by rw[z.bk];exact Eb (B:=⟨q.B.es,q.B.up,[]⟩) _ W rfl (mM z.eo) rfl));subst e;refine(qF q _ _).trans ?_;simp only[lD,fW,map_append];rfl
 |all V=>
  obtain⟨b1,b9,G⟩:=ok;simp only[dC,aQ]at g;obtain⟨vb,r,rfl,db,rfl⟩:=g;obtain⟨O,I,J⟩:=z.all (by omega) (by omega) b9 G;have ab:∀{R:Md},PyData.tuple (dF V) = .tuple (dF R)->R=V:=λ{R} e=>by
   injection e with e
   have f:∀l:Md,(dF l).map bX=l:=λl=>by
    unfold dF;rw[map_map];have:(bX ∘ λb:Mf=>PyData.tuple (b.map .int))=id:=funext λb=>gG b;rw[this,map_id]
   rw[<- f R,<- e,f]
  have gd:fU (.tuple (dF V))=true:=by
   have hl:(dF V).length=V.length:=length_map _;have ha:(dF V).all i5=true:=by
    unfold dF;rw[all_map,all_eq_true];exact λb Z=>qU (k:="put") (n:=0) (.inl rfl) (by decide) (by decide) (G b Z).1 (G b Z).2
   simp [fU,hl,ha];omega
  refine⟨L,q,vb,.tuple (dF V),rfl,k.qw,db,(λds e=>?_),(λy=>by rw[gd]at y;cases y),λR e h1 h9 Z=>?_⟩
  ·injection e with e
   rw[<- e];refine⟨by unfold dF;rw[length_map];omega,λx hx=>?_⟩;unfold dF at hx;obtain⟨b,Z,rfl⟩:=mem_map.mp hx;intro ae Y;injection Y with Y
   rw[<- Y,length_map];have:=(G b Z).2;omega
  ·have:=ab e;subst this;refine⟨z.wok (by omega) (by omega) (by omega),by omega,O,I,λp u H2 st N fp fn gp=>go _ u _ H2 st (k.step st N) (J.mono (by omega) (by omega)) ⟨kE q,?_⟩⟩
   ·have e:=Option.some.inj (I.symm.trans (by rw[z.bk];exact B3 _ (mM z.eo)));subst e;refine(qF q _ _).trans ?_;simp only[lD,fW];rw[CT]
 |take x=>
  simp only[dC,aQ,Den]at g;obtain⟨vb,r,rfl,rfl,rfl⟩:=g;refine⟨L,q,_,rfl,k.qw,.inl ⟨x,q.B.es.map (·.1),rfl,⟨by omega,so⟩,by omega,ok.1,ok.2.1,List.Perm.refl _,so,λe D s=>?_,λm r er=>?_⟩⟩
  ·have Y:mF (fW q) (λt=>decide (t<q.tries))=[]:=(m5 q ltB).symm.trans e;refine go _ L q D (aG.step s) (k.sames s) (z.mono (by omega) (by omega)) ⟨⟨rfl,rfl,rfl⟩,?_⟩;simp only[lD,Y]
  ·obtain⟨h1,h2,h3⟩:=Fe (q:=q) (ms:=q.B.es.map (·.1)) (m:=m) (by rw[er];exact mem_cons_self);obtain⟨e,o⟩:=hW h1;have ht:e.2.1<q.tries:=by
    unfold eV at h3;rw[o]at h3;exact h3
   obtain⟨O,I,eB,J⟩:=z.out (by omega) (by omega) o ht h2 x;obtain⟨a1,a2,_⟩:=z.eo.ent m e o;have hl:bQ O.es m=some (e.1,e.2.1+1,e.2.2):=by rw[eB,pJ o,if_pos rfl]
   have Y:mF (fW q) (λt=>decide (t<q.tries))=m::r:=(m5 q ltB).symm.trans er;have ll:gF (fW q).ls m=some (e.1,e.2.1):=by
    show gF (q.B.es.map bare) m=_;rw[rD,o];rfl
   refine⟨z.wok (by omega) (by omega) (by omega),a1,by omega,O,_,I,hl,λp u H2 st N dp=>go _ u _ H2 st (k.step st N) (J.mono (by omega) (by omega)) ⟨kE q,?_⟩⟩
   ·refine(Ep q _ O _).trans ?_;simp only[lD,Y,ll,Option.getD_some];have S:=Option.some.inj (I.symm.trans (by rw[z.bk];exact En _ o));rw[S,BQ o];rfl
 |done x m=>
  obtain⟨ho,m0,m9⟩:=ok;simp only[dC,aQ,Den]at g;obtain⟨_,_,rfl,rfl,_,_,rfl,rfl,rfl⟩:=g;refine⟨L,q,_,_,.str x,.int m,rfl,k.qw,by simp only[Den],by simp only[Den],(λy e=>by cases e;exact ho.2.1),λx' m' tm S e2 _ _ o=>?_,λ_ nx D s=>ref mem_cons_self (by simp only[lD];exact if_neg (Ea λtm e=>nx ⟨x,m,tm,rfl,rfl,m0,m9,e⟩)) D s,(λy=>by rw[ho.1]at y;cases y)⟩;cases S;cases e2;obtain⟨e,ee⟩:=rC z o;obtain⟨O,I,J⟩:=z.done (by omega) (by omega) ee;refine⟨z.wok (by omega) (by omega) (by omega),O,I,λu H2 st N=>go _ u _ H2 st (k.step st N) (J.mono (by omega) (by omega)) ⟨kE q,?_⟩⟩;have S:=Option.some.inj (I.symm.trans (by rw[z.bk];exact CQ _ ee));subst S;refine(Ep q _ _ _).trans ?_;simp only[lD];rw[if_pos (show (bY (fW q).hs m).map (·.1)=some x from By o),F5];rfl
 |back x m=>
  obtain⟨ho,m0,m9⟩:=ok;simp only[dC,aQ,Den]at g;obtain⟨_,_,rfl,rfl,_,_,rfl,rfl,rfl⟩:=g;refine⟨L,q,_,_,.str x,.int m,rfl,k.qw,by simp only[Den],by simp only[Den],(λy e=>by cases e;exact ho.2.1),λx' m' tm S e2 o H2 st N=>?_,λ_ nx D s=>ref mem_cons_self (by simp only[lD];exact if_neg (Ea λtm e=>nx ⟨x,m,tm,rfl,rfl,m0,m9,e⟩)) D s,(λy=>by rw[ho.1]at y;cases y)⟩;cases S;cases e2;refine go _ L _ H2 st (k.step st N) ((z.held (λp=>decide (p.1≠m)) q.now).mono (by omega) (by omega)) ⟨⟨rfl,rfl,rfl⟩,?_⟩;simp only[lD];rw[if_pos (show (bY (fW q).hs m).map (·.1)=some x from By o)];rfl
 |wait m=>
  simp only[dC,aQ,Den]at g;obtain⟨_,_,rfl,rfl,rfl⟩:=g;have ac:bM 1 99 (.int m)=true:=by
   simp only[bM,and_eq_true,decide_eq_true_eq];exact ok
  refine⟨L,q,m,rfl,k.qw,(λy=>by rw[ac]at y;cases y),λ_=>⟨by omega,z.hn,z.hk,λms aa pw p H2 st N fp dp=>?_⟩⟩;have em:=uO aa pw;subst em;exact go _ L _ H2 st (k.step st N) ((z.held _ _).mono (by omega) (by omega)) ⟨⟨rfl,rfl,rfl⟩,rfl⟩
 |new m=>
  simp only[dC,aQ,Den]at g;obtain⟨_,_,rfl,rfl,rfl⟩:=g;refine⟨L,q,.int m,.int m,q.B.es.map (·.1),rfl,k.qw,⟨by omega,so⟩,by simp only[Den],List.Perm.refl _,so,λnx D s=>ref (mem_cons_of_mem _ mem_cons_self) (by simp only[lD];exact if_neg λhm=>nx m (show m∈y9 q _ from Eq.mpr (congrArg (m ∈ ·) (m5 q geB)) hm) (by simp only[bM,decide_eq_true_eq,and_eq_true];exact ok) rfl) D s,λm' e hm m0 m9=>?_⟩;cases e;obtain⟨e,o⟩:=hW (mem_filter.mp (mem_filter.mp hm).1).1;obtain⟨O,I,J⟩:=z.new (by omega) (by omega) o;have ad:m∈mF (fW q) (λt=>decide (t ≥ q.tries)):=(m5 q geB) ▸ hm;refine⟨z.wok (by omega) (by omega) (by omega),O,I,λu H2 st N=>go _ u _ H2 st (k.step st N) (J.mono (by omega) (by omega)) ⟨kE q,?_⟩⟩
  ·have S:=Option.some.inj (I.symm.trans (by rw[z.bk];exact Eo _ o));subst S;refine(qF q _ _).trans ?_;simp only[lD];have ll:gF (fW q).ls m=some (e.1,e.2.1):=by
    show gF (q.B.es.map bare) m=_;rw[rD,o];rfl
   rw[if_pos ad,BQ o,ll];rfl
 |sweep=>
  simp only[dC,aQ]at g;subst g;exact k.qu.symm ▸ Es k z hn hc λv u X H2 st k' J e=>go v u X H2 st k' (J.mono (le_refl _) (by omega)) e
 |carry=>
  simp only[dC,aQ]at g;subst g;exact k.qu.symm ▸ Et k z hn hc λv u X H2 st k' J e=>go v u X H2 st k' (J.mono (le_refl _) (by omega)) e
theorem Kx(k:Kc A H L0 D0 H1 L q)(z:Qi q n c)(m:n<=60000)(o:c<=48)(ok:Aq d)(p:H1 t=some (.tup (.str (eC d)::b)))(f:aQ H1 (dC d) b)
  (go:∀v g e H2,Step L g H1 H2->Kc A H L0 D0 H2 g e->Qi e (n+500) (c+1)->DoR q d e->Q v H2):xH A [.ref L0,.ref t] H1 Q E:=
 ⟨L,q,t,b,d,by rw[k.qu],k.qw,p,f.length,λr s=>k.qu.symm ▸ GL k z m o ok f go r s⟩
end
abbrev D5:Stmt:=top 74
abbrev Kb:Stmt:=top 70
abbrev Gy:Stmt:=top 69
abbrev Gp:Stmt:=top 71
abbrev uW:Stmt:=top 85
abbrev BA:Stmt:=top 87
def oY(x k:Int):Int:=((x*1103515245+7919*k+12345) % 2147483647) ^ 5 % 2147483647
theorem G8{a b:Int}(h:0<=a)(e:a<2147483647):a.natAbs<2 ^ 64:=by omega
inductive tE(K:Ma)(vs:Mp)(H:Hp)(Q:VK)(x_3:XK):Prop
 |mk:∀(a:Addr)(ns:Mf)(k:Int),vs=[.ref a,.int k]->0<=k->SqL K H a (ns.map V.int)->Q (.int (ns.getD k.toNat 0)) H->tE K vs H Q x_3
inductive zV(vs:Mp)(H:Hp)(Q:VK)(x_3:XK):Prop
 |mk:∀(x k:Int),vs=[.int x,.int k]->Q (.int (oY x k)) H->zV vs H Q x_3
def Hm(c p m:Int):Int:=(c*48271 % p) ^ 3 % p % m
inductive Cg(vs:Mp)(H:Hp)(Q:VK)(x_3:XK):Prop
 |mk:∀(c p m:Int),vs=[.int c,.int p,.int m]->0<p->p<2147483647->0<m->Q (.int (Hm c p m)) H->Cg vs H Q x_3
theorem Ex(s:∀b n,H b=some (.tup n)->o b=some (.tup n)):∀{m:List (Str×Mf)}{f:Mn},TbR H m f->TbR o m f
 |[],[],_=>trivial
 |p::m,q::f,h=>by
  obtain⟨r,⟨t,e,g⟩,u⟩:=h;exact⟨r,⟨t,e,s _ _ g⟩,Ex s u⟩
 |[],_::_,h=>h.elim
 |_::_,[],h=>h.elim
theorem zR:∀{e:List (Str×Mf)}{b:Mn},TbR H e b->b.map (·.1)=(e.map (·.1)).map Sum.inr
 |[],[],_=>rfl
 |p::e,q::b,h=>by rw[map_cons,map_cons,map_cons,h.1,zR h.2.2]
 |[],_::_,h=>h.elim
 |_::_,[],h=>h.elim
theorem Dc(g:GN H v e):∀{f:List (Str×Mf)}{b:Mn},TbR H f b->TbR H (f++[(n,e)]) (b++[(Sum.inr n,v)])
 |[],[],_=>⟨rfl,g,trivial⟩
 |p::f,q::b,h=>⟨h.1,h.2.1,Dc g h.2.2⟩
 |[],_::_,h=>h.elim
 |_::_,[],h=>h.elim
theorem GI{b:Mn}{k:Key}(h:k∉b.map (·.1)):dD b k=none:=by
 unfold dD;rw[map_eq_none_iff,find?_eq_none];intro p e z;exact h (by rw[<- of_decide_eq_true z];exact mem_map_of_mem e)
theorem Fh(h:n∈f.map (·.1)):∃b,aT f n=some b:=by
 cases e:aT f n with
 |none=>exact absurd h (yL e)
 |some b=>exact⟨b,rfl⟩
def nW(b:List (Str×Mf))(e:Mg):List (Str×Mf):=e.map λn=>(n,(aT b n).getD [])
def EN(b:List (Str×Mf)):Prop:=∀n∈b.map (·.1),cR cS 8 (.str n)=true/\n.length<=1000/\iC n=true
inductive uK(C:Addr)(vs:Mp)(H:Hp)(Q:VK)(x_3:XK):Prop
 |mk:∀(dk df:Addr)(kvs:Mn)(D:Dk),vs=[.ref dk]->DiskAt C H dk df kvs D->D.fs.length<=100000->EN D.fs->(∀ms,List.Perm ms (D.fs.map (·.1))->∀pf lvs H',aG H H'->H pf=none->H' pf=some (.dK lvs)->TbR H' (nW D.fs ms) lvs->Q (.ref pf) H')->uK C vs H Q x_3
section
variable{P:Program}{w:World}{K:Ma}{mg:Mc}{base:Heap}{aa9 aa1:Addr}{A:Ad}
theorem Jy(F:Fun K "_law_cell" "_law_cell" Gy f p)(T:‹2›):‹14› 1 f p ["_law_script","_law_k"] (tE K):=by
 refine F.okY ["_law_script","_law_k"] λr u e s H x Q E hr nD0 h=>?_;obtain⟨a,b,k,rfl,t,m,q⟩:=h;refine⟨_,aA (bE (aW vI (pv 1) ‹28› (bJ _))
   (aC (aP (cG (cK K) (pv 0) (pv 1) (λ_ _=>rfl))))
   aO)
  (aC (aP aM)),?_⟩
 refine⟨_,rfl,_,rfl,a,_,rfl,.inl m,_,_,rfl,rfl,_,rfl,?_⟩;rw[length_map];show if decide (k<(b.length:Int))=true then _ else _
 by_cases n:k<(b.length:Int)
 ·rw[if_pos (decide_eq_true n)];have o:k.toNat<b.length:=by omega
  have g:b.getD k.toNat 0=b[k.toNat]:=by
   rw[getD_eq_getElem?_getD,getElem?_eq_getElem o];rfl
  rw[g]at q;exact⟨_,rfl,_,rfl,a,_,_,_,rfl,rfl,m,bA t (by rw[getElem?_map,getElem?_eq_getElem o];rfl),q⟩
 ·rw[if_neg (by simpa using n)];have g:b.getD k.toNat 0=0:=by
   rw[getD_eq_getElem?_getD,getElem?_eq_none (by omega)];rfl
  rw[g]at q;exact q
theorem Jp{f:Addr}{g:Ml}(F:Fun K "_law_seed" "_law_seed" Gp f g):‹14› 1 f g ["_law_seed_here","_law_k"] zV:=by
 refine F.okY ["_law_seed_here","_law_k"] λm p e s H r Q E hr nD0 h=>?_;obtain⟨x,k,rfl,q⟩:=h;refine⟨_,aC (aP (bD dW (bD HP (bD dW (bD cW (bD cW (bD rA (pv 0) aM) (bD rA aM (pv 1))) aM) aM) aM) aM)),?_⟩;have n:=emod_nonneg (x*1103515245+7919*k+12345) (show (2147483647:Int)≠0 by decide);have o:=emod_lt_of_pos (x*1103515245+7919*k+12345) (show (0:Int)<2147483647 by decide);refine⟨_,rfl,_,_,rfl,rfl,.inr ⟨by decide,by decide⟩,_,rfl,_,_,rfl,rfl,.inl ⟨by decide,by decide⟩,_,_,rfl,rfl,_,_,rfl,rfl,_,_,rfl,rfl,(by show (0:Int)<2147483647;decide),_,_,rfl,rfl,⟨by decide,by decide,G8 (b:=0) n o⟩,_,_,rfl,rfl,(by show (0:Int)<2147483647;decide),?_⟩;exact q
theorem Ln{f:Addr}{n:Ml}(F:Fun K "_law_mix" "_law_mix" Kb f n):‹14› 1 f n ["_law_cell_here","_law_prime","_law_many"] Cg:=by
 refine F.okY ["_law_cell_here","_law_prime","_law_many"] λo u e s H x Q E hr nD0 h=>?_;obtain⟨c,p,m,rfl,g,y,r,q⟩:=h;refine⟨_,aC (aP (bD dW (bD dW (bD HP (bD dW (bD rA (pv 0) aM) (pv 1)) aM) (pv 1)) (pv 2))),?_⟩;have t:=emod_nonneg (c*48271) (show p≠0 by omega);have z:=emod_lt_of_pos (c*48271) g;refine⟨_,rfl,_,_,rfl,rfl,.inr ⟨by decide,by decide⟩,_,rfl,_,_,rfl,rfl,g,_,_,rfl,rfl,⟨by decide,by decide,G8 (b:=0) t (by omega)⟩,_,rfl,_,_,rfl,rfl,g,_,rfl,_,_,rfl,rfl,r,q⟩
theorem Hd{f:Addr}{fd:Ml}(F:Fun K "_law_files" "_law_files" D5 f fd)(T:‹2›)(ae:‹16› A.disk "names" 1 ["self"] (mV A.disk))(af:‹16› A.disk "read" 4 ["self","name"] (oR A.disk A.badName A.missing)):‹14› 5 f fd ["_law_disk"] (uK A.disk):=by
 refine F.okY ["_law_disk","_law_found","_law_name"] λas A' ag s H vs Q E hr nD0 h=>?_;obtain⟨R,df,S,D,rfl,hD,hl,ah,q⟩:=h;refine⟨_,aA (a9 (i:=1) nD0 ⋯ ⋯ iY)
  (aA (fQ (kB eE) ⋯ (bV K (eK ae T.ac6 ‹18› bB (pv 0))) (bK (i:=2) nD0 ⋯ ⋯)
   (aC (fN (hu1 hr.units) (pv 1) (pv 2) (cP af T.ac6 ‹18› bB (pv 0) ‹37›) ⋯)))
  (aC (aP (pv 1)))),?_⟩
 refine λr I=>?_;have S1:=aD (o:=.dK []) I;generalize ai:upd H r (.dK [])=H1 at S1⊢;have g1:H1 r=some (.dK []):=by rw[<- ai];exact aB
 have U:=hD.same S1;obtain⟨dx,h1⟩:=U.self;refine⟨_,rfl,R,dx,_,rfl,h1,rfl,R,df,S,D,rfl,U,hl,λJ g H2 S2 W p g2=>?_⟩;have aj:J≠r:=λz=>by rw[z,g1]at W;cases W
 refine⟨J,rfl,⟨_,SqL.of g2⟩,?_⟩;have ak:SqL K (λa=>if a=J then some (.lst (g.map V.str)) else none) J (g.map V.str):=SqL.of (if_pos rfl);have lm:(g.map V.str).length=g.length:=length_map _;have nd:g.Nodup:=p.nodup_iff.mpr hD.kn;have X:=p.length_eq;rw[length_map]at X;refine fR (H0:=λa=>if a=J then some (.lst (g.map V.str)) else none) (bP (K:=K) ak) (λi σ Y=>Y J=some (.lst (g.map V.str))/\aG H Y/\∃m z2,Y r=some (.dK m)/\TbR Y (nW D.fs (g.take i)) m/\σ = [some (.ref R),some (.ref r),z2]) ?i0 ?kp ?_ ?_
 case i0=>exact⟨g2,S1.trans S2,[],none,S2 _ _ g1,trivial,rfl⟩
 case kp=>
  intro i σ Y h b o e;by_cases z:b=J
  ·subst z;have e:some (HO.lst (g.map V.str))=some o:=by simpa using e
   rw[<- e];exact h.1
  ·have e:none=some o:=by simpa [z] using e
   cases e
 ·rintro i x σ H5 H6 Z ⟨g5,s5,m,z2,L,t,rfl⟩ s6 hx;rw[lm]at Z;rw[getElem?_map,getElem?_eq_getElem Z]at hx;cases hx;have u:g[i]∈D.fs.map (·.1):=p.mem_iff.mp (List.getElem_mem Z);obtain⟨bs,N⟩:=Fh u;obtain⟨hw,al,am⟩:=ah _ u;have aa:aG H H6:=s5.trans s6;have ab:=hD.same aa;obtain⟨an,ao⟩:=ab.self;refine⟨_,rfl,R,an,_,rfl,ao,rfl,_,rfl,R,df,S,D,.str g[i],.str g[i],rfl,ab,by simp only[Den],(λy e=>by injection e with e;rw[<- e];exact⟨al,am⟩),(λz=>by rw[hw]at z;cases z),λn en _=>?_⟩;injection en with en
  subst en;refine⟨(λz=>by rw[N]at z;cases z),λau B p7 H7 S7 g7=>?_⟩;rw[N]at B;cases B;have ac:H7 r=some (.dK m):=S7 _ _ (s6 _ _ L);have O:TbR H7 (nW D.fs (g.take i)) m:=Ex (λb xs e=>S7 _ _ (s6 _ _ e)) t;have ap:dD m (Sum.inr g[i])=none:=by
   refine GI ?_;rw[(zR O)];have ek:(nW D.fs (g.take i)).map (·.1)=g.take i:=by
    unfold nW;rw[map_map];exact map_id _
   rw[ek];intro hm;rw[mem_map]at hm;obtain⟨y,hy,e⟩:=hm;have e:y=g[i]:=Sum.inr.inj e;have h2:y∈g.drop i:=by
    rw[drop_eq_getElem_cons Z,e];exact mem_cons_self
   have ad:=nd;rw[<- take_append_drop i g,nodup_append]at ad;exact ad.2.2 y hy y h2 rfl
  have aq:m.length<sizeLine:=by
   have:=congrArg List.length (zR O);unfold nW at this;rw[length_map,length_map,length_map,length_map,length_take]at this;exact lt_of_le_of_lt (show _<=100000 by omega) (by decide)
  refine⟨_,rfl,_,rfl,r,_,rfl,jQ.k (k:=Sum.inr g[i]) ac aq,?_⟩;have ar:eJ m (Sum.inr g[i]) (V.ref p7)=m++[(Sum.inr g[i],V.ref p7)]:=BT _ ap;rw[ar];have G:∀b xs,H7 b=some (.tup xs)->upd H7 r (.dK (m++[(Sum.inr g[i],V.ref p7)])) b=some (.tup xs):=λb xs e=>by
   rw[aH (λz=>by rw[z,ac]at e;cases e)];exact e
  refine⟨?_,λb o e=>?_,_,_,aB,?_,rfl⟩
  ·rw[aH aj];exact S7 _ _ (s6 _ _ g5)
  ·rw[aH (bU e I)];exact S7 _ _ (aa _ _ e)
  ·have et:nW D.fs (g.take (i+1))=nW D.fs (g.take i)++[(g[i],bs)]:=by
    unfold nW;rw[List.take_add_one,getElem?_eq_getElem Z,map_append];show _++[(g[i],(aT D.fs g[i]).getD [])]=_;rw[N];rfl
   rw[et];exact Dc ⟨p7,rfl,G _ _ g7⟩ (Ex G O)
 ·rintro σ H5 ⟨g5,s5,m,z2,L,t,rfl⟩;rw[lm,take_length]at t;exact⟨_,rfl,q g p r m H5 s5 I L t⟩
end
theorem at2(e:0<=k)(f:k<2):∃m,atI [V.int a,V.int b] k=some (.int m)/\(m=a\/m=b):=by
 by_cases z:k=0
 ·subst z;exact⟨a,rfl,.inl rfl⟩
 ·have:k=1:=by omega
  subst this;exact⟨b,rfl,.inr rfl⟩
theorem at3(e:0<=k)(f:k<3):∃m,atI [V.int a,V.int b,V.int c] k=some (.int m)/\(m=a\/m=b\/m=c):=by
 by_cases z:k=0
 ·subst z;exact⟨a,rfl,.inl rfl⟩
 ·by_cases y:k=1
  ·subst y;exact⟨b,rfl,.inr (.inl rfl)⟩
  ·have:k=2:=by omega
   subst this;exact⟨c,rfl,.inr (.inr rfl)⟩
inductive lW(vs:Mp)(H:Hp)(Q:VK)(x_3:XK):Prop
 |mk:∀c:Int,vs=[.int c]->(∀(m h t:Int)(p:Addr)(H':Hp),1<=m->m<=2000->0<=h->h<=99->1<=t->t<=9->aG H H'->H' p=some (.tup [.int m,.int h,.int t])->Q (.ref p) H')->lW vs H Q x_3
inductive qN(A:Ad)(vs:Mp)(H:Hp)(Q:VK)(x_3:XK):Prop
 |mk:∀(dk df p:Addr)(kvs:Mn)(D:Dk)(m h t:Int),vs=[.ref dk,.ref p]->H p=some (.tup [.int m,.int h,.int t])->uT (.int m) (.int h) (.int t)=true->DiskAt A.disk H dk df kvs D->wB D->(∀L' d H',L'.dk=dk->(∀b o,H b=some o->¬own dk df kvs b->H' b=some o)->(∀b,gT L' b->own dk df kvs b\/H b=none)->QueueW A H' L' (nP m h t d) false->Q (.ref L'.qu) H')->qN A vs H Q x_3
section
variable{P:Program}{w:World}{K:Ma}{mg:Mc}{base:Heap}{A:Ad}
theorem BZ(F:Fun K "_law_settings" "_law_settings" uW f R)(T:‹2›)(g:‹10›):‹14› 2 f R ["_law_cell_here"] lW:=by
 refine F.okY ["_law_cell_here","_law_seed_here","_law_most"] λS A' n s H vs Q E hr nD0 h=>?_;obtain⟨c,rfl,U⟩:=h;refine⟨_,aA (a9 (i:=1) nD0 ⋯ ⋯ (bC g ‹18› bB (aE (pv 0) ‹46›)))
  (aA (a9 (i:=2) nD0 ⋯ ⋯ (cG (cK K) (cA (bW (bD cW aM ‹26›) (bW (bD cW aM ‹26›) ‹46›))) ‹26› (λ_ _=>rfl)))
  (aC (aP (aU (aE (pv 2) (bW (bD dW ‹33› (cG (cK K) (cA (aI aM ‹46›)) (jZ zF ⋯ T.ba8 DX (vG (hJ fY ‹26› aM (bJ _)) aF)) (λ_ _=>rfl))) (bW (bD cW aM (bD dW ‹33› ‹84›)) aF))))))),?_⟩
 refine⟨_,rfl,c,0,rfl,?_⟩;generalize oY c 0=x;refine⟨_,rfl,_,_,rfl,rfl,⟨by decide,by decide⟩,_,_,rfl,rfl,(by show (0:Int)<60;decide),_,_,rfl,rfl,_,rfl,_,_,rfl,rfl,⟨by decide,by decide⟩,_,_,rfl,rfl,(by show (0:Int)<200;decide),_,_,rfl,rfl,aJ,λu p=>?_⟩;obtain⟨m,W,hm⟩:=at3 (a:=1+x / 3 % 60) (b:=1+x / 3 % 200) (c:=2000) (k:=x / 7 % 3) (by omega) (by omega);refine⟨_,rfl,_,_,rfl,rfl,⟨by decide,by decide⟩,_,_,rfl,rfl,(by show (0:Int)<3;decide),u,_,_,.int m,rfl,rfl,SqL.of aB,W,?_⟩;have y:=aD (o:=.lst [.int (1+x / 3 % 60),.int (1+x / 3 % 200),.int 2000]) p;generalize upd H u (.lst [.int (1+x / 3 % 60),.int (1+x / 3 % 200),.int 2000])=X at y⊢;refine⟨_,rfl,_,rfl,_,_,rfl,rfl,⟨by decide,by decide⟩,aJ,λp2 q=>?_⟩;refine⟨_,rfl,_,_,rfl,rfl,⟨by decide,by decide⟩,_,_,rfl,rfl,(by show (0:Int)<4;decide),rfl,.inr ⟨_,rfl,?_⟩⟩;obtain⟨h,Y,Z⟩:=at2 (a:=8) (b:=100) (k:=if decide (V.int (x / 19 % 4)=V.int 0)=true then 1 else 0) (by split <;> omega) (by split <;> omega);refine⟨p2,_,_,.int h,rfl,rfl,SqL.of aB,Y,_,_,rfl,rfl,(by rcases Z with z |z <;> rw[z] <;> decide),?_⟩;have B:=aD (o:=.lst [.int 8,.int 100]) q;generalize upd X p2 (.lst [.int 8,.int 100])=H2 at B⊢;refine⟨_,rfl,_,_,rfl,rfl,⟨by decide,by decide⟩,aJ,λD r=>?_⟩;obtain⟨t,e3,ht⟩:=at2 (a:=9) (b:=3) (k:=x / 17 % 2) (by omega) (by omega);refine⟨_,rfl,_,_,rfl,rfl,⟨by decide,by decide⟩,_,_,rfl,rfl,(by show (0:Int)<2;decide),D,_,_,.int t,rfl,rfl,SqL.of aB,e3,_,_,rfl,rfl,(by rcases ht with z |z <;> rw[z] <;> decide),_,_,rfl,rfl,aJ,λp4 e=>?_⟩;have G:=aD (o:=.lst [.int 9,.int 3]) r;generalize upd H2 D (.lst [.int 9,.int 3])=H3 at G e⊢;have I:1<=m/\m<=2000:=by
  have J:=emod_nonneg (x / 3) (show (60:Int)≠0 by decide);have L:=emod_lt_of_pos (x / 3) (show (0:Int)<60 by decide);have h3:=emod_nonneg (x / 3) (show (200:Int)≠0 by decide);have h4:=emod_lt_of_pos (x / 3) (show (0:Int)<200 by decide);omega
 have N:0<=x / 11 % h/\x / 11 % h<=99:=by
  have J:=emod_nonneg (x / 11) (show h≠0 by omega);have L:=emod_lt_of_pos (x / 11) (show 0<h by omega);omega
 have O:1<=1+x / 13 % t/\1+x / 13 % t<=9:=by
  have J:=emod_nonneg (x / 13) (show t≠0 by omega);have L:=emod_lt_of_pos (x / 13) (show 0<t by omega);omega
 exact U m (x / 11 % h) (1+x / 13 % t) p4 _ I.1 I.2 N.1 N.2 O.1 O.2 (y.trans (B.trans (G.trans (aD e)))) aB
theorem FQ(F:Fun K "_law_queue" "_law_queue" BA f S)(x:‹17› "Queue" A.queue 8 ["self","disk","most","hold","tries"] (uI A)):‹14› 10 f S ["_law_disk","_law_settings_here"] (qN A):=by
 refine F.okY ["_law_disk","_law_settings_here"] λU A' y s H vs Q E hr nD0 h=>?_;obtain⟨N,O,p,r,D,m,h,t,rfl,B,G,R,V,W⟩:=h;refine⟨_,aC (aP (Kl x ‹18› bB (aE (pv 0) (aN ‹21› (aN ‹21› ‹80›))))),?_⟩;refine⟨_,rfl,_,rfl,p,_,_,.int m,rfl,rfl,SqT.of B,bA (by decide) rfl,_,rfl,p,_,_,.int h,rfl,rfl,SqT.of B,bA (by decide) rfl,_,rfl,p,_,_,.int t,rfl,rfl,SqT.of B,bA (by decide) rfl,λq u n I X=>?_⟩;have J:∀{c o},H c=some o->upd (upd H u (.own q)) q (.ins A.queue u []) c=some o:=λ{c o} e=>by
  rw[aH (bU e n),aH (bU e I)];exact e
 have L:¬own N O r q:=λz=>by
  obtain⟨o,e⟩:=oF R z;rw[n]at e;cases e
 have back:∀{c},upd (upd H u (.own q)) q (.ins A.queue u []) c=none->H c=none:=λ{c} e=>by
  cases Y:H c with
  |none=>rfl
  |some o=>rw[J Y]at e;cases e
 refine⟨q,u,N,O,r,D,m,h,t,rfl,aB,R.keep (λb o e _=>J e),L,G,V,λZ d H' eq ed f g hq=>⟨rfl,?_⟩⟩;subst eq;refine W Z d H' ed (λb o e nb=>f b o (J e) (bU e n) nb) (λb hb=>?_) hq;rcases g b hb with z |z |z
 ·rw[z];exact .inr n
 ·exact .inl z
 ·exact .inr (back z)
end
abbrev Gr:Stmt:=top 72
def EG(x m:Int):Int:=x / 97 % m
inductive tD(vs:Mp)(H:Hp)(Q:VK)(x_3:XK):Prop
 |mk:∀(x m:Int),vs=[.int x,.int m]->0<m->Q (.int (EG x m)) H->tD vs H Q x_3
section
variable{P:Program}{w:World}{K:Ma}{mg:Mc}{base:Heap}{A:Ad}
theorem Jr(F:Fun K "_law_pick" "_law_pick" Gr f e):‹14› 1 f e ["_law_seed_here","_law_many"] tD:=by
 refine F.okY ["_law_seed_here","_law_many"] λg o b s H p Q E hr nD0 h=>?_;obtain⟨x,m,rfl,n,q⟩:=h;refine⟨_,aC (aP (bD dW (bD m7 (pv 0) aM) (pv 1))),?_⟩;exact⟨_,rfl,_,_,rfl,rfl,⟨by decide,by decide⟩,_,rfl,_,_,rfl,rfl,n,q⟩
end
def wsK(b:List (Int×Int)):Mn:=b.map λp=>(Sum.inl p.1,V.int p.2)
def pN(b:List (Int×Int))(k:Int):Option Int:=(b.find? λp=>decide (p.1=k)).map (·.2)
def sL(b:List (Int×Int))(k s:Int):List (Int×Int):=if (b.any λp=>decide (p.1=k))=true then b.map (λp=>if p.1=k then (p.1,s) else p) else b++[(k,s)]
theorem EW(a b:Int):decide ((Sum.inl a:Key)=Sum.inl b)=decide (a=b):=by
 by_cases h:a=b
 ·rw[decide_eq_true h,decide_eq_true (by rw[h])]
 ·rw[decide_eq_false h,decide_eq_false (λz=>h (Sum.inl.inj z))]
theorem Iy(b:List (Int×Int))(k s:Int):eJ (wsK b) (Sum.inl k) (V.int s)=wsK (sL b k s):=by
 have e:((wsK b).any λf=>decide (f.1=Sum.inl k))=(b.any λp=>decide (p.1=k)):=by
  unfold wsK;rw[List.any_map];congr 1;funext p;exact EW p.1 k
 unfold eJ sL;rw[e];split
 ·unfold wsK;rw[map_map,map_map];apply map_congr_left;intro p _;show (if (Sum.inl p.1:Key)=Sum.inl k then _ else _)=((Sum.inl (if p.1=k then (p.1,s) else p).1:Key),V.int (if p.1=k then (p.1,s) else p).2);by_cases h:p.1=k
  ·rw[if_pos h,if_pos (by rw[h])]
  ·rw[if_neg h,if_neg (λz=>h (Sum.inl.inj z))]
 ·unfold wsK;rw[map_append];rfl
theorem sX:∀(b:List (Int×Int))(k:Int),dD (wsK b) (Sum.inl k)=(pN b k).map V.int
 |[],k=>rfl
 |p::r,k=>by
  have e:=sX r k;unfold dD pN wsK at *;rw[map_cons,find?_cons,find?_cons];show Option.map _ (match decide ((Sum.inl p.1:Key)=Sum.inl k) with |true=>_ |false=>_)=_;rw[EW];cases decide (p.1=k) with
  |true=>rfl
  |false=>exact e
theorem Ar(b:List (Int×Int)):(wsK b).map (·.1)=(b.map (·.1)).map Sum.inl:=by
 unfold wsK;rw[map_map,map_map];rfl
theorem rE(h:k∈ws.map (·.1)):∃s,pN ws k=some s:=by
 unfold pN;cases y:ws.find? λp=>decide (p.1=k) with
 |none=>
  rw[find?_eq_none]at y;obtain⟨p,b,e⟩:=mem_map.mp h;exact absurd (decide_eq_true e) (y p b)
 |some p=>exact⟨_,rfl⟩
theorem BR{f:List (Int×Int)}{k:Int}:(f.any λp=>decide (p.1=k))=true ↔ k∈f.map (·.1):=by
 rw[any_eq_true,mem_map];exact⟨λ⟨p,b,e⟩=>⟨p,b,of_decide_eq_true e⟩,λ⟨p,b,e⟩=>⟨p,b,decide_eq_true e⟩⟩
theorem E9{b:List (Int×Int)}{k:Int}(s:Int)(h:k∈b.map (·.1)):(sL b k s).map (·.1)=b.map (·.1):=by
 unfold sL;rw[if_pos (BR.mpr h),map_map];apply map_congr_left;intro p _;show (if p.1=k then (p.1,s) else p).1=p.1;split <;> rfl
theorem HB{b:List (Int×Int)}{k:Int}(s:Int)(h:k∉b.map (·.1)):sL b k s=b++[(k,s)]:=by
 unfold sL;rw[if_neg (λz=>h (BR.mp z))]
theorem GG(b:List (Int×Int))(k:Int):fA (wsK b) (Sum.inl k)=wsK (b.filter λp=>decide (p.1≠k)):=by
 unfold fA wsK;rw[filter_map];congr 1;refine List.filter_congr λp _=>decide_eq_decide.mpr ?_;exact⟨λh z=>h (by show (Sum.inl p.1:Key)=Sum.inl k;rw[z]),λh z=>h (Sum.inl.inj z)⟩
def TR{e : Type}(f:e->V->Prop):List (Int×e)->Mn->Prop
 |[],[]=>True
 |p::g,r::b=>r.1=Sum.inl p.1/\f p.2 r.2/\TR f g b
 |_,_=>False
section
variable{α : Type}{f g:α->V->Prop}
theorem TR.imp(h:∀a v,f a v->g a v):∀{e:List (Int×α)}{b:Mn},TR f e b->TR g e b
 |[],[],_=>trivial
 |_::_,_::_,⟨m,n,o⟩=>⟨m,h _ _ n,TR.imp h o⟩
 |[],_::_,h=>h.elim
 |_::_,[],h=>h.elim
theorem TR.keys:∀{e:List (Int×α)}{b:Mn},TR f e b->b.map (·.1)=(e.map (·.1)).map Sum.inl
 |[],[],_=>rfl
 |_::_,_::_,⟨m,_,n⟩=>by rw[map_cons,map_cons,map_cons,TR.keys n,m]
 |[],_::_,h=>h.elim
 |_::_,[],h=>h.elim
theorem TR.len(h:TR f e b):b.length=e.length:=by
 have:=congrArg List.length h.keys;rw[length_map,length_map,length_map]at this;exact this
theorem TR.look:∀{m:List (Int×α)}{b:Mn},TR f m b->n∈m.map (·.1)->∃a v,(n,a)∈m/\dD b (Sum.inl n)=some v/\f a v
 |[],[],_,h=>by cases h
 |p::m,r::b,⟨o,s,t⟩,h=>by
  by_cases e:p.1=n
  ·refine⟨p.2,r.2,by rw[<- e];exact mem_cons_self,?_,s⟩;unfold dD;rw[find?_cons,decide_eq_true (by rw[o,e])];rfl
  ·rw[map_cons]at h;rcases mem_cons.mp h with z |z
   ·exact absurd z.symm e
   ·obtain⟨a,v,u,q,x⟩:=TR.look t z;refine⟨a,v,mem_cons_of_mem _ u,?_,x⟩;unfold dD at q⊢;rw[find?_cons,decide_eq_false (λy=>e (Sum.inl.inj (o.symm.trans y)))];exact q
 |[],_::_,h,_=>h.elim
 |_::_,[],h,_=>h.elim
theorem TR.no(h:TR f r o)(s:n∉r.map (·.1)):dD o (Sum.inl n)=none/\(o.any λp=>decide (p.1=Sum.inl n))=false:=by
 have q:∀p∈o,p.1≠Sum.inl n:=λp b z=>by
  have:p.1∈o.map (·.1):=mem_map_of_mem b;rw[h.keys,z]at this;obtain⟨m,t,e⟩:=mem_map.mp this;exact s (by rw[<- Sum.inl.inj e];exact t)
 constructor
 ·unfold dD;rw[map_eq_none_iff,find?_eq_none];exact λp b z=>q p b (of_decide_eq_true z)
 ·rw[List.any_eq_false];exact λp b z=>q p b (of_decide_eq_true z)
def gC(b:List (Int×α))(n:Int)(a:α):List (Int×α):=if (b.any λp=>decide (p.1=n))=true then b.map (λp=>if p.1=n then (p.1,a) else p) else b++[(n,a)]
theorem yD(a:α)(h:n∈b.map (·.1)):(gC b n a).map (·.1)=b.map (·.1):=by
 have:(b.any λp=>decide (p.1=n))=true:=by
  obtain⟨p,m,e⟩:=mem_map.mp h;exact any_eq_true.mpr ⟨p,m,decide_eq_true e⟩
 unfold gC;rw[if_pos this,map_map];apply map_congr_left;intro p _;show (if p.1=n then (p.1,a) else p).1=p.1;split <;> rfl
theorem vA(a:α)(h:n∉b.map (·.1)):gC b n a=b++[(n,a)]:=by
 unfold gC;rw[if_neg];rw[any_eq_true];rintro ⟨p,m,e⟩;exact h (by rw[<- of_decide_eq_true e];exact mem_map_of_mem m)
theorem HA(h:p∈gC e n a):p∈e\/p.2=a:=by
 unfold gC at h;split at h
 ·obtain⟨o,m,b⟩:=mem_map.mp h;split at b
  ·rw[<- b];exact .inr rfl
  ·rw[<- b];exact .inl m
 ·rw[mem_append,mem_singleton]at h;rcases h with h |rfl
  ·exact .inl h
  ·exact .inr rfl
theorem TR.mapP(o:f a v):∀{q:List (Int×α)}{b:Mn},TR f q b->TR f (q.map λp=>if p.1=n then (p.1,a) else p) (b.map λs=>if s.1=Sum.inl n then (s.1,v) else s)
 |[],[],_=>trivial
 |p::q,r::b,⟨m,u,t⟩=>by
  rw[map_cons,map_cons];by_cases e:p.1=n
  ·rw[if_pos e,if_pos (show r.1=Sum.inl n by rw[m,e])];exact⟨m,o,TR.mapP o t⟩
  ·rw[if_neg e,if_neg (λz=>e (Sum.inl.inj (m.symm.trans z)))];exact⟨m,u,TR.mapP o t⟩
 |[],_::_,h=>h.elim
 |_::_,[],h=>h.elim
theorem TR.snoc(e:f a v):∀{m:List (Int×α)}{b:Mn},TR f m b->TR f (m++[(n,a)]) (b++[(Sum.inl n,v)])
 |[],[],_=>⟨rfl,e,trivial⟩
 |_::_,_::_,⟨o,p,q⟩=>⟨o,p,TR.snoc e q⟩
 |[],_::_,h=>h.elim
 |_::_,[],h=>h.elim
theorem TR.any(h:TR f q b):(b.any λs=>decide (s.1=Sum.inl n))=(q.any λp=>decide (p.1=n)):=by
 by_cases m:n∈q.map (·.1)
 ·obtain⟨p,o,e⟩:=mem_map.mp m;have t:Sum.inl n∈b.map (·.1):=by
   rw[h.keys];exact mem_map_of_mem m
  obtain⟨r,hr,u⟩:=mem_map.mp t;rw[any_eq_true.mpr ⟨p,o,decide_eq_true e⟩,any_eq_true.mpr ⟨r,hr,decide_eq_true u⟩]
 ·rw[(h.no m).2];refine(List.any_eq_false.mpr λp o z=>m ?_).symm;rw[<- of_decide_eq_true z];exact mem_map_of_mem o
theorem TR.put(h:TR f m b)(e:f a v):TR f (gC m n a) (eJ b (Sum.inl n) v):=by
 unfold eJ gC;rw[h.any];split
 ·exact h.mapP e
 ·exact h.snoc e
theorem TR.drop:∀{m:List (Int×α)}{b:Mn},TR f m b->TR f (m.filter λp=>decide (p.1≠n)) (fA b (Sum.inl n))
 |[],[],_=>trivial
 |p::m,r::b,⟨o,s,t⟩=>by
  have q:=TR.drop (n:=n) t;unfold fA at q⊢;rw[filter_cons,filter_cons];by_cases e:p.1=n
  ·rw[if_neg (by rw[decide_eq_true_eq];exact λz=>z e),if_neg (by rw[decide_eq_true_eq,o,e];exact λz=>z rfl)];exact q
  ·rw[if_pos (show decide (p.1≠n)=true from decide_eq_true e),if_pos (show decide (r.1≠Sum.inl n)=true from decide_eq_true (λz=>e (Sum.inl.inj (o.symm.trans z))))];exact⟨o,s,q⟩
 |[],_::_,h=>h.elim
 |_::_,[],h=>h.elim
end
structure Ms where
 ls:List (Int×(Mf×Int))
 after:Int
 hs:Mt
 time:Int
 rows:List (Mr)
 first:Int
 wh:List (Int×Int)
structure Sl where
 ps:Addr
 pl:Addr
 ph:Addr
 pr:Addr
 pw:Addr
 rs:List Addr
def stK(S:Sl)(M:Ms):Mn:=[(Sum.inr "letters",.ref S.pl),(Sum.inr "after",.int M.after),(Sum.inr "hands",.ref S.ph),(Sum.inr "time",.int M.time),(Sum.inr "rows",.ref S.pr),(Sum.inr "first",.int M.first),(Sum.inr "where",.ref S.pw)]
inductive pQ(H:Hp)(e:Mf×Int)(v:V):Prop
 |mk:∀t b,v = .ref t->H t=some (.tup [.ref b,.int e.2])->H b=some (.tup (e.1.map V.int))->pQ H e v
inductive pU(H:Hp)(e:Str×Int)(v:V):Prop
 |mk:∀t,v = .ref t->H t=some (.tup [.str e.1,.int e.2])->pU H e v
def RsR(H:Hp):List (Mr)->List Addr->Prop
 |[],[]=>True
 |r::e,a::f=>(∃b,H a=some (.lst b)/\aQ H (r.map cI) b)/\RsR H e f
 |_,_=>False
def stL(S:Sl):List Addr:=S.ps::S.pl::S.ph::S.pr::S.pw::S.rs
structure StAt(H:Hp)(S:Sl)(M:Ms):Prop where
 st:H S.ps=some (.dK (stK S M))
 ls:∃kl,H S.pl=some (.dK kl)/\TR (pQ H) M.ls kl
 hs:∃kh,H S.ph=some (.dK kh)/\TR (pU H) M.hs kh
 rw:H S.pr=some (.lst (S.rs.map V.ref))
 rr:RsR H M.rows S.rs
 wh:H S.pw=some (.dK (wsK M.wh))
 nd:(stL S).Nodup
structure StepS(S S':Sl)(H H':Hp):Prop where
 ps:S'.ps=S.ps
 frm:∀b o,H b=some o->b∉stL S->H' b=some o
 grow:∀b,b∈stL S'->b∈stL S\/H b=none
 tup:fX H H'
theorem StepS.trans(a:StepS S g H m)(b:StepS g n m H2):StepS S n H H2:=by
 refine⟨b.ps.trans a.ps,λc o e f=>b.frm c o (a.frm c o e f) (λz=>(a.grow c z).elim f (λy=>by rw[y]at e;cases e)),λc p=>?_,a.tup.trans b.tup⟩;rcases b.grow c p with z |z
 ·exact a.grow c z
 ·by_cases y:c∈stL S
  ·exact .inl y
  ·refine .inr ?_;cases e:H c with
   |none=>rfl
   |some o=>rw[a.frm c o e y]at z;cases z
theorem aG.stepS(s:aG H f):StepS S S H f:=⟨rfl,λb o e _=>s b o e,λb h=>.inl h,aG.tup s⟩
theorem StepS.not(a:StepS S f H g)(e:H b=some o)(n:b∉stL S):b∉stL f:=λz=>(a.grow b z).elim n (λy=>by rw[y]at e;cases e)
theorem pQ.t(s:fX H f)(h:pQ H e v):pQ f e v:=by
 obtain⟨t,b,g,m,n⟩:=h;exact⟨t,b,g,s _ _ m,s _ _ n⟩
theorem pU.t(s:fX H b)(h:pU H e v):pU b e v:=by
 obtain⟨t,f,g⟩:=h;exact⟨t,f,s _ _ g⟩
theorem jX:∀b:Mr,fE (b.map cI)=true
 |[]=>rfl
 |r::b=>by
  show (lU (cI r) && fE (b.map cI))=true;rw[jX b];unfold cI;rw[lB];rfl
theorem RsR.keep(t:fX H f):∀{g:List (Mr)}{e:List Addr},RsR H g e->(∀a∈e,∀o,H a=some o->f a=some o)->RsR f g e
 |[],[],_,_=>trivial
 |_::_,a::_,⟨⟨m,n,p⟩,q⟩,k=>⟨⟨m,k a mem_cons_self _ n,gK t (jX _) p⟩,RsR.keep t q λb r=>k b (mem_cons_of_mem _ r)⟩
 |[],_::_,h,_=>h.elim
 |_::_,[],h,_=>h.elim
theorem RsR.len:∀{b:List (Mr)}{e:List Addr},RsR H b e->e.length=b.length
 |[],[],_=>rfl
 |_::_,_::_,⟨_,h⟩=>by rw[length_cons,length_cons,RsR.len h]
 |[],_::_,h=>h.elim
 |_::_,[],h=>h.elim
theorem RsR.snoc(g:H a=some (.lst b))(d:aQ H (r.map cI) b):∀{e:List (Mr)}{f:List Addr},RsR H e f->RsR H (e++[r]) (f++[a])
 |[],[],_=>⟨⟨b,g,d⟩,trivial⟩
 |_::_,_::_,⟨m,n⟩=>⟨m,RsR.snoc g d n⟩
 |[],_::_,h=>h.elim
 |_::_,[],h=>h.elim
theorem RsR.split:∀{n:List (Mr)}{o:List Addr}{r:Mr},RsR H (n++[r]) o->∃f a m,o=f++[a]/\RsR H n f/\H a=some (.lst m)/\aQ H (r.map cI) m
 |[],[a],r,⟨⟨m,g,d⟩,_⟩=>⟨[],a,m,rfl,trivial,g,d⟩
 |_::n,a::o,r,⟨p,q⟩=>by
  obtain⟨f,b,m,e,s,g,d⟩:=RsR.split q;exact⟨a::f,b,m,by rw[e];rfl,⟨p,s⟩,g,d⟩
 |[],[],_,h=>h.elim
 |[],_::_::_,_,h=>h.2.elim
 |_::_,[],_,h=>h.elim
section
variable{H H':Hp}{S:Sl}{M:Ms}
theorem StAt.keep(h:StAt H S M)(k:∀b o,H b=some o->b∈stL S->H' b=some o)(t:fX H H'):StAt H' S M:=by
 obtain⟨f,g,n⟩:=h.ls;obtain⟨p,q,r⟩:=h.hs;have m:∀b,b∈[S.ps,S.pl,S.ph,S.pr,S.pw]->b∈stL S:=λb s=>mem_append_left S.rs s;exact⟨k _ _ h.st (m _ (by simp)),⟨f,k _ _ g (m _ (by simp)),n.imp λa v=>pQ.t t⟩,⟨p,k _ _ q (m _ (by simp)),r.imp λa v=>pU.t t⟩,k _ _ h.rw (m _ (by simp)),h.rr.keep t (λa u o e=>k a o e (mem_append_right [S.ps,S.pl,S.ph,S.pr,S.pw] u)),k _ _ h.wh (m _ (by simp)),h.nd⟩
theorem StAt.same(h:StAt H S M)(s:aG H H'):StAt H' S M:=h.keep (λb o e _=>s b o e) (aG.tup s)
theorem StAt.here(h:StAt H S M)(m:b∈stL S):∃o,H b=some o/\∀e,o ≠ .tup e:=by
 obtain⟨u,p,_⟩:=h.ls;obtain⟨x,q,_⟩:=h.hs;have s:∀{n:List (Mr)}{f:List Addr},RsR H n f->b∈f->∃o,H b=some o/\∀e,o ≠ .tup e:=by
  intro n
  induction n with
  |nil=>
   intro f h m;cases f with
   |nil=>cases m
   |cons a f=>exact h.elim
  |cons r n t=>
   intro f h m;cases f with
   |nil=>exact h.elim
   |cons a f=>
    rcases mem_cons.mp m with z |z
    ·obtain⟨⟨e,g,_⟩,_⟩:=h;exact⟨_,by rw[z];exact g,λe z=>by cases z⟩
    ·exact t h.2 z
 rcases mem_append.mp (show b∈[S.ps,S.pl,S.ph,S.pr,S.pw]++S.rs from m) with z |z
 ·simp only[mem_cons,not_mem_nil,or_false]at z;rcases z with z |z |z |z |z
  ·exact⟨_,by rw[z];exact h.st,λe z=>by cases z⟩
  ·exact⟨_,by rw[z];exact p,λe z=>by cases z⟩
  ·exact⟨_,by rw[z];exact q,λe z=>by cases z⟩
  ·exact⟨_,by rw[z];exact h.rw,λe z=>by cases z⟩
  ·exact⟨_,by rw[z];exact h.wh,λe z=>by cases z⟩
 ·exact s h.rr z
theorem StAt.off(h:StAt H S M)(f:H b=none):b∉stL S:=λz=>by
 obtain⟨o,e,_⟩:=h.here z;rw[f]at e;cases e
theorem cB(h:StAt H S M)(f:b∈stL S)(g:HO):StepS S S H (upd H b g):=by
 obtain⟨o,e,m⟩:=h.here f;exact⟨rfl,λc u n p=>by rw[aH (λz=>p (by rw[z];exact f))];exact n,λc q=>.inl q,kP e m⟩
end
abbrev BF:Stmt:=top 75
abbrev D3:Stmt:=top 76
abbrev BD:Stmt:=top 83
structure MsOk(M:Ms)(c n:Nat):Prop where
 af:0<=M.after/\M.after<=9*(c:Int)
 so:(M.ls.map (·.1)).Pairwise (· < ·)
 lt:∀p∈M.ls,0<=p.1/\p.1<M.after/\p.2.1.length<=60
 cnt:M.ls.length<=9*c
 wk:M.wh.map (·.1)=M.ls.map (·.1)
 hn:(M.hs.map (·.1)).Nodup
 hl:M.hs.length<=c
 hk:∀p∈M.hs,p.1∈M.ls.map (·.1)/\gU p.2.1
 ne:M.rows≠[]
 rl:M.rows.length<=n
 sg:∀s∈M.rows,s.length<=n/\∀r∈s,r.2.2.length<=61
theorem MsOk.mono{M:Ms}{c n b e:Nat}(h:MsOk M c n)(m:c<=b)(f:n<=e):MsOk M b e:=⟨⟨h.af.1,by have:=h.af.2;omega⟩,h.so,h.lt,by have:=h.cnt;omega,h.wk,h.hn,le_trans h.hl m,h.hk,h.ne,le_trans h.rl f,λs g=>⟨le_trans (h.sg s g).1 f,(h.sg s g).2⟩⟩
def M0:Ms:=⟨[],0,[],0,[[("from",0,[])]],0,[]⟩
theorem M0_ok:MsOk M0 0 1:=⟨⟨Int.le_refl _,Int.le_refl _⟩,List.Pairwise.nil,(λp b=>by cases b),le_refl _,rfl,List.nodup_nil,le_refl _,(λp b=>by cases b),by decide,le_refl _,λs e=>by
 rw[mem_singleton.mp e];exact⟨le_refl _,λr hr=>by rw[mem_singleton.mp hr];exact zero_le _⟩⟩
def Gg(b:Mr):Int:=(b.map λr=>7+(r.2.2.length:Int)).sum
def xG:Sp:=λf H Q _=>f=[]/\∀S e,aG H e->(∀b∈stL S,H b=none)->StAt e S M0->Q (.ref S.ps) e
inductive uF(vs:Mp)(H:Hp)(Q:VK)(x_3:XK):Prop
 |mk:∀(l:Addr)(rs:Mr)(xs:Mp),vs=[.ref l]->H l=some (.lst xs)->aQ H (rs.map cI) xs->rs.length<=100000->(∀H',aG H H'->Q (.int (Gg rs)) H')->uF vs H Q x_3
inductive qQ(vs:Mp)(H:Hp)(Q:VK)(x_3:XK):Prop
 |mk:∀(S:Sl)(M:Ms)(r:Mr)(rs:List (Mr)),vs=[.ref S.ps]->StAt H S M->M.rows=r::rs->(∀S' H',StepS S S' H H'->StAt H' S' {M with rows:=rs,first:=M.first+1}->Q .non H')->qQ vs H Q x_3
section
variable{H:Hp}{S:Sl}{M:Ms}
theorem StAt.g_letters(h:StAt H S M):cQ H S.ps (.str "letters") (some (.ref S.pl)):=cQ.k (k:=Sum.inr "letters") h.st
theorem StAt.g_after(h:StAt H S M):cQ H S.ps (.str "after") (some (.int M.after)):=cQ.k (k:=Sum.inr "after") h.st
theorem StAt.g_hands(h:StAt H S M):cQ H S.ps (.str "hands") (some (.ref S.ph)):=cQ.k (k:=Sum.inr "hands") h.st
theorem StAt.g_time(h:StAt H S M):cQ H S.ps (.str "time") (some (.int M.time)):=cQ.k (k:=Sum.inr "time") h.st
theorem StAt.g_rows(h:StAt H S M):cQ H S.ps (.str "rows") (some (.ref S.pr)):=cQ.k (k:=Sum.inr "rows") h.st
theorem StAt.g_first(h:StAt H S M):cQ H S.ps (.str "first") (some (.int M.first)):=cQ.k (k:=Sum.inr "first") h.st
theorem StAt.g_where(h:StAt H S M):cQ H S.ps (.str "where") (some (.ref S.pw)):=cQ.k (k:=Sum.inr "where") h.st
end
section
variable{P:Program}{w:World}{K:Ma}{mg:Mc}{base:Heap}{A:Ad}
theorem FV{f:Addr}{fd:Ml}(F:Fun K "_law_begin" "_law_begin" BF f fd):‹14› 1 f fd [] xG:=by
 refine F.okY [] λaj A' ag s H vs Q E hr nD0 h=>?_;obtain⟨rfl,q⟩:=h;refine⟨_,@aC _ _ _ (@aP _ _ _ _ (@Ji _ _ _ _ _ (@iX _ _ _ _ _ _ _ _ _ ‹30› (@iY _ _) (@iX _ _ _ _ _ _ _ _ _ ‹30› ‹43› (@iX _ _ _ _ _ _ _ _ _ ‹30› (@iY _ _) (@iX _ _ _ _ _ _ _ _ _ ‹30› ‹43› (@iX _ _ _ _ _ _ _ _ _ ‹30› (@cA _ _ _ _ (@eZ _ _ _ _ _ _ (@cA _ _ _ _ (@bF _ _ _ _ _ _ _ (@aU _ _ _ _ _ (@aI _ _ _ _ _ _ _ ‹30› (@aI _ _ _ _ _ _ _ ‹43› (@bF _ _ _ _ _ _ _ (@aU _ _ _ _ _ (@aF _)) (@aF _))))) (@aF _))) (@aF _))) (@iX _ _ _ _ _ _ _ _ _ ‹30› ‹43› (@iX _ _ _ _ _ _ _ _ _ ‹30› (@iY _ _) (@JZ _ _)))))))) ⋯ ⋯ (List.cons_ne_nil _ _) (by decide))),?_⟩;refine λJ W N y O t=>⟨aJ,λpe B=>⟨aJ,λpt u=>⟨aJ,λX r=>⟨aJ,λR p Y m=>?_⟩⟩⟩⟩;obtain⟨H1,g,Z,g1⟩:=gUU (o:=.dK []) W;rw[g]at y t B u r p m⊢;obtain⟨H2,g,s2,g2⟩:=gUU (o:=.dK []) y;rw[g]at t B u r p m⊢;obtain⟨H3,g,s3,g3⟩:=gUU (o:=.dK []) t;rw[g]at B u r p m⊢;obtain⟨H4,g,L,g4⟩:=gUU (o:=.tup []) B;rw[g]at u r p m⊢;obtain⟨H5,g,S,g5⟩:=gUU (o:=.tup [.str "from",.int 0,.ref pe]) u;rw[g]at r p m⊢;obtain⟨H6,g,s6,g6⟩:=gUU (o:=.lst [.ref pt]) r;rw[g]at p m⊢;obtain⟨H7,g,s7,g7⟩:=gUU (o:=.lst [.ref X]) p;rw[g]at m⊢;obtain⟨H8,g,s8,g8⟩:=gUU (o:=.dK []) m;rw[g];have aa:=s7.trans s8;have ab:=s6.trans aa;have ac:=S.trans ab;have ad:=L.trans ac;have ae:=s3.trans ad;have af:=s2.trans ae;have x:∀{c:Addr},H1 c=none->c≠J:=λh z=>by rw[z,g1]at h;cases h
 have n2:∀{c:Addr},H2 c=none->c≠N:=λh z=>by rw[z,g2]at h;cases h
 have n3:∀{c:Addr},H3 c=none->c≠O:=λh z=>by rw[z,g3]at h;cases h
 have n6:∀{c:Addr},H6 c=none->c≠X:=λh z=>by rw[z,g6]at h;cases h
 have n7:∀{c:Addr},H7 c=none->c≠R:=λh z=>by rw[z,g7]at h;cases h
 have f3:=s2.trans s3;have f5:=f3.trans (L.trans S);have f6:=f5.trans s6;have f7:=f6.trans s7;have D:=f5.free r;have G:=f6.free p;have I:=f7.free m;refine⟨af _ _ g1,[(Sum.inr "letters",.ref N),(Sum.inr "after",.int 0),(Sum.inr "hands",.ref O),(Sum.inr "time",.int 0),(Sum.inr "rows",.ref R),(Sum.inr "first",.int 0),(Sum.inr "where",.ref Y)],rfl,le_of_ble_eq_true rfl,?_⟩;have em:rB [] [((Sum.inr "letters" : Key),V.ref N),(Sum.inr "after",.int 0),(Sum.inr "hands",.ref O),(Sum.inr "time",.int 0),(Sum.inr "rows",.ref R),(Sum.inr "first",.int 0),(Sum.inr "where",.ref Y)]=stK ⟨J,N,O,R,Y,[X]⟩ M0:=rfl;rw[em];have U:∀{c:Addr}{o:HO},H8 c=some o->c≠J->upd H8 J (.dK (stK ⟨J,N,O,R,Y,[X]⟩ M0)) c=some o:=λe n=>by rw[aH n];exact e
 refine q ⟨J,N,O,R,Y,[X]⟩ _ (λb o e=>U ((Z.trans af) b o e) (bU e W)) (λb hb=>?_) ⟨aB,⟨[],U (ae _ _ g2) (x y),trivial⟩,⟨[],U (ad _ _ g3) (x (s2.free t)),trivial⟩,U (s8 _ _ g7) (x G),⟨⟨[.ref pt],U (aa _ _ g6) (x D),?_⟩,trivial⟩,U g8 (x I),?_⟩
 ·have hb:b∈[J,N,O,R,Y,X]:=hb;simp only[mem_cons,not_mem_nil,or_false]at hb;rcases hb with rfl |rfl |rfl |rfl |rfl |rfl
  ·exact W
  ·exact Z.free y
  ·exact(Z.trans s2).free t
  ·exact Z.free G
  ·exact Z.free I
  ·exact Z.free D
 ·have ah:pt≠J:=x ((f3.trans L).free u);have ai:pe≠J:=x (f3.free B);show aQ _ [cI ("from",0,[])] [.ref pt];unfold cI fP;simp only[Den,aQ,map_nil];exact⟨_,_,rfl,⟨pt,_,rfl,U (ab _ _ g5) ah,_,_,rfl,rfl,_,_,rfl,rfl,_,_,rfl,⟨pe,_,rfl,U (ac _ _ g4) ai,rfl⟩,rfl⟩,rfl⟩
 ·show List.Nodup [J,N,O,R,Y,X];have a1:=x y;have a2:=x (s2.free t);have a3:=x G;have a4:=x I;have a5:=x D;have b1:=n2 t;have b2:=n2 ((s3.trans (L.trans (S.trans s6))).free p);have b3:=n2 ((s3.trans (L.trans (S.trans (s6.trans s7)))).free m);have b4:=n2 ((s3.trans (L.trans S)).free r);have c1:=n3 ((L.trans (S.trans s6)).free p);have c2:=n3 ((L.trans (S.trans (s6.trans s7))).free m);have c3:=n3 ((L.trans S).free r);have d1:=n7 m;have d2:=n6 p;have d3:=n6 (s7.free m);simp only[nodup_cons,mem_cons,not_mem_nil,or_false,not_or,List.nodup_nil,and_true,not_false_eq_true];exact⟨⟨λz=>a1 z.symm,λz=>a2 z.symm,λz=>a3 z.symm,λz=>a4 z.symm,λz=>a5 z.symm⟩,⟨λz=>b1 z.symm,λz=>b2 z.symm,λz=>b3 z.symm,λz=>b4 z.symm⟩,⟨λz=>c1 z.symm,λz=>c2 z.symm,λz=>c3 z.symm⟩,⟨λz=>d1 z.symm,d2⟩,d3⟩
theorem HY{f:Addr}{B:Ml}(F:Fun K "_law_size" "_law_size" D3 f B)(T:‹2›):‹14› 1 f B ["_law_rows"] uF:=by
 refine F.okY ["_law_rows"] λN A' n s H vs Q E hr nD0 h=>?_;obtain⟨l,o,xs,rfl,g,d,hl,q⟩:=h;refine⟨_,@aC _ _ _ (@aP _ _ _ _ (@bL _ _ _ _ _ _ _ _ _ (nI K) ⋯ T.ax8 Am (@dZ _ _ _ _ _ _ _ _ (@cZ _ _ _ _ _ _ _ _ _ _ _ ["_law_row"] [] ⋯ (@bV _ K _ _ _ ‹31› ⋯) (λC s2 H2 ex=>(@bK _ _ (0) _ (show List.Nodup (["_law_row"]:Mg) by decide +kernel) ⋯ (Or.inl ⋯) ⋯)) (λC s2 H2 ex=>(@AD _)) (λC s2 H2 ex=>(@bD _ _ _ _ _ _ _ _ cW ‹43› (@bL _ _ _ _ _ _ _ _ _ (dI K) ⋯ T.ad8 gN (@aN _ _ _ _ _ _ _ (@cG _ _ _ _ _ _ _ (cV K) ‹31› ‹43› (λ_ _=>rfl)) (@aF _)) ⋯ ⋯ ⋯ ⋯))) ⋯ ⋯ ⋯ ⋯) (@aF _)) ⋯ ⋯ ⋯ ⋯)),?_⟩;have O:=d.length;rw[length_map]at O;refine⟨_,rfl,l,rfl,⟨_,SqL.of g⟩,?_⟩;refine cX (bP (K:=K) (SqL.of g)) (le_trans (show _<=100000 by omega) (by decide)) (λi y _=>∃r,o[i]? = some r/\y = .int (7+(r.2.2.length:Int))) (λ_ _ _ _ _ h=>h) (λR=>∃z,R = [z]) ⟨none,rfl⟩ ?_ ?_
 ·intro i x S H3 hi p G U Q' u;obtain⟨z,rfl⟩:=p;obtain⟨dd,m,W⟩:=d.get U;rw[getElem?_map]at m;cases e:o[i]? with
  |none=>rw[e]at m;cases m
  |some r=>
   rw[e]at m;cases m;obtain⟨t,b,rfl,X,Y⟩:=pB W;refine⟨_,rfl,t,_,_,.ref b,rfl,rfl,SqT.of (G _ _ X),bA (by decide) rfl,b,_,rfl,.inr (SqT.of (G _ _ Y)),_,_,rfl,rfl,?_⟩;rw[length_map];exact u _ _ _ ⟨_,rfl⟩ (aG.refl _) ⟨r,e,rfl⟩
 intro D I H2 hD Z gD J hR;have ey:I=(o.map λr=>7+(r.2.2.length:Int)).map V.int:=by
  apply ext_getElem?;intro j;cases L:I[j]? with
  |none=>
   have h1:=List.getElem?_eq_none_iff.mp L;rw[List.getElem?_eq_none_iff.mpr];rw[length_map,length_map];omega
  |some y=>
   obtain⟨r,e1,rfl⟩:=hR j y L;rw[getElem?_map,getElem?_map,e1];rfl
 subst ey;exact⟨D,_,rfl,.inl (SqL.of gD),q H2 Z⟩
theorem FT{f:Addr}{fd:Ml}(F:Fun K "_law_front_goes" "_law_front_goes" BD f fd):‹14› 1 f fd ["_law_state"] qQ:=by
 refine F.okY ["_law_state"] λah A' X s H vs Q E hr nD0 h=>?_;obtain⟨S,M,r,m,rfl,h,er,q⟩:=h;refine⟨_,@aA _ _ _ _ _ (@fN _ _ _ _ _ _ _ _ _ (hu1 hr.units) ‹31› ‹30› (@mG _ _ _ _ _ _ _ _ _ _ (uQ K) ‹23› (@m4 _ _ _ ‹43›) (@tF _)) ⋯) (@aC _ _ _ (@AC _ _ _ _ _ _ _ _ _ _ _ (hu1 hr.units) ‹31› ‹30› ‹43› (@vS _) (λ_ _ _=>⋯))),?_⟩;refine⟨_,rfl,S.ps,_,rfl,h.g_rows,_,rfl,S.pr,_,rfl,SqL.of h.rw,λp Y=>?_⟩;obtain⟨a0,g,t⟩:∃a0 g,S.rs=a0::g:=by
  have:=h.rr.len;rw[er,length_cons]at this;exact List.exists_cons_of_length_eq_add_one this
 have ec:sT (S.rs.map V.ref) (some 1) none=g.map V.ref:=by
  rw[zC (by rw[t,map_cons,length_cons];omega),t];rfl
 rw[ec];obtain⟨D,Z,s1,g1⟩:=gUU (o:=.lst (g.map V.ref)) Y;rw[Z];have y:=h.same s1;have O:=h.off Y;refine⟨_,rfl,S.ps,_,rfl,jQ.k (k:=Sum.inr "rows") y.st (by show 7<sizeLine;decide),?_⟩;have e2:eJ (stK S M) (Sum.inr "rows") (.ref p)=stK {S with pr:=p,rs:=g} M:=rfl;rw[e2];have g2:upd D S.ps (.dK (stK {S with pr:=p,rs:=g} M)) S.ps=some (.dK (stK {S with pr:=p,rs:=g} M)):=aB;have aa:=cB y (b:=S.ps) (by unfold stL;simp) (.dK (stK {S with pr:=p,rs:=g} M));have k2:∀c o,D c=some o->c≠S.ps->upd D S.ps (.dK (stK {S with pr:=p,rs:=g} M)) c=some o:=λc o e n=>by rw[aH n];exact e
 generalize upd D S.ps (.dK (stK {S with pr:=p,rs:=g} M))=H2 at g2 aa k2⊢;refine⟨_,rfl,S.ps,_,rfl,cQ.k (k:=Sum.inr "first") g2,_,_,rfl,rfl,_,jQ.k (k:=Sum.inr "first") g2 (by show 7<sizeLine;decide),?_⟩;have e3:eJ (stK {S with pr:=p,rs:=g} M) (Sum.inr "first") (.int (M.first+1))=stK {S with pr:=p,rs:=g} {M with rows:=m,first:=M.first+1}:=rfl;rw[e3];have R:=h.nd;unfold stL at R;rw[t]at R;simp only[nodup_cons,mem_cons,not_or]at R;obtain⟨⟨G,I,ai,J,aj,L⟩,⟨ab,ak,ac,al,ad⟩,⟨am,ae,an,af⟩,⟨ao,ap,aq⟩,⟨ar,ag⟩,au,N⟩:=R;unfold stL at O;rw[t]at O;simp only[mem_cons,not_or]at O;obtain⟨p0,p1,p2,p3,p4,p5,p6⟩:=O;have B:∀c o,D c=some o->c≠S.ps->upd H2 S.ps (.dK (stK {S with pr:=p,rs:=g} {M with rows:=m,first:=M.first+1})) c=some o:=λc o e n=>by rw[aH n];exact k2 c o e n
 have U:fX D (upd H2 S.ps (.dK (stK {S with pr:=p,rs:=g} {M with rows:=m,first:=M.first+1}))):=λb xs e=>B b _ e (λz=>by rw[z,y.st]at e;cases e);obtain⟨kl,l1,l2⟩:=y.ls;obtain⟨kh,l3,l4⟩:=y.hs;have rr:=y.rr;rw[er,t]at rr;refine q {S with pr:=p,rs:=g} _ ⟨rfl,λb o e nb=>B b o (s1 _ _ e) (λz=>nb (by unfold stL;rw[z];exact mem_cons_self)),λb W=>?_,(aG.tup s1).trans U⟩ ⟨aB,⟨kl,B _ _ l1 (λz=>G z.symm),l2.imp λa v=>pQ.t U⟩,⟨kh,B _ _ l3 (λz=>I z.symm),l4.imp λa v=>pU.t U⟩,B _ _ g1 p0,rr.2.keep U (λa ha o e=>B a o e (λz=>L (by rw[<- z];exact ha))),B _ _ y.wh (λz=>J z.symm),?_⟩
 ·have W:b∈S.ps::S.pl::S.ph::p::S.pw::g:=W;simp only[mem_cons]at W;unfold stL;rw[t];simp only[mem_cons];rcases W with z |z |z |z |z |z
  ·exact .inl (.inl z)
  ·exact .inl (.inr (.inl z))
  ·exact .inl (.inr (.inr (.inl z)))
  ·exact .inr (by rw[z];exact Y)
  ·exact .inl (.inr (.inr (.inr (.inr (.inl z)))))
  ·exact .inl (.inr (.inr (.inr (.inr (.inr (.inr z))))))
 ·show (S.ps::S.pl::S.ph::p::S.pw::g).Nodup;simp only[nodup_cons,mem_cons,not_or];exact⟨⟨G,I,λz=>p0 z.symm,J,L⟩,⟨ab,λz=>p1 z.symm,ac,ad⟩,⟨λz=>p2 z.symm,ae,af⟩,⟨p4,p6⟩,ag,N⟩
end
structure Nds(S:Sl):Prop where
 ps:S.ps≠S.pl/\S.ps≠S.ph/\S.ps≠S.pr/\S.ps≠S.pw/\S.ps∉S.rs
 pl:S.pl≠S.ph/\S.pl≠S.pr/\S.pl≠S.pw/\S.pl∉S.rs
 ph:S.ph≠S.pr/\S.ph≠S.pw/\S.ph∉S.rs
 pr:S.pr≠S.pw/\S.pr∉S.rs
 pw:S.pw∉S.rs
 rs:S.rs.Nodup
theorem nds:(stL S).Nodup ↔ Nds S:=by
 unfold stL;simp only[nodup_cons,mem_cons,not_or];exact⟨λ⟨a,b,c,d,e,f⟩=>⟨a,b,c,d,e,f⟩,λ⟨a,b,c,d,e,f⟩=>⟨a,b,c,d,e,f⟩⟩
section
variable{H:Hp}{S:Sl}{M:Ms}
theorem Lv:S.ps∈stL S:=mem_cons_self
theorem Ht:S.pl∈stL S:=mem_cons_of_mem _ mem_cons_self
theorem J6:S.ph∈stL S:=mem_cons_of_mem _ (mem_cons_of_mem _ mem_cons_self)
theorem Lw:S.pr∈stL S:=mem_cons_of_mem _ (mem_cons_of_mem _ (mem_cons_of_mem _ mem_cons_self))
theorem Lu:S.pw∈stL S:=mem_cons_of_mem _ (mem_cons_of_mem _ (mem_cons_of_mem _ (mem_cons_of_mem _ mem_cons_self)))
theorem m_rs(h:a∈S.rs):a∈stL S:=mem_append_right [S.ps,S.pl,S.ph,S.pr,S.pw] h
theorem StAt.setF(h:StAt H S M)(b:Ms)(f:b.ls=M.ls)(g:b.hs=M.hs)(m:b.rows=M.rows)(p:b.wh=M.wh):StAt (upd H S.ps (.dK (stK S b))) S b:=by
 have n:=nds.mp h.nd;have st:=cB h Lv (.dK (stK S b));obtain⟨q,r,s⟩:=h.ls;obtain⟨t,u,x⟩:=h.hs;refine⟨aB,⟨q,by rw[aH n.ps.1.symm];exact r,by rw[f];exact s.imp λa v=>pQ.t st.tup⟩,⟨t,by rw[aH n.ps.2.1.symm];exact u,by rw[g];exact x.imp λa v=>pU.t st.tup⟩,by rw[aH n.ps.2.2.1.symm];exact h.rw,by rw[m];exact h.rr.keep st.tup (λa y o e=>by rw[aH (λz=>n.ps.2.2.2.2 (by rw[<- z];exact y))];exact e),by rw[aH n.ps.2.2.2.1.symm,p];exact h.wh,h.nd⟩
theorem StAt.setL(h:StAt H S M)(r:TR (pQ H) f b):StAt (upd H S.pl (.dK b)) S {M with ls:=f}:=by
 have n:=nds.mp h.nd;have st:=cB h Ht (.dK b);obtain⟨g,m,p⟩:=h.hs;exact⟨by rw[aH n.ps.1];exact h.st,⟨b,aB,r.imp λa v=>pQ.t st.tup⟩,⟨g,by rw[aH n.pl.1.symm];exact m,p.imp λa v=>pU.t st.tup⟩,by rw[aH n.pl.2.1.symm];exact h.rw,h.rr.keep st.tup (λa q o e=>by rw[aH (λz=>n.pl.2.2.2 (by rw[<- z];exact q))];exact e),by rw[aH n.pl.2.2.1.symm];exact h.wh,h.nd⟩
theorem StAt.setH(h:StAt H S M)(r:TR (pU H) f b):StAt (upd H S.ph (.dK b)) S {M with hs:=f}:=by
 have n:=nds.mp h.nd;have st:=cB h J6 (.dK b);obtain⟨g,m,p⟩:=h.ls;exact⟨by rw[aH n.ps.2.1];exact h.st,⟨g,by rw[aH n.pl.1];exact m,p.imp λa v=>pQ.t st.tup⟩,⟨b,aB,r.imp λa v=>pU.t st.tup⟩,by rw[aH n.ph.1.symm];exact h.rw,h.rr.keep st.tup (λa q o e=>by rw[aH (λz=>n.ph.2.2 (by rw[<- z];exact q))];exact e),by rw[aH n.ph.2.1.symm];exact h.wh,h.nd⟩
theorem StAt.setW(h:StAt H S M)(b:List (Int×Int)):StAt (upd H S.pw (.dK (wsK b))) S {M with wh:=b}:=by
 have n:=nds.mp h.nd;have st:=cB h Lu (.dK (wsK b));obtain⟨f,g,m⟩:=h.ls;obtain⟨p,q,r⟩:=h.hs;exact⟨by rw[aH n.ps.2.2.2.1];exact h.st,⟨f,by rw[aH n.pl.2.2.1];exact g,m.imp λa v=>pQ.t st.tup⟩,⟨p,by rw[aH n.ph.2.1];exact q,r.imp λa v=>pU.t st.tup⟩,by rw[aH n.pr.1];exact h.rw,h.rr.keep st.tup (λa s o e=>by rw[aH (λz=>n.pw (by rw[<- z];exact s))];exact e),aB,h.nd⟩
theorem StAt.addSeg(h:StAt H S M)(g:H m=some (.lst u))(d:aQ H (r.map cI) u)(B:m∉stL S):StAt (upd H S.pr (.lst ((S.rs++[m]).map V.ref))) {S with rs:=S.rs++[m] } {M with rows:=M.rows++[r] }:=by
 have n:=nds.mp h.nd;have st:=cB h Lw (.lst ((S.rs++[m]).map V.ref));obtain⟨D,E,G⟩:=h.ls;obtain⟨I,J,L⟩:=h.hs;have f:=B;unfold stL at f;simp only[mem_cons,not_or]at f;obtain⟨N,p2,O,t,Q,R⟩:=f;refine⟨by rw[aH n.ps.2.2.1];exact h.st,⟨D,by rw[aH n.pl.2.1];exact E,G.imp λa v=>pQ.t st.tup⟩,⟨I,by rw[aH n.ph.1];exact J,L.imp λa v=>pU.t st.tup⟩,aB,RsR.snoc (by rw[aH t];exact g) (gK st.tup (jX _) d) (h.rr.keep st.tup (λa q o e=>by rw[aH (λz=>n.pr.2 (by rw[<- z];exact q))];exact e)),by rw[aH n.pr.1.symm];exact h.wh,nds.mpr ?_⟩;have p:∀{x:Addr},x∉S.rs->m≠x->x∉S.rs++[m]:=λa b z=>by
  rw[mem_append,mem_singleton]at z;exact z.elim a (λy=>b y.symm)
 refine⟨⟨n.ps.1,n.ps.2.1,n.ps.2.2.1,n.ps.2.2.2.1,p n.ps.2.2.2.2 N⟩,⟨n.pl.1,n.pl.2.1,n.pl.2.2.1,p n.pl.2.2.2 p2⟩,⟨n.ph.1,n.ph.2.1,p n.ph.2.2 O⟩,⟨n.pr.1,p n.pr.2 t⟩,p n.pw Q,?_⟩;rw[nodup_append];refine⟨n.rs,by simp,λa q b U=>?_⟩;rw[mem_singleton.mp U];exact λz=>R (by rw[<- z];exact q)
theorem StAt.addRow(h:StAt H S M)(N:M.rows=b++[q])(eS:S.rs=s++[a])(hr:RsR H b s)(O:H a=some (.lst f))(y:aQ H (q.map cI) f)(B:Den H (cI r) v):StAt (upd H a (.lst (f++[v]))) S {M with rows:=b++[q++[r]] }:=by
 have n:=nds.mp h.nd;have u:a∈S.rs:=by rw[eS];exact mem_append_right _ (mem_singleton.mpr rfl)
 have st:=cB h (m_rs u) (.lst (f++[v]));obtain⟨D,E,G⟩:=h.ls;obtain⟨I,J,L⟩:=h.hs;have g:∀{x:Addr},x∉S.rs->x≠a:=λm z=>m (by rw[z];exact u);have p:∀x∈s,x≠a:=λx m z=>by
  have:=n.rs;rw[eS,nodup_append]at this;exact this.2.2 x m a (mem_singleton.mpr rfl) z
 refine⟨by rw[aH (g n.ps.2.2.2.2)];exact h.st,⟨D,by rw[aH (g n.pl.2.2.2)];exact E,G.imp λa v=>pQ.t st.tup⟩,⟨I,by rw[aH (g n.ph.2.2)];exact J,L.imp λa v=>pU.t st.tup⟩,by rw[aH (g n.pr.2)];exact h.rw,?_,by rw[aH (g n.pw)];exact h.wh,h.nd⟩;rw[eS];refine RsR.snoc aB ?_ (hr.keep st.tup λx m o e=>by rw[aH (p x m)];exact e);rw[map_append];exact(gK st.tup (jX _) y).app (kJ (Eg st.tup (lB _ _ _) B))
end
abbrev A8:Stmt:=top 77
def jE(M:Ms):Mr:=M.rows.getLastD []
def dQ(M:Ms)(b:Int):Ms:=if b<=Gg (jE M) then {M with rows:=M.rows++[([("from",M.after,[])]:Mr)] } else M
def sP(k:Str):Bool:=inV (.str k) [V.str "put",.str "part",.str "carried"]
def fD(M:Ms)(r:Rw):Ms:={M with rows:=M.rows.dropLast++[jE M++[r]],wh:=if sP r.1=true then sL M.wh r.2.1 (M.first+(M.rows.length:Int)-1) else M.wh}
def dJ(M:Ms)(e:Mr)(b:Int):Ms:=e.foldl fD (dQ M b)
inductive jT(vs:Mp)(H:Hp)(Q:VK)(x_3:XK):Prop
 |mk:∀(S:Sl)(M:Ms)(l:Addr)(rs:Mr)(xs:Mp)(most:Int)(n:Nat),vs=[.ref S.ps,.ref l,.int most]->StAt H S M->M.rows≠[]->M.rows.length<=n->(∀s∈M.rows,s.length<=n)->n+rs.length<=90000->M.wh.length+rs.length<=90000->H l=some (.lst xs)->l∉stL S->aQ H (rs.map cI) xs->(∀S' H',StepS S S' H H'->StAt H' S' (dJ M rs most)->Q .non H')->jT vs H Q x_3
theorem lJ{b : Type}{l:List b}(h:l≠[])(d:b):l=l.dropLast++[l.getLastD d]:=by
 obtain⟨a,x,rfl⟩:∃a x,l=a++[x]:=⟨l.dropLast,l.getLast h,(List.dropLast_concat_getLast h).symm⟩;rw[List.dropLast_concat,List.getLastD_concat]
theorem EJ(f:M.rows≠[])(g:M.rows.length<=n)(e:∀s∈M.rows,s.length<=n):(dQ M most).rows≠[]/\(dQ M most).rows.length<=n+1/\(∀s∈(dQ M most).rows,s.length<=n+1)/\(dQ M most).wh=M.wh:=by
 unfold dQ;split
 ·refine⟨by simp,by rw[length_append];show M.rows.length+1<=_;omega,λs b=>?_,rfl⟩;rcases mem_append.mp b with z |z
  ·have:=e s z;omega
  ·rw[mem_singleton.mp z];show 1<=n+1;omega
 ·exact⟨f,by omega,λs b=>by have:=e s b;omega,rfl⟩
theorem wJ(M:Ms)(r:Rw)(h:M.rows≠[]):(fD M r).rows≠[]/\(fD M r).rows.length=M.rows.length/\(fD M r).wh.length<=M.wh.length+1/\∀n,(∀s∈M.rows,s.length<=n)->∀s∈(fD M r).rows,s.length<=n+1:=by
 have e:=lJ h [];refine⟨by unfold fD;simp,?_,?_,λn f s b=>?_⟩
 ·show (M.rows.dropLast++[jE M++[r]]).length=_;have:=congrArg List.length e;rw[length_append]at this;rw[length_append];show M.rows.dropLast.length+1=_;exact this.symm
 ·unfold fD;show (if sP r.1=true then sL M.wh r.2.1 (M.first+(M.rows.length:Int)-1) else M.wh).length<=_;split
  ·unfold sL;split
   ·rw[length_map];omega
   ·rw[length_append];exact le_refl _
  ·omega
 ·have b:s∈M.rows.dropLast++[jE M++[r]]:=b;rcases mem_append.mp b with z |z
  ·have:=f s (by rw[e];exact mem_append_left _ z);omega
  ·rw[mem_singleton.mp z,length_append];have:=f (jE M) (by rw[e];exact mem_append_right _ (mem_singleton.mpr rfl));show (jE M).length+1<=_;omega
section
variable{P:Program}{w:World}{K:Ma}{mg:Mc}{base:Heap}{A:Ad}
theorem FO(F:Fun K "_law_write" "_law_write" A8 f fd)(T:‹2›)(ax:‹15› "_law_size" 1 ["_law_rows"] uF):‹14› 2 f fd ["_law_state","_law_rows","_law_most"] jT:=by
 refine F.okY ["_law_state","_law_rows","_law_most","_law_row"] λbf A' ay s H vs Q E hr nD0 h=>?_;obtain⟨S,M,l,D,xs,g,n,rfl,h,aj,az,ak,hn,hw,gl,nl,dl,q⟩:=h;refine⟨_,aA (bE (aW HS (bC ax ‹18› bB (aN (cG (cK K) ‹20› (yE qI aM) (λ_ _=>rfl)) aF)) (pv 2) (bJ _))
   (aC (aX (iZ K PySem.F.plainAttrs_list PySem.F.slot_list_append PySem.F.type_list_append iM ‹20› (eZ (cA (bF (aU (aI bR (aN ‹20› ‹50›))) aF)) aF))))
   aO)
  (aC (fQ (kB eE) ⋯ (bV K (pv 1)) ‹56›
   (aA (aX (iZ K PySem.F.plainAttrs_list PySem.F.slot_list_append PySem.F.type_list_append iM (cG (cK K) ‹20› (yE qI aM) (λ_ _=>rfl)) ‹53›))
   (aC (bE (aW (HR K) ‹38› (aU ‹94›) ⋯)
    (aC (fN (hu1 hr.units) ‹20› ‹38› (bD lG (bD cW ‹20› (bL (dI K) ⋯ T.ad8 gN ‹92›)) aM) ⋯))
    aO))))),?_⟩
 obtain⟨p,W⟩:∃p,p=M.rows.dropLast:=⟨_,rfl⟩;have eM:M.rows=p++[jE M]:=by rw[W];exact lJ aj []
 obtain⟨as,a,a0,eS,bg,ga,d0⟩:=RsR.split (by rw[<- eM];exact h.rr);have bh:(jE M).length<=n:=ak _ (by rw[eM];exact mem_append_right _ (mem_singleton.mpr rfl));obtain⟨o1,o2,o3,o4⟩:=EJ (most:=g) aj az ak;refine Gk (λal O=>∃m,al=[some (.ref S.ps),some (.ref l),some (.int g),none]/\StepS S m H O/\StAt O m (dQ M g)/\O l=some (.lst xs)/\l∉stL m/\aQ O (D.map cI) xs) (λnx am=>?_) ?_
 ·refine⟨_,rfl,S.ps,_,rfl,h.g_rows,1,rfl,S.pr,_,_,.ref a,rfl,rfl,SqL.of h.rw,(by rw[eS,map_append];exact CP _ _),a,jE M,a0,rfl,ga,d0,by omega,λH1 X=>?_⟩;have R:=h.same X;refine⟨_,rfl,_,_,rfl,rfl,_,rfl,?_⟩;by_cases hm:g<=Gg (jE M)
  ·rw[decide_eq_true hm];refine aZ ⟨_,rfl,S.ps,_,rfl,R.g_rows,.inl ⟨rfl,_,SqL.of R.rw⟩,_,rfl,S.ps,_,rfl,R.g_after,aJ,λpe a1=>⟨aJ,λY an=>⟨aJ,λJ u=>?_⟩⟩⟩;obtain⟨H2,Z,v1,w1⟩:=gUU (o:=.tup []) a1;rw[Z]at an u⊢;obtain⟨H3,Z,v2,w2⟩:=gUU (o:=.tup [.str "from",.int M.after,.ref pe]) an;rw[Z]at u⊢;have v3:=aD (o:=.lst [.ref Y]) u;have w3:upd H3 J (.lst [.ref Y]) J=some (.lst [.ref Y]):=aB;have h3:=R.same (v1.trans v2);have np:=h3.off u;generalize upd H3 J (.lst [.ref Y])=H4 at v3 w3⊢;have s4:=X.trans (v1.trans (v2.trans v3));have h4:=h.same s4;have dg:aQ H4 (([("from",M.after,[])]:Mr).map cI) [.ref Y]:=by
    show aQ _ [cI ("from",M.after,[])] [.ref Y];unfold cI fP;simp only[Den,aQ,map_nil];exact⟨_,_,rfl,⟨Y,_,rfl,v3 _ _ w2,_,_,rfl,rfl,_,_,rfl,rfl,_,_,rfl,⟨pe,_,rfl,v3 _ _ (v2 _ _ w1),rfl⟩,rfl⟩,rfl⟩
   refine⟨S.pr,_,.ref J,rfl,rfl,h4.rw,?_,?_⟩
   ·rw[length_map,h4.rr.len];exact lt_of_le_of_lt (show _<=90000 by omega) (by decide)
   rw[show S.rs.map V.ref++[.ref J]=(S.rs++[J]).map V.ref by rw[map_append];rfl];have h5:=h4.addSeg w3 dg np;have aa:=cB h4 Lw (.lst ((S.rs++[J]).map V.ref));have a2:l≠S.pr:=λz=>nl (by rw[z];exact Lw);refine am _ _ ⟨{S with rs:=S.rs++[J] },rfl,⟨rfl,λb o e nb=>aa.frm b o (s4 _ _ e) nb,λb L=>?_,(aG.tup s4).trans aa.tup⟩,?_,by rw[aH a2];exact s4 _ _ gl,λz=>?_,gK ((aG.tup s4).trans aa.tup) (jX _) dl⟩
   ·have L:b∈[S.ps,S.pl,S.ph,S.pr,S.pw]++(S.rs++[J]):=L;rw[<- append_assoc,mem_append,mem_singleton]at L;rcases L with z |z
    ·exact .inl z
    ·rw[z];exact .inr ((X.trans (v1.trans v2)).free u)
   ·unfold dQ;rw[if_pos hm];exact h5
   ·have L:l∈[S.ps,S.pl,S.ph,S.pr,S.pw]++(S.rs++[J]):=z;rw[<- append_assoc,mem_append,mem_singleton]at L;rcases L with z |z
    ·exact nl z
    ·rw[z]at gl;rw[(X.trans (v1.trans v2)) _ _ gl]at u;cases u
  ·rw[decide_eq_false hm];refine bH (am _ _ ⟨S,rfl,aG.stepS X,?_,X _ _ gl,nl,dl.same X⟩);unfold dQ;rw[if_neg hm];exact R
 rintro al H1 ⟨m,rfl,G,R,ao,a3,ap⟩;have ln:=ap.length;rw[length_map]at ln;obtain⟨M1,aq⟩:∃M1,M1=dQ M g:=⟨_,rfl⟩;rw[<- aq]at R o1 o2 o3 o4;refine⟨_,rfl,l,rfl,⟨_,SqL.of ao⟩,?_⟩;refine kH (bP (K:=K) (H:=upd (λ_=>none) l (.lst xs)) (SqL.of aB)) (λi σ O=>∃z3,σ = [some (.ref S.ps),some (.ref l),some (.int g),z3]/\StepS m m H1 O/\StAt O m ((D.take i).foldl fD M1)/\((D.take i).foldl fD M1).rows≠[]/\((D.take i).foldl fD M1).rows.length=M1.rows.length/\((D.take i).foldl fD M1).wh.length<=M.wh.length+i/\(∀s∈((D.take i).foldl fD M1).rows,s.length<=n+1+i)) ⟨none,rfl,aG.stepS (aG.refl _),R,o1,rfl,by rw[<- o4];exact le_refl _,o3⟩ (λi σ O hh b o e=>?_) ?_ ?_
 ·obtain⟨_,_,st,_⟩:=hh;by_cases y:b=l
  ·subst y;rw[aB]at e;injection e with e
   rw[<- e];exact st.frm _ _ ao a3
  ·rw[aH y]at e;cases e
 ·rintro D' i x σ H5 H6 ar-hi ⟨z3,rfl,st,a4,ab,ac,a5,N⟩ s6 hx;have hx:xs[i]? = some x:=hx;have hi:i<xs.length:=hi;have au:=st.trans (aG.stepS s6);obtain⟨dd,ad,dr⟩:=(gK au.tup (jX _) ap).get hx;rw[getElem?_map]at ad;obtain⟨r,er⟩:∃r,D[i]? = some r:=⟨_,getElem?_eq_getElem (by omega)⟩;rw[er]at ad;cases ad;obtain⟨t,bb,rfl,gt,gb⟩:=pB dr;have I:(D.take (i+1)).foldl fD M1=fD ((D.take i).foldl fD M1) r:=by
   rw[take_succ,er];show ((D.take i++[r]).foldl fD M1)=_;rw[List.foldl_append];rfl
  have h6:=a4.same s6;obtain⟨B,ba⟩:∃B,B=(D.take i).foldl fD M1:=⟨_,rfl⟩;rw[<- ba]at h6 ab ac a5 N I;have ae:B.rows=B.rows.dropLast++[jE B]:=lJ ab [];obtain⟨bi,a6,af,ag,bc,ah,d6⟩:=RsR.split (by rw[<- ae];exact h6.rr);have be:(jE B).length<=n+1+i:=N _ (by rw[ae];exact mem_append_right _ (mem_singleton.mpr rfl));have l6:=d6.length;rw[length_map]at l6;refine⟨_,rfl,m.ps,_,(by rw[G.ps]),h6.g_rows,1,rfl,m.pr,_,_,.ref a6,rfl,rfl,SqL.of h6.rw,(by rw[ag,map_append];exact CP _ _),.inl ⟨rfl,_,SqL.of ah⟩,_,rfl,a6,af,.ref t,rfl,rfl,ah,lt_of_le_of_lt (show _<=200000 by omega) (by decide),?_⟩;have h7:=h6.addRow (v:=.ref t) (r:=r) ae ag bc ah d6 dr;have ai:=cB h6 (m_rs (by rw[ag];exact mem_append_right _ (mem_singleton.mpr rfl))) (.lst (af++[.ref t]));generalize upd H6 a6 (.lst (af++[.ref t]))=H7 at h7 ai⊢;have av:=ai.tup _ _ gt;refine⟨_,rfl,t,_,_,.str r.1,rfl,rfl,SqT.of av,bA (by decide) rfl,aJ,new_o λpk H8 v8 w8=>?_⟩;have U:=h7.same v8;have aw:=au.trans (ai.trans (aG.stepS v8));obtain⟨b1,b2,b3,b4⟩:=wJ B r ab;refine⟨pk,_,rfl,.inr (SqT.of w8),rfl,rfl,_,rfl,?_⟩;show if sP r.1=true then _ else _
  cases L:sP r.1 with
  |true=>
   refine aZ ⟨_,rfl,m.ps,_,(by rw[G.ps]),U.g_first,_,rfl,m.ps,_,(by rw[G.ps]),U.g_rows,m.pr,_,rfl,.inl (SqL.of U.rw),_,_,rfl,rfl,_,_,rfl,rfl,_,rfl,m.ps,_,(by rw[G.ps]),U.g_where,_,rfl,t,_,_,.int r.2.1,rfl,rfl,SqT.of (v8 _ _ av),bA (by decide) rfl,m.pw,_,rfl,jQ.k (k:=Sum.inl r.2.1) U.wh ?_,?_⟩
   ·unfold wsK;rw[length_map];exact lt_of_le_of_lt (show B.wh.length<=90000 by omega) (by decide)
   have el:((m.rs.map V.ref).length:Int)=(B.rows.length:Int):=by rw[length_map,h6.rr.len]
   rw[el,Iy];have h9:=U.setW (sL B.wh r.2.1 (B.first+(B.rows.length:Int)-1));have bd:=cB U Lu (.dK (wsK (sL B.wh r.2.1 (B.first+(B.rows.length:Int)-1))));refine ar _ _ ⟨_,rfl,aw.trans bd,?_,by rw[I];exact b1,by rw[I,b2];exact ac,by rw[I];omega,by rw[I];exact λs hs=>b4 _ N s hs⟩;rw[I];unfold fD;rw[if_pos L];exact h9
  |false=>
   refine bH (ar _ _ ⟨_,rfl,aw,?_,by rw[I];exact b1,by rw[I,b2];exact ac,by rw[I];omega,by rw[I];exact λs hs=>b4 _ N s hs⟩);rw[I];unfold fD;rw[if_neg (by rw[L];decide)];exact U
 rintro σ H5 ⟨z3,rfl,st,h5,_⟩;rw[ln,take_length,aq]at h5;exact q m H5 (G.trans st) h5
end
abbrev A9:Stmt:=top 78
abbrev Gu:Stmt:=top 79
def l7(M:Ms):Mf:=(M.ls.map (·.1)).filter λn=>decide (n∉M.hs.map (·.1))
def tY(b:La)(n:Int):Int:=((gF b n).getD ([],0)).2
def gB(M:Ms)(b:Int):Mf:=(l7 M).filter λn=>decide (tY M.ls n<b)
theorem nC:∀{b:La}{n:Int}{a:Mf×Int},(b.map (·.1)).Nodup->(n,a)∈b->gF b n=some a
 |[],_,_,_,h=>by cases h
 |p::b,n,a,e,h=>by
  rw[map_cons,nodup_cons]at e;unfold gF;rw[find?_cons];rcases mem_cons.mp h with y |y
  ·rw[<- y,decide_eq_true rfl];rfl
  ·rw[decide_eq_false (λz=>e.1 (by rw[z];exact mem_map_of_mem (f:=(·.1)) y))];exact nC e.2 y
inductive qM(vs:Mp)(H:Hp)(Q:VK)(x_3:XK):Prop
 |mk:∀(S:Sl)(M:Ms)(tries:Int),vs=[.ref S.ps,.int tries]->StAt H S M->(M.ls.map (·.1)).Pairwise (· < ·)->M.ls.length<=1000->(∀p p1 p2 H',aG H H'->H' p=some (.tup [.ref p1,.ref p2])->H' p1=some (.lst ((gB M tries).map V.int))->H' p2=some (.lst (((l7 M).filter λn=>decide (n∉gB M tries)).map V.int))->H p1=none->H p2=none->Q (.ref p) H')->qM vs H Q x_3
def f9(M:Ms)(b:Mf):Ms:={M with ls:=gC M.ls M.after (b,0),after:=M.after+1}
def vB(M:Ms)(e:Md)(f:Mr)(b:Int):Ms:=e.foldl f9 (dJ M f b)
inductive zW(vs:Mp)(H:Hp)(Q:VK)(x_3:XK):Prop
 |mk:∀(S:Sl)(M:Ms)(ab l:Addr)(bss:Md)(ys:Mp)(rs:Mr)(xs:Mp)(most:Int)(n:Nat),vs=[.ref S.ps,.ref ab,.int most,.ref l]->StAt H S M->M.rows≠[]->M.rows.length<=n->(∀s∈M.rows,s.length<=n)->n+rs.length<=90000->M.wh.length+rs.length<=90000->H l=some (.lst xs)->l∉stL S->aQ H (rs.map cI) xs->(H ab=some (.lst ys)\/H ab=some (.tup ys))->ab∉stL S->aQ H (dF bss) ys->M.ls.length+bss.length<=90000->(∀S' H',StepS S S' H H'->StAt H' S' (vB M bss rs most)->Q .non H')->zW vs H Q x_3
theorem As:∀(b:Mr)(M:Ms),(b.foldl fD M).ls=M.ls/\(b.foldl fD M).hs=M.hs/\(b.foldl fD M).after=M.after/\(b.foldl fD M).time=M.time/\(b.foldl fD M).first=M.first
 |[],M=>⟨rfl,rfl,rfl,rfl,rfl⟩
 |r::b,M=>As b (fD M r)
theorem Jl(M:Ms)(b:Int):(dQ M b).ls=M.ls/\(dQ M b).hs=M.hs/\(dQ M b).after=M.after/\(dQ M b).time=M.time/\(dQ M b).first=M.first:=by
 unfold dQ;split <;> exact⟨rfl,rfl,rfl,rfl,rfl⟩
theorem fK(M:Ms)(g:Mr)(f:Int):(dJ M g f).ls=M.ls/\(dJ M g f).hs=M.hs/\(dJ M g f).after=M.after/\(dJ M g f).time=M.time/\(dJ M g f).first=M.first:=by
 obtain⟨a,b,c,d,e⟩:=As g (dQ M f);obtain⟨m,n,o,p,q⟩:=Jl M f;exact⟨a.trans m,b.trans n,c.trans o,d.trans p,e.trans q⟩
theorem CN:∀(e:Md)(M:Ms),(e.foldl f9 M).ls.length<=M.ls.length+e.length
 |[],M=>le_refl _
 |b::e,M=>by
  have h:=CN e (f9 M b);have:(f9 M b).ls.length<=M.ls.length+1:=by
   show (gC M.ls M.after (b,0)).length<=_;unfold gC;split
   ·rw[length_map];omega
   ·rw[length_append];exact le_refl _
  rw[length_cons];show (e.foldl f9 (f9 M b)).ls.length<=_;omega
section
variable{P:Program}{w:World}{K:Ma}{mg:Mc}{base:Heap}{A:Ad}
theorem FP(F:Fun K "_law_ready" "_law_ready" A9 f fd)(T:‹2›):‹14› 1 f fd ["_law_state","_law_tries"] qM:=by
 refine F.okY ["_law_state","_law_tries","_law_some","_law_ready_here"] λao A' ai s H vs Q E hr nD0 h=>?_;obtain⟨S,M,g,rfl,h,so,hl,q⟩:=h;refine⟨_,aA (lE (i:=2) ["_law_number"] [("_law_state",0)] nD0 ⋯ ⋯ ⋯ (bV K ‹85›) ‹39› (λC s2 H2 ex=>(hG (oA (m6 (hu1 hr.units) (pv 0) (dO (hu1 hr.units) (pv 1) bR (λ_ _=>rfl)))))) ‹67›)
  (aA (a9 (i:=3) nD0 ⋯ ⋯ (cZ ["_law_number"] [("_law_state",0),("_law_tries",1)] ⋯ (bV K (pv 2)) (λC s2 H2 ex=>(bK (i:=0) (show List.Nodup (["_law_number","_law_state","_law_tries"]:Mg) by decide +kernel) ⋯ (Or.inl ⋯))) (λC s2 H2 ex=>(hG (aW vI (cG (cV K) ‹47› aM (λ_ _=>rfl)) (pv 2) (bJ _)))) ‹67›))
  (aC (aP (aU (aE (pv 3) (dZ (cZ ["_law_number"] [("_law_ready_here",3)] ⋯ (bV K (pv 2)) (λC s2 H2 ex=>(bK (i:=0) (show List.Nodup (["_law_number","_law_ready_here"]:Mg) by decide +kernel) ⋯ (Or.inl ⋯))) (λC s2 H2 ex=>(hG (aW (kC K) (pv 0) (pv 1) ⋯))) ‹67›) aF)))))),?_⟩
 obtain⟨kl,l1,l2⟩:=h.ls;obtain⟨kh,l3,l4⟩:=h.hs;refine⟨_,rfl,S.ps,_,rfl,h.g_letters,S.pl,kl,M.ls.map (·.1),rfl,l1,l2.keys,.inr (so.imp Int.le_of_lt),by rw[length_map];omega,λp ms X pw hp=>?_⟩;have em:ms=M.ls.map (·.1):=eQ X pw (so.imp Int.le_of_lt);subst em;obtain⟨H1,aj,s1,g1⟩:=gUU (o:=.lst ((M.ls.map (·.1)).map V.int)) hp;rw[aj];obtain⟨I,O⟩:∃I,I=M.ls.map (·.1):=⟨_,rfl⟩;have lk:I.length<=1000:=by rw[O,length_map];exact hl
 rw[<- O]at g1;have Y:l7 M=I.filter λn=>decide (n∉M.hs.map (·.1)):=by rw[O];rfl
 refine⟨p,rfl,⟨_,SqL.of g1⟩,?_⟩;refine fS (bP (K:=K) (SqL.of g1)) (by rw[length_map];exact le_trans lk (by decide)) (λj=>decide (I.getD j 0∉M.hs.map (·.1))) (λj=>V.int (I.getD j 0)) (λZ=>∃z,Z = [z,some (.ref S.ps)]) ⟨none,rfl⟩ ?_ ?_
 ·intro j x aa H3 hj D G r Q1 Q2 Q3 u y;obtain⟨z,rfl⟩:=D;rw[getElem?_map]at r;cases e:I[j]? with
  |none=>rw[e]at r;cases r
  |some n=>
   rw[e]at r;cases r;have eg:I.getD j 0=n:=by rw[getD_eq_getElem?_getD,e];rfl
   rw[eg]at u y;have R:=h.same (s1.trans G);have dg:=cQ.k (k:=Sum.inl n) ((s1.trans G) _ _ l3);refine⟨_,rfl,_,rfl,S.ps,_,rfl,R.g_hands,S.ph,_,rfl,dg,_,rfl,?_⟩;by_cases m:n∈M.hs.map (·.1)
   ·obtain⟨a,v,_,ev,_⟩:=l4.look m;rw[ev];exact bH (y _ ⟨_,rfl⟩ (decide_eq_false (λz=>z m)))
   ·rw[(l4.no m).1];exact aZ ⟨_,rfl,u _ ⟨_,rfl⟩ (decide_eq_true m)⟩
 intro ab H2 an s2 U;rw[length_map,gH I (λn=>decide (n∉M.hs.map (·.1))),<- Y]at U;obtain⟨B,J⟩:∃B,B=l7 M:=⟨_,rfl⟩;rw[<- J]at U q;have ak:∀n∈B,n∈M.ls.map (·.1):=λn m=>by
  rw[J]at m;exact(mem_filter.mp m).1
 have ac:B.length<=1000:=by
  rw[J,Y];exact le_trans (length_filter_le _ _) lk
 have S2:=s1.trans s2;obtain⟨L,ad⟩:∃L,L=tY M.ls:=⟨_,rfl⟩;have al:∀n:Int,n∈M.ls.map (·.1)->∃t b,dD kl (Sum.inl n)=some (.ref t)/\H t=some (.tup [.ref b,.int (L n)]):=λn m=>by
  obtain⟨a,v,ha,ev,t,b,e1,e2,_⟩:=l2.look m;have nd:(M.ls.map (·.1)).Nodup:=so.imp λa b=>by omega
  have:L n=a.2:=by
   rw[ad];unfold tY;rw[nC nd ha];rfl
  exact⟨t,b,by rw[ev,e1],by rw[this];exact e2⟩
 refine⟨_,rfl,ab,rfl,⟨_,SqL.of U⟩,?_⟩;refine fS (bP (K:=K) (SqL.of U)) (by rw[length_map];exact le_trans ac (by decide)) (λj=>decide (L (B.getD j 0)<g)) (λj=>V.int (B.getD j 0)) (λZ=>∃z,Z = [z,some (.ref S.ps),some (.int g)]) ⟨none,rfl⟩ ?_ ?_
 ·intro j x aa H3 hj D G r Q1 Q2 Q3 u y;obtain⟨z,rfl⟩:=D;rw[getElem?_map]at r;cases e:B[j]? with
  |none=>rw[e]at r;cases r
  |some n=>
   rw[e]at r;cases r;have eg:B.getD j 0=n:=by rw[getD_eq_getElem?_getD,e];rfl
   rw[eg]at u y;have R:=h.same (S2.trans G);obtain⟨t,b,ev,gt⟩:=al n (ak n (mem_of_getElem? e));have dg:=cQ.k (k:=Sum.inl n) ((S2.trans G) _ _ l1);rw[ev]at dg;refine⟨_,rfl,S.ps,_,rfl,R.g_letters,_,rfl,S.pl,_,rfl,dg,t,_,_,.int (L n),rfl,rfl,SqT.of ((S2.trans G) _ _ gt),bA (by decide) rfl,_,rfl,_,_,rfl,rfl,_,rfl,?_⟩;by_cases m:L n<g
   ·rw[decide_eq_true m];exact aZ ⟨_,rfl,u _ ⟨_,rfl⟩ (decide_eq_true m)⟩
   ·rw[decide_eq_false m];exact bH (y _ ⟨_,rfl⟩ (decide_eq_false m))
 intro N H3 ae G g3;rw[length_map,gH B (λn=>decide (L n<g))]at g3;have S3:=S2.trans G;refine⟨_,rfl,_,rfl,ab,rfl,⟨_,SqL.of (G _ _ U)⟩,?_⟩;obtain⟨W,af⟩:∃W,W=B.filter (λn=>decide (L n<g)):=⟨_,rfl⟩;rw[<- af]at g3;refine fS (bP (K:=K) (SqL.of (G _ _ U))) (by rw[length_map];exact le_trans ac (by decide)) (λj=>decide (B.getD j 0∉W)) (λj=>V.int (B.getD j 0)) (λZ=>∃z,Z = [z,some (.ref N)]) ⟨none,rfl⟩ ?_ ?_
 ·intro j x aa H4 hj D s4 r Q1 Q2 Q3 u y;obtain⟨z,rfl⟩:=D;rw[getElem?_map]at r;cases e:B[j]? with
  |none=>rw[e]at r;cases r
  |some n=>
   rw[e]at r;cases r;have eg:B.getD j 0=n:=by rw[getD_eq_getElem?_getD,e];rfl
   rw[eg]at u y;refine⟨_,rfl,_,rfl,N,_,rfl,.inl (SqL.of (s4 _ _ g3)),rfl,nF _,_,rfl,?_⟩;rw[if_pos rfl,pS];by_cases m:n∈W
   ·rw[decide_eq_true m];exact bH (y _ ⟨_,rfl⟩ (decide_eq_false (λz=>z m)))
   ·rw[decide_eq_false m];exact aZ ⟨_,rfl,u _ ⟨_,rfl⟩ (decide_eq_true m)⟩
 intro ag H4 ah s4 g4;rw[length_map,gH B (λn=>decide (n∉W))]at g4;refine⟨aJ,λpt am=>?_⟩;have s5:=aD (o:=.tup [.ref N,.ref ag]) am;have S5:=S3.trans (s4.trans s5);have er:gB M g=W:=by
  unfold gB;rw[af,ad,J]
 refine q pt N ag _ S5 aB ?_ ?_ (S2.free ae) (S3.free ah)
 ·rw[er];exact s5 _ _ (s4 _ _ g3)
 ·rw[er];exact s5 _ _ g4
theorem Fg(h:StAt p S M)(N:aQ p (dF e) O)(hl:M.ls.length+e.length<=90000)(k0:∀g,StepS S S p g->aG H0 g)
  (E:∀R:It->Hp->Prop,(∀J,Src J H0 O.length (λi x _=>O[i]? = some x)->R J p)->wi [some (.ref S.ps),some (.ref ab),some most,some (.ref l),q] p R)
  (go:∀g q,StepS S S p g->StAt g S (e.foldl f9 M)->D.nx [some (.ref S.ps),some (.ref ab),some most,some (.ref l),q] g) :
  LC wi (sE 4) (wM (Kg (Dm (nJ 0) (tC (V.str "letters"))) (Dm (nJ 0) (tC (V.str "after"))) (JB (eW (nJ 4) (eW (tC (V.int 0)) lR)))) (Kh (nJ 0) (tC (V.str "after")) (tC (V.int 1)) LY)) D [some (.ref S.ps),some (.ref ab),some most,some (.ref l),q] p:=by
 have G:=N.length;unfold dF at G;rw[length_map]at G;refine E _ λJ S0=>?_;refine kH S0 (λi y g=>∃q,y = [some (.ref S.ps),some (.ref ab),some most,some (.ref l),q]/\StepS S S p g/\StAt g S ((e.take i).foldl f9 M)) ⟨_,rfl,aG.stepS (aG.refl _),h⟩ (λi y g hh=>by obtain⟨_,_,st,_⟩:=hh;exact k0 g st) ?_ ?_
 ·rintro D' i x y Q H6 H-hi ⟨q,rfl,st,z⟩ U hx;have r:=st.trans (aG.stepS U);have W:=z.same U;obtain⟨dd,m,X⟩:=N.get hx;unfold dF at m;rw[getElem?_map]at m;obtain⟨b,Y⟩:∃b,e[i]? = some b:=⟨_,getElem?_eq_getElem (by omega)⟩;rw[Y]at m;cases m;simp only[Den]at X;obtain⟨pb,zs,rfl,gb,dz⟩:=X;have ez:=cC.mp dz;subst ez;have Z:(e.take (i+1)).foldl f9 M=f9 ((e.take i).foldl f9 M) b:=by
   rw[take_succ,Y];show ((e.take i++[b]).foldl f9 M)=_;rw[List.foldl_append];rfl
  have o:((e.take i).foldl f9 M).ls.length<=90000:=by
   have:=CN (e.take i) M;rw[length_take]at this;omega
  obtain⟨f,I⟩:∃f,f=(e.take i).foldl f9 M:=⟨_,rfl⟩;rw[<- I]at W Z o;refine⟨_,rfl,aJ,new_o λB H7 L w1=>?_⟩;have s:=W.same L;obtain⟨kl,l1,l2⟩:=s.ls;refine⟨_,rfl,S.ps,_,rfl,s.g_letters,_,rfl,S.ps,_,rfl,s.g_after,S.pl,_,rfl,jQ.k (k:=Sum.inl f.after) l1 (by rw[l2.len];exact lt_of_le_of_lt o (by decide)),?_⟩;have t:=s.setL (l2.put (n:=f.after) (a:=(b,0)) (v:=.ref B) ⟨B,pb,rfl,w1,L _ _ (r.tup _ _ gb)⟩);have u:=cB s Ht (.dK (eJ kl (Sum.inl f.after) (.ref B)));generalize upd H7 S.pl (.dK (eJ kl (Sum.inl f.after) (.ref B)))=H8 at t u⊢;refine⟨_,rfl,S.ps,_,rfl,t.g_after,_,_,rfl,rfl,_,jQ.k (k:=Sum.inr "after") t.st (by show 7<sizeLine;decide),?_⟩;have e9:eJ (stK S {f with ls:=gC f.ls f.after (b,0)}) (Sum.inr "after") (.int (f.after+1))=stK S (f9 f b):=rfl;rw[e9];refine H _ _ ⟨_,rfl,r.trans ((aG.stepS L).trans (u.trans (cB t Lv _))),?_⟩;rw[Z];exact t.setF (f9 f b) rfl rfl rfl rfl
 ·rintro y Q ⟨q,rfl,st,z⟩;rw[G,take_length]at z;exact go Q _ st z
theorem Jt(F:Fun K "_law_put" "_law_put" Gu f fd)(T:‹2›)(X:‹7›):‹14› 3 f fd ["_law_state","_law_bodies","_law_most","_law_rows"] zW:=by
 refine F.okY ["_law_state","_law_bodies","_law_most","_law_rows","_law_body"] λag A' Y s H vs Q E hr nD0 h=>?_;obtain⟨S,M,r,l,t,O,rs,xs,m,n,rfl,h,Z,aa,ac,hn,hw,gl,nl,dl,G,z,I,J,q⟩:=h;refine⟨_,aA (aX (bC X ‹18› bB (aE (pv 0) (aE (pv 3) ‹37›))))
  (aC (fQ (kB eE) ⋯ (Ja K (pv 1)) ‹74›
   (aA (fN (hu1 hr.units) ‹20› ‹20› (aU (aE (pv 4) ‹46›)) ⋯)
   (aC (AC (hu1 hr.units) (pv 0) bR aM vS (λ_ _ _=>⋯)))))),?_⟩
 refine⟨_,rfl,_,rfl,_,rfl,S,M,l,rs,xs,m,n,rfl,h,Z,aa,ac,hn,hw,gl,nl,dl,λS1 U p h1=>?_⟩;have e1:=(fK M rs m).1;have ad:fE (dF t)=true:=by
  clear I J q
  induction t with
  |nil=>rfl
  |cons b t W=>
   show (lU (.tuple (b.map .int)) && fE (dF t))=true;rw[W];have:fE (b.map PyData.int)=true:=by
    clear W
    induction b with
    |nil=>rfl
    |cons x b W=>exact W
   show (fE (b.map PyData.int) && true)=true;rw[this];rfl
 have ae:=gK p.tup ad I;have L:U r=some (.lst O)\/U r=some (.tup O):=G.imp (λg=>p.frm _ _ g z) (λg=>p.frm _ _ g z);obtain⟨o,eo,af⟩:∃o,U r=some o/\(o = .lst O\/o = .tup O):=by
  rcases L with g |g
  ·exact⟨_,g,.inl rfl⟩
  ·exact⟨_,g,.inr rfl⟩
 have N:r∉stL S1:=by
  rcases G with g |g
  ·exact p.not g z
  ·exact p.not g z
 rw[<- p.ps];show LC (iSeq K (nJ 1)) (sE 4) _ {nx:=λx B=>Q V.non B,rt:=Q} [some (.ref S1.ps),some (.ref r),some (.int m),some (.ref l),none] U;refine Fg (D:={nx:=λx B=>Q V.non B,rt:=Q}) (ab:=r) (l:=l) (most:=.int m) (H0:=upd (λ_=>none) r o) h1 ae (by rw[e1];exact J) (λB st b u e=>?_) (λR hR=>?_) λB z4 st h'=>q S1 B (p.trans st) h'
 ·by_cases y:b=r
  ·subst y;rw[aB]at e;injection e with e
   rw[<- e];exact st.frm _ _ eo N
  ·rw[aH y]at e;cases e
 ·refine⟨_,rfl,r,rfl,?_⟩;rcases af with rfl |rfl
  ·exact .inl ⟨⟨_,SqL.of eo⟩,hR _ (bP (SqL.of aB))⟩
  ·exact .inr ⟨⟨_,SqT.of eo⟩,hR _ (s0 (SqT.of aB))⟩
end
def lO(b:List (Mr))(n:Nat):Prop:=b≠[]/\b.length<=n/\∀s∈b,s.length<=n/\∀r∈s,r.2.2.length<=61
theorem MsOk.rows(h:MsOk M c n):lO M.rows n:=⟨h.ne,h.rl,h.sg⟩
theorem FE(h:lO M.rows n):lO (dQ M e).rows (n+1):=by
 obtain⟨a,b,c,_⟩:=EJ (most:=e) h.1 h.2.1 λs f=>(h.2.2 s f).1;refine⟨a,b,λs f=>⟨c s f,?_⟩⟩;unfold dQ at f;split at f
 ·rcases mem_append.mp f with z |z
  ·exact(h.2.2 s z).2
  ·rw[mem_singleton.mp z];intro r hr;rw[mem_singleton.mp hr];exact zero_le _
 ·exact(h.2.2 s f).2
theorem GE(h:lO M.rows n)(hr:r.2.2.length<=61):lO (fD M r).rows (n+1):=by
 obtain⟨a,b,_,d⟩:=wJ M r h.1;refine⟨a,by rw[b];exact le_succ_of_le h.2.1,λs f=>⟨d n (λs f=>(h.2.2 s f).1) s f,?_⟩⟩;have e:=lJ h.1 [];have f:s∈M.rows.dropLast++[jE M++[r]]:=f;rcases mem_append.mp f with z |z
 ·exact(h.2.2 s (by rw[e];exact mem_append_left _ z)).2
 ·rw[mem_singleton.mp z];intro x g;rcases mem_append.mp g with y |y
  ·exact(h.2.2 (jE M) (by rw[e];exact mem_append_right _ (mem_singleton.mpr rfl))).2 x y
  ·rw[mem_singleton.mp y];exact hr
theorem yU:∀{rs:Mr}{M:Ms}{n:Nat},lO M.rows n->(∀r∈rs,r.2.2.length<=61)->lO (rs.foldl fD M).rows (n+rs.length)
 |[],M,n,h,_=>h
 |r::rs,M,n,h,hr=>by
  have:=yU (rs:=rs) (GE (r:=r) h (hr r mem_cons_self)) λx b=>hr x (mem_cons_of_mem _ b);rw[length_cons];rw[show n+(rs.length+1)=n+1+rs.length by omega];exact this
theorem tQ(h:lO M.rows n)(hr:∀r∈rs,r.2.2.length<=61):lO (dJ M rs most).rows (n+1+rs.length):=yU (FE h) hr
theorem AF(M:Ms)(b:Int):(dQ M b).wh=M.wh:=by
 unfold dQ;split <;> rfl
theorem MsOk.write1(h:MsOk M c n)(g:r.2.2.length<=61)(m:sP r.1=true->r.2.1∈M.ls.map (·.1)):MsOk (dJ M [r] most) c (n+2):=by
 obtain⟨b,e,f,s,t⟩:=fK M [r] most;have hr:=tQ (rs:=[r]) (most:=most) h.rows (λx o=>by rw[mem_singleton.mp o];exact g);have p:(dJ M [r] most).wh.map (·.1)=M.ls.map (·.1):=by
  show (if sP r.1=true then sL (dQ M most).wh r.2.1 ((dQ M most).first+((dQ M most).rows.length:Int)-1) else (dQ M most).wh).map (·.1)=_;rw[AF];split
  ·rename_i q;rw[E9 _ (by rw[h.wk];exact m q),h.wk]
  ·exact h.wk
 exact⟨by rw[f];exact h.af,by rw[b];exact h.so,by rw[b,f];exact h.lt,by rw[b];exact h.cnt,by rw[b];exact p,by rw[e];exact h.hn,by rw[e];exact h.hl,by rw[b,e];exact h.hk,hr.1,hr.2.1,hr.2.2⟩
def eY(w:Str)(k:Int):Md->Mr
 |[]=>[]
 |b::e=>(w,k,b)::eY w (k+1) e
theorem kA(w:Str):∀(k:Int)(e:Md),(eY w k e).length=e.length
 |_,[]=>rfl
 |k,b::e=>by rw[length_cons,<- kA w (k+1) e];rfl
theorem oE:∀{k:Int}{e:Md}{r:Rw},r∈eY w k e->r.2.2∈e
 |_,[],_,h=>by cases h
 |k,b::e,r,h=>by
  rcases mem_cons.mp h with z |z
  ·rw[z];exact mem_cons_self
  ·exact mem_cons_of_mem _ (oE z)
theorem yG:∀{bs:Md}{k:Int}{i:Nat}{b:Mf},bs[i]? = some b->(eY w k bs)[i]? = some (w,k+(i:Int),b)
 |[],_,i,b,h=>by cases h
 |e::bs,k,0,b,h=>by
  cases h;show some (w,k,e)=some (w,k+((0:Nat):Int),e);rw[show k+((0:Nat):Int)=k by omega]
 |e::bs,k,i+1,b,h=>by
  have:=yG (w:=w) (k:=k+1) (bs:=bs) (i:=i) (b:=b) h;show (eY w (k+1) bs)[i]? = _;rw[this,show k+1+(i:Int)=k+((i+1:Nat):Int) by omega]
theorem EI(hw:sP w=true):∀(f:Md)(k:Int)(M:Ms),(∀p∈M.wh,p.1<k)->((eY w k f).foldl fD M).wh.map (·.1)=M.wh.map (·.1)++(eY w k f).map (·.2.1)
 |[],k,M,_=>by
  show M.wh.map (·.1)=M.wh.map (·.1)++[];rw[append_nil]
 |b::f,k,M,h=>by
  have n:k∉M.wh.map (·.1):=λz=>by
   obtain⟨p,g,e⟩:=mem_map.mp z;have:=h p g;omega
  have m:(fD M (w,k,b)).wh=M.wh++[(k,M.first+(M.rows.length:Int)-1)]:=by
   show (if sP w=true then _ else _)=_;rw[if_pos hw,HB _ n]
  have o:=EI hw f (k+1) (fD M (w,k,b)) (λp g=>by
   rw[m]at g;rcases mem_append.mp g with z |z
   ·have:=h p z;omega
   ·rw[mem_singleton.mp z];show k<k+1;omega)
  show ((eY w (k+1) f).foldl fD (fD M (w,k,b))).wh.map (·.1)=_;rw[o,m,map_append,append_assoc];rfl
theorem DY:∀(f:Md)(M:Ms)(w:Str),(∀p∈M.ls,p.1<M.after)->((f.foldl f9 M).ls=M.ls++(eY w M.after f).map (λr=>(r.2.1,(r.2.2,(0:Int)))))
 |[],M,w,_=>by
  show M.ls=M.ls++[];rw[append_nil]
 |b::f,M,w,h=>by
  have n:M.after∉M.ls.map (·.1):=λz=>by
   obtain⟨p,g,e⟩:=mem_map.mp z;have:=h p g;omega
  have m:(f9 M b).ls=M.ls++[(M.after,(b,0))]:=vA _ n;have o:=DY f (f9 M b) w (λp g=>by
   rw[m]at g;show p.1<M.after+1;rcases mem_append.mp g with z |z
   ·have:=h p z;omega
   ·rw[mem_singleton.mp z];show M.after<M.after+1;omega)
  show (f.foldl f9 (f9 M b)).ls=_;rw[o,m,append_assoc];rfl
theorem qC:∀(g:Md)(M:Ms),(g.foldl f9 M).after=M.after+(g.length:Int)/\(g.foldl f9 M).hs=M.hs/\(g.foldl f9 M).time=M.time/\(g.foldl f9 M).rows=M.rows/\(g.foldl f9 M).first=M.first/\(g.foldl f9 M).wh=M.wh
 |[],M=>⟨(Int.add_zero _).symm,rfl,rfl,rfl,rfl,rfl⟩
 |b::g,M=>by
  obtain⟨a,m,c,d,e,f⟩:=qC g (f9 M b);refine⟨a.trans ?_,m,c,d,e,f⟩;rw[length_cons];show M.after+1+(g.length:Int)=M.after+((g.length+1:Nat):Int);omega
theorem lF:∀{e:Md}{k:Int}{x:Int},x∈(eY w k e).map (·.2.1)->k<=x/\x<k+(e.length:Int)
 |[],k,x,h=>by cases h
 |b::e,k,x,h=>by
  rw[length_cons];rcases mem_cons.mp (show x∈k::(eY w (k+1) e).map (·.2.1) from h) with z |z
  ·omega
  ·have:=lF z;omega
theorem BX:∀(e:Md)(k:Int),((eY w k e).map (·.2.1)).Pairwise (· < ·)
 |[],k=>List.Pairwise.nil
 |b::e,k=>by
  show (k::(eY w (k+1) e).map (·.2.1)).Pairwise (· < ·);refine List.pairwise_cons.mpr ⟨λx f=>?_,BX e (k+1)⟩;have:=lF f;omega
theorem MsOk.put(h:MsOk M c n)(hw:sP w=true)(u:∀b∈bs,b.length<=60)(hl:bs.length<=9)(ht:tl.length<=1)(m:∀r∈tl,sP r.1=false/\r.2.2.length<=61):MsOk (vB M bs (eY w M.after bs++tl) most) (c+1) (n+11):=by
 unfold vB;obtain⟨G,y,B,U,V⟩:=fK M (eY w M.after bs++tl) most;have W:(eY w M.after bs++tl).length<=10:=by rw[length_append,kA];omega
 have hr:=tQ (rs:=eY w M.after bs++tl) (most:=most) h.rows (λx H=>by
  rcases mem_append.mp H with z |z
  ·exact le_succ_of_le (u _ (oE z))
  ·exact(m x z).2)
 have I:∀p∈M.wh,p.1<M.after:=λp g=>by
  have:p.1∈M.wh.map (·.1):=mem_map_of_mem g;rw[h.wk]at this;obtain⟨q,J,e⟩:=mem_map.mp this;rw[<- e];exact(h.lt q J).2.1
 have X:∀(tl:Mr)(o:Ms),(∀r∈tl,sP r.1=false/\r.2.2.length<=61)->(tl.foldl fD o).wh=o.wh:=by
  intro tl
  induction tl with
  |nil=>intro o _;rfl
  |cons r tl Y=>
   intro o R;show (tl.foldl fD (fD o r)).wh=_;rw[Y _ λx H=>R x (mem_cons_of_mem _ H)];show (if sP r.1=true then _ else _)=_;rw[(R r mem_cons_self).1];rfl
 have S:(dJ M (eY w M.after bs++tl) most).wh.map (·.1)=M.ls.map (·.1)++(eY w M.after bs).map (·.2.1):=by
  unfold dJ;rw[List.foldl_append,X _ _ m,EI hw bs M.after (dQ M most) (by rw[AF];exact I),AF,h.wk]
 generalize dJ M (eY w M.after bs++tl) most=M1 at G y B U V hr S⊢;obtain⟨D,L,f3,N,f5,Z⟩:=qC bs M1;have E:=DY bs M1 w (by rw[G,B];exact λp g=>(h.lt p g).2.1);rw[G,B]at E;rw[B]at D;have O:(bs.foldl f9 M1).ls.map (·.1)=M.ls.map (·.1)++(eY w M.after bs).map (·.2.1):=by
  rw[E,map_append,map_map];rfl
 have aa:=h.af;refine⟨⟨by rw[D];omega,by rw[D];omega⟩,?_,λp g=>?_,?_,by rw[Z,S,O],by rw[L,y];exact h.hn,by rw[L,y];have:=h.hl;omega,λp g=>?_,by rw[N];exact hr.1,by rw[N];have:=hr.2.1;omega,λs Q=>?_⟩
 ·rw[O,List.pairwise_append];refine⟨h.so,BX _ _,λa ha b u=>?_⟩;obtain⟨q,J,e⟩:=mem_map.mp ha;have:=(h.lt q J).2.1;have:=lF u;omega
 ·rw[E]at g;rw[D];rcases mem_append.mp g with z |z
  ·have:=h.lt p z;exact⟨this.1,by have:=this.2.1;omega,this.2.2⟩
  ·obtain⟨r,t,e⟩:=mem_map.mp z;have k1:=lF (mem_map_of_mem (f:=λr:Rw=>r.2.1) t);rw[<- e];exact⟨by show 0<=r.2.1;omega,k1.2,u _ (oE t)⟩
 ·rw[E,length_append,length_map,kA];have:=h.cnt;omega
 ·rw[L,y]at g;rw[O];exact⟨mem_append_left _ (h.hk p g).1,(h.hk p g).2⟩
 ·rw[N]at Q;exact⟨by have:=(hr.2.2 s Q).1;omega,(hr.2.2 s Q).2⟩
theorem gS{e : Type}(b:List (Int×e))(n:Int):(b.filter λp=>decide (p.1≠n)).map (·.1)=(b.map (·.1)).filter λk=>decide (k≠n):=by
 rw[filter_map];rfl
theorem MsOk.dropH(h:MsOk M c n):MsOk {M with hs:=M.hs.filter λp=>decide (p.1≠k)} c n:=
 ⟨h.af,h.so,h.lt,h.cnt,h.wk,by show ((M.hs.filter λp=>decide (p.1≠k)).map (·.1)).Nodup;rw[gS];exact h.hn.filter _,le_trans (length_filter_le _ _) h.hl,λp b=>h.hk p (mem_filter.mp b).1,h.ne,h.rl,h.sg⟩
theorem MsOk.dropL(h:MsOk M c n)(e:k∉M.hs.map (·.1)):MsOk {M with ls:=M.ls.filter (λp=>decide (p.1≠k)),wh:=M.wh.filter λp=>decide (p.1≠k)} c n:=by
 refine⟨h.af,?_,λp b=>h.lt p (mem_filter.mp b).1,le_trans (length_filter_le _ _) h.cnt,?_,h.hn,h.hl,λp b=>⟨?_,(h.hk p b).2⟩,h.ne,h.rl,h.sg⟩
 ·show ((M.ls.filter λp=>decide (p.1≠k)).map (·.1)).Pairwise _;rw[gS];exact h.so.filter _
 ·show (M.wh.filter λp=>decide (p.1≠k)).map (·.1)=(M.ls.filter λp=>decide (p.1≠k)).map (·.1);rw[gS,gS,h.wk]
 ·show p.1∈(M.ls.filter λp=>decide (p.1≠k)).map (·.1);rw[gS];exact mem_filter.mpr ⟨(h.hk p b).1,decide_eq_true λz=>e (by rw[<- z];exact mem_map_of_mem b)⟩
abbrev BC:Stmt:=top 81
section
variable{P:Program}{w:World}{K:Ma}{mg:Mc}{base:Heap}{A:Ad}
theorem EQ{q:Addr}{H f:Hp}{S:Sl}{M:Ms}{c n:Nat}{x:Str}{k b:Int}{ns:Mf}{o g p2:Addr}{R:Hp->Prop}{E:XK}(p:q=S.ps)(h:StAt H S M)(ok:MsOk M c n)(G:n<=80000)(I:c<=100)(r:aG H f)(t:f p2=some (.lst [.ref g]))(u:f g=some (.tup [.str x,.int k,.ref o]))(y:f o=some (.tup (ns.map V.int)))(z:H p2=none)
  (go:∀m e,StepS S m H e->StAt e m (dJ M [(x,k,ns)] b)->R e):jT [.ref q,.ref p2,.int b] f (λ_ e=>R e) E:=by
 refine⟨S,M,p2,[(x,k,ns)],[.ref g],b,n,by rw[p],h.same r,ok.ne,ok.rl,λs B=>(ok.sg s B).1,?_,?_,t,h.off z,?_,λm e st D=>go m e ((aG.stepS r).trans st) D⟩
 ·show n+1<=90000;omega
 ·have:=congrArg List.length ok.wk;rw[length_map,length_map]at this;have:=ok.cnt;show M.wh.length+1<=90000;omega
 ·refine kJ ?_;unfold cI fP;simp only[Den,aQ];exact⟨g,_,rfl,u,_,_,rfl,rfl,_,_,rfl,rfl,_,_,rfl,⟨o,_,rfl,y,cC.mpr rfl⟩,rfl⟩
theorem AI{H:Hp}{S:Sl}{M:Ms}{c n:Nat}{x:Str}{k e:Int}{R:Hp->Prop}{E:XK}(h:StAt H S M)(ok:MsOk M c n)(y:n<=80000)(z:c<=100)(go:∀t m,StepS S t H m->StAt m t (dJ M [(x,k,[])] e)->R m){f p p2:Addr}(r:H f=none)(q:upd H f (.tup []) p=none)(b:upd (upd H f (.tup [])) p (.tup [.str x,.int k,.ref f]) p2=none) :
  jT [.ref S.ps,.ref p2,.int e] (upd (upd (upd H f (.tup [])) p (.tup [.str x,.int k,.ref f])) p2 (.lst [.ref p])) (λ_ m=>R m) E:=by
 obtain⟨G,g,u,B⟩:=gUU (o:=.tup []) r;rw[g]at q b⊢;obtain⟨H2,g,s2,D⟩:=gUU (o:=.tup [.str x,.int k,.ref f]) q;rw[g]at b⊢;have s:=aD (o:=.lst [.ref p]) b;exact EQ (ns:=[]) rfl h ok y z (u.trans (s2.trans s)) aB (s _ _ D) ((s2.trans s) _ _ B) ((u.trans s2).free b) go
def eF(M:Ms):Ab:=⟨M.ls,M.after,M.hs,M.time⟩
def Ir(S:Sl)(H:Hp)(c n:Nat)(a:Ab)(Q:VK):Prop:=∀f b e v,StepS S f H e->StAt e f b->MsOk b c n->eF b=a->Q v e
def Fy(a:Ab)(y x:Str)(k:Int):Ab:=if (bY a.hs k).map (·.1)=some x then (if y = "done" then {a with ls:=dropL a.ls k,hs:=a.hs.filter λp=>decide (p.1≠k)} else {a with hs:=a.hs.filter λp=>decide (p.1≠k)}) else a
theorem pO:∀{b:Mt}{n:Int}{a:Str×Int},(b.map (·.1)).Nodup->(n,a)∈b->bY b n=some a
 |[],_,_,_,h=>by cases h
 |p::b,n,a,e,h=>by
  rw[map_cons,nodup_cons]at e;unfold bY;rw[find?_cons];rcases mem_cons.mp h with y |y
  ·rw[<- y,decide_eq_true rfl];rfl
  ·rw[decide_eq_false (λz=>e.1 (by rw[z];exact mem_map_of_mem (f:=(·.1)) y))];exact pO e.2 y
theorem Bt{b:Mt}{n:Int}(h:n∉b.map (·.1)):bY b n=none:=by
 unfold bY;rw[map_eq_none_iff,find?_eq_none];intro p e z;exact h (by rw[<- of_decide_eq_true z];exact mem_map_of_mem e)
inductive qP(vs:Mp)(H:Hp)(Q:VK)(x_3:XK):Prop
 |mk:∀(S:Sl)(M:Ms)(d:Addr)(most:Int)(y x:Str)(k:Int)(c n:Nat),vs=[.ref S.ps,.ref d,.int most]->StAt H S M->MsOk M c n->n<=80000->c<=100->H d=some (.tup [.str y,.str x,.int k])->x ≠ ""->Ir S H c (n+2) (Fy (eF M) y x k) Q->qP vs H Q x_3
theorem FS(F:Fun K "_law_given" "_law_given" BC f fd)(T:‹2›)(X:‹7›):‹14› 3 f fd ["_law_state","_law_deed_here","_law_most"] qP:=by
 refine F.okY ["_law_state","_law_deed_here","_law_most","_law_word","_law_hand","_law_number"] λai A' Y s H vs Q E hr nD0 h=>?_;obtain⟨S,M,d,b,y,x,k,c,n,rfl,h,ok,hn,hc,gd,hx,q⟩:=h;refine⟨_,aA (qX (pv 1) (iH K (n:=3) (cJ ‹56› (cJ ‹74› (cJ (bK (i:=5) nD0 ⋯ ⋯) iG)))))
  (aA (bE (aW yH (cG (cV K) (iZ K PySem.F.plainAttrs_dict PySem.F.slot_dict_get PySem.F.type_dict_get (Hl (hu1 hr.units)) ‹20› (aE (pv 5) (bF (aU (aI bR ‹46›)) aF))) aM (λ_ _=>rfl)) (pv 4) (bJ _))
   (aC (aP bR))
   aO)
  (aA (bE ‹54›
   (aA (aX (bC X ‹18› bB (aE (pv 0) (eZ (cA (bF (aU (aI bR (aE (pv 5) ‹50›))) aF)) ‹37›))))
   (aA ‹78›
   (aC ‹78›)))
   aO)
  (aA ‹78›
  ‹69›))),?_⟩
 obtain⟨kl,l1,l2⟩:=h.ls;obtain⟨kh,l3,l4⟩:=h.hs;refine⟨_,rfl,d,_,rfl,SqT.of gd,rfl,_,_,rfl,_,_,rfl,_,_,rfl,rfl,?_⟩;refine⟨_,rfl,S.ps,_,rfl,h.g_hands,.inr (.inr (.inl ⟨rfl,.inl ⟨_,l3⟩⟩)),_,rfl,aJ,new_o λpt Z I g1=>?_⟩;have hv:∃t z tt,(dD kh (Sum.inl k)).getD (.ref pt) = .ref t/\Z t=some (.tup [.str z,.int tt])/\(k∉M.hs.map (·.1)->z = "")/\(k∈M.hs.map (·.1)->bY M.hs k=some (z,tt)):=by
  by_cases m:k∈M.hs.map (·.1)
  ·obtain⟨a,v,ha,L,t,N,B⟩:=l4.look m;exact⟨t,a.1,a.2,by rw[L,N];rfl,I _ _ B,λz=>absurd m z,λ_=>pO ok.hn ha⟩
  ·rw[(l4.no m).1];exact⟨pt,"",0,rfl,g1,λ_=>rfl,λz=>absurd z m⟩
 obtain⟨t,z,tt,et,gt,hz,O⟩:=hv;have h1:=h.same I;refine⟨S.ph,_,_,_,rfl,rfl,cQ.k (k:=Sum.inl k) (I _ _ l3),t,_,_,.str z,et,rfl,SqT.of gt,bA (by decide) rfl,?_⟩;refine⟨_,rfl,rfl,_,rfl,?_⟩;show if (!decide (V.str z=V.str x))=true then _ else _
 by_cases o:z=x
 ·rw[show (!decide (V.str z=V.str x))=false by rw[decide_eq_true (by rw[o])];rfl];refine bH ?_;have m:k∈M.hs.map (·.1):=by
   apply Classical.byContradiction;intro y;exact hx (by rw[<- o];exact hz y)
  have hy:(bY (eF M).hs k).map (·.1)=some x:=by
   show (bY M.hs k).map (·.1)=some x;rw[O m,<- o];rfl
  have tail:∀g M1 H2,StepS S g H H2->StAt H2 g M1->M1.hs=M.hs->eF {M1 with hs:=M1.hs.filter λp=>decide (p.1≠k)}=Fy (eF M) y x k->MsOk {M1 with hs:=M1.hs.filter λp=>decide (p.1≠k)} c (n+2)->wM (KZ (tBM K "dict" G6 (Dm (nJ 0) (tC (V.str "hands"))) (eW (nJ 5) lR))) (tRet (tC V.non)) {nx:=λx H'=>Q V.non H',rt:=Q} [some (.ref S.ps),some (.ref d),some (.int b),some (.str y),some (.str x),some (.int k)] H2:=by
   intro g M1 H2 st u B ea aa;obtain⟨ab,a3,a4⟩:=u.hs;obtain⟨_,v,_,L,_⟩:=a4.look (n:=k) (by rw[B];exact m);exact⟨_,rfl,g.ps,_,(by rw[st.ps]),u.g_hands,.inr (.inr (.inl ⟨rfl,.inl ⟨_,a3⟩⟩)),_,rfl,g.ph,ab,Sum.inl k,v,rfl,rfl,a3,L,q g _ _ _ (st.trans (cB u J6 _)) (u.setH a4.drop) aa ea⟩
  refine⟨_,rfl,rfl,_,rfl,?_⟩;show if decide (V.str y=V.str "done")=true then _ else _
  cases R:decide (V.str y=V.str "done") with
  |false=>exact bH (tail S M Z (aG.stepS I) h1 rfl (by
   unfold Fy;rw[if_pos hy,if_neg (λe=>of_decide_eq_false R (by rw[e]))];rfl) (ok.dropH.mono (le_refl _) (by omega)))
  |true=>
   refine aZ ⟨_,rfl,_,rfl,aJ,λp0 ac=>⟨aJ,λp1 ad=>⟨aJ,λp2 ae=>⟨_,rfl,?_⟩⟩⟩⟩;refine AI (E:=E0) h1 ok hn hc (λg H2 af u=>?_) ac ad ae;have D:=ok.write1 (r:=("done",k,[])) (most:=b) (zero_le _) (λz=>by cases z);obtain⟨N,B,e3,e4,e5⟩:=fK M [("done",k,[])] b;generalize dJ M [("done",k,[])] b=M1 at u D N B e3 e4 e5;have st:=(aG.stepS I).trans af;obtain⟨G,a1,a2⟩:=u.ls;have U:k∈M1.ls.map (·.1):=by
    obtain⟨p,hp,e⟩:=mem_map.mp m;rw[N,<- e];exact(ok.hk p hp).1
   obtain⟨_,v,_,L,_⟩:=a2.look U;refine⟨_,rfl,g.ps,_,(by rw[st.ps]),u.g_letters,.inr (.inr (.inl ⟨rfl,.inl ⟨_,a1⟩⟩)),_,rfl,g.pl,G,Sum.inl k,v,rfl,rfl,a1,L,?_⟩;have J:=u.setL (a2.drop (n:=k));have W:=st.trans (cB u Ht (.dK (fA G (Sum.inl k))));generalize upd H2 g.pl (.dK (fA G (Sum.inl k)))=H3 at J W⊢;obtain⟨sk,ag⟩:=rE (ws:=M1.wh) (k:=k) (by rw[D.wk];exact U);have ew:dD (wsK M1.wh) (Sum.inl k)=some (.int sk):=by rw[sX,ag];rfl
   refine⟨_,rfl,g.ps,_,(by rw[st.ps]),J.g_where,.inr (.inr (.inl ⟨rfl,.inl ⟨_,J.wh⟩⟩)),_,rfl,g.pw,_,Sum.inl k,_,rfl,rfl,J.wh,ew,?_⟩;show wM _ _ _ _ (upd H3 g.pw (.dK (fA (wsK M1.wh) (Sum.inl k))));rw[GG];have h4:=J.setW (M1.wh.filter λp=>decide (p.1≠k));have ah:=W.trans (cB J Lu (.dK (wsK (M1.wh.filter λp=>decide (p.1≠k)))));refine tail g _ _ ah h4 B (by
    unfold Fy;rw[if_pos hy,if_pos (V.str.inj (of_decide_eq_true R))];show Ab.mk (M1.ls.filter _) M1.after (M1.hs.filter _) M1.time=_;rw[N,B,e3,e4];rfl) (D.dropH.dropL (k:=k) λz=>?_)
   have z:k∈(M1.hs.filter λp=>decide (p.1≠k)).map (·.1):=z;rw[gS]at z;exact of_decide_eq_true (mem_filter.mp z).2 rfl
 ·rw[show (!decide (V.str z=V.str x))=true by rw[decide_eq_false (λe=>o (by injection e))];rfl];refine aZ (q S M Z _ (aG.stepS I) h1 (ok.mono (le_refl _) (by omega)) ?_);unfold Fy;rw[if_neg];show ¬(bY M.hs k).map (·.1)=some x;by_cases m:k∈M.hs.map (·.1)
  ·rw[O m];intro e;exact o (Option.some.inj e)
  ·rw[Bt m];intro e;cases e
end
abbrev BB:Stmt:=top 82
def jF(M:Ms)(k:Int):Ms:={M with hs:=M.hs.filter λp=>decide (p.1≠k)}
theorem yX{k:Int}:∀{ks:Mf}{M:Ms},k∈M.hs.map (·.1)->k∉ks->k∈((ks.foldl jF M).hs).map (·.1)
 |[],M,h,_=>h
 |j::ks,M,h,b=>by
  refine yX (ks:=ks) (M:=jF M j) ?_ (λz=>b (mem_cons_of_mem _ z));show k∈(M.hs.filter λp=>decide (p.1≠j)).map (·.1);rw[gS];exact mem_filter.mpr ⟨h,decide_eq_true λz=>b (by rw[z];exact mem_cons_self)⟩
theorem yY:∀(e:Mf)(M:Ms),eF (e.foldl jF M) = {eF M with hs:=M.hs.filter λp=>decide (p.1∉e)}
 |[],M=>by
  show eF M=Ab.mk M.ls M.after (M.hs.filter _) M.time;rw[List.filter_eq_self.mpr (show ∀p∈M.hs,decide (p.1∉([]:Mf))=true from λp _=>decide_eq_true (λz=>by cases z))];rfl
 |j::e,M=>by
  show eF (e.foldl jF (jF M j))=_;rw[yY e];show Ab.mk M.ls M.after ((M.hs.filter _).filter _) M.time=Ab.mk M.ls M.after _ M.time;rw[List.filter_filter];congr 2;funext p;rw[<- Bool.decide_and];exact decide_eq_decide.mpr ⟨λ⟨a,b⟩ z=>(mem_cons.mp z).elim b a,λh=>⟨λz=>h (mem_cons_of_mem _ z),λz=>h (by rw[z];exact mem_cons_self)⟩⟩
theorem Gi{b:La}{k:Int}(a:Mf×Int)(h:k∈b.map (·.1)):gC b k a=setL b k a:=by
 unfold gC setL;rw[if_pos];obtain⟨p,f,e⟩:=mem_map.mp h;exact any_eq_true.mpr ⟨p,f,decide_eq_true e⟩
theorem IK(b:Mt)(n:Int):kG b n=decide (n∉b.map (·.1)):=by
 unfold kG;by_cases h:n∈b.map (·.1)
 ·obtain⟨x,f,e⟩:=mJ h;rw[e,decide_eq_false (λz=>z h)];rfl
 ·rw[Bt h,decide_eq_true h];rfl
theorem HF(M:Ms)(t:Int->Bool):(l7 M).filter (λn=>t (tY M.ls n))=mF (eF M) t:=by
 unfold l7 mF eF tY
 try dsimp only
 congr 2;funext n;exact(IK _ _).symm
theorem F6(M:Ms)(b:Int):((l7 M).filter λn=>decide (n∉gB M b))=mF (eF M) λt=>decide (t ≥ b):=by
 rw[<- HF];refine List.filter_congr λn e=>decide_eq_decide.mpr ?_;unfold gB;rw[mem_filter,decide_eq_true_eq];exact⟨λh=>Int.not_lt.mp λz=>h ⟨e,z⟩,λh z=>Int.not_lt.mpr h z.2⟩
theorem B8{c n:Nat}:∀{ks:Mf}{M:Ms},MsOk M c n->MsOk (ks.foldl jF M) c n
 |[],M,h=>h
 |j::ks,M,h=>B8 (ks:=ks) (M:=jF M j) h.dropH
theorem MsOk.setL1{M:Ms}{c n:Nat}{k:Int}{a:Mf×Int}(h:MsOk M c n)(f:k∈M.ls.map (·.1))(g:a.1.length<=60):MsOk {M with ls:=gC M.ls k a} c n:=by
 have e:(gC M.ls k a).map (·.1)=M.ls.map (·.1):=yD a f;have m:(gC M.ls k a).length=M.ls.length:=by
  have:=congrArg List.length e;rw[length_map,length_map]at this;exact this
 refine⟨h.af,by show ((gC M.ls k a).map (·.1)).Pairwise _;rw[e];exact h.so,λp b=>?_,by show (gC M.ls k a).length<=_;rw[m];exact h.cnt,by show _=(gC M.ls k a).map (·.1);rw[e];exact h.wk,h.hn,h.hl,λp b=>⟨by show p.1∈(gC M.ls k a).map (·.1);rw[e];exact(h.hk p b).1,(h.hk p b).2⟩,h.ne,h.rl,h.sg⟩;have b:p∈gC M.ls k a:=b;have o:p.1∈M.ls.map (·.1):=by
  rw[<- e];exact mem_map_of_mem b
 obtain⟨q,r,s⟩:=mem_map.mp o;have:=h.lt q r;rw[s]at this;refine⟨this.1,this.2.1,?_⟩;rcases HA b with z |z
 ·exact(h.lt p z).2.2
 ·rw[z];exact g
theorem MsOk.front{M:Ms}{c n:Nat}{r:Mr}{b:List (Mr)}(h:MsOk M c n)(e:M.rows=r::b)(f:b≠[]):MsOk {M with rows:=b,first:=M.first+1} c n:=
 ⟨h.af,h.so,h.lt,h.cnt,h.wk,h.hn,h.hl,h.hk,f,by have:=h.rl;rw[e,length_cons]at this;show b.length<=n;omega,λs g=>h.sg s (by rw[e];exact mem_cons_of_mem _ g)⟩
theorem CV(M:Ms)(r:Rw)(b:Int)(h:M.rows≠[]):M.rows.length<=(dJ M [r] b).rows.length:=by
 have e:M.rows.length<=(dQ M b).rows.length/\(dQ M b).rows≠[]:=by
  unfold dQ;split
  ·exact⟨by rw[length_append];omega,by simp⟩
  ·exact⟨le_refl _,h⟩
 show M.rows.length<=(fD (dQ M b) r).rows.length;rw[(wJ _ r e.2).2.1];exact e.1
inductive qO(vs:Mp)(H:Hp)(Q:VK)(x_3:XK):Prop
 |mk:∀(S:Sl)(M:Ms)(d se:Addr)(most hold tries:Int)(y:Str)(args:Mp)(c n:Nat)(a:Ab),vs=[.ref S.ps,.ref d,.ref se]->StAt H S M->MsOk M c n->n<=70000->c<=50->H se=some (.tup [.int most,.int hold,.int tries])->H d=some (.tup (.str y::args))->(y = "wait"->∃m,args=[.int m]/\a=lD hold tries (eF M) (.wait m))->(y = "new"->∃k,args=[.int k]/\a=lD hold tries (eF M) (.new k))->(y ≠ "wait"->y ≠ "new"->a=eF M)->Ir S H c (n+1000) a Q->qO vs H Q x_3
section
variable{P:Program}{w:World}{K:Ma}{mg:Mc}{base:Heap}{A:Ad}
theorem FR{f:Addr}{fd:Ml}(F:Fun K "_law_other" "_law_other" BB f fd)(T:‹2›)(bf:‹7›)(bs:‹13›)(bg:‹15› "_law_front_goes" 1 ["_law_state"] qQ):‹14› 3 f fd ["_law_state","_law_deed_here","_law_settings_here"] qO:=by
 refine F.okY ["_law_state","_law_deed_here","_law_settings_here","_law_most","_law_hold","_law_tries","_law_word","_law_late","_law_number","_law_moved","_law_body","_law_times","_law_many"] λcb A' bt s H vs Q E hr nD0 h=>?_;obtain⟨S,M,d,se,B,G,J,y,ca,c,n,aa,rfl,h,ok,hn,hc,gs,gd,hw,bu,ah,q⟩:=h;refine⟨_,@aA _ _ _ _ _ (@qX _ _ _ _ _ _ ‹65› (@iH _ K _ _ _ (3) _ (@cJ _ _ _ _ _ (@bK _ _ (3) _ nD0 ⋯ ⋯ ⋯) (@cJ _ _ _ _ _ (@bK _ _ (4) _ nD0 ⋯ ⋯ ⋯) (@cJ _ _ _ _ _ (@bK _ _ (5) _ nD0 ⋯ ⋯ ⋯) (@iG _) ⋯) ⋯) ⋯) ⋯ ⋯ ⋯ ⋯) ⋯ ⋯ ⋯) (@aA _ _ _ _ _ (@a9 _ _ (6) _ _ _ _ nD0 ⋯ ⋯ ‹35› ⋯ ⋯) (@aA _ _ _ _ _ (@bE _ _ _ _ _ _ _ _ ‹93› (@aA _ _ _ _ _ (@AC _ _ _ _ _ _ _ _ _ _ _ (hu1 hr.units) ‹31› ‹30› ‹35› (@vS _) (λ_ _ _=>⋯)) (@aA _ _ _ _ _ (@lE _ _ _ (7) _ _ _ _ _ _ _ _ _ _ _ ["_law_number"] [("_law_state",0),("_law_hold",4)] nD0 ⋯ ⋯ ⋯ (@bV _ K _ _ _ (@bL _ _ _ _ _ _ _ _ _ (@gM _ ⋯) ⋯ T.ae7 gW ‹91› ⋯ ⋯ ⋯ ⋯) ⋯) (λC s2 H2 ex=>(@bK _ _ (0) _ (show List.Nodup (["_law_number","_law_state","_law_hold"]:Mg) by decide +kernel) ⋯ (Or.inl ⋯) ⋯)) (λC s2 H2 ex=>(@hG _ _ _ (@aW _ _ _ _ _ _ _ _ pF (@bD _ _ _ _ _ _ _ _ lG (@dO _ _ _ _ _ _ (hu1 hr.units) (@pv _ 1 _ _ ⋯ ⋯ ⋯ ⋯) ‹30› (λ_ _=>rfl)) (@cG _ _ _ _ _ _ _ (cV K) ‹29› ‹43› (λ_ _=>rfl))) ‹65› (bJ _)))) (λC s2 H2 ex=>‹31›) ⋯ ⋯ ⋯ ⋯ ⋯ ⋯) (@aA _ _ _ _ _ (@fQ _ _ _ _ _ _ _ _ (kB eE) ⋯ (@bV _ K _ _ _ (@pv _ 7 _ _ ⋯ ⋯ ⋯ ⋯) ⋯) (@bK _ _ (8) _ nD0 ⋯ ⋯ ⋯) (@aC _ _ _ (aX (iZ K PySem.F.plainAttrs_dict PySem.F.slot_dict_pop PySem.F.type_dict_pop pI ‹20› (aE (pv 8) aF)))) ⋯) (@aC _ _ _ (@aP _ _ _ _ (@pv _ 7 _ _ ⋯ ⋯ ⋯ ⋯)))))) (@aO _)) (@aA _ _ _ _ _ (@bE _ _ _ _ _ _ _ _ ‹93› (@aA _ _ _ _ _ (@bE _ _ _ _ _ _ _ _ (@aW _ _ _ _ _ _ _ _ (kC K) ‹35› (@cG _ _ _ _ _ _ _ (cV K) (@bC _ _ _ _ _ _ _ _ _ _ _ bs ‹18› bB (@aE _ _ _ _ _ _ ‹31› (@aE _ _ _ _ _ _ (@pv _ 5 _ _ ⋯ ⋯ ⋯ ⋯) (@aF _))) ⋯ ⋯ ⋯ ⋯) ‹43› (λ_ _=>rfl)) ⋯) (@aC _ _ _ (@aP _ _ _ _ ‹30›)) (@aO _)) (@aA _ _ _ _ _ (aX (bC bf ‹18› bB (aE (pv 0) (eZ (cA (bF (aU (aI bR (aN ‹21› ‹50›))) aF)) ‹53›)))) (@aA _ _ _ _ _ (@fN _ _ _ _ _ _ _ _ _ (hu1 hr.units) ‹23› ‹35› (@aU _ _ _ _ _ (@aN _ _ _ _ _ _ _ (@cG _ _ _ _ _ _ _ (cV K) (@dO _ _ _ _ _ _ (hu1 hr.units) ‹23› ‹35› (λ_ _=>rfl)) ‹43› (λ_ _=>rfl)) ‹40›)) ⋯) (@aC _ _ _ (@aP _ _ _ _ (@jM _ _ _)))))) (@aO _)) (@aA _ _ _ _ _ (@bE _ _ _ _ _ _ _ _ ‹93› (@aA _ _ _ _ _ (@bE _ _ _ _ _ _ _ _ (@aW _ _ _ _ _ _ _ _ fY (@bL _ _ _ _ _ _ _ _ _ (dI K) ⋯ T.ad8 gN ‹91› ⋯ ⋯ ⋯ ⋯) ‹43› (bJ _)) (@aC _ _ _ (@aP _ _ _ _ (@jM _ _ _))) (@aO _)) (@aA _ _ _ _ _ (@lE _ _ _ (9) _ _ _ _ _ _ _ _ _ _ _ ["_law_number"] [("_law_state",0)] nD0 ⋯ ⋯ ⋯ (@bV _ K _ _ _ (@bL _ _ _ _ _ _ _ _ _ (@gM _ ⋯) ⋯ T.ae7 gW ‹91› ⋯ ⋯ ⋯ ⋯) ⋯) (λC s2 H2 ex=>(@bK _ _ (0) _ ‹41› ⋯ (Or.inl ⋯) ⋯)) (λC s2 H2 ex=>(@hG _ _ _ (@aW _ _ _ _ _ _ _ _ fY ‹29› (@dO _ _ _ _ _ _ (hu1 hr.units) (@pv _ 1 _ _ ⋯ ⋯ ⋯ ⋯) ‹30› (λ_ _=>rfl)) (bJ _)))) (λC s2 H2 ex=>‹31›) ⋯ ⋯ ⋯ ⋯ ⋯ ⋯) (@aA _ _ _ _ _ (@fQ _ _ _ _ _ _ _ _ (kB eE) ⋯ (@bV _ K _ _ _ (@pv _ 9 _ _ ⋯ ⋯ ⋯ ⋯) ⋯) (@bK _ _ (8) _ nD0 ⋯ ⋯ ⋯) (@aA _ _ _ _ _ (@qX _ _ _ _ _ _ (@dO _ _ _ _ _ _ (hu1 hr.units) ‹23› (@pv _ 8 _ _ ⋯ ⋯ ⋯ ⋯) (λ_ _=>rfl)) (@iH _ K _ _ _ (2) _ (@cJ _ _ _ _ _ (@bK _ _ (10) _ nD0 ⋯ ⋯ ⋯) (@cJ _ _ _ _ _ (@bK _ _ (11) _ nD0 ⋯ ⋯ ⋯) (@iG _) ⋯) ⋯) ⋯ ⋯ ⋯ ⋯) ⋯ ⋯ ⋯) (@aC _ _ _ (aX (bC bf ‹18› bB (aE (pv 0) (eZ (cA (bF (aU (aI bR (aE (pv 8) (bW (bD jD (aU (aE (pv 11) aF)) (pv 10)) aF)))) aF)) ‹53›)))))) ⋯) (@aA _ _ _ _ _ (aX (bC bg ‹18› bB ‹36›)) (@aC _ _ _ (@aP _ _ _ _ (@bL _ _ _ _ _ _ _ _ _ (dI K) ⋯ T.ad8 gN (@aE _ _ _ _ _ _ (@pv _ 9 _ _ ⋯ ⋯ ⋯ ⋯) (@aF _)) ⋯ ⋯ ⋯ ⋯))))))) (@aO _)) (@aA _ _ _ _ _ (@a9 _ _ (12) _ _ _ _ nD0 ⋯ ⋯ ‹43› ⋯ ⋯) (@aA _ _ _ _ _ (@pD _ _ _ _ _ _ (kB eE) (@PW.pt _ _ _ (@mC _ _ _ _ _ _ _ (@aW _ _ _ _ _ _ _ _ pF (@bL _ _ _ _ _ _ _ _ _ (dI K) ⋯ T.ad8 gN ‹91› ⋯ ⋯ ⋯ ⋯) ‹43› (bJ _)) (@jC _ _ _ _ (@aW _ _ _ _ _ _ _ _ (kC K) ‹23› (Je (cZ ["_law_number"] [("_law_state",0)] ⋯ (Jd ‹20›) ‹39› ‹44› (λC s2 H2 ex=>‹47›))) ⋯)))) (@aA _ _ _ _ _ (aX (bC bg ‹18› bB ‹36›)) (@aC _ _ _ (@Cs _ _ (12) _ _ _ _ _ _ nD0 ⋯ ⋯ ‹43› IA ⋯)))) (@aC _ _ _ (@aP _ _ _ _ (@pv _ 12 _ _ ⋯ ⋯ ⋯ ⋯))))))))),?_⟩;obtain⟨kl,l1,l2⟩:=h.ls;obtain⟨kh,l3,l4⟩:=h.hs;have cnt:=ok.cnt;have hl:=ok.hl;refine⟨_,rfl,se,_,rfl,SqT.of gs,rfl,_,_,rfl,_,_,rfl,_,_,rfl,rfl,_,rfl,d,_,_,.str y,rfl,rfl,SqT.of gd,bA (by decide) rfl,?_⟩;refine⟨_,rfl,rfl,_,rfl,?_⟩;show if decide (V.str y=V.str "wait")=true then _ else _
 by_cases e1:y = "wait"
 ·rw[decide_eq_true (by rw[e1])];obtain⟨m,rfl,ea⟩:=hw e1;refine aZ ⟨_,rfl,S.ps,_,rfl,h.g_time,_,rfl,d,_,_,.int m,rfl,rfl,SqT.of gd,bA (by decide) rfl,_,_,rfl,rfl,_,jQ.k (k:=Sum.inr "time") h.st (by show 7<sizeLine;decide),?_⟩;have e2:eJ (stK S M) (Sum.inr "time") (.int (M.time+m))=stK S {M with time:=M.time+m}:=rfl;rw[e2];have O:=h.setF {M with time:=M.time+m} rfl rfl rfl rfl;have ar:=cB h Lv (.dK (stK S {M with time:=M.time+m}));have I:MsOk {M with time:=M.time+m} c n:=⟨ok.af,ok.so,ok.lt,ok.cnt,ok.wk,ok.hn,ok.hl,ok.hk,ok.ne,ok.rl,ok.sg⟩;have am:eF {M with time:=M.time+m} = {eF M with now:=M.time+m}:=rfl;generalize ({M with time:=M.time+m}:Ms)=M1 at O ar I am⊢;have as:M1.hs=M.hs:=congrArg Ab.hs am;have bv:M1.time=M.time+m:=congrArg Ab.now am;generalize upd H S.ps (.dK (stK S M1))=H1 at O ar⊢;obtain⟨bh,a3,a4⟩:=O.hs;have cd:=I.hl;refine⟨_,rfl,S.ps,_,rfl,O.g_hands,S.ph,bh,M1.hs.map (·.1),rfl,a3,a4.keys,.inl (by rw[length_map];omega),by rw[length_map];omega,λp N R pw hp=>?_⟩;have nd:N.Nodup:=R.nodup_iff.mpr I.hn;have lk:N.length<=1000:=by rw[R.length_eq,length_map];omega
  have mk:∀k∈N,k∈M1.hs.map (·.1):=λk W=>R.mem_iff.mp W;obtain⟨H2,ai,s2,g2⟩:=gUU (o:=.lst (N.map V.int)) hp;rw[ai];obtain⟨tm,bi⟩:∃tm:Int->Int,tm=λn=>((bY M1.hs n).getD ("",0)).2:=⟨_,rfl⟩;have bw:∀n:Int,n∈M1.hs.map (·.1)->∃t b,dD bh (Sum.inl n)=some (.ref t)/\H1 t=some (.tup [.str b,.int (tm n)]):=λn hn=>by
   obtain⟨a,v,ha,ev,t,e1,e2⟩:=a4.look hn;exact⟨t,a.1,by rw[ev,e1],by rw[e2,bi];dsimp only;rw[pO I.hn ha];rfl⟩
  have bj:N.filter (λk=>decide (G<M1.time-tm k))=ES G (eF M) m:=by
   have em:=uO R pw;unfold ES eF
   try dsimp only
   rw[em,as,bi,bv,as]
  refine⟨p,rfl,⟨_,SqL.of g2⟩,?_⟩;refine fS (bP (K:=K) (SqL.of g2)) (by rw[length_map];exact le_trans lk (by decide)) (λj=>decide (G<M1.time-tm (N.getD j 0))) (λj=>V.int (N.getD j 0)) (λZ=>∃z,Z = [z,some (.ref S.ps),some (.int G)]) ⟨none,rfl⟩ ?_ ?_
  ·intro j x bk H3 hj au X U Q1 Q2 Q3 ae af;obtain⟨z,rfl⟩:=au;rw[getElem?_map]at U;cases e:N[j]? with
   |none=>rw[e]at U;cases U
   |some k=>
    rw[e]at U;cases U;have eg:N.getD j 0=k:=by rw[getD_eq_getElem?_getD,e];rfl
    rw[eg]at ae af;have ag:=O.same (s2.trans X);obtain⟨t,b,ev,gt⟩:=bw k (mk k (mem_of_getElem? e));have dg:=cQ.k (k:=Sum.inl k) ((s2.trans X) _ _ a3);rw[ev]at dg;refine⟨_,rfl,S.ps,_,rfl,ag.g_time,_,rfl,S.ps,_,rfl,ag.g_hands,_,rfl,S.ph,_,rfl,dg,t,_,_,.int (tm k),rfl,rfl,SqT.of ((s2.trans X) _ _ gt),bA (by decide) rfl,_,_,rfl,rfl,_,rfl,_,_,rfl,rfl,_,rfl,?_⟩;by_cases hn:G<M1.time-tm k
    ·rw[decide_eq_true hn];exact aZ ⟨_,rfl,ae _ ⟨_,rfl⟩ (decide_eq_true hn)⟩
    ·rw[decide_eq_false hn];exact bH (af _ ⟨_,rfl⟩ (decide_eq_false hn))
  intro L H3 aj X g3;rw[length_map,gH N (λk=>decide (G<M1.time-tm k))]at g3;have Y:∀k∈N.filter (λk=>decide (G<M1.time-tm k)),k∈M1.hs.map (·.1):=λk W=>mk k (mem_filter.mp W).1;have av:(N.filter λk=>decide (G<M1.time-tm k)).Nodup:=nd.filter _;rw[bj]at g3 Y av;simp only[lD]at ea;generalize ES G (eF M) m=la at g3 Y av ea;have h3:=O.same (s2.trans X);have aw:=ar.trans (aG.stepS (s2.trans X));have ak:L∉stL S:=O.off (s2.free aj);refine⟨_,rfl,L,rfl,⟨_,SqL.of g3⟩,?_⟩;refine kH (bP (K:=K) (H:=upd (λ_=>none) L (.lst (la.map V.int))) (SqL.of aB)) (λi Z H'=>∃z8,Z = [some (.ref S.ps),some (.ref d),some (.ref se),some (.int B),some (.int G),some (.int J),some (.str y),some (.ref L),z8,none,none,none,none]/\StepS S S H3 H'/\StAt H' S ((la.take i).foldl jF M1)) ⟨_,rfl,aG.stepS (aG.refl _),h3⟩ (λi Z H' hh b u e=>?_) ?_ ?_
  ·obtain⟨_,_,st,_⟩:=hh;by_cases yb:b=L
   ·subst yb;rw[aB]at e;injection e with e
    rw[<- e];exact st.frm _ _ g3 ak
   ·rw[aH yb]at e;cases e
  ·rintro D' i x Z H5 H6 ax-hi ⟨z8,rfl,st,h5⟩ s6 U;have ac:=st.trans (aG.stepS s6);have h6:=h5.same s6;rw[getElem?_map]at U;cases e:la[i]? with
   |none=>rw[e]at U;cases U
   |some k=>
    rw[e]at U;cases U;have tk:(la.take (i+1)).foldl jF M1=jF ((la.take i).foldl jF M1) k:=by
     rw[take_succ,e];show ((la.take i++[k]).foldl jF M1)=_;rw[List.foldl_append];rfl
    have W:k∈(((la.take i).foldl jF M1).hs).map (·.1):=yX (Y k (mem_of_getElem? e)) (λz=>by
     obtain⟨j,hj,ej⟩:=List.mem_iff_getElem.mp z;rw[length_take]at hj;rw[List.getElem_take]at ej;obtain⟨ce,ei⟩:=List.getElem?_eq_some_iff.mp e;have:=(List.getElem_inj av).mp (ej.trans ei.symm);omega)
    generalize (la.take i).foldl jF M1=Mi at h6 tk W;obtain⟨bx,b3,b4⟩:=h6.hs;obtain⟨_,v,_,ev,_⟩:=b4.look W;refine⟨_,rfl,S.ps,_,rfl,h6.g_hands,.inr (.inr (.inl ⟨rfl,.inl ⟨_,b3⟩⟩)),_,rfl,S.ph,bx,Sum.inl k,v,rfl,rfl,b3,ev,?_⟩;refine ax _ _ ⟨_,rfl,ac.trans (cB h6 J6 _),?_⟩;rw[tk];exact h6.setH b4.drop
  ·rintro Z H5 ⟨z8,rfl,st,h5⟩;refine⟨_,rfl,q S _ H5 _ (aw.trans st) h5 (B8 (I.mono (le_refl _) (by omega))) ?_⟩;rw[length_map,take_length,yY,ea,am,as];rfl
 rw[decide_eq_false (λe=>e1 (by injection e))];refine bH ⟨_,rfl,rfl,_,rfl,?_⟩;show if decide (V.str y=V.str "new")=true then _ else _
 by_cases e2:y = "new"
 ·rw[decide_eq_true (by rw[e2])];obtain⟨k,rfl,ea⟩:=bu e2;refine aZ ⟨_,rfl,d,_,_,.int k,rfl,rfl,SqT.of gd,bA (by decide) rfl,_,rfl,_,rfl,S,M,J,rfl,h,ok.so,by omega,λp p1 p2 H1 s1 gp g1 g2 f1 f2=>?_⟩;have bm:∀j∈((l7 M).filter λn=>decide (n∉gB M J)),j∈M.ls.map (·.1):=λj hj=>(mem_filter.mp ‹57›).1;simp only[lD]at ea;rw[<- F6]at ea;generalize ((l7 M).filter λn=>decide (n∉gB M J))=dl at g2 bm ea;refine⟨p,_,_,.ref p2,rfl,rfl,SqT.of gp,bA (by decide) rfl,p2,_,rfl,.inl (SqL.of g2),rfl,nF _,_,rfl,?_⟩;rw[if_pos rfl,pS];have O:=h.same s1;by_cases W:k∈dl
  ·rw[decide_eq_true W];have bz:=s1 _ _ gd;refine bH ⟨_,rfl,_,rfl,d,_,_,.int k,rfl,rfl,SqT.of bz,bA (by decide) rfl,aJ,λp0 bG=>⟨aJ,λp1 ay=>⟨aJ,λp2 al=>⟨_,rfl,?_⟩⟩⟩⟩;refine AI (E:=E0) O ok (by omega) (by omega) (λg H2 az h2=>?_) bG ay al;have I:=ok.write1 (r:=("new",k,[])) (most:=B) (zero_le _) (λz=>by cases z);obtain⟨w1,w2,w3,w4,w5⟩:=fK M [("new",k,[])] B;generalize dJ M [("new",k,[])] B=M1 at h2 I w1 w2 w3 w4 w5;have st:=(aG.stepS s1).trans az;have bn:=st.tup _ _ gd;obtain⟨cf,a1,a2⟩:=h2.ls;have a0:k∈M1.ls.map (·.1):=by rw[w1];exact bm k W
   obtain⟨a,v,ha,ev,t,b,ba,gt,gb⟩:=a2.look a0;have dg:=cQ.k (k:=Sum.inl k) a1;rw[ev,ba]at dg;refine⟨_,rfl,g.ps,_,(by rw[st.ps]),h2.g_letters,_,rfl,d,_,_,.int k,rfl,rfl,SqT.of bn,bA (by decide) rfl,g.pl,_,rfl,dg,t,_,_,.ref b,rfl,rfl,SqT.of gt,bA (by decide) rfl,aJ,new_o λpt H3 X g3=>?_⟩;have h3:=h2.same X;obtain⟨cg,a5,a6⟩:=h3.ls;have ch:=I.cnt;refine⟨_,rfl,g.ps,_,(by rw[st.ps]),h3.g_letters,_,rfl,d,_,_,.int k,rfl,rfl,SqT.of (X _ _ bn),bA (by decide) rfl,g.pl,_,rfl,jQ.k (k:=Sum.inl k) a5 (by rw[a6.len];exact lt_of_le_of_lt ‹64› (by decide)),?_⟩;exact q g _ _ _ (st.trans ((aG.stepS X).trans (cB h3 Ht _))) (h3.setL (a6.put (n:=k) (a:=(a.1,0)) (v:=.ref pt) ⟨pt,b,rfl,g3,X _ _ gb⟩)) ((I.setL1 (a:=(a.1,0)) a0 (show a.1.length<=60 from (I.lt _ ha).2.2)).mono (le_refl _) (by omega)) (by
    rw[ea,if_pos W];have l1:gF M1.ls k=some a:=nC (I.so.imp λh=>Int.ne_of_lt h) ha;show Ab.mk (gC M1.ls k (a.1,0)) M1.after M1.hs M1.time=Ab.mk (setL M.ls k (((gF M.ls k).getD ([],0)).1,0)) M.after M.hs M.time;rw[Gi _ a0,w2,w3,w4,<- w1,l1];rfl)
  ·rw[decide_eq_false W];exact aZ (q S M H1 _ (aG.stepS s1) O (ok.mono (le_refl _) (by omega)) (by rw[ea,if_neg W]))
 rw[decide_eq_false (λe=>e2 (by injection e))];have ah:=ah e1 e2;subst ah;refine bH ⟨_,rfl,rfl,_,rfl,?_⟩;show if decide (V.str y=V.str "carry")=true then _ else _
 by_cases e3:y = "carry"
 ·rw[decide_eq_true (by rw[e3])];refine aZ ⟨_,rfl,S.ps,_,rfl,h.g_rows,S.pr,_,rfl,.inl (SqL.of h.rw),rfl,_,rfl,?_⟩;have el:((S.rs.map V.ref).length:Int)=(M.rows.length:Int):=by rw[length_map,h.rr.len]
  rw[el];by_cases an:M.rows.length=1
  ·rw[decide_eq_true (by rw[an];rfl)];exact aZ (q S M H _ (aG.stepS (aG.refl _)) h (ok.mono (le_refl _) (by omega)) rfl)
  rw[decide_eq_false (λe=>an (by injection e with e;omega))];refine bH ?_;have two:2<=M.rows.length:=by
   have:=ok.ne;cases e:M.rows with
   |nil=>exact absurd e this
   |cons r rs=>
    rw[e]at an;cases rs with
    |nil=>exact absurd rfl an
    |cons r2 rs=>rw[length_cons,length_cons];omega
  have wl:M.wh.length=M.ls.length:=by
   have:=congrArg List.length ok.wk;rw[length_map,length_map]at this;exact this
  refine⟨_,rfl,S.ps,_,rfl,h.g_where,S.pw,wsK M.wh,M.wh.map (·.1),rfl,h.wh,Ar _,.inr (by rw[ok.wk];exact ok.so.imp Int.le_of_lt),by rw[length_map];omega,λp N R pw hp=>?_⟩;have lk:N.length<=9*c:=by rw[R.length_eq,length_map];omega
  have mk:∀k∈N,k∈M.wh.map (·.1):=λk W=>R.mem_iff.mp W;obtain⟨H2,ai,s2,g2⟩:=gUU (o:=.lst (N.map V.int)) hp;rw[ai];refine⟨p,rfl,⟨_,SqL.of g2⟩,?_⟩;refine fS (bP (K:=K) (SqL.of g2)) (by rw[length_map];exact le_trans ‹64› (by decide)) (λj=>decide (V.int ((pN M.wh (N.getD j 0)).getD 0)=V.int M.first)) (λj=>V.int (N.getD j 0)) (λZ=>∃z,Z = [z,some (.ref S.ps)]) ⟨none,rfl⟩ ?_ ?_
  ·intro j x bk H3 hj au X U Q1 Q2 Q3 ae af;obtain⟨z,rfl⟩:=au;rw[getElem?_map]at U;cases e:N[j]? with
   |none=>rw[e]at U;cases U
   |some k=>
    rw[e]at U;cases U;have eg:N.getD j 0=k:=by rw[getD_eq_getElem?_getD,e];rfl
    rw[eg]at ae af;have ag:=h.same (s2.trans X);obtain⟨wk,ao⟩:=rE (mk k (mem_of_getElem? e));have dg:=cQ.k (k:=Sum.inl k) ag.wh;rw[sX,ao]at dg;rw[ao]at ae af;refine⟨_,rfl,S.ps,_,rfl,ag.g_where,_,rfl,S.pw,_,rfl,dg,_,rfl,S.ps,_,rfl,ag.g_first,rfl,_,rfl,?_⟩;cases hb:decide (V.int wk=V.int M.first) with
    |true=>exact aZ ⟨_,rfl,ae _ ⟨_,rfl⟩ hb⟩
    |false=>exact bH (af _ ⟨_,rfl⟩ hb)
  intro L H3 aj X g3;rw[length_map,gH N (λk=>decide (V.int ((pN M.wh k).getD 0)=V.int M.first))]at g3;have Y:∀k∈N.filter (λk=>decide (V.int ((pN M.wh k).getD 0)=V.int M.first)),k∈M.ls.map (·.1):=λk W=>by
   rw[<- ok.wk];exact mk k (mem_filter.mp W).1
  have b0:(N.filter (λk=>decide (V.int ((pN M.wh k).getD 0)=V.int M.first))).length<=9*c:=le_trans (length_filter_le _ _) lk;generalize N.filter (λk=>decide (V.int ((pN M.wh k).getD 0)=V.int M.first))=la at g3 Y b0;have h3:=h.same (s2.trans X);have aw:StepS S S H H3:=aG.stepS (s2.trans X);have ak:L∉stL S:=h.off (s2.free aj);refine⟨_,rfl,L,rfl,⟨_,SqL.of g3⟩,?_⟩;refine kH (bP (K:=K) (H:=upd (λ_=>none) L (.lst (la.map V.int))) (SqL.of aB)) (λi Z H'=>∃z8 bb bc g M1,Z = [some (.ref S.ps),some (.ref d),some (.ref se),some (.int B),some (.int G),some (.int J),some (.str y),none,z8,some (.ref L),bb,bc,none]/\StepS S g H3 H'/\StAt H' g M1/\MsOk M1 c (n+2*i)/\eF M1=eF M/\2<=M1.rows.length) ⟨_,_,_,S,M,rfl,aG.stepS (aG.refl _),h3,ok,rfl,two⟩ (λi Z H' hh b u e=>?_) ?_ ?_
  ·obtain⟨_,_,_,_,_,_,st,_⟩:=hh;by_cases yb:b=L
   ·subst yb;rw[aB]at e;injection e with e
    rw[<- e];exact st.frm _ _ g3 ak
   ·rw[aH yb]at e;cases e
  ·rintro D' i x Z H5 H6 ax-hi ⟨z8,bb,bc,g,M1,rfl,st,h5,ad,ap,bd⟩ s6 U;have ac:=st.trans (aG.stepS s6);have h6:=h5.same s6;rw[getElem?_map]at U;rw[length_map]at hi;cases e:la[i]? with
   |none=>rw[e]at U;cases U
   |some k=>
    rw[e]at U;cases U;have W:k∈M1.ls.map (·.1):=by rw[show M1.ls=M.ls from congrArg Ab.ls ap];exact Y k (mem_of_getElem? e)
    obtain⟨ci,b1,b2⟩:=h6.ls;obtain⟨a,v,ha,ev,t,b,ba,gt,gb⟩:=b2.look W;have dg:=cQ.k (k:=Sum.inl k) b1;rw[ev,ba]at dg;have cj:a.1.length<=60:=(ad.lt _ ha).2.2;refine⟨_,rfl,g.ps,_,(by rw[st.ps]),h6.g_letters,_,rfl,g.pl,_,rfl,dg,t,_,rfl,SqT.of gt,rfl,_,_,rfl,_,_,rfl,rfl,?_⟩;refine⟨_,rfl,_,rfl,_,rfl,aJ,new_o λpa H7 v1 u1=>?_⟩;refine⟨_,rfl,pa,b,_,_,rfl,rfl,u1,v1 _ _ gb,le_trans (show _<=100 by rw[length_map];show 1+a.1.length<=100;omega) (by decide),λpc H8 v2 u2=>⟨aJ,λp1 ay=>⟨aJ,λp2 al=>⟨_,rfl,?_⟩⟩⟩⟩;obtain⟨H9,ai,v3,u3⟩:=gUU (o:=.tup [.str "carried",.int k,.ref pc]) ay;rw[ai]at al⊢;have v4:=aD (o:=.lst [.ref p1]) al;refine EQ (E:=E0) (ns:=a.2::a.1) (H:=H6) (S:=g) (M:=M1) st.ps.symm h6 ad (by omega) (by omega) (v1.trans (v2.trans (v3.trans v4))) aB (v4 _ _ u3) ((v3.trans v4) _ _ u2) ((v1.trans (v2.trans v3)).free al) λS2 H' az h'=>?_;have b5:=ad.write1 (r:=("carried",k,a.2::a.1)) (most:=B) (show a.1.length+1<=61 by omega) (λ_=>W);have b6:eF (dJ M1 [("carried",k,a.2::a.1)] B)=eF M1:=by
     obtain⟨w1,w2,w3,w4,_⟩:=fK M1 [("carried",k,a.2::a.1)] B;unfold eF;rw[w1,w2,w3,w4]
    have ck:=CV M1 ("carried",k,a.2::a.1) B ad.ne;refine ax _ _ ⟨_,_,_,S2,_,rfl,ac.trans az,h',b5.mono (le_refl _) (by omega),b6.trans ap,by omega⟩
  ·rintro Z H5 ⟨z8,bb,bc,g,M1,rfl,st,h5,ad,ap,bd⟩;rw[length_map]at ad;cases er:M1.rows with
   |nil=>exact absurd er ad.ne
   |cons r rs=>
    refine⟨_,rfl,g,M1,r,rs,(by rw[st.ps]),h5,er,λS2 H6 ac h6=>?_⟩;refine⟨_,rfl,L,_,rfl,.inl (SqL.of (ac.frm _ _ (st.frm _ _ g3 ak) (st.not g3 ak))),q S2 _ H6 _ (aw.trans (st.trans ac)) h6 ((ad.front er ?_).mono (le_refl _) (by omega)) ap⟩;intro z;rw[er,z]at bd;exact absurd (show 2<=1 from bd) (by decide)
 rw[decide_eq_false (λe=>e3 (by injection e))];refine bH ?_;refine⟨λm Z H'=>∃j g M1,Z = [some (.ref S.ps),some (.ref d),some (.ref se),some (.int B),some (.int G),some (.int J),some (.str y),none,none,none,none,none,some (.int j)]/\StepS S g H H'/\StAt H' g M1/\MsOk M1 c n/\eF M1=eF M/\M1.rows.length=m,⟨_,0,S,M,rfl,aG.stepS (aG.refl _),h,ok,rfl,rfl⟩,?_⟩;rintro m Z H1 ⟨j,g,M1,rfl,st,O,I,be,rfl⟩;have el:((g.rs.map V.ref).length:Int)=(M1.rows.length:Int):=by rw[length_map,O.rr.len]
 refine⟨_,rfl,g.ps,_,(by rw[st.ps]),O.g_rows,g.pr,_,rfl,.inl (SqL.of O.rw),_,_,rfl,rfl,_,rfl,?_⟩;rw[el];by_cases aq:(1:Int)<(M1.rows.length:Int)
 ·rw[decide_eq_true aq];refine aZ ⟨_,rfl,g.ps,_,(by rw[st.ps]),O.g_first,_,rfl,g.ps,_,(by rw[st.ps]),O.g_where,g.pw,wsK M1.wh,rfl,O.wh,λo=>?_⟩;have g0:upd H1 g.pw (.frz o (.dK (wsK M1.wh))) g.pw=some (.frz o (.dK (wsK M1.wh))):=aB;have u0:∀b u,H1 b=some u->b≠g.pw->upd H1 g.pw (.frz o (.dK (wsK M1.wh))) b=some u:=λb u e nb=>by rw[aH nb];exact e
  have b7:g.ps≠g.pw:=(nds.mp O.nd).ps.2.2.2.1;generalize upd H1 g.pw (.frz o (.dK (wsK M1.wh)))=H2 at g0 u0⊢;have bo:=u0 _ _ O.st b7;have wl:(wsK M1.wh).length<=1000:=by
   have:=congrArg List.length I.wk;rw[length_map,length_map]at this;have:=I.cnt;unfold wsK;rw[length_map];omega
  refine cX (Gb g0) (le_trans wl (by decide)) (λi v _=>∃z,v = .int z) (λ_ _ _ _ _ h=>h) (λZ=>∃z,Z = [z,some (.ref S.ps)]) ⟨none,rfl⟩ ?_ ?_
  ·rintro i x bk H3 hi ⟨z,rfl⟩ X ⟨kk,v,ek,rfl⟩ Q' b8;have W:kk∈(wsK M1.wh).map (·.1):=mem_map.mpr ⟨_,mem_of_getElem? ek,rfl⟩;rw[Ar]at W;obtain⟨k,b9,rfl⟩:=mem_map.mp W;obtain⟨wk,ao⟩:=rE b9;have dg:cQ H3 g.pw (.int k) (some (.int wk)):=.inl ⟨wsK M1.wh,Sum.inl k,.inr ⟨o,X _ _ g0⟩,rfl,by rw[sX,ao];rfl⟩;exact⟨_,rfl,g.ps,_,(by rw[st.ps]),cQ.k (k:=Sum.inr "where") (X _ _ bo),_,rfl,g.pw,_,rfl,dg,b8 _ _ _ ⟨_,rfl⟩ (aG.refl _) ⟨_,rfl⟩⟩
  intro D ys H3 hD X gD bp hR;obtain⟨ns,rfl⟩:∃ns:Mf,ys=ns.map V.int:=by
   clear bp gD;have:∀y∈ys,∃z,y=V.int z:=λy hy=>by
    obtain⟨i,hi⟩:=List.mem_iff_getElem?.mp hy;exact hR i y hi
   clear hR
   induction ys with
   |nil=>exact⟨[],rfl⟩
   |cons y ys ih=>
    obtain⟨ns,e⟩:=ih λz hz=>this z (mem_cons_of_mem _ hz);obtain⟨z,ez⟩:=this y mem_cons_self;exact⟨z::ns,by rw[map_cons,e,ez]⟩
  have nD:D≠g.pw:=λz=>by rw[z,g0]at hD;cases hD
  have s4:aG H1 (upd H3 g.pw (.dK (wsK M1.wh))):=λb u e=>by
   by_cases yb:b=g.pw
   ·subst yb;rw[aB,<- e,O.wh]
   ·rw[aH yb];exact X _ _ (u0 b u e yb)
  refine⟨g.pw,o,_,X _ _ g0,⟨_,O.wh⟩,?_⟩;have bq:upd H3 g.pw (.dK (wsK M1.wh)) D=some (.lst (ns.map V.int)):=by rw[aH nD];exact gD
  generalize upd H3 g.pw (.dK (wsK M1.wh))=H4 at s4 bq⊢;have h4:=O.same s4;refine⟨D,_,rfl,.inl (SqL.of bq),rfl,nF _,_,rfl,?_⟩;rw[if_pos rfl,pS];cases hb:decide (M1.first∈ns) with
  |true=>exact bH ⟨_,rfl,q g M1 H4 _ (st.trans (aG.stepS s4)) h4 (I.mono (le_refl _) (by omega)) be⟩
  |false=>
   cases er:M1.rows with
   |nil=>exact absurd er I.ne
   |cons r rs=>
    refine aZ ⟨λbr H'=>∃j g M1,br=[some (.ref S.ps),some (.ref d),some (.ref se),some (.int B),some (.int G),some (.int J),some (.str y),none,none,none,none,none,some (.int j)]/\StepS S g H H'/\StAt H' g M1/\MsOk M1 c n/\eF M1=eF M/\M1.rows.length=rs.length,λbr H' hh=>⟨rs.length,by rw[length_cons];omega,hh⟩,?_⟩;refine⟨_,rfl,g,M1,r,rs,(by rw[st.ps]),h4,er,λS2 H6 ac h6=>?_⟩;refine⟨_,rfl,_,_,rfl,rfl,_,S2,_,rfl,st.trans ((aG.stepS s4).trans ac),h6,I.front er ?_,be,rfl⟩;intro z;rw[er,z]at aq;exact absurd (show (1:Int)<1 from aq) (by decide)
 ·rw[decide_eq_false aq];refine bH (bH ?_);exact⟨_,rfl,q g M1 H1 _ st O (I.mono (le_refl _) (by omega)) be⟩
end
abbrev Dy:Stmt:=top 80
theorem MsOk.addH(h:MsOk M c n)(hj:j∈M.ls.map (·.1))(f:j∉M.hs.map (·.1))(g:gU a.1):MsOk {M with hs:=gC M.hs j a} (c+1) n:=by
 have e:gC M.hs j a=M.hs++[(j,a)]:=vA a f;rw[e];have m:=h.af;refine⟨⟨m.1,by show M.after<=9*((c+1:Nat):Int);omega⟩,h.so,h.lt,le_trans h.cnt (by omega),h.wk,?_,?_,λp b=>?_,h.ne,h.rl,h.sg⟩
 ·show ((M.hs++[(j,a)]).map (·.1)).Nodup;rw[map_append,nodup_append];refine⟨h.hn,by simp,λx o y q=>?_⟩;rw[mem_singleton.mp (show y∈[j] from q)];exact λz=>f (by rw[<- z];exact o)
 ·show (M.hs++[(j,a)]).length<=c+1;rw[length_append];exact Nat.add_le_add_right h.hl 1
 ·have b:p∈M.hs++[(j,a)]:=b;rcases mem_append.mp b with z |z
  ·exact h.hk p z
  ·rw[mem_singleton.mp z];exact⟨hj,g⟩
theorem kM{H:Hp}{p:Addr}{ns:Mf}(g:H p=some (.lst (ns.map V.int))):Den H (.list (ns.map .int)) (.ref p):=by
 simp only[Den];exact⟨p,_,rfl,g,cC.mpr rfl⟩
theorem KA(h:gU x):x ≠ "":=λz=>by
 rw[z]at h;exact absurd h.1 (by decide +kernel)
theorem zO(w:Str):∀(e:Md)(k:Int),(eY w k e).map (λr=>(r.2.1,(r.2.2,(0:Int))))=Im k e
 |[],_=>rfl
 |b::e,k=>by
  show (k,(b,(0:Int)))::(eY w (k+1) e).map (λr=>(r.2.1,(r.2.2,(0:Int))))=_;rw[zO w e (k+1)];rfl
theorem BS{M:Ms}{c n:Nat}(ok:MsOk M c n)(e:Md)(f:Mr)(b:Int):eF (vB M e f b) = {eF M with ls:=M.ls++Im M.after e,up:=M.after+(e.length:Int)}:=by
 obtain⟨m,q,g,r,_⟩:=fK M f b;obtain⟨s,t,u,_⟩:=qC e (dJ M f b);have o:=DY e (dJ M f b) "" (by rw[m,g];exact λp x=>(ok.lt p x).2.1);rw[zO]at o;show Ab.mk (e.foldl f9 (dJ M f b)).ls _ _ _=Ab.mk _ _ M.hs M.time;rw[o,m,g,show (vB M e f b).after=_ from s,g,show (vB M e f b).hs=_ from t,q,show (vB M e f b).time=_ from u,r]
def sH(k:Int)(b:Md):Mr:=eY "part" k b++[(("deal",k,[(b.length:Int)]):Rw)]
inductive uD(vs:Mp)(H:Hp)(Q:VK)(x_3:XK):Prop
 |mk:∀(S:Sl)(M:Ms)(t se:Addr)(d:mQ)(args:Mp)(most hold tries:Int)(c n:Nat),vs=[.ref S.ps,.ref t,.ref se]->StAt H S M->MsOk M c n->n<=70000->c<=49->H se=some (.tup [.int most,.int hold,.int tries])->H t=some (.tup (.str (eC d)::args))->aQ H (dC d) args->Aq d->Ir S H (c+1) (n+1000) (lD hold tries (eF M) d) Q->uD vs H Q x_3
section
variable{P:Program}{w:World}{K:Ma}{mg:Mc}{base:Heap}{A:Ad}
theorem HW{f:Addr}{fd:Ml}(F:Fun K "_law_told" "_law_told" Dy f fd)(T:‹2›)(av:‹15› "_law_put" 3 ["_law_state","_law_bodies","_law_most","_law_rows"] zW)(bi:‹7›)(bj:‹13›)(bk:‹15› "_law_given" 3 ["_law_state","_law_deed_here","_law_most"] qP)(bm:‹15› "_law_other" 3 ["_law_state","_law_deed_here","_law_settings_here"] qO):‹14› 4 f fd ["_law_state","_law_deed_here","_law_settings_here"] uD:=by
 refine F.okY ["_law_state","_law_deed_here","_law_settings_here","_law_most","_law_hold","_law_tries","_law_word","_law_first","_law_rows","_law_ready_here","_law_body","_law_times"] λcf A' bn s H vs Q E hr nD0 h=>?_;obtain⟨S,M,t,se,d,ag,m,W,B,c,n,rfl,h,ok,hn,hc,gs,gt,O,aa,q⟩:=h;refine⟨_,aA (qX (pv 2) (iH K (n:=3) (cJ ‹56› (cJ ‹74› (cJ (bK (i:=5) nD0 ⋯ ⋯) iG)))))
  (aA (a9 (i:=6) nD0 ⋯ ⋯ ‹21›)
  (aA (a9 (i:=7) nD0 ⋯ ⋯ ‹20›)
  (aA (bE ‹72›
   (aA (aX (bC av ‹18› bB (aE (pv 0) (eZ (cA ‹80›) (aE (pv 3) (eZ (cA (bF (aU (aI bR (aE (pv 7) ‹80›))) aF)) aF))))))
   (aC (aP (pv 7))))
   aO)
  (aA (bE ‹72›
   (aA (lE (i:=8) ["_law_k","_law_body"] [("_law_first",7)] nD0 ⋯ ⋯ ⋯ (HH K T.af9 ‹21›) (λC s2 H2 ex=>(iH K (n:=2) (cJ (bK (i:=0) (show List.Nodup (["_law_k","_law_body","_law_first"]:Mg) by decide +kernel) ⋯ (Or.inl ⋯)) (cJ (bK (i:=1) (show List.Nodup (["_law_k","_law_body","_law_first"]:Mg) by decide +kernel) ⋯ (Or.inl ⋯)) iG)))) ‹44› (λC s2 H2 ex=>(aU (aI bR (bW (bD cW (pv 2) (pv 0)) ‹32›)))))
   (aA (aX (bC av ‹18› bB (aE (pv 0) (aN ‹21› (aE (pv 3) (bW (bD Cv (pv 8) (cA (bF (aU (aI bR (aE (pv 7) (bF (aU (cN (bL (dI K) ⋯ T.ad8 gN ‹80›) aF)) aF)))) aF))) aF))))))
   (aC (aP (vE ⋯ ⋯ T.at6 ⋯ T.ai3 (aE (pv 7) ‹92›))))))
   aO)
  (aA (bE ‹72›
   (aA (a9 (i:=9) nD0 ⋯ ⋯ (cG (cV K) (bC bj ‹18› bB (aE (pv 0) ‹71›)) aM (λ_ _=>rfl)))
   (aA (bE (aW (HU hr.units) (pv 9) (cA aF) (bJ _))
    ‹69›
    aO)
   (aA (aX (bC bi ‹18› bB (aE (pv 0) (eZ (cA (bF (aU (aI bR (aN ‹51› ‹50›))) aF)) ‹53›))))
   (aA (qX (dO (hu1 hr.units) ‹20› ‹51› (λ_ _=>rfl)) (iH K (n:=2) (cJ (bK (i:=10) nD0 ⋯ ⋯) (cJ (bK (i:=11) nD0 ⋯ ⋯) iG))))
   (aA (fN (hu1 hr.units) ‹20› ‹51› (aU (aE (pv 10) (bW (bD cW (pv 11) aM) aF))) ⋯)
   (aA (fN (hu1 hr.units) ‹20› ‹51› (aU (aN ‹21› ‹92›)) ⋯)
   (aC (aP (aU (aN ‹51› (aE (pv 10) (bW (bD cW (pv 11) aM) aF))))))))))))
   aO)
  (aA (bE (aW (HR K) (pv 6) (aU (aI bR ‹25›)) ⋯)
   (aC (aP (bC bk ‹18› bB (aE (pv 0) (aE (pv 1) ‹53›)))))
   aO)
  (aC (aP (bC bm ‹18› bB (aE (pv 0) (aE (pv 1) ‹37›))))))))))),?_⟩
 have cnt:=ok.cnt;have hl:=ok.hl;have wl:M.wh.length=M.ls.length:=by
  have:=congrArg List.length ok.wk;rw[length_map,length_map]at this;exact this
 obtain⟨y,I⟩:∃y,y=eC d:=⟨_,rfl⟩;rw[<- I]at gt;refine⟨_,rfl,se,_,rfl,SqT.of gs,rfl,_,_,rfl,_,_,rfl,_,_,rfl,rfl,_,rfl,t,_,_,.str y,rfl,rfl,SqT.of gt,bA (by decide) rfl,_,rfl,S.ps,_,rfl,h.g_after,?_⟩;refine⟨_,rfl,rfl,_,rfl,?_⟩;show if decide (V.str y=V.str "put")=true then _ else _
 by_cases e1:y = "put"
 ·rw[decide_eq_true (by rw[e1])];obtain⟨b,rfl⟩:∃b,d = .put b:=by
   rw[e1]at I;cases d <;> first |exact⟨_,rfl⟩ | (dsimp only[eC]at I;exact absurd I (by decide))
  obtain⟨aw,bl⟩:=aa;simp only[dC,aQ]at O;obtain⟨vb,r,rfl,db,rfl⟩:=O;simp only[Den]at db;obtain⟨J,zs,rfl,gb,dz⟩:=db;have ez:=cC.mp dz;subst ez;refine aZ ⟨_,rfl,_,rfl,t,_,_,.ref J,rfl,rfl,SqT.of gt,bA (by decide) rfl,aJ,new_h λpb bo H1 R g1=>?_⟩;refine⟨_,rfl,_,rfl,_,rfl,t,_,_,.ref J,rfl,rfl,SqT.of (R _ _ gt),bA (by decide) rfl,aJ,λU bp=>⟨aJ,λp2 ai=>?_⟩⟩;obtain⟨H2,G,s2,g2⟩:=gUU (o:=.tup [.str "put",.int M.after,.ref J]) bp;rw[G]at ai⊢;obtain⟨H3,G,s3,g3⟩:=gUU (o:=.lst [.ref U]) ai;rw[G];have ab:=R.trans (s2.trans s3);have bq:Den H3 (.tuple (b.map .int)) (.ref J):=by
   simp only[Den];exact⟨J,_,rfl,ab _ _ gb,cC.mpr rfl⟩
  refine⟨S,M,pb,p2,[b],[.ref J],[("put",M.after,b)],[.ref U],m,n,rfl,h.same ab,ok.ne,ok.rl,λs hs=>(ok.sg s hs).1,by show n+1<=90000;omega,by show M.wh.length+1<=90000;omega,g3,h.off ((R.trans s2).free ai),?_,.inl ((s2.trans s3) _ _ g1),h.off bo,kJ bq,by show M.ls.length+1<=90000;omega,λS' H' st h'=>?_⟩
  ·refine kJ ?_;unfold cI fP;simp only[Den,aQ];exact⟨U,_,rfl,s3 _ _ g2,_,_,rfl,rfl,_,_,rfl,rfl,_,_,rfl,⟨J,_,rfl,ab _ _ gb,cC.mpr rfl⟩,rfl⟩
  ·exact⟨_,rfl,q S' _ H' _ ((aG.stepS ab).trans st) h' ((ok.put (w:="put") (bs:=[b]) (tl:=[]) (most:=m) rfl (λx hx=>by rw[mem_singleton.mp hx];exact bl) (by show 1<=9;omega) (zero_le _) (λr hr=>by cases hr)).mono (le_refl _) (by omega)) (BS ok _ _ _)⟩
 rw[decide_eq_false (λe=>e1 (by injection e))];refine bH ⟨_,rfl,rfl,_,rfl,?_⟩;show if decide (V.str y=V.str "all")=true then _ else _
 by_cases e2:y = "all"
 ·rw[decide_eq_true (by rw[e2])];obtain⟨g,rfl⟩:∃g,d = .all g:=by
   rw[e2]at I;cases d <;> first |exact⟨_,rfl⟩ | (dsimp only[eC]at I;exact absurd I (by decide))
  obtain⟨b1,b9,aw⟩:=aa;simp only[dC,aQ]at O;obtain⟨va,r,rfl,ax,rfl⟩:=O;simp only[Den]at ax;obtain⟨a,xs,rfl,ha,aj⟩:=ax;have lb:(dF g).length=g.length:=length_map _;have lx:=aj.length;rw[lb]at lx;refine aZ ⟨_,rfl,t,_,_,.ref a,rfl,rfl,SqT.of gt,bA (by decide) rfl,a,_,rfl,SqT.of ha,?_⟩;refine cX (uC (K:=K) 0 (SqT.of ha)) (by rw[lx];exact le_trans b9 (by decide)) (λi y H'=>Den H' (cI ("part",M.after+(i:Int),g.getD i [])) y) (λi y G1 G2 s h=>h.n s (lB _ _ _)) (λσ=>∃z1 z2,σ = [z1,z2,some (.int M.after)]) ⟨none,none,rfl⟩ ?_ ?_
  ·intro i x cg H3 hi br s3 hx Q' bt;obtain⟨z1,z2,rfl⟩:=br;obtain⟨p,u,rfl,hp,hv⟩:=hx;obtain⟨e,he,dn⟩:=aj.get hv;rw[lx]at hi;have eb:g[i]? = some (g.getD i []):=by rw[getD_eq_getElem?_getD,getElem?_eq_getElem hi];rfl
   unfold dF at he;rw[getElem?_map,eb]at he;cases (Option.some.inj he:PyData.tuple ((g.getD i []).map .int)=e);refine⟨p,_,rfl,SqT.of hp,rfl,_,_,rfl,_,_,rfl,rfl,?_⟩;refine⟨_,rfl,_,rfl,_,_,rfl,rfl,_,rfl,aJ,λpt ay=>?_⟩;have ei:M.after+(0+(i:Int))=M.after+(i:Int):=by omega
   refine bt _ _ _ ⟨_,_,rfl⟩ (aD ay) ?_;show Den (upd H3 pt (.tup [.str "part",.int (M.after+(0+(i:Int))),u])) _ _;rw[ei];unfold cI fP;simp only[Den,aQ];refine⟨pt,_,rfl,aB,_,_,rfl,rfl,_,_,rfl,rfl,_,_,rfl,?_,rfl⟩;have:=dn.same (s3.trans (aD (o:=.tup [.str "part",.int (M.after+(i:Int)),u]) ay));simp only[Den]at this;exact this
  intro D ys H2 hD S2 gD X hR;rw[lx]at X;have az:=S2 _ _ gt;have bu:=S2 _ _ ha;refine⟨_,rfl,_,rfl,t,_,_,.ref a,rfl,rfl,SqT.of az,bA (by decide) rfl,_,rfl,_,rfl,_,rfl,_,rfl,t,_,_,.ref a,rfl,rfl,SqT.of az,bA (by decide) rfl,a,_,rfl,.inr (SqT.of bu),aJ,λt1 bv=>⟨aJ,λt2 ak=>⟨aJ,λl3 ac=>?_⟩⟩⟩;rw[lx]at ak ac⊢;obtain⟨H3,G,U1,u1⟩:=gUU (o:=.tup [.int (g.length:Int)]) bv;rw[G]at ak ac⊢;obtain⟨H4,G,U2,u2⟩:=gUU (o:=.tup [.str "deal",.int M.after,.ref t1]) ak;rw[G]at ac⊢;obtain⟨H5,G,U3,u3⟩:=gUU (o:=.lst [.ref t2]) ac;rw[G];have al:=U1.trans (U2.trans U3);refine⟨D,l3,ys,_,rfl,rfl,al _ _ gD,u3,?_,λpc a0=>?_⟩
  ·rw[X];exact le_trans (show _<=10 by simp;omega) (by decide)
  obtain⟨H6,G,U4,u4⟩:=gUU (o:=.lst (ys++[.ref t2])) a0;rw[G];have a3:=al.trans U4;have ad:=S2.trans a3;have na:a∉stL S:=λz=>by
   obtain⟨o,e,nt⟩:=h.here z;rw[ha]at e;cases e;exact nt _ rfl
  have ah:(sH M.after g).length=g.length+1:=by
   unfold sH;rw[length_append,kA];rfl
  refine⟨S,M,a,pc,g,xs,sH M.after g,ys++[.ref t2],m,n,rfl,h.same ad,ok.ne,ok.rl,λs hs=>(ok.sg s hs).1,by rw[ah];omega,by rw[ah];omega,u4,h.off ((S2.trans al).free a0),?_,.inr (ad _ _ ha),na,aj.same ad,by omega,λS' H' st h'=>?_⟩
  ·unfold sH;rw[map_append];refine aQ.app (iJ (by rw[length_map,kA,X]) λi y e=>?_) (kJ ?_)
   ·have hi:i<g.length:=by
     have:=(List.getElem?_eq_some_iff.mp e).1;omega
    have eb:g[i]? = some (g.getD i []):=by rw[getD_eq_getElem?_getD,getElem?_eq_getElem hi];rfl
    refine⟨_,?_,(hR i y e).same a3⟩;rw[getElem?_map,yG eb];rfl
   ·unfold cI fP;simp only[Den,aQ,map_cons,map_nil];exact⟨t2,_,rfl,U4 _ _ (U3 _ _ u2),_,_,rfl,rfl,_,_,rfl,rfl,_,_,rfl,⟨t1,_,rfl,U4 _ _ (U3 _ _ (U2 _ _ u1)),_,_,rfl,rfl,rfl⟩,rfl⟩
  ·have a4:=(aG.stepS ad).trans st;have ba:MsOk (vB M g (sH M.after g) m) (c+1) (n+11):=ok.put (w:="part") (bs:=g) (tl:=[("deal",M.after,[(g.length:Int)])]) (most:=m) rfl (λx hx=>(aw x hx).2) b9 (le_refl _) (λr hr=>by rw[mem_singleton.mp hr];exact⟨rfl,by show 1<=61;omega⟩);have ea:(vB M g (sH M.after g) m).after=M.after+(g.length:Int):=by
    unfold vB;rw[(qC g _).1,(fK M _ m).2.2.1]
   have af:=ok.af;have pa:=BS ok g (sH M.after g) m;generalize vB M g (sH M.after g) m=M' at h' ba ea pa;refine⟨_,rfl,_,rfl,S'.ps,_,(by rw[a4.ps]),h'.g_after,_,_,rfl,?_,?_,λp hp=>?_⟩
   ·rw[ea];exact⟨by omega,by omega,by omega,by omega⟩
   ·rw[ea];exact le_trans (show _<=9 by omega) (by decide)
   ·have sp:=aD (o:=.lst ((List.range (M'.after-M.after).toNat).map λk=>.int (M.after+(k:Nat)))) hp;exact q S' M' _ _ (a4.trans (aG.stepS sp)) (h'.same sp) (ba.mono (le_refl _) (by omega)) pa
 rw[decide_eq_false (λe=>e2 (by injection e))];refine bH ⟨_,rfl,rfl,_,rfl,?_⟩;show if decide (V.str y=V.str "take")=true then _ else _
 by_cases e3:y = "take"
 ·rw[decide_eq_true (by rw[e3])];obtain⟨x,rfl⟩:∃x,d = .take x:=by
   rw[e3]at I;cases d <;> first |exact⟨_,rfl⟩ | (dsimp only[eC]at I;exact absurd I (by decide))
  have am:gU x:=aa;simp only[dC,aQ,Den]at O;obtain⟨_,_,rfl,rfl,rfl⟩:=O;refine aZ ⟨_,rfl,_,rfl,S,M,B,rfl,h,ok.so,by omega,λp U p2 H1 R gp g1 g2 f1 f2=>?_⟩;have bb:∀j∈gB M B,j∈M.ls.map (·.1)/\j∉M.hs.map (·.1):=λj hj=>by
   have:=mem_filter.mp ‹57›;exact⟨this.1,of_decide_eq_true this.2⟩
  have bw:gB M B=mF (eF M) λt=>decide (t<B):=HF M λt=>decide (t<B);have Y:∀rd,gB M B=rd->lD W B (eF M) (.take x)=match rd with
    |[]=>eF M
    |j::_=>{eF M with ls:=setL M.ls j (((gF M.ls j).getD ([],0)).1,((gF M.ls j).getD ([],0)).2+1),hs:=M.hs++[(j,(x,M.time))] }:=λrd e=>by
   rw[<- e,bw];rfl
  have Y:=Y _ rfl;generalize gB M B=rd at g1 bb Y;refine⟨p,_,_,.ref U,rfl,rfl,SqT.of gp,bA (by decide) rfl,?_⟩;refine⟨_,rfl,aJ,new_o λpe H2 s2 g3=>?_⟩;refine⟨.list (rd.map .int),.list (([]:Mf).map .int),kM (s2 _ _ g1),kM (ns:=[]) g3,dX _,dX _,_,rfl,?_⟩;rw[nG];have an:=R.trans s2;have h2:=h.same an;cases rd with
  |nil=>exact aZ (q S M H2 _ (aG.stepS an) h2 (ok.mono (by omega) (by omega)) Y.symm)
  |cons j rd=>
   refine bH ⟨_,rfl,_,rfl,U,_,_,.int j,rfl,rfl,SqL.of (s2 _ _ g1),bA (by decide) rfl,aJ,λq0 bx=>⟨aJ,λq1 bz=>⟨aJ,λq2 bG=>⟨_,rfl,?_⟩⟩⟩⟩;refine AI (E:=E0) h2 ok (by omega) (by omega) (λZ H3 ao h3=>?_) bx bz bG;have L:=ok.write1 (r:=("out",j,[])) (most:=m) (zero_le _) (λz=>by cases z);obtain⟨w1,w2,w3,w4,w5⟩:=fK M [("out",j,[])] m;generalize dJ M [("out",j,[])] m=M1 at h3 L w1 w2 w3 w4 w5;have st:=(aG.stepS an).trans ao;have bc:U∉stL S:=h.off f1;have ap:=ao.frm _ _ (s2 _ _ g1) bc;have bd:U∉stL Z:=ao.not (s2 _ _ g1) bc;have b0:=st.tup _ _ gt;obtain⟨N,aq⟩:=bb j mem_cons_self;rw[<- w1]at N;rw[<- w2]at aq;obtain⟨ch,a1,a2⟩:=h3.ls;obtain⟨a,v,ha,ev,tt,b,b2,b5,gb⟩:=a2.look N;have dg:=cQ.k (k:=Sum.inl j) a1;rw[ev,b2]at dg;have b6:a.1.length<=60:=(L.lt _ ha).2.2;have ci:=L.cnt;have cj:=L.hl;refine⟨_,rfl,Z.ps,_,(by rw[st.ps]),h3.g_letters,_,rfl,U,_,_,.int j,rfl,rfl,SqL.of ap,bA (by decide) rfl,Z.pl,_,rfl,dg,tt,_,rfl,SqT.of b5,rfl,_,_,rfl,_,_,rfl,rfl,?_⟩;refine⟨_,rfl,_,rfl,_,_,rfl,rfl,aJ,new_o λpt H4 s4 g4=>?_⟩;have h4:=h3.same s4;obtain⟨be,a5,a6⟩:=h4.ls;refine⟨_,rfl,Z.ps,_,(by rw[st.ps]),h4.g_letters,_,rfl,U,_,_,.int j,rfl,rfl,SqL.of (s4 _ _ ap),bA (by decide) rfl,Z.pl,_,rfl,jQ.k (k:=Sum.inl j) a5 (by rw[a6.len];exact lt_of_le_of_lt ‹64› (by decide)),?_⟩;have h5:=h4.setL (a6.put (n:=j) (a:=(a.1,a.2+1)) (v:=.ref pt) ⟨pt,b,rfl,g4,s4 _ _ gb⟩);have ae:=(aG.stepS s4).trans (cB h4 Ht (.dK (eJ be (Sum.inl j) (.ref pt))));have b7:=L.setL1 (a:=(a.1,a.2+1)) N b6;have bf:j∈(gC M1.ls j (a.1,a.2+1)).map (·.1):=by rw[yD _ N];exact N
   generalize upd H4 Z.pl (.dK (eJ be (Sum.inl j) (.ref pt)))=H5 at h5 ae⊢;have bg:=ae.frm _ _ ap bd;have b8:=ae.tup _ _ b0;refine⟨_,rfl,t,_,_,.str x,rfl,rfl,SqT.of b8,bA (by decide) rfl,_,rfl,Z.ps,_,(by rw[st.ps]),h5.g_time,aJ,λph ca=>?_⟩;have s6:=aD (o:=.tup [.str x,.int M1.time]) ca;have g6:upd H5 ph (.tup [.str x,.int M1.time]) ph=some (.tup [.str x,.int M1.time]):=aB;have cb:({M1 with ls:=gC M1.ls j (a.1,a.2+1)}:Ms).time=M1.time:=rfl;rw[cb];generalize upd H5 ph (.tup [.str x,.int M1.time])=H6 at s6 g6⊢;have h6:=h5.same s6;obtain⟨bh,b3,b4⟩:=h6.hs;refine⟨_,rfl,Z.ps,_,(by rw[st.ps]),h6.g_hands,_,rfl,U,_,_,.int j,rfl,rfl,SqL.of (s6 _ _ bg),bA (by decide) rfl,Z.ph,_,rfl,jQ.k (k:=Sum.inl j) b3 (by rw[b4.len];exact lt_of_le_of_lt (show _<=1000 by show M1.hs.length<=1000;omega) (by decide)),?_⟩;have h7:=h6.setH (b4.put (n:=j) (a:=(x,M1.time)) (v:=.ref ph) ⟨ph,rfl,g6⟩);have ar:=(aG.stepS s6).trans (cB h6 J6 (.dK (eJ bh (Sum.inl j) (.ref ph))));have cc:=b7.addH (j:=j) (a:=(x,M1.time)) bf aq am;generalize upd H6 Z.ph (.dK (eJ bh (Sum.inl j) (.ref ph)))=H7 at h7 ar⊢;have cd:=ar.frm _ _ bg bd;refine⟨_,rfl,U,_,_,.int j,rfl,rfl,SqL.of cd,bA (by decide) rfl,_,rfl,_,rfl,_,_,rfl,rfl,aJ,λpz ce=>?_⟩;have s8:=aD (o:=.tup [.int j,.ref b,.int (a.2+1)]) ce;refine q Z _ _ _ (st.trans (ae.trans (ar.trans (aG.stepS s8)))) (h7.same s8) (cc.mono (le_refl _) (by omega)) ?_;rw[Y];have l1:gF M1.ls j=some a:=nC (L.so.imp λh=>Int.ne_of_lt h) ha;show Ab.mk (gC M1.ls j (a.1,a.2+1)) M1.after (gC M1.hs j (x,M1.time)) M1.time=Ab.mk _ M.after _ M.time;rw[Gi _ N,vA _ aq,w2,w3,w4,<- w1,l1];rfl
 rw[decide_eq_false (λe=>e3 (by injection e))];refine bH ⟨_,rfl,aJ,new_o λpk H1 R g1=>?_⟩;have h1:=h.same R;refine⟨pk,_,rfl,.inr (SqT.of g1),rfl,rfl,_,rfl,?_⟩;show if inV (V.str y) [V.str "done",V.str "back"]=true then _ else _
 cases hb:inV (V.str y) [V.str "done",V.str "back"] with
 |true=>
  obtain⟨x,k,as,am,gv⟩:∃x k,ag=[.str x,.int k]/\gU x/\Fy (eF M) y x k=lD W B (eF M) d:=by
   rw[I]at hb;cases d <;> first | (simp only[dC,aQ,Den]at O;obtain⟨_,_,rfl,rfl,_,_,rfl,rfl,rfl⟩:=O;exact⟨_,_,rfl,aa.1,by rw[I];rfl⟩) | (dsimp only[eC]at hb;exact absurd hb (by decide))
  subst as;exact aZ ⟨_,rfl,_,rfl,_,rfl,S,M,t,m,y,x,k,c,n,rfl,h1,ok,by omega,by omega,R _ _ gt,KA am,λS' M' H' v st h' au ea=>q S' M' H' v ((aG.stepS R).trans st) h' (au.mono (by omega) (by omega)) (ea.trans gv)⟩
 |false=>
  refine bH ⟨_,rfl,_,rfl,_,rfl,S,M,t,se,m,W,B,y,ag,c,n,_,rfl,h1,ok,hn,by omega,R _ _ gs,R _ _ gt,λz=>?_,λz=>?_,λz1 z2=>?_,λS' M' H' v st h' au=>q S' M' H' v ((aG.stepS R).trans st) h' (au.mono (by omega) (by omega))⟩
  ·rw[z]at I;cases d <;> first | (simp only[dC,aQ,Den]at O;obtain⟨_,_,rfl,rfl,rfl⟩:=O;exact⟨_,rfl,rfl⟩) | (dsimp only[eC]at I;exact absurd I (by decide))
  ·rw[z]at I;cases d <;> first | (simp only[dC,aQ,Den]at O;obtain⟨_,_,rfl,rfl,rfl⟩:=O;exact⟨_,rfl,rfl⟩) | (dsimp only[eC]at I;exact absurd I (by decide))
  ·rw[I]at e1 e2 e3 hb z1 z2;cases d <;> first |rfl |exact absurd rfl e1 |exact absurd rfl e2 |exact absurd rfl e3 |exact absurd rfl z1 |exact absurd rfl z2 | (dsimp only[eC]at hb;exact absurd hb (by decide))
end
abbrev D9:Stmt:=top 73
def mI(x m:Int):Int:=if x / 5 % 2=0 then x / 7 % (m+1) else x / 7 % 4
def CK(x:Int)(k:Nat):Int:=if (k:Int) % 2=0 then EG (oY x k) 256 else x / 11 % 3*100
def jO(x m:Int):Mf:=(List.range (mI x m).toNat).map (CK x)
theorem EO(b:0<=m):0<=mI x m/\(mI x m<=m\/mI x m<=3):=by
 unfold mI;have e:=emod_nonneg (x / 7) (show m+1≠0 by omega);have f:=emod_lt_of_pos (x / 7) (show 0<m+1 by omega);split <;> omega
theorem zH(h:3<=m)(b:m<=60):(jO x m).length<=60:=by
 unfold jO;rw[length_map,length_range];have:=EO (x:=x) (m:=m) (by omega);omega
theorem CJ(x m:Int):dP (jO x m):=by
 intro b f;unfold jO at f;obtain⟨k,_,e⟩:=mem_map.mp f;rw[<- e];unfold CK EG;split
 ·have g:=emod_nonneg (oY x k / 97) (show (256:Int)≠0 by decide);have n:=emod_lt_of_pos (oY x k / 97) (show (0:Int)<256 by decide);omega
 ·have g:=emod_nonneg (x / 11) (show (3:Int)≠0 by decide);have n:=emod_lt_of_pos (x / 11) (show (0:Int)<3 by decide);omega
inductive uM(vs:Mp)(H:Hp)(Q:VK)(x_3:XK):Prop
 |mk:∀(x m:Int),vs=[.int x,.int m]->0<=m->m<=1000->(∀p H',aG H H'->H' p=some (.tup ((jO x m).map V.int))->Q (.ref p) H')->uM vs H Q x_3
section
variable{P:Program}{w:World}{K:Ma}{mg:Mc}{base:Heap}{A:Ad}
theorem Hg(F:Fun K "_law_bytes" "_law_bytes" D9 f O)(T:‹2›)(b:‹10›)(g:‹15› "_law_pick" 1 ["_law_seed_here","_law_many"] tD) :
  ‹14› 2 f O ["_law_seed_here","_law_most"] uM:=by
 refine F.okY ["_law_seed_here","_law_most","_law_many"] λR A' n s H vs Q E hr nD0 h=>?_;obtain⟨x,m,rfl,S,m9,q⟩:=h;refine⟨_,aA (a9 (i:=2) nD0 ⋯ ⋯ (cG (cK K) (cA (bW (bD dW (bD m7 (pv 0) aM) (bD cW (pv 1) aM)) (bW (bD dW (bD m7 (pv 0) aM) aM) aF))) (bD dW (bD m7 (pv 0) aM) aM) (λ_ _=>rfl)))
  (aC (aP (jZ (mP K) ⋯ T.ai2 qB (dZ (cZ ["_law_k"] [("_law_seed_here",0)] ⋯ (qY ⋯ T.ai3 ‹37›) (λC s2 H2 ex=>(bK (i:=0) (show List.Nodup (["_law_k","_law_seed_here"]:Mg) by decide +kernel) ⋯ (Or.inl ⋯))) ‹44› (λC s2 H2 ex=>(cG (cK K) (cA (cN (bC g ‹18› bB (cN (bC b ‹18› bB (aE (pv 1) ‹36›)) ‹46›)) (bW (bD rA ‹26› aM) aF))) (bD dW (pv 0) aM) (λ_ _=>rfl)))) aF)))),?_⟩
 have U:=emod_nonneg (x / 5) (show (2:Int)≠0 by decide);have d1:=emod_lt_of_pos (x / 5) (show (0:Int)<2 by decide);obtain⟨b0,b1⟩:=EO (x:=x) S;refine⟨_,rfl,_,_,rfl,rfl,⟨by decide,by decide⟩,_,rfl,_,_,rfl,rfl,_,_,rfl,rfl,(by show (0:Int)<m+1;omega),_,rfl,_,_,rfl,rfl,⟨by decide,by decide⟩,_,_,rfl,rfl,(by show (0:Int)<4;decide),(by show 2<=sizeLine;decide),λJ p=>?_⟩;refine⟨_,rfl,_,_,rfl,rfl,⟨by decide,by decide⟩,_,_,rfl,rfl,(by show (0:Int)<2;decide),J,_,_,.int (mI x m),rfl,rfl,SqL.of aB,bA U ?_,?_⟩
 ·unfold mI;by_cases h:x / 5 % 2=0
  ·rw[h,if_pos rfl];rfl
  ·have r:x / 5 % 2=1:=by omega
   rw[r,if_neg (by decide)];rfl
 have W:aG H _:=aD (o:=.lst [V.int (x / 7 % (m+1)),V.int (x / 7 % 4)]) p;refine⟨_,rfl,mI x m,rfl,by omega,by omega,?_⟩;refine cX (qJ (H:=upd H J (.lst [V.int (x / 7 % (m+1)),V.int (x / 7 % 4)])) 0 (mI x m).toNat) ?zl (λi y _=>y = .int (CK x i)) (λ_ _ _ _ _ h=>h) (λX=>∃z,X = [z,some (.int x)]) ?z0 ?_ ?_
 case zl=>exact le_trans (show (mI x m).toNat<=1003 by omega) (by decide)
 case z0=>exact⟨none,rfl⟩
 ·intro i y Y H3 L t s3 Z Q' u;obtain⟨z,rfl⟩:=t;subst Z;have e0:(0:Int)+(i:Int)=i:=by omega
  have i0:=emod_nonneg (i:Int) (show (2:Int)≠0 by decide);have i1:=emod_lt_of_pos (i:Int) (show (0:Int)<2 by decide);refine⟨_,rfl,_,rfl,x,_,rfl,_,256,rfl,by decide,?_⟩;refine⟨_,rfl,_,_,rfl,rfl,⟨by decide,by decide⟩,_,_,rfl,rfl,(by show (0:Int)<3;decide),_,_,rfl,rfl,.inr ⟨by decide,by decide⟩,(by show 2<=sizeLine;decide),λp2 B=>?_⟩;refine⟨_,rfl,_,_,rfl,rfl,(by show (0:Int)<2;decide),p2,_,_,.int (CK x i),rfl,rfl,SqL.of aB,?_,?_⟩
  ·rw[e0];refine bA i0 ?_;unfold CK;by_cases h:(i:Int) % 2=0
   ·rw[h,if_pos rfl];rfl
   ·have r:(i:Int) % 2=1:=by omega
    rw[r,if_neg (by decide)];rfl
  ·exact u _ _ _ ⟨_,rfl⟩ (aD B) rfl
 ·intro D G H' hD s' I N hR;have ey:G=(jO x m).map V.int:=by
   unfold jO;apply ext_getElem?;intro i;cases e:G[i]? with
   |none=>
    have:G.length<=i:=List.getElem?_eq_none_iff.mp e;rw[getElem?_eq_none (by rw[length_map,length_map,length_range];omega)]
   |some y=>
    have L:i<(mI x m).toNat:=by
     have:=(List.getElem?_eq_some_iff.mp e).1;omega
    rw[hR i y e,getElem?_map,getElem?_map,getElem?_range L];rfl
  refine⟨D,_,rfl,.inl ⟨SqL.of I,λl hl=>?_⟩⟩;refine q l _ ((W.trans s').trans (aD hl)) ?_;rw[aB,ey]
end
abbrev D4:Stmt:=top 84
theorem MI:gU "a":=by refine⟨?_,?_,?_⟩ <;> decide +kernel
theorem MH:gU "b":=by refine⟨?_,?_,?_⟩ <;> decide +kernel
theorem MG:gU "hhhhhz":=by refine⟨?_,?_,?_⟩ <;> decide +kernel
theorem KB(b:0<=i)(e:i<3):∃x,atI [V.str "a",V.str "b",V.str "hhhhhz"] i=some (.str x)/\gU x:=by
 have:i=0\/i=1\/i=2:=by omega
 rcases this with rfl |rfl |rfl
 ·exact⟨_,rfl,MI⟩
 ·exact⟨_,rfl,MH⟩
 ·exact⟨_,rfl,MG⟩
theorem tX(e:Mf):lU (.tuple (e.map .int))=true:=by
 show fE (e.map .int)=true
 induction e with
 |nil=>rfl
 |cons x b f=>exact f
theorem CZ(e:0<=i)(f:i<2):∃x,atI [V.int a,V.int b] i=some (.int x)/\(x=a\/x=b):=by
 have:i=0\/i=1:=by omega
 rcases this with rfl |rfl
 ·exact⟨_,rfl,.inl rfl⟩
 ·exact⟨_,rfl,.inr rfl⟩
theorem md{i j:Int}(h:0<j):0<=i % j/\i % j<j:=⟨emod_nonneg i (by omega),emod_lt_of_pos i h⟩
theorem EV{ns:Mf}{i:Int}(e:0<=i)(h:i<(ns.length:Int)):∃x∈ns,atI (ns.map V.int) i=some (.int x):=by
 have b:i.toNat<ns.length:=by omega
 exact⟨ns[i.toNat],List.getElem_mem b,bA e (by rw[getElem?_map,getElem?_eq_getElem b];rfl)⟩
inductive uG(vs:Mp)(H:Hp)(Q:VK)(x_3:XK):Prop
 |mk:∀(S:Sl)(M:Ms)(x tries:Int)(c n:Nat),vs=[.ref S.ps,.int x,.int tries]->StAt H S M->MsOk M c n->c<=50->(∀d t args H',aG H H'->H' t=some (.tup (.str (eC d)::args))->aQ H' (dC d) args->Aq d->Q (.ref t) H')->uG vs H Q x_3
section
variable{P:Program}{w:World}{K:Ma}{mg:Mc}{base:Heap}{A:Ad}
theorem HZ{f:Addr}{fd:Ml}(F:Fun K "_law_deed" "_law_deed" D4 f fd)(T:‹2›)(ao:‹15› "_law_pick" 1 ["_law_seed_here","_law_many"] tD)(ap:‹13›)(ad:‹15› "_law_bytes" 2 ["_law_seed_here","_law_most"] uM)(ae:‹10›):‹14› 3 f fd ["_law_state","_law_seed_here","_law_tries"] uG:=by
 refine F.okY ["_law_state","_law_seed_here","_law_tries","_law_pick_here","_law_some","_law_dead","_law_number","_law_hand","_law_many"] λa2 A' aq s H vs Q E hr nD0 h=>?_;obtain⟨S,M,x,u,c,n,rfl,h,ok,hc,q⟩:=h;refine⟨_,aA (a9 (i:=3) nD0 ⋯ ⋯ (bC ao ‹18› bB (aE (pv 1) ‹46›)))
  (aA (a9 (i:=4) nD0 ⋯ ⋯ ‹85›)
  (aA (a9 (i:=5) nD0 ⋯ ⋯ (cG (cV K) (bC ap ‹18› bB (aE (pv 0) ‹37›)) aM (λ_ _=>rfl)))
  (aA (a9 (i:=6) nD0 ⋯ ⋯ (bD dW ‹33› (bD cW ‹20› aM)))
  (aA (a9 (i:=7) nD0 ⋯ ⋯ (cG (cK K) (cA ‹94›) ‹26› (λ_ _=>rfl)))
  (aA (bE ‹73›
   (aC (aP (aU (aI bR (cN (bC ad ‹18› bB (cN (bC ae ‹18› bB (aE (pv 1) ‹46›)) (aN ‹84› aF))) aF)))))
   aO)
  (aA (bE (aW fY (pv 3) aM (bJ _))
   (aA (a9 (i:=8) nD0 ⋯ ⋯ (bD cW aM (bD dW ‹33› ‹84›)))
   (aC (aP (aU (aI bR (cN (jZ (mP K) ⋯ T.ai2 qB (dZ (cZ ["_law_k"] [("_law_seed_here",1)] ⋯ (qY ⋯ T.ai3 (aE (pv 8) aF)) (λC s2 H2 ex=>(bK (i:=0) (show List.Nodup (["_law_k","_law_seed_here"]:Mg) by decide +kernel) ⋯ (Or.inl ⋯))) ‹44› (λC s2 H2 ex=>(bC ad ‹18› bB (cN (bC ae ‹18› bB (aE (pv 1) ‹36›)) ‹46›)))) aF)) aF))))))
   aO)
  (aA (bE ‹73›
   (aC (aP (aU (aI bR (aE (pv 7) aF)))))
   aO)
  (aA (bE ‹73›
   (aA (bE (mC (aW (vH hr.units) (pv 4) (cA aF) (bJ _)) (jC (aW pF ‹26› aM (bJ _)))).pt
    (aA (a9 (i:=6) nD0 ⋯ ⋯ (cG (cK K) (pv 4) (bD dW ‹33› (bL (dI K) ⋯ T.ad8 gN ‹62›)) (λ_ _=>rfl)))
    (aC (a9 (i:=7) nD0 ⋯ ⋯ (cG (cV K) (dO (hu1 hr.units) ‹20› (pv 6) (λ_ _=>rfl)) aM (λ_ _=>rfl)))))
    aO)
   (aC (aP (aU (aN (cG (cK K) (cA (aI bR ‹94›)) (bD lG (pv 3) aM) (λ_ _=>rfl)) (aE (pv 7) (aE (pv 6) aF)))))))
   aO)
  (aA (bE (aW fY (pv 3) aM (bJ _))
   (aC (aP (aU (aI bR (HN (BW (mC (aW (vH hr.units) (pv 5) (cA aF) (bJ _)) (jC (aW pF ‹26› aM (bJ _)))).pt (cG (cK K) (pv 5) (bD dW ‹33› (bL (dI K) ⋯ T.ad8 gN ‹71›)) (λ_ _=>rfl)) (pv 6)) aF)))))
   aO)
  (aC (aP (cG (cK K) (cA (bF (aU (aI bR (bW (bD cW aM (bD dW ‹33› (cG (cK K) (cA (aI aM ‹46›)) (jZ zF ⋯ T.ba8 DX (vG (hJ fY ‹26› aM (bJ _)) aF)) (λ_ _=>rfl)))) aF))) (bF (aU ‹25›) (bF (aU ‹25›) aF)))) (bD lG (pv 3) aM) (λ_ _=>rfl))))))))))))),?_⟩
 have cnt:=ok.cnt;have hl:=ok.hl;have af:=ok.af;obtain⟨kh,l3,l4⟩:=h.hs;refine⟨_,rfl,x,16,rfl,by decide,?_⟩;obtain⟨I,ag⟩:∃I,I=EG x 16:=⟨_,rfl⟩;have a3:0<=I/\I<16:=by rw[ag];exact md (by decide)
 rw[<- ag];refine⟨_,rfl,S.ps,_,rfl,h.g_hands,S.ph,kh,M.hs.map (·.1),rfl,l3,l4.keys,.inl (by rw[length_map];omega),by rw[length_map];omega,λps U aa pw ar=>?_⟩;have a4:U.length<=1000:=by rw[aa.length_eq,length_map];omega
 have mk:∀k∈U,k∈M.hs.map (·.1):=λk hk=>aa.mem_iff.mp hk;obtain⟨H1,B,s1,g1⟩:=gUU (o:=.lst (U.map V.int)) ar;rw[B];have h1:=h.same s1;refine⟨_,rfl,_,rfl,S,M,u,rfl,h1,ok.so,by omega,λp a5 pd H2 s2 gp a6 ah ba bb=>⟨p,_,_,.ref pd,rfl,rfl,SqT.of gp,bA (by decide) rfl,?_⟩⟩;have ai:∀j∈((l7 M).filter λn=>decide (n∉gB M u)),j∈M.ls.map (·.1):=λj hj=>(mem_filter.mp ‹57›).1;generalize ((l7 M).filter λn=>decide (n∉gB M u))=dl at ah ai;have h2:=h1.same s2;have aj:∀j∈M.ls.map (·.1),0<=j/\j<=999999:=λj hj=>by
  obtain⟨p,hp,e⟩:=mem_map.mp hj;have:=ok.lt p hp;omega
 obtain⟨nu,ak⟩:∃nu,nu=x / 7 % (M.after+1):=⟨_,rfl⟩;have R:0<=nu/\nu<=999999:=by
  have:=md (i:=x / 7) (show 0<M.after+1 by omega);rw[ak];omega
 refine⟨_,rfl,_,_,rfl,rfl,⟨by decide,by decide⟩,_,rfl,S.ps,_,rfl,h2.g_after,_,_,rfl,rfl,_,_,rfl,rfl,(by show 0<M.after+1;omega),?_⟩;show sE 6 (V.int (x / 7 % (M.after+1))) _ _ _;rw[<- ak];refine⟨aJ,new_o λp3 H3 s3 g3=>?_⟩;obtain⟨hd,as,ab⟩:=KB (i:=x / 11 % 3) (md (by decide)).1 (md (by decide)).2;refine⟨_,rfl,_,_,rfl,rfl,⟨by decide,by decide⟩,_,_,rfl,rfl,(by show (0:Int)<3;decide),p3,_,_,.str hd,rfl,rfl,SqL.of g3,as,?_⟩;have X:=s1.trans (s2.trans s3);have h3:=h2.same s3;have au:=(s2.trans s3) _ _ g1;have av:=s3 _ _ ah;refine⟨_,rfl,_,_,rfl,rfl,_,rfl,?_⟩;by_cases c1:I<3
 ·rw[decide_eq_true c1];refine aZ ⟨_,rfl,x,1,rfl,aJ,new_o λp4 G J g4=>?_⟩;obtain⟨g,em,hm⟩:=CZ (a:=20) (b:=60) (i:=x / 17 % 2) (md (by decide)).1 (md (by decide)).2;refine⟨_,rfl,_,_,rfl,rfl,⟨by decide,by decide⟩,_,_,rfl,rfl,(by show (0:Int)<2;decide),p4,_,_,.int g,rfl,rfl,SqL.of g4,em,oY x 1,g,rfl,by omega,by omega,λpb H5 Y gb=>⟨aJ,λO m=>?_⟩⟩;have L:=aD (o:=.tup [.str "put",.ref pb]) m;refine q (.put (jO (oY x 1) g)) O [.ref pb] _ (X.trans (J.trans (Y.trans L))) aB ?_ ⟨CJ _ _,zH (by omega) (by omega)⟩;simp only[dC,aQ,Den];exact⟨_,_,rfl,⟨pb,_,rfl,L _ _ gb,cC.mpr rfl⟩,rfl⟩
 rw[decide_eq_false c1];refine bH ⟨_,rfl,rfl,_,rfl,?_⟩;show if decide (V.int I=V.int 3)=true then _ else _
 by_cases c2:I=3
 ·rw[decide_eq_true (by rw[c2])];refine aZ ⟨_,rfl,_,_,rfl,rfl,⟨by decide,by decide⟩,aJ,new_o λp4 G J g4=>?_⟩;obtain⟨g,em,hm⟩:=CZ (a:=4) (b:=9) (i:=x / 17 % 2) (md (by decide)).1 (md (by decide)).2;refine⟨_,rfl,_,_,rfl,rfl,⟨by decide,by decide⟩,_,_,rfl,rfl,(by show (0:Int)<2;decide),p4,_,_,.int g,rfl,rfl,SqL.of g4,em,_,_,rfl,rfl,(by show (0:Int)<g;omega),_,_,rfl,rfl,?_⟩;obtain⟨nm,aw⟩:∃nm:Nat,(nm:Int)=1+x / 7 % g:=⟨(1+x / 7 % g).toNat,by have:=md (i:=x / 7) (show 0<g by omega);omega⟩;have al:1<=nm/\nm<=9:=by
   have:=md (i:=x / 7) (show 0<g by omega);omega
  show sE 8 (V.int (1+x / 7 % g)) _ _ _;rw[<- aw];refine⟨_,rfl,(nm:Int),rfl,by omega,by omega,?_⟩;refine cX (qJ (H:=G) 0 (nm:Int).toNat) (le_trans (show _<=9 by omega) (by decide)) (λi y H'=>Den H' (.tuple ((jO (oY x i) 8).map .int)) y) (λi y G1 G2 s h=>h.n s ?_) (λσ=>∃z,σ = [z,some (.int x)]) ⟨none,rfl⟩ ?_ ?_
  ·exact tX _
  ·intro i y bc H5 hi ax Y hx Q' ay;obtain⟨z,rfl⟩:=ax;subst hx;have e0:(0:Int)+(i:Int)=i:=by omega
   refine⟨_,rfl,_,rfl,x,_,rfl,_,8,rfl,by decide,by decide,λpb H6 L gb=>?_⟩;rw[e0]at gb;refine ay _ _ _ ⟨_,rfl⟩ L ?_;simp only[Den];exact⟨pb,_,rfl,gb,cC.mpr rfl⟩
  ·intro D ys H5 hD Y gD a1 hR;refine⟨D,_,rfl,.inl ⟨SqL.of gD,λl hl=>⟨aJ,λO m=>?_⟩⟩⟩;obtain⟨H6,B,L,g6⟩:=gUU (o:=.tup ys) hl;rw[B]at m⊢;have s7:=aD (o:=.tup [.str "all",.ref l]) m;refine q (.all ((List.range nm).map λ(i:Nat)=>jO (oY x (i:Int)) 8)) O [.ref l] _ (X.trans (J.trans (Y.trans (L.trans s7)))) aB ?_ ⟨?_,?_,?_⟩
   ·simp only[dC,aQ];refine⟨_,_,rfl,?_,rfl⟩;simp only[Den];refine⟨l,ys,rfl,s7 _ _ g6,iJ (by unfold dF;rw[length_map,length_map,length_range];omega) λi y e=>?_⟩;have hi:i<nm:=by
     have:=(List.getElem?_eq_some_iff.mp e).1;omega
    refine⟨_,?_,(hR i y e).same (L.trans s7)⟩;unfold dF;rw[getElem?_map,getElem?_map,getElem?_range hi];rfl
   ·rw[length_map,length_range];exact al.1
   ·rw[length_map,length_range];exact al.2
   ·intro b hb;obtain⟨i,_,e⟩:=mem_map.mp hb;rw[<- e];exact⟨CJ _ _,zH (by decide) (by decide)⟩
 rw[decide_eq_false (λe=>c2 (by injection e))];refine bH ⟨_,rfl,_,_,rfl,rfl,_,rfl,?_⟩;by_cases c3:I<8
 ·rw[decide_eq_true c3];refine aZ ⟨_,rfl,aJ,λO m=>?_⟩;have J:=aD (o:=.tup [.str "take",.str hd]) m;refine q (.take hd) O [.str hd] _ (X.trans J) aB ?_ ab;simp only[dC,aQ,Den];exact⟨_,_,rfl,rfl,rfl⟩
 rw[decide_eq_false c3];refine bH ⟨_,rfl,_,_,rfl,rfl,_,rfl,?_⟩;have am:∀{i:Int},0<=i->i<4->∃y,atI [V.str "done",V.str "done",V.str "back",V.str "done"] i=some (.str y)/\(y = "done"\/y = "back"):=λ{i} h0 h4=>by
  have:i=0\/i=1\/i=2\/i=3:=by omega
  rcases this with rfl |rfl |rfl |rfl
  ·exact⟨_,rfl,.inl rfl⟩
  ·exact⟨_,rfl,.inl rfl⟩
  ·exact⟨_,rfl,.inr rfl⟩
  ·exact⟨_,rfl,.inl rfl⟩
 by_cases c4:I<12
 ·rw[decide_eq_true c4];have fin:∀(k:Int)(z:Str)(G:Hp),aG H G->gU z->0<=k->k<=999999->(JB (eW (tOp (JX K) (K8 (eW (tC (V.str "done")) (eW (tC (V.str "done")) (eW (tC (V.str "back")) (eW (tC (V.str "done")) lR))))) (tOp (rI0 λi j=>V.int (i-j)) (nJ 3) (tC (V.int 8)))) (eW (nJ 7) (eW (nJ 6) lR)))) [some (.ref S.ps),some (.int x),some (.int u),some (.int I),some (.ref ps),some (.ref pd),some (.int k),some (.str z),none] G Q:=by
   intro k z G S4 an k0 k9;obtain⟨y,ey,hy⟩:=am (i:=I-8) (by omega) (by omega);refine⟨aJ,new_o λp5 H5 Y g5=>?_⟩;refine⟨_,rfl,_,_,rfl,rfl,p5,_,_,.str y,rfl,rfl,SqL.of g5,ey,_,rfl,_,rfl,aJ,λO m=>?_⟩;rcases hy with rfl |rfl
   ·have L:=aD (o:=.tup [.str "done",.str z,.int k]) m;refine q (.done z k) O [.str z,.int k] _ (S4.trans (Y.trans L)) aB ?_ ⟨an,k0,k9⟩;simp only[dC,aQ,Den];exact⟨_,_,rfl,rfl,_,_,rfl,rfl,rfl⟩
   ·have L:=aD (o:=.tup [.str "back",.str z,.int k]) m;refine q (.back z k) O [.str z,.int k] _ (S4.trans (Y.trans L)) aB ?_ ⟨an,k0,k9⟩;simp only[dC,aQ,Den];exact⟨_,_,rfl,rfl,_,_,rfl,rfl,rfl⟩
  refine aZ ⟨_,rfl,aJ,new_o λpe G J g4=>?_⟩;have N:=J _ _ au;have h4:=h3.same J;refine⟨.list (U.map .int),.list (([]:Mf).map .int),kM N,kM (ns:=[]) g4,dX _,dX _,_,rfl,?_⟩;rw[nG];by_cases em:U=[]
  ·rw[decide_eq_true em];exact bH (bH (fin nu hd G (X.trans J) ab R.1 R.2))
  rw[decide_eq_false em];refine aZ ⟨_,rfl,_,_,rfl,rfl,⟨by decide,by decide⟩,_,_,rfl,rfl,(by show (0:Int)<5;decide),_,_,rfl,rfl,_,rfl,?_⟩;by_cases c5:(0:Int)<x / 13 % 5
  ·rw[decide_eq_true c5];have r:0<(U.length:Int):=by
    cases U with
    |nil=>exact absurd rfl em
    |cons a b=>rw[length_cons];omega
   obtain⟨k,hk,ek⟩:=EV (ns:=U) (i:=x / 7 % (U.length:Int)) (md r).1 (md r).2;have lm:((U.map V.int).length:Int)=(U.length:Int):=by rw[length_map]
   obtain⟨bd,b3,b4⟩:=h4.hs;obtain⟨a,v,ha,ev,t,az,gt⟩:=b4.look (mk k hk);have dg:=cQ.k (k:=Sum.inl k) b3;rw[ev,az]at dg;have:=aj k (ok.hk _ ha).1;refine aZ ⟨_,rfl,_,rfl,_,_,rfl,rfl,⟨by decide,by decide⟩,_,rfl,ps,_,rfl,.inl (SqL.of N),_,_,rfl,rfl,(by show (0:Int)<((U.map V.int).length:Int);rw[lm];exact r),ps,_,_,.int k,rfl,rfl,SqL.of N,(by rw[lm];exact ek),_,rfl,S.ps,_,rfl,h4.g_hands,_,rfl,S.ph,_,rfl,dg,t,_,_,.str a.1,rfl,rfl,SqT.of gt,bA (by decide) rfl,fin k a.1 G (X.trans J) (ok.hk _ ha).2 this.1 this.2⟩
  ·rw[decide_eq_false c5];exact bH (fin nu hd G (X.trans J) ab R.1 R.2)
 rw[decide_eq_false c4];refine bH ⟨_,rfl,rfl,_,rfl,?_⟩;show if decide (V.int I=V.int 12)=true then _ else _
 by_cases c6:I=12
 ·rw[decide_eq_true (by rw[c6])];have fin:∀(k:Int)(G:Hp),aG H G->0<=k/\k<=999999->∀O,G O=none->Q (.ref O) (upd G O (.tup [.str "new",.int k])):=λk G S4 k0 O m=>by
   have L:=aD (o:=.tup [.str "new",.int k]) m;refine q (.new k) O [.int k] _ (S4.trans L) aB ?_ k0;simp only[dC,aQ,Den];exact⟨_,_,rfl,rfl,rfl⟩
  refine aZ ⟨_,rfl,aJ,new_o λpe G J g4=>?_⟩;have N:=J _ _ av;refine⟨.list (dl.map .int),.list (([]:Mf).map .int),kM N,kM (ns:=[]) g4,dX _,dX _,_,rfl,?_⟩;rw[nG];by_cases em:dl=[]
  ·rw[decide_eq_true em];exact bH (bH ⟨_,rfl,aJ,fin nu G (X.trans J) R⟩)
  rw[decide_eq_false em];refine aZ ⟨_,rfl,_,_,rfl,rfl,⟨by decide,by decide⟩,_,_,rfl,rfl,(by show (0:Int)<4;decide),_,_,rfl,rfl,_,rfl,?_⟩;by_cases c5:(0:Int)<x / 13 % 4
  ·rw[decide_eq_true c5];have r:0<(dl.length:Int):=by
    cases dl with
    |nil=>exact absurd rfl em
    |cons a b=>rw[length_cons];omega
   obtain⟨k,hk,ek⟩:=EV (ns:=dl) (i:=x / 7 % (dl.length:Int)) (md r).1 (md r).2;have lm:((dl.map V.int).length:Int)=(dl.length:Int):=by rw[length_map]
   exact aZ ⟨_,rfl,_,rfl,_,_,rfl,rfl,⟨by decide,by decide⟩,_,rfl,pd,_,rfl,.inl (SqL.of N),_,_,rfl,rfl,(by show (0:Int)<((dl.map V.int).length:Int);rw[lm];exact r),pd,_,_,.int k,rfl,rfl,SqL.of N,(by rw[lm];exact ek),aJ,fin k G (X.trans J) (aj k (ai k hk))⟩
  ·rw[decide_eq_false c5];exact bH ⟨_,rfl,aJ,fin nu G (X.trans J) R⟩
 rw[decide_eq_false (λe=>c6 (by injection e))];refine bH ⟨_,rfl,_,_,rfl,rfl,⟨by decide,by decide⟩,aJ,new_o λp5 H5 Y g5=>?_⟩;obtain⟨g,em,hm⟩:=CZ (a:=6) (b:=99) (i:=if decide (V.int (x / 17 % 5)=V.int 0)=true then 1 else 0) (by split <;> omega) (by split <;> omega);have mw:=md (i:=x / 7) (show 0<g by omega);refine⟨_,rfl,_,_,rfl,rfl,⟨by decide,by decide⟩,_,_,rfl,rfl,(by show (0:Int)<5;decide),rfl,.inr ⟨_,rfl,p5,_,_,.int g,rfl,rfl,SqL.of g5,em,_,_,rfl,rfl,(by show (0:Int)<g;omega),_,_,rfl,rfl,aJ,λt1 a0=>⟨aJ,λt2 ac=>⟨aJ,λt3 Z=>⟨aJ,λpl W=>?_⟩⟩⟩⟩⟩;have L:=aD (o:=.tup [.str "wait",.int (1+x / 7 % g)]) a0;have g6:upd H5 t1 (.tup [.str "wait",.int (1+x / 7 % g)]) t1=some (.tup [.str "wait",.int (1+x / 7 % g)]):=aB;have e6:upd H5 t1 (.tup [.str "wait",(λi j=>V.int (i+j)) 1 (x / 7 % g)])=upd H5 t1 (.tup [.str "wait",.int (1+x / 7 % g)]):=rfl;rw[e6]at ac Z W⊢;clear e6;generalize upd H5 t1 (.tup [.str "wait",.int (1+x / 7 % g)])=H6 at L g6 ac Z W⊢;obtain⟨H7,B,s7,g7⟩:=gUU (o:=.tup [.str "sweep"]) ac;rw[B]at Z W⊢;obtain⟨H8,B,s8,g8⟩:=gUU (o:=.tup [.str "carry"]) Z;rw[B]at W⊢;obtain⟨H9,B,s9,g9⟩:=gUU (o:=.lst [.ref t1,.ref t2,.ref t3]) W;rw[B];have S9:=X.trans (Y.trans (L.trans (s7.trans (s8.trans s9))));have:I-13=0\/I-13=1\/I-13=2:=by omega
 rcases this with e |e |e
 ·refine⟨_,rfl,_,_,rfl,rfl,pl,_,_,.ref t1,rfl,rfl,SqL.of g9,(by rw[e];rfl),?_⟩;refine q (.wait (1+x / 7 % g)) t1 [.int (1+x / 7 % g)] H9 S9 ((s7.trans (s8.trans s9)) _ _ g6) ?_ ⟨by omega,by omega⟩;simp only[dC,aQ,Den];exact⟨_,_,rfl,rfl,rfl⟩
 ·refine⟨_,rfl,_,_,rfl,rfl,pl,_,_,.ref t2,rfl,rfl,SqL.of g9,(by rw[e];rfl),?_⟩;refine q .sweep t2 [] H9 S9 ((s8.trans s9) _ _ g7) ?_ trivial;simp only[dC,aQ]
 ·refine⟨_,rfl,_,_,rfl,rfl,pl,_,_,.ref t3,rfl,rfl,SqL.of g9,(by rw[e];rfl),?_⟩;refine q .carry t3 [] H9 S9 (s9 _ _ g8) ?_ trivial;simp only[dC,aQ]
end
structure Bo(A:Ad)(H:Hp)(L0 D0:Addr)(H1:Hp)(L:Pl)(q:Qs)(S:Sl)(M:Ms):Prop where
 k:Kc A H L0 D0 H1 L q
 h:StAt H1 S M
 off:∀b∈stL S,Off H L b
section
variable{A:Ad}{H H1 H2:Hp}{L0 D0:Addr}{L L':Pl}{q q':Qs}{S S':Sl}{M M':Ms}
theorem Bo.same(b:Bo A H L0 D0 H1 L q S M)(s:aG H1 H2):Bo A H L0 D0 H2 L q S M:=⟨b.k.sames s,b.h.same s,b.off⟩
theorem Bo.queue(b:Bo A H L0 D0 H1 L q S M)(st:Step L L' H1 H2)(g:Kc A H L0 D0 H2 L' q'):Bo A H L0 D0 H2 L' q' S M:=⟨g,b.h.keep (λc o e f=>st.frm c o e (b.off c f).2) st.tup,λc f=>by
 obtain⟨o,e,_⟩:=b.h.here f;exact((b.off c f).step st e).1⟩
theorem Bo.state(b:Bo A H L0 D0 H1 L q S M)(st:StepS S S' H1 H2)(g:StAt H2 S' M'):Bo A H L0 D0 H2 L q S' M':=⟨b.k.buts (S:=λc=>c∈stL S) (λc o e n=>st.frm c o e n) b.off (λc f r e=>by
 obtain⟨o,m,p⟩:=b.h.here f;rw[m]at e;cases e;exact p _ rfl),g,λc f=>(st.grow c f).elim (b.off c) (λz=>b.k.off z)⟩
end
theorem depth_ints:∀b:Mf,PyData.depthAll (b.map .int)=0
 |[]=>rfl
 |n::b=>by
  show max 0 (PyData.depthAll (b.map .int))=0;rw[depth_ints b];rfl
theorem uR(h:∀d∈ds,jK d=true/\PyData.depth d<=2):jK (.list ds)=true/\PyData.depth (.list ds)<=64:=by
 constructor
 ·show lP ds=true;exact uV λd b=>(h d b).1
 ·show PyData.depthAll ds+1<=64;have:=rL λd b=>(h d b).2;omega
theorem Bp(f:Den G d g)(m:Den G d n)(b:jK d=true)(e:PyData.depth d<=64)(q:Q (.bl false) G):LS g n G Q:=by
 refine⟨d,d,f,m,mY b e,mY b e,?_⟩;rw[v5 b];exact q
theorem CL:∀e:Md,fE (dF e)=true
 |[]=>rfl
 |b::e=>by
  show (lU (.tuple (b.map .int)) && fE (dF e))=true;rw[CL e,tX];rfl
theorem Ik(d:mQ):fE (dC d)=true:=by
 cases d with
 |put b=>
  show (lU (.tuple (b.map .int)) && true)=true;rw[tX];rfl
 |all e=>
  show (fE (dF e) && true)=true;rw[CL];rfl
 |_=>rfl
theorem E4(k:Int)(e:Ent):jK (sQ k e)=true/\PyData.depth (sQ k e)<=64:=by
 constructor
 ·unfold sQ;simp only[jK,lP,Gm];rfl
 ·show max 0 (max (PyData.depthAll (e.1.map .int)+1) (max 0 0))+1<=64;rw[depth_ints];decide
theorem LL(h:iC x=true):PyData.strOk x=true:=by
 unfold iC at h;unfold PyData.strOk;rw[Array.all_eq_true]at h⊢;intro i b;have:=of_decide_eq_true (h i b);exact decide_eq_true (by omega)
theorem yM(h:bY e k=some o):(k,o)∈e:=by
 unfold bY at h;cases y:e.find? λp=>decide (p.1=k) with
 |none=>
  rw[y]at h;cases h
 |some p=>
  rw[y]at h;cases h;have f:=List.mem_of_find?_eq_some y;have b:=List.find?_some (p:=λp:Int×(Str×Int)=>decide (p.1=k)) y;have b:p.1=k:=of_decide_eq_true b;rw[<- b];exact f
theorem Cm(b:Mf)(h:∀p∈hs,PyData.strOk p.2.1=true):jK (.list (pT hs b))=true/\PyData.depth (.list (pT hs b))<=64:=uR λd e=>by
 unfold pT at e;obtain⟨k,_,rfl⟩:=mem_map.mp e;refine⟨?_,by show max 0 (max 0 0)+1<=2;decide⟩;show (true && (PyData.strOk ((bY hs k).getD ("",0)).1 && true))=true;rw[Bool.true_and,Bool.and_true];cases y:bY hs k with
 |none=>decide +kernel
 |some o=>exact h _ (yM y)
abbrev Dz:Stmt:=top 90
def rP(q:Qs):PyData:=.tuple [.list ((q.B.es.map (·.1)).map (lT q.B.es)),.int q.B.up]
inductive uE(A:Ad)(vs:Mp)(H:Hp)(Q:VK)(x_3:XK):Prop
 |mk:∀(L:Pl)(q:Qs),vs=[.ref L.qu]->QueueW A H L q false->(q.B.es.length<800/\(q.B.es.map (·.1)).Pairwise (· <= ·))->(∀p H',aG H H'->Den H' (rP q) (.ref p)->Q (.ref p) H')->uE A vs H Q x_3
section
variable{P:Program}{w:World}{K:Ma}{mg:Mc}{base:Heap}{A:Ad}
theorem HX(F:Fun K "_law_stay" "_law_stay" Dz f D)(T:‹2›)(g:‹16› A.queue "letters" 3 ["self"] (kR A))(m:‹16› A.queue "coming" 1 ["self"] (lZ A)):‹14› 4 f D ["_law_queue_here"] (uE A):=by
 refine F.okY ["_law_queue_here"] λG R n s H S Q E hr nD0 h=>?_;obtain⟨L,q,rfl,r,b,I⟩:=h;refine⟨_,aA (bE (aW HQ (pv 0) jM (bJ _))
   ‹69›
   aO)
  (aC (aP (aU (cN (eK g T.aa0 ‹18› bB (pv 0)) (cN (eK m T.aa0 ‹18› bB (pv 0)) aF))))),?_⟩
 obtain⟨x,y⟩:=r.self;refine⟨_,rfl,rfl,_,rfl,bH (cM rfl ?_)⟩;refine⟨_,rfl,L.qu,x,_,rfl,y,rfl,L,q,rfl,r,b,λJ e N p U t V O=>?_⟩;obtain rfl:J=q.B.es.map (·.1):=eQ e N b.2;refine⟨_,rfl,L.qu,x,_,rfl,t _ _ y,rfl,L,q,rfl,r.same t,aJ,λz u=>?_⟩;have s2:=aD (o:=.tup [.ref p,.int q.B.up]) u;refine I z _ (t.trans s2) ?_;unfold rP;have B:=O.same s2;simp only[Den,aQ]at B⊢;exact⟨z,_,rfl,aB,_,_,rfl,B,_,_,rfl,rfl,rfl⟩
end
abbrev u6:Stmt:=top 86
abbrev xZ:Stmt:=top 89
def J7(p:Int×(Mf×Int)):PyData:=.tuple [.int p.1,.tuple (p.2.1.map .int),.int p.2.2]
def Dq(a:Ab):PyData:=.tuple [.list (a.ls.map J7),.int a.up]
inductive l5(vs:Mp)(H:Hp)(Q:VK)(x_3:XK):Prop
 |mk:∀(S:Sl)(M:Ms)(c n:Nat),vs=[.ref S.ps]->StAt H S M->MsOk M c n->c<=100->(∀p H',aG H H'->Den H' (.list (M.ls.map J7)) (.ref p)->Q (.ref p) H')->l5 vs H Q x_3
inductive n8(vs:Mp)(H:Hp)(Q:VK)(x_3:XK):Prop
 |mk:∀(S:Sl)(M:Ms)(c n:Nat),vs=[.ref S.ps]->StAt H S M->MsOk M c n->c<=100->(∀p H',aG H H'->Den H' (Dq (eF M)) (.ref p)->Q (.ref p) H')->n8 vs H Q x_3
section
variable{P:Program}{w:World}{K:Ma}{mg:Mc}{base:Heap}{A:Ad}
theorem Bh{f:Addr}{U:Ml}(F:Fun K "_law_letters" "_law_letters" u6 f U)(T:‹2›):‹14› 1 f U ["_law_state"] l5:=by
 refine F.okY ["_law_state"] λaa A' B s H vs Q E hr nD0 h=>?_;obtain⟨S,M,c,n,rfl,h,ok,hc,q⟩:=h;refine⟨_,aC (aP (cZ ["_law_number"] [("_law_state",0)] ⋯ (bV K ‹85›) ‹39› ‹44› (λC s2 H2 ex=>(bD jD (aU ‹36›) ‹47›)))),?_⟩;obtain⟨kl,W,X⟩:=h.ls;have cnt:=ok.cnt;have Y:=ok.so.imp Int.le_of_lt;refine⟨_,rfl,S.ps,_,rfl,h.g_letters,S.pl,kl,M.ls.map (·.1),rfl,W,X.keys,.inr Y,by rw[length_map];omega,λp ms m pw hp=>?_⟩;obtain rfl:ms=M.ls.map (·.1):=eQ m pw Y;obtain⟨H2,G,s2,Z⟩:=gUU (o:=.lst ((M.ls.map (·.1)).map V.int)) hp;rw[G];refine⟨p,rfl,⟨_,SqL.of Z⟩,?_⟩;refine cX (bP (K:=K) (SqL.of Z)) (by rw[length_map,length_map];exact le_trans ‹64› (by decide)) (λi y H'=>∃e,M.ls[i]? = some e/\Den H' (J7 e) y) (λi y G1 G2 s h=>by obtain⟨e,h1,h2⟩:=h;exact⟨e,h1,h2.n s (AS e.1 (e.2.1,e.2.2,0))⟩) (λσ=>∃z,σ = [z,some (.ref S.ps)]) ⟨none,rfl⟩ ?_ ?_
 ·intro i x ab H3 hi I J r Q' L;obtain⟨z,rfl⟩:=I;rw[getElem?_map,getElem?_map]at r;cases e:M.ls[i]? with
  |none=>rw[e]at r;cases r
  |some a=>
   rw[e]at r;cases r;have ha:=mem_of_getElem? e;obtain⟨a',v,N,ev,t,b,O,gt,gb⟩:=X.look (mem_map_of_mem (f:=(·.1)) ha);have nd:(M.ls.map (·.1)).Nodup:=ok.so.imp λh=>Int.ne_of_lt h;obtain rfl:a'=a.2:=Option.some.inj ((nC nd N).symm.trans (nC nd ha));have R:=s2.trans J;refine⟨_,rfl,aJ,new_o λpa H4 v1 u1=>?_⟩;have u:=R.trans v1;have h4:=h.same u;have dg:=cQ.k (k:=Sum.inl a.1) (u _ _ W);rw[ev,O]at dg;refine⟨_,rfl,S.ps,_,rfl,h4.g_letters,_,rfl,S.pl,_,rfl,dg,pa,t,_,_,rfl,rfl,u1,u _ _ gt,le_of_ble_eq_true rfl,λpc H8 v2 u2=>?_⟩;refine L _ _ _ ⟨_,rfl⟩ (v1.trans v2) ⟨a,e,?_⟩;unfold J7;simp only[Den,aQ];exact⟨pc,_,rfl,u2,_,_,rfl,rfl,_,_,rfl,⟨b,_,rfl,v2 _ _ (u _ _ gb),cC.mpr rfl⟩,_,_,rfl,rfl,rfl⟩
 intro D ys H3 hD J gD g hR;refine q D H3 (s2.trans J) ?_;simp only[Den];refine⟨D,ys,rfl,gD,iJ (by rw[length_map];rw[length_map,length_map]at g;exact g) λi y e=>?_⟩;obtain⟨a,e1,e2⟩:=hR i y e;exact⟨_,by rw[getElem?_map,e1];rfl,e2⟩
theorem C9{f:Addr}{m:Ml}(F:Fun K "_law_states" "_law_states" xZ f m)(T:‹2›)(b:‹15› "_law_letters" 1 ["_law_state"] l5):‹14› 2 f m ["_law_state"] n8:=by
 refine F.okY ["_law_state"] λx B e s H D Q E hr nD0 h=>?_;obtain⟨S,M,c,n,rfl,h,ok,y,q⟩:=h;refine⟨_,aC (aP (aU (cN (bC b ‹18› bB ‹36›) ‹92›))),?_⟩;refine⟨_,rfl,S,M,c,n,rfl,h,ok,y,λp G r z=>?_⟩;refine⟨_,rfl,S.ps,_,rfl,(h.same r).g_after,aJ,λt g=>?_⟩;have s2:=aD (o:=.tup [.ref p,.int M.after]) g;refine q t _ (r.trans s2) ?_;unfold Dq eF;have u:=z.same s2;simp only[Den,aQ]at u⊢;exact⟨t,_,rfl,aB,_,_,rfl,u,_,_,rfl,rfl,rfl⟩
end
theorem JI{q:Qs}{n c:Nat}(z:Qi q n c):rP q=Dq (fW q):=by
 unfold rP Dq fW
 try dsimp only
 rw[map_map,map_map];congr 3;refine map_congr_left λp b=>?_;have g:(q.B.es.map (·.1)).Nodup:=z.eo.so.imp λh=>Int.ne_of_lt h;have e:bQ q.B.es p.1=some p.2:=by
  obtain⟨e,h⟩:=hW (mem_map_of_mem (f:=(·.1)) b);rw[h];exact congrArg (λx=>some x.2) (DF g (vM h) b rfl)
 show lT q.B.es p.1=_;unfold lT;rw[e];rfl
abbrev Kd:Stmt:=top 88
theorem EM{b : St}{H:Hp}{k:Mp->Hp->Prop}(h:k [] H):lR b H k:=h
theorem IL{J:It}{s H:Hp}{n:Nat}{Y:Nat->V->Hp->Prop}{g:TG}{t:TS}{D:Ends}{b : St}(S:Src J s n Y)(Pv:Nat->St->Hp->Prop)(y:Pv 0 b H)(o:∀i b e,Pv i b e->aG s e)
  (step:∀(r:Ends) i x b q H2,(∀b H,Pv (i+1) b H->r.nx b H/\r.ct b H)->i<n->Pv i b q->aG q H2->Y i x H2->g x b H2 λf z=>t r f z) (fin:∀b e,Pv n b e->D.nx b e) :
  ∃W:Nat->Nat->St->Hp->Prop,(∃m,W 0 m b H)/\∀i m b H,W i m b H->
   (J.stop i H/\D.nx b H)\/(J.go i H/\∃N:St->Hp->Prop,(∀p e,N p e->∃u,u<m/\W (i+1) u p e)/\∀x e,J.yld i H x e->g x b e λf H2=>t {D with nx:=N,ct:=N,bk:=D.nx} f H2):=
 fR S Pv y o (λi x b q H2 G I L O=>step {D with nx:=Pv (i+1),ct:=Pv (i+1),bk:=D.nx} i x b q H2 (λ_ _ h=>⟨h,h⟩) G I L O) fin
theorem new_d{g H2:Hp}{C f n r:Addr}(m:g f=none)(p:g n=none)(t:∀b o,upd (upd g n (.own f)) f (.ins C n []) b=some o->b≠f->H2 b=some o)(q:upd (upd g n (.own f)) f (.ins C n []) r=none):aG g H2/\∀b,own f r [] b->g b=none:=by
 refine⟨λb o e=>?_,?_⟩
 ·have s:b≠f:=bU e m;have u:b≠n:=bU e p;exact t b o (by rw[aH s,aH u];exact e) s
 ·rintro b (rfl |rfl |x)
  ·exact m
  ·cases e:g b with
   |none=>rfl
   |some o=>
    rw[aH (bU e m),aH (bU e p),e]at q;cases q
  ·simp at x
theorem new_q{A:Ad}{H H1 H2 f:Hp}{g n:Addr}{L:Pl}{q:Qs}(s:aG H H1)(t:aG H1 H2)(u:∀b,own g n [] b->H1 b=none)(z:L.dk=g)(B:∀b o,H2 b=some o->¬own g n [] b->f b=some o)(D:∀b,gT L b->own g n [] b\/H2 b=none)(p:QueueW A f L q false):aG H1 f/\(∀b,gT L b->H1 b=none)/\Kc A H L.qu g f L q:=by
 have x:aG H1 f:=λb o e=>B b o (t b o e) (λE=>by rw[u b E]at e;cases e);have m:∀b,gT L b->H1 b=none:=λb r=>by
  rcases D b r with y |y
  ·exact u b y
  ·exact t.free y
 exact⟨x,m,s.trans x,rfl,z,λb r=>s.free (m b r),p⟩
inductive Ci(K:Ma)(A:Ad)(vs:Mp)(H:Hp)(Q:VK)(x_3:XK):Prop
 |mk:∀(Hb:Hp)(a:Addr)(ns:Mf)(dk df p:Addr)(m hh tr:Int),vs=[.ref a,.int 1,.int 20,.ref dk,.ref p]->aG Hb H->(∀b,own dk df [] b->Hb b=none)->SqL K Hb a (ns.map V.int)->DiskAt A.disk H dk df [] ⟨[],0,none⟩->Hb p=some (.tup [.int m,.int hh,.int tr])->(1<=m/\m<=2000)->(0<=hh/\hh<=99)->(1<=tr/\tr<=9)->(∀L q S M pt H',Bo A Hb L.qu dk H' L q S M->Qi q 10000 20->MsOk M 20 20001->fW q=eF M->H' pt=some (.tup [.ref L.qu,.ref S.ps])->Q (.ref pt) H')->Ci K A vs H Q x_3
section
variable{P:Program}{w:World}{K:Ma}{mg:Mc}{base:Heap}{A:Ad}
theorem Lo{f:Addr}{fd:Ml}(F:Fun K "_law_done_so" "_law_done_so" Kd f fd)(T:‹2›)(U:‹15› "do" 10 ["queue","deed"] (xH A))
  (V:‹15› "_law_cell" 1 ["_law_script","_law_k"] (tE K)) (af:‹15› "_law_mix" 1 ["_law_cell_here","_law_prime","_law_many"] Cg) (ag:‹10›) (ah:‹15› "_law_queue" 10 ["_law_disk","_law_settings_here"] (qN A))
  (ai:‹15› "_law_begin" 1 [] xG) (aj:‹15› "_law_deed" 3 ["_law_state","_law_seed_here","_law_tries"] uG) (ak:‹15› "_law_told" 4 ["_law_state","_law_deed_here","_law_settings_here"] uD) :
  ‹14› 11 f fd ["_law_script","_law_at","_law_many","_law_disk","_law_settings_here"] (Ci K A):=by
 refine F.okY ["_law_script","_law_at","_law_many","_law_disk","_law_settings_here","_law_state","_law_queue_here","_law_k","_law_deed_here"] λar A' al s H vs Q E hr nD0 h=>?_;obtain⟨Hb,a,I,J,df,p,m,n,g,rfl,sb,fb,hs,hD,g1,hm,as,W,qq⟩:=h;refine⟨_,aA (a9 (i:=5) nD0 ⋯ ⋯ (Lh ai ‹18› bB))
  (aA (a9 (i:=6) nD0 ⋯ ⋯ (bC ah ‹18› bB (aE (pv 3) ‹62›)))
  (aA (fQ (kB eE) ⋯ (qY ⋯ T.ai3 (cN (bC af ‹18› bB (cN (bC V ‹18› bB (aE (pv 0) ‹32›)) (aI aM (bW (bD cW (pv 2) aM) aF)))) aF)) (bK (i:=7) nD0 ⋯ ⋯)
   (aA (a9 (i:=8) nD0 ⋯ ⋯ (bC aj ‹18› bB (aE (pv 5) (cN (bC ag ‹18› bB (bW (bD cW (bC V ‹18› bB (aE (pv 0) (bW (bD cW (bD cW (pv 1) aM) (bD dW (pv 7) aM)) aF))) (bD rA aM (pv 7))) (aE (pv 7) aF))) (aN (cG (cV K) (pv 4) aM (λ_ _=>rfl)) aF)))))
   (aA (aX (bC U ‹18› bB (aE (pv 6) (aE (pv 8) aF))))
   (aC (aX (bC ak ‹18› bB (aE (pv 5) (aE (pv 8) ‹62›))))))))
  (aC (aP (aU (aE (pv 6) ‹71›)))))),?_⟩
 refine⟨rfl,λS H3 s3 X h3=>?_⟩;have t:uT (.int m) (.int n) (.int g)=true:=by
  unfold uT;simp only[bM,and_eq_true,decide_eq_true_eq];omega
 refine⟨_,rfl,_,rfl,J,df,p,[],⟨[],0,none⟩,m,n,g,rfl,s3 _ _ (sb _ _ g1),t,hD.same s3,⟨rfl,rfl⟩,λL O H5 eL B w5 Y=>?_⟩;obtain⟨S5,am,k5⟩:=new_q (H:=Hb) (H1:=Hb) (aG.refl _) (sb.trans s3) fb eL B w5 Y;have Z:∀b∈stL S,¬own J df [] b:=λb D z=>by
  obtain⟨o,e⟩:=oF hD z;rw[X b D]at e;cases e
 have R:Bo A Hb L.qu J H5 L (nP m n g O) S M0:=⟨k5,h3.keep (λb o e D=>B b o e (Z b D)) ((show rN J df [] H3 H5 from B).tup (hD.same s3)),λb D=>⟨sb.free (X b D),λz=>by
  rcases w5 b z with y |y
  ·exact Z b D y
  ·obtain⟨o,e,_⟩:=h3.here D;rw[y]at e;cases e⟩⟩
 have z5:Qi (nP m n g O) 0 0:=Qi.first hm.1 hm.2 W.1 W.2;have B:((nP m n g O).tries=g/\(nP m n g O).hold=n)/\fW (nP m n g O)=eF M0:=⟨⟨rfl,rfl⟩,rfl⟩;generalize nP m n g O=q5 at R z5 B;obtain⟨L0,aa⟩:∃L0,L0=L.qu:=⟨_,rfl⟩;obtain⟨P0,ab⟩:∃P0,P0=S.ps:=⟨_,rfl⟩;rw[<- aa,<- ab];rw[<- aa]at R;clear k5 Y am w5 t;obtain⟨N,eN⟩:∃N:Nat,(N:Int)=Hm (I.getD (Int.toNat 1) 0) 9949 21:=⟨(Hm (I.getD (Int.toNat 1) 0) 9949 21).toNat,by
  have mb:=md (i:=(I.getD (Int.toNat 1) 0*48271 % 9949) ^ 3 % 9949) (j:=21) (by decide);unfold Hm;omega⟩
 have au:N<=20:=by
  have mb:=md (i:=(I.getD (Int.toNat 1) 0*48271 % 9949) ^ 3 % 9949) (j:=21) (by decide);unfold Hm at eN;omega
 refine⟨_,rfl,_,rfl,a,I,1,rfl,by decide,R.k.same.seq hs,_,rfl,_,_,rfl,rfl,_,9949,21,rfl,by decide,by decide,by decide,(N:Int),by rw[eN],by omega,by omega,?_⟩;refine IL (qJ (H:=λ_=>none) 0 (N:Int).toNat) (λi σ H'=>∃L q S M z7 z8,σ = [some (.ref a),some (.int 1),some (.int 20),some (.ref J),some (.ref p),some (.ref P0),some (.ref L0),z7,z8]/\Bo A Hb L0 J H' L q S M/\Qi q (500*i) i/\MsOk M i (1+1000*i)/\P0=S.ps/\(q.tries=g/\q.hold=n)/\fW q=eF M) ⟨L,q5,S,M0,_,_,rfl,R,z5,M0_ok,ab,B.1,B.2⟩ (λi σ H' n b u e=>by cases e) ?_ ?_
 ·rintro D' i x σ H5 H6 an hi ⟨L,q,S,M,z7,z8,rfl,R,zq,r,eP,⟨tq,hq⟩,eA⟩ s6 rfl;have b6:=R.same s6;have av:i<20:=by omega
  have gp:=b6.k.same _ _ g1;have ao:=b6.k.same.seq hs;have i6:=md (i:=0+(i:Int)) (j:=6) (by decide);refine⟨_,rfl,_,rfl,_,rfl,_,_,rfl,rfl,_,rfl,_,_,rfl,rfl,(by show (0:Int)<6;decide),_,_,rfl,rfl,a,I,_,rfl,(by show 0<=1+1+(0+(i:Int)) % 6;omega),ao,?_⟩;refine⟨_,rfl,_,_,rfl,rfl,.inl ⟨by decide,by decide⟩,_,_,rfl,rfl,_,rfl,_,_,rfl,_,rfl,p,_,_,.int g,rfl,rfl,SqT.of gp,bA (by decide) rfl,S,M,_,g,i,1+1000*i,(by rw[eP]),b6.h,r,by omega,λd td ac H7 s7 gt da ad=>?_⟩;have b7:=b6.same s7;refine⟨_,rfl,_,rfl,EM (Kx b7.k zq (by omega) (by omega) ad gt da λv L' q' H8 st k' z' G=>?_)⟩;have b8:=b7.queue st k';refine⟨_,rfl,_,rfl,_,rfl,S,M,td,p,d,ac,m,n,g,i,1+1000*i,(by rw[eP]),b8.h,r,by omega,by omega,b8.k.same _ _ g1,st.tup _ _ gt,gK st.tup (Ik d) da,ad,λS' M' H9 v' ae h' ap ea=>?_⟩;refine(an _ _ ⟨L',q',S',M',_,_,rfl,b8.state ae h',z'.mono (by omega) (by omega),ap.mono (by omega) (by omega),eP.trans ae.ps.symm,⟨G.1.1.trans tq,G.1.2.1.trans hq⟩,?_⟩).1;rw[G.2,ea,eA,tq,hq]
 ·rintro σ H' ⟨L,q,S,M,z7,z8,rfl,b,zq,r,eP,_,eA⟩;refine⟨_,rfl,_,rfl,aJ,λpt aq=>?_⟩;have s1:=aD (o:=.tup [.ref L0,.ref P0]) aq;have b1:=b.same s1;have eL:=b.k.qu;subst eL;subst eP;exact qq L q S M pt _ b1 (zq.mono (by omega) (by omega)) (r.mono (by omega) (by omega)) eA aB
end
theorem Ie{e:Md}(p:1<=e.length)(q:e.length<=9)(f:∀b∈e,dP b/\b.length<=60):fU (.tuple (dF e))=true:=by
 have m:(dF e).length=e.length:=length_map _;have o:(dF e).all i5=true:=by
  unfold dF;rw[all_map,all_eq_true];exact λb g=>qU (k:="put") (n:=0) (.inl rfl) (by decide) (by decide) (f b g).1 (f b g).2
 simp [fU,m,o];omega
def tT(d:PyData):Prop:=∀x,d = .str x->x.length<=1000/\iC x=true
def BadD(q:Qs):mQ->Mj->Prop
 | .put _,[d]=>i5 d=false/\l8 d
 | .all _,[d]=>fU d=false/\∀b,d = .tuple b->b.length<=1000/\∀e∈b,l8 e
 | .take _,[d]=>cR fZ 6 d=false/\tT d
 | .done _ _,[h,n]=>cR fZ 6 h=true/\tT h/\¬lK q h n
 | .back _ _,[h,n]=>cR fZ 6 h=true/\tT h/\¬lK q h n
 | .wait _,[d]=>∃m,d = .int m/\bM 1 99 (.int m)=false
 | .new _,[d]=>∀n∈q.B.es.map (·.1),d ≠ .int n
 |_,_=>False
section
variable{A:Ad}{H H1:Hp}{L0 D0:Addr}{L:Pl}{q:Qs}{n c:Nat}{Q:V->Hp->Prop}{E:XK}
theorem JA(k:Kc A H L0 D0 H1 L q)(z:Qi q n c)(hc:c<=48){d:mQ}{p:Mj}(B:BadD q d p)(G:p.length=(dC d).length){t:Addr}(dd:Den H1 (.tuple (.str (eC d)::p)) (.ref t))(go:∀H2,aG H1 H2->Q (.str "refused") H2):xH A [.ref L0,.ref t] H1 Q E:=by
 simp only[Den,aQ]at dd;obtain⟨_,_,e,gt,_,I,rfl,rfl,D⟩:=dd;cases e;have cn:=z.eo.cnt;have so:(q.B.es.map (·.1)).Pairwise (· <= ·):=z.eo.so.imp Int.le_of_lt;refine⟨L,q,t,I,d,by rw[k.qu],k.qw,gt,D.length.trans G,λE' hE=>?_⟩;have ref:∀{a:Addr},a∈[A.notHeld,A.badNumber,A.badBody,A.badHand]->∀J,aG H1 J->E' (.ref a) none J:=λha J s=>hE _ J ha (go J s);cases d with
 |put b=>
  obtain⟨x,rfl⟩:=length_eq_one_iff.mp G;obtain⟨v,r,rfl,g,rfl⟩:=D;obtain⟨f,o⟩:i5 x=false/\l8 x:=B;refine⟨L,q,v,x,rfl,k.qw,g,o,λ_=>ref (by simp),λN e R b2=>?_⟩;rw[e,show i5 (.tuple (N.map .int))=true from qU (k:="put") (n:=0) (.inl rfl) (by decide) (by decide) R b2]at f;cases f
 |all bs=>
  obtain⟨x,rfl⟩:=length_eq_one_iff.mp G;obtain⟨v,r,rfl,g,rfl⟩:=D;obtain⟨f,o⟩:fU x=false/\∀p,x = .tuple p->p.length<=1000/\∀e∈p,l8 e:=B;refine⟨L,q,v,x,rfl,k.qw,g,o,λ_=>ref (by simp),λaa e R b9 S=>?_⟩;rw[e,Ie R b9 S]at f;cases f
 |take x=>
  obtain⟨x,rfl⟩:=length_eq_one_iff.mp G;obtain⟨v,r,rfl,g,rfl⟩:=D;obtain⟨f,o⟩:cR fZ 6 x=false/\tT x:=B;exact⟨L,q,v,rfl,k.qw,.inr ⟨x,g,o,f,ref (by simp)⟩⟩
 |done y m=>
  obtain⟨x,y,rfl⟩:=tH G;obtain⟨v,r,rfl,g,u,r,rfl,U,rfl⟩:=D;obtain⟨f,o,V⟩:cR fZ 6 x=true/\tT x/\¬lK q x y:=B;exact⟨L,q,v,u,x,y,rfl,k.qw,g,U,o,λW X Y Z e2 n0 n9 O=>absurd ⟨W,X,Y,Z,e2,n0,n9,O⟩ V,λ_ _=>ref (by simp),(λy=>by rw[f]at y;cases y)⟩
 |back y m=>
  obtain⟨x,y,rfl⟩:=tH G;obtain⟨v,r,rfl,g,u,r,rfl,U,rfl⟩:=D;obtain⟨f,o,V⟩:cR fZ 6 x=true/\tT x/\¬lK q x y:=B;refine⟨L,q,v,u,x,y,rfl,k.qw,g,U,o,λW X Y Z e2 O=>absurd ⟨W,X,Y,Z,e2,?_,?_,O⟩ V,λ_ _=>ref (by simp),(λy=>by rw[f]at y;cases y)⟩
  all_goals
   obtain⟨e,ee⟩:=rC z O;have:=z.eo.ent _ _ ee;have:=z.eo.up0;omega
 |wait m=>
  obtain⟨x,rfl⟩:=length_eq_one_iff.mp G;obtain⟨m,rfl,f⟩:∃m,x = .int m/\bM 1 99 (.int m)=false:=B;simp only[aQ,Den]at D;obtain⟨_,_,rfl,rfl,rfl⟩:=D;exact⟨L,q,m,rfl,k.qw,λ_=>ref (by simp) _ (aG.refl _),(λy=>by rw[f]at y;cases y)⟩
 |new m=>
  obtain⟨x,rfl⟩:=length_eq_one_iff.mp G;obtain⟨v,r,rfl,g,rfl⟩:=D;have f:∀n∈q.B.es.map (·.1),x ≠ .int n:=B;have o:∀{n:Int},n∈y9 q (q.B.es.map (·.1))->x ≠ .int n:=λhn=>f _ (mem_filter.mp (mem_filter.mp hn).1).1;exact⟨L,q,v,x,q.B.es.map (·.1),rfl,k.qw,⟨by omega,so⟩,g,List.Perm.refl _,so,λ_=>ref (by simp),λn e hn _ _=>absurd e (o hn)⟩
 |sweep=>cases p <;> exact B.elim
 |carry=>cases p <;> exact B.elim
end
def FZ(b:Int):List (mQ×Mj):=[(.put [],[.list [.int 1]]),(.put [],[.tuple [.int 256]]),(.all [],[.tuple []]),(.all [],[.tuple [.tuple [.int 1],.none]]),(.take "",[.str "A"]),(.take "",[.none]),(.done "" 0,[.str "a",.int b]),(.done "" 0,[.str "zz",.int 0]),(.back "" 0,[.str "a",.int (-1)]),(.wait 0,[.int 0]),(.new 0,[.int b]),(.new 0,[.none])]
def J1(p:mQ×Mj):PyData:=.tuple (.str (eC p.1)::p.2)
theorem sY{x:Str}(h:x.length<=1000/\iC x=true):tT (.str x):=λy e=>by
 cases e;exact h
theorem J0{q:Qs}{n c:Nat}(z:Qi q n c)(o:∀p∈q.hs,p.2.1 ≠ "zz"):∀p∈FZ q.B.up,BadD q p.1 p.2/\p.2.length=(dC p.1).length:=by
 have r:∀n∈q.B.es.map (·.1),n<q.B.up:=λn b=>by
  obtain⟨e,f⟩:=hW b;exact(z.eo.ent n e f).2.1
 have s:∀{x:Str}{t:Int},bY q.hs q.B.up≠some (x,t):=λh=>by
  obtain⟨e,f⟩:=rC z h;exact absurd (z.eo.ent _ e f).2.1 (Int.lt_irrefl _)
 have g:∀{l:Mj},l.length<=1000->l8 (.tuple l):=λh B e=>by
  cases e;exact h
 intro p m;simp only[FZ,mem_cons,not_mem_nil,or_false]at m;rcases m with rfl |rfl |rfl |rfl |rfl |rfl |rfl |rfl |rfl |rfl |rfl |rfl
 ·exact⟨⟨by decide +kernel,λ_ e=>by cases e⟩,rfl⟩
 ·exact⟨⟨by decide +kernel,g (by decide)⟩,rfl⟩
 ·exact⟨⟨by decide +kernel,λ_ e=>by cases e;exact⟨by decide,λ_ h=>by cases h⟩⟩,rfl⟩
 ·refine⟨⟨by decide +kernel,λ_ e=>?_⟩,rfl⟩;cases e;refine⟨by decide,λx h=>?_⟩;simp only[mem_cons,not_mem_nil,or_false]at h;rcases h with rfl |rfl
  ·exact g (by decide)
  ·exact λ_ e=>by cases e
 ·exact⟨⟨by decide +kernel,sY (by decide +kernel)⟩,rfl⟩
 ·exact⟨⟨by decide +kernel,λ_ e=>by cases e⟩,rfl⟩
 ·exact⟨⟨by decide +kernel,sY (by decide +kernel),λ⟨_,_,_,_,e,_,_,h⟩=>by cases e;exact s h⟩,rfl⟩
 ·exact⟨⟨by decide +kernel,sY (by decide +kernel),λ⟨_,_,_,u,y,_,_,h⟩=>by cases u;cases y;exact o _ (yM h) rfl⟩,rfl⟩
 ·exact⟨⟨by decide +kernel,sY (by decide +kernel),λ⟨_,_,_,_,e,h,_,_⟩=>by cases e;exact absurd h (by decide)⟩,rfl⟩
 ·exact⟨⟨0,rfl,by decide +kernel⟩,rfl⟩
 ·exact⟨λn b e=>by cases e;exact absurd (r _ b) (Int.lt_irrefl _),rfl⟩
 ·exact⟨λn b e=>(by cases e),rfl⟩
abbrev rT:Stmt:=top 91
inductive uH(K:Ma)(vs:Mp)(H:Hp)(Q:VK)(x_3:XK):Prop
 |mk:∀(a:Addr)(ns:Mf),vs=[.ref a]->SqL K H a (ns.map V.int)->(∀H',Q (.bl true) H')->uH K vs H Q x_3
def PEv(e : St)(f:Hp)(g:TE)(d:PyData):Prop:=∀(H:Hp)(Q:VK),aG f H->(∀v b,aG H b->Den b d v->Q v b)->g e H Q
def PAv(f : St)(g:Hp)(t:TA)(m:Mj):Prop:=∀(H:Hp)(Q:Mp->Hp->Prop),aG g H->(∀e b,aG H b->aQ b m e->Q e b)->t f H Q
theorem CD{H:Hp}:∀{a b:Mj}{x y:Mp},aQ H a x->aQ H b y->aQ H (a++b) (x++y)
 |[],_,x,y,f,g=>by
  simp only[aQ]at f;rw[f];exact g
 |_::_,_,x,y,f,g=>by
  simp only[aQ]at f;obtain⟨v,r,rfl,d,e⟩:=f;rw[List.cons_append,List.cons_append];simp only[aQ];exact⟨v,_,rfl,d,CD e g⟩
section
variable{σ : St}{H0:Hp}{te:TE}{t:TA}{d:PyData}{ds:Mj}
theorem DR{i:Nat}{v:V}(e:σ[i]? = some (some v))(h:Den H0 d v):PEv σ H0 (nJ i) d:=λH Q s q=>⟨v,e,q v H (aG.refl H) (h.same s)⟩
theorem DS{v:V}(h:∀H,Den H d v):PEv σ H0 (tC v) d:=λH Q _ q=>q v H (aG.refl H) (h H)
theorem IP{x:Str}:PEv σ H0 (tC (.str x)) (.str x):=DS λ_=>by simp only[Den]
theorem IT{x:Int}:PEv σ H0 (tC (.int x)) (.int x):=DS λ_=>by simp only[Den]
theorem IQ:PEv σ H0 (tC .non) .none:=DS λ_=>by simp only[Den]
theorem Ii:PAv σ H0 lR []:=λH Q _ q=>q _ H (aG.refl H) (by simp only[aQ])
theorem El(e:PEv σ H0 te d)(f:PAv σ H0 t ds):PAv σ H0 (eW te t) (d::ds):=λH Q s q=>
 e H _ s λv g b m=>f g _ (s.trans b) λn H2 s2 o=>q _ H2 (b.trans s2) (by simp only[aQ];exact⟨v,n,rfl,m.same s2,o⟩)
theorem IO(f:ds.length<=sizeLine)(h:PAv σ H0 t ds):PEv σ H0 (JB t) (.tuple ds):=λH Q s q=>
 h H _ s λg n m b=>⟨by rw[b.length];exact f,λp e=>q _ _ (m.trans (aD e)) (by simp only[Den];exact⟨p,g,rfl,aB,b.same (aD e)⟩)⟩
theorem IS(f:ds.length<=sizeLine)(h:PAv σ H0 t ds):PEv σ H0 (K8 t) (.list ds):=λH Q s q=>
 h H _ s λg n m b=>⟨by rw[b.length];exact f,λp e=>q _ _ (m.trans (aD e)) (by simp only[Den];exact⟨p,g,rfl,aB,b.same (aD e)⟩)⟩
theorem IR{i:Int}:PEv σ H0 (tUn (rU λi=>V.int (-i)) (tC (.int i))) (.int (-i)):=λH Q s q=>⟨i,rfl,q _ H (aG.refl H) (by simp only[Den])⟩
theorem ML{f g:TE}{es:Mj}(D:PEv σ H0 f (.list ds))(E:PEv σ H0 g (.list es))(G:ds.length+es.length<=sizeLine):PEv σ H0 (tOp LW f g) (.list (ds++es)):=λH Q s q=>
 D H _ s λv I m n=>E I _ (s.trans m) λu H2 s2 r=>by
  simp only[Den]at n r;obtain⟨a,x,rfl,J,y⟩:=n;obtain⟨b,z,rfl,L,B⟩:=r;refine⟨a,b,x,z,rfl,rfl,s2 _ _ J,L,by rw[y.length,B.length];exact G,λp N=>?_⟩;have e:=aD (o:=.lst (x++z)) N;refine q _ _ (m.trans (s2.trans e)) ?_;simp only[Den];exact⟨p,_,rfl,aB,CD (y.same (s2.trans e)) (B.same e)⟩
theorem Gn{g:TG}{r:TS}{D:Ends}{i:Nat}{x:V}(h:PEv (σ.set i (some x)) H0 te d)(q:∀v b,aG H0 b->Den b d v->Cf g (D.next (r D)) (σ.set i (some x)) v b):Cf (sE i) (D.next (wM (LJ te g) r D)) σ x H0:=h H0 _ (aG.refl H0) q
end
theorem yN(k:Int)(e:Ent):PyData.depth (sQ k e)<=2:=by
 show max 0 (max (PyData.depthAll (e.1.map .int)+1) (max 0 0))+1<=2;rw[depth_ints];decide
theorem xF(q:Qs):jK (rP q)=true/\PyData.depth (rP q)<=64:=by
 obtain⟨e,f⟩:=uR (ds:=(q.B.es.map (·.1)).map (lT q.B.es)) λd b=>by
  obtain⟨k,_,rfl⟩:=mem_map.mp b;unfold lT;exact⟨(E4 _ _).1,yN _ _⟩
 have m:PyData.depthAll ((q.B.es.map (·.1)).map (lT q.B.es))<=2:=rL λd b=>by
  obtain⟨k,_,rfl⟩:=mem_map.mp b;unfold lT;exact yN _ _
 constructor
 ·unfold rP;show (jK (.list _) && (true && true))=true;rw[e];rfl
 ·unfold rP;show max (PyData.depthAll _+1) (max 0 0)+1<=64;omega
theorem IU{G:Hp}{e f:V}{d:PyData}{Q:VK}(m:Den G d e)(n:Den G d f)(b:jK d=true)(g:PyData.depth d<=64)(q:Q (.bl true) G):LV e f G Q:=by
 refine⟨d,d,m,n,mY b g,mY b g,?_⟩;rw[v5 b];exact q
theorem K1{b:List (Str×Mf)}{o f:Mg}(h:List.Perm o f):eqT (nW b o) (nW b f)=true:=by
 have r:∀{n:Str},n∈f->nQ (nW b f) n=some ((aT b n).getD []):=λ{n} g=>by
  unfold nQ nW;rw[List.find?_map];cases y:f.find? ((λp:Str×Mf=>decide (p.1=n)) ∘ λn=>(n,(aT b n).getD [])) with
  |none=>exact absurd (decide_eq_true rfl) (find?_eq_none.mp y n g)
  |some m=>
   have:=List.find?_some y;have e:m=n:=of_decide_eq_true this;rw[e];rfl
 unfold eqT;rw[and_eq_true,decide_eq_true_eq,all_eq_true];refine⟨by unfold nW;rw[length_map,length_map,h.length_eq],λp q=>?_⟩;unfold nW at q;obtain⟨n,g,rfl⟩:=mem_map.mp q;unfold okT;rw[r (h.mem_iff.mp g)];exact decide_eq_true rfl
section
variable{P:Program}{w:World}{K:Ma}{mg:Mc}{base:Heap}{A:Ad}
theorem Lp{f:Addr}{fd:Ml}(F:Fun K "law" "law" rT f fd)(T:‹2›)(ax:‹17› "Disk" A.disk 3 ["self","steps"] (uL A.disk A.badNumber))(ad:‹15› "do" 10 ["queue","deed"] (xH A))
  (ay:‹16› A.queue "held" 1 ["self"] (nY A)) (az:‹16› A.queue "clock" 1 ["self"] (nZ A)) (a0:‹16› A.disk "left" 1 ["self"] (zX A.disk))
  (a1:‹15› "_law_cell" 1 ["_law_script","_law_k"] (tE K)) (a2:‹15› "_law_settings" 2 ["_law_cell_here"] lW) (ae:‹15› "_law_files" 5 ["_law_disk"] (uK A.disk))
  (a5:‹15› "_law_done_so" 11 ["_law_script","_law_at","_law_many","_law_disk","_law_settings_here"] (Ci K A)) (a6:‹15› "_law_states" 2 ["_law_state"] n8) (ba:‹15› "_law_stay" 4 ["_law_queue_here"] (uE A)) :
  ‹14› 12 f fd ["_law_script"] (uH K):=by
 refine F.okY ["_law_script","_law_settings_here","_law_disk","_law_queue_here","_law_state","_law_files_here","_law_after","_law_odd","_law_deed_here","_law_hands"] λca A' bb s H vs Q E hr nD0 h=>?_;obtain⟨a,ns,rfl,hs,hQ⟩:=h;refine⟨_,@aA _ _ _ _ _ (@a9 _ _ (1) _ _ _ _ nD0 ⋯ ⋯ (@bC _ _ _ _ _ _ _ _ _ _ _ a2 ‹18› bB (@cN _ _ _ _ _ _ _ _ (@bC _ _ _ _ _ _ _ _ _ _ _ a1 ‹18› bB (@aE _ _ _ _ _ _ ‹31› ‹40›) ⋯ ⋯ ⋯ ⋯) (@aF _)) ⋯ ⋯ ⋯ ⋯) ⋯ ⋯) (@aA _ _ _ _ _ (@a9 _ _ (2) _ _ _ _ nD0 ⋯ ⋯ (@Kl _ _ _ _ _ _ _ _ _ _ _ _ ax ‹18› bB ‹55› ⋯ ⋯ ⋯ ⋯) ⋯ ⋯) (@aA _ _ _ _ _ (@qX _ _ _ _ _ _ (@bC _ _ _ _ _ _ _ _ _ _ _ a5 ‹18› bB (@aE _ _ _ _ _ _ ‹31› (@aI _ _ _ _ _ _ _ ‹43› (@aI _ _ _ _ _ _ _ ‹43› (@aE _ _ _ _ _ _ ‹65› (@aE _ _ _ _ _ _ (@pv _ 1 _ _ ⋯ ⋯ ⋯ ⋯) (@aF _)))))) ⋯ ⋯ ⋯ ⋯) (@iH _ K _ _ _ (2) _ (@cJ _ _ _ _ _ (@bK _ _ (3) _ nD0 ⋯ ⋯ ⋯) (@cJ _ _ _ _ _ (@bK _ _ (4) _ nD0 ⋯ ⋯ ⋯) (@iG _) ⋯) ⋯) ⋯ ⋯ ⋯ ⋯) ⋯ ⋯ ⋯) (@aA _ _ _ _ _ (@a9 _ _ (5) _ _ _ _ nD0 ⋯ ⋯ (@bC _ _ _ _ _ _ _ _ _ _ _ ae ‹18› bB (@aE _ _ _ _ _ _ ‹65› (@aF _)) ⋯ ⋯ ⋯ ⋯) ⋯ ⋯) (@aA _ _ _ _ _ (@a9 _ _ (6) _ _ _ _ nD0 ⋯ ⋯ ‹81› ⋯ ⋯) (@aA _ _ _ _ _ (@a9 _ _ (7) _ _ _ _ nD0 ⋯ ⋯ (@cA _ _ _ _ (@bF _ _ _ _ _ _ _ (@aU _ _ _ _ _ (@aI _ _ _ _ _ _ _ ‹30› (@eZ _ _ _ _ _ _ (@cA _ _ _ _ ‹40›) (@aF _)))) (@bF _ _ _ _ _ _ _ (@aU _ _ _ _ _ (@aI _ _ _ _ _ _ _ ‹30› (@bF _ _ _ _ _ _ _ (@aU _ _ _ _ _ ‹40›) (@aF _)))) (@bF _ _ _ _ _ _ _ (@aU _ _ _ _ _ (@aI _ _ _ _ _ _ _ ‹30› (@bF _ _ _ _ _ _ _ (@aU _ _ _ _ _ (@aF _)) (@aF _)))) (@bF _ _ _ _ _ _ _ (@aU _ _ _ _ _ (@aI _ _ _ _ _ _ _ ‹30› (@bF _ _ _ _ _ _ _ (@aU _ _ _ _ _ (@bF _ _ _ _ _ _ _ (@aU _ _ _ _ _ ‹40›) ‹55›)) (@aF _)))) (@bF _ _ _ _ _ _ _ (@aU _ _ _ _ _ (@aI _ _ _ _ _ _ _ ‹30› (@aI _ _ _ _ _ _ _ ‹30› (@aF _)))) (@bF _ _ _ _ _ _ _ (@aU _ _ _ _ _ (@aI _ _ _ _ _ _ _ ‹30› ‹55›)) (@aF _)))))))) ⋯ ⋯) (@aA _ _ _ _ _ (@a9 _ _ (7) _ _ _ _ nD0 ⋯ ⋯ (@bD _ _ _ _ _ _ _ _ Cv (@pv _ 7 _ _ ⋯ ⋯ ⋯ ⋯) (@cA _ _ _ _ (@bF _ _ _ _ _ _ _ (@aU _ _ _ _ _ (@aI _ _ _ _ _ _ _ ‹30› (@aI _ _ _ _ _ _ _ ‹30› (@aE _ _ _ _ _ _ ‹68› (@aF _))))) (@bF _ _ _ _ _ _ _ (@aU _ _ _ _ _ (@aI _ _ _ _ _ _ _ ‹30› (@aI _ _ _ _ _ _ _ ‹30› ‹40›))) (@bF _ _ _ _ _ _ _ (@aU _ _ _ _ _ (@aI _ _ _ _ _ _ _ ‹30› (@aI _ _ _ _ _ _ _ ‹30› (@Cu _ _ _ _ _ _ _ (@yE _ _ _ _ _ _ qI ‹43›) (@aF _))))) (@bF _ _ _ _ _ _ _ (@aU _ _ _ _ _ (@aI _ _ _ _ _ _ _ ‹30› ‹40›)) (@bF _ _ _ _ _ _ _ (@aU _ _ _ _ _ (@aI _ _ _ _ _ _ _ ‹30› (@aE _ _ _ _ _ _ ‹68› (@aF _)))) (@bF _ _ _ _ _ _ _ (@aU _ _ _ _ _ (@aI _ _ _ _ _ _ _ ‹30› ‹55›)) (@aF _))))))))) ⋯ ⋯) (@aA _ _ _ _ _ (@fQ _ _ _ _ _ _ _ _ (kB eE) ⋯ (@bV _ K _ _ _ (@pv _ 7 _ _ ⋯ ⋯ ⋯ ⋯) ⋯) (@bK _ _ (8) _ nD0 ⋯ ⋯ ⋯) (@aC _ _ _ (@bE _ _ _ _ _ _ _ _ (@aW _ _ _ _ _ _ _ _ (vH hr.units) (@bC _ _ _ _ _ _ _ _ _ _ _ ad ‹18› bB (@aE _ _ _ _ _ _ (@pv _ 3 _ _ ⋯ ⋯ ⋯ ⋯) (@aE _ _ _ _ _ _ (@pv _ 8 _ _ ⋯ ⋯ ⋯ ⋯) (@aF _))) ⋯ ⋯ ⋯ ⋯) ‹30› (bJ _)) (@aC _ _ _ (@aP _ _ _ _ (@nO _ _ _ _))) (@aO _))) ⋯) (@aA _ _ _ _ _ (@bE _ _ _ _ _ _ _ _ (@PW.pt _ _ _ (@lQ _ _ _ _ _ _ _ (@aW _ _ _ _ _ _ _ _ (Lm hr.units) (@bC _ _ _ _ _ _ _ _ _ _ _ ae ‹18› bB (@aE _ _ _ _ _ _ ‹65› (@aF _)) ⋯ ⋯ ⋯ ⋯) (@pv _ 5 _ _ ⋯ ⋯ ⋯ ⋯) (bJ _)) (@lQ _ _ _ _ _ _ _ (@aW _ _ _ _ _ _ _ _ (vH hr.units) (@bC _ _ _ _ _ _ _ _ _ _ _ ba ‹18› bB (@aE _ _ _ _ _ _ (@pv _ 3 _ _ ⋯ ⋯ ⋯ ⋯) (@aF _)) ⋯ ⋯ ⋯ ⋯) (@bC _ _ _ _ _ _ _ _ _ _ _ a6 ‹18› bB (@aE _ _ _ _ _ _ (@pv _ 4 _ _ ⋯ ⋯ ⋯ ⋯) (@aF _)) ⋯ ⋯ ⋯ ⋯) (bJ _)) (@iV _ _ _ _ (@aW _ _ _ _ _ _ _ _ yH (@eK _ _ _ _ _ _ _ _ _ _ _ _ az T.aa0 ‹18› bB (@pv _ 3 _ _ ⋯ ⋯ ⋯ ⋯) ⋯) ‹81› (bJ _)))))) (@aC _ _ _ (@aP _ _ _ _ (@nO _ _ _ _))) (@aO _)) (@aA _ _ _ _ _ (@lE _ _ _ (9) _ _ _ _ _ _ _ _ _ _ _ ["_law_number"] [("_law_state",4)] nD0 ⋯ ⋯ ⋯ (@bV _ K _ _ _ (@bL _ _ _ _ _ _ _ _ _ (@gM _ ⋯) ⋯ T.ae7 gW (@aN _ _ _ _ _ _ _ ‹81› (@aF _)) ⋯ ⋯ ⋯ ⋯) ⋯) (λC s2 H2 ex=>(@bK _ _ (0) _ ‹41› ⋯ (Or.inl ⋯) ⋯)) (λC s2 H2 ex=>(@AD _)) (λC s2 H2 ex=>(@aU _ _ _ _ _ (@aE _ _ _ _ _ _ ‹31› (@aN _ _ _ _ _ _ _ (@cG _ _ _ _ _ _ _ (cV K) ‹29› ‹43› (λ_ _=>rfl)) (@aF _))))) ⋯ ⋯ ⋯ ⋯ ⋯ ⋯) (@aC _ _ _ (@aP _ _ _ _ (@qZ _ _ _ _ _ _ _ (@hJ _ _ _ _ _ _ _ _ (HU hr.units) (@eK _ _ _ _ _ _ _ _ _ _ _ _ ay T.aa0 ‹18› bB (@pv _ 3 _ _ ⋯ ⋯ ⋯ ⋯) ⋯) (@pv _ 9 _ _ ⋯ ⋯ ⋯ ⋯) (bJ _)) (@vD _ _ _ _ _ (@hJ _ _ _ _ _ _ _ _ HQ (@eK _ _ _ _ _ _ _ _ _ _ _ _ a0 T.ac6 ‹18› bB ‹65› ⋯) (@jM _ _ _) (bJ _))))))))))))))),?_⟩;refine⟨_,rfl,a,ns,0,rfl,by decide,hs,_,rfl,λm hh tr p H1 m1 m2 h1 h2 t1 t2 S1 g1=>?_⟩;refine λR dx bc bd ne=>⟨R,dx,.non,.none,rfl,aB,by simp only[Den],(λz=>by cases z),λ_ df H4 f4 af ag=>⟨rfl,?_⟩⟩;obtain⟨S4,be⟩:=new_d bc bd f4 af;refine⟨_,rfl,_,rfl,_,rfl,H1,a,ns,R,df,p,m,hh,tr,rfl,S4,be,S1.seq hs,ag,g1,⟨m1,m2⟩,⟨h1,h2⟩,⟨t1,t2⟩,λL q S M pt H5 b5 G u eA g5=>?_⟩;obtain⟨L0,ah⟩:∃L0,L0=L.qu:=⟨_,rfl⟩;obtain⟨P0,g⟩:∃P0,P0=S.ps:=⟨_,rfl⟩;rw[<- ah,<- g]at g5;rw[<- ah]at b5;refine⟨pt,_,rfl,SqT.of g5,rfl,_,_,rfl,_,_,rfl,rfl,?_⟩;clear g5;obtain⟨len,ai⟩:q.D.fs.length<=100000/\EN q.D.fs:=by
  obtain⟨k,e,ky⟩:=G.sz.keys;have tp:=G.sz.top;have f0:=G.sz.f0;constructor
  ·have:=congrArg List.length ky;simp only[length_map,length_range]at this;omega
  ·intro n hn;rw[ky]at hn;obtain⟨i,hi,rfl⟩:=mem_map.mp hn;have:=mem_range.mp hi;exact⟨jV ⟨by omega,by omega⟩,qS ⟨by omega,by omega⟩ _ rfl⟩
 refine⟨_,rfl,R,L.df,L.kvs,q.D,rfl,b5.k.disk,len,ai,λcb bf aj cc H6 s6 f6 g6 U=>?_⟩;have b6:=b5.same s6;refine⟨_,rfl,S.ps,_,(by rw[g]),b6.h.g_after,?_⟩;have bg:M.after=q.B.up:=(congrArg Ab.up eA).symm;rw[bg];refine Gn (d:=.list (((FZ q.B.up).take 6).map J1)) ?_ λv7 H7 s7 d7=>?_
 ·repeat' first |exact Ii |refine El ?_ ?_ |refine IO aJ ?_ |refine IS aJ ?_ |exact IR |exact IP |exact IT |exact IQ |exact DR rfl (by simp only[Den])
 refine Gn (d:=.list ((FZ q.B.up).map J1)) ?_ λv8 H8 s8 d8=>?_
 ·refine ML (DR rfl d7) (es:=((FZ q.B.up).drop 6).map J1) ?_ aJ
  repeat' first |exact Ii |refine El ?_ ?_ |refine IO aJ ?_ |refine IS aJ ?_ |exact IR |exact IP |exact IT |exact IQ |exact DR rfl (by simp only[Den])
 simp only[Den]at d8;obtain⟨p8,xs,rfl,g8,bh⟩:=d8;have b8:=b6.same (s7.trans s8);have g6:=(s7.trans s8) _ _ g6;have U:=Ex (λb xs e=>(s7.trans s8) b _ e) U;have hz:∀p∈q.hs,p.2.1 ≠ "zz":=λp hp=>(u.hk p (by rw[<- show q.hs=M.hs from congrArg Ab.hs eA];exact hp)).2.2.2;clear f6 s6 s7 s8 d7 b6 b5 af f4 ag;refine⟨_,rfl,p8,rfl,⟨_,SqL.of g8⟩,?_⟩;refine kH (bP (K:=K) (SqL.of g8)) (λi σ H'=>∃z,σ = [some (.ref a),some (.ref p),some (.ref R),some (.ref L0),some (.ref P0),some (.ref aj),some (.int q.B.up),some (.ref p8),z,none]/\aG H8 H') ⟨_,rfl,aG.refl _⟩ (λi σ H' ⟨_,_,h⟩=>h) ?_ ?_
 ·rintro D' i x σ G1 G2 bi cd hi ⟨z,rfl,sG⟩ s2 W;obtain⟨dd,hd,X⟩:=bh.get W;rw[getElem?_map]at hd;cases e:(FZ q.B.up)[i]? with
  |none=>rw[e]at hd;cases hd
  |some o=>
   rw[e]at hd;cases hd;have bG:=b8.same (sG.trans s2);obtain⟨bj,bk⟩:=J0 G hz o (mem_of_getElem? e);have X:=X.same (sG.trans s2);obtain⟨t,rfl⟩:∃t,x = .ref t:=by
    simp only[J1,Den]at X;obtain⟨t,_,rfl,_⟩:=X;exact⟨t,rfl⟩
   refine⟨_,rfl,_,rfl,EM (JA bG.k G (by omega) bj bk X λH3 s3=>?_)⟩;exact Bp (d:=.str "refused") (by simp only[Den]) (by simp only[Den]) (by decide +kernel) (by decide +kernel) ⟨_,rfl,bH (bi _ _ ⟨_,rfl,(sG.trans s2).trans s3⟩)⟩
 rintro σ H9 ⟨z,rfl,s9⟩;have b9:=b8.same s9;have bm:=Ex (λb xs e=>s9 b _ e) U;refine⟨_,rfl,R,L.df,L.kvs,q.D,rfl,b9.k.disk,len,ai,λce bn bo cf cg Y ch bp ak=>?_⟩;refine⟨_,rfl,bo,aj,_,_,_,_,rfl,rfl,bp,Y _ _ (s9 _ _ g6),ak,Ex (λb xs e=>Y b _ e) bm,?_⟩;rw[K1 (bn.trans bf.symm)];refine⟨_,rfl,bH ?_⟩;have Z:=b9.same Y;have bq:q.B.es.length<800/\(q.B.es.map (·.1)).Pairwise (· <= ·):=⟨by have:=G.eo.cnt;omega,G.eo.so.imp Int.le_of_lt⟩;refine⟨_,rfl,L,q,(by rw[Z.k.qu]),Z.k.qw,bq,λci cj br bs=>?_⟩;have al:=Z.same br;refine⟨_,rfl,S,M,20,20001,(by rw[g]),al.h,u,by omega,λck cl am an=>?_⟩;rw[<- eA,<- JI G]at an;refine Bp (bs.same am) an (xF q).1 (xF q).2 ⟨_,rfl,bH ?_⟩;have r:=al.same am;obtain⟨ao,bt⟩:=r.k.self;refine⟨_,rfl,L0,ao,_,rfl,bt,rfl,L,q,(by rw[r.k.qu]),r.k.qw,_,rfl,S.ps,_,(by rw[g]),r.h.g_time,rfl,?_⟩;rw[show M.time=q.now from (congrArg Ab.now eA).symm];rw[decide_eq_true rfl];refine⟨_,rfl,bH (cM rfl ?_)⟩;have aa:=r.h;obtain⟨kh,a3,a4⟩:=aa.hs;have hl:=u.hl;have I:q.hs=M.hs:=congrArg Ab.hs eA;refine⟨_,rfl,S.ps,_,(by rw[g]),aa.g_hands,S.ph,kh,M.hs.map (·.1),rfl,a3,a4.keys,.inl (by rw[length_map];omega),by rw[length_map];omega,λph ms B pw bu=>?_⟩;obtain⟨cm,bv,ap,aq⟩:=gUU (o:=.lst (ms.map V.int)) bu;rw[bv];refine⟨ph,rfl,⟨_,SqL.of aq⟩,?_⟩;refine cX (bP (K:=K) (SqL.of aq)) (by rw[length_map,B.length_eq,length_map];exact le_trans ‹64› (by decide)) (λj y H'=>∃n,ms[j]? = some n/\Den H' (.tuple [.int n,.str ((bY q.hs n).getD ("",0)).1]) y) (λj y G1 G2 s h=>by obtain⟨n,e,h⟩:=h;exact⟨n,e,h.n s rfl⟩) (λσ=>∃z,σ = [z,some (.ref P0)]) ⟨none,rfl⟩ ?_ ?_
 ·intro j x cn ar hj bw ab W Q' bx;obtain⟨z,rfl⟩:=bw;rw[getElem?_map]at W;cases e:ms[j]? with
  |none=>rw[e]at W;cases W
  |some k=>
   rw[e]at W;cases W;have ac:=ap.trans ab;obtain⟨a',v,ha,ev,t,e1,e2⟩:=a4.look (B.mem_iff.mp (mem_of_getElem? e));have dg:=cQ.k (k:=Sum.inl k) (ac _ _ a3);rw[ev,e1]at dg;refine⟨_,rfl,_,rfl,S.ps,_,(by rw[g]),(aa.same ac).g_hands,_,rfl,S.ph,_,rfl,dg,t,_,_,.str a'.1,rfl,rfl,SqT.of (ac _ _ e2),bA (by decide) rfl,aJ,λpt bz=>?_⟩;refine bx _ _ _ ⟨_,rfl⟩ (aD bz) ⟨k,e,?_⟩;rw[I,pO u.hn ha];simp only[Den,aQ];exact⟨pt,_,rfl,aB,_,_,rfl,rfl,_,_,rfl,rfl,rfl⟩
 intro D ys ar hD ab gD N hR;have J:=r.same (ap.trans ab);have dh:Den ar (.list (pT q.hs ms)) (.ref D):=by
  simp only[Den];refine⟨D,ys,rfl,gD,iJ (by unfold pT;rw[length_map];rw[length_map]at N;exact N) λj y ej=>?_⟩;obtain⟨n,en,X⟩:=hR j y ej;exact⟨_,by unfold pT;rw[getElem?_map,en];rfl,X⟩
 obtain⟨as,b0⟩:=J.k.self;refine⟨_,rfl,L0,as,_,rfl,b0,rfl,L,q,(by rw[J.k.qu]),J.k.qw,by rw[I];omega,λm2 O b1 co cp au cq b2=>?_⟩;rw[I]at O;obtain rfl:m2=ms:=eQ (O.trans B.symm) b1 pw;obtain⟨b3,b4⟩:=Cm (hs:=q.hs) m2 λp hp=>LL (u.hk p (by rw[<- I];exact hp)).2.2.1.2;refine⟨_,rfl,IU b2 (dh.same au) b3 b4 ⟨_,rfl,aZ ?_⟩⟩;have av:=J.same au;obtain⟨aw,b7⟩:=av.k.disk.self;refine⟨_,rfl,R,aw,_,rfl,b7,rfl,R,L.df,L.kvs,q.D,rfl,av.k.disk,rfl,?_⟩;rw[G.sz.left];exact hQ _
end
structure DefIn(K:Ma)(x:Str)(st:Stmt):Prop where
 ex:∃(f:Addr) (oc:Value) (od:Option Addr) (kV doc pm:Value) (an:Option Addr) (cdv ct:Value) (osl:Me),nsIn K mainGlobals x=some (some (.ref f))/\
  K.lookup f=some ⟨oc,od,.func (fnOf x x (gL st) (fO st) (c9 st) .none kV doc pm an cdv ct),osl⟩/\codeIn K cdv x=true/\keepIn K (.ref f)=true
theorem a7{K:Ma}{x:Str}{st:Stmt}{f:Addr}{m:Value}{n o:Option Addr}{e:Me}{kV g p b q:Value}(a:nsIn K mainGlobals x=some (some (.ref f)))
  (l:K.lookup f=some ⟨m,n,.func (fnOf x x (gL st) (fO st) (c9 st) .none kV g p o b q),e⟩) (c:codeIn K b x=true) (k:keepIn K (.ref f)=true):DefIn K x st:=⟨⟨f,m,n,kV,g,p,o,b,q,e,a,l,c,k⟩⟩
theorem DefIn.get{K:Ma}{h:Heap}{mg:Mc}{x:Str}{st:Stmt}(X:K.In h)(G:h.Ns mainGlobals mg)(D:DefIn K x st):∃f b,Fun K x x st f b/\mg x=some (.ref f)/\keepIn K (.ref f)=true:=by
 obtain⟨f,n,o,kV,e,p,q,g,r,m,a,l,c,k⟩:=D.ex;exact⟨f,_,DP l c k,mg_of X G a,k⟩
def sZ:Mg->Mh->Bool
 |[],[]=>true
 |k::b,.str x _::e=>decide (x=k) && sZ b e
 |_,_=>false
theorem oM:∀{b:Mg}{e:Mh},sZ b e=true->cE (b.map V.str) e
 |[],[],_=>.nil
 |k::b,.str x t::e,h=>by
  simp only[sZ,and_eq_true,decide_eq_true_eq]at h;obtain⟨f,g⟩:=h;subst f;exact .cons ⟨t,rfl⟩ (oM g)
def AU(K:Ma)(a:Addr):Bool:=match K.lookup a with
 |some ⟨.type t,none,.seq b n,_⟩=>decide (t = "tuple") && (decide (b.size<=100) && sZ dM b.toList)
 |_=>false
theorem DJ{K:Ma}{a:Addr}(h:AU K a=true):(∀H,SqT K H a (dM.map V.str))/\∃o,K.lookup a=some o/\o.cls = .type "tuple"/\o.dict=none:=by
 unfold AU at h;split at h
 ·next t b n p e=>
  simp only[and_eq_true,decide_eq_true_eq]at h;obtain⟨f,g,m⟩:=h;subst f;exact⟨λH=>.inr ⟨_,b,n,e,rfl,rfl,aJ g,oM m⟩,_,e,rfl,rfl⟩
 ·cases h
structure MethIn(K:Ma)(C:Addr)(x qual:Str)(st:Stmt):Prop where
 ex:∃(f:Addr) (oc:Value) (od:Option Addr) (kV doc pm:Value) (an:Option Addr) (cdv ct:Value) (osl:Me),findIn K (.ref C) x=some (some (.ref f))/\PySem.W.isFn K (.ref f)=true/\
  K.lookup f=some ⟨oc,od,.func (fnOf x qual (gL st) (fO st) (c9 st) .none kV doc pm an cdv ct),osl⟩/\codeIn K cdv qual=true/\keepIn K (.ref f)=true
theorem aY{K:Ma}{C:Addr}{x b:Str}{st:Stmt}{f:Addr}{n:Value}{o p:Option Addr}{g:Me}{kV m q e r:Value}(a:findIn K (.ref C) x=some (some (.ref f)))(i:PySem.W.isFn K (.ref f)=true)
  (l:K.lookup f=some ⟨n,o,.func (fnOf x b (gL st) (fO st) (c9 st) .none kV m q p e r),g⟩) (c:codeIn K e b=true) (k:keepIn K (.ref f)=true):MethIn K C x b st:=⟨⟨f,n,o,kV,m,q,p,e,r,g,a,i,l,c,k⟩⟩
theorem MethIn.get{K:Ma}{C:Addr}{x b:Str}{st:Stmt}(D:MethIn K C x b st):∃f e,Fun K x b st f e/\findIn K (.ref C) x=some (some (.ref f))/\PySem.W.isFn K (.ref f)=true/\keepIn K (.ref f)=true:=by
 obtain⟨f,o,p,kV,g,q,r,m,s,n,a,i,l,c,k⟩:=D.ex;exact⟨f,_,DP l c k,a,i,k⟩
theorem ucs{P:Mh->Prop}{n:Nat}(h:∀a b,b.length=n->P (a::b)):∀b,b.length=n+1->P b:=λb e=>by
 cases b with
 |nil=>cases e
 |cons a r=>exact h a r (Nat.succ.inj e)
theorem us0{P:Mh->Prop}(h:P []):∀b,b.length=0->P b:=λb e=>by
 cases b with
 |nil=>exact h
 |cons a r=>cases e
def Ix(x b:Str)(st:Stmt)(m:Mg):Prop:=∀(kV e n:Value)(o:Option Addr)(f p:Value)(g:Mh),g.length=m.length->bindArgs (fnOf x b (gL st) (fO st) (c9 st) .none kV e n o f p) ⟨g,[]⟩=pure (m.zip g)
local macro_rules | `(tactic| trivial) => `(tactic| (intro _ _ _ _ _ _; (repeat refine ucs λ_ => ?_); exact us0 rfl))
structure Ev(P:Program)(w:World)(K:Ma)(mg:Mc)(base h:Heap):Prop where
 X:K.In h
 G:h.Ns mainGlobals mg
section
variable{P:Program}{w:World}{K:Ma}{mg:Mc}{base h:Heap}{x qual:Str}{st:Stmt}{C:Addr}{k:Nat}{ps:Mg}{sp:Sp}
theorem Ev.c(V:Ev P w K mg base h)(D:DefIn K x st)(ok:∀{f e},Fun K x x st f e->‹14› k f e ps sp)(b:Ix x x st ps:=by trivial):‹15› x k ps sp:=by
 obtain⟨f,e,F,m,kp⟩:=D.get V.X V.G;exact⟨f,e,ok F,m,kp,F.binds b⟩
theorem Ev.m(V:Ev P w K mg base h)(D:MethIn K C x qual st)(ok:∀{f e},Fun K x qual st f e->‹14› k f e ps sp)(b:Ix x qual st ps:=by trivial):‹16› C x k ps sp:=by
 obtain⟨f,e,F,a,i,kp⟩:=D.get;exact⟨f,e,ok F,⟨a,i,kp⟩,F.binds b⟩
theorem Ev.mk2{y:Str}(V:Ev P w K mg base h)(D:MethIn K C "__init__" qual st)(mk:PySem.W.makesIn K C=true)(g:keepIn K (.ref C)=true)(n:nsIn K mainGlobals y=some (some (.ref C)))(ok:∀{f e},Fun K "__init__" qual st f e->‹14› k f e ps sp)(b:Ix "__init__" qual st ps:=by trivial):‹17› y C k ps sp:=by
 obtain⟨f,e,F,a,i,kp⟩:=D.get;exact⟨f,e,ok F,⟨mk,a,i,g⟩,mg_of V.X V.G n,F.binds b⟩
end
theorem Lz{l:PySem.W.OpenLaw}{w:World}{K:Ma}{h:Heap}{mg:Mc}{fa fL aa9 aa2 aa4 ac0 aa5 aa7 aa1 ak2 aj3 aj4 ab0 aj5 ae0 ab4 aa6 aa3 aa8:Addr}(X:K.In h)(G:h.Ns mainGlobals mg)(hfa:mg "law" = some (.ref fa))
  {odL anL:Option Addr} {slL:Me} {ocL kVL dcL pmL cdL ctL:Value} {t0 t1 t2 t3 t4 t5 t6 t7 t8 t9 t10 t11 t12 t13 t14 t15:Tok}
  (ay2:DefIn K "is_number" rV)
  (ar9:DefIn K "check_steps" nN)
  (au4:DefIn K "check_deed" o9)
  (bb7:DefIn K "is_bytes" u7)
  (ay3:DefIn K "fits_kind" rW)
  (bi1:DefIn K "is_row" BG)
  (au5:DefIn K "check_body" pA)
  (ap8:DefIn K "segment_name" l9)
  (ay4:DefIn K "checks_of" rY)
  (ay5:DefIn K "row_bytes" rQ)
  (au6:DefIn K "segment_of" oZ)
  (as0:DefIn K "segments_on" nM)
  (bf2:DefIn K "row_end" xQ)
  (bb8:DefIn K "row_from" uX)
  (bf3:DefIn K "rows_in" xP)
  (ah7:DefIn K "without_last_parts" xM)
  (bf4:DefIn K "is_word" x4)
  (au7:DefIn K "check_name" o6)
  (ay6:DefIn K "make_good" rS)
  (ap9:DefIn K "check_bodies" mB)
  (au8:DefIn K "check_hand" o7)
  (bf5:DefIn K "told_by" xN)
  (d_do:DefIn K "do" s_do)
  (ay7:DefIn K "_law_cell" Gy)
  (ay8:DefIn K "_law_seed" Gp)
  (an9:DefIn K "_law_settings" uW)
  (au9:DefIn K "_law_files" D5)
  (bb9:DefIn K "_law_mix" Kb)
  (am8:DefIn K "check_settings" jW)
  (bf6:DefIn K "rows_of" xO)
  (bf7:DefIn K "book_of" x5)
  (av0:DefIn K "_law_queue" BA)
  (av1:DefIn K "_law_begin" BF)
  (ay9:DefIn K "_law_pick" Gr)
  (av2:DefIn K "_law_ready" A9)
  (av3:DefIn K "_law_bytes" D9)
  (az0:DefIn K "_law_deed" D4)
  (az1:DefIn K "_law_size" D3)
  (av4:DefIn K "_law_write" A8)
  (bc0:DefIn K "_law_put" Gu)
  (av5:DefIn K "_law_given" BC)
  (ak6:DefIn K "_law_front_goes" BD)
  (av6:DefIn K "_law_other" BB)
  (az2:DefIn K "_law_told" Dy)
  (aq0:DefIn K "_law_done_so" Kd)
  (aq1:DefIn K "_law_letters" u6)
  (as1:DefIn K "_law_states" xZ)
  (az3:DefIn K "_law_stay" Dz)
  (bk8:nsIn K mainGlobals "Disk" = some (some (.ref aa6))) (be2:plainGet K aa6 Str.empty=true) (be3:hasDictIn K aa6=true) (be4:PySem.W.plainOver K aa6=true) (be5:findIn K (.ref aa6) "__setattr__" = some (some (.builtin "object.__setattr__"))) (bj2:PySem.W.makesIn K aa6=true) (bj3:keepIn K (.ref aa6)=true)
  (av7:findIn K (.ref aa6) "files" = some none)
  (ak7:findIn K (.ref aa6) "steps_done" = some none)
  (aj9:findIn K (.ref aa6) "steps_ahead" = some none)
  (ao0:MethIn K aa6 "__init__" "Disk.__init__" D8)
  (av8:MethIn K aa6 "names" "Disk.names" Dx)
  (ak8:MethIn K aa6 "check_file" "Disk.check_file" o8)
  (az4:MethIn K aa6 "read" "Disk.read" Gq)
  (az5:MethIn K aa6 "size" "Disk.size" Go)
  (ak9:MethIn K aa6 "count_step" "Disk.count_step" o5)
  (az6:MethIn K aa6 "make" "Disk.make" Gs)
  (az7:MethIn K aa6 "drop" "Disk.drop" Gx)
  (bc1:MethIn K aa6 "cut" "Disk.cut" Ke)
  (bc2:MethIn K aa6 "add" "Disk.add" Kf)
  (az8:MethIn K aa6 "left" "Disk.left" Gv)
  (bk9:nsIn K mainGlobals "Book" = some (some (.ref aa3))) (be6:plainGet K aa3 Str.empty=true) (be7:hasDictIn K aa3=true) (be8:PySem.W.plainOver K aa3=true) (be9:findIn K (.ref aa3) "__setattr__" = some (some (.builtin "object.__setattr__"))) (bj4:PySem.W.makesIn K aa3=true) (bj5:keepIn K (.ref aa3)=true)
  (aq2:findIn K (.ref aa3) "entries" = some none)
  (ah8:findIn K (.ref aa3) "upcoming" = some none)
  (av9:findIn K (.ref aa3) "parts" = some none)
  (am9:MethIn K aa3 "enter_put" "Book.enter_put" rX)
  (al0:MethIn K aa3 "enter_deal" "Book.enter_deal" o0)
  (ai1:MethIn K aa3 "change_entry" "Book.change_entry" BH)
  (aw0:MethIn K aa3 "enter" "Book.enter" D6)
  (as2:MethIn K aa3 "letter" "Book.letter" BE)
  (aq3:MethIn K aa3 "letters" "Book.letters" x3)
  (al1:MethIn K aa3 "numbers_in" "Book.numbers_in" rZ)
  (ao1:MethIn K aa3 "__init__" "Book.__init__" Gw)
  (bj6:nsIn K mainGlobals "Queue" = some (some (.ref aa8))) (bi2:plainGet K aa8 Str.empty=true) (bi3:hasDictIn K aa8=true) (bi4:PySem.W.plainOver K aa8=true) (bi5:findIn K (.ref aa8) "__setattr__" = some (some (.builtin "object.__setattr__"))) (bi6:PySem.W.makesIn K aa8=true) (bi7:keepIn K (.ref aa8)=true)
  (aw1:findIn K (.ref aa8) "disk" = some none)
  (aw2:findIn K (.ref aa8) "most" = some none)
  (aw3:findIn K (.ref aa8) "hold" = some none)
  (as3:findIn K (.ref aa8) "tries" = some none)
  (aw4:findIn K (.ref aa8) "book" = some none)
  (as4:findIn K (.ref aa8) "first" = some none)
  (aw5:findIn K (.ref aa8) "last" = some none)
  (ao2:findIn K (.ref aa8) "writing" = some none)
  (ao3:findIn K (.ref aa8) "holders" = some none)
  (az9:findIn K (.ref aa8) "now" = some none)
  (ah9:MethIn K aa8 "is_last_full" "Queue.is_last_full" A3)
  (ag8:MethIn K aa8 "begin_segment" "Queue.begin_segment" xY)
  (as5:MethIn K aa8 "write" "Queue.write" xR)
  (ba0:MethIn K aa8 "put" "Queue.put" Dw)
  (ao4:MethIn K aa8 "put_all" "Queue.put_all" uZ)
  (ai0:MethIn K aa8 "free_letters" "Queue.free_letters" A4)
  (as7:MethIn K aa8 "ready" "Queue.ready" xT)
  (aw6:MethIn K aa8 "take" "Queue.take" A0)
  (ak0:MethIn K aa8 "check_held" "Queue.check_held" xW)
  (aw7:MethIn K aa8 "done" "Queue.done" A5)
  (al2:MethIn K aa8 "give_back" "Queue.give_back" A7)
  (aw8:MethIn K aa8 "wait" "Queue.wait" Az)
  (aw9:MethIn K aa8 "dead" "Queue.dead" A6)
  (aq4:MethIn K aa8 "revive" "Queue.revive" uY)
  (ak1:MethIn K aa8 "drop_first" "Queue.drop_first" xU)
  (as8:MethIn K aa8 "sweep" "Queue.sweep" xS)
  (as9:MethIn K aa8 "carry" "Queue.carry" xX)
  (ax0:MethIn K aa8 "held" "Queue.held" A2)
  (at1:MethIn K aa8 "clock" "Queue.clock" xV)
  (an0:MethIn K aa8 "__init__" "Queue.__init__" A1)
  (ao5:MethIn K aa8 "letters" "Queue.letters" rR)
  (aq5:MethIn K aa8 "coming" "Queue.coming" u5)
  (aL:nsIn K mainGlobals "law" = some (some (.ref fL))) (lL:K.lookup fL=some ⟨ocL,odL,.func (fnOf "law" "law" (gL rT) (fO rT) (c9 rT) .none kVL dcL pmL anL cdL ctL),slL⟩) (cL:codeIn K cdL "law" = true) (kL:keepIn K (.ref fL)=true)
  (ay0:nsIn K mainGlobals "len" = some none)
  (ae6:nsIn K mainGlobals "isinstance" = some none)
  (bg9:nsIn K mainGlobals "all" = some none)
  (bc3:nsIn K mainGlobals "sum" = some none)
  (al8:nsIn K mainGlobals "tuple" = some none)
  (bc4:nsIn K mainGlobals "int" = some none)
  (bc5:nsIn K mainGlobals "bool" = some none)
  (bc6:nsIn K mainGlobals "str" = some none)
  (aq6:nsIn K mainGlobals "range" = some none)
  (ag0:nsIn K mainGlobals "enumerate" = some none)
  (ax1:nsIn K mainGlobals "list" = some none)
  (bl2:nsIn K mainGlobals "max" = some none)
  (bl3:nsIn K mainGlobals "min" = some none)
  (ar6:nsIn K mainGlobals "sorted" = some none)
  (af7:nsIn K mainGlobals "HIGHEST_BYTE" = some (some (.int 255 t0)))
  (ae9:nsIn K mainGlobals "HIGHEST_NUMBER" = some (some (.int 999999 t1)))
  (aj2:nsIn K mainGlobals "LONGEST_BODY" = some (some (.int 60 t2)))
  (af3:nsIn K mainGlobals "HIGHEST_TIMES" = some (some (.int 9 t3)))
  (af8:nsIn K mainGlobals "LARGEST_DEAL" = some (some (.int 9 t4)))
  (at4:nsIn K mainGlobals "CHECKS_SIZE" = some (some (.int 2 t5)))
  (ba1:nsIn K mainGlobals "HEAD_SIZE" = some (some (.int 7 t6)))
  (aq7:nsIn K mainGlobals "LARGEST_MOST" = some (some (.int 2000 t7)))
  (aq8:nsIn K mainGlobals "LONGEST_HOLD" = some (some (.int 99 t8)))
  (ao6:nsIn K mainGlobals "HIGHEST_TRIES" = some (some (.int 9 t9)))
  (aq9:nsIn K mainGlobals "LONGEST_HAND" = some (some (.int 6 t10)))
  (ar0:nsIn K mainGlobals "LONGEST_NAME" = some (some (.int 8 t11)))
  (ax2:nsIn K mainGlobals "MOST_STEPS" = some (some (.int 100000 t12)))
  (ar1:nsIn K mainGlobals "LONGEST_WAIT" = some (some (.int 99 t13)))
  (ax3:nsIn K mainGlobals "NAME_SIGNS" = some (some (.str cS t14)))
  (ax4:nsIn K mainGlobals "HAND_SIGNS" = some (some (.str "abcdefghijklmnopqrstuvwxyz" t15)))
  (aK:nsIn K mainGlobals "KINDS" = some (some (.ref aa9))) (qK:AU K aa9=true)
  (bf8:nsIn K mainGlobals "BadName" = some (some (.ref aa2))) (an3:dH K aa2=true)
  (bf9:nsIn K mainGlobals "Missing" = some (some (.ref aa4))) (an4:dH K aa4=true)
  (bj7:nsIn K mainGlobals "There" = some (some (.ref ac0))) (ax9:dH K ac0=true)
  (ax5:nsIn K mainGlobals "Stopped" = some (some (.ref aa5))) (an5:dH K aa5=true)
  (ar7:nsIn K mainGlobals "Broken" = some (some (.ref aa7))) (af4:dH K aa7=true)
  (ar8:nsIn K mainGlobals "BadRow" = some (some (.ref aa1))) (ag3:dH K aa1=true)
  (at5:nsIn K mainGlobals "BadSettings" = some (some (.ref ak2))) (ag1:dH K ak2=true)
  (bg0:nsIn K mainGlobals "BadBody" = some (some (.ref aj3))) (aj6:dH K aj3=true)
  (bg1:nsIn K mainGlobals "BadHand" = some (some (.ref aj4))) (an6:dH K aj4=true)
  (ap4:nsIn K mainGlobals "BadNumber" = some (some (.ref ab0))) (af0:dH K ab0=true)
  (bg2:nsIn K mainGlobals "NotHeld" = some (some (.ref aj5))) (aj7:dH K aj5=true)
  (bg3:nsIn K mainGlobals "BadDeed" = some (some (.ref ae0))) (an1:dH K ae0=true)
  (ax6:nsIn K mainGlobals "QueueError" = some (some (.ref ab4))) (bi8:dH K ab4=true)
  (hex0:PySem.W.exmOne K (.ref aj5) (.ref aa5)=some false)
  (hex1:PySem.W.exmOne K (.ref aj5) (.ref ab4)=some true)
  (hex2:PySem.W.exmOne K (.ref ab0) (.ref aa5)=some false)
  (hex3:PySem.W.exmOne K (.ref ab0) (.ref ab4)=some true)
  (hex4:PySem.W.exmOne K (.ref aj3) (.ref aa5)=some false)
  (hex5:PySem.W.exmOne K (.ref aj3) (.ref ab4)=some true)
  (hex6:PySem.W.exmOne K (.ref aj4) (.ref aa5)=some false)
  (hex7:PySem.W.exmOne K (.ref aj4) (.ref ab4)=some true)
  {a_S:Addr} {esS:Array DictEntry} {epS:Nat}
  (aS:nsIn K mainGlobals "SIZES_OF_DEEDS" = some (some (.ref a_S)))
  (lS:K.lookup a_S=some ⟨.type "dict",none,.dict esS epS,#[]⟩)
  (sS:(a_S == sysModules)=false)
  (hS:esS.toList.map (·.hash)=AA.map λp=>PyData.keyHash w.params p.1)
  (eS:pX AA esS.toList=true)
  : ∃fd:Ml,(∀(s:Shared)(v:Value),BindsTo s fd ⟨[v],[]⟩ [("_law_script",v)])/\∀base:Heap,K.In base->base.Ns mainGlobals mg->FnOk l.prog w K mg base (CXE l.prog w) 12 fa fd ["_law_script"] (uH K):=by
 have e:=hfa.symm.trans (mg_of X G aL);cases e;obtain⟨kk1,kk2⟩:=DJ qK;have TK:TxtK K mg aa9 aa1 aa7 aa3:=⟨⟨mg_none_of X G ay0,mg_none_of X G ae6,mg_none_of X G bg9,mg_none_of X G bc3,mg_none_of X G al8,mg_none_of X G bc4,mg_none_of X G bc5,mg_none_of X G bc6,mg_none_of X G aq6,mg_none_of X G ag0,⟨_,mg_of X G af7⟩,⟨_,mg_of X G ae9⟩,⟨_,mg_of X G aj2⟩,⟨_,mg_of X G af3⟩,⟨_,mg_of X G af8⟩,mg_of X G aK,kk1,kk2,ag3,mg_of X G ar8⟩,mg_none_of X G ax1,mg_none_of X G bl2,mg_none_of X G ar6,af4,mg_of X G ar7,⟨be6,be7,be8,be9⟩,aq2,ah8,av9⟩;have TB:TxtB K mg aa9 aa1 aa7:=⟨⟨mg_none_of X G ay0,mg_none_of X G ae6,mg_none_of X G bg9,mg_none_of X G bc3,mg_none_of X G al8,mg_none_of X G bc4,mg_none_of X G bc5,mg_none_of X G bc6,mg_none_of X G aq6,mg_none_of X G ag0,⟨_,mg_of X G af7⟩,⟨_,mg_of X G ae9⟩,⟨_,mg_of X G aj2⟩,⟨_,mg_of X G af3⟩,⟨_,mg_of X G af8⟩,mg_of X G aK,kk1,kk2,ag3,mg_of X G ar8⟩,mg_none_of X G ax1,⟨_,mg_of X G at4⟩,⟨_,mg_of X G ba1⟩,af4,mg_of X G ar7⟩;have TD:TxtD K mg aa2 aa4 ac0 aa5 aa1 ab0 aa6:=⟨⟨mg_none_of X G ay0,mg_none_of X G ae6,mg_none_of X G bg9,mg_none_of X G bc3,mg_none_of X G al8,mg_none_of X G bc4,mg_none_of X G bc5,mg_none_of X G bc6,mg_none_of X G aq6,mg_none_of X G ag0,mg_none_of X G ax1,mg_none_of X G ar6,⟨_,mg_of X G af7⟩⟩,⟨_,mg_of X G ax3⟩,⟨_,mg_of X G ar0⟩,⟨_,mg_of X G ax2⟩,an3,mg_of X G bf8,an4,mg_of X G bf9,ax9,mg_of X G bj7,an5,mg_of X G ax5,ag3,mg_of X G ar8,af0,mg_of X G ap4,⟨be2,be3,be4,be5⟩,av7,ak7,aj9⟩;have TQ:TxtQ K mg ‹19›:=⟨mg_none_of X G ay0,mg_none_of X G bc4,mg_none_of X G ar6,mg_none_of X G bc3,af4,mg_of X G ar7,⟨be6,be7,be8,be9⟩,⟨be2,be3,be4,be5⟩,⟨bi2,bi3,bi4,bi5⟩,mg_none_of X G bl3,⟨_,mg_of X G aq7⟩,⟨_,mg_of X G aq8⟩,⟨_,mg_of X G ao6⟩,⟨_,mg_of X G ax4⟩,⟨_,mg_of X G aq9⟩,⟨_,mg_of X G ae9⟩,⟨_,mg_of X G af3⟩,ag1,mg_of X G at5,aj6,mg_of X G bg0,an6,mg_of X G bg1,aj7,mg_of X G bg2,ah8,aw1,aw2,aw3,as3,aw4,as4,aw5,ao2,ao3,az9,mg_none_of X G ae6,mg_none_of X G al8,mg_none_of X G ag0,mg_none_of X G aq6,mg_none_of X G ax1,⟨_,mg_of X G af8⟩,af0,mg_of X G ap4⟩;have TS:TxtS l.prog w K mg ‹19› a_S ae0 ab4:=⟨mg_none_of X G ay0,mg_none_of X G ae6,mg_none_of X G al8,mg_none_of X G bc6,an1,mg_of X G bg3,mg_of X G ax5,List.forall_mem_cons.mpr ⟨⟨hex0,hex1⟩,List.forall_mem_cons.mpr ⟨⟨hex2,hex3⟩,List.forall_mem_cons.mpr ⟨⟨hex4,hex5⟩,List.forall_mem_cons.mpr ⟨⟨hex6,hex7⟩,λ_ h=>nomatch h⟩⟩⟩⟩,mg_of X G ax6,mg_of X G aS,gd_of (ps:=AA) sS lS hS eS (by decide)⟩;refine⟨fnOf "law" "law" (gL rT) (fO rT) (c9 rT) .none kVL dcL pmL anL cdL ctL,λs v=>.of_eq rfl,λbase _ _=>?_⟩;have V:Ev l.prog w K mg base h:=⟨X,G⟩;have ab2:=V.c ay2 λF=>AM F TK.toTxtR;have ak3:=V.c ar9 λF=>vK F TD ab2;have bi0:=V.mk2 ao0 bj2 bj3 bk8 λF=>Hf F TD ak3;have am3:=V.c au4 λF=>wT F TS;have ad1:=V.c bb7 λF=>Bl F TK.toTxtR ab2;have ao7:=V.c ay3 λF=>AN F TK.toTxtR;have ai5:=V.c bi1 λF=>FW F TK.toTxtR ab2 ad1 ao7;have ae4:=V.c au5 λF=>wU F TQ ai5;have ab3:=V.c ap8 λF=>sN F;have ao8:=V.c ay4 λF=>AQ F TK.toTxtR;have ac1:=V.c ay5 λF=>AK F TK.toTxtR ai5 ao8;have am1:=V.c au6 λF=>vJ F;have ai9:=V.m av8 λF=>FN F TD;have ad6:=V.c as0 λF=>sM F TQ am1 ai9;have an8:=V.c bf2 λF=>Bc F TB;have ar2:=V.c bb8 λF=>AJ F;have at9:=V.c bf3 λF=>Bb F TB ad1 an8 ar2;have ae8:=V.c ah7 λF=>BY F TQ;have ag7:=V.c bf4 λF=>DB F TD.toTxtN;have ae3:=V.c au7 λF=>wQ F TD ag7;have ag2:=V.m ak8 λF=>wS F TD ae3;have al7:=V.m az4 λF=>Jq F TD ag2;have al4:=V.m az5 λF=>Jo F TD ag2;have ak5:=V.m ak9 λF=>wP F TD;have al5:=V.m az6 λF=>Js F TD ae3 ak5;have al6:=V.m az7 λF=>Jw F TD ag2 ak5;have bh7:=V.m bc1 λF=>Jx F;have ah2:=V.m bc2 λF=>Lq F TD ad1 ag2 ak5;have af1:=V.c ay6 λF=>Ha F TQ ab3 ad6 at9 ae8 ac1 al7 al4 al5 al6 bh7 ah2;have ax7:=V.m am9 λF=>AO F TK;have bg8:=V.m al0 λF=>wO F TK ax7;have bc7:=V.m ai1 λF=>FX F TK;have ai7:=V.m aw0 λF=>He F TK ax7 bg8 bc7;have ah3:=V.m ah9 λF=>FK F TQ ab3 al4;have ag5:=V.m ag8 λF=>C7 F TQ ab3 ac1 al5 ah2;have ab7:=V.m as5 λF=>Cy F TQ ab3 ac1 af1 ah2 ai7 ah3 ag5;have bh9:=V.m ba0 λF=>HV F TQ ae4 ab7;have ai8:=V.c ap9 λF=>sO F TQ ae4;have ar3:=V.m ao4 λF=>Be F TQ ai8 ab7;have ae5:=V.c au8 λF=>wR F TQ ag7;have ad2:=V.m as2 λF=>FU F TK;have af6:=V.m aq3 λF=>DA F TK ad2;have ac8:=V.m ai0 λF=>FL F TQ af6;have ba4:=V.m as7 λF=>C0 F TQ ac8;have bd6:=V.m aw6 λF=>FJ F TQ ae5 ad2 ba4 ab7;have ad7:=V.m ak0 λF=>Bg F TQ ab2 ae5;have bd7:=V.m aw7 λF=>C4 F TQ ad7 ab7;have am2:=V.m al2 λF=>C8 F TQ ad7;have bd8:=V.m aw8 λF=>FI F TQ ab2 ad2 (hw:=⟨_,mg_of X G ar1⟩);have bd5:=V.m aw9 λF=>FM F TQ ac8;have au1:=V.m aq4 λF=>Bd F TQ ab2 bd5 ab7;have ad4:=V.m al1 λF=>AR F TK;have ad5:=V.m ak1 λF=>C3 F TQ ab3 al6;have ba5:=V.m as8 λF=>Cz F TQ ad4 ad5;have ba6:=V.m as9 λF=>C6 F TQ ad4 ad2 ad5 ab7;have au2:=V.c bf5 λF=>Cw F TQ bh9 ar3 bd6 bd7 am2 bd8 au1 ba5 ba6;have c_do:=V.c d_do λF=>ok_do F TQ TS am3 au2;have be0:=V.m ax0 λF=>C2 F TQ;have ba7:=V.m at1 λF=>C5 F TQ;have be1:=V.m az8 λF=>Ju F TD;have ae1:=V.c ay7 λF=>Jy F TQ;have ab6:=V.c ay8 λF=>Jp F;have ah5:=V.c an9 λF=>BZ F TQ ab6;have ah6:=V.c au9 λF=>Hd F TQ ai9 al7;have ar5:=V.c bb9 λF=>Ln F;have ag6:=V.c am8 λF=>pG F TQ ab2;have at8:=V.c bf6 λF=>Ba F;have bh6:=V.mk2 ao1 bj4 bj5 bk9 λF=>Jv F TK;have au0:=V.c bf7 λF=>Hh F TQ ad6 at8 bh6 ai7;have bd9:=V.mk2 an0 bi6 bi7 bj6 λF=>C1 F TQ ag6 au0 af1;have am6:=V.c av0 λF=>FQ (A:=‹19›) F bd9;have am7:=V.c av1 λF=>FV F;have af2:=V.c ay9 λF=>Jr F;have ac3:=V.c av2 λF=>FP F TQ;have ah4:=V.c av3 λF=>Hg F TQ ab6 af2;have ap1:=V.c az0 λF=>HZ F TQ af2 ac3 ah4 ab6;have ap0:=V.c az1 λF=>HY F TQ;have ab5:=V.c av4 λF=>FO F TQ ap0;have al3:=V.c bc0 λF=>Jt F TQ ab5;have am4:=V.c av5 λF=>FS F TQ ab5;have ae2:=V.c ak6 λF=>FT F;have am5:=V.c av6 λF=>FR F TQ ab5 ac3 ae2;have ap2:=V.c az2 λF=>HW F TQ al3 ab5 ac3 am4 am5;have aj1:=V.c aq0 λF=>Lo F TQ c_do ae1 ar5 ab6 am6 am7 ap1 ap2;have aj0:=V.c aq1 λF=>Bh F TQ;have ak4:=V.c as1 λF=>C9 F TQ aj0;have ar4:=V.m ao5 λF=>AL F TQ af6;have au3:=V.m aq5 λF=>Bf F TQ;have ap3:=V.c az3 λF=>HX F TQ ar4 au3;exact Lp (DP (st:=rT) lL cL kL) TQ bi0 c_do be0 ba7 be1 ae1 ah5 ah6 aj1 ak4 ap3
theorem walk{l:PySem.W.OpenLaw}{q:Program}{b:Mg}{XP:(Mc)->Heap->Prop}{g:World->Heap->Prop}{d:DefRec}{K:Params->Ma}(p:l.most=some 63)(e:d.params.defaults=[])
  (r:∀(w:World)(h:Heap),g w h->(K w.params).In h)
  (F:∀(w:World)(mg:Mc)(m:Addr)(h:Heap),(K w.params).In h->h.Ns mainGlobals mg->mg d.name=some (.ref m)->
   ∃o:Ml,(∀(s:Shared)(u:Value),BindsTo s o ⟨[u],[]⟩ [("_law_script",u)])/\∀base:Heap,(K w.params).In base->base.Ns mainGlobals mg->FnOk l.prog w (K w.params) mg base (CXE l.prog w) 12 m o ["_law_script"] (uH (K w.params))) :
  PySem.W.WalkO q b XP g l.row.toRowW d [] (λf t=>PySem.call f t):=
 L2.I0 (n:=63) (k:=12) (x:="_law_script") (CX:=λw=>CXE l.prog w) (sp:=λw=>uH (K w.params)) p (by decide) e ⟨rfl,by decide,by decide⟩ r F (λ_ _ a y E _ hS=>⟨a,y,rfl,hS,λ_=>rfl⟩) λ_ _ _ _ _ ⟨_,_,_,_,_,z⟩=>z
end Qh
end
structure PySem.W.Fast:Prop where
 (tw14637671892700734950 tw12333543108463118204 tw11145717384948253230 tw10352998495845035419 tw709146482526309215 tw857362476329374189 tw16330088347412062439 tw14624666537484134611 tw7083469243506221885 tw7896852995934493655 tw10817518499225219101 tw199489235711211514 tw15656119924734712672 tw1695389523020451660 tw5267037059400233285 tw17253428011008891787 tw1797712760843287829 tw8687427877368447167 tw10870516954312422510 tw8917531571321034535 tw3522891940212958048 tw14321987861827921738 tw5271034162633107670 tw11393840720655175588 tw18149784830527936562 tw8453472044027394777 tw10909997841910950768 tw8741765392391704232 tw3053726275752577272 tw7187654576129973384 tw16177164932817003551 tw13027678152875254483 tw7501797128358216464 tw5450671946829895811 tw1473067738905954289 tw14579097989296099336 tw17992001445045702841 tw12077775932454128778 tw7001775992442353167 tw3502981487802696956 tw14754734164512651346 tw14096129541423882408 tw12647087734001973406 tw5097739206498493594 tw9586486730855353957 tw17296834092013052679 tw7816458098709549099 tw17397456378417981091 tw2753002397543089293 tw8910559534492899052 tw9224936341717568580 tw18246471127984541300 tw17859841251868431531 tw11607661794687968323 tw16395213971314545681 tw10246149800249937201 tw12510060160956555229 tw1565215066539974148 tw14001951430666481536 tw12713621158771207832 tw14363394754260161095 tw8182832228627309043 tw8794975941646447941 tw8576259363041193906 tw13515417153599302320 tw1142703794860015279 tw8593422781507783282 tw38325910404559259 tw18155399269599981524 tw16168882445112986566 tw14665782377127715380 tw10079861158346589861 tw15940534005297742743 tw14335192297027464685 tw12548420933051447168 tw14160563979952331804 tw2336680539190497583 tw15461807282079103449 tw13972283771364213965 tw12433963729471614697 tw16908608251759596034 tw16876192514662432103 tw13738214233464696180 tw7649701380272423316 tw14623944694757030515 tw1549174292687918856 tw5500232602357988207 tw8225556978731543927 tw2856486740178128135 tw1144541289205189232 tw16956802201687139351 tw16421398611458949236 tw12406058821942326774 tw12491761282661574801 tw15864698525650130319 tw5721709762799574361 tw9542069692456637407 tw17227337488623263798 tw6541013498839743178 tw3061645451486246588 tw1450284230535153328 tw2122965313287498752 tw8167980934165736899 tw13617773369479448505 tw535679821488110725 tw4429231760971471535 tw10510087782064511989 tw15157756235398344642 tw14963812903090539407 tw16176605221503305525 tw18365299981975211157 tw13739517961931881031 tw13330366392163474404 tw10842592402439284140 tw13109129226557098755 tw11117314903913553166 tw15295492097338697782 tw712114397006015944 tw12848539077957656194 tw6669720544307616061 tw8130817460111043436 tw3425979944220738361 tw11118996257308379745 tw1492359395208203180 tw1088652808651184733 tw11199643867033206265 tw9306253881837417033 tw17673991114120051610 tw13724325454932641758 tw8426585998146554513 tw17273356683893020811 tw6143216300079139905 tw10021500001409036346 tw14446591921555897845 tw16395129137299815906 tw4731860953292379318 tw17586544389969682394 tw1266383549442477703 tw390251860148230745 tw6315280076952603160 tw6927082996519336956 tw12532361843925858312 tw15623412578691775939 tw17845077071451610720 tw473881620676155093 tw18389072112339834398 tw5123495945796141594 tw9467118059275920788 tw7687543653342298702 tw189851724812633098 tw14004757475240332385 tw18395215576154485287 tw6151670490103742312 tw6442094592662567009 tw4785006604858863596 tw14920565609983039029 tw11352428519759390961 tw5252748569692719297 tw16389027134726433475 tw10604334044564322030 tw16997965783774445132 tw7533122446629203249 tw33164708600771252 tw5756439629581080776 tw2112474735052347761 tw2673518812397531840 tw1311353690682851660 tw12649697310192095357 tw14086356032382412554 tw1746675622691988049 tw7859374028356131899 tw9450902224096469988 tw10074056444085318376 tw5622597571427669890 tw1564719735374237786 tw284538182532525515 tw3358108279771483883 tw15915421281305898574 tw5025926562573939280 tw17620005513089373546 tw16871296519839817536 tw17511659928210671843 tw9157139262796370526 tw16167698276856231982 tw3294130251168069742 tw1500699810390334490 tw13088075103057300411 tw9480932426955924109 tw883749603821988906 tw9015022233243469198 tw1893494114888018372 tw16272593655534174880 tw6030360499235708049 tw8892689928111044870 tw13000081768098787924 tw16919800657756652210 tw11265854961460170519 tw2715699391454874915 tw10717389247444809475 tw16249241520042688757 tw5447774945145859993 tw9617584086826845259 tw17277926353913468989 tw11231570154722852453 tw10505689574115283372 tw14232971314285995026 tw6439302273340092356 tw15015328560092966418 tw15469468974132114437 tw16285052554000721236 tw13361218910522526249 tw2952023865945857672 tw7978417593247577373 tw2985231818884561563 tw11388499476664494525 tw7876452455880418327 tw12146516510260984590 tw16942156817137767968 tw13827976051474924755 tw12509458881553677733 tw12090864929721306814 tw1489409774989887116 tw18410784838355840458 tw18258493737558417143 tw5115764176454032495 tw6176155834898736344 tw8750878053993647015 tw18079234207720450499 tw13753266378877618193 tw7921103043071749280 tw88542196411428789 tw8084054170941663170 tw17991365866609461996 tw17863999641342149054 tw11639365319631798800 tw14680198582004320185 tw15035751258863453463 tw6315922975196534436 tw15695738528010932059 tw10642146375395239034 tw437074637960287066 tw7692653860551373505 tw8548538303381314284 tw13115453529546212104 tw9102000333284532332 tw17486449618092399866 tw3062328613683376602 tw1269422492410643116 tw608333697235652031 tw916777418836802242 tw12653228487610767518 tw14061250728137784148 tw9645122485453987971 tw6711167585580735404 tw13163666241474069107 tw778535049885962316 tw12162239972985329427 tw4404511442046424297 tw5105971074264879517 tw4966036007042667203 tw617402229735762914 tw15502673249888523913 tw9000757180025451246 tw6076434593068421632 tw16177404766944000480 tw12474203306577724108 tw17250240548831296862 tw4200011910892082762 tw5177617168438694798 tw2478552042910071929 tw8370016593235310368 tw13876921170712781592 tw1904214258620692560 tw8919114488538994707 tw853862272746644767 tw4856636156965908707 tw12385522869421221285 tw1511615640520664435 tw2277550113942087862 tw6595062613665299834 tw15599479195672854831 tw5290084625637755582 tw12615659522594441746 tw2248594533791106259 tw13895497698025743139 tw7562780523262062863 tw17912665277132371461 tw1035716493768856127 tw11912184256901425986 tw17550832981594899722 tw17801424502807421910 tw16711801614165855320 tw12316277148154533799 tw8425469311699810221 tw6734757049247144242 tw6323946605038067325 tw3529306432196333206 tw6025785313052311453 tw18328076984888362584 tw6552383192937231482 tw16032183995389973405 tw12268654577411459971 tw13739305762367972276 tw6124591017506288013 tw11796183049640818425 tw3115708437335290762 tw7933894032509439279 tw13323876674959351107 tw1596228025327696236 tw16419687865242128621 tw5796770427995437611 tw10782468020131970213 tw1168483116531058684 tw9916006872613198893 tw6143515804704273371 tw16766449810305137308 tw13988611266077152392 tw3165407489320966559 tw10835575454228893927 tw1804782978298294981 tw16662216878419781333 tw11070916083804158097 tw10501298093215444854 tw12687878016341833543 tw14707780808193083057 tw12308205656782642178 tw2894992288818777945 tw9105367783569029492 tw9218510291214230618 tw1991088243425883118 tw9741388612318458374 tw17981223808484041258 tw8855498816140494168 tw12785826431999216375 tw16480022765130461403 tw10118886466748662692 tw9915314811877232355 tw1466850385149307763 tw7170341427029843097 tw6764584640258675653 tw9074361716749240880 tw1674413996304832638 tw16214419249038442190 tw11186770971456791557 tw15796318719298788790 tw11261322307227240843 tw3630166649112409947 tw14884090311905392307 tw8277517017784504881 tw16173756371001437212 tw97789603755693743 tw16181462462353096003 tw6031405270276761158 tw16405088394253455183 tw5842108633817141911 tw16580040621079507227 tw18244282350115363411 tw18438088112376683772 tw3907215825173686706 tw8625396891999333458 tw3062794063789216993 tw2376891848112318708 tw12148699982787310132 tw7798871223262893024 tw4204059430149762346 tw18324245694665497300 tw980590760512629202 tw14091164202041742717 tw9291338296186688160 tw8091497778618398403 tw4191654492351695329 tw3723455834247284149 tw12274353446758273423 tw10787836733307256559 tw17894102170505651042 tw15996832513257891510 tw11471369453176303747 tw1017684507146238095 tw6162082400473990666 tw6181242092220028893 tw6659337341077492009 tw17496726040014586797 tw157646894563549528 tw2453556451985624846 tw5969016014376023554 tw382170802501476521 tw3709482292798782287 tw17172545432923825263 tw14900957054620456634 tw4026188628463781099 tw1316421725765024158 tw5539602099604710348 tw15738732587259041009 tw12673264675447250574 tw9795262295069473489 tw7847549265967977421 tw15312237241995667551 tw3252313857992133268 tw16857591798164085792 tw12428741465615500648 tw12109634678088915211 tw6272468557969448536 tw4859992029236036117 tw14819693959912499686 tw15586935752695692314 tw6841666486605335515 tw6153712247699048771 tw8266862551173508089 tw11117690968318755432 tw1736281632937477113 tw6875114831109147798 tw272728065529205571 tw8628300270527573231 tw5880888783678236595 tw5661725262090866716 tw18039269180348254818 tw4965165407858657381 tw5480291007307478324 tw5000635800865667023 tw7876041964551225486 tw14967824741320404677 tw3317708894105837177 tw13970504912601677364 tw1783625396472444360 tw1783447301910794092 tw4152742700402282523 tw2115507906065479093 tw15804162390209933793 tw3623827838566585332 tw10886514514451274890 tw4570953515403273637 tw15944368354423540580 tw16859083518093088758 tw2753208200382762858 tw8493932864267620993 tw10180988208969289341 tw9371157998564527392 tw17737592137137020785 tw15474716498511940282 tw937715855237023678 tw18262239268671978778 tw15605206023324803616 tw1619146899154304214 tw17905774405757592101 tw17202879336499131132 tw14431315589149863889 tw17235979558703359531 tw9826921186583402983 tw11590192569674005254 tw7770057906115315564 tw16632163213709120993 tw18035706871541660581 tw7776339893497958487 tw2581815655727151588 tw7147201853539197411 tw11090223694770875165 tw8115563510035153542 tw8135470210630258385 tw15312642584367883181 tw11603687201404010868 tw8726111404776205676 tw14902233261692290984 tw10877359033600841213 tw6633865079999985265 tw3399572312824193554 tw3916049542124366448 tw3295043365937052877 tw1963213647612739867 tw8827880044794939728 tw13667100851329165016 tw7286524699869494332 tw15693445036130197396 tw3531117172236790469 tw12026118185316321603 tw14239205928976052545 tw10797689576540829025 tw7915332220197336140 tw9349143628381240937 tw14319257652579598492 tw18137239199818013892 tw15202005795517544427 tw3215000472698575937 tw7940196842986623126 tw15117207791542621750 tw1017173735561078477 tw7256319947458630314 tw15865187731829987256 tw7450701947858532551 tw5547560273173205205 tw7547989910854916574 tw445034056211062261 tw12062808634937230915 tw17199901303570116772 tw10973688517801370491 tw11729432236871402282 tw418090530464444259 tw11912911141826784704 tw2013761210726915753 tw4035286311489597477 tw4130779362777865631 tw927639902073026606 tw8897938174559200700 tw9091673746670380330 tw7454106661551005576 tw4996566337546862518 tw1541504344356717197 tw3798213557972919612 tw7936908096816799090 tw7147994281267606397 tw1694813134778688090 tw12617455396518504160 tw16104377952010960943 tw5413020729048608201 tw2402511816208803679 tw16564947188771382748 tw11872398012773574477 tw5239842385931595686 tw7797916047995747797 tw6738193498277826864 tw13177814893943212277 tw6363958303165216271 tw4170772580195295469 tw3107719116850005254 tw936128672126140188 tw6455381264677639505 tw12632326578586389594 tw12837906424407099054 tw522173264808060468 tw10621624261638543387 tw266270084079713356 tw8342045475576136597 tw4625065560380292111 tw16443692389265088446 tw11994967135067412077 tw16846486632630790608 tw10949684876173054441 tw3032168509723634792 tw12710900632219948387 tw675391545637545393 tw13764106926408974489 tw1915888482856865714 tw6745604628818841534 tw7588147917269762591 tw8516554251682661596 tw16872282853793257483 tw16019611227614891458 tw8849853750800604213 tw638988233913286290 tw10507228644885726962 tw18242563141209170790 tw12982771036714816446 tw10708906991578489586 tw17397667132049040212 tw18097663392177819637 tw3946662928943629944 tw13624065206254813718 tw16884665772312458238 tw9585487578815340784 tw12288765860716667835 tw9827584163014207113 tw3172264502771891342 tw15247965588741279041 tw18094392851277469162 tw14488745696459351569 tw1311769802970258117 tw17602045386731418821 tw5134419151240393164 tw1872004402987928272 tw17937576263030629832 tw6803184947371749669 tw17962339063973444425 tw997298342404510602 tw4877929344581619776 tw1524558300610183225 tw3161375168404370385 tw4364768170381190565 tw12869911792753039405 tw1568539185462283658 tw14889145682389965576 tw6539666726069903279 tw13484685199726205931 tw17123209736468088725 tw16611428522793942241 tw25717552766561562 tw3542973194256642268 tw1074840686305624384 tw11188338838419564622 tw5053707252467591595 tw2497027062999697902 tw18090892702696455188 tw7345234780834793181 tw3727305279515252483 tw9618967418262931554 tw9844089412108143861 tw7245772475450291614 tw10761989473050597777 tw12041049266064781723 tw13586996502496602174 tw11644622666301376554 tw3486008647369341520 tw13514353081311393919 tw4434841184446969276 tw12317651642099516580 tw5154708821293206716 tw15226701133690147549 tw2328103285495100997 tw10150126729952427284 tw14277853547662098350 tw2011012313279625610 tw4272893042960228519 tw11801523948562719070 tw3371608976972970713 tw13416844461317608939 tw10268158430157252741 tw6371030358624661428 tw2929307790563409308 tw3658557279812914446 tw5681518454804799344 tw11936303937210205322 tw2480713100991066984 tw11050950250657227885 tw10819848496100032460 tw15505428158275066792 tw5573307290293672053 tw3884823037273602351 tw13440809776856638027 tw8303185605004117356 tw7854807307428880835 tw16669518032109401316 tw16094066824068442690 tw2885366940279728633 tw4254423050113224599 tw3475503673022864415 tw5699216726252483274 tw17061322907524793477 tw17337680251637087838 tw10936159040452661999 tw14154320932307198866 tw11529118903600730118 tw12541471118354080160 tw15713236840470780282 tw7940429324069714238 tw18326252199423032860 tw17936511383227491368 tw14768581656648327031 tw14003623889705592967 tw5974924891954617730 tw4966701400950633459 tw8592090633174062021 tw17400065906429051269 tw16068410378936480001 tw15280873716017696207 tw10316085398216636901 tw12878476340844755739 tw9497006014499153274 tw12570625334672500230 tw14125582604916101486 tw11562548273726152189 tw14598043292242551701 tw6198166334815022098 tw1787914825285359539 tw14054560462876327737 tw2614577455199193865 tw11272598839966468907 tw4800870842862462720 tw6441807743760224972 tw8700127045236447196 tw14786332901196344675 tw2717903108481464698 tw6055322066686029669 tw7208504309191737735 tw6030202109441531280 tw18162035978153933832 tw3101160781521823399 tw7864656647690848198 tw7643555018723543350 tw7341819889760156350 tw7578323432397945639 tw13208547725599786183 tw4080466643674500584 tw10518122760312556544 tw12935714944518238275 tw13005934400529345470 tw12526982564439095371 tw14501048002648769735 tw9096486275200072907 tw7818714836376039110 tw9672404748242942978 tw12694636924445428292 tw7893958762397209693 tw8977327192512396647 tw10807463273130860593 tw3144949174807838581 tw10553296033264125327 tw9306478340428085711 tw305461095789445038 tw17659112821819304419 tw6172132608060976322 tw12060697058960990406 tw11069359995660974353 tw6595215989125987730 tw8086488496551371899 tw6249671807451450310 tw11494886149741660589 tw11309285661912901908 tw5800314703610946657 tw15556795365650010741 tw1765116202752078680 tw6381889203775682951 tw9315263216505137423 tw9119410353661039622 tw12248441352369756233 tw7133787516629449853 tw7809285198253498851 tw10025719362475115026 tw9939244783881067696 tw7784702144826877754 tw6319361039772403458 tw14957880027454249612 tw2269117983629998490 tw15710206217456012577 tw17488009135012457038 tw11616266278085119434 tw5031425647472921038 tw14838011133496789048 tw7058866794468031602 tw13251248416495622166 tw15410119229311166900 tw13589642748674500505 tw14792799381942214596 tw16130253043156104022 tw12671800336775667861 tw7499458021439007291 tw1951126606332057878 tw7540034101193986587 tw13098524490847432365 tw11105756559282201329 tw16637310184773147499 tw18061154062074201555 tw18349566101137132834 tw2014156266561692156 tw10977857210007009781 tw15023099507474403893 tw3872458722902947723 tw7961227439642739054 tw71389398327777468 tw11198705266900938307 tw3650444282406913271 tw656772597527096128 tw3990314721076255420 tw14740104343351198934 tw3738149230515769682 tw6525656792856476020 tw1817200515735233025 tw11396851761759984187 tw17500970338673916701 tw1412253598695722442 tw16361638101268429774 tw9961472891884452414 tw5339039284134525923 tw13137136180198567851 tw5303956555643528347 tw2421914262816054756 tw1688103625654293002 tw14165377125434899119 tw16840424083249705752 tw1487029414499466580 tw12681548201757464663 tw2848015048147592266 tw3218157142446651365 tw16831357675472064542 tw14240340904003949463 tw1251382255827476939 tw4970287169940269148 tw10052229607305254265 tw10993607500520078621 tw9611786787612203376 tw8022739022324453022 tw6112828219071277667 tw4507212124819464892 tw3685266532809448042 tw11690851169079935762 tw6130964950165570476 tw15757012306741472395 tw11591653894584255144 tw11355962142502123427 tw13233618695730776241 tw1217919665364158685 tw14252404887131061612 tw7689904107815695516 tw421050311774163205 tw1972671011616058234 tw17730733882101277645 tw9891724515905573242 tw2525297063721180763 tw17706538155698132292 tw1840201672654882194 tw1997287656762353363 tw5814220744008208788 tw6415939462005481677 tw10341904409293002323 tw10952882427859708175 tw14885467119732548654 tw5374966402652728159 tw7575987203740257417 tw383760730959041134 tw4278489350278958867 tw1616743482755340260 tw15021802731415754946 tw5512342805762044598 tw9178466598690991805 tw14746412644492764216 tw8703715334724197222 tw4455810521158748263 tw1973727196796613960 tw3113276547092724062 tw8180405529094926699 tw11839714365406600136 tw3134529634558954056 tw15706024444096221956 tw13510835788050253308 tw16500668234599729805 tw10332012453333107457 tw11748662398455896712 tw13657386892366032315 tw6942383891075162970 tw8467079247267365667 tw16597378527316883195 tw5190565773054533796 tw2011323356125397295 tw14459702981567968369 tw14231493103359260214 tw4054210800695393052 tw12987757065481625598 tw12754208815770564051 tw11447176886390164995 tw7958597232553000595 tw7195403406010139132 tw139572158647184487 tw14619646940716398387 tw815375407711578318 tw10105717372469437782 tw14231773554393341223 tw6440427176699917767 tw11872575117678455353 tw16874916473704302954 tw16410084554668672366 tw14222694439680463645 tw664648405913024890 tw5390817872294869368 tw4377283044924253345 tw3395134303737555037 tw8862367581284523317 tw8610459670225232835 tw13796970567186330928 tw16017252900972618421 tw3678737402631744313 tw7776423635544432332 tw10638341997120470699 tw4501225972049473854 tw2299208029877323129 tw8090006382007450609 tw2638788832699956758 tw13466310607799863623 tw2128941592928822819 tw5981218404155460905 tw17743050734810887331 tw4496728986572885941 tw5231769849592431665 tw874693462116539216 tw7436490570384039437 tw10686023293876151227 tw3801059327938880122 tw16008885254613676855 tw12053194526702631109 tw11495911509682870109 tw2177499621951490325 tw3260600586289077795 tw10593613975433941476 tw14671037606832514311 tw13249338152099174746 tw18094287144220080008 tw11605119471886459912 tw14296441645981165498 tw6316908694323069114 tw15208775543067177833 tw17225292104956433991 tw4990228158775565486 tw3994549287675805695 tw15992799929756348852 tw14489967716016552816 tw13850917791492199021 tw4674227862356883536 tw16621833525968255791 tw2747996399716600716 tw10288023750508968668 tw10355495863044738816 tw49468612439142798 tw15240887597242310951 tw11021811135449346255 tw17538559064687013145 tw14634075351084784554 tw14341054625436893022:True)
open PySem PySem.W PyProof.Rows
set_option maxRecDepth 100000 in
set_option maxHeartbeats 0 in
theorem PySem.Challenge.cw_queuehold_k34_deeds_refused_holds : PySem.Challenge.rw_queuehold_k34_deeds_refused.Holds := by
 w_on;o_law;k_head;(case hw=>w_witness2)
 k_fill
 refine Qh.walk (l:=PySem.Challenge.rw_queuehold_k34_deeds_refused) rfl rfl (λw h Y=>PySem.W.kIn_of Y) ?F
 case F=>
  intro w mg fa h KX G hmg
  refine' Qh.Lz KX G hmg ?ay2 ?ar9 ?au4 ?bb7 ?ay3 ?bi1 ?au5 ?ap8 ?ay4 ?ay5 ?au6 ?as0 ?bf2 ?bb8 ?bf3 ?ah7 ?bf4 ?au7 ?ay6 ?ap9 ?au8 ?bf5 ?A0 ?ay7 ?ay8 ?an9 ?au9 ?bb9 ?am8 ?bf6 ?bf7 ?av0 ?av1 ?ay9 ?av2 ?av3 ?az0 ?az1 ?av4 ?bc0 ?av5 ?ak6 ?av6 ?az2 ?aq0 ?aq1 ?as1 ?az3 ?bk8 ?be2 ?be3 ?be4 ?be5 ?bj2 ?bj3 ?av7 ?ak7 ?aj9 ?ao0 ?av8 ?ak8 ?az4 ?az5 ?ak9 ?az6 ?az7 ?bc1 ?bc2 ?az8 ?bk9 ?be6 ?be7 ?be8 ?be9 ?bj4 ?bj5 ?aq2 ?ah8 ?av9 ?am9 ?al0 ?ai1 ?aw0 ?as2 ?aq3 ?al1 ?ao1 ?bj6 ?bi2 ?bi3 ?bi4 ?bi5 ?bi6 ?bi7 ?aw1 ?aw2 ?aw3 ?as3 ?aw4 ?as4 ?aw5 ?ao2 ?ao3 ?az9 ?ah9 ?ag8 ?as5 ?ba0 ?ao4 ?ai0 ?as7 ?aw6 ?ak0 ?aw7 ?al2 ?aw8 ?aw9 ?aq4 ?ak1 ?as8 ?as9 ?ax0 ?at1 ?an0 ?ao5 ?aq5 ?aL ?lL ?cL ?kL ?ay0 ?ae6 ?bg9 ?bc3 ?al8 ?bc4 ?bc5 ?bc6 ?aq6 ?ag0 ?ax1 ?bl2 ?bl3 ?ar6 ?af7 ?ae9 ?aj2 ?af3 ?af8 ?at4 ?ba1 ?aq7 ?aq8 ?ao6 ?aq9 ?ar0 ?ax2 ?ar1 ?ax3 ?ax4 ?aK ?qK ?bf8 ?an3 ?bf9 ?an4 ?bj7 ?ax9 ?ax5 ?an5 ?ar7 ?af4 ?ar8 ?ag3 ?at5 ?ag1 ?bg0 ?aj6 ?bg1 ?an6 ?ap4 ?af0 ?bg2 ?aj7 ?bg3 ?an1 ?ax6 ?bi8 ?A1 ?A2 ?A3 ?A4 ?A5 ?A6 ?A7 ?A8 ?aS ?lS ?sS ?hS ?eS
  case ay2|ar9|au4|bb7|ay3|bi1|au5|ap8|ay4|ay5|au6|as0|bf2|bb8|bf3|ah7|bf4|au7|ay6|ap9|au8|bf5|A0|ay7|ay8|an9|au9|bb9|am8|bf6|bf7|av0|av1|ay9|av2|av3|az0|az1|av4|bc0|av5|ak6|av6|az2|aq0|aq1|as1|az3=>refine' Qh.a7 ?a ?l ?c ?k;case a|l|c|k=>k_is
  case bk8|be2|be3|be4|be5|bj2|bj3|av7|ak7|aj9=>k_is
  case ao0|av8|ak8|az4|az5|ak9|az6|az7|bc1|bc2|az8=>refine' Qh.aY ?a ?i ?l ?c ?k;case a|i|l|c|k=>k_is
  case bk9|be6|be7|be8|be9|bj4|bj5|aq2|ah8|av9=>k_is
  case am9|al0|ai1|aw0|as2|aq3|al1|ao1=>refine' Qh.aY ?a ?i ?l ?c ?k;case a|i|l|c|k=>k_is
  case bj6|bi2|bi3|bi4|bi5|bi6|bi7|aw1|aw2|aw3|as3|aw4|as4|aw5|ao2|ao3|az9=>k_is
  case ah9|ag8|as5|ba0|ao4|ai0|as7|aw6|ak0|aw7|al2|aw8|aw9|aq4|ak1|as8|as9|ax0|at1|an0|ao5|aq5=>refine' Qh.aY ?a ?i ?l ?c ?k;case a|i|l|c|k=>k_is
  case aL|lL|cL|kL|ay0|ae6|bg9|bc3|al8|bc4|bc5|bc6|aq6|ag0|ax1|bl2|bl3|ar6|af7|ae9|aj2|af3|af8|at4|ba1|aq7|aq8|ao6|aq9|ar0|ax2|ar1|ax3|ax4|aK=>k_is
  (case qK=>exact rfl)
  case bf8=>k_is
  (case an3=>exact rfl)
  case bf9=>k_is
  (case an4=>exact rfl)
  case bj7=>k_is
  (case ax9=>exact rfl)
  case ax5=>k_is
  (case an5=>exact rfl)
  case ar7=>k_is
  (case af4=>exact rfl)
  case ar8=>k_is
  (case ag3=>exact rfl)
  case at5=>k_is
  (case ag1=>exact rfl)
  case bg0=>k_is
  (case aj6=>exact rfl)
  case bg1=>k_is
  (case an6=>exact rfl)
  case ap4=>k_is
  (case af0=>exact rfl)
  case bg2=>k_is
  (case aj7=>exact rfl)
  case bg3=>k_is
  (case an1=>exact rfl)
  case ax6=>k_is
  (case bi8=>exact rfl)
  (case A1=>kts_exm)
  (case A2=>kts_exm)
  (case A3=>kts_exm)
  (case A4=>kts_exm)
  (case A5=>kts_exm)
  (case A6=>kts_exm)
  (case A7=>kts_exm)
  (case A8=>kts_exm)
  case aS|lS=>k_is
  (case sS=>exact rfl)
  (case hS=>exact rfl)
  (case eS=>exact rfl)
end

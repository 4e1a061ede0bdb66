import PyProof.Rows.All
import Wide.All
import OpenK.AllK
import Wide.FinOn
import Lean
import PyProof.EqAt
import PyProof.EqKinds
import PyProof.TupleCall
import PySem.Challenge.RW_queuehold_k21_not_held
open List (length_map map_cons getElem?_map mem_cons length_cons mem_map mem_singleton length_append getElem?_eq_getElem mem_cons_of_mem map_map mem_cons_self mem_filter mem_append map_append find?_cons append_assoc mem_of_getElem? mem_append_right size_toArray getD_eq_getElem?_getD mem_map_of_mem map_nil all_eq_true length_range map_congr_left append_nil length_filter_le take_length nodup_cons find?_eq_none filter_cons any_eq_true ext_getElem? mem_range getElem?_eq_none any_cons take_succ drop_eq_getElem_cons nodup_append length_take take_append_drop mem_append_left getElem?_append_right all_cons map_id extract_eq_take_drop all_map getElem?_range filter_map filterMap_cons getElem?_append_left length_nil range_succ_eq_map take_add_one pairwise_append)
open Nat (le_refl le_trans ne_of_lt zero_le lt_of_lt_of_le lt_trans le_of_ble_eq_true lt_of_le_of_lt le_of_lt le_succ lt_succ_of_lt lt_succ_self lt_irrefl ne_of_gt le_succ_of_le)
open PySem.W (nsIn mg_of mg_none_of findIn keepIn fnOf kia_one emptyDict instObj codeIn plainGet hideAll hasDictIn callWith_K hideAll_get of_hideAll plainGet_of callWith_K0 methodCall_KW kitx_list kitx_dict kdu_collect kdl_dict)
open Bool (and_eq_true)
open PySem.Heap (lt_size get?_push_of_some get?_push_size size_push)
open Array (toList_append length_toList getElem?_toList toList_extract toList_push)
open Int (emod_nonneg emod_lt_of_pos)
open Option (map_eq_none_iff)
set_option maxHeartbeats 4000000
noncomputable section
abbrev Mt:=List (Int×(PySem.Str×Int))
abbrev Mm:=PySem.Value->PySem.Shared->Prop
abbrev Ml:=PySem.FuncData
abbrev Mj:=List PySem.PyData
abbrev Mh:=List PySem.Value
abbrev Mg:=List PySem.Str
abbrev Mf:=List Int
abbrev Me:=Array (Option PySem.Value)
abbrev Md:=List (Mf)
abbrev Mc:=PySem.Str->Option PySem.Value
abbrev Mb:=List (PySem.Addr×PySem.Obj)
abbrev Ma:=PySem.W.Frag
set_option Elab.async false
set_option linter.all false
set_option maxRecDepth 100000
namespace L2
open PySem PySem.Spec PyProof.Rows
abbrev Key:=Sum Int Str
def rX:Key->Value->Bool
 | .inl k,v=>Value.isInt k v
 | .inr x,v=>Value.isStrOf x v
def Lz(w:World):Key->Int
 | .inl k=>hashInt k
 | .inr x=>hashStr w x
theorem cY:∀{k:Key}{v:Value},rX k v=true->(∃i t,k=Sum.inl i/\v=Value.int i t)\/(∃x t,k=Sum.inr x/\v=Value.str x t)
 | .inl i,v,h=>by
  obtain⟨t,e⟩:=Value.isInt_shape (k:=i) (v:=v) h;exact .inl ⟨i,t,rfl,e⟩
 | .inr x,v,h=>by
  obtain⟨t,e⟩:=Value.isStrOf_shape (x:=x) (v:=v) h;exact .inr ⟨x,t,rfl,e⟩
theorem Fn(i:Int)(t:Tok):rX (.inl i) (.int i t)=true:=by simp [rX,Value.isInt]
theorem rA(x:Str)(t:Tok):rX (.inr x) (.str x t)=true:=by simp [rX,Value.isStrOf]
theorem Ly(a b:Int):decide ((Sum.inl a:Key)=Sum.inl b)=(a == b):=by
 by_cases e:a=b
 ·subst e;simp
 ·have h:¬(Sum.inl a:Key)=Sum.inl b:=λq=>e (Sum.inl.inj q);rw[decide_eq_false h];exact(beq_eq_false_iff_ne.mpr e).symm
theorem Lv(a b:Str):decide ((Sum.inr a:Key)=Sum.inr b)=decide (a=b):=by
 by_cases e:a=b
 ·subst e;simp
 ·have h:¬(Sum.inr a:Key)=Sum.inr b:=λq=>e (Sum.inr.inj q);rw[decide_eq_false h,decide_eq_false e]
theorem Lx(a:Int)(b:Str):decide ((Sum.inl a:Key)=Sum.inr b)=false:=decide_eq_false (λq=>nomatch q)
theorem Lw(a:Str)(b:Int):decide ((Sum.inr a:Key)=Sum.inl b)=false:=decide_eq_false (λq=>nomatch q)
def bF(prog:Program)(w:World):PySem.KeyKind prog w Key where
 is:=rX
 hash:=Lz w
 inj:=λv a b ha hb=>by
  rcases cY ha with ⟨i,t,rfl,rfl⟩ | ⟨x,t,rfl,rfl⟩
  ·rcases cY hb with ⟨j,u,rfl,e⟩ | ⟨y,u,rfl,e⟩
   ·injection e with e1 _;rw[e1]
   ·exact nomatch e
  ·rcases cY hb with ⟨j,u,rfl,e⟩ | ⟨y,u,rfl,e⟩
   ·exact nomatch e
   ·injection e with e1 _;rw[e1]
 byValue:=λk v h=>by
  rcases cY h with ⟨i,t,rfl,rfl⟩ | ⟨x,t,rfl,rfl⟩ <;> rfl
 pyHash:=λhv h=>by
  rcases cY hv with ⟨i,t,rfl,rfl⟩ | ⟨x,t,rfl,rfl⟩
  ·exact wpAny_pyHash_int h
  ·exact wpAny_pyHash_str h
 eqBool:=λhu hv h=>by
  rcases cY hu with ⟨i,t,rfl,rfl⟩ | ⟨x,t,rfl,rfl⟩
  ·rcases cY hv with ⟨j,u,rfl,rfl⟩ | ⟨y,u,rfl,rfl⟩
   ·rw[Ly]at h;exact wpAny_eqBool_int h
   ·rw[Lx]at h;exact SeqAt.EqAt.int_str i t y u _ _ _ _ h
  ·rcases cY hv with ⟨j,u,rfl,rfl⟩ | ⟨y,u,rfl,rfl⟩
   ·rw[Lw]at h;exact SeqAt.EqAt.str_int x t j u _ _ _ _ h
   ·rw[Lv]at h;exact wpAny_eqBool_str h
 «strs»:=λk x t v h=>by
  rcases cY h with ⟨i,u,rfl,e⟩ | ⟨y,u,rfl,e⟩
  ·exact nomatch e
  ·injection e with e1 _
   subst e1;cases v <;> rfl
theorem Be(b:Program)(w:World)(i:Int)(t:Tok):(bF b w).is (.inl i) (.int i t)=true:=Fn i t
theorem Bd(b:Program)(w:World)(x:Str)(t:Tok):(bF b w).is (.inr x) (.str x t)=true:=rA x t
inductive V where
 |non |bl (b:Bool) |int (i:Int) |str (x:Str) |byt (b:Array UInt8) |flt (b:UInt64) |ref (a:Addr) |ty (n:String)
 deriving DecidableEq
abbrev Mp:=List V
abbrev Mo:=List (Str×V)
abbrev Mn:=List (Key×V)
def cC:V->Value->Prop
 | .non,u=>u=Value.none
 | .bl b,u=>u=Value.bool b
 | .int i,u=>∃t,u=Value.int i t
 | .str x,u=>∃t,u=Value.str x t
 | .byt b,u=>∃t,u=Value.bytes b t
 | .flt b,u=>∃t,u=Value.float b t
 | .ref a,u=>u=Value.ref a
 | .ty n,u=>u=Value.type n
abbrev cE:Mp->Mh->Prop:=Paired cC
theorem cE.length(r:cE b e):b.length=e.length:=Paired.length r
theorem cE.get:∀{b:Mp}{f:Mh}{i:Nat}{x:V},cE b f->b[i]? = some x->∃u,f[i]? = some u/\cC x u
 |_,_,_,_,.nil,e=>by simp at e
 |_,_,0,_,.cons r _,e=>by simp at e;subst e;exact⟨_,rfl,r⟩
 |_,_,i+1,x,.cons _ t,e=>by
  obtain⟨u,g,m⟩:=cE.get (i:=i) (x:=x) t (by simpa using e);exact⟨u,by simpa using g,m⟩
theorem cE.append:∀{b e:Mp}{f g:Mh},cE b f->cE e g->cE (b++e) (f++g)
 |_,_,_,_,.nil,s=>s
 |_,_,_,_,.cons r t,s=>.cons r (cE.append t s)
theorem cE.take:∀{b:Mp}{e:Mh}(n:Nat),cE b e->cE (b.take n) (e.take n)
 |_,_,0,_=>.nil
 |_,_,_+1,.nil=>.nil
 |_,_,n+1,.cons r t=>.cons r (cE.take n t)
theorem cE.drop:∀{b:Mp}{e:Mh}(n:Nat),cE b e->cE (b.drop n) (e.drop n)
 |_,_,0,r=>r
 |_,_,_+1,.nil=>.nil
 |_,_,n+1,.cons _ t=>cE.drop n t
def kU:Option V->Option Value->Prop
 |some v,some u=>cC v u
 |none,none=>True
 |_,_=>False
def KV{b : Type}:List (b×V)->List (b×Value)->Prop:=Paired λ(p:b×V)(q:b×Value)=>p.1=q.1/\cC p.2 q.2
def kV:Key->V
 | .inl i=>.int i
 | .inr x=>.str x
inductive HO where
  |lst (xs:Mp)
  |tup (xs:Mp)
  |dK (kvs:Mn) |dT (kvs:List (List Key×V))
  |set (S:Int->Bool) (n:Nat)
  |ins (C dx:Addr) (fs:Mo)
  |own (x:Addr)
  |xd (fs:Mo)
  |met (f x:Addr)
  |rng (lo hi:Int)
  |frz (o:Obj) (u:HO)
  |tbl (ps:Array Value)
  |ext (φ : Heap->Prop)
abbrev Hp:=Addr->Option HO
def upd(H:Hp)(a:Addr)(o:HO):Hp:=λb=>if b=a then some o else H b
theorem aB:upd H a o a=some o:=by unfold upd;rw[if_pos rfl]
theorem aH(h:b≠a):upd H a o b=H b:=by unfold upd;rw[if_neg h]
theorem ne_of{H:Hp}{a b:Addr}{o u:HO}(h:H a=some o)(f:H b=some u)(d:o≠u):a≠b:=by
 intro e;subst e;rw[h]at f;exact d (Option.some.inj f)
theorem bS{H:Hp}{a b:Addr}{o:HO}(h:H a=some o)(f:H b=none):a≠b:=by
 intro e;subst e;rw[h]at f;cases f
section
variable(P:Program)(w:World)
def eC(H:Hp)(h:Heap)(a:Addr):HO->Prop
 | .lst g=>g.length<=sizeLine/\∃(b:Mh) (n:Nat),cE g b/\h.get? a=some {cls:=.type "list",data:=.seq b.toArray n}
 | .tup g=>g.length<=sizeLine/\∃b:Mh,cE g b/\IsTup h a b.toArray
 | .dK e=>e.length<=sizeLine/\(a == sysModules)=false/\∃D,KV e D/\h.DictOf (bF P w) a D
 | .dT e=>e.length<=sizeLine/\(a == sysModules)=false/\∃g:List (List Key×Addr×Value),
   Paired (λ(p:List Key×V)(q:List Key×Addr×Value)=>p.1=q.1/\H q.2.1=some (.tup (p.1.map kV))/\cC p.2 q.2.2) e g/\
   ∃o E J,h.get? a=some o/\o.ExactDict/\o.data = .dict E J/\E.toList=g.map (entryOfKey (tupleKind (bF P w)))/\(g.map (·.1)).Nodup
 | .set S n=>h.SetOf (intKind P w) a S n
 | .ins C z y=>H z=some (.own a)/\y.length<=1000/\z≠a/\h.get? a=some (instObj C z)/\
   ∃r,h.Ns1 z r/\(∀f,kU (y.lookup f) (r f))/\PySem.Within r (y.map (·.1))
 | .own _=>∃o,h.get? a=some o
 | .xd y=>∃r,h.Ns1 a r/\∀f,kU (y.lookup f) (r f)
 | .rng lo L=>∃t u v,h.get? a=some {cls:=.type "range",data:=.fields #[.int lo t,.int L u,.int 1 v] }
 | .frz o u=>h.get? a=some o/\eC H h a u
 | .tbl N=>h.get? a=some {cls:=.none,data:=.fields N}
 | .met f x=>h.get? a=some (PySem.W.methodObj (.ref f) (.ref x))
 | .ext B=>B h/\(∃o,h.get? a=some o)/\∀G I:Heap,B G->(∀o,G.get? a=some o->I.get? a=some o)->B I
def HOk(H:Hp)(h:Heap):Prop:=∀a o,H a=some o->eC P w H h a o
end
section
variable{P:Program}{w:World}{H H':Hp}{h h':Heap}{a:Addr}{o:HO}
theorem eC.lt(x:eC P w H h a o):a<h.objs.size:=by
 cases o with
 |lst g=>obtain⟨_,_,_,_,e⟩:=x;exact lt_size e
 |tup g=>obtain⟨_,_,_,p⟩:=x;exact p.lt
 |dK b=>obtain⟨_,_,_,_,o,_,_,e,_⟩:=x;exact lt_size e
 |dT b=>obtain⟨_,_,_,_,o,_,_,e,_⟩:=x;exact lt_size e
 |set S n=>obtain⟨o,_,_,_,e,_⟩:=x;exact lt_size e
 |ins C q m=>obtain⟨_,_,_,e,_⟩:=x;exact lt_size e
 |own y=>obtain⟨_,e⟩:=x;exact lt_size e
 |xd m=>obtain⟨_,⟨_,_,_,e,_⟩,_⟩:=x;exact lt_size e
 |rng lo r=>obtain⟨_,_,_,e⟩:=x;exact lt_size e
 |frz s u=>obtain⟨e,_⟩:=x;exact lt_size e
 |tbl t=>exact lt_size (show h.get? a=some _ from x)
 |met f y=>exact lt_size (show h.get? a=some _ from x)
 |ext z=>obtain⟨_,⟨_,e⟩,_⟩:=x;exact lt_size e
theorem Paired.mapP{m n : Type}{F G:m->n->Prop}:∀{e : List m}{g : List n},Paired F e g->(∀a b,F a b->G a b)->Paired G e g
 |_,_,.nil,_=>.nil
 |_,_,.cons r t,f=>.cons (f _ _ r) (Paired.mapP t f)
theorem eC.stay(x:eC P w H h a o)(k:∀b u,(b=a\/H b=some (.own a))->h.get? b=some u->h'.get? b=some u)
  (O:∀b,H b=some (.own a)->H' b=some (.own a)) (Q:∀b D,H b=some (.tup D)->H' b=some (.tup D)):eC P w H' h' a o:=by
 induction o with
 |lst D=>obtain⟨z,B,n,r,e⟩:=x;exact⟨z,B,n,r,k _ _ (.inl rfl) e⟩
 |tup D=>obtain⟨z,B,r,g,e,c⟩:=x;exact⟨z,B,r,g,k _ _ (.inl rfl) e,c⟩
 |dK G=>obtain⟨z,y,R,r,g,m,s,e,c⟩:=x;exact⟨z,y,R,r,g,m,s,k _ _ (.inl rfl) e,c⟩
 |dT G=>
  obtain⟨z,y,D,r,g,m,s,e,c⟩:=x;exact⟨z,y,D,Paired.mapP r λp q z=>⟨z.1,Q _ _ z.2.1,z.2.2⟩,g,m,s,k _ _ (.inl rfl) e,c⟩
 |set S n=>obtain⟨g,m,s,t,e,c⟩:=x;exact⟨g,m,s,t,k _ _ (.inl rfl) e,c⟩
 |ins C Y U=>
  obtain⟨d,z,V,e,I,⟨J,m,s,W,c⟩,r⟩:=x;exact⟨O _ d,z,V,k _ _ (.inl rfl) e,I,⟨J,m,s,k _ _ (.inr d) W,c⟩,r⟩
 |own y=>obtain⟨g,e⟩:=x;exact⟨g,k _ _ (.inl rfl) e⟩
 |xd U=>obtain⟨I,⟨J,m,s,e,c⟩,r⟩:=x;exact⟨I,⟨J,m,s,k _ _ (.inl rfl) e,c⟩,r⟩
 |rng lo Z=>obtain⟨t,u,v,e⟩:=x;exact⟨t,u,v,k _ _ (.inl rfl) e⟩
 |frz g u X=>obtain⟨e,q⟩:=x;exact⟨k _ _ (.inl rfl) e,X q⟩
 |tbl N=>
  have e:h.get? a=some {cls:=.none,data:=.fields N}:=x;show h'.get? a=some {cls:=.none,data:=.fields N};exact k a _ (.inl rfl) e
 |met f y=>
  have e:h.get? a=some (PySem.W.methodObj (.ref f) (.ref y)):=x;show h'.get? a=some (PySem.W.methodObj (.ref f) (.ref y));exact k a _ (.inl rfl) e
 |ext φ=>obtain⟨p,⟨o,e⟩,st⟩:=x;exact⟨st _ _ p λo q=>k _ _ (.inl rfl) q,⟨o,k _ _ (.inl rfl) e⟩,st⟩
theorem HOk.lt(x:HOk P w H h)(e:H a=some o):a<h.objs.size:=(x a o e).lt
theorem HOk.fresh(x:HOk P w H h)(e:h.objs.size<=a):H a=none:=by
 cases q:H a with
 |none=>rfl
 |some u=>exact absurd (lt_of_lt_of_le (x.lt q) e) (lt_irrefl _)
theorem HOk.kept(x:HOk P w H h)(k:∀b u,h.get? b=some u->h'.get? b=some u):HOk P w H h':=λa o e=>
 (x a o e).stay (λb u _ q=>k b u q) (λ_ q=>q) λ_ _ q=>q
theorem HOk.laid(x:HOk P w H h)(k:∀b u,h.get? b=some u->h'.get? b=some u)(m:h.objs.size<=a)(new:eC P w (upd H a o) h' a o):HOk P w (upd H a o) h':=λb u e=>by
 have f:=x.fresh m;by_cases g:b=a
 ·subst g;rw[aB]at e;cases e;exact new
 ·rw[aH g]at e;exact(x b u e).stay (λc v _ q=>k c v q) (λc q=>by rw[aH (bS q f)];exact q) λc n q=>by rw[aH (bS q f)];exact q
end
def Rd(H:Hp)(a:Addr)(u:HO):Prop:=H a=some u\/∃o,H a=some (.frz o u)
theorem Rd.ok(r:Rd H a u)(x:HOk P w H h):eC P w H h a u:=by
 rcases r with r | ⟨o,r⟩
 ·exact x a u r
 ·obtain⟨_,q⟩:=x a _ r;exact q
def Mut:Option HO->Prop
 |some (.lst _)=>True
 |some (.dK _)=>True
 |some (.dT _)=>True
 |some (.set _ _)=>True
 |some (.ins _ _ _)=>True
 |some (.ext _)=>True
 |_=>False
section
variable{P:Program}{w:World}{H:Hp}{h h':Heap}{x e:Addr}{o':HO}
theorem HOk.write(ok:HOk P w H h)(n:Mut (H x))(B:e=x\/H e=some (.own x))(k:∀b u,b≠e->h.get? b=some u->h'.get? b=some u)(t:∃u,h'.get? e=some u)
  (new:eC P w (upd H x o') h' x o'):HOk P w (upd H x o') h':=λb u q=>by
 have g:∀c y,H c=some (.own y)->c≠x:=λc y r z=>by subst z;rw[r]at n;exact n
 have m:∀c o,H c=some (.tup o)->c≠x:=λc o r z=>by subst z;rw[r]at n;exact n
 by_cases p:b=x
 ·subst p;rw[aB]at q;cases q;exact new
 ·rw[aH p]at q;by_cases f:b=e
  ·have D:H b=some (.own x):=by
    rcases B with z |z
    ·exact absurd (f.trans z) p
    ·rw[f];exact z
   rw[q]at D;cases D;obtain⟨v,E⟩:=t;exact⟨v,by rw[f];exact E⟩
  ·refine(ok b u q).stay (λc v s r=>k c v ?_ r) (λc r=>by rw[aH (g c b r)];exact r) λc o r=>by rw[aH (m c o r)];exact r
   rcases s with rfl |s
   ·exact f
   ·rintro rfl;rcases B with z |z
    ·exact g c b s z
    ·rw[s]at z;cases z;exact p rfl
end
structure Un(fs ex:List Addr)(H H':Hp)(h h':Heap):Prop where
 keep:∀b o,h.get? b=some o->H b=none->b∉fs->b∉ex->h'.get? b=some o
 slot:∀b o,h.get? b=some o->H b=none->b∈fs->b∉ex->∃sl,h'.get? b=some {o with slots:=sl}
 free:∀b o,h.get? b=some o->H b=none->b∉ex->H' b=none
 there:∀b o,h.get? b=some o->b∉ex->∃o',h'.get? b=some o'
 tups:∀b xs,H b=some (.tup xs)->H' b=some (.tup xs)
 frzs:∀b o u,H b=some (.frz o u)->H' b=some (.frz o u)
 tbls:∀b ps,H b=some (.tbl ps)->∃more,H' b=some (.tbl (ps++more))
section
variable{fs fs' ex ex':List Addr}{H H1 H2:Hp}{h h1 h2 h':Heap}{a x e:Addr}{o:HO}
theorem Un.any(u:Un fs ex H H1 h h1)(q:h.get? b=some f)(n:H b=none)(m:b∉ex):∃r,h1.get? b=some {f with slots:=r}:=by
 by_cases p:b∈fs
 ·exact u.slot b f q n p m
 ·exact⟨f.slots,u.keep b f q n p m⟩
theorem Un.kept(k:∀b u,h.get? b=some u->h'.get? b=some u):Un fs ex H H h h':=
 ⟨λb f q _ _ _=>k b f q,λb f q _ _ _=>⟨f.slots,k b f q⟩,λ_ _ _ n _=>n,λb f q _=>⟨f,k b f q⟩,λ_ _ q=>q,λ_ _ _ q=>q,λ_ g q=>⟨#[],by rw[q];simp⟩⟩
theorem Un.refl:Un fs ex H H h h:=Un.kept λ_ _ q=>q
theorem Un.laid(k:∀b u,h.get? b=some u->h'.get? b=some u)(hp:h.objs.size<=a)(hn:H a=none):Un fs ex H (upd H a o) h h' where
 keep:=λb u q _ _ _=>k b u q
 slot:=λb u q _ _ _=>⟨u.slots,k b u q⟩
 free:=λb u q n _=>by rw[aH (ne_of_lt (lt_of_lt_of_le (lt_size q) hp))];exact n
 there:=λb u q _=>⟨u,k b u q⟩
 tups:=λb xs q=>by rw[aH (bS q hn)];exact q
 frzs:=λb u xs q=>by rw[aH (bS q hn)];exact q
 tbls:=λb ps q=>⟨#[],by rw[aH (bS q hn),q];simp⟩
theorem Un.write(g:Mut (H x))(y:e=x\/H e=some (.own x))(k:∀b u,b≠e->h.get? b=some u->h'.get? b=some u)(m:∃u,h'.get? e=some u):Un fs ex H (upd H x o) h h':=by
 have s:∀b,H b=none->b≠x:=λb n z=>by subst z;rw[n]at g;exact g
 have t:∀b,H b=none->b≠e:=λb n z=>by
  subst z;rcases y with r |r
  ·exact s b n r
  ·rw[n]at r;cases r
 have p:∀b u,H b=some u->¬Mut (some u)->b≠x:=λb u q B z=>by subst z;rw[q]at g;exact B g
 refine⟨λb u q n _ _=>k b u (t b n) q,λb u q n _ _=>⟨u.slots,k b u (t b n) q⟩,λb u q n _=>by rw[aH (s b n)];exact n,λb u q _=>?_,
  λb D q=>by rw[aH (p b _ q λz=>z)];exact q,λb u D q=>by rw[aH (p b _ q λz=>z)];exact q,λb E q=>⟨#[],by rw[aH (p b _ q λz=>z),q];simp⟩⟩
 by_cases f:b=e
 ·subst f;exact m
 ·exact⟨u,k b u f q⟩
end
def trk(h:Heap)(H:Hp):List Addr:=(List.range h.objs.size).filter λa=>(H a).isSome
def AK(h:Heap)(H:Hp):Heap:=hideAll h (trk h H)
theorem Fv(h:Heap)(H:Hp):(AK h H).objs.size=h.objs.size:=PySem.W.hideAll_size _ _
theorem IG(e:h.get? b=some o)(n:H b=none):(AK h H).get? b=some o:=
 hideAll_get _ e λf=>by
  have q:(H b).isSome=true:=(mem_filter.mp f).2;rw[n]at q;simp at q
theorem Js(e:(AK h H).get? b=some o):h.get? b=some o/\H b=none:=by
 have f:h.get? b=some o:=of_hideAll (trk h H) e;refine⟨f,?_⟩;cases q:H b with
 |none=>rfl
 |some x=>
  have g:b∈trk h H:=mem_filter.mpr ⟨mem_range.mpr (lt_size f),by simp [q]⟩;have z:(AK h H).get? b=none:=PySem.W.hideAll_none (trk h H) g;rw[z]at e;cases e
def KH(g h:Heap)(L:Addr):Mb:=(List.range h.objs.size).filterMap λa=>if a=L\/(g.get? a).isSome=true then none else (h.get? a).map λo=>(a,o)
def rest(g h:Heap)(L d:Addr):Mb:=(KH g h L).filter λp=>decide (p.1≠d)
structure Mod(K:Ma)(mg:Mc)(base:Heap):Prop where
 kin:K.In base
 glob:base.Ns mainGlobals mg
 blt:∃mb,base.Ns builtinsNs mb/\∀x:Str,x ≠ "__name__"->mb x=bootBuiltins x
 nolimit:base.NoLimit
structure Cx where
 prog:Program
 w:World
 K:Ma
 mg:Mc
 base:Heap
 A:Around
 N:Mg
 s₀ : Shared
 H₀ : Hp
 env:Env
 outer:List Env
 stack:List Env
 ex:List Addr
 fn:Str->Bool
 calm:Bool
 pn:Mb
 xe:Value->Shared->Prop
def frs(l:List Env):List Addr:=l.filterMap (·.frame)
abbrev Cx.fs(X:Cx):List Addr:=frs X.outer
def Vis(b:Scope)(x:Str):Prop:=b.names.lookup x=some .local\/b.names.lookup x=some .cell\/b.names.lookup x=some .free
def Loc(b:Scope)(x:Str):Prop:=b.names.lookup x=some .local\/b.names.lookup x=some .cell
def Look(b:Env)(h:Heap)(m:Mc)(x:Str)(u:Value):Prop:=
 (b.kindOf x=some .local/\m x=some u)\/((b.kindOf x=some .cell\/b.kindOf x=some .free)/\∃c,b.cells.lookup x=some c/\h.IsCell c (some u))
structure Cx.Ok(X:Cx):Prop where
 mod:Mod X.K X.mg X.base
 kind:X.env.scope.kind = .function
 glob:X.env.globals=mainGlobals
 blt:X.env.builtins=builtinsNs
 above:X.s₀.heap.objs.size<=X.env.locals
 inj:∀x y c,X.env.cells.lookup x=some c->X.env.cells.lookup y=some c->x=y
 has:∀x,(X.env.kindOf x=some .cell\/X.env.kindOf x=some .free)->∃c,X.env.cells.lookup x=some c
 cab:∀x c,X.fn x=true->X.env.cells.lookup x=some c->X.s₀.heap.objs.size<=c
 hd:X.calm=true->X.A.handled=none
 frames:X.A.frames=some X.stack
 stk:X.stack=X.outer\/(X.stack=X.env::X.outer/\X.env.frame=some X.env.locals)
 exf:∀b∈X.ex,b≠X.env.locals/\∀x c,X.env.cells.lookup x=some c->c≠b
 bs:∀b o,X.base.get? b=some o->X.s₀.heap.get? b=some o/\X.H₀ b=none
 bsz:X.base.objs.size<=X.s₀.heap.objs.size
 noex:∀b o,X.base.get? b=some o->b∉X.ex
 exfs:∀b∈X.ex,b∉X.fs
 funs:X.s₀.heap.FunFrames X.base X.outer
 frf:∀b∈X.fs,X.H₀ b=none
structure Inv(X:Cx)(pins:Mb)(σ : List (Option V))(H:Hp)(s:Shared):Prop where
 ok:X.Ok
 os:s.os=X.s₀.os
 bare:AllBare s.gens
 base:Un X.fs X.ex X.H₀ H X.s₀.heap s.heap
 loc:∃m,s.heap.Ns X.env.locals m/\∀(i:Nat)(x:Str)(v:V),X.N[i]? = some x->σ[i]? = some (some v)->Vis X.env.scope x->∃u,cC v u/\Look X.env s.heap m x u
 cell:∀x c,X.env.cells.lookup x=some c->∃v,s.heap.IsCell c v
 free:H X.env.locals=none
 freeC:∀x c,X.env.cells.lookup x=some c->H c=none
 pin:∀p∈X.pn++pins,s.heap.get? p.1=some p.2/\H p.1=none/\p.1≠X.env.locals/\p.1∉X.fs/\∀v,p.2.data ≠ .cell v
 hok:HOk X.prog X.w H s.heap
 len:σ.length=X.N.length
section
variable{X:Cx}{pins:Mb}{σ : List (Option V)}{H H':Hp}{s:Shared}{h':Heap}
theorem Cx.Ok.nofr(ok:X.Ok)(e:X.base.get? b=some o):b∉X.fs:=λf=>by
 have:=(ok.funs.mem f).1;rw[e]at this;cases this
theorem Inv.bs(I:Inv X pins σ H s):∀b o,X.base.get? b=some o->s.heap.get? b=some o/\H b=none:=λb o e=>
 ⟨I.base.keep b o (I.ok.bs b o e).1 (I.ok.bs b o e).2 (I.ok.nofr e) (I.ok.noex b o e),I.base.free b o (I.ok.bs b o e).1 (I.ok.bs b o e).2 (I.ok.noex b o e)⟩
theorem Inv.bk(I:Inv X pins σ H s):∀b o,X.base.get? b=some o->s.heap.get? b=some o:=λb o e=>(I.bs b o e).1
theorem Inv.mod(I:Inv X pins σ H s):Mod X.K X.mg X.base:=I.ok.mod
theorem Inv.kIn(I:Inv X pins σ H s):X.K.In s.heap:=I.ok.mod.kin.keeps I.bk
theorem Inv.lt(I:Inv X pins σ H s):X.env.locals<s.heap.objs.size:=let ⟨_,b,_⟩:=I.loc;b.lt
theorem Inv.sz(I:Inv X pins σ H s):X.s₀.heap.objs.size<=s.heap.objs.size:=le_trans I.ok.above (le_of_lt I.lt)
theorem Inv.nofs(I:Inv X pins σ H s)(h:s.heap.objs.size<=a):a∉X.fs:=λb=>by
 obtain⟨_,o,e,_⟩:=I.ok.funs.mem b;exact absurd (lt_of_lt_of_le (lt_size e) (le_trans I.sz h)) (lt_irrefl _)
theorem Inv.cne(I:Inv X pins σ H s):∀x c,X.env.cells.lookup x=some c->c≠X.env.locals:=λx c e z=>by
 obtain⟨v,o,g,n⟩:=I.cell x c e;obtain⟨m,⟨p,q,r,b,f,_⟩,_⟩:=I.loc;rw[z,b]at g;cases g;rw[f]at n;cases n
theorem Inv.funs(I:Inv X pins σ H s):s.heap.FunFrames X.base X.outer:=by
 have all:∀(l:List Env),(∀b∈frs l,b∈X.fs)->X.s₀.heap.FunFrames X.base l->s.heap.FunFrames X.base l:=by
  intro l
  induction l with
  |nil=>intro _ _;trivial
  |cons p r q=>
   intro n t;obtain⟨u,⟨L,o,f,x,y,B⟩,hr⟩:=t;have g:L∈X.fs:=n L (by unfold frs;rw[filterMap_cons,f];exact mem_cons_self);obtain⟨D,e⟩:=I.base.slot L o y (I.ok.frf L g) g λz=>I.ok.exfs L z g;exact⟨u,⟨L,_,f,x,e,B⟩,q (λb m=>n b (by unfold frs;rw[filterMap_cons,f];exact mem_cons_of_mem _ m)) hr⟩
 exact all X.outer (λ_ m=>m) I.ok.funs
theorem Inv.stack(I:Inv X pins σ H s):s.heap.FunFrames X.base X.stack:=by
 rcases I.ok.stk with e | ⟨e,b⟩
 ·rw[e];exact I.funs
 ·rw[e];obtain⟨m,f,_⟩:=I.loc;refine .cons (by rw[I.ok.kind];decide) b f ?_ I.funs;exact Heap.get?_none_of_le (le_trans I.ok.bsz I.ok.above)
theorem Inv.stkSub(I:Inv X pins σ H s):∀b∈frs X.stack,b∈X.env.locals::X.fs:=λb f=>by
 rcases I.ok.stk with e | ⟨e,g⟩
 ·rw[e]at f;exact mem_cons_of_mem _ f
 ·rw[e]at f;unfold frs at f;rw[filterMap_cons,g]at f;exact f
theorem Inv.stkFree(I:Inv X pins σ H s):∀b∈frs X.stack,H b=none:=λb f=>by
 rcases mem_cons.mp (I.stkSub b f) with e |f
 ·rw[e];exact I.free
 ·obtain⟨_,o,g,_⟩:=I.ok.funs.mem f;exact I.base.free b o g (I.ok.frf b f) λz=>I.ok.exfs b z f
theorem Inv.step{g':Array GenState}{t':Nat}{d':Drawn}{ch:List Addr}(I:Inv X pins σ H s)
  (t:∀b∈ch,(b∈X.ex\/X.s₀.heap.objs.size<=b)/\b≠X.env.locals/\(∀x c,X.env.cells.lookup x=some c->c≠b)/\∀p∈X.pn++pins,p.1≠b)
  (y:∀b o,b≠X.env.locals->b∉X.fs->b∉ch->s.heap.get? b=some o->H b=none->h'.get? b=some o)
  (slot:∀b o,b≠X.env.locals->b∈X.fs->b∉ch->s.heap.get? b=some o->H b=none->∃sl,h'.get? b=some {o with slots:=sl}) (g:∀b o,b∉ch->s.heap.get? b=some o->H b=none->H' b=none)
  (L:∀b o,b∉ch->s.heap.get? b=some o->∃Q,h'.get? b=some Q)
  (R:∀b J,H b=some (.tup J)->H' b=some (.tup J)) (S:∀b o u,H b=some (.frz o u)->H' b=some (.frz o u)) (U:∀b Z,H b=some (.tbl Z)->∃V,H' b=some (.tbl (Z++V)))
  (ns:∀m,s.heap.Ns X.env.locals m->h'.Ns X.env.locals m) (ab:HOk X.prog X.w H' h') (hg:AllBare g') :
  Inv X pins σ H' {s with heap:=h',gens:=g',drawn:=d',toks:=t'}:=by
 have W:∀b o,X.s₀.heap.get? b=some o->b≠X.env.locals:=λb o e=>ne_of_lt (lt_of_lt_of_le (lt_size e) I.ok.above);have E:∀b o,X.s₀.heap.get? b=some o->b∉X.ex->b∉ch:=λb o e f N=>by
  rcases (t b N).1 with z |z
  ·exact f z
  ·exact absurd (lt_of_lt_of_le (lt_size e) z) (lt_irrefl _)
 have B:∀x c,X.env.cells.lookup x=some c->∀v,s.heap.IsCell c v->h'.IsCell c v:=λx c e v ⟨o,O,hd⟩=>by
  have D:c∉ch:=λz=>(t c z).2.2.1 x c e rfl;by_cases hc:c∈X.fs
  ·obtain⟨sl,q⟩:=slot c o (I.cne x c e) hc D O (I.freeC x c e);exact⟨_,q,hd⟩
  ·exact⟨o,y c o (I.cne x c e) hc D O (I.freeC x c e),hd⟩
 refine⟨I.ok,I.os,hg,⟨λb o e n N f=>?_,λb o e n N f=>?_,λb o e n f=>?_,λb o e f=>?_,λb J e=>R b J (I.base.tups b J e),λb o J e=>S b o J (I.base.frzs b o J e),λb Z e=>?_⟩,?_,λx c e=>?_,?_,λx c e=>?_,λp hp=>?_,ab,I.len⟩
 ·exact y b o (W b o e) N (E b o e f) (I.base.keep b o e n N f) (I.base.free b o e n f)
 ·obtain⟨sl,G⟩:=I.base.slot b o e n N f;obtain⟨ac,Y⟩:=slot b _ (W b o e) N (E b o e f) G (I.base.free b o e n f);exact⟨ac,Y⟩
 ·obtain⟨Q,G⟩:=I.base.there b o e f;exact g b Q (E b o e f) G (I.base.free b o e n f)
 ·obtain⟨Q,G⟩:=I.base.there b o e f;exact L b Q (E b o e f) G
 ·obtain⟨m1,G⟩:=I.base.tbls b Z e;obtain⟨m2,Y⟩:=U b _ G;exact⟨m1++m2,by rw[Y,Array.append_assoc]⟩
 ·obtain⟨m,hn,hl⟩:=I.loc;refine⟨m,ns m hn,λi x v G Y e3=>?_⟩;obtain⟨u,r,l⟩:=hl i x v G Y e3;refine⟨u,r,?_⟩;rcases l with l | ⟨k,c,e,z⟩
  ·exact .inl l
  ·exact .inr ⟨k,c,e,B x c e _ z⟩
 ·obtain⟨v,z⟩:=I.cell x c e;exact⟨v,B x c e v z⟩
 ·obtain⟨m,⟨o,_,_,O,_⟩,_⟩:=I.loc;exact g _ o (λz=>(t _ z).2.1 rfl) O I.free
 ·obtain⟨v,o,O,hd⟩:=I.cell x c e;exact g c o (λz=>(t c z).2.2.1 x c e rfl) O (I.freeC x c e)
 ·obtain⟨e,n,ne,nf,d⟩:=I.pin p hp;have D:p.1∉ch:=λz=>(t p.1 z).2.2.2 p hp rfl;exact⟨y p.1 p.2 ne nf D e n,g p.1 p.2 D e n,ne,nf,d⟩
theorem Inv.un{t':Nat}(I:Inv X pins σ H s)(u:Un X.fs [] H H' s.heap h')(g:HOk X.prog X.w H' h'):Inv X pins σ H' {s with heap:=h',toks:=t'}:=by
 obtain⟨m,⟨o,J,L,B,r⟩,_⟩:=id I.loc;obtain⟨N,D⟩:=u.any B I.free (by simp);exact I.step (g':=s.gens) (d':=s.drawn) (ch:=[]) (λ_ z=>nomatch z) (λb o _ p _ e n=>u.keep b o e n p (by simp)) (λb o _ p _ e n=>u.slot b o e n p (by simp)) (λb o _ e n=>u.free b o e n (by simp)) (λb o _ e=>u.there b o e (by simp)) u.tups u.frzs u.tbls (λS E=>by
  obtain⟨U,q,t,f,G⟩:=E;rw[B]at f;cases f;exact⟨_,q,t,D,G⟩) g I.bare
theorem Inv.call{g':Array GenState}{t':Nat}{d':Drawn}{ch:List Addr}(I:Inv X pins σ H s)(u:Un (frs X.stack) ch H H' s.heap h')(t:HOk X.prog X.w H' h')(N:AllBare g')
  (g:∀b∈ch,(b∈X.ex\/X.s₀.heap.objs.size<=b)/\b≠X.env.locals/\(∀x c,X.env.cells.lookup x=some c->c≠b)/\∀p∈X.pn++pins,p.1≠b) :
  Inv X pins σ H' {s with heap:=h',gens:=g',drawn:=d',toks:=t'}:=by
 obtain⟨m,⟨o,S,U,L,r⟩,_⟩:=id I.loc;obtain⟨V,y⟩:=u.any L I.free λz=>(g _ z).2.1 rfl;exact I.step (ch:=ch) g (λb o y O f e n=>u.keep b o e n (λz=>(mem_cons.mp (I.stkSub b z)).elim y O) f) (λb o _ _ f e n=>u.any e n f) (λb o f e n=>u.free b o e n f) (λb o f e=>u.there b o e f) u.tups u.frzs u.tbls (λW Q=>by
  obtain⟨Y,B,D,q,R⟩:=Q;rw[L]at q;cases q;exact⟨_,B,D,y,R⟩) t N
theorem Inv.turned{t':Nat}{it:Addr}(I:Inv X pins σ H s)(k:∀b o,b≠it->s.heap.get? b=some o->h'.get? b=some o)(D:H it=none)(t:it≠X.env.locals)
  (E:it∈X.ex\/X.s₀.heap.objs.size<=it) (G:∀x c,X.env.cells.lookup x=some c->c≠it) (J:∀p∈X.pn++pins,p.1≠it):Inv X pins σ H {s with heap:=h',toks:=t'}:=by
 have g:∀b u,H b=some u->b≠it:=λb u e z=>by rw[z,D]at e;cases e
 refine I.step (g':=s.gens) (d':=s.drawn) (ch:=[it]) (λb L=>?_) (λb o _ _ f e _=>k b o (λz=>f (by simp [z])) e) (λb o _ _ f e _=>⟨o.slots,k b o (λz=>f (by simp [z])) e⟩) (λ_ _ _ _ n=>n)
  (λb o f e=>⟨o,k b o (λz=>f (by simp [z])) e⟩) (λ_ _ e=>e) (λ_ _ _ e=>e) (λb W e=>⟨#[],by rw[e];simp⟩) (λm N=>?_) (λb u e=>?_) I.bare
 ·have e:b=it:=by simpa using L
  subst e;exact⟨E,t,G,J⟩
 ·obtain⟨o,O,Q,R,r⟩:=N;exact⟨o,O,Q,k _ o (Ne.symm t) R,r⟩
 ·refine(I.hok b u e).stay (λc v f q=>k c v ?_ q) (λ_ q=>q) λ_ _ q=>q;rcases f with z |z
  ·rw[z];exact g b u e
  ·exact g c _ z
theorem Inv.tok(I:Inv X pins σ H s)(t:Nat):Inv X pins σ H {s with toks:=t}:=I.un (h':=s.heap) (t':=t) Un.refl I.hok
theorem Inv.kept(I:Inv X pins σ H s)(k:∀b u,s.heap.get? b=some u->h'.get? b=some u):Inv X pins σ H {s with heap:=h',toks:=t'}:=I.un (Un.kept k) (I.hok.kept k)
theorem Inv.laid(I:Inv X pins σ H s)(k:∀b u,s.heap.get? b=some u->h'.get? b=some u)(e:s.heap.objs.size<=a)(new:eC X.prog X.w (upd H a o) h' a o) :
  Inv X pins σ (upd H a o) {s with heap:=h',toks:=t'}:=I.un (Un.laid k e (I.hok.fresh e)) (I.hok.laid k e new)
theorem Inv.write(I:Inv X pins σ H s)(g:Mut (H x))(m:e=x\/H e=some (.own x))(k:∀b u,b≠e->s.heap.get? b=some u->h'.get? b=some u)(f:∃u,h'.get? e=some u)
  (new:eC X.prog X.w (upd H x o) h' x o):Inv X pins σ (upd H x o) {s with heap:=h',toks:=q}:=I.un (Un.write g m k f) (I.hok.write g m k f new)
theorem Inv.pins_of(I:Inv X pins σ H s)(h:∀p∈b,s.heap.get? p.1=some p.2/\H p.1=none/\p.1≠X.env.locals/\p.1∉X.fs/\∀v,p.2.data ≠ .cell v):Inv X b σ H s:=
 ⟨I.ok,I.os,I.bare,I.base,I.loc,I.cell,I.free,I.freeC,λp e=>(mem_append.mp e).elim (λz=>I.pin p (mem_append_left _ z)) (h p),I.hok,I.len⟩
theorem Bc{N:Mg}(e:N.Nodup){i j:Nat}{x:Str}(a:N[i]? = some x)(b:N[j]? = some x):i=j:=by
 obtain⟨m,f⟩:=List.getElem?_eq_some_iff.mp a;obtain⟨n,g⟩:=List.getElem?_eq_some_iff.mp b;exact(List.getElem_inj e).mp (f.trans g.symm)
theorem Ey{M:Model}{A:Around}{E:Mm}{i:Nat}{x:Str}{v:V}{u:Value}{Q:Unit->Shared->Prop}(I:Inv X pins σ H s)(hN:X.N.Nodup)(U:X.N[i]? = some x)(D:Loc X.env.scope x)(r:cC v u)
  (h:∀s',Inv X pins (σ.set i (some v)) H s'->(∃a,Heap.SameBut a s.heap s'.heap/\(a=X.env.locals\/X.env.cells.lookup x=some a))->Q () s') (hf:X.fn x=true\/X.env.scope.names.lookup x=some .local:=by first |exact .inl rfl |exact .inr rfl |assumption):wpAny M A (storeName X.env x u) Q E s:=by
 obtain⟨m,hn,hl⟩:=id I.loc;have W:(X.env.scope.kind == .class || (X.env.scope.kind == .module && X.env.locals != X.env.globals))=false:=by rw[I.ok.kind];rfl
 have L : i < σ.length:=by rw[I.len];exact(List.getElem?_eq_some_iff.mp U).1
 have O:=I.cne;have g:∀{a:Addr}{h':Heap},(∃o,s.heap.get? a=some o/\H a=none)->Heap.SameBut a s.heap h'->HOk X.prog X.w H h':=λ{a h'} ha f b ob e=>by
  obtain⟨_,_,G⟩:=ha;refine(I.hok b ob e).stay (λc w' B q=>(f.2 c ?_).trans q) (λ_ q=>q) λ_ _ q=>q;rintro rfl;rcases B with rfl |B
  ·rw[G]at e;cases e
  ·rw[G]at B;cases B
 rcases D with N |N
 ·refine wpAny_storeName_local N hn (λh' ac f=>?_) W;obtain⟨oL,_,_,ad,_⟩:=id hn;refine h _ ⟨I.ok,I.os,I.bare,⟨λb o e n R D=>?_,λb o e n R D=>?_,I.base.free,λb o e D=>?_,I.base.tups,I.base.frzs,I.base.tbls⟩,⟨_,ac,λj y v' t J e3=>?_⟩,λy c e=>?_,I.free,I.freeC,λp hp=>?_,g ⟨oL,ad,I.free⟩ f,by simpa using I.len⟩ ⟨_,f,.inl rfl⟩
  ·exact(f.2 b (ne_of_lt (lt_of_lt_of_le (lt_size e) I.ok.above))).trans (I.base.keep b o e n R D)
  ·obtain⟨sl,t⟩:=I.base.slot b o e n R D;exact⟨sl,(f.2 b (ne_of_lt (lt_of_lt_of_le (lt_size e) I.ok.above))).trans t⟩
  ·obtain⟨o',t⟩:=I.base.there b o e D;exact⟨o',(f.2 b (ne_of_lt (lt_of_lt_of_le (lt_size e) I.ok.above))).trans t⟩
  ·by_cases hj:j=i
   ·subst hj;rw[U]at t;cases t;rw[List.getElem?_set_self L]at J;cases J;exact⟨u,r,.inl ⟨N,by simp⟩⟩
   ·rw[List.getElem?_set_ne (Ne.symm hj)]at J;obtain⟨u',r',q⟩:=hl j y v' t J e3;refine⟨u',r',?_⟩;rcases q with ⟨k,e⟩ | ⟨k,c,e,z⟩
    ·refine .inl ⟨k,?_⟩;have:y≠x:=λe=>hj (Bc hN t (e ▸ U));simp [this,e]
    ·exact .inr ⟨k,c,e,z.sameBut f (O y c e)⟩
  ·obtain⟨w',z⟩:=I.cell y c e;exact⟨w',z.sameBut f (O y c e)⟩
  ·obtain⟨e,n,ne,nf,d⟩:=I.pin p hp;exact⟨(f.2 p.1 ne).trans e,n,ne,nf,d⟩
 ·have S:X.fn x=true:=by
   rcases hf with z |z
   ·exact z
   ·rw[z]at N;cases N
  obtain⟨c,B⟩:=I.ok.has x (.inl N);obtain⟨w',z⟩:=I.cell x c B;refine wpAny_storeName_cell I.ok.kind N B z (λh' Y f=>?_);obtain⟨oc,Z,aa⟩:=id z;refine h {s with heap:=h'} ⟨I.ok,I.os,I.bare,⟨λb o e n R D=>?_,λb o e n R D=>?_,I.base.free,λb o e D=>?_,I.base.tups,I.base.frzs,I.base.tbls⟩,⟨m,hn.sameBut f (Ne.symm (O x c B)),λj y v' t J e3=>?_⟩,λy c' e=>?_,I.free,I.freeC,λp hp=>?_,g ⟨oc,Z,I.freeC x c B⟩ f,by simpa using I.len⟩ ⟨c,f,.inr B⟩
  ·exact(f.2 b (ne_of_lt (lt_of_lt_of_le (lt_size e) (I.ok.cab x c S B)))).trans (I.base.keep b o e n R D)
  ·obtain⟨sl,t⟩:=I.base.slot b o e n R D;exact⟨sl,(f.2 b (ne_of_lt (lt_of_lt_of_le (lt_size e) (I.ok.cab x c S B)))).trans t⟩
  ·obtain⟨o',t⟩:=I.base.there b o e D;exact⟨o',(f.2 b (ne_of_lt (lt_of_lt_of_le (lt_size e) (I.ok.cab x c S B)))).trans t⟩
  ·by_cases hj:j=i
   ·subst hj;rw[U]at t;cases t;rw[List.getElem?_set_self L]at J;cases J;exact⟨u,r,.inr ⟨.inl N,c,B,Y⟩⟩
   ·rw[List.getElem?_set_ne (Ne.symm hj)]at J;obtain⟨u',r',q⟩:=hl j y v' t J e3;refine⟨u',r',?_⟩;rcases q with q | ⟨k,c',e,z'⟩
    ·exact .inl q
    ·refine .inr ⟨k,c',e,z'.sameBut f ?_⟩;rintro rfl;exact hj (Bc hN t (I.ok.inj _ _ _ e B ▸ U))
  ·by_cases ab:c'=c
   ·subst ab;exact⟨_,Y⟩
   ·obtain⟨w2,z2⟩:=I.cell y c' e;exact⟨w2,z2.sameBut f ab⟩
  ·obtain⟨e,n,ne,nf,d⟩:=I.pin p hp;refine⟨(f.2 p.1 ?_).trans e,n,ne,nf,d⟩;intro q;rw[q,Z]at e;have q':oc=p.2:=Option.some.inj e;exact d w' (by rw[<- q'];exact aa)
theorem tV(I:Inv X pins σ H s)(e:X.N.Nodup)(f:X.N[i]? = some x)(g:Loc X.env.scope x)(r:cC v u)
  (h:∀b,Inv X pins (σ.set i (some v)) H b->Q () b) (m:X.fn x=true\/X.env.scope.names.lookup x=some .local:=by first |exact .inl rfl |exact .inr rfl |assumption):wpAny M A (storeName X.env x u) Q E s:=
 Ey I e f g r (λb n _=>h b n) m
theorem Inv.call'(I:Inv X pins σ H s)(q:s'.os=s.os)(u:Un (frs X.stack) ch H H' s.heap s'.heap)(f:HOk X.prog X.w H' s'.heap)(r:AllBare s'.gens)
  (g:∀b∈ch,(b∈X.ex\/X.s₀.heap.objs.size<=b)/\b≠X.env.locals/\(∀x c,X.env.cells.lookup x=some c->c≠b)/\∀p∈X.pn++pins,p.1≠b):Inv X pins σ H' s':=by
 obtain⟨h',m,n,o,t⟩:=s';have e:t=s.os:=q;subst e;exact I.call (g':=m) (t':=o) (d':=n) u f r g
end
abbrev XK:=Value->Option Addr->Hp->Prop
abbrev St:=List (Option V)
abbrev VK:=V->Hp->Prop
abbrev TE:=St->Hp->VK->Prop
abbrev TT:=St->Hp->(Bool->Hp->Prop)->Prop
abbrev TA:=St->Hp->(Mp->Hp->Prop)->Prop
structure Ends where
 nx:St->Hp->Prop
 rt:VK
 bk:St->Hp->Prop:=λ_ _=>False
 ct:St->Hp->Prop:=λ_ _=>False
def Ends.next(D:Ends)(f:St->Hp->Prop):Ends:={D with nx:=f}
def Ends.loop(D:Ends)(N:St->Hp->Prop):Ends:={D with nx:=N,ct:=N,bk:=D.nx}
def Ends.fn(Q:VK):Ends:={nx:=λ_ b=>Q .non b,rt:=Q}
abbrev TS:=Ends->St->Hp->Prop
inductive EP(X:Cx)(pins:Mb)(σ : St)(Q:VK)(u:Value)(s':Shared):Prop
 |mk:∀v H',Inv X pins σ H' s'->cC v u->Q v H'->EP X pins σ Q u s'
def TP(X:Cx)(e:Mb)(g : St)(Q:Bool->Hp->Prop)(b:Bool)(m:Shared):Prop:=∃f,Inv X e g f m/\Q b f
inductive AP(X:Cx)(pins:Mb)(σ : St)(Q:Mp->Hp->Prop)(us:Mh)(s':Shared):Prop
 |mk:∀vs H',Inv X pins σ H' s'->cE vs us->Q vs H'->AP X pins σ Q us s'
def SP(X:Cx)(e:Mb)(D:Ends)(f:Flow)(m:Shared):Prop:=
 match f with
 | .next=>∃b g,Inv X e b g m/\D.nx b g
 | .brk=>∃b g,Inv X e b g m/\D.bk b g
 | .cont=>∃b g,Inv X e b g m/\D.ct b g
 | .ret u=>∃v b g,Inv X e b g m/\cC v u/\D.rt v g
def PE(X:Cx)(e:Expr)(t:TE):Prop:=
 ∀b s f H(Q:VK),Inv X b f H s->t f H Q->wpAny (model X.prog X.w) X.A (eval e X.env) (EP X b f Q) X.xe s
def PT(X:Cx)(e:Expr)(t:TT):Prop:=
 ∀b s f H(Q:Bool->Hp->Prop),Inv X b f H s->t f H Q->wpAny (model X.prog X.w) X.A (isTrue e X.env (eval e X.env)) (TP X b f Q) X.xe s
def PW(X:Cx)(e:Expr)(t:TT):Prop:=
 ∀(whole:Sem Value)(b:Mb)(s:Shared)(f : St)(H:Hp)(Q:Bool->Hp->Prop),Inv X b f H s->t f H Q->wpAny (model X.prog X.w) X.A (isTrue e X.env whole) (TP X b f Q) X.xe s
theorem PW.pt{X:Cx}{e:Expr}{t:TT}(h:PW X e t):PT X e t:=h _
def PA(X:Cx)(g:List Expr)(t:TA):Prop:=
 ∀(e:Pos)(b:Mb)(s:Shared)(f : St)(H:Hp)(Q:Mp->Hp->Prop),Inv X b f H s->t f H Q->wpAny (model X.prog X.w) X.A (spliced (backTo e (starEach g X.env))) (AP X b f Q) X.xe s
def PS(X:Cx)(st:Stmt)(t:TS):Prop:=
 ∀b s e H(D:Ends),Inv X b e H s->t D e H->wpAny (model X.prog X.w) X.A (exec st X.env) (SP X b D) X.xe s
def PSs(X:Cx)(st:List Stmt)(t:TS):Prop:=
 ∀b s e H(D:Ends),Inv X b e H s->t D e H->wpAny (model X.prog X.w) X.A (execs st X.env) (SP X b D) X.xe s
theorem thn{b : Type}{t:Sem b}{Q e:b->Shared->Prop}{M:Model}{A:Around}{E:Mm}{s:Shared}(h:wpAny M A t Q E s)(f:∀a s,Q a s->e a s):wpAny M A t e E s:=wpAny_mono h f λ_ _ x=>x
section
variable{X:Cx}
inductive lU(i:Nat)(σ : St)(H:Hp)(Q:VK):Prop
 |mk:∀v,σ[i]? = some (some v)->Q v H->lU i σ H Q
def tC(v:V):TE:=λ_ H Q=>Q v H
theorem LW(q:X.N[i]? = some x)(t:Vis X.env.scope x)(n:(x == ("__debug__" : Str))=false:=by decide)(o:(x == ("__classdict__" : Str))=false:=by decide):PE X (.Name x y) (lU i):=by
 intro g s z H Q I h;obtain⟨v,e,h⟩:=h;obtain⟨m,B,D⟩:=I.loc;obtain⟨u,r,l⟩:=D i x v q e t;have fin:EP X g z Q u s:=⟨v,H,I,r,h⟩;rcases l with ⟨f,E⟩ | ⟨f,c,p,b⟩
 ·exact wpAny_Name (wpAny_loadName_local I.ok.kind f B E fin) n
 ·rcases f with f |f
  ·exact wpAny_Name (wpAny_loadName_cell I.ok.kind f p b fin) n
  ·exact wpAny_Name (wpAny_loadName_free I.ok.kind f p b fin o) n
theorem aM{i j b}:PE X (.Constant (.int i) j b) (tC (.int i)):=λ_ _ _ H _ I h=>wpAny_Constant_int ⟨.int i,H,I.tok _,⟨_,rfl⟩,h⟩
theorem kI{b j e}:PE X (.Constant (.bool b) j e) (tC (.bl b)):=λ_ _ _ H _ I h=>Constant_bool ⟨.bl b,H,I,rfl,h⟩
theorem jQ{j b}:PE X (.Constant .none j b) (tC .non):=λ_ _ _ H _ I h=>Constant_none ⟨.non,H,I,rfl,h⟩
theorem bP{x j b}:PE X (.Constant (.str x) j b) (tC (.str x)):=λ_ _ _ H _ I h=>Calls.Constant_str ⟨.str x,H,I.tok _,⟨_,rfl⟩,h⟩
def Gl(X:Cx)(x:Str):Prop:=X.env.kindOf x=some .globalImplicit
theorem iG(I:Inv X b n H s)(e:Gl X x)(f:X.mg x=some u)(h:Q u s)
  (g:(x == ("__debug__" : Str))=false:=by decide):wpAny (model X.prog X.w) X.A (eval (.Name x m) X.env) Q E s:=
 Calls.Name_function_global I.ok.kind e (Calls.loadGlobal_global (by rw[I.ok.glob];exact I.mod.glob.keeps I.bk) f h) g
theorem jA(I:Inv X b r H s)(e:Gl X x)(f:X.mg x=none)(g:bootBuiltins x=some u)(h:Q u s)
  (m:x ≠ "__name__":=by decide) (n:(x == ("__debug__" : Str))=false:=by decide):wpAny (model X.prog X.w) X.A (eval (.Name x o) X.env) Q E s:=by
 obtain⟨t,p,q⟩:=I.mod.blt;exact Calls.Name_function_global I.ok.kind e (Calls.loadGlobal_builtin (by rw[I.ok.glob];exact I.mod.glob.keeps I.bk) f (by rw[I.ok.blt];exact p.keeps I.bk) ((q x m).trans g) h) n
theorem cO(b:Gl X x)(e:X.mg x=some u)(r:cC v u)(f:(x == ("__debug__" : Str))=false:=by decide):PE X (.Name x g) (tC v):=
 λ_ _ _ H _ I h=>iG I b e ⟨v,H,I,r,h⟩ f
theorem sY(b:Gl X x)(e:X.mg x=none)(f:bootBuiltins x=some u)(r:cC v u)(g:x ≠ "__name__":=by decide)(m:(x == ("__debug__" : Str))=false:=by decide):PE X (.Name x n) (tC v):=
 λ_ _ _ H _ I h=>jA I b e f ⟨v,H,I,r,h⟩ g m
variable{a b:Expr}{ta tb:TE}{pos:Pos}
def PC(X:Cx)(n:CmpOp)(a b:Expr)(t:TE):Prop:=
 ∀e s m H(Q:VK),Inv X e m H s->t m H Q->
  wpAny (model X.prog X.w) X.A (eval a X.env) (λv f=>wpAny (model X.prog X.w) X.A (eval b X.env) (λu g=>wpAny (model X.prog X.w) X.A (compareOp n v u) (EP X e m Q) X.xe g) X.xe f) X.xe s
theorem Hj(b:Expr)(h:e ≠ .In)(f:e ≠ .NotIn):behindInMarks e b=false:=by
 have g:(e == CmpOp.In)=false:=by cases e <;> first |rfl |exact absurd rfl h
 have m:(e == CmpOp.NotIn)=false:=by cases e <;> first |rfl |exact absurd rfl f
 cases b <;> simp [behindInMarks,g,m]
inductive tBX(Q:(Bool->Hp->Prop))(x:V)(H1:Hp):Prop
 |mk:∀c,x = .bl c->Q c H1->tBX Q x H1
def tB(t:TE):TT:=λe H Q=>t e H (tBX Q)
theorem n8(h:PC X m a b t)(f:behindInMarks m b=false:=by first |exact Hj _ (by decide) (by decide) |rfl):PT X (.Compare a [m] [b] pos) (tB t):=by
 intro e s n H Q I hw;refine wpAny_isTrue_Compare1 (thn (h e s n H _ I hw) λv B f=>thn f λu s2 o=>thn o λc D g=>?_) f;obtain⟨x,p,r,y,z⟩:=g;obtain⟨d,rfl,q⟩:=z;cases y;exact wpAny_truthy_bool ⟨p,r,q⟩
theorem dE(h:PE X e t)(m:∀whole,isTrue e X.env whole=(do let v <- whole;standAt e.pos;holding [v] (truthy v)):=by intro _;rfl):PT X e (tB t):=by
 intro f s n H Q I hw;refine isTrue_plain (thn (h f s n H _ I hw) λv y g=>?_) (m _);obtain⟨x,o,p,r,u⟩:=g;obtain⟨d,rfl,q⟩:=u;cases r;exact wpAny_truthy_bool ⟨o,p,q⟩
variable{tA tB':TT}{rest:List Expr}
abbrev LF(u:TT)(f : St)(Q:(Bool->Hp->Prop)):Bool->Hp->Prop:=λc e=>if c=true then u f e Q else Q false e
def tAnd(t u:TT):TT:=λe H Q=>t e H (LF u e Q)
abbrev KN(u:TT)(f : St)(Q:(Bool->Hp->Prop)):Bool->Hp->Prop:=λc e=>if c=true then Q true e else u f e Q
def tOr(t u:TT):TT:=λe H Q=>t e H (KN u e Q)
abbrev K2(Q:(Bool->Hp->Prop)):Bool->Hp->Prop:=λc e=>Q (!c) e
def tNot(t:TT):TT:=λe H Q=>t e H (K2 Q)
theorem jG(g:PT X a tA):PW X (.BoolOp .And [a] pos) tA:=by
 intro n f s m H Q I h;refine isTrue_and (thn (g f s m H Q I h) λc o e=>?_);cases c with
 |true=>exact isTrue_and_nil e
 |false=>exact e
theorem iX(g:PT X a tA):PW X (.BoolOp .Or [a] pos) tA:=by
 intro n f s m H Q I h;refine isTrue_or (thn (g f s m H Q I h) λc o e=>?_);cases c with
 |false=>exact isTrue_or_nil e
 |true=>exact e
theorem mB(p:PT X a tA)(q:PW X (.BoolOp .And (b::rest) pos) tB'):PW X (.BoolOp .And (a::b::rest) pos) (tAnd tA tB'):=by
 intro r e s g H Q I h;refine isTrue_and (thn (p e s g H _ I h) λc t f=>?_);obtain⟨m,n,o⟩:=f;cases c with
 |true=>exact q r e t g m Q n o
 |false=>exact⟨m,n,o⟩
theorem l9(p:PT X a tA)(q:PW X (.BoolOp .Or (b::rest) pos) tB'):PW X (.BoolOp .Or (a::b::rest) pos) (tOr tA tB'):=by
 intro r e s g H Q I h;refine isTrue_or (thn (p e s g H _ I h) λc t f=>?_);obtain⟨m,n,o⟩:=f;cases c with
 |true=>exact⟨m,n,o⟩
 |false=>exact q r e t g m Q n o
theorem cS(f:PT X a tA):PT X (.UnaryOp .Not a pos) (tNot tA):=by
 intro e s g H Q I h;exact isTrue_not (f e s g H (λc m=>Q (!c) m) I h)
inductive GZ(tb:TE)(σ : St)(Q:VK)(x:V)(H1:Hp):Prop
 |mk:∀c,x = .bl c->(if c=true then tb σ H1 Q else Q (.bl false) H1)->GZ tb σ Q x H1
def tAndV(ta tb:TE):TE:=λe H Q=>ta e H (GZ tb e Q)
theorem u6{f}(h:PE X a t):PE X (.BoolOp f [a] pos) t:=λe s g H Q I hw=>BoolOp_one (h e s g H Q I hw)
theorem mH(p:PE X a ta)(q:PE X (.BoolOp .And (b::rest) pos) tb):PE X (.BoolOp .And (a::b::rest) pos) (tAndV ta tb):=by
 intro e s m H Q I h;refine BoolOp_and (thn (p e s m H _ I h) λv r g=>?_);obtain⟨x,n,o,t,f⟩:=g;obtain⟨c,rfl,f⟩:=f;cases t;refine wpAny_truthy_bool ?_;cases c with
 |true=>exact q e r m n Q o f
 |false=>exact⟨.bl false,n,o,rfl,f⟩
abbrev tIf_1(ta:TE)(tb:TE)(e : St)(Q:VK):Bool->Hp->Prop:=λc f=>if c=true then ta e f Q else tb e f Q
def tIf(t:TT)(ta tb:TE):TE:=λe H Q=>t e H (tIf_1 ta tb e Q)
theorem BP(q:PT X c tA)(r:PE X a ta)(t:PE X b tb):PE X (.IfExp c a b pos) (tIf tA ta tb):=by
 intro e s f H Q I h;refine wpAny_IfExp (thn (q e s f H _ I h) λd m g=>?_);obtain⟨n,o,p⟩:=g;cases d with
 |true=>exact r e m f n Q o p
 |false=>exact t e m f n Q o p
end
def SqL(K:Ma)(H:Hp)(a:Addr)(e:Mp):Prop:=
 Rd H a (.lst e)\/
  ∃(o:Obj) (b:Array Value) (n:Nat),K.lookup a=some o/\o.cls = .type "list"/\o.dict=none/\o.data = .seq b n/\b.size<=sizeLine/\cE e b.toList
def SqT(K:Ma)(H:Hp)(a:Addr)(e:Mp):Prop:=
 Rd H a (.tup e)\/
  ∃(o:Obj) (b:Array Value) (n:Nat),K.lookup a=some o/\o.cls = .type "tuple"/\o.data = .seq b n/\b.size<=sizeLine/\cE e b.toList
def absV:Value->Option V
 | .none=>some .non
 | .bool b=>some (.bl b)
 | .int i _=>some (.int i)
 | .str x _=>some (.str x)
 | .bytes b _=>some (.byt b)
 | .float b _=>some (.flt b)
 | .ref a=>some (.ref a)
 | .type n=>some (.ty n)
 |_=>none
theorem cC.abs(r:cC x u):absV u=some x:=by
 cases x with
 |non=>cases r;rfl
 |bl _=>cases r;rfl
 |int _=>obtain⟨t,rfl⟩:=r;rfl
 |str _=>obtain⟨t,rfl⟩:=r;rfl
 |byt _=>obtain⟨t,rfl⟩:=r;rfl
 |flt _=>obtain⟨t,rfl⟩:=r;rfl
 |ref _=>cases r;rfl
 |ty _=>cases r;rfl
theorem cC.inj(r:cC x u)(q:cC y u):x=y:=Option.some.inj (r.abs.symm.trans q.abs)
theorem cE.inj:∀{b e:Mp}{f:Mh},cE b f->cE e f->b=e
 |_,_,_,.nil,.nil=>rfl
 |_,_,_,.cons r t,.cons g m=>by rw[r.inj g,cE.inj t m]
section
variable{X:Cx}{pins:Mb}{σ : St}{H:Hp}{s:Shared}{a:Addr}{xs ys:Mp}
theorem SqL.of{K:Ma}(h:H a=some (.lst xs)):SqL K H a xs:=.inl (.inl h)
theorem SqT.of{K:Ma}(h:H a=some (.tup xs)):SqT K H a xs:=.inl (.inl h)
theorem Inv.list(I:Inv X pins σ H s)(h:SqL X.K H a xs):∃b:Mh,cE xs b/\PlainL s.heap a b.toArray/\xs.length<=sizeLine:=by
 rcases h with h | ⟨o,b,n,f,g,m,p,q,r⟩
 ·obtain⟨z,b,n,r,e⟩:=h.ok I.hok;exact⟨b,r,⟨_,n,e,rfl,rfl,rfl⟩,z⟩
 ·refine⟨b.toList,r,⟨o,n,I.kIn a o f,g,m,by simpa using p⟩,?_⟩;have e:=r.length;simp only[length_toList]at e;omega
theorem Inv.tuple(I:Inv X pins σ H s)(h:SqT X.K H a xs):∃b:Mh,cE xs b/\IsTup s.heap a b.toArray/\xs.length<=sizeLine:=by
 rcases h with h | ⟨o,b,n,f,g,m,q,r⟩
 ·obtain⟨z,b,r,p⟩:=h.ok I.hok;exact⟨b,r,p,z⟩
 ·refine⟨b.toList,r,⟨o,I.kIn a o f,g,n,by simpa using m⟩,?_⟩;have e:=r.length;simp only[length_toList]at e;omega
theorem Inv.list_inj(I:Inv X pins σ H s)(h:SqL X.K H a xs)(p:SqL X.K H a ys):xs=ys:=by
 obtain⟨f,r,⟨o,n,e,_,_,d⟩,_⟩:=I.list h;obtain⟨b,q,⟨u,x,g,_,_,m⟩,_⟩:=I.list p;rw[e]at g;cases g;rw[d]at m;injection m with t _
 have:f=b:=by simpa using congrArg Array.toList t
 subst this;exact r.inj q
theorem Inv.tuple_inj(I:Inv X pins σ H s)(h:SqT X.K H a xs)(p:SqT X.K H a ys):xs=ys:=by
 obtain⟨f,r,⟨o,e,_,n,d⟩,_⟩:=I.tuple h;obtain⟨b,q,⟨u,g,_,x,m⟩,_⟩:=I.tuple p;rw[e]at g;cases g;rw[d]at m;injection m with t _
 have:f=b:=by simpa using congrArg Array.toList t
 subst this;exact r.inj q
end
abbrev Cx.wish(X:Cx)(E:Mm):Cx:={X with xe:=E}
abbrev Cx.nox(X:Cx):Cx:=X.wish λ_ _=>False
theorem Cx.Ok.wish{X:Cx}(ok:X.Ok)(E:Mm):(X.wish E).Ok:=
 ⟨ok.mod,ok.kind,ok.glob,ok.blt,ok.above,ok.inj,ok.has,ok.cab,ok.hd,ok.frames,ok.stk,ok.exf,ok.bs,ok.bsz,ok.noex,ok.exfs,ok.funs,ok.frf⟩
theorem Cx.Ok.unwish{X:Cx}{E:Mm}(ok:(X.wish E).Ok):X.Ok:=
 ⟨ok.mod,ok.kind,ok.glob,ok.blt,ok.above,ok.inj,ok.has,ok.cab,ok.hd,ok.frames,ok.stk,ok.exf,ok.bs,ok.bsz,ok.noex,ok.exfs,ok.funs,ok.frf⟩
section
variable{X:Cx}{pins:Mb}{σ : St}{H:Hp}{s:Shared}{E:Mm}
theorem Inv.wish(I:Inv X pins σ H s)(E:Mm):Inv (X.wish E) pins σ H s:=⟨I.ok.wish E,I.os,I.bare,I.base,I.loc,I.cell,I.free,I.freeC,I.pin,I.hok,I.len⟩
theorem Inv.unwish(I:Inv (X.wish E) pins σ H s):Inv X pins σ H s:=⟨I.ok.unwish,I.os,I.bare,I.base,I.loc,I.cell,I.free,I.freeC,I.pin,I.hok,I.len⟩
theorem SP.unwish(h:SP (X.wish E) pins D f g):SP X pins D f g:=by
 cases f with
 |next=>obtain⟨b,e,I,q⟩:=h;exact⟨b,e,I.unwish,q⟩
 |brk=>obtain⟨b,e,I,q⟩:=h;exact⟨b,e,I.unwish,q⟩
 |cont=>obtain⟨b,e,I,q⟩:=h;exact⟨b,e,I.unwish,q⟩
 |ret u=>obtain⟨v,b,e,I,r,q⟩:=h;exact⟨v,b,e,I.unwish,r,q⟩
end
section
variable{X:Cx}{st:Stmt}{rest:List Stmt}{t u:TS}{e:Expr}{te:TE}{pos:Pos}
def Dc:TS:=λD b H=>D.nx b H
def tU(t u:TS):TS:=λD b H=>t (D.next (u D)) b H
theorem aO:PSs X [] Dc:=λ_ _ b H _ I h=>wpAny_execs_nil ⟨b,H,I,h⟩
theorem aA(m:PS X st t)(n:PSs X rest u):PSs X (st::rest) (tU t u):=by
 intro b s o H D I h;refine wpAny_execs_cons (thn (m b s o H (D.next (u D)) I h) λf p q=>?_);cases f with
 |next=>
  obtain⟨g,r,x,q⟩:=q;exact n b p g r D x q
 |ret v=>exact q
 |brk=>exact q
 |cont=>exact q
theorem aC(g:PS X st t):PSs X [st] t:=by
 intro b s m H D I h;refine wpAny_execs_cons (thn (g b s m H D I h) λf n q=>?_);cases f with
 |next=>exact wpAny_execs_nil q
 |ret v=>exact q
 |brk=>exact q
 |cont=>exact q
theorem Inv.quiet(I:Inv X b f H s):interactive X.env=false:=by simp [interactive,I.ok.kind]
abbrev I0(D:Ends)(b : St):V->Hp->Prop:=λf g=>D.nx b g
def KS(te:TE):TS:=λD b H=>te b H (I0 D b)
theorem aX(g:PE X e te)(m:swapsWith e none pos.line X.env=pure false:=by rfl):PS X (.Expr e pos) (KS te):=by
 intro b s f H D I h;exact wpAny_Expr_any (thn (g b s f H _ I h) λv q ⟨x,n,o,r,p⟩=>⟨f,n,o,p⟩) I.quiet m
def tRet(te:TE):TS:=λD b H=>te b H D.rt
theorem aP(g:PE X e te):PS X (.Return (some e) pos) (tRet te):=by
 intro b s f H D I h;exact wpAny_Return_some (thn (g b s f H _ I h) λv q ⟨x,m,n,o,p⟩=>⟨x,f,m,n,o,p⟩)
abbrev K6(t:TS)(u:TS)(D:Ends)(f : St):Bool->Hp->Prop:=λb g=>if b=true then t D f g else u D f g
def K7(c:TT)(t u:TS):TS:=λD b H=>c b H (K6 t u D b)
theorem bG{c:Expr}{a b:List Stmt}{n:TT}(x:PT X c n)(y:PSs X a t)(z:PSs X b u):PS X (.If c a b pos) (K7 n t u):=by
 intro f s g H D I h;refine wpAny_If (thn (x f s g H _ I h) λd o m=>?_);obtain⟨p,q,r⟩:=m;cases d with
 |true=>exact y f o g p D q r
 |false=>exact z f o g p D q r
end
abbrev TG:=V->St->Hp->(St->Hp->Prop)->Prop
abbrev TGs:=Mp->St->Hp->(St->Hp->Prop)->Prop
def PG(X:Cx)(b:Expr)(t:TG):Prop:=
 ∀e s g H(v:V)(u:Value)(Q:St->Hp->Prop),Inv X e g H s->cC v u->t v g H Q->
  wpAny (model X.prog X.w) X.A (assign b X.env u) (λ_ n=>∃f m,Inv X e f m n/\Q f m) X.xe s
def PGs(X:Cx)(o:List Expr)(t:TGs):Prop:=
 ∀b s f H(g:Mp)(m:Mh)(Q:St->Hp->Prop),Inv X b f H s->cE g m->t g f H Q->
  wpAny (model X.prog X.w) X.A (assignInOrder ((assignEach o X.env).map (·.2)) m) (λ_ p=>∃e n,Inv X b e n p/\Q e n) X.xe s
abbrev TIp:=V->V->Hp->VK->Prop
def PIp(X:Cx)(f:Operator)(t:TIp):Prop:=
 ∀b s e H(x y:V)(v u:Value)(Q:VK),Inv X b e H s->cC x v->cC y u->t x y H Q->
  wpAny (model X.prog X.w) X.A (inplaceOp f v u) (EP X b e Q) X.xe s
section
variable{X:Cx}{pos:Pos}
def rZ(i:Nat):TG:=λv b H Q=>Q (b.set i (some v)) H
theorem bH{i:Nat}{x:Str}(e:X.N.Nodup)(f:X.N[i]? = some x)(g:Loc X.env.scope x)(m:X.fn x=true\/X.env.scope.names.lookup x=some .local:=by first |exact .inl rfl |exact .inr rfl |assumption):PG X (.Name x pos) (rZ i):=by
 intro b s o H v u Q I r h;exact wpAny_assign_Name (tV I e f g r (λp n=>⟨_,H,n,h⟩) m)
def gNil:TGs:=λb e H Q=>b=[]/\Q e H
abbrev J7(u:TGs)(Q:(St->Hp->Prop))(r:Mp):St->Hp->Prop:=λb e=>u r b e Q
inductive Ko(t:TG)(u:TGs)(vs:Mp)(σ : St)(H:Hp)(Q:(St->Hp->Prop)):Prop
 |mk:∀v r,vs=v::r->t v σ H (J7 u Q r)->Ko t u vs σ H Q
theorem iE:PGs X [] gNil:=by
 intro b s f H g m Q I r h;obtain⟨e,h⟩:=h;subst e;cases r;exact assignInOrder_nil ⟨f,H,I,h⟩
theorem cJ{e:Expr}{f:List Expr}{t:TG}{u:TGs}(n:PG X e t)(o:PGs X f u)
  (p:(assignEach (e::f) X.env).map (·.2)=assign e X.env::(assignEach f X.env).map (·.2):=by rfl):PGs X (e::f) (Ko t u):=by
 intro b s q H G J Q I r h;obtain⟨v,L,x,h⟩:=h;subst x;cases r with
 |cons r y=>
  rw[p];refine assignInOrder_cons (thn (n b s q H _ _ _ I r h) λ_ z g=>?_);obtain⟨m,B,D,E⟩:=g;exact o b z m B _ _ Q D y E
inductive ME(K:Ma)(n:Nat)(t:TGs)(v:V)(σ : St)(H:Hp)(Q:(St->Hp->Prop)):Prop
 |mk:∀a xs,v = .ref a->SqT K H a xs->xs.length=n->t xs σ H Q->ME K n t v σ H Q
theorem LV(y:X.calm=true)(h:PGs X g t)
  (z:(assignEach g X.env).length=n:=by rfl) (m:(assignEach g X.env).findIdx? (·.1)=none:=by rfl):PG X (.Tuple g k pos) (ME X.K n t):=by
 intro f s p H v u Q I r hw;obtain⟨a,B,D,E,G,hw⟩:=hw;subst D;cases r;obtain⟨J,q,L,S⟩:=I.tuple E;refine assign_Tuple_tuple (I.ok.hd y) L (by simp [z,<- G,q.length]) m λN O=>?_;have R:Inv X f p H {s with heap:=N}:=I.kept (t':=s.toks) λb o e=>O b o (ne_of_lt (lt_size e)) e;exact h f _ p H B _ Q R (by simpa using q) hw
abbrev zF(g:TG)(D:Ends)(b : St):V->Hp->Prop:=λx e=>g x b e D.nx
def JE(e:TE)(g:TG):TS:=λD b H=>e b H (zF g D b)
theorem qS{f e:Expr}{n:TE}{g:TG}(p:PE X e n)(r:PG X f g)(t:swapsWithSole [f] e pos.line X.env=pure false:=by rfl)(hw:swappedStores [f] e X.env=pure none:=by rfl)
  (u:(assignEach [f] X.env).map (·.2)=[assign f X.env]:=by rfl):PS X (.Assign [f] e pos) (JE n g):=by
 intro b s o H D I h;refine wpAny_Assign_stores (thn (p b s o H _ I h) λv y m=>?_) t hw;obtain⟨x,z,B,E,G⟩:=m;rw[u];exact thn (r b y o z x v _ B E G) λ_ s2 q=>q
theorem aW{i:Nat}{x:Str}{e:Expr}{m:TE}{b:Pos}(n:X.N.Nodup)(o:X.N[i]? = some x)(p:Loc X.env.scope x)(q:PE X e m)(r:swapsWith e (some (.Name x b)) pos.line X.env=pure false:=by rfl)(t:X.fn x=true\/X.env.scope.names.lookup x=some .local:=by first |exact .inl rfl |exact .inr rfl |assumption) :
  PS X (.Assign [.Name x b] e pos) (JE m (rZ i)):=by
 intro f s u H D I h;refine wpAny_Assign_Name (thn (q f s u H _ I h) λv L g=>?_) r;obtain⟨y,z,B,E,G⟩:=g;exact tV B n o p E (λs2 J=>⟨_,z,J,G⟩) t
abbrev LD(i:Nat)(D:Ends)(b : St):V->Hp->Prop:=λz H2=>D.nx (b.set i (some z)) H2
abbrev LE(i:Nat)(b:TIp)(D:Ends)(e : St)(x:V):V->Hp->Prop:=λy f=>b x y f (LD i D e)
inductive tAug(i:Nat)(te:TE)(ti:TIp)(D:Ends)(σ : St)(H:Hp):Prop
 |mk:∀x,σ[i]? = some (some x)->te σ H (LE i ti D σ x)->tAug i te ti D σ H
theorem zR{i:Nat}{x:Str}{e:Expr}{G:TE}{t:Operator}{J:TIp}{o:Pos}(O:X.N.Nodup)(L:X.N[i]? = some x)(B:Loc X.env.scope x)(Q:PE X e G)(R:PIp X t J)(S:X.fn x=true\/X.env.scope.names.lookup x=some .local:=by first |exact .inl rfl |exact .inr rfl |assumption) :
  PS X (.AugAssign (.Name x o) t e pos) (tAug i G J):=by
 intro b s N H D I h;obtain⟨v,U,h⟩:=h;obtain⟨m,V,W⟩:=I.loc;have E:Vis X.env.scope x:=by rcases B with k |k;exact .inl k;exact .inr (.inl k)
 obtain⟨u,r,l⟩:=W i x v L U E;refine wpAny_AugAssign_Name ?_;have go:wpAny (model X.prog X.w) X.A (eval e X.env) (λw p=>wpAny (model X.prog X.w) X.A (inplaceOp t u w) (λr q=>wpAny (model X.prog X.w) X.A (storeName X.env x r) (λ_=>SP X b D .next) X.xe q) X.xe p) X.xe s:=by
  refine thn (Q b s N H _ I h) λw Y g=>?_;obtain⟨y,Z,I1,r1,q1⟩:=g;refine thn (R b Y N Z v y u w _ I1 r r1 q1) λz s2 g=>?_;obtain⟨zv,H2,I2,r2,q2⟩:=g;exact tV I2 O L B r2 (λs3 I3=>⟨_,H2,I3,q2⟩) S
 rcases l with ⟨f,hm⟩ | ⟨f,c,hc,n⟩
 ·exact wpAny_loadName_local I.ok.kind f V hm go
 ·rcases f with f |f
  ·exact wpAny_loadName_cell I.ok.kind f hc n go
  ·rcases B with k |k
   ·have:X.env.scope.names.lookup x=some .free:=f;rw[k]at this;cases this
   ·have:X.env.scope.names.lookup x=some .free:=f;rw[k]at this;cases this
inductive ipI(f:Int->Int->Int)(x:V)(y:V)(H:Hp)(Q:VK):Prop
 |mk:∀i j,x = .int i->y = .int j->Q (.int (f i j)) H->ipI f x y H Q
theorem DL:PIp X .Add (ipI λi j=>i+j):=by
 intro b s n H x y v u Q I e f h;obtain⟨i,j,g,m,q⟩:=h;subst g;subst m;obtain⟨t,rfl⟩:=e;obtain⟨o,rfl⟩:=f;exact iadd_int ⟨.int _,H,I.tok _,⟨_,rfl⟩,q⟩
theorem L7:PIp X .Sub (ipI λi j=>i-j):=by
 intro b s n H x y v u Q I e f h;obtain⟨i,j,g,m,q⟩:=h;subst g;subst m;obtain⟨t,rfl⟩:=e;obtain⟨o,rfl⟩:=f;exact isub_int ⟨.int _,H,I.tok _,⟨_,rfl⟩,q⟩
def Kz(c:TT)(p:TS):TS:=λD e H=>∃W:Nat->St->Hp->Prop,(∃m,W m e H)/\∀m e H,W m e H->
 c e H λb g=>if b=true then ∃N:St->Hp->Prop,(∀f n,N f n->∃o,o<m/\W o f n)/\p (D.loop (N)) e g else D.nx e g
theorem pD{c:Expr}{o:List Stmt}{G:TT}{J:TS}(L:PassesOwn (model X.prog X.w) X.A X.env X.xe)(U:PT X c G)(V:PSs X o J):PS X (.While c o [] pos) (Kz G J):=by
 intro e s Y H D I h;obtain⟨W,⟨Z,w0⟩,turn⟩:=h;refine wpAny_While (codeAny_whileLoop (λn s'=>∃p O,Inv X e p O s'/\W n p O) ?_ Z ⟨Y,H,I,w0⟩);rintro n s1 ⟨m,Q,I1,w1⟩;refine wpAny_passesOwn L (thn (U e s1 m Q _ I1 (turn n m Q w1)) λb s2 u=>?_);obtain⟨H2,R,r⟩:=u;cases b with
 |true=>
  obtain⟨N,S,r⟩:=r;rw[if_pos rfl];refine wpAny_passesOwn L (thn (V e s2 m H2 _ R r) λf s3 t=>?_);cases f with
  |next=>
   obtain⟨g,q,x,y⟩:=t;obtain⟨z,B,E⟩:=S g q y;exact⟨z,B,g,q,x,E⟩
  |cont=>
   obtain⟨g,q,x,y⟩:=t;obtain⟨z,B,E⟩:=S g q y;exact⟨z,B,g,q,x,E⟩
  |brk=>exact t
  |ret v=>exact t
 |false=>
  rw[if_neg Bool.false_ne_true];exact wpAny_execs_nil ⟨m,H2,R,r⟩
end
structure It where
 go:Nat->Hp->Prop
 yld:Nat->Hp->V->Hp->Prop
 stop:Nat->Hp->Prop
def rG(X:Cx)(e:Mb)(H:Hp)(b:Addr):Prop:=
 H b=none/\b≠X.env.locals/\b∉X.fs/\(b∈X.ex\/X.s₀.heap.objs.size<=b)/\(∀x c,X.env.cells.lookup x=some c->c≠b)/\∀p∈X.pn++e,p.1≠b
theorem Inv.fpOk(I:Inv X f o H s)(g:s.heap.objs.size<=b)(m:H' b=none):rG X f H' b:=by
 refine⟨m,ne_of_gt (lt_of_lt_of_le I.lt g),I.nofs g,.inr (le_trans I.sz g),λx c e z=>?_,λp n z=>?_⟩
 ·obtain⟨v,q⟩:=I.cell x c e;exact absurd (lt_of_lt_of_le q.lt (by rw[z];exact g)) (lt_irrefl _)
 ·exact absurd (lt_of_lt_of_le (lt_size (I.pin p n).1) (by rw[z];exact g)) (lt_irrefl _)
structure Turn(P:Program)(w:World)(K:Ma)(tg:Expr)(J:It)(fp:List Addr)(it:Addr)(tn:Nat->Heap->Prop):Prop where
 mem:it∈fp
 obj:∀i h,tn i h->∀b∈fp,∃o,h.get? b=some o/\∀v,o.data ≠ .cell v
 keep:∀i h h',tn i h->(∀b∈fp,∀o,h.get? b=some o->h'.get? b=some o)->tn i h'
 item:∀(X:Cx),X.prog=P->X.w=w->X.K=K->X.calm=true->∀(i:Nat)(pins:Mb)(s:Shared)(σ : St)(H:Hp)(E:Mm),Inv X pins σ H s->(∀b∈fp,rG X pins H b)->tn i s.heap->J.go i H->
  wpAny (model P w) X.A (pyNext (.ref it)) (λr s1=>∃u,r=some u/\
   wpAny (model P w) X.A (letOwnedTupleGo tg (.ref it) u) (λ_ s2=>∃x H',Inv X pins σ H' s2/\cC x u/\J.yld i H x H'/\tn (i+1) s2.heap/\∀b∈fp,H' b=none) E s1) E s
 done:∀(X:Cx),X.prog=P->X.w=w->X.K=K->X.calm=true->∀(i:Nat)(pins:Mb)(s:Shared)(σ : St)(H:Hp)(E:Mm),Inv X pins σ H s->(∀b∈fp,rG X pins H b)->tn i s.heap->J.stop i H->
  wpAny (model P w) X.A (pyNext (.ref it)) (λr s1=>r=none/\Inv X pins σ H s1) E s
 self:∀(A:Around)(i:Nat)(s:Shared)(Q:Mm)(E:Mm),tn i s.heap->Q (.ref it) s->wpAny (model P w) A (pyIter (.ref it)) Q E s
abbrev TI:=St->Hp->(It->Hp->Prop)->Prop
inductive PIE(X:Cx)(pins:Mb)(σ : St)(tg:Expr)(R:It->Hp->Prop)(itv:Value)(s2:Shared):Prop
 |mk:∀(it:Addr)(fp:List Addr)(tn:Nat->Heap->Prop)(J:It)(H':Hp),itv = .ref it->Inv X pins σ H' s2->Turn X.prog X.w X.K tg J fp it tn->tn 0 s2.heap->(∀b∈fp,rG X pins H' b)->R J H'->PIE X pins σ tg R itv s2
def PI(X:Cx)(f iter:Expr)(g:TI):Prop:=
 ∀b s e H(R:It->Hp->Prop),Inv X b e H s->g e H R->
  wpAny (model X.prog X.w) X.A (eval iter X.env) (λv m=>wpAny (model X.prog X.w) X.A (pyIter v) (PIE X b e f R) X.xe m) X.xe s
theorem Bs(e:s.heap.get? f=some o)(g:o.cls = .type n)(m:o.data = .fields p)
  (q:["enumerate","zip","dict_itemiterator","dict_reverseitemiterator","odict_iterator","itertools.zip_longest","itertools.pairwise"].contains n=false) (b:Q () s):wpAny M A (letOwnedTupleGo r (.ref f) u) Q E s:=by
 unfold letOwnedTupleGo;cases r <;> first
  |exact wpAny_pure b
  | (cases u <;> first
    |exact wpAny_pure b
    | (refine wpAny_bind (wpAny_load e ?_)
       rw[g,m];show wpAny M A (if (["enumerate","zip","dict_itemiterator","dict_reverseitemiterator","odict_iterator","itertools.zip_longest","itertools.pairwise"].contains n && p[0]? == some (rawInt _))=true then _ else _) Q E s;rw[if_neg (by intro h;rw[q,Bool.false_and]at h;cases h)];exact wpAny_pure b))
def Itl(K:Ma)(a:Addr):It:=
 ⟨λi H=>∃b x,SqL K H a b/\b[i]? = some x,λi H x e=>e=H/\∀b,SqL K H a b->b[i]? = some x,λi H=>∃b,SqL K H a b/\b.length<=i⟩
def Itt(K:Ma)(a:Addr):It:=
 ⟨λi H=>∃b x,SqT K H a b/\b[i]? = some x,λi H x e=>e=H/\∀b,SqT K H a b->b[i]? = some x,λi H=>∃b,SqT K H a b/\b.length<=i⟩
def Itr(lo:Int)(n:Nat):It:=⟨λi _=>i<n,λi H x b=>b=H/\x = .int (lo+i),λi _=>n<=i⟩
theorem wR{P:Program}{w:World}{K:Ma}{tg:Expr}(a it:Addr):Turn P w K tg (Itl K a) [it] it (λi h=>h.IsListIter it a i) where
 mem:=by simp
 obj:=λi h st b hb=>by
  have e:b=it:=by simpa using hb
  subst e;obtain⟨o,e,c,d⟩:=st;exact⟨o,e,λv z=>by rw[d]at z;cases z⟩
 keep:=λi h h' st k=>st.at λo e=>k it (by simp) o e
 item:=by
  intro X hP hw hK hc i pins s σ H E I hf st hg;subst hP hw hK;obtain⟨xs,x,hq,hx⟩:=hg;obtain⟨its,rv,p,hz⟩:=I.list hq;obtain⟨u,hu,ru⟩:=rv.get hx;obtain⟨f0,f1,f2,f3,f4,f5⟩:=hf it (by simp);refine wpAny_pyNext_list_item st p.isList (x:=u) (by simpa using hu) λh' st' sb=>?_;have I1:Inv X pins σ H {s with heap:=h'}:=I.turned (t':=s.toks) (λb o hb e=>(sb.2 b hb).trans e) f0 f1 f3 f4 f5;obtain⟨o,e,c,d⟩:=id st';exact⟨u,rfl,Bs (s:={s with heap:=h'}) e c d (by decide) ⟨x,H,I1,ru,⟨rfl,λys hy=>by rw[I.list_inj hy hq];exact hx⟩,st',λb hb=>(hf b hb).1⟩⟩
 done:=by
  intro X hP hw hK hc i pins s σ H E I hf st hg;subst hP hw hK;obtain⟨xs,hq,hx⟩:=hg;obtain⟨its,rv,p,hz⟩:=I.list hq;obtain⟨f0,f1,f2,f3,f4,f5⟩:=hf it (by simp);have hl:=rv.length;exact wpAny_pyNext_list_end (I.ok.hd hc) st p.isList (by simp;omega) λh' eb=>⟨rfl,I.turned (t':=s.toks) (λb o hb e=>eb b o hb e) f0 f1 f3 f4 f5⟩
 self:=λ_ _ _ _ _ st h=>wpAny_pyIter_listiter st h
theorem tN{P:Program}{w:World}{K:Ma}{tg:Expr}(a it:Addr):Turn P w K tg (Itt K a) [it] it (λi h=>h.IsTupleIter it a i) where
 mem:=by simp
 obj:=λi h st b hb=>by
  have e:b=it:=by simpa using hb
  subst e;obtain⟨o,e,c,d⟩:=st;exact⟨o,e,λv z=>by rw[d]at z;cases z⟩
 keep:=λi h h' st k=>st.at λo e=>k it (by simp) o e
 item:=by
  intro X hP hw hK hc i pins s σ H E I hf st hg;subst hP hw hK;obtain⟨xs,x,hq,hx⟩:=hg;obtain⟨its,rv,p,hz⟩:=I.tuple hq;obtain⟨u,hu,ru⟩:=rv.get hx;obtain⟨f0,f1,f2,f3,f4,f5⟩:=hf it (by simp);refine wpAny_pyNext_tuple_item st (show s.heap.IsTuple a its.toArray from p) (x:=u) (by simpa using hu) λh' st' sb=>?_;have I1:Inv X pins σ H {s with heap:=h'}:=I.turned (t':=s.toks) (λb o hb e=>(sb.2 b hb).trans e) f0 f1 f3 f4 f5;obtain⟨o,e,c,d⟩:=id st';exact⟨u,rfl,Bs (s:={s with heap:=h'}) e c d (by decide) ⟨x,H,I1,ru,⟨rfl,λys hy=>by rw[I.tuple_inj hy hq];exact hx⟩,st',λb hb=>(hf b hb).1⟩⟩
 done:=by
  intro X hP hw hK hc i pins s σ H E I hf st hg;subst hP hw hK;obtain⟨xs,hq,hx⟩:=hg;obtain⟨its,rv,p,hz⟩:=I.tuple hq;obtain⟨f0,f1,f2,f3,f4,f5⟩:=hf it (by simp);have hl:=rv.length;exact wpAny_pyNext_tuple_end (I.ok.hd hc) st (show s.heap.IsTuple a its.toArray from p) (by simp;omega) λh' eb=>⟨rfl,I.turned (t':=s.toks) (λb o hb e=>eb b o hb e) f0 f1 f3 f4 f5⟩
 self:=λ_ _ _ _ _ st h=>wpAny_pyIter_tupleiter st h
theorem CU{P:Program}{w:World}{K:Ma}{tg:Expr}(it:Addr)(lo:Int)(n:Nat):Turn P w K tg (Itr lo n) [it] it (λi h=>IsRangeIter h it (lo+(i:Nat)*1) ((n:Int)-(i:Nat)) 1) where
 mem:=by simp
 obj:=λi h st b hb=>by
  have e:b=it:=by simpa using hb
  subst e;exact⟨_,st,λv z=>by
   have z':Data.fields _=Data.cell v:=z;cases z'⟩
 keep:=λi h h' st k=>k it (by simp) _ st
 item:=by
  intro X hP hw hK hc i pins s σ H E I hf st hg;subst hP hw hK;obtain⟨f0,f1,f2,f3,f4,f5⟩:=hf it (by simp);have W:=Walks.range (prog:=X.prog) (w:=X.w) (I.ok.hd hc) it lo 1 n;refine W.item i s _ _ hg st λv h' tk hv st' kk=>?_;obtain⟨t,rfl⟩:=hv;have I1:Inv X pins σ H {s with heap:=h',toks:=tk}:=I.turned (λb o hb e=>kk b o (by simpa using hb) e) f0 f1 f3 f4 f5;refine⟨_,rfl,Bs (s:={s with heap:=h',toks:=tk}) (n:="range_iterator") st' rfl rfl (by decide) ⟨.int (lo+i),H,I1,⟨t,?_⟩,⟨rfl,rfl⟩,st',λb hb=>(hf b hb).1⟩⟩;rw[Int.mul_one]
 done:=by
  intro X hP hw hK hc i pins s σ H E I hf st hg;subst hP hw hK;obtain⟨f0,f1,f2,f3,f4,f5⟩:=hf it (by simp);exact wpAny_pyNext_range_end (I.ok.hd hc) st (by have:n<=i:=hg;omega) λh' eb=>⟨rfl,I.turned (t':=s.toks) (λb o hb e=>eb b o hb e) f0 f1 f3 f4 f5⟩
 self:=λ_ _ _ _ _ st h=>wpAny_pyIter_rangeiter st h
section
variable{X:Cx}{tg:Expr}
inductive IC(K:Ma)(R:(It->Hp->Prop))(x:V)(H1:Hp):Prop
 |mk:∀a,x = .ref a->(∃xs,SqL K H1 a xs)->R (Itl K a) H1->IC K R x H1
def Kn(K:Ma)(b:TE):TI:=λe H R=>b e H (IC K R)
inductive Kk(K:Ma)(R:(It->Hp->Prop))(x:V)(H1:Hp):Prop
 |mk:∀a,x = .ref a->(∃xs,SqT K H1 a xs)->R (Itt K a) H1->Kk K R x H1
def iTup(K:Ma)(b:TE):TI:=λe H R=>b e H (Kk K R)
theorem JW{l:Expr}{r:TE}(t:PE X l r):PI X tg l (Kn X.K r):=by
 intro f s u H R I h;refine thn (t f s u H _ I h) λv g n=>?_;obtain⟨x,y,m,z,B⟩:=n;obtain⟨a,e,⟨J,D⟩,q⟩:=B;subst e;cases z;obtain⟨E,L,p,N⟩:=m.list D;refine wpAny_pyIter_list p.isList ?_;refine⟨g.heap.objs.size,[g.heap.objs.size],_,_,y,rfl,m.kept (t':=g.toks) λb o e=>get?_push_of_some _ e,wR a _,⟨_,get?_push_size _ rfl,rfl,rfl⟩,λb G=>?_,q⟩;have e:b=g.heap.objs.size:=by simpa using G
 subst e;exact m.fpOk (le_refl _) (m.hok.fresh (le_refl _))
theorem LT{l:Expr}{t:TE}(u:PE X l t):PI X tg l (iTup X.K t):=by
 intro f s y H R I h;refine thn (u f s y H _ I h) λv g n=>?_;obtain⟨x,z,m,B,D⟩:=n;obtain⟨a,e,⟨J,E⟩,q⟩:=D;subst e;cases B;obtain⟨r,L,p,N⟩:=m.tuple E;refine wpAny_pyIter_tuple (show g.heap.IsTuple a r.toArray from p) ?_;refine⟨g.heap.objs.size,[g.heap.objs.size],_,_,z,rfl,m.kept (t':=g.toks) λb o e=>get?_push_of_some _ e,tN a _,⟨_,get?_push_size _ rfl,rfl,rfl⟩,λb G=>?_,q⟩;have e:b=g.heap.objs.size:=by simpa using G
 subst e;exact m.fpOk (le_refl _) (m.hok.fresh (le_refl _))
theorem G7{m:Mb}{x : St}{H:Hp}{s:Shared}{R:It->Hp->Prop}{E:Mm}{lo g:Int}{t u v:Tok}{y:Nat}(I:Inv X m x H s)(B:-(2 ^ 62)<=lo)(D:lo<2 ^ 62)(G:-(2 ^ 62)<=g)(J:g<2 ^ 62)
  (q:R (Itr lo (g-lo).toNat) H):wpAny (model X.prog X.w) X.A (pyIter (.ref s.heap.objs.size)) (PIE X m x tg R) E {s with heap:=s.heap.push {cls:=.type "range",data:=.fields #[.int lo t,.int g u,.int 1 v] },toks:=y}:=by
 refine wpAny_pyIter_range (IsRange.new ..) (small_one B D G J) ?_;have z:Inv X m x H {s with heap:=s.heap.push {cls:=.type "range",data:=.fields #[.int lo t,.int g u,.int 1 v] },toks:=y}:=I.kept λb o e=>get?_push_of_some _ e;refine⟨(s.heap.push {cls:=.type "range",data:=.fields #[.int lo t,.int g u,.int 1 v] }).objs.size,[(s.heap.push {cls:=.type "range",data:=.fields #[.int lo t,.int g u,.int 1 v] }).objs.size],_,_,H,rfl,
  z.kept (t':=y) λb o e=>get?_push_of_some _ e,CU _ lo (g-lo).toNat,?_,λb L=>?_,q⟩
 ·have N:lo+((0:Nat):Int)*1=lo:=by simp
  have O:(((g-lo).toNat:Nat):Int)-((0:Nat):Int)=Builtin.Range.rangeSize lo g 1:=by rw[rangeSize_one];split <;> omega
  show IsRangeIter _ _ (lo+((0:Nat):Int)*1) ((((g-lo).toNat:Nat):Int)-((0:Nat):Int)) 1;rw[N,O];exact get?_push_size _ rfl
 ·have e:b=(s.heap.push {cls:=.type "range",data:=.fields #[.int lo t,.int g u,.int 1 v] }).objs.size:=by simpa using L
  subst e;exact z.fpOk (le_refl _) (z.hok.fresh (le_refl _))
inductive IB(R:(It->Hp->Prop))(vs:Mp)(H1:Hp):Prop
 |mk:∀j:Int,vs=[.int j]->-(2 ^ 62)<=j->j<2 ^ 62->R (Itr 0 j.toNat) H1->IB R vs H1
def iRng1(b:TA):TI:=λe H R=>b e H (IB R)
theorem kG{a:Expr}{n:TA}{p b:Pos}(o:Gl X "range")(u:X.mg "range" = none)(x:PA X [a] n)(y:starEach [a] X.env=[(false,eval a X.env)]:=by rfl):PI X tg (.Call (.Name "range" p) [a] [] b) (iRng1 n):=by
 intro f s z H R I h;refine Call_ (jA I o u boot_range (PyProof.Rows.callWith_type1 (thn (x b f s z H _ I h) λJ L g=>?_) y rfl));obtain⟨N,O,B,D,m⟩:=g;obtain⟨j,e,m,E,q⟩:=m;subst e;cases D with
 |cons r G=>
  cases G;obtain⟨t,rfl⟩:=r;exact call_range_1 (G7 B (by omega) (by omega) m E (by simpa using q))
def GU(g:TG)(p:TS)(D:Ends)(b : St):It->Hp->Prop:=λJ q=>∃W:Nat->Nat->St->Hp->Prop,(∃m,W 0 m b q)/\∀i m b H,W i m b H->
 (J.stop i H/\D.nx b H)\/(J.go i H/\∃N:St->Hp->Prop,(∀e f,N e f->∃o,o<m/\W (i+1) o e f)/\∀x f,J.yld i H x f->g x b f λn H2=>p (D.loop (N)) n H2)
def K8(e:TI)(g:TG)(f:TS):TS:=λD b H=>e b H (GU g f D b)
def uZ(e:List Addr)(h:Heap):Mb:=e.filterMap λb=>(h.get? b).map λo=>(b,o)
theorem lM(f:b∈g)(e:h.get? b=some o):(b,o)∈uZ g h:=List.mem_filterMap.mpr ⟨b,f,by rw[e];rfl⟩
theorem FX(f:p∈uZ g h):p.1∈g/\h.get? p.1=some p.2:=by
 obtain⟨b,m,e⟩:=List.mem_filterMap.mp f;cases q:h.get? b with
 |none=>rw[q]at e;cases e
 |some o=>
  rw[q]at e;have n:(b,o)=p:=Option.some.inj e;subst n;exact⟨m,q⟩
theorem Inv.pinned(I:Inv X f q H s)(r:∀b∈g,rG X f H b)(t:∀b∈g,∃o,s.heap.get? b=some o/\∀v,o.data ≠ .cell v):Inv X (f++uZ g s.heap) q H s:=
 I.pins_of λp u=>(mem_append.mp u).elim (λz=>I.pin p (mem_append_right _ z)) λz=>by
  obtain⟨m,e⟩:=FX z;obtain⟨x,y,B,_⟩:=r p.1 m;obtain⟨o,n,d⟩:=t p.1 m;rw[e]at n;cases n;exact⟨e,x,y,B,d⟩
theorem Inv.unpinned(I:Inv X (b++g) e H s):Inv X b e H s:=I.pins_of λp f=>I.pin p (mem_append_right _ (mem_append_left _ f))
theorem eQ{iter:Expr}{Q:List Stmt}{wi:TI}{g:TG}{tb:TS}{ac:Pos}(V:PassesOwn (model X.prog X.w) X.A X.env X.xe)(hc:X.calm=true)(hi:PI X tg iter wi)(hg:PG X tg g)(y:PSs X Q tb)
  (hs:∀x,foldedSetIterable iter X.env x=pure x:=by intro _;rfl):PS X (.For tg iter Q [] ac) (K8 wi g tb):=by
 intro p s σ H D I h;refine wpAny_For (thn (hi p s σ H _ I h) λv s1 h1=>thn h1 λal s2 h2=>?_) hs;obtain⟨it,Y,tn,J,H2,e,I2,T,ad,f2,W,⟨m0,w0⟩,turn⟩:=h2;subst e
 -- aj ae true of af R Z through af ak
 have z:∀{O:Hp},(∀b∈Y,O b=none)->∀b∈Y,rG X p O b:=λhn b y=>⟨hn b y,(f2 b y).2⟩;refine codeAny_forLoop_any (λn s'=>∃i B O,Inv X p B O s'/\tn i s'.heap/\(∀b∈Y,O b=none)/\W i n B O) ?_ m0 ⟨0,σ,H2,I2,ad,λb y=>(f2 b y).1,w0⟩;rintro n s3 ⟨i,E,H3,I3,aa,ab,w3⟩;rcases turn i n E H3 w3 with ⟨stop,qn⟩ | ⟨go,N,hN,step⟩
 ·refine wpAny_passesOwn V (thn (T.done X rfl rfl rfl hc i p s3 E H3 X.xe I3 (z ab) aa stop) λr s4 t=>?_);obtain⟨hr,I4⟩:=t;subst hr;exact wpAny_execs_nil ⟨E,H3,I4,qn⟩
 ·refine wpAny_passesOwn V (thn (T.item X rfl rfl rfl hc i p s3 E H3 X.xe I3 (z ab) aa go) λr s4 t=>?_);obtain⟨u,hr,h4⟩:=t;subst hr;refine wpAny_passesOwn V (thn h4 λ_ s5 t=>?_);obtain⟨x,H5,I5,r5,y5,U,ag⟩:=t;have ah:=I5.pinned (z ag) (T.obj _ _ U);refine wpAny_passesOwn V (thn (hg _ s5 E H5 x u _ ah r5 (step x H5 y5)) λ_ s6 t=>?_);obtain⟨ai,H6,I6,q6⟩:=t;refine wpAny_passesOwn V (thn (y _ s6 ai H6 _ I6 q6) λf s7 S=>?_);have again:∀{q:St}{G:Hp},Inv X (p++uZ Y s5.heap) q G s7->N q G->∃m,m<n/\∃i B O,Inv X p B O s7/\tn i s7.heap/\(∀b∈Y,O b=none)/\W i m B O:=λ{q G} L n7=>by
   obtain⟨m',hm,w7⟩:=hN q G n7;refine⟨m',hm,i+1,q,G,L.unpinned,T.keep _ _ _ U λb y o e=>(L.pin (b,o) (mem_append_right _ (mem_append_right _ (lM y e)))).1,λb y=>?_,w7⟩;obtain⟨o,e,d⟩:=T.obj _ _ U b y;exact(L.pin (b,o) (mem_append_right _ (mem_append_right _ (lM y e)))).2.1
  cases f with
  |next=>obtain⟨q,G,L,n7⟩:=S;exact again L n7
  |cont=>obtain⟨q,G,L,n7⟩:=S;exact again L n7
  |brk=>obtain⟨q,G,L,S⟩:=S;exact⟨q,G,L.unpinned,S⟩
  |ret v=>obtain⟨x7,q,G,L,r7,S⟩:=S;exact⟨x7,q,G,L.unpinned,r7,S⟩
end
abbrev R2:=V->V->Hp->VK->Prop
def OpR(X:Cx)(f:Value->Value->Sem Value)(r:R2):Prop:=
 ∀b s e H(x y:V)(v u:Value)(Q:VK),Inv X b e H s->cC x v->cC y u->r x y H Q->
  wpAny (model X.prog X.w) X.A (f v u) (EP X b e Q) X.xe s
def UnR(X:Cx)(f:Value->Sem Value)(r:V->Hp->VK->Prop):Prop:=
 ∀b s e H(x:V)(v:Value)(Q:VK),Inv X b e H s->cC x v->r x H Q->
  wpAny (model X.prog X.w) X.A (f v) (EP X b e Q) X.xe s
def gP(X:Cx)(f:Value)(r:Mp->Hp->VK->Prop):Prop:=
 ∀b s e H(g:Mp)(m:Mh)(Q:VK),Inv X b e H s->cE g m->r g H Q->
  wpAny (model X.prog X.w) X.A (call f m) (EP X b e Q) X.xe s
def TruR(X:Cx)(r:V->Hp->(Bool->Hp->Prop)->Prop):Prop:=
 ∀b s e H(x:V)(v:Value)(Q:Bool->Hp->Prop),Inv X b e H s->cC x v->r x H Q->
  wpAny (model X.prog X.w) X.A (truthy v) (TP X b e Q) X.xe s
abbrev tOp_2(r:R2)(Q:VK)(x:V):V->Hp->Prop:=λy H2=>r x y H2 Q
abbrev KO(r:R2)(b:TE)(e : St)(Q:VK):V->Hp->Prop:=λx f=>b e f (tOp_2 r Q x)
def tOp(r:R2)(e f:TE):TE:=λb H Q=>e b H (KO r f b Q)
abbrev tUn_1(r:V->Hp->VK->Prop)(Q:VK):V->Hp->Prop:=λx b=>r x b Q
def tUn(r:V->Hp->VK->Prop)(b:TE):TE:=λe H Q=>b e H (tUn_1 r Q)
inductive rI(C:Int->Int->Prop)(g:Int->Int->V)(x:V)(y:V)(H:Hp)(Q:VK):Prop
 |mk:∀i j,x = .int i->y = .int j->C i j->Q (g i j) H->rI C g x y H Q
inductive rI0(g:Int->Int->V)(x:V)(y:V)(H:Hp)(Q:VK):Prop
 |mk:∀i j,x = .int i->y = .int j->Q (g i j) H->rI0 g x y H Q
inductive rU(g:Int->V)(x:V)(H:Hp)(Q:VK):Prop
 |mk:∀i,x = .int i->Q (g i) H->rU g x H Q
section
variable{X:Cx}{a b c:Expr}{ta tb tc:TE}{pos:Pos}
theorem MQ(q:PE X a ta)(r:PE X b tb){e:Mb}{s:Shared}{m : St}{H:Hp}{R:V->V->Hp->Prop}(I:Inv X e m H s)
  (h:ta m H λx p=>tb m p λy H2=>R x y H2) {Q:Mm} {f:Value->Value->Sem Value}
  (t:∀v u s2 x y H2,Inv X e m H2 s2->cC x v->cC y u->R x y H2->wpAny (model X.prog X.w) X.A (f v u) Q X.xe s2) :
  wpAny (model X.prog X.w) X.A (eval a X.env) (λv n=>wpAny (model X.prog X.w) X.A (eval b X.env) (λu o=>wpAny (model X.prog X.w) X.A (f v u) Q X.xe o) X.xe n) X.xe s:=by
 refine thn (q e s m H _ I h) λv z g=>?_;obtain⟨x,p,B,D,E⟩:=g;refine thn (r e z m p _ B E) λu s2 g=>?_;obtain⟨y,H2,G,J,L⟩:=g;exact t v u s2 x y H2 G D J L
theorem bC{f:Operator}{r:R2}(g:OpR X (binaryOp f) r)(m:PE X a ta)(n:PE X b tb):PE X (.BinOp a f b pos) (tOp r ta tb):=by
 intro e s o H Q I h;exact wpAny_BinOp (MQ m n I h λv u s2 x y H2 p t z q=>g e s2 o H2 x y v u Q p t z q)
theorem u5(g:UnR X (unaryOp m) r)(n:PE X a ta):PE X (.UnaryOp m a pos) (tUn r ta):=by
 intro e s f H Q I h;exact UnaryOp_ (thn (n e s f H _ I h) λv o ⟨x,p,q,t,u⟩=>g e o f p x v Q q t u)
theorem opI{f:Value->Value->Sem Value}{C:Int->Int->Prop}{g:Int->Int->Int}
  (rule:∀(i j:Int)(t u:Tok)(s:Shared)(Q:Mm)(E:Mm),C i j->Q (.int (g i j) s.toks) {s with toks:=s.toks+1}->wpAny (model X.prog X.w) X.A (f (.int i t) (.int j u)) Q E s) :
  OpR X f (rI C λi j=>.int (g i j)):=by
 intro m s z H x y v u Q I n o h;obtain⟨i,j,rfl,rfl,p,q⟩:=h;obtain⟨t,rfl⟩:=n;obtain⟨r,rfl⟩:=o;exact rule i j t r s _ _ p ⟨.int (g i j),H,I.tok _,⟨_,rfl⟩,q⟩
theorem opI0{f:Value->Value->Sem Value}{g:Int->Int->Int}
  (rule:∀(i j:Int)(t u:Tok)(s:Shared)(Q:Mm)(E:Mm),Q (.int (g i j) s.toks) {s with toks:=s.toks+1}->wpAny (model X.prog X.w) X.A (f (.int i t) (.int j u)) Q E s) :
  OpR X f (rI0 λi j=>.int (g i j)):=by
 intro m s r H x y v u Q I n o h;obtain⟨i,j,rfl,rfl,q⟩:=h;obtain⟨t,rfl⟩:=n;obtain⟨p,rfl⟩:=o;exact rule i j t p s _ _ ⟨.int (g i j),H,I.tok _,⟨_,rfl⟩,q⟩
theorem Jh{f:Value->Value->Sem Value}{g:Int->Int->Bool}
  (rule:∀(i j:Int)(t u:Tok)(s:Shared)(Q:Mm)(E:Mm),Q (.bool (g i j)) s->wpAny (model X.prog X.w) X.A (f (.int i t) (.int j u)) Q E s) :
  OpR X f (rI0 λi j=>.bl (g i j)):=by
 intro e s p H x y v u Q I m n h;obtain⟨i,j,rfl,rfl,q⟩:=h;obtain⟨t,rfl⟩:=m;obtain⟨o,rfl⟩:=n;exact rule i j t o s _ _ ⟨.bl (g i j),H,I,rfl,q⟩
def CDiv(i j:Int):Prop:=0<j/\j<1073741824
def CPow(i j:Int):Prop:=0<=j/\j<=1000000/\i.natAbs<2 ^ 64
def MV(i j:Int):Prop:=(-(2 ^ 64)<i/\i<2 ^ 64)\/(-(2 ^ 64)<j/\j<2 ^ 64)
theorem MV.ok(h:MV i j):IntMulOk i j:=by
 rcases h with ⟨e,f⟩ | ⟨e,f⟩
 ·exact .of_left (intBits_le_64 e f)
 ·exact .of_right (intBits_le_64 e f)
theorem cT:OpR X (binaryOp .Add) (rI0 λi j=>.int (i+j)):=opI0 λ_ _ _ _ _ _ _ q=>add_int q
theorem lK:OpR X (binaryOp .Sub) (rI0 λi j=>.int (i-j)):=opI0 λ_ _ _ _ _ _ _ q=>sub_int q
theorem qU:OpR X (binaryOp .Mult) (rI MV λi j=>.int (i*j)):=opI λ_ _ _ _ _ _ _ e q=>mul_int q e.ok
theorem nC:OpR X (binaryOp .FloorDiv) (rI CDiv λi j=>.int (i / j)):=opI λi j _ _ _ _ _ e q=>by
 have f:(0:Int)<j:=e.1;have g:j<1073741824:=e.2;exact floordiv_int (by omega) (by rw[Int.fdiv_eq_ediv_of_nonneg i (by omega)];exact q) (.inl (PyProof.noPylong_small (by omega)))
theorem dL:OpR X (binaryOp .Mod) (rI (λ_ j=>0<j) λi j=>.int (i % j)):=opI λi j _ _ _ _ _ e q=>by
 have f:(0:Int)<j:=e;exact mod_int' (by omega) (by rw[Int.fmod_eq_emod_of_nonneg i (by omega)];exact q)
theorem HR:OpR X (binaryOp .Pow) (rI CPow λi j=>.int (i ^ j.toNat)):=opI λ_ _ _ _ _ _ _ e q=>pow_int_small e.1 e.2.1 e.2.2 q
theorem unI{f:Value->Sem Value}{g:Int->Int}
  (rule:∀(i:Int)(t:Tok)(s:Shared)(Q:Mm)(E:Mm),Q (.int (g i) s.toks) {s with toks:=s.toks+1}->wpAny (model X.prog X.w) X.A (f (.int i t)) Q E s) :
  UnR X f (rU λi=>.int (g i)):=by
 intro m s o H x v Q I n h;obtain⟨i,rfl,q⟩:=h;obtain⟨t,rfl⟩:=n;exact rule i t s _ _ ⟨.int (g i),H,I.tok _,⟨_,rfl⟩,q⟩
theorem nW:UnR X (unaryOp .USub) (rU λi=>.int (-i)):=unI λ_ _ _ _ _ q=>neg_int q
end
def scal:V->V->Bool
 | .non,.non=>true | .non,.int _=>true | .int _,.non=>true | .non,.bl _=>true | .bl _,.non=>true | .non,.str _=>true | .str _,.non=>true
 | .int _,.int _=>true | .bl _,.bl _=>true | .str _,.str _=>true | .byt _,.byt _=>true
 | .int _,.str _=>true | .str _,.int _=>true | .bl _,.str _=>true | .str _,.bl _=>true
 |_,_=>false
def rEq:R2:=λx y H Q=>scal x y=true/\Q (.bl (decide (x=y))) H
def rNe:R2:=λx y H Q=>scal x y=true/\Q (.bl (!decide (x=y))) H
theorem Eg:decide (V.int i=V.int j)=(i == j):=by
 rw[Bool.eq_iff_iff];simp
theorem IW:decide (V.bl i=V.bl j)=(i == j):=by
 rw[Bool.eq_iff_iff];simp
theorem Ef:decide (V.str i=V.str j)=(i == j):=by
 rw[Bool.eq_iff_iff];simp
theorem Eh:decide (V.byt i=V.byt j)=(i.toList == j.toList):=by
 rw[Bool.eq_iff_iff];cases i;cases j;simp
section
variable{X:Cx}{a b c:Expr}{ta tb tc:TE}{pos:Pos}
theorem bW(I:Inv X f g H s)(q:Q (.bl k) H)(e:k=m):EP X f g Q (.bool m) s:=by
 subst e;exact⟨.bl k,H,I,rfl,q⟩
theorem fP:OpR X (compareOp .Eq) rEq:=by
 intro n s o H x y v u Q I m e h;obtain⟨g,q⟩:=h;cases x with
 |non=>
  cases m;cases y with
  |non=>cases e;exact PySem.EqNone.eq_none_none (bW I q (by simp))
  |bl j=>cases e;exact PySem.EqNone.eq_none_bool (bW I q (by simp))
  |int j=>obtain⟨f,rfl⟩:=e;exact PySem.EqNone.eq_none_int (bW I q (by simp))
  |str j=>obtain⟨f,rfl⟩:=e;exact PySem.EqNone.eq_none_str (bW I q (by simp))
  |_=>exact absurd (show false=true from g) Bool.false_ne_true
 |bl i=>
  cases m;cases y with
  |non=>cases e;exact PySem.EqNone.eq_bool_none (bW I q (by simp))
  |bl j=>cases e;exact eq_bool (bW I q IW)
  |str j=>obtain⟨f,rfl⟩:=e;exact PySem.EqMixed.eq_bool_str (bW I q (by simp))
  |_=>exact absurd (show false=true from g) Bool.false_ne_true
 |int i=>
  obtain⟨t,rfl⟩:=m;cases y with
  |non=>cases e;exact PySem.EqNone.eq_int_none (bW I q (by simp))
  |int j=>obtain⟨f,rfl⟩:=e;exact eq_int (bW I q Eg)
  |str j=>obtain⟨f,rfl⟩:=e;exact PySem.EqMixed.eq_int_str (bW I q (by simp))
  |_=>exact absurd (show false=true from g) Bool.false_ne_true
 |str i=>
  obtain⟨t,rfl⟩:=m;cases y with
  |non=>cases e;exact PySem.EqNone.eq_str_none (bW I q (by simp))
  |bl j=>cases e;exact PySem.EqMixed.eq_str_bool (bW I q (by simp))
  |int j=>obtain⟨f,rfl⟩:=e;exact PySem.EqMixed.eq_str_int (bW I q (by simp))
  |str j=>obtain⟨f,rfl⟩:=e;exact eq_str (bW I q Ef)
  |_=>exact absurd (show false=true from g) Bool.false_ne_true
 |byt i=>
  obtain⟨t,rfl⟩:=m;cases y with
  |byt j=>obtain⟨f,rfl⟩:=e;exact PySem.W.eq_bytes (bW I q Eh)
  |_=>exact absurd (show false=true from g) Bool.false_ne_true
 |_=>cases y <;> exact absurd (show false=true from g) Bool.false_ne_true
theorem BR:OpR X (compareOp .NotEq) rNe:=by
 intro n s o H x y v u Q I m e h;obtain⟨g,q⟩:=h;cases x with
 |non=>
  cases m;cases y with
  |non=>cases e;exact PySem.EqNone.ne_none_none (bW I q (by simp))
  |bl j=>cases e;exact PySem.EqNone.ne_none_bool (bW I q (by simp))
  |int j=>obtain⟨f,rfl⟩:=e;exact PySem.EqNone.ne_none_int (bW I q (by simp))
  |str j=>obtain⟨f,rfl⟩:=e;exact PySem.EqNone.ne_none_str (bW I q (by simp))
  |_=>exact absurd (show false=true from g) Bool.false_ne_true
 |bl i=>
  cases m;cases y with
  |non=>cases e;exact PySem.EqNone.ne_bool_none (bW I q (by simp))
  |bl j=>cases e;exact ne_bool (bW I q (congrArg not IW))
  |str j=>obtain⟨f,rfl⟩:=e;exact PySem.EqMixed.ne_bool_str (bW I q (by simp))
  |_=>exact absurd (show false=true from g) Bool.false_ne_true
 |int i=>
  obtain⟨t,rfl⟩:=m;cases y with
  |non=>cases e;exact PySem.EqNone.ne_int_none (bW I q (by simp))
  |int j=>obtain⟨f,rfl⟩:=e;exact ne_int (bW I q (congrArg not Eg))
  |str j=>obtain⟨f,rfl⟩:=e;exact PySem.EqMixed.ne_int_str (bW I q (by simp))
  |_=>exact absurd (show false=true from g) Bool.false_ne_true
 |str i=>
  obtain⟨t,rfl⟩:=m;cases y with
  |non=>cases e;exact PySem.EqNone.ne_str_none (bW I q (by simp))
  |bl j=>cases e;exact PySem.EqMixed.ne_str_bool (bW I q (by simp))
  |int j=>obtain⟨f,rfl⟩:=e;exact PySem.EqMixed.ne_str_int (bW I q (by simp))
  |str j=>obtain⟨f,rfl⟩:=e;exact ne_str (bW I q (congrArg not Ef))
  |_=>exact absurd (show false=true from g) Bool.false_ne_true
 |byt i=>
  obtain⟨t,rfl⟩:=m;cases y with
  |byt j=>obtain⟨f,rfl⟩:=e;exact PySem.W.ne_bytes (bW I q (congrArg not Eh))
  |_=>exact absurd (show false=true from g) Bool.false_ne_true
 |_=>cases y <;> exact absurd (show false=true from g) Bool.false_ne_true
theorem vA:OpR X (compareOp .Lt) (rI0 λi j=>.bl (decide (i<j))):=Jh λ_ _ _ _ _ _ _ q=>lt_int q
theorem kM:OpR X (compareOp .LtE) (rI0 λi j=>.bl (decide (i<=j))):=Jh λ_ _ _ _ _ _ _ q=>le_int q
theorem pF:OpR X (compareOp .Gt) (rI0 λi j=>.bl (decide (j<i))):=Jh λ_ _ _ _ _ _ _ q=>gt_int q
theorem HU:OpR X (compareOp .GtE) (rI0 λi j=>.bl (decide (j<=i))):=Jh λ_ _ _ _ _ _ _ q=>ge_int q
theorem FE:OpR X (compareOp .In) (λx y H Q=>∃i j,x = .str i/\y = .str j/\Q (.bl (!(Builtin.Str.occurrences j i 0 j.length 1).isEmpty)) H):=by
 intro e s m H x y v u Q I f g h;obtain⟨i,j,rfl,rfl,q⟩:=h;obtain⟨t,rfl⟩:=f;obtain⟨n,rfl⟩:=g;exact in_str (bW I q rfl)
theorem zU:OpR X (compareOp .IsNot) (λx y H Q=>y = .non/\Q (.bl (!decide (x = .non))) H):=by
 intro e s m H x y v u Q I f g h;obtain⟨rfl,q⟩:=h;cases g;refine isnot_none_gen (bW I q ?_);cases x <;> first
  | (cases f;rfl)
  | (obtain⟨t,rfl⟩:=f;rfl)
theorem bI(b:Expr)(h:e ≠ .In:=by decide)(f:e ≠ .NotIn:=by decide):behindInMarks e b=false:=by
 have g:(e == CmpOp.In)=false:=by cases e <;> first |rfl |exact absurd rfl h
 have m:(e == CmpOp.NotIn)=false:=by cases e <;> first |rfl |exact absurd rfl f
 cases b <;> simp [behindInMarks,g,m]
theorem fU(g:OpR X (compareOp f) r)(m:PE X a ta)(n:PE X b tb)(o:behindInMarks f b=false):PE X (.Compare a [f] [b] pos) (tOp r ta tb):=by
 intro e s p H Q I h;exact wpAny_Compare1 (MQ m n I h λv u s2 x y H2 t z B q=>g e s2 p H2 x y v u Q t z B q) o
inductive CY(Q:(Bool->Hp->Prop))(x:V)(H':Hp):Prop
 |mk:∀k,x = .bl k->Q k H'->CY Q x H'
def Ak(t:TE):TT:=λe H Q=>t e H (CY Q)
theorem aY{g:CmpOp}{r:R2}(n:OpR X (compareOp g) r)(o:PE X a ta)(p:PE X b tb)(q:behindInMarks g b=false):PT X (.Compare a [g] [b] pos) (Ak (tOp r ta tb)):=by
 intro f s m H Q I h;refine wpAny_isTrue_Compare1 (thn (o f s m H _ I h) λv t ⟨x,B,D,E,G⟩=>thn (p f t m B _ D G) λu s2 ⟨y,H2,J,L,N⟩=>
  thn (n f s2 m H2 x y v u _ J E L N) λc V ⟨z,O,R,S,k,e,U⟩=>?_) q
 subst e;cases S;exact wpAny_truthy_bool ⟨O,R,U⟩
inductive Ao(r':R2)(tc:TE)(σ : St)(Q:VK)(y:V)(z:V)(H3:Hp):Prop
 |mk:∀k,z = .bl k->(if k=true then tc σ H3 λw' H4=>r' y w' H4 Q else Q (.bl false) H3)->Ao r' tc σ Q y z H3
abbrev GW(r:R2)(e:R2)(tc:TE)(f : St)(Q:VK)(x:V):V->Hp->Prop:=λy H2=>r x y H2 (Ao e tc f Q y)
abbrev GX(r:R2)(f:R2)(tb:TE)(tc:TE)(e : St)(Q:VK):V->Hp->Prop:=λx g=>tb e g (GW r f tc e Q x)
def GY(r f:R2)(ta tb tc:TE):TE:=λe H Q=>ta e H (GX r f tb tc e Q)
theorem u8(D:OpR X (compareOp o) r)(n:OpR X (compareOp g) E)(G:PE X a ta)(J:PE X b tb)(L:PE X c tc)
  (N:lastMarks [o,g] [b,c]=false:=by with_unfolding_all rfl):PE X (.Compare a [o,g] [b,c] pos) (GY r E ta tb tc):=by
 intro f s m H Q I h;refine Compare_chain (thn (G f s m H _ I h) λv O ⟨x,R,S,U,V⟩=>chain_link (thn (J f O m R _ S V) λu s2 ⟨y,H2,W,p,Y⟩=>
  thn (D f s2 m H2 x y v u _ W U p Y) λd Z ⟨z,q,t,r3,k,e,B⟩=>?_)) N
 subst e;cases r3;refine wpAny_truthy_bool ?_;cases k with
 |false=>exact ite_ff ⟨.bl false,q,t,rfl,B⟩
 |true=>exact ite_tt (chain_last (thn (L f Z m q _ t B) λw' s4 ⟨z',H4,I4,r4,q4⟩=>n f s4 m H4 y z' u w' Q I4 p r4 q4))
theorem BM(E:OpR X (compareOp p) r)(n:OpR X (compareOp g) G)(J:PE X a ta)(L:PE X b tb)(N:PE X c tc)
  (O:lastMarks [p,g] [b,c]=false:=by with_unfolding_all rfl):PT X (.Compare a [p,g] [b,c] pos) (Ak (GY r G ta tb tc)):=by
 intro f s m H Q I h;refine isTrue_chain (thn (J f s m H _ I h) λv R ⟨x,S,U,V,W⟩=>test_link (thn (L f R m S _ U W) λu s2 ⟨y,H2,Y,q,Z⟩=>
  thn (E f s2 m H2 x y v u _ Y V q Z) λd s3 ⟨z,t,B,r3,k,e,D⟩=>?_)) O
 subst e;cases r3;refine wpAny_truthy_bool ?_;cases k with
 |false=>
  obtain⟨k',e',q'⟩:=D;cases e';exact ite_ff ⟨t,B,q'⟩
 |true=>
  refine ite_tt (test_last (thn (N f s3 m t _ B D) λw' s4 ⟨z',H4,I4,r4,q4⟩=>thn (n f s4 m H4 y z' u w' _ I4 q r4 q4) λd' s5 o=>?_));obtain⟨z2,H5,I5,r5,k2,e2,q5⟩:=o;subst e2;cases r5;exact wpAny_truthy_bool ⟨H5,I5,q5⟩
def TruV(K:Ma)(x:V)(H:Hp)(k:Bool):Prop:=
 match x with
 | .non=>k=false
 | .bl b=>k=b
 | .int i=>k=(i != 0)
 | .str y=>y.length<=sizeLine/\k=((y.length:Int) != 0)
 | .byt y=>y.size<=sizeLine/\k=((y.size:Int) != 0)
 | .ref p=>(∃e,SqL K H p e/\k = !e.isEmpty)\/(∃e,SqT K H p e/\k = !e.isEmpty)\/∃f,H p=some (.dK f)/\k = !f.isEmpty
 |_=>False
theorem DK{f : Type}{e:List (f×V)}{g:List (f×Value)}(r:KV e g):(!g.isEmpty) = !e.isEmpty:=by
 cases r <;> rfl
theorem vK(r:cE f e):(!e.toArray.isEmpty) = !f.isEmpty:=by
 cases r <;> simp
theorem vH:(sizeLine:Nat)<2 ^ 63:=by rw[sizeLine_eq];decide
theorem Kw:TruR X (λx H Q=>∃k,TruV X.K x H k/\Q k H):=by
 intro G s N H x v Q I u h;obtain⟨k,e,q⟩:=h;have O:=vH;have R:sizeLine=16777216:=sizeLine_eq;cases x with
 |non=>
  cases u;have f:k=false:=e;subst f;exact truthy_none ⟨H,I,q⟩
 |bl b=>
  cases u;have f:k=b:=e;subst f;exact wpAny_truthy_bool ⟨H,I,q⟩
 |int i=>
  obtain⟨t,rfl⟩:=u;have f:k=(i != 0):=e;subst f;exact PySem.P.truthy_int ⟨H,I,q⟩
 |str y=>
  obtain⟨t,rfl⟩:=u;obtain⟨L,f⟩:y.length<=sizeLine/\k=((y.length:Int) != 0):=e;subst f;exact PySem.P.truthy_str (by omega) ⟨H,I.tok _,q⟩
 |byt y=>
  obtain⟨t,rfl⟩:=u;obtain⟨L,f⟩:y.size<=sizeLine/\k=((y.size:Int) != 0):=e;subst f;exact PySem.W.truthy_bytes (by omega) ⟨H,I.tok _,q⟩
 |ref p=>
  cases u;have f:(∃o,SqL X.K H p o/\k = !o.isEmpty)\/(∃o,SqT X.K H p o/\k = !o.isEmpty)\/∃g,H p=some (.dK g)/\k = !g.isEmpty:=e;rcases f with ⟨o,z,f⟩ | ⟨o,z,f⟩ | ⟨g,z,f⟩
  ·subst f;obtain⟨D,r,E,J⟩:=I.list z;have n:=r.length;exact wpAny_truthy_list E.isList (by simp only[size_toArray];omega) ⟨H,I.tok _,by rw[vK r];exact q⟩
  ·subst f;obtain⟨D,r,E,J⟩:=I.tuple z;have n:=r.length;exact truthy_tuple E (by simp only[size_toArray];omega) ⟨H,I.tok _,by rw[vK r];exact q⟩
  ·subst f;obtain⟨J,hS,B,r,m⟩:g.length<=sizeLine/\(p == sysModules)=false/\∃B,KV g B/\s.heap.DictOf (bF X.prog X.w) p B:=I.hok p _ z;have n:g.length=B.length:=Paired.length r;exact wpAny_truthy_dict hS m (by omega) ⟨H,I.tok _,by rw[DK r];exact q⟩
 |_=>exact(show False from e).elim
theorem wQ(r:cE [x] e):∃u,e=[u]/\cC x u:=by
 cases r with
 |cons f g=>cases g;exact⟨_,rfl,f⟩
theorem GG(r:cE [x,y] f):∃u e,f=[u,e]/\cC x u/\cC y e:=by
 cases r with
 |cons g m=>
  cases m with
  |cons n o=>cases o;exact⟨_,_,rfl,g,n⟩
theorem yT(g:X.calm=true):gP X (.builtin "max") (λe H Q=>∃i j,e=[.int i,.int j]/\Q (.int (if j > i then j else i)) H):=by
 intro f s m H e n Q I r h;obtain⟨i,j,rfl,q⟩:=h;obtain⟨u,o,rfl,⟨t,rfl⟩,⟨p,rfl⟩⟩:=GG r;refine max_two_ints (I.ok.hd g) λx y k=>⟨_,H,I.kept k,?_,q⟩;by_cases hj:j > i
 ·rw[if_pos hj,if_pos hj];exact⟨_,rfl⟩
 ·rw[if_neg hj,if_neg hj];exact⟨_,rfl⟩
theorem F8(g:X.calm=true):gP X (.builtin "min") (λe H Q=>∃i j,e=[.int i,.int j]/\Q (.int (if j<i then j else i)) H):=by
 intro f s m H e n Q I r h;obtain⟨i,j,rfl,q⟩:=h;obtain⟨u,o,rfl,⟨t,rfl⟩,⟨p,rfl⟩⟩:=GG r;refine min_two_ints (I.ok.hd g) λx y k=>⟨_,H,I.kept k,?_,q⟩;by_cases hj:j<i
 ·rw[if_pos hj,if_pos hj];exact⟨_,rfl⟩
 ·rw[if_neg hj,if_neg hj];exact⟨_,rfl⟩
theorem yU:gP X (.type "int") (λe H Q=>(∃i,e=[.int i]/\Q (.int i) H)\/∃k,e=[.bl k]/\Q (.int (if k then 1 else 0)) H):=by
 intro f s m H e n Q I r h;rcases h with ⟨i,rfl,q⟩ | ⟨k,rfl,q⟩
 ·obtain⟨u,rfl,t,rfl⟩:=wQ r;exact call_int_int ⟨.int i,H,I,⟨_,rfl⟩,q⟩
 ·obtain⟨u,rfl,g⟩:=wQ r;cases g;exact call_int_bool ⟨.int (if k then 1 else 0),H,I.tok _,⟨_,rfl⟩,q⟩
end
structure ObjM(h:Heap)(x dx C:Addr)(mA:Mc):Prop where
 obj:h.get? x=some (instObj C dx)
 ns:h.Ns1 dx mA
 ne:dx≠x
theorem Fh{h:Heap}{g:Addr}{m:Mc}(n:h.Ns1 g m):∃p,h.get? g=some p/\∀b,PySem.W.lookIn b p=some (m b):=by
 obtain⟨o,r,G,s,u,x,_,B⟩:=n;refine⟨o,s,λb=>?_⟩;have e:=B b;unfold nsFind findBy at e;rw[<- Array.find?_toList]at e;unfold PySem.W.lookIn;rw[u];dsimp only;split
 ·rename_i y q;rw[q]at e;exact congrArg some e
 ·rename_i q;rw[q]at e;have a:r.toList.any (·.refKey)=false:=by
   rw[List.any_eq_false];intro y D;obtain⟨z,t,f⟩:=x y (Array.mem_toList_iff.mp D);simp [DictEntry.refKey,f]
  have E:¬r.toList.any (·.refKey)=true:=by rw[a];exact Bool.false_ne_true
  rw[if_neg E];exact congrArg some e
theorem ObjM.look(I:ObjM h x f C g):∃e,PySem.W.InstAt h x (instObj C f) C (some e)/\∀b,PySem.W.lookIn b e=some (g b):=
 let ⟨e,m,n⟩:=Fh I.ns
 ⟨e,⟨I.obj,rfl,rfl,m⟩,n⟩
section
variable{prog:Program}{w:World}{A:Around}{E:Mm}{s:Shared}{K:Ma}{x dx C f:Addr}{mA:Mc}{name:Str}{v:Value}
theorem J5(X:K.In s.heap)(I:ObjM s.heap x dx C mA)(m:plainGet K C name=true)(n:hasDictIn K C=true)
  (o:findIn K (.ref C) name=some none) (p:mA name=some v) (b:PySem.W.handedIn v=true) (h:Q v {s with toks:=s.toks+1}) :
  wpAny (model prog w) A (getAttr (.ref x) name g) Q E s:=by
 obtain⟨r,J,q⟩:=I.look;exact PySem.W.get_value X J (plainGet_of m).1 (PySem.W.findObj_own n o rfl (by rw[q,p])) b h
theorem II(X:K.In s.heap)(I:ObjM s.heap x dx C mA)(b:plainGet K C name=true)
  (e:findIn K (.ref C) name=some (some (.ref f))) (g:PySem.W.isFn K (.ref f)=true) (m:mA name=none) (h:Q (.ref f,[.ref x]) s) :
  wpAny (model prog w) A (getMethod (.ref x) name p) Q E s:=by
 obtain⟨n,J,o⟩:=I.look;exact PySem.W.method_fn X J (plainGet_of b).1 (plainGet_of b).2 e (beq_iff_eq.mp g) (by show (PySem.W.lookIn name n).map (·.isSome)=some false;rw[o,m];rfl) h
theorem JK(X:K.In s.heap)(I:ObjM s.heap x dx C mA)
  (z:findIn K (.ref C) "__setattr__" = some (some (.builtin "object.__setattr__"))) (B:PySem.W.plainOver K C=true) (D:PySem.W.takerIn K C name=some none) (G:hasDictIn K C=true)
  (hw:PySem.Within mA H) (L:H.length<=sizeLine)
  (h:∀n,ObjM n x dx C (λy=>if y=name then some v else mA y)->Heap.SameBut dx s.heap n->Q () {s with heap:=n,toks:=s.toks+2}) :
  wpAny (model prog w) A (setAttr (.ref x) name v) Q E s:=by
 obtain⟨U,J,V⟩:=I.look;refine PySem.W.set_plain X J z (PySem.W.osa_open (s:={s with toks:=s.toks+1}) (r:=none) X J B D λb=>?_);obtain⟨W,N,o⟩:=PySem.W.any_some G;have O:s.heap.get? x=some ⟨.ref C,some dx,.plain,#[]⟩:=I.obj;refine wpAny_bind (wpAny_pure (wpAny_bind (wpAny_bind (wpAny_loadPart O (wpAny_bind (PySem.W.Looks.here (s:={s with toks:=s.toks+1}) (PySem.W.looks_clsIn X N) ?_))))));rw[o];refine wpAny_pure (a:=some dx) (wpAny_bind (wpAny_pure (wpAny_bind ?_)));refine wpAny_nsSet1 (s:={s with toks:=s.toks+1}) I.ns λn g m=>?_;obtain⟨Y,R,S,p,q,t⟩:=g.count (PySem.Within.cons name v hw);refine wpAny_bind (wpAny_lookBehind p (by rw[q];exact pastItsLine_dict (le_trans t (by rw[length_cons];omega))) ?_);exact wpAny_pure (h _ ⟨(m.2 _ (Ne.symm I.ne)).trans I.obj,g,I.ne⟩ m)
theorem Hs(X:K.In s.heap)(o:PySem.W.makesIn K C=true)
  (p:findIn K (.ref C) "__init__" = some (some (.ref f))) (q:PySem.W.typeIn K (.ref f)=some (.type "function"))
  (h:codeAny (model prog w) (A.under (.builtin "type.__call__" ⟨.ref C::e,m⟩)) (.call (.ref f) ⟨.ref (s.heap.objs.size+1)::e,m⟩) (PySem.W.InitBack (s.heap.objs.size+1) R)
   {s with heap:=(s.heap.push emptyDict).push (instObj C s.heap.objs.size)}) :
  codeAny (model prog w) A (.call (.ref C) ⟨e,m⟩) R s:=by
 obtain⟨r,g,d,t,os⟩:=s;exact PySem.W.make_core (PySem.W.makes_of X o) (PySem.W.looks_findIn X p) (λb=>PySem.W.bind_fn X b q) (.inl rfl) h
end
def hU(f:Str)(v:V):Mo->Mo
 |[]=>[(f,v)]
 | (g,x)::r=>if g=f then (g,v)::r else (g,x)::hU f v r
theorem rV(f g:Str)(v:V):∀n:Mo,(hU f v n).lookup g=if g=f then some v else n.lookup g
 |[]=>by
  show List.lookup g [(f,v)]=_;by_cases h:g=f
  ·have b:(g == f)=true:=beq_iff_eq.mpr h;simp only[List.lookup,b,if_pos h]
  ·have b:(g == f)=false:=beq_eq_false_iff_ne.mpr h;simp only[List.lookup,b,if_neg h]
 | (k,x)::r=>by
  have o:=rV f g v r;rw[show hU f v ((k,x)::r)=(if k=f then (k,v)::r else (k,x)::hU f v r) from rfl];by_cases m:k=f
  ·rw[if_pos m];by_cases h:g=k
   ·have b:(g == k)=true:=beq_iff_eq.mpr h;simp only[List.lookup,b,if_pos (h.trans m)]
   ·have b:(g == k)=false:=beq_eq_false_iff_ne.mpr h;simp only[List.lookup,b,if_neg (λe:g=f=>h (e.trans m.symm))]
  ·rw[if_neg m];by_cases h:g=k
   ·have b:(g == k)=true:=beq_iff_eq.mpr h;simp only[List.lookup,b,if_neg (λe:g=f=>m (h.symm.trans e))]
   ·have b:(g == k)=false:=beq_eq_false_iff_ne.mpr h;simp only[List.lookup,b];exact o
theorem qZ(f:Str)(v:V):∀b:Mo,f∈(hU f v b).map (·.1)/\∀g,g∈b.map (·.1)->g∈(hU f v b).map (·.1)
 |[]=>⟨by simp [hU],λg h=>by simp at h⟩
 | (k,x)::r=>by
  obtain⟨n,o⟩:=qZ f v r;rw[show hU f v ((k,x)::r)=(if k=f then (k,v)::r else (k,x)::hU f v r) from rfl];by_cases m:k=f
  ·rw[if_pos m];subst m;exact⟨by simp,λg h=>by simpa using h⟩
  ·rw[if_neg m];refine⟨?_,λg h=>?_⟩
   ·rw[map_cons];exact mem_cons_of_mem _ n
   ·rw[map_cons]at h⊢;rcases mem_cons.mp h with e |e
    ·exact mem_cons.mpr (.inl e)
    ·exact mem_cons_of_mem _ (o g e)
theorem rW(f:Str)(v:V):∀b:Mo,(hU f v b).length<=b.length+1
 |[]=>by simp [hU]
 | (k,x)::r=>by
  have g:=rW f v r;rw[show hU f v ((k,x)::r)=(if k=f then (k,v)::r else (k,x)::hU f v r) from rfl];by_cases e:k=f
  ·rw[if_pos e,length_cons,length_cons];omega
  ·rw[if_neg e,length_cons,length_cons];omega
theorem kU.some_of(r:kU (some v) o):∃u,o=some u/\cC v u:=by
 cases o with
 |none=>exact(show False from r).elim
 |some u=>exact⟨u,rfl,r⟩
theorem kU.none_of(r:kU none o):o=none:=by
 cases o with
 |none=>rfl
 |some u=>exact(show False from r).elim
theorem Fw(r:cC v u):PySem.W.handedIn u=true:=by
 cases v with
 |non=>cases (show u=Value.none from r);rfl
 |bl b=>cases (show u=Value.bool b from r);rfl
 |int i=>obtain⟨t,e⟩:=(show ∃t,u=Value.int i t from r);cases e;rfl
 |str x=>obtain⟨t,e⟩:=(show ∃t,u=Value.str x t from r);cases e;rfl
 |byt b=>obtain⟨t,e⟩:=(show ∃t,u=Value.bytes b t from r);cases e;rfl
 |flt b=>obtain⟨t,e⟩:=(show ∃t,u=Value.float b t from r);cases e;rfl
 |ref a=>cases (show u=Value.ref a from r);rfl
 |ty n=>cases (show u=Value.type n from r);rfl
section
variable{P:Program}{w:World}{H H':Hp}{h h':Heap}{a C dx:Addr}{fs fs':Mo}
theorem sZ(g:HOk P w H h)(e:H a=some (.ins C dx fs)):∃b,ObjM h a dx C b/\(∀f,kU (fs.lookup f) (b f))/\PySem.Within b (fs.map (·.1))/\fs.length<=1000/\H dx=some (.own a):=by
 obtain⟨d,z,m,o,b,n,r,q⟩:=(show eC P w H h a (.ins C dx fs) from g a _ e);exact⟨b,⟨o,n,m⟩,r,q,z,d⟩
end
structure Cls(K:Ma)(C:Addr):Prop where
 pg:plainGet K C Str.empty=true
 hd:hasDictIn K C=true
 po:PySem.W.plainOver K C=true
 sa:findIn K (.ref C) "__setattr__" = some (some (.builtin "object.__setattr__"))
theorem Cls.get{K:Ma}{C:Addr}(c:Cls K C)(f:Str):plainGet K C f=true:=c.pg
def dG(K:Ma)(C:Addr)(f:Str):Prop:=findIn K (.ref C) f=some none
theorem dG.taker{K:Ma}{C:Addr}{f:Str}(n:dG K C f):PySem.W.takerIn K C f=some none:=by
 unfold PySem.W.takerIn;rw[show findIn K (.ref C) f=some none from n];rfl
structure Meth(K:Ma)(C:Addr)(m:Str)(f:Addr):Prop where
 at_:findIn K (.ref C) m=some (some (.ref f))
 fn:PySem.W.isFn K (.ref f)=true
 kp:keepIn K (.ref f)=true
section
variable{X:Cx}{pins:Mb}{σ : St}{H:Hp}{s:Shared}{a C dx:Addr}{fs:Mo}{f:Str}{v:V}{A:Around}{E:Mm}
theorem vM(I:Inv X pins σ H s)(e:H a=some (.ins C dx fs))(c:Cls X.K C)(n:dG X.K C f)(l:fs.lookup f=some v)
  (h:∀u g,Inv X pins σ H g->cC v u->Q u g):wpAny (model X.prog X.w) A (getAttr (.ref a) f b) Q E s:=by
 obtain⟨p,O,r,_,_,_⟩:=sZ I.hok e;obtain⟨u,q,m⟩:=kU.some_of (v:=v) (o:=p f) (by rw[<- l];exact r f);exact J5 I.kIn O (c.get f) c.hd n q (Fw m) (h u _ (I.tok _) m)
theorem oH(I:Inv X pins σ H s)(e:H a=some (.ins C dx fs))(c:Cls X.K C)(k:Meth X.K C m g)(l:fs.lookup m=none)
  (h:Q (.ref g,[.ref a]) s):wpAny (model X.prog X.w) A (getMethod (.ref a) m o) Q E s:=by
 obtain⟨b,O,r,_,_,_⟩:=sZ I.hok e;have n:b m=none:=kU.none_of (by rw[<- l];exact r m);exact II I.kIn O (c.get m) k.at_ k.fn n h
theorem uL(I:Inv X pins σ H s)(e:H a=some (.ins C dx fs))(c:Cls X.K C)(n:dG X.K C f)(W:fs.length<1000)(G:cC y u)
  (h:∀p,Inv X pins σ (upd H a (.ins C dx (hU f y fs))) p->Q () p):wpAny (model X.prog X.w) A (setAttr (.ref a) f u) Q E s:=by
 obtain⟨t,O,r,B,_,D⟩:=sZ I.hok e;have J:(fs.map (·.1)).length<=sizeLine:=by rw[length_map,sizeLine_eq];omega
 refine JK I.kIn O c.sa c.po n.taker c.hd B J λL m N=>h _ ?_;have R:∃o,L.get? dx=some o:=let ⟨o,_,_,S,_⟩:=m.ns;⟨o,S⟩;refine I.write (x:=a) (e:=dx) (by rw[e];exact True.intro) (.inr D) (λb q U z=>(N.2 b U).trans z) R ?_;refine⟨by rw[aH O.ne];exact D,?_,O.ne,m.obj,_,m.ns,λg=>?_,λg V=>?_⟩
 ·have:=rW f y fs;omega
 ·show kU ((hU f y fs).lookup g) (if g=f then some u else t g);rw[rV];by_cases q:g=f
  ·rw[if_pos q,if_pos q];exact G
  ·rw[if_neg q,if_neg q];exact r g
 ·by_cases q:g=f
  ·rw[q];exact(qZ f y fs).1
  ·refine(qZ f y fs).2 g (B g λz=>V ?_);show (if g=f then some u else t g)=none;rw[if_neg q];exact z
theorem Inv.made(I:Inv X pins σ H s):Inv X pins σ (upd (upd H s.heap.objs.size (.own (s.heap.objs.size+1))) (s.heap.objs.size+1) (.ins C s.heap.objs.size []))
  {s with heap:=(s.heap.push emptyDict).push (instObj C s.heap.objs.size)}:=by
 have m:(s.heap.push emptyDict).get? s.heap.objs.size=some emptyDict:=get?_push_size s.heap rfl;have p:((s.heap.push emptyDict).push (instObj C s.heap.objs.size)).get? (s.heap.objs.size+1)=some (instObj C s.heap.objs.size):=by
  have:=get?_push_size (s.heap.push emptyDict) (o:=instObj C s.heap.objs.size) rfl
  rwa [size_push]at this
 have r:(s.heap.push emptyDict).Ns s.heap.objs.size (λ_=>none):=⟨emptyDict,#[],_,m,rfl,(λe t=>absurd t (by simp)),λ_=>rfl⟩;have x:=I.laid (a:=s.heap.objs.size) (o:=.own (s.heap.objs.size+1)) (h':=s.heap.push emptyDict) (t':=s.toks) (λb u q=>get?_push_of_some _ q) (le_refl _) ⟨_,m⟩;refine x.laid (a:=s.heap.objs.size+1) (o:=.ins C s.heap.objs.size []) (t':=s.toks) (λb u q=>get?_push_of_some _ q) (Nat.le_of_eq (size_push _ _)) ?_;have n:s.heap.objs.size≠s.heap.objs.size+1:=ne_of_lt (lt_succ_self _);refine⟨by rw[aH n,aB],zero_le _,n,p,λ_=>none,(Heap.Ns1.of_empty r).at λo q=>get?_push_of_some _ q,λ_=>True.intro,λy B=>absurd rfl B⟩
theorem KG(n:attributeBase e f b (eval e b)=eval e b)
  (h:wpAny (model g w) A (eval e b) (λo m=>wpAny (model g w) A (getAttr o f true) Q E m) E s):wpAny (model g w) A (eval (.Attribute e f p) b) Q E s:=
 Attribute_any_ h (by rw[arm_eval_Attribute,n])
end
inductive KR(K:Ma)(f:Str)(Q:VK)(x:V)(H1:Hp):Prop
 |mk:∀a C dx fs v,x = .ref a->H1 a=some (.ins C dx fs)->Cls K C->dG K C f->fs.lookup f=some v->Q v H1->KR K f Q x H1
def tFld(K:Ma)(b:TE)(f:Str):TE:=λe H Q=>b e H (KR K f Q)
inductive Gy(K:Ma)(f:Str)(D:Ends)(σ : St)(y:V)(x:V)(H2:Hp):Prop
 |mk:∀a C dx fs,x = .ref a->H2 a=some (.ins C dx fs)->Cls K C->dG K C f->fs.length<1000->D.nx σ (upd H2 a (.ins C dx (hU f y fs)))->Gy K f D σ y x H2
abbrev LK(K:Ma)(e:TE)(f:Str)(D:Ends)(b : St):V->Hp->Prop:=λy g=>e b g (Gy K f D b y)
def sFld(K:Ma)(e g:TE)(f:Str):TS:=λD b H=>g b H (LK K e f D b)
def KJ(X:Cx)(f:Operator)(g:V->V->Hp->VK->Prop):Prop:=
 ∀b s e H(x y:V)(u v:Value)(Q:VK),Inv X b e H s->cC x u->cC y v->g x y H Q->wpAny (model X.prog X.w) X.A (inplaceOp f u v) (EP X b e Q) X.xe s
inductive xQ(f:Str)(D:Ends)(σ : St)(a:Addr)(C:Addr)(z:V)(H3:Hp):Prop
 |mk:∀dx' fs',H3 a=some (.ins C dx' fs')->fs'.length<1000->D.nx σ (upd H3 a (.ins C dx' (hU f z fs')))->xQ f D σ a C z H3
abbrev E4(b:V->V->Hp->VK->Prop)(f:Str)(D:Ends)(e : St)(a:Addr)(C:Addr)(v:V):V->Hp->Prop:=λy H2=>b v y H2 (xQ f D e a C)
inductive A9(K:Ma)(tv:TE)(rd:V->V->Hp->VK->Prop)(f:Str)(D:Ends)(σ : St)(x:V)(H1:Hp):Prop
 |mk:∀a C dx fs v,x = .ref a->H1 a=some (.ins C dx fs)->Cls K C->dG K C f->fs.lookup f=some v->tv σ H1 (E4 rd f D σ a C v)->A9 K tv rd f D σ x H1
def JM(K:Ma)(e g:TE)(m:V->V->Hp->VK->Prop)(f:Str):TS:=λD b H=>e b H (A9 K g m f D b)
section
variable{X:Cx}{o e value:Expr}{f:Str}{pos pos' tpos:Pos}{ta tv:TE}
theorem qT(m:PE X e ta)(p:attributeBase e f X.env (eval e X.env)=eval e X.env):PE X (.Attribute e f pos) (tFld X.K ta f):=by
 intro b s r H Q I h;refine KG p (thn (m b s r H _ I h) λu G g=>?_);obtain⟨x,t,y,z,a,C,J,L,v,ex,B,c,n,l,q⟩:=g;subst ex;obtain rfl:u=Value.ref a:=z;exact vM y B c n l λN s2 D E=>⟨v,t,D,E,q⟩
theorem dS(p:PE X o ta)(r:PE X value tv)(t:swapsWith value (some (.Attribute o f pos')) pos.line X.env=pure false):PS X (.Assign [.Attribute o f pos'] value pos) (sFld X.K ta tv f):=by
 intro b s g H D I h;refine plainObj_wpAny_Assign_Attribute (thn (r b s g H _ I h) λu z ⟨y,B,E,G,q⟩=>thn (p b z g B _ E q) λJ s2 m=>?_) t;obtain⟨x,H2,L,N,a,C,S,U,ex,O,c,n,l,Q⟩:=m;subst ex;obtain rfl:J=Value.ref a:=N;exact uL L O c n l G λV R=>⟨g,_,R,Q⟩
theorem qR(t:PE X o ta)(B:PE X value tv)(p:KJ X E G):PS X (.AugAssign (.Attribute o f tpos) E value pos) (JM X.K ta tv G f):=by
 intro b s m H D I h;refine wpAny_AugAssign_AttributeAny (thn (t b s m H _ I h) λJ s1 g=>?_);obtain⟨x,L,N,O,a,C,dx,fs,v,ex,Q,c,n,l,q⟩:=g;subst ex;obtain rfl:J=Value.ref a:=O;refine vM N Q c n l λu s2 R S=>thn (B b s2 m L _ R q) λU V ⟨y,H2,W,Y,Z⟩=>thn (p b V m H2 v y u U _ W S Y Z) λw4 s4 g=>?_;obtain⟨z,H3,I4,rz,aa,ab,r,l',q4⟩:=g;exact uL I4 r c n l' rz λs5 I5=>⟨m,_,I5,q4⟩
inductive LS(x:V)(y:V)(H:Hp)(Q:VK):Prop
 |mk:∀i j,x = .int i->y = .int j->Q (.int (i+j)) H->LS x y H Q
inductive rSub(x:V)(y:V)(H:Hp)(Q:VK):Prop
 |mk:∀i j,x = .int i->y = .int j->Q (.int (i-j)) H->rSub x y H Q
theorem vL:KJ X .Add LS:=by
 rintro b s p H x y u v Q I m n ⟨i,j,rfl,rfl,q⟩;obtain⟨t,rfl⟩:=(show ∃t,u=Value.int i t from m);obtain⟨g,rfl⟩:=(show ∃g,v=Value.int j g from n);exact PyProof.Rows.iadd_int ⟨.int (i+j),H,I.tok _,⟨_,rfl⟩,q⟩
theorem L8:KJ X .Sub rSub:=by
 rintro b s p H x y u v Q I m n ⟨i,j,rfl,rfl,q⟩;obtain⟨t,rfl⟩:=(show ∃t,u=Value.int i t from m);obtain⟨g,rfl⟩:=(show ∃g,v=Value.int j g from n);exact PyProof.Rows.isub_int ⟨.int (i-j),H,I.tok _,⟨_,rfl⟩,q⟩
end
section
variable{X:Cx}{pins:Mb}{σ : St}{H:Hp}{s:Shared}{A:Around}{E:Mm}{Q:Mm}{c:Value}{b:Bool}
inductive qE(K:Ma)(H:Hp):V->Value->Prop where
 |non:qE K H .non (.type "NoneType")
 |bl (x:Bool):qE K H (.bl x) (.type "bool")
 |int (i:Int):qE K H (.int i) (.type "int")
 |str (x:Str):qE K H (.str x) (.type "str")
 |flt (x:UInt64):qE K H (.flt x) (.type "float")
 |lst {a:Addr} {xs:Mp} (e:H a=some (.lst xs)):qE K H (.ref a) (.type "list")
 |frz {a:Addr} {o:Obj} {xs:Mp} (e:H a=some (.frz o (.lst xs))):qE K H (.ref a) (.type "list")
 |tup {a:Addr} {xs:Mp} (e:H a=some (.tup xs)):qE K H (.ref a) (.type "tuple")
 |dK {a:Addr} {kvs:Mn} (e:H a=some (.dK kvs)):qE K H (.ref a) (.type "dict")
 |dT {a:Addr} {kvs:List (List Key×V)} (e:H a=some (.dT kvs)):qE K H (.ref a) (.type "dict")
 |ins {a C dx:Addr} {fs:Mo} (e:H a=some (.ins C dx fs)) (cl:Cls K C) (ha:findIn K (.ref C) "__class__" = some (some (.builtin "object.__class__")))
   (hn:PySem.W.specialIn K (.builtin "object.__class__") "__get__" = some (some (.builtin "getset_descriptor.__get__"))) (htk:PySem.W.takesIn K (.builtin "object.__class__")=some true)
   (hm:PySem.W.mroIn K C (.type "object")=some true):qE K H (.ref a) (.ref C)
theorem Fo(I:Inv X pins σ H s)(f:cC x u)(ty:qE X.K H x t)(e:PySem.W.kitOne X.K t c=some b)(h:∀R,Q (.bool b) {s with toks:=R}) :
  wpAny (model X.prog X.w) A (call (.builtin "isinstance") [u,c]) Q E s:=by
 cases ty with
 |non=>cases (show u=Value.none from f);exact kia_one PySem.W.kitx_none I.kIn True.intro e (λz=>nomatch z) h
 |bl y=>cases (show u=Value.bool y from f);exact kia_one PySem.W.kitx_bool I.kIn True.intro e (λz=>nomatch z) h
 |int i=>obtain⟨t,q⟩:=(show ∃t,u=Value.int i t from f);cases q;exact kia_one PySem.W.kitx_int I.kIn True.intro e (λz=>nomatch z) h
 |str y=>obtain⟨t,q⟩:=(show ∃t,u=Value.str y t from f);cases q;exact kia_one PySem.W.kitx_str I.kIn True.intro e (λz=>nomatch z) h
 |flt y=>obtain⟨t,q⟩:=(show ∃t,u=Value.float y t from f);cases q;exact kia_one PySem.W.kitx_float I.kIn True.intro e (λz=>nomatch z) h
 | @lst a B g=>
  cases (show u=Value.ref a from f);obtain⟨_,_,n,_,m⟩:=(show eC X.prog X.w H s.heap a (.lst B) from I.hok a _ g);exact kia_one kitx_list I.kIn ⟨_,m,rfl⟩ e (λz=>nomatch z) h
 | @frz a S B g=>
  cases (show u=Value.ref a from f);obtain⟨_,_,_,n,_,m⟩:=(show eC X.prog X.w H s.heap a (.frz S (.lst B)) from I.hok a _ g);exact kia_one kitx_list I.kIn ⟨_,m,rfl⟩ e (λz=>nomatch z) h
 | @tup a B g=>
  cases (show u=Value.ref a from f);obtain⟨_,_,_,p⟩:=(show eC X.prog X.w H s.heap a (.tup B) from I.hok a _ g);obtain⟨o,m,D,_⟩:=p;exact kia_one PySem.W.kitx_tuple I.kIn ⟨o,m,D⟩ e (λz=>nomatch z) h
 | @dK a r g=>
  cases (show u=Value.ref a from f);obtain⟨_,_,vs,_,p⟩:=(show eC X.prog X.w H s.heap a (.dK r) from I.hok a _ g);obtain⟨o,U,V,m,D,_⟩:=p;exact kia_one kitx_dict I.kIn ⟨o,m,D.1⟩ e (λz=>nomatch z) h
 | @dT a r g=>
  cases (show u=Value.ref a from f);obtain⟨_,_,B,_,o,U,V,m,D,_⟩:=(show eC X.prog X.w H s.heap a (.dT r) from I.hok a _ g);exact kia_one kitx_dict I.kIn ⟨o,m,D.1⟩ e (λz=>nomatch z) h
 | @ins a C dx fs g N W Y G Z=>
  cases (show u=Value.ref a from f);obtain⟨mA,O,_⟩:=sZ I.hok g;obtain⟨od,J,_⟩:=O.look;exact kia_one (PySem.W.kitx_own (N.get _) N.hd W Y G Z) I.kIn J e (λz=>nomatch z) h
end
structure Room(k:Nat)(A:Around):Prop where
 hd:A.handled=none
 dp:A.depth+3*k+5<recursionLimit
 un:A.units+16*k+200<cLine
theorem Room.mono(r:Room k A)(h:j<=k):Room j A:=⟨r.hd,by have:=r.dp;omega,by have:=r.un;omega⟩
theorem Room.deeper(r:Room (k+1) A)(b:Env):Room k (A.deeper b):=
 ⟨r.hd,by have:=r.dp;show A.depth+1+3*k+5<_;omega,by have:=r.un;show A.units+3+16*k+200<_;omega⟩
theorem DF{A:Around}{C:Addr}{b:Mh}{e:List (Str×Value)}:(A.under (.builtin "type.__call__" ⟨.ref C::b,e⟩)).depth=A.depth+1:=by
 first |rfl |simp [Around.under,Code.weight,Code.isCreation,Code.isGuard,Code.isCaller,Code.frames,Code.isFrame,guardIds]
theorem DE{A:Around}{C:Addr}{b:Mh}{e:List (Str×Value)}:(A.under (.builtin "type.__call__" ⟨.ref C::b,e⟩)).units=A.units+1:=by
 first |rfl |simp [Around.under,Code.cUnits,Code.frames,Code.isFrame]
theorem Room.make(r:Room (k+1) A)(C:Addr)(b:Mh)(e:List (Str×Value)):Room k (A.under (.builtin "type.__call__" ⟨.ref C::b,e⟩)):=
 ⟨r.hd,by have:=r.dp;rw[DF];omega,by have:=r.un;rw[DE];omega⟩
theorem Room.depth(r:Room k A):A.depth<recursionLimit:=by have:=r.dp;omega
theorem Room.units(r:Room k A):A.units+64<cLine:=by have:=r.un;omega
def kX:TA:=λ_ H Q=>Q [] H
abbrev JC(Q:(Mp->Hp->Prop))(x:V):Mp->Hp->Prop:=λb H2=>Q (x::b) H2
abbrev JD(b:TA)(e : St)(Q:(Mp->Hp->Prop)):V->Hp->Prop:=λx f=>b e f (JC Q x)
def eT(e:TE)(f:TA):TA:=λb H Q=>e b H (JD f b Q)
section
variable{X:Cx}{e:Expr}{es:List Expr}{te:TE}{t:TA}{pos:Pos}
theorem aF:PA X [] kX:=λ_ _ _ _ H Q I h=>Calls.spliced_nil ⟨[],H,I,.nil,h⟩
theorem eR(m:PE X e te)(hr:PA X es t)(n:starEach (e::es) X.env=(false,eval e X.env)::starEach es X.env:=by rfl):PA X (e::es) (eT te t):=by
 intro pos b s g H Q I h;rw[n];show wpAny _ _ (spliced ((false,eval e X.env)::backTo pos (starEach es X.env))) _ _ s;refine Calls.spliced_cons (thn (m b s g H _ I h) λu o f=>?_);obtain⟨x,p,q,r,y⟩:=f;exact thn (hr pos b o g p _ q y) λG s2 ⟨z,H2,B,D,E⟩=>⟨x::z,H2,B,.cons r D,E⟩
abbrev K0(Q:VK):Mp->Hp->Prop:=λb f=>b.length<=sizeLine/\∀p,f p=none->Q (.ref p) (upd f p (.tup b))
def Iy(t:TA):TE:=λb H Q=>t b H (K0 Q)
abbrev K4(Q:VK):Mp->Hp->Prop:=λb f=>b.length<=sizeLine/\∀p,f p=none->Q (.ref p) (upd f p (.lst b))
def K5(t:TA):TE:=λb H Q=>t b H (K4 Q)
theorem bE{o}(h:PA X es t):PE X (.Tuple es o pos) (Iy t):=by
 intro f s p H Q I x;refine wpAny_Tuple_spliced (thn (h pos f s p H _ I x) λy g ⟨B,m,n,r,z,q⟩=>⟨by rw[<- r.length];exact z,?_⟩);have D:m g.heap.objs.size=none:=n.hok.fresh (le_refl _);refine⟨.ref g.heap.objs.size,upd m g.heap.objs.size (.tup B),n.laid (t':=g.toks) (λb u e=>get?_push_of_some _ e) (le_refl _) ?_,rfl,q _ D⟩;exact⟨z,y,r,⟨_,get?_push_size _ rfl,rfl,_,rfl⟩⟩
theorem cD(h:PA X es t):PE X (.List es pos) (K5 t):=by
 intro f s o H Q I p;refine wpAny_List_spliced (thn (h pos f s o H _ I p) λx g ⟨y,m,n,r,z,q⟩=>⟨by rw[<- r.length];exact z,?_⟩);have B:m g.heap.objs.size=none:=n.hok.fresh (le_refl _);refine⟨.ref g.heap.objs.size,upd m g.heap.objs.size (.lst y),n.laid (t':=g.toks) (λb u e=>get?_push_of_some _ e) (le_refl _) ?_,rfl,q _ B⟩;exact⟨z,x,0,r,get?_push_size _ rfl⟩
end
abbrev Sp:=Mp->Hp->VK->XK->Prop
abbrev CXT:=List Env->Hp->Shared->XK->Value->Shared->Prop
structure Env0(P:Program)(w:World)(K:Ma)(mg:Mc)(base:Heap)(A:Around)(outer:List Env)(s:Shared)(H:Hp):Prop where
 frames:A.frames=some outer
 mod:Mod K mg base
 bs:∀b o,base.get? b=some o->s.heap.get? b=some o/\H b=none
 bsz:base.objs.size<=s.heap.objs.size
 funs:s.heap.FunFrames base outer
 frf:∀b∈frs outer,H b=none
 hok:HOk P w H s.heap
 bare:AllBare s.gens
inductive CE(outer:List Env)(P:Program)(w:World)(H:Hp)(s:Shared)(Q:VK)(u:Value)(s':Shared):Prop
 |mk:∀v H',s'.os=s.os->AllBare s'.gens->Un (frs outer) [] H H' s.heap s'.heap->HOk P w H' s'.heap->cC v u->Q v H'->CE outer P w H s Q u s'
def CR(g:CXT)(b:List Env)(P:Program)(w:World)(H:Hp)(s:Shared)(Q:VK)(E:XK)(r:Result)(f:Shared):Prop:=
 match r with
 | .ok (.ret u)=>CE b P w H s Q u f
 | .ok _=>False
 | .error e=>g b H s E e f
structure FnOk(P:Program)(w:World)(K:Ma)(mg:Mc)(base:Heap)(CX:CXT)(k:Nat)(f:Addr)(fd:Ml)(ps:Mg)(sp:Sp):Prop where
 len:∀vs H Q E,sp vs H Q E->vs.length=ps.length
 run:∀(A:Around)(outer:List Env)(s:Shared)(H:Hp)(args:Args)(us:Mh)(vs:Mp)(Q:VK)(E:XK),Room k A->Env0 P w K mg base A outer s H->BindsTo s fd args (ps.zip us)->cE vs us->sp vs H Q E->
  codeAny (model P w) A (.call (.ref f) args) (CR CX outer P w H s Q E) s
theorem Env0.make{P:Program}{w:World}{K:Ma}{mg:Mc}{base:Heap}{A:Around}{b:List Env}{s:Shared}{H:Hp}(e:Env0 P w K mg base A b s H)(C:Addr)(f:Mh)(g:List (Str×Value)) :
  Env0 P w K mg base (A.under (.builtin "type.__call__" ⟨.ref C::f,g⟩)) b s H:=⟨by first |exact e.frames | (simpa [Around.under,Code.envs,Code.isFrame,pushEnvs] using e.frames),e.mod,e.bs,e.bsz,e.funs,e.frf,e.hok,e.bare⟩
section
variable{X:Cx}{pins:Mb}{σ : St}{H:Hp}{s s':Shared}
theorem Inv.env0(I:Inv X pins σ H s):Env0 X.prog X.w X.K X.mg X.base X.A X.stack s H:=
 ⟨I.ok.frames,I.ok.mod,I.bs,le_trans I.ok.bsz I.sz,I.stack,I.stkFree,I.hok,I.bare⟩
theorem Inv.after(I:Inv X pins σ H s)(h:CE X.stack X.prog X.w H s Q u s'):EP X pins σ Q u s':=by
 obtain⟨v,m,os,bare,un,e,r,q⟩:=h;obtain⟨n,g,d,t,f⟩:=s';obtain rfl:f=s.os:=os;exact⟨v,m,I.call (h':=n) (g':=g) (d':=d) (t':=t) (ch:=[]) un e bare (λb z=>absurd z (by simp)),r,q⟩
end
abbrev Dh(e:Sp)(b:Mp)(E:XK)(Q:VK):Mp->Hp->Prop:=λf g=>e (f++b) g Q E
def Dj(e:Sp)(b:Mp)(E:XK)(t:TA):TE:=λf H Q=>t f H (Dh e b E Q)
abbrev zD(e:Sp)(b:Mp)(E:XK)(Q:VK)(x:V):Mp->Hp->Prop:=λf H2=>e (x::(f++b)) H2 Q E
inductive Ca(C:Addr)(m:Str)(sp:Sp)(dvs:Mp)(E:XK)(t:TA)(σ : St)(Q:VK)(x:V)(H1:Hp):Prop
 |mk:∀a dx fs,x = .ref a->H1 a=some (.ins C dx fs)->fs.lookup m=none->t σ H1 (zD sp dvs E Q x)->Ca C m sp dvs E t σ Q x H1
def De(C:Addr)(m:Str)(f:Sp)(b:Mp)(E:XK)(g:TE)(t:TA):TE:=λe H Q=>g e H (Ca C m f b E t e Q)
abbrev zE(C:Addr)(g:Sp)(e:Mp)(E:XK)(Q:VK):Mp->Hp->Prop:=λm f=>∀x b,f x=none->f b=none->b≠x->
 g (.ref x::(m++e)) (upd (upd f b (.own x)) x (.ins C b [])) (λv H2=>v = .non/\Q (.ref x) H2) E
def Df(C:Addr)(e:Sp)(b:Mp)(E:XK)(t:TA):TE:=λf H Q=>t f H (zE C e b E Q)
def jB(K:Ma)(g:Ml)(e:Mg)(f:Mh):Prop:=
 ∀(s:Shared)(b:Mh),K.In s.heap->(b++f).length=e.length->BindsTo s g ⟨b,[]⟩ (e.zip (b++f))
theorem jB.all{K:Ma}{f:Ml}{e:Mg}(h:∀b:Mh,b.length=e.length->bindArgs f ⟨b,[]⟩=pure (e.zip b)):jB K f e []:=λs b _ g=>by
 rw[append_nil]at g⊢;exact .of_eq (h b g)
def fH(g:CXT)(X:Cx)(E:XK):Prop:=∀(b:Mb)(m : St)(H:Hp)(s:Shared)(e:Value)(f:Shared),Inv X b m H s->g X.stack H s E e f->X.xe e f
section
variable{X:Cx}{CX:CXT}{k:Nat}{f C:Addr}{fd:Ml}{ps:Mg}{sp:Sp}{dvs:Mp}{ds:Mh}{E:XK}{x m:Str}{p pos apos:Pos}{e o:Expr}{es:List Expr}{ta:TE}{t:TA}
theorem zO(F:FnOk X.prog X.w X.K X.mg X.base CX k f fd ps sp)(hr:Room k X.A)(y:jB X.K fd ps ds)(z:cE dvs ds)(B:fH CX X E)
  (I:Inv X b n H s) (r:cE vs us) (h:sp (vs++dvs) H Q E):wpAny (model X.prog X.w) X.A (call (.ref f) us) (EP X b n Q) X.xe s:=by
 have q:cE (vs++dvs) (us++ds):=r.append z;have D:(us++ds).length=ps.length:=by rw[<- q.length];exact F.len _ _ _ _ h
 refine wpAny_call (codeAny_mono (F.run X.A X.stack s H ⟨us,[]⟩ (us++ds) (vs++dvs) Q E hr I.env0 (y s us I.kIn D) q h) λr G g=>?_);cases r with
 |error e=>exact B b n H s e G I g
 |ok J=>
  cases J with
  |ret u=>exact I.after g
  |next=>exact False.elim g
  |brk=>exact False.elim g
  |cont=>exact False.elim g
theorem Je(F:FnOk X.prog X.w X.K X.mg X.base CX k f fd ps sp)(hr:Room k X.A)(z:Gl X x)(B:X.mg x=some (.ref f))(D:keepIn X.K (.ref f)=true)(G:jB X.K fd ps ds)(J:cE dvs ds)(L:fH CX X E)
  (N:PA X (e::es) t) (g:(x == ("__debug__" : Str))=false:=by decide) (O:starEach (e::es) X.env=(false,eval e X.env)::starEach es X.env:=by rfl) (n:(backTo pos (starEach es X.env)).any (·.1)=false:=by rfl) :
  PE X (.Call (.Name x p) (e::es) [] pos) (Dj sp dvs E t):=by
 intro b s R H Q I h;refine wpAny_Call_Name_kw (iG I z B ?_ g);refine callWith_K (h₀:=X.base) I.ok.mod.kin D (thn (N pos b s R H _ I h) λS U ⟨V,W,y,r,q⟩=>⟨y.kIn,?_⟩) O n;exact zO F hr G J L y r q
theorem HM(F:FnOk X.prog X.w X.K X.mg X.base CX k f fd ps sp)(hr:Room k X.A)(n:Gl X x)(q:X.mg x=some (.ref f))(r:keepIn X.K (.ref f)=true)(u:jB X.K fd ps ds)(y:cE dvs ds)(z:fH CX X E)
  (b:(x == ("__debug__" : Str))=false:=by decide):PE X (.Call (.Name x p) [] [] pos) (Dj sp dvs E kX):=by
 intro g s B H Q I h;refine wpAny_Call_Name_kw (iG I n q ?_ b);exact callWith_K0 I.kIn r (zO (us:=[]) F hr u y z I .nil h)
theorem Ja(S:PE X o ta)(c:Cls X.K C)(z:Meth X.K C m f)(F:FnOk X.prog X.w X.K X.mg X.base CX k f fd ps sp)(hr:Room k X.A)(U:jB X.K fd ps ds)(V:cE dvs ds)(W:fH CX X E)(Y:PA X (e::es) t)
  (g:starEach (e::es) X.env=(false,eval e X.env)::starEach es X.env:=by rfl) (n:(backTo pos (starEach es X.env)).any (·.1)=false:=by rfl)
  (Z:eval (.Call (.Attribute o m apos) (e::es) [] pos) X.env=(do
   let B <- eval o X.env
   standAt apos.atName
   let (f,first) <- holding [B] (getMethod B m D)
   callWith pos f first (backTo pos (starEach (e::es) X.env)) (backToKw pos (keywordEach [] X.env))):=by rfl) :
  PE X (.Call (.Attribute o m apos) (e::es) [] pos) (De C m sp dvs E ta t):=by
 intro b s G H Q I h;refine methodCall_KW (pl:=D) (thn (S b s G H _ I h) λu s1 y=>?_) Z;obtain⟨x,H1,J,rx,a,dx,fs,ex,ea,l,q⟩:=y;subst ex;obtain rfl:u=Value.ref a:=rx;refine oH J ea c z l ?_;refine callWith_K (first:=[.ref a]) (h₀:=X.base) I.ok.mod.kin z.kp (thn (Y pos b s1 G H1 _ J q) λN s2 ⟨O,H2,R,r,q2⟩=>⟨R.kIn,?_⟩) g n;exact zO (us:=.ref a::N) (vs:=.ref a::O) F hr U V W R (.cons rfl r) q2
theorem HK(B:PE X o ta)(c:Cls X.K C)(r:Meth X.K C m f)(F:FnOk X.prog X.w X.K X.mg X.base CX k f fd ps sp)(hr:Room k X.A)(D:jB X.K fd ps ds)(G:cE dvs ds)(J:fH CX X E)
  (L:eval (.Call (.Attribute o m apos) [] [] pos) X.env=(do
   let y <- eval o X.env
   standAt apos.atName
   let (f,first) <- holding [y] (getMethod y m z)
   callWith pos f first (backTo pos (starEach [] X.env)) (backToKw pos (keywordEach [] X.env))):=by rfl) :
  PE X (.Call (.Attribute o m apos) [] [] pos) (De C m sp dvs E ta kX):=by
 intro b s N H Q I h;refine methodCall_KW (pl:=z) (thn (B b s N H _ I h) λu S g=>?_) L;obtain⟨x,U,n,O,a,V,W,ex,R,l,q⟩:=g;subst ex;obtain rfl:u=Value.ref a:=O;refine oH n R c r l ?_;exact callWith_K0 (first:=[.ref a]) n.kIn r.kp (zO (us:=[.ref a]) (vs:=[.ref a]) F hr D G J n (.cons rfl .nil) q)
structure Mk(K:Ma)(C f:Addr):Prop where
 makes:PySem.W.makesIn K C=true
 init:findIn K (.ref C) "__init__" = some (some (.ref f))
 fn:PySem.W.isFn K (.ref f)=true
 kp:keepIn K (.ref C)=true
theorem BA(M:Mk X.K C f)(F:FnOk X.prog X.w X.K X.mg X.base CX k f fd ps sp)(hr:Room (k+1) X.A)(G:jB X.K fd ps ds)(J:cE dvs ds)
  (L:fH CX X E) (I:Inv X g y H s) (r:cE z us)
  (h:∀x n,H x=none->H n=none->n≠x->sp (.ref x::(z++dvs)) (upd (upd H n (.own x)) x (.ins C n [])) (λv H2=>v = .non/\Q (.ref x) H2) E) :
  wpAny (model X.prog X.w) X.A (call (.ref C) us) (EP X g y Q) X.xe s:=by
 have B:=h (s.heap.objs.size+1) s.heap.objs.size (I.hok.fresh (le_succ _)) (I.hok.fresh (le_refl _)) (ne_of_lt (lt_succ_self _));have q:=Inv.made (C:=C) I;have D:cE (V.ref (s.heap.objs.size+1)::(z++dvs)) (Value.ref (s.heap.objs.size+1)::(us++ds)):=.cons rfl (r.append J);have N:(Value.ref (s.heap.objs.size+1)::us++ds).length=ps.length:=by
  have e:=D.length;rw[F.len _ _ _ _ B]at e;exact e.symm
 refine wpAny_call (Hs (f:=f) I.kIn M.makes M.init (beq_iff_eq.mp M.fn) (codeAny_mono (F.run _ X.stack _ _ ⟨Value.ref (s.heap.objs.size+1)::us,[]⟩ (Value.ref (s.heap.objs.size+1)::(us++ds)) _ _ E (hr.make C us [])
  (q.env0.make C us []) (G _ (Value.ref (s.heap.objs.size+1)::us) q.kIn N) D B) λr O b=>?_))
 cases r with
 |error e=>exact L g y _ _ e O q b
 |ok R=>
  cases R with
  |ret u=>
   obtain⟨v,S,U,W,Y,Z⟩:=q.after b;subst Y;exact⟨W,⟨V.ref (s.heap.objs.size+1),S,U,rfl,Z⟩⟩
  |next=>exact False.elim b
  |brk=>exact False.elim b
  |cont=>exact False.elim b
theorem Jb(M:Mk X.K C f)(F:FnOk X.prog X.w X.K X.mg X.base CX k f fd ps sp)(hr:Room (k+1) X.A)(z:Gl X x)(B:X.mg x=some (.ref C))(D:jB X.K fd ps ds)(G:cE dvs ds)(J:fH CX X E)
  (L:PA X (e::es) t) (g:(x == ("__debug__" : Str))=false:=by decide) (N:starEach (e::es) X.env=(false,eval e X.env)::starEach es X.env:=by rfl) (n:(backTo pos (starEach es X.env)).any (·.1)=false:=by rfl) :
  PE X (.Call (.Name x p) (e::es) [] pos) (Df C sp dvs E t):=by
 intro b s O H Q I h;refine wpAny_Call_Name_kw (iG I z B ?_ g);refine callWith_K (h₀:=X.base) I.ok.mod.kin M.kp (thn (L pos b s O H _ I h) λR S ⟨U,V,y,r,q⟩=>⟨y.kIn,?_⟩) N n;exact BA M F hr D G J y r q
theorem HL(M:Mk X.K C f)(F:FnOk X.prog X.w X.K X.mg X.base CX k f fd ps sp)(hr:Room (k+1) X.A)(n:Gl X x)(q:X.mg x=some (.ref C))(r:jB X.K fd ps ds)(u:cE dvs ds)(y:fH CX X E)
  (b:(x == ("__debug__" : Str))=false:=by decide):PE X (.Call (.Name x p) [] [] pos) (Df C sp dvs E kX):=by
 intro g s z H Q I h;refine wpAny_Call_Name_kw (iG I n q ?_ b);exact callWith_K0 I.kIn M.kp (BA (us:=[]) M F hr r u y I .nil h)
end
section
variable{X:Cx}{CX:CXT}{k:Nat}{f C:Addr}{fd:Ml}{ps ks:Mg}{sp:Sp}{E:XK}{x m:Str}{p pos apos kpos:Pos}{e o:Expr}{es:List Expr}{kws:List Keyword}{te ta:TE}{t tk:TA}{nm:Option Str}
variable{g:Mh->Mh->Mh}{gV:Mp->Mp->Mp}
end
structure FnScope(N P:Mg)(sc:Scope):Prop where
 kind:sc.kind = .function
 co:sc.isCoroutine=false
 gen:sc.isGenerator=false
 nd:N.Nodup
 pre:N.take P.length=P
 par:∀x∈P,sc.names.lookup x=some .local\/sc.names.lookup x=some .cell
 nofree:∀y∈sc.names,y.2 ≠ .free
theorem yY{kindOf:Str->Option NameKind}{x:Str}:∀{b:List (Str×Value)}{m:Mc},(∀v,(x,v)∉b)->bindL kindOf b m x=m x
 |[],_,_=>rfl
 | (n,v)::r,m,h=>by
  unfold bindL;rw[yY λw hw=>h w (mem_cons_of_mem _ hw)];split
  ·have:x≠n:=by rintro rfl;exact h v mem_cons_self
   simp [this]
  ·rfl
theorem y4{kindOf:Str->Option NameKind}{x:Str}:∀{b:List (Str×Value)}{m:Mc},(∀v,(x,v)∉b)->bindC kindOf b m x=m x
 |[],_,_=>rfl
 | (n,v)::r,m,h=>by
  unfold bindC;rw[y4 λw hw=>h w (mem_cons_of_mem _ hw)];split
  ·rfl
  ·have:x≠n:=by rintro rfl;exact h v mem_cons_self
   simp [this]
theorem yZ{kindOf:Str->Option NameKind}{x:Str}{v:Value}:∀{P:Mg}{b:Mh}{i:Nat}{m:Mc},P.Nodup->P[i]? = some x->b[i]? = some v->kindOf x=some .local->
  bindL kindOf (P.zip b) m x=some v
 |[],_,_,_,_,h,_,_=>by simp at h
 |_::_,[],_,_,_,_,h,_=>by simp at h
 |p::P,w::b,0,m,g,e,f,n=>by
  simp at e f;subst e;subst f;show bindL kindOf ((p,w)::P.zip b) m p=_;unfold bindL;rw[yY λv o=>(nodup_cons.mp g).1 (List.of_mem_zip o).1,if_pos n];simp
 |p::P,w::b,i+1,m,g,e,f,n=>by
  show bindL kindOf ((p,w)::P.zip b) m x=_;unfold bindL;exact yZ (i:=i) (nodup_cons.mp g).2 (by simpa using e) (by simpa using f) n
theorem y7{kindOf:Str->Option NameKind}{x:Str}{v:Value}:∀{P:Mg}{b:Mh}{i:Nat}{m:Mc},P.Nodup->P[i]? = some x->b[i]? = some v->kindOf x≠some .local->
  bindC kindOf (P.zip b) m x=some v
 |[],_,_,_,_,h,_,_=>by simp at h
 |_::_,[],_,_,_,_,h,_=>by simp at h
 |p::P,w::b,0,m,g,e,f,n=>by
  simp at e f;subst e;subst f;show bindC kindOf ((p,w)::P.zip b) m p=_;unfold bindC;rw[y4 λv o=>(nodup_cons.mp g).1 (List.of_mem_zip o).1,if_neg n];simp
 |p::P,w::b,i+1,m,g,e,f,n=>by
  show bindC kindOf ((p,w)::P.zip b) m x=_;unfold bindC;exact y7 (i:=i) (nodup_cons.mp g).2 (by simpa using e) (by simpa using f) n
def oN(N:Mg)(b:Mp):St:=b.map some++List.replicate (N.length-b.length) none
def AT(CX:CXT)(P:Program)(w:World)(K:Ma)(mg:Mc)(base:Heap)(N:Mg)(qual:Str)(scope:Scope)(f:Addr)(cd:Value)(A:Around)(outer:List Env)(s:Shared)(H:Hp)(E:XK):Cx where
 prog:=P
 w:=w
 K:=K
 mg:=mg
 base:=base
 A:=A.deeper (envOfC qual scope s.heap.objs.size f cd)
 N:=N
 s₀:=s
 H₀:=H
 env:=envOfC qual scope s.heap.objs.size f cd
 outer:=outer
 stack:=envOfC qual scope s.heap.objs.size f cd::outer
 ex:=[]
 calm:=true
 fn:=λ_=>true
 pn:=[]
 xe:=λe s'=>wpAny (model P w) (A.deeper (envOfC qual scope s.heap.objs.size f cd)) (leaving (envOfC qual scope s.heap.objs.size f cd) e) (λ_ s''=>CX outer H s E e s'') (λe' s''=>CX outer H s E e' s'') s'
theorem CC{b:Scope}{n:Nat}{x:Str}(h:b.names.lookup x=some .cell):∃c,(cellsFrom n b.names []).lookup x=some c:=by
 have q:=PySem.W.cellsFrom_some b.names n [] (.inl h);exact Option.isSome_iff_exists.mp q
theorem Fr{W:CXT}{P:Program}{w:World}{K:Ma}{mg:Mc}{base:Heap}{N D:Mg}{o:Str}{g:Scope}{f:Addr}{Q:Value}{A:Around}{m:List Env}{s X:Shared}{H:Hp}{E:XK}{V:Mh}{G:Mp}
  (S:FnScope N D g) (hd:A.handled=none) (B:Env0 P w K mg base A m s H) (hl:G.length=D.length) (r:cE G V)
  (x:InCallC s s.heap.objs.size (bindL (envOfC o g s.heap.objs.size f Q).kindOf (D.zip V) λ_=>none) (cellsFrom (s.heap.objs.size+1) g.names []) (bindC (envOfC o g s.heap.objs.size f Q).kindOf (D.zip V) λ_=>none) X) :
  Inv (AT W P w K mg base N o g f Q A m s H E) [] (oN N G) H X:=by
 have aa:D.length<=N.length:=by have:=congrArg List.length S.pre;rw[length_take]at this;omega
 obtain⟨R,tk,rfl,Y⟩:=x.done;have I:∀b:Addr,b∉(AT W P w K mg base N o g f Q A m s H E).ex:=λb z=>absurd (show b∈([]:List Addr) from z) (by simp);refine⟨⟨B.mod,S.kind,rfl,rfl,le_refl _,λy z c R t=>?_,λy J=>?_,λy c _ h=>?_,λ_=>hd,Around.frames_deeper B.frames,.inr ⟨rfl,rfl⟩,λb z=>absurd z (I b),B.bs,B.bsz,λb _ _=>I b,λb z=>absurd z (I b),B.funs,B.frf⟩,
  rfl,B.bare,Un.kept Y,⟨_,x.toInCall.ns,λi y v R t h3=>?_⟩,λy c h=>⟨_,x.cell y c h⟩,B.hok.fresh (le_refl _),λy c h=>?_,λp L=>absurd (show p∈([]:Mb) from L) (by simp),B.hok.kept Y,?_⟩
 ·exact name_of_addr x.apart (PySem.mem_of_lookup R) (PySem.mem_of_lookup t)
 ·have J:g.names.lookup y=some .cell\/g.names.lookup y=some .free:=J;rcases J with J |J
  ·exact CC J
  ·exact absurd rfl (S.nofree _ (PySem.mem_of_lookup J))
 ·exact le_of_lt (x.above y c (PySem.mem_of_lookup h))
 ·have U:i<G.length:=by
   unfold oN at t;by_cases U:i<G.length
   ·exact U
   ·rw[getElem?_append_right (by simpa using U)]at t;rw[List.getElem?_replicate]at t;split at t <;> cases t
  have ha:G[i]? = some v:=by
   unfold oN at t;rw[getElem?_append_left (by simpa using U),getElem?_map]at t;cases e:G[i]? with
   |none=>rw[e]at t;cases t
   |some a=>rw[e]at t;cases t;rfl
  obtain⟨u,Z,rv⟩:=r.get ha;have L:D[i]? = some y:=by
   rw[<- S.pre,List.getElem?_take_of_lt (by omega)];exact R
  have O:D.Nodup:=by rw[<- S.pre];exact S.nd.sublist (List.take_sublist _ _)
  refine⟨u,rv,?_⟩;rcases S.par y (mem_of_getElem? L) with k |k
  ·exact .inl ⟨k,yZ O L Z k⟩
  ·obtain⟨c,e⟩:=CC (n:=s.heap.objs.size+1) k;refine .inr ⟨.inl k,c,e,?_⟩;have q:=x.cell y c e;rw[y7 O L Z (by show g.names.lookup y≠_;rw[k];decide)]at q;exact q
 ·exact B.hok.fresh (le_of_lt (x.above y c (PySem.mem_of_lookup h)))
 ·unfold oN;show _=N.length;rw[length_append,length_map,List.length_replicate];omega
theorem fn_of{CX:CXT}{P:Program}{w:World}{K:Ma}{mg:Mc}{base:Heap}{k:Nat}{f:Addr}{O p:Str}{B:Arguments}{D:List Stmt}{g:Scope}{dV kV Y pm z ct oc:Value}{an od:Option Addr}
  {ab:Me} {N ps:Mg} {sp:Sp} (lk:K.lookup f=some ⟨oc,od,.func (fnOf O p B D g dV kV Y pm an z ct),ab⟩) (ac:codeIn K z p=true) (S:FnScope N ps g)
  (len:∀G H Q E,sp G H Q E->G.length=ps.length)
  (R:∀(A:Around)(m:List Env)(s:Shared)(H:Hp)(G:Mp)(Q:VK)(E:XK),Room k (A.deeper (envOfC p g s.heap.objs.size f z))->sp G H Q E->
   ∃t,PSs (AT CX P w K mg base N p g f z A m s H E) D t/\t (Ends.fn Q) (oN N G) H) :
  FnOk P w K mg base CX (k+1) f (fnOf O p B D g dV kV Y pm an z ct) ps sp:=by
 refine⟨len,λA m s H ae us G Q E hr Z hb r aa=>?_⟩;have hl:=len _ _ _ _ aa;have KX:K.In s.heap:=Z.mod.kin.keeps λb o e=>(Z.bs b o e).1;have ad:s.heap.NoLimit:=Z.mod.nolimit.keeps λb o e=>(Z.bs b o e).1;have U:∀y∈ps.zip us,g.names.lookup y.1=some .local\/(g.names.lookup y.1=some .cell/\((cellsFrom (s.heap.objs.size+1) g.names []).lookup y.1).isSome=true):=λ⟨n,v⟩ hy=>by
  rcases S.par n (List.of_mem_zip hy).1 with q |q
  ·exact .inl q
  ·exact .inr ⟨q,PySem.W.cellsFrom_some _ _ _ (.inl q)⟩
 refine codeAny_call_function hr.depth (KX _ _ lk) rfl S.co S.gen rfl (PySem.W.codeRec_of KX ac) (hb _ _ _ _ ?_);refine wpAny_newFunctionEnv_cells S.kind U λaf he s1 x=>?_;subst he;refine⟨ad.keeps x.toInCall.keep,codeAny_func ?_⟩;obtain⟨t,ht,hq⟩:=R A m s H G Q E (hr.deeper _) aa;have I:Inv (AT CX P w K mg base N p g f z A m s H E) [] (oN N G) H s1:=Fr S hr.hd Z hl r x;refine wpAny_mono (ht [] s1 (oN N G) H _ I hq) (λfl s' W=>?_) λe s' W=>W;have fin:∀{L:St}{X:Hp}{v:V}{u:Value},Inv (AT CX P w K mg base N p g f z A m s H E) [] L X s'->cC v u->Q v X->CE m P w H s Q u s':=
  λ{L X v u} J rv q=>⟨v,X,J.os,J.bare,J.base,J.hok,rv,q⟩
 cases fl with
 |ret u=>
  obtain⟨v,L,X,J,rv,q⟩:=W;exact fin J rv q
 |next=>
  obtain⟨L,X,J,q⟩:=W;exact fin (v:=V.non) (u:=Value.none) J rfl q
 |brk=>
  obtain⟨_,_,_,q⟩:=W;exact False.elim q
 |cont=>
  obtain⟨_,_,_,q⟩:=W;exact False.elim q
section
variable{X:Cx}{x:Str}{p pos:Pos}{e:Expr}{es:List Expr}{t:TA}{id T:String}{r:Mp->Hp->VK->Prop}
abbrev tCB_1(r:Mp->Hp->VK->Prop)(Q:VK):Mp->Hp->Prop:=λb f=>r b f Q
def tCB(r:Mp->Hp->VK->Prop)(t:TA):TE:=λb H Q=>t b H (tCB_1 r Q)
theorem bJ(n:gP X (.builtin id) r)(o:Gl X x)(q:X.mg x=none)(u:bootBuiltins x=some (.builtin id))(y:PA X (e::es) t)(z:x ≠ "__name__":=by decide)(f:(x == ("__debug__" : Str))=false:=by decide)
  (B:starEach (e::es) X.env=(false,eval e X.env)::starEach es X.env:=by rfl) (g:(backTo pos (starEach es X.env)).any (·.1)=false:=by rfl):PE X (.Call (.Name x p) (e::es) [] pos) (tCB r t):=by
 intro b s m H Q I h;refine wpAny_Call_Name_kw (jA I o q u ?_ z f);exact PyProof.Rows.callWith_builtin1 (thn (y pos b s m H _ I h) λD E ⟨G,J,L,N,O⟩=>n b E m J G D Q L N O) B g
theorem kH(n:gP X (.type T) r)(o:Gl X x)(q:X.mg x=none)(u:bootBuiltins x=some (.type T))(y:PA X (e::es) t)(z:x ≠ "__name__":=by decide)(f:(x == ("__debug__" : Str))=false:=by decide)
  (B:starEach (e::es) X.env=(false,eval e X.env)::starEach es X.env:=by rfl) (g:(backTo pos (starEach es X.env)).any (·.1)=false:=by rfl):PE X (.Call (.Name x p) (e::es) [] pos) (tCB r t):=by
 intro b s m H Q I h;refine wpAny_Call_Name_kw (jA I o q u ?_ z f);exact PyProof.Rows.callWith_type1 (thn (y pos b s m H _ I h) λD E ⟨G,J,L,N,O⟩=>n b E m J G D Q L N O) B g
end
end L2
namespace HT
open PySem PyProof.Rows
section
open PySem.SeqAt
open PySem.AutoSeq1 (wpAny_loadPart')
open PySem.MeetsSeq PySem.MeetsSeq2 PySem.MeetsSeq3
end
section
variable{prog:Program}{w:World}{A:Around}{E:Mm}{s:Shared}
theorem KD(O:IsTup s.heap t m.toArray)(R:IsTup s.heap b f.toArray)(B:m≠[])
  (S:f=[]->Q (.ref t) s) (U:f≠[]->Q (.ref s.heap.objs.size) {s with heap:=s.heap.push {cls:=.type "tuple",data:=.seq (m++f).toArray} })
  (z:m.length+f.length<=sizeLine):wpAny (model prog w) A (binaryOp .Add (.ref t) (.ref b)) Q E s:=by
 obtain⟨⟨y,G,o,H⟩,x,I,n,J⟩:=id O;obtain⟨⟨L,p,data2,q⟩,g,r,N,u⟩:=id R;simp only at I J r u;subst I J r u;have e:m.toArray++f.toArray=(m++f).toArray:=by simp
 by_cases hw:f=[]
 ·exact concat_meets ⟨_,x,rfl⟩ ⟨_,g,rfl⟩ noFill_tuple_add seq_tuple_add PySem.F.slot_tuple_add PySem.F.entry_tuple_add (PySem.F.args_tuple_add_2 _ _)
   (tuple_addW1 t b m.toArray f.toArray n N G p H q (by simpa using B) (by simp [hw])) ⟨x,g,S hw⟩
 ·refine concat_meets ⟨_,x,rfl⟩ ⟨_,g,rfl⟩ noFill_tuple_add seq_tuple_add PySem.F.slot_tuple_add PySem.F.entry_tuple_add (PySem.F.args_tuple_add_2 _ _)
   (tuple_addW2 t b m.toArray f.toArray n N G p H q (by simpa using B) (by simpa using hw) (by rw[size_toArray,size_toArray];exact z)) ⟨x,g,?_⟩
  rw[e];exact U hw
def sIx(n d:Nat):Option Int->Nat
 |none=>d
 |some v=>if v<0 then (v+(n:Int)).toNat else min v.toNat n
theorem Gx(n d:Nat):sIx n d none=d:=rfl
theorem JL(n d k:Nat):sIx n d (some (k:Int))=min k n:=by
 show (if (k:Int)<0 then ((k:Int)+(n:Int)).toNat else min (k:Int).toNat n)=min k n;rw[if_neg (by omega),Int.toNat_natCast]
theorem LJ(n d:Nat)(e:d<=n)(o:Option Int):sIx n d o<=n:=by
 cases o with
 |none=>exact e
 |some v=>
  show (if v<0 then (v+(n:Int)).toNat else min v.toNat n)<=n;by_cases b:v<0
  ·rw[if_pos b];omega
  ·rw[if_neg b];exact Nat.min_le_right _ _
theorem Ei(v:Int)(n d:Nat):(if v<0 then max (v+(n:Int)) 0 else min v (n:Int))=((sIx n d (some v):Nat):Int):=by
 show (if v<0 then max (v+(n:Int)) 0 else min v (n:Int))=(((if v<0 then (v+(n:Int)).toNat else min v.toNat n):Nat):Int);by_cases b:v<0
 ·simp only[if_pos b];omega
 ·simp only[if_neg b];omega
theorem DW(lo b:Option Int)(n:Nat):Builtin.Slice.sliceAdjust lo b 1 (n:Int)=(((sIx n 0 lo:Nat):Int),((sIx n n b:Nat):Int)):=by
 have e:¬((1:Int)<0):=by omega
 unfold Builtin.Slice.sliceAdjust;simp only[e,if_false];refine Prod.ext ?_ ?_
 ·cases lo with
  |none=>rfl
  |some v=>exact Ei v n 0
 ·cases b with
  |none=>rfl
  |some v=>exact Ei v n n
theorem Cr(i j:Nat):Builtin.Slice.slicePlaces (i:Int) (j:Int) 1=j-i:=by
 unfold Builtin.Slice.slicePlaces;have b:(1:Int) > 0:=by omega
 simp only[b,if_true,Int.ediv_one];split <;> omega
theorem uI(p:IsPart v o)(h:Q o s):wpAny (model prog w) A (Builtin.Slice.slicePartIndex v) Q E s:=by
 cases p with
 |none=>exact slicePart_none h
 |int i t=>exact slicePart_int h
theorem kA{o:Addr}{g m:Value}{lo b:Option Int}{n:Nat}{Q:Int×Int×Nat->Shared->Prop}(p:s.heap.IsSliceOf o g m .none)(q:IsPart g lo)(r:IsPart m b)
  (h:Q (((sIx n 0 lo:Nat):Int),1,sIx n n b-sIx n 0 lo) s):wpAny (model prog w) A (Builtin.Slice.sliceApplied (.ref o) (pure (n:Int))) Q E s:=by
 obtain⟨os,e,t,f⟩:=id p;unfold Builtin.Slice.sliceApplied Builtin.Slice.sliceFields;refine wpAny_bind (wpAny_bind (wpAny_field e f (x:=g) rfl (wpAny_bind (wpAny_field e f (x:=m) rfl (wpAny_bind (wpAny_field e f (x:=.none) rfl (wpAny_pure ?_)))))));refine wpAny_bind (slicePart_none ?_);show wpAny _ _ (if ((1:Int) == 0)=true then _ else _) _ _ s;rw[if_neg (by decide)];refine wpAny_bind (uI q (wpAny_bind (uI r (wpAny_bind (wpAny_pure ?_)))));show wpAny _ _ (match Builtin.Slice.sliceAdjust lo b 1 (n:Int) with | (lo,b)=>pure (lo,(1:Int),Builtin.Slice.slicePlaces lo b 1)) _ _ s;rw[DW lo b n];show wpAny _ _ (pure (((sIx n 0 lo:Nat):Int),(1:Int),Builtin.Slice.slicePlaces ((sIx n 0 lo:Nat):Int) ((sIx n n b:Nat):Int) 1)) _ _ s;rw[Cr];exact wpAny_pure h
theorem HF(b:Array Value)(i k:Nat):((List.range k).filterMap λ(m:Nat)=>b[((i:Int)+(m:Int)*1).toNat]?).toArray=((b.toList.drop i).take k).toArray:=by
 have e:(λ(m:Nat)=>b[((i:Int)+(m:Int)*1).toNat]?)=λm=>b[i+m]?:=by
  funext m;have:((i:Int)+(m:Int)*1).toNat=i+m:=by omega
  rw[this]
 rw[e];have:=pick_run b i k;rw[List.filterMap_map]at this;have f:((λx=>b[x]?) ∘ λx=>i+x)=λm=>b[i+m]?:=rfl;rw[f]at this;rw[this]
theorem pT{t n:Addr}{b:Array Value}{x y:Value}{lo f:Option Int}{Q:Mm}(g:IsTup s.heap t b)(z:s.heap.IsSliceOf n x y .none)(H:IsPart x lo)(I:IsPart y f)
  (hw:¬(sIx b.size 0 lo=0/\sIx b.size b.size f=b.size))
  (h:Q (.ref s.heap.objs.size) {s with heap:=s.heap.push {cls:=.type "tuple",data:=.seq ((b.toList.drop (sIx b.size 0 lo)).take (sIx b.size b.size f-sIx b.size 0 lo)).toArray} })
  (L:b.size<=sizeLine):wpAny (model prog w) A (getItem (.ref t) (.ref n)) Q E s:=by
 have e:sizeOk (.seq ((b.toList.drop (sIx b.size 0 lo)).take (sIx b.size b.size f-sIx b.size 0 lo)).toArray):=by
  show ((b.toList.drop (sIx b.size 0 lo)).take (sIx b.size b.size f-sIx b.size 0 lo)).toArray.size<=sizeLine;rw[size_toArray,length_take,List.length_drop,length_toList];omega
 have hj:sIx b.size b.size f<=b.size:=LJ _ _ (le_refl _) f;obtain⟨os,o,p,N⟩:=id z;have r:s.TypeIs (.ref n) "slice":=⟨os,o,p⟩;unfold getItem
 try with_reducible refine wpAny_holding ?_
 first |refine wpAny_bind (wpAny_pure ?_) |skip
 refine wpAny_bind (wpAny_sequenceKey g.typeIs (by decide) ?_);refine wpAny_bind (wpAny_callSpecial?_slot (name:=Str.ofString "__getitem__") g.typeIs PyProof.Rows.slot_tuple_getitem
  (wpAny_call_entry PyProof.Rows.slot_tuple_getitem g.typeIs entry_tuple_getitem ?_ (args_tuple_getitem _ _)))
 show wpAny _ _ (Builtin.Tuple.tupleItemsOf (.ref t) >>= _) _ _ s;refine wpAny_bind (tupleItemsOf_ g ?_);refine wpAny_bind (wpAny_typeOf r ?_);rw[if_pos (by decide)];refine wpAny_bind (kA z H I ?_);have u:¬((((sIx b.size 0 lo:Nat):Int) == 0 && (1:Int) == 1 && (sIx b.size b.size f-sIx b.size 0 lo) == b.size)=true):=by
  intro q;rw[and_eq_true,and_eq_true]at q;have O:((sIx b.size 0 lo:Nat):Int)=0:=eq_of_beq q.1.1;have R:sIx b.size b.size f-sIx b.size 0 lo=b.size:=eq_of_beq q.2;exact hw ⟨by omega,by omega⟩
 show wpAny _ _ (if (((sIx b.size 0 lo:Nat):Int) == 0 && (1:Int) == 1 && (sIx b.size b.size f-sIx b.size 0 lo) == b.size)=true then _ else _) _ _ s;rw[if_neg u,HF]
 first
  |exact wpAny_bind (m:=Builtin.Tuple.tupleExact _) (wpAny_newObj_type (wpAny_pure ⟨_,rfl,wpAny_pure h⟩) e)
  |exact wpAny_bind (m:=Builtin.Tuple.tupleExact _) (wpAny_newObj_type (wpAny_bind (wpAny_pure (wpAny_pure ⟨_,rfl,wpAny_pure h⟩))) e)
  |exact wpAny_bind (wpAny_bind (m:=Builtin.Tuple.tupleExact _) (wpAny_newObj_type (wpAny_pure (wpAny_pure ⟨_,rfl,wpAny_pure h⟩)) e))
  |exact wpAny_bind (wpAny_bind (m:=Builtin.Tuple.tupleExact _) (wpAny_newObj_type (wpAny_pure ⟨_,rfl,wpAny_pure h⟩) e))
end
end HT
namespace L2
open PySem PySem.Spec PyProof.Rows
abbrev TO:=St->Hp->(Option Int->Hp->Prop)->Prop
def PO(X:Cx)(e:Option Expr)(t:TO):Prop:=
 ∀b s f H(Q:Option Int->Hp->Prop),Inv X b f H s->t f H Q->
  wpAny (model X.prog X.w) X.A (evalPart e X.env) (λu m=>∃o g,Inv X b f g m/\IsPart u o/\Q o g) X.xe s
def Db:TO:=λ_ H Q=>Q none H
inductive GQ(Q:(Option Int->Hp->Prop))(x:V)(H1:Hp):Prop
 |mk:∀i,x = .int i->Q (some i) H1->GQ Q x H1
def tPart(t:TE):TO:=λb H Q=>t b H (GQ Q)
section
variable{X:Cx}{e:Expr}{te:TE}{lo hi:Option Expr}{tl th:TO}{pos p2:Pos}
theorem sW:PO X none Db:=by
 intro b s f H Q I h;rw[evalPart_none];exact wpAny_pure ⟨none,H,I,.none,h⟩
theorem m6(h:PE X e te):PO X (some e) (tPart te):=by
 intro b s g H Q I hw;rw[evalPart_some];refine thn (h b s g H _ I hw) λu r f=>?_;obtain⟨x,m,n,o,p⟩:=f;obtain⟨i,rfl,q⟩:=p;obtain⟨t,rfl⟩:=o;exact⟨some i,m,n,.int i t,q⟩
def SlR(X:Cx)(r:V->Option Int->Option Int->Hp->VK->Prop):Prop:=
 ∀b s f H(x:V)(v g m:Value)(lo hi:Option Int)(n:Addr)(Q:VK),Inv X b f H s->cC x v->s.heap.IsSliceOf n g m .none->IsPart g lo->IsPart m hi->r x lo hi H Q->
  ∃T id,typeLookup (.type T) "__getitem__" = pure (some (.builtin id))/\s.TypeIs v T/\wpAny (model X.prog X.w) X.A (getItem v (.ref n)) (EP X b f Q) X.xe s
abbrev tSl_3(r:V->Option Int->Option Int->Hp->VK->Prop)(Q:VK)(x:V)(l:Option Int):Option Int->Hp->Prop:=λu b=>r x l u b Q
abbrev tSl_2(r:V->Option Int->Option Int->Hp->VK->Prop)(th:TO)(b : St)(Q:VK)(x:V):Option Int->Hp->Prop:=λl H2=>th b H2 (tSl_3 r Q x l)
abbrev tSl_1(r:V->Option Int->Option Int->Hp->VK->Prop)(tl:TO)(th:TO)(b : St)(Q:VK):V->Hp->Prop:=λx f=>tl b f (tSl_2 r th b Q x)
def tSl(r:V->Option Int->Option Int->Hp->VK->Prop)(te:TE)(tl th:TO):TE:=λb H Q=>te b H (tSl_1 r tl th b Q)
theorem mG{r:V->Option Int->Option Int->Hp->VK->Prop}(hr:SlR X r)(D:PE X e te)(E:PO X lo tl)(G:PO X hi th):PE X (.Subscript e (.Slice lo hi none p2) pos) (tSl r te tl th):=by
 intro f s p H Q I h;refine Subscript_ (thn (D f s p H _ I h) λv J o=>?_);obtain⟨x,L,N,O,R⟩:=o;refine wpAny_Slice (thn (E f J p L _ N R) λy s2 ⟨l,H2,S,U,W⟩=>thn (G f s2 p H2 _ S W) λz g o=>?_);obtain⟨u,B,Y,Z,q3⟩:=o;rw[evalPart_none];refine wpAny_pure ?_;have I4:Inv X f p B {g with heap:=g.heap.push {cls:=.type "slice",data:=.fields #[y,z,.none] } }:=Y.kept (t':=g.toks) λb ob q=>get?_push_of_some _ q;obtain⟨T,id,hT,ht,hg⟩:=hr f {g with heap:=g.heap.push {cls:=.type "slice",data:=.fields #[y,z,.none] } } p B x v y z l u g.heap.objs.size Q I4 O (Heap.IsSliceOf.new ..) U Z q3;show wpAny (model X.prog X.w) X.A (subscriptTail e (.Slice lo hi none p2) v (.ref g.heap.objs.size)) (EP X f p Q) X.xe {g with heap:=g.heap.push {cls:=.type "slice",data:=.fields #[y,z,.none] } };exact tail_any (ops:=[.ref g.heap.objs.size,v]) ht hT hg (by with_unfolding_all rfl)
def sM(b:Mp)(lo hi:Option Int):Mp:=(b.drop (HT.sIx b.length 0 lo)).take (HT.sIx b.length b.length hi-HT.sIx b.length 0 lo)
theorem sB(b:Mp)(lo hi:Option Int):(sM b lo hi).length<=b.length:=by
 unfold sM;rw[length_take,List.length_drop];omega
inductive rSlT(K:Ma)(x:V)(lo:Option Int)(hi:Option Int)(H:Hp)(Q:VK):Prop
 |mk:∀a xs,x = .ref a->SqT K H a xs->(¬(HT.sIx xs.length 0 lo=0/\HT.sIx xs.length xs.length hi=xs.length))->(∀p,H p=none->Q (.ref p) (upd H p (.tup (sM xs lo hi))))->rSlT K x lo hi H Q
theorem LH:SlR X (rSlT X.K):=by
 intro n s E H x v G J lo hi L Q I u y z B h;obtain⟨a,g,rfl,D,hw,q⟩:=h;cases u;obtain⟨m,r,p,t⟩:=I.tuple D;have f:m.toArray.size=g.length:=by rw[size_toArray];exact r.length.symm
 refine⟨"tuple",_,PyProof.Rows.slot_tuple_getitem.lookup,p.typeIs,?_⟩;refine HT.pT p y z B (by rw[f];exact hw) ?_ (by rw[f];exact t);rw[f];refine⟨.ref s.heap.objs.size,_,I.laid (t':=s.toks) (o:=.tup (sM g lo hi)) (λb O q=>get?_push_of_some _ q) (le_refl _) ?_,rfl,q _ (I.hok.fresh (le_refl _))⟩;exact⟨le_trans (sB g lo hi) t,_,(r.drop (HT.sIx g.length 0 lo)).take (HT.sIx g.length g.length hi-HT.sIx g.length 0 lo),IsTup.new _ _⟩
inductive Kf(K:Ma)(x:V)(y:V)(H:Hp)(Q:VK):Prop
 |mk:∀a b xs ys,x = .ref a->y = .ref b->SqT K H a xs->SqT K H b ys->xs≠[]->xs.length+ys.length<=sizeLine->(ys=[]->Q (.ref a) H)->(ys≠[]->∀p,H p=none->Q (.ref p) (upd H p (.tup (xs++ys))))->Kf K x y H Q
theorem cE.nil_iff(r:cE b f):f=[] ↔ b=[]:=by
 cases r with
 |nil=>simp
 |cons _ _=>simp
theorem Jg:OpR X (binaryOp .Add) (Kf X.K):=by
 intro m s S H x y v u Q I r t h;obtain⟨a,b,B,D,rfl,rfl,E,G,J,n,L,N⟩:=h;cases r;cases t;obtain⟨O,g,R,_⟩:=I.tuple E;obtain⟨p,f,p2,_⟩:=I.tuple G;refine HT.KD R p2 (λz=>J (g.nil_iff.mp z)) (λz=>⟨.ref a,H,I,rfl,L (f.nil_iff.mp z)⟩) (λz=>?_) (by rw[<- g.length,<- f.length];exact n);refine⟨.ref s.heap.objs.size,_,I.laid (t':=s.toks) (o:=.tup (B++D)) (λb V q=>get?_push_of_some _ q) (le_refl _) ?_,rfl,N (λw=>z (f.nil_iff.mpr w)) _ (I.hok.fresh (le_refl _))⟩;exact⟨by rw[length_append];exact n,_,g.append f,IsTup.new _ _⟩
end
def ixN(n:Nat)(i:Int):Option Nat:=if 0<=i then (if i<n then some i.toNat else none) else if -(n:Int)<=i then some (i+n).toNat else none
def atI{b : Type}(e:List b)(i:Int):Option b:=(ixN e.length i).bind λj=>e[j]?
theorem J2(h:ixN n i=some j):seqIndex? i n=some j/\j<n/\-(n:Int)<=i/\i<n:=by
 unfold ixN at h;by_cases f:0<=i
 ·rw[if_pos f]at h;by_cases b:i<n
  ·rw[if_pos b]at h;have e:i.toNat=j:=Option.some.inj h;exact⟨by rw[seqIndex_of f b,e],by omega,by omega,b⟩
  ·rw[if_neg b]at h;cases h
 ·rw[if_neg f]at h;by_cases b:-(n:Int)<=i
  ·rw[if_pos b]at h;have e:(i+n).toNat=j:=Option.some.inj h;exact⟨by rw[seqIndex_neg (by omega) b,e],by omega,b,by omega⟩
  ·rw[if_neg b]at h;cases h
theorem Ek{f : Type}{b:List f}{i:Int}{v:f}(h:atI b i=some v):∃j,seqIndex? i b.length=some j/\b[j]? = some v/\j<b.length/\-(b.length:Int)<=i/\i<b.length:=by
 unfold atI at h;cases e:ixN b.length i with
 |none=>rw[e]at h;cases h
 |some j=>
  rw[e]at h;obtain⟨g,m,n,o⟩:=J2 e;exact⟨j,g,h,m,n,o⟩
theorem cK{f : Type}{b:List f}{j:Nat}{v:f}(h:b[j]? = some v):atI b (j:Int)=some v:=by
 have hj:j<b.length:=(List.getElem?_eq_some_iff.mp h).1;have e:ixN b.length (j:Int)=some j:=by
  unfold ixN;rw[if_pos (by omega),if_pos (by omega)];simp
 unfold atI;rw[e];exact h
theorem CL{f : Type}(b:List f)(v:f):atI (b++[v]) (-1)=some v:=by
 have g:(b++[v]).length=b.length+1:=by simp
 have e:ixN (b++[v]).length (-1)=some b.length:=by
  unfold ixN;rw[g,if_neg (by decide),if_pos (by omega)];congr 1;omega
 unfold atI;rw[e];show (b++[v])[b.length]? = some v;simp
def KI(b:Expr):Prop:=∀o i,subscripted b false o i=operate [o,i] (getItem o i)
def IxR(X:Cx)(r:R2):Prop:=
 ∀(f b:Expr)(e:Mb)(s:Shared)(g : St)(H:Hp)(x y:V)(v u:Value)(Q:VK),Inv X e g H s->cC x v->cC y u->r x y H Q->
  subscripted b false v u=operate [v,u] (getItem v u)->wpAny (model X.prog X.w) X.A (subscriptTail f b v u) (EP X e g Q) X.xe s
def MtR(X:Cx)(id:String)(r:V->Mp->Hp->VK->Prop):Prop:=
 ∀b s e H(x:V)(f:Mp)(v:Value)(g:Mh)(Q:VK),Inv X b e H s->cC x v->cE f g->r x f H Q->
  wpAny (model X.prog X.w) X.A (call (.builtin id) (v::g)) (EP X b e Q) X.xe s
section
variable{X:Cx}{a b:Expr}{ta tb:TE}{pos:Pos}
theorem cG{r:R2}(hr:IxR X r)(f:PE X a ta)(g:PE X b tb)(m:KI b):PE X (.Subscript a b pos) (tOp r ta tb):=by
 intro e s n H Q I h;exact Subscript_ (MQ f g I h λv u s2 x y H2 o p t q=>hr a b e s2 n H2 x y v u Q o p t q (m _ _))
inductive JS(K:Ma)(x:V)(y:V)(H:Hp)(Q:VK):Prop
 |mk:∀p xs i v,x = .ref p->y = .int i->SqL K H p xs->atI xs i=some v->Q v H->JS K x y H Q
inductive LN(K:Ma)(x:V)(y:V)(H:Hp)(Q:VK):Prop
 |mk:∀p xs i v,x = .ref p->y = .int i->SqT K H p xs->atI xs i=some v->Q v H->LN K x y H Q
theorem J1:IxR X (JS X.K):=by
 intro g m e s D H x y v u Q I L N h E;obtain⟨p,Z,i,z,rfl,rfl,O,R,q⟩:=h;cases L;obtain⟨t,rfl⟩:=N;obtain⟨n,r,o,hz⟩:=I.list O;obtain⟨j,f,S,h3,U,V⟩:=Ek R;obtain⟨w,G,B⟩:=r.get S;have W:=r.length;have hn:=vH;have fin:EP X e D Q w s:=⟨z,H,I,B,q⟩;by_cases J:0<=i
 ·have hj:i.toNat=j:=by
   rw[seqIndex_of J V]at f;exact Option.some.inj f
  exact item_listR o.isList J (by omega) (by rw[hj];simpa using G) fin E
 ·have hj:(i+(n.toArray.size:Int)).toNat=j:=by
   rw[seqIndex_neg (by omega) U]at f;rw[size_toArray,<- W];exact Option.some.inj f
  exact subscriptTail_builtinR (x:=w) o.isList.typeIs slot_list_getitem.lookup
   (wpAny_getItem_list_neg (Q:=λr Y=>r=w/\EP X e D Q r Y) o.isList (by omega) (by rw[size_toArray] <;> omega) (by omega) (by rw[hj];simpa using G) ⟨rfl,fin⟩) E
theorem L3:IxR X (LN X.K):=by
 intro f g e s n H x y v u Q I B D h E;obtain⟨p,V,i,z,rfl,rfl,G,J,q⟩:=h;cases B;obtain⟨t,rfl⟩:=D;obtain⟨L,r,o,W⟩:=I.tuple G;obtain⟨j,N,O,Y,Z,h5⟩:=Ek J;obtain⟨w,R,m⟩:=r.get O;have S:=r.length;have hn:=vH;have fin:EP X e n Q w s:=⟨z,H,I,m,q⟩;exact subscriptTail_builtinR (x:=w) o.typeIs slot_tuple_getitem.lookup
  (getItem_tuple (j:=j) (Q:=λr U=>r=w/\EP X e n Q r U) o (by omega) (by omega) (by rw[size_toArray,<- S];exact N) (by simpa using R) ⟨rfl,fin⟩) E
theorem zM(lo e:Option Int)(n:Nat):(sliceBounds lo e none n).1=((HT.sIx n 0 lo:Nat):Int)/\(sliceBounds lo e none n).2.1=((HT.sIx n n e:Nat):Int)/\(sliceBounds lo e none n).2.2=1:=by
 refine⟨?_,?_,rfl⟩
 ·cases lo with
  |none=>simp [sliceBounds,HT.sIx]
  |some i=>
   simp only[sliceBounds,HT.sIx,Option.getD_none,show (1:Int) > 0 by decide,if_true];by_cases h:i<0
   ·simp only[h,if_true] <;> omega
   ·simp only[h,if_false] <;> omega
 ·cases e with
  |none=>simp [sliceBounds,HT.sIx]
  |some i=>
   simp only[sliceBounds,HT.sIx,Option.getD_none,show (1:Int) > 0 by decide,if_true];by_cases h:i<0
   ·simp only[h,if_true] <;> omega
   ·simp only[h,if_false] <;> omega
theorem wE(e:Mh)(lo f:Option Int):slicePick e.toArray lo f none=((e.drop (HT.sIx e.length 0 lo)).take (HT.sIx e.length e.length f-HT.sIx e.length 0 lo)).toArray:=by
 obtain⟨g,m,n⟩:=zM lo f e.toArray.size;unfold slicePick;rw[g,m,n];simp only[sliceRange_one,pick_run,size_toArray] <;> rfl
inductive LM(K:Ma)(x:V)(lo:Option Int)(hi:Option Int)(H:Hp)(Q:VK):Prop
 |mk:∀a xs,x = .ref a->SqL K H a xs->(∀p,H p=none->Q (.ref p) (upd H p (.lst (sM xs lo hi))))->LM K x lo hi H Q
theorem JH:SlR X (LM X.K):=by
 intro m s E H x v G J lo g L Q I p t u y h;obtain⟨a,e,rfl,z,q⟩:=h;cases p;obtain⟨B,r,n,D⟩:=I.list z;have f:=r.length;refine⟨"list",_,slot_list_getitem.lookup,n.isList.typeIs,?_⟩;refine wpAny_getItem_list_slice n.isList t u y .none (by simp) ?_ (by rw[size_toArray] <;> omega);rw[wE,<- f];refine⟨.ref s.heap.objs.size,_,I.laid (t':=s.toks) (o:=.lst (sM e lo g)) (λb O q=>get?_push_of_some _ q) (le_refl _) ?_,rfl,q _ (I.hok.fresh (le_refl _))⟩;exact⟨le_trans (sB e lo g) D,_,0,(r.drop (HT.sIx e.length 0 lo)).take (HT.sIx e.length e.length g-HT.sIx e.length 0 lo),get?_push_size _ rfl⟩
def nU:V->Bool
 | .non=>true
 | .bl _=>true
 | .int _=>true
 | .str _=>true
 |_=>false
def eqV:V->V->Bool
 | .non,.non=>true
 | .bl a,.bl b=>a == b
 | .bl a,.int b=>(if a then 1 else 0) == b
 | .int a,.bl b=>a == (if b then 1 else 0)
 | .int a,.int b=>a == b
 | .str a,.str b=>a == b
 |_,_=>false
theorem MK(g:cC y u)(e:cC x v)(n:nU y=true)(m:nU x=true):SeqAt.EqAt A s u v (eqV y x):=by
 cases y with
 |non=>
  cases g;cases x with
  |non=>cases e;exact SeqAt.EqAt.same _
  |bl b=>cases e;exact SeqAt.EqAt.none_bool b
  |int b=>obtain⟨t,rfl⟩:=e;exact SeqAt.EqAt.none_int b t
  |str b=>obtain⟨t,rfl⟩:=e;exact SeqAt.EqAt.none_str b t
  |_=>exact absurd (show false=true from m) Bool.false_ne_true
 |bl a=>
  cases g;cases x with
  |non=>cases e;exact SeqAt.EqAt.bool_none a
  |bl b=>cases e;exact SeqAt.EqAt.bool_bool a b
  |int b=>obtain⟨t,rfl⟩:=e;exact SeqAt.EqAt.bool_int a b t
  |str b=>obtain⟨t,rfl⟩:=e;exact SeqAt.EqAt.bool_str a b t
  |_=>exact absurd (show false=true from m) Bool.false_ne_true
 |int a=>
  obtain⟨f,rfl⟩:=g;cases x with
  |non=>cases e;exact SeqAt.EqAt.int_none a f
  |bl b=>cases e;exact SeqAt.EqAt.int_bool a f b
  |int b=>obtain⟨t,rfl⟩:=e;exact SeqAt.EqAt.int_int a f b t
  |str b=>obtain⟨t,rfl⟩:=e;exact SeqAt.EqAt.int_str a f b t
  |_=>exact absurd (show false=true from m) Bool.false_ne_true
 |str a=>
  obtain⟨f,rfl⟩:=g;cases x with
  |non=>cases e;exact SeqAt.EqAt.str_none a f
  |bl b=>cases e;exact SeqAt.EqAt.str_bool a f b
  |int b=>obtain⟨t,rfl⟩:=e;exact SeqAt.EqAt.str_int a f b t
  |str b=>obtain⟨t,rfl⟩:=e;exact SeqAt.EqAt.str_str a f b t
  |_=>exact absurd (show false=true from m) Bool.false_ne_true
 |_=>exact absurd (show false=true from n) Bool.false_ne_true
def eqU(x:V)(u:Value):Bool:=match u with
 | .none=>eqV .non x
 | .bool b=>eqV (.bl b) x
 | .int i _=>eqV (.int i) x
 | .str z _=>eqV (.str z) x
 |_=>false
theorem IS(r:cC y u)(f:nU y=true):eqU x u=eqV y x:=by
 cases y with
 |non=>cases r;rfl
 |bl b=>cases r;rfl
 |int i=>obtain⟨t,rfl⟩:=r;rfl
 |str z=>obtain⟨t,rfl⟩:=r;rfl
 |_=>exact absurd (show false=true from f) Bool.false_ne_true
theorem qC:∀{e:Mp}{g:Mh},cE e g->e.all nU=true->g.any (eqU x)=e.any λy=>eqV y x
 |_,_,.nil,_=>rfl
 |y::e,u::g,.cons r t,f=>by
  rw[all_cons,and_eq_true]at f;rw[any_cons,any_cons,IS r f.1,qC t f.2]
theorem mI(n:cC x v)(o:nU x=true):∀{g:Mp}{m:Mh},cE g m->g.all nU=true->∀u∈m,SeqAt.EqAt A s u v (eqU x u)
 |_,_,.nil,_=>λu e=>by cases e
 |y::g,u::m,.cons r t,f=>λp e=>by
  rw[all_cons,and_eq_true]at f;rcases mem_cons.mp e with rfl |e
  ·rw[IS r f.1];exact MK r n f.1 o
  ·exact mI n o t f.2 p e
def inV(x:V)(e:Mp):Bool:=e.any λy=>eqV y x
inductive rIn(K:Ma)(neg:Bool)(x:V)(y:V)(H:Hp)(Q:VK):Prop
 |mk:∀p xs,y = .ref p->(SqL K H p xs\/SqT K H p xs)->nU x=true->xs.all nU=true->Q (.bl (if neg then !inV x xs else inV x xs)) H->rIn K neg x y H Q
theorem FF:OpR X (compareOp .In) (rIn X.K false):=by
 intro n s D H x y v u Q I o z h;obtain⟨p,E,rfl,f,t,g,q⟩:=h;cases z;rcases f with f |f
 ·obtain⟨e,r,m,B⟩:=I.list f;refine SeqAt.in_listAt (eqU x) m.isList (λw hw=>mI o t r g w (by simpa using hw)) ⟨.bl _,H,I,rfl,?_⟩;rw[show e.toArray.any (eqU x)=e.any (eqU x) by simp,qC r g];exact q
 ·obtain⟨e,r,m,B⟩:=I.tuple f;refine SeqAt.in_tupleAt (eqU x) m (λw hw=>mI o t r g w (by simpa using hw)) ⟨.bl _,H,I,rfl,?_⟩;rw[show e.toArray.any (eqU x)=e.any (eqU x) by simp,qC r g];exact q
theorem zV:OpR X (compareOp .NotIn) (rIn X.K true):=by
 intro n s D H x y v u Q I o z h;obtain⟨p,E,rfl,f,t,g,q⟩:=h;cases z;rcases f with f |f
 ·obtain⟨e,r,m,B⟩:=I.list f;refine SeqAt.notIn_listAt (eqU x) m.isList (λw hw=>mI o t r g w (by simpa using hw)) ⟨.bl _,H,I,rfl,?_⟩;rw[show e.toArray.any (eqU x)=e.any (eqU x) by simp,qC r g];exact q
 ·obtain⟨e,r,m,B⟩:=I.tuple f;refine SeqAt.notIn_tupleAt (eqU x) m (λw hw=>mI o t r g w (by simpa using hw)) ⟨.bl _,H,I,rfl,?_⟩;rw[show e.toArray.any (eqU x)=e.any (eqU x) by simp,qC r g];exact q
theorem AX:gP X (.builtin "len") (λt H Q=>∃p f,t=[.ref p]/\(SqL X.K H p f\/SqT X.K H p f)/\Q (.int f.length) H):=by
 intro x s B H t D Q I r h;obtain⟨p,f,rfl,g,q⟩:=h;obtain⟨u,rfl,y⟩:=wQ r;cases y;have E:=vH;rcases g with g |g
 ·obtain⟨m,n,o,z⟩:=I.list g;have e:=n.length;exact Calls.call_len_list o.isList (by simp only[size_toArray] <;> omega) ⟨.int f.length,H,I.tok _,⟨s.toks+1,by rw[size_toArray,e]⟩,q⟩
 ·obtain⟨m,n,o,z⟩:=I.tuple g;have e:=n.length;exact len_tuple o (by simp only[size_toArray] <;> omega) ⟨.int f.length,H,I.tok _,⟨s.toks+1,by rw[size_toArray,e]⟩,q⟩
theorem AW:gP X (.builtin "len") (λe H Q=>∃z,e=[.str z]/\z.length<=sizeLine/\Q (.int z.length) H):=by
 intro f s g H e m Q I r h;obtain⟨z,rfl,n,q⟩:=h;obtain⟨u,rfl,t,rfl⟩:=wQ r;have o:=vH;exact len_str (by omega) ⟨.int z.length,H,I.tok _,⟨_,rfl⟩,q⟩
theorem wM:gP X (.type "tuple") (λB H Q=>∃p m,B=[.ref p]/\((SqL X.K H p m/\∀l,H l=none->Q (.ref l) (upd H l (.tup m)))\/(SqT X.K H p m/\Q (.ref p) H))):=by
 intro f s D H B U Q I r h;obtain⟨p,m,rfl,h⟩:=h;obtain⟨u,rfl,N⟩:=wQ r;cases N;rcases h with ⟨x,q⟩ | ⟨x,q⟩
 ·obtain⟨g,y,z,E⟩:=I.list x;have G:=y.length;refine call_tuple_list z.isList (λt kp=>?_) (by simp only[size_toArray] <;> omega);have J:Inv X f D H {s with heap:=t}:=I.kept (t':=s.toks) kp;have R:Inv X f D (upd H t.objs.size (.tup m)) {s with heap:=t.push {cls:=.type "tuple",data:=.seq g.toArray} }:=
   J.laid (t':=s.toks) (λb o e=>get?_push_of_some _ e) (le_refl _) (show eC X.prog X.w _ _ _ (.tup m) from ⟨E,g,y,IsTup.new _ _⟩)
  exact⟨.ref t.objs.size,_,R,rfl,q _ (J.hok.fresh (le_refl _))⟩
 ·obtain⟨g,y,z,E⟩:=I.tuple x;exact call_tuple_same z ⟨.ref p,H,I,rfl,q⟩
def tyV(K:Ma)(T:String)(x:V)(H:Hp):Prop:=match x with
 | .str _=>T = "str"
 | .int _=>T = "int"
 | .ref p=>(T = "list"/\∃f,SqL K H p f)\/(T = "tuple"/\∃o,K.lookup p=some o/\o.cls = .type "tuple"/\o.dict=none)\/
   (T = "dict"/\((∃e,H p=some (.dK e))\/∃e,H p=some (.dT e)))\/(T = "set"/\∃S n,H p=some (.set S n))
 |_=>False
theorem Kv(I:Inv X u J H s)(r:cC x v)(ty:tyV X.K T x H) :
  s.TypeIs v T/\∀a,v = .ref a->∃y,s.heap.get? a=some y/\y.dict=none:=by
 cases x with
 |str z=>
  obtain⟨t,rfl⟩:=r;cases (show T = "str" from ty);exact⟨typeIs_str s z t,λ_ e=>nomatch e⟩
 |int i=>
  obtain⟨t,rfl⟩:=r;cases (show T = "int" from ty);exact⟨typeIs_int s i t,λ_ e=>nomatch e⟩
 |ref p=>
  cases r;rcases ty with ⟨rfl,L,D⟩ | ⟨rfl,o,f,E,g⟩ | ⟨rfl,f⟩ | ⟨rfl,S,n,f⟩
  ·obtain⟨G,_,B,_⟩:=I.list D;refine⟨B.isList.typeIs,λa e=>?_⟩;cases e;obtain⟨o,n,e,c,g,_⟩:=B;exact⟨o,e,g⟩
  ·refine⟨⟨o,I.kIn p o f,E⟩,λa e=>?_⟩;cases e;exact⟨o,I.kIn _ o f,g⟩
  ·have z:∃o,s.heap.get? p=some o/\o.ExactDict:=by
    rcases f with ⟨m,f⟩ | ⟨m,f⟩
    ·obtain⟨_,_,_,_,o,_,_,e,ex,_⟩:=I.hok p _ f;exact⟨o,e,ex⟩
    ·obtain⟨_,_,_,_,o,_,_,e,ex,_⟩:=I.hok p _ f;exact⟨o,e,ex⟩
   obtain⟨o,e,ex⟩:=z;refine⟨⟨o,e,ex.1⟩,λa q=>?_⟩;cases q;exact⟨o,e,ex.2.1⟩
  ·obtain⟨o,_,_,_,e,ex,_⟩:=I.hok p _ f;refine⟨⟨o,e,ex.1⟩,λa q=>?_⟩;cases q;exact⟨o,e,ex.2.1⟩
 |_=>exact False.elim ty
abbrev tBM_2(r:V->Mp->Hp->VK->Prop)(Q:VK)(x:V):Mp->Hp->Prop:=λe H2=>r x e H2 Q
abbrev tBM_1(K:Ma)(T:String)(r:V->Mp->Hp->VK->Prop)(t:TA)(f : St)(Q:VK):V->Hp->Prop:=λx e=>tyV K T x e/\t f e (tBM_2 r Q x)
def tBM(K:Ma)(T:String)(r:V->Mp->Hp->VK->Prop)(f:TE)(t:TA):TE:=λe H Q=>f e H (tBM_1 K T r t e Q)
variable{o e:Expr}{es:List Expr}{to:TE}{t:TA}{name:Str}{apos cpos:Pos}{T id:String}{r:V->Mp->Hp->VK->Prop}
theorem pe_bm(E:PlainAttrs T)(slot:Slot T name id)(q:typeOf (.builtin id)=pure (.type "method_descriptor"))(G:MtR X id r)(J:PE X o to)(L:PA X (e::es) t)
  (m:attributeBase o name X.env (eval o X.env)=eval o X.env:=by rfl)
  (p:((backTo cpos (starEach (e::es) X.env)).all (λx=>!x.1) && (backToKw cpos (keywordEach [] X.env)).all (λx=>x.1.isSome)
   && decide ((e::es).length+([]:List Keyword).length+(if ([]:List Keyword).isEmpty then 0 else 1)<30))=true:=by rfl)
  (n:(apos.endLine == cpos.line)=true:=by rfl) (N:starEach (e::es) X.env=(false,eval e X.env)::starEach es X.env:=by rfl) (g:(backTo cpos (starEach es X.env)).any (·.1)=false:=by rfl) :
  PE X (.Call (.Attribute o name apos) (e::es) [] cpos) (tBM X.K T r to t):=by
 intro f s u H Q I h;refine wpAny_Call_method_late m p n rfl (thn (J f s u H _ I h) λv O y=>?_);obtain⟨x,R,z,B,ty,S⟩:=y;obtain⟨U,V⟩:=Kv z B ty;refine⟨T,id,E,slot,q,U,V,?_⟩;have D:=L cpos f O u R _ z S;rw[N]at D⊢;refine Calls.callWith_builtin (by show (false || (backTo cpos (starEach es X.env)).any (·.1))=false;rw[g] <;> rfl) (Calls.evalArgs_plain ?_);exact thn D λW s2 ⟨Y,H2,Z,r2,q2⟩=>G f s2 u H2 x Y v W Q Z B r2 q2
end
def MtM(X:Cx)(id:String)(r:V->Mp->Hp->VK->Prop):Prop:=
 ∀b s e H(x:V)(f:Mp)(v:Value)(g:Mh)(Q:VK),Inv X b e H s->cC x v->cE f g->r x f H Q->
  wpAny (model X.prog X.w) X.A (call (.builtin id) (v::g)) (EP X b e Q) X.xe s
theorem cE.one:∀{x:V}{b:Mh},cE [x] b->∃u,b=[u]/\cC x u
 |_,_,.cons r .nil=>⟨_,rfl,r⟩
section
variable{X:Cx}{pins:Mb}{σ : St}{H:Hp}{s:Shared}{l b:Addr}{xs ys zs:Mp}
theorem Inv.lset{g its':Mh}{n:Nat}{f:Array Value->Array Value}{r:Nat}(I:Inv X pins σ H s)(t:H l=some (.lst xs))
  (e:s.heap.get? l=some {cls:=.type "list",data:=.seq g.toArray n}) (z:f g.toArray=its'.toArray) (B:cE ys its') (D:ys.length<=sizeLine) :
  Inv X pins σ (upd H l (.lst ys)) {s with heap:=s.heap.update l (Obj.mapSeq f),toks:=r}:=by
 have q:=PySem.IsL.update e f;rw[z]at q;refine I.write (x:=l) (e:=l) (by rw[t];exact trivial) (.inl rfl) (λJ u E G=>(Heap.get?_update_other s.heap (Obj.mapSeq f) (Ne.symm E)).trans G) ⟨_,q⟩ ?_;exact⟨D,its',_,B,q⟩
theorem Inv.lnew(I:Inv X pins σ H s)(n:cE ys e)(o:ys.length<=sizeLine) :
  Inv X pins σ (upd H s.heap.objs.size (.lst ys)) {s with heap:=s.heap.push {cls:=.type "list",data:=.seq e.toArray},toks:=t'}:=
 I.laid (λ_ _ q=>get?_push_of_some _ q) (le_refl _) ⟨o,e,0,n,get?_push_size _ rfl⟩
theorem Inv.fresh(I:Inv X pins σ H s):H s.heap.objs.size=none:=I.hok.fresh (le_refl _)
theorem Inv.lstM(I:Inv X pins σ H s)(m:H l=some (.lst xs)):xs.length<=sizeLine/\∃(f:Mh) (n:Nat),cE xs f/\xs.length=f.length/\s.heap.get? l=some {cls:=.type "list",data:=.seq f.toArray n}:=by
 obtain⟨z,f,n,r,e⟩:=I.hok l _ m;exact⟨z,f,n,r,r.length,e⟩
end
section
variable{X:Cx}
inductive EB(x:V)(vs:Mp)(H:Hp)(Q:VK):Prop
 |mk:∀l xs y,x = .ref l->vs=[y]->H l=some (.lst xs)->xs.length<sizeLine->Q .non (upd H l (.lst (xs++[y])))->EB x vs H Q
theorem iK:MtM X "list.append" EB:=by
 intro f s B H x D v E Q I o p h;obtain⟨l,G,y,rfl,rfl,g,J,q⟩:=h;cases o;obtain⟨u,rfl,t⟩:=p.one;obtain⟨z,b,n,r,L,e⟩:=I.lstM g;refine call_meets F.slot_list_append ⟨_,e,rfl⟩ F.entry_list_append (F.args_list_append_2 _ _) (PySem.list_append l b.toArray n u (by rw[size_toArray];omega)) ⟨e,?_⟩;refine⟨.non,_,I.lset (its':=b++[u]) g e (by simp) (r.append (.cons t .nil)) ?_,rfl,q⟩;rw[length_append,List.length_singleton];omega
inductive LQ(x:V)(y:V)(H:Hp)(Q:VK):Prop
 |mk:∀l b xs zs,x = .ref l->y = .ref b->H l=some (.lst xs)->H b=some (.lst zs)->xs.length+zs.length<=sizeLine->(∀p,H p=none->Q (.ref p) (upd H p (.lst (xs++zs))))->LQ x y H Q
theorem Cv:OpR X (binaryOp .Add) LQ:=by
 intro m s L H x y v u Q I o p h;obtain⟨l,b,N,O,rfl,rfl,t,B,R,q⟩:=h;cases o;cases p;obtain⟨z,g,n,r,S,e⟩:=I.lstM t;obtain⟨U,f,V,D,E,G⟩:=I.lstM B;refine PySem.P.add_list e G ?_ (by rw[size_toArray,size_toArray];omega);have J:g.toArray++f.toArray=(g++f).toArray:=by simp
 rw[J];exact⟨.ref _,_,I.lnew (t':=s.toks) (r.append D) (by rw[length_append];omega),rfl,q _ I.fresh⟩
end
section
variable{prog:Program}{w:World}{A:Around}{E:Mm}{s:Shared}
end
section
variable{X:Cx}
end
section
variable{κ : Type} [DecidableEq κ]
def c9(b:List (κ×V))(k:κ):Option V:=(b.find? λe=>decide (e.1=k)).map (·.2)
def eF(b:List (κ×V))(k:κ)(v:V):List (κ×V):=
 if (b.any λe=>decide (e.1=k))=true then b.map (λe=>if e.1=k then (e.1,v) else e) else b++[(k,v)]
def e7(b:List (κ×V))(k:κ):List (κ×V):=b.filter λe=>decide (e.1≠k)
theorem iO{p:κ×V}{r:List (κ×V)}{k:κ}(e:p.1=k):c9 (p::r) k=some p.2:=by simp [c9,find?_cons,e]
theorem iP{p:κ×V}{r:List (κ×V)}{k:κ}(e:¬p.1=k):c9 (p::r) k=c9 r k:=by simp [c9,find?_cons,e]
theorem oJ(k:κ):∀b:List (κ×V),(b.any λf=>decide (f.1=k))=(c9 b k).isSome
 |[]=>rfl
 |p::r=>by
  rw[any_cons];by_cases e:p.1=k
  ·simp only[iO e,decide_eq_true e,Bool.true_or,Option.isSome_some]
  ·rw[iP e,decide_eq_false e,Bool.false_or];exact oJ k r
theorem mM(b:List (κ×V))(k:κ)(v:V):(eF b k v).length<=b.length+1:=by
 unfold eF;split
 ·rw[length_map];omega
 ·rw[length_append,length_cons,length_nil];omega
theorem BL{b:List (κ×V)}{k:κ}(v:V)(h:c9 b k=none):eF b k v=b++[(k,v)]:=by
 unfold eF;rw[oJ,h];exact if_neg (by decide)
theorem kU.isSome_eq(r:kU o u):o.isSome=u.isSome:=by
 cases o with
 |none=>cases u with
  |none=>rfl
  |some _=>exact(show False from r).elim
 |some _=>cases u with
  |none=>exact(show False from r).elim
  |some _=>rfl
theorem kU.getD(r:kU o u)(b:cC d e):cC (o.getD d) (u.getD e):=by
 cases o with
 |none=>cases u with
  |none=>exact b
  |some _=>exact(show False from r).elim
 |some _=>cases u with
  |none=>exact(show False from r).elim
  |some _=>exact r
theorem KV.val{f:List (κ×V)}{n:List (κ×Value)}(r:KV f n)(k:κ):kU (c9 f k) (valueAt n k):=by
 unfold KV at r
 induction r with
 |nil=>exact True.intro
 | @cons p q x g h t s=>
  obtain⟨o,u⟩:=h;by_cases e:p.1=k
  ·have m:q.1=k:=o.symm.trans e;have b:valueAt (q::g) k=some q.2:=by simp [valueAt,find?_cons,m]
   rw[iO e,b];exact u
  ·have m:¬q.1=k:=λz=>e (o.trans z);have b:valueAt (q::g) k=valueAt g k:=by simp [valueAt,find?_cons,m]
   rw[iP e,b];exact s
theorem KV.any(r:KV b f)(k:κ):(b.any λe=>decide (e.1=k))=f.any λe=>decide (e.1=k):=by
 unfold KV at r
 induction r with
 |nil=>rfl
 |cons h t g=>rw[any_cons,any_cons,g,h.1]
theorem KV.repl(r:KV g m)(k:κ)(n:cC y u) :
  KV (g.map λb=>if b.1=k then (b.1,y) else b) (m.map λb=>if b.1=k then (b.1,u) else b):=by
 unfold KV at r⊢
 induction r with
 |nil=>exact .nil
 | @cons p q x B h t o=>
  rw[map_cons,map_cons];refine .cons ?_ o;obtain⟨f,s⟩:=h;by_cases e:p.1=k
  ·rw[if_pos e,if_pos (f.symm.trans e)];exact⟨f,n⟩
  ·rw[if_neg e,if_neg (λz=>e (f.trans z))];exact⟨f,s⟩
theorem KV.put(r:KV b f)(k:κ)(g:cC y u):KV (eF b k y) (stored f k u):=by
 unfold eF stored;rw[r.any k];by_cases e:(f.any λm=>decide (m.1=k))=true
 ·rw[if_pos e,if_pos e];exact r.repl k g
 ·rw[if_neg e,if_neg e];exact Paired.snoc r ⟨rfl,g⟩
theorem KV.drop(r:KV f n)(k:κ):KV (e7 f k) (without n k):=by
 unfold KV at r⊢;unfold e7 without
 induction r with
 |nil=>exact .nil
 | @cons p q u x h t m=>
  obtain⟨g,o⟩:=h;rw[filter_cons,filter_cons];by_cases e:p.1=k
  ·have a:¬decide (p.1≠k)=true:=by simp [e]
   have b:¬decide (q.1≠k)=true:=by simp [g.symm.trans e]
   rw[if_neg a,if_neg b];exact m
  ·have s:¬q.1=k:=λz=>e (g.trans z);have a:decide (p.1≠k)=true:=by simp [e]
   have b:decide (q.1≠k)=true:=by simp [s]
   rw[if_pos a,if_pos b];exact .cons ⟨g,o⟩ m
theorem KV.length(r:KV b e):b.length=e.length:=Paired.length r
theorem IV(b:List (κ×V))(k:κ):(e7 b k).length<=b.length:=length_filter_le _ _
end
theorem nS(r:cC (kV k) u):(bF P w).is k u=true:=by
 cases k with
 |inl i=>obtain⟨t,e⟩:=(show ∃t,u=Value.int i t from r);subst e;exact Be P w i t
 |inr x=>obtain⟨t,e⟩:=(show ∃t,u=Value.str x t from r);subst e;exact Bd P w x t
theorem yA:∀{b:List Key}{e:Mh},cE (b.map kV) e->ItemsAre (bF P w) b e
 |[],_,r=>by rw[map_nil]at r;cases r;exact .nil
 |k::b,_,r=>by
  rw[map_cons]at r;cases r with
  |cons h t=>exact .cons (nS h) (yA t)
abbrev KT(H:Hp):List (List Key×V)->List (List Key×Addr×Value)->Prop:=Paired λp q=>p.1=q.1/\H q.2.1=some (.tup (p.1.map kV))/\cC p.2 q.2.2
theorem KT.val{H:Hp}{f:List (List Key×V)}{n:List (List Key×Addr×Value)}(r:KT H f n)(k:List Key):kU (c9 f k) ((atKey n k).map (·.2)):=by
 induction r with
 |nil=>exact True.intro
 | @cons p q x g h t s=>
  obtain⟨o,_,u⟩:=h;by_cases e:p.1=k
  ·have m:q.1=k:=o.symm.trans e;have b:atKey (q::g) k=some q.2:=by simp [atKey,find?_cons,m]
   rw[iO e,b];exact u
  ·have m:¬q.1=k:=λz=>e (o.trans z);have b:atKey (q::g) k=atKey g k:=by simp [atKey,find?_cons,m]
   rw[iP e,b];exact s
theorem KT.repl(r:KT H f n)(k:List Key)(o:cC y u) :
  KT H (f.map λg=>if g.1=k then (g.1,y) else g) (n.map (putAt k u)):=by
 induction r with
 |nil=>exact .nil
 | @cons p q B D h t s=>
  rw[map_cons,map_cons];refine .cons ?_ s;obtain⟨b,m,x⟩:=h;unfold putAt;by_cases e:p.1=k
  ·rw[if_pos e,if_pos (b.symm.trans e)];exact⟨b,m,o⟩
  ·rw[if_neg e,if_neg (λz=>e (b.trans z))];exact⟨b,m,x⟩
theorem KT.put(r:KT H f g)(k:List Key)(n:H b=some (.tup (k.map kV)))(m:cC y u) :
  KT H (eF f k y) (storedH g k b u):=by
 have e:(f.any λo=>decide (o.1=k))=(atKey g k).isSome:=by
  rw[oJ,(r.val k).isSome_eq,Option.isSome_map]
 unfold eF storedH;rw[e];by_cases q:(atKey g k).isSome=true
 ·rw[if_pos q,if_pos q];exact r.repl k m
 ·rw[if_neg q,if_neg q];exact Paired.snoc r ⟨rfl,n,m⟩
theorem KT.keeps(r:KT H e g)(m:∀b f,H b=some (.tup f)->n b=some (.tup f)):KT n e g:=
 Paired.mapP r λ_ _ z=>⟨z.1,m _ _ z.2.1,z.2.2⟩
section
variable{P:Program}{w:World}{H:Hp}{h:Heap}{a:Addr}
theorem Ke(ok:HOk P w H h)(e:Rd H a u):eC P w H h a u:=e.ok ok
theorem yM(ok:HOk P w H h)(e:Rd H a (.dK b)):b.length<=sizeLine/\(a == sysModules)=false/\∃f,KV b f/\h.DictOf (bF P w) a f:=
 show eC P w H h a (.dK b) from Ke ok e
theorem r8(ok:HOk P w H h)(e:H a=some (.dK b)):b.length<=sizeLine/\(a == sysModules)=false/\∃f,KV b f/\h.DictOf (bF P w) a f:=yM ok (.inl e)
theorem oF(ok:HOk P w H h)(e:H a=some (.tup (ks.map kV))):(tupleKind (bF P w)).is h ks a:=by
 obtain⟨_,b,r,o,f,g,n,m⟩:=(show eC P w H h a (.tup (ks.map kV)) from ok a _ e);exact⟨o,b.toArray,n,f,g,m,by simpa using yA r⟩
theorem yG(ok:HOk P w H h)(e:Rd H a (.dT b)):b.length<=sizeLine/\(a == sysModules)=false/\
  ∃g,KT H b g/\h.DictOfH (tupleKind (bF P w)) a g:=by
 obtain⟨z,y,g,r,o,s,u,B,D,E,G,I⟩:=(show eC P w H h a (.dT b) from Ke ok e);refine⟨z,y,g,r,o,s,u,B,D,E,G,λx f=>?_,I⟩;have all:∀{l:List (List Key×V)}{m:List (List Key×Addr×Value)},KT H l m->∀x∈m,(tupleKind (bF P w)).is h x.1 x.2.1:=by
  intro l m q
  induction q with
  |nil=>intro x f;exact nomatch f
  | @cons p q L N n t J=>
   intro x f;rcases mem_cons.mp f with e |f
   ·subst e;exact oF ok (by rw[<- n.1];exact n.2.1)
   ·exact J x f
 exact all r x f
theorem dt_of(ok:HOk P w H h)(e:H a=some (.dT b)):b.length<=sizeLine/\(a == sysModules)=false/\
  ∃f,KT H b f/\h.DictOfH (tupleKind (bF P w)) a f:=yG ok (.inl e)
end
def cR(H:Hp)(a:Addr)(y:V)(r:Option V):Prop:=
 (∃e k,Rd H a (.dK e)/\y=kV k/\r=c9 e k)\/∃e k b,Rd H a (.dT e)/\y = .ref b/\H b=some (.tup (k.map kV))/\r=c9 e k
def jU(H:Hp)(a:Addr)(y v:V)(f:Hp):Prop:=
 (∃e k,H a=some (.dK e)/\y=kV k/\e.length<sizeLine/\f=upd H a (.dK (eF e k v)))\/
 ∃e k b,H a=some (.dT e)/\y = .ref b/\H b=some (.tup (k.map kV))/\e.length<sizeLine/\f=upd H a (.dT (eF e k v))
theorem cR.k{H:Hp}{a:Addr}{b:Mn}{k:Key}(e:H a=some (.dK b)):cR H a (kV k) (c9 b k):=.inl ⟨b,k,.inl e,rfl,rfl⟩
theorem jU.k{H:Hp}{a:Addr}{b:Mn}{k:Key}{v:V}(e:H a=some (.dK b))(f:b.length<sizeLine):jU H a (kV k) v (upd H a (.dK (eF b k v))):=.inl ⟨b,k,e,rfl,f,rfl⟩
section
variable{X:Cx}{pins:Mb}{σ : St}{H:Hp}{s:Shared}{a:Addr}{y v:V}{u r:Value}{o:Option V}{A:Around}{E:Mm}
theorem Inv.big(I:Inv X pins σ H s):sysModules<s.heap.objs.size:=by
 have h:mainGlobals<s.heap.objs.size:=(I.mod.glob.keeps I.bk).lt;exact lt_trans (by decide) h
theorem yQ(J:A.units+1<cLine)(I:Inv X pins σ H s)(g:cR H a y (some v))(D:cC y u)(h:∀n G,Inv X pins σ H G->cC v n->Q n G) :
  wpAny (model X.prog X.w) A (getItem (.ref a) u) Q E s:=by
 rcases g with ⟨q,k,e,t,l⟩ | ⟨q,k,b,e,t,L,l⟩
 ·subst t;obtain⟨z,N,O,f,x⟩:=yM I.hok e;obtain⟨n,hw,m⟩:=kU.some_of (v:=v) (o:=valueAt O k) (by rw[l];exact f.val k);exact wpAny_getItem_of (nS D) x.mapOf hw (h n _ (I.tok _) m)
 ·subst t;cases (show u=Value.ref b from D);obtain⟨z,N,R,f,x⟩:=yG I.hok e;obtain⟨n,hw,m⟩:=kU.some_of (v:=v) (o:=(atKey R k).map (·.2)) (by rw[l];exact f.val k);obtain⟨p,S,B⟩:=Option.map_eq_some_iff.mp hw;refine wpAny_getItem_heap (tupleKind_room_in1 J) (oF I.hok L) x S ?_;rw[B];exact h n _ (I.tok _) m
theorem d_in(D:A.units+1<cLine)(I:Inv X pins σ H s)(g:cR H a y o)(x:cC y u)(h:∀B,Inv X pins σ H B->Q (.bool o.isSome) B) :
  wpAny (model X.prog X.w) A (compareOp .In u (.ref a)) Q E s:=by
 rcases g with ⟨m,k,e,n,l⟩ | ⟨m,k,b,e,n,G,l⟩
 ·subst n;obtain⟨z,p,J,f,t⟩:=yM I.hok e;refine wpAny_in_of (nS x) p t.mapOf ?_;rw[<- (f.val k).isSome_eq,<- l];exact h _ (I.tok _)
 ·subst n;cases (show u=Value.ref b from x);obtain⟨z,p,L,f,t⟩:=yG I.hok e;refine wpAny_in_heap (tupleKind_room_in1 D) (oF I.hok G) p t ?_;have q:=(f.val k).isSome_eq;rw[Option.isSome_map]at q;rw[<- q,<- l];exact h _ (I.tok _)
theorem KB(D:A.units+1<cLine)(I:Inv X pins σ H s)(g:cR H a y o)(x:cC y u)(h:∀B,Inv X pins σ H B->Q (.bool (!o.isSome)) B) :
  wpAny (model X.prog X.w) A (compareOp .NotIn u (.ref a)) Q E s:=by
 rcases g with ⟨m,k,e,n,l⟩ | ⟨m,k,b,e,n,G,l⟩
 ·subst n;obtain⟨z,p,J,f,t⟩:=yM I.hok e;refine wpAny_notIn_of (nS x) p t.mapOf ?_;rw[<- (f.val k).isSome_eq,<- l];exact h _ (I.tok _)
 ·subst n;cases (show u=Value.ref b from x);obtain⟨z,p,L,f,t⟩:=yG I.hok e;refine wpAny_notIn_heap (tupleKind_room_in1 D) (oF I.hok G) p t ?_;have q:=(f.val k).isSome_eq;rw[Option.isSome_map]at q;rw[<- q,<- l];exact h _ (I.tok _)
theorem tG(I:Inv X pins σ H s)(p:Mut (H a))(t:Heap.SameBut a s.heap f)(B:∃q,f.get? a=some q)(new:eC X.prog X.w (upd H a g) f a g) :
  Inv X pins σ (upd H a g) {s with heap:=f,toks:=G}:=
 I.write (x:=a) (e:=a) p (.inl rfl) (λb q D z=>(t.2 b D).trans z) B new
theorem DR(z:b.length<=sizeLine)(g:(a == sysModules)=false)(e:KV b f)(m:n.DictOf (bF P w) a f) :
  eC P w p n a (.dK b):=⟨z,g,f,e,m⟩
theorem yP(Y:A.units+1<cLine)(I:Inv X pins σ H s)(g:jU H a y v Z)(O:cC y u)(R:cC v r)(h:∀S,Inv X pins σ Z S->Q () S) :
  wpAny (model X.prog X.w) A (setItem (.ref a) u r) Q E s:=by
 rcases g with ⟨f,k,e,t,l,x⟩ | ⟨f,k,b,e,t,U,l,x⟩
 ·subst t x;obtain⟨z,B,vs,m,D⟩:=r8 I.hok e;have G:vs.length<=sizeLine:=by rw[<- m.length];exact z
  have J:(eF f k v).length<=sizeLine:=by have:=mM f k v;omega
  refine wpAny_setItem_pairs (hsz:=G) (nS O) D λV n N=>h _ ?_;have he:∃q,V.get? a=some q:=let ⟨q,_,_,p,_⟩:=n;⟨q,p⟩;exact tG I (by rw[e];exact True.intro) N he (DR J B (m.put k R) n)
 ·subst t x;cases (show u=Value.ref b from O);obtain⟨z,B,xs,m,D⟩:=dt_of I.hok e;have G:xs.length<=sizeLine:=by rw[<- Paired.length m];exact z
  have J:(eF f k v).length<=sizeLine:=by have:=mM f k v;omega
  refine wpAny_setItem_heap (hsz:=G) (tupleKind_room_in1 Y) (oF I.hok U) D λV n N=>h _ ?_;obtain⟨q,es,ep,p,h2,h3,h4,_,h5⟩:=n;refine tG I (by rw[e];exact True.intro) N ⟨q,p⟩ ⟨J,B,_,(m.put k U R).keeps λc ys W=>?_,q,es,ep,p,h2,h3,h4,h5⟩;rw[aH (ne_of W e (λz=>nomatch z))];exact W
end
section
variable{X:Cx}{pins:Mb}{σ : St}{H:Hp}{s:Shared}{a:Addr}{kvs:Mn}{k:Key}{u:Value}{A:Around}{E:Mm}
theorem d_pop(I:Inv X pins σ H s)(e:H a=some (.dK kvs))(n:cC (kV k) u)(l:c9 kvs k=some v)(r:b=[]\/∃x,b=[x])
  (h:∀g y,Inv X pins σ (upd H a (.dK (e7 kvs k))) y->cC v g->Q g y):wpAny (model X.prog X.w) A (call (.builtin "dict.pop") (.ref a::u::b)) Q E s:=by
 obtain⟨z,G,B,f,D⟩:=r8 I.hok e;obtain⟨g,hw,p⟩:=kU.some_of (v:=v) (o:=valueAt B k) (by rw[<- l];exact f.val k);have J:(keyPart u).isSome=true:=by
  cases k with
  |inl i=>obtain⟨t,q⟩:=(show ∃t,u=Value.int i t from n);subst q;rfl
  |inr x=>obtain⟨t,q⟩:=(show ∃t,u=Value.str x t from n);subst q;rfl
 have L:argsOk "dict.pop" ⟨.ref a::u::b,[]⟩:=by
  rcases r with q | ⟨x,q⟩
  ·subst q;exact PySem.F.args_dict_pop_2 _ _
  ·subst q;exact PySem.F.args_dict_pop_3 _ _ _
 refine call_meetsIn PySem.F.slot_dict_pop D.typeIs PySem.F.entry_dict_pop L (meets_dict_pop_there (bF X.prog X.w) a (nS n) b r J)
  ⟨B,g,D,by rw[<- f.length];exact z,hw,λN m O=>h g _ ?_ p⟩
 have R:∃q,N.get? a=some q:=let ⟨q,_,_,S,_⟩:=m;⟨q,S⟩;exact tG I (by rw[e];exact True.intro) O R (DR (le_trans (IV kvs k) z) G (f.drop k) m)
end
def MS(i:Expr):Prop:=∀b e,subscripted i false b e=operate [b,e] (getItem b e)
theorem Dl{b:Program}{w:World}{A:Around}{E:Mm}{s:Shared}{q:Env}{f e:Expr}{y:Pos}{T id:String}{Q:Mm}
  (B:typeLookup (.type T) "__getitem__" = pure (some (.builtin id))) (D:MS e)
  (h:wpAny (model b w) A (eval f q) (λo n=>wpAny (model b w) A (eval e q) (λi g=>g.TypeIs o T/\wpAny (model b w) A (getItem o i) Q E g) E n) E s) :
  wpAny (model b w) A (eval (.Subscript f e y) q) Q E s:=by
 refine Subscript_ (wpAny_mono h (λo n t=>wpAny_mono t (λi g m=>?_) λ_ _ x=>x) λ_ _ x=>x);obtain⟨z,m⟩:=m;unfold subscriptTail;refine wpAny_bind ?_;rw[getitemInPython_of_ne z.not_modules];refine wpAny_bind (wpAny_specialOf z B ?_);have fin:wpAny (model b w) A (subscripted e false o i) (λr p=>wpAny (model b w) A (letTemporaryGo f o r >>= λ_=>pure r) Q E p) E g:=by
  rw[D o i];exact wpAny_operating (wpAny_mono m (λr p u=>wpAny_bind (wpAny_letTemporaryGo (wpAny_pure u))) λ_ _ x=>x)
 first
  |exact wpAny_pure (wpAny_bind fin)
  |exact wpAny_bind (wpAny_pure (wpAny_bind fin))
  |exact wpAny_bind fin
theorem B6(I:Inv X n p H s)(g:cR H a y o):s.TypeIs (.ref a) "dict":=by
 rcases g with ⟨f,k,e,_,_⟩ | ⟨f,k,b,e,_,_,_⟩
 ·obtain⟨_,_,q,_,m⟩:=yM I.hok e;exact m.typeIs
 ·obtain⟨_,_,r,_,m⟩:=yG I.hok e;exact m.typeIs
inductive Dg(Q:VK)(x:V)(y:V)(H2:Hp):Prop
 |mk:∀a v,x = .ref a->cR H2 a y (some v)->Q v H2->Dg Q x y H2
abbrev JB(ty:TE)(b : St)(Q:VK):V->Hp->Prop:=λx e=>ty b e (Dg Q x)
def An(e ty:TE):TE:=λb H Q=>e b H (JB ty b Q)
inductive GV(Q:VK)(y:V)(x:V)(H2:Hp):Prop
 |mk:∀a o,x = .ref a->cR H2 a y o->Q (.bl o.isSome) H2->GV Q y x H2
abbrev LA(b:TE)(e : St)(Q:VK):V->Hp->Prop:=λy f=>b e f (GV Q y)
def tDIn(ty e:TE):TE:=λb H Q=>ty b H (LA e b Q)
inductive wV(Q:VK)(y:V)(x:V)(H2:Hp):Prop
 |mk:∀a o,x = .ref a->cR H2 a y o->Q (.bl (!o.isSome)) H2->wV Q y x H2
abbrev Ex(b:TE)(e : St)(Q:VK):V->Hp->Prop:=λy f=>b e f (wV Q y)
def JA(ty e:TE):TE:=λb H Q=>ty b H (Ex e b Q)
inductive D5(D:Ends)(σ : St)(v:V)(x:V)(y:V)(H3:Hp):Prop
 |mk:∀a H4,x = .ref a->jU H3 a y v H4->D.nx σ H4->D5 D σ v x y H3
abbrev JN(ty:TE)(D:Ends)(b : St)(v:V):V->Hp->Prop:=λx H2=>ty b H2 (D5 D b v x)
abbrev JO(e:TE)(ty:TE)(D:Ends)(b : St):V->Hp->Prop:=λv f=>e b f (JN ty D b v)
def Kb(e ty f:TE):TS:=λD b H=>f b H (JO e ty D b)
inductive D6(D:Ends)(σ : St)(y:V)(a:Addr)(z:V)(H4:Hp):Prop
 |mk:∀H5,jU H4 a y z H5->D.nx σ H5->D6 D σ y a z H4
abbrev JP(b:V->V->Hp->VK->Prop)(D:Ends)(e : St)(y:V)(a:Addr)(v:V):V->Hp->Prop:=λf g=>b v f g (D6 D e y a)
inductive D8(tv:TE)(rd:V->V->Hp->VK->Prop)(D:Ends)(σ : St)(x:V)(y:V)(H2:Hp):Prop
 |mk:∀a v,x = .ref a->cR H2 a y (some v)->tv σ H2 (JP rd D σ y a v)->D8 tv rd D σ x y H2
abbrev JQ(ty:TE)(e:TE)(f:V->V->Hp->VK->Prop)(D:Ends)(b : St):V->Hp->Prop:=λx g=>ty b g (D8 e f D b x)
def Kd(e ty f:TE)(g:V->V->Hp->VK->Prop):TS:=λD b H=>e b H (JQ ty f g D b)
section
variable{X:Cx}{o i e value:Expr}{pos pos' tpos:Pos}{td ty tv:TE}
theorem dO(q:X.A.units+1<cLine)(r:PE X o td)(t:PE X i ty)(z:MS i):PE X (.Subscript o i pos) (An td ty):=by
 intro b s n H Q I h;refine Dl PySem.F.slot_dict_getitem.lookup z (thn (r b s n H _ I h) λu B ⟨x,D,E,G,J⟩=>thn (t b B n D _ E J) λR s2 f=>?_);obtain⟨y,H2,p,L,a,v,ex,g,N⟩:=f;subst ex;obtain rfl:u=Value.ref a:=G;exact⟨B6 p g,yQ q p g L λS U O m=>⟨v,H2,O,m,N⟩⟩
theorem HN(n:X.A.units+1<cLine)(p:PE X i ty)(q:PE X o td):PC X .In i o (tDIn ty td):=by
 intro b s m H Q I h;refine thn (p b s m H _ I h) λO r ⟨y,t,z,B,D⟩=>thn (q b r m t _ z D) λu s2 f=>?_;obtain⟨x,H2,E,G,a,J,ex,g,L⟩:=f;subst ex;obtain rfl:u=Value.ref a:=G;exact d_in n E g B λR N=>⟨.bl J.isSome,H2,N,rfl,L⟩
theorem nA(n:X.A.units+1<cLine)(p:PE X i ty)(q:PE X o td):PC X .NotIn i o (JA ty td):=by
 intro b s m H Q I h;refine thn (p b s m H _ I h) λO r ⟨y,t,z,B,D⟩=>thn (q b r m t _ z D) λu s2 f=>?_;obtain⟨x,H2,E,G,a,J,ex,g,L⟩:=f;subst ex;obtain rfl:u=Value.ref a:=G;exact KB n E g B λR N=>⟨.bl (!J.isSome),H2,N,rfl,L⟩
theorem fM(n:X.A.units+1<cLine)(p:PE X o td)(q:PE X i ty)(t:PE X value tv)(z:swapsWith value (some (.Subscript o i pos')) pos.line X.env=pure false) :
  PS X (.Assign [.Subscript o i pos'] value pos) (Kb td ty tv):=by
 intro b s f H D I h;refine wpAny_Assign_Subscript (thn (t b s f H _ I h) λr B ⟨v,E,G,J,L⟩=>thn (p b B f E _ G L) λu s2 ⟨x,H2,N,O,Q⟩=>thn (q b s2 f H2 _ N Q) λY Z m=>?_) z;obtain⟨y,H3,R,S,a,U,ex,g,V⟩:=m;subst ex;obtain rfl:u=Value.ref a:=O;exact yP n R g S J λs4 W=>⟨f,U,W,V⟩
theorem zQ{B:Operator}{E:V->V->Hp->VK->Prop}(G:X.A.units+1<cLine)(L:PE X o td)(N:PE X i ty)(O:PE X value tv)(q:KJ X B E)
  (Q:∀p m new,augStore i p m new=(do holding [new,p,m] (setItem p m new);release [new,p,m] [];pure .next)):PS X (.AugAssign (.Subscript o i tpos) B value pos) (Kd td ty tv E):=by
 intro b s n H D I h;refine wpAny_AugAssign_SubscriptAny (thn (L b s n H _ I h) λu R ⟨x,S,U,W,Y⟩=>thn (N b R n S _ U Y) λm s2 f=>?_) Q;obtain⟨y,H2,Z,J,a,v,ex,g,q2⟩:=f;subst ex;obtain rfl:u=Value.ref a:=W;refine yQ G Z g J λw' s3 I3 r=>thn (O b s3 n H2 _ I3 q2) λw2 s4 ⟨y2,H3,I4,t,q3⟩=>thn (q b s4 n H3 v y2 w' w2 _ I4 r t q3) λw3 s5 f=>?_;obtain⟨z,H4,I5,rz,H5,g5,q4⟩:=f;exact yP G I5 g5 J rz λs6 I6=>⟨n,H5,I6,q4⟩
end
theorem B5(h:Heap)(e:sysModules<h.objs.size):eC P w H (h.push {cls:=.type "dict",data:=.dict #[] }) h.objs.size (.dK []):=
 ⟨zero_le _,beq_eq_false_iff_ne.mpr (Ne.symm (ne_of_lt e)),[],.nil,Heap.DictOf.new h⟩
def K9:TE:=λ_ H Q=>∀p,H p=none->Q (.ref p) (upd H p (.dK []))
section
variable{X:Cx}{pos:Pos}
theorem i4:PE X (.Dict [] [] pos) K9:=λb s e H Q I h=>
 wpAny_Dict_empty ⟨.ref s.heap.objs.size,_,I.laid (a:=s.heap.objs.size) (o:=.dK []) (t':=s.toks) (λ_ _ q=>get?_push_of_some _ q) (le_refl _) (B5 s.heap I.big),rfl,h _ (I.hok.fresh (le_refl _))⟩
end
def CZ:List (TE×TE)->St->Hp->(List (V×V)->Hp->Prop)->Prop
 |[],_,H,Q=>Q [] H
 | (e,f)::r,b,H,Q=>e b H λx g=>f b g λy H2=>CZ r b H2 λm n=>Q ((x,y)::m) n
abbrev VV:List (V×V)->List (Value×Value)->Prop:=Paired λp q=>cC p.1 q.1/\cC p.2 q.2
def PPs(X:Cx)(g:Pos)(f:List (Option Expr))(b:List Expr)(m:List (TE×TE)):Prop:=
 ∀e s n H(Q:List (V×V)->Hp->Prop),Inv X e n H s->CZ m n H Q->
  wpAny (model X.prog X.w) X.A (evalPairs (pairTrees f b X.env g)) (λq r=>∃o p,Inv X e n p r/\VV o q/\Q o p) X.xe s
theorem JU{X:Cx}{b:Pos}:PPs X b [] [] []:=λe s f H Q I h=>pairTrees_nil_walk ⟨[],H,I,.nil,h⟩
theorem iZ{X:Cx}{e:Pos}{k v:Expr}{n:List (Option Expr)}{o:List Expr}{p q:TE}{f:List (TE×TE)}(r:PE X k p)(t:PE X v q)(hr:PPs X e n o f) :
  PPs X e (some k::n) (v::o) ((p,q)::f):=λb s g H Q I h=>
 pairTrees_cons_walk (thn (r b s g H _ I h) λu z ⟨x,B,D,E,G⟩=>thn (t b z g B _ D G) λV s2 ⟨y,H2,J,L,N⟩=>
  thn (hr b s2 g H2 _ J N) λW Y ⟨O,R,S,m,U⟩=>⟨(x,y)::O,R,S,.cons ⟨E,L⟩ m,U⟩)
def qV(e b:Mn):Mn:=b.foldl (λf g=>eF f g.1 g.2) e
theorem KV.merge:∀{b:Mn}{m:List (Key×Value)}{f:Mn}{g:List (Key×Value)},KV b m->KV f g->KV (qV f b) (merged g m):=by
 intro b m f g r;unfold KV at r
 induction r generalizing f g with
 |nil=>intro q;exact q
 | @cons p q s u h t n=>
  intro o;have e:KV (eF f p.1 p.2) (stored g q.1 q.2):=by
   have:=o.put p.1 h.2;rw[<- h.1];exact this
  exact n e
theorem nR:∀(e b:Mn),(qV b e).length<=b.length+e.length
 |[],b=>by show b.length<=b.length+0;omega
 |p::r,b=>by
  have f:=nR r (eF b p.1 p.2);have g:=mM b p.1 p.2;show (qV (eF b p.1 p.2) r).length<=_;rw[length_cons];omega
theorem vX:∀{e:Mn}{g:List (Value×Value)},VV (e.map λm=>(kV m.1,m.2)) g->∃f,Carries (bF P w) g f/\KV e f
 |[],_,r=>by rw[map_nil]at r;cases r;exact⟨[],True.intro,.nil⟩
 |p::e,_,r=>by
  rw[map_cons]at r;cases r with
  | @cons a b o s h t=>
   obtain⟨f,c,q⟩:=vX (P:=P) (w:=w) t;obtain⟨u,n⟩:=b;exact⟨(p.1,n)::f,⟨nS h.1,rfl,c⟩,.cons ⟨rfl,h.2⟩ q⟩
def tDisp(e:List (TE×TE)):TE:=λg H Q=>∀p,H p=none->CZ e g (upd H p (.dK [])) λm H2=>H2 p=some (.dK [])/\∃b:Mn,m=b.map (λf=>(kV f.1,f.2))/\b.length<=15/\Q (.ref p) (upd H2 p (.dK (qV [] b)))
theorem Jd{X:Cx}{g:Pos}{b:List (Option Expr)}{f:List Expr}{m:List (TE×TE)}(h:PPs X g b f m)(n:b.all (·.isSome)=true)(G:b.length=f.length)(J:b≠[])
  (u:b.length<=15):PE X (.Dict b f g) (tDisp m):=by
 intro p s L H Q I q;have N:=I.hok.fresh (le_refl s.heap.objs.size);have O:=I.laid (a:=s.heap.objs.size) (o:=.dK []) (h':=s.heap.push {cls:=.type "dict",data:=.dict #[] }) (t':=s.toks) (λ_ _ q=>get?_push_of_some _ q) (le_refl _) (B5 s.heap I.big);refine wpAny_Dict_walk (knd:=bF X.prog X.w) n G J u (thn (h p _ L _ _ O (q _ N)) λws s2 x=>?_);obtain⟨ps,H2,E,y,e,r,U,lk,V⟩:=x;subst U;obtain⟨W,c,Y⟩:=vX (P:=X.prog) (w:=X.w) y;obtain⟨z,Z,aa,r0,dd⟩:=r8 E.hok e;cases r0;refine⟨W,c,dd,λB t hs=>⟨.ref s.heap.objs.size,_,?_,rfl,V⟩⟩;have hz:(qV [] r).length<=sizeLine:=by
  have h1:=nR r [];rw[length_nil]at h1;rw[sizeLine_eq];omega
 have he:∃q,B.get? s.heap.objs.size=some q:=let ⟨q,_,_,hq,_⟩:=t;⟨q,hq⟩;exact tG E (by rw[e];exact True.intro) hs he (DR hz Z (Y.merge .nil) t)
structure M1(X:Cx)(o:Expr)(m:Str)(apos:Pos)(e:Expr)(cpos:Pos):Prop where
 base:attributeBase o m X.env (eval o X.env)=eval o X.env
 few:((backTo cpos (starEach [e] X.env)).all (λx=>!x.1) && (backToKw cpos (keywordEach [] X.env)).all (λx=>x.1.isSome)
  && decide (([e]:List Expr).length+([]:List Keyword).length+(if ([]:List Keyword).isEmpty then 0 else 1)<30))=true
 line:(apos.endLine == cpos.line)=true
 trees:backTo cpos (starEach [e] X.env)=[(false,eval e X.env)]
section
variable{X:Cx}{pins:Mb}{σ : St}{H:Hp}{s:Shared}{a:Addr}{y d:V}{u r:Value}{o:Option V}{A:Around}{E:Mm}
theorem ML(G:A.units+1<cLine)(I:Inv X pins σ H s)(g:cR H a y o)(t:cC y u)(x:cC d r)(h:∀B D,Inv X pins σ H D->cC (o.getD d) B->Q B D) :
  wpAny (model X.prog X.w) A (call (.builtin "dict.get") [.ref a,u,r]) Q E s:=by
 rcases g with ⟨n,k,e,p,l⟩ | ⟨n,k,b,e,p,J,l⟩
 ·subst p;obtain⟨z,q,N,f,m⟩:=yM I.hok e;refine call_meetsIn PySem.F.slot_dict_get m.typeIs PySem.F.entry_dict_get (PySem.F.args_dict_get_3 _ _ _) (meets_dict_get_default (bF X.prog X.w) a (nS t) q r) ⟨_,m.mapOf,h _ _ (I.tok _) ?_⟩;rw[l];exact(f.val k).getD x
 ·subst p;cases (show u=Value.ref b from t);obtain⟨z,q,L,f,m⟩:=yG I.hok e;refine call_meetsIn PySem.F.slot_dict_get m.typeIs PySem.F.entry_dict_get (PySem.F.args_dict_get_3 _ _ _) (meetsH_dict_get_default (tupleKind (bF X.prog X.w)) a b q r) ⟨tupleKind_room_in1 G,k,L,oF I.hok J,m,h _ _ (I.tok _) ?_⟩;rw[l];exact(f.val k).getD x
end
section
variable{X:Cx}{o e f:Expr}{apos cpos:Pos}{td ty tx:TE}
end
section
variable{X:Cx}{pins:Mb}{σ : St}{H:Hp}{s:Shared}{a:Addr}{kvs:Mn}{A:Around}{E:Mm}
end
section
variable{X:Cx}{pins:Mb}{σ : St}{H:Hp}{s:Shared}{a:Addr}{y:V}{u:Value}{A:Around}{E:Mm}
end
end L2
namespace Att
open PySem PySem.W PySem.Calls PyProof.Rows
theorem sL:∀(e:Mf)(f:Mh),WellAll P h f (e.map WData.int)->IntsAre f e:=by
 intro e
 induction e with
 |nil=>
  intro f w;rw[map_nil]at w;cases w;exact .nil
 |cons n e g=>
  intro f w;rw[map_cons]at w;cases w with
  |cons a b=>
   cases a;exact .cons _ _ (g _ b)
theorem E2{l:OpenLaw}{n:Nat}(B:l.most=some n){P:Params}{h:Heap}{b:List WData}{f:Mh}
  (g:l.row.toRowW.claim.pre b=true) (t:WellAll P h f b) :
  ∃a x e,f=[Value.ref a]/\b=[WData.list (e.map WData.int)]/\h.get? a=some {cls:=.type "list",data:=.seq x.toArray}/\IntsAre x e/\e.length<=n:=by
 have u:WShape.hasAll [] b [.list .int]=true:=(pre_splitW g).1;have z:l.pre.holds [] {args:=b}=true:=(pre_splitW g).2;obtain⟨d,r,rfl,E,G⟩:=hasAllW_cons u;obtain rfl:=hasAllW_nil G;obtain⟨O,rfl,H⟩:=hasW_list E;obtain⟨e,rfl⟩:=items_int H;have m:e.length<=n:=by
  unfold OpenLaw.pre at z;have p:(WTm.not (.lt (.lit (.int (n:Int))) (.len (.arg 0)))).holds [] {args:=[.list (e.map .int)] }=true:=by
   have p:=(holds_andW z).1;rw[B]at p;exact p
  have s:=condW_of p (w_not (w_lt w_lit (w_len_list (w_arg rfl))));rw[length_map]at s;refine Nat.le_of_not_lt λq=>?_;have I:(n:Int)<((e.length:Nat):Int):=by omega
  first
   | (rw[decide_eq_true I]at s;exact absurd s (by decide))
   | (simp at s;omega)
 cases t with
 |cons J L=>
  cases L;cases J with
  |list N o=>exact⟨_,_,e,rfl,rfl,N,sL e _ o,m⟩
theorem E9(l:OpenLaw)(b:List WData):l.row.toRowW.claim.post b (.bool true) b=true:=
 postW_of (r:=l.row.toRowW) (X:=(true == true))
  (show WShape.has [] (.bool true) .bool=true by first |rfl |decide |simp [WShape.has,WShape.arms,WShape.armsAll])
  (show (WTm.eq .res (.lit (.bool true))).value [] {args:=b,res:=some (.bool true),after:=b}=some (.bool (true == true)) from w_eq_bool (w_res rfl) w_lit) rfl
theorem CK{l:OpenLaw}{n:Nat}{q:Program}{e:Mg}{XP:(Mc)->Heap->Prop}{O:World->Heap->Prop}{d:DefRec}
  (W:l.most=some n) (E:d.params.defaults=[])
  (call:∀(w:World)(g b : Shared)(mg H:Mc)(t:Addr)(o:Obj)(I z m:Value)(a:Addr)(s:Mh)(B:Mf),
   Ground q e [] XP w g mg H b.heap->O w b.heap->
   b.heap.get? t=some o->o.data = .func (docDef d.name d.params d.body d.scope I z m)->b.heap.CodeRec z d.name->mg d.name=some (.ref t)->
   b.heap.get? a=some {cls:=.type "list",data:=.seq s.toArray}->IntsAre s B->B.length<=n->b.gens = #[]->
   codeAny (model l.prog w) callerA (.call (.ref t) ⟨[.ref a],[]⟩) (λr D=>r = .ok (.ret (.bool true))/\OldK b.heap D.heap/\D.os=b.os/\AllBare D.gens) b) :
  WalkO q e XP O l.row.toRowW d [] (λf s=>PySem.call f s):=by
 intro w g b mg H G Y t o I z m Z kV ho hd J R L hg S U as u V aa N ab;obtain rfl:Z = .none:=Dflts.none R E;obtain rfl:kV = .none:=Dflts.noKw R;obtain⟨a,s,B,rfl,rfl,x,p,y⟩:=E2 W u N;refine enter_call (codeAny_mono (call w g b mg H t o I z m a s B G Y ho (fd_plain hd) J L x p y hg) λr D hq=>?_);obtain⟨rfl,h2,h3,h4⟩:=hq;exact⟨.inl ⟨.bool true,.bool true,[],rfl,λ_=>rfl,.bool true,E9 l _,λ_=>⟨List.Pairwise.nil,λ_ hm=>(nomatch hm)⟩⟩,h2,h3,h4⟩
section
variable{prog:Program}{w:World}{A:Around}{E:Mm}{s:Shared}{K:Frag}
end
end Att
namespace L2
open PySem PySem.Spec PyProof.Rows
theorem mT:∀{b:Mh}{e:Mf},IntsAre b e->cE (e.map V.int) b
 |_,_,.nil=>.nil
 |_,_,.cons n t h=>.cons ⟨t,rfl⟩ (mT h)
def MR(H:Hp):Prop:=∀b,H b=none\/∃o e,H b=some (.frz o (.lst e))
theorem Hv{P:Program}{w:World}{K:Ma}{mg mb:Mc}{CX:CXT}{k:Nat}{fa a:Addr}{fd:Ml}{x:Str}{sp:Sp}{f : Shared}{G:Mh}{N:Mf}
  (KX:K.In f.heap) (O:f.heap.Ns mainGlobals mg) (p:f.heap.Ns builtinsNs mb) (ad:∀x:Str,x ≠ "__name__"->mb x=bootBuiltins x) (Q:f.heap.NoLimit) (hg:f.gens = #[])
  (ha:f.heap.get? a=some {cls:=.type "list",data:=.seq G.toArray}) (hi:IntsAre G N) (hl:N.length<=sizeLine) (hr:Room k callerA)
  (F:∀base:Heap,K.In base->base.Ns mainGlobals mg->FnOk P w K mg base CX k fa fd [x] sp) (I:∀(s:Shared)(u:Value),BindsTo s fd ⟨[u],[]⟩ [(x,u)])
  (ae:∀H:Hp,MR H->SqL K H a (N.map V.int)->sp [.ref a] H (λv _=>v = .bl true) λ_ _ _=>False)
  (af:∀H e t,CX [] H f (λ_ _ _=>False) e t->False) :
  codeAny (model P w) callerA (.call (.ref fa) ⟨[.ref a],[]⟩) (λr t=>r = .ok (.ret (.bool true))/\OldK f.heap t.heap/\t.os=f.os/\AllBare t.gens) f:=by
 have rv:=mT hi;have S:=hi.length
 -- from an J ai in ag U aj W y ak be X
 have E:∀H:Hp,MR H->SqL K H a (N.map V.int)->HOk P w H f.heap->(∀b,H b≠none->b=a)->(H a≠none->K.lookup a=none)->
   codeAny (model P w) callerA (.call (.ref fa) ⟨[.ref a],[]⟩) (λr t=>r = .ok (.ret (.bool true))/\OldK f.heap t.heap/\t.os=f.os/\AllBare t.gens) f:=by
  intro H hO hS Y hA hK;have g:∀{b:Addr}{o:Obj},f.heap.get? b=some o->H b=none->(AK f.heap H).get? b=some o:=λe n=>IG e n;have ah:∀{b:Addr}{o:Obj}{Z:Array DictEntry}{ep:Nat},f.heap.get? b=some o->o.data = .dict Z ep->H b=none:=λ{b o Z ep} e d=>by
   cases q:H b with
   |none=>rfl
   |some u=>
    have e':b=a:=hA b (by rw[q];simp);subst e';rw[ha]at e;cases e;have d':Data.seq G.toArray _=Data.dict Z ep:=d;cases d'
  have B:∀{b:Addr}{m:Mc},f.heap.Ns b m->(AK f.heap H).Ns b m:=λ{b m} ⟨o,Z,ep,e,d,r⟩=>⟨o,Z,ep,g e (ah e d),d,r⟩;have aa:K.In (AK f.heap H):=λb o e=>g (KX b o e) (by
   cases q:H b with
   |none=>rfl
   |some u=>
    have e':b=a:=hA b (by rw[q];simp);subst e';rw[hK (by rw[q];simp)]at e;cases e)
  have hM:Mod K mg (AK f.heap H):=⟨aa,B O,⟨mb,B p,ad⟩,let ⟨mc,h1,h2⟩:=Q;⟨mc,B h1,h2⟩⟩;have e0:Env0 P w K mg (AK f.heap H) callerA [] f H:=⟨rfl,hM,λb o e=>Js e,Nat.le_of_eq (Fv _ _),trivial,λb p=>absurd (show b∈([]:List Addr) from p) (by simp),Y,.of_eq hg⟩;refine codeAny_mono ((F _ aa (B O)).run callerA [] f H ⟨[.ref a],[]⟩ [.ref a] [.ref a] _ _ hr e0 (I f (.ref a)) (.cons rfl .nil) (ae H hO hS)) λr t h=>?_;cases r with
  |error e=>exact(af H e t h).elim
  |ok fl=>
   cases fl with
   |next=>exact False.elim h
   |brk=>exact False.elim h
   |cont=>exact False.elim h
   |ret u=>
    obtain⟨v,H',os,bare,un,ab,r',q⟩:=h;have q':v = .bl true:=q;subst q';obtain rfl:u=Value.bool true:=r';refine⟨rfl,OldK.of_keep λb o e=>?_,os,bare⟩;cases q:H b with
    |none=>exact un.keep b o e q (by intro z;exact absurd (show b∈([]:List Addr) from z) (by simp)) (by simp)
    |some u=>
     rcases hO b with z | ⟨ob,xs,z⟩
     ·rw[q]at z;cases z
     ·have z2:=un.frzs b ob _ z;obtain⟨e1,_⟩:=Y b _ z;obtain⟨e2,_⟩:=ab b _ z2;rw[e]at e1;cases e1;exact e2
 cases hk:K.lookup a with
 |some o=>
  -- W y is al of W L own ac
  have e:=KX a o hk;rw[ha]at e;cases e;refine E (λ_=>none) (λ_=>.inl rfl) (.inr ⟨_,G.toArray,_,hk,rfl,rfl,rfl,by rw[size_toArray,S];exact hl,by simpa using rv⟩) (λb u z=>by have z':(none:Option HO)=some u:=z;cases z') (λb z=>absurd rfl z) λz=>absurd rfl z
 |none=>
  refine E (λb=>if b=a then some (.frz {cls:=.type "list",data:=.seq G.toArray} (.lst (N.map V.int))) else none) (λb=>?_) (.inl (.inr ⟨{cls:=.type "list",data:=.seq G.toArray},if_pos rfl⟩)) (λb u z=>?_) (λb z=>?_) λ_=>hk
  ·by_cases p:b=a
   ·exact .inr ⟨_,_,if_pos p⟩
   ·exact .inl (if_neg p)
  ·by_cases p:b=a
   ·have z':=(if_pos p).symm.trans z;cases z';subst p;exact⟨ha,by rw[length_map];exact hl,G,_,rv,ha⟩
   ·have z':=(if_neg p).symm.trans z;cases z'
  ·by_cases p:b=a
   ·exact p
   ·exact absurd (if_neg p) z
theorem Ix{l:PySem.W.OpenLaw}{n k:Nat}{q:Program}{g:Mg}{XP:(Mc)->Heap->Prop}{N:World->Heap->Prop}{d:DefRec}{K:Params->Ma}{CX:World->CXT}{sp:World->Sp}{x:Str}
  (S:l.most=some n) (z:n<=sizeLine) (B:d.params.defaults=[]) (hr:Room k callerA)
  (U:∀(w:World)(h:Heap),N w h->(K w.params).In h)
  (F:∀(w:World)(mg:Mc)(t:Addr)(h:Heap),(K w.params).In h->h.Ns mainGlobals mg->mg d.name=some (.ref t)->
   ∃D:Ml,(∀(s:Shared)(u:Value),BindsTo s D ⟨[u],[]⟩ [(x,u)])/\
    ∀base:Heap,(K w.params).In base->base.Ns mainGlobals mg->FnOk l.prog w (K w.params) mg base (CX w) k t D [x] (sp w))
  (E:∀(w:World)(H:Hp)(a:Addr)(y:Mf),y.length<=n->MR H->SqL (K w.params) H a (y.map V.int)->sp w [.ref a] H (λv _=>v = .bl true) λ_ _ _=>False)
  (I:∀(w:World)(H:Hp)(s:Shared)(e:Value)(J:Shared),CX w [] H s (λ_ _ _=>False) e J->False) :
  PySem.W.WalkO q g XP N l.row.toRowW d [] (λf O=>PySem.call f O):=by
 refine Att.CK S B λw Q p mg mb t o pm cd W a O y G Y ho hd X L r m b Z=>?_;have R:=U w _ Y;obtain⟨D,hb,hF⟩:=F w mg t _ R G.T.g L;exact Hv R G.T.g G.T.b G.T.builtins G.T.nolimit Z r m (le_trans b z) hr hF hb (λH hO hS=>E w H a y b hO hS) λH e J=>I w H p e J
def bN(s:Stmt)(j:Nat):Stmt:=match s with
 | .ClassDef _ _ _ b _ _ _ _ _ _ _=>b.getD j (.Pass ⟨0,0,0,0⟩)
 |_=>.Pass ⟨0,0,0,0⟩
def gL(s:Stmt):Arguments:=match s with
 | .FunctionDef _ a _ _ _ _ _ _ _ _=>a
 |_=>{posonlyargs:=[],args:=[],vararg:=none,kwonlyargs:=[],kw_defaults:=[],kwarg:=none,defaults:=[] }
def fO(s:Stmt):List Stmt:=match s with
 | .FunctionDef _ _ b _ _ _ _ _ _ _=>b
 |_=>[]
def cZ(s:Stmt):Scope:=match s with
 | .FunctionDef _ _ _ _ _ _ g _ _ _=>g
 |_=>{kind:=.function,names:=[],isGenerator:=false,isCoroutine:=false}
abbrev E0:XK:=λ_ _ _=>False
structure Fun(K:Ma)(x qual:Str)(st:Stmt)(f:Addr)(fd:Ml):Prop where
 ex:∃(oc:Value) (od:Option Addr) (kV doc pm:Value) (an:Option Addr) (cdv ct:Value) (osl:Me),
  fd=fnOf x qual (gL st) (fO st) (cZ st) .none kV doc pm an cdv ct/\K.lookup f=some ⟨oc,od,.func fd,osl⟩/\codeIn K cdv qual=true
 kp:keepIn K (.ref f)=true
section
variable{P:Program}{w:World}{K:Ma}{mg:Mc}{base:Heap}
theorem Fun.binds{x b:Str}{st:Stmt}{f:Addr}{r:Ml}{m:Mg}(F:Fun K x b st f r)
  (h:∀(kV e n:Value)(o:Option Addr)(g p:Value)(q:Mh),q.length=m.length->bindArgs (fnOf x b (gL st) (fO st) (cZ st) .none kV e n o g p) ⟨q,[]⟩=pure (m.zip q)):jB K r m []:=by
 obtain⟨u,y,kV,e,n,o,g,p,s,rfl,z,t⟩:=F.ex;exact .all (h kV e n o g p)
theorem DO{x b:Str}{st:Stmt}{f:Addr}{q:Value}{r n:Option Addr}{m:Me}{kV g o e p:Value}(l:K.lookup f=some ⟨q,r,.func (fnOf x b (gL st) (fO st) (cZ st) .none kV g o n e p),m⟩)
  (c:codeIn K e b=true) (k:keepIn K (.ref f)=true):Fun K x b st f (fnOf x b (gL st) (fO st) (cZ st) .none kV g o n e p):=⟨⟨q,r,kV,g,o,n,e,p,m,rfl,l,c⟩,k⟩
end
section
variable{X:Cx}
theorem pv(i:Nat){x:Str}{b:Pos}(f:X.N[i]? = some x:=by rfl)(g:Vis X.env.scope x:=by first |exact Or.inl rfl |exact Or.inr (Or.inl rfl) |exact Or.inr (Or.inr rfl))(m:(x == ("__debug__" : Str))=false:=by decide)
  (e:(x == ("__classdict__" : Str))=false:=by decide):PE X (.Name x b) (lU i):=LW f g m e
end
theorem bD{A B:Prop}(h:B):if false=true then A else B:=by
 rw[if_neg Bool.false_ne_true];exact h
theorem aU{A B:Prop}(h:A):if true=true then A else B:=by
 rw[if_pos rfl];exact h
def aG(H e:Hp):Prop:=∀b o,H b=some o->e b=some o
theorem aG.refl(H:Hp):aG H H:=λ_ _ h=>h
theorem aG.trans(a:aG H e)(b:aG e H2):aG H H2:=λc o h=>b c o (a c o h)
theorem aG.free(e:aG H b)(h:b l=Option.none):H l=Option.none:=by
 cases q:H l with
 |none=>rfl
 |some o=>
  rw[e l o q]at h;cases h
theorem aG.seq{K:Ma}{H b:Hp}{a:Addr}{f:Mp}(e:aG H b)(h:SqL K H a f):SqL K b a f:=by
 rcases h with (h | ⟨o,h⟩) |h
 ·exact .inl (.inl (e _ _ h))
 ·exact .inl (.inr ⟨o,e _ _ h⟩)
 ·exact .inr h
section
variable{κ : Type} [DecidableEq κ]
theorem yK{p:κ×V}{r:List (κ×V)}{k:κ}(e:p.1=k):e7 (p::r) k=e7 r k:=by
 unfold e7;rw[filter_cons,if_neg (by simp [e])]
theorem yL{p:κ×V}{r:List (κ×V)}{k:κ}(e:¬p.1=k):e7 (p::r) k=p::e7 r k:=by
 unfold e7;rw[filter_cons,if_pos (by simp [e])]
end
def MU(B:Heap)(l:List Env)(e:Addr)(b f g:Value)(h:Heap):Prop:=B.StaysIn h/\B.get? e=none/\h.FunFrames B l/\h.TracedAtW B e b f g
structure Fly(P:Program)(w:World)(l:List Env)(H H':Hp)(s s':Shared)(e:Addr)(cls fl:Value):Prop where
 os:s'.os=s.os
 bare:AllBare s'.gens
 fr:∀b o,s.heap.get? b=some o->H b=none->H' b=none
 tups:∀b xs,H b=some (.tup xs)->H' b=some (.tup xs)
 frzs:∀b o u,H b=some (.frz o u)->H' b=some (.frz o u)
 tbls:∀b ps,H b=some (.tbl ps)->∃more,H' b=some (.tbl (ps++more))
 sl:∀b o,s.heap.get? b=some o->b∈frs l->∃sl,s'.heap.get? b=some {o with slots:=sl}
 fly:∃B a0,MU B l e cls a0 fl s'.heap/\HOk P w H' B/\(∀b o,s.heap.get? b=some o->H b=none->b∉frs l->B.get? b=some o)/\∀b o,s.heap.get? b=some o->b∉frs l->∃o',B.get? b=some o'
section
variable{P:Program}{w:World}{l:List Env}{H H':Hp}{s s':Shared}{e:Addr}{cls fl:Value}
theorem Fly.un(F:Fly P w l H H' s s' e cls fl):Un (frs l) [] H H' s.heap s'.heap:=by
 obtain⟨B,p,fl,r,kp,g⟩:=F.fly;refine⟨λb o q n f _=>fl.1 _ _ (kp b o q n f),λb o q n f _=>F.sl b o q f,λb o q n _=>F.fr b o q n,λb o q _=>?_,F.tups,F.frzs,F.tbls⟩;by_cases f:b∈frs l
 ·obtain⟨t,z⟩:=F.sl b o q f;exact⟨_,z⟩
 ·obtain⟨m,z⟩:=g b o q f;exact⟨m,fl.1 _ _ z⟩
theorem Fly.hok(F:Fly P w l H H' s s' e cls fl):HOk P w H' s'.heap:=by
 obtain⟨B,g,fl,f,_⟩:=F.fly;exact f.kept λb o q=>fl.1 b o q
theorem JG{h m:Heap}{B:Heap}{l:List Env}(fl:h.FunFrames B l)(u:h.UpToSlots m){b:Addr}{o:Obj}{p:Me}(q:b∈frs l)(e:h.get? b=some {o with slots:=p}):∃g,m.get? b=some {o with slots:=g}:=by
 obtain⟨_,t,n,r⟩:=fl.mem q;rw[e]at n;cases n;obtain⟨g,z⟩:=u b _ e r;exact⟨g,z⟩
theorem Fly.go(F:Fly P w l H H' s s' e cls fl):∃B g,MU B l e cls g fl s'.heap/\∀m f,MU B l e cls g f m->s'.heap.UpToSlots m->Fly P w l H H' s {s' with heap:=m} e cls f:=by
 obtain⟨B,g,fl,r,kp,t⟩:=F.fly;refine⟨B,g,fl,λm f u x=>⟨F.os,F.bare,F.fr,F.tups,F.frzs,F.tbls,λb o q p=>?_,B,g,u,r,kp,t⟩⟩;obtain⟨y,z⟩:=F.sl b o q p;exact JG (o:=o) fl.2.2.1 x p z
theorem Fly.drop(F:Fly P w (p::f) H H' s s' e cls fl)(E:p.frame=some L)
  (I:m.heap.objs.size<=L) (J:s.os=m.os) (U:Un (frs f) [] r H m.heap s.heap) (N:∀b∈frs f,r b=none):Fly P w f r H' m s' e cls fl:=by
 obtain⟨B,O,⟨Q,R,⟨_,_,S⟩,V⟩,W,kp,X⟩:=F.fly;have sub:∀b,b∈frs (p::f)->b=L\/b∈frs f:=λb g=>by
  unfold frs at g;rw[filterMap_cons,E]at g;exact mem_cons.mp g
 have x:∀b,b∈frs f->b∈frs (p::f):=λb g=>by
  unfold frs;rw[filterMap_cons,E];exact mem_cons_of_mem _ g
 have t:∀b o,m.heap.get? b=some o->b∉frs f->b∉frs (p::f):=λb o q g z=>by
  rcases sub b z with rfl |z
  ·exact absurd (lt_of_lt_of_le (lt_size q) I) (lt_irrefl _)
  ·exact g z
 have nx:∀b,b∉([]:List Addr):=λb=>by simp
 refine⟨F.os.trans J,F.bare,λb o q n=>?_,λb G q=>F.tups b G (U.tups b G q),λb o u q=>F.frzs b o u (U.frzs b o u q),λb Y q=>?_,λb o q g=>?_,B,O,⟨Q,R,S,V⟩,W,λb o q n g=>?_,λb o q g=>?_⟩
 ·obtain⟨y,z⟩:=U.there b o q (nx b);exact F.fr b y z (U.free b o q n (nx b))
 ·obtain⟨Z,z1⟩:=U.tbls b Y q;obtain⟨m2,z2⟩:=F.tbls b _ z1;exact⟨Z++m2,by rw[z2,Array.append_assoc]⟩
 ·obtain⟨sl,z⟩:=U.slot b o q (N b g) g (nx b);obtain⟨D,z'⟩:=F.sl b _ z (x b g);exact⟨D,z'⟩
 ·exact kp b o (U.keep b o q n g (nx b)) (U.free b o q n (nx b)) (t b o q g)
 ·obtain⟨y,z⟩:=U.there b o q (nx b);exact X b y z (t b o q g)
theorem IF{P:Program}{w:World}{H:Hp}{h:Heap}{l:List Addr}(x:HOk P w H h)(g:∀b∈l,H b=none):HOk P w H (hideAll h l):=λa o e=>
 (x a o e).stay (λb u f q=>hideAll_get _ q λm=>by
  have n:=g b m;rcases f with rfl |f
  ·rw[e]at n;cases n
  ·rw[f]at n;cases n) (λ_ q=>q) λ_ _ q=>q
section
variable{M:Model}{A:Around}{E:Mm}{Q:Unit->Shared->Prop}{env:Env}{outer:List Env}{L:Addr}
theorem vP(F:Fly P w l H H' s s' e cls fl)(m:∀f,Fly P w l H H' s {s' with heap:=f} e cls .none->Q () {s' with heap:=f}):wpAny M A (setFlight (.ref e) none) Q E s':=by
 obtain⟨B,G,⟨n,p,q,r⟩,go⟩:=F.go;exact wpAny_setFlight_noneW n q r λf t u x y=>m f (go f _ ⟨t,p,u,x⟩ λb o z D=>⟨o.slots,y b o z D⟩)
theorem IL(F:Fly P w l H H' s s' e cls fl)(W:∀O,Fly P w l H H' s {s' with heap:=O} e cls (rawInt L)->Q () {s' with heap:=O}):wpAny M A (setFlight (.ref e) (some L)) Q E s':=by
 obtain⟨B,a0,⟨G,I,X,Y,J,T,oT,R,S,y,U,V,z,D,N,r,Z⟩,go⟩:=F.go;have t:3<R.size:=(Array.getElem?_eq_some_iff.mp Z).1;have m:∀b,b≠T->(s'.heap.update T (Obj.mapFields (·.setIfInBounds 3 ((some L).elim Value.none λf=>rawInt f)))).get? b=s'.heap.get? b:=
  λb n=>Heap.get?_update_other _ _ (Ne.symm n)
 have g:∀b o,s'.heap.get? b=some o->(∀J,o.data ≠ .fields J)->b≠T:=λb o n p q=>by
  rw[q,N]at n;injection n with n;subst n;exact p R r
 unfold setFlight;refine wpAny_bind (wpAny_field S U V ?_);rw[if_pos (show (Value.ref T != Value.none)=true from by simp)];refine wpAny_setField N r t (W _ (go _ _ ⟨λb o u=>(m b λq=>by rw[q,z]at u;cases u).trans (G b o u),I,
  X.of_keeps λb o n p=>⟨o,(m b (g b o n p)).trans n,rfl⟩,?_⟩ λb o n p=>⟨o.slots,(m b (g b o n p)).trans n⟩))
 exact⟨Y,J,T,_,_,(m e (Ne.symm D)).trans S,y,U,V,z,D,Heap.get?_update_self _ N (Obj.isFreed_of_fields (Obj.data_mapFields r _)),Obj.data_mapFields r _,by simp [t]⟩
theorem IM(g:A.frames=some (env::outer))(n:env.frame=some L)(F:Fly P w (env::outer) H H' s s' e cls .none)
  (o:∀b,Fly P w (env::outer) H H' s {s' with heap:=b} e cls (rawInt L)->Q () {s' with heap:=b}):wpAny M A (noteFrame (.ref e) env) Q E s':=by
 obtain⟨B,z,⟨p,m,q,r⟩,go⟩:=F.go;exact wpAny_noteFrame_onW g q n r p m λb ⟨t,u,x,y⟩=>o b (go b _ ⟨t,m,u,x⟩ y)
theorem Fy(b:env.frame=some L)(F:Fly P w l H H' s s' e cls (rawInt L))(f:Q () s'):wpAny M A (noteFrame (.ref e) env) Q E s':=by
 obtain⟨B,m,⟨n,o,p,g⟩,go⟩:=F.go;exact wpAny_noteFrame_againW b g f
theorem DP(F:Fly P w l H H' s s' e cls fl)(f:∀T:Addr,R (.ref T) s'):wpAny M A (field (.ref e) 1) R E s':=by
 obtain⟨B,q,⟨g,m,r,t,u,T,x,y,n,b,o,p,_⟩,_⟩:=F.go;exact wpAny_field n o p (f T)
end
end
def CXE(P:Program)(w:World):CXT:=λb H s E e m=>∃(a:Addr) (f:Value) (g:Hp),e = .ref a/\Fly P w b H g s m a f .none/\E f none g
def AtX(X:Cx)(b:Mb)(o : St)(p:Hp)(m:Shared)(e:Addr)(f:Value):Prop:=
 (∃s g,Inv X b o p s/\Heap.MadeExcOf s.heap m.heap e f g/\m = {s with heap:=m.heap})\/
 ∃H s n,Inv X b o H s/\Fly X.prog X.w X.stack H p s m e f n/\(n = .none\/n=rawInt X.env.locals)
structure Own(X:Cx):Prop where
 stk:X.stack=X.env::X.outer
 fra:X.env.frame=some X.env.locals
 ex:X.ex=[]
section
variable{X:Cx}{pins:Mb}{σ : St}{H':Hp}{s':Shared}{e:Addr}{cls:Value}
theorem Fe(O:Own X)(r:A.frames=some X.stack)(I:Inv X pins σ H' s)(mk:Heap.MadeExcOf s.heap s'.heap e cls N)(R:s' = {s with heap:=s'.heap})
  (W:∀S,Fly X.prog X.w X.stack H' H' s {s' with heap:=S} e cls (rawInt X.env.locals)->Q () {s' with heap:=S}):wpAny M A (noteFrame (.ref e) X.env) Q E s':=by
 have y:=I.stack;have g:=I.stkFree;have G:∀m∈X.stack,∀a,m.frame=some a->a∈frs X.stack:=λm D a Y=>List.mem_filterMap.mpr ⟨m,D,Y⟩;obtain⟨t,D,Z,ht⟩:=mk.there;have FH:=PySem.W.funFrames_hide (as:=frs X.stack) y G;have B:(hideAll s.heap (frs X.stack)).get? e=none:=by
  cases q:(hideAll s.heap (frs X.stack)).get? e with
  |none=>rfl
  |some o=>have:=of_hideAll _ q;rw[mk.new]at this;cases this
 have H:s'.os=s.os:=by rw[R]
 have J:s'.gens=s.gens:=by rw[R]
 unfold noteFrame;simp only[O.fra];refine wpAny_bind (wpAny_field D rfl (x:=Value.none) rfl ?_);rw[if_neg (by decide)];have L:s.heap.FunFrames (hideAll s.heap (frs X.stack)) (X.env::X.outer):=by
  have z:=O.stk;rw[<- z];exact FH
 rw[O.stk]at r;refine wpAny_entryW (base:=hideAll s.heap (frs X.stack)) (a0:=.ref t) r (L.of_keeps λb o p _=>⟨o,mk.keeps b o p,rfl⟩) O.fra D (λb o z=>mk.keeps b o (of_hideAll _ z)) B rfl (by simp) rfl λh2 hN=>?_;obtain⟨k1,U,k3,k4⟩:=hN;refine W h2 ⟨H,by rw[J];exact I.bare,λb o z n=>n,λb xs q=>q,λb o u q=>q,λb ps q=>⟨#[],by rw[q];simp⟩,λb o z p=>?_,_,_,⟨k1,B,(by have z:=O.stk;rw[<- z]at U;exact U),k3⟩,IF I.hok g,λb o z n p=>hideAll_get _ z p,λb o z p=>⟨o,hideAll_get _ z p⟩⟩;obtain⟨_,o',V,hd⟩:=y.mem p;rw[z]at V;cases V;exact k4 b _ (mk.keeps _ _ z) hd
theorem Aa(O:Own X)(b:A.frames=some X.stack)(F:AtX X pins σ H' s' e cls)
  (m:∀H s f,Inv X pins σ H s->Fly X.prog X.w X.stack H H' s {s' with heap:=f} e cls (rawInt X.env.locals)->Q () {s' with heap:=f}):wpAny M A (noteFrame (.ref e) X.env) Q E s':=by
 rcases F with ⟨s,n,I,mk,o⟩ | ⟨H,s,q,I,F,rfl |rfl⟩
 ·exact Fe O b I mk o λf F=>m _ _ f I F
 ·rw[O.stk]at b F;exact IM b O.fra F λf p=>m H s f I (by rw[O.stk];exact p)
 ·refine Fy O.fra F ?_;have:=m H s s'.heap I F;exact this
theorem Ih(O:Own X)(f:A.frames=some X.stack)(F:AtX X pins σ H' s' e cls)
  (n:∀g,Fly X.prog X.w X.outer X.H₀ H' X.s₀ {s' with heap:=g} e cls .none->Q () {s' with heap:=g}):wpAny M A (leaving X.env (.ref e)) Q E s':=by
 unfold leaving;refine wpAny_bind (Aa O f F λH s g I o=>?_);refine vP o λp m=>n p ?_;rw[O.stk]at m;have U:=I.base;rw[O.ex]at U;exact m.drop O.fra I.ok.above I.os U I.ok.frf
end
abbrev XC:=Value->St->Hp->Prop
inductive XP(X:Cx)(R:XC)(e:Value)(s':Shared):Prop
 |mk:∀(pins:Mb)(a:Addr)(cls:Value)(σ : St)(H':Hp),e = .ref a->AtX X pins σ H' s' a cls->R cls σ H'->XP X R e s'
section
variable{X:Cx}{R:XC}
theorem AtX.frames(F:AtX X b m n o e g):X.A.frames=some X.stack:=by
 rcases F with ⟨s,f,I,_⟩ | ⟨H,s,p,I,_⟩
 ·exact I.ok.frames
 ·exact I.ok.frames
theorem Kt(O:Own X):PassesOwn (model X.prog X.w) X.A X.env (XP X R):=by
 rintro _ o ⟨b,a,e,g,m,rfl,F,q⟩;refine Aa O F.frames F λH s p I f=>?_;unfold cameBackBy;refine wpAny_bind (DP f λT=>?_);rw[if_neg (show ¬((Value.ref T == Value.none)=true) from by simp)];rw[O.fra];exact IL f λr n=>⟨b,a,e,g,m,rfl,.inr ⟨H,s,_,I,n,.inr rfl⟩,q⟩
end
abbrev Cx.bod(X:Cx)(E:XK):Cx:=X.wish (XP X λc _ H=>E c none H)
section
variable{X:Cx}{E E':XK}
theorem dF{P:Program}{w:World}{K:Ma}{mg:Mc}{base:Heap}{N:Mg}{g:Str}{b:Scope}{f:Addr}{m:Value}{A:Around}{e:List Env}{s:Shared}{H:Hp}{n:CXT} :
  Own (AT n P w K mg base N g b f m A e s H E):=⟨rfl,rfl,rfl⟩
theorem passB(g:∀c o H,E' c o H->E c none H):fH (CXE X.prog X.w) (X.bod E) E':=by
 intro b m n p e t I ⟨a,f,r,s,F,q⟩;exact⟨b,a,f,m,r,s,.inr ⟨n,p,.none,I.unwish,F,.inl rfl⟩,g _ _ _ q⟩
theorem bR:fH (CXE X.prog X.w) (X.bod E) (λc _ H=>E c none H):=passB λ_ _ _ q=>q
theorem bA:fH (CXE P w) X E0:=λ_ _ _ _ _ _ _ ⟨_,_,_,_,_,q⟩=>False.elim q
def Im(X:Cx)(E:Value->Hp->Prop):Prop:=∀(b:Mb)(o : St)(H:Hp)(s:Shared)(m:Heap)(e:Addr)(f:Value)(g:Mh),Inv X b o H s->Heap.MadeExcOf s.heap m e f g->E f H->X.xe (.ref e) {s with heap:=m}
theorem eX:Im (X.bod E) (λc H=>E c none H):=λb m H s n e g f I mk q=>⟨b,e,g,m,H,rfl,.inl ⟨s,f,I.unwish,mk,rfl⟩,q⟩
theorem i8(O:Own X):PassesOwn (model X.prog X.w) X.A X.env (X.bod E).xe:=Kt O
end
section
variable{P:Program}{w:World}{K:Ma}{mg:Mc}{base:Heap}
theorem PSs.leave{X:Cx}{E:XK}{st:List Stmt}{t:TS}(O:Own X)(o:X.xe=λe m=>wpAny (model X.prog X.w) X.A (leaving X.env e) (λ_ f=>CXE X.prog X.w X.outer X.H₀ X.s₀ E e f) (λp f=>CXE X.prog X.w X.outer X.H₀ X.s₀ E p f) m)
  (h:PSs (X.bod E) st t):PSs X st t:=λb s n H D I hw=>
 wpAny_mono (h b s n H D (I.wish _) hw) (λ_ _ q=>q.unwish) λe m ⟨b,a,g,n,r,u,F,q⟩=>by
  subst u;rw[o];exact Ih O F.frames F λy x=>⟨a,g,r,rfl,x,q⟩
theorem Fun.okX{x e:Str}{st:Stmt}{f:Addr}{y:Ml}{N o:Mg}{k:Nat}{p:Sp}(F:Fun K x e st f y)(S:FnScope N o (cZ st))(len:∀m H Q E,p m H Q E->m.length=o.length)
  (n:∀(g:Value)(A:Around)(b:List Env)(s:Shared)(H:Hp)(m:Mp)(Q:VK)(E:XK),Room k (A.deeper (envOfC e (cZ st) s.heap.objs.size f g))->p m H Q E->
   ∃t,PSs ((AT (CXE P w) P w K mg base N e (cZ st) f g A b s H E).bod E) (fO st) t/\t (Ends.fn Q) (oN N m) H):FnOk P w K mg base (CXE P w) (k+1) f y o p:=by
 obtain⟨G,I,kV,z,J,L,g,O,B,rfl,D,r⟩:=F.ex;refine fn_of D r S len λA b s H m Q E hr u=>?_;obtain⟨t,h,q⟩:=n g A b s H m Q E hr u;exact⟨t,PSs.leave dF rfl h,q⟩
end
def Jv(K:Ma)(N:Addr):Bool:=match K.lookup N with
 |some ⟨_,_,.dict b _,_⟩=>b.toList.all (λe=>match e.key with | .str _ _=>true |_=>false) && (b.toList.find? (·.key.isStr "__init__")).isNone
 |_=>false
theorem EJ{K:Ma}{h:Heap}{N:Addr}(X:K.In h)(e:Jv K N=true):∃m,h.Ns N m/\m "__init__" = none:=by
 unfold Jv at e;split at e
 ·rename_i c d f n u q;rw[and_eq_true]at e;obtain⟨p,o⟩:=e;refine⟨nsFind f,⟨_,f,n,X _ _ q,rfl,λr g=>?_,λ_=>rfl⟩,?_⟩
  ·have z:=all_eq_true.mp p r (by simpa using g);split at z
   ·rename_i a b s;exact⟨a,b,s⟩
   ·cases z
  ·unfold nsFind findBy;rw[<- Array.find?_toList];cases t:f.toList.find? (·.key.isStr "__init__") with
   |none=>rfl
   |some v=>rw[t]at o;cases o
 ·cases e
abbrev DZ:Mh:=[.type "ValueError",.type "Exception",.type "BaseException",.type "object"]
def tT(K:Ma):Mh->Bool
 |[]=>false
 |v::b=>(v::b == DZ) || (match v with
  | .ref a=>(match K.lookup a with |some ⟨_,_,.cls e,_⟩=>Jv K e.ns |_=>false) && tT K b
  |_=>false)
theorem tR{K:Ma}{h:Heap}(X:K.In h):∀{l:Mh},tT K l=true->OwnTail h DZ l
 |[],e=>by
  unfold tT at e;cases e
 |v::o,e=>by
  unfold tT at e;rw[Bool.or_eq_true]at e;rcases e with e |e
  ·rw[beq_iff_eq.mp e];exact .base
  ·split at e
   ·rw[and_eq_true]at e;obtain⟨b,f⟩:=e;split at b
    ·rename_i c d p r q;obtain⟨m,g,n⟩:=EJ X b;exact .own (X _ _ q) g n (tR X f)
    ·cases b
   ·cases e
def dH(K:Ma)(C:Addr):Bool:=match K.lookup C with
 |some ⟨.type "type",_,.cls b,e⟩=>(match b.mro,e.toList with
  | .ref f::g,[_,_,_,_,some (.builtin n),_]=>f == C && !b.hasDel && n == "ValueError.__new__" && Jv K b.ns && tT K g
  |_,_=>false)
 |_=>false
theorem F1{K:Ma}{h:Heap}{C:Addr}{x:Str}{mg:Mc}(X:K.In h)(D:mg x=some (.ref C))(q:dH K C=true):OwnCls x C DZ "ValueError.__new__" mg h:=by
 unfold dH at q;split at q
 ·rename_i E G r H;split at q
  ·rename_i Y I s t u y n z e B;simp only[and_eq_true,beq_iff_eq,Bool.not_eq_true']at q;obtain⟨⟨⟨⟨rfl,b⟩,rfl⟩,J⟩,L⟩:=q;obtain⟨m,f,g⟩:=EJ X J;obtain⟨N,O,mro,Q,R,S,U,sub,V,o,W⟩:=G;dsimp only at e b f;subst e b;have p:r = #[s,t,u,y,some (.builtin "ValueError.__new__"),z]:=by
    obtain⟨l⟩:=r;simp only at B;rw[B]
   subst p;exact⟨D,I,Q,N,R,O,S,U,sub,V,o,E,s,t,u,y,z,m,X _ _ H,f,g,tR X L⟩
  ·cases q
 ·cases q
abbrev GP(C:Addr)(E:Value->Hp->Prop):Mp->Hp->Prop:=λb e=>b.length<=sizeLine/\E (.ref C) e
def K1(C:Addr)(E:Value->Hp->Prop)(t:TA):TS:=λb e H=>t e H (GP C E)
theorem dW{X:Cx}{x:Str}{C:Addr}{np b u:Pos}{f : Expr}{rest:List Expr}{t:TA}{E:Value->Hp->Prop}(hR:Im X E)(hc:X.calm=true)(hC:dH X.K C=true)(hg:Gl X x)(L:X.mg x=some (.ref C))(ha:PA X (f :: rest) t)
  (Q:starEach (f :: rest) X.env=(false,eval f X.env)::starEach rest X.env:=by rfl) (B:(backTo b (starEach rest X.env)).any (·.1)=false:=by rfl) (hd:(x == ("__debug__" : Str))=false:=by decide) :
  PS X (.Raise (some (.Call (.Name x np) (f :: rest) [] b)) none u) (K1 C E t):=by
 intro g s R H D I h;have O:OwnCls x C DZ "ValueError.__new__" X.mg X.base:=F1 I.mod.kin L hC;obtain⟨tl,N,S,q,U,m,V,sub,W,n,Y,Z,k1,k2,k3,k5,mN,G,hN,J,T⟩:=O.obj;refine wpAny_Raise_call_subU (C:=C) (nm:=S) (q:=q) (N:=N) (bs:=U) (bm:=tl) (hdct:=m) (sn:=V) (sub:=sub) (ab:=W) (col:=n) (dd:=Y) (k0:=Z) (k1:=k1) (k2:=k2) (k3:=k3) (k5:=k5)
  PySem.F.excBase_ValueError (by decide) PySem.F.excBase_ValueError (mN:=mN) (T.hasType PySem.F.excBase_ValueError.hasBase) (I.ok.hd hc) (by rw[Q];show (false || (backTo b (starEach rest X.env)).any (·.1))=false;rw[B];rfl) J (iG I hg L ⟨rfl,?_⟩ hd)
 have o:=ha b g s R H _ I h;rw[Q]at o⊢;refine Calls.evalArgs_plain (wpAny_mono o (λvs p z=>?_) λ_ _ y=>y);obtain⟨ws,H2,r,r2,z,q2⟩:=z;exact⟨rfl,by rw[<- r2.length];exact z,r.bk _ _ G,hN.keeps r.bk,T.keeps r.bk,λh' e mk=>hR g R H2 p h' e _ _ r mk q2⟩
structure Callee(P:Program)(w:World)(K:Ma)(mg:Mc)(base:Heap)(x:Str)(k:Nat)(ps:Mg)(sp:Sp):Prop where
 ex:∃f fd,FnOk P w K mg base (CXE P w) k f fd ps sp/\mg x=some (.ref f)/\keepIn K (.ref f)=true/\jB K fd ps []
structure Method(P:Program)(w:World)(K:Ma)(mg:Mc)(base:Heap)(C:Addr)(m:Str)(k:Nat)(ps:Mg)(sp:Sp):Prop where
 ex:∃f fd,FnOk P w K mg base (CXE P w) k f fd ps sp/\Meth K C m f/\jB K fd ps []
structure Maker(P:Program)(w:World)(K:Ma)(mg:Mc)(base:Heap)(x:Str)(C:Addr)(k:Nat)(ps:Mg)(sp:Sp):Prop where
 ex:∃f fd,FnOk P w K mg base (CXE P w) k f fd ps sp/\Mk K C f/\mg x=some (.ref C)/\jB K fd ps []
abbrev KQ(b:Sp)(E:XK)(Q:VK):Mp->Hp->Prop:=λe f=>b e f Q E
def tFn(b:Sp)(E:XK)(t:TA):TE:=λe H Q=>t e H (KQ b E Q)
abbrev GS(b:Sp)(E:XK)(Q:VK)(x:V):Mp->Hp->Prop:=λe H2=>b (x::e) H2 Q E
inductive K3(C:Addr)(m:Str)(sp:Sp)(E:XK)(t:TA)(σ : St)(Q:VK)(x:V)(H1:Hp):Prop
 |mk:∀a dx fs,x = .ref a->H1 a=some (.ins C dx fs)->fs.lookup m=none->t σ H1 (GS sp E Q x)->K3 C m sp E t σ Q x H1
def tMe(C:Addr)(m:Str)(e:Sp)(E:XK)(f:TE)(t:TA):TE:=λb H Q=>f b H (K3 C m e E t b Q)
abbrev GR(C:Addr)(f:Sp)(E:XK)(Q:VK):Mp->Hp->Prop:=λg e=>∀x b,e x=none->e b=none->b≠x->
 f (.ref x::g) (upd (upd e b (.own x)) x (.ins C b [])) (λv H2=>v = .non/\Q (.ref x) H2) E
def tMk(C:Addr)(b:Sp)(E:XK)(t:TA):TE:=λe H Q=>t e H (GR C b E Q)
section
variable{X:Cx}{k:Nat}{C:Addr}{ps:Mg}{sp:Sp}{E:XK}{x m:Str}{p pos apos:Pos}{e o:Expr}{es:List Expr}{ta:TE}{t:TA}
theorem wW{st:St}{H:Hp}{Q:VK}(h:tFn sp E t st H Q):Dj sp [] E t st H Q:=by
 unfold Dj;unfold tFn at h;have e:Dh sp [] E Q=KQ sp E Q:=by
  funext b f;show sp (b++[]) f Q E=_;rw[append_nil]
 rw[e];exact h
theorem bB(c:Callee X.prog X.w X.K X.mg X.base x k ps sp)(hr:Room k X.A)(q:fH (CXE X.prog X.w) X E)(r:PA X (e::es) t)(u:Gl X x:=by rfl)(g:(x == ("__debug__" : Str))=false:=by decide)
  (y:starEach (e::es) X.env=(false,eval e X.env)::starEach es X.env:=by rfl) (n:(backTo pos (starEach es X.env)).any (·.1)=false:=by rfl):PE X (.Call (.Name x p) (e::es) [] pos) (tFn sp E t):=by
 obtain⟨f,J,F,z,B,D⟩:=c.ex;intro b s G H Q I h;exact Je F hr u z B D .nil q r g y n b s G H Q I (wW h)
theorem LZ(c:Callee X.prog X.w X.K X.mg X.base x k ps sp)(hr:Room k X.A)(n:fH (CXE X.prog X.w) X E)(q:Gl X x:=by rfl)(g:(x == ("__debug__" : Str))=false:=by decide):PE X (.Call (.Name x p) [] [] pos) (tFn sp E kX):=by
 obtain⟨f,B,F,r,u,y⟩:=c.ex;intro b s z H Q I h;exact HM F hr q r u y .nil n g b s z H Q I (wW h)
theorem wT{st:St}{H:Hp}{Q:VK}(h:tMe C m sp E ta t st H Q):De C m sp [] E ta t st H Q:=by
 unfold De;unfold tMe at h;have e:Ca C m sp [] E t st Q=K3 C m sp E t st Q:=by
  funext x u;refine propext ⟨λ⟨a,b,f,g,n,q,r⟩=>⟨a,b,f,g,n,q,?_⟩,λ⟨a,b,f,g,n,q,r⟩=>⟨a,b,f,g,n,q,?_⟩⟩
  ·rw[show GS sp E Q x=zD sp [] E Q x by funext s H2;show _=sp (x::(s++[])) H2 Q E;rw[append_nil]];exact r
  ·rw[show zD sp [] E Q x=GS sp E Q x by funext s H2;show sp (x::(s++[])) H2 Q E=_;rw[append_nil]];exact r
 rw[e];exact h
theorem cM(c:Method X.prog X.w X.K X.mg X.base C m k ps sp)(r:Cls X.K C)(hr:Room k X.A)(u:fH (CXE X.prog X.w) X E)(y:PE X o ta)(z:PA X (e::es) t)
  (g:starEach (e::es) X.env=(false,eval e X.env)::starEach es X.env:=by rfl) (n:(backTo pos (starEach es X.env)).any (·.1)=false:=by rfl)
  (B:eval (.Call (.Attribute o m apos) (e::es) [] pos) X.env=(do
   let q <- eval o X.env
   standAt apos.atName
   let (f,first) <- holding [q] (getMethod q m L)
   callWith pos f first (backTo pos (starEach (e::es) X.env)) (backToKw pos (keywordEach [] X.env))):=by rfl) :
  PE X (.Call (.Attribute o m apos) (e::es) [] pos) (tMe C m sp E ta t):=by
 obtain⟨f,N,F,D,G⟩:=c.ex;intro b s J H Q I h;exact Ja y r D F hr G .nil u z g n B b s J H Q I (wT h)
theorem eW(c:Method X.prog X.w X.K X.mg X.base C m k ps sp)(n:Cls X.K C)(hr:Room k X.A)(q:fH (CXE X.prog X.w) X E)(r:PE X o ta)
  (u:eval (.Call (.Attribute o m apos) [] [] pos) X.env=(do
   let g <- eval o X.env
   standAt apos.atName
   let (f,first) <- holding [g] (getMethod g m D)
   callWith pos f first (backTo pos (starEach [] X.env)) (backToKw pos (keywordEach [] X.env))):=by rfl) :
  PE X (.Call (.Attribute o m apos) [] [] pos) (tMe C m sp E ta kX):=by
 obtain⟨f,G,F,y,z⟩:=c.ex;intro b s B H Q I h;exact HK r n y F hr z .nil q u b s B H Q I (wT h)
theorem wU{st:St}{H:Hp}{Q:VK}(h:tMk C sp E t st H Q):Df C sp [] E t st H Q:=by
 unfold Df;unfold tMk at h;rw[show zE C sp [] E Q=GR C sp E Q by unfold zE GR;simp only[append_nil]];exact h
theorem Kh(c:Maker X.prog X.w X.K X.mg X.base x C k ps sp)(hr:Room (k+1) X.A)(q:fH (CXE X.prog X.w) X E)(r:PA X (e::es) t)(u:Gl X x:=by rfl)(g:(x == ("__debug__" : Str))=false:=by decide)
  (y:starEach (e::es) X.env=(false,eval e X.env)::starEach es X.env:=by rfl) (n:(backTo pos (starEach es X.env)).any (·.1)=false:=by rfl):PE X (.Call (.Name x p) (e::es) [] pos) (tMk C sp E t):=by
 obtain⟨f,G,F,M,z,B⟩:=c.ex;intro b s D H Q I h;exact Jb M F hr u z B .nil q r g y n b s D H Q I (wU h)
end
inductive XPp(X:Cx)(pins:Mb)(R:XC)(e:Value)(s':Shared):Prop
 |mk:∀(a:Addr)(cls:Value)(σ : St)(H':Hp),e = .ref a->AtX X pins σ H' s' a cls->R cls σ H'->XPp X pins R e s'
abbrev TX:=Ends->XC->St->Hp->Prop
abbrev TEX:=St->Hp->VK->(Value->Hp->Prop)->Prop
def PEx(X:Cx)(e:Expr)(t:TEX):Prop:=
 ∀b s f H(Q:VK)(R:Value->Hp->Prop),Inv X b f H s->t f H Q R->wpAny (model X.prog X.w) X.A (eval e X.env) (EP X b f Q) (XPp X b λc g m=>g = f/\R c m) s
def PSx(X:Cx)(st:Stmt)(t:TX):Prop:=
 ∀b s e H(D:Ends)(R:XC),Inv X b e H s->t D R e H->wpAny (model X.prog X.w) X.A (exec st X.env) (SP X b D) (XPp X b R) s
def DX(X:Cx)(st:List Stmt)(t:TX):Prop:=
 ∀b s e H(D:Ends)(R:XC),Inv X b e H s->t D R e H->wpAny (model X.prog X.w) X.A (execs st X.env) (SP X b D) (XPp X b R) s
section
variable{X:Cx}{k:Nat}{C:Addr}{ps:Mg}{sp:Sp}{x m:Str}{p pos apos:Pos}{e o:Expr}{es:List Expr}{ta:TE}{t:TA}
theorem D9{b:Mb}{z : St}{H:Hp}{s:Shared}{Q:VK}{us:Mh}{vs:Mp}{f:Addr}{E:Ml}{R:Value->Hp->Prop}(F:FnOk X.prog X.w X.K X.mg X.base (CXE X.prog X.w) k f E ps sp)(hr:Room k X.A)(G:jB X.K E ps [])
  (I:Inv X b z H s) (r:cE vs us) (h:sp vs H Q λc _ g=>R c g):wpAny (model X.prog X.w) X.A (call (.ref f) us) (EP X b z Q) (XPp X b λc B g=>B = z/\R c g) s:=by
 have J:(us++[]).length=ps.length:=by rw[append_nil,<- r.length];exact F.len _ _ _ _ h
 have n:=G s us I.kIn J;rw[append_nil]at n;refine wpAny_call (codeAny_mono (F.run X.A X.stack s H ⟨us,[]⟩ us vs Q _ hr I.env0 n r h) λr S y=>?_);cases r with
 |error e=>
  obtain⟨a,D,g,L,N,q⟩:=y;exact⟨a,D,z,g,L,.inr ⟨H,s,.none,I,N,.inl rfl⟩,rfl,q⟩
 |ok O=>
  cases O with
  |ret u=>exact I.after y
  |next=>exact False.elim y
  |brk=>exact False.elim y
  |cont=>exact False.elim y
theorem HP(g:PA X.nox es t)(I:Inv X b f H s)(h:t f H Q):wpAny (model X.prog X.w) X.A (spliced (backTo pos (starEach es X.env))) (AP X b f Q) E s:=
 wpAny_mono (g pos b s f H Q (I.wish _) h) (λ_ _ ⟨n,u,y,r,q⟩=>⟨n,u,y.unwish,r,q⟩) λ_ _ z=>False.elim z
theorem LX(g:PE X.nox e ta)(I:Inv X b f H s)(h:ta f H Q):wpAny (model X.prog X.w) X.A (eval e X.env) (EP X b f Q) E s:=
 wpAny_mono (g b s f H Q (I.wish _) h) (λ_ _ ⟨v,n,u,r,q⟩=>⟨v,n,u.unwish,r,q⟩) λ_ _ z=>False.elim z
abbrev xFn_1(sp:Sp)(Q:VK)(R:(Value->Hp->Prop)):Mp->Hp->Prop:=λb f=>sp b f Q λc _ g=>R c g
def xFn(sp:Sp)(t:TA):TEX:=λb H Q R=>t b H (xFn_1 sp Q R)
abbrev xMe_2(sp:Sp)(Q:VK)(R:(Value->Hp->Prop))(x:V):Mp->Hp->Prop:=λb H2=>sp (x::b) H2 Q λc _ f=>R c f
inductive xMeX(C:Addr)(m:Str)(sp:Sp)(t:TA)(σ : St)(Q:VK)(R:(Value->Hp->Prop))(x:V)(H1:Hp):Prop
 |mk:∀a dx fs,x = .ref a->H1 a=some (.ins C dx fs)->fs.lookup m=none->t σ H1 (xMe_2 sp Q R x)->xMeX C m sp t σ Q R x H1
def xMe(C:Addr)(m:Str)(sp:Sp)(ta:TE)(t:TA):TEX:=λb H Q R=>ta b H (xMeX C m sp t b Q R)
theorem px_fn(c:Callee X.prog X.w X.K X.mg X.base x k ps sp)(hr:Room k X.A)(z:PA X.nox (e::es) t)(B:Gl X x:=by rfl)(b:(x == ("__debug__" : Str))=false:=by decide)
  (D:starEach (e::es) X.env=(false,eval e X.env)::starEach es X.env:=by rfl) (g:(backTo pos (starEach es X.env)).any (·.1)=false:=by rfl):PEx X (.Call (.Name x p) (e::es) [] pos) (xFn sp t):=by
 obtain⟨f,L,F,E,G,J⟩:=c.ex;intro n s N H Q R I h;refine wpAny_Call_Name_kw (iG I B E ?_ b);refine callWith_K (h₀:=X.base) I.ok.mod.kin G (thn (HP (pos:=pos) z I h) λO S ⟨U,V,y,r,q⟩=>⟨y.kIn,?_⟩) D g;exact D9 F hr J y r q
theorem BF(c:Method X.prog X.w X.K X.mg X.base C m k ps sp)(O:Cls X.K C)(hr:Room k X.A)(S:PE X.nox o ta)(U:PA X.nox (e::es) t)
  (b:starEach (e::es) X.env=(false,eval e X.env)::starEach es X.env:=by rfl) (g:(backTo pos (starEach es X.env)).any (·.1)=false:=by rfl)
  (V:eval (.Call (.Attribute o m apos) (e::es) [] pos) X.env=(do
   let y <- eval o X.env
   standAt apos.atName
   let (f,first) <- holding [y] (getMethod y m z)
   callWith pos f first (backTo pos (starEach (e::es) X.env)) (backToKw pos (keywordEach [] X.env))):=by rfl) :
  PEx X (.Call (.Attribute o m apos) (e::es) [] pos) (xMe C m sp ta t):=by
 obtain⟨f,fd,F,B,W⟩:=c.ex;intro D s σ H Q R I h;refine methodCall_KW (pl:=z) (thn (LX S I h) λu s1 n=>?_) V;obtain⟨x,H1,E,Y,a,dx,fs,ex,Z,l,q⟩:=n;subst ex;obtain rfl:u=Value.ref a:=Y;refine oH E Z O B l ?_;refine callWith_K (first:=[.ref a]) (h₀:=X.base) I.ok.mod.kin B.kp (thn (HP (pos:=pos) U E q) λJ s2 ⟨L,H2,N,r,q2⟩=>⟨N.kIn,?_⟩) b g;exact D9 (us:=.ref a::J) (vs:=.ref a::L) F hr W N (.cons rfl r) q2
variable{st:Stmt}{sts rest:List Stmt}{tS:TS}{tx ux:TX}{te:TEX}
theorem mD(h:PEx X e te)(z:swapsWith e none pos.line X.env=pure false:=by rfl):PSx X (.Expr e pos) (λD R b H=>te b H (λ_ g=>D.nx b g) (λc n=>R c b n)):=by
 intro f s b H D R I hw;exact wpAny_Expr_any (wpAny_mono (h f s b H _ _ I hw) (λv J ⟨x,g,B,L,E⟩=>⟨b,g,B,E⟩) λN O ⟨a,r,u,n,G,F,y,q⟩=>⟨a,r,u,n,G,F,by rw[y];exact q⟩) I.quiet z
theorem JT(h:PEx X e te):PSx X (.Return (some e) pos) (λD R b H=>te b H D.rt (λc g=>R c b g)):=by
 intro f s b H D R I hw;exact wpAny_Return_some (wpAny_mono (h f s b H _ _ I hw) (λv J ⟨x,y,z,B,E⟩=>⟨x,b,y,z,B,E⟩) λL N ⟨a,n,r,g,G,F,u,q⟩=>⟨a,n,r,g,G,F,by rw[u];exact q⟩)
theorem Cp(y:PT X.nox c B)(E:DX X a tx)(G:DX X b ux):PSx X (.If c a b pos) (λD R g H=>B g H λk n=>if k=true then tx D R g n else ux D R g n):=by
 intro f s g H D R I hw;refine wpAny_If (wpAny_mono (y f s g H _ (I.wish _) hw) (λk r ⟨n,u,q⟩=>?_) λ_ _ z=>False.elim z);cases k with
 |true=>
  rw[if_pos rfl]at q⊢;exact E f r g n D R u.unwish q
 |false=>
  rw[if_neg Bool.false_ne_true]at q⊢;exact G f r g n D R u.unwish q
theorem HE:DX X [] (λD _ b H=>D.nx b H):=λ_ _ b H _ _ I h=>wpAny_execs_nil ⟨b,H,I,h⟩
theorem E8(u:PSx X st tx)(y:DX X rest ux):DX X (st::rest) (λD R n H=>tx (D.next (ux D R)) R n H):=by
 intro b s n H D R I hw;refine wpAny_execs_cons (thn (u b s n H _ R I hw) λf z g=>?_);cases f with
 |next=>obtain⟨r,B,E,q⟩:=g;exact y b z r B D R E q
 |brk=>exact g
 |cont=>exact g
 |ret v=>exact g
theorem gB(f:PSx X st tx):DX X [st] tx:=λb s g H D R I hw=>E8 f HE b s g H D R I (by
 cases D;exact hw)
end
def Cx.hand(X:Cx)(e:Addr):Cx:={X with A:=X.A.mark (some (.ref e)),calm:=false,xe:=λ_ _=>False}
section
variable{X:Cx}{pins:Mb}{σ : St}{H:Hp}{s:Shared}{e:Addr}
theorem Cx.Ok.hand(ok:X.Ok)(e:Addr):(X.hand e).Ok:=
 ⟨ok.mod,ok.kind,ok.glob,ok.blt,ok.above,ok.inj,ok.has,ok.cab,(λz=>Bool.noConfusion z),ok.frames,ok.stk,ok.exf,ok.bs,ok.bsz,ok.noex,ok.exfs,ok.funs,ok.frf⟩
theorem Inv.hand(I:Inv X pins σ H s)(e:Addr):Inv (X.hand e) pins σ H s:=⟨I.ok.hand e,I.os,I.bare,I.base,I.loc,I.cell,I.free,I.freeC,I.pin,I.hok,I.len⟩
theorem Inv.unhand(ok:X.Ok)(I:Inv (X.hand e) pins σ H s):Inv X pins σ H s:=⟨ok,I.os,I.bare,I.base,I.loc,I.cell,I.free,I.freeC,I.pin,I.hok,I.len⟩
theorem SP.unhand(ok:X.Ok)(h:SP (X.hand e) pins D f m):SP X pins D f m:=by
 cases f with
 |next=>obtain⟨b,g,I,q⟩:=h;exact⟨b,g,I.unhand ok,q⟩
 |brk=>obtain⟨b,g,I,q⟩:=h;exact⟨b,g,I.unhand ok,q⟩
 |cont=>obtain⟨b,g,I,q⟩:=h;exact⟨b,g,I.unhand ok,q⟩
 |ret u=>obtain⟨v,b,g,I,r,q⟩:=h;exact⟨v,b,g,I.unhand ok,r,q⟩
inductive PH(X:Cx):List ExceptHandler->(Value->TS)->Prop where
 |nil:PH X [] (λ_ _ _ _=>False)
 |cons {x:Str} {c:Value} {np pos:Pos} {b₀ : Stmt} {suite:List Stmt} {rest:List ExceptHandler} {t:TS} {u:Value->TS} (hg:Gl X x) (hm:X.mg x=some c) (hd:(x == ("__debug__" : Str))=false) (hs:∀e,PSs (X.hand e) (b₀ :: suite) t) (hr:PH X rest u) :
   PH X (.ExceptHandler (some (.Name x np)) none (b₀ :: suite) pos::rest) (λcls D σ H=>(PySem.W.exmOne X.K cls c=some true/\t D σ H)\/(PySem.W.exmOne X.K cls c=some false/\u cls D σ H))
theorem Fly.inv(I:Inv X pins σ H s)(F:Fly X.prog X.w X.stack H f s g e m n):Inv X pins σ f g:=
 I.call' F.os F.un F.hok F.bare λb z=>absurd z (by simp)
theorem Fly.ty(F:Fly P w l H n s g e b o):PySem.W.Looks M g.heap (typeOf (.ref e)) b:=by
 obtain⟨B,p,⟨_,_,_,q,r,T,t,u,m,f,_⟩,_⟩:=F.go;obtain⟨f,_⟩:=f;subst f;exact(PySem.W.Looks.ld m).andThen .now
theorem MA(N:PH X O u):∀{n:Hp}{m:Shared}{g:Value}{D:Ends},Inv X pins σ H s->Fly X.prog X.w X.stack H n s m e g .none->u g D σ n->
  wpAny (model X.prog X.w) X.A (handleBy (.ref e) X.env O) (SP X pins D) X.xe m:=by
 induction N with
 |nil=>intro n m g D I F h;exact False.elim h
 | @cons x c V Q B p rest t u G J L r hr S=>
  intro n m g D I F h;have y:=F.inv I;have o:∀(b:Bool){R:Bool->Shared->Prop}{E:Mm},PySem.W.exmOne X.K g c=some b->R b m->wpAny (model X.prog X.w) (X.A.mark (some (.ref e))) (excMatches (.ref e) c) R E m:=λb R E z q=>
   (PySem.W.exm_one y.kIn F.ty z).here q
  rcases h with ⟨z,h⟩ | ⟨z,h⟩
  ·refine wpAny_handleBy_cons (codeAny_handlers_test (iG (X:=X.hand e) (y.hand e) G J (o true z ?_) L)) (by intro q;cases q);refine codeAny_handlers_suite (vP F λW U=>?_);refine wpAny_mono (r e pins _ σ n D ((U.inv I).hand e) h) (λf s2 q=>?_) λ_ _ z=>False.elim z;exact SP.unhand I.ok q
  ·refine wpAny_handleBy_cons (codeAny_handlers_test (iG (X:=X.hand e) (y.hand e) G J (o false z ?_) L)) (by intro q;cases q);exact S I F h
theorem Cq(O:Own X)(o:DX X b p)(r:PH X (g :: t) u):PS X (.Try b (g :: t) [] [] x) (λD σ H=>p D (λc m n=>u c D m n) σ H):=by
 intro pins s σ H D I h;refine wpAny_Try_except (wpAny_mono (o pins s σ H D _ I h) (λf y q=>?_) λL y ⟨a,z,m,n,B,F,q⟩=>?_)
 ·cases f with
  |next=>exact wpAny_execs_nil q
  |brk=>exact q
  |cont=>exact q
  |ret v=>exact q
 ·subst B;refine Aa O F.frames F λH s N E G=>?_;refine vP G λQ J=>?_;exact MA r E J q
end
section
variable{prog:Program}{w:World}{A:Around}{R:Result->Shared->Prop}{s:Shared}
theorem CB(I:Nat->Shared->Prop)
  (turn:∀n s,I n s->wpAny (model prog w) A (pyNext O) (λr f=>match r with
   |none=>R (.ok .next) f
   |some v=>wpAny (model prog w) A (letOwnedTupleGo b O v) (λ_ g=>wpAny (model prog w) A (assign b e v) (λ_ q=>
     wpAny (model prog w) A (forIn E true λc r=>if r=true then do let ok <- isTrue c e (eval c e);pure (ForInStep.yield ok) else pure (ForInStep.yield r)) (λok o=>
      if ok=true then wpAny (model prog w) A (eval G e) (λx t=>
       wpAny (model prog w) A (call (.builtin "list.append") [H,x]) (λ_ u=>∃m,m<n/\I m u) (λ_ _=>False) t) (λ_ _=>False) o
      else ∃m,m<n/\I m o) (λ_ _=>False) q) (λ_ _=>False) g) (λ_ _=>False) f) (λ_ _=>False) s)
  (n:Nat) (h:I n s) :
  codeAny (model prog w) A (.compLoop (.ListComp G [⟨b,iter,E,0⟩] B Q) 0 O H e) R s:=by
 refine codeAny_loop rfl I (λn s S=>?_) n h;show wpAny _ A ((compTurn (.ListComp G [⟨b,iter,E,0⟩] B Q) 0 O H e).onRaise (λx=>do noteFrame x e;theTreesLotGoes x)) _ _ s;refine wpAny_noted ?_;rw[compTurn_list];refine wpAny_noRaise ?_;refine wpAny_bind (wpAny_standAt (wpAny_bind (wpAny_mono (turn n s S) (λr f y=>?_) λ_ _ p=>p)));cases r with
 |none=>exact wpAny_pure y
 |some v=>
  refine wpAny_bind (wpAny_mono y (λ_ g D=>?_) λ_ _ p=>p);refine wpAny_bind (wpAny_mono D (λ_ q J=>wpAny_bind (wpAny_mono J (λok o z=>?_) λ_ _ p=>p)) λ_ _ p=>p);cases ok with
  |false=>exact wpAny_pure ⟨rfl,z⟩
  |true=>
   exact wpAny_bind (wpAny_bind (wpAny_mono z (λx t L=>wpAny_bind (wpAny_mono L (λ_ u N=>wpAny_pure (wpAny_pure ⟨rfl,N⟩)) λ_ _ p=>p)) λ_ _ p=>p))
end
def vW(b:Scope)(e:Env):List (Str×Addr):=(b.names.filterMap λy=>if y.2 == .free then (e.cells.lookup y.1).map (λc=>(y.1,c)) else none).reverse
theorem vD{f g : Type} [BEq f] [LawfulBEq f]{l:List (f×g)}{x:f}{c:g}(h:l.lookup x=some c):(x,c)∈l:=by
 induction l with
 |nil=>cases h
 |cons p r m=>
  obtain⟨a,b⟩:=p;rw[List.lookup_cons]at h;split at h
  ·rename_i e;cases h;rw[beq_iff_eq.mp e];exact mem_cons_self
  ·exact mem_cons_of_mem _ (m h)
theorem KC(h:(vW f b).lookup x=some c):b.cells.lookup x=some c:=by
 have m:=vD h;unfold vW at m;rw[List.mem_reverse]at m;obtain⟨y,_,e⟩:=List.mem_filterMap.mp m;split at e
 ·cases q:b.cells.lookup y.1 with
  |none=>rw[q]at e;cases e
  |some d=>
   rw[q]at e;cases e;exact q
 ·cases e
def eG(X:Cx)(scope:Scope)(Nc:Mg)(C:Addr)(s₂ : Shared)(H₂ : Hp)(ex:List Addr):Cx where
 prog:=X.prog
 w:=X.w
 K:=X.K
 mg:=X.mg
 base:=X.base
 A:=X.A
 N:=Nc
 s₀:=s₂
 H₀:=H₂
 env:=compEnvC scope (vW scope X.env) C X.env
 outer:=X.stack
 stack:=X.stack
 ex:=ex
 fn:=λ_=>false
 calm:=X.calm
 pn:=[]
 xe:=λ_ _=>False
def mQ(X:Cx)(b:Scope)(F:List (Str×Nat)):Bool:=
 b.names.all (λy=>y.2 != .cell) && b.names.all (λy=>y.2 != .local || b.names.lookup y.1 == some .local) &&
 (relabel b X.env).names.all (λy=>(y.2 != .cell && y.2 != .free) || ((vW b X.env).lookup y.1).isSome) &&
 F.all (λp=>X.N[p.2]? == some p.1 && (X.env.kindOf p.1 == some .cell || X.env.kindOf p.1 == some .free) && ((relabel b X.env).names.lookup p.1 == some .cell || (relabel b X.env).names.lookup p.1 == some .free))
def lO(T:Mg)(F:List (Str×Nat))(b : St):St:=T.map (λ_=>none)++F.map (λp=>(b[p.2]?).join)
def fG(T:Mg)(F:List (Str×Nat)):Mg:=T++F.map (·.1)
section
variable{X:Cx}{pins:Mb}{σ : St}{H:Hp}{s:Shared}{scope:Scope}{T:Mg}{F:List (Str×Nat)}{fp:List Addr}
theorem DT(I:Inv X pins σ H s)(V:scope.kind = .function)(ok:mQ X scope F=true)(S:∀b∈fp,rG X pins H b)(W:∀b∈fp,∃o,s.heap.get? b=some o) 
  (hn:n.Ns (s.heap.objs.size+1) (λ_=>none)) (hs:Heap.SameBut (s.heap.objs.size+1) ((s.heap.push {cls:=.type "list",data:=.seq #[] }).push {cls:=.type "dict",data:=.dict #[] }) n) :
  Inv (eG X scope (fG T F) (s.heap.objs.size+1) s H fp) [] (lO T F σ) (upd H s.heap.objs.size (.lst [])) {s with heap:=n,toks:=t}:=by
 unfold mQ at ok;simp only[and_eq_true]at ok;obtain⟨⟨⟨ad,ae⟩,Y⟩,Z⟩:=ok;have nH:H s.heap.objs.size=none:=I.hok.fresh (le_refl _);have kp:∀b o,s.heap.get? b=some o->n.get? b=some o:=λb o e=>by
  have l:=lt_size e;rw[hs.2 b (ne_of_lt (lt_succ_of_lt l))];exact get?_push_of_some _ (get?_push_of_some _ e)
 have hD:n.get? s.heap.objs.size=some {cls:=.type "list",data:=.seq #[] }:=by
  rw[hs.2 _ (ne_of_lt (lt_succ_self _))];exact get?_push_of_some _ (get?_push_size _ rfl)
 have g:∀x c,(vW scope X.env).lookup x=some c->X.env.cells.lookup x=some c:=λx c e=>KC e;have O:∀x c,X.env.cells.lookup x=some c->c<s.heap.objs.size:=λx c e=>by
  obtain⟨v,o,W,_⟩:=I.cell x c e;exact lt_size W
 have OK:(eG X scope (fG T F) (s.heap.objs.size+1) s H fp).Ok:=by
  refine⟨I.ok.mod,V,I.ok.glob,I.ok.blt,le_succ _,λx y c r f=>I.ok.inj x y c (g _ _ r) (g _ _ f),λx E=>?_,(λx c z=>Bool.noConfusion z),I.ok.hd,I.ok.frames,.inl rfl,λb G=>⟨?_,λx c e=>?_⟩,I.bs,?_,λb o e G=>?_,λb G aa=>?_,I.stack,I.stkFree⟩
  ·have E:(relabel scope X.env).names.lookup x=some .cell\/(relabel scope X.env).names.lookup x=some .free:=E;have q:∀k,(relabel scope X.env).names.lookup x=some k->(k = .cell\/k = .free)->((vW scope X.env).lookup x).isSome=true:=λk e V=>by
    have z:=all_eq_true.mp Y (x,k) (vD e);rcases V with rfl |rfl
    ·simpa using z
    ·simpa using z
   rcases E with E |E
   ·exact Option.isSome_iff_exists.mp (q _ E (.inl rfl))
   ·exact Option.isSome_iff_exists.mp (q _ E (.inr rfl))
  ·obtain⟨o,e⟩:=W b G;exact ne_of_lt (lt_succ_of_lt (lt_size e))
  ·exact(S b G).2.2.2.2.1 x c (g x c e)
  ·exact le_trans I.ok.bsz I.sz
  ·obtain⟨_,_,_,Q,_⟩:=S b G;rcases Q with Q |Q
   ·exact I.ok.noex b o e Q
   ·exact absurd (lt_of_lt_of_le (lt_size e) (le_trans I.ok.bsz Q)) (lt_irrefl _)
  ·rcases mem_cons.mp (I.stkSub b aa) with z |z
   ·exact(S b G).2.1 z
   ·exact(S b G).2.2.1 z
 refine⟨OK,rfl,I.bare,Un.laid kp (le_refl _) nH,⟨_,hn,λi x v r f hv=>?_⟩,λx c e=>?_,?_,λx c e=>?_,λp hp=>absurd (show p∈([]:Mb) from hp) (by simp),?_,?_⟩
 ·have r:(fG T F)[i]? = some x:=r;unfold fG at r;unfold lO at f;by_cases hi:i<T.length
  ·rw[getElem?_append_left (by simpa using hi),getElem?_map]at f;cases q:T[i]? with
   |none=>rw[q]at f;cases f
   |some z=>rw[q]at f;cases f
  ·rw[getElem?_append_right (by simpa using hi),getElem?_map]at f;rw[getElem?_append_right (by simpa using hi),getElem?_map]at r;rw[length_map]at f;cases q:F[i-T.length]? with
   |none=>rw[q]at f;cases f
   |some p=>
    rw[q]at r f;have r:p.1=x:=Option.some.inj r;have f:(σ[p.2]?).join=some v:=Option.some.inj f;subst r;have z:=all_eq_true.mp Z p (mem_of_getElem? q);simp only[and_eq_true,Bool.or_eq_true,beq_iff_eq]at z;obtain⟨⟨z1,B⟩,z3⟩:=z;have e3:σ[p.2]? = some (some v):=by
     cases q2:σ[p.2]? with
     |none=>rw[q2]at f;cases f
     |some y=>rw[q2]at f;exact congrArg some f
    obtain⟨m,hm,hl⟩:=I.loc;obtain⟨u,ru,L⟩:=hl p.2 p.1 v z1 e3 (by rcases B with B |B;exact .inr (.inl B);exact .inr (.inr B));refine⟨u,ru,.inr ⟨z3,?_⟩⟩;have U:∃c,(vW scope X.env).lookup p.1=some c:=OK.has p.1 z3;obtain⟨c,U⟩:=U;refine⟨c,U,?_⟩;rcases L with ⟨L,_⟩ | ⟨_,c',R,J⟩
    ·rcases B with B |B
     ·rw[B]at L;cases L
     ·rw[B]at L;cases L
    ·rw[g _ _ U]at R;cases R;exact J.keeps kp
 ·obtain⟨v,q⟩:=I.cell x c (g x c e);exact⟨v,q.keeps kp⟩
 ·show upd H s.heap.objs.size (.lst []) (s.heap.objs.size+1)=none;rw[aH (ne_of_gt (lt_succ_self _))];exact I.hok.fresh (le_succ _)
 ·have l:=O x c (g x c e);show upd H s.heap.objs.size (.lst []) c=none;rw[aH (ne_of_lt l)];exact I.freeC x c (g x c e)
 ·exact I.hok.laid kp (le_refl _) ⟨zero_le _,[],0,.nil,hD⟩
 ·show (lO T F σ).length=(fG T F).length;unfold lO fG;simp
def vV(T:Mg)(F:List (Str×Nat))(g:TG)(u:TT)(z:TE)(σ : St)(Q:VK)(J:It)(p:Hp):Prop:=∀D,p D=none->∃W:Nat->Nat->Mp->St->Hp->Prop,(∃m,W 0 m [] (lO T F σ) (upd p D (.lst [])))/\
 ∀i m f n H2,W i m f n H2->H2 D=some (.lst f)/\((J.stop i H2/\Q (.ref D) H2)\/(J.go i H2/\f.length<sizeLine/\∀x q,J.yld i H2 x q->g x n q λe B=>u e B λb r=>
  if b=true then z e r λy t=>t D=some (.lst f)/\∃o,o<m/\W (i+1) o (f++[y]) e (upd t D (.lst (f++[y]))) else ∃o,o<m/\W (i+1) o f e r))
def KU(T:Mg)(F:List (Str×Nat))(b:TI)(g:TG)(e:TT)(f:TE):TE:=λσ H Q=>b σ H (vV T F g e f σ Q)
def PIf(X:Cx)(b:List Expr)(t:TT):Prop:=
 ∀pins s σ H(Q:Bool->Hp->Prop),Inv X pins σ H s->t σ H Q->wpAny (model X.prog X.w) X.A (forIn b true λc r=>if r=true then do let ok <- isTrue c X.env (eval c X.env);pure (ForInStep.yield ok) else pure (ForInStep.yield r)) (TP X pins σ Q) X.xe s
def GN:TT:=λ_ H Q=>Q true H
theorem ED{X:Cx}:PIf X [] GN:=λpins s σ H Q I h=>wpAny_tests_nil ⟨H,I,h⟩
theorem hG{X:Cx}{c:Expr}{t:TT}(h:PT X c t):PIf X [c] t:=λpins s σ H Q I q=>wpAny_tests_one (h pins s σ H Q I q)
theorem CA(I:Inv X pins σ H2 s2)(E:∀b∈fp,rG X pins H2 b)(m:Inv (eG X scope S (s2.heap.objs.size+1) s2 H2 fp) [] G y p)(x:Heap.SameBut (s2.heap.objs.size+1) p.heap D):Inv X pins σ y {p with heap:=D}:=by
 have U:Un (frs X.stack) fp H2 y s2.heap p.heap:=m.base;have B:∀b o,s2.heap.get? b=some o->b≠s2.heap.objs.size+1:=λb o e=>ne_of_lt (lt_succ_of_lt (lt_size e));have g:y (s2.heap.objs.size+1)=none:=m.free;refine I.call' (s':={p with heap:=D}) (ch:=fp) m.os ⟨λb o q n f t=>(x.2 b (B b o q)).trans (U.keep b o q n f t),λb o q n f t=>?_,U.free,λb o q t=>?_,U.tups,U.frzs,U.tbls⟩ ?_ m.bare λb f=>?_
 ·obtain⟨J,z⟩:=U.slot b o q n f t;exact⟨J,(x.2 b (B b o q)).trans z⟩
 ·obtain⟨L,z⟩:=U.there b o q t;exact⟨L,(x.2 b (B b o q)).trans z⟩
 ·intro a o e;refine(m.hok a o e).stay (λb u f q=>(x.2 b ?_).trans q) (λ_ q=>q) λ_ _ q=>q;rintro rfl;rcases f with f |f
  ·rw[<- f,g]at e;cases e
  ·rw[g]at f;cases f
 ·obtain⟨W,N,Y,O,Q,R⟩:=E b f;exact⟨O,N,Q,R⟩
theorem yS{ae tg iter:Expr}{af:List Expr}{ak:Pos}{g:TG}{tc:TT}{te:TE}{J:It}{it:Addr}{tn:Nat->Heap->Prop}{s2:Shared}{H2:Hp}{RR:Value->Addr->Result->Shared->Prop}{E:Mm}{Q:Addr->Hp->Prop}
  (hc:X.calm=true) (hk:scope.kind = .function) (ok:mQ X scope F=true)
  (hg:∀C G I ex,PG (eG X scope (fG T F) C G I ex) tg g) (au:∀C G I ex,PIf (eG X scope (fG T F) C G I ex) af tc) (he:∀C G I ex,PE (eG X scope (fG T F) C G I ex) ae te)
  (I2:Inv X pins σ H2 s2) (Y:Turn X.prog X.w X.K tg J fp it tn) (ag:tn 0 s2.heap) (f2:∀b∈fp,rG X pins H2 b)
  (h3:∀D,H2 D=none->∃W:Nat->Nat->Mp->St->Hp->Prop,(∃m,W 0 m [] (lO T F σ) (upd H2 D (.lst [])))/\
   ∀i m O Z H2,W i m O Z H2->H2 D=some (.lst O)/\((J.stop i H2/\Q D H2)\/(J.go i H2/\O.length<sizeLine/\∀x H3,J.yld i H2 x H3->g x Z H3 λt H4=>tc t H4 λb H5=>
    if b=true then te t H5 λy H6=>H6 D=some (.lst O)/\∃R,R<m/\W (i+1) R (O++[y]) t (upd H6 D (.lst (O++[y]))) else ∃R,R<m/\W (i+1) R O t H5)))
  (av:∀D s' Z L,Inv (eG X scope (fG T F) (s2.heap.objs.size+1) s2 H2 fp) [] Z L s'->Q D L->RR (.ref D) (s2.heap.objs.size+1) (.ok .next) s') :
  wpAny (model X.prog X.w) X.A (newList []) (λal am=>wpAny (model X.prog X.w) X.A (newFunctionEnv scope X.env.globals (vW scope X.env) [] X.env.qual none .none (some X.env)) (λac an=>
   codeAny (model X.prog X.w) X.A (.compStart (.ListComp ae [⟨tg,iter,af,0⟩] scope ak) 0 (.ref it) al {ac with scope:=relabel scope X.env}) (RR al ac.locals) an) E am) E s2:=by
 have ah:=ok;unfold mQ at ah;simp only[and_eq_true]at ah;obtain⟨⟨⟨aw,a5⟩,a6⟩,ba⟩:=ah;have ai:∀y∈scope.names,y.2 ≠ .cell:=λy hy z=>by
  have:=all_eq_true.mp aw y hy;rw[z]at this;cases this
 refine wpAny_newObj_type (wpAny_newFunctionEnv ai (by intro y hy;simp at hy) (λS B q=>?_) hk);dsimp only at B q⊢;have ax:(s2.heap.push {cls:=.type "list",dict:=none,data:=.seq ([]:Mh).toArray}).objs.size=s2.heap.objs.size+1:=size_push _ _;rw[ax]at B q⊢;have I3:Inv (eG X scope (fG T F) (s2.heap.objs.size+1) s2 H2 fp) [] (lO T F σ) (upd H2 s2.heap.objs.size (.lst [])) {s2 with heap:=S,toks:=s2.toks+([]:List (Str×Value)).length}:=
  DT I2 hk ok f2 (λb N=>let ⟨o,e,_⟩:=Y.obj _ _ ag b N;⟨o,e⟩) B q
 obtain⟨W,⟨m0,w0⟩,turn⟩:=h3 s2.heap.objs.size (I2.hok.fresh (le_refl _));have U:∀{L:Hp},(∀b∈fp,L b=none)->∀b∈fp,rG (eG X scope (fG T F) (s2.heap.objs.size+1) s2 H2 fp) [] L b:=λ{L} hn b N=>
  ⟨hn b N,(I3.ok.exf b N).1,I3.ok.exfs b N,.inl N,(I3.ok.exf b N).2,λp hp=>absurd (show p∈([]:Mb) from hp) (by simp)⟩
 have aq:tn 0 S:=Y.keep _ _ _ ag λb N o e=>by
  have l:=lt_size e;rw[q.2 b (ne_of_lt (lt_succ_of_lt l))];exact get?_push_of_some _ (get?_push_of_some _ e)
 have ay:∀b∈fp,(upd H2 s2.heap.objs.size (.lst [])) b=none:=λb N=>by
  obtain⟨o,e,_⟩:=Y.obj _ _ ag b N;rw[aH (ne_of_lt (lt_size e))];exact(f2 b N).1
 have ad:codeAny (model X.prog X.w) X.A (.compLoop (.ListComp ae [⟨tg,iter,af,0⟩] scope ak) 0 (.ref it) (.ref s2.heap.objs.size) (compEnvC scope (vW scope X.env) (s2.heap.objs.size+1) X.env))
   (RR (.ref s2.heap.objs.size) (s2.heap.objs.size+1)) {s2 with heap:=S,toks:=s2.toks+([]:List (Str×Value)).length}:=by
  refine CB (λn s'=>∃i O V L,Inv (eG X scope (fG T F) (s2.heap.objs.size+1) s2 H2 fp) [] V L s'/\tn i s'.heap/\(∀b∈fp,L b=none)/\W i n O V L) ?_ m0 ⟨0,[],_,_,I3,aq,ay,w0⟩;rintro n s4 ⟨i,O,t,H4,I4,ar,as,w4⟩;obtain⟨hD,go⟩:=turn i n O t H4 w4;rcases go with ⟨stop,qn⟩ | ⟨go,hz,step⟩
  ·refine thn (Y.done (eG X scope (fG T F) (s2.heap.objs.size+1) s2 H2 fp) rfl rfl rfl hc i [] s4 t H4 (λ_ _=>False) I4 (U as) ar stop) λr s5 f=>?_;obtain⟨hr,I5⟩:=f;subst hr;exact av _ s5 t H4 I5 qn
  ·refine thn (Y.item (eG X scope (fG T F) (s2.heap.objs.size+1) s2 H2 fp) rfl rfl rfl hc i [] s4 t H4 (λ_ _=>False) I4 (U as) ar go) λr s5 f=>?_;obtain⟨u,hr,h5⟩:=f;subst hr;refine thn h5 λ_ s6 f=>?_;obtain⟨x,H6,I6,r6,y6,aj,az⟩:=f;have a0:=I6.pinned (U az) (Y.obj _ _ aj);refine thn (hg _ _ _ _ _ s6 t H6 x u _ a0 r6 (step x H6 y6)) λ_ s7 f=>?_;obtain⟨aa,H7,I7,q7⟩:=f;refine thn (au _ _ _ _ _ s7 aa H7 _ I7 q7) λb s8 f=>?_;obtain⟨H8,I8,q8⟩:=f;have again:∀{s9:Shared}{ab:St}{H9:Hp}{zs:Mp},Inv (eG X scope (fG T F) (s2.heap.objs.size+1) s2 H2 fp) ([]++uZ fp s6.heap) ab H9 s9->(∃R,R<n/\W (i+1) R zs ab H9)->
     ∃m,m<n/\∃i O V L,Inv (eG X scope (fG T F) (s2.heap.objs.size+1) s2 H2 fp) [] V L s9/\tn i s9.heap/\(∀b∈fp,L b=none)/\W i m O V L:=λ{s9 ab H9 zs} I9 ⟨R,hm,w9⟩=>by
    refine⟨R,hm,i+1,zs,ab,H9,I9.unpinned,Y.keep _ _ _ aj λb N o e=>(I9.pin (b,o) (mem_append_right _ (mem_append_right _ (lM N e)))).1,λb N=>?_,w9⟩;obtain⟨o,e,d⟩:=Y.obj _ _ aj b N;exact(I9.pin (b,o) (mem_append_right _ (mem_append_right _ (lM N e)))).2.1
   cases b with
   |false=>
    rw[if_neg Bool.false_ne_true]at q8⊢;exact again I8 q8
   |true=>
    rw[if_pos rfl]at q8⊢;refine thn (he _ _ _ _ _ s8 aa H8 _ I8 q8) λuy s9 f=>?_;obtain⟨y,H9,I9,r9,a1,q9⟩:=f;refine thn (iK _ s9 aa H9 (.ref s2.heap.objs.size) [y] (.ref s2.heap.objs.size) [uy] (λ_ L=>∃R,R<n/\W (i+1) R (O++[y]) aa L) I9 rfl (.cons r9 .nil) ⟨_,O,y,rfl,rfl,a1,hz,q9⟩) λ_ bc f=>?_;obtain⟨_,bd,a2,_,a3⟩:=f;exact again a2 a3
 exact codeAny_compStart_list ad (Y.self _ 0 _ _ _ aq ad)
theorem cV{r u iter:Expr}{t:List Expr}{y:Pos}{R:TI}{g:TG}{S:TT}{U:TE}(T:Mg)(F:List (Str×Nat))(hc:X.calm=true)(hi:PI X u iter R)
  (hg:∀C b f ex,PG (eG X scope (fG T F) C b f ex) u g) (B:∀C b f ex,PIf (eG X scope (fG T F) C b f ex) t S) (he:∀C b f ex,PE (eG X scope (fG T F) C b f ex) r U)
  (o:closureFor scope X.env=pure (vW scope X.env):=by rfl) (V:scope.kind = .function:=by rfl) (ok:mQ X scope F=true:=by rfl) (hs:∀x,foldedSetIterable iter X.env x=pure x:=by intro _;rfl) :
  PE X (.ListComp r [⟨u,iter,t,0⟩] scope y) (KU T F R g S U):=by
 intro pins s σ H Q I h;have p:=ok;unfold mQ at p;simp only[and_eq_true]at p;obtain⟨⟨⟨aa,E⟩,ab⟩,ac⟩:=p;have n:∀x∈scope.names,x.2 = .local->scope.names.lookup x.1=some .local:=λx hx z=>by
  have:=all_eq_true.mp E x hx;rw[z]at this;simpa using this
 rw[eval_ListComp];refine wpAny_comprehension_free (use:=none) rfl hs o V n (thn (hi pins s σ H _ I h) λv s1 h1=>thn h1 λae s2 h2=>?_);obtain⟨it,fp,tn,J,H2,e,W,Tn,G,Y,h3⟩:=h2;subst e;refine yS (RR:=λL C=>compPost (model X.prog X.w) X.A X.xe none (EP X pins σ Q) L C) (Q:=λD N=>Q (.ref D) N) hc V ok hg B he W Tn G Y h3 λD s' af N Z q=>?_;obtain⟨m,hn,_⟩:=Z.loc;exact⟨m,hn,λh' O=>⟨.ref D,N,CA W Y Z O,rfl,q⟩⟩
theorem m5{y:Str}{i:Nat}{N G:Pos}{t U iter:Expr}{u:List Expr}{B:Pos}{wi:TI}{g:TG}{tc:TT}{te:TE}(T:Mg)(F:List (Str×Nat))(hN:X.N.Nodup)(hy:X.N[i]? = some y)(Y:Loc X.env.scope y)(hc:X.calm=true)(hi:PI X U iter wi)
  (hg:∀C f n ex,PG (eG X scope (fG T F) C f n ex) U g) (Z:∀C f n ex,PIf (eG X scope (fG T F) C f n ex) u tc) (he:∀C f n ex,PE (eG X scope (fG T F) C f n ex) t te)
  (aa:swapsWith (.ListComp t [⟨U,iter,u,0⟩] scope B) (some (.Name y N)) G.line X.env=pure true:=by rfl)
  (O:closureFor scope X.env=pure (vW scope X.env):=by rfl) (hk:scope.kind = .function:=by rfl) (ok:mQ X scope F=true:=by rfl) (hs:∀x,foldedSetIterable iter X.env x=pure x:=by intro _;rfl)
  (ab:X.fn y=true\/X.env.scope.names.lookup y=some .local:=by first |exact .inl rfl |exact .inr rfl |assumption) :
  PS X (.Assign [.Name y N] (.ListComp t [⟨U,iter,u,0⟩] scope B) G) (λD σ H=>KU T F wi g tc te σ H λv r=>D.nx (σ.set i (some v)) r):=by
 intro pins s σ H D I h;have R:=ok;unfold mQ at R;simp only[and_eq_true]at R;obtain⟨⟨⟨am,ac⟩,an⟩,ao⟩:=R;have E:∀x∈scope.names,x.2 = .local->scope.names.lookup x.1=some .local:=λx Y z=>by
  have:=all_eq_true.mp ac x Y;rw[z]at this;simpa using this
 rw[exec_Assign_Name_used _ _ _ _ aa];refine wpAny_bind (wpAny_standAt (wpAny_bind ?_));show wpAny _ X.A (do let _ <- comprehension (.ListComp t [⟨U,iter,u,0⟩] scope B) scope X.env _ (newList []) false (eval iter X.env) (some (assign (.Name y N) X.env))) _ _ s;refine wpAny_bind (wpAny_mono (wpAny_comprehension_free (use:=some (assign (.Name y N) X.env)) (Q:=λ_ L=>SP X pins D .next L) rfl hs O hk E
  (thn (hi pins s σ H _ I h) λv s1 h1=>thn h1 λaq s2 h2=>?_)) (λ_ L hq=>wpAny_pure (wpAny_pure hq)) λ_ _ e=>e)
 obtain⟨it,fp,tn,J,H2,e,I2,Tn,ad,f2,h3⟩:=h2;subst e;refine yS (RR:=λae C=>compPost (model X.prog X.w) X.A X.xe (some (assign (.Name y N) X.env)) (λ_ L=>SP X pins D .next L) ae C) (Q:=λS r=>D.nx (σ.set i (some (.ref S))) r) hc hk ok hg Z he I2 Tn ad f2 h3 λS L ar r I' q=>?_;have I3:Inv X pins σ r L:=CA I2 f2 I' ⟨rfl,λ_ _=>rfl⟩;obtain⟨m,hn,_⟩:=I'.loc;obtain⟨W,es,ep,af,V,ag,ah⟩:=hn;have fC:r (s2.heap.objs.size+1)=none:=I'.free;have ai:s2.heap.objs.size<=s2.heap.objs.size+1:=le_succ _;have F0:=I2.fpOk (H':=r) ai fC;obtain⟨g0,g1,g2,g3,g4,g5⟩:=F0;have I4:Inv X (pins++[(s2.heap.objs.size+1,W)]) σ r L:=I3.pins_of λp hp=>(mem_append.mp hp).elim (λz=>I3.pin p (mem_append_right _ z)) λz=>by
  have e:p=(s2.heap.objs.size+1,W):=by simpa using z
  subst e;exact⟨af,fC,g1,g2,λv z=>by rw[V]at z;cases z⟩
 show wpAny _ X.A (assign (.Name y N) X.env (.ref S)) _ _ _;refine thn (bH (pos:=N) hN hy Y ab _ L σ r (.ref S) (.ref S) _ I4 rfl (show rZ i (.ref S) σ r D.nx from q)) λ_ s5 aj=>?_;obtain⟨ak,H5,I5,q5⟩:=aj;have p5:=I5.pin (s2.heap.objs.size+1,W) (mem_append_right _ (mem_append_right _ (by simp)));refine⟨m,⟨W,es,ep,p5.1,V,ag,ah⟩,λh' al=>?_⟩;refine⟨ak,H5,?_,q5⟩;have I6:=I5.unpinned;exact I6.turned (it:=s2.heap.objs.size+1) (t':=s5.toks) (λb o hb e=>(al.2 b hb).trans e) p5.2.1 g1 g3 g4 g5
end
mutual
def Den(H:Hp):PyData->V->Prop
 | .none,v=>v = .non
 | .bool b,v=>v = .bl b
 | .int i,v=>v = .int i
 | .str x,v=>v = .str x
 | .tuple f,v=>∃a e,v = .ref a/\H a=some (.tup e)/\aT H f e
 | .list f,v=>∃a e,v = .ref a/\H a=some (.lst e)/\aT H f e
 | .dict _,_=>False
def aT(H:Hp):Mj->Mp->Prop
 |[],b=>b=[]
 |d::e,b=>∃x r,b=x::r/\Den H d x/\aT H e r
end
section
variable{X:Cx}{pins:Mb}{σ : St}{H H':Hp}{s:Shared}{K:Ma}
theorem aG.seqT(e:aG H H')(h:SqT K H a b):SqT K H' a b:=by
 rcases h with (h | ⟨o,h⟩) |h
 ·exact .inl (.inl (e _ _ h))
 ·exact .inl (.inr ⟨o,e _ _ h⟩)
 ·exact .inr h
mutual
theorem Den.same(e:aG H H'):∀{d:PyData}{v:V},Den H d v->Den H' d v
 | .none,v,h=>by simp only[Den]at h⊢;exact h
 | .bool b,v,h=>by simp only[Den]at h⊢;exact h
 | .int i,v,h=>by simp only[Den]at h⊢;exact h
 | .str x,v,h=>by simp only[Den]at h⊢;exact h
 | .tuple p,v,h=>by
  simp only[Den]at h⊢;obtain⟨a,f,g,m,o⟩:=h;exact⟨a,f,g,e _ _ m,aT.same e o⟩
 | .list p,v,h=>by
  simp only[Den]at h⊢;obtain⟨a,f,g,m,o⟩:=h;exact⟨a,f,g,e _ _ m,aT.same e o⟩
 | .dict _,v,h=>by simp only[Den]at h
theorem aT.same(e:aG H H'):∀{f:Mj}{b:Mp},aT H f b->aT H' f b
 |[],b,h=>by simp only[aT]at h⊢;exact h
 |d::f,b,h=>by
  simp only[aT]at h⊢;obtain⟨x,r,g,m,o⟩:=h;exact⟨x,r,g,Den.same e m,aT.same e o⟩
end
mutual
theorem gW(I:Inv X G N H s):∀{d:PyData}{v:V}{u:Value},Den H d v->cC v u->∃f,Reads s.heap u d f
 | .none,v,u,h,r=>by
  simp only[Den]at h;subst h;cases (show u=Value.none from r);exact⟨_,.none⟩
 | .bool b,v,u,h,r=>by
  simp only[Den]at h;subst h;cases (show u=Value.bool b from r);exact⟨_,.bool b⟩
 | .int i,v,u,h,r=>by
  simp only[Den]at h;subst h;obtain⟨t,e⟩:=(show ∃t,u=Value.int i t from r);subst e;exact⟨_,.int i t⟩
 | .str x,v,u,h,r=>by
  simp only[Den]at h;subst h;obtain⟨t,e⟩:=(show ∃t,u=Value.str x t from r);subst e;exact⟨_,.str x t⟩
 | .tuple J,v,u,h,r=>by
  simp only[Den]at h;obtain⟨a,L,g,m,p⟩:=h;subst g;cases (show u=Value.ref a from r);obtain⟨q,y,⟨o,z,B,n,D⟩,_⟩:=I.tuple (SqT.of m);obtain⟨f,E⟩:=oI I p y;exact⟨f,.tuple z B D (by simpa using E)⟩
 | .list J,v,u,h,r=>by
  simp only[Den]at h;obtain⟨a,L,g,m,p⟩:=h;subst g;cases (show u=Value.ref a from r);obtain⟨q,y,⟨o,n,z,B,_,D⟩,_⟩:=I.list (SqL.of m);obtain⟨f,E⟩:=oI I p y;exact⟨a::f,.list z B D (by simpa using E)⟩
 | .dict _,v,u,h,r=>by simp only[Den]at h
theorem oI(I:Inv X g z H s):∀{f:Mj}{b:Mp}{e:Mh},aT H f b->cE b e->∃m,ReadsAll s.heap e f m
 |[],b,e,h,r=>by
  simp only[aT]at h;subst h;cases r;exact⟨_,.nil⟩
 |d::f,b,e,h,r=>by
  simp only[aT]at h;obtain⟨x,B,n,o,p⟩:=h;subst n;cases r with
  |cons q t=>
   obtain⟨m,u⟩:=gW I o q;obtain⟨D,y⟩:=oI I p t;exact⟨_,.cons u y⟩
end
end
section
variable{X:Cx}
inductive LP(x:V)(y:V)(H:Hp)(Q:VK):Prop
 |mk:∀d e,Den H d x->Den H e y->SeqAt.shaped d=true->SeqAt.shaped e=true->Q (.bl (PyData.eqv d e)) H->LP x y H Q
inductive rNeD(x:V)(y:V)(H:Hp)(Q:VK):Prop
 |mk:∀d e,Den H d x->Den H e y->SeqAt.shaped d=true->SeqAt.shaped e=true->Q (.bl (!PyData.eqv d e)) H->rNeD x y H Q
theorem Cu(f:X.A.units+64<cLine):OpR X (compareOp .Eq) LP:=by
 intro b s z H x y v u Q I g m h;obtain⟨d,e,n,o,p,s2,q⟩:=h;obtain⟨B,r⟩:=gW I n g;obtain⟨D,t⟩:=gW I o m;exact eq_dataH r t p s2 f ⟨.bl _,H,I,rfl,q⟩
theorem Ct(f:X.A.units+64<cLine):OpR X (compareOp .NotEq) rNeD:=by
 intro b s z H x y v u Q I g m h;obtain⟨d,e,n,o,p,s2,q⟩:=h;obtain⟨B,r⟩:=gW I n g;obtain⟨D,t⟩:=gW I o m;exact ne_dataH r t p s2 f ⟨.bl _,H,I,rfl,q⟩
inductive LO(K:Ma)(xs:Mp)(H:Hp)(Q:VK):Prop
 |mk:∀x n t b,xs=[x,.ty n]->qE K H x t->PySem.W.kitOne K t (.type n)=some b->Q (.bl b) H->LO K xs H Q
theorem IX:gP X (.builtin "isinstance") (LO X.K):=by
 intro f s u H y z Q I r h;obtain⟨x,n,t,b,rfl,ty,g,q⟩:=h;cases r with
 |cons m e=>
  cases e with
  |cons e o=>
   cases o;cases (show _=Value.type n from e);exact Fo I m ty g λp=>⟨.bl b,H,I.tok p,rfl,q⟩
theorem aD(h:H p=none):aG H (upd H p o):=λb u e=>by
 rw[aH (bS e h)];exact e
theorem gUU{H:Hp}{p:Addr}{o:HO}(h:H p=none):∃b,upd H p o=b/\aG H b/\b p=some o:=⟨_,rfl,aD h,aB⟩
theorem new_h{H:Hp}{o:HO}{Q:Addr->Hp->Prop}(h:∀p,H p=none->∀b,aG H b->b p=some o->Q p b):∀p,H p=none->Q p (upd H p o):=λp e=>h p e _ (aD e) aB
theorem new_o{H:Hp}{o:HO}{Q:Addr->Hp->Prop}(h:∀p b,aG H b->b p=some o->Q p b):∀p,H p=none->Q p (upd H p o):=new_h λp _=>h p
inductive Kg(x:V)(y:V)(H:Hp)(Q:VK):Prop
 |mk:∀a b xs ys,x = .ref a->y = .ref b->H a=some (.tup xs)->H b=some (.tup ys)->xs.length+ys.length<=sizeLine->(∀p H',aG H H'->H' p=some (.tup (xs++ys))->Q (.ref p) H')->Kg x y H Q
theorem jH:OpR X (binaryOp .Add) Kg:=by
 intro e s V H x y v u Q I D E h;obtain⟨a,b,G,W,rfl,rfl,o,r,Y,q⟩:=h;by_cases J:G=[]
 ·subst J;cases (show v=Value.ref a from D);cases (show u=Value.ref b from E);obtain⟨Z,r1,p1,_⟩:=I.tuple (SqT.of o);obtain⟨L,r2,p2,_⟩:=I.tuple (SqT.of r);cases r1;obtain⟨⟨aa,dd,N,sl⟩,O,R,n,S⟩:=p1;obtain⟨⟨U,t,data2,B⟩,f,g,n2,m⟩:=p2;simp only at R S g m;subst R S g m;refine concat_meets ⟨_,O,rfl⟩ ⟨_,f,rfl⟩ noFill_tuple_add seq_tuple_add PySem.F.slot_tuple_add PySem.F.entry_tuple_add (PySem.F.args_tuple_add_2 _ _)
   (tuple_addW0 a b _ _ n n2 dd t sl B rfl) ⟨O,f,?_⟩
  exact⟨.ref b,H,I,rfl,q b H (aG.refl H) r⟩
 ·refine Jg e s V H (.ref a) (.ref b) v u Q I D E ⟨a,b,G,W,rfl,rfl,SqT.of o,SqT.of r,J,Y,λz=>?_,λz p hp=>q p _ (aD hp) aB⟩;subst z;refine q a H (aG.refl H) ?_;rw[append_nil];exact o
inductive LL(K:Ma)(xs:Mp)(H:Hp)(Q:VK):Prop
 |mk:∀(p:Addr)(ns:Mf),xs=[.ref p]->(SqL K H p (ns.map V.int)\/SqT K H p (ns.map V.int))->Q (.int ns.sum) H->LL K xs H Q
theorem mE(b:Mf):∀n,n<=b.length->PySem.preSum (λi=>b.getD i 0) n=(b.take n).sum
 |0,_=>by simp [PySem.preSum]
 |n+1,h=>by
  have e:=mE b n (by omega);have f:n<b.length:=by omega
  unfold PySem.preSum;rw[e,take_succ,List.sum_append];simp [List.getD,f]
theorem ES{f:Mf}:∀{b:Mh},cE (f.map V.int) b->∀i v,b.toArray[i]? = some v->∃t,v=Value.int (f.getD i 0) t:=by
 intro b r i v g;have g:b[i]? = some v:=by simpa using g
 have p:i<b.length:=(List.getElem?_eq_some_iff.mp g).1;have m:i<f.length:=by
  have:=r.length;rw[length_map]at this;omega
 obtain⟨u,n,o⟩:=r.get (i:=i) (x:=V.int f[i]) (by simp [m]);rw[g]at n;cases n;obtain⟨t,e⟩:=o;exact⟨t,by rw[e];simp [List.getD,m]⟩
theorem F6(hc:X.calm=true):gP X (.builtin "sum") (LL X.K):=by
 intro L s σ H xs us Q I r h;obtain⟨p,B,rfl,N,q⟩:=h;cases r with
 |cons r1 r2=>
  cases r2;cases (show _=Value.ref p from r1);have V:X.A.in1.handled=none:=I.ok.hd hc;have fin:∀t,(∀b o,b ∉ [s.heap.objs.size]->(s.heap.get? b=some o->t.heap.get? b=some o))->t.gens=s.gens->t.os=s.os->∀D,EP X L σ Q (.int B.sum D) t:=λt W Y x D=>by
   obtain⟨Z,g',d',R,aa⟩:=t;dsimp only at Y x;subst Y x;refine⟨.int B.sum,H,I.call (h':=Z) (g':=s.gens) (d':=d') (t':=R) (ch:=[]) (Un.kept λb u e=>W b u (by simpa using ne_of_lt (lt_size e)) e) (I.hok.kept λb u e=>W b u (by simpa using ne_of_lt (lt_size e)) e) I.bare (λb z=>absurd z (by simp)),⟨D,rfl⟩,q⟩
  refine call_sum_walkAnyS ?_;rcases N with N |N
  ·obtain⟨f,O,y,hz⟩:=I.list N;have g:f.toArray.size=B.length:=by
    have:=O.length;rw[length_map]at this;simp [this]
   have S:p≠s.heap.objs.size:=by
    obtain⟨o,n,x,_⟩:=y;exact ne_of_lt (lt_size x)
   refine wpAny_pyIter_list y.isList ⟨s.heap.objs.size,_,_,_,_,_,_,(λi=>B.getD i 0),rfl,(Walks.list V s.heap.objs.size p S f.toArray).toS,⟨⟨_,get?_push_size _ rfl,rfl,rfl⟩,?_⟩,?_,λi v U=>ES O i v U,λt D E=>?_⟩
   ·obtain⟨o,n,x,G,ab,J⟩:=y;exact⟨o,get?_push_of_some _ x,G,n,J⟩
   ·obtain⟨o,n,x,_⟩:=y;intro b m;rw[size_push];rcases mem_cons.mp m with rfl |m
    ·exact lt_succ_self _
    ·have:b=p:=by simpa using m
     subst this;exact lt_succ_of_lt (lt_size x)
   ·rw[g,mE B _ (le_refl _),take_length];exact fin t (λb o m e=>E.heap b o m (get?_push_of_some _ e)) E.gens E.os D
  ·obtain⟨f,O,y,hz⟩:=I.tuple N;have g:f.toArray.size=B.length:=by
    have:=O.length;rw[length_map]at this;simp [this]
   have S:p≠s.heap.objs.size:=ne_of_lt y.lt;refine wpAny_pyIter_tuple (show s.heap.IsTuple p f.toArray from y) ⟨s.heap.objs.size,_,_,_,_,_,_,(λi=>B.getD i 0),rfl,(Walks.tuple V s.heap.objs.size p S f.toArray).toS,⟨⟨_,get?_push_size _ rfl,rfl,rfl⟩,?_⟩,?_,λi v U=>ES O i v U,λt D E=>?_⟩
   ·obtain⟨o,x,G,n,J⟩:=y;exact⟨o,get?_push_of_some _ x,G,n,J⟩
   ·intro b m;rw[size_push];rcases mem_cons.mp m with rfl |m
    ·exact lt_succ_self _
    ·have:b=p:=by simpa using m
     subst this;exact lt_succ_of_lt y.lt
   ·rw[g,mE B _ (le_refl _),take_length];exact fin t (λb o m e=>E.heap b o m (get?_push_of_some _ e)) E.gens E.os D
end
section
variable{prog:Program}{w:World}{A:Around}{E:Mm}{s:Shared}
theorem tM(e:TypeCalled T o "object.__init__")
  (B:checkTypeCall T ⟨m,kw⟩=pure ()) (q:checkBuiltinCall o ⟨.type T::m,kw⟩=pure ()) (t:entryFor table o=some D) (g:Meets (D ⟨.type T::m,kw⟩) S)
  (G:∀(b:Value),argsOk "object.__init__" ⟨b::m,kw⟩) (H:∀(b:Value),Meets (Builtin.«object.__init__» ⟨b::m,kw⟩) (λ_ R s=>s.TypeIs b T/\R (.ok (.ret .none)) s))
  (h:S A.in1 (wants (λb f=>f.TypeIs b T/\Q b f) E) s):wpAny (model prog w) A (call (.type T) m kw) Q E s:=by
 obtain⟨U,V,W⟩:=e.mro;have X:=e.made;have Y:=e.sub;refine wpAny_call (codeAny_of_tree ?tree)
 case tree=>
  show wpAny _ _ (callAny (.type T) _) _ _ _;refine wpAny_pure ⟨Code.quiet_builtin _ (by decide +kernel),codeAny_builtin PySem.F.entry_type_call ?inner⟩;rw[Around.under_plain (weight_type_call_type T m kw) (units_type_call_type T m kw)];have Z:=e.notType;have e4:=e.canCreate
  repeat (any_goals (first |assumption |wp_step))
  refine codeAny_mono (codeAny_call_builtin e.plain t (wpAny_of_eq q (g prog w A.in1 _ s h))) λI u x=>?_;cases I with
  |error ex=>exact x
  |ok J=>
   cases J with
   |ret n=>
    have y:u.TypeIs n T/\Q n u:=x;obtain⟨ty,L⟩:=y;have e5:=e.init.lookup;have e6:=e.init.bind n
    repeat (any_goals (first |assumption |wp_step))
    refine codeAny_mono (codeAny_call_builtin e.init.plain PySem.F.entry_object_init (e.init.check _ _ _ _ _ _ _ _ ty (G n) (H n prog w A.in1 (wants (λr p=>r = .none/\Q n p) E) u ⟨ty,rfl,L⟩))) λN s2 z=>?_;cases N with
    |error ex=>exact z
    |ok O=>
     cases O with
     |ret rr=>
      obtain⟨rfl,q4⟩:=z
      repeat (any_goals (first |assumption |wp_step))
     |_=>exact z.elim
   |_=>exact x.elim
theorem nV(a b:Value):checkTypeCall "enumerate" ⟨[a],[("start",b)]⟩=pure ():=by kernel_rfl
theorem pU(a b:Value):checkBuiltinCall "enumerate.__new__" ⟨[.type "enumerate",a],[("start",b)]⟩=pure ():=by kernel_rfl
theorem By(l:Addr)(b:Array Value)(n:Nat)(o:Option Addr)(u:Me)(t:Tok) :
  Meets (Builtin.«enumerate.__new__» ⟨[.type "enumerate",.ref l],[("start",.int 1 t)]⟩) (λ_ R s=>s.heap.get? l=some {cls:=.type "tuple",dict:=o,data:=.seq b n,slots:=u}/\
   R (.ok (.ret (.ref (s.heap.push {cls:=.type "tuple_iterator",data:=.fields #[.ref l,.int 0 0] }).objs.size)))
    {s with heap:=(s.heap.push {cls:=.type "tuple_iterator",data:=.fields #[.ref l,.int 0 0] }).push {cls:=.type "enumerate",data:=.fields #[.none,.bool false,.ref s.heap.objs.size,rawInt 1,.none,.none] } }):=
 .of_wp λprog w A R s h=>by
  obtain⟨x,g,d,y,os⟩:=s;obtain⟨m,h⟩:=h;have z1:=sub_enumerate;have q:Heap.IsTuple (Shared.heap ⟨x,g,d,y,os⟩) l b:=⟨_,m,rfl,n,rfl⟩
  wp_walk using AutoSeq1.wpAny_loadPart' m
  refine wpAny_stack_any λst=>wpAny_pure ?_;split
  ·rename_i c _ _ _ _ _;cases (c == Value.type "enumerate")
   ·wp_walk using AutoSeq1.wpAny_loadPart' m,wpAny_pyIter_tuple q
    exact⟨_,rfl,h⟩
   ·wp_walk using AutoSeq1.wpAny_loadPart' m,wpAny_pyIter_tuple q
    exact⟨_,rfl,h⟩
  ·wp_walk using AutoSeq1.wpAny_loadPart' m,wpAny_pyIter_tuple q
   exact⟨_,rfl,h⟩
theorem AQ(l:Addr)(b:Array Value)(n:Nat)(o:Option Addr)(t:Me) :
  Meets (Builtin.«enumerate.__new__» ⟨[.type "enumerate",.ref l],[]⟩) (λ_ R s=>s.heap.get? l=some {cls:=.type "tuple",dict:=o,data:=.seq b n,slots:=t}/\
   R (.ok (.ret (.ref (s.heap.push {cls:=.type "tuple_iterator",data:=.fields #[.ref l,.int 0 0] }).objs.size)))
    {s with heap:=(s.heap.push {cls:=.type "tuple_iterator",data:=.fields #[.ref l,.int 0 0] }).push {cls:=.type "enumerate",data:=.fields #[.none,.bool false,.ref s.heap.objs.size,rawInt 0,.none,.none] } }):=
 .of_wp λprog w A R s h=>by
  obtain⟨u,g,d,x,os⟩:=s;obtain⟨m,h⟩:=h;have z1:=sub_enumerate;have q:Heap.IsTuple (Shared.heap ⟨u,g,d,x,os⟩) l b:=⟨_,m,rfl,n,rfl⟩
  wp_walk using AutoSeq1.wpAny_loadPart' m
  refine wpAny_stack_any λst=>wpAny_pure ?_;split
  ·rename_i c _ _ _ _ _;cases (c == Value.type "enumerate")
   ·wp_walk using AutoSeq1.wpAny_loadPart' m,wpAny_pyIter_tuple q
    exact⟨_,rfl,h⟩
   ·wp_walk using AutoSeq1.wpAny_loadPart' m,wpAny_pyIter_tuple q
    exact⟨_,rfl,h⟩
  ·wp_walk using AutoSeq1.wpAny_loadPart' m,wpAny_pyIter_tuple q
   exact⟨_,rfl,h⟩
theorem EV(e a b:Value):argsOk "object.__init__" ⟨[e,a],[("start",b)]⟩:=by
 unfold argsOk;rw[signature?_of (id:="object.__init__") (n:=['_','_','t','i','n','i','_','_']) (o:=['t','c','e','j','b','o']) (by kernel_rfl) PySem.F.owner_object]
 kernel_rfl
theorem nT(e a b:Value):Meets (Builtin.«object.__init__» ⟨[e,a],[("start",b)]⟩) (λ_ R s=>s.TypeIs e "enumerate"/\R (.ok (.ret .none)) s):=by
 refine Meets.of_wp λprog w A R s f=>?_;obtain⟨ty,q⟩:=f;have g:=PySem.F.called_enumerate.made;have m:=PySem.F.called_enumerate.init.lookup
 repeat (any_goals (first |assumption |wp_step))
 exact⟨_,rfl,q⟩
theorem Jx(f:s.heap.IsTupleIter m t i)(y:s.heap.IsTuple t g)(z:g[i]? = some x)
  (B:∀n,n.IsTupleIter m t (i+1)->Heap.SameBut m s.heap n->Q x {s with heap:=n}):wpAny (model prog w) A (Builtin.SmallTypes.nextOf (.ref m)) Q E s:=by
 obtain⟨D,e,o,b⟩:=id f;obtain⟨G,p,_,H,q⟩:=y;unfold Builtin.SmallTypes.nextOf;refine wpAny_bind (wpAny_callSpecial?_slot (name:=Str.ofString "__next__") f.typeIs PySem.F.slot_tuple_iterator_next (wpAny_call_entry PySem.F.slot_tuple_iterator_next f.typeIs PySem.F.entry_tuple_iterator_next ?nx (PySem.F.args_tuple_iterator_next_1 _)))
 case nx=>
  show wpAny _ _ (field (.ref m) 0 >>= _) _ _ s;refine wpAny_bind (wpAny_field e b (x:=.ref t) rfl ?_);show wpAny _ _ (if (Value.ref t == Value.none)=true then _ else _) _ _ s;rw[if_neg (show ¬((Value.ref t == Value.none)=true) from Bool.false_ne_true)];show wpAny _ _ (field (.ref m) 1 >>= _) _ _ s;refine wpAny_bind (wpAny_field e b (x:=.int i 0) rfl ?_);show wpAny _ _ (seqItems? (.ref t) >>= _) _ _ s;refine wpAny_bind (wpAny_seqItems p q ?_);simp only[Int.toNat_natCast,z];refine wpAny_bind (wpAny_setField e b (by simp) (wpAny_pure ⟨x,rfl,wpAny_pure (B _ ⟨_,Heap.get?_update_self _ e (Obj.isFreed_of_fields (Obj.data_mapFields b _)),(Obj.cls_mapFields ..).trans o,?_⟩ (Heap.SameBut.update ..))⟩));rw[Obj.data_mapFields b];simp [rawInt]
theorem IT{e f t:Addr}{i:Nat}{lo:Int}{B:Array Value}{x m:Value}{Q:Option Value->Shared->Prop}
  (Z:IsEnum s.heap e f (lo+i) m) (aa:s.heap.IsTupleIter f t i) (ht:s.heap.IsTuple t B) (hx:B[i]? = some x) (n:e≠f)
  (hQ:∀V,IsEnumOut V e f (lo+i+1) x s.heap.objs.size->V.IsTupleIter f t (i+1)->
   V.get? s.heap.objs.size=some {cls:=.type "tuple",data:=.seq #[.int (lo+i) s.toks,x] }->(∀b o,b≠e->b≠f->s.heap.get? b=some o->V.get? b=some o)->
   Q (some (.ref s.heap.objs.size)) {s with heap:=V,toks:=s.toks+1}):wpAny (model prog w) A (pyNext (.ref e)) Q E s:=by
 have ty:s.TypeIs (.ref e) "enumerate":=⟨_,Z,rfl⟩;unfold pyNext;refine wpAny_bind (wpAny_attempt (wpAny_callSpecial?_slot (name:=Str.ofString "__next__") ty PySem.F.slot_enumerate_next (wpAny_call_entry PySem.F.slot_enumerate_next ty PySem.F.entry_enumerate_next ?nx (PySem.F.args_enumerate_next_1 _))))
 case nx=>
  obtain⟨L,g,d,z,os⟩:=s;show wpAny _ _ (field (.ref e) 2 >>= _) _ _ _;refine wpAny_bind (wpAny_field Z rfl (x:=.ref f) rfl ?_);refine wpAny_bind (Jx aa ht hx λN O p=>?_);replace p:Heap.SameBut f L N:=p;have g1:IsEnum N e f (lo+i) m:=(p.2 e n).trans Z;show wpAny _ _ (field (.ref e) 3 >>= _) _ _ ⟨N,g,d,z,os⟩;refine wpAny_bind (wpAny_field g1 rfl (x:=rawInt (lo+i)) rfl ?_);show wpAny _ _ (field (.ref e) 4 >>= _) _ _ ⟨N,g,d,z,os⟩;refine wpAny_bind (wpAny_field g1 rfl (x:=.none) rfl ?_);show wpAny _ _ (mkInt (lo+i) >>= _) _ _ ⟨N,g,d,z,os⟩;refine wpAny_bind (wpAny_mkInt ?_);show wpAny _ _ (setField (.ref e) 3 (rawInt (lo+i+1)) >>= _) _ _ ⟨N,g,d,z+1,os⟩;refine wpAny_bind (wpAny_setField_rec g1 (by simp) λW g2 u=>?_);replace u:Heap.SameBut e N W:=u;replace g2:IsEnum W e f (lo+i+1) m:=g2;show wpAny _ _ (setField (.ref e) 4 .none >>= _) _ _ ⟨W,g,d,z+1,os⟩;refine wpAny_bind (wpAny_setField_rec g2 (by simp) λS g3 y=>?_);replace y:Heap.SameBut e W S:=y;replace g3:IsEnum S e f (lo+i+1) m:=g3;show wpAny _ _ (newTuple [.int (lo+i) z,x] >>= _) _ _ ⟨S,g,d,z+1,os⟩;refine wpAny_bind (wpAny_newTuple ?_);have g4:IsEnum (S.push {cls:=.type "tuple",data:=.seq #[.int (lo+i) z,x] }) e f (lo+i+1) m:=get?_push_of_some _ g3;generalize J:S.push {cls:=.type "tuple",data:=.seq #[.int (lo+i) z,x] }=X at g4;have sz:S.objs.size=L.objs.size:=by rw[y.1,u.1,p.1]
  have el:e<L.objs.size:=lt_size Z;have t4:X.get? L.objs.size=some {cls:=.type "tuple",data:=.seq #[.int (lo+i) z,x] }:=by
   rw[<- J,<- sz];exact get?_push_size _ rfl
  have ab:∀b o,b≠e->b≠f->L.get? b=some o->X.get? b=some o:=λb o U n2 q=>by
   rw[<- J];exact get?_push_of_some _ (y.extBut b o U (u.extBut b o U (p.extBut b o n2 q)))
  have Y:X.IsTupleIter f t (i+1):=by
   obtain⟨o,ho,r⟩:=O;rw[<- J];exact⟨o,get?_push_of_some _ (y.extBut f o (Ne.symm n) (u.extBut f o (Ne.symm n) ho)),r⟩
  show wpAny _ _ (Builtin.SmallTypes.ownedTupleIsFree (.ref e) >>= _) _ _ ⟨X,g,d,z+1,os⟩;rw[sz];clear J g3 y g2 u g1 p O sz S W N;refine wpAny_bind ?_;unfold Builtin.SmallTypes.ownedTupleIsFree;refine wpAny_bind (wpAny_field g4 rfl (x:=.none) rfl (wpAny_pure ?_));simp only[if_true];refine wpAny_bind (wpAny_rule ?_);refine wpAny_bind (wpAny_field g4 rfl (x:=m) rfl ?_);refine wpAny_bind (wpAny_setField_rec g4 (by simp) λk5 g5 G=>?_);replace G:Heap.SameBut e X k5:=G;replace g5:IsEnum k5 e f (lo+i+1) x:=g5;show wpAny _ _ (Builtin.SmallTypes.ownedTupleHandOut (.ref e) (.ref L.objs.size) >>= _) _ _ ⟨k5,g,d,z+1,os⟩;refine wpAny_bind ?_;unfold Builtin.SmallTypes.ownedTupleHandOut;refine wpAny_bind (wpAny_setField_rec g5 (by simp) λk6 g6 H=>?_);replace H:Heap.SameBut e k5 k6:=H;replace g6:IsEnumOut k6 e f (lo+i+1) x L.objs.size:=g6;refine wpAny_setField_rec g6 (by simp) λk7 g7 I=>?_;replace I:Heap.SameBut e k6 k7:=I;replace g7:IsEnumOut k7 e f (lo+i+1) x L.objs.size:=g7;refine wpAny_bind (wpAny_letGo (wpAny_pure ⟨_,rfl,wpAny_pure (hQ k7 g7 ?_ ?_ ?_)⟩))
  ·obtain⟨o,ho,r⟩:=Y;exact⟨o,I.extBut f o (Ne.symm n) (H.extBut f o (Ne.symm n) (G.extBut f o (Ne.symm n) ho)),r⟩
  ·exact I.extBut _ _ (ne_of_gt el) (H.extBut _ _ (ne_of_gt el) (G.extBut _ _ (ne_of_gt el) t4))
  ·exact λb o U n2 q=>I.extBut b o U (H.extBut b o U (G.extBut b o U (ab b o U n2 q)))
theorem J8{e p t:Addr}{i:Nat}{lo:Int}{f:Array Value}{r:Value}{Q:Option Value->Shared->Prop}(u:A.handled=none)
  (B:IsEnum s.heap e p lo r) (g:s.heap.IsTupleIter p t i) (H:s.heap.IsTuple t f) (I:f[i]? = none)
  (J:∀D,Heap.ExtBut p s.heap D->Q none {s with heap:=D}):wpAny (model prog w) A (pyNext (.ref e)) Q E s:=by
 have ty:s.TypeIs (.ref e) "enumerate":=⟨_,B,rfl⟩;obtain⟨N,n,L,o⟩:=id g;obtain⟨O,y,_,R,z⟩:=H;unfold pyNext;refine wpAny_bind (wpAny_attempt (wpAny_callSpecial?_slot (name:=Str.ofString "__next__") ty PySem.F.slot_enumerate_next (wpAny_call_entry PySem.F.slot_enumerate_next ty PySem.F.entry_enumerate_next ?nx (PySem.F.args_enumerate_next_1 _))))
 case nx=>
  show wpAny _ _ (field (.ref e) 2 >>= _) _ _ _;refine wpAny_bind (wpAny_field B rfl (x:=.ref p) rfl ?_);refine wpAny_bind ?_;unfold Builtin.SmallTypes.nextOf;refine wpAny_bind (wpAny_callSpecial?_slot (name:=Str.ofString "__next__") g.typeIs PySem.F.slot_tuple_iterator_next (wpAny_call_entry PySem.F.slot_tuple_iterator_next g.typeIs PySem.F.entry_tuple_iterator_next ?nx2 (PySem.F.args_tuple_iterator_next_1 _)))
  case nx2=>
   show wpAny _ _ (field (.ref p) 0 >>= _) _ _ s;refine wpAny_bind (wpAny_field n o (x:=.ref t) rfl ?_);show wpAny _ _ (if (Value.ref t == Value.none)=true then _ else _) _ _ s;rw[if_neg (show ¬((Value.ref t == Value.none)=true) from Bool.false_ne_true)];show wpAny _ _ (field (.ref p) 1 >>= _) _ _ s;refine wpAny_bind (wpAny_field n o (x:=.int i 0) rfl ?_);show wpAny _ _ (seqItems? (.ref t) >>= _) _ _ s;refine wpAny_bind (wpAny_seqItems y z ?_);simp only[Int.toNat_natCast,I];refine wpAny_bind (wpAny_rule (wpAny_bind (wpAny_setField n o (by simp) ?_)));show wpAny _ _ (newExc (.type "StopIteration") [] >>= _) _ _ _;refine wpAny_bind ?_;simp only[newExc,newTuple];refine wpAny_bind (wpAny_newObj_type ?_ (by size_fits));refine wpAny_bind (m:=firstArgMember _ _) (wpAny_of_eq (a:=Value.none) (by first |rfl | (simp only[firstArgMember];rfl)) ?_);refine wpAny_newObj_type ?_ (by size_fits);simp only[raiseNew];refine wpAny_bind (wpAny_handled ?_)
   first |rw[show A.in1.handled=none from u] |rw[show A.in1.in1.handled=none from u] |rw[u]
   refine wpAny_bind (wpAny_pure (wpAny_throw ?_));refine wpAny_bind (wpAny_isInstance (T:="StopIteration") (b:=true) ⟨_,get?_push_size _ rfl,rfl⟩ isSubtype_stop ?_);exact wpAny_pure (J _ (((Heap.SameBut.update ..).extBut.push _).push _))
end
def Ite(K:Ma)(lo:Int)(a:Addr):It:=
 ⟨λi H=>∃b x,SqT K H a b/\b[i]? = some x,λi H x e=>∃p v,x = .ref p/\H p=none/\e=upd H p (.tup [.int (lo+i),v])/\∀b,SqT K H a b->b[i]? = some v,λi H=>∃b,SqT K H a b/\b.length<=i⟩
section
variable{X:Cx}{pins:Mb}{σ : St}{H:Hp}{s:Shared}
theorem Inv.turned2(I:Inv X pins σ H s)(g:rG X pins H e)(m:rG X pins H E)(G:s.heap.objs.size<=p)(k:∀b o,b≠e->b≠E->s.heap.get? b=some o->x.get? b=some o)
  (O:(∃o,x.get? e=some o)/\∃o,x.get? E=some o) (new:eC X.prog X.w (upd H p (.tup J)) x p (.tup J)):Inv X pins σ (upd H p (.tup J)) {s with heap:=x,toks:=t'}:=by
 have D:=I.hok.fresh G;have N:∀b o,s.heap.get? b=some o->b≠p:=λb o q=>ne_of_lt (lt_of_lt_of_le (lt_size q) G);refine I.call' (s':={s with heap:=x,toks:=t'}) (ch:=[e,E]) rfl ⟨λb o q n _ f=>?_,λb o q n _ f=>⟨o.slots,?_⟩,λb o q n _=>?_,λb o q f=>⟨o,?_⟩,λb L q=>?_,λb u L q=>?_,λb S q=>⟨#[],?_⟩⟩ ?_ I.bare λb t=>?_
 ·exact k b o (λz=>f (by simp [z])) (λz=>f (by simp [z])) q
 ·exact k b o (λz=>f (by simp [z])) (λz=>f (by simp [z])) q
 ·rw[aH (N b o q)];exact n
 ·exact k b o (λz=>f (by simp [z])) (λz=>f (by simp [z])) q
 ·rw[aH (bS q D)];exact q
 ·rw[aH (bS q D)];exact q
 ·rw[aH (bS q D),q];simp
 ·intro b u q;by_cases t:b=p
  ·subst t;rw[aB]at q;cases q;exact new
  ·rw[aH t]at q;refine(I.hok b u q).stay (λc v f r=>k c v ?_ ?_ r) (λc r=>by rw[aH (bS r D)];exact r) λc L r=>by rw[aH (bS r D)];exact r
   ·rintro rfl;rcases f with f |f
    ·rw[<- f,g.1]at q;cases q
    ·rw[g.1]at f;cases f
   ·rintro rfl;rcases f with f |f
    ·rw[<- f,m.1]at q;cases q
    ·rw[m.1]at f;cases f
 ·rcases mem_cons.mp t with rfl |t
  ·exact⟨g.2.2.2.1,g.2.1,g.2.2.2.2.1,g.2.2.2.2.2⟩
  ·have:b=E:=by simpa using t
   subst this;exact⟨m.2.2.2.1,m.2.1,m.2.2.2.2.1,m.2.2.2.2.2⟩
theorem Es{P:Program}{w:World}{K:Ma}{elts:List Expr}{x1:Nat}{tp:Pos}(lo:Int)(a e it:Addr)(hne:e≠it) :
  Turn P w K (.Tuple elts x1 tp) (Ite K lo a) [e,it] e (λi h=>(∃old,IsEnum h e it (lo+(i:Nat)) old)/\h.IsTupleIter it a i) where
 mem:=by simp
 obj:=λi h st b hb=>by
  obtain⟨⟨old,he⟩,o,ho,hc,hd⟩:=st;rcases mem_cons.mp hb with rfl |hb
  ·exact⟨_,he,λv z=>by cases (show Data.fields _=Data.cell v from z)⟩
  ·have:b=it:=by simpa using hb
   subst this;exact⟨o,ho,λv z=>by rw[hd]at z;cases z⟩
 keep:=λi h h' st k=>by
  obtain⟨⟨old,he⟩,o,ho,r⟩:=st;exact⟨⟨old,k e (by simp) _ he⟩,o,k it (by simp) _ ho,r⟩
 item:=by
  intro X hP hw hK hc i pins s σ H E I hf st hg;subst hP hw hK;obtain⟨⟨old,he⟩,hit⟩:=st;obtain⟨xs,x,hq,hx⟩:=hg;obtain⟨its,rv,p,hz⟩:=I.tuple hq;obtain⟨u,hu,ru⟩:=rv.get hx;refine IT he hit (show s.heap.IsTuple a its.toArray from p) (x:=u) (by simpa using hu) hne λh' ho hit' ht kp=>⟨.ref s.heap.objs.size,rfl,?_⟩;refine wpAny_letOwnedTupleGo_enum ho λh2 he2 sb2=>?_;have el:e<s.heap.objs.size:=lt_size he;have il:it<s.heap.objs.size:=by
   obtain⟨o,ho',_⟩:=hit;exact lt_size ho'
  have t2:h2.get? s.heap.objs.size=some {cls:=.type "tuple",data:=.seq #[.int (lo+i) s.toks,u] }:=(sb2.2 _ (ne_of_gt el)).trans ht;have hit2:h2.IsTupleIter it a (i+1):=by
   obtain⟨o,ho',r⟩:=hit';exact⟨o,(sb2.2 it (Ne.symm hne)).trans ho',r⟩
  have eqi:lo+(i:Int)+1=lo+((i+1:Nat):Int):=by omega
  refine⟨.ref s.heap.objs.size,upd H s.heap.objs.size (.tup [.int (lo+i),x]),?_,rfl,⟨_,x,rfl,I.hok.fresh (le_refl _),rfl,λys hy=>by rw[I.tuple_inj hy hq];exact hx⟩,⟨⟨u,by rw[<- eqi];exact he2⟩,hit2⟩,λb hb=>?_⟩
  ·refine I.turned2 (t':=s.toks+1) (hf e (by simp)) (hf it (by simp)) (le_refl _) (λb o n1 n2 q=>(sb2.2 b n1).trans (kp b o n1 n2 q)) ⟨⟨_,he2⟩,let ⟨o,h,_⟩:=hit2;⟨o,h⟩⟩ ?_;refine⟨(by show 2<=sizeLine;decide),[.int (lo+i) s.toks,u],.cons ⟨_,rfl⟩ (.cons ru .nil),⟨_,t2,rfl,_,rfl⟩⟩
  ·rw[aH ?_]
   ·exact(hf b hb).1
   ·rcases mem_cons.mp hb with rfl |hb
    ·exact ne_of_lt el
    ·have:b=it:=by simpa using hb
     subst this;exact ne_of_lt il
 done:=by
  intro X hP hw hK hc i pins s σ H E I hf st hg;subst hP hw hK;obtain⟨⟨old,he⟩,hit⟩:=st;obtain⟨xs,hq,hx⟩:=hg;obtain⟨its,rv,p,hz⟩:=I.tuple hq;obtain⟨f0,f1,f2,f3,f4,f5⟩:=hf it (by simp);have hl:=rv.length;exact J8 (I.ok.hd hc) he hit (show s.heap.IsTuple a its.toArray from p) (by simp;omega) λh' eb=>⟨rfl,I.turned (t':=s.toks) (λb o hb e=>eb b o hb e) f0 f1 f3 f4 f5⟩
 self:=λA i s Q E st h=>by
  obtain⟨⟨old,he⟩,_⟩:=st;exact wpAny_pyIter_enum he h
inductive AJ(K:Ma)(lo:Int)(R:(It->Hp->Prop))(x:V)(H1:Hp):Prop
 |mk:∀a xs,x = .ref a->SqT K H1 a xs->R (Ite K lo a) H1->AJ K lo R x H1
def EW(K:Ma)(lo:Int)(b:TE):TI:=λσ H R=>b σ H (AJ K lo R)
theorem vT{tg:Expr}{m:List Expr}{u:Nat}{x:Pos}{R:It->Hp->Prop}{lo:Int}{a:Addr}{E:Mm}{tk:Nat}(I:Inv X pins σ H s)(q:R (Ite X.K lo a) H) :
  wpAny (model X.prog X.w) X.A (pyIter (.ref (s.heap.objs.size+1))) (PIE X pins σ (.Tuple m u x) R) E
   {s with heap:=(s.heap.push {cls:=.type "tuple_iterator",data:=.fields #[.ref a,.int 0 0] }).push {cls:=.type "enumerate",data:=.fields #[.none,.bool false,.ref s.heap.objs.size,rawInt lo,.none,.none] },toks:=tk}:=by
 have z:(s.heap.push {cls:=.type "tuple_iterator",data:=.fields #[.ref a,.int 0 0] }).objs.size=s.heap.objs.size+1:=size_push _ _;have t:IsEnum ((s.heap.push {cls:=.type "tuple_iterator",data:=.fields #[.ref a,.int 0 0] }).push {cls:=.type "enumerate",data:=.fields #[.none,.bool false,.ref s.heap.objs.size,rawInt lo,.none,.none] }) (s.heap.objs.size+1) s.heap.objs.size lo .none:=by
  have q:=get?_push_size (s.heap.push {cls:=.type "tuple_iterator",data:=.fields #[.ref a,.int 0 0] }) (o:={cls:=.type "enumerate",data:=.fields #[.none,.bool false,.ref s.heap.objs.size,rawInt lo,.none,.none] }) rfl;rw[z]at q;exact q
 have y:Inv X pins σ H {s with heap:=(s.heap.push {cls:=.type "tuple_iterator",data:=.fields #[.ref a,.int 0 0] }).push {cls:=.type "enumerate",data:=.fields #[.none,.bool false,.ref s.heap.objs.size,rawInt lo,.none,.none] },toks:=tk}:=
  I.kept λb o e=>get?_push_of_some _ (get?_push_of_some _ e)
 refine wpAny_pyIter_enum t ⟨s.heap.objs.size+1,[s.heap.objs.size+1,s.heap.objs.size],_,Ite X.K lo a,H,rfl,y,Es lo a _ _ (ne_of_gt (lt_succ_self _)),⟨⟨.none,by simpa using t⟩,⟨_,get?_push_of_some _ (get?_push_size _ rfl),rfl,rfl⟩⟩,λb r=>?_,q⟩;rcases mem_cons.mp r with rfl |r
 ·exact I.fpOk (le_succ _) (I.hok.fresh (le_succ _))
 ·have:b=s.heap.objs.size:=by simpa using r
  subst this;exact I.fpOk (le_refl _) (I.hok.fresh (le_refl _))
theorem JX{ex:Expr}{f:List Expr}{N:Nat}{O p g:Pos}{y:TE}(Q:X.mg "enumerate" = none)(S:PE X ex y)(U:Gl X "enumerate":=by rfl)(G:starEach [ex] X.env=[(false,eval ex X.env)]:=by rfl) :
  PI X (.Tuple f N O) (.Call (.Name "enumerate" p) [ex] [] g) (EW X.K 0 y):=by
 intro pins s σ H R I h;refine Call_ (jA I U Q boot_enumerate (PyProof.Rows.callWith_type1 (thn (eR S aF G g pins s σ H (λJ b=>∃a u,J=[V.ref a]/\SqT X.K b a u/\R (Ite X.K 0 a) b) I ?_) λus W ⟨J,b,L,Y,Z⟩=>?_) G rfl))
 ·have e:(λ(x:V)(b:Hp)=>kX σ b λu H2=>∃a m,x::u=[V.ref a]/\SqT X.K H2 a m/\R (Ite X.K 0 a) H2)=AJ X.K 0 R:=by
   funext x b;exact propext ⟨λ⟨a,m,z,B,D⟩=>⟨a,m,(List.cons.inj z).1,B,D⟩,λ⟨a,m,z,B,D⟩=>⟨a,m,congrArg (· :: []) z,B,D⟩⟩
  exact Eq.mpr (congrArg (y σ H) e) h
 ·obtain⟨a,u,e,hq,q⟩:=Z;subst e;cases Y with
  |cons r rr=>
   cases rr;cases (show _=Value.ref a from r);obtain⟨aa,rv,⟨⟨c,dd,dt,sl⟩,ho,o,n,t⟩,hz⟩:=L.tuple hq;dsimp only at o t;subst o t;refine callType_new PySem.F.called_enumerate (by decide) (PySem.F.typeCall_enumerate_1 _) (PySem.F.newCall_enumerate_1 _) (λE=>PySem.F.args_object_init_2 E _) PySem.F.entry_enumerate_new (AQ a _ n dd sl) ⟨ho,⟨_,get?_push_size _ rfl,rfl⟩,?_⟩;rw[size_push];exact vT (tg:=ex) (tk:=W.toks) L q
theorem CD{M:Model}{A:Around}{E:Mm}{s:Shared}{g:Pos}{T:String}{x:Sem Value}{rest:List (Bool×Sem Value)}{b:List (Option Str×Sem Value)}{Q:Mm}(o:rest.any (·.1)=false)(p:b.any (·.1.isNone)=false)(q:b.all (·.1.isSome)=true)
  (h:wpAny M A (spliced ((false,x)::rest)) (λm e=>wpAny M A (evalAll (b.map (·.2))) (λn f=>wpAny M A (call (.type T) m ((b.filterMap (·.1)).zip n)) Q E f) E e) E s):wpAny M A (callWith g (.type T) [] ((false,x)::rest) b) Q E s:=by
 unfold callWith;refine wpAny_bind (wpAny_holding (evalArgs_kwB q (wpAny_mono h (λm D t=>wpAny_mono t (λn s2 u=>wpAny_bind (wpAny_standAt ?_)) λ_ _ y=>y) λ_ _ y=>y)));have z:(((false,x)::rest).any (·.1))=false:=by
  rw[any_cons,o];rfl
 simp only[z,p,Bool.or_false];refine wpAny_bind (wpAny_pure ?_);exact wpAny_bind (wpAny_mono u (λr G B=>wpAny_bind (wpAny_holding (wpAny_point (wpAny_pure B)))) λ_ _ y=>y)
theorem HJ{ex:Expr}{g:List Expr}{S k:Nat}{U p m W kp:Pos}{D:TE}(Y:X.mg "enumerate" = none)(Z:PE X ex D)(hg:Gl X "enumerate":=by rfl)(E:starEach [ex] X.env=[(false,eval ex X.env)]:=by rfl) :
  PI X (.Tuple g S U) (.Call (.Name "enumerate" p) [ex] [⟨some "start",.Constant (.int 1) k W,kp⟩] m) (EW X.K 1 D):=by
 intro pins s σ H R I h;refine wpAny_Call_Name_kw (jA I hg Y boot_enumerate ?_);rw[E];refine CD (x:=eval ex X.env) (rest:=[]) rfl rfl rfl ?_;have o:=eR Z aF E m pins s σ H (λN f=>∃a B,N=[V.ref a]/\SqT X.K f a B/\R (Ite X.K 1 a) f) I (by
  have e:(λ(x:V)(f:Hp)=>kX σ f λB H2=>∃a t,x::B=[V.ref a]/\SqT X.K H2 a t/\R (Ite X.K 1 a) H2)=AJ X.K 1 R:=by
   funext x f;exact propext ⟨λ⟨a,t,z,G,J⟩=>⟨a,t,(List.cons.inj z).1,G,J⟩,λ⟨a,t,z,G,J⟩=>⟨a,t,congrArg (· :: []) z,G,J⟩⟩
  exact Eq.mpr (congrArg (D σ H) e) h)
 rw[E]at o;refine thn o λus O L=>?_;obtain⟨N,f,I1,r1,q1⟩:=L;refine kws_cons (wpAny_Constant_int ?_);refine kws_nil ?_;obtain⟨a,B,e,hq,q⟩:=q1;subst e;cases r1 with
 |cons r rr=>
  cases rr;cases (show _=Value.ref a from r);have Q:=I1.tok (O.toks+1);obtain⟨aa,rv,⟨⟨c,dd,dt,sl⟩,ho,u,n,y⟩,hz⟩:=Q.tuple hq;dsimp only at u y;subst u y;refine tM (kw:=[("start",_)]) PySem.F.called_enumerate (nV _ _) (pU _ _) PySem.F.entry_enumerate_new (By a _ n dd sl _) (λb=>EV b _ _) (λb=>nT b _ _) ⟨ho,⟨_,get?_push_size _ rfl,rfl⟩,?_⟩;rw[size_push];exact vT (tg:=ex) (tk:=O.toks+1) Q q
end
section
variable{X:Cx}
inductive LR(K:Ma)(xs:Mp)(H:Hp)(Q:VK):Prop
 |mk:∀(p:Addr)(bs:List Bool),xs=[.ref p]->SqL K H p (bs.map V.bl)->Q (.bl (bs.all id)) H->LR K xs H Q
theorem Ia{b:List Bool}:∀{f:Mh},cE (b.map V.bl) f->∀i v,f.toArray[i]? = some v->v=Value.bool (b.getD i false):=by
 intro f r i v g;have g:f[i]? = some v:=by simpa using g
 have p:i<f.length:=(List.getElem?_eq_some_iff.mp g).1;have m:i<b.length:=by
  have:=r.length;rw[length_map]at this;omega
 obtain⟨u,n,o⟩:=r.get (i:=i) (x:=V.bl b[i]) (by simp [m]);rw[g]at n;cases n;have e:v=Value.bool b[i]:=o;rw[e];simp [List.getD,m]
theorem Ij(g:List Bool):((List.range g.length).all λi=>g.getD i false)=g.all id:=by
 rw[Bool.eq_iff_iff,all_eq_true,all_eq_true];constructor
 ·intro h b m;obtain⟨i,f,e⟩:=List.mem_iff_getElem.mp m;have:=h i (mem_range.mpr f);simp [List.getD,f,e]at this;simpa using this
 ·intro h i f;have f:=mem_range.mp f;have:=h g[i] (List.getElem_mem f);simpa [List.getD,f] using this
theorem F9(E:X.calm=true):gP X (.builtin "all") (LR X.K):=by
 intro z s Y H Z us Q I r h;obtain⟨p,B,rfl,G,q⟩:=h;cases r with
 |cons J L=>
  cases L;cases (show _=Value.ref p from J);have N:X.A.in1.handled=none:=I.ok.hd E;refine call_all_walk ?_;obtain⟨f,D,m,hz⟩:=I.list G;have g:f.toArray.size=B.length:=by
   have:=D.length;rw[length_map]at this;simp [this]
  have O:p≠s.heap.objs.size:=by
   obtain⟨o,n,t,_⟩:=m;exact ne_of_lt (lt_size t)
  refine wpAny_pyIter_list m.isList ⟨s.heap.objs.size,_,_,_,_,_,(λi=>B.getD i false),rfl,Walks.list N s.heap.objs.size p O f.toArray,⟨⟨_,get?_push_size _ rfl,rfl,rfl⟩,?_⟩,λi v s' Q' E' R S=>?_,λh' U V=>?_⟩
  ·obtain⟨o,n,t,x,W,y⟩:=m;exact⟨o,get?_push_of_some _ t,x,n,y⟩
  ·rw[Ia D i v R];exact wpAny_truthy_bool S
  ·rw[g,Ij];refine⟨.bl _,H,I.kept (t':=U) λb u e=>V b u (by simpa using ne_of_lt (lt_size e)) (get?_push_of_some _ e),rfl,q⟩
theorem G0{M:Model}{A:Around}{E:Mm}{s:Shared}{e : Type}{hi:Nat}(f:Nat->e->Sem (ForInStep e))(I:List Nat->e->Shared->Prop)(Q:e->Shared->Prop)
  (turn:∀x rest b s,I (x::rest) b s->wpAny M A (f x b) (λr m=>match r with | .yield g=>I rest g m | .done g=>Q g m) E s)
  (fin:∀b s,I [] b s->Q b s) (b:e) (h:I (List.range' 0 hi) b s):wpAny M A (forIn [0:hi] b f) Q E s:=by
 rw[Std.Legacy.Range.forIn_eq_forIn_range'];refine wpAny_forIn_list f I Q turn fin _ b ?_;simpa [Std.Legacy.Range.size] using h
theorem tO(l:Addr)(f:Array Value)(n:Nat)(z:Option Addr)(B:Me)(x:Value)(e:Value->Bool)(j:Nat)(hj:j<f.size)(D:e f[j]=true)(E:∀i(h:i<j),e f[i]=false) :
  Meets (Builtin.«tuple.index» ⟨[.ref l,x],[]⟩) (λA R s=>s.heap.get? l=some {cls:=.type "tuple",dict:=z,data:=.seq f n,slots:=B}/\(∀y,y∈f->SeqAt.EqAt A.in1 s y x (e y))/\R (.ok (.ret (.int j s.toks))) {s with toks:=s.toks+1}):=
 .of_wp λm w A R s h=>by
  obtain⟨H,g,d,I,os⟩:=s;obtain⟨J,L,h⟩:=h
  wp_walk using AutoSeq1.wpAny_loadPart' J,G0 _ (λrest b q=>b.1=none/\q=⟨H,g,d,I,os⟩/\∃i,i<=j/\rest=List.range' i (f.size-i)) _
  case turn=>
   rintro y rest b q ⟨N,rfl,i,O,hr⟩;have o:i<f.size:=by omega
   have Q:f.size-i=(f.size-(i+1))+1:=by omega
   rw[Q,List.range'_succ]at hr;obtain⟨rfl,rfl⟩:=List.cons.inj hr;have S:f[y]? = some f[y]:=by simp [o]
   rw[S];dsimp only;refine wpAny_bind (L f[y] (Array.getElem_mem o) m w _ _ ?_);by_cases r:y=j
   ·subst r;rw[D]
    wp_walk
    exact⟨_,rfl,h⟩
   ·rw[E y (by omega)]
    wp_walk
    exact⟨rfl,rfl,y+1,by omega,rfl⟩
  case fin=>
   rintro ⟨U,V⟩ q ⟨N,rfl,i,O,hr⟩;have:(List.range' i (f.size-i)).length=0:=by rw[<- hr];rfl
   rw[List.length_range']at this;omega
  case h=>
   refine⟨rfl,rfl,0,zero_le _,?_⟩;simp
inductive Cn(K:Ma)(x:V)(vs:Mp)(H:Hp)(Q:VK):Prop
 |mk:∀(a:Addr)(ks:Mg)(k:Str)(j:Nat),x = .ref a->vs=[.str k]->SqT K H a (ks.map V.str)->ks[j]? = some k->(∀i,i<j->ks[i]? ≠ some k)->Q (.int j) H->Cn K x vs H Q
theorem Hk:MtR X "tuple.index" (Cn X.K):=by
 intro L s σ H x vs v us Q I R D h;obtain⟨a,g,k,j,rfl,rfl,S,hj,U,q⟩:=h;cases (show v=Value.ref a from R);cases D with
 |cons W Y=>
  cases Y;obtain⟨t,e⟩:=W;subst e;obtain⟨b,D,⟨⟨c,Z,dt,sl⟩,N,p,n,r⟩,hz⟩:=I.tuple S;dsimp only at p r;subst p r;have f:b.length=g.length:=by
   have:=D.length;rw[length_map]at this;exact this.symm
  have m:j<g.length:=(List.getElem?_eq_some_iff.mp hj).1;have o:∀i(h:i<g.length),∃t,b[i]? = some (Value.str g[i] t):=λi h=>by
   obtain⟨u,hu,ru⟩:=D.get (i:=i) (x:=V.str g[i]) (by simp [h]);obtain⟨t,e⟩:=ru;exact⟨t,by rw[hu,e]⟩
  refine call_meets PySem.F.slot_tuple_index ⟨_,N,rfl⟩ PySem.F.entry_tuple_index (PySem.F.args_tuple_index_2 _ _)
   (tO a b.toArray n Z sl (.str k t) (λv=>match v with | .str y _=>y == k |_=>false) j (by simpa [f] using m) ?_ ?_) ⟨N,λy hy=>?_,?_⟩
  ·obtain⟨E,e⟩:=o j m;have G:b.toArray[j]'(by simpa [f] using m)=Value.str g[j] E:=by
    have:=List.getElem?_eq_some_iff.mp e;simpa using this.2
   rw[G];have:g[j]=k:=by
    have:=List.getElem?_eq_some_iff.mp hj;exact this.2
   simp [this]
  ·intro i J;have B:i<g.length:=by omega
   obtain⟨E,e⟩:=o i B;have G:b.toArray[i]'(by simp [f];omega)=Value.str g[i] E:=by
    have:=List.getElem?_eq_some_iff.mp e;simpa using this.2
   rw[G];have ne:g[i]≠k:=λz=>U i J (by rw[getElem?_eq_getElem B,z]);simpa using ne
  ·obtain⟨i,J,e⟩:=List.mem_iff_getElem.mp (show y∈b by simpa using hy);obtain⟨E,O⟩:=o i (by omega);rw[getElem?_eq_getElem J,e]at O;cases O;exact SeqAt.EqAt.str_str _ _ _ _
  ·exact⟨.int j,H,I.tok _,⟨_,rfl⟩,q⟩
end
structure Src(J:It)(H:Hp)(n:Nat)(Y:Nat->V->Hp->Prop):Prop where
 go:∀i H',i<n->aG H H'->J.go i H'
 yld:∀i H' x H'',i<n->aG H H'->J.yld i H' x H''->aG H' H''/\Y i x H''
 stop:∀H',aG H H'->J.stop n H'
section
variable{K:Ma}{H:Hp}{a:Addr}{xs:Mp}
theorem bO(h:SqL K H a xs):Src (Itl K a) H xs.length (λi x _=>xs[i]? = some x) where
 go:=λi H' hi s=>⟨xs,xs[i],s.seq h,by simp [hi]⟩
 yld:=λi H' x H'' hi s y=>⟨by rw[y.1];exact aG.refl _,y.2 xs (s.seq h)⟩
 stop:=λH' s=>⟨xs,s.seq h,le_refl _⟩
theorem oO(h:SqT K H a xs):Src (Itt K a) H xs.length (λi x _=>xs[i]? = some x) where
 go:=λi H' hi s=>⟨xs,xs[i],s.seqT h,by simp [hi]⟩
 yld:=λi H' x H'' hi s y=>⟨by rw[y.1];exact aG.refl _,y.2 xs (s.seqT h)⟩
 stop:=λH' s=>⟨xs,s.seqT h,le_refl _⟩
theorem jW(lo:Int)(n:Nat):Src (Itr lo n) H n (λi x _=>x = .int (lo+i)) where
 go:=λi H' hi s=>hi
 yld:=λi H' x H'' hi s y=>⟨by rw[y.1];exact aG.refl _,y.2⟩
 stop:=λH' s=>le_refl _
theorem tW(lo:Int)(h:SqT K H a xs):Src (Ite K lo a) H xs.length (λi x H'=>∃p v,x = .ref p/\H' p=some (.tup [.int (lo+i),v])/\xs[i]? = some v) where
 go:=λi H' hi s=>⟨xs,xs[i],s.seqT h,by simp [hi]⟩
 yld:=λi H' x H'' hi s ⟨p,v,e1,e2,e3,e4⟩=>⟨by rw[e3];exact aD e2,p,v,e1,by rw[e3];exact aB,e4 xs (s.seqT h)⟩
 stop:=λH' s=>⟨xs,s.seqT h,le_refl _⟩
end
def CP(H e:Hp):Prop:=∀b o,H b=some o->(∀f,o ≠ .lst f)->e b=some o
theorem aG.n(s:aG H f):CP H f:=λb o e _=>s b o e
theorem E3(h:H D=some (.lst f)):CP H (upd H D (.lst zs)):=λb o e n=>by
 rw[aH (λz=>by rw[z,h]at e;exact n f (Option.some.inj e).symm)];exact e
theorem c8(S:Src J H n Y)(hn:n<=sizeLine)(R:Nat->V->Hp->Prop)(r:∀i y B H2,CP B H2->R i y B->R i y H2)(Z:St->Prop)(h0:Z (lO T F σ))
  (step:∀i x q E,i<n->Z q->aG H E->Y i x E->∀(Q':St->V->Hp->Prop),(∀o y p,Z o->aG E p->R i y p->Q' o y p)->g x q E λo H4=>te o H4 λy p=>Q' o y p)
  (fin:∀D f I,H D=none->aG H I->I D=some (.lst f)->f.length=n->(∀i y,f[i]? = some y->R i y I)->Q (.ref D) I) :
  vV T F g GN te σ Q J H:=by
 intro D N;refine⟨λi m f q H2=>m=n-i/\i<=n/\Z q/\aG H H2/\H2 D=some (.lst f)/\f.length=i/\∀j y,f[j]? = some y->R j y H2,⟨n,rfl,zero_le _,h0,aD N,aB,rfl,λj y e=>by simp at e⟩,?_⟩;rintro i m f q H2 ⟨rfl,hi,hz,G,O,U,hr⟩;refine⟨O,?_⟩;by_cases t:i<n
 ·refine .inr ⟨S.go i H2 t G,by omega,λx E y=>?_⟩;obtain⟨L,y3⟩:=S.yld i H2 x E t G y;simp only[GN,if_true];refine step i x q E t hz (G.trans L) y3 (λo y p=>p D=some (.lst f)/\∃m',m'<n-i/\m'=n-(i+1)/\i+1<=n/\Z o/\aG H (upd p D (.lst (f++[y])))/\(upd p D (.lst (f++[y]))) D=some (.lst (f++[y]))/\(f++[y]).length=i+1/\∀j z,(f++[y])[j]? = some z->R j z (upd p D (.lst (f++[y])))) λo y p z4 W r6=>?_;have d6:p D=some (.lst f):=W _ _ (L _ _ O);have sU:∀{B:Hp},aG B p->B D=none->aG B (upd p D (.lst (f++[y]))):=λ{B} s b=>λc u e=>by
   rw[aH (bS e b)];exact s c u e
  refine⟨d6,n-(i+1),by omega,rfl,t,z4,sU ((G.trans L).trans W) N,aB,by rw[length_append,U];rfl,λj z e=>?_⟩;have up:=E3 (zs:=f++[y]) d6;by_cases hj:j<f.length
  ·rw[getElem?_append_left hj]at e;exact r _ _ _ _ up (r _ _ _ _ (L.trans W).n (hr j z e))
  ·have X:j=f.length:=by
    have:=(List.getElem?_eq_some_iff.mp e).1;rw[length_append]at this;simp at this;omega
   subst X;rw[getElem?_append_right (le_refl _)]at e;simp at e;subst e;rw[U];exact r _ _ _ _ up r6
 ·have aa:i=n:=by omega
  subst aa;exact .inl ⟨S.stop H2 G,fin D f H2 N G O U hr⟩
mutual
def lT:PyData->Bool
 | .none | .bool _ | .int _ | .str _=>true
 | .tuple b=>fD b
 |_=>false
def fD:Mj->Bool
 |[]=>true
 |d::b=>lT d && fD b
end
mutual
theorem Den.n(e:CP H f):∀{d:PyData}{v:V},lT d=true->Den H d v->Den f d v
 | .none,v,t,h=>by simp only[Den]at h⊢;exact h
 | .bool b,v,t,h=>by simp only[Den]at h⊢;exact h
 | .int i,v,t,h=>by simp only[Den]at h⊢;exact h
 | .str x,v,t,h=>by simp only[Den]at h⊢;exact h
 | .tuple g,v,t,h=>by
  simp only[Den]at h⊢;simp only[lT]at t;obtain⟨a,m,o,p,q⟩:=h;exact⟨a,m,o,e _ _ p (λr z=>by cases z),aT.n e t q⟩
 | .list g,v,t,h=>by simp [lT]at t
 | .dict _,v,t,h=>by simp only[Den]at h
theorem aT.n(e:CP H g):∀{b:Mj}{f:Mp},fD b=true->aT H b f->aT g b f
 |[],f,t,h=>by simp only[aT]at h⊢;exact h
 |d::b,f,t,h=>by
  simp only[aT]at h⊢;simp only[fD,and_eq_true]at t;obtain⟨x,r,m,o,p⟩:=h;exact⟨x,r,m,Den.n e t.1 o,aT.n e t.2 p⟩
end
def tyD:PyData->Value
 | .none=>.type "NoneType"
 | .bool _=>.type "bool"
 | .int _=>.type "int"
 | .str _=>.type "str"
 | .tuple _=>.type "tuple"
 | .list _=>.type "list"
 | .dict _=>.type "dict"
theorem Den.ty{K:Ma}{H:Hp}:∀{d:PyData}{v:V},Den H d v->qE K H v (tyD d)
 | .none,v,h=>by simp only[Den]at h;subst h;exact .non
 | .bool b,v,h=>by simp only[Den]at h;subst h;exact .bl b
 | .int i,v,h=>by simp only[Den]at h;subst h;exact .int i
 | .str x,v,h=>by simp only[Den]at h;subst h;exact .str x
 | .tuple g,v,h=>by
  simp only[Den]at h;obtain⟨a,m,e,f,o⟩:=h;subst e;exact .tup f
 | .list g,v,h=>by
  simp only[Den]at h;obtain⟨a,m,e,f,o⟩:=h;subst e;exact .lst f
 | .dict _,v,h=>by simp only[Den]at h
theorem cB:∀{e:Mf}{b:Mp},aT H (e.map PyData.int) b ↔ b=e.map V.int
 |[],b=>by simp [aT]
 |n::e,b=>by
  simp only[map_cons,aT,Den];constructor
  ·rintro ⟨x,r,f,g,h⟩;subst g;rw[f,cB.mp h]
  ·intro h;exact⟨_,_,h,rfl,cB.mpr rfl⟩
theorem aT.length:∀{e:Mj}{b:Mp},aT H e b->b.length=e.length
 |[],b,h=>by simp only[aT]at h;subst h;rfl
 |d::e,b,h=>by
  simp only[aT]at h;obtain⟨x,r,f,_,g⟩:=h;rw[f,length_cons,length_cons,aT.length g]
theorem aT.get:∀{f:Mj}{b:Mp}{i:Nat}{x:V},aT H f b->b[i]? = some x->∃d,f[i]? = some d/\Den H d x
 |[],b,i,x,h,e=>by simp only[aT]at h;subst h;simp at e
 |d::f,b,0,x,h,e=>by
  simp only[aT]at h;obtain⟨y,r,g,m,_⟩:=h;subst g;simp at e;subst e;exact⟨d,rfl,m⟩
 |d::f,b,i+1,x,h,e=>by
  simp only[aT]at h;obtain⟨y,r,g,_,o⟩:=h;subst g;simp at e;obtain⟨p,q,s⟩:=aT.get o e;exact⟨p,by simpa using q,s⟩
theorem Hw{K:Ma}(d:PyData):PySem.W.kitOne K (tyD d) (.type "bool")=some (match d with | .bool _=>true |_=>false):=by
 cases d <;> rfl
theorem nG{K:Ma}(d:PyData):PySem.W.kitOne K (tyD d) (.type "int")=some (match d with | .bool _=>true | .int _=>true |_=>false):=by
 cases d <;> rfl
theorem ER{K:Ma}(d:PyData):PySem.W.kitOne K (tyD d) (.type "str")=some (match d with | .str _=>true |_=>false):=by
 cases d <;> rfl
theorem qY{K:Ma}(d:PyData):PySem.W.kitOne K (tyD d) (.type "tuple")=some (match d with | .tuple _=>true |_=>false):=by
 cases d <;> rfl
section
variable{X:Cx}
theorem cF(K:Ma)(b:X.K=K:=by rfl):IxR X (JS K):=by
 subst b;exact J1
theorem cU(K:Ma)(b:X.K=K:=by rfl):IxR X (LN K):=by
 subst b;exact L3
theorem HS(K:Ma)(b:X.K=K:=by rfl):OpR X (compareOp .In) (rIn K false):=by
 subst b;exact FF
theorem kK(K:Ma)(b:X.K=K:=by rfl):OpR X (compareOp .NotIn) (rIn K true):=by
 subst b;exact zV
inductive rLen(K:Ma)(xs:Mp)(H:Hp)(Q:VK):Prop
 |mk:∀p ys,xs=[.ref p]->(SqL K H p ys\/SqT K H p ys)->Q (.int ys.length) H->rLen K xs H Q
theorem dI(K:Ma)(e:X.K=K:=by rfl):gP X (.builtin "len") (rLen K):=by
 subst e;exact λf s g H m n Q I v ⟨p,o,a,b,c⟩=>AX f s g H m n Q I v ⟨p,o,a,b,c⟩
theorem iM(K:Ma)(b:X.K=K:=by rfl):gP X (.builtin "isinstance") (LO K):=by
 subst b;exact IX
theorem nK(K:Ma)(b:X.calm=true:=by rfl)(e:X.K=K:=by rfl):gP X (.builtin "sum") (LL K):=by
 subst e;exact F6 b
theorem yV(K:Ma)(b:X.calm=true:=by rfl)(e:X.K=K:=by rfl):gP X (.builtin "all") (LR K):=by
 subst e;exact F9 b
inductive BC(K:Ma)(xs:Mp)(H:Hp)(Q:VK):Prop
 |mk:∀p ys,xs=[.ref p]->((SqL K H p ys/\∀l,H l=none->Q (.ref l) (upd H l (.tup ys)))\/(SqT K H p ys/\Q (.ref p) H))->BC K xs H Q
theorem mR(K:Ma)(e:X.K=K:=by rfl):gP X (.type "tuple") (BC K):=by
 subst e;exact λf s g H m n Q I v ⟨p,o,a,b⟩=>wM f s g H m n Q I v ⟨p,o,a,b⟩
theorem Fa(K:Ma)(b:X.K=K:=by rfl):MtR X "tuple.index" (Cn K):=by
 subst b;exact Hk
theorem uJ(K:Ma)(b:X.K=K:=by rfl):SlR X (LM K):=by
 subst b;exact JH
theorem iF(K:Ma){b:List Expr}{k:Nat}{t:TGs}{n:Nat}{e:Pos}(h:PGs X b t)(g:X.calm=true:=by rfl)(m:X.K=K:=by rfl)(o:(assignEach b X.env).length=n:=by rfl)(f:(assignEach b X.env).findIdx? (·.1)=none:=by rfl):PG X (.Tuple b k e) (ME K n t):=by
 subst m;exact LV g h o f
theorem bU(K:Ma){e l:Expr}{b:TE}(f:PE X l b)(g:X.K=K:=by rfl):PI X e l (Kn K b):=by
 subst g;exact JW f
theorem sX(K:Ma){g l:Expr}{e:TE}(b:PE X l e)(f:X.K=K:=by rfl):PI X g l (iTup K e):=by
 subst f;exact LT b
theorem HI(K:Ma)(e:X.mg "enumerate" = none)(f:PE X ex g)(m:Gl X "enumerate":=by rfl)(n:starEach [ex] X.env=[(false,eval ex X.env)]:=by rfl)(o:X.K=K:=by rfl) :
  PI X (.Tuple b r s) (.Call (.Name "enumerate" p) [ex] [] q) (EW K 0 g):=by
 subst o;exact JX e f m n
theorem FA(K:Ma)(e:X.mg "enumerate" = none)(f:PE X ex g)(m:Gl X "enumerate":=by rfl)(n:starEach [ex] X.env=[(false,eval ex X.env)]:=by rfl)(o:X.K=K:=by rfl) :
  PI X (.Tuple b r s) (.Call (.Name "enumerate" p) [ex] [⟨some "start",.Constant (.int 1) k t,kp⟩] q) (EW K 1 g):=by
 subst o;exact HJ e f m n
end
inductive TupM(K:Ma)(H:Hp)(x:V):Prop
 |mk:∀p,x = .ref p->((∃o u,H p=some (.frz o u)/\o.cls = .type "tuple"/\o.dict=none)\/∃o,K.lookup p=some o/\o.cls = .type "tuple"/\o.dict=none)->TupM K H x
abbrev LB(r:V->Mp->Hp->VK->Prop)(Q:VK)(x:V):Mp->Hp->Prop:=λb H2=>r x b H2 Q
abbrev LC(K:Ma)(r:V->Mp->Hp->VK->Prop)(t:TA)(e : St)(Q:VK):V->Hp->Prop:=λx b=>TupM K b x/\t e b (LB r Q x)
def tBMT(K:Ma)(r:V->Mp->Hp->VK->Prop)(e:TE)(t:TA):TE:=λb H Q=>e b H (LC K r t b Q)
section
variable{X:Cx}{o e:Expr}{es:List Expr}{t:TA}{to:TE}{pos apos cpos:Pos}{name:Str}{id:String}{r:V->Mp->Hp->VK->Prop}
theorem Lb(K:Ma)(slot:Slot "tuple" name id)(B:typeOf (.builtin id)=pure (.type "method_descriptor"))(U:MtR X id r)(V:PE X o to)(W:PA X (e::es) t)(Y:X.K=K:=by rfl)
  (q:attributeBase o name X.env (eval o X.env)=eval o X.env:=by rfl)
  (z:((backTo cpos (starEach (e::es) X.env)).all (λx=>!x.1) && (backToKw cpos (keywordEach [] X.env)).all (λx=>x.1.isSome)
   && decide ((e::es).length+([]:List Keyword).length+(if ([]:List Keyword).isEmpty then 0 else 1)<30))=true:=by rfl)
  (y:(apos.endLine == cpos.line)=true:=by rfl) (Z:starEach (e::es) X.env=(false,eval e X.env)::starEach es X.env:=by rfl) (n:(backTo cpos (starEach es X.env)).any (·.1)=false:=by rfl) :
  PE X (.Call (.Attribute o name apos) (e::es) [] cpos) (tBMT K r to t):=by
 subst Y;intro f s D H Q I h;refine wpAny_Call_method_late q z y rfl (thn (V f s D H _ I h) λv O E=>?_);obtain⟨x,H1,G,r1,ty,q1⟩:=E;obtain⟨p,ex,ty⟩:=ty;subst ex;cases (show v=Value.ref p from r1);have J:∃m,O.heap.get? p=some m/\m.cls = .type "tuple"/\m.dict=none:=by
  rcases ty with ⟨m,u,z1,L,N⟩ | ⟨m,z1,L,N⟩
  ·obtain⟨g,_⟩:=G.hok p _ z1;exact⟨m,g,L,N⟩
  ·exact⟨m,G.kIn _ _ z1,L,N⟩
 obtain⟨m,R,g2,g3⟩:=J;refine⟨"tuple",id,PySem.F.plainAttrs_tuple,slot,B,⟨m,R,g2⟩,(λb eb=>by cases eb;exact⟨m,R,g3⟩),?_⟩;have S:=W cpos f O D H1 _ G q1;rw[Z]at S⊢;refine Calls.callWith_builtin (by show (false || (backTo cpos (starEach es X.env)).any (·.1))=false;rw[n] <;> rfl) (Calls.evalArgs_plain ?_);exact thn S λus s2 ⟨vs,H2,I2,r2,q2⟩=>U f s2 D H2 (.ref p) vs (.ref p) us Q I2 rfl r2 q2
end
theorem aT.app:∀{m b:Mj}{o f:Mp},aT H m o->aT H b f->aT H (m++b) (o++f)
 |[],b,o,f,g,p=>by
  simp only[aT]at g;subst g;exact p
 |d::m,b,o,f,g,p=>by
  simp only[aT]at g;obtain⟨x,r,e,q,s⟩:=g;subst e;show aT H (d::(m++b)) (x::(r++f));simp only[aT];exact⟨x,_,rfl,q,s.app p⟩
theorem a8{b : Type}{f:List b}{i:Int}{v:b}(h:0<=i)(e:f[i.toNat]? = some v):atI f i=some v:=by
 obtain⟨j,rfl⟩:=Int.eq_ofNat_of_zero_le h;exact cK (by simpa using e)
theorem Bm:∀b:Mf,PyData.canLayAll0 (b.map .int)=true
 |[]=>rfl
 |n::b=>by
  show (true && _)=true;rw[Bool.true_and];exact Bm b
theorem depth_ints:∀b:Mf,PyData.depthAll (b.map .int)=0
 |[]=>rfl
 |n::b=>by
  show max 0 (PyData.depthAll (b.map .int))=0;rw[depth_ints b];rfl
section
variable{X:Cx}{es:List Expr}{te:TE}{t:TA}
theorem aI{v:Const}{k:Nat}{p:Pos}(b:PE X (.Constant v k p) te)(hr:PA X es t):PA X (.Constant v k p::es) (eT te t):=eR b hr rfl
theorem aE{x:Str}{p:Pos}(b:PE X (.Name x p) te)(hr:PA X es t):PA X (.Name x p::es) (eT te t):=eR b hr rfl
theorem bV{l:List Expr}{k:Nat}{p:Pos}(b:PE X (.Tuple l k p) te)(hr:PA X es t):PA X (.Tuple l k p::es) (eT te t):=eR b hr rfl
theorem fN{l:List Expr}{p:Pos}(b:PE X (.List l p) te)(hr:PA X es t):PA X (.List l p::es) (eT te t):=eR b hr rfl
theorem bT(e:PE X (.BinOp a o b p) te)(hr:PA X es t):PA X (.BinOp a o b p::es) (eT te t):=eR e hr rfl
theorem Cs(b:PE X (.UnaryOp o a p) te)(hr:PA X es t):PA X (.UnaryOp o a p::es) (eT te t):=eR b hr rfl
theorem cW(b:PE X (.Call f e g p) te)(hr:PA X es t):PA X (.Call f e g p::es) (eT te t):=eR b hr rfl
theorem aN{a b:Expr}{p:Pos}(e:PE X (.Subscript a b p) te)(hr:PA X es t):PA X (.Subscript a b p::es) (eT te t):=eR e hr rfl
theorem gC(b:PE X (.Attribute a x p) te)(hr:PA X es t):PA X (.Attribute a x p::es) (eT te t):=eR b hr rfl
theorem u9(e:PE X (.Compare a b f p) te)(hr:PA X es t):PA X (.Compare a b f p::es) (eT te t):=eR e hr rfl
theorem dX{a:Expr}{b:List Comprehension}{e:Scope}{p:Pos}(f:PE X (.ListComp a b e p) te)(hr:PA X es t):PA X (.ListComp a b e p::es) (eT te t):=eR f hr rfl
theorem HQ(e:PE X (.IfExp a b c p) te)(hr:PA X es t):PA X (.IfExp a b c p::es) (eT te t):=eR e hr rfl
end
theorem zS{E:XK}{P:Program}{w:World}{K:Ma}{mg:Mc}{base:Heap}{N:Mg}{g:Str}{b:Scope}{f:Addr}{m:Value}{A:Around}{e:List Env}{s:Shared}{H:Hp}{n:CXT} :
  Own ((AT n P w K mg base N g b f m A e s H E).bod E):=⟨rfl,rfl,rfl⟩
end L2
namespace HT
open PySem PySem.Spec PyProof.Rows
section
variable{prog:Program}{w:World}{A:Around}{E:Mm}{s:Shared}
theorem nL{t m:Addr}{b:Array Value}{q r:Value}{lo g:Option Int}{Q:Mm}(e:IsTup s.heap t b)(u:s.heap.IsSliceOf m q r .none)(y:IsPart q lo)(z:IsPart r g)
  (hw:sIx b.size 0 lo=0/\sIx b.size b.size g=b.size) (h:Q (.ref t) s):wpAny (model prog w) A (getItem (.ref t) (.ref m)) Q E s:=by
 obtain⟨os,n,o,B⟩:=id u;have p:s.TypeIs (.ref m) "slice":=⟨os,n,o⟩;unfold getItem
 try with_reducible refine wpAny_holding ?_
 first |refine wpAny_bind (wpAny_pure ?_) |skip
 refine wpAny_bind (wpAny_sequenceKey e.typeIs (by decide) ?_);refine wpAny_bind (wpAny_callSpecial?_slot (name:=Str.ofString "__getitem__") e.typeIs PyProof.Rows.slot_tuple_getitem
  (wpAny_call_entry PyProof.Rows.slot_tuple_getitem e.typeIs entry_tuple_getitem ?_ (args_tuple_getitem _ _)))
 show wpAny _ _ (Builtin.Tuple.tupleItemsOf (.ref t) >>= _) _ _ s;refine wpAny_bind (tupleItemsOf_ e ?_);refine wpAny_bind (wpAny_typeOf p ?_);rw[if_pos (by decide)];refine wpAny_bind (kA u y z ?_);have f:(((sIx b.size 0 lo:Nat):Int) == 0 && (1:Int) == 1 && (sIx b.size b.size g-sIx b.size 0 lo) == b.size)=true:=by
  rw[hw.1,hw.2];simp
 show wpAny _ _ (if (((sIx b.size 0 lo:Nat):Int) == 0 && (1:Int) == 1 && (sIx b.size b.size g-sIx b.size 0 lo) == b.size)=true then _ else _) _ _ s;rw[if_pos f];refine wpAny_bind ?_;unfold Builtin.Tuple.tupleIsExact;refine wpAny_bind (wpAny_typeOf e.typeIs (wpAny_pure ?_));rw[if_pos (by decide)];refine wpAny_bind (wpAny_rule ?_);exact wpAny_pure ⟨_,rfl,wpAny_pure h⟩
end
end HT
namespace L2
open PySem PySem.Spec PyProof.Rows
section
variable{X:Cx}
inductive EA(K:Ma)(x:V)(lo:Option Int)(hi:Option Int)(H:Hp)(Q:VK):Prop
 |mk:∀a xs,x = .ref a->SqT K H a xs->((HT.sIx xs.length 0 lo=0/\HT.sIx xs.length xs.length hi=xs.length)->Q (.ref a) H)->(¬(HT.sIx xs.length 0 lo=0/\HT.sIx xs.length xs.length hi=xs.length)->∀p,H p=none->Q (.ref p) (upd H p (.tup (sM xs lo hi))))->EA K x lo hi H Q
theorem E1:SlR X (EA X.K):=by
 intro e s y H x v z B lo m D Q I n o p q h;obtain⟨a,b,rfl,t,E,G⟩:=h;by_cases hw:HT.sIx b.length 0 lo=0/\HT.sIx b.length b.length m=b.length
 ·cases n;obtain⟨g,r,u,J⟩:=I.tuple t;have f:g.toArray.size=b.length:=by rw[size_toArray];exact r.length.symm
  refine⟨"tuple",_,PyProof.Rows.slot_tuple_getitem.lookup,u.typeIs,?_⟩;exact HT.nL u o p q (by rw[f];exact hw) ⟨.ref a,H,I,rfl,E hw⟩
 ·exact LH e s y H (.ref a) v z B lo m D Q I n o p q ⟨a,b,rfl,t,hw,G hw⟩
theorem Do(K:Ma)(b:X.K=K:=by rfl):SlR X (EA K):=by
 subst b;exact E1
end
theorem fR{J:It}{H0 H:Hp}{n:Nat}{Y:Nat->V->Hp->Prop}{g:TG}{z:TS}{D:Ends}{b : St}(S:Src J H0 n Y)(Pv:Nat->St->Hp->Prop)(E:Pv 0 b H)(s:∀i b e,Pv i b e->aG H0 e)
  (step:∀i x b f H2,i<n->Pv i b f->aG f H2->Y i x H2->g x b H2 λq G=>z (D.loop (Pv (i+1))) q G) (fin:∀b e,Pv n b e->D.nx b e) :
  ∃W:Nat->Nat->St->Hp->Prop,(∃m,W 0 m b H)/\∀i m b H,W i m b H->
   (J.stop i H/\D.nx b H)\/(J.go i H/\∃N:St->Hp->Prop,(∀r e,N r e->∃B,B<m/\W (i+1) B r e)/\∀x e,J.yld i H x e->g x b e λq H2=>z (D.loop (N)) q H2):=by
 refine⟨λi m b e=>m=n-i/\i<=n/\Pv i b e,⟨n,rfl,zero_le _,E⟩,?_⟩;rintro i m b f ⟨rfl,O,p⟩;have t:=s i b f p;by_cases o:i<n
 ·refine .inr ⟨S.go i f o t,Pv (i+1),λr e I=>⟨n-(i+1),by omega,rfl,o,I⟩,λx e y=>?_⟩;obtain⟨s2,L⟩:=S.yld i f x e o t y;exact step i x b f e o p s2 L
 ·have u:i=n:=by omega
  subst u;exact .inl ⟨S.stop f t,fin b f p⟩
theorem fS(S:Src J H n Y)(hn:n<=sizeLine)(t:Nat->Bool)(f:Nat->V)(Z:St->Prop)(h0:Z (lO T F σ))
  (step:∀i x p s,i<n->Z p->aG H s->Y i x s->∀(Q1:Hp->Prop)(Q2:St->V->Hp->Prop)(Q3:St->Hp->Prop),(∀o,Z o->t i=true->Q2 o (f i) s)->(∀o,Z o->t i=false->Q3 o s)->
   g x p s λo H4=>tc o H4 λb B=>if b=true then te o B λy E=>Q2 o y E else Q3 o B)
  (fin:∀D N,H D=none->aG H N->N D=some (.lst (((List.range n).filter t).map f))->Q (.ref D) N) :
  vV T F g tc te σ Q J H:=by
 intro D O;refine⟨λi m q p H2=>m=n-i/\i<=n/\Z p/\aG H H2/\H2 D=some (.lst q)/\q=((List.range i).filter t).map f,⟨n,rfl,zero_le _,h0,aD O,aB,rfl⟩,?_⟩;rintro i m q p H2 ⟨rfl,hi,hz,z,R,I⟩;refine⟨R,?_⟩;by_cases r:i<n
 ·refine .inr ⟨S.go i H2 r z,?_,λx s y=>?_⟩
  ·rw[I,length_map];have:=length_filter_le t (List.range i);rw[length_range]at this;omega
  obtain⟨L,y3⟩:=S.yld i H2 x s r z y;have d3:s D=some (.lst q):=L _ _ R;refine step i x p s r hz (z.trans L) y3 (λ_=>True) (λo y E=>E D=some (.lst q)/\∃G,G<n-i/\G=n-(i+1)/\i+1<=n/\Z o/\aG H (upd E D (.lst (q++[y])))/\(upd E D (.lst (q++[y]))) D=some (.lst (q++[y]))/\(q++[y])=((List.range (i+1)).filter t).map f)
   (λo B=>∃G,G<n-i/\G=n-(i+1)/\i+1<=n/\Z o/\aG H B/\B D=some (.lst q)/\q=((List.range (i+1)).filter t).map f) (λo U W=>?_) λo U W=>?_
  ·refine⟨d3,n-(i+1),by omega,rfl,r,U,λc u e=>?_,aB,?_⟩
   ·rw[aH (bS e O)];exact(z.trans L) c u e
   ·rw[List.range_succ,List.filter_append,map_append,<- I];simp [W]
  ·refine⟨n-(i+1),by omega,rfl,r,U,z.trans L,d3,?_⟩;rw[List.range_succ,List.filter_append,map_append,<- I];simp [W]
 ·have X:i=n:=by omega
  subst X;exact .inl ⟨S.stop H2 z,fin D H2 O z (by rw[R,I])⟩
section
variable{X:Cx}{pins:Mb}{σ : St}{H:Hp}{s:Shared}
end
section
variable{K:Ma}{H:Hp}{a:Addr}{xs:Mp}
end
theorem oX(a:Value):checkBuiltinCall "sorted" ⟨[a],[]⟩=pure ():=by kernel_rfl
section
variable{X:Cx}
theorem Fm{prog:Program}{w:World}{e:List (Key×Value)}{f:Mf}(g:e.map (·.1)=f.map Sum.inl):∀{b:Mh},b.length=e.length->(∀(j:Nat)(v:Value),b[j]? = some v->∃k x,e[j]? = some (k,x)/\(bF prog w).is k v=true)->IntsAre b f:=by
 induction e generalizing f with
 |nil=>
  intro b o _;cases f with
  |nil=>
   cases b with
   |nil=>exact .nil
   |cons _ _=>simp at o
  |cons _ _=>simp at g
 |cons s e u=>
  intro b o h;cases f with
  |nil=>simp at g
  |cons n f=>
   cases b with
   |nil=>simp at o
   |cons v b=>
    simp only[map_cons,List.cons.injEq]at g;obtain⟨k,x,m,p⟩:=h 0 v rfl;have m:s=(k,x):=by simpa using m
    subst m;have q:k=Sum.inl n:=g.1;subst q;have r:∃t,v = .int n t:=by
     have p:Value.isInt n v=true:=p;cases v <;> simp_all [Value.isInt]
    obtain⟨t,rfl⟩:=r;exact .cons n t (u g.2 (by simpa using o) λj v r=>by
     obtain⟨k,x,m,p⟩:=h (j+1) v (by simpa using r);exact⟨k,x,by simpa using m,p⟩)
theorem AG{e : Type}{b:List (e×V)}{f:List (e×Value)}(r:KV b f):b.map (·.1)=f.map (·.1):=by
 induction r with
 |nil=>rfl
 |cons h _ g=>
  rw[map_cons,map_cons,g];congr 1;exact h.1
inductive tLRX(Q:VK)(vs:Mp)(H1:Hp):Prop
 |mk:∀i j:Int,vs=[.int i,.int j]->(-(2 ^ 62)<=i/\i<2 ^ 62/\-(2 ^ 62)<=j/\j<2 ^ 62)->(j-i).toNat<=sizeLine->(∀p,H1 p=none->Q (.ref p) (upd H1 p (.lst ((List.range (j-i).toNat).map λk=>.int (i+(k:Nat))))))->tLRX Q vs H1
def tLR(b:TA):TE:=λe H Q=>b e H (tLRX Q)
theorem tL:∀{n:Nat}{b:Mh},b.length=n->(∀(j:Nat) v,b[j]? = some v->∃t,v=Value.int (i+(j:Int)*1) t)->cE ((List.range n).map λk=>V.int (i+(k:Nat))) b:=by
 intro n b g h;have m:∀{n:Nat}{b:Mh}{f:Nat->Int},b.length=n->(∀(j:Nat) v,b[j]? = some v->∃t,v=Value.int (f j) t)->cE ((List.range n).map λk=>V.int (f k)) b:=by
  intro n
  induction n with
  |zero=>
   intro b f g _;cases b with
   |nil=>exact .nil
   |cons _ _=>simp at g
  |succ n p=>
   intro b f g h;cases b with
   |nil=>simp at g
   |cons u b=>
    rw[range_succ_eq_map,map_cons,map_map];obtain⟨t,e⟩:=h 0 u rfl;exact .cons ⟨t,e⟩ (p (f:=λk=>f (k+1)) (by simpa using g) λj v o=>h (j+1) v (by simpa using o))
 exact m g λj v o=>by
  obtain⟨t,e⟩:=h j v o;exact⟨t,by rw[e,Int.mul_one]⟩
theorem u7(Y:X.calm=true)(z:Gl X "list")(B:X.mg "list" = none)(Z:Gl X "range")(hm:X.mg "range" = none)(ha:PA X [a,b] ta)
  (hs:starEach [a,b] X.env=[(false,eval a X.env),(false,eval b X.env)]:=by rfl) (m:starEach [b] X.env=[(false,eval b X.env)]:=by rfl)
  (u:starEach [.Call (.Name "range" p2) [a,b] [] f] X.env=[(false,eval (.Call (.Name "range" p2) [a,b] [] f) X.env)]:=by rfl) :
  PE X (.Call (.Name "list" p) [.Call (.Name "range" p2) [a,b] [] f] [] aa) (tLR ta):=by
 intro g s L H Q I h;refine wpAny_Call_Name_kw (jA I z B boot_list ?_);refine PyProof.Rows.callWith_type1 ?_ u rfl;rw[u];show wpAny _ _ (spliced ((false,eval (.Call (.Name "range" p2) [a,b] [] f) X.env)::[])) _ _ s;refine Calls.spliced_cons ?_;refine Call_ (jA I Z hm boot_range (PyProof.Rows.callWith_type1 (thn (ha f g s L H _ I h) λus y D=>?_) (by rw[hs,m]) (by rw[m];rfl)));obtain⟨vs,N,I1,r1,E⟩:=D;obtain⟨i,j,e,⟨E,q2,q3,q4⟩,O,q⟩:=E;subst e;cases r1 with
 |cons r G=>
  cases G with
  |cons r' G=>
   cases G;obtain⟨t,rfl⟩:=r;obtain⟨R,rfl⟩:=r';refine call_range_2 ?_;refine Calls.spliced_nil ?_;have S:Inv X g L N {y with heap:=y.heap.push {cls:=.type "range",data:=.fields #[.int i t,.int j R,.int 1 y.toks] },toks:=y.toks+1}:=I1.kept λb o e=>get?_push_of_some _ e;refine call_list_range (n:=(j-i).toNat) (I.ok.hd Y) (IsRange.new ..) (small_one E q2 q3 q4) (by rw[rangeSize_one];split <;> omega) (le_trans O (by decide)) λh' tk J c' kp g' x=>?_;refine⟨.ref _,upd N _ (.lst ((List.range (j-i).toNat).map λk=>.int (i+(k:Nat)))),S.laid (t':=tk) kp (le_refl _) ?_,rfl,q _ (S.hok.fresh (le_refl _))⟩;refine⟨by rw[length_map,length_range];exact O,J.toList,c',tL (by have:=x.1;simpa using this) λk v hv=>x.2 k v (by simpa using hv),?_⟩;simpa using g'
inductive G8(x:V)(vs:Mp)(H:Hp)(Q:VK):Prop
 |mk:∀a kvs k v,x = .ref a->vs=[kV k]->H a=some (.dK kvs)->c9 kvs k=some v->Q v (upd H a (.dK (e7 kvs k)))->G8 x vs H Q
theorem pI:MtR X "dict.pop" G8:=by
 intro e s t H x z v B Q I f g h;obtain⟨a,m,k,y,rfl,rfl,n,o,q⟩:=h;cases (show v=Value.ref a from f);obtain⟨u,rfl,p⟩:=wQ g;exact d_pop I n p o (.inl rfl) λD E r b=>⟨y,_,r,b,q⟩
theorem LY(c:Maker X.prog X.w X.K X.mg X.base x C k u g)(hr:Room (k+1) X.A)(m:fH (CXE X.prog X.w) X E)(n:Gl X x:=by rfl)(e:(x == ("__debug__" : Str))=false:=by decide) :
  PE X (.Call (.Name x p) [] [] o) (tMk C g E kX):=by
 obtain⟨f,y,F,M,q,r⟩:=c.ex;intro b s t H Q I h;exact HL M F hr n q r .nil m e b s t H Q I (wU h)
inductive tLTX(K:Ma)(Q:(Bool->Hp->Prop))(x:V)(H':Hp):Prop
 |mk:∀a xs,x = .ref a->SqL K H' a xs->Q (!xs.isEmpty) H'->tLTX K Q x H'
def tLT(K:Ma)(b:TE):TT:=λe H Q=>b e H (tLTX K Q)
theorem iY(K:Ma)(f:PE X a g)(m:∀whole,isTrue a X.env whole=(do let v <- whole;standAt a.pos;holding [v] (truthy v)):=by intro _;rfl)(n:X.K=K:=by rfl):PT X a (tLT K g):=by
 subst n;intro b s e H Q I h;refine isTrue_plain (thn (f b s e H _ I h) λv o ⟨x,p,q,r,z,t,ex,u,y⟩=>Kw b o e p x v Q q r ?_) (m _);subst ex;exact⟨_,.inl ⟨t,u,rfl⟩,y⟩
theorem i5(K:Ma){T id:String}{f:Str}{r:V->Mp->Hp->VK->Prop}{o e:Expr}{n:List Expr}{y:TE}{t:TA}{m b:Pos}(z:PlainAttrs T)(slot:Slot T f id)(u:typeOf (.builtin id)=pure (.type "method_descriptor"))(B:MtR X id r)(D:PE X o y)(E:PA X (e::n) t)
  (p:attributeBase o f X.env (eval o X.env)=eval o X.env:=by rfl)
  (s:((backTo b (starEach (e::n) X.env)).all (λx=>!x.1) && (backToKw b (keywordEach [] X.env)).all (λx=>x.1.isSome)
   && decide ((e::n).length+([]:List Keyword).length+(if ([]:List Keyword).isEmpty then 0 else 1)<30))=true:=by rfl)
  (q:(m.endLine == b.line)=true:=by rfl) (G:starEach (e::n) X.env=(false,eval e X.env)::starEach n X.env:=by rfl) (g:(backTo b (starEach n X.env)).any (·.1)=false:=by rfl) (H:X.K=K:=by rfl) :
  PE X (.Call (.Attribute o f m) (e::n) [] b) (tBM K T r y t):=by
 subst H;exact pe_bm z slot u B D E p s q G g
theorem Fk{prog:Program}{w:World}{f:List (Key×Value)}{g:Mg}(m:f.map (·.1)=g.map Sum.inr):∀{b:Mh},b.length=f.length->(∀(j:Nat)(v:Value),b[j]? = some v->∃k x,f[j]? = some (k,x)/\(bF prog w).is k v=true)->StrsAre b g:=by
 induction f generalizing g with
 |nil=>
  intro b p _;cases g with
  |nil=>
   cases b with
   |nil=>exact .nil
   |cons _ _=>simp at p
  |cons _ _=>simp at m
 |cons s f u=>
  intro b p h;cases g with
  |nil=>simp at m
  |cons n g=>
   cases b with
   |nil=>simp at p
   |cons v b=>
    simp only[map_cons,List.cons.injEq]at m;obtain⟨k,x,o,q⟩:=h 0 v rfl;have o:s=(k,x):=by simpa using o
    subst o;have r:k=Sum.inr n:=m.1;subst r;obtain⟨t,rfl⟩:∃t,v = .str n t:=by
     rcases cY (k:=Sum.inr n) (v:=v) q with ⟨i,t,e,_⟩ | ⟨y,t,e,z⟩
     ·cases e
     ·cases e;exact⟨t,z⟩
    exact .cons n t (u m.2 (by simpa using p) λj v B=>by
     obtain⟨k,x,o,q⟩:=h (j+1) v (by simpa using B);exact⟨k,x,by simpa using o,q⟩)
theorem wP:∀{b:Mh}{e:Mg},StrsAre b e->cE (e.map V.str) b
 |_,_,.nil=>.nil
 |_,_,.cons y t h=>.cons ⟨t,rfl⟩ (wP h)
theorem x9{v₁ b : Value}{rest:Mh}{e:Mg}(h:StrsAre (v₁ :: b :: rest) e):keyKind' (v₁ :: b :: rest).toArray=pure oneType':=by
 exact keyKind_strs h
def Its(x:Str):It:=⟨λi _=>i<x.cps.size,λi H v b=>b=H/\∃c,x.cps[i]? = some c/\v = .str ⟨#[c]⟩,λi _=>x.cps.size<=i⟩
theorem GL{P:Program}{w:World}{K:Ma}{tg:Expr}(x:Str)(t:Tok)(it:Addr)(hx:(x.cps.all λc=>decide (c<128))=true):Turn P w K tg (Its x) [it] it (λi h=>h.IsStrIter it "str_ascii_iterator" x t i) where
 mem:=by simp
 obj:=λi h st b hb=>by
  have e:b=it:=by simpa using hb
  subst e;obtain⟨o,e,c,d⟩:=st;exact⟨o,e,λv z=>by rw[d]at z;cases z⟩
 keep:=λi h h' st k=>by
  obtain⟨o,e,r⟩:=st;exact⟨o,k it (by simp) o e,r⟩
 item:=by
  intro X hP hw hK hc i pins s σ H E I hf st hg;subst hP hw hK;have hg:i<x.cps.size:=hg;obtain⟨f0,f1,f2,f3,f4,f5⟩:=hf it (by simp);refine wpAny_pyNext_ascii_item st (c:=x.cps[i]) (by simp [hg]) λh' st' sb=>?_;have I1:Inv X pins σ H {s with heap:=h',toks:=s.toks+1}:=I.turned (t':=s.toks+1) (λb o hb e=>(sb.2 b hb).trans e) f0 f1 f3 f4 f5;obtain⟨o,e,c,d⟩:=id st';exact⟨_,rfl,Bs (s:={s with heap:=h',toks:=s.toks+1}) e c d (by decide) ⟨.str ⟨#[x.cps[i]]⟩,H,I1,⟨_,rfl⟩,⟨rfl,_,by simp [hg],rfl⟩,st',λb hb=>(hf b hb).1⟩⟩
 done:=by
  intro X hP hw hK hc i pins s σ H E I hf st hg;subst hP hw hK;have hg:x.cps.size<=i:=hg;obtain⟨f0,f1,f2,f3,f4,f5⟩:=hf it (by simp);exact wpAny_pyNext_ascii_end (I.ok.hd hc) st (by simp [hg]) λh' eb=>⟨rfl,I.turned (t':=s.toks) (λb o hb e=>eb b o hb e) f0 f1 f3 f4 f5⟩
 self:=λ_ _ _ _ _ st h=>wpAny_pyIter_striter_ascii st h
inductive Kl(R:(It->Hp->Prop))(v:V)(H1:Hp):Prop
 |mk:∀x:Str,v = .str x->(x.cps.all λc=>decide (c<128))=true->R (Its x) H1->Kl R v H1
def iStr(b:TE):TI:=λe H R=>b e H (Kl R)
theorem LU{u l:Expr}{p:TE}(z:PE X l p):PI X u l (iStr p):=by
 intro f s B H R I h;refine thn (z f s B H _ I h) λv g m=>?_;obtain⟨y,D,n,E,G⟩:=m;obtain⟨x,e,r,q⟩:=G;subst e;obtain⟨t,rfl⟩:=E;refine wpAny_pyIter_strU ?_;have J:strIterType x = "str_ascii_iterator":=by unfold strIterType;rw[if_pos r]
 rw[J];refine⟨g.heap.objs.size,[g.heap.objs.size],_,_,D,rfl,n.kept (t':=g.toks) λb o e=>get?_push_of_some _ e,GL x t _ r,⟨_,get?_push_size _ rfl,rfl,rfl⟩,λb L=>?_,q⟩;have e:b=g.heap.objs.size:=by simpa using L
 subst e;exact n.fpOk (le_refl _) (n.hok.fresh (le_refl _))
theorem JF(x:Str):Src (Its x) H x.cps.size (λi v _=>∃c,x.cps[i]? = some c/\v = .str ⟨#[c]⟩) where
 go:=λi H' hi s=>hi
 yld:=λi H' v H'' hi s y=>⟨by rw[y.1];exact aG.refl _,y.2⟩
 stop:=λH' s=>le_refl _
end
inductive GM(H:Hp)(v:V)(bs:Mf):Prop
 |mk:∀t,v = .ref t->H t=some (.tup (bs.map V.int))->GM H v bs
def TbR(H:Hp):List (Str×Mf)->Mn->Prop
 |[],[]=>True
 |p::e,q::b=>q.1=Sum.inr p.1/\GM H q.2 p.2/\TbR H e b
 |_,_=>False
def nQ(b:List (Str×Mf))(n:Str):Option (Mf):=(b.find? λp=>decide (p.1=n)).map (·.2)
def okT(b:List (Str×Mf))(p:Str×Mf):Bool:=match nQ b p.1 with
 |some e=>decide (p.2=e)
 |none=>false
def eqT(b e:List (Str×Mf)):Bool:=decide (b.length=e.length) && b.all (okT e)
def EnR(b:Program)(w:World)(h:Heap):List (Str×Mf)->List DictEntry->Prop
 |[],[]=>True
 |p::f,e::g=>(bF b w).is (Sum.inr p.1) e.key=true/\e.hash=(bF b w).hash (Sum.inr p.1)/\(∃t,e.val = .ref t/\IsTupleKey (bF b w) h (p.2.map Sum.inl) t)/\EnR b w h f g
 |_,_=>False
section
variable{X:Cx}{pins:Mb}{σ : St}{H:Hp}{s:Shared}
theorem Hz(b:Mf):b.map V.int=(b.map Sum.inl:List Key).map kV:=by
 rw[map_map];rfl
theorem EnR.of(ok:HOk X.prog X.w H s.heap):∀{o:List (Str×Mf)}{f:Mn}{B:List (Key×Value)}{u:List DictEntry},TbR H o f->KV f B->Pairs (bF X.prog X.w) u B->(∀e∈u,∃k,(bF X.prog X.w).is k e.key=true/\e.hash=(bF X.prog X.w).hash k)->EnR X.prog X.w s.heap o u
 |[],[],_,_,_,.nil,.nil,_=>trivial
 |p::o,q::f,_,_,h,Paired.cons (b:=v) D r,.cons (e:=e) G m I,E=>by
  obtain⟨J,⟨t,L,g⟩,N⟩:=h;have n:(bF X.prog X.w).is (Sum.inr p.1) e.key=true:=by
   have:v.1=Sum.inr p.1:=D.1 ▸ J;rw[<- this];exact G
  obtain⟨k,x,y⟩:=E e (by simp);have O:k=Sum.inr p.1:=(bF X.prog X.w).inj _ _ _ x n;subst O;refine⟨n,y,⟨t,?_,?_⟩,EnR.of ok N r I λQ z=>E Q (by simp [z])⟩
  ·rw[m];have:=D.2;rw[L]at this;exact this
  ·have:=oF (P:=X.prog) (w:=X.w) ok (ks:=p.2.map Sum.inl) (by rw[<- Hz];exact g);exact this
 |[],_::_,_,_,h,_,_,_=>h.elim
 |_::_,[],_,_,h,_,_,_=>h.elim
theorem EnR.len:∀{b:List (Str×Mf)}{f:List DictEntry},EnR g w h b f->f.length=b.length
 |[],[],_=>rfl
 |p::b,e::f,r=>by rw[length_cons,length_cons,EnR.len r.2.2.2]
 |[],_::_,r=>r.elim
 |_::_,[],r=>r.elim
theorem EnR.at:∀{f:List (Str×Mf)}{g:List DictEntry}{i:Nat},EnR b w h f g->i<f.length->∃p e,f[i]? = some p/\g[i]? = some e/\(bF b w).is (Sum.inr p.1) e.key=true/\e.hash=(bF b w).hash (Sum.inr p.1)/\∃t,e.val = .ref t/\IsTupleKey (bF b w) h (p.2.map Sum.inl) t
 |p::f,e::g,0,r,_=>⟨p,e,rfl,rfl,r.1,r.2.1,r.2.2.1⟩
 |p::f,e::g,i+1,r,m=>by
  obtain⟨n,o,q,u,x⟩:=EnR.at r.2.2.2 (by simpa using m);exact⟨n,o,by simpa using q,by simpa using u,x⟩
 |[],_,_,_,m=>by simp at m
 |_::_,[],_,r,_=>r.elim
theorem EnR.find:∀{f:List (Str×Mf)}{g:List DictEntry},EnR b w h f g->
  (match g.findIdx? (λe=>(bF b w).is (Sum.inr n) e.key) with |none=>nQ f n=none |some j=>∃m e t,nQ f n=some m/\g[j]? = some e/\e.val = .ref t/\IsTupleKey (bF b w) h (m.map Sum.inl) t)
 |[],[],_=>rfl
 |p::f,e::g,r=>by
  obtain⟨q,O,u,x⟩:=r;have o:=EnR.find (n:=n) x;rw[List.findIdx?_cons];by_cases z:p.1=n
  ·subst z;rw[q];obtain⟨t,B,D⟩:=u;exact⟨p.2,e,t,by simp [nQ],rfl,B,D⟩
  ·have E:(bF b w).is (Sum.inr n) e.key=false:=by
    cases y:(bF b w).is (Sum.inr n) e.key with
    |false=>rfl
    |true=>exact absurd (Sum.inr.inj ((bF b w).inj _ _ _ q y)) z
   rw[E];have G:nQ (p::f) n=nQ f n:=by simp [nQ,z]
   rw[G];cases hj:g.findIdx? (λe=>(bF b w).is (Sum.inr n) e.key) with
   |none=>
    rw[hj]at o;exact o
   |some j=>
    rw[hj]at o;obtain⟨m,I,t,J,L,N⟩:=o;exact⟨m,I,t,J,by simpa using L,N⟩
 |[],_::_,r=>r.elim
 |_::_,[],r=>r.elim
theorem Ck{A:Around}{E:Mm}{id:String}{a b:Addr}{o1 o2:Obj}{r g:Array DictEntry}{Y Z:Nat}{fs gs:List (Str×Mf)}{Q:Bool->Shared->Prop}(hu:A.units<cLine)
  (na:(a == sysModules)=false) (nb:(b == sysModules)=false) (U:s.heap.get? a=some o1) (V:o1.data = .dict r Y) (r1:EnR X.prog X.w s.heap fs r.toList) (g2:s.heap.get? b=some o2) (d2:o2.data = .dict g Z) (k2:KeysOf (bF X.prog X.w) g) (r2:EnR X.prog X.w s.heap gs g.toList)
  (q:Q (eqT fs gs) s):wpAny (model X.prog X.w) A (Builtin.Dict.samePairs id a b) Q E s:=by
 have l1:r.size=fs.length:=by have:=r1.len;simpa using this
 have l2:g.size=gs.length:=by have:=r2.len;simpa using this
 unfold Builtin.Dict.samePairs Builtin.Dict.showsAll;rw[na,nb];refine wpAny_bind (wpAny_pure ?_);refine wpAny_bind (wpAny_pure ?_);refine wpAny_bind (wpAny_dictEntries U V ?_);refine wpAny_bind (wpAny_dictEntries g2 d2 ?_);dsimp only;rw[l1,l2];by_cases W:fs.length=gs.length
 ·rw[if_neg (by rw[W];simp)];refine wpAny_bind (wpAny_dictEpoch U V ?_);refine wpAny_bind ?_;refine G0 (hi:=fs.length) _ (λrest b s'=>b=(none,())/\s'=s/\∃i,i<=fs.length/\rest=List.range' i (fs.length-i)/\(fs.take i).all (okT gs)=true) _ ?_ ?_ _ ⟨rfl,rfl,0,zero_le _,rfl,rfl⟩
  ·rintro x rest b s' ⟨rfl,rfl,i,hi,hr,m⟩;have il:i<fs.length:=by
    rcases Nat.lt_or_ge i fs.length with h |h
    ·exact h
    ·have:fs.length-i=0:=by omega
     rw[this]at hr;cases hr
   have D:fs.length-i=(fs.length-(i+1))+1:=by omega
   rw[D,List.range'_succ]at hr;injection hr with hx G
   subst hx;obtain⟨p,e,hp,he,hk,hh,t,I,aa⟩:=r1.at il;have ab:r[x]? = some e:=by simpa using he
   have ef:g.findIdx? (λe=>(bF X.prog X.w).is (Sum.inr p.1) e.key)=g.toList.findIdx? (λe=>(bF X.prog X.w).is (Sum.inr p.1) e.key):=by
    cases g;simp
   have tk:fs.take (x+1)=fs.take x++[p]:=by
    rw[take_add_one,hp];rfl
   have J:okT gs p=false->eqT fs gs=false:=λL=>by
    unfold eqT;have:fs.all (okT gs)=false:=by
     cases y:fs.all (okT gs) with
     |false=>rfl
     |true=>
      have:=all_eq_true.mp y p (mem_of_getElem? hp);rw[L]at this;cases this
    rw[this];exact Bool.and_false _
   have o:=r2.find (n:=p.1);rw[<- ef]at o;refine wpAny_bind (wpAny_dictEntries U V ?_);rw[ab];dsimp only;rw[hh];refine wpAny_bind (wpAny_holding (wpAny_bind (wpAny_dictFind_of hk g2 d2 k2 ?_)));cases hj:g.findIdx? (λe=>(bF X.prog X.w).is (Sum.inr p.1) e.key) with
   |none=>
    rw[hj]at o;have L:okT gs p=false:=by
     unfold okT;rw[show nQ gs p.1=none from o]
    dsimp only;refine wpAny_pure ?_;rw[if_pos (show (!false)=true from rfl)];refine wpAny_pure ?_;have N:=q;rw[J L]at N;exact wpAny_pure N
   |some j=>
    rw[hj]at o;obtain⟨bs,f,u,O,hf,R,fk⟩:=o;have ac:g[j]? = some f:=by simpa using hf
    dsimp only;refine wpAny_bind (wpAny_dictEntries g2 d2 ?_);rw[ac];dsimp only;rw[I,R];refine wpAny_holding (wpAny_eqBool_tuple hu aa fk ?_);have S:(p.2.map Sum.inl:List Key)=bs.map Sum.inl ↔ p.2=bs:=by
     constructor
     ·intro z;have:=congrArg (List.map (λk:Key=>match k with | .inl i=>i | .inr _=>0)) z;rw[map_map,map_map]at this;have e1:∀l:Mf,l.map ((λk:Key=>match k with | .inl i=>i | .inr _=>0) ∘ Sum.inl)=l:=λl=>map_id _;rw[e1,e1]at this;exact this
     ·intro z;rw[z]
    by_cases B:p.2=bs
    ·rw[decide_eq_true (S.mpr B),if_neg (by decide)];refine wpAny_bind (wpAny_dictEpoch U V ?_);rw[if_neg (by simp)];refine wpAny_pure ⟨rfl,rfl,x+1,il,G,?_⟩;rw[tk,List.all_append,m];show (true && (okT gs p && true))=true;have:okT gs p=true:=by
      unfold okT;rw[O];exact decide_eq_true B
     rw[this];rfl
    ·rw[decide_eq_false (λz=>B (S.mp z)),if_pos (show (!false)=true from rfl)];have L:okT gs p=false:=by
      unfold okT;rw[O];exact decide_eq_false B
     refine wpAny_pure ?_;have N:=q;rw[J L]at N;exact wpAny_pure N
  ·rintro b s' ⟨rfl,rfl,i,hi,hr,m⟩;have:i=fs.length:=by
    rcases Nat.lt_or_ge i fs.length with h |h
    ·have D:fs.length-i=(fs.length-(i+1))+1:=by omega
     rw[D,List.range'_succ]at hr;cases hr
    ·omega
   subst this;rw[take_length]at m;have:eqT fs gs=true:=by
    unfold eqT;rw[decide_eq_true W,m];rfl
   rw[this]at q;exact wpAny_pure q
 ·rw[if_pos (by simpa using W)];refine wpAny_bind (wpAny_rule (wpAny_pure ?_));have:eqT fs gs=false:=by
   unfold eqT;rw[decide_eq_false W];rfl
  rw[this]at q;exact q
inductive rTab(k:Bool->Bool)(x:V)(y:V)(H:Hp)(Q:VK):Prop
 |mk:∀a b kvs lvs fs gs,x = .ref a->y = .ref b->H a=some (.dK kvs)->H b=some (.dK lvs)->TbR H fs kvs->TbR H gs lvs->Q (.bl (k (eqT fs gs))) H->rTab k x y H Q
theorem Lf(hu:X.A.units+64<cLine):OpR X (compareOp .Eq) (rTab id):=by
 intro pins s σ H x y v u Q I E G h;obtain⟨a,b,J,L,f,g,rfl,rfl,N,O,R,S,q⟩:=h;cases (show v=Value.ref a from E);cases (show u=Value.ref b from G);obtain⟨_,U,vs,m,V,W,Y,p,Z,d1,k1,p1,_⟩:=r8 I.hok N;obtain⟨_,nb,ws,n,o2,aa,ab,r,x2,d2,t,p2,_⟩:=r8 I.hok O;have B:s.TypeIs (.ref a) "dict":=⟨V,p,Z.1⟩;have D:s.TypeIs (.ref b) "dict":=⟨o2,r,x2.1⟩;show wpAny _ _ (richCompare .Eq (.ref a) (.ref b)) _ _ s;refine wpAny_richCompare_same_room B D PySem.F.slot_dict_eq ?_ (by omega);refine wpAny_call_entry PySem.F.slot_dict_eq B PySem.F.entry_dict_eq ?_ (PySem.F.args_dict_eq_2 _ _);show wpAny _ _ (Builtin.Dict.dictSlotArgs "__eq__" ⟨[.ref a,.ref b],[]⟩ >>= _) _ _ s;refine wpAny_bind (wpAny_of_eq (a:=(Value.ref a,Value.ref b)) (by rfl) ?_);dsimp only;refine wpAny_bind (wpAny_isInstance (T:="dict") (b:=true) D (by kernel_rfl) ?_);rw[if_neg (by decide)];refine wpAny_bind (wpAny_of_eq (a:=a) (by rfl) ?_);refine wpAny_bind (wpAny_of_eq (a:=b) (by rfl) ?_);refine wpAny_bind (Ck (fs:=f) (gs:=g) (by show X.A.units+1<cLine;omega) U nb p d1 (EnR.of I.hok R m p1 λe o=>k1 e (by simpa using o)) r d2 t (EnR.of I.hok S n p2 λe o=>t e (by simpa using o)) ?_);refine wpAny_pure ⟨_,rfl,(λz=>by cases z),?_⟩;refine⟨.bl _,H,I,?_,q⟩;show Value.bool (eqT f g == true)=Value.bool (eqT f g);cases eqT f g <;> rfl
end
section
variable{X:Cx}
def Itd(a:Addr)(o:Obj)(b:Mn):It:=⟨λi H=>H a=some (.frz o (.dK b))/\i<b.length,λi H v e=>e=H/\∃k y,b[i]? = some (k,y)/\v=kV k,λi H=>H a=some (.frz o (.dK b))/\b.length<=i⟩
theorem Bt(ok:HOk P w H h)(e:H a=some (.frz o (.dK b))):h.get? a=some o/\(a == sysModules)=false/\∃f m p,KV b f/\o.data = .dict m p/\h.DictAt (bF P w) a f p:=by
 obtain⟨g,z,n,f,s,q,m,p,t,u,r,x⟩:=(show eC P w H h a (.frz o (.dK b)) from ok a _ e);have y:q=o:=Option.some.inj (t.symm.trans g);subst y;exact⟨g,n,f,m,p,s,r,q,m,g,u,r,x⟩
theorem Et{P:Program}{w:World}{K:Ma}{tg:Expr}(a it:Addr)(o:Obj)(kvs:Mn)(es:Array DictEntry)(ep:Nat)(ho:o.data = .dict es ep):Turn P w K tg (Itd a o kvs) [it] it (λi h=>h.IsKeyIter it a i kvs.length ep) where
 mem:=by simp
 obj:=λi h st b hb=>by
  have e:b=it:=by simpa using hb
  subst e;obtain⟨o,e,c,d⟩:=st;exact⟨o,e,λv z=>by rw[d]at z;cases z⟩
 keep:=λi h h' st k=>by
  obtain⟨o,e,r⟩:=st;exact⟨o,k it (by simp) o e,r⟩
 item:=by
  intro X hP hw hK hc i pins s σ H E I hf st hg;subst hP hw hK;obtain⟨hfz,hlt⟩:=hg;obtain⟨g,n,vs,es',ep',kv,e1,dat⟩:=Bt I.hok hfz;rw[ho]at e1;cases e1;have hl:vs.length=kvs.length:=kv.length.symm;rw[<- hl]at st;have hlt':i<vs.length:=by omega
  obtain⟨f0,f1,f2,f3,f4,f5⟩:=hf it (by simp);refine wpAny_pyNext_dict_item st dat (k:=vs[i].1) (v:=vs[i].2) (getElem?_eq_getElem hlt') λkey h' hk st' sb=>?_;have I1:Inv X pins σ H {s with heap:=h'}:=I.turned (t':=s.toks) (λb o hb e=>(sb.2 b hb).trans e) f0 f1 f3 f4 f5;obtain⟨o',e,c,d⟩:=id st';rw[hl]at st';have hkey:kvs[i].1=vs[i].1:=by
   have h1:=congrArg (λl=>l[i]?) (AG kv);simp only[getElem?_map]at h1;rw[getElem?_eq_getElem hlt,getElem?_eq_getElem hlt']at h1;exact Option.some.inj h1
  refine⟨key,rfl,Bs (s:={s with heap:=h'}) e c d (by decide) ⟨kV kvs[i].1,H,I1,?_,⟨rfl,kvs[i].1,kvs[i].2,getElem?_eq_getElem hlt,rfl⟩,st',λb hb=>(hf b hb).1⟩⟩;rw[hkey];rcases cY (k:=vs[i].1) (v:=key) hk with ⟨j,t,e1,e2⟩ | ⟨y,t,e1,e2⟩
  ·rw[e1,e2];exact⟨t,rfl⟩
  ·rw[e1,e2];exact⟨t,rfl⟩
 done:=by
  intro X hP hw hK hc i pins s σ H E I hf st hg;subst hP hw hK;obtain⟨hfz,hle⟩:=hg;obtain⟨g,n,vs,es',ep',kv,e1,dat⟩:=Bt I.hok hfz;rw[ho]at e1;cases e1;have hl:vs.length=kvs.length:=kv.length.symm;rw[<- hl]at st;obtain⟨f0,f1,f2,f3,f4,f5⟩:=hf it (by simp);exact wpAny_pyNext_dict_end (I.ok.hd hc) st dat (getElem?_eq_none (by omega)) λh' eb=>⟨rfl,I.turned (t':=s.toks) (λb o hb e=>eb b o hb e) f0 f1 f3 f4 f5⟩
 self:=λ_ _ _ _ _ st h=>wpAny_pyIter_keyiter st h
inductive IE(R:(It->Hp->Prop))(x:V)(H1:Hp):Prop
 |mk:∀a kvs,x = .ref a->H1 a=some (.dK kvs)->(∀o,R (Itd a o kvs) (upd H1 a (.frz o (.dK kvs))))->IE R x H1
def iDict(b:TE):TI:=λe H R=>b e H (IE R)
theorem JY{W l:Expr}{G:TE}(Y:PE X l G):PI X W l (iDict G):=by
 intro f s J H R I h;refine thn (Y f s J H _ I h) λv m t=>?_;obtain⟨x,L,N,Z,q1⟩:=t;obtain⟨a,p,e,O,q⟩:=q1;subst e;cases (show v=Value.ref a from Z);obtain⟨z,n,Q,S,o,y,B,g,r⟩:=r8 N.hok O;have D:Inv X f J (upd L a (.frz o (.dK p))) {m with heap:=m.heap,toks:=m.toks}:=N.write (x:=a) (e:=a) (by rw[O];exact True.intro) (.inl rfl) (λb u _ e=>e) ⟨o,g⟩ ⟨g,z,n,Q,S,o,y,B,g,r⟩;have E:m.heap.DictAt (bF X.prog X.w) a Q B:=⟨o,y,g,r⟩;refine wpAny_pyIter_dict n E ?_;refine⟨m.heap.objs.size,[m.heap.objs.size],_,_,upd L a (.frz o (.dK p)),rfl,D.kept (t':=m.toks) λb o e=>get?_push_of_some _ e,Et a _ o p y B r.2.1,⟨_,get?_push_size _ rfl,rfl,by rw[S.length];rfl⟩,λb hb=>?_,q o⟩;have e:b=m.heap.objs.size:=by simpa using hb
 subst e;exact D.fpOk (le_refl _) (D.hok.fresh (le_refl _))
theorem Gb(h:H a=some (.frz o (.dK kvs))):Src (Itd a o kvs) H kvs.length (λi v _=>∃k y,kvs[i]? = some (k,y)/\v=kV k) where
 go:=λi H' hi s=>⟨s _ _ h,hi⟩
 yld:=λi H' v H'' hi s y=>⟨by rw[y.1];exact aG.refl _,y.2⟩
 stop:=λH' s=>⟨s _ _ h,le_refl _⟩
end
end L2
namespace TS
open PySem PyProof.Rows
abbrev SM:=StateT SortSt Sem
def kk(b : KeyKind)(p:Keyed):b.α:=(b.keyOf p.1).getD b.dflt
def Ky(b : KeyKind)(p:Keyed):Prop:=∃a,b.keyOf p.1=some a
def Le(b : KeyKind)(p q:Keyed):Prop:=b.kle (kk b p) (kk b q)
def AllK(b : KeyKind)(e:Array Keyed):Prop:=∀(i:Nat) p,e[i]? = some p->Ky b p
section
variable{prog:Program}{w:World}{A:Around}{E:Mm}{s:Shared}{κ : KeyKind}
theorem KL(g:κ.OneLt){st:SortSt}{x y:Keyed}{Q:Option Bool->SortSt->Prop}(m:kindOf st=oneType')(n:Ky κ x)(o:Ky κ y)(h:Q (some (κ.blt (kk κ x) (kk κ y))) st):wpS (model prog w) A E s (lt' x y) Q st:=by
 obtain⟨a,e⟩:=n;obtain⟨b,f⟩:=o;have h:Q (some (κ.blt a b)) st:=by
  unfold kk at h;rw[e,f]at h;exact h
 rw[lt'_eq];refine wpS_bind (wpS_get ?_);rw[m,keyLt'_oneType];exact wpS_bind (wpS_lift (wpAny_attempt (g prog w A _ s x.1 y.1 a b e f ⟨rfl,wpS_pure h⟩)))
theorem zA{st:SortSt}{b:Array Keyed}{i:Nat}{p:Keyed}{Q:Keyed->SortSt->Prop}(e:b[i]? = some p)(h:Q p st):wpS (model prog w) A E s (elem' b i) Q st:=by
 rw[elem'_eq,e];exact wpS_pure h
end
def J6:Bool->Keyed->Array Keyed->Nat->Nat->Nat->SM (Option Nat):=sortPriv% PySem.Builtin.gallop
def bey(left:Bool)(b:Keyed)(e:Array Keyed)(base i:Nat):SM (Option Bool):=do
 let x <- elem' e (base+i)
 if left then lt' x b else return (<- lt' b x).map (!·)
section
variable{prog:Program}{w:World}{A:Around}{E:Mm}{s:Shared}{κ : KeyKind}
end
end TS
namespace TS
open PySem PyProof.Rows
def fA(st b:SortSt):Prop:=kindOf b=kindOf st/\arrOf b=arrOf st/\pendingOf b=pendingOf st/\failedOf b=failedOf st
theorem fA.refl(st:SortSt):fA st st:=⟨rfl,rfl,rfl,rfl⟩
def setG:Nat->SM Unit:=sortPriv% PySem.Builtin.setMinGallop
def Ho:Array Keyed->Array Keyed->SM (Array Keyed):=sortPriv% PySem.Builtin.mergeLo
theorem Ew{b:Array Keyed}{i:Nat}{p:Keyed}(e:b[i]? = some p):b.toList.take (i+1)=b.toList.take i++[p]:=by
 rw[take_add_one,getElem?_toList,e];rfl
theorem Hu{b:Array Keyed}{i:Nat}{p:Keyed}(e:b[i]? = some p):i<b.size:=by
 rcases Nat.lt_or_ge i b.size with h |h
 ·exact h
 ·rw[Array.getElem?_eq_none h]at e;cases e
theorem qB{b:Array Keyed}{i:Nat}(h:i<b.size):∃p,b[i]? = some p:=⟨_,getElem?_pos b i h⟩
section
variable{κ : KeyKind}{a b o:Array Keyed}{i j:Nat}
end
section
variable{prog:Program}{w:World}{A:Around}{E:Mm}{s:Shared}{κ : KeyKind}{a b:Array Keyed}
theorem KF{m n:Nat}(h:m=n):(m == n)=true:=by simpa using h
end
end TS
namespace TS
open PySem PyProof.Rows
def Hq:Array Keyed->Array Keyed->SM (Array Keyed):=sortPriv% PySem.Builtin.mergeHi
theorem yH{b:Array Keyed}{i:Nat}{p:Keyed}(e:b[i]? = some p):b.toList.drop i=p::b.toList.drop (i+1):=by
 have h:=Hu e;rw[drop_eq_getElem_cons (by simpa using h)];rw[getElem?_pos b i h]at e;rw[<- Option.some.inj e];rfl
section
variable{κ : KeyKind}{a b o:Array Keyed}{i j:Nat}
end
section
variable{prog:Program}{w:World}{A:Around}{E:Mm}{s:Shared}{κ : KeyKind}{a b:Array Keyed}
end
end TS
namespace TS
open PySem PyProof.Rows
def SR(e : KeyKind)(b:Array Keyed)(lo f:Nat):Prop:=∀(i j:Nat) p q,lo<=i->i<=j->j<f->b[i]? = some p->b[j]? = some q->Le e p q
def put(b:Array Keyed)(u:Nat)(l:List Keyed)(k:Nat):Array Keyed:=(l.zipIdx k).foldl (λa(p,j)=>a.setIfInBounds (u+j) p) b
theorem BH(u:Nat):∀(l:List Keyed)(k:Nat)(b:Array Keyed),u+k+l.length<=b.size->(put b u l k).toList=b.toList.take (u+k)++l++b.toList.drop (u+k+l.length)
 |[],k,b,h=>by
  show b.toList=_;rw[append_nil,length_nil,Nat.add_zero,take_append_drop]
 |p::l,k,b,h=>by
  rw[length_cons]at h;show (put (b.setIfInBounds (u+k) p) u l (k+1)).toList=_;rw[BH u l (k+1) _ (by rw[Array.size_setIfInBounds];omega)];have f:u+k<b.toList.length:=by rw[length_toList];omega
  rw[Array.toList_setIfInBounds,List.drop_set_of_lt (by omega),show u+(k+1)=(u+k)+1 by omega];have e:(b.toList.set (u+k) p).take (u+k+1)=b.toList.take (u+k)++[p]:=by
   rw[take_add_one,List.take_set_of_le (le_refl _),List.getElem?_set_self f];rfl
  rw[e,append_assoc,append_assoc,append_assoc];show _++(p::l++b.toList.drop (u+k+1+l.length))=_++(p::l++b.toList.drop (u+k+(l.length+1)));rw[show u+k+1+l.length=u+k+(l.length+1) by omega]
theorem HB{b:Array Keyed}{u v m:Nat}{r:Array Keyed}(g:u<=v)(p:v+m<=b.size)(hr:r.toList.Perm ((b.extract u v).toList++(b.extract v (v+m)).toList)):(put b u r.toList 0).Perm b/\r.toList.length=v-u+m:=by
 have f:r.toList.length=v-u+m:=by
  have:=hr.length_eq;rw[length_append,length_toList,length_toList,length_toList,Array.size_extract,Array.size_extract]at this;rw[length_toList];omega
 refine⟨?_,f⟩;rw[Array.perm_iff_toList_perm,BH u r.toList 0 b (by omega),Nat.add_zero,f];rw[toList_extract,toList_extract,extract_eq_take_drop,extract_eq_take_drop]at hr;have e:b.toList=b.toList.take u++((b.toList.drop u).take (v-u)++(b.toList.drop v).take (v+m-v))++b.toList.drop (u+(v-u+m)):=by
  have n:(b.toList.drop u).take (v-u)++(b.toList.drop v).take (v+m-v)=(b.toList.drop u).take (v-u+m):=by
   rw[List.take_add,List.drop_drop,show u+(v-u)=v by omega,show v+m-v=m by omega]
  rw[n,append_assoc];have o:(b.toList.drop u).take (v-u+m)++b.toList.drop (u+(v-u+m))=b.toList.drop u:=by
   rw[<- List.drop_drop,take_append_drop]
  rw[o,take_append_drop]
 exact((List.Perm.append_left _ hr).append_right _).trans (List.Perm.of_eq e.symm)
structure SB(κ : KeyKind)(a₀ : Array Keyed)(st:SortSt):Prop where
 kind:kindOf st=oneType'
 failed:failedOf st=none
 perm:(arrOf st).Perm a₀
theorem SB.size{e : KeyKind}{b : Array Keyed}{st:SortSt}(h:SB e b st):(arrOf st).size=b.size:=h.perm.size_eq
theorem SB.keys{f : KeyKind}{b : Array Keyed}{st:SortSt}(h:SB f b st)(g:KeysOf f b):AllK f (arrOf st):=λi p e=>by
 refine g p ((Array.perm_iff_toList_perm.mp h.perm).mem_iff.mp ?_);rw[<- getElem?_toList]at e;exact mem_of_getElem? e
section
variable{prog:Program}{w:World}{A:Around}{E:Mm}{s:Shared}{κ : KeyKind}{a₀ : Array Keyed}
end
end TS
namespace TS
open PySem PyProof.Rows
def kAt(b : KeyKind)(e:Array Keyed)(i:Nat):Option b.α:=e[i]?.map (kk b)
def Up(b : KeyKind)(e:Array Keyed)(lo f:Nat):Prop:=∀(i j:Nat) x y,lo<=i->i<=j->j<f->kAt b e i=some x->kAt b e j=some y->b.kle x y
theorem Up.sr{b : KeyKind}{f:Array Keyed}{lo g:Nat}(h:Up b f lo g):SR b f lo g:=λi j p q m n o e r=>h i j (kk b p) (kk b q) m n o (by unfold kAt;rw[e];rfl) (by unfold kAt;rw[r];rfl)
theorem Hx(e:b[i]? = some p):kAt f b i=some (kk f p):=by unfold kAt;rw[e];rfl
section
variable{prog:Program}{w:World}{A:Around}{E:Mm}{s:Shared}{κ : KeyKind}{a₀ : Array Keyed}
theorem Iw(g:κ.OneLt)(f:KeysOf κ a₀){st:SortSt}(B:SB κ a₀ st){i j:Nat}{Q:Option Bool->SortSt->Prop}(m:i<a₀.size)(hj:j<a₀.size)(h:∀x y,kAt κ (arrOf st) i=some x->kAt κ (arrOf st) j=some y->Q (some (κ.blt x y)) st):wpS (model prog w) A E s (ltAt' i j) Q st:=by
 obtain⟨p,b⟩:=qB (show i<(arrOf st).size by rw[B.size];exact m);obtain⟨q,e⟩:=qB (show j<(arrOf st).size by rw[B.size];exact hj);rw[ltAt'_eq];refine wpS_bind (wpS_get ?_);dsimp only;exact wpS_bind (zA b (wpS_bind (zA e (KL g B.kind (B.keys f _ _ b) (B.keys f _ _ e) (h _ _ (Hx b) (Hx e))))))
end
end TS
namespace TS
open PySem PyProof.Rows
section
variable{prog:Program}{w:World}{A:Around}{E:Mm}{s:Shared}{κ : KeyKind}{a₀ : Array Keyed}
theorem L6(c:Prop) [Decidable c](i:Nat):(if c then i-1 else i)<=i:=by
 split
 ·omega
 ·exact le_refl _
end
end TS
namespace TS
open PySem PyProof.Rows
theorem SR.toK(h:SR m b 0 n)(o:n<=b.size):SortedToK m b n:=λi j e hj=>by
 obtain⟨p,f⟩:=qB (show i<b.size by omega);obtain⟨q,g⟩:=qB (show j<b.size by omega);have:=h i j p q (zero_le _) e hj f g;unfold KK;rw[f,g];exact this
section
variable{prog:Program}{w:World}{A:Around}{E:Mm}{s:Shared}{κ : KeyKind}
end
end TS
namespace TS
open PySem PyProof.Rows
def nE:KeyKind where
 α:=Int
 blt a b:=decide (a<b)
 irrefl a:=decide_eq_false (Int.lt_irrefl a)
 trans a b c h1 h2:=decide_eq_true (Int.lt_trans (of_decide_eq_true h1) (of_decide_eq_true h2))
 negTrans a b c h:=by
  have h:=of_decide_eq_true h;by_cases z:a<b
  ·exact .inl (decide_eq_true z)
  ·exact .inr (decide_eq_true (by omega))
 total a b h1 h2:=by
  have h1:=of_decide_eq_false h1;have h2:=of_decide_eq_false h2;omega
 keyOf v:=match v with
  | .int n _=>some n
  |_=>none
 dflt:=0
theorem Ln:nE.OneLt:=by
 intro e w A E s x y a b Q f g q;cases x with
 |int n t=>
  cases y with
  |int m u=>
   cases (show some n=some a from f);cases (show some m=some b from g);exact oneLt_int q
  |_=>cases g
 |_=>cases f
theorem Hi(h:IntsAre b g):KeysOf nE (pairsOf b):=λp f=>by
 obtain⟨n,t,e⟩:=h.intKeys p f;exact⟨n,by rw[e];rfl⟩
theorem DA(h:SortedToK nE b n):SortedTo b n:=λi j f hj=>by
 have:=h i j f hj;have e:∀k,KK nE b k=K b k:=λk=>by
  unfold KK K;cases b[k]? with
  |none=>rfl
  |some p=>
   dsimp only;cases p.1 <;> rfl
 rw[e,e]at this;have this:decide (K b j<K b i)=false:=this;have:=of_decide_eq_false this;omega
end TS
namespace L2
open PySem PySem.Spec PyProof.Rows
section
variable{X:Cx}
inductive tFwX(a:Str)(Q:VK)(v:V)(H1:Hp):Prop
 |mk:∀i:Int,v = .int i->0<=i->i<10 ^ 10->Q (.str (a++Str.ofString (toString i))) H1->tFwX a Q v H1
def tFw(a:Str)(b:TE):TE:=λe H Q=>b e H (tFwX a Q)
theorem Fi{a:Int}(b:0<=a)(h:a<10 ^ 10):a.natAbs.log2<1920:=by
 have h:a.natAbs<10 ^ 10:=by omega
 by_cases b:a.natAbs=0
 ·rw[b];decide
 ·have e:a.natAbs.log2<64:=(Nat.log2_lt b).mpr (lt_of_lt_of_le h (by decide));omega
theorem pe_fw{a:Str}{e:Expr}{o:TE}{k:Nat}{g p2 m:Pos}(D:PE X e o)(E:a.length<=1000:=by decide):PE X (.JoinedStr [.Constant (.str a) k g,.FormattedValue e (-1) none p2] m) (tFw a o):=by
 intro b s p H Q I h;refine wpAny_JoinedStr ?_;have G:evalEach [.Constant (.str a) k g,.FormattedValue e (-1) none p2] X.env=[eval (.Constant (.str a) k g) X.env,eval (.FormattedValue e (-1) none p2) X.env]:=by rfl
 rw[G];unfold Joins;refine thn (bP b s p H (λv r=>v = .str a/\r=H) I ⟨rfl,rfl⟩) λv J f=>?_;obtain⟨x,r,L,N,n,O⟩:=f;subst n O;obtain⟨t,rfl⟩:=N;refine⟨a,t,rfl,?_,?_⟩
 ·rw[PySem.W.KT.empty_app];exact le_trans E (by decide)
 rw[PySem.W.KT.empty_app];unfold Joins;refine wpAny_FormattedValue_plain (thn (D b J p _ _ L h) λv s2 f=>?_);obtain⟨x,H2,R,S,i,n,y,z,q⟩:=f;subst n;obtain⟨u,rfl⟩:=S;have B:(a++Str.ofString (toString i)).length<=sizeLine:=by
  have:=PySem.W.KT.len_num y z;rw[strLen_append];exact le_trans (show _<=1010 by omega) (by decide)
 refine wpAny_formatField_int (Fi y z) ⟨_,_,rfl,B,B,?_⟩;exact⟨.str _,H2,R.kept (λ_ _ e=>e),⟨_,rfl⟩,q⟩
theorem yC:∀{b:Mf}{e:Mh},cE (b.map V.int) e->IntsAre e b
 |[],_,h=>by cases h;exact .nil
 |n::b,_,h=>by
  cases h with
  |cons r h=>
   obtain⟨t,rfl⟩:=r;exact .cons n t (yC h)
theorem Fj:∀{b:Mh}{e:Mf},IntsAre b e->2<=e.length->keyKind' b.toArray=pure oneType'
 |[],_,h,f=>by cases h;simp at f
 |[_],_,h,f=>by
  have:=IntsAre.length h;simp at this;omega
 |v₁ :: g :: rest,_,h,_=>keyKind_ints h
inductive xU(xs:Mp)(H:Hp)(Q:VK):Prop
 |mk:∀l ns,xs=[.ref l]->H l=some (.lst (ns.map .int))->ns.length<64->(∀p ms,List.Perm ms ns->ms.Pairwise (· <= ·)->H p=none->Q (.ref p) (upd H p (.lst (ms.map .int))))->xU xs H Q
theorem wN:gP X (.builtin "sorted") xU:=by
 intro t s U H V W Q I r h;obtain⟨l,x,rfl,E,G,q⟩:=h;have n:x.length<=sizeLine:=le_trans (le_of_lt G) (by decide);cases r with
 |cons J L=>
  cases L;cases (show _=Value.ref l from J);obtain⟨y,z,N,Y⟩:=I.list (SqL.of E);have O:=yC z;have B:y.length=x.length:=by have:=z.length;rw[length_map]at this;omega
  refine sorted_ints N.isList O (by omega) λg D m f R=>?_;obtain⟨o,p⟩:=sortedAll_at s.heap y g;have S:H (s.heap.objs.size+1)=none:=I.hok.fresh (le_succ _);refine⟨.ref (s.heap.objs.size+1),upd H (s.heap.objs.size+1) (.lst (D.map .int)),I.laid (t':=s.toks) (λb u e=>sortedAll_old e) (le_succ _) ?_,rfl,q _ D f R S⟩;refine⟨?_,g.toList,o,mT m,?_⟩
  ·rw[length_map,f.length_eq];exact n
  ·simpa [seqObj] using p
theorem EF(K:Ma)(b:PE X e g)(m:attributeBase e f X.env (eval e X.env)=eval e X.env)(n:X.K=K:=by rfl):PE X (.Attribute e f o) (tFld K g f):=by
 subst n;exact qT b m
end
theorem AR(l:Addr)(b:Array Value)(n:Nat)(o:Option Addr)(x:Me)(lo:Int)(t:Tok)(y:0<=lo/\lo<1000000000) :
  Meets (Builtin.«enumerate.__new__» ⟨[.type "enumerate",.ref l],[("start",.int lo t)]⟩) (λ_ R s=>s.heap.get? l=some {cls:=.type "tuple",dict:=o,data:=.seq b n,slots:=x}/\
   R (.ok (.ret (.ref (s.heap.push {cls:=.type "tuple_iterator",data:=.fields #[.ref l,.int 0 0] }).objs.size)))
    {s with heap:=(s.heap.push {cls:=.type "tuple_iterator",data:=.fields #[.ref l,.int 0 0] }).push {cls:=.type "enumerate",data:=.fields #[.none,.bool false,.ref s.heap.objs.size,rawInt lo,.none,.none] } }):=
 .of_wp λu w A R s h=>by
  obtain⟨z,g,d,B,os⟩:=s;obtain⟨m,h⟩:=h;have z1:=sub_enumerate;have D:Builtin.SmallTypes.fitsIndex lo=true:=by
   unfold Builtin.SmallTypes.fitsIndex;simp;omega
  have q:Heap.IsTuple (Shared.heap ⟨z,g,d,B,os⟩) l b:=⟨_,m,rfl,n,rfl⟩
  wp_walk using AutoSeq1.wpAny_loadPart' m
  refine wpAny_stack_any λst=>wpAny_pure ?_;split
  ·rename_i c _ _ _ _ _;cases (c == Value.type "enumerate")
   ·wp_walk using AutoSeq1.wpAny_loadPart' m,wpAny_pyIter_tuple q
    exact⟨_,rfl,h⟩
   ·wp_walk using AutoSeq1.wpAny_loadPart' m,wpAny_pyIter_tuple q
    exact⟨_,rfl,h⟩
  ·wp_walk using AutoSeq1.wpAny_loadPart' m,wpAny_pyIter_tuple q
   exact⟨_,rfl,h⟩
section
variable{X:Cx}
inductive mO(K:Ma)(R:(It->Hp->Prop))(x:V)(y:V)(H2:Hp):Prop
 |mk:∀a xs lo,x = .ref a->y = .int lo->0<=lo->lo<1000000000->SqT K H2 a xs->R (Ite K lo a) H2->mO K R x y H2
abbrev ID(K:Ma)(b:TE)(e : St)(R:(It->Hp->Prop)):V->Hp->Prop:=λx f=>b e f (mO K R x)
def L9(K:Ma)(e f:TE):TI:=λb H R=>e b H (ID K f b R)
theorem HH(K:Ma)(W:X.mg "enumerate" = none)(Y:PE X ex N)(Z:PE X e2 D)(hg:Gl X "enumerate":=by rfl)(E:starEach [ex] X.env=[(false,eval ex X.env)]:=by rfl)(hK:X.K=K:=by rfl) :
  PI X (.Tuple O x1 tp) (.Call (.Name "enumerate" p) [ex] [⟨some "start",e2,kp⟩] G) (L9 K N D):=by
 subst hK;intro b s g H R I h;refine wpAny_Call_Name_kw (jA I hg W boot_enumerate ?_);rw[E];refine CD (x:=eval ex X.env) (rest:=[]) rfl rfl rfl ?_;have t:=eR Y aF E G b s g H (λQ f=>∃x,Q=[x]/\D g f (mO X.K R x)) I (by
  have e:(λ(x:V)(f:Hp)=>kX g f λS H2=>∃z,x::S=[z]/\D g H2 (mO X.K R z))=λx f=>D g f (mO X.K R x):=by
   funext x f;simp only[kX,List.cons.injEq,and_true];apply propext;constructor
   ·rintro ⟨z,rfl,h⟩;exact h
   ·intro h;exact⟨x,rfl,h⟩
  exact Eq.mpr (congrArg (N g H) e) h)
 rw[E]at t;refine thn t λus s1 m=>?_;obtain⟨Q,f,I1,r1,x,ev,q1⟩:=m;subst ev;refine kws_cons (thn (Z b s1 g f _ I1 q1) λv2 s2 m=>?_);obtain⟨y,H2,U,ry,a,S,lo,J,ey,l0,l1,hq,q⟩:=m;refine kws_nil ?_;subst J ey;cases r1 with
 |cons r rr=>
  cases rr;cases (show _=Value.ref a from r);obtain⟨L,rfl⟩:∃L,v2 = .int lo L:=ry;obtain⟨aa,rv,⟨⟨c,dd,dt,sl⟩,ho,u,n,B⟩,hz⟩:=U.tuple hq;dsimp only at u B;subst u B;refine tM (kw:=[("start",_)]) PySem.F.called_enumerate (nV _ _) (pU _ _) PySem.F.entry_enumerate_new (AR a _ n dd sl lo L ⟨l0,l1⟩) (λo=>EV o _ _) (λo=>nT o _ _) ⟨ho,⟨_,get?_push_size _ rfl,rfl⟩,?_⟩;rw[size_push];exact vT (tg:=ex) (tk:=s2.toks) U q
inductive KP(Q:VK)(vs:Mp)(H1:Hp):Prop
 |mk:∀j:Int,vs=[.int j]->(-(2 ^ 62)<=j/\j<2 ^ 62)->j.toNat<=sizeLine->(∀p,H1 p=none->Q (.ref p) (upd H1 p (.lst ((List.range j.toNat).map λk=>.int (0+(k:Nat))))))->KP Q vs H1
def tLR1(b:TA):TE:=λe H Q=>b e H (KP Q)
theorem BO(V:X.calm=true)(y:Gl X "list")(z:X.mg "list" = none)(W:Gl X "range")(Y:X.mg "range" = none)(Z:PA X [b] ta)
  (B:starEach [b] X.env=[(false,eval b X.env)]:=by rfl)
  (m:starEach [.Call (.Name "range" p2) [b] [] f] X.env=[(false,eval (.Call (.Name "range" p2) [b] [] f) X.env)]:=by rfl) :
  PE X (.Call (.Name "list" p) [.Call (.Name "range" p2) [b] [] f] [] aa) (tLR1 ta):=by
 intro g s J H Q I h;refine wpAny_Call_Name_kw (jA I y z boot_list ?_);refine PyProof.Rows.callWith_type1 ?_ m rfl;rw[m];show wpAny _ _ (spliced ((false,eval (.Call (.Name "range" p2) [b] [] f) X.env)::[])) _ _ s;refine Calls.spliced_cons ?_;refine Call_ (jA I W Y boot_range (PyProof.Rows.callWith_type1 (thn (Z f g s J H _ I h) λus u D=>?_) B rfl));obtain⟨vs,L,I1,r1,E⟩:=D;obtain⟨j,e,⟨E,q2⟩,N,q⟩:=E;subst e;cases r1 with
 |cons r rr=>
  cases rr;obtain⟨t,rfl⟩:=r;refine call_range_1 ?_;refine Calls.spliced_nil ?_;have O:Inv X g J L {u with heap:=u.heap.push {cls:=.type "range",data:=.fields #[.int 0 u.toks,.int j t,.int 1 (u.toks+1)] },toks:=u.toks+1+1}:=I1.kept λb o e=>get?_push_of_some _ e;refine call_list_range (n:=j.toNat) (I.ok.hd V) (IsRange.new ..) (small_one (by omega) (by omega) E q2) (by rw[rangeSize_one];split <;> omega) (le_trans N (by decide)) λh' tk G c' kp g' x=>?_;refine⟨.ref _,upd L _ (.lst ((List.range j.toNat).map λk=>.int (0+(k:Nat)))),O.laid (t':=tk) kp (le_refl _) ?_,rfl,q _ (O.hok.fresh (le_refl _))⟩;refine⟨by rw[length_map,length_range];exact N,G.toList,c',tL (by have:=x.1;simpa using this) λk v hv=>x.2 k v (by simpa using hv),?_⟩;simpa using g'
inductive G9(x:V)(vs:Mp)(H:Hp)(Q:VK):Prop
 |mk:∀a y z o,x = .ref a->vs=[y,z]->cR H a y o->Q (o.getD z) H->G9 x vs H Q
theorem Hl(f:X.A.units+1<cLine):MtR X "dict.get" G9:=by
 intro e s u H x B v D Q I m n h;obtain⟨a,y,z,o,rfl,rfl,g,q⟩:=h;cases (show v=Value.ref a from m);obtain⟨E,G,rfl,p,r⟩:=GG n;exact ML f I g p r λJ L t b=>⟨_,H,t,b,q⟩
inductive rInD(neg:Bool)(x:V)(y:V)(H:Hp)(Q:VK):Prop
 |mk:∀ds d,Den H (.list ds) y->Den H d x->SeqAt.shaped (.list ds)=true->SeqAt.shaped d=true->Q (.bl (if neg then !(ds.any λe=>PyData.eqv e d) else ds.any λe=>PyData.eqv e d)) H->rInD neg x y H Q
theorem E6{b:Mj}{d:PyData}{u:Nat}(h:SeqAt.shaped (.list b)=true)(e:u+64<cLine):u+1+min (PyData.depthAll b) d.depth<cLine:=by
 have f:PyData.depthAll b+1<=64:=SeqAt.depth_of_shaped h;have g:min (PyData.depthAll b) d.depth<=PyData.depthAll b:=Nat.min_le_left _ _;omega
theorem FD(f:X.A.units+64<cLine):OpR X (compareOp .NotIn) (rInD true):=by
 intro b s z H x y v u Q I g m h;obtain⟨n,d,o,p,e,s2,q⟩:=h;obtain⟨B,r⟩:=gW I o m;obtain⟨D,t⟩:=gW I p g;exact SeqAt.notIn_list_reads r t (show PyData.canLayAll0 n=true from SeqAt.canLay_of_shaped e) (SeqAt.canLay_of_shaped s2) (E6 e f) ⟨.bl _,H,I,rfl,q⟩
structure GD(P:Program)(w:World)(K:Ma)(a:Addr)(kvs:Mn):Prop where
 sys:(a == sysModules)=false
 ex:∃o vs,K.lookup a=some o/\KV kvs vs/\o.IsDictOf (bF P w) vs
theorem GD.here(g:GD X.prog X.w X.K a e)(I:Inv X f q H s):∃b,KV e b/\s.heap.DictOf (bF X.prog X.w) a b:=by
 obtain⟨o,b,m,n,p⟩:=g.ex;exact⟨b,n,Heap.dictOf_iff.mpr ⟨o,I.kIn _ _ m,p⟩⟩
inductive GT(kvs:Mn)(Q:VK)(y:V)(H1:Hp):Prop
 |mk:∀k v,y=kV k->c9 kvs k=some v->Q v H1->GT kvs Q y H1
def tGGet(b:Mn)(ty:TE):TE:=λe H Q=>ty e H (GT b Q)
inductive Am(kvs:Mn)(Q:VK)(y:V)(H1:Hp):Prop
 |mk:∀k,y=kV k->Q (.bl (!(c9 kvs k).isSome)) H1->Am kvs Q y H1
def Iz(b:Mn)(ty:TE):TE:=λe H Q=>ty e H (Am b Q)
theorem Jc{K:Ma}{a:Addr}{f:Mn}{o i:Expr}{ty:TE}{m:Pos}(g:GD X.prog X.w K a f)(B:PE X o (tC (.ref a)))(D:PE X i ty)(E:MS i)(G:X.K=K:=by rfl):PE X (.Subscript o i m) (tGGet f ty):=by
 subst G;intro b s r H Q I h;refine Dl PySem.F.slot_dict_getitem.lookup E (thn (B b s r H (λx n=>x = .ref a/\n=H) I ⟨rfl,rfl⟩) λu J e=>?_);obtain⟨x,n,L,N,ex,O⟩:=e;subst ex O;obtain rfl:u=Value.ref a:=N;refine thn (D b J r n _ L h) λW s2 e=>?_;obtain⟨y,H2,t,R,k,v,S,l,U⟩:=e;subst S;obtain⟨V,p,z⟩:=g.here t;obtain⟨Y,hw,q⟩:=kU.some_of (v:=v) (o:=valueAt V k) (by rw[<- l];exact p.val k);exact⟨z.typeIs,wpAny_getItem_of (nS R) z.mapOf hw ⟨v,H2,t.tok _,q,U⟩⟩
theorem FB{K:Ma}{a:Addr}{e:Mn}{o i:Expr}{ty:TE}(g:GD X.prog X.w K a e)(r:PE X i ty)(t:PE X o (tC (.ref a)))(z:X.K=K:=by rfl):PC X .NotIn i o (Iz e ty):=by
 subst z;intro b s n H Q I h;refine thn (r b s n H _ I h) λR B ⟨y,p,D,E,k,G,J⟩=>thn (t b B n p (λx H2=>x = .ref a/\H2=p) D ⟨rfl,rfl⟩) λu s2 f=>?_;obtain⟨x,H2,q,L,ex,N⟩:=f;subst ex N G;obtain rfl:u=Value.ref a:=L;obtain⟨S,m,O⟩:=g.here q;refine wpAny_notIn_of (nS E) g.sys O.mapOf ⟨.bl _,H2,q.tok _,rfl,?_⟩;rw[<- (m.val k).isSome_eq];exact J
def DI(x:Str):Value->Bool
 | .str y _=>decide (y=x)
 |_=>false
def DJ(n:Int):Value->Bool
 | .int m _=>decide (m=n)
 |_=>false
theorem Fp(h:DI x v=true):∃t,v = .str x t:=by
 unfold DI at h;split at h
 ·exact⟨_,by rw[of_decide_eq_true h]⟩
 ·cases h
theorem Fq(h:DJ n v=true):∃t,v = .int n t:=by
 unfold DJ at h;split at h
 ·exact⟨_,by rw[of_decide_eq_true h]⟩
 ·cases h
def pV:List (Str×Int)->List DictEntry->Bool
 |[],[]=>true
 |p::b,e::f=>(DI p.1 e.key && DJ p.2 e.val) && pV b f
 |_,_=>false
theorem J9:∀{m:List (Str×Int)}{f:List DictEntry},f.map (·.hash)=m.map (λp=>PyData.keyHash w.params p.1)->pV m f=true->
  (∀e∈f,∃k:Key,rX k e.key=true/\e.hash=Lz w k)/\∃n:List (Key×Value),KV (m.map λp=>(Sum.inr p.1,V.int p.2)) n/\(∀(P:Program),Pairs (bF P w) f n)/\n.map (·.1)=m.map λp=>Sum.inr p.1:=by
 intro m
 induction m with
 |nil=>
  intro f _ g;cases f with
  |nil=>exact⟨(λe h=>by cases h),[],.nil,(λ_=>.nil),rfl⟩
  |cons e f=>cases g
 |cons p m r=>
  intro f o g;cases f with
  |nil=>cases g
  |cons e f=>
   rw[map_cons,map_cons]at o;injection o with q s
   unfold pV at g;rw[and_eq_true,and_eq_true]at g;obtain⟨a,n,b,c,d⟩:=r s g.2;obtain⟨hash,x,y⟩:=e;dsimp only at g q;obtain⟨t,rfl⟩:=Fp g.1.1;obtain⟨u,rfl⟩:=Fq g.1.2;have B:∃k:Key,rX k (.str p.1 t)=true/\hash=Lz w k:=⟨Sum.inr p.1,rA _ _,by rw[q];rfl⟩;refine⟨λe h=>?_,(Sum.inr p.1,.int p.2 u)::n,.cons ⟨rfl,⟨_,rfl⟩⟩ b,λP=>.cons (rA p.1 t) rfl (c P),by rw[map_cons,map_cons,d]⟩;rcases mem_cons.mp h with z |z
   ·rw[z];exact B
   ·exact a e z
theorem gd_of{P:Program}{w:World}{K:Ma}{a:Addr}{b:Array DictEntry}{g:Nat}{ps:List (Str×Int)}(f:(a == sysModules)=false)(l:K.lookup a=some ⟨.type "dict",none,.dict b g,#[]⟩)(m:b.toList.map (·.hash)=ps.map λp=>PyData.keyHash w.params p.1)(n:pV ps b.toList=true)(o:(ps.map λp=>(Sum.inr p.1:Key)).Nodup) :
  GD P w K a (ps.map λp=>(Sum.inr p.1,V.int p.2)):=by
 obtain⟨q,r,s,t,u⟩:=J9 m n;exact⟨f,_,r,l,s,b,g,⟨rfl,rfl,rfl⟩,rfl,λe h=>q e (by simpa using h),t P,by rw[u];exact o⟩
end
section
variable{X:Cx}{tg:Expr}
inductive Km(K:Ma)(R:(It->Hp->Prop))(x:V)(H1:Hp):Prop
 |mk:∀a,x = .ref a->(((∃xs,SqL K H1 a xs)/\R (Itl K a) H1)\/((∃xs,SqT K H1 a xs)/\R (Itt K a) H1))->Km K R x H1
def iSeq(K:Ma)(b:TE):TI:=λe H R=>b e H (Km K R)
theorem JV(K:Ma)(z:PE X l B)(D:X.K=K:=by rfl):PI X tg l (iSeq K B):=by
 subst D;intro g s E H R I h;refine thn (z g s E H _ I h) λv f r=>?_;obtain⟨x,t,m,G,J⟩:=r;obtain⟨a,e,q⟩:=J;subst e;cases G;have y:∀b∈[f.heap.objs.size],rG X g t b:=λb L=>by
  have e:b=f.heap.objs.size:=by simpa using L
  subst e;exact m.fpOk (le_refl _) (m.hok.fresh (le_refl _))
 rcases q with ⟨⟨N,u⟩,q⟩ | ⟨⟨N,u⟩,q⟩
 ·obtain⟨n,O,p,Q⟩:=m.list u;refine wpAny_pyIter_list p.isList ?_;exact⟨f.heap.objs.size,[f.heap.objs.size],_,_,t,rfl,m.kept (t':=f.toks) λb o e=>get?_push_of_some _ e,wR a _,⟨_,get?_push_size _ rfl,rfl,rfl⟩,y,q⟩
 ·obtain⟨n,O,p,Q⟩:=m.tuple u;refine wpAny_pyIter_tuple (show f.heap.IsTuple a n.toArray from p) ?_;exact⟨f.heap.objs.size,[f.heap.objs.size],_,_,t,rfl,m.kept (t':=f.toks) λb o e=>get?_push_of_some _ e,tN a _,⟨_,get?_push_size _ rfl,rfl,rfl⟩,y,q⟩
end
section
variable{X:Cx}{pins:Mb}{σ : List (Option V)}{H H':Hp}{s:Shared}
theorem Inv.thaw(I:Inv X pins σ H' s)(D:H' a=some (.frz o (.dK f)))(G:∀o u,X.H₀ a≠some (.frz o u)):Inv X pins σ (upd H' a (.dK f)) s:=by
 have m:∀{b:Addr},H' b=none->upd H' a (.dK f) b=none:=λ{b} e=>by
  rw[aH (λz=>by rw[z,D]at e;cases e)];exact e
 have t:∀{b:Addr}{u:HO},H' b=some u->(∀o J,u ≠ .frz o J)->upd H' a (.dK f) b=some u:=λ{b u} e n=>by
  rw[aH (λz=>by rw[z,D]at e;cases e;exact n _ _ rfl)];exact e
 refine⟨I.ok,I.os,I.bare,⟨I.base.keep,I.base.slot,λb B q n L=>m (I.base.free b B q n L),I.base.there,λb E e=>t (I.base.tups b E e) (λ_ _ z=>by cases z),λb B u e=>?_,λb N e=>?_⟩,I.loc,I.cell,m I.free,λx c e=>m (I.freeC x c e),λp O=>?_,λb u e=>?_,I.len⟩
 ·rw[aH (λz=>G B u (by rw[<- z];exact e))];exact I.base.frzs b B u e
 ·obtain⟨g,Q⟩:=I.base.tbls b N e;exact⟨g,t Q (λ_ _ z=>by cases z)⟩
 ·obtain⟨R,S,U⟩:=I.pin p O;exact⟨R,m S,U⟩
 ·by_cases y:b=a
  ·subst y;rw[aB]at e;cases e;exact(I.hok b _ D).2
  ·rw[aH y]at e;exact(I.hok b u e).stay (λc v _ r=>r) (λc r=>t r (λ_ _ z=>by cases z)) λc E r=>t r (λ_ _ z=>by cases z)
inductive GO(H:Hp)(Q:VK)(v:V)(H':Hp):Prop
 |mk:∀a o kvs,H' a=some (.frz o (.dK kvs))->(∃kvs0,H a=some (.dK kvs0))->Q v (upd H' a (.dK kvs))->GO H Q v H'
def tThaw(t:TE):TE:=λσ H Q=>t σ H (GO H Q)
theorem JZ(h:PE X e t):PE X e (tThaw t):=by
 intro pins s σ H Q I g;refine thn (h pins s σ H _ I g) λu x b=>?_;obtain⟨v,y,m,n,a,o,p,r,⟨B,f⟩,q⟩:=b;exact⟨v,_,m.thaw r (λo u z=>by rw[I.base.frzs a o u z]at f;cases f),n,q⟩
end
end L2
namespace TS
open PySem PyProof.Rows
theorem xZ:∀(f n r:Nat),r<=1->minRun' f n r<=n+r
 |0,n,r,_=>Nat.le_of_eq rfl
 |f+1,n,r,h=>by
  rw[minRun'_succ];split
  ·exact le_refl _
  ·have:=xZ f (n / 2) (max r (n % 2)) (by omega);omega
section
variable{prog:Program}{w:World}{A:Around}{E:Mm}{s:Shared}{κ : KeyKind}{a₀ : Array Keyed}
theorem AU(e:κ.OneLt)(f:KeysOf κ a₀){st:SortSt}(B:SB κ a₀ st)(hr:1<=a₀.size)(g:Up κ (arrOf st) 0 a₀.size){Q:Option Nat->SortSt->Prop}(h:Q (some a₀.size) st):wpS (model prog w) A E s (countRun' 0 a₀.size) Q st:=by
 rw[countRun'_eq];dsimp only;refine wpS_bind (wpS_mono (wpS_forRange (I:=λx c b=>b=st/\c=(none,x)) (Q:=λc b=>b=st/\c=(none,a₀.size)) ?step ?fin ⟨rfl,rfl⟩) ?post)
 case fin=>
  rintro c b ⟨rfl,rfl⟩;rw[show max 1 a₀.size=a₀.size by omega];exact⟨rfl,rfl⟩
 case step=>
  rintro x c b m n ⟨rfl,rfl⟩;dsimp only;refine wpS_bind (Iw e f B (by omega) (by omega) λo p ex q=>?_);have:κ.blt o p=false:=g _ _ _ _ (zero_le _) (by omega) (by omega) q ex;rw[this];dsimp only;rw[if_neg (by decide)];exact wpS_pure ⟨rfl,rfl⟩
 case post=>
  rintro c b ⟨rfl,rfl⟩;dsimp only;rw[if_pos (KF rfl)];exact wpS_pure h
theorem zL(n:κ.OneLt)(o:KeysOf κ a₀){st:SortSt}(B:SB κ a₀ st)(m:pendingOf st = #[])(y:2<=a₀.size)(p:Up κ (arrOf st) 0 a₀.size){Q:Unit->SortSt->Prop}
  (h:∀b,arrOf b=arrOf st->failedOf b=none->Q () b):wpS (model prog w) A E s sortRuns' Q st:=by
 rw[sortRuns'_eq];refine wpS_bind (wpS_get ?_);dsimp only;rw[B.size];have g:minRun' a₀.size a₀.size 0<=a₀.size:=xZ _ _ _ (by omega);generalize minRun' a₀.size a₀.size 0=D at g;refine wpS_bind (wpS_mono (wpS_forRange (I:=λx c b=>(x=0/\c=(none,0)/\b=st)\/(c=(none,a₀.size)/\arrOf b=arrOf st/\failedOf b=none/\(pendingOf b).size<=1)) (Q:=λc b=>c=(none,a₀.size)/\arrOf b=arrOf st/\failedOf b=none/\(pendingOf b).size<=1) ?step ?fin (.inl ⟨rfl,rfl,rfl⟩)) ?post)
 case fin=>
  rintro c b (⟨z,_⟩ |f)
  ·omega
  ·exact f
 case step=>
  rintro x c b _ q (⟨rfl,rfl,rfl⟩ | ⟨rfl,f⟩)
  ·dsimp only;rw[if_neg (by omega)];refine wpS_bind (AU n o B (by omega) p ?_);dsimp only;rw[if_neg (by omega)];refine wpS_bind (wpS_get ?_);rw[m];dsimp only[Array.back?];refine wpS_bind (wpS_modify (wpS_pure (.inr ⟨?_,rfl,B.failed,?_⟩)))
   ·rw[Nat.zero_add]
   ·show ((pendingOf b).push _).size<=1;rw[m];exact le_refl _
  ·dsimp only;rw[if_pos (le_refl _)];exact wpS_pure ⟨rfl,f⟩
 case post=>
  rintro c b ⟨rfl,r,t,u⟩;dsimp only;refine wpS_bind (wpS_mono (wpS_forRange (I:=λx c e=>c=(none,())/\e=b) (Q:=λc e=>c=(none,())/\e=b) ?s2 (λ_ _ f=>f) ⟨rfl,rfl⟩) ?p2)
  case s2=>
   rintro x c e _ q ⟨rfl,rfl⟩;refine wpS_bind (wpS_get ?_);rw[if_pos u];exact wpS_pure ⟨rfl,rfl⟩
  case p2=>
   rintro c e ⟨rfl,rfl⟩;exact wpS_pure (h _ r t)
theorem Gc(I:κ.OneLt){a:Addr}{f:Mh}{n:Nat}{P:PySem.Fin->Shared->Prop}(t:s.heap.get? a=some (seqObj "list" f.toArray n))(J:KeysOf κ (pairsOf f))(D:Up κ (pairsOf f) 0 (pairsOf f).size)(x:keyKind' f.toArray=pure oneType')(L:2<=f.length)(G:f.length<=sizeLine)
  (h:∀b:SortSt,(arrOf b).Perm (pairsOf f)->SortedToK κ (arrOf b) (pairsOf f).size->P (.done (.ret .none)) {s with heap:=sortedHeap s.heap a f ((arrOf b).map (·.2))}):wpAny (model prog w) A (Builtin.«list.sort» ⟨[.ref a],[]⟩) P E s:=by
 have H:a<s.heap.objs.size:=lt_size t;have o:f.toArray.size=f.length:=by simp
 rw[list_sort_plain];refine wpAny_bind (listItems_at t rfl (wpAny_bind (listUpdate_at t rfl ?_ (by rw[o];exact G))));have m:=get?_update_seq t (λ_=>#[]);generalize (if ((λ_=>#[]:Array Value->Array Value) f.toArray).size == f.toArray.size then n else n+1)=N at m;refine wpAny_bind (seqEpoch_at m rfl (wpAny_bind (wpAny_newTuple (wpAny_bind (wpAny_newList (wpAny_holding ?_))) (by simpa using G))));generalize p:((s.heap.update a (Obj.mapSeq λ_=>#[])).push (seqObj "tuple" f.toArray 0)).push (seqObj "list" #[] 0)=y;have q:y.get? a=some (seqObj "list" #[] N):=by
  rw[<- p,Heap.get?_push_ne _ _ _ (by rw[size_push',Heap.size_update];exact ne_of_lt (lt_succ_of_lt H)),Heap.get?_push_ne _ _ _ (by rw[Heap.size_update];exact ne_of_lt H)];exact m
 have r:¬f.toArray.size<2:=by rw[o];omega
 show wpAny (model prog w) A _ P E {s with heap:=y};dsimp only;rw[if_neg r,if_neg r,x];refine wpAny_bind (wpAny_pure ?_);have fin:∀b:SortSt,(arrOf b).Perm (pairsOf f)->SortedToK κ (arrOf b) (pairsOf f).size->P (.done (.ret .none)) {s with heap:=y.update a (Obj.mapSeq λ_=>(arrOf b).map (·.2))}:=λb u z=>by
  have:=h b u z;unfold sortedHeap at this;rw[p]at this;exact this
 refine wpAny_bind (wpAny_mono (zL (κ:=κ) I (a₀:=pairsOf f) (st:=SortSt.mk' oneType' (f.toArray.zip f.toArray) #[] 7 none) (Q:=λ_ b=>(arrOf b).Perm (pairsOf f)/\failedOf b=none/\SR κ (arrOf b) 0 (pairsOf f).size) J ⟨rfl,rfl,Array.Perm.refl _⟩ rfl (by rw[pairsOf_size];exact L) D λb u z=>⟨by rw[u];exact Array.Perm.refl _,z,by rw[u];exact D.sr⟩) ?_ λ_ _ e=>e);rintro ⟨⟨⟩,b⟩ S ⟨rfl,B,O,R⟩;have U:((arrOf b).map (·.2)).size=f.length:=by rw[Array.size_map,B.size_eq,pairsOf_size]
 dsimp only;refine wpAny_bind (seqEpoch_at q rfl (wpAny_bind (listUpdate_at q rfl ?_ (by show 0<=sizeLine;omega) (by show ((arrOf b).map (·.2)).size<=sizeLine+1;omega))));rw[O];simp only[bne_self_eq_false,Bool.false_eq_true,if_false];exact wpAny_pure (fin b B (R.toK (by rw[B.size_eq];exact le_refl _)))
end
theorem Lm(h:IntsAre g b)(p:b.Pairwise (· <= ·)):Up nE (pairsOf g) 0 (pairsOf g).size:=by
 intro i j x y _ q hj ex r;rw[pairsOf_size,h.length]at hj;have f:∀{k:Nat}{z:Int},(n:k<b.length)->kAt nE (pairsOf g) k=some z->z=b[k]:=λ{k z} n e=>by
  obtain⟨t,o⟩:=h.get k b[k] (getElem?_eq_getElem n);have m:(pairsOf g)[k]? = some (Value.int b[k] t,Value.int b[k] t):=by
   unfold pairsOf;rw[Array.getElem?_zip_eq_some];exact⟨by simpa using o,by simpa using o⟩
  unfold kAt at e;rw[m]at e;cases e;rfl
 have s:=f (by omega) ex;have m:=f hj r;rw[s,m];show decide (b[j]<b[i])=false;rw[decide_eq_false_iff_not];by_cases z:i=j
 ·subst z;omega
 ·have:=(List.pairwise_iff_getElem.mp p) i j (by omega) hj (by omega);omega
end TS
namespace L2
open PySem PySem.Spec PyProof.Rows
section
variable{X:Cx}
inductive BE(xs:Mp)(H:Hp)(Q:VK):Prop
 |mk:∀d kvs ns,xs=[.ref d]->H d=some (.dK kvs)->kvs.map (·.1)=ns.map Sum.inl->(ns.length<64\/ns.Pairwise (· <= ·))->ns.length<=100000->(∀p ms,List.Perm ms ns->ms.Pairwise (· <= ·)->H p=none->Q (.ref p) (upd H p (.lst (ms.map .int))))->BE xs H Q
theorem Gd(t:s.heap.get? a=some (seqObj "list" b.toArray n))(e:IntsAre b p)(q:p.length<64\/p.Pairwise (· <= ·))(G:b.length=p.length)(y:b.length<=sizeLine)
  (h:∀(f:Array Value)(g:Mf),IntsAre f.toList g->g.Perm p->g.Pairwise (· <= ·)->P (.done (.ret .none)) {s with heap:=sortedHeap s.heap a b f}):wpAny (model x w) A (Builtin.«list.sort» ⟨[.ref a],[]⟩) P E s:=by
 by_cases r:b.length<64
 ·exact list_sort_tree t e r h
 refine TS.Gc TS.Ln t (TS.Hi e) (TS.Lm e (q.resolve_left (by omega))) (Fj e (by omega)) (by omega) y λz B p2=>?_;obtain⟨g,m,o,D⟩:=sorted_out e B (TS.DA p2);exact h _ g m o D
theorem iI(hc:X.calm=true):gP X (.builtin "sorted") BE:=by
 intro ab s σ H xs us Q I r h;obtain⟨d,O,N,rfl,hd,hk,R,hl,q⟩:=h;have n:N.length<=sizeLine:=le_trans hl (by decide);cases r with
 |cons r1 r2=>
  cases r2;cases (show _=Value.ref d from r1);obtain⟨hz,S,D,E,o,es,ep,dd⟩:=r8 I.hok hd;have hh:X.A.in1.handled=none:=I.ok.hd hc;have f:D.length=N.length:=by
   have h1:=E.length;have G:=congrArg List.length hk;rw[length_map,length_map]at G;omega
  have U:D.map (·.1)=N.map Sum.inl:=by rw[<- AG E];exact hk
  refine wpAny_call (codeAny_call_builtin plain_sorted entry_sorted (wpAny_of_eq (oX _) ?_));show wpAny _ _ (checkCount "sorted" 1 1 1 >>= _) _ _ s;refine wpAny_bind (wpAny_of_eq (a:=()) (by rfl) ?_);refine wpAny_bind (kdu_collect (kdl_dict (knd:=bF X.prog X.w) (kvs:=D) (ep:=ep) S) hh ⟨o,es,dd⟩ (by rw[f];exact n) λp V m t J=>?_);have g:m.toList.length=D.length:=by
   have:=J.1;simpa using this
  have y:IntsAre m.toList N:=Fm (prog:=X.prog) (w:=X.w) U g λj v hv=>J.2 j v (by simpa using hv);refine wpAny_bind (wpAny_newList ?_ (by rw[g,f];exact n));generalize z:p.push {cls:=.type "list",data:=.seq m.toList.toArray}=G;have W:G.get? p.objs.size=some (seqObj "list" m.toList.toArray 0):=by
   rw[<- z];exact get?_push_size _ rfl
  refine wpAny_bind (wpAny_holding ?_);refine wpAny_call_entry (T:="list") PyProof.Rows.slot_list_sort ⟨_,W,rfl⟩ PyProof.Rows.entry_list_sort ?_ (PyProof.Rows.args_list_sort _);refine Gd W y R (by rw[g,f]) (by rw[g,f];exact n) λB ms L x pw=>?_;refine⟨_,rfl,wpAny_pure ?_⟩;obtain⟨Y,Z⟩:=sortedHeap_at (h:=G) (a:=p.objs.size) (vs:=m.toList) (out:=B) W;have hf:H p.objs.size=none:=(I.kept (t':=V) t).hok.fresh (le_refl _);refine⟨.ref p.objs.size,upd H p.objs.size (.lst (ms.map .int)),(I.kept (t':=V) t).laid (t':=V) (λb u e=>?_) (le_refl _) ?_,rfl,q _ ms x pw hf⟩
  ·have hb:b<p.objs.size:=lt_size e;have aa:G.objs.size=p.objs.size+1:=by rw[<- z];exact size_push _ _
   rw[sortedHeap_old (ne_of_lt hb) (by rw[aa];exact lt_succ_of_lt hb),<- z];exact get?_push_of_some _ e
  ·refine⟨?_,B.toList,Y,mT L,?_⟩
   ·rw[length_map,x.length_eq];exact n
   ·simpa [seqObj] using Z
end
theorem Fun.okY{P:Program}{w:World}{K:Ma}{mg:Mc}{base:Heap}{x e:Str}{st:Stmt}{f:Addr}{q:Ml}{o:Mg}{k:Nat}{p:Sp}(F:Fun K x e st f q)(N:Mg)
  (m:∀(g:Value)(A:Around)(b:List Env)(s:Shared)(H:Hp)(n:Mp)(Q:VK)(E:XK),Room k (A.deeper (envOfC e (cZ st) s.heap.objs.size f g))->N.Nodup->p n H Q E->
   ∃t,PSs ((AT (CXE P w) P w K mg base N e (cZ st) f g A b s H E).bod E) (fO st) t/\t (Ends.fn Q) (oN N n) H) (len:∀n H Q E,p n H Q E->n.length=o.length:=by intro _ _ _ _ h;cases h;subst_vars;rfl) (S:FnScope N o (cZ st):=by exact⟨rfl,rfl,rfl,by decide +kernel,rfl,by decide +kernel,by decide +kernel⟩):FnOk P w K mg base (CXE P w) (k+1) f q o p:=F.okX S len λg A b s H n Q E hr h=>m g A b s H n Q E hr S.nd h
end L2
namespace TT
open PySem PySem.W PyProof.Rows
section
variable(key:Nat->Int)(n:Nat)
end
section
variable{key:Nat->Int}{n:Nat}{p:Array Nat}{s:Shared}
variable(hk:∀i j,i<n->j<n->i≠j->key i≠key j)
include hk
end
open Calls in
section
variable{prog:Program}{w:World}{A:Around}{E:Mm}{s:Shared}
end
end TT
namespace L2
open PySem PySem.Spec PySem.W PyProof.Rows
section
variable{X:Cx}
end
end L2
namespace TL
open PySem PyProof.Rows TS
def G{e : Type}(m:SM e)(Q:e->SortSt->Prop)(st:SortSt):Prop:=∃r b,Q r b/\∀(P:Program)(w:World)(A:Around)(E:Mm)(s:Shared)(R:e->SortSt->Prop),R r b->wpS (model P w) A E s m R st
section
variable{α β : Type}{st:SortSt}{κ : KeyKind}{z:Array Keyed}
theorem aV{a:α}{Q:α->SortSt->Prop}(h:Q a st):G (pure a) Q st:=⟨_,_,h,λ_ _ _ _ _ _ z=>wpS_pure z⟩
theorem aQ{m:SM α}{f:α->SM β}{Q:β->SortSt->Prop}(h:G m (λa b=>G (f a) Q b) st):G (m >>= f) Q st:=by
 obtain⟨a,n,⟨r,s2,q,e⟩,g⟩:=h;exact⟨r,s2,q,λP w A E s R z=>wpS_bind (g P w A E s _ (e P w A E s R z))⟩
theorem Ip{m:SM α}{Q R:α->SortSt->Prop}(h:G m Q st)(b:∀a s,Q a s->R a s):G m R st:=by
 obtain⟨a,e,q,g⟩:=h;exact⟨a,e,b _ _ q,g⟩
theorem qF{Q:SortSt->SortSt->Prop}(h:Q st st):G get Q st:=⟨_,_,h,λ_ _ _ _ _ _ z=>wpS_get z⟩
theorem wC{f:SortSt->SortSt}{Q:PUnit->SortSt->Prop}(h:Q ⟨⟩ (f st)):G (modify f) Q st:=⟨_,_,h,λ_ _ _ _ _ _ z=>wpS_modify z⟩
theorem G_set{x:SortSt}{Q:PUnit->SortSt->Prop}(h:Q ⟨⟩ x):G (set x) Q st:=⟨_,_,h,λ_ _ _ _ _ _ z=>by unfold wpS;rw[StateT.run_set];exact wpAny_pure ⟨rfl,z⟩⟩
theorem rE{x:String}{Q:PUnit->SortSt->Prop}(h:Q ⟨⟩ st):G (liftM (rule x)) Q st:=⟨_,_,h,λ_ _ _ _ _ _ z=>wpS_lift (wpAny_rule ⟨rfl,z⟩)⟩
theorem Ir{f:Nat->β->SM (ForInStep β)}{I:Nat->β->SortSt->Prop}{R:β->SortSt->Prop}:∀(n a:Nat)(c:β)(st:SortSt),(∀i c st,a<=i->i<a+n->I i c st->G (f i c) (λr e=>match r with | .done b=>R b e | .yield b=>I (i+1) b e) st)->(∀c st,I (a+n) c st->R c st)->I a c st->G (forIn (List.range' a n 1) c f) R st
 |0,a,c,st,_,g,h=>aV (g _ _ h)
 |n+1,a,c,st,o,g,h=>by
  rw[List.range'_succ,List.forIn_cons];refine aQ (Ip (o a c st (le_refl _) (by omega) h) λr p m=>?_);cases r with
  |done b=>exact aV m
  |yield b=>exact Ir n (a+1) b p (λi c st m q=>o i c st (by omega) (by omega)) (λc st z=>g c st (by rw[<- show a+1+n=a+(n+1) by omega];exact z)) m
theorem iB{a b:Nat}{c:β}{f:Nat->β->SM (ForInStep β)}{k:β->SM α}{P:α->SortSt->Prop}(I:Nat->β->SortSt->Prop)(R:β->SortSt->Prop)(h:I a c st)(m:∀c st,I (max a b) c st->R c st)(n:∀c st,R c st->G (k c) P st)(o:∀i c st,a<=i->i<b->I i c st->G (f i c) (λr e=>match r with | .done g=>R g e | .yield g=>I (i+1) g e) st):G (forIn [a:b] c f >>= k) P st:=by
 refine aQ (Ip (Q:=R) ?_ n);rw[Std.Legacy.Range.forIn_eq_forIn_range'];show G (forIn (List.range' a ([a:b]:Std.Legacy.Range).size 1) c f) R st;have p:([a:b]:Std.Legacy.Range).size=b-a:=by simp [Std.Legacy.Range.size]
 rw[p];exact Ir (I:=I) _ a c st (λi c st q s=>o i c st q (by omega)) (λc st z=>m c st (by rw[show max a b=a+(b-a) by omega];exact z)) h
theorem Ks{F T:Nat->SM α}{Q:α->SortSt->Prop}(h:∀g,G (F g) Q st)(b:∀g,T g=F (g-1))(g:Nat):G (if g > 1 then T g else F g) Q st:=by
 split
 ·rw[b];exact h _
 ·exact h _
theorem jT{m n:Nat}{f g:SM α}{Q:α->SortSt->Prop}(h:m=n->G f Q st)(b:¬m=n->G g Q st):G (if (m == n)=true then f else g) Q st:=by
 by_cases e:m=n
 ·rw[if_pos (by simpa using e)];exact h e
 ·rw[if_neg (by simpa using e)];exact b e
theorem fI{c:Prop} [Decidable c]{f g:SM α}{Q:α->SortSt->Prop}(h:c->G f Q st)(b:¬c->G g Q st):G (if c then f else g) Q st:=by
 split
 ·exact h ‹_›
 ·exact b ‹_›
def Kp(κ : KeyKind)(z:Array Keyed):Prop:=κ.OneLt/\∀p∈z,Ky κ p
def Al(z b:Array Keyed):Prop:=∀p∈b,p∈z
theorem Iq(hS:Kp κ z){x y:Keyed}{Q:Option Bool->SortSt->Prop}(e:kindOf st=oneType')(f:x∈z)(g:y∈z)(h:∀b,Q (some b) st):G (lt' x y) Q st:=⟨_,_,h _,λ_ _ _ _ _ _ z=>KL hS.1 e (hS.2 _ f) (hS.2 _ g) z⟩
theorem dN{xs:Array Keyed}{i:Nat}{Q:Keyed->SortSt->Prop}(e:Al z xs)(b:i<xs.size)(h:∀p,p∈z->xs[i]? = some p->Q p st):G (elem' xs i) Q st:=⟨_,_,h xs[i] (e _ (Array.getElem_mem b)) (getElem?_pos xs i b),λ_ _ _ _ _ _ z=>zA (getElem?_pos xs i b) z⟩
theorem kO(hS:Kp κ z){left:Bool}{e:Keyed}{arr:Array Keyed}{base n f:Nat}{Q:Option Nat->SortSt->Prop}(q:kindOf st=oneType')(t:e∈z)(y:Al z arr)(D:base+n<=arr.size)(B:f<n)(h:∀k,k<=n->Q (some k) st):G (J6 left e arr base n f) Q st:=by
 have ask:∀{i:Nat}{Q:Option Bool->SortSt->Prop},i<n->(∀b,Q (some b) st)->G (bey left e arr base i) Q st:=λo z=>aQ (dN y (by omega) λp x _=>by
  cases left
  ·exact aQ (Iq hS q t x λb=>aV (z _))
  ·exact Iq hS q x t z)
 have fin:∀u v:Nat,v<=n->G (do
   let mut u:=u; let mut v:=v
   for _ in [0:n] do
    if u ≥ v then break
    let m:=u+(v-u) / 2
    let some r <- bey left e arr base m | return none
    if r then u:=m+1 else v:=m
   return some v) Q st:=λu v g=>by
  refine iB (λ_ c s=>s=st/\∃u v,c=(none,u,v)/\v<=n) (λc s=>s=st/\∃u v,c=(none,u,v)/\v<=n) ⟨rfl,_,_,rfl,g⟩ (λ_ _ z=>z) ?_ ?_
  ·rintro _ _ ⟨rfl,u,v,rfl,g⟩;exact aV (h v g)
  ·rintro i _ _ _ o ⟨rfl,u,v,rfl,g⟩;dsimp only;split
   ·exact aV ⟨rfl,_,_,rfl,g⟩
   ·refine aQ (ask (by omega) λb=>?_);cases b
    ·exact aV ⟨rfl,_,_,rfl,by omega⟩
    ·exact aV ⟨rfl,_,_,rfl,g⟩
 refine aQ (ask B λb=>?_);cases b
 ·refine iB (λ_ c s=>s=st/\∃l r,c=(none,l,r)) (λc s=>s=st/\∃l r,c=(none,l,r)) ⟨rfl,_,_,rfl⟩ (λ_ _ z=>z) ?_ ?_
  ·rintro _ _ ⟨rfl,l,r,rfl⟩;exact fin _ _ (by omega)
  ·rintro i _ _ _ o ⟨rfl,l,r,rfl⟩;dsimp only;split
   ·exact aV ⟨rfl,_,_,rfl⟩
   ·refine aQ (ask (by omega) λb=>?_);cases b <;> exact aV ⟨rfl,_,_,rfl⟩
 ·refine iB (λ_ c s=>s=st/\∃l r,c=(none,l,r)) (λc s=>s=st/\∃l r,c=(none,l,r)) ⟨rfl,_,_,rfl⟩ (λ_ _ z=>z) ?_ ?_
  ·rintro _ _ ⟨rfl,l,r,rfl⟩;exact fin _ _ (by omega)
  ·rintro i _ _ _ o ⟨rfl,l,r,rfl⟩;dsimp only;split
   ·exact aV ⟨rfl,_,_,rfl⟩
   ·refine aQ (ask (by omega) λb=>?_);cases b <;> exact aV ⟨rfl,_,_,rfl⟩
theorem Al.ext{a:Array Keyed}{i j:Nat}(h:Al z a):Al z (a.extract i j):=λp b=>h p (by
 obtain⟨k,f,e⟩:=Array.mem_iff_getElem.mp b;rw[Array.getElem_extract]at e;rw[<- e];exact Array.getElem_mem _)
structure Ok(z:Array Keyed)(pd:Array (Nat×Nat×Nat))(st:SortSt):Prop where
 kind:kindOf st=oneType'
 failed:failedOf st=none
 perm:(arrOf st).Perm z
 pend:pendingOf st=pd
theorem Ok.al{b:Array (Nat×Nat×Nat)}(k:Ok z b st):Al z (arrOf st):=λp e=>k.perm.mem_iff.mp e
theorem Ok.sz{b:Array (Nat×Nat×Nat)}(k:Ok z b st):(arrOf st).size=z.size:=k.perm.size_eq
variable{pd:Array (Nat×Nat×Nat)}
def W(a b o:Array Keyed)(i j:Nat):Prop:=(o.toList++(a.toList.drop i++b.toList.drop j)).Perm (a.toList++b.toList)
def V(a b o:Array Keyed)(i j:Nat):Prop:=(a.toList.take i++(b.toList.take j++o.toList.reverse)).Perm (a.toList++b.toList)
section
variable{a b o:Array Keyed}{i j k:Nat}{p:Keyed}
theorem W.pa(m:W a b o i j)(e:a[i]? = some p):W a b (o.push p) (i+1) j:=by
 unfold W at *;rw[yH e]at m;simpa using m
theorem W.pb(m:W a b o i j)(e:b[j]? = some p):W a b (o.push p) i (j+1):=by
 unfold W at *;rw[yH e]at m;rw[toList_push,append_assoc];exact(List.Perm.append_left _ (List.perm_middle (a:=p) (l₁:=a.toList.drop i)).symm).trans m
theorem B0(a:Array Keyed)(i k:Nat):a.toList.drop i=(a.extract i (i+k)).toList++a.toList.drop (i+k):=by
 rw[toList_extract,extract_eq_take_drop,Nat.add_sub_cancel_left,<- List.drop_drop,take_append_drop]
theorem W.xa(m:W a b o i j):W a b (o++a.extract i (i+k)) (i+k) j:=by
 unfold W at *;rw[B0 a i k]at m;rw[toList_append,append_assoc];rw[append_assoc]at m;exact m
theorem W.xb(m:W a b o i j):W a b (o++b.extract j (j+k)) i (j+k):=by
 unfold W at *;rw[B0 b j k]at m;rw[toList_append,append_assoc];exact(List.Perm.append_left _ (List.perm_append_comm_assoc _ _ _)).trans m
theorem s0(a:Array Keyed)(i:Nat):(a.extract i).toList=a.toList.drop i:=by
 rw[toList_extract,extract_eq_take_drop,List.take_of_length_le (by rw[List.length_drop];exact le_refl _)]
theorem W.fa(m:W a b o i j):(o++a.extract i++b.extract j).toList.Perm (a.toList++b.toList):=by
 rw[toList_append,toList_append,s0,s0,append_assoc];exact m
theorem W.fb(m:W a b o i j):(o++b.extract j++a.extract i).toList.Perm (a.toList++b.toList):=by
 rw[toList_append,toList_append,s0,s0,append_assoc];exact(List.Perm.append_left _ List.perm_append_comm).trans m
theorem wS{a:Array Keyed}(f:0<i)(e:a[i-1]? = some p):a.toList.take i=a.toList.take (i-1)++[p]:=by
 have:=Ew e;rw[Nat.sub_add_cancel f]at this;exact this
theorem V.pa(m:V a b o i j)(f:0<i)(e:a[i-1]? = some p):V a b (o.push p) (i-1) j:=by
 unfold V at *;rw[wS f e,append_assoc]at m;rw[toList_push,List.reverse_append];exact(List.Perm.append_left _ List.perm_middle).trans m
theorem V.pb(m:V a b o i j)(hj:0<j)(e:b[j-1]? = some p):V a b (o.push p) i (j-1):=by
 unfold V at *;rw[wS hj e,append_assoc]at m;rw[toList_push,List.reverse_append];exact m
theorem Aj(a:Array Keyed)(h:k<=i):a.toList.take i=a.toList.take k++(a.extract k i).toList:=by
 rw[toList_extract,extract_eq_take_drop,<- List.take_add,Nat.add_sub_cancel' h]
theorem V.xa(m:V a b o i j)(h:k<=i):V a b (o++(a.extract k i).reverse) k j:=by
 unfold V at *;rw[Aj a h,append_assoc]at m;rw[toList_append,List.reverse_append,Array.toList_reverse,List.reverse_reverse];exact(List.Perm.append_left _ (List.perm_append_comm_assoc _ _ _)).trans m
theorem V.xb(m:V a b o i j)(h:k<=j):V a b (o++(b.extract k j).reverse) i k:=by
 unfold V at *;rw[Aj b h,append_assoc]at m;rw[toList_append,List.reverse_append,Array.toList_reverse,List.reverse_reverse];exact m
theorem tD(a:Array Keyed)(i:Nat):(a.extract 0 i).toList=a.toList.take i:=by
 rw[toList_extract,extract_eq_take_drop];rfl
theorem V.fa(m:V a b o i j):(a.extract 0 i++b.extract 0 j++o.reverse).toList.Perm (a.toList++b.toList):=by
 rw[toList_append,toList_append,tD,tD,Array.toList_reverse,append_assoc];exact m
theorem V.fb(m:V a b o i j):(b.extract 0 j++a.extract 0 i++o.reverse).toList.Perm (a.toList++b.toList):=by
 rw[toList_append,toList_append,tD,tD,Array.toList_reverse,append_assoc];exact(List.perm_append_comm_assoc _ _ _).trans m
end
theorem Ac{g:Nat}{s:SortSt}{Q:Unit->SortSt->Prop}(k:fA s st)(h:∀b,fA s b->Q () b):G (setG g) Q st:=wC (h _ k)
theorem Fb(hS:Kp κ z){a b:Array Keyed}(H:Al z a)(E:Al z b)(a0:0<a.size)(V:0<b.size)(R:kindOf st=oneType'){Q:Array Keyed->SortSt->Prop}(h:∀r I,fA st I->r.toList.Perm (a.toList++b.toList)->Q r I):G (Ho a b) Q st:=by
 refine aQ (rE (aQ (dN E V λp hp X=>?_)));have S:W a b #[p] 0 1:=W.pb (o:=#[]) (List.Perm.refl _) X;refine jT (λ_=>aV (h _ _ (fA.refl _) (S.fa))) λh1=>jT (λ_=>aV (h _ _ (fA.refl _) (S.fb))) λh2=>aQ (qF ?_);refine iB (λx c s=>fA st s/\∃o i j g,c=(none,o,i,j,g)/\W a b o i j/\i+1<a.size/\j<b.size/\x<=i+j) (λc s=>fA st s/\∃r o,c=(some r,o)/\r.toList.Perm (a.toList++b.toList)) ⟨fA.refl _,_,_,_,_,rfl,S,by omega,by omega,by omega⟩ ?_ ?_ ?_
 ·rintro _ _ ⟨_,o,i,j,g,_,_,f,e,n⟩;omega
 ·rintro _ _ ⟨k,r,o,rfl,g⟩;exact aV (h _ _ k g)
 rintro x _ _ _ hx ⟨k,o,i,j,g,rfl,m,f,e,n⟩;refine iB (λy c s=>fA st s/\∃o i j p q,c=(none,o,i,j,p,q)/\W a b o i j/\i+1<a.size/\j<b.size/\x+y<=i+j) (λc s=>fA st s/\((∃r o,c=(some r,o)/\r.toList.Perm (a.toList++b.toList))\/∃o i j p q,c=(none,o,i,j,p,q)/\W a b o i j/\i+1<a.size/\j<b.size/\x+1<=i+j)) ⟨k,_,_,_,_,_,rfl,m,f,e,by omega⟩ ?_ ?_ ?_
 ·rintro _ _ ⟨k,o,i,j,p,q,rfl,m,f,e,n⟩;exact⟨k,.inr ⟨_,_,_,_,_,rfl,m,f,e,by omega⟩⟩
 ·rintro _ _ ⟨k,⟨r,o,rfl,g⟩ | ⟨o,i,j,p,q,rfl,m,f,e,n⟩⟩
  ·exact aV ⟨k,_,_,rfl,g⟩
  refine aQ (rE ?_);refine iB (λy c s=>fA st s/\∃o i j g p q,c=(none,o,i,j,g,p,q)/\W a b o i j/\i+1<a.size/\j<b.size/\x+1<=i+j) (λc s=>fA st s/\((∃r o,c=(some r,o)/\r.toList.Perm (a.toList++b.toList))\/∃o i j g p q,c=(none,o,i,j,g,p,q)/\W a b o i j/\i+1<a.size/\j<b.size/\x+1<=i+j)) ⟨k,_,_,_,_,_,_,rfl,m,f,e,n⟩ (λ_ _ ⟨k,z⟩=>⟨k,.inr z⟩) ?_ ?_
  ·rintro _ _ ⟨k,⟨r,o,rfl,g⟩ | ⟨o,i,j,g,p,q,rfl,m,f,e,n⟩⟩
   ·exact aV ⟨k,_,_,rfl,g⟩
   exact aQ (Ac k λ_ k=>aV ⟨k,_,_,_,_,rfl,m,f,e,n⟩)
  rintro y _ _ _ Y ⟨k,o,i,j,g,p,q,rfl,m,f,e,n⟩;dsimp only;revert g;refine Ks (λg=>?_) (λ_=>rfl);refine aQ (Ac k λ_ k=>aQ (dN E e λN u J=>aQ (kO hS (k.1.trans R) u H (by omega) (by omega) λt ht=>?_)));dsimp only;refine fI (λ_=>jT (λ_=>aV ⟨k,.inl ⟨_,_,rfl,(m.xa (k:=t)).fb⟩⟩) λO=>jT (λ_=>aV ⟨k,.inl ⟨_,_,rfl,(m.xa (k:=t)).fa⟩⟩) λh7=>?_) λ_=>?_
  all_goals try
   have f:0<t/\i+t+1<a.size:=by omega
   replace f:=f.2;have m:=m.xa (k:=t);have n:x+1<=i+t+j:=by omega
   generalize o++a.extract i (i+t)=o at m⊢;generalize i+t=i at m f n⊢
  all_goals
   refine aQ (dN E e λN u J=>?_);have m:=m.pb J;refine jT (λ_=>aV ⟨k,.inl ⟨_,_,rfl,m.fa⟩⟩) λh8=>?_;have e:j+1<b.size:=by omega
   have n:x+1<=i+(j+1):=by omega
   generalize o.push N=o at m⊢;generalize j+1=j at m e n⊢;refine aQ (dN H (by omega) λU B L=>aQ (kO hS (k.1.trans R) B E (by omega) (by omega) λD Z=>?_));dsimp only;refine fI (λ_=>jT (λ_=>aV ⟨k,.inl ⟨_,_,rfl,(m.xb (k:=D)).fa⟩⟩) λO=>?_) λ_=>?_
   all_goals try
    have e:0<D/\j+D<b.size:=by omega
    replace e:=e.2;have m:=m.xb (k:=D);have n:x+1<=i+(j+D):=by omega
    generalize o++b.extract j (j+D)=o at m⊢;generalize j+D=j at m e n⊢
   all_goals
    refine aQ (dN H (Nat.lt_of_succ_lt f) λU B L=>?_);have m:=m.pa L;exact jT (λ_=>aV ⟨k,.inl ⟨_,_,rfl,m.fb⟩⟩) λO=>fI (λ_=>aV ⟨k,.inr ⟨_,_,_,_,_,_,rfl,m,Nat.lt_of_le_of_ne f O,e,Nat.le_trans n (Nat.add_le_add_right (Nat.le_succ _) _)⟩⟩) λ_=>aV ⟨k,_,_,_,_,_,_,rfl,m,Nat.lt_of_le_of_ne f O,e,Nat.le_trans n (Nat.add_le_add_right (Nat.le_succ _) _)⟩
 ·rintro y _ _ _ Y ⟨k,o,i,j,p,q,rfl,m,f,e,n⟩;dsimp only;refine aQ (dN E e λN u J=>aQ (dN H (by omega) λU B L=>aQ (Iq hS (k.1.trans R) u B λr=>?_)));cases r
  ·refine aQ (dN H (by omega) λU B L=>?_);have m:=m.pa L;exact jT (λ_=>aV ⟨k,.inl ⟨_,_,rfl,m.fb⟩⟩) λO=>fI (λ_=>aV ⟨k,.inr ⟨_,_,_,_,_,rfl,m,by omega,e,by omega⟩⟩) λ_=>aV ⟨k,_,_,_,_,_,rfl,m,by omega,e,by omega⟩
  ·refine aQ (dN E e λN u J=>?_);have m:=m.pb J;exact jT (λ_=>aV ⟨k,.inl ⟨_,_,rfl,m.fa⟩⟩) λO=>fI (λ_=>aV ⟨k,.inr ⟨_,_,_,_,_,rfl,m,f,by omega,by omega⟩⟩) λ_=>aV ⟨k,_,_,_,_,_,rfl,m,f,by omega,by omega⟩
theorem Fc(hS:Kp κ z){a b:Array Keyed}(E:Al z a)(I:Al z b)(X:0<a.size)(b0:0<b.size)(S:kindOf st=oneType'){Q:Array Keyed->SortSt->Prop}(h:∀r J,fA st J->r.toList.Perm (a.toList++b.toList)->Q r J):G (Hq a b) Q st:=by
 refine aQ (rE (aQ (dN E (Nat.sub_lt X Nat.one_pos) λp hp Z=>?_)));have U:V a b #[p] (a.size-1) b.size:=V.pa (o:=#[]) (by unfold V;rw[<- length_toList,<- length_toList,take_length,take_length];simp) X Z;refine jT (λ_=>aV (h _ _ (fA.refl _) (U.fa))) λh1=>jT (λ_=>aV (h _ _ (fA.refl _) (U.fb))) λh2=>aQ (qF ?_);refine iB (λx c s=>fA st s/\∃i j o g,c=(none,i,j,o,g)/\V a b o i j/\(0<i/\i<=a.size)/\(1<j/\j<=b.size)/\x+i+j<=a.size+b.size) (λc s=>fA st s/\∃r o,c=(some r,o)/\r.toList.Perm (a.toList++b.toList)) ⟨fA.refl _,_,_,_,_,rfl,U,by omega,by omega,by omega⟩ ?_ ?_ ?_
 ·rintro _ _ ⟨_,i,j,o,g,_,_,f,e,n⟩;omega
 ·rintro _ _ ⟨k,r,o,rfl,g⟩;exact aV (h _ _ k g)
 rintro x _ _ _ hx ⟨k,i,j,o,g,rfl,m,f,e,n⟩;refine iB (λy c s=>fA st s/\∃i j o p q,c=(none,i,j,o,p,q)/\V a b o i j/\(0<i/\i<=a.size)/\(1<j/\j<=b.size)/\x+y+i+j<=a.size+b.size) (λc s=>fA st s/\((∃r o,c=(some r,o)/\r.toList.Perm (a.toList++b.toList))\/∃i j o p q,c=(none,i,j,o,p,q)/\V a b o i j/\(0<i/\i<=a.size)/\(1<j/\j<=b.size)/\x+1+i+j<=a.size+b.size)) ⟨k,_,_,_,_,_,rfl,m,f,e,by omega⟩ ?_ ?_ ?_
 ·rintro _ _ ⟨k,i,j,o,p,q,rfl,m,f,e,n⟩;exact⟨k,.inr ⟨_,_,_,_,_,rfl,m,f,e,by omega⟩⟩
 ·rintro _ _ ⟨k,⟨r,o,rfl,g⟩ | ⟨i,j,o,p,q,rfl,m,f,e,n⟩⟩
  ·exact aV ⟨k,_,_,rfl,g⟩
  refine aQ (rE ?_);refine iB (λy c s=>fA st s/\∃i j o g p q,c=(none,i,j,o,g,p,q)/\V a b o i j/\(0<i/\i<=a.size)/\(1<j/\j<=b.size)/\x+1+i+j<=a.size+b.size) (λc s=>fA st s/\((∃r o,c=(some r,o)/\r.toList.Perm (a.toList++b.toList))\/∃i j o g p q,c=(none,i,j,o,g,p,q)/\V a b o i j/\(0<i/\i<=a.size)/\(1<j/\j<=b.size)/\x+1+i+j<=a.size+b.size)) ⟨k,_,_,_,_,_,_,rfl,m,f,e,n⟩ (λ_ _ ⟨k,z⟩=>⟨k,.inr z⟩) ?_ ?_
  ·rintro _ _ ⟨k,⟨r,o,rfl,g⟩ | ⟨i,j,o,g,p,q,rfl,m,f,e,n⟩⟩
   ·exact aV ⟨k,_,_,rfl,g⟩
   exact aQ (Ac k λ_ k=>aV ⟨k,_,_,_,_,rfl,m,f,e,n⟩)
  rintro y _ _ _ hy ⟨k,i,j,o,g,p,q,rfl,m,f,e,n⟩;dsimp only;revert g;refine Ks (λg=>?_) (λ_=>rfl);refine aQ (Ac k λ_ k=>aQ (dN I (by omega) λO u L=>aQ (kO hS (k.1.trans S) u E (by omega) (by omega) λt Y=>?_)));dsimp only;refine fI (λ_=>jT (λ_=>aV ⟨k,.inl ⟨_,_,rfl,(m.xa Y).fa⟩⟩) λR=>?_) λ_=>?_
  all_goals try
   have f:0<i-t/\0<t/\t<=a.size:=by omega
   have m:=m.xa Y;have n:x+1+t+j<=a.size+b.size:=by omega
   replace f:=f.2;generalize o++(a.extract t i).reverse=o at m⊢;generalize t=i at m f n⊢
  all_goals
   refine aQ (dN I (by omega) λO u L=>?_);have m:=m.pb (by omega) L;refine jT (λ_=>aV ⟨k,.inl ⟨_,_,rfl,m.fb⟩⟩) λh8=>?_;have e:1<j-1/\j-1<=b.size:=by omega
   have n:x+1+i+(j-1)<=a.size+b.size:=by omega
   generalize o.push O=o at m⊢;generalize j-1=j at m e n⊢;refine aQ (dN E (by omega) λW B N=>aQ (kO hS (k.1.trans S) B I (by omega) (by omega) λH D=>?_));dsimp only;refine fI (λ_=>jT (λ_=>aV ⟨k,.inl ⟨_,_,rfl,(m.xb D).fb⟩⟩) λR=>jT (λ_=>aV ⟨k,.inl ⟨_,_,rfl,(m.xb D).fa⟩⟩) λh7=>?_) λ_=>?_
   all_goals try
    have e:0<j-H/\1<H/\H<=b.size:=by omega
    have m:=m.xb D;have n:x+1+i+H<=a.size+b.size:=by omega
    replace e:=e.2;generalize o++(b.extract H j).reverse=o at m⊢;generalize H=j at m e n⊢
   all_goals
    refine aQ (dN E (by omega) λW B N=>?_);have m:=m.pa (by omega) N;exact jT (λ_=>aV ⟨k,.inl ⟨_,_,rfl,m.fa⟩⟩) λR=>fI (λ_=>aV ⟨k,.inr ⟨_,_,_,_,_,_,rfl,m,by omega,e,by omega⟩⟩) λ_=>aV ⟨k,_,_,_,_,_,_,rfl,m,by omega,e,by omega⟩
 ·rintro y _ _ _ hy ⟨k,i,j,o,p,q,rfl,m,f,e,n⟩;dsimp only;refine aQ (dN I (by omega) λO u L=>aQ (dN E (by omega) λW B N=>aQ (Iq hS (k.1.trans S) u B λr=>?_)));cases r
  ·refine aQ (dN I (by omega) λO u L=>?_);have m:=m.pb (by omega) L;exact jT (λ_=>aV ⟨k,.inl ⟨_,_,rfl,m.fb⟩⟩) λR=>fI (λ_=>aV ⟨k,.inr ⟨_,_,_,_,_,rfl,m,f,by omega,by omega⟩⟩) λ_=>aV ⟨k,_,_,_,_,_,rfl,m,f,by omega,by omega⟩
  ·refine aQ (dN E (by omega) λW B N=>?_);have m:=m.pa (by omega) N;exact jT (λ_=>aV ⟨k,.inl ⟨_,_,rfl,m.fa⟩⟩) λR=>fI (λ_=>aV ⟨k,.inr ⟨_,_,_,_,_,rfl,m,by omega,e,by omega⟩⟩) λ_=>aV ⟨k,_,_,_,_,_,rfl,m,by omega,e,by omega⟩
theorem Ok.to{b:Array Keyed}(k:Ok z pd st)(e:b.Perm (arrOf st)):Ok z pd (setArr st b):=⟨k.kind,k.failed,e.trans k.perm,k.pend⟩
theorem Eo{i j:Nat}{Q:Unit->SortSt->Prop}(k:Ok z pd st)(h:∀s,Ok z pd s->Q () s):G (reverseSlice' i j) Q st:=by
 rw[reverseSlice'_eq];exact wC (h _ (k.to (mirror_perm _ _ _ _)))
theorem MT{i j:Nat}{Q:Unit->SortSt->Prop}(k:Ok z pd st)(h:∀s,Ok z pd s->Q () s):G (moveDown' i j) Q st:=by
 rw[moveDown'_eq];exact wC (h _ (k.to (bubble_perm _ _ _)))
theorem wD(hS:Kp κ z){i j:Nat}{Q:Option Bool->SortSt->Prop}(k:Ok z pd st)(e:i<z.size)(hj:j<z.size)(h:∀b,Q (some b) st):G (ltAt' i j) Q st:=by
 rw[ltAt'_eq];exact aQ (qF (aQ (dN k.al (by rw[k.sz];exact e) λx f _=>aQ (dN k.al (by rw[k.sz];exact hj) λy g _=>Iq hS k.kind f g h))))
theorem Kr(hS:Kp κ z){lo a n:Nat}(p:1<=a)(o:a<=n)(q:lo+n<=z.size){Q:Option Nat->SortSt->Prop}(k:Ok z pd st){f:Option (Option Nat)×Nat->SM (Option Nat)}(h:∀m,1<=m->m<=n->G (f (none,m)) Q st):G (forIn [a:n] (none,a) (λ_ c=>do
   let some y <- ltAt' (lo+c.2) (lo+c.2-1) | return .done (some none,c.2)
   if y then return .done (none,c.2) else return .yield (none,c.2+1)) >>= f) Q st:=by
 refine iB (λx c s=>s=st/\c=(none,x)) (λc s=>s=st/\∃m,c=(none,m)/\1<=m/\m<=n) ⟨rfl,rfl⟩ ?_ ?_ ?_
 ·rintro _ _ ⟨rfl,rfl⟩;exact⟨rfl,_,rfl,by omega,by omega⟩
 ·rintro _ _ ⟨rfl,m,rfl,e,g⟩;exact h m e g
 ·rintro x _ _ e g ⟨rfl,rfl⟩;refine aQ (wD hS k (by omega) (by omega) λb=>?_);cases b
  ·exact aV ⟨rfl,rfl⟩
  ·exact aV ⟨rfl,x,rfl,by omega,by omega⟩
theorem DS(hS:Kp κ z){lo n:Nat}(hr:1<=n)(o:lo+n<=z.size)(k:Ok z pd st){Q:Option Nat->SortSt->Prop}(h:∀m s,Ok z pd s->1<=m->m<=n->Q (some m) s):G (countRun' lo n) Q st:=by
 rw[countRun'_eq];refine Kr hS (le_refl 1) hr o k λm p q=>jT (λ_=>aV (h m _ k p q)) λf=>?_;refine fI (λ_=>aQ (wD hS k (by omega) (by dsimp only;omega) λb=>fI (λ_=>aV (h m _ k p q)) λ_=>aQ (Eo k λs k=>?_))) λ_=>?_
 all_goals
  refine aQ (rE ?_);dsimp only at *;refine iB (λx c s=>Ok z pd s/\∃e,c=(none,x,e)) (λc s=>Ok z pd s/\∃x e,c=(none,x,e)/\1<=x/\x<=n) ⟨k,_,rfl⟩ ?_ ?_ ?_
  ·rintro _ _ ⟨k,e,rfl⟩;exact⟨k,_,_,rfl,by omega,by omega⟩
  ·rintro _ _ ⟨k,x,e,rfl,f,g⟩;refine fI (λ_=>aQ (Eo k λs k=>?_)) λ_=>?_
   all_goals exact aQ (Eo k λs k=>Kr hS f g o k λm f g=>aV (h m s k f g))
  ·rintro x _ _ f g ⟨k,e,rfl⟩;dsimp only;refine aQ (wD hS k (by omega) (by omega) λb=>?_);cases b
   ·refine aQ (wD hS k (by omega) (by omega) λb=>?_);cases b
    ·exact aV ⟨k,_,rfl⟩
    ·exact aV ⟨k,_,_,rfl,by omega,by omega⟩
   ·exact fI (λ_=>fI (λ_=>aQ (Eo k λs k=>aV ⟨k,_,rfl⟩)) λ_=>aV ⟨k,_,rfl⟩) λz=>absurd rfl z
theorem Ib(hS:Kp κ z){lo n ok:Nat}(m:lo+n<=z.size)(k:Ok z pd st){Q:Bool->SortSt->Prop}(h:∀s,Ok z pd s->Q true s):G (binarySort' lo n ok) Q st:=by
 rw[binarySort'_eq];refine iB (λ_ c s=>c=(none,())/\Ok z pd s) (λc s=>c=(none,())/\Ok z pd s) ⟨rfl,k⟩ (λ_ _ z=>z) ?_ ?_
 ·rintro _ _ ⟨rfl,k⟩;exact aV (h _ k)
 rintro x _ _ o p ⟨rfl,k⟩;refine iB (λ_ c s=>Ok z pd s/\∃l r,c=(none,l,r)/\r<=x) (λc s=>Ok z pd s/\∃l r,c=(none,l,r)) ⟨k,_,_,rfl,le_refl _⟩ (λ_ _ ⟨k,l,r,e,_⟩=>⟨k,l,r,e⟩) ?_ ?_
 ·rintro _ _ ⟨k,l,r,rfl⟩;exact aQ (MT k λs k=>aV ⟨rfl,k⟩)
 rintro y _ _ q t ⟨k,l,r,rfl,f⟩;refine fI (λ_=>aV ⟨k,_,_,rfl⟩) λg=>?_;dsimp only at g;refine aQ (wD hS k (by omega) (by dsimp only;omega) λb=>?_);cases b
 ·exact aV ⟨k,_,_,rfl,f⟩
 ·exact aV ⟨k,_,_,rfl,by dsimp only;omega⟩
def Ch(lo:Nat)(l:List (Nat×Nat×Nat)):Prop:=l.Pairwise (λr t=>r.1+r.2.1<=t.1)/\∀r∈l,0<r.2.1/\r.1+r.2.1<=lo
theorem x3(hS:Kp κ z){i lo:Nat}(Z:i+1<pd.size)(k:Ok z pd st)(c:Ch lo pd.toList)(aa:lo<=z.size){Q:Bool->SortSt->Prop}(h:∀pd s,Ok z pd s->Ch lo pd.toList->Q true s):G (mergeAt' i) Q st:=by
 have hl:i+1<pd.toList.length:=Z;have e:pd.toList=pd.toList.take i++pd.toList[i]::pd.toList[i+1]::pd.toList.drop (i+2):=by
  rw[<- drop_eq_getElem_cons hl,<- drop_eq_getElem_cons (show i<_ by omega),take_append_drop]
 have H:pd[i]? = some pd.toList[i]:=by rw[<- getElem?_toList,getElem?_eq_getElem]
 have I:pd[i+1]? = some pd.toList[i+1]:=by rw[<- getElem?_toList,getElem?_eq_getElem]
 have f:∀x,((pd.setIfInBounds i x).eraseIdxIfInBounds (i+1)).toList=pd.toList.take i++x::pd.toList.drop (i+2):=λx=>by
  rw[Array.toList_eraseIdxIfInBounds,Array.toList_setIfInBounds,List.eraseIdx_eq_take_drop_succ,List.drop_set_of_lt (by omega),take_add_one,List.take_set_of_le (le_refl _),List.getElem?_set_self (by omega),append_assoc];rfl
 generalize pd.toList[i]=r1 at e H;generalize pd.toList[i+1]=r2 at e I;generalize pd.toList.take i=l1 at e f;generalize pd.toList.drop (i+2)=l2 at e f;obtain⟨u,n,D⟩:=r1;obtain⟨v,m,p2⟩:=r2;have N:=c;rw[e]at N;obtain⟨O,B⟩:=N;simp only[pairwise_append,List.pairwise_cons,mem_cons,mem_append]at O B;obtain⟨c3,⟨c4,c5,c6⟩,R⟩:=O;have S:=B (u,n,D) (.inr (.inl rfl));have d2:=B (v,m,p2) (.inr (.inr (.inl rfl)));have d3:=c4 (v,m,p2) (.inl rfl);dsimp only at S d2 d3;have E:Ch lo ((pd.setIfInBounds i (u,n+m,D)).eraseIdxIfInBounds (i+1)).toList:=by
  rw[f];refine⟨?_,?_⟩
  ·simp only[pairwise_append,List.pairwise_cons,mem_cons];refine⟨c3,⟨λt U=>?_,c6⟩,λa V b J=>?_⟩
   ·have:=c5 t U;show u+(n+m)<=t.1;omega
   ·rcases J with rfl |J
    ·exact R a V (u,n,D) (.inl rfl)
    ·exact R a V b (.inr (.inr J))
  ·intro r hr;rcases mem_append.mp hr with z |z
   ·exact B r (.inl z)
   rcases mem_cons.mp z with rfl |z
   ·dsimp only;omega
   ·exact B r (.inr (.inr (.inr z)))
 rw[<- k.pend]at H I E;refine aQ (qF ?_)
 erw [H,I]
 refine aQ (G_set ?_);have g:Ok z _ (setPending st (((pendingOf st).setIfInBounds i (u,n+m,D)).eraseIdxIfInBounds (i+1))):=⟨k.kind,k.failed,k.perm,rfl⟩;have o:=k.al;have sz:=k.sz;refine aQ (dN (xs:=arrOf st) o (show v<_ by omega) λx hx _=>aQ (kO hS (arr:=arrOf st) g.kind hx o (by omega) S.1 λt U=>?_));refine jT (λ_=>aV (h _ _ g E)) λh1=>aQ (dN (xs:=arrOf st) o (show u+t+(n-t)-1<_ by omega) λy hy _=>aQ (kO hS (arr:=arrOf st) g.kind hy o (show v+m<=_ by omega) (by omega) λW ab=>?_));refine jT (λ_=>aV (h _ _ g E)) λh2=>?_;have z1:0<((arrOf st).extract (u+t) v).size:=by rw[Array.size_extract];omega
 have X:0<((arrOf st).extract v (v+W)).size:=by rw[Array.size_extract];omega
 refine fI (λ_=>aQ (Fb hS o.ext o.ext z1 X g.kind λr s q hr=>?_)) λ_=>aQ (Fc hS o.ext o.ext z1 X g.kind λr s q hr=>?_)
 all_goals
  have Y:Ok z _ (setArr s ((r.toList.zipIdx 0).foldl (λa(p,j)=>a.setIfInBounds (u+t+j) p) (arrOf s))):=⟨q.1.trans g.kind,q.2.2.2.trans g.failed,(HB (v:=v) (m:=W) (by omega) (by rw[q.2.1];show _<=(arrOf st).size;omega) (by rw[q.2.1];exact hr)).1.trans (by rw[q.2.1];exact k.perm),q.2.2.1⟩;refine aQ (wC (aQ (qF ?_)));have:=h _ _ Y E;refine aV ?_;rw[<- show (failedOf (setArr s ((r.toList.zipIdx 0).foldl (λa(p,j)=>a.setIfInBounds (u+t+j) p) (arrOf s)))).isNone=true by rw[Y.failed];rfl]at this;exact this
theorem Ch.push{lo n:Nat}{l:List (Nat×Nat×Nat)}(c:Ch lo l)(e:0<n):Ch (lo+n) (l++[(lo,n,0)]):=by
 refine⟨pairwise_append.mpr ⟨c.1,List.pairwise_singleton _ _,λa f b g=>by rw[mem_singleton.mp g];exact(c.2 a f).2⟩,λr hr=>?_⟩;rcases mem_append.mp hr with z |z
 ·have:=c.2 r z;omega
 ·rw[mem_singleton.mp z];exact⟨e,le_refl _⟩
theorem Ch.congr{lo:Nat}{l b:List (Nat×Nat×Nat)}(c:Ch lo l)(e:b.map (λr=>(r.1,r.2.1))=l.map (λr=>(r.1,r.2.1))):Ch lo b:=by
 have h:∀l:List (Nat×Nat×Nat),Ch lo l ↔ (l.map (λr=>(r.1,r.2.1))).Pairwise (λr t=>r.1+r.2<=t.1)/\∀r∈l.map (λr=>(r.1,r.2.1)),0<r.2/\r.1+r.2<=lo:=λl=>by
  rw[List.pairwise_map,List.forall_mem_map];rfl
 rw[h,e,<- h];exact c
theorem repow{b:Nat}:(pd.modify (pd.size-1) λ(x,y,_)=>(x,y,b)).toList.map (λr=>(r.1,r.2.1))=pd.toList.map (λr=>(r.1,r.2.1)):=by
 apply ext_getElem?;intro i;rw[getElem?_map,getElem?_map,getElem?_toList,getElem?_toList,Array.getElem?_modify];split
 ·cases pd[i]? <;> rfl
 ·rfl
theorem Cd(hS:Kp κ z)(k:Ok z #[] st){Q:Unit->SortSt->Prop}(h:∀pd s,Ok z pd s->Q () s):G sortRuns' Q st:=by
 rw[sortRuns'_eq];refine aQ (qF ?_);dsimp only;rw[k.sz];generalize minRun' z.size z.size 0=e;refine iB (λ_ c s=>∃lo pd,c=(none,lo)/\Ok z pd s/\Ch lo pd.toList/\lo<=z.size) (λc s=>∃lo pd,c=(none,lo)/\Ok z pd s/\Ch lo pd.toList/\lo<=z.size) ⟨0,_,rfl,k,⟨List.Pairwise.nil,λr hr=>by cases hr⟩,zero_le _⟩ (λ_ _ z=>z) ?_ ?_
 ·rintro _ _ ⟨lo,pd,rfl,k,c,b⟩;refine iB (λ_ c s=>∃pd,c=(none,())/\Ok z pd s/\Ch lo pd.toList) (λc s=>∃pd,c=(none,())/\Ok z pd s/\Ch lo pd.toList) ⟨pd,rfl,k,c⟩ (λ_ _ z=>z) ?_ ?_
  ·rintro _ _ ⟨pd,rfl,k,c⟩;exact aV (h _ _ k)
  rintro x _ _ _ _ ⟨pd,rfl,k,c⟩;refine aQ (qF (fI (λ_=>aV ⟨pd,rfl,k,c⟩) λg=>aQ (x3 hS ?_ k c b λpd s k c=>aV ⟨pd,rfl,k,c⟩)));have g:¬pd.size<=1:=by rw[<- k.pend];exact g
  refine lt_of_le_of_lt (Nat.add_le_add_right (L6 _ _) 1) ?_;rw[k.pend];omega
 rintro x _ _ _ _ ⟨lo,pd,rfl,k,c,b⟩;refine fI (λ_=>aV ⟨lo,pd,rfl,k,c,b⟩) λg=>aQ (DS hS (by dsimp only at *;omega) (by dsimp only at *;omega) k λn s k f p=>?_);dsimp only at *;refine fI (λo=>aQ (rE (aQ (Ib hS (by omega) k λs k=>fI (λz=>absurd z (by decide)) λ_=>?_)))) λo=>?_
 all_goals try
  have f:n<e/\1<=min (z.size-lo) e/\lo+min (z.size-lo) e<=z.size:=by omega
  replace f:=f.2;generalize min (z.size-lo) e=n at f⊢
 all_goals
  refine aQ (qF ?_);cases q:(pendingOf s).back? with
  |none=>
   refine aQ (wC (aV ⟨_,_,rfl,⟨k.kind,k.failed,k.perm,rfl⟩,?_,by omega⟩));rw[k.pend,toList_push];exact c.push (by omega)
  |some r=>
   refine iB (λ_ c s=>∃pd,c=(none,())/\Ok z pd s/\Ch lo pd.toList) (λc s=>∃pd,c=(none,())/\Ok z pd s/\Ch lo pd.toList) ⟨pd,rfl,k,c⟩ (λ_ _ z=>z) ?_ ?_
   ·rintro _ _ ⟨pd,rfl,k,c⟩;refine aQ (wC (aQ (wC (aV ⟨_,_,rfl,⟨k.kind,k.failed,k.perm,rfl⟩,?_,by omega⟩))));show Ch _ (Array.push (Array.modify (pendingOf _) _ _) _).toList;rw[k.pend,toList_push];exact(c.congr repow).push (by omega)
   rintro y _ _ _ _ ⟨pd,rfl,k,c⟩;refine aQ (qF ?_);rw[k.pend];by_cases m:pd.size > 1
   ·rw[if_pos m,getElem?_pos pd (pd.size-2) (by omega)];exact fI (λ_=>aV ⟨pd,rfl,k,c⟩) λ_=>aQ (x3 hS (by omega) k c b λpd s k c=>fI (λz=>absurd z (by decide)) λ_=>aV ⟨pd,rfl,k,c⟩)
   ·rw[if_neg m];exact aV ⟨pd,rfl,k,c⟩
theorem BN{b:Mh}{f:Mg}(hS:StrsAre b f){e:Array Keyed}(n:e.Perm (pairsOf b)):∃g,StrsAre (e.map (·.2)).toList g/\g.Perm f:=by
 have o:e.toList.Perm (b.zip b):=by rw[<- pairsOf_toList];exact Array.perm_iff_toList_perm.mp n
 have m:(e.map (·.2)).toList.Perm b:=by
  rw[Array.toList_map];have:=o.map Prod.snd;rw[List.map_snd_zip (le_refl _)]at this;exact this
 refine⟨(e.map (·.2)).toList.map strOf,strsAre_map _ λv p=>hS.all _ (m.mem_iff.mp p),?_⟩;have:=m.map strOf;rw[hS.strs]at this;exact this
theorem Ez{P:Program}{w:World}{A:Around}{E:Mm}{s:Shared}{a:Addr}{b:Mh}{L:Mg}{n:Nat}{Q:PySem.Fin->Shared->Prop}(o:s.heap.get? a=some (seqObj "list" b.toArray n))(hS:StrsAre b L)(N:b.length<=sizeLine)
  (h:∀(q:Array Value)(m:Mg),StrsAre q.toList m->m.Perm L->Q (.done (.ret .none)) {s with heap:=sortedHeap s.heap a b q}):wpAny (model P w) A (Builtin.«list.sort» ⟨[.ref a],[]⟩) Q E s:=by
 by_cases t:b.length<2
 ·exact list_sort_treeK strKind_oneLt o hS.keysOf (λv₁ O rest e=>L2.x9 (e ▸ hS)) (by omega) λu U _=>by
   obtain⟨m,H,I⟩:=BN hS U;exact h _ m H I
 have R:a<s.heap.objs.size:=lt_size o;have x:b.toArray.size=b.length:=by simp
 rw[list_sort_plain];refine wpAny_bind (listItems_at o rfl (wpAny_bind (listUpdate_at o rfl ?_ (by rw[x];exact N))));have f:=get?_update_seq o (λ_=>#[]);generalize (if ((λ_=>#[]:Array Value->Array Value) b.toArray).size == b.toArray.size then n else n+1)=V at f;refine wpAny_bind (seqEpoch_at f rfl (wpAny_bind (wpAny_newTuple (wpAny_bind (wpAny_newList (wpAny_holding ?_))) (by simpa using N))));generalize y:((s.heap.update a (Obj.mapSeq λ_=>#[])).push (seqObj "tuple" b.toArray 0)).push (seqObj "list" #[] 0)=S;have B:S.get? a=some (seqObj "list" #[] V):=by
  rw[<- y,Heap.get?_push_ne _ _ _ (by rw[size_push',Heap.size_update];exact ne_of_lt (lt_succ_of_lt R)),Heap.get?_push_ne _ _ _ (by rw[Heap.size_update];exact ne_of_lt R)];exact f
 have D:¬b.toArray.size<2:=by rw[x];exact t
 have J:keyKind' b.toArray=pure oneType':=by
  match b,hS,t with
  |[],_,z=>exact absurd (by decide) z
  |[_],_,z=>exact absurd (lt_succ_self 1) z
  |_::_::_,hS,_=>exact L2.x9 hS
 show wpAny (model P w) A _ Q E {s with heap:=S};dsimp only;rw[if_neg D,if_neg D,J];refine wpAny_bind (wpAny_pure ?_);obtain⟨⟨⟩,u,⟨G,W⟩,g⟩:=Cd (κ:=strKind) (z:=pairsOf b) (st:=SortSt.mk' oneType' (b.toArray.zip b.toArray) #[] 7 none) ⟨strKind_oneLt,λp G=>hS.keysOf p (Array.mem_toList_iff.mpr G)⟩ ⟨rfl,rfl,Array.Perm.refl _,rfl⟩ (Q:=λ_ s=>(arrOf s).Perm (pairsOf b)/\failedOf s=none) λ_ _ k=>⟨k.perm,k.failed⟩;refine wpAny_bind (wpAny_mono (g P w A E _ (λ_ s=>s=u) rfl) ?_ λ_ _ e=>e);rintro ⟨⟨⟩,s2⟩ X ⟨rfl,e⟩;dsimp only at e;subst e;have Y:((arrOf s2).map (·.2)).size=b.length:=by rw[Array.size_map,G.size_eq,pairsOf_size]
 dsimp only;refine wpAny_bind (seqEpoch_at B rfl (wpAny_bind (listUpdate_at B rfl ?_ (by show 0<=sizeLine;omega) (by show ((arrOf s2).map (·.2)).size<=sizeLine+1;omega))));rw[W];simp only[bne_self_eq_false,Bool.false_eq_true,if_false];obtain⟨m,H,I⟩:=BN hS G;have:=h _ m H I;unfold sortedHeap at this;rw[y]at this;exact wpAny_pure this
end
end TL
namespace L2
open PySem PySem.Spec PyProof.Rows
inductive BD(xs:Mp)(H:Hp)(Q:VK):Prop
 |mk:∀d kvs ns,xs=[.ref d]->H d=some (.dK kvs)->kvs.map (·.1)=ns.map Sum.inr->ns.length<=100000->(∀p ms,List.Perm ms ns->H p=none->Q (.ref p) (upd H p (.lst (ms.map .str))))->BD xs H Q
theorem AV{X:Cx}(hc:X.calm=true):gP X (.builtin "sorted") BD:=by
 intro aa s σ H xs us Q I r h;obtain⟨d,O,N,rfl,hd,hk,hl,q⟩:=h;have n:N.length<=sizeLine:=le_trans hl (by decide);cases r with
 |cons r1 r2=>
  cases r2;cases (show _=Value.ref d from r1);obtain⟨hz,R,D,E,o,es,ep,dd⟩:=r8 I.hok hd;have hh:X.A.in1.handled=none:=I.ok.hd hc;have f:D.length=N.length:=by
   have h1:=E.length;have G:=congrArg List.length hk;rw[length_map,length_map]at G;omega
  have S:D.map (·.1)=N.map Sum.inr:=by rw[<- AG E];exact hk
  refine wpAny_call (codeAny_call_builtin plain_sorted entry_sorted (wpAny_of_eq (oX _) ?_));show wpAny _ _ (checkCount "sorted" 1 1 1 >>= _) _ _ s;refine wpAny_bind (wpAny_of_eq (a:=()) (by rfl) ?_);refine wpAny_bind (kdu_collect (kdl_dict (knd:=bF X.prog X.w) (kvs:=D) (ep:=ep) R) hh ⟨o,es,dd⟩ (by rw[f];exact n) λp U g t J=>?_);have m:g.toList.length=D.length:=by
   have:=J.1;simpa using this
  have y:StrsAre g.toList N:=Fk (prog:=X.prog) (w:=X.w) S m λj v hv=>J.2 j v (by simpa using hv);refine wpAny_bind (wpAny_newList ?_ (by rw[m,f];exact n));generalize z:p.push {cls:=.type "list",data:=.seq g.toList.toArray}=G;have V:G.get? p.objs.size=some (seqObj "list" g.toList.toArray 0):=by
   rw[<- z];exact get?_push_size _ rfl
  refine wpAny_bind (wpAny_holding ?_);refine wpAny_call_entry (T:="list") PyProof.Rows.slot_list_sort ⟨_,V,rfl⟩ PyProof.Rows.entry_list_sort ?_ (PyProof.Rows.args_list_sort _);refine TL.Ez V y (by rw[m,f];exact n) λB ms L x=>?_;refine⟨_,rfl,wpAny_pure ?_⟩;obtain⟨W,Y⟩:=sortedHeap_at (h:=G) (a:=p.objs.size) (vs:=g.toList) (out:=B) V;have hf:H p.objs.size=none:=(I.kept (t':=U) t).hok.fresh (le_refl _);refine⟨.ref p.objs.size,upd H p.objs.size (.lst (ms.map .str)),(I.kept (t':=U) t).laid (t':=U) (λb u e=>?_) (le_refl _) ?_,rfl,q _ ms x hf⟩
  ·have hb:b<p.objs.size:=lt_size e;have Z:G.objs.size=p.objs.size+1:=by rw[<- z];exact size_push _ _
   rw[sortedHeap_old (ne_of_lt hb) (by rw[Z];exact lt_succ_of_lt hb),<- z];exact get?_push_of_some _ e
  ·refine⟨?_,B.toList,W,wP L,?_⟩
   ·rw[length_map,x.length_eq];exact n
   ·simpa [seqObj] using Y
variable{X:Cx}
theorem Ld:OpR X (compareOp .Is) (λx y H Q=>y = .bl true/\Q (.bl (decide (x = .bl true))) H):=by
 intro f s m H x y v u Q I e g h;obtain⟨rfl,q⟩:=h;cases g;cases x with
 |bl b=>cases e;exact is_bool (bW I q (by cases b <;> rfl))
 |non=>cases e;exact wpAny_pure (bW I q rfl)
 |ref a=>cases e;exact wpAny_pure (bW I q rfl)
 |ty a=>cases e;exact wpAny_pure (bW I q rfl)
 |int i=>obtain⟨t,rfl⟩:=e;exact wpAny_pure (bW I q rfl)
 |str i=>obtain⟨t,rfl⟩:=e;exact wpAny_pure (bW I q rfl)
 |byt i=>obtain⟨t,rfl⟩:=e;exact wpAny_pure (bW I q rfl)
 |flt i=>obtain⟨t,rfl⟩:=e;exact wpAny_pure (bW I q rfl)
end L2
section
local macro_rules | `(tactic| trivial) => `(tactic| first | rfl | decide | exact .inl rfl | exact .inr rfl | exact .inr (.inl rfl) | exact .inr (.inr rfl) | (intro _; rfl) | with_unfolding_all rfl)
local macro_rules | `(⋯) => `(by trivial)
local macro_rules | `(‹0›) => `(⟨rfl, rfl, rfl, by decide +kernel, rfl, by decide +kernel, by decide +kernel⟩)
set_option hygiene false
local macro_rules
 | `(‹1›) => `(TxtD K mg aa2 aa4 ac0 aa5 aa1 aa9 aa7)
 | `(‹2›) => `(Callee P w K mg base "is_number" 1 ["thing", "least", "most"] lD)
 | `(‹3›) => `(TxtQ K mg A)
 | `(‹4›) => `(Method P w K mg base A.queue "write" 7 ["self", "rows"] (nY A))
 | `(‹5›) => `(Method P w K mg base aa7 "check_file" 3 ["self", "name"] (jO aa7 aa2 aa4))
 | `(‹6›) => `(Method P w K mg base A.disk "add" 4 ["self", "name", "some"] (zK A.disk A.badName A.missing A.badRow A.stopped))
 | `(‹7›) => `(Callee P w K mg base "_law_write" 2 ["_law_state", "_law_rows", "_law_most"] jZ)
 | `(‹8›) => `(TxtK K mg aa8 aa1 aa6 aa3)
 | `(‹9›) => `(Callee P w K mg base "segment_name" 1 ["segment"] hW)
 | `(‹10›) => `(Callee P w K mg base "_law_seed" 1 ["_law_seed_here", "_law_k"] zH)
 | `(‹11›) => `(Method P w K mg base aa7 "count_step" 1 ["self"] (jN aa7 aa5))
 | `(‹12›) => `(Method P w K mg base A.book "letter" 1 ["self", "number"] (mX A.book))
 | `(‹13›) => `(Callee P w K mg base "_law_ready" 1 ["_law_state", "_law_tries"] qH)
 | `(‹14›) => `(FnOk P w K mg base (CXE P w))
 | `(‹15›) => `(Callee P w K mg base)
 | `(‹16›) => `(Method P w K mg base)
 | `(‹17›) => `(Maker P w K mg base)
 | `(‹18›) => `((hr.mono (by decide)))
 | `(‹19›) => `((⟨aa8, aa1, aa6, aa3, aa2, aa4, ac0, aa5, aa9, aa7, ab0, ak4, aj7, af5, af6⟩ : Ad))
 | `(‹20›) => `(dO (hu1 hr.units) (pv 0) bP (λ_ _ => rfl))
 | `(‹21›) => `(cG (cU K) (pv 1) aM (λ_ _ => rfl))
 | `(‹22›) => `(@dO _ _ _ _ _ _ (hu1 hr.units) (@pv _ 0 _ _ ⋯ ⋯ ⋯ ⋯) (@bP _ _ _ _) (λ_ _ => rfl))
 | `(‹23›) => `(qT (pv 0) ⋯)
 | `(‹24›) => `(cG (cU K) (pv 0) aM (λ_ _ => rfl))
 | `(‹25›) => `(aI bP aF)
 | `(‹26›) => `(bC dL (bC nC (pv 1) aM) aM)
 | `(‹27›) => `(bJ (iM K) ⋯ T.ac2 eU (aE (pv 0) (aE (sY (v := .ty "tuple") ⋯ T.ai6 pZ ⋯) aF)))
 | `(‹28›) => `(bJ (dI K) ⋯ T.ae0 gM (aE (pv 0) aF))
 | `(‹29›) => `(aE (pv 1) aF)
 | `(‹30›) => `(@pv _ 0 _ _ ⋯ ⋯ ⋯ ⋯)
local macro_rules
 | `(‹31›) => `(bC nC (pv 1) aM)
 | `(‹32›) => `(λC s2 H2 ex => (bH (i := 0) (show List.Nodup (["number", "self"] : Mg) by decide +kernel) ⋯ (Or.inl ⋯)))
 | `(‹33›) => `(@cG _ _ _ _ _ _ _ (cU K) (@pv _ 1 _ _ ⋯ ⋯ ⋯ ⋯) (@aM _ _ _ _) (λ_ _ => rfl))
 | `(‹34›) => `(@bP _ _ _ _)
 | `(‹35›) => `(aE (pv 0) aF)
 | `(‹36›) => `(@aM _ _ _ _)
 | `(‹37›) => `(aE (pv 2) aF)
 | `(‹38›) => `(cG (cU K) (pv 3) aM (λ_ _ => rfl))
 | `(‹39›) => `(λC s2 H2 ex => (bH (i := 0) (show List.Nodup (["_law_number", "_law_state"] : Mg) by decide +kernel) ⋯ (Or.inl ⋯)))
 | `(‹40›) => `(λC s2 H2 ex => (bH (i := 0) (show List.Nodup (["letter", "self"] : Mg) by decide +kernel) ⋯ (Or.inl ⋯)))
 | `(‹41›) => `(λC s2 H2 ex => ED)
 | `(‹42›) => `(cG (cU K) (dO (hu1 hr.units) (EF K (pv 1) ⋯) (pv 0) (λ_ _ => rfl)) aM (λ_ _ => rfl))
 | `(‹43›) => `(aI aM aF)
 | `(‹44›) => `(dO (hu1 hr.units) (dO (hu1 hr.units) (pv 1) bP (λ_ _ => rfl)) (pv 0) (λ_ _ => rfl))
 | `(‹45›) => `(aI aM (aE (cO (v := .int 999999) ⋯ ac8 ⟨_, rfl⟩) aF))
 | `(‹46›) => `(aY fP (pv 2) bP (bI _))
 | `(‹47›) => `(bV (bE aF) aF)
 | `(‹48›) => `(@pv _ 1 _ _ ⋯ ⋯ ⋯ ⋯)
 | `(‹49›) => `(cG (cF K) (pv 9) aM (λ_ _ => rfl))
 | `(‹50›) => `(bC cT (pv 1) (cO (v := .int 7) ⋯ bg3 ⟨_, rfl⟩))
 | `(‹51›) => `(aE (pv 3) aF)
 | `(‹52›) => `(aY fP (pv 3) bP (bI _))
 | `(‹53›) => `(bH (i := 3) nD0 ⋯ ⋯)
 | `(‹54›) => `(show j ∈ (M.ls.map (·.1)).filter _ from (mem_filter.mp hj).1)
 | `(‹55›) => `(@pv _ 3 _ _ ⋯ ⋯ ⋯ ⋯)
 | `(‹56›) => `(aE (sY (v := .ty "str") ⋯ T.bj1 MN ⋯) aF)
 | `(‹57›) => `(cG (cF K) (pv 1) (u5 nW aM) (λ_ _ => rfl))
 | `(‹58›) => `(cG (cU K) (pv 5) aM (λ_ _ => rfl))
 | `(‹59›) => `(aX (eW am1 T.cl ‹18› bR (pv 0)))
 | `(‹60›) => `(aE (pv 4) aF)
local macro_rules
 | `(‹61›) => `(@aI _ _ _ _ _ _ _ (@jQ _ _ _) (@aF _))
 | `(‹62›) => `(EF K (pv 1) ⋯)
 | `(‹63›) => `(aY fP (pv 0) bP (bI _))
 | `(‹64›) => `(λC s2 H2 ex => (pv 0))
 | `(‹65›) => `(show _ ≤ 1000 by omega)
 | `(‹66›) => `(@pv _ 2 _ _ ⋯ ⋯ ⋯ ⋯)
 | `(‹67›) => `(@pv _ 6 _ _ ⋯ ⋯ ⋯ ⋯)
 | `(‹68›) => `(@pv _ 9 _ _ ⋯ ⋯ ⋯ ⋯)
 | `(‹69›) => `(@pv _ 8 _ _ ⋯ ⋯ ⋯ ⋯)
 | `(‹70›) => `(aC (qR (pv 0) aM vL))
 | `(‹71›) => `(aE (pv 5) aF)
 | `(‹72›) => `(aY fP (pv 6) bP (bI _))
 | `(‹73›) => `(aY vA (pv 3) aM (bI _))
 | `(‹74›) => `(bH (i := 4) nD0 ⋯ ⋯)
 | `(‹75›) => `(@pv _ 12 _ _ ⋯ ⋯ ⋯ ⋯)
 | `(‹76›) => `(aC (aP jQ))
 | `(‹77›) => `(bJ (dI K) ⋯ T.ae0 gM ‹29›)
 | `(‹78›) => `(bU K (bJ (iI ⋯) ⋯ T.af7 iN (gC ‹23› aF)))
 | `(‹79›) => `(aC (aX (i5 K PySem.F.plainAttrs_dict PySem.F.slot_dict_pop PySem.F.type_dict_pop pI ‹23› ‹37›)))
 | `(‹80›) => `(aX (i5 K PySem.F.plainAttrs_dict PySem.F.slot_dict_pop PySem.F.type_dict_pop pI ‹20› ‹71›))
 | `(‹81›) => `(gC ‹23› aF)
 | `(‹82›) => `(aN ‹21› aF)
 | `(‹83›) => `(@dO _ _ _ _ _ _ (hu1 hr.units) ‹48› ‹34› (λ_ _ => rfl))
 | `(‹84›) => `(@aI _ _ _ _ _ _ _ ‹36› (@aF _))
 | `(‹85›) => `(aC (dW eX ⋯ T.af8 ⋯ T.az8 ‹25›))
 | `(‹86›) => `(aX (cM ah3 T.cl ‹18› bR (pv 0) ‹29›))
 | `(‹87›) => `(cG (cF K) (cD (aI aM ‹43›)) ‹26› (λ_ _ => rfl))
 | `(‹88›) => `(bJ (iI ⋯) ⋯ T.af7 iN (aN ‹20› aF))
 | `(‹89›) => `(@aY _ _ _ _ _ _ _ _ fP (@pv _ 10 _ _ ⋯ ⋯ ⋯ ⋯) ‹36› (bI _))
 | `(‹90›) => `(aC (dW eX ⋯ T.ag5 ⋯ T.bf6 ‹25›))
local macro_rules
 | `(‹91›) => `(dO (hu1 hr.units) ‹23› (pv 1) (λ_ _ => rfl))
 | `(‹92›) => `(aC (dW eX ⋯ T.af0 ⋯ T.ax9 ‹25›))
 | `(‹93›) => `(aC (dW eX ⋯ T.an2 ⋯ T.bj3 ‹25›))
 | `(‹94›) => `(aC (dW eX ⋯ T.ag7 ⋯ T.bg4 ‹25›))
 | `(‹95›) => `(@aN _ _ _ _ _ _ _ ‹22› (@aF _))
 | `(‹96›) => `(@aY _ _ _ _ _ _ _ _ fP ‹67› ‹34› (bI _))
 | `(‹97›) => `(aI bP (aI bP ‹25›))
 | `(‹98›) => `(@aI _ _ _ _ _ _ _ ‹34› (@aF _))
 | `(‹99›) => `(bB ab3 ‹18› bA ‹81›)
set_option hygiene true
namespace Qh
open PySem L2
def top(i:Nat):Stmt:=PySem.Challenge.pw_queuehold_k21_not_held.main.body.getD i (.Pass ⟨0,0,0,0⟩)
abbrev rN:Stmt:=top 3
abbrev uU:Stmt:=top 4
abbrev rO:Stmt:=top 28
abbrev A7:Stmt:=top 29
abbrev rQ:Stmt:=top 30
theorem gM:bootBuiltins "len" = some (.builtin "len"):=by decide +kernel
theorem eU:bootBuiltins "isinstance" = some (.builtin "isinstance"):=by decide +kernel
theorem IZ:bootBuiltins "all" = some (.builtin "all"):=by decide +kernel
theorem AY:bootBuiltins "sum" = some (.builtin "sum"):=by decide +kernel
theorem pZ:bootBuiltins "tuple" = some (.type "tuple"):=by decide +kernel
theorem DU:bootBuiltins "int" = some (.type "int"):=by decide +kernel
theorem KE:bootBuiltins "bool" = some (.type "bool"):=by decide +kernel
theorem MN:bootBuiltins "str" = some (.type "str"):=by decide +kernel
def dM:Mg:=["put","out","done","from","part","deal","carried","new"]
structure TxtR(K:Ma)(mg:Mc)(aa8 aa1:Addr):Prop where
 ae0:mg "len" = none
 ac2:mg "isinstance" = none
 bj2:mg "all" = none
 ax5:mg "sum" = none
 ai6:mg "tuple" = none
 ba3:mg "int" = none
 bj4:mg "bool" = none
 bj1:mg "str" = none
 af1:mg "range" = none
 ag3:mg "enumerate" = none
 ap6:∃t,mg "HIGHEST_BYTE" = some (.int 255 t)
 ad3:∃t,mg "HIGHEST_NUMBER" = some (.int 999999 t)
 bc2:∃t,mg "LONGEST_BODY" = some (.int 60 t)
 ah4:∃t,mg "HIGHEST_TIMES" = some (.int 9 t)
 ai7:∃t,mg "LARGEST_DEAL" = some (.int 9 t)
 bi3:mg "KINDS" = some (.ref aa8)
 bi4:∀H,SqT K H aa8 (dM.map V.str)
 l_KINDS:∃o,K.lookup aa8=some o/\o.cls = .type "tuple"/\o.dict=none
 ag7:dH K aa1=true
 bg4:mg "BadRow" = some (.ref aa1)
def bL(lo b:Int):PyData->Bool
 | .int i=>decide (lo<=i) && decide (i<=b)
 |_=>false
def dQ:PyData->Bool
 | .tuple b=>b.all (bL 0 255)
 |_=>false
def fF(k:Str)(b:Mf):Bool:=
 if k = "put"\/k = "part" then decide (b.length<=60)
 else if k = "carried" then decide (1<=b.length) && decide (b.length<=61) && decide (b.headD 0<=9)
 else if k = "deal" then decide (b.length=1) && decide (1<=b.headD 0) && decide (b.headD 0<=9)
 else decide (b.length=0)
inductive lD(vs:Mp)(H:Hp)(Q:VK)(x_3:XK):Prop
 |mk:∀v d lo hi,vs=[v,.int lo,.int hi]->Den H d v->Q (.bl (bL lo hi d)) H->lD vs H Q x_3
inductive hJ(vs:Mp)(H:Hp)(Q:VK)(x_3:XK):Prop
 |mk:∀v d,vs=[v]->Den H d v->(∀ds,d = .tuple ds->ds.length<=sizeLine)->(∀H',aG H H'->Q (.bl (dQ d)) H')->hJ vs H Q x_3
inductive lE(vs:Mp)(H:Hp)(Q:VK)(x_3:XK):Prop
 |mk:∀k a ns,vs=[.str k,.ref a]->H a=some (.tup (ns.map V.int))->Q (.bl (fF k ns)) H->lE vs H Q x_3
theorem tF(h:a=b):decide (V.str a=V.str b)=true:=decide_eq_true (by rw[h])
theorem tE(h:¬a=b):decide (V.str a=V.str b)=false:=decide_eq_false (λz=>h (V.str.inj z))
theorem pW(h:¬a=b):decide (V.int a=V.int b)=false:=decide_eq_false (λz=>h (V.int.inj z))
section
variable{P:Program}{w:World}{K:Ma}{mg:Mc}{base:Heap}{aa8 aa1:Addr}
theorem z6(F:Fun K "is_number" "is_number" rN f o)(T:TxtR K mg aa8 aa1):‹14› 1 f o ["thing","least","most"] lD:=by
 refine F.okY ["thing","least","most"] λp A n s H r Q E hr nD0 h=>?_;obtain⟨v,d,lo,t,rfl,g,q⟩:=h;refine⟨_,aA (bG (l9 (dE (bJ (iM K) ⋯ T.ac2 eU (aE (pv 0) (aE (sY (v:=.ty "bool") ⋯ T.bj4 KE ⋯) aF)))) (iX (cS (dE (bJ (iM K) ⋯ T.ac2 eU (aE (pv 0) (aE (sY (v:=.ty "int") ⋯ T.ba3 DU ⋯) aF))))))).pt
   (aC (aP kI))
   aO)
  (aC (aP (u8 kM kM (pv 1) (pv 0) (pv 2)))),?_⟩
 refine⟨_,rfl,_,_,_,_,rfl,g.ty,Hw d,_,rfl,?_⟩;cases d with
 |bool b=>exact aU (aU q)
 |int i=>
  refine bD ⟨_,rfl,_,_,_,_,rfl,g.ty,nG _,_,rfl,bD ?_⟩;have e:v = .int i:=by simpa only[Den] using g
  subst e;refine⟨_,rfl,_,rfl,_,_,rfl,rfl,_,rfl,?_⟩;simp only[bL]at q;by_cases m:lo<=i
  ·rw[if_pos (decide_eq_true m)];refine⟨_,rfl,_,_,rfl,rfl,?_⟩;rw[decide_eq_true m,Bool.true_and]at q;exact q
  ·rw[if_neg (by simpa using m)];rw[decide_eq_false m,Bool.false_and]at q;exact q
 |none=>exact bD ⟨_,rfl,_,_,_,_,rfl,g.ty,nG _,_,rfl,aU q⟩
 |str x=>exact bD ⟨_,rfl,_,_,_,_,rfl,g.ty,nG _,_,rfl,aU q⟩
 |tuple x=>exact bD ⟨_,rfl,_,_,_,_,rfl,g.ty,nG _,_,rfl,aU q⟩
 |list x=>exact bD ⟨_,rfl,_,_,_,_,rfl,g.ty,nG _,_,rfl,aU q⟩
 |dict x=>exact bD ⟨_,rfl,_,_,_,_,rfl,g.ty,nG _,_,rfl,aU q⟩
theorem Bb(F:Fun K "is_bytes" "is_bytes" uU f R)(T:TxtR K mg aa8 aa1)(n:‹2›):‹14› 2 f R ["thing"] hJ:=by
 obtain⟨_,o⟩:=T.ap6;refine F.okY ["thing"] λS A p s H vs Q E hr nD0 h=>?_;obtain⟨v,d,rfl,L,U,q⟩:=h;refine⟨_,aC (aP (mH ‹27› (u6 (bJ (yV K) ⋯ T.bj2 IZ (dX (cV ["one"] [] ⋯ (sX K (pv 0)) (λC s2 H2 ex=>(bH (i:=0) (show List.Nodup (["one"]:Mg) by decide +kernel) ⋯ (Or.inl ⋯))) ‹41› (λC s2 H2 ex=>(bB n ‹18› bA (aE (pv 0) (aI aM (aE (cO (v:=.int 255) ⋯ o ⟨_,rfl⟩) aF)))))) aF))))),?_⟩;refine⟨_,rfl,_,_,_,_,rfl,L.ty,qY d,_,rfl,?_⟩;cases d with
 |tuple m=>
  refine aU ?_;have b:=L;simp only[Den]at b;obtain⟨a,W,rfl,N,g⟩:=b;have X:=g.length;refine⟨_,rfl,a,rfl,⟨W,SqT.of N⟩,?_⟩;refine c8 (oO (K:=K) (SqT.of N)) (by rw[X];exact U m rfl) (λi y _=>∃d,m[i]? = some d/\y = .bl (bL 0 255 d)) (λ_ _ _ _ _ h=>h) (λY=>Y.length=1) ?z0 ?_ ?_
  case z0=>rfl
  ·intro i x r H3 hi t Z hx Q' u;obtain⟨d,B,G⟩:=g.get hx
   match r,t with
   |[z],_=>
    refine⟨_,rfl,x,d,0,255,rfl,G.same Z,?_⟩;exact u _ _ _ rfl (aG.refl _) ⟨d,B,rfl⟩
  ·intro D I H' hD s' J O hR;have ey:I=(m.map (bL 0 255)).map V.bl:=by
    apply ext_getElem?;intro i;cases e:I[i]? with
    |none=>
     have:I.length<=i:=List.getElem?_eq_none_iff.mp e;rw[getElem?_eq_none (by rw[length_map,length_map];omega)]
    |some y=>
     obtain⟨d,h1,h2⟩:=hR i y e;rw[getElem?_map,getElem?_map,h1,h2];rfl
   refine⟨D,m.map (bL 0 255),rfl,SqL.of (by rw[J,ey]),?_⟩;have:=q H' s';simp only[dQ]at this;rw[all_map];exact this
 |none=>exact bD (q H (aG.refl H))
 |bool x=>exact bD (q H (aG.refl H))
 |int x=>exact bD (q H (aG.refl H))
 |str x=>exact bD (q H (aG.refl H))
 |list x=>exact bD (q H (aG.refl H))
 |dict x=>exact bD (q H (aG.refl H))
theorem AA(F:Fun K "fits_kind" "fits_kind" rO f N)(T:TxtR K mg aa8 aa1):‹14› 1 f N ["kind","body"] lE:=by
 obtain⟨_,p⟩:=T.bc2;obtain⟨_,G⟩:=T.ah4;obtain⟨_,I⟩:=T.ai7;refine F.okY ["kind","body"] λO A J s H U Q E hr nD0 h=>?_;obtain⟨k,a,g,rfl,R,q⟩:=h;refine⟨_,aA (bG (l9 ‹63› (iX ‹63›)).pt
   (aC (aP (fU kM ‹77› (cO (v:=.int 60) ⋯ p ⟨_,rfl⟩) (bI _))))
   aO)
  (aA (bG ‹63›
   (aC (aP (mH (u8 kM kM aM ‹77› (bC cT aM (cO (v:=.int 60) ⋯ p ⟨_,rfl⟩))) (u6 (fU kM ‹21› (cO (v:=.int 9) ⋯ G ⟨_,rfl⟩) (bI _))))))
   aO)
  (aA (bG ‹63›
   (aC (aP (mH (fU fP ‹77› aM (bI _)) (u6 (u8 kM kM aM ‹21› (cO (v:=.int 9) ⋯ I ⟨_,rfl⟩))))))
   aO)
  (aC (aP (fU fP ‹77› aM (bI _)))))),?_⟩
 have b:SqT K H a (g.map V.int):=SqT.of R;have m:∀x r,g=x::r->atI (g.map V.int) 0=some (V.int x):=λx r e=>by
  subst e;exact cK (j:=0) rfl
 have o:((g.map V.int).length:Int)=(g.length:Int):=by rw[length_map]
 unfold fF at q;refine⟨_,rfl,rfl,_,rfl,?_⟩;by_cases t:k = "put"
 ·rw[if_pos (.inl t)]at q;rw[tF t];refine aU (aU ⟨_,rfl,a,_,rfl,.inr b,_,_,rfl,rfl,?_⟩);have e:decide (((g.map V.int).length:Int)<=60)=decide (g.length<=60):=by
   apply decide_eq_decide.mpr;rw[o];omega
  show Q (.bl (decide (((g.map V.int).length:Int)<=60))) H;rw[e];exact q
 rw[tE t];refine bD ⟨_,rfl,rfl,_,rfl,?_⟩;by_cases u:k = "part"
 ·rw[if_pos (.inr u)]at q;rw[tF u];refine aU ⟨_,rfl,a,_,rfl,.inr b,_,_,rfl,rfl,?_⟩;have e:decide (((g.map V.int).length:Int)<=60)=decide (g.length<=60):=by
   apply decide_eq_decide.mpr;rw[o];omega
  show Q (.bl (decide (((g.map V.int).length:Int)<=60))) H;rw[e];exact q
 rw[tE u];rw[if_neg (by rintro (z |z);exact t z;exact u z)]at q;refine bD ⟨_,rfl,rfl,_,rfl,?_⟩;by_cases B:k = "carried"
 ·rw[if_pos B]at q;rw[tF B];refine aU ⟨_,rfl,a,_,rfl,.inr b,_,_,rfl,rfl,_,rfl,?_⟩;by_cases n:1<=g.length
  ·rw[if_pos (decide_eq_true (by rw[o];omega))];rw[decide_eq_true n,Bool.true_and]at q;refine⟨_,_,rfl,rfl,_,_,rfl,rfl,_,rfl,?_⟩;by_cases L:g.length<=61
   ·rw[if_pos (decide_eq_true (by rw[o];omega))];rw[decide_eq_true L,Bool.true_and]at q
    match g,n,m,q,b with
    |x::r,_,m,q,b=>
     exact⟨_,rfl,a,_,_,_,rfl,rfl,b,m x r rfl,_,_,rfl,rfl,q⟩
   ·rw[if_neg (by rw[decide_eq_true_eq,o];omega)];rw[decide_eq_false L,Bool.false_and]at q;exact q
  ·rw[if_neg (by rw[decide_eq_true_eq,o];omega)];rw[decide_eq_false n,Bool.false_and,Bool.false_and]at q;exact⟨_,rfl,bD q⟩
 rw[tE B];rw[if_neg B]at q;refine bD ⟨_,rfl,rfl,_,rfl,?_⟩;by_cases D:k = "deal"
 ·rw[if_pos D]at q;rw[tF D];refine aU ⟨_,rfl,a,_,rfl,.inr b,rfl,_,rfl,?_⟩
  match g,m,q,b with
  |[],m,q,b=>exact bD q
  |[x],m,q,b=>
   refine aU ⟨_,rfl,a,_,_,_,rfl,rfl,b,m x [] rfl,_,_,rfl,rfl,_,rfl,?_⟩;have q:Q (.bl (decide (1<=x) && decide (x<=9))) H:=q;by_cases n:1<=x
   ·rw[if_pos (decide_eq_true n)];rw[decide_eq_true n,Bool.true_and]at q;exact⟨_,_,rfl,rfl,q⟩
   ·rw[if_neg (by simpa using n)];rw[decide_eq_false n,Bool.false_and]at q;exact q
  |x::y::r,m,q,b=>
   have e:decide ((((x::y::r).length:Nat):Int)=1)=false:=decide_eq_false (by simp;omega);have S:decide ((x::y::r).length=1)=false:=decide_eq_false (by simp);rw[S,Bool.false_and,Bool.false_and]at q;rw[pW (by simp;omega)];exact bD q
 rw[tE D];rw[if_neg D]at q;refine bD ⟨_,rfl,a,_,rfl,.inr b,rfl,?_⟩;show Q (.bl (decide (V.int ((g.map V.int).length:Int)=V.int 0))) H;have e:decide (V.int ((g.map V.int).length:Int)=V.int 0)=decide (g.length=0):=by
  apply decide_eq_decide.mpr;rw[o];constructor
  ·intro z;have:=V.int.inj z;omega
  ·intro z;rw[z];rfl
 rw[e];exact q
def bX:PyData->Mf
 | .tuple b=>b.map λd=>match d with | .int i=>i |_=>0
 |_=>[]
def bQ:PyData->Bool
 | .tuple [.str k,n,b]=>dM.contains k && (bL 0 999999 n && (dQ b && fF k (bX b)))
 |_=>false
theorem Lr{e : Type}{l:List e}(h:l.length=3):∃a b c,l=[a,b,c]:=by
 match l,h with
 |[a,b,c],_=>exact⟨a,b,c,rfl⟩
theorem yB(h:e.length≠3):bQ (.tuple e)=false:=by
 match e,h with
 |[],_=>rfl
 |[a],_=>cases a <;> rfl
 |[a,b],_=>cases a <;> rfl
 |[_,_,_],h=>exact absurd rfl h
 |a::b::c::d::r,_=>cases a <;> rfl
theorem Ft(k:Str)(b:Mg):inV (.str k) (b.map V.str)=b.contains k:=by
 unfold inV;rw[List.any_map,List.contains_eq_any_beq];congr 1;funext y;show (y == k)=(k == y);exact Bool.beq_comm
theorem Fz(b:Mg):(b.map V.str).all nU=true:=by
 rw[all_map];exact all_eq_true.mpr λ_ _=>rfl
theorem pY:∀{b:Mj}{f:Mp},aT H b f->b.all (bL 0 255)=true->f=(bX (.tuple b)).map V.int
 |[],f,h,_=>by
  simp only[aT]at h;subst h;rfl
 |d::b,f,h,e=>by
  simp only[aT]at h;obtain⟨x,r,m,g,n⟩:=h;rw[all_cons,and_eq_true]at e;have o:=pY n e.2;cases d with
  |int i=>
   simp only[Den]at g;rw[m,g,o];rfl
  |_=>exact absurd e.1 (by simp [bL])
inductive mY(vs:Mp)(H:Hp)(Q:VK)(x_3:XK):Prop
 |mk:∀v d,vs=[v]->Den H d v->(∀k n bs,d = .tuple [k,n,.tuple bs]->bs.length<=sizeLine)->(∀H',aG H H'->Q (.bl (bQ d)) H')->mY vs H Q x_3
theorem FV(F:Fun K "is_row" "is_row" A7 f fd)(T:TxtR K mg aa8 aa1)(p:‹2›)
  (r:‹15› "is_bytes" 2 ["thing"] hJ) (t:‹15› "fits_kind" 1 ["kind","body"] lE):‹14› 3 f fd ["thing"] mY:=by
 obtain⟨_,ac8⟩:=T.ad3;refine F.okY ["thing","kind"] λaa A u s H vs Q E hr nD0 h=>?_;obtain⟨v,d,rfl,L,hz,q⟩:=h;refine⟨_,aA (bG (l9 (cS (dE ‹27›)) (iX (aY BR ‹28› aM (bI _)))).pt
   (aC (aP kI))
   aO)
  (aA (aW (i:=1) nD0 ⋯ ⋯ ‹24›)
  (aA (bG (l9 (cS (dE (bJ (iM K) ⋯ T.ac2 eU (aE (pv 1) ‹56›)))) (iX (aY (kK K) (pv 1) (cO (v:=.ref aa8) ⋯ T.bi3 ⋯) ⋯))).pt
   (aC (aP kI))
   aO)
  (aC (aP (mH (bB p ‹18› bA (aN ‹24› ‹45›)) (mH (bB r ‹18› bA (aN ‹24› aF)) (u6 (bB t ‹18› bA (aE (pv 1) (aN ‹24› aF)))))))))),?_⟩
 refine⟨_,rfl,_,_,_,_,rfl,L.ty,qY d,_,rfl,?_⟩;cases d with
 |none=>exact aU (aU (q H (aG.refl H)))
 |bool x=>exact aU (aU (q H (aG.refl H)))
 |int x=>exact aU (aU (q H (aG.refl H)))
 |str x=>exact aU (aU (q H (aG.refl H)))
 |list x=>exact aU (aU (q H (aG.refl H)))
 |dict x=>exact aU (aU (q H (aG.refl H)))
 |tuple ds=>
  have g:=L;simp only[Den]at g;obtain⟨a,xs,rfl,y,b⟩:=g;have N:=b.length;by_cases z:ds.length=3
  ·obtain⟨O,R,B,rfl⟩:=Lr z;obtain⟨x0,S,U,rfl⟩:=Lr (N.trans z)
   ·refine bD ⟨_,rfl,a,_,rfl,.inr (SqT.of y),rfl,_,rfl,?_⟩;refine bD ?_;simp only[aT]at b;obtain⟨y0,r0,e0,D,y1,r1,e1,k1,y2,r2,e2,G,e3⟩:=b;subst e3;cases e2;cases e1;cases e0;have m:SqT K H a [x0,S,U]:=SqT.of y;refine⟨_,rfl,a,_,_,_,rfl,rfl,m,cK (j:=0) rfl,?_⟩;refine⟨_,rfl,_,_,_,_,rfl,D.ty,ER O,_,rfl,?_⟩;cases O with
    |none=>exact aU (aU (q H (aG.refl H)))
    |bool x=>exact aU (aU (q H (aG.refl H)))
    |int x=>exact aU (aU (q H (aG.refl H)))
    |tuple x=>exact aU (aU (q H (aG.refl H)))
    |list x=>exact aU (aU (q H (aG.refl H)))
    |dict x=>exact aU (aU (q H (aG.refl H)))
    |str k=>
     simp only[Den]at D;subst D;refine bD ⟨_,rfl,aa8,_,rfl,.inr (T.bi4 H),rfl,Fz dM,_,rfl,?_⟩;rw[if_pos rfl,Ft];simp only[bQ]at q;cases W:dM.contains k with
     |false=>
      rw[W]at q;exact aU (q H (aG.refl H))
     |true=>
      rw[W]at q;refine bD ?_;refine⟨_,rfl,a,_,_,_,rfl,rfl,m,cK (j:=1) rfl,S,R,0,999999,rfl,k1,_,rfl,?_⟩;cases X:bL 0 999999 R with
      |false=>
       rw[X]at q;exact bD (q H (aG.refl H))
      |true=>
       rw[X]at q;refine aU ⟨_,rfl,a,_,_,_,rfl,rfl,m,cK (j:=2) rfl,U,B,rfl,G,λY e=>hz _ _ Y (by rw[e]),λZ n=>⟨_,rfl,?_⟩⟩;cases o:dQ B with
       |false=>
        rw[o]at q;exact bD (q Z n)
       |true=>
        rw[o]at q;cases B with
        |tuple Y=>
         simp only[Den]at G;obtain⟨a2,ys,rfl,I,J⟩:=G;have ei:=pY J o;subst ei;refine aU ⟨_,rfl,_,rfl,a,_,_,_,rfl,rfl,n.seqT m,cK (j:=2) rfl,k,a2,_,rfl,n _ _ I,q Z n⟩
        |_=>exact absurd o (by simp [dQ])
  ·have e:(!decide (V.int (xs.length:Int)=V.int 3))=true:=by
    rw[N,pW (by omega)];rfl
   have q':=q H (aG.refl H);rw[yB z]at q';refine bD ⟨_,rfl,a,_,rfl,.inr (SqT.of y),rfl,_,rfl,?_⟩;rw[e];exact aU q'
def pX(b:Mf):Int×Int:=(b.sum % 256,((List.range b.length).map λ(i:Nat)=>(1+(i:Int))*b.getD i 0).sum % 256)
inductive lF(vs:Mp)(H:Hp)(Q:VK)(x_3:XK):Prop
 |mk:∀a ns,vs=[.ref a]->H a=some (.tup (ns.map V.int))->ns.length<=1000->(∀p H',aG H H'->H' p=some (.tup [.int (pX ns).1,.int (pX ns).2])->Q (.ref p) H')->lF vs H Q x_3
theorem AC(F:Fun K "checks_of" "checks_of" rQ f L)(T:TxtR K mg aa8 aa1):‹14› 1 f L ["behind"] lF:=by
 refine F.okY ["behind","plain","weighed"] λN A o s H Z Q E hr nD0 h=>?_;obtain⟨a,b,rfl,O,R,q⟩:=h;refine⟨_,aA (aW (i:=1) nD0 ⋯ ⋯ (bJ (nK K) ⋯ T.ax5 AY ‹35›))
  (aA (aW (i:=2) nD0 ⋯ ⋯ (bJ (nK K) ⋯ T.ax5 AY (dX (cV ["place","one"] [] ⋯ (FA K T.ag3 (pv 0)) (λC s2 H2 ex=>(iF K (n:=2) (cJ (bH (i:=0) (show List.Nodup (["place","one"]:Mg) by decide +kernel) ⋯ (Or.inl ⋯)) (cJ (bH (i:=1) (show List.Nodup (["place","one"]:Mg) by decide +kernel) ⋯ (Or.inl ⋯)) iE)))) ‹41› (λC s2 H2 ex=>(bC qU (pv 0) (pv 1)))) aF)))
  (aC (aP (bE (bT (bC dL (pv 1) aM) (bT (bC dL (pv 2) aM) aF)))))),?_⟩
 have r:SqT K H a (b.map V.int):=SqT.of O;refine⟨_,rfl,a,b,rfl,.inr r,?_⟩;refine⟨_,rfl,a,_,rfl,r,?_⟩;refine c8 (tW (K:=K) 1 r) (by rw[length_map];exact le_trans R (by decide)) (λi y _=>y = .int ((1+(i:Int))*b.getD i 0)) (λ_ _ _ _ _ h=>h) (λS=>S.length=2) ?z0 ?_ ?_
 case z0=>rfl
 ·intro i x t H3 g u s3 U Q' z;obtain⟨p,v,rfl,B,J⟩:=U;rw[length_map]at g;rw[getElem?_map,getElem?_eq_getElem g]at J;cases J
  match t,u with
  |[z1,z2],_=>
   refine⟨p,_,rfl,SqT.of B,rfl,_,_,rfl,_,_,rfl,rfl,?_⟩;refine⟨_,rfl,_,rfl,_,_,rfl,rfl,.inl ⟨by omega,by omega⟩,?_⟩;refine z _ _ _ rfl (aG.refl _) ?_;rw[getD_eq_getElem?_getD,getElem?_eq_getElem g];rfl
 ·intro D G H' hD W I m X;have Y:G=((List.range b.length).map λ(i:Nat)=>(1+(i:Int))*b.getD i 0).map V.int:=by
   apply ext_getElem?;intro i;rw[length_map]at m;cases e:G[i]? with
   |none=>
    have:G.length<=i:=List.getElem?_eq_none_iff.mp e;rw[getElem?_eq_none (by rw[length_map,length_map,length_range];omega)]
   |some y=>
    have g:i<b.length:=by
     have:=(List.getElem?_eq_some_iff.mp e).1;omega
    rw[X i y e,getElem?_map,getElem?_map,getElem?_range g];rfl
  refine⟨D,_,rfl,.inl (SqL.of (by rw[I,Y])),?_⟩;refine⟨_,rfl,_,_,rfl,rfl,(by show (0:Int)<256;decide),_,rfl,_,_,rfl,rfl,(by show (0:Int)<256;decide),(by show 2<=sizeLine;decide),λp B=>?_⟩;exact q p _ (W.trans (aD B)) aB
def gN(k:Str)(n:Int)(b:Mf):Mf:=[(dM.idxOf k:Int)+1]++[n / 65536,n / 256 % 256,n % 256]++[(b.length:Int)]++b
def iD(k:Str)(n:Int)(b:Mf):Mf:=[(pX (gN k n b)).1,(pX (gN k n b)).2]++gN k n b
def Gz:PyData->Mf
 | .tuple [.str k,.int n,b]=>iD k n (bX b)
 |_=>[]
theorem oG(h:bQ d=true):∃k n b,d = .tuple [.str k,.int n,.tuple b]/\dM.contains k=true/\0<=n/\n<=999999/\b.all (bL 0 255)=true/\fF k (bX (.tuple b))=true:=by
 cases d with
 |tuple m=>
  by_cases f:m.length=3
  ·obtain⟨o,p,q,rfl⟩:=Lr f;cases o with
   |str k=>
    simp only[bQ,and_eq_true]at h;obtain⟨r,e,g,s⟩:=h;cases p with
    |int n=>
     simp only[bL,and_eq_true,decide_eq_true_eq]at e;cases q with
     |tuple b=>exact⟨k,n,b,rfl,r,e.1,e.2,g,s⟩
     |_=>simp [dQ]at g
    |_=>simp [bL]at e
   |_=>cases h
  ·rw[yB f]at h;cases h
 |_=>cases h
theorem Fu(h:dM.contains k=true):dM[dM.idxOf k]? = some k/\∀i,i<dM.idxOf k->dM[i]? ≠ some k:=by
 have m:k∈dM:=by simpa using h
 have f:=List.idxOf_lt_length_of_mem m;refine⟨by rw[getElem?_eq_getElem f,List.getElem_idxOf],λi g e=>?_⟩;have:=List.not_of_lt_findIdx (p:=(· == k)) (xs:=dM) (i:=i) g;have b:i<dM.length:=lt_trans g f;rw[getElem?_eq_getElem b]at e;have e:=Option.some.inj e;rw[e]at this;simp at this
theorem vQ(h:fF k b=true):b.length<=61:=by
 unfold fF at h;split at h
 ·have:=of_decide_eq_true h;omega
 ·split at h
  ·simp only[and_eq_true,decide_eq_true_eq]at h;omega
  ·split at h
   ·simp only[and_eq_true,decide_eq_true_eq]at h;omega
   ·have:=of_decide_eq_true h;omega
end
abbrev rJ:Stmt:=top 31
section
variable{P:Program}{w:World}{K:Ma}{mg:Mc}{base:Heap}{aa8 aa1:Addr}
inductive fK(aa1:Addr)(vs:Mp)(H:Hp)(Q:VK)(E:XK):Prop
 |mk:∀v d,vs=[v]->Den H d v->(∀k n bs,d = .tuple [k,n,.tuple bs]->bs.length<=sizeLine)->(bQ d=true->∀p H',aG H H'->H' p=some (.tup ((Gz d).map V.int))->Q (.ref p) H')->(bQ d=false->∀H',aG H H'->E (.ref aa1) none H')->fK aa1 vs H Q E
theorem zY(F:Fun K "row_bytes" "row_bytes" rJ f fd)(T:TxtR K mg aa8 aa1)(p:‹15› "is_row" 3 ["thing"] mY)
  (r:‹15› "checks_of" 1 ["behind"] lF):‹14› 4 f fd ["row"] (fK aa1):=by
 refine F.okY ["row","number","body","figures","behind"] λaa A t s H vs Q E hr nD0 h=>?_;obtain⟨v,d,rfl,X,hz,q,qe⟩:=h;refine⟨_,aA (bG (cS (dE (bB p ‹18› bA ‹35›)))
   ‹94›
   aO)
  (aA (aW (i:=1) nD0 ⋯ ⋯ ‹24›)
  (aA (aW (i:=2) nD0 ⋯ ⋯ ‹24›)
  (aA (aW (i:=3) nD0 ⋯ ⋯ (bE (bT ‹31› (bT ‹26› (bT (bC dL (pv 1) aM) aF)))))
  (aA (aW (i:=4) nD0 ⋯ ⋯ (bC jH (bC jH (bC jH (bE (bT (bC cT (Lb K PySem.F.slot_tuple_index PySem.F.type_tuple_index (Fa K) (cO (v:=.ref aa8) ⋯ T.bi3 ⋯) (aN ‹24› aF)) aM) aF)) (pv 3)) (bE (cW (bJ (dI K) ⋯ T.ae0 gM ‹37›) aF))) (pv 2)))
  (aC (aP (bC jH (bB r ‹18› bA ‹60›) (pv 4)))))))),?_⟩
 refine⟨_,rfl,v,d,rfl,X,hz,λY u=>⟨_,rfl,?_⟩⟩;cases x:bQ d with
 |false=>exact aU ⟨(by show 1<=sizeLine;decide),qe x Y u⟩
 |true=>
  refine bD ?_;obtain⟨k,n,b,rfl,hk,n0,n9,y,hf⟩:=oG x;have e:=X.same u;simp only[Den,aT]at e;obtain⟨a,xs,rfl,ha,y0,r0,e0,k0,y1,r1,e1,k1,y2,r2,e2,⟨m,ys,k2,z,h2⟩,e3⟩:=e;subst e3 k0 k1 k2;subst e2;subst e1;subst e0;have ei:=pY h2 y;subst ei;have fl:=vQ hf;have B:SqT K Y a [.str k,.int n,.ref m]:=SqT.of ha;obtain⟨i1,i2⟩:=Fu hk;refine⟨_,rfl,a,_,_,_,rfl,rfl,B,cK (j:=1) rfl,?_⟩;refine⟨_,rfl,a,_,_,_,rfl,rfl,B,cK (j:=2) rfl,?_⟩;refine⟨_,rfl,_,_,rfl,rfl,⟨by decide,by decide⟩,_,rfl,_,_,rfl,rfl,⟨by decide,by decide⟩,_,_,rfl,rfl,(by show (0:Int)<256;decide),_,rfl,_,_,rfl,rfl,(by show (0:Int)<256;decide),(by show 3<=sizeLine;decide),λp3 D=>?_⟩;have G:=aD (o:=.tup [.int (n / 65536),.int (n / 256 % 256),.int (n % 256)]) D;refine⟨⟨aa8,rfl,.inr T.l_KINDS⟩,_,rfl,a,_,_,_,rfl,rfl,G.seqT B,cK (j:=0) rfl,aa8,dM,k,dM.idxOf k,rfl,rfl,T.bi4 _,i1,i2,?_⟩;refine⟨_,_,rfl,rfl,(by show 1<=sizeLine;decide),λp4 I=>?_⟩;have J:=aD (o:=.tup [V.int ((dM.idxOf k:Int)+1)]) I;refine⟨_,rfl,p4,p3,_,_,rfl,rfl,aB,J _ _ aB,(by show 1+3<=sizeLine;decide),λp5 H5 Z g5=>?_⟩;have g2:H5 m=some (.tup ((bX (.tuple b)).map V.int)):=Z _ _ (J _ _ (G _ _ z));refine⟨_,rfl,m,_,rfl,.inr (SqT.of g2),(by show 1<=sizeLine;decide),λp6 L=>?_⟩;have N:=aD (o:=.tup [V.int (((bX (.tuple b)).map V.int).length:Int)]) L;refine⟨p5,p6,_,_,rfl,rfl,N _ _ g5,aB,(by show 4+1<=sizeLine;decide),λp7 H7 S7 g7=>?_⟩;have zl:(100:Nat)<=sizeLine:=by decide
  refine⟨_,rfl,p7,m,_,_,rfl,rfl,g7,S7 _ _ (N _ _ g2),?_,λO H8 S8 g8=>?_⟩
  ·show 5+((bX (.tuple b)).map V.int).length<=sizeLine;rw[length_map];omega
  have eb:([V.int ((dM.idxOf k:Int)+1)]++[V.int (n / 65536),V.int (n / 256 % 256),V.int (n % 256)]++[V.int (((bX (.tuple b)).map V.int).length:Int)]++(bX (.tuple b)).map V.int)=(gN k n (bX (.tuple b))).map V.int:=by
   unfold gN;rw[length_map];simp
  have g:H8 O=some (.tup ((gN k n (bX (.tuple b))).map V.int)):=by rw[<- eb];exact g8
  have lb:(gN k n (bX (.tuple b))).length=5+(bX (.tuple b)).length:=by
   unfold gN;simp;omega
  refine⟨_,rfl,O,_,rfl,g,by omega,λp9 H9 S9 g9=>?_⟩;refine⟨_,rfl,p9,O,_,_,rfl,rfl,g9,S9 _ _ g,?_,λR S U W=>?_⟩
  ·show 2+((gN k n (bX (.tuple b))).map V.int).length<=sizeLine;rw[length_map];omega
  refine q x R S (u.trans (G.trans (J.trans (Z.trans (N.trans (S7.trans (S8.trans (S9.trans U)))))))) ?_;rw[W];simp only[Gz,iD,map_append];rfl
end
theorem gF(b:Mf):bX (.tuple (b.map .int))=b:=by
 show (b.map PyData.int).map _=b;rw[map_map];exact map_id _
theorem tH{ns:Mf}(h:∀b∈ns,0<=b/\b<=255):dQ (.tuple (ns.map .int))=true:=by
 show (ns.map PyData.int).all (bL 0 255)=true;rw[all_map,all_eq_true];intro b e;have:=h b e;show (decide (0<=b) && decide (b<=255))=true;rw[decide_eq_true this.1,decide_eq_true this.2];rfl
theorem cQ(e:D.nx=n)(h:n b H):Dc D b H:=by
 subst e;exact h
theorem aJ(h:n<=100:=by exact le_of_ble_eq_true rfl):n<=sizeLine:=le_trans h (by decide)
theorem eE(k:Str)(n:Int)(b:Mf):(iD k n b).length=7+b.length:=by
 unfold iD gN;simp;omega
abbrev xF:Stmt:=top 32
abbrev uQ:Stmt:=top 33
abbrev xE:Stmt:=top 34
structure TxtB(K:Ma)(mg:Mc)(aa8 aa1 aa6:Addr):Prop extends TxtR K mg aa8 aa1 where
 ap7:mg "list" = none
 bk7:∃t,mg "CHECKS_SIZE" = some (.int 2 t)
 bi2:∃t,mg "HEAD_SIZE" = some (.int 7 t)
 af8:dH K aa6=true
 az8:mg "Broken" = some (.ref aa6)
def dY(e:Mf):Prop:=∀b∈e,0<=b/\b<=255
section
variable{P:Program}{w:World}{K:Ma}{mg:Mc}{base:Heap}{aa8 aa1 aa6:Addr}
end
theorem kR(h:Den H d v):aT H [d] [v]:=by
 simp only[aT];exact⟨v,[],rfl,h,rfl⟩
theorem vY(e:dQ d=true):dY (bX d):=by
 cases d with
 |tuple m=>
  have e:m.all (bL 0 255)=true:=e;rw[all_eq_true]at e;intro b f;have f:b∈m.map λd=>match d with | .int i=>i |_=>0:=f
  rw[mem_map]at f;obtain⟨d,o,g⟩:=f;have n:=e d o;cases d with
  |int i=>
   have g:i=b:=g;subst g;simpa [bL] using n
  |_=>exact absurd n (by simp [bL])
 |_=>exact absurd e (by simp [dQ])
theorem JI(f:H a=some (.tup g))(h:∀b e,aG H e->e b=some (.tup (sM g lo m))->Q (.ref b) e):EA K (.ref a) lo m H Q:=by
 refine⟨a,g,rfl,SqT.of f,λz=>?_,λ_ p n=>h p _ (aD n) aB⟩;refine h a H (aG.refl H) ?_;rw[f];unfold sM;rw[z.1,z.2,List.drop_zero,Nat.sub_zero,take_length]
section
variable{P:Program}{w:World}{K:Ma}{mg:Mc}{base:Heap}{aa8 aa1 aa6:Addr}
end
mutual
def kB:PyData->Bool
 | .none | .bool _ | .int _=>true
 | .str x=>PyData.strOk x
 | .tuple b=>lR b
 | .list b=>lR b
 | .dict _=>false
def lR:Mj->Bool
 |[]=>true
 |d::b=>kB d && lR b
end
mutual
theorem vS:∀{d:PyData},kB d=true->PyData.eqv d d=true
 | .none,_=>rfl
 | .bool b,_=>by cases b <;> rfl
 | .int i,_=>by simp [PyData.eqv]
 | .str x,_=>by simp [PyData.eqv]
 | .tuple e,h=>by
  simp only[kB]at h;simp only[PyData.eqv];exact rC h
 | .list e,h=>by
  simp only[kB]at h;simp only[PyData.eqv];exact rC h
 | .dict _,h=>by simp [kB]at h
theorem rC:∀{b:Mj},lR b=true->PyData.eqvAll b b=true
 |[],_=>rfl
 |d::b,h=>by
  simp only[lR,and_eq_true]at h;simp only[PyData.eqvAll];rw[vS h.1,rC h.2];rfl
end
mutual
theorem EO:∀{d:PyData},kB d=true->PyData.canLay0 d=true
 | .none,_=>rfl
 | .bool b,_=>rfl
 | .int i,_=>rfl
 | .str x,h=>by
  simp only[kB]at h;simp only[PyData.canLay0];exact h
 | .tuple e,h=>by
  simp only[kB]at h;simp only[PyData.canLay0];exact vI h
 | .list e,h=>by
  simp only[kB]at h;simp only[PyData.canLay0];exact vI h
 | .dict _,h=>by simp [kB]at h
theorem vI:∀{b:Mj},lR b=true->PyData.canLayAll0 b=true
 |[],_=>rfl
 |d::b,h=>by
  simp only[lR,and_eq_true]at h;simp only[PyData.canLayAll0];rw[EO h.1,vI h.2];rfl
end
theorem yN:∀{b:Mj},(∀d∈b,PyData.depth d<=n)->PyData.depthAll b<=n
 |[],_=>zero_le _
 |d::b,h=>by
  simp only[PyData.depthAll];exact Nat.max_le.mpr ⟨h d (by simp),yN λx e=>h x (by simp [e])⟩
theorem uO:∀{b:Mj},(∀d∈b,kB d=true)->lR b=true
 |[],_=>rfl
 |d::b,h=>by
  simp only[lR];rw[h d (by simp),uO λx e=>h x (by simp [e])];rfl
theorem Gm(e:Mf):lR (e.map .int)=true:=uO λd b=>by
 rw[mem_map]at b;obtain⟨i,_,rfl⟩:=b;rfl
theorem mZ(h:kB d=true)(b:PyData.depth d<=64):SeqAt.shaped d=true:=by
 unfold SeqAt.shaped;rw[EO h,decide_eq_true b];rfl
theorem IY:bootBuiltins "max" = some (.builtin "max"):=by decide +kernel
theorem iN:bootBuiltins "sorted" = some (.builtin "sorted"):=by decide +kernel
theorem hu1(h:a+64<c):a+1<c:=by omega
abbrev Ent:=Mf×Int×Int
abbrev Mq:=List (Int×Ent)
def fQ(k:Str)(n:Int)(b:Mf):PyData:=.tuple [.str k,.int n,.tuple (b.map .int)]
structure Bk where
 es:Mq
 up:Int
 parts:List (Int×Mf)
def bM(b:Mq)(n:Int):Option Ent:=(b.find? λp=>decide (p.1=n)).map (·.2)
def eO(b:Mq)(n:Int)(e:Ent):Mq:=if (b.any λp=>decide (p.1=n))=true then b.map (λp=>if p.1=n then (p.1,e) else p) else b++[(n,e)]
def gJ(b:Mq)(n:Int):Mq:=b.filter λp=>decide (p.1≠n)
def mC(B:Bk)(n:Int)(b:Mf)(e:Int):Option Bk:=if n<B.up then none else some ⟨eO B.es n (b,0,e),n+1,B.parts⟩
def sD(b:Int):Bk->List (Int×Mf)->Option Bk
 |B,[]=>some B
 |B,p::e=>match mC B p.1 p.2 b with
  |none=>none
  |some f=>sD b f e
def yO(B:Bk)(n m:Int)(b:Int):Option Bk:=if B.parts.map (·.1)=(List.range m.toNat).map (λ(k:Nat)=>n+(k:Int)) then sD b ⟨B.es,B.up,[]⟩ B.parts else none
def Hr(i j:Int):Int:=if j > i then j else i
def dC(B:Bk)(k:Str)(n:Int)(b:Mf)(f:Int):Option Bk:=
 if k = "part" then some ⟨B.es,B.up,B.parts++[(n,b)]⟩
 else if k = "deal" then yO B n (b.getD 0 0) f
 else if B.parts≠[] then none
 else if k = "put" then mC B n b f
 else if k = "from" then some ⟨B.es,Hr B.up n,B.parts⟩
 else if k = "carried" then some ⟨eO B.es n (b.drop 1,b.getD 0 0,f),Hr B.up (n+1),B.parts⟩
 else match bM B.es n with
  |none=>some B
  |some e=>if k = "out" then some ⟨eO B.es n (e.1,e.2.1+1,e.2.2),B.up,B.parts⟩ else if k = "new" then some ⟨eO B.es n (e.1,0,e.2.2),B.up,B.parts⟩ else some ⟨gJ B.es n,B.up,B.parts⟩
theorem kF(b:Mq)(n:Int)(e:Ent):(eO b n e).length<=b.length+1:=by
 unfold eO;split
 ·rw[length_map];omega
 ·rw[length_append];exact le_refl _
def fX(H f:Hp):Prop:=∀b e,H b=some (.tup e)->f b=some (.tup e)
theorem aG.tup(s:aG H f):fX H f:=λb g e=>s b _ e
theorem fX.trans(a:fX H g)(b:fX g H2):fX H H2:=λc f e=>b c f (a c f e)
mutual
theorem Ee(e:fX H f):∀{d:PyData}{v:V},lT d=true->Den H d v->Den f d v
 | .none,v,t,h=>by simp only[Den]at h⊢;exact h
 | .bool b,v,t,h=>by simp only[Den]at h⊢;exact h
 | .int i,v,t,h=>by simp only[Den]at h⊢;exact h
 | .str x,v,t,h=>by simp only[Den]at h⊢;exact h
 | .tuple g,v,t,h=>by
  simp only[Den]at h⊢;simp only[lT]at t;obtain⟨a,m,n,o,p⟩:=h;exact⟨a,m,n,e _ _ o,gK e t p⟩
 | .list g,v,t,h=>by simp [lT]at t
 | .dict _,v,t,h=>by simp only[Den]at h
theorem gK(e:fX H g):∀{b:Mj}{f:Mp},fD b=true->aT H b f->aT g b f
 |[],f,t,h=>by simp only[aT]at h⊢;exact h
 |d::b,f,t,h=>by
  simp only[aT]at h⊢;simp only[fD,and_eq_true]at t;obtain⟨x,r,m,n,o⟩:=h;exact⟨x,r,m,Ee e t.1 n,gK e t.2 o⟩
end
inductive kQ(H:Hp)(v:V)(e:Ent):Prop
 |mk:∀t b,v = .ref t->H t=some (.tup [.ref b,.int e.2.1,.int e.2.2])->H b=some (.tup (e.1.map V.int))->kQ H v e
theorem kQ.t(s:fX H f)(h:kQ H v e):kQ f v e:=by
 obtain⟨t,b,g,m,n⟩:=h;exact⟨t,b,g,s _ _ m,s _ _ n⟩
def EsR(H:Hp):Mq->Mn->Prop
 |[],[]=>True
 |p::e,q::b=>q.1=Sum.inl p.1/\kQ H q.2 p.2/\EsR H e b
 |_,_=>False
theorem EsR.t(s:fX H f):∀{e:Mq}{b:Mn},EsR H e b->EsR f e b
 |[],[],_=>trivial
 |p::e,q::b,h=>⟨h.1,h.2.1.t s,EsR.t s h.2.2⟩
 |[],_::_,h=>h.elim
 |_::_,[],h=>h.elim
theorem EsR.len:∀{e:Mq}{b:Mn},EsR H e b->b.length=e.length
 |[],[],_=>rfl
 |p::e,q::b,h=>by rw[length_cons,length_cons,EsR.len h.2.2]
 |[],_::_,h=>h.elim
 |_::_,[],h=>h.elim
theorem EsR.keys:∀{e:Mq}{b:Mn},EsR H e b->b.map (·.1)=(e.map (·.1)).map Sum.inl
 |[],[],_=>rfl
 |p::e,q::b,h=>by rw[map_cons,map_cons,map_cons,h.1,EsR.keys h.2.2]
 |[],_::_,h=>h.elim
 |_::_,[],h=>h.elim
theorem AI:((Sum.inl a:Key)=Sum.inl b) ↔ a=b:=⟨Sum.inl.inj,λh=>by rw[h]⟩
theorem EsR.val:∀{f:Mq}{b:Mn},EsR H f b->(match bM f n with |none=>c9 b (Sum.inl n)=none |some e=>∃v,c9 b (Sum.inl n)=some v/\kQ H v e)
 |[],[],_=>rfl
 |p::f,q::b,h=>by
  obtain⟨g,m,o⟩:=h;have r:=EsR.val (n:=n) o;by_cases e:p.1=n
  ·have:bM (p::f) n=some p.2:=by simp [bM,e]
   rw[this];exact⟨q.2,iO (by rw[g,e]),m⟩
  ·have s:bM (p::f) n=bM f n:=by simp [bM,e]
   have u:c9 (q::b) (Sum.inl n)=c9 b (Sum.inl n):=iP (by rw[g,AI];exact e);rw[s,u];exact r
 |[],_::_,h=>h.elim
 |_::_,[],h=>h.elim
theorem EsR.any:∀{e:Mq}{b:Mn},EsR H e b->(b.any λf=>decide (f.1=Sum.inl n))=(e.any λp=>decide (p.1=n))
 |[],[],_=>rfl
 |p::e,q::b,h=>by
  obtain⟨g,o,m⟩:=h;rw[any_cons,any_cons,EsR.any m,g];congr 1;exact decide_eq_decide.mpr AI
 |[],_::_,h=>h.elim
 |_::_,[],h=>h.elim
theorem EsR.mapP(g:kQ H v e):∀{m:Mq}{b:Mn},EsR H m b->EsR H (m.map λp=>if p.1=n then (p.1,e) else p) (b.map λo=>if o.1=Sum.inl n then (o.1,v) else o)
 |[],[],_=>trivial
 |p::m,q::b,h=>by
  obtain⟨f,s,r⟩:=h;rw[map_cons,map_cons];by_cases z:p.1=n
  ·rw[if_pos z,if_pos (show q.1=Sum.inl n by rw[f,z])];exact⟨f,g,EsR.mapP g r⟩
  ·rw[if_neg z,if_neg (show ¬q.1=Sum.inl n by rw[f,AI];exact z)];exact⟨f,s,EsR.mapP g r⟩
 |[],_::_,h=>h.elim
 |_::_,[],h=>h.elim
theorem EsR.snoc(g:kQ H v e):∀{f:Mq}{b:Mn},EsR H f b->EsR H (f++[(n,e)]) (b++[(Sum.inl n,v)])
 |[],[],_=>⟨rfl,g,trivial⟩
 |p::f,q::b,h=>⟨h.1,h.2.1,EsR.snoc g h.2.2⟩
 |[],_::_,h=>h.elim
 |_::_,[],h=>h.elim
theorem EsR.put(h:EsR H f b)(g:kQ H v e):EsR H (eO f n e) (eF b (Sum.inl n) v):=by
 unfold eO eF;rw[h.any];by_cases z:(f.any λp=>decide (p.1=n))=true
 ·rw[if_pos z,if_pos z];exact h.mapP g
 ·rw[if_neg z,if_neg z];exact h.snoc g
theorem EsR.drop:∀{b:Mq}{e:Mn},EsR H b e->EsR H (gJ b n) (e7 e (Sum.inl n))
 |[],[],_=>trivial
 |p::b,q::e,h=>by
  obtain⟨f,o,r⟩:=h;have m:=EsR.drop (n:=n) r;by_cases z:p.1=n
  ·have g:gJ (p::b) n=gJ b n:=by simp [gJ,z]
   rw[g,yK (by rw[f,z])];exact m
  ·have g:gJ (p::b) n=p::gJ b n:=by simp [gJ,z]
   rw[g,yL (by rw[f,AI];exact z)];exact⟨f,o,m⟩
 |[],_::_,h=>h.elim
 |_::_,[],h=>h.elim
def fW(b:List (Int×Mf)):Mj:=b.map λp=>fQ "part" p.1 p.2
theorem lG(k:Str)(n:Int)(b:Mf):lT (fQ k n b)=true:=by
 have e:∀l:Mf,fD (l.map PyData.int)=true:=by
  intro l
  induction l with
  |nil=>rfl
  |cons x l f=>exact f
 unfold fQ;simp only[lT,fD,Bool.true_and,Bool.and_true];exact e b
theorem iJ:∀b:List (Int×Mf),fD (fW b)=true
 |[]=>rfl
 |p::b=>by
  show (lT (fQ "part" p.1 p.2) && fD (fW b))=true;rw[lG,iJ b];rfl
def bkF(b e:Addr)(f:Int):Mo:=[("entries",.ref b),("upcoming",.int f),("parts",.ref e)]
structure BookAt(C:Addr)(H:Hp)(bk de dp:Addr)(B:Bk):Prop where
 self:∃dx,H bk=some (.ins C dx (bkF de dp B.up))
 ent:∃kvs,H de=some (.dK kvs)/\EsR H B.es kvs
 par:∃ps,H dp=some (.lst ps)/\aT H (fW B.parts) ps
def Frm(e f g:Addr)(H m:Hp):Prop:=∀b o,H b=some o->b≠e->b≠f->b≠g->m b=some o
theorem Frm.refl(b f g:Addr)(H:Hp):Frm b f g H H:=λ_ _ e _ _ _=>e
theorem Frm.trans(a:Frm m n p H t)(b:Frm m n f t H2)(g:f=p\/H f=none):Frm m n p H H2:=λc o e q r s=>by
 refine b c o (a c o e q r s) q r ?_;rintro rfl;rcases g with rfl |g
 ·exact s rfl
 ·rw[g]at e;cases e
theorem aG.frm(s:aG H f):Frm g m dp H f:=λb o e _ _ _=>s b o e
theorem BookAt.tup(h:BookAt C H g m n B)(f:Frm g m n H o):fX H o:=λb t e=>by
 obtain⟨u,p⟩:=h.self;obtain⟨q,r,_⟩:=h.ent;obtain⟨x,s,_⟩:=h.par;exact f b _ e (by rintro rfl;rw[p]at e;cases e) (by rintro rfl;rw[r]at e;cases e) (by rintro rfl;rw[s]at e;cases e)
theorem BookAt.same(h:BookAt C H e f g B)(s:aG H m):BookAt C m e f g B:=by
 obtain⟨n,o⟩:=h.self;obtain⟨b,p,q⟩:=h.ent;obtain⟨r,t,u⟩:=h.par;exact⟨⟨n,s _ _ o⟩,⟨b,s _ _ p,q.t (aG.tup s)⟩,⟨r,s _ _ t,u.same s⟩⟩
theorem BookAt.ne(h:BookAt C H f g m B):f≠g/\f≠m/\g≠m:=by
 obtain⟨p,n⟩:=h.self;obtain⟨o,e,q⟩:=h.ent;obtain⟨r,b,s⟩:=h.par;refine⟨?_,?_,?_⟩
 ·rintro rfl;rw[n]at e;cases e
 ·rintro rfl;rw[n]at b;cases b
 ·rintro rfl;rw[e]at b;cases b
theorem kW(h:H a=some o)(g:∀f,o ≠ .tup f):fX H (upd H a o'):=λb f e=>by
 rw[aH (λz=>by rw[z,h]at e;exact g f (Option.some.inj e))];exact e
theorem vZ(h:BookAt C H g f m B)(hr:EsR H e b):BookAt C (upd H f (.dK b)) g f m ⟨e,B.up,B.parts⟩:=by
 obtain⟨n,D,o⟩:=h.ne;obtain⟨p,q⟩:=h.self;obtain⟨r,s,E⟩:=h.ent;obtain⟨u,x,y⟩:=h.par;have t:=kW (o':=.dK b) s (λI z=>by cases z);exact⟨⟨p,by rw[aH n];exact q⟩,⟨b,aB,hr.t t⟩,⟨u,by rw[aH (Ne.symm o)];exact x,gK t (iJ _) y⟩⟩
theorem tI(h:BookAt C H e f D B)(u:Int)(g:H b=some (.lst n))(p:aT H (fW parts) n):BookAt C (upd H e (.ins C dx (bkF f b u))) e f b ⟨B.es,u,parts⟩:=by
 obtain⟨q,E,G⟩:=h.ne;obtain⟨r,o⟩:=h.self;obtain⟨m,s,x⟩:=h.ent;have t:=kW (o':=.ins C dx (bkF f b u)) o (λJ z=>by cases z);have y:b≠e:=by
  rintro rfl;rw[o]at g;cases g
 exact⟨⟨dx,aB⟩,⟨m,by rw[aH (Ne.symm q)];exact s,x.t t⟩,⟨n,by rw[aH y];exact g,gK t (iJ _) p⟩⟩
theorem MP(h:BookAt C H n o m B)(p:aT H (fW b) e):BookAt C (upd H m (.lst e)) n o m ⟨B.es,B.up,b⟩:=by
 obtain⟨E,q,r⟩:=h.ne;obtain⟨f,s⟩:=h.self;obtain⟨g,u,x⟩:=h.ent;obtain⟨y,D,_⟩:=h.par;have t:=kW (o':=.lst e) D (λI z=>by cases z);exact⟨⟨f,by rw[aH q];exact s⟩,⟨g,by rw[aH r];exact u,x.t t⟩,⟨e,aB,gK t (iJ _) p⟩⟩
theorem AL:Frm f m n H (upd H f o):=λb u e g _ _=>by rw[aH g];exact e
theorem vN:Frm m f n H (upd H f o):=λb u e _ g _=>by rw[aH g];exact e
theorem MF:Frm m n f H (upd H f o):=λb u e _ _ g=>by rw[aH g];exact e
theorem Co:hU "parts" (.ref b) (bkF e f u)=bkF e b u:=rfl
structure TxtK(K:Ma)(mg:Mc)(aa8 aa1 aa6 aa3:Addr):Prop extends TxtR K mg aa8 aa1 where
 ap7:mg "list" = none
 bk2:mg "max" = none
 af7:mg "sorted" = none
 af8:dH K aa6=true
 az8:mg "Broken" = some (.ref aa6)
 cl:Cls K aa3
 ac4:dG K aa3 "entries"
 ab8:dG K aa3 "upcoming"
 ap8:dG K aa3 "parts"
abbrev Gu:Stmt:=bN (top 36) 0
abbrev Dy:Stmt:=bN (top 36) 1
abbrev rP:Stmt:=bN (top 36) 2
abbrev o0:Stmt:=bN (top 36) 3
abbrev A8:Stmt:=bN (top 36) 4
abbrev A5:Stmt:=bN (top 36) 5
abbrev xN:Stmt:=bN (top 36) 6
inductive iC(C:Addr)(aa6:Addr)(vs:Mp)(H:Hp)(Q:VK)(E:XK):Prop
 |mk:∀(bk de dp b:Addr)(B:Bk)(n seg:Int)(body:Mf),vs=[.ref bk,.int n,.ref b,.int seg]->BookAt C H bk de dp B->H b=some (.tup (body.map V.int))->B.es.length<1000->(∀B',mC B n body seg=some B'->∀H',Frm bk de dp H H'->BookAt C H' bk de dp B'->Q .non H')->(mC B n body seg=none->∀H',Frm bk de dp H H'->E (.ref aa6) none H')->iC C aa6 vs H Q E
inductive qN(C:Addr)(vs:Mp)(H:Hp)(Q:VK)(x_3:XK):Prop
 |mk:∀(bk de dp:Addr)(B:Bk)(k:Str)(n:Int)(e:Ent),vs=[.ref bk,.str k,.int n]->BookAt C H bk de dp B->bM B.es n=some e->B.es.length<1000->(∀H',Frm bk de dp H H'->BookAt C H' bk de dp (if k = "out" then ⟨eO B.es n (e.1,e.2.1+1,e.2.2),B.up,B.parts⟩ else if k = "new" then ⟨eO B.es n (e.1,0,e.2.2),B.up,B.parts⟩ else ⟨gJ B.es n,B.up,B.parts⟩)->Q .non H')->qN C vs H Q x_3
def AF(n:Int)(e:Ent):PyData:=.tuple [.int n,.tuple (e.1.map .int),.int e.2.1]
inductive mX(C:Addr)(vs:Mp)(H:Hp)(Q:VK)(x_3:XK):Prop
 |mk:∀(bk de dp:Addr)(B:Bk)(n:Int)(e:Ent),vs=[.ref bk,.int n]->BookAt C H bk de dp B->bM B.es n=some e->(∀p H',aG H H'->Den H' (AF n e) (.ref p)->Q (.ref p) H')->mX C vs H Q x_3
theorem hV(h:k=x):decide (V.str k=V.str x)=true:=decide_eq_true (by rw[h])
theorem gI(h:¬k=x):decide (V.str k=V.str x)=false:=decide_eq_false (λz=>h (V.str.inj z))
section
variable{P:Program}{w:World}{K:Ma}{mg:Mc}{base:Heap}{aa8 aa1 aa6 aa3:Addr}
theorem AB(F:Fun K "enter_put" "Book.enter_put" rP f Z)(T:‹8›):‹14› 1 f Z ["self","number","body","segment"] (iC aa3 aa6):=by
 refine F.okY ["self","number","body","segment"] λaa A G s H vs Q E hr nD0 h=>?_;obtain⟨y,z,dp,b,B,n,e,p,rfl,U,hb,hl,q,I⟩:=h;refine⟨_,aA (bG (aY vA (pv 1) ‹23› (bI _))
   ‹85›
   aO)
  (aA (fM (hu1 hr.units) ‹23› (pv 1) (bE (aE (pv 2) (aI aM ‹51›))) ⋯)
  (aC (dS (pv 0) (bC cT (pv 1) aM) ⋯))),?_⟩
 obtain⟨V,W⟩:=U.self;refine⟨_,rfl,_,rfl,y,_,V,_,_,rfl,W,T.cl,T.ab8,rfl,_,_,rfl,rfl,_,rfl,?_⟩;show if decide (n<B.up)=true then _ else _
 unfold mC at q I;by_cases D:n<B.up
 ·rw[if_pos (decide_eq_true D)];rw[if_pos D]at I;exact⟨(by show 1<=sizeLine;decide),I rfl H (Frm.refl _ _ _ _)⟩
 rw[if_neg (by rw[decide_eq_true_eq];exact D)];rw[if_neg D]at q;refine cQ rfl ?_;refine⟨_,rfl,_,rfl,(by show 3<=sizeLine;decide),λt ht=>?_⟩;have r:=aD (o:=.tup [.ref b,.int 0,.int e]) ht;generalize J:upd H t (.tup [.ref b,.int 0,.int e])=u at r⊢;have g1:u t=some (.tup [.ref b,.int 0,.int e]):=by rw[<- J];exact aB
 have x:=U.same r;obtain⟨m,h2,X⟩:=x.ent;have he:kQ u (.ref t) (p,0,e):=⟨t,b,rfl,g1,r _ _ hb⟩;have L:m.length<sizeLine:=by rw[X.len];exact lt_trans hl (by decide)
 refine⟨_,rfl,y,_,V,_,_,rfl,r _ _ W,T.cl,T.ac4,rfl,_,rfl,z,_,rfl,jU.k (k:=Sum.inl n) h2 L,?_⟩;have g:=vZ x (X.put (n:=n) he);have Y:Frm y z dp u (upd u z (.dK (eF m (Sum.inl n) (.ref t)))):=vN;generalize upd u z (.dK (eF m (Sum.inl n) (.ref t)))=H2 at g Y⊢;obtain⟨N,O⟩:=g.self;obtain⟨ab,R,S⟩:=g.par;refine⟨_,rfl,_,_,rfl,rfl,_,rfl,y,_,N,_,rfl,O,T.cl,T.ab8,(by show 3<1000;decide),?_⟩;exact q _ rfl _ (((aG.frm r).trans Y (.inl rfl)).trans AL (.inl rfl)) (tI g (n+1) R S)
theorem FW(F:Fun K "change_entry" "Book.change_entry" A8 f fd)(T:‹8›):‹14› 1 f fd ["self","kind","number"] (qN aa3):=by
 refine F.okY ["self","kind","number","entry"] λaa A U s H vs Q E hr nD0 h=>?_;obtain⟨L,r,dp,B,k,n,e,rfl,x,he,hl,q⟩:=h;refine⟨_,aA (aW (i:=3) nD0 ⋯ ⋯ (dO (hu1 hr.units) ‹23› (pv 2) (λ_ _=>rfl)))
  (aC (bG (aY fP (pv 1) bP (bI _))
   (aC (fM (hu1 hr.units) ‹23› (pv 2) (bE (aN ‹38› (bT (bC cT ‹38› aM) (aN ‹38› aF)))) ⋯))
   (aC (bG (aY fP (pv 1) bP (bI _))
    (aC (fM (hu1 hr.units) ‹23› (pv 2) (bE (aN ‹38› (aI aM (aN ‹38› aF)))) ⋯))
    ‹79›)))),?_⟩
 obtain⟨N,O⟩:=x.self;obtain⟨m,y,z⟩:=x.ent;have Y:=z.val (n:=n);rw[he]at Y;obtain⟨v,D,t,b,rfl,gt,Z⟩:=Y;have G:SqT K H t [.ref b,.int e.2.1,.int e.2.2]:=SqT.of gt;have dg:cR H r (.int n) (some (.ref t)):=by
  have:=cR.k (k:=Sum.inl n) y;rw[D]at this;exact this
 have I:m.length<sizeLine:=by rw[z.len];exact lt_trans hl (by decide)
 refine⟨_,rfl,L,_,N,_,_,rfl,O,T.cl,T.ac4,rfl,_,rfl,r,_,rfl,dg,?_⟩;refine⟨_,rfl,rfl,_,rfl,?_⟩;by_cases R:k = "out"
 ·rw[if_pos R]at q;rw[hV R];refine aU ?_;refine⟨_,rfl,t,_,_,_,rfl,rfl,G,cK (j:=0) rfl,_,rfl,t,_,_,_,rfl,rfl,G,cK (j:=1) rfl,_,_,rfl,rfl,_,rfl,t,_,_,_,rfl,rfl,G,cK (j:=2) rfl,(by show 3<=sizeLine;decide),λu V=>?_⟩;have g:=aD (o:=.tup [.ref b,.int (e.2.1+1),.int e.2.2]) V;generalize p:upd H u (.tup [.ref b,.int (e.2.1+1),.int e.2.2])=J at g⊢;have W:J u=some (.tup [.ref b,.int (e.2.1+1),.int e.2.2]):=by rw[<- p];exact aB
  have X:kQ J (.ref u) (e.1,e.2.1+1,e.2.2):=⟨u,b,rfl,W,g _ _ Z⟩;refine⟨_,rfl,L,_,N,_,_,rfl,g _ _ O,T.cl,T.ac4,rfl,_,rfl,r,_,rfl,jU.k (k:=Sum.inl n) (g _ _ y) I,?_⟩;exact q _ ((aG.frm g).trans vN (.inl rfl)) (vZ (x.same g) ((z.t (aG.tup g)).put X))
 rw[if_neg R]at q;rw[gI R];refine bD ⟨_,rfl,rfl,_,rfl,?_⟩;by_cases S:k = "new"
 ·rw[if_pos S]at q;rw[hV S];refine aU ?_;refine⟨_,rfl,t,_,_,_,rfl,rfl,G,cK (j:=0) rfl,_,rfl,t,_,_,_,rfl,rfl,G,cK (j:=2) rfl,(by show 3<=sizeLine;decide),λu V=>?_⟩;have g:=aD (o:=.tup [.ref b,.int 0,.int e.2.2]) V;generalize p:upd H u (.tup [.ref b,.int 0,.int e.2.2])=J at g⊢;have W:J u=some (.tup [.ref b,.int 0,.int e.2.2]):=by rw[<- p];exact aB
  have X:kQ J (.ref u) (e.1,0,e.2.2):=⟨u,b,rfl,W,g _ _ Z⟩;refine⟨_,rfl,L,_,N,_,_,rfl,g _ _ O,T.cl,T.ac4,rfl,_,rfl,r,_,rfl,jU.k (k:=Sum.inl n) (g _ _ y) I,?_⟩;exact q _ ((aG.frm g).trans vN (.inl rfl)) (vZ (x.same g) ((z.t (aG.tup g)).put X))
 rw[if_neg S]at q;rw[gI S];refine bD ?_;refine⟨_,rfl,L,_,N,_,_,rfl,O,T.cl,T.ac4,rfl,.inr (.inr (.inl ⟨rfl,.inl ⟨m,y⟩⟩)),_,rfl,r,m,Sum.inl n,_,rfl,rfl,y,D,?_⟩;exact q _ vN (vZ x z.drop)
theorem FT(F:Fun K "letter" "Book.letter" A5 f D)(T:‹8›):‹14› 1 f D ["self","number"] (mX aa3):=by
 refine F.okY ["self","number","entry"] λG A g s H Y Q E hr nD0 h=>?_;obtain⟨I,r,Z,B,n,e,rfl,u,J,q⟩:=h;refine⟨_,aA (aW (i:=2) nD0 ⋯ ⋯ ‹91›)
  (aC (aP (bE (aE (pv 1) (aN (cG (cU K) (pv 2) aM (λ_ _=>rfl)) (aN (cG (cU K) (pv 2) aM (λ_ _=>rfl)) aF)))))),?_⟩
 obtain⟨L,N⟩:=u.self;obtain⟨O,R,S⟩:=u.ent;have x:=S.val (n:=n);rw[J]at x;obtain⟨v,m,t,b,rfl,U,V⟩:=x;have y:SqT K H t [.ref b,.int e.2.1,.int e.2.2]:=SqT.of U;have W:cR H r (.int n) (some (.ref t)):=by
  have:=cR.k (k:=Sum.inl n) R;rw[m]at this;exact this
 refine⟨_,rfl,I,_,L,_,_,rfl,N,T.cl,T.ac4,rfl,_,rfl,r,_,rfl,W,?_⟩;refine⟨_,rfl,_,rfl,t,_,_,_,rfl,rfl,y,cK (j:=0) rfl,_,rfl,t,_,_,_,rfl,rfl,y,cK (j:=1) rfl,(by show 3<=sizeLine;decide),λp X=>?_⟩;have z:=aD (o:=.tup [.int n,.ref b,.int e.2.1]) X;refine q p _ z ?_;unfold AF;simp only[Den,aT];exact⟨p,_,rfl,aB,_,_,rfl,rfl,_,_,rfl,⟨b,_,rfl,z _ _ V,cB.mpr rfl⟩,_,_,rfl,rfl,rfl⟩
end
def mL(b:Mq)(n:Int):PyData:=AF n ((bM b n).getD ([],0,0))
inductive lB(C:Addr)(vs:Mp)(H:Hp)(Q:VK)(x_3:XK):Prop
 |mk:∀(bk de dp:Addr)(B:Bk),vs=[.ref bk]->BookAt C H bk de dp B->(B.es.length<800/\(B.es.map (·.1)).Pairwise (· <= ·))->(∀ms,List.Perm ms (B.es.map (·.1))->ms.Pairwise (· <= ·)->∀p H',aG H H'->H p=none->Den H' (.list (ms.map (mL B.es))) (.ref p)->Q (.ref p) H')->lB C vs H Q x_3
inductive jM(C:Addr)(aa6:Addr)(vs:Mp)(H:Hp)(Q:VK)(E:XK):Prop
 |mk:∀(bk de dp:Addr)(B:Bk)(n m seg:Int),vs=[.ref bk,.int n,.int m,.int seg]->BookAt C H bk de dp B->0<=n->n<=999999->0<=m->m<=9->B.es.length+B.parts.length<900->(∀B',yO B n m seg=some B'->∀dq H',Frm bk de dp H H'->H dq=none->BookAt C H' bk de dq B'->Q .non H')->(yO B n m seg=none->∀H',Frm bk de dp H H'->E (.ref aa6) none H')->jM C aa6 vs H Q E
theorem i9(h:n∈es.map (·.1)):∃e,bM es n=some e:=by
 induction es with
 |nil=>simp at h
 |cons p es b=>
  by_cases e:p.1=n
  ·exact⟨p.2,by simp [bM,e]⟩
  ·have:n∈es.map (·.1):=by
    rw[map_cons,mem_cons]at h;rcases h with h |h
    ·exact absurd h.symm e
    ·exact h
   obtain⟨x,f⟩:=b this;exact⟨x,by simpa [bM,e] using f⟩
theorem AE(n:Int)(e:Ent):lT (AF n e)=true:=by
 have b:∀l:Mf,fD (l.map PyData.int)=true:=by
  intro l
  induction l with
  |nil=>rfl
  |cons x l f=>exact f
 unfold AF;simp only[lT,fD,Bool.true_and,Bool.and_true];exact b _
theorem iH:∀{H:Hp}{f:Mj}{b:Mp},b.length=f.length->(∀(i:Nat)(y:V),b[i]? = some y->∃d,f[i]? = some d/\Den H d y)->aT H f b
 |H,[],[],_,_=>by simp only[aT]
 |H,d::f,y::b,g,h=>by
  simp only[aT];obtain⟨m,e,n⟩:=h 0 y rfl;cases (Option.some.inj e:d=m);exact⟨y,b,rfl,n,iH (by simpa using g) λi z o=>h (i+1) z o⟩
 |H,[],y::b,g,_=>by simp at g
 |H,d::f,[],g,_=>by simp at g
theorem nJ(b e:Mf):PyData.eqv (.list (b.map .int)) (.list (e.map .int))=decide (b=e):=by
 show PyData.eqvAll _ _=_;exact PySem.W.ked_eqvAll b e
theorem dU(b:Mf):SeqAt.shaped (.list (b.map .int))=true:=by
 unfold SeqAt.shaped;have e:PyData.canLay0 (.list (b.map .int))=true:=Bm b;have f:PyData.depth (.list (b.map .int))=1:=by
  show PyData.depthAll (b.map .int)+1=1;rw[depth_ints]
 rw[e,f];rfl
theorem uV(b:Int):∀{g:List (Int×Mf)}{B f:Bk},sD b B g=some f->f.parts=B.parts
 |[],B,f,h=>by
  cases (Option.some.inj h:B=f);rfl
 |p::g,B,f,h=>by
  unfold sD at h;cases e:mC B p.1 p.2 b with
  |none=>rw[e]at h;cases h
  |some m=>
   rw[e]at h;have:=uV b h;rw[this];unfold mC at e;split at e
   ·cases e
   ·cases (Option.some.inj e);rfl
section
variable{P:Program}{w:World}{K:Ma}{mg:Mc}{base:Heap}{aa8 aa1 aa6 aa3:Addr}
theorem C8(F:Fun K "letters" "Book.letters" xN f fd)(T:‹8›)(J:‹16› aa3 "letter" 1 ["self","number"] (mX aa3)):‹14› 2 f fd ["self"] (lB aa3):=by
 refine F.okY ["self"] λaa A L s H vs Q E hr nD0 h=>?_;obtain⟨G,Z,dp,B,rfl,N,hl,q⟩:=h;refine⟨_,aC (aP (cV ["number"] [("self",0)] ⋯ ‹78› ‹32› ‹41› (λC s2 H2 ex=>(cM J T.cl ‹18› bA (pv 1) ‹35›)))),?_⟩;obtain⟨dx,h1⟩:=N.self;obtain⟨O,h2,h3⟩:=N.ent;refine⟨_,rfl,G,_,dx,_,_,rfl,h1,T.cl,T.ac4,rfl,Z,O,_,rfl,h2,h3.keys,.inr hl.2,by rw[length_map];omega,λp g b pw hp=>?_⟩;have I:=aD (o:=.lst (g.map .int)) hp;generalize R:upd H p (.lst (g.map .int))=H1 at I⊢;have g1:H1 p=some (.lst (g.map .int)):=by rw[<- R];exact aB
 have lm:(g.map V.int).length=g.length:=length_map _;have pl:=b.length_eq;rw[length_map]at pl;refine⟨p,rfl,⟨_,SqL.of g1⟩,?_⟩;refine c8 (bO (K:=K) (SqL.of g1)) ?zl (λi y S=>∃n,g[i]? = some n/\Den S (mL B.es n) y) (λi y H1 H2 s h=>by obtain⟨n,e,h⟩:=h;exact⟨n,e,h.n s (AE _ _)⟩) (λσ=>∃z,σ = [z,some (.ref G)]) ?z0 ?_ ?_
 case zl=>
  rw[lm,pl];exact le_of_lt (lt_trans hl.1 (by decide))
 case z0=>exact⟨none,rfl⟩
 ·intro i x ab H3 hi U s3 m Q' W;obtain⟨z,rfl⟩:=U;rw[getElem?_map]at m;cases e:g[i]? with
  |none=>rw[e]at m;cases m
  |some n=>
   rw[e]at m;cases m;have X:n∈B.es.map (·.1):=b.mem_iff.mp (mem_of_getElem? e);obtain⟨en,r⟩:=i9 X;have t:aG H H3:=I.trans s3;refine⟨_,rfl,G,dx,_,rfl,t _ _ h1,rfl,_,rfl,G,Z,dp,B,n,en,rfl,N.same t,r,λp4 H4 S4 d4=>?_⟩;refine W _ _ _ ⟨_,rfl⟩ S4 ⟨n,e,?_⟩;unfold mL;rw[r];exact d4
 ·intro D ys S hD s' Y u hR;refine q g b pw D S (I.trans s') (I.free hD) ?_;simp only[Den];refine⟨D,ys,rfl,Y,iH (by rw[length_map,u,lm]) λi y e=>?_⟩;obtain⟨n,e1,e2⟩:=hR i y e;exact⟨_,by rw[getElem?_map,e1];rfl,e2⟩
theorem wF(F:Fun K "enter_deal" "Book.enter_deal" o0 f fd)(T:‹8›)(ah:‹16› aa3 "enter_put" 1 ["self","number","body","segment"] (iC aa3 aa6)):‹14› 2 f fd ["self","number","many","segment"] (jM aa3 aa6):=by
 refine F.okY ["self","number","many","segment","parts","part"] λa3 A ai s H vs Q E hr nD0 h=>?_;obtain⟨I,U,r,B,n,m,g,rfl,hB,n0,n9,m0,m9,hl,q,qe⟩:=h;refine⟨_,aA (aW (i:=4) nD0 ⋯ ⋯ ‹23›)
  (aA (dS (pv 0) (cD aF) ⋯)
  (aA (bG (aY (Ct hr.units) (cV ["part"] [] ⋯ (bU K (pv 4)) (λC s2 H2 ex=>(bH (i:=0) (show List.Nodup (["part"]:Mg) by decide +kernel) ⋯ (Or.inl ⋯))) ‹41› (λC s2 H2 ex=>‹24›)) (u7 ⋯ ⋯ T.ap7 ⋯ T.af1 (aE (pv 1) (bT (bC cT (pv 1) (pv 2)) aF))) (bI _))
   ‹85›
   aO)
  (aC (eQ (i8 dF) ⋯ (bU K (pv 4)) (bH (i:=5) nD0 ⋯ ⋯)
   (aC (aX (cM ah T.cl ‹18› bR (pv 0) (aN ‹58› (aN ‹58› ‹51›))))))))),?_⟩
 obtain⟨X,h1⟩:=hB.self;obtain⟨W,h4,h5⟩:=hB.par;obtain⟨a4,ab,aj⟩:=hB.ne;refine⟨_,rfl,I,_,X,_,_,rfl,h1,T.cl,T.ap8,rfl,?_⟩;refine⟨(by show 0<=sizeLine;decide),λO J=>?_⟩;have S1:=aD (o:=.lst []) J;generalize ak:upd H O (.lst [])=H1 at S1⊢;have g1:H1 O=some (.lst []):=by rw[<- ak];exact aB
 refine⟨_,rfl,I,_,X,_,rfl,S1 _ _ h1,T.cl,T.ap8,(by show 3<1000;decide),?_⟩;have ac:=tI (hB.same S1) (dx:=X) B.up (parts:=[]) g1 (by simp only[fW,map_nil,aT]);have F2:Frm I U r H (upd H1 I (.ins aa3 X (bkF U O B.up))):=(aG.frm S1).trans AL (.inl rfl);have g2:upd H1 I (.ins aa3 X (bkF U O B.up)) r=some (.lst W):=by rw[aH (Ne.symm ab)];exact S1 _ _ h4
 have T2:fX H (upd H1 I (.ins aa3 X (bkF U O B.up))):=hB.tup F2;rw[Co];generalize upd H1 I (.ins aa3 X (bkF U O B.up))=H2 at ac F2 g2 T2⊢;have d2:aT H2 (fW B.parts) W:=gK T2 (iJ _) h5;have lp:W.length=B.parts.length:=by rw[h5.length];unfold fW;rw[length_map]
 have ad:O≠r:=λz=>by rw[z,h4]at J;cases J
 refine⟨_,rfl,r,rfl,⟨_,SqL.of g2⟩,?_⟩;refine c8 (bO (K:=K) (SqL.of g2)) ?zl (λi y _=>∃p,B.parts[i]? = some p/\y = .int p.1) (λi y H1 H2 s h=>h) (λσ=>σ.length=1) ?z0 ?_ ?_
 case zl=>
  rw[lp];exact le_of_lt (lt_trans (show _<900 by omega) (by decide))
 case z0=>rfl
 ·intro i x am H3 hi an s3 hx Q' ao;obtain⟨d,L,dn⟩:=d2.get hx;unfold fW at L;rw[getElem?_map]at L;cases e:B.parts[i]? with
  |none=>rw[e]at L;cases L
  |some u=>
   rw[e]at L;cases (Option.some.inj L:fQ "part" u.1 u.2=d);have G:=dn.same s3;unfold fQ at G;simp only[Den,aT]at G;obtain⟨t,xt,rfl,gt,y0,r0,f0,f1,y1,r1,f2,f3,y2,r2,f4,⟨pb,yb,f5,gb,db⟩,f6⟩:=G;subst f6 f5 f4 f3 f2 f1 f0
   match am,an with
   |[z],_=>
    refine⟨_,rfl,t,_,_,_,rfl,rfl,SqT.of gt,cK (j:=1) rfl,?_⟩;exact ao _ _ _ rfl (aG.refl _) ⟨u,e,rfl⟩
 intro D ys H3 hD S3 g3 a2 hR;have ey:ys=(B.parts.map (·.1)).map V.int:=by
  apply ext_getElem?;intro i;cases e:ys[i]? with
  |none=>
   have:ys.length<=i:=List.getElem?_eq_none_iff.mp e;rw[getElem?_eq_none (by rw[length_map,length_map];omega)]
  |some y=>
   obtain⟨p,e1,e2⟩:=hR i y e;rw[getElem?_map,getElem?_map,e1,e2];rfl
 have ap:(n+m-n).toNat=m.toNat:=by omega
 refine⟨_,rfl,_,rfl,_,rfl,_,_,rfl,rfl,n,n+m,rfl,⟨by omega,by omega,by omega,by omega⟩,le_trans (show _<=9 by omega) (by decide),λp4 aq=>?_⟩;rw[ap];have er:((List.range m.toNat).map λ(k:Nat)=>V.int (n+(k:Int)))=((List.range m.toNat).map λ(k:Nat)=>n+(k:Int)).map V.int:=by rw[map_map];rfl
 rw[er];have S4:=aD (o:=.lst (((List.range m.toNat).map λ(k:Nat)=>n+(k:Int)).map V.int)) aq;generalize ar:upd H3 p4 (.lst (((List.range m.toNat).map λ(k:Nat)=>n+(k:Int)).map V.int))=Y at S4⊢;have g4:Y p4=some (.lst (((List.range m.toNat).map λ(k:Nat)=>n+(k:Int)).map V.int)):=by rw[<- ar];exact aB
 have dA:Den Y (.list ((B.parts.map (·.1)).map .int)) (.ref D):=by
  simp only[Den];exact⟨D,ys,rfl,S4 _ _ g3,by rw[ey];exact cB.mpr rfl⟩
 have dB:Den Y (.list (((List.range m.toNat).map λ(k:Nat)=>n+(k:Int)).map .int)) (.ref p4):=by
  simp only[Den];exact⟨p4,_,rfl,g4,cB.mpr rfl⟩
 refine⟨_,_,dA,dB,dU _,dU _,_,rfl,?_⟩;rw[nJ];have F4:Frm I U r H Y:=F2.trans (aG.frm (S3.trans S4)) (.inl rfl);unfold yO at q qe;by_cases hc:B.parts.map (·.1)=(List.range m.toNat).map λ(k:Nat)=>n+(k:Int)
 case neg=>
  rw[if_neg hc]at qe;rw[decide_eq_false hc];exact aU ⟨(by show 1<=sizeLine;decide),qe rfl Y F4⟩
 rw[if_pos hc]at q qe;rw[decide_eq_true hc];refine bD ?_;refine cQ rfl ?_;have as:=ac.same (S3.trans S4);have ae:Y r=some (.lst W):=S4 _ _ (S3 _ _ g2);have d4:aT Y (fW B.parts) W:=(d2.same S3).same S4;refine⟨_,rfl,r,rfl,⟨_,SqL.of ae⟩,?_⟩;have au:SqL K (λa=>if a=r then some (.lst W) else none) r W:=SqL.of (if_pos rfl);refine fR (H0:=λa=>if a=r then some (.lst W) else none) (bO (K:=K) au) (λi σ H'=>H' r=some (.lst W)/\fX Y H'/\Frm I U r H H'/\i<=B.parts.length/\∃R z5,BookAt aa3 H' I U O R/\R.es.length<=B.es.length+i/\sD g ⟨B.es,B.up,[]⟩ B.parts=sD g R (B.parts.drop i)/\σ = [some (.ref I),some (.int n),some (.int m),some (.int g),some (.ref r),z5]) ?i0 ?kp ?_ ?_
 case i0=>exact⟨ae,λ_ _ e=>e,F4,zero_le _,_,none,as,le_refl _,rfl,rfl⟩
 case kp=>
  intro i σ H' h b o e;by_cases z:b=r
  ·subst z;have e:some (HO.lst W)=some o:=by simpa using e
   rw[<- e];exact h.1
  ·have e:none=some o:=by simpa [z] using e
   cases e
 ·rintro i x σ H5 H6 hi ⟨af,t5,f5,av,R,z5,Z,aw,N,rfl⟩ s6 hx;obtain⟨d,L,dn⟩:=d4.get hx;unfold fW at L;rw[getElem?_map]at L;cases e:B.parts[i]? with
  |none=>rw[e]at L;cases L
  |some u=>
   rw[e]at L;cases (Option.some.inj L:fQ "part" u.1 u.2=d);have G:=Ee (t5.trans (aG.tup s6)) (lG _ _ _) dn;unfold fQ at G;simp only[Den,aT]at G;obtain⟨t,xt,rfl,gt,y0,r0,f0,f1,y1,r1,f2,f3,y2,r2,f4,⟨pb,yb,ax,gb,db⟩,f6⟩:=G;have eb:=cB.mp db;subst eb f6 ax f4 f3 f2 f1 f0;have iL:i<B.parts.length:=(List.getElem?_eq_some_iff.mp e).1;have ed:B.parts.drop i=u::B.parts.drop (i+1):=by
    rw[drop_eq_getElem_cons iL];have:=(List.getElem?_eq_some_iff.mp e).2;rw[this]
   rw[ed]at N;have aa:=Z.same s6;obtain⟨ay,az⟩:=aa.self;refine⟨_,rfl,I,ay,_,rfl,az,rfl,_,rfl,t,_,_,_,rfl,rfl,SqT.of gt,cK (j:=1) rfl,_,rfl,t,_,_,_,rfl,rfl,SqT.of gt,cK (j:=2) rfl,_,rfl,I,U,O,pb,R,u.1,g,u.2,rfl,aa,gb,by omega,λB' S H7 f7 a0=>?_,λhn H7 f7=>?_⟩
   ·have ag:O=r\/H O=none:=.inr J;have a1:Frm I U r H H7:=(f5.trans (aG.frm (dp:=r) s6) (.inl rfl)).trans f7 ag;refine⟨f7 _ _ (s6 _ _ af) (Ne.symm ab) (λz=>aj z.symm) (Ne.symm ad),(t5.trans (aG.tup s6)).trans (aa.tup f7),a1,iL,B',_,a0,?_,?_,rfl⟩
    ·unfold mC at S;split at S
     ·cases S
     ·cases (Option.some.inj S);have:=kF R.es u.1 (u.2,0,g);show (eO R.es u.1 (u.2,0,g)).length<=_;omega
    ·rw[N];show (match mC R u.1 u.2 g with |none=>none |some B'=>sD g B' (B.parts.drop (i+1)))=_;rw[S]
   ·refine qe ?_ H7 ((f5.trans (aG.frm (dp:=r) s6) (.inl rfl)).trans f7 (.inr J));rw[N];show (match mC R u.1 u.2 g with |none=>none |some B'=>sD g B' (B.parts.drop (i+1)))=none;rw[hn]
 ·rintro σ H5 ⟨af,t5,f5,av,R,z5,Z,aw,N,rfl⟩;rw[lp,List.drop_of_length_le (le_refl _)]at N;exact q R N O H5 f5 J Z
end
inductive oV(C:Addr)(aa6:Addr)(vs:Mp)(H:Hp)(Q:VK)(E:XK):Prop
 |mk:∀(bk de dp pr:Addr)(B:Bk)(k:Str)(n seg:Int)(body:Mf),vs=[.ref bk,.ref pr,.int seg]->BookAt C H bk de dp B->Den H (fQ k n body) (.ref pr)->bQ (fQ k n body)=true->B.es.length+B.parts.length<900->(∀B',dC B k n body seg=some B'->∀dq H',Frm bk de dp H H'->(dq=dp\/H dq=none)->BookAt C H' bk de dq B'->Q .non H')->(dC B k n body seg=none->∀H',Frm bk de dp H H'->E (.ref aa6) none H')->oV C aa6 vs H Q E
inductive zJ(C:Addr)(vs:Mp)(H:Hp)(Q:VK)(x_3:XK):Prop
 |mk:∀(bk dx:Addr),vs=[.ref bk]->H bk=some (.ins C dx [])->(∀de dp H',(∀b o,H b=some o->b≠bk->H' b=some o)->H de=none->H dp=none->BookAt C H' bk de dp ⟨[],0,[]⟩->Q .non H')->zJ C vs H Q x_3
theorem xT(h:bQ (fQ k n body)=true):k∈dM/\0<=n/\n<=999999/\(k = "deal"->1<=body.length/\1<=body.getD 0 0/\body.getD 0 0<=9)/\(k = "carried"->1<=body.length)/\body.length<=61:=by
 unfold fQ at h;simp only[bQ,and_eq_true]at h;obtain⟨m,e,p,b⟩:=h;rw[gF]at b;simp only[bL,and_eq_true,decide_eq_true_eq]at e;refine⟨by simpa using m,e.1,e.2,?_,?_,?_⟩
 ·rintro rfl;unfold fF at b;rw[if_neg (by decide),if_neg (by decide),if_pos rfl]at b;simp only[and_eq_true,decide_eq_true_eq]at b;obtain⟨⟨o,f⟩,g⟩:=b
  match body,o,f,g with
  |[x],_,f,g=>exact⟨le_refl _,f,g⟩
 ·rintro rfl;unfold fF at b;rw[if_neg (by decide),if_pos rfl]at b;simp only[and_eq_true,decide_eq_true_eq]at b;exact b.1.1
 ·unfold fF at b;split at b
  ·have:=of_decide_eq_true b;omega
  ·split at b
   ·simp only[and_eq_true,decide_eq_true_eq]at b;omega
   ·split at b
    ·simp only[and_eq_true,decide_eq_true_eq]at b;omega
    ·have:=of_decide_eq_true b;omega
theorem yR(h:1<=b.length):sM b (some 1) none=b.drop 1:=by
 unfold sM;have e:HT.sIx b.length 0 (some 1)=1:=(HT.JL b.length 0 1).trans (Nat.min_eq_left h);rw[e,HT.Gx,List.take_of_length_le (by rw[List.length_drop];omega)]
section
variable{P:Program}{w:World}{K:Ma}{mg:Mc}{base:Heap}{aa8 aa1 aa6 aa3:Addr}
theorem Jo(F:Fun K "__init__" "Book.__init__" Gu f S)(T:‹8›):‹14› 1 f S ["self"] (zJ aa3):=by
 refine F.okY ["self"] λU A G s H V Q E hr nD0 h=>?_;obtain⟨m,t,rfl,I,q⟩:=h;refine⟨_,aA (dS (pv 0) i4 ⋯)
  (aA (dS (pv 0) aM ⋯)
  (aC (dS (pv 0) (cD aF) ⋯))),?_⟩
 refine λp u=>?_;have n:m≠p:=λz=>by rw[z,u]at I;cases I
 refine⟨_,rfl,m,_,t,_,rfl,by rw[aH n];exact I,T.cl,T.ac4,(by show 0<1000;decide),?_⟩;refine⟨_,rfl,m,_,t,_,rfl,aB,T.cl,T.ab8,(by show 1<1000;decide),?_⟩;refine⟨(by show 0<=sizeLine;decide),λB g=>?_⟩;generalize x:upd (upd (upd H p (.dK [])) m (.ins aa3 t (hU "entries" (.ref p) []))) m (.ins aa3 t (hU "upcoming" (.int 0) (hU "entries" (.ref p) [])))=J at g⊢;have N:J m=some (.ins aa3 t (hU "upcoming" (.int 0) (hU "entries" (.ref p) []))):=by rw[<- x];exact aB
 have O:J p=some (.dK []):=by rw[<- x,aH (Ne.symm n),aH (Ne.symm n)];exact aB
 have R:∀b o,H b=some o->b≠m->J b=some o:=λb o e D=>by
  rw[<- x,aH D,aH D,aH (λz=>by rw[z,u]at e;cases e)];exact e
 have y:m≠B:=λz=>by rw[<- z,N]at g;cases g
 have L:p≠B:=λz=>by rw[<- z,O]at g;cases g
 have r:H B=none:=by
  cases e:H B with
  |none=>rfl
  |some o=>rw[R B o e (Ne.symm y)]at g;cases g
 refine⟨_,rfl,m,_,t,_,rfl,by rw[aH y];exact N,T.cl,T.ap8,(by show 2<1000;decide),?_⟩;refine q p B _ (λb o e D=>?_) u r ⟨⟨t,?_⟩,⟨[],?_,trivial⟩,⟨[],?_,by simp only[fW,map_nil,aT]⟩⟩
 ·rw[aH D,aH (λz=>by rw[z,r]at e;cases e)];exact R b o e D
 ·rw[aB];rfl
 ·rw[aH (Ne.symm n),aH L];exact O
 ·rw[aH (Ne.symm y)];exact aB
theorem Hd(F:Fun K "enter" "Book.enter" Dy f fd)(T:‹8›)(af:‹16› aa3 "enter_put" 1 ["self","number","body","segment"] (iC aa3 aa6))
  (ag:‹16› aa3 "enter_deal" 2 ["self","number","many","segment"] (jM aa3 aa6)) (ah:‹16› aa3 "change_entry" 1 ["self","kind","number"] (qN aa3)):‹14› 3 f fd ["self","row","segment"] (oV aa3 aa6):=by
 refine F.okY ["self","row","segment","kind","number","body"] λao A ai s H vs Q E hr nD0 h=>?_;obtain⟨g,O,r,pr,B,k,n,m,b,rfl,y,hd,aa,hl,q,p⟩:=h;refine⟨_,aA (aW (i:=3) nD0 ⋯ ⋯ ‹21›)
  (aA (aW (i:=4) nD0 ⋯ ⋯ ‹21›)
  (aA (aW (i:=5) nD0 ⋯ ⋯ ‹21›)
  (aC (bG ‹52›
   (aC (aX (i5 K PySem.F.plainAttrs_list PySem.F.slot_list_append PySem.F.type_list_append iK ‹23› ‹29›)))
   (aC (bG ‹52›
    (aC (aX (cM ag T.cl ‹18› bR (pv 0) (aE (pv 4) (aN ‹58› ‹37›)))))
    (aC (bG (iY K ‹23›)
     ‹85›
     (aC (bG ‹52›
      (aC (aX (cM af T.cl ‹18› bR (pv 0) (aE (pv 4) (aE (pv 5) ‹37›)))))
      (aC (bG ‹52›
       (aC (dS (pv 0) (bJ (yT ⋯) ⋯ T.bk2 IY (gC ‹23› ‹60›)) ⋯))
       (aC (bG ‹52›
        (aA (fM (hu1 hr.units) ‹23› (pv 4) (bE (aN (mG (Do K) (pv 5) (m6 aM) sW) (aN ‹58› ‹37›))) ⋯)
        (aC (dS (pv 0) (bJ (yT ⋯) ⋯ T.bk2 IY (gC ‹23› (bT (bC cT (pv 4) aM) aF))) ⋯)))
        (aC (bG (n8 (HN (hu1 hr.units) (pv 4) ‹23›))
         (aC (aX (cM ah T.cl ‹18› bA (pv 0) (aE (pv 3) ‹60›))))
         aO)))))))))))))))),?_⟩
 obtain⟨hk,n0,n9,R,ab,ap⟩:=xT aa;obtain⟨D,G⟩:=y.self;obtain⟨I,h2,h3⟩:=y.ent;obtain⟨S,h4,h5⟩:=y.par;have U:=hd;unfold fQ at U;simp only[Den,aT]at U;obtain⟨t,xt,et,gt,y0,r0,f0,f1,y1,r1,f2,f3,y2,r2,f4,⟨pb,yb,f5,gb,db⟩,f6⟩:=U;have eb:=cB.mp db;cases et;subst eb f6 f5 f4 f3 f2 f1 f0;have sq:SqT K H pr [.str k,.int n,.ref pb]:=SqT.of gt;have ac:SqT K H pb (b.map V.int):=SqT.of gb;have lp:S.length=B.parts.length:=by rw[h5.length];unfold fW;rw[length_map]
 have aj:I.length<sizeLine:=by rw[h3.len];exact lt_trans (show _<900 by omega) (by decide)
 refine⟨_,rfl,pr,_,_,_,rfl,rfl,sq,cK (j:=0) rfl,_,rfl,pr,_,_,_,rfl,rfl,sq,cK (j:=1) rfl,_,rfl,pr,_,_,_,rfl,rfl,sq,cK (j:=2) rfl,?_⟩;unfold dC at q p;refine⟨_,rfl,rfl,_,rfl,?_⟩;by_cases k1:k = "part"
 ·rw[if_pos k1]at q;rw[hV k1];refine aU ?_;refine⟨_,rfl,g,_,D,_,_,rfl,G,T.cl,T.ap8,rfl,.inl ⟨rfl,_,SqL.of h4⟩,_,rfl,r,_,_,rfl,rfl,h4,by rw[lp];exact lt_trans (show _<900 by omega) (by decide),?_⟩;refine q _ rfl r _ MF (.inl rfl) (MP y ?_);show aT H (fW (B.parts++[(n,b)])) (S++[.ref pr]);unfold fW;rw[map_append];refine h5.app (kR ?_);rw[<- k1];exact hd
 rw[if_neg k1]at q p;rw[gI k1];refine bD ⟨_,rfl,rfl,_,rfl,?_⟩;by_cases k2:k = "deal"
 ·rw[if_pos k2]at q p;rw[hV k2];refine aU ?_;obtain⟨b1,b2,b3⟩:=R k2;have W:atI (b.map V.int) 0=some (.int (b.getD 0 0)):=by
   refine cK (j:=0) ?_;rw[getElem?_map,getD_eq_getElem?_getD,getElem?_eq_getElem (by omega)];rfl
  refine⟨_,rfl,g,D,_,rfl,G,rfl,_,rfl,_,rfl,pb,_,_,_,rfl,rfl,ac,W,_,rfl,g,O,r,B,n,b.getD 0 0,m,rfl,y,n0,n9,by omega,b3,hl,λB' X dq J L hq h'=>q B' X dq J L (.inr hq) h',λhn J L=>p hn J L⟩
 rw[if_neg k2]at q p;rw[gI k2];refine bD ?_;refine⟨_,rfl,g,_,D,_,_,rfl,G,T.cl,T.ap8,rfl,r,S,rfl,SqL.of h4,?_⟩;by_cases kp:B.parts=[]
 case neg=>
  rw[if_pos kp]at p;have:(!S.isEmpty)=true:=by
   cases S with
   |nil=>
    rw[length_nil]at lp;exact absurd (List.length_eq_zero_iff.mp lp.symm) kp
   |cons _ _=>rfl
  rw[this];exact aU ⟨(by show 1<=sizeLine;decide),p rfl H (Frm.refl _ _ _ _)⟩
 rw[if_neg (λz=>z kp)]at q p;have:(!S.isEmpty)=false:=by
  cases S with
  |nil=>rfl
  |cons _ _=>
   rw[kp]at lp;simp at lp
 rw[this];refine bD ⟨_,rfl,rfl,_,rfl,?_⟩;by_cases k3:k = "put"
 ·rw[if_pos k3]at q p;rw[hV k3];refine aU ?_;refine⟨_,rfl,g,D,_,rfl,G,rfl,_,rfl,_,rfl,_,rfl,g,O,r,pb,B,n,m,b,rfl,y,gb,by omega,λB' X J L h'=>q B' X r J L (.inl rfl) h',λhn J L=>p hn J L⟩
 rw[if_neg k3]at q p;rw[gI k3];refine bD ⟨_,rfl,rfl,_,rfl,?_⟩;by_cases k4:k = "from"
 ·rw[if_pos k4]at q;rw[hV k4];refine aU ?_;refine⟨_,rfl,g,_,D,_,_,rfl,G,T.cl,T.ab8,rfl,_,rfl,_,_,rfl,_,rfl,g,_,D,_,rfl,G,T.cl,T.ab8,(by show 3<1000;decide),?_⟩;exact q _ rfl r _ AL (.inl rfl) (tI y (Hr B.up n) h4 h5)
 rw[if_neg k4]at q p;rw[gI k4];refine bD ⟨_,rfl,rfl,_,rfl,?_⟩;by_cases k5:k = "carried"
 ·rw[if_pos k5]at q;rw[hV k5];refine aU ?_;have b1:=ab k5;have W:atI (b.map V.int) 0=some (.int (b.getD 0 0)):=by
   refine cK (j:=0) ?_;rw[getElem?_map,getD_eq_getElem?_getD,getElem?_eq_getElem (by omega)];rfl
  refine⟨_,rfl,_,rfl,?_⟩;dsimp only[Db];refine JI gb λp5 H5 S5 g5=>?_;rw[yR (by rw[length_map];exact b1),<- List.map_drop]at g5;refine⟨_,rfl,pb,_,_,_,rfl,rfl,S5.seqT ac,W,_,rfl,(by show 3<=sizeLine;decide),λu hu=>?_⟩;have S6:=aD (o:=.tup [.ref p5,.int (b.getD 0 0),.int m]) hu;generalize ak:upd H5 u (.tup [.ref p5,.int (b.getD 0 0),.int m])=Y at S6⊢;have g6:Y u=some (.tup [.ref p5,.int (b.getD 0 0),.int m]):=by rw[<- ak];exact aB
  have x:aG H Y:=S5.trans S6;have hE:kQ Y (.ref u) (b.drop 1,b.getD 0 0,m):=⟨u,p5,rfl,g6,S6 _ _ g5⟩;refine⟨_,rfl,g,_,D,_,_,rfl,x _ _ G,T.cl,T.ac4,rfl,_,rfl,O,_,rfl,jU.k (k:=Sum.inl n) (x _ _ h2) aj,?_⟩;have N:=vZ (y.same x) ((h3.t (aG.tup x)).put (n:=n) hE);have F7:Frm g O r Y (upd Y O (.dK (eF I (Sum.inl n) (.ref u)))):=vN;generalize upd Y O (.dK (eF I (Sum.inl n) (.ref u)))=H7 at N F7⊢;obtain⟨ad,ae⟩:=N.self;obtain⟨aq,al,am⟩:=N.par;refine⟨_,rfl,g,_,ad,_,_,rfl,ae,T.cl,T.ab8,rfl,_,rfl,_,_,rfl,rfl,_,_,rfl,_,rfl,g,_,ad,_,rfl,ae,T.cl,T.ab8,(by show 3<1000;decide),?_⟩;exact q _ rfl r _ (((aG.frm x).trans F7 (.inl rfl)).trans AL (.inl rfl)) (.inl rfl) (tI N (Hr B.up (n+1)) al am)
 rw[if_neg k5]at q p;rw[gI k5];refine bD ?_;refine⟨_,rfl,_,rfl,g,_,D,_,_,rfl,G,T.cl,T.ac4,rfl,O,_,rfl,cR.k (k:=Sum.inl n) h2,_,rfl,?_⟩;have Z:=h3.val (n:=n);cases he:bM B.es n with
 |none=>
  rw[he]at Z q;have Z:c9 I (Sum.inl n)=none:=Z;rw[Z];refine bD ?_;exact q B rfl r H (Frm.refl _ _ _ _) (.inl rfl) y
 |some e=>
  rw[he]at Z q;obtain⟨v,an,_⟩:=Z;rw[an];refine aU ?_;refine⟨_,rfl,g,D,_,rfl,G,rfl,_,rfl,_,rfl,g,O,r,B,k,n,e,rfl,y,he,by omega,λJ L h'=>?_⟩;refine q _ ?_ r J L (.inl rfl) h'
  try dsimp only
  split
  ·rfl
  ·split <;> rfl
end
abbrev Rw:=Str×Int×Mf
abbrev Mr:=List Rw
def cI(r:Rw):PyData:=fQ r.1 r.2.1 r.2.2
def dR(b:Int):Bk->Mr->Option Bk
 |B,[]=>some B
 |B,r::e=>match dC B r.1 r.2.1 r.2.2 b with
  |none=>none
  |some f=>dR b f e
theorem xV(b:Int):∀{g:List (Int×Mf)}{B f:Bk},sD b B g=some f->f.es.length<=B.es.length+g.length
 |[],B,f,h=>by
  cases (Option.some.inj h:B=f);exact le_refl _
 |p::g,B,f,h=>by
  unfold sD at h;cases e:mC B p.1 p.2 b with
  |none=>rw[e]at h;cases h
  |some n=>
   rw[e]at h;have m:=xV b h;unfold mC at e;split at e
   ·cases e
   ·cases (Option.some.inj e);have:=kF B.es p.1 (p.2,0,b);rw[length_cons];have m:f.es.length<=(eO B.es p.1 (p.2,0,b)).length+g.length:=m;omega
theorem DQ(h:dC B k n b f=some g):g.es.length+g.parts.length<=B.es.length+B.parts.length+1:=by
 unfold dC at h;split at h
 ·cases (Option.some.inj h);show B.es.length+(B.parts++[(n,b)]).length<=_;rw[length_append];exact le_refl _
 ·split at h
  ·unfold yO at h;split at h
   ·have m:=xV f h;have o:=uV f h;rw[o];have m:g.es.length<=B.es.length+B.parts.length:=m;show g.es.length+0<=_;omega
   ·cases h
  ·split at h
   ·cases h
   ·split at h
    ·unfold mC at h;split at h
     ·cases h
     ·cases (Option.some.inj h);have:=kF B.es n (b,0,f);show (eO B.es n (b,0,f)).length+B.parts.length<=_;omega
    ·split at h
     ·cases (Option.some.inj h);exact le_succ _
     ·split at h
      ·cases (Option.some.inj h);have:=kF B.es n (b.drop 1,b.getD 0 0,f);show (eO B.es n (b.drop 1,b.getD 0 0,f)).length+B.parts.length<=_;omega
      ·split at h
       ·cases (Option.some.inj h);exact le_succ _
       ·rename_i e _;split at h
        ·cases (Option.some.inj h);have:=kF B.es n (e.1,e.2.1+1,e.2.2);show (eO B.es n (e.1,e.2.1+1,e.2.2)).length+B.parts.length<=_;omega
        ·split at h
         ·cases (Option.some.inj h);have:=kF B.es n (e.1,0,e.2.2);show (eO B.es n (e.1,0,e.2.2)).length+B.parts.length<=_;omega
         ·cases (Option.some.inj h);have:(gJ B.es n).length<=B.es.length:=length_filter_le _ _;show (gJ B.es n).length+B.parts.length<=_;omega
theorem rows_of(h:o.all bQ=true):∃m:Mr,o=m.map cI/\∀r∈m,bQ (cI r)=true:=by
 induction o with
 |nil=>exact⟨[],rfl,λr hr=>absurd hr (by simp)⟩
 |cons d o p=>
  rw[all_cons,and_eq_true]at h;obtain⟨m,e,hr⟩:=p h.2;have f:=h.1;have:∃r:Rw,d=cI r:=by
   match d,f with
   | .tuple [.str k,.int n,.tuple g],f=>
    simp only[bQ,and_eq_true]at f;have u:g.all (bL 0 255)=true:=f.2.2.1;refine⟨(k,n,bX (.tuple g)),?_⟩;show PyData.tuple [.str k,.int n,.tuple g] = .tuple [.str k,.int n,.tuple ((bX (.tuple g)).map .int)];congr 4;have:∀l:Mj,l.all (bL 0 255)=true->l=(bX (.tuple l)).map .int:=by
     intro l q
     induction l with
     |nil=>rfl
     |cons x l p=>
      rw[all_cons,and_eq_true]at q;have:=p q.2;cases x with
      |int i=>
       show PyData.int i::l=PyData.int i::(bX (.tuple l)).map .int;rw[<- this]
      |_=>exact absurd q.1 (by simp [bL])
    exact congrArg PyData.tuple (this g u)
   | .tuple [.str k,.int n,.list _],f=>simp [bQ,dQ]at f
   | .tuple [.str k,.int n,.int _],f=>simp [bQ,dQ]at f
   | .tuple [.str k,.int n,.str _],f=>simp [bQ,dQ]at f
   | .tuple [.str k,.int n,.bool _],f=>simp [bQ,dQ]at f
   | .tuple [.str k,.int n,.none],f=>simp [bQ,dQ]at f
   | .tuple [.str k,.int n,.dict _],f=>simp [bQ,dQ]at f
   | .tuple [.str k,.str _,b],f=>simp [bQ,bL]at f
   | .tuple [.str k,.bool _,b],f=>simp [bQ,bL]at f
   | .tuple [.str k,.none,b],f=>simp [bQ,bL]at f
   | .tuple [.str k,.list _,b],f=>simp [bQ,bL]at f
   | .tuple [.str k,.tuple _,b],f=>simp [bQ,bL]at f
   | .tuple [.str k,.dict _,b],f=>simp [bQ,bL]at f
  obtain⟨r,t⟩:=this;refine⟨r::m,by rw[map_cons,<- t,<- e],λx s=>?_⟩;rcases mem_cons.mp s with rfl |s
  ·rw[<- t];exact f
  ·exact hr x s
section
variable{P:Program}{w:World}{K:Ma}{mg:Mc}{base:Heap}{aa8 aa1 aa6 aa3:Addr}
end
def But(e:Addr)(H f:Hp):Prop:=∀b o,H b=some o->b≠e->f b=some o
theorem But.refl:But f H H:=λb o e _=>e
theorem pB(h:Den H (cI r) v):∃t b,v = .ref t/\H t=some (.tup [.str r.1,.int r.2.1,.ref b])/\H b=some (.tup (r.2.2.map V.int)):=by
 unfold cI fQ at h;simp only[Den,aT]at h;obtain⟨t,_,rfl,f,_,_,rfl,rfl,_,_,rfl,rfl,_,_,rfl,⟨b,m,rfl,g,e⟩,rfl⟩:=h;have:=cB.mp e;subst this;exact⟨t,b,rfl,f,g⟩
structure TxtN(K:Ma)(mg:Mc):Prop where
 ae0:mg "len" = none
 ac2:mg "isinstance" = none
 bj2:mg "all" = none
 ax5:mg "sum" = none
 ai6:mg "tuple" = none
 ba3:mg "int" = none
 bj4:mg "bool" = none
 bj1:mg "str" = none
 af1:mg "range" = none
 ag3:mg "enumerate" = none
 ap7:mg "list" = none
 af7:mg "sorted" = none
 ap6:∃t,mg "HIGHEST_BYTE" = some (.int 255 t)
section
variable{P:Program}{w:World}{K:Ma}{mg:Mc}{base:Heap} 
end
abbrev xO:Stmt:=top 5
abbrev o6:Stmt:=top 60
abbrev nO:Stmt:=top 61
def cN:Str:="abcdefghijklmnopqrstuvwxyz0123456789"
def inS(signs:Str)(c:Nat):Bool:=!(Builtin.Str.occurrences signs ⟨#[c]⟩ 0 signs.length 1).isEmpty
def gO(x:Str):Bool:=x.cps.all λc=>decide (c<128)
def cX(signs:Str)(l:Int):PyData->Bool
 | .str x=>(decide (1<=(x.length:Int)) && decide ((x.length:Int)<=l)) && x.cps.toList.all (inS signs)
 |_=>false
inductive lC(vs:Mp)(H:Hp)(Q:VK)(x_3:XK):Prop
 |mk:∀(v:V)(d:PyData)(signs:Str)(l:Int),vs=[v,.str signs,.int l]->Den H d v->(∀x,d = .str x->x.length<=1000/\gO x=true)->(∀H',aG H H'->Q (.bl (cX signs l d)) H')->lC vs H Q x_3
structure TxtD(K:Ma)(mg:Mc)(aa2 aa4 ac0 aa5 aa1 aa9 aa7:Addr):Prop extends TxtN K mg where
 bg6:∃t,mg "NAME_SIGNS" = some (.str cN t)
 bc4:∃t,mg "LONGEST_NAME" = some (.int 8 t)
 bg7:∃t,mg "MOST_STEPS" = some (.int 100000 t)
 an4:dH K aa2=true
 bj5:mg "BadName" = some (.ref aa2)
 an5:dH K aa4=true
 bj6:mg "Missing" = some (.ref aa4)
 ax6:dH K ac0=true
 bk5:mg "There" = some (.ref ac0)
 an6:dH K aa5=true
 at5:mg "Stopped" = some (.ref aa5)
 ag7:dH K aa1=true
 bg4:mg "BadRow" = some (.ref aa1)
 af0:dH K aa9=true
 ax9:mg "BadNumber" = some (.ref aa9)
 cl:Cls K aa7
 af9:dG K aa7 "files"
 am2:dG K aa7 "steps_done"
 ad5:dG K aa7 "steps_ahead"
inductive gX(aa2:Addr)(vs:Mp)(H:Hp)(Q:VK)(E:XK):Prop
 |mk:∀(v:V)(d:PyData),vs=[v]->Den H d v->(∀x,d = .str x->x.length<=1000/\gO x=true)->(cX cN 8 d=true->∀H',aG H H'->Q .non H')->(cX cN 8 d=false->∀H',aG H H'->E (.ref aa2) none H')->gX aa2 vs H Q E
def kY:PyData->Bool
 | .none=>true
 |d=>bL 0 100000 d
inductive iV(aa9:Addr)(vs:Mp)(H:Hp)(Q:VK)(E:XK):Prop
 |mk:∀(v:V)(d:PyData),vs=[v]->Den H d v->(kY d=true->Q .non H)->(kY d=false->E (.ref aa9) none H)->iV aa9 vs H Q E
section
variable{P:Program}{w:World}{K:Ma}{mg:Mc}{base:Heap}{aa2 aa4 ac0 aa5 aa1 aa9 aa7:Addr}
theorem C9(F:Fun K "is_word" "is_word" xO f B)(T:TxtN K mg):‹14› 1 f B ["thing","signs","longest"] lC:=by
 refine F.okY ["thing","signs","longest"] λG A m s H Y Q E hr nD0 h=>?_;obtain⟨v,d,signs,l,rfl,t,I,q⟩:=h;refine⟨_,aA (bG (l9 (cS (dE (bJ (iM K) ⋯ T.ac2 eU (aE (pv 0) ‹56›)))) (iX (cS (BM kM kM aM (bJ AW ⋯ T.ae0 gM ‹35›) (pv 2))))).pt
   (aC (aP kI))
   aO)
  (aC (aP (bJ (yV K) ⋯ T.bj2 IZ (dX (cV ["sign"] [("signs",1)] ⋯ (LU (pv 0)) (λC s2 H2 ex=>(bH (i:=0) (show List.Nodup (["sign","signs"]:Mg) by decide +kernel) ⋯ (Or.inl ⋯))) ‹41› (λC s2 H2 ex=>(fU FE (pv 0) (pv 1) ⋯))) aF)))),?_⟩
 refine⟨_,rfl,_,_,_,_,rfl,t.ty,ER d,_,rfl,?_⟩;cases d with
 |none=>exact aU (aU (q H (aG.refl H)))
 |bool x=>exact aU (aU (q H (aG.refl H)))
 |int x=>exact aU (aU (q H (aG.refl H)))
 |tuple x=>exact aU (aU (q H (aG.refl H)))
 |list x=>exact aU (aU (q H (aG.refl H)))
 |dict x=>exact aU (aU (q H (aG.refl H)))
 |str x=>
 refine bD ?_;obtain⟨z1,J⟩:=I x rfl;have e:v = .str x:=by simpa only[Den] using t
 subst e;have zl:x.length<=sizeLine:=le_trans z1 (by decide);refine⟨_,rfl,x,rfl,zl,_,_,rfl,rfl,_,rfl,?_⟩;simp only[cX]at q;by_cases b:1<=(x.length:Int)
 case neg=>
  rw[if_neg (by rw[decide_eq_true_eq];exact b)];rw[decide_eq_false b,Bool.false_and,Bool.false_and]at q;exact⟨_,rfl,aU (q H (aG.refl H))⟩
 rw[if_pos (decide_eq_true b)];rw[decide_eq_true b,Bool.true_and]at q;refine⟨_,rfl,_,_,rfl,rfl,_,rfl,?_⟩;show if (!decide ((x.length:Int)<=l))=true then _ else _
 by_cases g:(x.length:Int)<=l
 case neg=>
  rw[decide_eq_false g]at q⊢;exact aU (q H (aG.refl H))
 rw[decide_eq_true g]at q⊢;rw[Bool.true_and]at q;refine bD ?_;refine cQ rfl ?_;refine⟨_,rfl,x,rfl,J,?_⟩;refine c8 (JF (H:=H) x) zl (λi y _=>∃c,x.cps[i]? = some c/\y = .bl (inS signs c)) (λ_ _ _ _ _ h=>h) (λL=>∃z,L = [z,some (.str signs)]) ?z0 ?_ ?_
 case z0=>exact⟨none,rfl⟩
 ·intro i y N Z hi n s3 O Q' o;obtain⟨z,rfl⟩:=n;obtain⟨c,R,rfl⟩:=O;refine⟨_,rfl,_,rfl,_,_,rfl,rfl,?_⟩;exact o _ _ _ ⟨_,rfl⟩ (aG.refl _) ⟨c,R,rfl⟩
 intro D p S hD U r u W;have X:p=(x.cps.toList.map (inS signs)).map V.bl:=by
  apply ext_getElem?;intro i;cases e:p[i]? with
  |none=>
   have:p.length<=i:=List.getElem?_eq_none_iff.mp e;rw[getElem?_eq_none (by rw[length_map,length_map,length_toList];omega)]
  |some y=>
   obtain⟨c,b,g⟩:=W i y e;rw[getElem?_map,getElem?_map,getElem?_toList,b,g];rfl
 refine⟨D,x.cps.toList.map (inS signs),rfl,SqL.of (by rw[r,X]),?_⟩;rw[all_map];exact q S U
theorem wH(F:Fun K "check_name" "check_name" o6 f r)(T:‹1›)(b:‹15› "is_word" 1 ["thing","signs","longest"] lC):‹14› 2 f r ["name"] (gX aa2):=by
 obtain⟨_,e⟩:=T.bg6;obtain⟨_,g⟩:=T.bc4;refine F.okY ["name"] λt A m s H z Q E hr nD0 h=>?_;obtain⟨v,d,rfl,u,x,q,y⟩:=h;refine⟨_,aC (bG (cS (dE (bB b ‹18› bA (aE (pv 0) (aE (cO (v:=.str "abcdefghijklmnopqrstuvwxyz0123456789") ⋯ e ⟨_,rfl⟩) (aE (cO (v:=.int 8) ⋯ g ⟨_,rfl⟩) aF))))))
   (aC (dW eX ⋯ T.an4 ⋯ T.bj5 ‹25›))
   aO),?_⟩
 refine⟨_,rfl,v,d,cN,8,rfl,u,x,λn o=>⟨_,rfl,?_⟩⟩;cases p:cX cN 8 d with
 |false=>exact aU ⟨(by show 1<=sizeLine;decide),y p n o⟩
 |true=>exact bD (q p n o)
theorem vC(F:Fun K "check_steps" "check_steps" nO f u)(T:‹1›)(m:‹2›):‹14› 2 f u ["steps"] (iV aa9):=by
 obtain⟨_,n⟩:=T.bg7;refine F.okY ["steps"] λx A o s H y Q E hr nD0 h=>?_;obtain⟨v,d,rfl,g,q,r⟩:=h;refine⟨_,aC (bG (mB (aY zU (pv 0) jQ (bI _)) (jG (cS (dE (bB m ‹18› bA (aE (pv 0) (aI aM (aE (cO (v:=.int 100000) ⋯ n ⟨_,rfl⟩) aF)))))))).pt
   ‹92›
   aO),?_⟩
 by_cases p:v = .non
 ·subst p;have:kY d=true:=by
   cases d with
   |none=>rfl
   |bool b=>simp only[Den]at g;cases g
   |int b=>simp only[Den]at g;cases g
   |str b=>simp only[Den]at g;cases g
   |tuple b=>simp only[Den]at g;obtain⟨_,_,e,_⟩:=g;cases e
   |list b=>simp only[Den]at g;obtain⟨_,_,e,_⟩:=g;cases e
   |dict b=>simp only[Den]at g
  exact⟨_,rfl,rfl,_,rfl,bD (bD (q this))⟩
 ·have e:kY d=bL 0 100000 d:=by
   cases d with
   |none=>simp only[Den]at g;exact absurd g p
   |_=>rfl
  rw[e]at q r;refine⟨_,rfl,rfl,_,rfl,?_⟩;rw[decide_eq_false p];refine aU ⟨_,rfl,v,d,0,100000,rfl,g,_,rfl,?_⟩;cases t:bL 0 100000 d with
  |false=>exact aU ⟨(by show 1<=sizeLine;decide),r t⟩
  |true=>exact bD (q t)
end
structure Dk where
 fs:List (Str×Mf)
 done:Int
 left:Option Int
def Ki:Option Int->V
 |none=>.non
 |some n=>.int n
def aR(b:List (Str×Mf))(n:Str):Option (Mf):=(b.find? λp=>decide (p.1=n)).map (·.2)
def gQ(b:List (Str×Mf))(n:Str):List (Str×Mf):=b.filter λp=>decide (p.1≠n)
inductive AN(H:Hp)(v:V)(bs:Mf):Prop
 |mk:∀l,v = .ref l->H l=some (.lst (bs.map V.int))->AN H v bs
def FsR(H:Hp):List (Str×Mf)->Mn->Prop
 |[],[]=>True
 |p::e,q::b=>q.1=Sum.inr p.1/\AN H q.2 p.2/\FsR H e b
 |_,_=>False
def dkF(b:Addr)(done:Int)(left:Option Int):Mo:=[("files",.ref b),("steps_done",.int done),("steps_ahead",Ki left)]
structure DiskAt(C:Addr)(H:Hp)(dk df:Addr)(kvs:Mn)(D:Dk):Prop where
 self:∃dx,H dk=some (.ins C dx (dkF df D.done D.left))
 files:H df=some (.dK kvs)
 rel:FsR H D.fs kvs
 nd:(kvs.map (·.2)).Nodup
 kn:(D.fs.map (·.1)).Nodup
def own(f g:Addr)(e:Mn)(b:Addr):Prop:=b=f\/b=g\/V.ref b∈e.map (·.2)
def rF(f g:Addr)(e:Mn)(H m:Hp):Prop:=∀b o,H b=some o->¬own f g e b->m b=some o
def GE(g m:Addr)(f e:Mn)(H:Hp):Prop:=∀b,own g m e b->own g m f b\/H b=none
theorem FsR.same:∀{n:List (Str×Mf)}{f:Mn},(∀b o,H b=some o->V.ref b∈f.map (·.2)->r b=some o)->FsR H n f->FsR r n f
 |[],[],_,_=>trivial
 |p::n,q::f,s,h=>by
  obtain⟨t,⟨l,e,g⟩,u⟩:=h;exact⟨t,⟨l,e,s l _ g (by rw[map_cons,e];exact mem_cons_self)⟩,FsR.same (λb o e m=>s b o e (mem_cons_of_mem _ m)) u⟩
 |[],_::_,_,h=>h.elim
 |_::_,[],_,h=>h.elim
theorem FsR.len:∀{e:List (Str×Mf)}{b:Mn},FsR H e b->b.length=e.length
 |[],[],_=>rfl
 |p::e,q::b,h=>by rw[length_cons,length_cons,FsR.len h.2.2]
 |[],_::_,h=>h.elim
 |_::_,[],h=>h.elim
theorem FsR.keys:∀{e:List (Str×Mf)}{b:Mn},FsR H e b->b.map (·.1)=(e.map (·.1)).map Sum.inr
 |[],[],_=>rfl
 |p::e,q::b,h=>by rw[map_cons,map_cons,map_cons,h.1,FsR.keys h.2.2]
 |[],_::_,h=>h.elim
 |_::_,[],h=>h.elim
theorem DM:((Sum.inr a:Key)=Sum.inr b) ↔ a=b:=⟨Sum.inr.inj,λh=>by rw[h]⟩
theorem FsR.val:∀{f:List (Str×Mf)}{b:Mn},FsR H f b->(match aR f n with |none=>c9 b (Sum.inr n)=none |some e=>∃v,c9 b (Sum.inr n)=some v/\AN H v e)
 |[],[],_=>rfl
 |p::f,q::b,h=>by
  obtain⟨g,m,o⟩:=h;have r:=FsR.val (n:=n) o;by_cases e:p.1=n
  ·have:aR (p::f) n=some p.2:=by simp [aR,e]
   rw[this];exact⟨q.2,iO (by rw[g,e]),m⟩
  ·have s:aR (p::f) n=aR f n:=by simp [aR,e]
   have t:c9 (q::b) (Sum.inr n)=c9 b (Sum.inr n):=iP (by rw[g,DM];exact e);rw[s,t];exact r
 |[],_::_,h=>h.elim
 |_::_,[],h=>h.elim
theorem pE(h:DiskAt C H t u f D):t≠u/\V.ref t∉f.map (·.2)/\V.ref u∉f.map (·.2):=by
 have n:∀{o:List (Str×Mf)}{f:Mn},FsR H o f->∀b,V.ref b∈f.map (·.2)->∃r,H b=some (.lst r):=by
  intro o
  induction o with
  |nil=>
   intro f hr b m;cases f with
   |nil=>simp at m
   |cons _ _=>exact hr.elim
  |cons p o x=>
   intro f hr b m;cases f with
   |nil=>exact hr.elim
   |cons q f=>
    obtain⟨_,⟨l,e,g⟩,y⟩:=hr;rw[map_cons,mem_cons]at m;rcases m with m |m
    ·rw[e]at m;cases m;exact⟨_,g⟩
    ·exact x y b m
 obtain⟨z,s⟩:=h.self;refine⟨?_,λm=>?_,λm=>?_⟩
 ·rintro rfl;rw[h.files]at s;cases s
 ·obtain⟨r,e⟩:=n h.rel _ m;rw[s]at e;cases e
 ·obtain⟨r,e⟩:=n h.rel _ m;rw[h.files]at e;cases e
theorem rD(h:DiskAt C H g n f D)(done:Int)(left:Option Int):DiskAt C (upd H g (.ins C dx (dkF n done left))) g n f ⟨D.fs,done,left⟩:=by
 obtain⟨p,q,r⟩:=pE h;refine⟨⟨dx,aB⟩,by rw[aH (Ne.symm p)];exact h.files,h.rel.same λb o e m=>?_,h.nd,h.kn⟩;rw[aH (λz=>by rw[z]at m;exact q m)];exact e
theorem DiskAt.same(h:DiskAt C H g m f D)(s:aG H n):DiskAt C n g m f D:=by
 obtain⟨p,q⟩:=h.self;exact⟨⟨p,s _ _ q⟩,s _ _ h.files,h.rel.same λb o e _=>s b o e,h.nd,h.kn⟩
def iQ(D:Dk):Option Dk:=match D.left with
 |none=>some ⟨D.fs,D.done+1,none⟩
 |some n=>if n=0 then none else some ⟨D.fs,D.done+1,some (n-1)⟩
abbrev o5:Stmt:=bN (top 62) 12
inductive jN(C:Addr)(aa5:Addr)(vs:Mp)(H:Hp)(Q:VK)(E:XK):Prop
 |mk:∀(dk df:Addr)(kvs:Mn)(D:Dk),vs=[.ref dk]->DiskAt C H dk df kvs D->(∀D',iQ D=some D'->∀H',(∀b o,H b=some o->b≠dk->H' b=some o)->DiskAt C H' dk df kvs D'->Q .non H')->(iQ D=none->E (.ref aa5) none H)->jN C aa5 vs H Q E
section
variable{P:Program}{w:World}{K:Ma}{mg:Mc}{base:Heap}{aa2 aa4 ac0 aa5 aa1 aa9 aa7:Addr}
theorem wG(F:Fun K "count_step" "Disk.count_step" o5 f I)(T:‹1›):‹14› 1 f I ["self"] (jN aa7 aa5):=by
 refine F.okY ["self"] λJ A t s H R Q E hr nD0 h=>?_;obtain⟨m,y,L,D,rfl,u,q,B⟩:=h;refine⟨_,aA (bG (aY fP ‹23› aM (bI _))
   (aC (dW eX ⋯ T.an6 ⋯ T.at5 ‹25›))
   aO)
  (aA (bG (aY zU ‹23› jQ (bI _))
   (aC (qR (pv 0) aM L8))
   aO)
  ‹70›),?_⟩
 obtain⟨g,p⟩:=u.self;obtain⟨S,done,left⟩:=D;unfold iQ at q B;cases left with
 |none=>
  refine⟨_,rfl,m,_,g,_,_,rfl,p,T.cl,T.ad5,rfl,rfl,_,rfl,bD ?_⟩;refine cQ rfl ?_;refine⟨_,rfl,m,_,g,_,_,rfl,p,T.cl,T.ad5,rfl,rfl,_,rfl,bD ?_⟩;refine cQ rfl ?_;refine⟨_,rfl,m,_,g,_,_,rfl,p,T.cl,T.am2,rfl,_,_,rfl,rfl,g,_,p,(by show 3<1000;decide),?_⟩;exact q _ rfl _ (λb o e r=>by rw[aH r];exact e) (rD u (done+1) none)
 |some n=>
  refine⟨_,rfl,m,_,g,_,_,rfl,p,T.cl,T.ad5,rfl,rfl,_,rfl,?_⟩;by_cases x:n=0
  ·subst x;refine aU ?_;exact⟨(by show 1<=sizeLine;decide),B rfl⟩
  ·have N:decide (V.int n=V.int 0)=false:=decide_eq_false (λz=>x (V.int.inj z));show if decide (V.int n=V.int 0)=true then _ else _
   rw[N];refine bD ?_;refine cQ rfl ?_;refine⟨_,rfl,m,_,g,_,_,rfl,p,T.cl,T.ad5,rfl,rfl,_,rfl,aU ?_⟩;refine⟨_,rfl,m,_,g,_,_,rfl,p,T.cl,T.ad5,rfl,_,_,rfl,rfl,g,_,p,(by show 3<1000;decide),?_⟩;have O:=rD (dx:=g) u done (some (n-1));have G:upd H m (.ins aa7 g (dkF y done (some (n-1)))) m=some (.ins aa7 g (dkF y done (some (n-1)))):=aB;refine⟨_,rfl,m,_,g,_,_,rfl,G,T.cl,T.am2,rfl,_,_,rfl,rfl,g,_,G,(by show 3<1000;decide),?_⟩;exact q _ (by dsimp only;rw[if_neg x]) _ (λb o e r=>by rw[aH r,aH r];exact e) (rD O (done+1) (some (n-1)))
end
abbrev Dz:Stmt:=bN (top 62) 0
abbrev Gr:Stmt:=bN (top 62) 2
abbrev Gv:Stmt:=bN (top 62) 5
abbrev Dt:Stmt:=bN (top 62) 6
abbrev Gp:Stmt:=bN (top 62) 7
abbrev Gn:Stmt:=bN (top 62) 8
abbrev o8:Stmt:=bN (top 62) 11
def oE(d:PyData):Prop:=∀x,d = .str x->x.length<=1000/\gO x=true
theorem tK(h:cX signs l d=true):∃x,d = .str x:=by
 cases d with
 |str x=>exact⟨x,rfl⟩
 |_=>cases h
inductive jO(C:Addr)(aa2:Addr)(aa4:Addr)(vs:Mp)(H:Hp)(Q:VK)(E:XK):Prop
 |mk:∀(dk df:Addr)(kvs:Mn)(D:Dk)(v:V)(d:PyData),vs=[.ref dk,v]->DiskAt C H dk df kvs D->Den H d v->oE d->(cX cN 8 d=false->∀H',aG H H'->E (.ref aa2) none H')->(∀n,d = .str n->cX cN 8 d=true->(aR D.fs n=none->∀H',aG H H'->E (.ref aa4) none H')/\(∀bs,aR D.fs n=some bs->∀H',aG H H'->Q .non H'))->jO C aa2 aa4 vs H Q E
inductive oR(C:Addr)(aa2:Addr)(aa4:Addr)(vs:Mp)(H:Hp)(Q:VK)(E:XK):Prop
 |mk:∀(dk df:Addr)(kvs:Mn)(D:Dk)(v:V)(d:PyData),vs=[.ref dk,v]->DiskAt C H dk df kvs D->Den H d v->oE d->(cX cN 8 d=false->∀H',aG H H'->E (.ref aa2) none H')->(∀n,d = .str n->cX cN 8 d=true->(aR D.fs n=none->∀H',aG H H'->E (.ref aa4) none H')/\(∀bs,aR D.fs n=some bs->∀p H',aG H H'->H' p=some (.tup (bs.map V.int))->Q (.ref p) H'))->oR C aa2 aa4 vs H Q E
inductive oP(C:Addr)(aa2:Addr)(aa4:Addr)(vs:Mp)(H:Hp)(Q:VK)(E:XK):Prop
 |mk:∀(dk df:Addr)(kvs:Mn)(D:Dk)(v:V)(d:PyData),vs=[.ref dk,v]->DiskAt C H dk df kvs D->Den H d v->oE d->(cX cN 8 d=false->∀H',aG H H'->E (.ref aa2) none H')->(∀n,d = .str n->cX cN 8 d=true->(aR D.fs n=none->∀H',aG H H'->E (.ref aa4) none H')/\(∀bs,aR D.fs n=some bs->∀H',aG H H'->Q (.int (bs.length:Int)) H'))->oP C aa2 aa4 vs H Q E
def Kj:PyData->Option Int
 | .int n=>some n
 |_=>none
inductive uE(C:Addr)(aa9:Addr)(vs:Mp)(H:Hp)(Q:VK)(E:XK):Prop
 |mk:∀(dk dx:Addr)(v:V)(d:PyData),vs=[.ref dk,v]->H dk=some (.ins C dx [])->Den H d v->(kY d=false->E (.ref aa9) none H)->(kY d=true->∀df H',(∀b o,H b=some o->b≠dk->H' b=some o)->H df=none->DiskAt C H' dk df [] ⟨[],0,Kj d⟩->Q .non H')->uE C aa9 vs H Q E
inductive oU(C:Addr)(aa2:Addr)(ac0:Addr)(aa5:Addr)(vs:Mp)(H:Hp)(Q:VK)(E:XK):Prop
 |mk:∀(dk df:Addr)(kvs:Mn)(D:Dk)(v:V)(d:PyData),vs=[.ref dk,v]->DiskAt C H dk df kvs D->Den H d v->oE d->D.fs.length<100000->(cX cN 8 d=false->∀H',aG H H'->E (.ref aa2) none H')->(∀n,d = .str n->cX cN 8 d=true->(∀bs,aR D.fs n=some bs->∀H',aG H H'->E (.ref ac0) none H')/\
  (aR D.fs n=none->(iQ D=none->∀H',aG H H'->E (.ref aa5) none H')/\(∀D1,iQ D=some D1->∀kvs' H',rF dk df kvs H H'->GE dk df kvs kvs' H->DiskAt C H' dk df kvs' ⟨D1.fs++[(n,[])],D1.done,D1.left⟩->Q .non H')))->oU C aa2 ac0 aa5 vs H Q E
inductive oW(C:Addr)(aa2:Addr)(aa4:Addr)(aa5:Addr)(vs:Mp)(H:Hp)(Q:VK)(E:XK):Prop
 |mk:∀(dk df:Addr)(kvs:Mn)(D:Dk)(v:V)(d:PyData),vs=[.ref dk,v]->DiskAt C H dk df kvs D->Den H d v->oE d->(cX cN 8 d=false->∀H',aG H H'->E (.ref aa2) none H')->(∀n,d = .str n->cX cN 8 d=true->(aR D.fs n=none->∀H',aG H H'->E (.ref aa4) none H')/\
  (∀bs,aR D.fs n=some bs->(iQ D=none->∀H',aG H H'->E (.ref aa5) none H')/\(∀D1,iQ D=some D1->∀kvs' H',rF dk df kvs H H'->GE dk df kvs kvs' H->DiskAt C H' dk df kvs' ⟨gQ D1.fs n,D1.done,D1.left⟩->Q .non H')))->oW C aa2 aa4 aa5 vs H Q E
theorem oM(h:iQ D=some b):b.fs=D.fs:=by
 unfold iQ at h;split at h
 ·cases (Option.some.inj h);rfl
 ·split at h
  ·cases h
  ·cases (Option.some.inj h);rfl
theorem FsR.snoc(g:AN H v e):∀{f:List (Str×Mf)}{b:Mn},FsR H f b->FsR H (f++[(n,e)]) (b++[(Sum.inr n,v)])
 |[],[],_=>⟨rfl,g,trivial⟩
 |p::f,q::b,h=>⟨h.1,h.2.1,FsR.snoc g h.2.2⟩
 |[],_::_,h=>h.elim
 |_::_,[],h=>h.elim
theorem FsR.drop:∀{b:List (Str×Mf)}{e:Mn},FsR H b e->FsR H (gQ b n) (e7 e (Sum.inr n))
 |[],[],_=>trivial
 |p::b,q::e,h=>by
  obtain⟨f,o,r⟩:=h;have m:=FsR.drop (n:=n) r;by_cases z:p.1=n
  ·have g:gQ (p::b) n=gQ b n:=by simp [gQ,z]
   rw[g,yK (by rw[f,z])];exact m
  ·have g:gQ (p::b) n=p::gQ b n:=by simp [gQ,z]
   rw[g,yL (by rw[f,DM];exact z)];exact⟨f,o,m⟩
 |[],_::_,h=>h.elim
 |_::_,[],h=>h.elim
theorem x5(h:aR e n=none):n∉e.map (·.1):=by
 intro b;rw[mem_map]at b;obtain⟨p,f,rfl⟩:=b;unfold aR at h;rw[map_eq_none_iff,find?_eq_none]at h;exact h p f (decide_eq_true rfl)
section
variable{P:Program}{w:World}{K:Ma}{mg:Mc}{base:Heap}{aa2 aa4 ac0 aa5 aa1 aa9 aa7:Addr}
theorem wJ(F:Fun K "check_file" "Disk.check_file" o8 f y)(T:‹1›)(m:‹15› "check_name" 2 ["name"] (gX aa2)):‹14› 3 f y ["self","name"] (jO aa7 aa2 aa4):=by
 refine F.okY ["self","name"] λz A o s H U Q E hr nD0 h=>?_;obtain⟨B,G,p,D,v,d,rfl,r,u,I,J,q⟩:=h;refine⟨_,aA (aX (bB m ‹18› bR ‹29›))
  (aC (bG (n8 (nA (hu1 hr.units) (pv 1) ‹23›))
   (aC (dW eX ⋯ T.an5 ⋯ T.bj6 ‹25›))
   aO)),?_⟩
 refine⟨_,rfl,v,d,rfl,u,I,λhw x e=>?_,J⟩;obtain⟨n,rfl⟩:=tK hw;obtain⟨L,q⟩:=q n rfl hw;have N:v = .str n:=by simpa only[Den] using u
 subst N;obtain⟨O,R⟩:=r.self;refine⟨_,rfl,_,rfl,B,_,O,_,_,rfl,e _ _ R,T.cl,T.af9,rfl,G,_,rfl,cR.k (k:=Sum.inr n) (e _ _ r.files),_,rfl,?_⟩;have b:=r.rel.val (n:=n);cases g:aR D.fs n with
 |none=>
  rw[g]at b;have b:c9 p (Sum.inr n)=none:=b;rw[b];exact aU ⟨(by show 1<=sizeLine;decide),L g x e⟩
 |some S=>
  rw[g]at b;obtain⟨v,t,_⟩:=b;rw[t];exact bD (q S g x e)
theorem Jk(F:Fun K "read" "Disk.read" Gp f I)(T:‹1›)(ah3:‹5›):‹14› 4 f I ["self","name"] (oR aa7 aa2 aa4):=by
 refine F.okY ["self","name"] λJ A m s H Z Q E hr nD0 h=>?_;obtain⟨o,r,t,D,v,d,rfl,e,x,L,N,q⟩:=h;refine⟨_,aA ‹86›
  (aC (aP (kH (mR K) ⋯ T.ai6 pZ (aN ‹91› aF)))),?_⟩
 obtain⟨y,z⟩:=e.self;refine⟨_,rfl,o,y,_,rfl,z,rfl,_,rfl,o,r,t,D,v,d,rfl,e,x,L,N,λn B hw=>?_⟩;obtain⟨O,R⟩:=q n B hw;subst B;have S:v = .str n:=by simpa only[Den] using x
 subst S;refine⟨O,λU b V g=>?_⟩;have G:=e.rel.val (n:=n);rw[b]at G;obtain⟨v,u,l,rfl,W⟩:=G;have X:cR V r (.str n) (some (.ref l)):=by
  have:=cR.k (k:=Sum.inr n) (g _ _ e.files);rw[u]at this;exact this
 refine⟨_,rfl,o,_,y,_,_,rfl,g _ _ z,T.cl,T.af9,rfl,_,rfl,r,_,rfl,X,l,_,rfl,.inl ⟨SqL.of (g _ _ W),λp Y=>?_⟩⟩;exact R U b p _ (g.trans (aD Y)) aB
theorem Ji(F:Fun K "size" "Disk.size" Gn f I)(T:‹1›)(ah3:‹5›):‹14› 4 f I ["self","name"] (oP aa7 aa2 aa4):=by
 refine F.okY ["self","name"] λJ A m s H X Q E hr nD0 h=>?_;obtain⟨o,p,r,D,v,d,rfl,e,u,L,N,q⟩:=h;refine⟨_,aA ‹86›
  (aC (aP (bJ (dI K) ⋯ T.ae0 gM (aN ‹91› aF)))),?_⟩
 obtain⟨x,y⟩:=e.self;refine⟨_,rfl,o,x,_,rfl,y,rfl,_,rfl,o,p,r,D,v,d,rfl,e,u,L,N,λn z hw=>?_⟩;obtain⟨O,R⟩:=q n z hw;subst z;have S:v = .str n:=by simpa only[Den] using u
 subst S;refine⟨O,λU b B g=>?_⟩;have G:=e.rel.val (n:=n);rw[b]at G;obtain⟨v,t,l,rfl,V⟩:=G;have W:cR B p (.str n) (some (.ref l)):=by
  have:=cR.k (k:=Sum.inr n) (g _ _ e.files);rw[t]at this;exact this
 refine⟨_,rfl,o,_,x,_,_,rfl,g _ _ y,T.cl,T.af9,rfl,_,rfl,p,_,rfl,W,l,_,rfl,.inl (SqL.of (g _ _ V)),?_⟩;rw[length_map];exact R U b B g
theorem Ls(b:Den H d v)(e:kY d=true):v=Ki (Kj d):=by
 cases d with
 |none=>simp only[Den]at b;exact b
 |int n=>simp only[Den]at b;exact b
 |_=>cases e
theorem He(F:Fun K "__init__" "Disk.__init__" Dz f G)(T:‹1›)(r:‹15› "check_steps" 2 ["steps"] (iV aa9)):‹14› 3 f G ["self","steps"] (uE aa7 aa9):=by
 refine F.okY ["self","steps"] λI A t s H N Q E hr nD0 h=>?_;obtain⟨n,p,v,d,rfl,u,y,J,q⟩:=h;refine⟨_,aA (aX (bB r ‹18› bR ‹29›))
  (aA (dS (pv 0) i4 ⋯)
  (aA (dS (pv 0) aM ⋯)
  (aC (dS (pv 0) (pv 1) ⋯)))),?_⟩
 refine⟨_,rfl,v,d,rfl,y,λB=>?_,J⟩;have L:=Ls y B;subst L;refine λD m=>?_;have g:n≠D:=λz=>by rw[z,m]at u;cases u
 refine⟨_,rfl,n,_,p,_,rfl,by rw[aH g];exact u,T.cl,T.af9,(by show 0<1000;decide),?_⟩;refine⟨_,rfl,n,_,p,_,rfl,aB,T.cl,T.am2,(by show 1<1000;decide),?_⟩;refine⟨_,rfl,_,rfl,n,_,p,_,rfl,aB,T.cl,T.ad5,(by show 2<1000;decide),?_⟩;refine q B D _ (λb o e x=>?_) m ⟨⟨p,?_⟩,?_,trivial,List.nodup_nil,List.nodup_nil⟩
 ·rw[aH x,aH x,aH x,aH (λz=>by rw[z,m]at e;cases e)];exact e
 ·rw[aB];rfl
 ·rw[aH (Ne.symm g),aH (Ne.symm g),aH (Ne.symm g)];exact aB
theorem Jm(F:Fun K "make" "Disk.make" Gr f fd)(T:‹1›)(X:‹15› "check_name" 2 ["name"] (gX aa2))(am1:‹11›):‹14› 3 f fd ["self","name"] (oU aa7 aa2 ac0 aa5):=by
 refine F.okY ["self","name"] λak A Y s H vs Q E hr nD0 h=>?_;obtain⟨I,J,r,D,v,d,rfl,S,hd,hn,hl,qb,q⟩:=h;refine⟨_,aA (aX (bB X ‹18› bR ‹29›))
  (aA (bG (n8 (HN (hu1 hr.units) (pv 1) ‹23›))
   (aC (dW eX ⋯ T.ax6 ⋯ T.bk5 ‹25›))
   aO)
  (aA ‹59›
  (aC (fM (hu1 hr.units) ‹23› (pv 1) (cD aF) ⋯)))),?_⟩
 refine⟨_,rfl,v,d,rfl,hd,hn,λhw H1 L=>?_,qb⟩;obtain⟨n,rfl⟩:=tK hw;obtain⟨qt,q2⟩:=q n rfl hw;have ev:v = .str n:=by simpa only[Den] using hd
 subst ev;have x:=S.same L;obtain⟨dx,h1⟩:=x.self;refine⟨_,rfl,_,rfl,I,_,dx,_,_,rfl,h1,T.cl,T.af9,rfl,J,_,rfl,cR.k (k:=Sum.inr n) x.files,_,rfl,?_⟩;have G:=x.rel.val (n:=n);cases N:aR D.fs n with
 |some bs=>
  rw[N]at G;obtain⟨v,Z,_⟩:=G;rw[Z];exact aU ⟨(by show 1<=sizeLine;decide),qt bs N H1 L⟩
 |none=>
  rw[N]at G;have G:c9 r (Sum.inr n)=none:=G;rw[G];refine bD ?_;refine cQ rfl ?_;obtain⟨qs,q3⟩:=q2 N;refine⟨_,rfl,I,dx,_,rfl,h1,rfl,I,J,r,D,rfl,x,λD1 U H2 f2 y=>?_,λU=>qs U H1 L⟩;refine⟨(by show 0<=sizeLine;decide),λl u=>?_⟩;have S3:=aD (o:=.lst []) u;generalize aa:upd H2 l (.lst [])=H3 at S3⊢;have g3:H3 l=some (.lst []):=by rw[<- aa];exact aB
  have B:=y.same S3;obtain⟨O,R⟩:=B.self;have ab:r.length<sizeLine:=by rw[S.rel.len];exact lt_trans hl (by decide)
  refine⟨_,rfl,I,_,O,_,_,rfl,R,T.cl,T.af9,rfl,_,rfl,J,_,rfl,jU.k (k:=Sum.inr n) B.files ab,?_⟩;have ac:eF r (Sum.inr n) (V.ref l)=r++[(Sum.inr n,V.ref l)]:=BL _ G;rw[ac];obtain⟨o1,o2,o3⟩:=pE B;have ad:V.ref l∉r.map (·.2):=λhm=>by
   have:∀{W:List (Str×Mf)}{r:Mn},FsR H2 W r->V.ref l∈r.map (·.2)->H2 l≠none:=by
    intro W
    induction W with
    |nil=>
     intro r hr t;cases r with
     |nil=>simp at t
     |cons _ _=>exact hr.elim
    |cons p W ih=>
     intro r hr t;cases r with
     |nil=>exact hr.elim
     |cons q r=>
      obtain⟨_,⟨l',e,g⟩,h3⟩:=hr;rw[map_cons,mem_cons]at t;rcases t with t |t
      ·rw[e]at t;cases t;rw[g];exact λz=>by cases z
      ·exact ih h3 t
   exact this y.rel hm u
  have ae:l≠J:=λz=>by rw[z,y.files]at u;cases u
  have af:H l=none:=by
   cases e:H l with
   |none=>rfl
   |some o=>
    have ag:l≠I:=λz=>by
     obtain⟨al,ah⟩:=y.self;rw[z,ah]at u;cases u
    rw[f2 l o (L _ _ e) ag]at u;cases u
  refine q3 D1 U (r++[(Sum.inr n,V.ref l)]) _ (λb o e nb=>?_) (λb t=>?_) ⟨⟨O,by rw[aH o1];exact R⟩,aB,?_,?_,?_⟩
  ·have ai:b≠I:=λz=>nb (.inl z);have aj:b≠J:=λz=>nb (.inr (.inl z));rw[aH aj];exact S3 _ _ (f2 b o (L _ _ e) ai)
  ·rcases t with t |t |t
   ·exact .inl (.inl t)
   ·exact .inl (.inr (.inl t))
   ·rw[map_append,mem_append]at t;rcases t with t |t
    ·exact .inl (.inr (.inr t))
    ·have:b=l:=by simpa using t
     subst this;exact .inr af
  ·refine(B.rel.same λb o e m=>?_).snoc ⟨l,rfl,by rw[aH ae];exact g3⟩;rw[aH (λz=>by rw[z]at m;exact o3 m)];exact e
  ·rw[map_append,nodup_append];refine⟨S.nd,by simp,?_⟩;intro a ha b t;have:b=V.ref l:=by simpa using t
   subst this;rintro rfl;exact ad ha
  ·show ((D1.fs++[(n,([]:Mf))]).map (·.1)).Nodup;rw[map_append,nodup_append,oM U];refine⟨S.kn,by simp,?_⟩;intro a ha b t;have:b=n:=by simpa using t
   subst this;rintro rfl;exact x5 N ha
end
abbrev Ka:Stmt:=bN (top 62) 3
abbrev KZ:Stmt:=bN (top 62) 4
def fE(b:List (Str×Mf))(n:Str)(e:Mf):List (Str×Mf):=b.map λp=>if p.1=n then (p.1,e) else p
theorem m4(b:List (Str×Mf))(n:Str)(e:Mf):(fE b n e).map (·.1)=b.map (·.1):=by
 unfold fE;rw[map_map];apply map_congr_left;intro p _;show (if p.1=n then (p.1,e) else p).1=p.1;split <;> rfl
theorem Dp(h:n∉b.map (·.1)):fE b n e=b:=by
 unfold fE;have:b.map (λp=>if p.1=n then (p.1,e) else p)=b.map id:=by
  apply map_congr_left;intro p f;rw[if_neg (λz=>h (by rw[<- z];exact mem_map_of_mem f))];rfl
 rw[this,map_id]
theorem wZ(h:aR b n=some f):aR (fE b n e) n=some e:=by
 induction b with
 |nil=>cases h
 |cons p b g=>
  unfold fE;rw[map_cons];by_cases z:p.1=n
  ·rw[if_pos z];simp [aR,z]
  ·rw[if_neg z];have m:aR b n=some f:=by simpa [aR,z] using h
   have:=g m;unfold fE at this;simpa [aR,z] using this
theorem DY{b:Mn}{k:Key}{v:V}(h:c9 b k=some v):v∈b.map (·.2):=by
 unfold c9 at h;rw[Option.map_eq_some_iff]at h;obtain⟨p,e,rfl⟩:=h;exact mem_map_of_mem (List.mem_of_find?_eq_some e)
theorem FsR.wr{H:Hp}{n:Str}{l:Addr}{e:Mf}:∀{r:List (Str×Mf)}{f:Mn},FsR H r f->(f.map (·.2)).Nodup->(r.map (·.1)).Nodup->c9 f (Sum.inr n)=some (.ref l)->FsR (upd H l (.lst (e.map V.int))) (fE r n e) f
 |[],[],_,_,_,h=>by cases h
 |p::r,q::f,h,t,x,s=>by
  obtain⟨u,⟨E,G,g⟩,I⟩:=h;rw[map_cons,nodup_cons]at t x;by_cases z:p.1=n
  ·have B:c9 (q::f) (Sum.inr n)=some q.2:=iO (by rw[u,z]);rw[B]at s;have J:q.2=V.ref l:=Option.some.inj s;have D:fE (p::r) n e=(p.1,e)::r:=by
    show (if p.1=n then (p.1,e) else p)::fE r n e=_;rw[if_pos z,Dp (by rw[<- z];exact x.1)]
   rw[D];refine⟨u,⟨l,J,aB⟩,I.same λb o L m=>?_⟩;rw[aH (λy=>by rw[y,<- J]at m;exact t.1 m)];exact L
  ·have B:c9 (q::f) (Sum.inr n)=c9 f (Sum.inr n):=iP (by rw[u,DM];exact z);rw[B]at s;have D:fE (p::r) n e=p::fE r n e:=by
    show (if p.1=n then (p.1,e) else p)::fE r n e=_;rw[if_neg z]
   rw[D];have N:E≠l:=λy=>by
    subst y;exact t.1 (by rw[G];exact DY s)
   exact⟨u,⟨E,G,by rw[aH N];exact g⟩,FsR.wr I t.2 x.2 s⟩
 |[],_::_,h,_,_,_=>h.elim
 |_::_,[],h,_,_,_=>h.elim
theorem GA(f:Den H d v)(g:dQ d=true):∃a b,d = .tuple b/\v = .ref a/\H a=some (.tup ((bX d).map V.int))/\(bX d).length=b.length:=by
 cases d with
 |tuple b=>
  simp only[Den]at f;obtain⟨a,o,rfl,m,e⟩:=f;have n:=pY e g;subst n;exact⟨a,b,rfl,rfl,m,length_map _⟩
 |_=>exact absurd g (by simp [dQ])
def sO(n:Str):Dk->Mf->Dk×Bool
 |D,[]=>(D,true)
 |D,b::f=>match iQ D with
  |none=>(D,false)
  |some e=>sO n ⟨fE e.fs n ((aR e.fs n).getD []++[b]),e.done,e.left⟩ f
inductive zK(C:Addr)(aa2:Addr)(aa4:Addr)(aa1:Addr)(aa5:Addr)(vs:Mp)(H:Hp)(Q:VK)(E:XK):Prop
 |mk:∀(dk df:Addr)(kvs:Mn)(D:Dk)(v v2:V)(d d2:PyData),vs=[.ref dk,v,v2]->DiskAt C H dk df kvs D->Den H d v->oE d->Den H d2 v2->(∀bs,d2 = .tuple bs->bs.length<=100000)->(∀n bs,aR D.fs n=some bs->bs.length<=100000)->(cX cN 8 d=false->∀H',aG H H'->E (.ref aa2) none H')->(∀n,d = .str n->cX cN 8 d=true->(aR D.fs n=none->∀H',aG H H'->E (.ref aa4) none H')/\
  (∀bs,aR D.fs n=some bs->(dQ d2=false->∀H',aG H H'->E (.ref aa1) none H')/\(dQ d2=true->∀H',rF dk df kvs H H'->DiskAt C H' dk df kvs (sO n D (bX d2)).1->((sO n D (bX d2)).2=true->Q .non H')/\((sO n D (bX d2)).2=false->E (.ref aa5) none H'))))->zK C aa2 aa4 aa1 aa5 vs H Q E
section
variable{P:Program}{w:World}{K:Ma}{mg:Mc}{base:Heap}{aa2 aa4 ac0 aa5 aa1 aa9 aa7:Addr}
theorem Jp(F:Fun K "drop" "Disk.drop" Gv f fd)(T:‹1›)(ah3:‹5›)(am1:‹11›):‹14› 4 f fd ["self","name"] (oW aa7 aa2 aa4 aa5):=by
 refine F.okY ["self","name"] λaa A J s H vs Q E hr nD0 h=>?_;obtain⟨t,L,p,D,v,d,rfl,N,U,hn,qb,q⟩:=h;refine⟨_,aA ‹86›
  (aA ‹59›
  (aC (aX (i5 K PySem.F.plainAttrs_dict PySem.F.slot_dict_pop PySem.F.type_dict_pop pI ‹23› ‹29›)))),?_⟩
 obtain⟨V,W⟩:=N.self;refine⟨_,rfl,t,V,_,rfl,W,rfl,_,rfl,t,L,p,D,v,d,rfl,N,U,hn,qb,λn X hw=>?_⟩;obtain⟨qm,q2⟩:=q n X hw;subst X;have ev:v = .str n:=by simpa only[Den] using U
 subst ev;refine⟨qm,λbs u H1 G=>?_⟩;obtain⟨qs,q3⟩:=q2 bs u;have O:=N.same G;refine⟨_,rfl,t,V,_,rfl,G _ _ W,rfl,t,L,p,D,rfl,O,λR I H2 f2 g=>?_,λI=>qs I H1 G⟩;obtain⟨x,y⟩:=g.self;have Y:=g.rel.val (n:=n);rw[oM I,u]at Y;obtain⟨v,S,_⟩:=Y;refine⟨_,rfl,t,_,x,_,_,rfl,y,T.cl,T.af9,rfl,.inr (.inr (.inl ⟨rfl,.inl ⟨p,g.files⟩⟩)),_,rfl,L,p,Sum.inr n,_,rfl,rfl,g.files,S,?_⟩;obtain⟨o1,o2,o3⟩:=pE g;have sub:(e7 p (Sum.inr n)).Sublist p:=List.filter_sublist;have B:(gQ R.fs n).Sublist R.fs:=List.filter_sublist;refine q3 R I (e7 p (Sum.inr n)) _ (λb o e Z=>?_) (λb r=>?_) ⟨⟨x,by rw[aH o1];exact y⟩,aB,?_,?_,?_⟩
 ·rw[aH (λz=>Z (.inr (.inl z)))];exact f2 b o (G _ _ e) (λz=>Z (.inl z))
 ·rcases r with r |r |r
  ·exact .inl (.inl r)
  ·exact .inl (.inr (.inl r))
  ·exact .inl (.inr (.inr ((sub.map _).subset r)))
 ·refine(g.rel.drop (n:=n)).same λb o e m=>?_;rw[aH (λz=>by rw[z]at m;exact o3 ((sub.map _).subset m))];exact e
 ·exact g.nd.sublist (sub.map _)
 ·exact g.kn.sublist (B.map _)
theorem Ll{f:Addr}{fd:Ml}(F:Fun K "add" "Disk.add" Ka f fd)(T:‹1›)(ai:‹15› "is_bytes" 2 ["thing"] hJ)(ah3:‹5›)(am1:‹11›):‹14› 4 f fd ["self","name","some"] (zK aa7 aa2 aa4 aa1 aa5):=by
 refine F.okY ["self","name","some","one"] λaq A aj s H vs Q E hr nD0 h=>?_;obtain⟨N,U,m,D,v,v2,d,d2,rfl,hD,hd,hn,ab,ac,ak,qb,q⟩:=h;refine⟨_,aA ‹86›
  (aA (bG (cS (dE (bB ai ‹18› bA ‹37›)))
   ‹94›
   aO)
  (aC (eQ (i8 dF) ⋯ (sX K (pv 2)) ‹53›
   (aA ‹59›
   (aC (aX (i5 K PySem.F.plainAttrs_list PySem.F.slot_list_append PySem.F.type_list_append iK ‹91› ‹51›))))))),?_⟩
 obtain⟨dx,h1⟩:=hD.self;refine⟨_,rfl,N,dx,_,rfl,h1,rfl,_,rfl,N,U,m,D,v,d,rfl,hD,hd,hn,qb,λn en hw=>?_⟩;obtain⟨qm,q2⟩:=q n en hw;subst en;have ev:v = .str n:=by simpa only[Den] using hd
 subst ev;refine⟨qm,λbs W H1 S1=>?_⟩;obtain⟨qr,q3⟩:=q2 bs W;refine⟨_,rfl,v2,d2,rfl,ab.same S1,λds e=>le_trans (ac ds e) (by decide),λH2 S2=>⟨_,rfl,?_⟩⟩;have O:aG H H2:=S1.trans S2;cases G:dQ d2 with
 |false=>exact aU ⟨(by show 1<=sizeLine;decide),qr G H2 O⟩
 |true=>
 refine bD ?_;refine cQ rfl ?_;have q4:=q3 G;have R:=hD.same O;obtain⟨I,ad,rfl,rfl,ae,l2⟩:=GA ab G;have z2:=ac ad rfl;have zf:=ak n bs W;generalize bX (.tuple ad)=t at ae l2 q4;have X:H2 I=some (.tup (t.map V.int)):=O _ _ ae;refine⟨_,rfl,I,rfl,⟨_,SqT.of X⟩,?_⟩;have al:SqT K (λa=>if a=I then some (.tup (t.map V.int)) else none) I (t.map V.int):=SqT.of (if_pos rfl);have lm:(t.map V.int).length=t.length:=length_map _;have na:¬own N U m I:=by
  rintro (z |z |z)
  ·obtain⟨ar,am⟩:=R.self;rw[z,am]at X;cases X
  ·rw[z,R.files]at X;cases X
  ·have an:∀{fs:List (Str×Mf)}{m:Mn},FsR H2 fs m->V.ref I∈m.map (·.2)->∃xs,H2 I=some (.lst xs):=by
    intro fs
    induction fs with
    |nil=>
     intro m hr G;cases m with
     |nil=>simp at G
     |cons _ _=>exact hr.elim
    |cons p fs ih=>
     intro m hr G;cases m with
     |nil=>exact hr.elim
     |cons q m=>
      obtain⟨_,⟨l',e,g⟩,h3⟩:=hr;rw[map_cons,mem_cons]at G;rcases G with G |G
      ·rw[e]at G;cases G;exact⟨_,g⟩
      ·exact ih h3 G
   obtain⟨xs,e⟩:=an R.rel z;rw[X]at e;cases e
 refine fR (H0:=λa=>if a=I then some (.tup (t.map V.int)) else none) (oO (K:=K) al) (λi σ H'=>H' I=some (.tup (t.map V.int))/\rF N U m H H'/\∃L r z3,DiskAt aa7 H' N U m L/\aR L.fs n=some r/\r.length<=bs.length+i/\sO n D t=sO n L (t.drop i)/\σ = [some (.ref N),some (.str n),some (.ref I),z3]) ?i0 ?kp ?_ ?_
 case i0=>exact⟨X,λb o e _=>O b o e,D,bs,none,R,W,le_refl _,rfl,rfl⟩
 case kp=>
  intro i σ H' h b o e;by_cases z:b=I
  ·subst z;have e:some (HO.tup (t.map V.int))=some o:=by simpa using e
   rw[<- e];exact h.1
  ·have e:none=some o:=by simpa [z] using e
   cases e
 ·rintro i x σ H5 H6 hi ⟨g5,f5,L,r,z3,Y,S,af,y,rfl⟩ s6 hx;rw[lm]at hi;rw[getElem?_map,getElem?_eq_getElem hi]at hx;cases hx;rw[drop_eq_getElem_cons hi]at y;have Z:=Y.same s6;obtain⟨ao,ap⟩:=Z.self;have f6:rF N U m H H6:=λb o e nb=>s6 _ _ (f5 b o e nb);refine⟨_,rfl,N,ao,_,rfl,ap,rfl,N,U,m,L,rfl,Z,λB hs H7 f7 u=>?_,λhs=>?_⟩
  ·obtain⟨ag,ah⟩:=u.self;have hv:=u.rel.val (n:=n);rw[oM hs,S]at hv;obtain⟨v7,aa,l,rfl,gl⟩:=hv;have dg:cR H7 U (.str n) (some (.ref l)):=by
    have:=cR.k (k:=Sum.inr n) u.files;rw[aa]at this;exact this
   refine⟨_,rfl,N,_,ag,_,_,rfl,ah,T.cl,T.af9,rfl,_,rfl,U,_,rfl,dg,.inl ⟨rfl,_,SqL.of gl⟩,_,rfl,l,_,_,rfl,rfl,gl,?_,?_⟩
   ·rw[length_map];exact lt_of_le_of_lt (show _<=200000 by omega) (by decide)
   have J:=DY aa;have em:r.map V.int++[V.int t[i]]=(r++[t[i]]).map V.int:=by rw[map_append];rfl
   rw[em];obtain⟨o1,o2,o3⟩:=pE u;have nl:I≠l:=λz=>na (.inr (.inr (by rw[z];exact J)));have nk:I≠N:=λz=>na (.inl z);refine⟨?_,λb o e nb=>?_,⟨fE B.fs n (r++[t[i]]),B.done,B.left⟩,r++[t[i]],_,⟨⟨ag,?_⟩,?_,u.rel.wr u.nd u.kn aa,u.nd,?_⟩,?_,?_,?_,rfl⟩
   ·rw[aH nl];exact f7 _ _ (s6 _ _ g5) nk
   ·rw[aH (λz=>nb (.inr (.inr (by rw[z];exact J))))];exact f7 _ _ (f6 b o e nb) (λz=>nb (.inl z))
   ·rw[aH (λz=>by rw[<- z]at J;exact o2 J)];exact ah
   ·rw[aH (λz=>by rw[<- z]at J;exact o3 J)];exact u.files
   ·show ((fE B.fs n (r++[t[i]])).map (·.1)).Nodup;rw[m4];exact u.kn
   ·show aR (fE B.fs n (r++[t[i]])) n=_;rw[oM hs];exact wZ S
   ·rw[length_append];show r.length+1<=_;omega
   ·rw[y];show (match iQ L with |none=>(L,false) |some B=>sO n ⟨fE B.fs n ((aR B.fs n).getD []++[t[i]]),B.done,B.left⟩ (t.drop (i+1)))=_;rw[hs]
    try dsimp only
    rw[oM hs,S];rfl
  ·have e1:sO n D t=(L,false):=by
    rw[y];show (match iQ L with |none=>(L,false) |some B=>sO n ⟨fE B.fs n ((aR B.fs n).getD []++[t[i]]),B.done,B.left⟩ (t.drop (i+1)))=_;rw[hs]
   rw[e1]at q4;exact(q4 H6 f6 Z).2 rfl
 ·rintro σ H5 ⟨g5,f5,L,r,z3,Y,S,af,y,rfl⟩;rw[lm,List.drop_of_length_le (le_refl _)]at y;have e1:sO n D t=(L,true):=y;rw[e1]at q4;exact(q4 H5 f5 Y).1 rfl
end
theorem vR:∀{n:List (Str×Mf)}{f:Mn},FsR H n f->∀{b:Addr},V.ref b∈f.map (·.2)->∃o,H b=some (.lst o)
 |[],[],_,b,h=>by simp at h
 |p::n,q::f,hr,b,m=>by
  obtain⟨_,⟨s,e,g⟩,r⟩:=hr;rw[map_cons,mem_cons]at m;rcases m with m |m
  ·rw[e]at m;cases m;exact⟨_,g⟩
  ·exact vR r m
 |[],_::_,h,_,_=>h.elim
 |_::_,[],h,_,_=>h.elim
section
variable{P:Program}{w:World}{K:Ma}{mg:Mc}{base:Heap}{aa2 aa4 ac0 aa5 aa1 aa9 aa7:Addr}
end
structure Ad where
 dM:Addr
 badRow:Addr
 broken:Addr
 book:Addr
 badName:Addr
 missing:Addr
 there:Addr
 stopped:Addr
 badNumber:Addr
 disk:Addr
 queue:Addr
 badSettings:Addr
 badBody:Addr
 badHand:Addr
 notHeld:Addr
structure TxtQ(K:Ma)(mg:Mc)(A:Ad):Prop where
 ae0:mg "len" = none
 ba3:mg "int" = none
 af7:mg "sorted" = none
 ax5:mg "sum" = none
 af8:dH K A.broken=true
 az8:mg "Broken" = some (.ref A.broken)
 ad2:Cls K A.book
 ac6:Cls K A.disk
 aa0:Cls K A.queue
 bk8:mg "min" = none
 bc5:∃t,mg "LARGEST_MOST" = some (.int 2000 t)
 bc6:∃t,mg "LONGEST_HOLD" = some (.int 99 t)
 ba6:∃t,mg "HIGHEST_TRIES" = some (.int 9 t)
 bg8:∃t,mg "HAND_SIGNS" = some (.str "abcdefghijklmnopqrstuvwxyz" t)
 bc7:∃t,mg "LONGEST_HAND" = some (.int 6 t)
 ad3:∃t,mg "HIGHEST_NUMBER" = some (.int 999999 t)
 ah4:∃t,mg "HIGHEST_TIMES" = some (.int 9 t)
 ag5:dH K A.badSettings=true
 bf6:mg "BadSettings" = some (.ref A.badSettings)
 aj8:dH K A.badBody=true
 be2:mg "BadBody" = some (.ref A.badBody)
 an7:dH K A.badHand=true
 be3:mg "BadHand" = some (.ref A.badHand)
 aj9:dH K A.notHeld=true
 an8:mg "NotHeld" = some (.ref A.notHeld)
 ab8:dG K A.book "upcoming"
 ap9:dG K A.queue "disk"
 bj7:dG K A.queue "most"
 bj8:dG K A.queue "hold"
 bc8:dG K A.queue "tries"
 ae4:dG K A.queue "book"
 ai9:dG K A.queue "first"
 ak0:dG K A.queue "last"
 an9:dG K A.queue "writing"
 ac5:dG K A.queue "holders"
 bg1:dG K A.queue "now"
 ac2:mg "isinstance" = none
 ai6:mg "tuple" = none
 ag3:mg "enumerate" = none
 af1:mg "range" = none
 ap7:mg "list" = none
 ai7:∃t,mg "LARGEST_DEAL" = some (.int 9 t)
 af0:dH K A.badNumber=true
 ax9:mg "BadNumber" = some (.ref A.badNumber)
def bK(n:Int):Str:=("s" : Str)++Str.ofString (toString n)
abbrev l7:Stmt:=top 48
abbrev oZ:Stmt:=top 49
def eZ(n:Int):Prop:=0<=n/\n<10000000
theorem EI(h:eZ n):1<=(Str.ofString (toString n)).length/\(Str.ofString (toString n)).length<=7:=⟨PySem.W.KLn.one_le h.1,PyProof.Rows.toString_length_le h.1 (by decide) h.2⟩
theorem IA(m:Nat):Builtin.Str.strSliceIndices (some 1) none 1 (m+1)=(List.range m).map (· + 1):=by
 have b:Builtin.Str.strSliceIndices (some 1) none 1 (m+1)=sliceRange (max 0 (min 1 ((m+1:Nat):Int))) ((m+1:Nat):Int) 1:=rfl;have e:(max 0 (min 1 ((m+1:Nat):Int)):Int)=1:=by omega
 rw[b,e];unfold sliceRange;simp only[show (1:Int) > 0 by decide,if_true];have f:(if (1:Int)<((m+1:Nat):Int) then (((m+1:Nat):Int)-1+1-1) / 1 else 0)=(m:Int):=by
  split <;> omega
 rw[f,Int.toNat_natCast];apply map_congr_left;intro k _;omega
theorem CW(c:Nat):∀cs:List Nat,((List.range cs.length).map (· + 1)).filterMap (λi=>(c::cs)[i]?)=cs
 |cs=>by
  rw[List.filterMap_map];have:((λi=>(c::cs)[i]?) ∘ λx=>x+1)=λi=>cs[i]?:=by
   funext i;rfl
  rw[this];apply ext_getElem?;intro i;have b:∀(l:List Nat)(k:Nat),k<=l.length->(List.range k).filterMap (λi=>l[i]?)=l.take k:=by
   intro l k
   induction k with
   |zero=>intro _;rfl
   |succ k e=>
    intro f;rw[List.range_succ,List.filterMap_append,e (by omega),take_succ,getElem?_eq_getElem (by omega)];simp [getElem?_eq_getElem (show k<l.length by omega)]
  rw[b cs cs.length (le_refl _),take_length]
theorem Cg(h:x.cps.toList=c::cs):Txt.slice x (some 1) none=⟨cs.toArray⟩:=by
 have b:x.length=cs.length+1:=by
  show x.cps.size=_;rw[<- length_toList,h];rfl
 unfold Txt.slice;rw[b,IA,if_neg (by simp)];have e:(λi:Nat=>x.cps[i]?)=λi=>(c::cs)[i]?:=by
  funext i;rw[<- getElem?_toList,h]
 rw[e,CW]
theorem DB{n:Int}(h:0<=n):∀c∈(Str.ofString (toString n)).cps.toList,48<=c/\c<=57:=by
 obtain⟨m,rfl⟩:=Int.eq_ofNat_of_zero_le h;intro c f;rw[PySem.W.KIN.signs_num]at f;obtain⟨g,b,e⟩:=mem_map.mp f;have r:=PyProof.Rows.digit_range (Nat.isDigit_of_mem_toDigits (by decide) (by decide) b);rw[<- e];exact r
theorem Dr(n:Int):(bK n).cps.toList=115::(Str.ofString (toString n)).cps.toList:=by
 show ((("s" : Str)).cps++(Str.ofString (toString n)).cps).toList=_;rw[toList_append];rfl
theorem w6(n:Int):Txt.slice (bK n) (some 1) none=Str.ofString (toString n):=by
 rw[Cg (Dr n),Array.toArray_toList]
theorem Dq(h:eZ n):(bK n).length<=8:=by
 have:=(EI h).2;unfold bK;rw[strLen_append];show 1+_<=8;omega
inductive hW(vs:Mp)(H:Hp)(Q:VK)(x_3:XK):Prop
 |mk:∀n:Int,vs=[.int n]->eZ n->Q (.str (bK n)) H->hW vs H Q x_3
section
variable{P:Program}{w:World}{K:Ma}{mg:Mc}{base:Heap}{A:Ad}
theorem sI(F:Fun K "segment_name" "segment_name" l7 f e):‹14› 1 f e ["segment"] hW:=by
 refine F.okY ["segment"] λg A b s H p Q E hr nD0 h=>?_;obtain⟨n,rfl,⟨m,o⟩,q⟩:=h;refine⟨_,aC (aP (pe_fw (pv 0))),?_⟩;exact⟨_,rfl,n,rfl,m,Int.lt_of_lt_of_le o (by decide),q⟩
end
abbrev nN:Stmt:=top 50
section
variable{P:Program}{w:World}{K:Ma}{mg:Mc}{base:Heap}{A:Ad}
end
abbrev xB:Stmt:=top 51
section
variable{P:Program}{w:World}{K:Ma}{mg:Mc}{base:Heap}{A:Ad}
end
abbrev xD:Stmt:=top 52
theorem xA(h:eZ n):∀c∈(bK n).cps.toList,c=115\/(48<=c/\c<=57):=by
 intro c b;rw[Dr]at b;rcases mem_cons.mp b with z |z
 ·exact .inl z
 ·exact .inr (DB h.1 c z)
theorem kC(h:eZ n):cX cN 8 (.str (bK n))=true:=by
 have g:1<=(bK n).length:=by
  have:=(EI h).1;unfold bK;rw[strLen_append];omega
 have m:=Dq h;have b:∀c:Nat,c<58->48<=c->inS cN c=true:=by decide +kernel
 have e:inS cN 115=true:=by decide +kernel
 show ((decide (1<=((bK n).length:Int)) && decide (((bK n).length:Int)<=8)) && (bK n).cps.toList.all (inS cN))=true;rw[decide_eq_true (by omega),decide_eq_true (by omega),Bool.true_and,Bool.true_and,all_eq_true];intro c f;rcases xA h c f with z | ⟨z1,o⟩
 ·rw[z];exact e
 ·exact b c (by omega) z1
theorem qO(h:eZ n):oE (.str (bK n)):=by
 intro x e;injection e with e
 subst e;refine⟨le_trans (Dq h) (by decide),?_⟩;unfold gO;rw[<- Array.all_toList,all_eq_true];intro c b;rcases xA h c b with z | ⟨z1,f⟩ <;> exact decide_eq_true (by omega)
section
variable{P:Program}{w:World}{K:Ma}{mg:Mc}{base:Heap}{A:Ad}
end
abbrev xP:Stmt:=top 53
theorem Bl(h:n∈b.map (·.1)):∃f,aR b n=some f:=by
 unfold aR;cases e:b.find? λp=>decide (p.1=n) with
 |none=>
  rw[find?_eq_none]at e;rw[mem_map]at h;obtain⟨p,g,m⟩:=h;exact absurd (decide_eq_true m) (e p g)
 |some p=>exact⟨p.2,rfl⟩
section
variable{P:Program}{w:World}{K:Ma}{mg:Mc}{base:Heap}{A:Ad}
end
abbrev kD:Stmt:=top 44
abbrev pA:Stmt:=top 45
abbrev o7:Stmt:=top 47
def iA:Str:="abcdefghijklmnopqrstuvwxyz"
def uM(b e f:PyData):Bool:=bL 1 2000 b && (bL 0 99 e && bL 1 9 f)
inductive fZ(A:Ad)(vs:Mp)(H:Hp)(Q:VK)(E:XK):Prop
 |mk:∀(v1 v2 v3:V)(d1 d2 d3:PyData),vs=[v1,v2,v3]->Den H d1 v1->Den H d2 v2->Den H d3 v3->(uM d1 d2 d3=true->Q .non H)->(uM d1 d2 d3=false->E (.ref A.badSettings) none H)->fZ A vs H Q E
inductive gY(A:Ad)(vs:Mp)(H:Hp)(Q:VK)(E:XK):Prop
 |mk:∀(v:V)(d:PyData),vs=[v]->Den H d v->(∀x,d = .str x->x.length<=1000/\gO x=true)->(cX iA 6 d=true->∀H',aG H H'->Q .non H')->(cX iA 6 d=false->∀H',aG H H'->E (.ref A.badHand) none H')->gY A vs H Q E
inductive gZ(A:Ad)(vs:Mp)(H:Hp)(Q:VK)(E:XK):Prop
 |mk:∀(v:V)(d:PyData),vs=[v]->Den H d v->(∀bs,d = .tuple bs->bs.length<=sizeLine)->(bQ (.tuple [.str "put",.int 0,d])=true->∀H',aG H H'->Q .non H')->(bQ (.tuple [.str "put",.int 0,d])=false->∀H',aG H H'->E (.ref A.badBody) none H')->gZ A vs H Q E
section
variable{P:Program}{w:World}{K:Ma}{mg:Mc}{base:Heap}{A:Ad}
theorem pG(F:Fun K "check_settings" "check_settings" kD f B)(T:‹3›)(e:‹2›):‹14› 2 f B ["most","hold","tries"] (fZ A):=by
 obtain⟨_,m⟩:=T.bc5;obtain⟨_,n⟩:=T.bc6;obtain⟨_,o⟩:=T.ba6;refine F.okY ["most","hold","tries"] λD R p s H S Q E hr nD0 h=>?_;obtain⟨G,I,J,r,t,u,rfl,L,N,O,q,b⟩:=h;refine⟨_,aA (bG (cS (dE (bB e ‹18› bA (aE (pv 0) (aI aM (aE (cO (v:=.int 2000) ⋯ m ⟨_,rfl⟩) aF))))))
   ‹90›
   aO)
  (aA (bG (cS (dE (bB e ‹18› bA (aE (pv 1) (aI aM (aE (cO (v:=.int 99) ⋯ n ⟨_,rfl⟩) aF))))))
   ‹90›
   aO)
  (aC (bG (cS (dE (bB e ‹18› bA (aE (pv 2) (aI aM (aE (cO (v:=.int 9) ⋯ o ⟨_,rfl⟩) aF))))))
   ‹90›
   aO))),?_⟩
 unfold uM at q b;have g:(1:Nat)<=sizeLine:=by decide
 refine⟨_,rfl,G,r,1,2000,rfl,L,_,rfl,?_⟩;cases x:bL 1 2000 r with
 |false=>
  rw[x]at b;exact aU ⟨g,b rfl⟩
 |true=>
 rw[x]at q b;refine bD (cQ rfl ?_);refine⟨_,rfl,I,t,0,99,rfl,N,_,rfl,?_⟩;cases y:bL 0 99 t with
 |false=>
  rw[y]at b;exact aU ⟨g,b rfl⟩
 |true=>
 rw[y]at q b;refine bD (cQ rfl ?_);refine⟨_,rfl,J,u,1,9,rfl,O,_,rfl,?_⟩;cases z:bL 1 9 u with
 |false=>
  rw[z]at b;exact aU ⟨g,b rfl⟩
 |true=>
 rw[z]at q;exact bD (q rfl)
theorem wI(F:Fun K "check_hand" "check_hand" o7 f r)(T:‹3›)(b:‹15› "is_word" 1 ["thing","signs","longest"] lC):‹14› 2 f r ["hand"] (gY A):=by
 obtain⟨_,e⟩:=T.bg8;obtain⟨_,g⟩:=T.bc7;refine F.okY ["hand"] λt z m s H B Q E hr nD0 h=>?_;obtain⟨v,d,rfl,u,x,q,y⟩:=h;refine⟨_,aC (bG (cS (dE (bB b ‹18› bA (aE (pv 0) (aE (cO (v:=.str "abcdefghijklmnopqrstuvwxyz") ⋯ e ⟨_,rfl⟩) (aE (cO (v:=.int 6) ⋯ g ⟨_,rfl⟩) aF))))))
   (aC (dW eX ⋯ T.an7 ⋯ T.be3 ‹25›))
   aO),?_⟩
 refine⟨_,rfl,v,d,iA,6,rfl,u,x,λn o=>⟨_,rfl,?_⟩⟩;cases p:cX iA 6 d with
 |false=>exact aU ⟨(by show 1<=sizeLine;decide),y p n o⟩
 |true=>exact bD (q p n o)
theorem wL(F:Fun K "check_body" "check_body" pA f u)(T:‹3›)(b:‹15› "is_row" 3 ["thing"] mY):‹14› 4 f u ["body"] (gZ A):=by
 refine F.okY ["body"] λx I g s H J Q E hr nD0 h=>?_;obtain⟨v,d,rfl,y,z,q,B⟩:=h;refine⟨_,aC (bG (cS (dE (bB b ‹18› bA (bV (bE (aI bP (aI aM ‹35›))) aF))))
   (aC (dW eX ⋯ T.aj8 ⋯ T.be2 ‹25›))
   aO),?_⟩
 refine⟨_,rfl,aJ,λp D=>?_⟩;have S:=aD (o:=.tup [.str "put",.int 0,v]) D;refine⟨.ref p,.tuple [.str "put",.int 0,d],rfl,?_,λk n G e=>?_,λm r=>⟨_,rfl,?_⟩⟩
 ·simp only[Den,aT];exact⟨p,_,rfl,aB,_,_,rfl,rfl,_,_,rfl,rfl,_,_,rfl,y.same S,rfl⟩
 ·injection e with e
  injection e with _ e
  injection e with _ e
  injection e with e _
  exact z G e
 cases t:bQ (.tuple [.str "put",.int 0,d]) with
 |false=>exact aU ⟨(by show 1<=sizeLine;decide),B t m (S.trans r)⟩
 |true=>exact bD (q t m (S.trans r))
end
abbrev rL:Stmt:=top 54
def mkN(D:Dk)(n:Str):Dk:=⟨D.fs++[(n,[])],D.done+1,none⟩
def Ed(D:Dk)(n:Str):Dk:=⟨gQ D.fs n,D.done+1,none⟩
def uN(D:Dk)(n:Str)(b:Mf)(k:Nat):Dk:=⟨fE D.fs n b,D.done+(k:Int),none⟩
theorem jV(h:D.left=none):iQ D=some ⟨D.fs,D.done+1,none⟩:=by
 unfold iQ;rw[h]
theorem Gj(e:List (Str×Mf))(n:Str)(a b:Mf):fE (fE e n a) n b=fE e n b:=by
 unfold fE;rw[map_map];apply map_congr_left;intro p _;by_cases z:p.1=n
 ·simp [z]
 ·simp [z]
theorem wY:∀{b:List (Str×Mf)},(b.map (·.1)).Nodup->aR b n=some f->fE b n f=b
 |[],_,_=>rfl
 |p::b,g,h=>by
  rw[map_cons,nodup_cons]at g;show (if p.1=n then (p.1,f) else p)::fE b n f=_;by_cases z:p.1=n
  ·have e:aR (p::b) n=some p.2:=by simp [aR,z]
   rw[e]at h;cases h;rw[if_pos z,Dp (λm=>g.1 (by rw[z];exact m))]
  ·have e:aR (p::b) n=aR b n:=by simp [aR,z]
   rw[e]at h;rw[if_neg z,wY g.2 h]
theorem y8:∀{e:Mf}{D:Dk}{bs:Mf},D.left=none->(D.fs.map (·.1)).Nodup->aR D.fs n=some bs->sO n D e=(uN D n (bs++e) e.length,true)
 |[],D,bs,f,o,g=>by
  obtain⟨p,done,left⟩:=D;have f:left=none:=f;subst f;show ((⟨p,done,none⟩:Dk),true)=(⟨fE p n (bs++[]),done+((0:Nat):Int),none⟩,true);rw[append_nil,wY o g];simp
 |b::e,D,bs,f,o,g=>by
  show (match iQ D with |none=>(D,false) |some m=>sO n ⟨fE m.fs n ((aR m.fs n).getD []++[b]),m.done,m.left⟩ e)=_;rw[jV f]
  try dsimp only
  rw[g,y8 (bs:=bs++[b]) rfl (by rw[m4];exact o) (wZ g)];unfold uN
  try dsimp only
  rw[Option.getD_some,Gj,append_assoc,length_cons];have:D.done+1+(e.length:Int)=D.done+((e.length+1:Nat):Int):=by omega
  rw[this];rfl
theorem oB(h:DiskAt C H m n f D)(g:own m n f b):∃o,H b=some o:=by
 rcases g with rfl |rfl |g
 ·obtain⟨q,p⟩:=h.self;exact⟨_,p⟩
 ·exact⟨_,h.files⟩
 ·obtain⟨r,e⟩:=vR h.rel g;exact⟨_,e⟩
theorem pK(b:List (Str×Mf))(n m:Str)(e:Mf)(h:aR b n=none):aR (b++[(n,e)]) m=if m=n then some e else aR b m:=by
 unfold aR at h⊢;rw[map_eq_none_iff,find?_eq_none]at h;rw[List.find?_append];by_cases z:m=n
 ·subst z;have:b.find? (λp=>decide (p.1=m))=none:=find?_eq_none.mpr h;rw[this,if_pos rfl];simp
 ·rw[if_neg z];have f:¬n=m:=λy=>z y.symm;cases b.find? (λp=>decide (p.1=m)) with
  |none=>simp [f]
  |some p=>simp
theorem Bf(b:List (Str×Mf))(n m:Str)(e:Mf):aR (fE b n e) m=if m=n then (aR b n).map (λ_=>e) else aR b m:=by
 unfold aR fE
 induction b with
 |nil=>split <;> rfl
 |cons p b f=>
  rw[map_cons,find?_cons,find?_cons,find?_cons];by_cases z:m=n
  ·subst z;rw[if_pos rfl]at f⊢;by_cases y:p.1=m
   ·simp [y]
   ·simp only[y,if_false,decide_false];exact f
  ·rw[if_neg z]at f⊢;by_cases y:p.1=n
   ·have:¬p.1=m:=λx=>z (x.symm.trans y);simp only[y,if_true];rw[decide_eq_false (λx:n=m=>z x.symm)];exact f
   ·simp only[y,if_false];by_cases x:p.1=m
    ·simp [x]
    ·simp only[x,decide_false];exact f
theorem Ea(b:0<=n)(e:n<=999999):bQ (cI ("from",n,[]))=true:=by
 show (dM.contains "from" && (bL 0 999999 (.int n) && (dQ (.tuple []) && fF "from" (bX (.tuple [])))))=true;have:bL 0 999999 (.int n)=true:=by
  simp only[bL,and_eq_true,decide_eq_true_eq];exact⟨b,e⟩
 rw[this];decide +kernel
theorem gR(h:k [] H):kX b H k:=h
section
variable{C c1 c2 c3 c4 dk df:Addr}{kvs:Mn}{D:Dk}{n:Int}{H:Hp}{Q:V->Hp->Prop}{E:XK}{bs:Mf}
theorem Ai(t:DiskAt C H dk df kvs D)(p:D.left=none)(r:eZ n)(u:D.fs.length<100000)(o:aR D.fs (bK n)=none)(q:∀b m,rF dk df kvs H m->GE dk df kvs b H->DiskAt C m dk df b (mkN D (bK n))->Q .non m):oU C c1 c2 c3 [.ref dk,.str (bK n)] H Q E:=by
 refine⟨dk,df,kvs,D,_,.str (bK n),rfl,t,by simp only[Den],qO r,u,(λz=>by rw[kC r]at z;cases z),λx e _=>?_⟩;injection e with e
 subst e;refine⟨(λbs z=>by rw[o]at z;cases z),λ_=>⟨(λz=>by rw[jV p]at z;cases z),λy s b m f g h=>?_⟩⟩;rw[jV p]at s;cases s;exact q _ _ f g h
theorem GJ(s:DiskAt C H dk df kvs D)(o:D.left=none)(p:eZ n)(t:aR D.fs (bK n)=some bs)(q:∀b m,rF dk df kvs H m->GE dk df kvs b H->DiskAt C m dk df b (Ed D (bK n))->Q .non m):oW C c1 c2 c3 [.ref dk,.str (bK n)] H Q E:=by
 refine⟨dk,df,kvs,D,_,.str (bK n),rfl,s,by simp only[Den],qO p,(λz=>by rw[kC p]at z;cases z),λx e _=>?_⟩;injection e with e
 subst e;refine⟨(λz=>by rw[t]at z;cases z),λu z=>⟨(λz=>by rw[jV o]at z;cases z),λy r b m f g h=>?_⟩⟩;rw[jV o]at r;cases r;exact q _ _ f g h
theorem zB(s:DiskAt C H dk df kvs D)(u:D.left=none)(t:eZ n)(o:aR D.fs (bK n)=some bs)(x:∀n bs,aR D.fs n=some bs->bs.length<=100000)(y:H a=some (.tup (g.map V.int)))(p:∀b∈g,0<=b/\b<=255)(r:g.length<=100000)(q:∀m,rF dk df kvs H m->DiskAt C m dk df kvs (uN D (bK n) (bs++g) g.length)->Q .non m):zK C c1 c2 c3 c4 [.ref dk,.str (bK n),.ref a] H Q E:=by
 refine⟨dk,df,kvs,D,_,_,.str (bK n),.tuple (g.map .int),rfl,s,by simp only[Den],qO t,by simp only[Den];exact⟨a,_,rfl,y,cB.mpr rfl⟩,(λI e=>by injection e with e;rw[<- e,length_map];exact r),x,(λz=>by rw[kC t]at z;cases z),λJ e _=>?_⟩;injection e with e
 subst e;refine⟨(λz=>by rw[o]at z;cases z),λB z=>?_⟩;rw[o]at z;cases z;have G:dQ (.tuple (g.map .int))=true:=tH p
 refine⟨(λz=>by rw[G]at z;cases z),λ_ m f h=>?_⟩;rw[gF,y8 u s.kn o]at h⊢;exact⟨λ_=>q m f h,(λz=>by cases z)⟩
theorem Ah(m:DiskAt C H dk df kvs D)(b:eZ n)(f:aR D.fs (bK n)=some bs)(q:∀g,aG H g->Q (.int (bs.length:Int)) g):oP C c1 c2 [.ref dk,.str (bK n)] H Q E:=by
 refine⟨dk,df,kvs,D,_,.str (bK n),rfl,m,by simp only[Den],qO b,(λz=>by rw[kC b]at z;cases z),λp e _=>?_⟩;injection e with e
 subst e;refine⟨(λz=>by rw[f]at z;cases z),λo z=>?_⟩;rw[f]at z;cases z;exact q
theorem GI(m:DiskAt C H dk df kvs D)(f:eZ n)(g:aR D.fs (bK n)=some bs)(q:∀p b,aG H b->b p=some (.tup (bs.map V.int))->Q (.ref p) b):oR C c1 c2 [.ref dk,.str (bK n)] H Q E:=by
 refine⟨dk,df,kvs,D,_,.str (bK n),rfl,m,by simp only[Den],qO f,(λz=>by rw[kC f]at z;cases z),λr e _=>?_⟩;injection e with e
 subst e;refine⟨(λz=>by rw[g]at z;cases z),λo z=>?_⟩;rw[g]at z;cases z;exact q
theorem xS(h:bQ (cI r)=true):dM.contains r.1=true/\0<=r.2.1/\r.2.1<=999999/\dY r.2.2/\fF r.1 r.2.2=true:=by
 obtain⟨k,n,bs,e,p,q,s,t,g⟩:=oG h;unfold cI fQ at e;injection e with e
 injection e with f e
 injection e with m e
 injection e with o e
 injection f with f
 injection m with m
 injection o with o
 have b:dY (bX (.tuple bs)):=vY t;rw[<- o,gF]at g b;rw[f,m];exact⟨p,q,s,b,by rw[<- f]at g⊢;exact g⟩
theorem qP(h:bQ (cI r)=true):r.2.2.length<=61:=vQ (xS h).2.2.2.2
theorem lH(h:bQ (cI r)=true):∀b∈iD r.1 r.2.1 r.2.2,0<=b/\b<=255:=by
 obtain⟨g,p,q,m,o⟩:=xS h;have s:=vQ o;have e:r.1∈dM:=by simpa using g
 have f:=List.idxOf_lt_length_of_mem e;have f:dM.idxOf r.1<8:=f;intro b e;unfold iD gN pX at e;simp only[mem_append,mem_cons,List.not_mem_nil,or_false]at e;rcases e with (z |z) | (((z |z |z |z) |z) |z)
 ·omega
 ·omega
 ·omega
 ·omega
 ·omega
 ·omega
 ·omega
 ·exact m b z
theorem JR(r:Rw):Gz (cI r)=iD r.1 r.2.1 r.2.2:=by
 show iD r.1 r.2.1 (bX (.tuple (r.2.2.map .int)))=_;rw[gF]
theorem CS(m:Den H (cI r) v)(hr:bQ (cI r)=true)(q:∀p b,aG H b->b p=some (.tup ((iD r.1 r.2.1 r.2.2).map V.int))->Q (.ref p) b):fK c1 [v] H Q E:=by
 refine⟨v,cI r,rfl,m,λk n bs e=>?_,λ_ p b S g=>q p b S (by rw[<- JR];exact g),(λz=>by rw[hr]at z;cases z)⟩;have o:=qP hr;unfold cI fQ at e;injection e with e
 injection e with s e
 injection e with t e
 injection e with f e
 injection f with f
 rw[<- f,length_map];exact le_trans o (by decide)
end
theorem Gk(J:St->Hp->Prop)(f:∀n:St->Hp->Prop,(∀b e,J b e->n b e)->s (D.next n) g H)(m:∀b e,J b e->o D b e):tU s o D g H:=f _ m
theorem Jt{s f:TS}{m D:Ends}{g : St}{H:Hp}(J:St->Hp->Prop)(o:∀n:St->Hp->Prop,(∀b e,J b e->n b e)->s (D.next n) g H)(p:∀b e,J b e->f D b e):(m.next (tU s f D)).nx g H:=o _ p
section
variable{P:Program}{w:World}{K:Ma}{mg:Mc}{base:Heap}{A:Ad}
end
structure Qs where
 D:Dk
 B:Bk
 most:Int
 hold:Int
 tries:Int
 first:Int
 last:Int
 now:Int
 hs:Mt
structure Pl where
 qu:Addr
 dk:Addr
 df:Addr
 bk:Addr
 de:Addr
 dp:Addr
 hd:Addr
 kvs:Mn
def quF(L:Pl)(q:Qs)(b:Bool):Mo:=[("disk",.ref L.dk),("most",.int q.most),("hold",.int q.hold),("tries",.int q.tries),("book",.ref L.bk),("first",.int q.first),("last",.int q.last),("writing",.bl b),("holders",.ref L.hd),("now",.int q.now)]
def HoR(H:Hp):Mt->Mn->Prop
 |[],[]=>True
 |p::e,r::b=>r.1=Sum.inl p.1/\(∃t,r.2 = .ref t/\H t=some (.tup [.str p.2.1,.int p.2.2]))/\HoR H e b
 |_,_=>False
theorem HoR.t(s:fX H m):∀{f:Mt}{b:Mn},HoR H f b->HoR m f b
 |[],[],_=>trivial
 |p::f,r::b,h=>by
  obtain⟨n,⟨t,e,g⟩,o⟩:=h;exact⟨n,⟨t,e,s _ _ g⟩,HoR.t s o⟩
 |[],_::_,h=>h.elim
 |_::_,[],h=>h.elim
def Bp(L:Pl)(b:Addr):Prop:=b=L.bk\/b=L.de\/b=L.dp
def Hy(L:Pl)(b:Addr):Prop:=own L.dk L.df L.kvs b
def gT(L:Pl)(b:Addr):Prop:=b=L.qu\/b=L.hd\/Bp L b\/Hy L b
structure QueueW(A:Ad)(H:Hp)(L:Pl)(q:Qs)(wr:Bool):Prop where
 self:∃dx,H L.qu=some (.ins A.queue dx (quF L q wr))
 disk:DiskAt A.disk H L.dk L.df L.kvs q.D
 book:BookAt A.book H L.bk L.de L.dp q.B
 held:∃hk,H L.hd=some (.dK hk)/\HoR H q.hs hk
 a_bd:∀b,Bp L b->¬Hy L b
 a_qu:¬Bp L L.qu/\¬Hy L L.qu
 a_hd:L.hd≠L.qu/\¬Bp L L.hd/\¬Hy L L.hd
structure Step(L L':Pl)(H H':Hp):Prop where
 qu:L'.qu=L.qu
 dk:L'.dk=L.dk
 frm:∀b o,H b=some o->¬gT L b->H' b=some o
 grow:∀b,gT L' b->gT L b\/H b=none
 tup:fX H H'
theorem Step.trans(a:Step L g H m)(b:Step g L2 m H2):Step L L2 H H2:=by
 refine⟨b.qu.trans a.qu,b.dk.trans a.dk,λc o e f=>b.frm c o (a.frm c o e f) (λz=>(a.grow c z).elim f (λy=>by rw[y]at e;cases e)),λc n=>?_,a.tup.trans b.tup⟩;rcases b.grow c n with z |z
 ·exact a.grow c z
 ·by_cases y:gT L c
  ·exact .inl y
  ·refine .inr ?_;cases e:H c with
   |none=>rfl
   |some o=>rw[a.frm c o e y]at z;cases z
theorem aG.step(s:aG H f):Step L L H f:=⟨rfl,rfl,λb o e _=>s b o e,λb h=>.inl h,aG.tup s⟩
theorem Step.not(a:Step L f H g)(e:H b=some o)(n:¬gT L b):¬gT f b:=λz=>(a.grow b z).elim n (λy=>by rw[y]at e;cases e)
theorem DiskAt.keep(h:DiskAt C H g n f D)(s:∀b o,H b=some o->own g n f b->p b=some o):DiskAt C p g n f D:=by
 obtain⟨q,r⟩:=h.self;exact⟨⟨q,s _ _ r (.inl rfl)⟩,s _ _ h.files (.inr (.inl rfl)),h.rel.same λb o e m=>s b o e (.inr (.inr m)),h.nd,h.kn⟩
theorem BookAt.keep(h:BookAt C H f g m B)(s:∀b o,H b=some o->b=f\/b=g\/b=m->n b=some o)(t:fX H n):BookAt C n f g m B:=by
 obtain⟨p,q⟩:=h.self;obtain⟨e,r,u⟩:=h.ent;obtain⟨x,y,z⟩:=h.par;exact⟨⟨p,s _ _ q (.inl rfl)⟩,⟨e,s _ _ r (.inr (.inl rfl)),u.t t⟩,⟨x,s _ _ y (.inr (.inr rfl)),gK t (iJ _) z⟩⟩
theorem rF.tup(h:DiskAt C H m n g D)(f:rF m n g H o):fX H o:=λb r e=>by
 refine f b _ e ?_;rintro (rfl |rfl |z)
 ·obtain⟨s,p⟩:=h.self;rw[p]at e;cases e
 ·rw[h.files]at e;cases e
 ·obtain⟨t,q⟩:=vR h.rel z;rw[q]at e;cases e
section
variable{A:Ad}{H H':Hp}{L:Pl}{q:Qs}{wr:Bool}
theorem QueueW.same(h:QueueW A H L q wr)(s:aG H H'):QueueW A H' L q wr:=by
 obtain⟨b,e⟩:=h.self;obtain⟨f,g,m⟩:=h.held;exact⟨⟨b,s _ _ e⟩,h.disk.same s,h.book.same s,⟨f,s _ _ g,m.t (aG.tup s)⟩,h.a_bd,h.a_qu,h.a_hd⟩
theorem QueueW.fields(h:QueueW A H L q wr)(g:Qs)(f:Bool)(n:g.D=q.D)(p:g.B=q.B)(r:g.hs=q.hs):QueueW A (upd H L.qu (.ins A.queue dx (quF L g f))) L g f/\Step L L H (upd H L.qu (.ins A.queue dx (quF L g f))):=by
 obtain⟨s,u⟩:=h.self;obtain⟨x,y,B⟩:=h.held;have t:fX H (upd H L.qu (.ins A.queue dx (quF L g f))):=kW u (λE z=>by cases z);refine⟨⟨⟨dx,aB⟩,?_,?_,⟨x,by rw[aH h.a_hd.1];exact y,by rw[r];exact B.t t⟩,h.a_bd,h.a_qu,h.a_hd⟩,⟨rfl,rfl,λb o e D=>by rw[aH (λz=>D (.inl z))];exact e,λb m=>.inl m,t⟩⟩
 ·rw[n];refine h.disk.keep λb o e m=>?_;rw[aH (λz=>by rw[z]at m;exact h.a_qu.2 m)];exact e
 ·rw[p];refine h.book.keep (λb o e m=>?_) t;rw[aH (λz=>by rw[z]at m;exact h.a_qu.1 m)];exact e
theorem QueueW.toDisk(h:QueueW A H L q wr)(f:rF L.dk L.df L.kvs H H')(g:GE L.dk L.df L.kvs m H)(E:DiskAt A.disk H' L.dk L.df m G):QueueW A H' {L with kvs:=m} {q with D:=G} wr/\Step L {L with kvs:=m} H H':=by
 obtain⟨u,x⟩:=h.self;obtain⟨I,B,J⟩:=h.held;have t:fX H H':=f.tup h.disk;have n:∀b o,H b=some o->¬Hy L b->¬own L.dk L.df m b:=λb o e p z=>(g b z).elim p (λy=>by rw[y]at e;cases e);refine⟨⟨⟨u,f _ _ x h.a_qu.2⟩,E,h.book.keep (λb o e r=>f b o e (h.a_bd b r)) t,⟨I,f _ _ B h.a_hd.2.2,J.t t⟩,λb r=>?_,⟨h.a_qu.1,n _ _ x h.a_qu.2⟩,⟨h.a_hd.1,h.a_hd.2.1,n _ _ B h.a_hd.2.2⟩⟩,⟨rfl,rfl,λb o e p=>f b o e (λz=>p (.inr (.inr (.inr z)))),λb r=>?_,t⟩⟩
 ·obtain⟨R,N⟩:=h.book.self;obtain⟨s,O,_⟩:=h.book.ent;obtain⟨S,Q,_⟩:=h.book.par;have p:=h.a_bd b r;rcases r with z |z |z
  ·exact n b _ (by rw[z];exact N) p
  ·exact n b _ (by rw[z];exact O) p
  ·exact n b _ (by rw[z];exact Q) p
 ·rcases r with z |z |z |z
  ·exact .inl (.inl z)
  ·exact .inl (.inr (.inl z))
  ·exact .inl (.inr (.inr (.inl z)))
  ·rcases g b z with y |y
   ·exact .inl (.inr (.inr (.inr y)))
   ·exact .inr y
theorem QueueW.toBook(h:QueueW A H L q wr)(f:Frm L.bk L.de L.dp H H')(u:m=L.dp\/H m=none)(I:BookAt A.book H' L.bk L.de m J):QueueW A H' {L with dp:=m} {q with B:=J} wr/\Step L {L with dp:=m} H H':=by
 obtain⟨r,D⟩:=h.self;obtain⟨N,E,O⟩:=h.held;have t:fX H H':=h.book.tup f;have p:∀b o,H b=some o->¬Bp L b->H' b=some o:=λb o e g=>f b o e (λz=>g (.inl z)) (λz=>g (.inr (.inl z))) (λz=>g (.inr (.inr z)));have s:∀b o,H b=some o->¬Bp L b->¬Bp {L with dp:=m} b:=λb o e g z=>by
  rcases z with z |z |z
  ·exact g (.inl z)
  ·exact g (.inr (.inl z))
  ·rcases u with y |y
   ·exact g (.inr (.inr (z.trans y)))
   ·have z:b=m:=z;rw[z,y]at e;cases e
 refine⟨⟨⟨r,p _ _ D h.a_qu.1⟩,h.disk.keep (λb o e n=>p b o e (λz=>h.a_bd b z n)),I,⟨N,p _ _ E h.a_hd.2.1,O.t t⟩,λb n G=>?_,⟨s _ _ D h.a_qu.1,h.a_qu.2⟩,⟨h.a_hd.1,s _ _ E h.a_hd.2.1,h.a_hd.2.2⟩⟩,⟨rfl,rfl,λb o e g=>p b o e (λz=>g (.inr (.inr (.inl z)))),λb n=>?_,t⟩⟩
 ·obtain⟨o,e⟩:=oB h.disk G;by_cases y:Bp L b
  ·exact h.a_bd b y G
  ·exact s b o e y n
 ·rcases n with z |z |z |z
  ·exact .inl (.inl z)
  ·exact .inl (.inr (.inl z))
  ·rcases z with z |z |z
   ·exact .inl (.inr (.inr (.inl (.inl z))))
   ·exact .inl (.inr (.inr (.inl (.inr (.inl z)))))
   ·rcases u with y |y
    ·exact .inl (.inr (.inr (.inl (.inr (.inr (z.trans y))))))
    ·have z:b=m:=z;rw[z];exact .inr y
  ·exact .inl (.inr (.inr (.inr z)))
end
abbrev rK:Stmt:=bN (top 55) 8
abbrev Av:Stmt:=bN (top 55) 17
abbrev xI:Stmt:=bN (top 55) 9
abbrev Ax:Stmt:=bN (top 55) 10
abbrev At:Stmt:=bN (top 55) 11
theorem pO(h:Den H (AF n e) v):∃t b,v = .ref t/\H t=some (.tup [.int n,.ref b,.int e.2.1])/\H b=some (.tup (e.1.map V.int)):=by
 unfold AF at h;simp only[Den,aT]at h;obtain⟨t,_,rfl,g,_,_,rfl,rfl,_,_,rfl,⟨b,o,rfl,f,m⟩,_,_,rfl,rfl,rfl⟩:=h;rw[cB.mp m]at f;exact⟨t,b,rfl,g,f⟩
theorem Cm{e : Type}(b:List e)(d:e):(List.range b.length).map (λj=>b.getD j d)=b:=by
 apply ext_getElem?;intro i;rw[getElem?_map];by_cases h:i<b.length
 ·rw[getElem?_range h,Option.map_some,getD_eq_getElem?_getD,getElem?_eq_getElem h];rfl
 ·rw[getElem?_eq_none (by rw[length_range];omega),getElem?_eq_none (by omega)];rfl
theorem gH(b:Mf)(t:Int->Bool):((List.range b.length).filter (λj=>t (b.getD j 0))).map (λj=>V.int (b.getD j 0))=(b.filter t).map V.int:=by
 have h:=congrArg (λl=>(l.filter t).map V.int) (Cm b 0);rw[filter_map,map_map]at h;exact h
def eV(b:Mq)(n:Int):Int:=((bM b n).getD ([],0,0)).2.1
inductive kZ(A:Ad)(vs:Mp)(H:Hp)(Q:VK)(x_3:XK):Prop
 |mk:∀(L:Pl)(q:Qs),vs=[.ref L.qu]->QueueW A H L q false->(q.B.es.length<800/\(q.B.es.map (·.1)).Pairwise (· <= ·))->(∀ms,List.Perm ms (q.B.es.map (·.1))->ms.Pairwise (· <= ·)->∀p H',aG H H'->H p=none->Den H' (.list (ms.map (mL q.B.es))) (.ref p)->Q (.ref p) H')->kZ A vs H Q x_3
def bY(b:Mt)(n:Int):Option (Str×Int):=(b.find? λp=>decide (p.1=n)).map (·.2)
def kP(b:Mt)(n:Int):Bool:=(bY b n).isNone
inductive mV(A:Ad)(vs:Mp)(H:Hp)(Q:VK)(x_3:XK):Prop
 |mk:∀(L:Pl)(q:Qs),vs=[.ref L.qu]->QueueW A H L q false->(q.B.es.length<800/\(q.B.es.map (·.1)).Pairwise (· <= ·))->(∀ms,List.Perm ms (q.B.es.map (·.1))->ms.Pairwise (· <= ·)->∀p H',aG H H'->Den H' (.list ((ms.filter (kP q.hs)).map (mL q.B.es))) (.ref p)->Q (.ref p) H')->mV A vs H Q x_3
inductive jY(A:Ad)(t:Int->Int->Bool)(vs:Mp)(H:Hp)(Q:VK)(x_3:XK):Prop
 |mk:∀(L:Pl)(q:Qs),vs=[.ref L.qu]->QueueW A H L q false->(q.B.es.length<800/\(q.B.es.map (·.1)).Pairwise (· <= ·))->(∀ms,List.Perm ms (q.B.es.map (·.1))->ms.Pairwise (· <= ·)->∀p H',aG H H'->H p=none->H' p=some (.lst (((ms.filter (kP q.hs)).filter λn=>t (eV q.B.es n) q.tries).map V.int))->Q (.ref p) H')->jY A t vs H Q x_3
def ltB(i j:Int):Bool:=decide (i<j)
def geB(i j:Int):Bool:=decide (i ≥ j)
theorem HoR.look:∀{b:Mt}{f:Mn},HoR H b f->(bY b n=none->c9 f (Sum.inl n)=none)/\∀x m,bY b n=some (x,m)->∃t,c9 f (Sum.inl n)=some (.ref t)/\H t=some (.tup [.str x,.int m])
 |[],[],_=>⟨λ_=>rfl,λx m e=>by cases e⟩
 |p::b,r::f,h=>by
  obtain⟨q,⟨t,s,g⟩,u⟩:=h;have y:=HoR.look (n:=n) u;by_cases e:p.1=n
  ·have o:bY (p::b) n=some p.2:=by
    unfold bY;rw[find?_cons,decide_eq_true e];rfl
   rw[o,iO (by rw[q,e])];refine⟨(λz=>by cases z),λx m z=>⟨t,by rw[s],?_⟩⟩;rw[Option.some.inj z]at g;exact g
  ·have o:bY (p::b) n=bY b n:=by
    unfold bY;rw[find?_cons,decide_eq_false e]
   rw[o,iP (λz=>e (Sum.inl.inj (q.symm.trans z)))];exact y
 |[],_::_,h=>h.elim
 |_::_,[],h=>h.elim
theorem HoR.snoc{H:Hp}{n:Int}{x:Str}{b:Int}{t:Addr}(g:H t=some (.tup [.str x,.int b])):∀{e:Mt}{f:Mn},HoR H e f->HoR H (e++[(n,(x,b))]) (f++[(Sum.inl n,.ref t)])
 |[],[],_=>⟨rfl,⟨t,rfl,g⟩,trivial⟩
 |_::_,_::_,⟨m,o,p⟩=>⟨m,o,HoR.snoc g p⟩
 |[],_::_,h=>h.elim
 |_::_,[],h=>h.elim
def dropH(b:Mt)(n:Int):Mt:=b.filter λp=>decide (p.1≠n)
theorem HoR.drop:∀{b:Mt}{f:Mn},HoR H b f->HoR H (dropH b n) (e7 f (Sum.inl n))
 |[],[],_=>trivial
 |p::b,r::f,h=>by
  obtain⟨g,o,q⟩:=h;have m:=HoR.drop (n:=n) q;unfold dropH e7 at m⊢;rw[filter_cons,filter_cons];by_cases e:p.1=n
  ·rw[if_neg (by rw[decide_eq_true_eq];exact λz=>z e),if_neg (by rw[decide_eq_true_eq,g,e];exact λz=>z rfl)];exact m
  ·rw[if_pos (show decide (p.1≠n)=true from decide_eq_true e),if_pos (show decide (r.1≠Sum.inl n)=true from decide_eq_true (λz=>e (Sum.inl.inj (g.symm.trans z))))];exact⟨g,o,m⟩
 |[],_::_,h=>h.elim
 |_::_,[],h=>h.elim
theorem HoR.len:∀{b:Mt}{e:Mn},HoR H b e->e.length=b.length
 |[],[],_=>rfl
 |_::_,_::_,⟨_,_,f⟩=>by rw[length_cons,length_cons,HoR.len f]
 |[],_::_,h=>h.elim
 |_::_,[],h=>h.elim
theorem B7:∀{b:Mf}{e:Mp},aT H (b.map f) e->aT H ((b.filter p).map f) (((List.range e.length).filter λj=>p (b.getD j 0)).map λj=>e.getD j .non)
 |[],e,h=>by
  have h:aT H [] e:=h;simp only[aT]at h;subst h;simp only[List.filter_nil,map_nil,length_nil,List.range_zero,aT]
 |m::b,e,h=>by
  rw[map_cons]at h;simp only[aT]at h;obtain⟨x,r,rfl,n,o⟩:=h;have g:=B7 (p:=p) o;rw[length_cons,range_succ_eq_map,filter_cons,filter_cons,filter_map];have q:((m::b).getD 0 0)=m:=rfl;have s:((λj=>p ((m::b).getD j 0)) ∘ Nat.succ)=λj=>p (b.getD j 0):=rfl;rw[q,s];cases t:p m with
  |true=>
   rw[if_pos rfl,if_pos rfl,map_cons,map_cons,map_map];simp only[aT];exact⟨x,_,rfl,n,g⟩
  |false=>
   rw[if_neg (by decide),if_neg (by decide),map_map];exact g
theorem eJ{a b:Mf}(h:List.Perm a b)(e:a.Pairwise (· <= ·))(f:b.Pairwise (· <= ·)):a=b:=List.Perm.eq_of_pairwise (λx y _ _ g m=>by omega) e f h
section
variable{P:Program}{w:World}{K:Ma}{mg:Mc}{base:Heap}{A:Ad}
theorem zZ(F:Fun K "letters" "Queue.letters" rK f m)(T:‹3›)(b:‹16› A.book "letters" 2 ["self"] (lB A.book)):‹14› 3 f m ["self"] (kZ A):=by
 refine F.okY ["self"] λn y e s H z Q E hr nD0 h=>?_;obtain⟨L,q,rfl,g,o,p⟩:=h;refine⟨_,aC (aP (eW b T.ad2 ‹18› bA ‹23›)),?_⟩;obtain⟨r,t⟩:=g.self;obtain⟨u,x⟩:=g.book.self;exact⟨_,rfl,L.qu,_,r,_,_,rfl,t,T.aa0,T.ae4,rfl,L.bk,u,_,rfl,x,rfl,L.bk,L.de,L.dp,q.B,rfl,g.book,o,p⟩
theorem FK(F:Fun K "free_letters" "Queue.free_letters" Av f fd)(T:‹3›)(J:‹16› A.book "letters" 2 ["self"] (lB A.book)):‹14› 3 f fd ["self"] (mV A):=by
 refine F.okY ["self"] λaa A' N s H vs Q E hr nD0 h=>?_;obtain⟨L,q,rfl,B,V,qq⟩:=h;refine⟨_,aC (aP (cV ["letter"] [("self",0)] ⋯ (bU K (eW J T.ad2 ‹18› bA ‹23›)) ‹40› (λC s2 H2 ex=>(hG (n8 (nA (hu1 hr.units) ‹24› ‹62›)))) ‹64›)),?_⟩;obtain⟨W,X⟩:=B.self;obtain⟨db,h2⟩:=B.book.self;obtain⟨hk,h3,Y⟩:=B.held;refine⟨_,rfl,L.qu,_,W,_,_,rfl,X,T.aa0,T.ae4,rfl,L.bk,db,_,rfl,h2,rfl,L.bk,L.de,L.dp,q.B,rfl,B.book,V,λG e pw p H1 O _ d1=>?_⟩;have m:=d1;simp only[Den]at m;obtain⟨_,Z,e1,g1,g⟩:=m;cases e1;have lx:=g.length;rw[length_map]at lx;have pl:=e.length_eq;rw[length_map]at pl;refine⟨p,rfl,⟨_,SqL.of g1⟩,?_⟩;refine fS (bO (K:=K) (SqL.of g1)) (by rw[lx,pl];exact le_of_lt (lt_trans V.1 (by decide))) (λj=>kP q.hs (G.getD j 0)) (λj=>Z.getD j .non) (λσ=>∃z,σ = [z,some (.ref L.qu)]) ?z0 ?_ ?_
 case z0=>exact⟨none,rfl⟩
 ·intro j x ab H3 hj R S hx Q1 Q2 Q3 r u;obtain⟨z,rfl⟩:=R;obtain⟨d,y,dn⟩:=g.get hx;rw[getElem?_map]at y;cases U:G[j]? with
  |none=>rw[U]at y;cases y
  |some n=>
   rw[U]at y;cases (Option.some.inj y:mL q.B.es n=d);obtain⟨t,b,rfl,gt,gb⟩:=pO dn;have eg:Z.getD j .non = .ref t:=by rw[getD_eq_getElem?_getD,hx];rfl
   have em:G.getD j 0=n:=by rw[getD_eq_getElem?_getD,U];rfl
   rw[eg,em]at r;rw[em]at u;have dg:cR H3 L.hd (.int n) (c9 hk (Sum.inl n)):=cR.k (k:=Sum.inl n) (S _ _ (O _ _ h3));refine⟨_,rfl,t,_,_,.int n,rfl,rfl,SqT.of (S _ _ gt),a8 (by decide) rfl,_,rfl,L.qu,_,W,_,_,rfl,S _ _ (O _ _ X),T.aa0,T.ac5,rfl,L.hd,_,rfl,dg,_,rfl,?_⟩;cases I:bY q.hs n with
   |none=>
    rw[(Y.look (n:=n)).1 I];exact aU ⟨_,rfl,r _ ⟨_,rfl⟩ (by unfold kP;rw[I];rfl)⟩
   |some o=>
    obtain⟨t',ev,_⟩:=(Y.look (n:=n)).2 o.1 o.2 I;rw[ev];exact bD (u _ ⟨_,rfl⟩ (by unfold kP;rw[I];rfl))
 intro D H2 hD S2 g2;refine qq G e pw D H2 (O.trans S2) ?_;simp only[Den];exact⟨D,_,rfl,g2,(B7 g).same S2⟩
theorem C0(F:Fun K "ready" "Queue.ready" xI f fd)(T:‹3›)(I:‹16› A.queue "free_letters" 3 ["self"] (mV A)):‹14› 4 f fd ["self"] (jY A ltB):=by
 refine F.okY ["self"] λaa A' J s H vs Q E hr nD0 h=>?_;obtain⟨L,q,rfl,X,Y,qq⟩:=h;refine⟨_,aC (aP (cV ["letter"] [("self",0)] ⋯ (bU K (eW I T.aa0 ‹18› bA (pv 0))) ‹40› (λC s2 H2 ex=>(hG (aY vA ‹24› ‹62› (bI _)))) (λC s2 H2 ex=>‹24›))),?_⟩;obtain⟨Z,h1⟩:=X.self;refine⟨_,rfl,L.qu,Z,_,rfl,h1,rfl,L,q,rfl,X,Y,λm e pw p H1 N d1=>?_⟩;obtain⟨g,o⟩:∃g,g=m.filter (kP q.hs):=⟨_,rfl⟩;rw[<- o]at d1;have r:=d1;simp only[Den]at r;obtain⟨_,xs,e1,g1,u⟩:=r;cases e1;have O:=u.length;rw[length_map]at O;have pl:=e.length_eq;rw[length_map]at pl;have ab:g.length<=m.length:=by rw[o];exact length_filter_le _ _
 refine⟨p,rfl,⟨_,SqL.of g1⟩,?_⟩;refine fS (bO (K:=K) (SqL.of g1)) (by rw[O];exact le_of_lt (lt_of_le_of_lt (show _<=q.B.es.length by omega) (lt_trans Y.1 (by decide)))) (λj=>ltB (eV q.B.es (g.getD j 0)) q.tries) (λj=>V.int (g.getD j 0)) (λσ=>∃z,σ = [z,some (.ref L.qu)]) ?z0 ?_ ?_
 case z0=>exact⟨none,rfl⟩
 ·intro j x ac H3 hj R S hx Q1 Q2 Q3 y B;obtain⟨z,rfl⟩:=R;obtain⟨d,G,dn⟩:=u.get hx;rw[getElem?_map]at G;cases U:g[j]? with
  |none=>rw[U]at G;cases G
  |some n=>
   rw[U]at G;cases (Option.some.inj G:mL q.B.es n=d);obtain⟨t,b,rfl,gt,gb⟩:=pO dn;have eg:g.getD j 0=n:=by rw[getD_eq_getElem?_getD,U];rfl
   rw[eg]at y B;refine⟨_,rfl,t,_,_,.int (eV q.B.es n),rfl,rfl,SqT.of (S _ _ gt),a8 (by decide) rfl,_,rfl,L.qu,_,Z,_,_,rfl,S _ _ (N _ _ h1),T.aa0,T.bc8,rfl,_,_,rfl,rfl,_,rfl,?_⟩;show if ltB (eV q.B.es n) q.tries=true then _ else _
   cases hb:ltB (eV q.B.es n) q.tries with
   |true=>exact aU ⟨_,rfl,t,_,_,.int n,rfl,rfl,SqT.of (S _ _ gt),a8 (by decide) rfl,y _ ⟨_,rfl⟩ hb⟩
   |false=>exact bD (B _ ⟨_,rfl⟩ hb)
 intro D H2 hD S2 W;rw[O,gH g (λn=>ltB (eV q.B.es n) q.tries)]at W;rw[o]at W;exact qq m e pw D H2 (N.trans S2) (N.free hD) W
theorem FL(F:Fun K "dead" "Queue.dead" Ax f fd)(T:‹3›)(I:‹16› A.queue "free_letters" 3 ["self"] (mV A)):‹14› 4 f fd ["self"] (jY A geB):=by
 refine F.okY ["self"] λaa A' J s H vs Q E hr nD0 h=>?_;obtain⟨L,q,rfl,X,Y,qq⟩:=h;refine⟨_,aC (aP (cV ["letter"] [("self",0)] ⋯ (bU K (eW I T.aa0 ‹18› bA (pv 0))) ‹40› (λC s2 H2 ex=>(hG (aY HU ‹24› ‹62› (bI _)))) (λC s2 H2 ex=>‹24›))),?_⟩;obtain⟨Z,h1⟩:=X.self;refine⟨_,rfl,L.qu,Z,_,rfl,h1,rfl,L,q,rfl,X,Y,λm e pw p H1 N d1=>?_⟩;obtain⟨g,o⟩:∃g,g=m.filter (kP q.hs):=⟨_,rfl⟩;rw[<- o]at d1;have r:=d1;simp only[Den]at r;obtain⟨_,xs,e1,g1,u⟩:=r;cases e1;have O:=u.length;rw[length_map]at O;have pl:=e.length_eq;rw[length_map]at pl;have ab:g.length<=m.length:=by rw[o];exact length_filter_le _ _
 refine⟨p,rfl,⟨_,SqL.of g1⟩,?_⟩;refine fS (bO (K:=K) (SqL.of g1)) (by rw[O];exact le_of_lt (lt_of_le_of_lt (show _<=q.B.es.length by omega) (lt_trans Y.1 (by decide)))) (λj=>geB (eV q.B.es (g.getD j 0)) q.tries) (λj=>V.int (g.getD j 0)) (λσ=>∃z,σ = [z,some (.ref L.qu)]) ?z0 ?_ ?_
 case z0=>exact⟨none,rfl⟩
 ·intro j x ac H3 hj R S hx Q1 Q2 Q3 y B;obtain⟨z,rfl⟩:=R;obtain⟨d,G,dn⟩:=u.get hx;rw[getElem?_map]at G;cases U:g[j]? with
  |none=>rw[U]at G;cases G
  |some n=>
   rw[U]at G;cases (Option.some.inj G:mL q.B.es n=d);obtain⟨t,b,rfl,gt,gb⟩:=pO dn;have eg:g.getD j 0=n:=by rw[getD_eq_getElem?_getD,U];rfl
   rw[eg]at y B;refine⟨_,rfl,t,_,_,.int (eV q.B.es n),rfl,rfl,SqT.of (S _ _ gt),a8 (by decide) rfl,_,rfl,L.qu,_,Z,_,_,rfl,S _ _ (N _ _ h1),T.aa0,T.bc8,rfl,_,_,rfl,rfl,_,rfl,?_⟩;show if geB (eV q.B.es n) q.tries=true then _ else _
   cases hb:geB (eV q.B.es n) q.tries with
   |true=>exact aU ⟨_,rfl,t,_,_,.int n,rfl,rfl,SqT.of (S _ _ gt),a8 (by decide) rfl,y _ ⟨_,rfl⟩ hb⟩
   |false=>exact bD (B _ ⟨_,rfl⟩ hb)
 intro D H2 hD S2 W;rw[O,gH g (λn=>geB (eV q.B.es n) q.tries)]at W;rw[o]at W;exact qq m e pw D H2 (N.trans S2) (N.free hD) W
end
abbrev Au:Stmt:=bN (top 55) 20
abbrev xM:Stmt:=bN (top 55) 21
abbrev xJ:Stmt:=bN (top 55) 22
abbrev xG:Stmt:=bN (top 55) 19
def cH(b:Mr):Mf:=(b.map λr=>iD r.1 r.2.1 r.2.2).flatten
def hZ(q:Qs):Mf:=(aR q.D.fs (bK q.last)).getD []
def yD(q:Qs)(b:Mf):Bool:=!decide (q.B.up > 999999) && decide ((b.length:Int) ≥ q.most)
def v5(q:Qs):Qs:={q with D:=uN (mkN q.D (bK (q.last+1))) (bK (q.last+1)) (iD "from" q.B.up []) 7,last:=q.last+1}
def aZ(q:Qs):Qs:=if yD q (hZ q)=true then v5 q else q
def nM(q:Qs)(b:Mf)(B:Bk):Qs:={q with D:=uN q.D (bK q.last) (hZ q++b) b.length,B:=B}
structure WOk(q:Qs)(k:Nat):Prop where
 left:q.D.left=none
 last:eZ q.last
 nxt:eZ (q.last+1)
 here:∃bs,aR q.D.fs (bK q.last)=some bs
 new:aR q.D.fs (bK (q.last+1))=none
 len:∀n bs,aR q.D.fs n=some bs->bs.length<=100000
 files:q.D.fs.length<90000
 up:0<=q.B.up
 ents:q.B.es.length+q.B.parts.length+k<900
inductive qG(A:Ad)(vs:Mp)(H:Hp)(Q:VK)(x_3:XK):Prop
 |mk:∀(L:Pl)(q:Qs)(wr:Bool)(bs:Mf),vs=[.ref L.qu]->QueueW A H L q wr->eZ q.last->aR q.D.fs (bK q.last)=some bs->(∀H',aG H H'->Q (.bl (yD q bs)) H')->qG A vs H Q x_3
inductive n5(A:Ad)(vs:Mp)(H:Hp)(Q:VK)(x_3:XK):Prop
 |mk:∀(L:Pl)(q:Qs)(wr:Bool),vs=[.ref L.qu]->QueueW A H L q wr->q.D.left=none->eZ (q.last+1)->aR q.D.fs (bK (q.last+1))=none->q.D.fs.length<100000->(∀n bs,aR q.D.fs n=some bs->bs.length<=100000)->0<=q.B.up->q.B.up<=999999->(∀L' H',Step L L' H H'->QueueW A H' L' (v5 q) wr->Q .non H')->n5 A vs H Q x_3
inductive k8(A:Ad)(vs:Mp)(H:Hp)(Q:VK)(x_3:XK):Prop
 |mk:∀(L:Pl)(q:Qs)(wr:Bool)(bs:Mf),vs=[.ref L.qu]->QueueW A H L q wr->q.D.left=none->eZ q.first->aR q.D.fs (bK q.first)=some bs->(∀L' H',Step L L' H H'->QueueW A H' L' {q with D:=Ed q.D (bK q.first),first:=q.first+1} wr->Q .non H')->k8 A vs H Q x_3
inductive nY(A:Ad)(vs:Mp)(H:Hp)(Q:VK)(x_3:XK):Prop
 |mk:∀(L:Pl)(q:Qs)(a:Addr)(rs:Mr)(B':Bk),vs=[.ref L.qu,.ref a]->QueueW A H L q false->WOk q rs.length->(¬gT L a)->Den H (.list (rs.map cI)) (.ref a)->(∀r∈rs,bQ (cI r)=true)->dR (aZ q).last (aZ q).B rs=some B'->(∀L' H',Step L L' H H'->QueueW A H' L' (nM (aZ q) (cH rs) B') false->Q .non H')->nY A vs H Q x_3
section
variable{P:Program}{w:World}{K:Ma}{mg:Mc}{base:Heap}{A:Ad}
theorem FJ(F:Fun K "is_last_full" "Queue.is_last_full" Au f x)(T:‹3›)(ab3:‹9›)(o:‹16› A.disk "size" 4 ["self","name"] (oP A.disk A.badName A.missing)):‹14› 5 f x ["self"] (qG A):=by
 obtain⟨_,ac8⟩:=T.ad3;refine F.okY ["self"] λy J p s H N Q E hr nD0 h=>?_;obtain⟨L,q,O,R,rfl,e,t,r,b⟩:=h;refine⟨_,aA (bG (aY pF (qT ‹23› ⋯) (cO (v:=.int 999999) ⋯ ac8 ⟨_,rfl⟩) (bI _))
   (aC (aP kI))
   aO)
  (aC (aP (fU HU (cM o T.ac6 ‹18› bR ‹23› (cW ‹99› aF)) ‹23› (bI _)))),?_⟩
 obtain⟨g,m⟩:=e.self;obtain⟨z,B⟩:=e.book.self;obtain⟨D,G⟩:=e.disk.self;unfold yD at b;refine⟨_,rfl,L.qu,_,g,_,_,rfl,m,T.aa0,T.ae4,rfl,L.bk,_,z,_,_,rfl,B,T.ad2,T.ab8,rfl,_,_,rfl,rfl,_,rfl,?_⟩;show if decide (q.B.up > 999999)=true then _ else _
 by_cases n:q.B.up > 999999
 ·rw[if_pos (decide_eq_true n)];rw[decide_eq_true n]at b;exact b H (aG.refl H)
 ·rw[if_neg (by rw[decide_eq_true_eq];exact n)];rw[decide_eq_false n]at b;refine cQ rfl ?_;refine⟨_,rfl,L.qu,_,g,_,_,rfl,m,T.aa0,T.ap9,rfl,L.dk,D,_,rfl,G,rfl,_,rfl,L.qu,_,g,_,_,rfl,m,T.aa0,T.ak0,rfl,q.last,rfl,t,gR (Ah e.disk t r λI u=>?_)⟩;exact⟨_,rfl,L.qu,_,g,_,_,rfl,u _ _ m,T.aa0,T.bj7,rfl,_,_,rfl,rfl,b I u⟩
theorem C6(F:Fun K "begin_segment" "Queue.begin_segment" xM f fd)(T:‹3›)(ab3:‹9›)(N:‹15› "row_bytes" 4 ["row"] (fK A.badRow))(O:‹16› A.disk "make" 3 ["self","name"] (oU A.disk A.badName A.there A.stopped))(R:‹6›):‹14› 5 f fd ["self"] (n5 A):=by
 refine F.okY ["self","some","name"] λai A' S s H vs Q E hr nD0 h=>?_;obtain⟨L,q,wr,rfl,U,hl,V,g,hf,hz,u0,u1,qq⟩:=h;refine⟨_,aA (aW (i:=1) nD0 ⋯ ⋯ (bB N ‹18› bR (bV (bE (aI bP (gC (qT ‹23› ⋯) ‹47›))) aF)))
  (aA (aW (i:=2) nD0 ⋯ ⋯ (bB ab3 ‹18› bA (bT (bC cT ‹23› aM) aF)))
  (aA (aX (cM O T.ac6 ‹18› bR ‹23› ‹37›))
  (aA (aX (cM R T.ac6 ‹18› bR ‹23› (aE (pv 2) ‹29›)))
  ‹70›))),?_⟩
 obtain⟨J,W⟩:=U.self;obtain⟨db,h2⟩:=U.book.self;refine⟨_,rfl,L.qu,_,J,_,_,rfl,W,T.aa0,T.ae4,rfl,L.bk,_,db,_,_,rfl,h2,T.ad2,T.ab8,rfl,aJ,λp0 X=>⟨aJ,λp1 y=>?_⟩⟩;obtain⟨H1,n,S1,g0⟩:=gUU (o:=.tup []) X;rw[n]at y⊢;obtain⟨H2,n,S2,g1⟩:=gUU (o:=.tup [.str "from",.int q.B.up,.ref p0]) y;rw[n];have fo:=Ea u0 u1;refine gR (CS (r:=("from",q.B.up,[])) ?_ fo λpb H3 S3 g3=>?_)
 ·unfold cI fQ;simp only[Den,aT];exact⟨p1,_,rfl,g1,_,_,rfl,rfl,_,_,rfl,rfl,_,_,rfl,⟨p0,[],rfl,S2 _ _ g0,rfl⟩,rfl⟩
 have e:=S1.trans (S2.trans S3);have p:=U.same e;refine⟨_,rfl,L.qu,_,J,_,_,rfl,e _ _ W,T.aa0,T.ak0,rfl,_,_,rfl,rfl,q.last+1,rfl,V,?_⟩;obtain⟨dd,h4⟩:=p.disk.self;refine⟨_,rfl,L.qu,_,J,_,_,rfl,e _ _ W,T.aa0,T.ap9,rfl,L.dk,dd,_,rfl,h4,rfl,_,rfl,gR (Ai p.disk hl V hf g λah H4 f4 w4 z=>?_)⟩;obtain⟨t,B⟩:=p.toDisk f4 w4 z;obtain⟨Y,Z⟩:=t.self;obtain⟨aa,ab⟩:=t.disk.self;have ac:aR (mkN q.D (bK (q.last+1))).fs (bK (q.last+1))=some []:=by
  show aR (q.D.fs++[(bK (q.last+1),[])]) (bK (q.last+1))=some [];rw[pK _ _ _ _ g,if_pos rfl]
 refine⟨_,rfl,L.qu,_,Y,_,_,rfl,Z,T.aa0,T.ap9,rfl,L.dk,aa,_,rfl,ab,rfl,_,rfl,_,rfl,gR (zB z rfl V ac (λm bs x=>?_) (B.tup _ _ g3) (lH fo) (by rw[eE];show 7<=100000;decide) λH5 f5 ad=>?_)⟩
 ·have x:aR (q.D.fs++[(bK (q.last+1),[])]) m=some bs:=x;rw[pK _ _ _ _ g]at x;split at x
  ·cases x;exact zero_le _
  ·exact hz m bs x
 obtain⟨D,ae⟩:=t.toDisk f5 (λb h=>.inl h) ad;obtain⟨u,G⟩:=D.self;have I:(iD "from" q.B.up []).length=7:=by rw[eE];rfl
 refine⟨_,rfl,L.qu,_,u,_,_,rfl,G,T.aa0,T.ak0,rfl,_,_,rfl,rfl,u,_,G,by show 10<1000;decide,?_⟩;obtain⟨af,ag⟩:=D.fields (dx:=u) (v5 q) wr (by rw[I];rfl) rfl rfl;exact qq _ _ ((aG.step e).trans (B.trans (ae.trans ag))) af
theorem C3(F:Fun K "drop_first" "Queue.drop_first" xJ f G)(T:‹3›)(ab3:‹9›)(n:‹16› A.disk "drop" 4 ["self","name"] (oW A.disk A.badName A.missing A.stopped)):‹14› 5 f G ["self"] (k8 A):=by
 refine F.okY ["self"] λI X o s H Y Q E hr nD0 h=>?_;obtain⟨L,q,J,Z,rfl,m,N,y,O,R⟩:=h;refine⟨_,aA (aX (cM n T.ac6 ‹18› bR ‹23› (cW ‹99› aF)))
  ‹70›,?_⟩
 obtain⟨p,z⟩:=m.self;obtain⟨S,U⟩:=m.disk.self;refine⟨_,rfl,L.qu,_,p,_,_,rfl,z,T.aa0,T.ap9,rfl,L.dk,S,_,rfl,U,rfl,_,rfl,L.qu,_,p,_,_,rfl,z,T.aa0,T.ai9,rfl,q.first,rfl,y,gR (GJ m.disk N y O λB H4 V W r=>?_)⟩;obtain⟨e,t⟩:=m.toDisk V W r;obtain⟨b,g⟩:=e.self;refine⟨_,rfl,L.qu,_,b,_,_,rfl,g,T.aa0,T.ai9,rfl,_,_,rfl,rfl,b,_,g,by show 10<1000;decide,?_⟩;obtain⟨u,x⟩:=e.fields (dx:=b) {q with D:=Ed q.D (bK q.first),first:=q.first+1} J rfl rfl rfl;exact R _ _ (t.trans x) u
end
theorem pC:hU "writing" (.bl b) (quF L q a)=quF L q b:=rfl
theorem Cl(b:Mr)(r:Rw):cH (b++[r])=cH b++iD r.1 r.2.1 r.2.2:=by
 unfold cH;rw[map_append,List.flatten_append];simp
theorem xR(h:∀r∈rs,bQ (cI r)=true):(cH rs).length<=68*rs.length:=by
 unfold cH
 induction rs with
 |nil=>exact le_refl _
 |cons r rs b=>
  rw[map_cons,List.flatten_cons,length_append,eE,length_cons];have f:=b (λx e=>h x (mem_cons_of_mem _ e));have g:=qP (h r mem_cons_self);omega
theorem BB(h:∀r∈g,bQ (cI r)=true):∀b∈cH g,0<=b/\b<=255:=by
 intro b e;unfold cH at e;rw[List.mem_flatten]at e;obtain⟨l,f,e⟩:=e;rw[mem_map]at f;obtain⟨r,hr,rfl⟩:=f;exact lH (h r hr) b e
theorem lP(q:Qs)(h:aR q.D.fs (bK (q.last+1))=none)(m:Str):aR (v5 q).D.fs m=if m=bK (q.last+1) then some (iD "from" q.B.up []) else aR q.D.fs m:=by
 show aR (fE (q.D.fs++[(bK (q.last+1),[])]) (bK (q.last+1)) (iD "from" q.B.up [])) m=_;rw[Bf,pK _ _ _ _ h,pK _ _ _ _ h];by_cases z:m=bK (q.last+1)
 ·rw[if_pos z,if_pos z,if_pos rfl];rfl
 ·rw[if_neg z,if_neg z,if_neg z]
structure NOk(q:Qs):Prop where
 left:q.D.left=none
 last:eZ q.last
 here:aR q.D.fs (bK q.last)=some (hZ q)
 len:∀n bs,aR q.D.fs n=some bs->bs.length<=100000
theorem vJ(h:aR q.D.fs (bK q.last)=some b):hZ q=b:=by
 unfold hZ;rw[h];rfl
theorem WOk.next(h:WOk q k):NOk (aZ q)/\(aZ q).B=q.B:=by
 unfold aZ;split
 ·refine⟨⟨rfl,h.nxt,?_,λn b e=>?_⟩,rfl⟩
  ·have e:=lP q h.new (bK (q.last+1));rw[if_pos rfl]at e;have g:hZ (v5 q)=iD "from" q.B.up []:=vJ e;rw[g];exact e
  ·rw[lP q h.new]at e;split at e
   ·cases e;rw[eE];decide
   ·exact h.len n b e
 ·obtain⟨b,f⟩:=h.here;exact⟨⟨h.left,h.last,by rw[vJ f];exact f,h.len⟩,rfl⟩
section
variable{P:Program}{w:World}{K:Ma}{mg:Mc}{base:Heap}{A:Ad}
theorem Cy(F:Fun K "write" "Queue.write" xG f fd)(T:‹3›)(ab3:‹9›)(a1:‹15› "row_bytes" 4 ["row"] (fK A.badRow))(a2:‹15› "make_good" 6 ["disk"] bz)(a3:‹6›)(a4:‹16› A.book "enter" 3 ["self","row","segment"] (oV A.book A.broken))(a5:‹16› A.queue "is_last_full" 5 ["self"] (qG A))(a6:‹16› A.queue "begin_segment" 5 ["self"] (n5 A)):‹14› 7 f fd ["self","rows"] (nY A):=by
 refine F.okY ["self","rows","some","row"] λb0 A' ba s H vs Q E hr nD0 h=>?_;obtain⟨L,q,a,g,B',rfl,hq,ok,na,da,J,Z,qq⟩:=h;refine⟨_,aA (aW (i:=2) nD0 ⋯ ⋯ (bE aF))
  (aA (eQ (i8 dF) ⋯ (bU K (pv 1)) ‹53›
   (aC (aW (i:=2) nD0 ⋯ ⋯ (bC jH (pv 2) (bB a1 ‹18› bR ‹51›)))))
  (aA (bG (dE ‹23›)
   (aC (aX (bB a2 ‹18› bR ‹81›)))
   aO)
  (aA (dS (pv 0) kI ⋯)
  (aA (bG (dE (eW a5 T.aa0 ‹18› bR (pv 0)))
   (aC (aX (eW a6 T.aa0 ‹18› bR (pv 0))))
   aO)
  (aA (aX (cM a3 T.ac6 ‹18› bR ‹23› (cW ‹99› ‹37›)))
  (aA (dS (pv 0) kI ⋯)
  (aC (eQ (i8 dF) ⋯ (bU K (pv 1)) ‹53›
   (aC (aX (cM a4 T.ad2 ‹18› bR ‹23› (aE (pv 3) ‹81›)))))))))))),?_⟩
 have ar:=da;simp only[Den]at ar;obtain⟨_,xs,e,ga,ah⟩:=ar;cases e;have lx:=ah.length;rw[length_map]at lx;refine⟨aJ,new_o λp0 H1 S1 g0=>?_⟩;refine⟨_,rfl,a,rfl,⟨_,SqL.of (S1 _ _ ga)⟩,?_⟩;refine fR (bO (K:=K) (SqL.of (S1 _ _ ga))) (λi σ W=>aG H1 W/\∃pa z3,W pa=some (.tup ((cH (g.take i)).map V.int))/\σ = [some (.ref L.qu),some (.ref a),some (.ref pa),z3]) ?i0 (λ_ _ _ h=>h.1) ?_ ?_
 case i0=>exact⟨aG.refl _,p0,none,g0,rfl⟩
 ·rintro i x σ H5 H6 hi ⟨s5,pa,z3,g5,rfl⟩ s6 hx;obtain⟨d,N,dn⟩:=ah.get hx;rw[getElem?_map]at N;cases X:g[i]? with
  |none=>rw[X]at N;cases N
  |some r=>
   rw[X]at N;cases (Option.some.inj N:cI r=d);have as:=J r (mem_of_getElem? X);have et:g.take (i+1)=g.take i++[r]:=by
    rw[take_succ,X];rfl
   refine⟨_,rfl,_,rfl,gR (CS (dn.same (S1.trans (s5.trans s6))) as λpb H7 S7 g7=>?_)⟩;refine⟨pa,pb,_,_,rfl,rfl,S7 _ _ (s6 _ _ g5),g7,?_,λp8 H8 S8 g8=>?_⟩
   ·have h1:=xR (rs:=g.take i) (λr h=>J r (List.mem_of_mem_take h));have h2:=qP as;have h3:=ok.ents;rw[length_map,length_map,eE];rw[length_take]at h1;refine le_trans (m:=100000) ?_ (by decide);omega
   ·refine⟨s5.trans (s6.trans (S7.trans S8)),p8,_,?_,rfl⟩;rw[et,Cl,map_append];exact g8
 rintro σ H2 ⟨S2,pa,z3,g2,rfl⟩;rw[show g.take xs.length=g by rw[lx,take_length]]at g2;have au:=S1.trans S2;have p:=hq.same au;obtain⟨dx,h1⟩:=p.self;obtain⟨bs,av⟩:=ok.here;refine⟨_,rfl,L.qu,_,dx,_,_,rfl,h1,T.aa0,T.an9,rfl,_,rfl,bD (cQ rfl ?_)⟩;refine⟨_,rfl,L.qu,_,dx,_,rfl,h1,T.aa0,T.an9,by show 10<1000;decide,?_⟩;rw[pC];obtain⟨aa,ai⟩:=p.fields (dx:=dx) q true rfl rfl rfl;generalize upd H2 L.qu (.ins A.queue dx (quF L q true))=H3 at aa ai⊢;obtain⟨bb,bc⟩:=aa.self;have ae:Step L L H H3:=(aG.step au).trans ai;have aw:=ai.tup _ _ g2;obtain⟨O,nB⟩:=ok.next
 try dsimp only
 refine Jt (λbd W=>bd=[some (.ref L.qu),some (.ref a),some (.ref pa),z3]/\W pa=some (.tup ((cH g).map V.int))/\∃L4,Step L L4 H W/\QueueW A W L4 (aZ q) true) (λn hn=>?_) ?_
 ·refine⟨_,rfl,L.qu,bb,_,rfl,bc,rfl,L,q,true,bs,rfl,aa,ok.last,av,λH4 S4=>⟨_,rfl,?_⟩⟩;have aj:=aa.same S4;obtain⟨be,bf⟩:=aj.self;have el:hZ q=bs:=vJ av;cases hb:yD q bs with
  |true=>
   refine aU ?_;have hu:q.B.up<=999999:=by
    unfold yD at hb;simp only[and_eq_true,Bool.not_eq_true',decide_eq_false_iff_not]at hb;omega
   refine⟨_,rfl,L.qu,be,_,rfl,bf,rfl,L,q,true,rfl,aj,ok.left,ok.nxt,ok.new,lt_trans ok.files (by decide),ok.len,ok.up,hu,λR H5 u B=>?_⟩;refine hn _ _ ⟨rfl,u.tup _ _ (S4 _ _ aw),R,ae.trans ((aG.step S4).trans u),?_⟩;unfold aZ;rw[el,if_pos hb];exact B
  |false=>
   refine bD (cQ rfl (hn _ _ ⟨rfl,S4 _ _ aw,L,ae.trans (aG.step S4),?_⟩));unfold aZ;rw[el,if_neg (by rw[hb];decide)];exact aj
 rintro _ H5 ⟨rfl,bg,R,u,B⟩;have bx:(aZ q).B.es.length+(aZ q).B.parts.length+g.length<900:=by rw[nB];exact ok.ents
 generalize aZ q=r at *;obtain⟨ax,ak⟩:=B.self;obtain⟨bh,bi⟩:=B.disk.self;rw[u.qu]at ak;have lb:(cH g).length<=100000:=by
  have h1:=xR J;have h3:=ok.ents;omega
 refine⟨_,rfl,L.qu,_,ax,_,_,rfl,ak,T.aa0,T.ap9,rfl,R.dk,bh,_,rfl,bi,rfl,_,rfl,L.qu,_,ax,_,_,rfl,ak,T.aa0,T.ak0,rfl,r.last,rfl,O.last,_,rfl,gR (zB B.disk O.left O.last O.here O.len bg (BB J) lb λH6 f6 bj=>?_)⟩;obtain⟨ab,al⟩:=B.toDisk f6 (λb h=>.inl h) bj;obtain⟨ac,am⟩:=ab.self;have am:H6 R.qu=some (.ins A.queue ac (quF R {r with D:=uN r.D (bK r.last) (hZ r++cH g) (cH g).length} true)):=am;have af:=am;rw[u.qu]at af;refine⟨_,rfl,L.qu,_,ac,_,rfl,af,T.aa0,T.an9,by show 10<1000;decide,?_⟩;rw[pC];have ab:QueueW A H6 R {r with D:=uN r.D (bK r.last) (hZ r++cH g) (cH g).length} true:=ab;have al:Step R R H5 H6:=al;obtain⟨an,ao⟩:=ab.fields (dx:=ac) {r with D:=uN r.D (bK r.last) (hZ r++cH g) (cH g).length} false rfl rfl rfl;rw[u.qu]at an ao;generalize upd H6 L.qu (.ins A.queue ac (quF R {r with D:=uN r.D (bK r.last) (hZ r++cH g) (cH g).length} false))=H7 at an ao⊢;have ag:Step L R H H7:=u.trans (al.trans ao);have bk:=ag.frm _ _ ga na;refine⟨_,rfl,a,rfl,⟨_,SqL.of bk⟩,?_⟩;refine fR (H0:=λc=>if c=a then some (.lst xs) else none) (bO (K:=K) (SqL.of (if_pos rfl))) (λj σ W=>∃Y S z3,Step L Y H W/\QueueW A W Y (nM r (cH g) S) false/\S.es.length+S.parts.length<=r.B.es.length+r.B.parts.length+j/\dR r.last r.B g=dR r.last S (g.drop j)/\σ = [some (.ref L.qu),some (.ref a),some (.ref pa),z3]) ?j0 ?kp ?_ ?_
 case j0=>exact⟨R,r.B,_,ag,an,le_refl _,rfl,rfl⟩
 case kp=>
  rintro j σ W ⟨Y,S,z,st,_⟩ b o eb;by_cases y:b=a
  ·subst y;have eb:some (HO.lst xs)=some o:=by simpa using eb
   rw[<- eb];exact st.frm _ _ ga na
  ·have eb:none=some o:=by simpa [y] using eb
   cases eb
 ·rintro j y σ G1 G2 hj ⟨Y,S,z,ad,ap,bm,G,rfl⟩ sG hy;obtain⟨d,N,dn⟩:=ah.get hy;rw[getElem?_map]at N;cases X:g[j]? with
  |none=>rw[X]at N;cases N
  |some I=>
   rw[X]at N;cases (Option.some.inj N:cI I=d);have jL:j<g.length:=(List.getElem?_eq_some_iff.mp X).1;have bn:g.drop j=I::g.drop (j+1):=by
    rw[drop_eq_getElem_cons jL,(List.getElem?_eq_some_iff.mp X).2]
   rw[bn]at G;have U:dR r.last S (I::g.drop (j+1))=match dC S I.1 I.2.1 I.2.2 r.last with |none=>none |some B'=>dR r.last B' (g.drop (j+1)):=rfl
   obtain⟨t,b,rfl,gt,gb⟩:=pB dn;have ay:=ad.trans (aG.step sG);have bo:Den G2 (fQ I.1 I.2.1 I.2.2) (.ref t):=Ee ay.tup (lG _ _ _) dn;have p:=ap.same sG;obtain⟨az,aq⟩:=p.self;obtain⟨bp,bq⟩:=p.book.self;rw[ad.qu]at aq;refine⟨_,rfl,L.qu,_,az,_,_,rfl,aq,T.aa0,T.ae4,rfl,Y.bk,bp,_,rfl,bq,rfl,_,rfl,_,rfl,L.qu,_,az,_,_,rfl,aq,T.aa0,T.ak0,rfl,Y.bk,Y.de,Y.dp,t,S,I.1,I.2.1,r.last,I.2.2,rfl,p.book,bo,J I (mem_of_getElem? X),by omega,λB2 a0 dq H8 f8 br bt=>?_,λbu=>?_⟩
   ·obtain⟨bv,bw⟩:=p.toBook f8 br bt;refine⟨_,B2,_,ay.trans bw,bv,?_,?_,rfl⟩
    ·have:=DQ a0;omega
    ·rw[G,U,a0]
   ·rw[G,U,bu]at Z;cases Z
 ·rintro σ H8 ⟨Y,S,z,ad,ap,bm,G,rfl⟩;rw[lx,List.drop_of_length_le (le_refl _)]at G;rw[G]at Z;cases (Option.some.inj Z:S=B');exact qq Y H8 ad ap
end
abbrev Ds:Stmt:=bN (top 55) 1
abbrev uS:Stmt:=bN (top 55) 2
abbrev l8:Stmt:=top 46
theorem fV{A:Ad}{H:Hp}{L:Pl}{q:Qs}{e:Bool}(h:QueueW A H L q e){b:Addr}(f:gT L b):∃o,H b=some o:=by
 obtain⟨s,g⟩:=h.self;obtain⟨t,m,_⟩:=h.held;obtain⟨u,n⟩:=h.book.self;obtain⟨x,p,_⟩:=h.book.ent;obtain⟨y,r,_⟩:=h.book.par;rcases f with z |z | (z |z |z) |z
 ·exact⟨_,by rw[z];exact g⟩
 ·exact⟨_,by rw[z];exact m⟩
 ·exact⟨_,by rw[z];exact n⟩
 ·exact⟨_,by rw[z];exact p⟩
 ·exact⟨_,by rw[z];exact r⟩
 ·exact oB h.disk z
def mS(d:PyData):Bool:=bQ (.tuple [.str "put",.int 0,d])
def jK:PyData->Bool
 | .tuple b=>decide (1<=b.length) && (decide (b.length<=9) && b.all mS)
 |_=>false
def Cf(d:PyData):Prop:=∀b,d = .tuple b->b.length<=1000
theorem zP{k:Str}{n:Int}{b:Mf}(e:k = "put"\/k = "part")(f:0<=n)(g:n<=999999)(m:dY b)(o:b.length<=60):bQ (cI (k,n,b))=true:=by
 have p:dM.contains k=true:=by rcases e with rfl |rfl <;> decide +kernel
 show (dM.contains k && (bL 0 999999 (.int n) && (dQ (.tuple (b.map .int)) && fF k (bX (.tuple (b.map .int))))))=true;have q:bL 0 999999 (.int n)=true:=by
  simp only[bL,and_eq_true,decide_eq_true_eq];exact⟨f,g⟩
 have r:dQ (.tuple (b.map .int))=true:=tH m;have s:fF k b=true:=by
  unfold fF;rw[if_pos e];exact decide_eq_true o
 rw[p,q,r,gF,s];rfl
theorem KA{n:Int}{m:Nat}(e:0<=n)(f:n<=999999)(r:1<=m)(s:m<=9):bQ (cI ("deal",n,[(m:Int)]))=true:=by
 show (dM.contains "deal" && (bL 0 999999 (.int n) && (dQ (.tuple [.int (m:Int)]) && fF "deal" (bX (.tuple [.int (m:Int)])))))=true;have g:bL 0 999999 (.int n)=true:=by
  simp only[bL,and_eq_true,decide_eq_true_eq];exact⟨e,f⟩
 have o:dQ (.tuple [.int (m:Int)])=true:=tH (ns:=[(m:Int)]) (λb p=>by rw[mem_singleton.mp p];omega);have q:fF "deal" (bX (.tuple [.int (m:Int)]))=true:=by
  show fF "deal" [(m:Int)]=true;unfold fF;rw[if_neg (by decide),if_neg (by decide),if_pos rfl];show (decide (1=1) && decide (1<=(m:Int)) && decide ((m:Int)<=9))=true;rw[decide_eq_true (show 1<=(m:Int) by omega),decide_eq_true (show (m:Int)<=9 by omega)];rfl
 rw[g,o,q];decide +kernel
theorem yX(h:mS d=true):∃b:Mf,d = .tuple (b.map .int)/\dY b/\b.length<=60:=by
 obtain⟨k,n,f,e,s,_,_,g,m⟩:=oG h;injection e with e
 injection e with o e
 injection e with _ e
 injection e with q e
 injection o with o
 subst o;have p:dQ (.tuple f)=true:=g;refine⟨bX (.tuple f),?_,vY p,?_⟩
 ·rw[q];have:f=(bX (.tuple f)).map .int:=by
   rw[all_eq_true]at g;show f=(f.map _).map _;rw[map_map]
   conv=>lhs;rw[<- map_id f]
   apply map_congr_left;intro x r;have:=g x r;cases x with
   |int i=>rfl
   |_=>simp [bL]at this
  rw[<- this]
 ·unfold fF at m;rw[if_pos (.inl rfl)]at m;exact of_decide_eq_true m
inductive hX(A:Ad)(vs:Mp)(H:Hp)(Q:VK)(E:XK):Prop
 |mk:∀(v:V)(d:PyData),vs=[v]->Den H d v->(∀ds,d = .tuple ds->ds.length<=1000/\∀e∈ds,Cf e)->(jK d=true->∀H',aG H H'->Q .non H')->(jK d=false->∀H',aG H H'->E (.ref A.badBody) none H')->hX A vs H Q E
def putQ(q:Qs)(b:Mf)(e:Bk):Qs:=nM (aZ q) (cH [("put",q.B.up,b)]) e
inductive oS(A:Ad)(vs:Mp)(H:Hp)(Q:VK)(E:XK):Prop
 |mk:∀(L:Pl)(q:Qs)(v:V)(d:PyData),vs=[.ref L.qu,v]->QueueW A H L q false->Den H d v->Cf d->(mS d=false->∀H',aG H H'->E (.ref A.badBody) none H')->(∀body:Mf,d = .tuple (body.map .int)->dY body->body.length<=60->WOk q 1/\q.B.up<=999999/\∃B',dR (aZ q).last (aZ q).B [("put",q.B.up,body)]=some B'/\∀L' H',Step L L' H H'->QueueW A H' L' (putQ q body B') false->Q (.int q.B.up) H')->oS A vs H Q E
def i7(e:Int)(b:Md):Mr:=(List.range b.length).map λ(k:Nat)=>("part",e+(k:Int),b.getD k [])
def kT(e:Int)(b:Md):Mr:=i7 e b++([("deal",e,[(b.length:Int)])]:Mr)
def allQ(q:Qs)(b:Md)(e:Bk):Qs:=nM (aZ q) (cH (kT q.B.up b)) e
def dZ(e:Md):Mj:=e.map λb=>.tuple (b.map .int)
def pH(b:Int)(n:Nat):Mf:=(List.range n).map λ(k:Nat)=>b+(k:Int)
inductive jD(A:Ad)(vs:Mp)(H:Hp)(Q:VK)(E:XK):Prop
 |mk:∀(L:Pl)(q:Qs)(v:V)(d:PyData),vs=[.ref L.qu,v]->QueueW A H L q false->Den H d v->(∀ds,d = .tuple ds->ds.length<=1000/\∀e∈ds,Cf e)->(jK d=false->∀H',aG H H'->E (.ref A.badBody) none H')->(∀bss:Md,d = .tuple (dZ bss)->1<=bss.length->bss.length<=9->(∀b∈bss,dY b/\b.length<=60)->WOk q (bss.length+1)/\q.B.up+(bss.length:Int)<=1000000/\∃B',dR (aZ q).last (aZ q).B (kT q.B.up bss)=some B'/\∀p L' H',Step L L' H H'->QueueW A H' L' (allQ q bss B') false->¬gT L' p->(H p=none\/gT L p)->H' p=some (.lst ((pH q.B.up bss.length).map V.int))->Q (.ref p) H')->jD A vs H Q E
theorem CI{g:Mj}(h:g.all mS=true):∃f:Md,g=dZ f/\∀b∈f,dY b/\b.length<=60:=by
 induction g with
 |nil=>exact⟨[],rfl,(λb m=>by cases m)⟩
 |cons d g o=>
  rw[all_cons,and_eq_true]at h;obtain⟨f,e,m⟩:=o h.2;obtain⟨b,p,q,r⟩:=yX h.1;refine⟨b::f,by rw[e,p];rfl,λx n=>?_⟩;rcases mem_cons.mp n with rfl |n
  ·exact⟨q,r⟩
  ·exact m x n
section
variable{P:Program}{w:World}{K:Ma}{mg:Mc}{base:Heap}{A:Ad}
theorem sJ(F:Fun K "check_bodies" "check_bodies" l8 f Y)(T:‹3›)(y:‹15› "check_body" 4 ["body"] (gZ A)):‹14› 5 f Y ["bodies"] (hX A):=by
 obtain⟨_,B⟩:=T.ai7;refine F.okY ["bodies","body"] λZ A' D s H vs Q E hr nD0 h=>?_;obtain⟨v,d,rfl,O,hz,q,g⟩:=h;refine⟨_,aA (bG (l9 (cS (dE ‹27›)) (iX (cS (BM kM kM aM ‹28› (cO (v:=.int 9) ⋯ B ⟨_,rfl⟩))))).pt
   (aC (dW eX ⋯ T.aj8 ⋯ T.be2 ‹25›))
   aO)
  (aC (eQ (i8 dF) ⋯ (sX K (pv 0)) (bH (i:=1) nD0 ⋯ ⋯)
   (aC (aX (bB y ‹18› bR ‹29›))))),?_⟩
 have b:(1:Nat)<=sizeLine:=by decide
 refine⟨_,rfl,_,_,_,_,rfl,O.ty,qY d,_,rfl,?_⟩;cases d with
 |none=>exact aU (aU ⟨b,g rfl H (aG.refl H)⟩)
 |bool x=>exact aU (aU ⟨b,g rfl H (aG.refl H)⟩)
 |int x=>exact aU (aU ⟨b,g rfl H (aG.refl H)⟩)
 |str x=>exact aU (aU ⟨b,g rfl H (aG.refl H)⟩)
 |list x=>exact aU (aU ⟨b,g rfl H (aG.refl H)⟩)
 |dict x=>exact aU (aU ⟨b,g rfl H (aG.refl H)⟩)
 |tuple n=>
 refine bD ?_;obtain⟨z1,z2⟩:=hz n rfl;have r:=O;simp only[Den]at r;obtain⟨a,xs,rfl,G,t⟩:=r;have R:=t.length;refine⟨_,rfl,a,_,rfl,.inr (SqT.of G),_,_,rfl,rfl,_,rfl,?_⟩;rw[R];unfold jK at q g;dsimp only at q g;by_cases S:1<=n.length
 case neg=>
  rw[decide_eq_false S,Bool.false_and]at g;rw[if_neg (by rw[decide_eq_true_eq];omega)];exact⟨_,rfl,aU ⟨b,g rfl H (aG.refl H)⟩⟩
 rw[decide_eq_true S,Bool.true_and]at q g;rw[if_pos (decide_eq_true (by omega))];refine⟨_,_,rfl,rfl,_,rfl,?_⟩;show if (!decide ((n.length:Int)<=9))=true then _ else _
 by_cases U:n.length<=9
 case neg=>
  rw[decide_eq_false U,Bool.false_and]at g;rw[decide_eq_false (by omega)];exact aU ⟨b,g rfl H (aG.refl H)⟩
 rw[decide_eq_true U,Bool.true_and]at q g;rw[decide_eq_true (show (n.length:Int)<=9 by omega)];refine bD (cQ rfl ?_);refine⟨_,rfl,a,rfl,⟨_,SqT.of G⟩,?_⟩;refine fR (oO (K:=K) (SqT.of G)) (λi I H'=>aG H H'/\(n.take i).all mS=true/\∃z,I = [some (.ref a),z]) ?i0 (λ_ _ _ h=>h.1) ?_ ?_
 case i0=>exact⟨aG.refl _,rfl,none,rfl⟩
 ·rintro i x I V H6 hi ⟨J,m,z,rfl⟩ s6 hx;obtain⟨e,W,dn⟩:=t.get hx;have L:=J.trans s6;have u:e∈n:=mem_of_getElem? W;refine⟨_,rfl,x,e,rfl,dn.same L,λbs eb=>le_trans (z2 e u bs eb) (by decide),λp X N=>?_,λp X N=>?_⟩
  ·refine⟨L.trans N,?_,_,rfl⟩;rw[take_succ,W,List.all_append,m];show (true && (mS e && true))=true;have:mS e=true:=p;rw[this];rfl
  ·refine g ?_ X (L.trans N);rw[<- Bool.not_eq_true,all_eq_true];intro o;have:mS e=true:=o e u;have p:mS e=false:=p;rw[this]at p;cases p
 ·rintro I V ⟨J,m,z,rfl⟩;rw[R,take_length]at m;exact q m V J
theorem HV(F:Fun K "put" "Queue.put" Ds f fd)(T:‹3›)(y:‹15› "check_body" 4 ["body"] (gZ A))(B:‹4›):‹14› 8 f fd ["self","body"] (oS A):=by
 refine F.okY ["self","body","number"] λaa A' D s H vs Q E hr nD0 h=>?_;obtain⟨L,q,v,d,rfl,hq,R,hz,qe,qg⟩:=h;refine⟨_,aA (aX (bB y ‹18› bR ‹29›))
  (aA (aW (i:=2) nD0 ⋯ ⋯ (qT ‹23› ⋯))
  (aA (aX (cM B T.aa0 ‹18› bR (pv 0) (fN (cD (bV (bE (aI bP (aE (pv 2) ‹29›))) aF)) aF)))
  (aC (aP (pv 2))))),?_⟩
 refine⟨_,rfl,v,d,rfl,R,(λbs e=>le_trans (hz bs e) (by decide)),λhg S u=>?_,λx S u=>qe x S u⟩;obtain⟨b,rfl,x,U⟩:=yX hg;obtain⟨ok,hu,B',G,qq⟩:=qg b rfl x U;have n:bQ (cI ("put",q.B.up,b))=true:=zP (.inl rfl) ok.up hu x U;have g:=hq.same u;obtain⟨V,W⟩:=g.self;obtain⟨db,h2⟩:=g.book.self;refine⟨_,rfl,L.qu,_,V,_,_,rfl,W,T.aa0,T.ae4,rfl,L.bk,_,db,_,_,rfl,h2,T.ad2,T.ab8,rfl,?_⟩;refine⟨_,rfl,L.qu,V,_,rfl,W,rfl,_,rfl,_,rfl,aJ,λX I=>⟨aJ,λp2 m=>?_⟩⟩;obtain⟨H2,p,Y,g1⟩:=gUU (o:=.tup [.str "put",.int q.B.up,v]) I;rw[p]at m⊢;obtain⟨H3,p,Z,g2⟩:=gUU (o:=.lst [.ref X]) m;rw[p];have t:=Y.trans Z;have J:=g.same t;refine⟨L,q,p2,[("put",q.B.up,b)],B',rfl,J,ok,λz=>?_,?_,λr N=>?_,G,λL' H' st O=>⟨_,rfl,qq L' H' ((aG.step (u.trans t)).trans st) O⟩⟩
 ·obtain⟨o,e⟩:=fV (g.same Y) z;rw[e]at m;cases m
 ·simp only[Den,map_cons,map_nil,aT];refine⟨p2,_,rfl,g2,_,_,rfl,?_,rfl⟩;unfold cI fQ;simp only[Den,aT];refine⟨X,_,rfl,Z _ _ g1,_,_,rfl,rfl,_,_,rfl,rfl,_,_,rfl,?_,rfl⟩;have:=R.same (u.trans t);simp only[Den]at this;exact this
 ·rcases mem_cons.mp N with rfl |z
  ·exact n
  ·cases z
theorem BY{f:Addr}{fd:Ml}(F:Fun K "put_all" "Queue.put_all" uS f fd)(T:‹3›)(ah:‹15› "check_bodies" 5 ["bodies"] (hX A))(ai:‹4›):‹14› 8 f fd ["self","bodies"] (jD A):=by
 refine F.okY ["self","bodies","first","parts"] λap A' aj s H vs Q E hr nD0 h=>?_;obtain⟨L,q,v,d,rfl,hq,dv,hz,qe,qg⟩:=h;refine⟨_,aA (aX (bB ah ‹18› bR ‹29›))
  (aA (aW (i:=2) nD0 ⋯ ⋯ (qT ‹23› ⋯))
  (aA (m5 (i:=3) ["number","body"] [] nD0 ⋯ ⋯ ⋯ (HH K T.ag3 (pv 1) (pv 2)) (λC s2 H2 ex=>(iF K (n:=2) (cJ (bH (i:=0) (show List.Nodup (["number","body"]:Mg) by decide +kernel) ⋯ (Or.inl ⋯)) (cJ (bH (i:=1) (show List.Nodup (["number","body"]:Mg) by decide +kernel) ⋯ (Or.inl ⋯)) iE)))) ‹41› (λC s2 H2 ex=>(bE (aI bP (aE (pv 0) ‹29›)))))
  (aA (aX (cM ai T.aa0 ‹18› bR (pv 0) (bT (bC Cv (pv 3) (cD (bV (bE (aI bP (aE (pv 2) (bV (bE (cW ‹77› aF)) aF)))) aF))) aF)))
  (aC (aP (cV ["part"] [] ⋯ (bU K (pv 3)) (λC s2 H2 ex=>(bH (i:=0) (show List.Nodup (["part"]:Mg) by decide +kernel) ⋯ (Or.inl ⋯))) ‹41› (λC s2 H2 ex=>‹24›))))))),?_⟩
 refine⟨_,rfl,v,d,rfl,dv,hz,λhg H1 S1=>?_,λhb H1 S1=>qe hb H1 S1⟩;cases d with
 |tuple ds=>
 simp only[jK,and_eq_true,decide_eq_true_eq]at hg;obtain⟨g1,g9,aa⟩:=hg;obtain⟨g,rfl,J⟩:=CI aa;have lb:(dZ g).length=g.length:=length_map _;rw[lb]at g1 g9;obtain⟨ok,hu,B',ak,qq⟩:=qg g rfl g1 g9 J;have N:=hq.same S1;obtain⟨dx,h1⟩:=N.self;obtain⟨db,h2⟩:=N.book.self;have ab:=dv.same S1;simp only[Den]at ab;obtain⟨a,xs,rfl,ha,ac⟩:=ab;have lx:=ac.length;rw[lb]at lx;refine⟨_,rfl,L.qu,_,dx,_,_,rfl,h1,T.aa0,T.ae4,rfl,L.bk,_,db,_,_,rfl,h2,T.ad2,T.ab8,rfl,?_⟩;refine⟨_,rfl,_,rfl,a,_,q.B.up,rfl,rfl,ok.up,by omega,SqT.of ha,?_⟩;refine c8 (tW (K:=K) q.B.up (SqT.of ha)) (by rw[lx];exact le_trans g9 (by decide)) (λi y H'=>Den H' (cI ("part",q.B.up+(i:Int),g.getD i [])) y) (λi y G1 G2 s h=>h.n s (lG _ _ _)) (λσ=>σ.length=2) ?z0 ?_ ?_
 case z0=>rfl
 ·intro i x O H3 hi R s3 hx Q' S;obtain⟨p,u,rfl,hp,hv⟩:=hx;obtain⟨e,he,dn⟩:=ac.get hv;rw[lx]at hi;have eb:g[i]? = some (g.getD i []):=by rw[getD_eq_getElem?_getD,getElem?_eq_getElem hi];rfl
  unfold dZ at he;rw[getElem?_map,eb]at he;cases (Option.some.inj he:PyData.tuple ((g.getD i []).map .int)=e)
  match O,R with
  |[z1,z2],_=>
   refine⟨p,_,rfl,SqT.of hp,rfl,_,_,rfl,_,_,rfl,rfl,?_⟩;refine⟨_,rfl,_,rfl,aJ,λpt ad=>?_⟩;refine S _ _ _ rfl (aD ad) ?_;unfold cI fQ;simp only[Den,aT];refine⟨pt,_,rfl,aB,_,_,rfl,rfl,_,_,rfl,rfl,_,_,rfl,?_,rfl⟩;have:=dn.same (s3.trans (aD (o:=.tup [.str "part",.int (q.B.up+(i:Int)),u]) ad));simp only[Den]at this;exact this
 intro D ys H2 hD S2 gD B hR;rw[lx]at B;have U:=S1.trans S2;have ae:=hq.same U;refine⟨_,rfl,L.qu,dx,_,rfl,S2 _ _ h1,rfl,_,rfl,_,rfl,_,rfl,a,_,rfl,.inr (SqT.of (S2 _ _ ha)),aJ,λt1 al=>⟨aJ,λt2 W=>⟨aJ,λl3 I=>?_⟩⟩⟩;rw[lx]at W I⊢;obtain⟨H3,m,U1,u1⟩:=gUU (o:=.tup [.int (g.length:Int)]) al;rw[m]at W I⊢;obtain⟨H4,m,U2,u2⟩:=gUU (o:=.tup [.str "deal",.int q.B.up,.ref t1]) W;rw[m]at I⊢;obtain⟨H5,m,U3,u3⟩:=gUU (o:=.lst [.ref t2]) I;rw[m];have X:=U1.trans (U2.trans U3);refine⟨D,l3,ys,_,rfl,rfl,X _ _ gD,u3,?_,λpc Y=>?_⟩
 ·rw[B];exact le_trans (show _<=10 by simp;omega) (by decide)
 obtain⟨H6,m,U4,u4⟩:=gUU (o:=.lst (ys++[.ref t2])) Y;rw[m];have G:=X.trans U4;have am:=ae.same G;have dl:(kT q.B.up g).length=g.length+1:=by
  unfold kT i7;rw[length_append,length_map,length_range];rfl
 refine⟨L,q,pc,kT q.B.up g,B',rfl,am,by rw[dl];exact ok,λz=>?_,?_,λr Z=>?_,ak,λL' H7 st af=>?_⟩
 ·obtain⟨o,e⟩:=fV (ae.same X) z;rw[e]at Y;cases Y
 ·simp only[Den];refine⟨pc,_,rfl,u4,iH (by rw[length_map,dl,length_append,B];rfl) λi y e=>?_⟩;by_cases hi:i<ys.length
  ·rw[getElem?_append_left hi]at e;refine⟨cI ("part",q.B.up+(i:Int),g.getD i []),?_,(hR i y e).same G⟩;unfold kT i7;rw[getElem?_map,getElem?_append_left (by rw[length_map,length_range];omega),getElem?_map,getElem?_range (by omega)];rfl
  ·rw[getElem?_append_right (by omega)]at e;have an:i-ys.length=0:=by
    have:=(List.getElem?_eq_some_iff.mp e).1;rw[List.length_singleton]at this;omega
   rw[an]at e;cases (Option.some.inj e:V.ref t2=y);refine⟨cI ("deal",q.B.up,[(g.length:Int)]),?_,?_⟩
   ·unfold kT i7;rw[getElem?_map,getElem?_append_right (by rw[length_map,length_range];omega),length_map,length_range,show i-g.length=0 by omega];rfl
   ·unfold cI fQ;simp only[Den,aT,map_cons,map_nil];exact⟨t2,_,rfl,U4 _ _ (U3 _ _ u2),_,_,rfl,rfl,_,_,rfl,rfl,_,_,rfl,⟨t1,_,rfl,U4 _ _ (U3 _ _ (U2 _ _ u1)),_,_,rfl,rfl,rfl⟩,rfl⟩
 ·unfold kT i7 at Z;rw[mem_append]at Z;rcases Z with z |z
  ·rw[mem_map]at z;obtain⟨k,hk,rfl⟩:=z;rw[mem_range]at hk;have hb:=J (g.getD k []) (by rw[getD_eq_getElem?_getD,getElem?_eq_getElem hk];exact List.getElem_mem hk);have:=ok.up;exact zP (.inr rfl) (by omega) (by omega) hb.1 hb.2
  ·rw[mem_singleton.mp z];exact KA ok.up (by omega) g1 g9
 have nD:¬gT L D:=λz=>by
  obtain⟨o,e⟩:=fV N z;rw[e]at hD;cases hD
 have g7:=st.frm _ _ (G _ _ gD) nD;refine⟨_,rfl,D,rfl,⟨_,SqL.of g7⟩,?_⟩;refine c8 (bO (K:=K) (SqL.of g7)) (by rw[B];exact le_trans g9 (by decide)) (λi y _=>y = .int (q.B.up+(i:Int))) (λ_ _ _ _ _ h=>h) (λσ=>σ.length=1) ?z1 ?_ ?_
 case z1=>rfl
 ·intro i x O H8 hi R s8 hx Q' S;obtain⟨t,b,rfl,gt,gb⟩:=pB (hR i x hx)
  match O,R with
  |[z],_=>
   refine⟨_,rfl,t,_,_,.int (q.B.up+(i:Int)),rfl,rfl,SqT.of (s8 _ _ (st.tup _ _ (G _ _ gt))),a8 (by decide) rfl,?_⟩;exact S _ _ _ rfl (aG.refl _) rfl
 intro p zs H9 hp S9 ag aq ao;have ez:zs=(pH q.B.up g.length).map V.int:=by
  apply ext_getElem?;intro j;cases ej:zs[j]? with
  |none=>
   have h1:=List.getElem?_eq_none_iff.mp ej;rw[List.getElem?_eq_none_iff.mpr];unfold pH;rw[length_map,length_map,length_range];omega
  |some y=>
   have hj:j<g.length:=by
    have:=(List.getElem?_eq_some_iff.mp ej).1;omega
   rw[ao j y ej];unfold pH;rw[getElem?_map,getElem?_map,getElem?_range hj];rfl
 rw[ez]at ag;refine qq p L' H9 ((aG.step (U.trans G)).trans (st.trans (aG.step S9))) (af.same S9) (λz=>?_) ?_ ag
 ·obtain⟨o,e⟩:=fV af z;rw[e]at hp;cases hp
 ·by_cases z:gT L p
  ·exact .inr z
  ·refine .inl ?_;cases e:H p with
   |none=>rfl
   |some o=>
    rw[st.frm _ _ ((U.trans G) _ _ e) z]at hp;cases hp
 |_=>simp [jK]at hg
end
abbrev Ar:Stmt:=bN (top 55) 3
abbrev Ay:Stmt:=bN (top 55) 5
abbrev xK:Stmt:=bN (top 55) 18
abbrev uR:Stmt:=bN (top 55) 7
def qQ(q:Qs)(b:Mf):Mf:=(b.filter (kP q.hs)).filter λn=>ltB (eV q.B.es n) q.tries
def B9(q:Qs)(b:Mf):Mf:=(b.filter (kP q.hs)).filter λn=>geB (eV q.B.es n) q.tries
def outQ(q:Qs)(n:Int)(x:Str)(b:Bk):Qs:={nM (aZ q) (cH [("out",n,[])]) b with hs:=q.hs++[(n,(x,q.now))] }
def newQ(q:Qs)(n:Int)(b:Bk):Qs:=nM (aZ q) (cH [("new",n,[])]) b
def backQ(q:Qs)(n:Int):Qs:={q with hs:=dropH q.hs n}
inductive jX(A:Ad)(vs:Mp)(H:Hp)(Q:VK)(E:XK):Prop
 |mk:∀(L:Pl)(q:Qs)(v:V),vs=[.ref L.qu,v]->QueueW A H L q false->((∃(x:Str) (ms:Mf),v = .str x/\(q.B.es.length<800/\(q.B.es.map (·.1)).Pairwise (· <= ·))/\q.hs.length<900/\cX iA 6 (.str x)=true/\(x.length<=1000/\gO x=true)/\List.Perm ms (q.B.es.map (·.1))/\ms.Pairwise (· <= ·)/\
 (qQ q ms=[]->∀H',aG H H'->Q .non H')/\
 (∀n r,qQ q ms=n::r->WOk q 1/\0<=n/\n<=999999/\∃B' e,dR (aZ q).last (aZ q).B [("out",n,[])]=some B'/\bM B'.es n=some e/\∀p L' H',Step L L' H H'->QueueW A H' L' (outQ q n x B') false->Den H' (AF n e) (.ref p)->Q (.ref p) H'))\/
 ∃d,Den H d v/\(∀x,d = .str x->x.length<=1000/\gO x=true)/\cX iA 6 d=false/\∀H',aG H H'->E (.ref A.badHand) none H')->jX A vs H Q E
inductive jC(A:Ad)(vs:Mp)(H:Hp)(Q:VK)(E:XK):Prop
 |mk:∀(L:Pl)(q:Qs)(v:V)(d:PyData)(ms:Mf),vs=[.ref L.qu,v]->QueueW A H L q false->(q.B.es.length<800/\(q.B.es.map (·.1)).Pairwise (· <= ·))->Den H d v->List.Perm ms (q.B.es.map (·.1))->ms.Pairwise (· <= ·)->((∀n∈B9 q ms,bL 0 999999 (.int n)=true->d ≠ .int n)->∀H',aG H H'->E (.ref A.badNumber) none H')->(∀n,d = .int n->n∈B9 q ms->0<=n->n<=999999->WOk q 1/\∃B',dR (aZ q).last (aZ q).B [("new",n,[])]=some B'/\∀L' H',Step L L' H H'->QueueW A H' L' (newQ q n B') false->Q .non H')->jC A vs H Q E
theorem nI(b:Mf):(b.map V.int).all nU=true:=by
 rw[all_map];exact all_eq_true.mpr λ_ _=>rfl
theorem pR(n:Int)(b:Mf):inV (.int n) (b.map V.int)=decide (n∈b):=by
 unfold inV;rw[List.any_map];by_cases h:n∈b
 ·rw[decide_eq_true h,any_eq_true];exact⟨n,h,beq_self_eq_true n⟩
 ·rw[decide_eq_false h,<- Bool.not_eq_true,any_eq_true];rintro ⟨x,f,e⟩;have e:(x == n)=true:=e;rw[beq_iff_eq]at e;rw[e]at f;exact h f
theorem AZ(b:k = "out"\/k = "new"\/k = "done")(e:0<=n)(f:n<=999999):bQ (cI (k,n,[]))=true:=by
 have g:bL 0 999999 (.int n)=true:=by
  simp only[bL,and_eq_true,decide_eq_true_eq];exact⟨e,f⟩
 show (dM.contains k && (bL 0 999999 (.int n) && (dQ (.tuple []) && fF k (bX (.tuple [])))))=true;rw[g];rcases b with rfl |rfl |rfl <;> decide +kernel
theorem QueueW.toHeld(h:QueueW A H L q n)(r:HoR H m f):QueueW A (upd H L.hd (.dK f)) L {q with hs:=m} n/\Step L L H (upd H L.hd (.dK f)):=by
 obtain⟨p,s⟩:=h.self;obtain⟨B,u,D⟩:=h.held;have t:fX H (upd H L.hd (.dK f)):=kW u (λE z=>by cases z);refine⟨⟨⟨p,by rw[aH (λz=>h.a_hd.1 z.symm)];exact s⟩,h.disk.keep λb o e g=>?_,h.book.keep (λb o e g=>?_) t,⟨f,aB,r.t t⟩,h.a_bd,h.a_qu,h.a_hd⟩,⟨rfl,rfl,λb o e x=>by rw[aH (λz=>x (.inr (.inl z)))];exact e,λb g=>.inl g,t⟩⟩
 ·rw[aH (λz=>by rw[z]at g;exact h.a_hd.2.2 g)];exact e
 ·rw[aH (λz=>by rw[z]at g;exact h.a_hd.2.1 g)];exact e
theorem cP(q:Qs):(aZ q).now=q.now/\(aZ q).hs=q.hs/\(aZ q).tries=q.tries/\(aZ q).B=q.B:=by
 unfold aZ;split <;> exact⟨rfl,rfl,rfl,rfl⟩
section
variable{P:Program}{w:World}{K:Ma}{mg:Mc}{base:Heap}{A:Ad}
theorem FI(F:Fun K "take" "Queue.take" Ar f fd)(T:‹3›)(ab:‹15› "check_hand" 2 ["hand"] (gY A))(ac:‹12›)(ad:‹16› A.queue "ready" 4 ["self"] (jY A ltB))(ae:‹4›):‹14› 8 f fd ["self","hand"] (jX A):=by
 refine F.okY ["self","hand","numbers","number"] λas A' af s H vs Q E hr nD0 h=>?_;obtain⟨L,q,v,rfl,hq,h⟩:=h;refine⟨_,aA (aX (bB ab ‹18› bR ‹29›))
  (aA (aW (i:=2) nD0 ⋯ ⋯ (eW ad T.aa0 ‹18› bA (pv 0)))
  (aA (bG (cS (iY K (pv 2)))
   ‹76›
   aO)
  (aA (aW (i:=3) nD0 ⋯ ⋯ (cG (cF K) (pv 2) aM (λ_ _=>rfl)))
  (aA (aX (cM ae T.aa0 ‹18› bR (pv 0) (fN (cD (bV (bE (aI bP (aE (pv 3) ‹47›))) aF)) aF)))
  (aA (fM (hu1 hr.units) ‹23› (pv 3) (bE (aE (pv 1) ‹81›)) ⋯)
  (aC (aP (cM ac T.ad2 ‹18› bA ‹23› ‹51›)))))))),?_⟩
 rcases h with ⟨x,ms,rfl,hl,hh,hw,hz,J,pw,qn,qs⟩ | ⟨d,dd,hz,hw,qe⟩
 rotate_left
 ·exact⟨_,rfl,v,d,rfl,dd,hz,(λz=>by rw[hw]at z;cases z),λ_=>qe⟩
 refine⟨_,rfl,.str x,.str x,rfl,by simp only[Den],(λy e=>by injection e with e;rw[<- e];exact hz),λ_ H1 S1=>?_,(λz=>by rw[hw]at z;cases z)⟩;have N:=hq.same S1;obtain⟨dx,h1⟩:=N.self;refine⟨_,rfl,L.qu,dx,_,rfl,h1,rfl,L,q,rfl,N,hl,λt u ag p H2 S2 hp B=>?_⟩;have em:t=ms:=eJ (u.trans J.symm) ag pw;subst em;have B:H2 p=some (.lst ((qQ q t).map V.int)):=B;cases O:qQ q t with
 |nil=>
  rw[O]at B;exact⟨_,rfl,p,_,rfl,SqL.of B,aU (qn O H2 (S1.trans S2))⟩
 |cons n r=>
  rw[O]at B;obtain⟨ok,n0,n9,B',e,ah,ai,qq⟩:=qs n r O;refine⟨_,rfl,p,_,rfl,SqL.of B,bD (cQ rfl ?_)⟩;refine⟨_,rfl,p,_,_,.int n,rfl,rfl,SqL.of B,a8 (by decide) rfl,?_⟩;have R:=S1.trans S2;have D:=hq.same R;obtain⟨aj,h2⟩:=D.self;refine⟨_,rfl,L.qu,aj,_,rfl,h2,rfl,_,rfl,aJ,λp0 ak=>⟨aJ,λp1 S=>⟨aJ,λp2 g=>?_⟩⟩⟩;obtain⟨H3,b,V0,v0⟩:=gUU (o:=.tup []) ak;rw[b]at S g⊢;obtain⟨H4,b,V1,v1⟩:=gUU (o:=.tup [.str "out",.int n,.ref p0]) S;rw[b]at g⊢;obtain⟨H5,b,V2,v2⟩:=gUU (o:=.lst [.ref p1]) g;rw[b];have U:=V0.trans (V1.trans V2);have al:=D.same U;refine⟨L,q,p2,[("out",n,[])],B',rfl,al,ok,λz=>?_,?_,λr am=>?_,ah,λG H6 st I=>?_⟩
  ·obtain⟨o,e⟩:=fV (D.same (V0.trans V1)) z;rw[e]at g;cases g
  ·simp only[Den,map_cons,map_nil,aT];refine⟨p2,_,rfl,v2,_,_,rfl,?_,rfl⟩;unfold cI fQ;simp only[Den,aT,map_nil];exact⟨p1,_,rfl,V2 _ _ v1,_,_,rfl,rfl,_,_,rfl,rfl,_,_,rfl,⟨p0,_,rfl,V2 _ _ (V1 _ _ v0),rfl⟩,rfl⟩
  ·rw[mem_singleton.mp am];exact AZ (.inl rfl) n0 n9
  obtain⟨nn,nh,_,_⟩:=cP q;have W:=(aG.step (R.trans U)).trans st;obtain⟨X,h6⟩:=I.self;obtain⟨Y,g6,r6⟩:=I.held;rw[show (nM (aZ q) (cH [("out",n,[])]) B').hs=q.hs from nh]at r6;rw[st.qu]at h6;refine⟨_,rfl,_,rfl,L.qu,_,X,_,_,rfl,h6,T.aa0,T.bg1,rfl,aJ,λpt an=>?_⟩;have Z:(nM (aZ q) (cH [("out",n,[])]) B').now=q.now:=nn;rw[Z];obtain⟨H7,b,V6,v6⟩:=gUU (o:=.tup [.str x,.int q.now]) an;rw[b];have fr:bY q.hs n=none:=by
   have hm:n∈qQ q t:=by rw[O];exact mem_cons_self
   have:=(mem_filter.mp (mem_filter.mp hm).1).2;exact Option.isNone_iff_eq_none.mp this
  have ev:=(r6.look (n:=n)).1 fr;have ep:eF Y (Sum.inl n) (V.ref pt)=Y++[(Sum.inl n,V.ref pt)]:=by
   unfold eF;rw[oJ,ev];rfl
  have ao:Y.length<sizeLine:=by
   rw[r6.len];exact lt_trans hh (by decide)
  refine⟨_,rfl,L.qu,_,X,_,_,rfl,V6 _ _ h6,T.aa0,T.ac5,rfl,_,rfl,G.hd,_,rfl,jU.k (k:=Sum.inl n) (V6 _ _ g6) ao,?_⟩;rw[ep];obtain⟨m,aa⟩:=(I.same V6).toHeld (HoR.snoc v6 (r6.t (aG.tup V6)):HoR H7 (q.hs++[(n,(x,q.now))]) (Y++[(Sum.inl n,.ref pt)]));generalize upd H7 G.hd (.dK (Y++[(Sum.inl n,.ref pt)]))=H8 at m aa⊢;obtain⟨ap,h8⟩:=m.self;obtain⟨aq,ar⟩:=m.book.self;rw[st.qu]at h8;refine⟨_,rfl,L.qu,_,ap,_,_,rfl,h8,T.aa0,T.ae4,rfl,G.bk,aq,_,rfl,ar,rfl,_,rfl,G.bk,G.de,G.dp,B',n,e,rfl,m.book,ai,λpr H9 S9 d9=>?_⟩;exact qq pr G H9 (W.trans ((aG.step V6).trans (aa.trans (aG.step S9)))) (m.same S9) d9
theorem BX(F:Fun K "revive" "Queue.revive" uR f fd)(T:‹3›)(J:‹2›)(N:‹16› A.queue "dead" 4 ["self"] (jY A geB))(O:‹4›):‹14› 8 f fd ["self","number"] (jC A):=by
 obtain⟨_,ac8⟩:=T.ad3;refine F.okY ["self","number"] λaf A' R s H vs Q E hr nD0 h=>?_;obtain⟨L,q,v,d,ms,rfl,S,hl,U,B,pw,qe,qs⟩:=h;refine⟨_,aA (bG (l9 (cS (dE (bB J ‹18› bA (aE (pv 1) ‹45›)))) (iX (aY (kK K) (pv 1) (eW N T.aa0 ‹18› bA (pv 0)) ⋯))).pt
   ‹92›
   aO)
  (aC (aX (cM O T.aa0 ‹18› bR (pv 0) (fN (cD (bV (bE (aI bP (aE (pv 1) ‹47›))) aF)) aF)))),?_⟩
 have fail:bL 0 999999 d=false->∀H',aG H H'->E (.ref A.badNumber) none H':=λz=>qe (λn _ t e=>by rw[e,t]at z;cases z);refine⟨_,rfl,v,d,0,999999,rfl,U,_,rfl,?_⟩;cases t:bL 0 999999 d with
 |false=>
  refine aU (aU ?_);exact⟨aJ,fail t H (aG.refl H)⟩
 |true=>
  obtain⟨n,rfl,n0,n9⟩:∃n,d = .int n/\0<=n/\n<=999999:=by
   cases d with
   |int n=>
    simp only[bL,and_eq_true,decide_eq_true_eq]at t;exact⟨n,rfl,t.1,t.2⟩
   |_=>cases t
  simp only[Den]at U;subst U;obtain⟨dx,h1⟩:=S.self;refine bD ⟨_,rfl,_,rfl,L.qu,dx,_,rfl,h1,rfl,L,q,rfl,S,hl,λu x W p H2 X hp Y=>?_⟩;have em:u=ms:=eJ (x.trans B.symm) W pw;subst em;have Y:H2 p=some (.lst ((B9 q u).map V.int)):=Y;refine⟨p,_,rfl,.inl (SqL.of Y),rfl,nI _,_,rfl,?_⟩;rw[if_pos rfl,pR];by_cases D:n∈B9 q u
  ·rw[decide_eq_true D];refine bD (cQ rfl ?_);obtain⟨ok,B',Z,qq⟩:=qs n rfl D n0 n9;have y:=S.same X;obtain⟨aa,h2⟩:=y.self;refine⟨_,rfl,L.qu,aa,_,rfl,h2,rfl,_,rfl,aJ,λp0 ab=>⟨aJ,λp1 G=>⟨aJ,λp2 b=>?_⟩⟩⟩;obtain⟨H3,g,V0,v0⟩:=gUU (o:=.tup []) ab;rw[g]at G b⊢;obtain⟨H4,g,V1,v1⟩:=gUU (o:=.tup [.str "new",.int n,.ref p0]) G;rw[g]at b⊢;obtain⟨H5,g,V2,v2⟩:=gUU (o:=.lst [.ref p1]) b;rw[g];have I:=V0.trans (V1.trans V2);have ac:=y.same I;refine⟨L,q,p2,[("new",n,[])],B',rfl,ac,ok,λz=>?_,?_,λr ad=>?_,Z,λL' H6 st ae=>qq L' H6 ((aG.step (X.trans I)).trans st) ae⟩
   ·obtain⟨o,e⟩:=fV (y.same (V0.trans V1)) z;rw[e]at b;cases b
   ·simp only[Den,map_cons,map_nil,aT];refine⟨p2,_,rfl,v2,_,_,rfl,?_,rfl⟩;unfold cI fQ;simp only[Den,aT,map_nil];exact⟨p1,_,rfl,V2 _ _ v1,_,_,rfl,rfl,_,_,rfl,rfl,_,_,rfl,⟨p0,_,rfl,V2 _ _ (V1 _ _ v0),rfl⟩,rfl⟩
   ·rw[mem_singleton.mp ad];exact AZ (.inr (.inl rfl)) n0 n9
  ·rw[decide_eq_false D];refine aU ⟨aJ,?_⟩;exact qe (λm hm _ e=>by injection e with e;rw[e]at D;exact D hm) H2 X
end
abbrev Aw:Stmt:=bN (top 55) 4
abbrev xH:Stmt:=bN (top 55) 15
abbrev rR:Stmt:=bN (top 36) 7
def Kq(q:Qs)(n:Int)(b:Bk):Qs:={nM (aZ q) (cH [("done",n,[])]) b with hs:=dropH q.hs n}
def B4(q:Qs):Qs:={q with D:=Ed q.D (bK q.first),first:=q.first+1}
def sC(b:Mq)(n:Int):Int:=((bM b n).getD ([],0,0)).2.2
inductive lA(C:Addr)(vs:Mp)(H:Hp)(Q:VK)(x_3:XK):Prop
 |mk:∀(bk de dp:Addr)(B:Bk)(seg:Int),vs=[.ref bk,.int seg]->BookAt C H bk de dp B->(B.es.length<800/\(B.es.map (·.1)).Pairwise (· <= ·))->(∀ms,List.Perm ms (B.es.map (·.1))->ms.Pairwise (· <= ·)->∀p H',aG H H'->H p=none->H' p=some (.lst ((ms.filter λn=>decide (sC B.es n=seg)).map V.int))->Q (.ref p) H')->lA C vs H Q x_3
def AM(q:Qs):Mf:=(q.B.es.map (·.1)).filter λn=>decide (sC q.B.es n=q.first)
inductive iR(A:Ad)(vs:Mp)(H:Hp)(Q:VK)(x_3:XK):Prop
 |mk:∀(L:Pl)(q:Qs)(I:Qs->Prop),vs=[.ref L.qu]->QueueW A H L q false->I q->(∀q',I q'->(q'.B.es.length<800/\(q'.B.es.map (·.1)).Pairwise (· <= ·))/\(q'.first<q'.last->AM q'=[]->q'.D.left=none/\eZ q'.first/\(∃bs,aR q'.D.fs (bK q'.first)=some bs)/\I (B4 q')))->(∀L' q' H',Step L L' H H'->QueueW A H' L' q' false->I q'->(¬q'.first<q'.last\/AM q'≠[])->Q (.int (q'.first-q.first)) H')->iR A vs H Q x_3
section
variable{P:Program}{w:World}{K:Ma}{mg:Mc}{base:Heap}{A:Ad}
theorem AD(F:Fun K "numbers_in" "Book.numbers_in" rR f fd)(T:‹8›):‹14› 1 f fd ["self","segment"] (lA aa3):=by
 refine F.okY ["self","segment"] λaa A' N s H vs Q E hr nD0 h=>?_;obtain⟨O,R,dp,B,g,rfl,hB,hl,qq⟩:=h;refine⟨_,aC (aP (cV ["number"] [("self",0),("segment",1)] ⋯ ‹78› (λC s2 H2 ex=>(bH (i:=0) (show List.Nodup (["number","self","segment"]:Mg) by decide +kernel) ⋯ (Or.inl ⋯))) (λC s2 H2 ex=>(hG (aY fP ‹42› (pv 2) (bI _)))) ‹64›)),?_⟩;obtain⟨dx,h1⟩:=hB.self;obtain⟨S,h2,h3⟩:=hB.ent;refine⟨_,rfl,O,_,dx,_,_,rfl,h1,T.cl,T.ac4,rfl,R,S,_,rfl,h2,h3.keys,.inr hl.2,by rw[length_map];omega,λp q m pw hp=>?_⟩;obtain⟨H1,U,W,g1⟩:=gUU (o:=.lst (q.map .int)) hp;rw[U];have lm:(q.map V.int).length=q.length:=length_map _;have pl:=m.length_eq;rw[length_map]at pl;refine⟨p,rfl,⟨_,SqL.of g1⟩,?_⟩;refine fS (bO (K:=K) (SqL.of g1)) (by rw[lm,pl];exact le_of_lt (lt_trans hl.1 (by decide))) (λj=>decide (sC B.es (q.getD j 0)=g)) (λj=>V.int (q.getD j 0)) (λσ=>∃z,σ = [z,some (.ref O),some (.int g)]) ⟨none,rfl⟩ ?_ ?_
 ·intro j x ab H3 hj X s3 I Q1 Q2 Q3 r u;obtain⟨z,rfl⟩:=X;rw[getElem?_map]at I;cases e:q[j]? with
  |none=>rw[e]at I;cases I
  |some n=>
   rw[e]at I;cases I;have eg:q.getD j 0=n:=by rw[getD_eq_getElem?_getD,e];rfl
   rw[eg]at r u;have Y:n∈B.es.map (·.1):=m.mem_iff.mp (mem_of_getElem? e);obtain⟨L,J⟩:=i9 Y;have G:aG H H3:=W.trans s3;have hv:=h3.val (n:=n);rw[J]at hv;obtain⟨v,Z,t,b,rfl,gt,gb⟩:=hv;have dg:cR H3 R (.int n) (some (.ref t)):=by
    have:=cR.k (k:=Sum.inl n) (G _ _ h2);rw[Z]at this;exact this
   have es:sC B.es n=L.2.2:=by
    unfold sC;rw[J];rfl
   rw[es]at r u;refine⟨_,rfl,O,_,dx,_,_,rfl,G _ _ h1,T.cl,T.ac4,rfl,_,rfl,R,_,rfl,dg,t,_,_,.int L.2.2,rfl,rfl,SqT.of (G _ _ gt),a8 (by decide) rfl,_,rfl,rfl,_,rfl,?_⟩;by_cases y:L.2.2=g
   ·rw[decide_eq_true (show V.int L.2.2=V.int g by rw[y])];exact aU ⟨_,rfl,r _ ⟨_,rfl⟩ (decide_eq_true y)⟩
   ·rw[pW y];exact bD (u _ ⟨_,rfl⟩ (decide_eq_false y))
 intro D H2 hD S2 g2;rw[lm,gH q (λn=>decide (sC B.es n=g))]at g2;exact qq q m pw D H2 (W.trans S2) (W.free hD) g2
theorem Cz(F:Fun K "sweep" "Queue.sweep" xH f fd)(T:‹3›)(R:‹16› A.book "numbers_in" 1 ["self","segment"] (lA A.book))(S:‹16› A.queue "drop_first" 5 ["self"] (k8 A)):‹14› 6 f fd ["self"] (iR A):=by
 refine F.okY ["self","went"] λac A' U s H vs Q E hr nD0 h=>?_;obtain⟨L,q,I,rfl,hq,hI,W,qq⟩:=h;refine⟨_,aA (aW (i:=1) nD0 ⋯ ⋯ aM)
  (aA (pD (i8 dF) (mB (aY vA ‹23› ‹23› (bI _)) (jG (cS (iY K (cM R T.ad2 ‹18› bA ‹23› ‹81›))))).pt
   (aA (aX (eW S T.aa0 ‹18› bR (pv 0)))
   (aC (zR (i:=1) nD0 ⋯ ⋯ aM DL))))
  (aC (aP (pv 1)))),?_⟩
 refine⟨λm σ N=>∃o b,m=(b.last-b.first).toNat/\Step L o H N/\QueueW A N o b false/\I b/\σ = [some (.ref L.qu),some (.int (b.first-q.first))],⟨_,L,q,rfl,aG.step (aG.refl H),hq,hI,by rw[Int.sub_self];rfl⟩,?_⟩;rintro m σ N ⟨o,b,rfl,st,g,x,rfl⟩;obtain⟨e1,e3⟩:=W b x;obtain⟨O,B⟩:=g.self;obtain⟨db,hb⟩:=g.book.self;rw[st.qu]at B;refine⟨_,rfl,L.qu,_,O,_,_,rfl,B,T.aa0,T.ai9,rfl,_,rfl,L.qu,_,O,_,_,rfl,B,T.aa0,T.ak0,rfl,_,_,rfl,rfl,_,rfl,?_⟩;show if decide (b.first<b.last)=true then _ else _
 by_cases t:b.first<b.last
 ·rw[if_pos (decide_eq_true t)];refine⟨_,rfl,L.qu,_,O,_,_,rfl,B,T.aa0,T.ae4,rfl,o.bk,db,_,rfl,hb,rfl,_,rfl,L.qu,_,O,_,_,rfl,B,T.aa0,T.ai9,rfl,o.bk,o.de,o.dp,b.B,_,rfl,g.book,e1,λms D pw p H4 X ad g4=>?_⟩;have G:List.Perm (ms.filter λn=>decide (sC b.B.es n=b.first)) (AM b):=D.filter _;have z:=g.same X;refine⟨p,_,rfl,SqL.of g4,?_⟩;cases er:ms.filter (λn=>decide (sC b.B.es n=b.first)) with
  |nil=>
   rw[er]at G;have ef:AM b=[]:=List.Perm.eq_nil G.symm;obtain⟨l1,l2,⟨bs,l3⟩,l4⟩:=e3 t ef;refine aU ⟨λJ Y=>∃u e,(e.last-e.first).toNat<(b.last-b.first).toNat/\Step L u H Y/\QueueW A Y u e false/\I e/\J=[some (.ref L.qu),some (.int (e.first-q.first))],λJ Y ⟨u,e,w1,w2,w3,w4,w5⟩=>⟨_,w1,u,e,rfl,w2,w3,w4,w5⟩,?_⟩;obtain⟨Z,h4⟩:=z.self;rw[st.qu]at h4;refine⟨_,rfl,L.qu,Z,_,rfl,h4,rfl,o,b,false,bs,by rw[st.qu],z,l1,l2,l3,λL5 H5 aa ab=>?_⟩;refine⟨.int (b.first-q.first),rfl,_,_,rfl,rfl,L5,B4 b,by show (b.last-(b.first+1)).toNat<_;omega,st.trans ((aG.step X).trans aa),ab,l4,?_⟩;show [_,some (V.int (b.first-q.first+1))]=[_,some (V.int (b.first+1-q.first))];rw[show b.first-q.first+1=b.first+1-q.first by omega]
  |cons n r=>
   rw[er]at G;refine bD ⟨_,rfl,qq o b H4 (st.trans (aG.step X)) z x (.inr λy=>?_)⟩;rw[y]at G;have:=G.eq_nil;cases this
 ·rw[if_neg (by rw[decide_eq_true_eq];exact t)];exact bD ⟨_,rfl,qq o b N st g x (.inl t)⟩
end
theorem gG{J:It}{s H:Hp}{n:Nat}{Y:Nat->V->Hp->Prop}{g:TG}{t:TS}{D:Ends}{b : St}(S:Src J s n Y)(Pv:Nat->St->Hp->Prop)(y:Pv 0 b H)(o:∀i b e,Pv i b e->aG s e)
  (step:∀(r:Ends) i x b q H2,(∀b H,Pv (i+1) b H->r.nx b H)->r.rt=D.rt->i<n->Pv i b q->aG q H2->Y i x H2->g x b H2 λf z=>t r f z) (fin:∀b e,Pv n b e->D.nx b e) :
  ∃W:Nat->Nat->St->Hp->Prop,(∃m,W 0 m b H)/\∀i m b H,W i m b H->
   (J.stop i H/\D.nx b H)\/(J.go i H/\∃N:St->Hp->Prop,(∀p e,N p e->∃u,u<m/\W (i+1) u p e)/\∀x e,J.yld i H x e->g x b e λf H2=>t {D with nx:=N,ct:=N,bk:=D.nx} f H2):=
 fR S Pv y o (λi x b q H2 G I L O=>step {D with nx:=Pv (i+1),ct:=Pv (i+1),bk:=D.nx} i x b q H2 (λ_ _ h=>h) rfl G I L O) fin
abbrev xL:Stmt:=bN (top 55) 16
theorem MO:bootBuiltins "min" = some (.builtin "min"):=by decide +kernel
def sN(n:Int)(e:Ent):Rw:=("carried",n,(if (9:Int)<e.2.1 then 9 else e.2.1)::e.1)
inductive iT(A:Ad)(vs:Mp)(H:Hp)(Q:VK)(x_3:XK):Prop
 |mk:∀(L:Pl)(q:Qs)(I:Nat->Qs->Prop)(ns:Mf),vs=[.ref L.qu]->QueueW A H L q false->(q.B.es.length<800/\(q.B.es.map (·.1)).Pairwise (· <= ·))->(q.first=q.last->Q .non H)->(q.first≠q.last->(∀ms,List.Perm ms (q.B.es.map (·.1))->ms.Pairwise (· <= ·)->(ms.filter λn=>decide (sC q.B.es n=q.first))=ns)/\I 0 q/\
 (∀i n q',ns[i]? = some n->I i q'->∃e B',bM q'.B.es n=some e/\bQ (cI (sN n e))=true/\WOk q' 1/\dR (aZ q').last (aZ q').B [sN n e]=some B'/\I (i+1) (nM (aZ q') (cH [sN n e]) B'))/\
 ∀q',I ns.length q'->q'.D.left=none/\eZ q'.first/\(∃bs,aR q'.D.fs (bK q'.first)=some bs)/\∀L' H',Step L L' H H'->QueueW A H' L' (B4 q') false->Q (.int (ns.length:Int)) H')->iT A vs H Q x_3
section
variable{P:Program}{w:World}{K:Ma}{mg:Mc}{base:Heap}{A:Ad}
theorem C5(F:Fun K "carry" "Queue.carry" xL f fd)(T:‹3›)(af:‹16› A.book "numbers_in" 1 ["self","segment"] (lA A.book))(ag:‹12›)(ah:‹16› A.queue "drop_first" 5 ["self"] (k8 A))(ai:‹4›):‹14› 8 f fd ["self"] (iT A):=by
 obtain⟨_,aj⟩:=T.ah4;refine F.okY ["self","numbers","number","letter","times"] λa1 A' ak s H vs Q E hr nD0 h=>?_;obtain⟨L,q,I,ns,rfl,Y,he,q1,q2⟩:=h;refine⟨_,aA (bG (aY fP ‹23› ‹23› (bI _))
   ‹76›
   aO)
  (aA (aW (i:=1) nD0 ⋯ ⋯ (cM af T.ad2 ‹18› bA ‹23› ‹81›))
  (aA (eQ (i8 dF) ⋯ (bU K (pv 1)) (bH (i:=2) nD0 ⋯ ⋯)
   (aA (aW (i:=3) nD0 ⋯ ⋯ (cM ag T.ad2 ‹18› bA ‹23› ‹37›))
   (aA (aW (i:=4) nD0 ⋯ ⋯ (bJ (F8 ⋯) ⋯ T.bk8 MO (aN ‹38› (aE (cO (v:=.int 9) ⋯ aj ⟨_,rfl⟩) aF))))
   (aC (aX (cM ai T.aa0 ‹18› bR (pv 0) (fN (cD (bV (bE (aI bP (aE (pv 2) (bT (bC jH (bE ‹60›) ‹38›) aF)))) aF)) aF)))))))
  (aA (aX (eW ah T.aa0 ‹18› bR (pv 0)))
  (aC (aP ‹77›))))),?_⟩
 obtain⟨dx,h1⟩:=Y.self;refine⟨_,rfl,L.qu,_,dx,_,_,rfl,h1,T.aa0,T.ai9,rfl,_,rfl,L.qu,_,dx,_,_,rfl,h1,T.aa0,T.ak0,rfl,rfl,_,rfl,?_⟩;by_cases J:q.first=q.last
 ·rw[decide_eq_true (show V.int q.first=V.int q.last by rw[J])];exact aU (q1 J)
 rw[pW J];refine bD (cQ rfl ?_);obtain⟨Z,i0,X,aa⟩:=q2 J;obtain⟨db,h2⟩:=Y.book.self;refine⟨_,rfl,L.qu,_,dx,_,_,rfl,h1,T.aa0,T.ae4,rfl,L.bk,db,_,rfl,h2,rfl,_,rfl,L.qu,_,dx,_,_,rfl,h1,T.aa0,T.ai9,rfl,L.bk,L.de,L.dp,q.B,_,rfl,Y.book,he,λms W pw p H4 S4 ab g4=>?_⟩;rw[Z ms W pw]at g4;clear Z W pw ms;have np:¬gT L p:=λz=>by
  obtain⟨o,e⟩:=fV Y z;rw[e]at ab;cases ab
 refine⟨_,rfl,p,rfl,⟨_,SqL.of g4⟩,?_⟩;refine gG (bO (K:=K) (H:=upd (λ_=>none) p (.lst (ns.map V.int))) (SqL.of aB)) (λi σ H'=>∃B N z2 z3 z4,Step L B H H'/\QueueW A H' B N false/\I i N/\¬gT B p/\H' p=some (.lst (ns.map V.int))/\σ = [some (.ref L.qu),some (.ref p),z2,z3,z4]) ⟨L,q,_,_,_,aG.step S4,Y.same S4,i0,np,g4,rfl⟩ (λi σ H' hh b o e=>?_) ?_ ?_
 ·obtain⟨_,_,_,_,_,_,_,_,_,g,_⟩:=hh;by_cases y:b=p
  ·subst y;rw[aB]at e;injection e with e
   rw[<- e];exact g
  ·rw[aH y]at e;cases e
 ·rintro D' i x σ H5 H6 al-hi ⟨B,N,z2,z3,z4,st,O,ii,R,gi,rfl⟩ s6 hx;rw[length_map]at hi;have hx:(ns.map V.int)[i]? = some x:=hx;rw[getElem?_map]at hx;obtain⟨n,en⟩:∃n,ns[i]? = some n:=⟨_,getElem?_eq_getElem hi⟩;rw[en]at hx;cases hx;obtain⟨e,B',el,ac,am,an,ao⟩:=X i n N en ii;have m:=O.same s6;have S:=st.trans (aG.step s6);obtain⟨ap,h6⟩:=m.self;rw[st.qu]at h6;obtain⟨aq,ar⟩:=m.book.self;refine⟨_,rfl,L.qu,_,ap,_,_,rfl,h6,T.aa0,T.ae4,rfl,B.bk,aq,_,rfl,ar,rfl,_,rfl,B.bk,B.de,B.dp,N.B,n,e,rfl,m.book,el,λpt H7 S7 d7=>?_⟩;obtain⟨t,b,et,gt,gb⟩:=pO d7;cases et;refine⟨_,rfl,pt,_,_,.int e.2.1,rfl,rfl,SqT.of gt,a8 (by decide) rfl,_,_,rfl,?_⟩;have as:=m.same S7;obtain⟨au,h7⟩:=as.self;rw[st.qu]at h7;have rf:=xT (k:="carried") (n:=n) (body:=(sN n e).2.2) ac;refine⟨_,rfl,L.qu,au,_,rfl,h7,rfl,_,rfl,_,rfl,aJ,λp0 av=>?_⟩;obtain⟨tm,ad⟩:∃tm:Int,tm=if (9:Int)<e.2.1 then 9 else e.2.1:=⟨_,rfl⟩
  rw[<- ad];obtain⟨H8,D,V0,v0⟩:=gUU (o:=.tup [.int tm]) av;rw[D];refine⟨_,rfl,pt,_,_,.ref b,rfl,rfl,SqT.of (V0 _ _ gt),a8 (by decide) rfl,p0,b,_,_,rfl,rfl,v0,V0 _ _ gb,?_,λp9 H9 S9 g9=>⟨aJ,λp1 aw=>⟨aJ,λp2 U=>?_⟩⟩⟩
  ·rw[length_map];have:=rf.2.2.2.2.2;have:1+e.1.length<=61:=by
    have h:(sN n e).2.2.length=e.1.length+1:=rfl;omega
   exact le_trans this (by decide)
  obtain⟨a2,D,V1,v1⟩:=gUU (o:=.tup [.str "carried",.int n,.ref p9]) aw;rw[D]at U⊢;obtain⟨a3,D,V2,v2⟩:=gUU (o:=.lst [.ref p1]) U;rw[D];have u:=S7.trans (V0.trans (S9.trans (V1.trans V2)));refine⟨B,N,p2,[sN n e],B',by rw[st.qu],m.same u,am,λz=>?_,?_,λr ax=>?_,an,λL' a4 G ae=>?_⟩
  ·obtain⟨o,e⟩:=fV (m.same (S7.trans (V0.trans (S9.trans V1)))) z;rw[e]at U;cases U
  ·simp only[Den,map_cons,map_nil,aT];refine⟨p2,_,rfl,v2,_,_,rfl,?_,rfl⟩;unfold cI fQ sN;rw[<- ad];simp only[Den,aT];refine⟨p1,_,rfl,V2 _ _ v1,_,_,rfl,rfl,_,_,rfl,rfl,_,_,rfl,⟨p9,_,rfl,V2 _ _ (V1 _ _ g9),?_⟩,rfl⟩;exact cB.mpr rfl
  ·rw[mem_singleton.mp ax];exact ac
  have ay:¬gT L' p:=G.not (u _ _ (s6 _ _ gi)) R;exact al _ _ ⟨L',_,_,_,_,S.trans ((aG.step u).trans G),ae,ao,ay,G.frm _ _ (u _ _ (s6 _ _ gi)) R,rfl⟩
 rintro σ H5 ⟨B,N,z2,z3,z4,st,O,ii,R,gi,rfl⟩;rw[length_map]at ii;obtain⟨l1,l2,⟨bs,l3⟩,qq⟩:=aa N ii;obtain⟨az,h5⟩:=O.self;rw[st.qu]at h5;refine⟨_,rfl,L.qu,az,_,rfl,h5,rfl,B,N,false,bs,by rw[st.qu],O,l1,l2,l3,λL' H6 S m=>?_⟩;have g6:=S.frm _ _ gi R;refine⟨_,rfl,p,_,rfl,.inl (SqL.of g6),?_⟩;rw[length_map];exact qq L' H6 (st.trans S) m
end
def spF:Sp:=λ_ _ _ _=>False
def yE:Mf:=iD "from" 0 []
abbrev As:Stmt:=bN (top 55) 0
def vU(D:Dk):Prop:=D.fs=[]/\D.left=none
inductive oQ(A:Ad)(vs:Mp)(H:Hp)(Q:VK)(x_3:XK):Prop
 |mk:∀(dk df:Addr)(kvs:Mn)(D:Dk),vs=[.ref dk]->DiskAt A.disk H dk df kvs D->vU D->(∀p H',aG H H'->H p=none->H' p=some (.lst [])->Q (.ref p) H')->oQ A vs H Q x_3
inductive mW(C:Addr)(vs:Mp)(H:Hp)(Q:VK)(x_3:XK):Prop
 |mk:∀(dk df:Addr)(kvs:Mn)(D:Dk),vs=[.ref dk]->DiskAt C H dk df kvs D->D.fs.length<=100000->(∀p ms H',aG H H'->H p=none->List.Perm ms (D.fs.map (·.1))->H' p=some (.lst (ms.map .str))->Q (.ref p) H')->mW C vs H Q x_3
inductive lY(vs:Mp)(H:Hp)(Q:VK)(x_3:XK):Prop
 |mk:∀(a:Addr),vs=[.ref a,.int 0]->H a=some (.tup [])->Q .non H->lY vs H Q x_3
inductive lX(vs:Mp)(H:Hp)(Q:VK)(x_3:XK):Prop
 |mk:∀(a:Addr),vs=[.ref a]->H a=some (.tup [])->(∀p pL H',aG H H'->H' p=some (.tup [.ref pL,.int 0])->H' pL=some (.lst [])->Q (.ref p) H')->lX vs H Q x_3
inductive lV(vs:Mp)(H:Hp)(Q:VK)(x_3:XK):Prop
 |mk:∀(p:Addr),vs=[.ref p]->H p=some (.lst [])->(∀p H',aG H H'->H' p=some (.lst [])->Q (.ref p) H')->lV vs H Q x_3
inductive uG(A:Ad)(vs:Mp)(H:Hp)(Q:VK)(x_3:XK):Prop
 |mk:∀(dk df:Addr)(kvs:Mn)(D:Dk),vs=[.ref dk]->DiskAt A.disk H dk df kvs D->vU D->(∀bk de dp H',aG H H'->H bk=none->H de=none->H dp=none->BookAt A.book H' bk de dp ⟨[],0,[]⟩->Q (.ref bk) H')->uG A vs H Q x_3
inductive uC(A:Ad)(vs:Mp)(H:Hp)(Q:VK)(x_3:XK):Prop
 |mk:∀(dk df:Addr)(kvs:Mn)(D:Dk),vs=[.ref dk]->DiskAt A.disk H dk df kvs D->vU D->(∀kvs' d p H',rF dk df kvs H H'->GE dk df kvs kvs' H->DiskAt A.disk H' dk df kvs' ⟨[(bK 0,yE)],d,none⟩->H' p=some (.lst [.int 0])->¬own dk df kvs' p->Q (.ref p) H')->uC A vs H Q x_3
def nP(m h t d:Int):Qs:=⟨⟨[(bK 0,yE)],d,none⟩,⟨[],0,[]⟩,m,h,t,0,0,0,[]⟩
inductive uB(A:Ad)(vs:Mp)(H:Hp)(Q:VK)(x_3:XK):Prop
 |mk:∀(qu dx dk df:Addr)(kvs:Mn)(D:Dk)(m h t:Int),vs=[.ref qu,.ref dk,.int m,.int h,.int t]->H qu=some (.ins A.queue dx [])->DiskAt A.disk H dk df kvs D->(¬own dk df kvs qu)->uM (.int m) (.int h) (.int t)=true->vU D->(∀L' d H',L'.qu=qu->L'.dk=dk->(∀b o,H b=some o->b≠qu->¬own dk df kvs b->H' b=some o)->(∀b,gT L' b->b=qu\/own dk df kvs b\/H b=none)->QueueW A H' L' (nP m h t d) false->Q .non H')->uB A vs H Q x_3
structure Fs(C qu dx:Addr)(H0 H1:Hp)(fs:Mo):Prop where
 at_:H1 qu=some (.ins C dx fs)
 but:But qu H0 H1
theorem Fs.set(j:Fs C b g p q m)(f:Str)(v:V):∃G,G=upd q b (.ins C g (hU f v m))/\Fs C b g p G (hU f v m):=
 ⟨_,rfl,aB,λc o e n=>by rw[aH n];exact j.but c o e n⟩
theorem Fs.new(j:Fs C g m n f q)(b:f p=none):∃G,G=upd f p o/\Fs C g m n G q/\G p=some o/\aG f G/\p≠g:=
 ⟨_,rfl,⟨aD b _ _ j.at_,λc u e r=>aD b _ _ (j.but c u e r)⟩,aB,aD b,λz=>by rw[z,j.at_]at b;cases b⟩
section
variable{P:Program}{w:World}{K:Ma}{mg:Mc}{base:Heap}{A:Ad}
theorem okF:‹14› k f b e spF:=⟨λ_ _ _ _ h=>h.elim,λ_ _ _ _ _ _ _ _ _ _ _ _ _ h=>h.elim⟩
theorem vB(F:Fun K "segment_of" "segment_of" oZ f b):‹14› 2 f b ["name"] spF:=by
 exact okF
theorem BU(F:Fun K "rows_of" "rows_of" xD f b):‹14› 6 f b ["disk","segment","last"] spF:=by
 exact okF
theorem Jq(F:Fun K "cut" "Disk.cut" KZ f b):‹14› 4 f b ["self","name","size"] spF:=by
 exact okF
theorem zX{f:Addr}{b:Ml}(F:Fun K "row_from" "row_from" uQ f b):‹14› 4 f b ["whole"] spF:=by
 exact okF
theorem BW{aa8 aa1 aa6 f:Addr}{e:Ml}(F:Fun K "row_end" "row_end" xF f e)(T:TxtB K mg aa8 aa1 aa6):‹14› 1 f e ["some","start"] lY:=by
 obtain⟨_,bg3⟩:=T.bi2;refine F.okY ["some","start","end"] λg A b s H n Q E hr nD0 h=>?_;obtain⟨a,rfl,m,q⟩:=h;refine⟨_,aA (bG (aY pF ‹50› ‹28› (bI _))
   ‹76›
   aO)
  (aA (aW (i:=2) nD0 ⋯ ⋯ (bC cT ‹50› (cG (cU K) (pv 0) (bC lK ‹50› aM) (λ_ _=>rfl))))
  (aC (aP (BP (aY kM (pv 2) ‹28› (bI _)) (pv 2) jQ)))),?_⟩
 exact⟨_,rfl,_,_,rfl,rfl,_,rfl,a,_,rfl,.inr (SqT.of m),_,_,rfl,rfl,_,rfl,aU q⟩
theorem BV{aa8 aa1 aa6 f:Addr}{u:Ml}(F:Fun K "rows_in" "rows_in" xE f u)(T:TxtB K mg aa8 aa1 aa6)(g:‹15› "is_bytes" 2 ["thing"] hJ)(b:‹15› "row_end" 1 ["some","start"] lY)(n:‹15› "row_from" 4 ["whole"] spF):‹14› 5 f u ["some"] lX:=by
 refine F.okY ["some","rows","start","end"] λD A o s H L Q E hr nD0 h=>?_;obtain⟨a,rfl,r,q⟩:=h;refine⟨_,aA (bG (cS (dE (bB g ‹18› bA ‹35›)))
   ‹94›
   aO)
  (aA (aW (i:=1) nD0 ⋯ ⋯ (cD aF))
  (aA (aW (i:=2) nD0 ⋯ ⋯ aM)
  (aA (aW (i:=3) nD0 ⋯ ⋯ (bB b ‹18› bA (aE (pv 0) ‹37›)))
  (aA (pD (i8 dF) (aY zU (pv 3) jQ (bI _))
   (aA (aX (i5 K PySem.F.plainAttrs_list PySem.F.slot_list_append PySem.F.type_list_append iK (pv 1) (cW (bB n ‹18› bR (aN (mG (Do K) (pv 0) (m6 (pv 2)) (m6 (pv 3))) aF)) aF)))
   (aA (aW (i:=2) nD0 ⋯ ⋯ (pv 3))
   (aC (aW (i:=3) nD0 ⋯ ⋯ (bB b ‹18› bA (aE (pv 0) ‹37›)))))))
  (aC (aP (bE (aE (pv 1) (bT (bC lK ‹28› (pv 2)) aF))))))))),?_⟩
 refine⟨_,rfl,.ref a,.tuple [],rfl,(by simp only[Den];exact⟨a,_,rfl,r,by simp only[aT]⟩),(λ_ e=>by cases e;decide),λN G=>⟨_,rfl,bD ?_⟩⟩;refine⟨aJ,new_o λx H2 I J=>?_⟩;have t:=G.trans I;refine⟨_,rfl,_,rfl,a,rfl,t _ _ r,?_⟩;refine⟨λm y z=>z=H2/\y = [some (.ref a),some (.ref x),some (.int 0),some .non],⟨0,rfl,rfl⟩,?_⟩;rintro m y z ⟨rfl,rfl⟩;refine⟨_,rfl,rfl,_,rfl,bD ?_⟩;refine⟨_,rfl,_,rfl,a,_,rfl,.inr (SqT.of (t _ _ r)),_,rfl,_,_,rfl,rfl,aJ,λp B=>?_⟩;exact q p x _ (t.trans (aD B)) aB (aD B _ _ J)
theorem FM(F:Fun K "names" "Disk.names" Dt f o)(T:‹1›):‹14› 1 f o ["self"] (mW aa7):=by
 refine F.okY ["self"] λr G e s H I Q E hr nD0 h=>?_;obtain⟨t,u,g,D,rfl,m,x,q⟩:=h;refine⟨_,aC (aP (bJ (AV ⋯) ⋯ T.af7 iN ‹81›)),?_⟩;obtain⟨y,z⟩:=m.self;exact⟨_,rfl,t,_,y,_,_,rfl,z,T.cl,T.af9,rfl,u,g,D.fs.map (·.1),rfl,m.files,(by rw[m.rel.keys,map_map];first |done |rfl),by rw[length_map];exact x,λp B b n=>q p B _ (aD n) n b aB⟩
theorem sF(F:Fun K "segments_on" "segments_on" nN f O)(T:‹3›)(g:‹15› "segment_of" 2 ["name"] spF)(m:‹16› A.disk "names" 1 ["self"] (mW A.disk)):‹14› 3 f O ["disk"] (oQ A):=by
 refine F.okY ["disk","segments"] λR A' n s H vs Q E hr nD0 h=>?_;obtain⟨t,S,r,D,rfl,u,z,q⟩:=h;refine⟨_,aA (aW (i:=1) nD0 ⋯ ⋯ (bJ wN ⋯ T.af7 iN (dX (cV ["name"] [] ⋯ (bU K (eW m T.ac6 ‹18› bA (pv 0))) (λC s2 H2 ex=>(bH (i:=0) (show List.Nodup (["name"]:Mg) by decide +kernel) ⋯ (Or.inl ⋯))) ‹41› (λC s2 H2 ex=>(bB g ‹18› bA ‹35›))) aF)))
  (aA (bG (mB (iY K (pv 1)) (jG (aY BR (bC cT (bC lK ‹57› (cG (cF K) (pv 1) aM (λ_ _=>rfl))) aM) ‹77› (bI _)))).pt
   ‹85›
   aO)
  (aC (aP (pv 1)))),?_⟩
 obtain⟨U,W⟩:=u.self;refine⟨_,rfl,t,U,_,rfl,W,rfl,t,S,r,D,rfl,u,(by rw[z.1];exact zero_le _),λX B H1 G Y I J=>?_⟩;rw[z.1]at I;cases I.eq_nil;refine⟨X,rfl,⟨_,SqL.of J⟩,?_⟩;refine c8 (bO (K:=K) (SqL.of J)) (zero_le _) (λi y _=>False) (λ_ _ _ _ _ h=>h) (λσ=>True) trivial (λi x Z H3 hi=>absurd hi (Nat.not_lt_zero _)) ?_;intro D2 ys H2 aa L gD e hR;have ey:ys=[]:=List.length_eq_zero_iff.mp e;subst ey;refine⟨D2,[],rfl,gD,by decide,λp B b ab N=>?_⟩;have em:B=[]:=b.eq_nil;subst em;have S3:=aD (o:=.lst ([].map V.int)) N;refine⟨_,rfl,p,_,rfl,SqL.of aB,?_⟩;exact bD ⟨_,rfl,q p _ (G.trans (L.trans S3)) ((G.trans L).free N) aB⟩
theorem BS(F:Fun K "without_last_parts" "without_last_parts" xB f r)(T:‹3›):‹14› 1 f r ["rows"] lV:=by
 refine F.okY ["rows","many"] λt u b s H x Q E hr nD0 h=>?_;obtain⟨a,rfl,g,q⟩:=h;refine⟨_,aA (aW (i:=1) nD0 ⋯ ⋯ ‹28›)
  (aA (pD (i8 dF) (mB (aY pF (pv 1) aM (bI _)) (jG (aY fP (cG (cU K) (cG (cF K) (pv 0) (bC lK (pv 1) aM) (λ_ _=>rfl)) aM (λ_ _=>rfl)) bP (bI _)))).pt
   (aC (zR (i:=1) nD0 ⋯ ⋯ aM L7)))
  (aC (aP (mG (uJ K) (pv 0) sW (m6 (pv 1)))))),?_⟩
 refine⟨_,rfl,a,_,rfl,.inl (SqL.of g),?_⟩;refine⟨λm n o=>o=H/\n = [some (.ref a),some (.int 0)],⟨0,rfl,rfl⟩,?_⟩;rintro m n o ⟨rfl,rfl⟩;refine⟨_,rfl,_,_,rfl,rfl,_,rfl,?_⟩;refine bD (bD ⟨_,rfl,_,rfl,_,rfl,a,_,rfl,SqL.of g,λp e=>?_⟩);exact q p _ (aD e) aB
theorem Hg(F:Fun K "book_of" "book_of" xP f fd)(T:‹3›)(J:‹15› "segments_on" 3 ["disk"] (oQ A))(L:‹15› "rows_of" 6 ["disk","segment","last"] spF)(N:‹17› "Book" A.book 1 ["self"] (zJ A.book))(O:‹16› A.book "enter" 3 ["self","row","segment"] (oV A.book A.broken)):‹14› 7 f fd ["disk"] (uG A):=by
 refine F.okY ["disk","segments","book","segment","row"] λaa A' R s H vs Q E hr nD0 h=>?_;obtain⟨Z,df,S,D,rfl,hD,ok,q⟩:=h;refine⟨_,aA (aW (i:=1) nD0 ⋯ ⋯ (bB J ‹18› bR ‹35›))
  (aA (aW (i:=2) nD0 ⋯ ⋯ (LY N ‹18› bR))
  (aA (eQ (i8 dF) ⋯ (bU K (pv 1)) ‹53›
   (aC (eQ (i8 dF) ⋯ (bU K (bB L ‹18› bR (aE (pv 0) (aE (pv 3) (aN ‹57› aF))))) ‹74›
    (aC (aX (cM O T.ad2 ‹18› bR (pv 2) (aE (pv 4) ‹51›)))))))
  (aC (aP (pv 2))))),?_⟩
 refine⟨_,rfl,Z,df,S,D,rfl,hD,ok,λp r B hp g1=>?_⟩;refine λg t m u ab=>⟨g,t,rfl,aB,λde dp H2 f2 U V W=>⟨rfl,?_⟩⟩;have n:aG r H2:=λb o e=>by
  have G:b≠g:=λz=>by rw[z,m]at e;cases e
  have X:b≠t:=λz=>by rw[z,u]at e;cases e
  exact f2 b o (by rw[aH G,aH X];exact e) G
 have fr:∀c,upd (upd r t (.own g)) g (.ins A.book t []) c=none->r c=none:=λc e=>by
  cases y:r c with
  |none=>rfl
  |some o=>
   have G:c≠g:=λz=>by rw[z,m]at y;cases y
   have X:c≠t:=λz=>by rw[z,u]at y;cases y
   rw[aH G,aH X,y]at e;cases e
 refine⟨_,rfl,p,rfl,⟨_,SqL.of (n _ _ g1)⟩,?_⟩;refine fR (bO (K:=K) (SqL.of g1)) (λi I Y=>Y=H2/\I = [some (.ref Z),some (.ref p),some (.ref g),none,none]) ⟨rfl,rfl⟩ (λi I Y h=>by rw[h.1];exact n) (λi x I r H2 hi=>absurd hi (Nat.not_lt_zero _)) ?_;rintro I Y ⟨rfl,rfl⟩;exact⟨_,rfl,q g de dp _ (B.trans n) (B.free m) (B.free (fr _ U)) (B.free (fr _ V)) W⟩
theorem HZ(F:Fun K "make_good" "make_good" rL f fd)(T:‹3›)(ab3:‹9›)(aa:‹15› "segments_on" 3 ["disk"] (oQ A))(ab:‹15› "rows_in" 5 ["some"] lX)(ac:‹15› "without_last_parts" 1 ["rows"] lV)(N:‹15› "row_bytes" 4 ["row"] (fK A.badRow))
  (ad:‹16› A.disk "read" 4 ["self","name"] (oR A.disk A.badName A.missing)) (ae:‹16› A.disk "size" 4 ["self","name"] (oP A.disk A.badName A.missing)) (af:‹16› A.disk "make" 3 ["self","name"] (oU A.disk A.badName A.there A.stopped)) (ag:‹16› A.disk "drop" 4 ["self","name"] (oW A.disk A.badName A.missing A.stopped)) (ah:‹16› A.disk "cut" 4 ["self","name","size"] spF) (ai:‹6›):‹14› 6 f fd ["disk"] (uC A):=by
 refine F.okY ["disk","segments","name","rows","size"] λa2 A' aj s H vs Q E hr nD0 h=>?_;obtain⟨I,df,ak,⟨fs,Z,left⟩,rfl,hD,⟨rfl,rfl⟩,q⟩:=h;refine⟨_,aA (aW (i:=1) nD0 ⋯ ⋯ (bB aa ‹18› bR ‹35›))
  (aA (bG (cS (iY K (pv 1)))
   (aA (aX (cM af T.ac6 ‹18› bR (pv 0) (cW (bB ab3 ‹18› bA ‹43›) aF)))
   (aC (aW (i:=1) nD0 ⋯ ⋯ (cD ‹43›))))
   aO)
  (aA (aW (i:=2) nD0 ⋯ ⋯ (bB ab3 ‹18› bA (aN ‹57› aF)))
  (aA (aW (i:=3) nD0 ⋯ ⋯ (bB ac ‹18› bA (aN (cG (cU K) (bB ab ‹18› bR (cW (cM ad T.ac6 ‹18› bR (pv 0) ‹37›) aF)) aM (λ_ _=>rfl)) aF)))
  (aA (bG (mB (cS (iY K (pv 3))) (jG (aY pF ‹77› aM (bI _)))).pt
   (aA (aX (cM ag T.ac6 ‹18› bR (pv 0) ‹37›))
   (aC (aP (mG (uJ K) (pv 1) sW (m6 (u5 nW aM))))))
   aO)
  (aA (aW (i:=4) nD0 ⋯ ⋯ (bJ (nK K) ⋯ T.ax5 AY (dX (cV ["row"] [] ⋯ (bU K (pv 3)) (λC s2 H2 ex=>(bH (i:=0) (show List.Nodup (["row"]:Mg) by decide +kernel) ⋯ (Or.inl ⋯))) ‹41› (λC s2 H2 ex=>(bJ (dI K) ⋯ T.ae0 gM (cW (bB N ‹18› bA ‹35›) aF)))) aF)))
  (aA (bG (aY vA (pv 4) (cM ae T.ac6 ‹18› bR (pv 0) ‹37›) (bI _))
   (aC (aX (cM ah T.ac6 ‹18› bR (pv 0) (aE (pv 2) ‹60›))))
   aO)
  (aA (bG (cS (iY K (pv 3)))
   (aC (aX (cM ai T.ac6 ‹18› bR (pv 0) (aE (pv 2) (cW (bB N ‹18› bR (bV (bE (aI bP (aI aM ‹47›))) aF)) aF)))))
   aO)
  (aC (aP (pv 1)))))))))),?_⟩
 refine⟨_,rfl,I,df,ak,_,rfl,hD,⟨rfl,rfl⟩,λp H1 S1 hp g1=>?_⟩;have O:=hD.same S1;obtain⟨al,am⟩:=O.self;have g:eZ 0:=⟨by decide,by decide⟩;refine⟨_,rfl,p,_,rfl,SqL.of g1,aU ?_⟩;refine⟨_,rfl,I,al,_,rfl,am,rfl,0,rfl,g,gR (Ai O rfl g (le_of_ble_eq_true rfl) rfl λm H2 f2 w2 R=>?_)⟩;refine⟨aJ,new_h λp2 S H3 S2 g2=>?_⟩;have J:=R.same S2;have U:¬own I df m p2:=λz=>by
  obtain⟨o,e⟩:=oB R z;rw[e]at S;cases S
 have l0:aR (mkN ⟨[],Z,none⟩ (bK 0)).fs (bK 0)=some []:=by
  show aR [(bK 0,[])] (bK 0)=some [];simp [aR]
 obtain⟨an,ao⟩:=J.self
 try dsimp only
 refine⟨_,rfl,1,rfl,p2,_,_,.int 0,rfl,rfl,SqL.of g2,rfl,0,rfl,g,?_⟩;refine⟨_,rfl,I,an,_,rfl,ao,rfl,_,rfl,gR (GI J g l0 λp4 H4 S4 g4=>?_)⟩;refine gR ⟨p4,rfl,g4,λp5 pL H5 S5 g5 gx=>?_⟩;refine⟨p5,_,_,.ref pL,rfl,rfl,SqT.of g5,a8 (by decide) rfl,pL,rfl,gx,λp6 H6 S6 g6=>?_⟩;have ap:=J.same (S4.trans (S5.trans S6))
 try dsimp only
 refine⟨_,rfl,p6,_,rfl,SqL.of g6,aU ⟨_,rfl,p2,_,rfl,.inl (SqL.of (S6 _ _ (S5 _ _ (S4 _ _ g2)))),_,_,rfl,rfl,_,rfl,bD (cQ rfl ?_)⟩⟩;refine⟨_,rfl,p6,rfl,⟨_,SqL.of g6⟩,?_⟩;refine c8 (bO (K:=K) (SqL.of g6)) (zero_le _) (λi y _=>False) (λ_ _ _ _ _ h=>h) (λσ=>True) trivial (λi x a3 H3 hi=>absurd hi (Nat.not_lt_zero _)) ?_;intro D7 ys H7 _ S7 g7 V _;have ey:ys=[]:=List.length_eq_zero_iff.mp V;subst ey;have t:=ap.same S7;obtain⟨aq,ar⟩:=t.self;refine⟨D7,[],rfl,.inl (SqL.of g7),?_⟩;refine⟨_,rfl,_,rfl,I,aq,_,rfl,ar,rfl,_,rfl,gR (Ah t g l0 λH8 S8=>?_)⟩;refine⟨_,_,rfl,rfl,_,rfl,bD (cQ rfl ?_)⟩;have as:=t.same S8;obtain⟨au,av⟩:=as.self;refine⟨_,rfl,p6,_,rfl,SqL.of (S8 _ _ (S7 _ _ g6)),aU ?_⟩;refine⟨_,rfl,I,au,_,rfl,av,rfl,_,rfl,aJ,λp9 aw=>⟨aJ,λax u=>?_⟩⟩;obtain⟨H9,L,V9,v9⟩:=gUU (o:=.tup []) aw;rw[L]at u⊢;obtain⟨a4,L,W,ay⟩:=gUU (o:=.tup [.str "from",.int 0,.ref p9]) u;rw[L];have fo:bQ (cI ("from",0,[]))=true:=Ea (by decide) (by decide);refine gR (CS (r:=("from",0,[])) (by
  unfold cI fQ;simp only[Den,aT,map_nil];exact⟨ax,_,rfl,ay,_,_,rfl,rfl,_,_,rfl,rfl,_,_,rfl,⟨p9,[],rfl,W _ _ v9,rfl⟩,rfl⟩) fo λa5 a6 az a0=>?_)
 have B:=S8.trans (V9.trans (W.trans az));have X:=t.same B;have b4:=lH (r:=("from",0,[])) fo;refine gR (zB X rfl g l0 (λn bs e=>?_) a0 b4 (by rw[eE];decide) λa1 Y D=>?_)
 ·have e:aR [(bK 0,[])] n=some bs:=e;unfold aR at e;rw[find?_cons]at e;split at e
  ·cases e;decide
  ·cases e
 have G:=S4.trans (S5.trans (S6.trans (S7.trans B)));refine⟨_,rfl,q m (Z+1+(((iD "from" 0 []).length:Nat):Int)) p2 a1 (λb o e nb=>?_) (λb hb=>?_) ?_ ?_ U⟩
 ·have n2:¬own I df m b:=λz=>(w2 b z).elim nb (λy=>by rw[S1 _ _ e]at y;cases y);exact Y b o (G _ _ (S2 _ _ (f2 b o (S1 _ _ e) nb))) n2
 ·rcases w2 b hb with y |y
  ·exact .inl y
  ·exact .inr (S1.free y)
 ·have e1:(uN (mkN ⟨[],Z,none⟩ (bK 0)) (bK 0) ([]++iD "from" 0 []) (iD "from" 0 []).length)=⟨[(bK 0,yE)],Z+1+(((iD "from" 0 []).length:Nat):Int),none⟩:=by
   unfold uN mkN fE;show (⟨[((if bK 0=bK 0 then (bK 0,[]++iD "from" 0 []) else (bK 0,[])):Str×Mf)],_,none⟩:Dk)=_;rw[if_pos rfl];rfl
  rw[e1]at D;exact D
 ·exact Y _ _ (G _ _ g2) U
theorem C1(F:Fun K "__init__" "Queue.__init__" As f fd)(T:‹3›)(an:‹15› "check_settings" 2 ["most","hold","tries"] (fZ A))(ao:‹15› "book_of" 7 ["disk"] (uG A))(ap:‹15› "make_good" 6 ["disk"] (uC A)):‹14› 8 f fd ["self","disk","most","hold","tries"] (uB A):=by
 refine F.okY ["self","disk","most","hold","tries","segments"] λbg A' aq s H vs Q E hr nD0 h=>?_;obtain⟨g,u,I,J,q,D,m,h,t,rfl,h0,hD,Y,ab,he,qq⟩:=h;refine⟨_,aA (aX (bB an ‹18› bR (aE (pv 2) (aE (pv 3) ‹60›))))
  (aA (dS (pv 0) (pv 1) ⋯)
  (aA (dS (pv 0) (pv 2) ⋯)
  (aA (dS (pv 0) (pv 3) ⋯)
  (aA (dS (pv 0) (pv 4) ⋯)
  (aA (dS (pv 0) (bB ao ‹18› bR ‹29›) ⋯)
  (aA (aW (i:=5) nD0 ⋯ ⋯ (bB ap ‹18› bR ‹29›))
  (aA (dS (pv 0) (cG (cF K) (pv 5) aM (λ_ _=>rfl)) ⋯)
  (aA (dS (pv 0) (cG (cF K) (pv 5) (u5 nW aM) (λ_ _=>rfl)) ⋯)
  (aA (dS (pv 0) kI ⋯)
  (aA (dS (pv 0) i4 ⋯)
  (aC (dS (pv 0) aM ⋯)))))))))))),?_⟩
 have ac:∀{H':Hp},But g H H'->DiskAt A.disk H' I J q D:=λb=>hD.keep λc o e r=>b c o e (λz=>by rw[z]at r;exact Y r);have j0:Fs A.queue g u H H []:=⟨h0,But.refl⟩;refine⟨_,rfl,_,rfl,_,rfl,.int m,.int h,.int t,.int m,.int h,.int t,rfl,by simp only[Den],by simp only[Den],by simp only[Den],λ_=>?_,(λz=>by rw[ab]at z;cases z)⟩;refine⟨_,rfl,_,rfl,g,_,u,_,rfl,j0.at_,T.aa0,T.ap9,(le_of_ble_eq_true rfl),?_⟩;obtain⟨H1,e1,j1⟩:=j0.set "disk" (.ref I);rw[<- e1];refine⟨_,rfl,_,rfl,g,_,u,_,rfl,j1.at_,T.aa0,T.bj7,(le_of_ble_eq_true rfl),?_⟩;obtain⟨H2,e2,j2⟩:=j1.set "most" (.int m);rw[<- e2];refine⟨_,rfl,_,rfl,g,_,u,_,rfl,j2.at_,T.aa0,T.bj8,(le_of_ble_eq_true rfl),?_⟩;obtain⟨H3,e3,j3⟩:=j2.set "hold" (.int h);rw[<- e3]
 try dsimp only
 refine⟨_,rfl,_,rfl,g,_,u,_,rfl,j3.at_,T.aa0,T.bc8,(le_of_ble_eq_true rfl),?_⟩;obtain⟨H4,e4,j4⟩:=j3.set "tries" (.int t);rw[<- e4];refine⟨_,rfl,I,J,q,D,rfl,ac j4.but,he,λbk de dp H5 S5 ar as au av=>?_⟩;have n4:∀{c:Addr},H4 c=none->c≠g/\H c=none:=λ{c} z=>by
  refine⟨(λy=>by rw[y,j4.at_]at z;cases z),?_⟩;cases e:H c with
  |none=>rfl
  |some o=>
   by_cases y:c=g
   ·rw[y,j4.at_]at z;cases z
   ·rw[j4.but c o e y]at z;cases z
 obtain⟨aw,ax⟩:=n4 ar;obtain⟨ay,az⟩:=n4 as;obtain⟨a0,a1⟩:=n4 au;have j5:Fs A.queue g u H H5 _:=⟨S5 _ _ j4.at_,λc o e nc=>S5 _ _ (j4.but c o e nc)⟩;refine⟨_,rfl,g,_,u,_,rfl,j5.at_,T.aa0,T.ae4,(le_of_ble_eq_true rfl),?_⟩;obtain⟨H6,e6,j6⟩:=j5.set "book" (.ref bk);rw[<- e6];have k6:∀c o,H5 c=some o->c≠g->H6 c=some o:=λc o e n=>by rw[e6,aH n];exact e
 have t6:fX H5 H6:=by rw[e6];exact kW j5.at_ (λxs z=>by cases z)
 have G:∀{c:Addr},c=bk\/c=de\/c=dp->c≠g/\H c=none:=λr=>by
  rcases r with y |y |y
  ·rw[y];exact⟨aw,ax⟩
  ·rw[y];exact⟨ay,az⟩
  ·rw[y];exact⟨a0,a1⟩
 have O:BookAt A.book H6 bk de dp ⟨[],0,[]⟩:=av.keep (λc o e r=>k6 c o e (G r).1) t6;have ad:=ac j6.but
 try dsimp only
 refine⟨_,rfl,I,J,q,D,rfl,ad,he,λB d p V f7 w7 ae gp np=>?_⟩;have W:∀{c:Addr},H c=none->¬own I J q c:=λz y=>by
  obtain⟨o,e⟩:=oB hD y;rw[z]at e;cases e
 have af:∀{c:Addr}{o:HO},H6 c=some o->¬own I J q c->¬own I J B c:=λe nc z=>(w7 _ z).elim nc (λy=>by rw[y]at e;cases e);have h7:=f7 _ _ j6.at_ Y;have b7:∀b o,H b=some o->b≠g->¬own I J q b->V b=some o:=λb o e nb no=>f7 b o (j6.but b o e nb) no;have R:BookAt A.book V bk de dp ⟨[],0,[]⟩:=O.keep (λc o e r=>f7 c o e (W (G r).2)) (f7.tup ad);have X:¬own I J B g:=af j6.at_ Y;have a2:p≠g:=λz=>by rw[z,h7]at gp;cases gp
 have j7:Fs A.queue g u V V _:=⟨h7,But.refl⟩;refine⟨_,rfl,p,_,_,.int 0,rfl,rfl,SqL.of gp,a8 (by decide) rfl,_,rfl,g,_,u,_,rfl,j7.at_,T.aa0,T.ai9,(le_of_ble_eq_true rfl),?_⟩;obtain⟨H8,e8,j8⟩:=j7.set "first" (.int 0);rw[<- e8];refine⟨_,rfl,1,rfl,p,_,_,.int 0,rfl,rfl,SqL.of (j8.but _ _ gp a2),rfl,_,rfl,g,_,u,_,rfl,j8.at_,T.aa0,T.ak0,(le_of_ble_eq_true rfl),?_⟩;obtain⟨H9,e9,j9⟩:=j8.set "last" (.int 0);rw[<- e9];refine⟨_,rfl,g,_,u,_,rfl,j9.at_,T.aa0,T.an9,(le_of_ble_eq_true rfl),?_⟩;obtain⟨bh,a3,ag⟩:=j9.set "writing" (.bl false);rw[<- a3];refine λS Z=>?_;obtain⟨bi,a4,ah,gh,bj,L⟩:=ag.new (o:=.dK []) Z;rw[<- a4];have U:V S=none:=by
  cases e:V S with
  |none=>rfl
  |some o=>rw[ag.but _ _ e L]at Z;cases Z
 refine⟨_,rfl,g,_,u,_,rfl,ah.at_,T.aa0,T.ac5,(le_of_ble_eq_true rfl),?_⟩;obtain⟨bm,ai,aj⟩:=ah.set "holders" (.ref S);rw[<- ai];refine⟨_,rfl,g,_,u,_,rfl,aj.at_,T.aa0,T.bg1,(le_of_ble_eq_true rfl),?_⟩;obtain⟨aa,ak,N⟩:=aj.set "now" (.int 0);rw[<- ak];have al:aa S=some (.dK []):=by rw[ak,aH L,ai,aH L];exact gh
 have a5:fX V aa:=λb xs e=>N.but b _ e (λz=>by rw[z,h7]at e;cases e);obtain⟨db,a6⟩:=R.self;obtain⟨kb,ba,_⟩:=R.ent;obtain⟨pb,bb,_⟩:=R.par;obtain⟨dc,bc⟩:=O.self;obtain⟨kc,bd,_⟩:=O.ent;obtain⟨pc,be,_⟩:=O.par;have am:∀{c:Addr},c=bk\/c=de\/c=dp->(∃o,V c=some o)/\∃o,H6 c=some o:=λr=>by
  rcases r with y |y |y
  ·rw[y];exact⟨⟨_,a6⟩,_,bc⟩
  ·rw[y];exact⟨⟨_,ba⟩,_,bd⟩
  ·rw[y];exact⟨⟨_,bb⟩,_,be⟩
 have bf:¬own I J B S:=λz=>by
  obtain⟨o,e⟩:=oB ae z;rw[U]at e;cases e
 refine qq ⟨g,I,J,bk,de,dp,S,B⟩ d aa rfl rfl (λb o e nb no=>N.but b o (b7 b o e nb no) nb) (λb hb=>?_) ⟨⟨u,N.at_⟩,ae.keep (λc o e r=>N.but c o e (λz=>by rw[z]at r;exact X r)),R.keep (λc o e r=>N.but c o e (G r).1) a5,⟨[],al,trivial⟩,λb hb=>?_,⟨λz=>(G z).1 rfl,X⟩,⟨L,λz=>?_,bf⟩⟩
 ·rcases hb with z |z |z |z
  ·exact .inl z
  ·have z:b=S:=z;rw[z];by_cases y:own I J q S
   ·exact .inr (.inl y)
   ·refine .inr (.inr ?_);cases e:H S with
    |none=>rfl
    |some o=>rw[b7 _ _ e L y]at U;cases U
  ·exact .inr (.inr (G z).2)
  ·rcases w7 b z with y |y
   ·exact .inr (.inl y)
   ·by_cases x:b=g
    ·exact .inl x
    ·refine .inr (.inr ?_);cases e:H b with
     |none=>rfl
     |some o=>rw[j6.but b o e x]at y;cases y
 ·obtain⟨_,o,e⟩:=am hb;exact af e (W (G hb).2)
 ·obtain⟨⟨o,e⟩,_⟩:=am z;rw[U]at e;cases e
end
abbrev Aq:Stmt:=bN (top 55) 6
def gU(x:Str):Prop:=cX iA 6 (.str x)=true/\(x.length<=1000/\gO x=true)/\x ≠ "zz"
inductive rB(q:Qs)(dh:PyData)(dn:PyData):Prop
 |mk:∀x n tm,dh = .str x->dn = .int n->0<=n->n<=999999->bY q.hs n=some (x,tm)->rB q dh dn
inductive jE(A:Ad)(vs:Mp)(H:Hp)(Q:VK)(E:XK):Prop
 |mk:∀(L:Pl)(q:Qs)(vh vn:V)(dh dn:PyData),vs=[.ref L.qu,vh,vn]->QueueW A H L q false->Den H dh vh->Den H dn vn->(∀x,dh = .str x->x.length<=1000/\gO x=true)->(cX iA 6 dh=true->rB q dh dn->∀H',aG H H'->Q .non H')->(cX iA 6 dh=true->¬rB q dh dn->∀H',aG H H'->E (.ref A.notHeld) none H')->(cX iA 6 dh=false->∀H',aG H H'->E (.ref A.badHand) none H')->jE A vs H Q E
inductive iS(A:Ad)(vs:Mp)(H:Hp)(Q:VK)(E:XK):Prop
 |mk:∀(L:Pl)(q:Qs)(vh vn:V)(dh dn:PyData),vs=[.ref L.qu,vh,vn]->QueueW A H L q false->Den H dh vh->Den H dn vn->(∀x,dh = .str x->x.length<=1000/\gO x=true)->(∀x n tm,dh = .str x->dn = .int n->0<=n->n<=999999->bY q.hs n=some (x,tm)->WOk q 1/\∃B',dR (aZ q).last (aZ q).B [("done",n,[])]=some B'/\∀L' H',Step L L' H H'->QueueW A H' L' (Kq q n B') false->Q .non H')->(cX iA 6 dh=true->¬rB q dh dn->∀H',aG H H'->E (.ref A.notHeld) none H')->(cX iA 6 dh=false->∀H',aG H H'->E (.ref A.badHand) none H')->iS A vs H Q E
inductive iU(A:Ad)(vs:Mp)(H:Hp)(Q:VK)(E:XK):Prop
 |mk:∀(L:Pl)(q:Qs)(vh vn:V)(dh dn:PyData),vs=[.ref L.qu,vh,vn]->QueueW A H L q false->Den H dh vh->Den H dn vn->(∀x,dh = .str x->x.length<=1000/\gO x=true)->(∀x n tm,dh = .str x->dn = .int n->bY q.hs n=some (x,tm)->∀H',Step L L H H'->QueueW A H' L (backQ q n) false->Q .non H')->(cX iA 6 dh=true->¬rB q dh dn->∀H',aG H H'->E (.ref A.notHeld) none H')->(cX iA 6 dh=false->∀H',aG H H'->E (.ref A.badHand) none H')->iU A vs H Q E
theorem Ju{a b:Int}{d:PyData}(h:bL a b d=true):∃n,d = .int n/\a<=n/\n<=b:=by
 cases d <;> first |cases h |skip
 simp only[bL,and_eq_true,decide_eq_true_eq]at h;exact⟨_,rfl,h⟩
def rY(b:Mt)(e:Mf):Mj:=e.map λn=>.tuple [.int n,.str ((bY b n).getD ("",0)).1]
inductive nZ(A:Ad)(vs:Mp)(H:Hp)(Q:VK)(x_3:XK):Prop
 |mk:∀(L:Pl)(q:Qs),vs=[.ref L.qu]->QueueW A H L q false->q.hs.length<64->(∀ms,List.Perm ms (q.hs.map (·.1))->ms.Pairwise (· <= ·)->∀p H',aG H H'->H p=none->Den H' (.list (rY q.hs ms)) (.ref p)->Q (.ref p) H')->nZ A vs H Q x_3
def pQ(q:Qs)(m n:Int):Bool:=decide (q.now+m-((bY q.hs n).getD ("",0)).2 > q.hold)
def KM(q:Qs)(m:Int)(l:Mf):Qs:={q with now:=q.now+m,hs:=q.hs.filter λp=>decide (p.1∉l)}
inductive mU(A:Ad)(vs:Mp)(H:Hp)(Q:VK)(E:XK):Prop
 |mk:∀(L:Pl)(q:Qs)(m:Int),vs=[.ref L.qu,.int m]->QueueW A H L q false->(bL 1 99 (.int m)=false->E (.ref A.badNumber) none H)->(bL 1 99 (.int m)=true->q.hs.length<64/\(q.hs.map (·.1)).Nodup/\(∀p∈q.hs,∃e,bM q.B.es p.1=some e)/\
 ∀ms,List.Perm ms (q.hs.map (·.1))->ms.Pairwise (· <= ·)->∀p H',Step L L H H'->QueueW A H' L (KM q m (ms.filter (pQ q m))) false->H p=none->Den H' (.list ((ms.filter (pQ q m)).map (mL q.B.es))) (.ref p)->Q (.ref p) H')->mU A vs H Q E
theorem HoR.keys:∀{b:Mt}{e:Mn},HoR H b e->e.map (·.1)=(b.map (·.1)).map Sum.inl
 |[],[],_=>rfl
 |_::_,_::_,⟨f,_,g⟩=>by rw[map_cons,map_cons,map_cons,HoR.keys g,f]
 |[],_::_,h=>h.elim
 |_::_,[],h=>h.elim
theorem mK(h:n∈b.map (·.1)):∃x f,bY b n=some (x,f):=by
 unfold bY;cases y:b.find? λp=>decide (p.1=n) with
 |none=>
  rw[find?_eq_none]at y;obtain⟨p,g,e⟩:=mem_map.mp h;exact absurd (decide_eq_true e) (y p g)
 |some p=>exact⟨p.2.1,p.2.2,rfl⟩
section
variable{P:Program}{w:World}{K:Ma}{mg:Mc}{base:Heap}{A:Ad}
theorem BZ(F:Fun K "check_held" "Queue.check_held" xK f Y)(T:‹3›)(D:‹2›)(G:‹15› "check_hand" 2 ["hand"] (gY A)):‹14› 3 f Y ["self","hand","number"] (jE A):=by
 obtain⟨_,ac8⟩:=T.ad3;refine F.okY ["self","hand","number"] λZ A' I s H vs Q E hr nD0 h=>?_;obtain⟨L,q,vh,vn,dh,O,rfl,hq,b,g,hz,qq,J,qb⟩:=h;refine⟨_,aA (aX (bB G ‹18› bR ‹29›))
  (aA (bG (l9 (cS (dE (bB D ‹18› bA (aE (pv 2) ‹45›)))) (iX (n8 (nA (hu1 hr.units) (pv 2) ‹23›)))).pt
   (aC (dW eX ⋯ T.aj9 ⋯ T.an8 ‹25›))
   aO)
  (aC (bG (aY BR (cG (cU K) (dO (hu1 hr.units) ‹23› (pv 2) (λ_ _=>rfl)) aM (λ_ _=>rfl)) (pv 1) (bI _))
   (aC (dW eX ⋯ T.aj9 ⋯ T.an8 ‹25›))
   aO))),?_⟩
 refine⟨_,rfl,vh,dh,rfl,b,hz,λhw B p=>?_,qb⟩;have r:=hq.same p;obtain⟨R,S⟩:=r.self;obtain⟨hk,g1,U⟩:=r.held;refine⟨_,rfl,vn,O,0,999999,rfl,g.same p,_,rfl,?_⟩;cases m:bL 0 999999 O with
 |false=>
  exact aU ⟨aJ,J hw (λ⟨_,n,_,_,e,V,W,_⟩=>by rw[e]at m;simp only[bL,Bool.and_eq_false_iff,decide_eq_false_iff_not]at m;omega) B p⟩
 |true=>
 obtain⟨n,rfl,V,W⟩:=Ju m;obtain⟨x,rfl⟩:=tK hw;simp only[Den]at b g;subst b g;have N:=cR.k (k:=Sum.inl n) g1;refine bD ⟨_,rfl,_,rfl,L.qu,_,R,_,_,rfl,S,T.aa0,T.ac5,rfl,L.hd,_,rfl,N,_,rfl,?_⟩;cases u:bY q.hs n with
 |none=>
  rw[(U.look (n:=n)).1 u];exact aU ⟨aJ,J hw (λ⟨_,_,_,_,e,_,_,z⟩=>by cases e;rw[u]at z;cases z) B p⟩
 |some o=>
  obtain⟨y,X⟩:=o;obtain⟨t,ev,gt⟩:=(U.look (n:=n)).2 y X u;rw[ev]at N⊢;refine bD (cQ rfl ?_);refine⟨_,rfl,L.qu,_,R,_,_,rfl,S,T.aa0,T.ac5,rfl,_,rfl,L.hd,_,rfl,N,?_⟩;refine⟨t,_,_,.str y,rfl,rfl,SqT.of gt,a8 (by decide) rfl,_,rfl,rfl,_,rfl,?_⟩;by_cases e:y=x
  ·subst e;rw[decide_eq_true rfl];exact bD (qq hw ⟨_,_,X,rfl,rfl,V,W,u⟩ B p)
  ·rw[gI e];exact aU ⟨aJ,J hw (λ⟨_,_,_,e1,e2,_,_,z⟩=>by cases e1;cases e2;exact e (by rw[u]at z;exact congrArg (·.1) (Option.some.inj z))) B p⟩
theorem C7(F:Fun K "give_back" "Queue.give_back" Ay f N)(T:‹3›)(m:‹16› A.queue "check_held" 3 ["self","hand","number"] (jE A)):‹14› 4 f N ["self","hand","number"] (iU A):=by
 refine F.okY ["self","hand","number"] λO A' o s H vs Q E hr nD0 h=>?_;obtain⟨L,q,R,S,U,V,rfl,p,b,e,W,r,X,Y⟩:=h;refine⟨_,aA (aX (cM m T.aa0 ‹18› bR (pv 0) (aE (pv 1) ‹37›)))
  ‹79›,?_⟩
 obtain⟨u,Z⟩:=p.self;refine⟨_,rfl,L.qu,u,_,rfl,Z,rfl,_,rfl,_,rfl,L,q,R,S,U,V,rfl,p,b,e,W,λ_ ⟨x,n,B,e1,e2,n0,n9,D⟩ H1 G=>?_,X,Y⟩;subst e1 e2;have r:=r x n;simp only[Den]at b e;subst b e;have g:=p.same G;obtain⟨dx,h1⟩:=g.self;obtain⟨hk,I,J⟩:=g.held;obtain⟨t,ev,gt⟩:=(J.look (n:=n)).2 x B D;refine⟨_,rfl,L.qu,_,dx,_,_,rfl,h1,T.aa0,T.ac5,rfl,?_⟩;refine⟨.inr (.inr (.inl ⟨rfl,.inl ⟨_,I⟩⟩)),_,rfl,L.hd,hk,Sum.inl n,_,rfl,rfl,I,ev,?_⟩;obtain⟨y,z⟩:=g.toHeld (J.drop (n:=n));exact r B rfl rfl D _ ((aG.step G).trans z) y
theorem C4(F:Fun K "done" "Queue.done" Aw f fd)(T:‹3›)(G:‹16› A.queue "check_held" 3 ["self","hand","number"] (jE A))(I:‹4›):‹14› 8 f fd ["self","hand","number"] (iS A):=by
 refine F.okY ["self","hand","number"] λad A' J s H vs Q E hr nD0 h=>?_;obtain⟨L,q,vh,vn,dh,dn,rfl,N,m,p,hz,O,qe,qb⟩:=h;refine⟨_,aA (aX (cM G T.aa0 ‹18› bR (pv 0) (aE (pv 1) ‹37›)))
  (aA (aX (cM I T.aa0 ‹18› bR (pv 0) (fN (cD (bV (bE (aI bP (aE (pv 2) ‹47›))) aF)) aF)))
  ‹79›),?_⟩
 obtain⟨R,h0⟩:=N.self;refine⟨_,rfl,L.qu,R,_,rfl,h0,rfl,_,rfl,_,rfl,L,q,vh,vn,dh,dn,rfl,N,m,p,hz,λ_ ⟨x,n,tm,e1,e2,n0,n9,el⟩ H2 S2=>?_,qe,qb⟩;subst e1 e2;simp only[Den]at m p;subst m p;obtain⟨ok,B',S,O⟩:=O x n tm rfl rfl n0 n9 el;have u:=N.same S2;obtain⟨U,h2⟩:=u.self;refine⟨_,rfl,L.qu,U,_,rfl,h2,rfl,_,rfl,aJ,λp0 V=>⟨aJ,λp1 B=>⟨aJ,λp2 b=>?_⟩⟩⟩;obtain⟨H3,g,V0,v0⟩:=gUU (o:=.tup []) V;rw[g]at B b⊢;obtain⟨H4,g,W,v1⟩:=gUU (o:=.tup [.str "done",.int n,.ref p0]) B;rw[g]at b⊢;obtain⟨H5,g,X,v2⟩:=gUU (o:=.lst [.ref p1]) b;rw[g];have D:=V0.trans (W.trans X);have Y:=u.same D;refine⟨L,q,p2,[("done",n,[])],B',rfl,Y,ok,λz=>?_,?_,λr Z=>?_,S,λL' H6 st y=>?_⟩
 ·obtain⟨o,e⟩:=fV (u.same (V0.trans W)) z;rw[e]at b;cases b
 ·simp only[Den,map_cons,map_nil,aT];refine⟨p2,_,rfl,v2,_,_,rfl,?_,rfl⟩;unfold cI fQ;simp only[Den,aT,map_nil];exact⟨p1,_,rfl,X _ _ v1,_,_,rfl,rfl,_,_,rfl,rfl,_,_,rfl,⟨p0,_,rfl,X _ _ (W _ _ v0),rfl⟩,rfl⟩
 ·rw[mem_singleton.mp Z];exact AZ (.inr (.inr rfl)) n0 n9
 obtain⟨aa,h6⟩:=y.self;obtain⟨hk,g6,r6⟩:=y.held;rw[show (nM (aZ q) (cH [("done",n,[])]) B').hs=q.hs from (cP q).2.1]at r6;obtain⟨t,ev,gt⟩:=(r6.look (n:=n)).2 x tm el;rw[st.qu]at h6;refine⟨_,rfl,L.qu,_,aa,_,_,rfl,h6,T.aa0,T.ac5,rfl,.inr (.inr (.inl ⟨rfl,.inl ⟨_,g6⟩⟩)),_,rfl,L'.hd,hk,Sum.inl n,_,rfl,rfl,g6,ev,?_⟩;obtain⟨ab,ac⟩:=y.toHeld (r6.drop (n:=n));exact O L' _ ((aG.step (S2.trans D)).trans (st.trans ac)) ab
theorem C2(F:Fun K "held" "Queue.held" At f fd)(T:‹3›):‹14› 1 f fd ["self"] (nZ A):=by
 refine F.okY ["self"] λaa A' u s H vs Q E hr nD0 h=>?_;obtain⟨L,q,rfl,O,hl,qq⟩:=h;refine⟨_,aC (aP (cV ["number"] [("self",0)] ⋯ ‹78› ‹32› ‹41› (λC s2 H2 ex=>(bE (aE (pv 0) (aN ‹42› aF)))))),?_⟩;obtain⟨R,U⟩:=O.self;obtain⟨hk,V,W⟩:=O.held;refine⟨_,rfl,L.qu,_,R,_,_,rfl,U,T.aa0,T.ac5,rfl,L.hd,hk,q.hs.map (·.1),rfl,V,W.keys,.inl (by rw[length_map];omega),by rw[length_map];omega,λp r b pw hp=>?_⟩;obtain⟨H1,B,G,X⟩:=gUU (o:=.lst (r.map .int)) hp;rw[B];have pl:=b.length_eq;rw[length_map]at pl;refine⟨p,rfl,⟨_,SqL.of X⟩,?_⟩;refine c8 (bO (K:=K) (SqL.of X)) (by rw[length_map];exact le_trans ‹65› (by decide)) (λi y H'=>∃n,r[i]? = some n/\Den H' (.tuple [.int n,.str ((bY q.hs n).getD ("",0)).1]) y) (λi y H1 H2 s h=>by obtain⟨n,e,h⟩:=h;exact⟨n,e,h.n s rfl⟩) (λσ=>∃z,σ = [z,some (.ref L.qu)]) ⟨none,rfl⟩ ?_ ?_
 ·intro i x ab H3 hi I s3 m Q' J;obtain⟨z,rfl⟩:=I;rw[getElem?_map]at m;cases e:r[i]? with
  |none=>rw[e]at m;cases m
  |some n=>
   rw[e]at m;cases m;obtain⟨x,tm,Y⟩:=mK (b.mem_iff.mp (mem_of_getElem? e));obtain⟨t,ev,gt⟩:=(W.look (n:=n)).2 x tm Y;have S:=G.trans s3;have Z:=cR.k (k:=Sum.inl n) (S _ _ V);rw[ev]at Z;refine⟨_,rfl,_,rfl,L.qu,_,R,_,_,rfl,S _ _ U,T.aa0,T.ac5,rfl,_,rfl,L.hd,_,rfl,Z,t,_,_,.str x,rfl,rfl,SqT.of (S _ _ gt),a8 (by decide) rfl,aJ,λp4 N=>?_⟩;refine J _ _ _ ⟨_,rfl⟩ (aD N) ⟨n,e,?_⟩;rw[Y];simp only[Den,aT];exact⟨p4,_,rfl,aB,_,_,rfl,rfl,_,_,rfl,rfl,rfl⟩
 intro D ys H2 hD S2 gD g hR;refine qq r b pw D H2 (G.trans S2) (G.free hD) ?_;simp only[Den];refine⟨D,ys,rfl,gD,iH (by unfold rY;rw[length_map];rw[length_map]at g;exact g) λi y e=>?_⟩;obtain⟨n,e1,e2⟩:=hR i y e;exact⟨_,by unfold rY;rw[getElem?_map,e1];rfl,e2⟩
theorem FG{f:Addr}{fd:Ml}(F:Fun K "wait" "Queue.wait" Aq f fd)(T:‹3›)(al:‹2›)(am:‹12›){hw:∃t,mg "LONGEST_WAIT" = some (.int 99 t)}:‹14› 3 f fd ["self","many"] (mU A):=by
 obtain⟨_,an⟩:=hw;refine F.okY ["self","many","late","number"] λba A' ao s H vs Q E hr nD0 h=>?_;obtain⟨L,q,m,rfl,hq,qb,h⟩:=h;refine⟨_,aA (bG (cS (dE (bB al ‹18› bA (aE (pv 1) (aI aM (aE (cO (v:=.int 99) ⋯ an ⟨_,rfl⟩) aF))))))
   ‹92›
   aO)
  (aA (qR (pv 0) (pv 1) vL)
  (aA (m5 (i:=2) ["number"] [("self",0)] nD0 ⋯ ⋯ ⋯ ‹78› ‹32› (λC s2 H2 ex=>(hG (aY pF (bC lK ‹62› ‹42›) ‹62› (bI _)))) ‹64›)
  (aA (eQ (i8 dF) ⋯ (bU K (pv 2)) ‹53›
   (aC (aX (i5 K PySem.F.plainAttrs_dict PySem.F.slot_dict_pop PySem.F.type_dict_pop pI ‹23› ‹51›))))
  (aC (aP (cV ["number"] [("self",0)] ⋯ (bU K (pv 2)) ‹32› ‹41› (λC s2 H2 ex=>(cM am T.ad2 ‹18› bA ‹62› ‹35›)))))))),?_⟩
 obtain⟨dx,h1⟩:=hq.self;refine⟨_,rfl,.int m,.int m,1,99,rfl,by simp only[Den],_,rfl,?_⟩;cases af:bL 1 99 (.int m) with
 |false=>exact aU ⟨aJ,qb af⟩
 |true=>
 obtain⟨hl,hn,he,qq⟩:=h af;refine bD (cQ rfl ?_);refine⟨_,rfl,L.qu,_,dx,_,_,rfl,h1,T.aa0,T.bg1,rfl,_,rfl,_,_,rfl,rfl,dx,_,h1,(le_of_ble_eq_true rfl),?_⟩;obtain⟨J,aa⟩:=hq.fields (dx:=dx) {q with now:=q.now+m} false rfl rfl rfl;show tU _ _ _ _ (upd H L.qu (.ins A.queue dx (quF L {q with now:=q.now+m} false)));generalize upd H L.qu (.ins A.queue dx (quF L {q with now:=q.now+m} false))=H1 at J aa⊢;obtain⟨q1,O⟩:∃q1:Qs,q1 = {q with now:=q.now+m}:=⟨_,rfl⟩;rw[<- O]at J;obtain⟨R,U⟩:=J.self;obtain⟨hk,g1,r1⟩:=J.held;have eh:q1.hs=q.hs:=by rw[O]
 rw[eh]at r1;refine⟨_,rfl,L.qu,_,R,_,_,rfl,U,T.aa0,T.ac5,rfl,L.hd,hk,q.hs.map (·.1),rfl,g1,r1.keys,.inl (by rw[length_map];omega),by rw[length_map];omega,λp W B pw hp=>?_⟩;obtain⟨H2,ap,S2,g2⟩:=gUU (o:=.lst (W.map .int)) hp;rw[ap];have pl:=B.length_eq;rw[length_map]at pl;refine⟨p,rfl,⟨_,SqL.of g2⟩,?_⟩;refine fS (bO (K:=K) (SqL.of g2)) (by rw[length_map];exact le_trans ‹65› (by decide)) (λj=>pQ q m (W.getD j 0)) (λj=>V.int (W.getD j 0)) (λY=>∃z,Y = [z,some (.ref L.qu)]) ⟨none,rfl⟩ ?_ ?_
 ·intro j x aq H3 hj ac s3 G Q1 Q2 Q3 ag ah;obtain⟨z,rfl⟩:=ac;rw[getElem?_map]at G;cases e:W[j]? with
  |none=>rw[e]at G;cases G
  |some n=>
   rw[e]at G;cases G;have eg:W.getD j 0=n:=by rw[getD_eq_getElem?_getD,e];rfl
   rw[eg]at ag ah;obtain⟨x,tm,el⟩:=mK (B.mem_iff.mp (mem_of_getElem? e));obtain⟨t,ev,gt⟩:=(r1.look (n:=n)).2 x tm el;have S:=S2.trans s3;have dg:=cR.k (k:=Sum.inl n) (S _ _ g1);rw[ev]at dg;refine⟨_,rfl,L.qu,_,R,_,_,rfl,S _ _ U,T.aa0,T.bg1,rfl,_,rfl,L.qu,_,R,_,_,rfl,S _ _ U,T.aa0,T.ac5,rfl,_,rfl,L.hd,_,rfl,dg,t,_,_,.int tm,rfl,rfl,SqT.of (S _ _ gt),a8 (by decide) rfl,_,_,rfl,rfl,_,rfl,L.qu,_,R,_,_,rfl,S _ _ U,T.aa0,T.bj8,rfl,_,_,rfl,rfl,_,rfl,?_⟩;have eb:pQ q m n=decide (q1.hold<q1.now-tm):=by
    unfold pQ;rw[el,O];rfl
   cases hb:pQ q m n with
   |true=>
    rw[<- eb,hb];exact aU ⟨_,rfl,ag _ ⟨_,rfl⟩ hb⟩
   |false=>
    rw[<- eb,hb];exact bD (ah _ ⟨_,rfl⟩ hb)
 intro u H3 X S3 g3;rw[length_map,gH W (pQ q m)]at g3;obtain⟨r,N⟩:∃r,r=W.filter (pQ q m):=⟨_,rfl⟩;rw[<- N]at g3;have lsN:r.Nodup:=by
  rw[N];exact List.Pairwise.filter _ (B.nodup_iff.mpr hn)
 have ar:r.length<=1000:=by
  rw[N];have:=length_filter_le (pQ q m) W;omega
 have ai:∀n∈r,n∈q.hs.map (·.1):=λn h=>by
  rw[N]at h;exact B.mem_iff.mp (mem_filter.mp h).1
 have as:=J.same (S2.trans S3);have au:=aa.trans (aG.step (L:=L) (S2.trans S3));have aj:¬gT L u:=λz=>by
  obtain⟨o,e⟩:=fV (J.same S2) z;rw[e]at X;cases X
 have a6:H u=none:=by
  cases e:H u with
  |none=>rfl
  |some o=>
   rw[S2 _ _ (aa.frm _ _ e aj)]at X;cases X
 refine⟨_,rfl,u,rfl,⟨_,SqL.of g3⟩,?_⟩;refine fR (bO (K:=K) (H:=upd (λ_=>none) u (.lst (r.map V.int))) (SqL.of aB)) (λi Y H'=>∃z3,Step L L H H'/\QueueW A H' L {q1 with hs:=q.hs.filter λp=>decide (p.1∉r.take i)} false/\H' u=some (.lst (r.map V.int))/\Y = [some (.ref L.qu),some (.int m),some (.ref u),z3]) ⟨_,au,?_,g3,rfl⟩ (λi Y H' hh b o e=>?_) ?_ ?_
 ·rw[List.take_zero,List.filter_eq_self.mpr (λp _=>decide_eq_true (by simp)),<- eh];exact as
 ·obtain⟨_,_,_,g,_⟩:=hh;by_cases y:b=u
  ·subst y;rw[aB]at e;injection e with e
   rw[<- e];exact g
  ·rw[aH y]at e;cases e
 ·rintro i x Y H5 H6 hi ⟨z3,st,I,gi,rfl⟩ s6 G;rw[length_map]at hi;have G:(r.map V.int)[i]? = some x:=G;rw[getElem?_map]at G;obtain⟨n,en⟩:∃n,r[i]? = some n:=⟨_,getElem?_eq_getElem hi⟩;rw[en]at G;cases G;have ad:=I.same s6;obtain⟨av,h6⟩:=ad.self;obtain⟨aw,g6,r6⟩:=ad.held;have tk:r.take (i+1)=r.take i++[n]:=by rw[take_succ,en];rfl
  have ax:n∉r.take i:=λz=>by
   have hd:r.take i++r.drop i=r:=take_append_drop _ _;have nd:=lsN;rw[<- hd,nodup_append]at nd;have h2:n∈r.drop i:=by
    rw[drop_eq_getElem_cons hi];have:r[i]=n:=(List.getElem?_eq_some_iff.mp en).2;rw[this];exact mem_cons_self
   exact nd.2.2 n z n h2 rfl
  have ay:n∈(q.hs.filter λp=>decide (p.1∉r.take i)).map (·.1):=by
   obtain⟨p,hp,ep⟩:=mem_map.mp (ai n (mem_of_getElem? en));exact mem_map.mpr ⟨p,mem_filter.mpr ⟨hp,decide_eq_true (by rw[ep];exact ax)⟩,ep⟩
  obtain⟨x,tm,el⟩:=mK ay;obtain⟨t,ev,gt⟩:=(r6.look (n:=n)).2 x tm el;refine⟨_,rfl,L.qu,_,av,_,_,rfl,h6,T.aa0,T.ac5,rfl,.inr (.inr (.inl ⟨rfl,.inl ⟨_,g6⟩⟩)),_,rfl,L.hd,aw,Sum.inl n,_,rfl,rfl,g6,ev,?_⟩;obtain⟨az,ak⟩:=ad.toHeld (r6.drop (n:=n));refine⟨_,st.trans ((aG.step s6).trans ak),?_,ak.frm _ _ (s6 _ _ gi) aj,rfl⟩;have e1:dropH (q.hs.filter λp=>decide (p.1∉r.take i)) n=q.hs.filter λp=>decide (p.1∉r.take (i+1)):=by
   unfold dropH;rw[List.filter_filter];refine List.filter_congr λp _=>?_;rw[tk,<- Bool.decide_and];refine decide_eq_decide.mpr ?_;rw[mem_append,mem_singleton];exact⟨λh z=>z.elim h.2 h.1,λh=>⟨λz=>h (.inr z),λz=>h (.inl z)⟩⟩
  rw[<- e1];exact az
 rintro Y H5 ⟨z3,st,I,gi,rfl⟩;rw[length_map,take_length]at I;obtain⟨a0,h5⟩:=I.self;obtain⟨a1,a2⟩:=I.book.self;refine⟨_,rfl,u,rfl,⟨_,SqL.of gi⟩,?_⟩;refine c8 (bO (K:=K) (SqL.of gi)) (by rw[length_map];exact le_trans ar (by decide)) (λi y H'=>∃n,r[i]? = some n/\Den H' (mL q.B.es n) y) (λi y H1 H2 s h=>by obtain⟨n,e,h⟩:=h;exact⟨n,e,h.n s (AE _ _)⟩) (λY=>∃z,Y = [z,some (.ref L.qu)]) ⟨none,rfl⟩ ?_ ?_
 ·intro i x aq H6 hi ac s6 G Q' a3;obtain⟨z,rfl⟩:=ac;rw[getElem?_map]at G;cases e:r[i]? with
  |none=>rw[e]at G;cases G
  |some n=>
   rw[e]at G;cases G;obtain⟨p,hp,ep⟩:=mem_map.mp (ai n (mem_of_getElem? e));obtain⟨en,ae⟩:=he p hp;rw[ep]at ae;have a4:BookAt A.book H6 L.bk L.de L.dp q.B:=by
    have:=(I.same s6).book;rw[show ({q1 with hs:=q.hs.filter λp=>decide (p.1∉r)}:Qs).B=q.B by rw[O]]at this;exact this
   refine⟨_,rfl,L.qu,_,a0,_,_,rfl,s6 _ _ h5,T.aa0,T.ae4,rfl,L.bk,a1,_,rfl,s6 _ _ a2,rfl,_,rfl,L.bk,L.de,L.dp,q.B,n,en,rfl,a4,ae,λp7 H7 S7 d7=>?_⟩;refine a3 _ _ _ ⟨_,rfl⟩ S7 ⟨n,e,?_⟩;unfold mL;rw[ae];exact d7
 intro D ys H6 hD S6 gD Z hR;have a5:H D=none:=by
  cases e:H D with
  |none=>rfl
  |some o=>
   by_cases y:gT L D
   ·obtain⟨o',e'⟩:=fV I y;rw[e']at hD;cases hD
   ·rw[st.frm _ _ e y]at hD;cases hD
 refine qq W B pw D H6 (st.trans (aG.step S6)) ?_ a5 ?_
 ·rw[<- N];unfold KM;have:=I.same S6;rw[O]at this;exact this
 ·rw[<- N];simp only[Den];refine⟨D,ys,rfl,gD,iH (by rw[length_map];rw[length_map]at Z;exact Z) λi y e=>?_⟩;obtain⟨n,e1,e2⟩:=hR i y e;exact⟨_,by rw[getElem?_map,e1];rfl,e2⟩
end
abbrev o9:Stmt:=top 65
abbrev xC:Stmt:=top 66
abbrev s_do:Stmt:=top 67
inductive rH where
 |put (b:Mf) |all (bs:Md) |take (x:Str) |done (x:Str) (n:Int) |back (x:Str) (n:Int) |wait (m:Int) |new (n:Int) |sweep |carry
def eK:rH->Str
 | .put _=>"put"
 | .all _=>"all"
 | .take _=>"take"
 | .done _ _=>"done"
 | .back _ _=>"back"
 | .wait _=>"wait"
 | .new _=>"new"
 | .sweep=>"sweep"
 | .carry=>"carry"
def dD:rH->Mj
 | .put b=>[.tuple (b.map .int)]
 | .all e=>[.tuple (dZ e)]
 | .take x=>[.str x]
 | .done x n=>[.str x,.int n]
 | .back x n=>[.str x,.int n]
 | .wait m=>[.int m]
 | .new n=>[.int n]
 | .sweep=>[]
 | .carry=>[]
def zN:List (Str×Int):=[("put",2),("all",2),("take",2),("done",3),("back",3),("wait",2),("new",2),("sweep",1),("carry",1)]
def Gf:Mn:=zN.map λp=>(Sum.inr p.1,V.int p.2)
inductive jP(vs:Mp)(H:Hp)(Q:VK)(x_3:XK):Prop
 |mk:∀(t:Addr)(args:Mp)(d:rH),vs=[.ref t]->H t=some (.tup (.str (eK d)::args))->args.length=(dD d).length->Q .non H->jP vs H Q x_3
theorem JJ(d:rH):c9 Gf (Sum.inr (eK d))=some (.int ((dD d).length+1:Nat)):=by
 cases d <;> rfl
theorem bZ(e:f[i]? = some (some (.str x)))(h:decide (x=k)=false)(g:b D f H):tU (K7 (Ak (tOp rEq (lU i) (tC (V.str k)))) a Dc) b D f H:=by
 refine⟨_,e,rfl,_,rfl,?_⟩;rw[gI (of_decide_eq_false h)];exact bD g
theorem jF(e:f[i]? = some (some (.str x)))(h:x=k)(g:a {D with nx:=b D} f H):tU (K7 (Ak (tOp rEq (lU i) (tC (V.str k)))) a Dc) b D f H:=by
 refine⟨_,e,rfl,_,rfl,?_⟩;rw[hV h];exact aU g
def LG(A:Ad):rH->Sp
 | .put _=>oS A
 | .all _=>jD A
 | .take _=>jX A
 | .done _ _=>iS A
 | .back _ _=>iU A
 | .wait _=>mU A
 | .new _=>jC A
 | .sweep=>iR A
 | .carry=>iT A
inductive zG(A:Ad)(vs:Mp)(H:Hp)(Q:VK)(E:XK):Prop
 |mk:∀(L:Pl)(q:Qs)(t:Addr)(args:Mp)(d:rH),vs=[.ref L.qu,.ref t]->QueueW A H L q false->H t=some (.tup (.str (eK d)::args))->args.length=(dD d).length->LG A d (.ref L.qu::args) H Q (λc _ H'=>E c none H')->zG A vs H Q E
inductive Dm(A:Ad)(vs:Mp)(H:Hp)(Q:VK)(x_3:XK):Prop
 |mk:∀(L:Pl)(q:Qs)(t:Addr)(args:Mp)(d:rH),vs=[.ref L.qu,.ref t]->QueueW A H L q false->H t=some (.tup (.str (eK d)::args))->args.length=(dD d).length->(∀E':XK,(∀a H',a∈[A.notHeld,A.badNumber,A.badBody,A.badHand]->Q (.str "refused") H'->E' (.ref a) none H')->LG A d (.ref L.qu::args) H Q E')->Dm A vs H Q x_3
structure TxtS(P:Program)(w:World)(K:Ma)(mg:Mc)(A:Ad)(ab9 ae1 ab4:Addr):Prop where
 ae0:mg "len" = none
 ac2:mg "isinstance" = none
 ai6:mg "tuple" = none
 bj1:mg "str" = none
 an2:dH K ae1=true
 bj3:mg "BadDeed" = some (.ref ae1)
 at5:mg "Stopped" = some (.ref A.stopped)
 e_s:∀c∈[A.notHeld,A.badNumber,A.badBody,A.badHand],PySem.W.exmOne K (.ref c) (.ref A.stopped)=some false/\PySem.W.exmOne K (.ref c) (.ref ab4)=some true
 bh1:mg "QueueError" = some (.ref ab4)
 g_S:mg "SIZES_OF_DEEDS" = some (.ref ab9)
 G_S:GD P w K ab9 Gf
section
variable{P:Program}{w:World}{K:Ma}{mg:Mc}{base:Heap}{A:Ad}{ab9 ae1 ab4:Addr}
theorem wK(F:Fun K "check_deed" "check_deed" o9 f p)(T:TxtS P w K mg A ab9 ae1 ab4):‹14› 1 f p ["deed"] jP:=by
 have b:=T.G_S;have e:=T.g_S;refine F.okY ["deed","word"] λr x n s H y Q E hr nD0 h=>?_;obtain⟨t,g,d,rfl,m,u,q⟩:=h;refine⟨_,aA (bG (l9 (cS (dE ‹27›)) (iX (aY fP ‹28› aM (bI _)))).pt
   ‹93›
   aO)
  (aA (aW (i:=1) nD0 ⋯ ⋯ ‹24›)
  (aA (bG (l9 (cS (dE (bJ (iM K) ⋯ T.ac2 eU (aE (pv 1) ‹56›)))) (iX (n8 (FB b (pv 1) (cO (v:=.ref ab9) ⋯ e ⋯))))).pt
   ‹93›
   aO)
  (aC (bG (aY BR ‹28› (Jc b (cO (v:=.ref ab9) ⋯ e ⋯) (pv 1) (λ_ _=>rfl)) (bI _))
   ‹93›
   aO)))),?_⟩
 refine⟨_,rfl,_,"tuple",_,true,rfl,.tup m,rfl,_,rfl,bD ?_⟩;refine⟨_,rfl,t,_,rfl,.inr (SqT.of m),rfl,_,rfl,?_⟩;rw[length_cons,pW (show ((g.length+1:Nat):Int)≠0 by omega)];refine bD (cQ rfl ?_);refine⟨_,rfl,t,_,_,.str (eK d),rfl,rfl,SqT.of m,a8 (by decide) rfl,?_⟩;refine⟨_,rfl,_,"str",_,true,rfl,.str _,rfl,_,rfl,bD ?_⟩;have o:=JJ d;refine⟨_,rfl,Sum.inr (eK d),rfl,_,rfl,?_⟩;rw[o];refine bD (cQ rfl ?_);refine⟨_,rfl,t,_,rfl,.inr (SqT.of m),_,rfl,Sum.inr (eK d),_,rfl,o,rfl,_,rfl,?_⟩;rw[length_cons,u,decide_eq_true rfl];exact bD q
theorem EN{b : Type}:∀{l:List b},l.length=2->∃x y,l=[x,y]
 |[x,y],_=>⟨x,y,rfl⟩
theorem Cw(F:Fun K "told_by" "told_by" xC f U)(T:‹3›)(r:‹16› A.queue "put" 8 ["self","body"] (oS A))(u:‹16› A.queue "put_all" 8 ["self","bodies"] (jD A))(B:‹16› A.queue "take" 8 ["self","hand"] (jX A))(D:‹16› A.queue "done" 8 ["self","hand","number"] (iS A))(G:‹16› A.queue "give_back" 4 ["self","hand","number"] (iU A))(I:‹16› A.queue "wait" 3 ["self","many"] (mU A))(J:‹16› A.queue "revive" 8 ["self","number"] (jC A))(N:‹16› A.queue "sweep" 6 ["self"] (iR A))(O:‹16› A.queue "carry" 8 ["self"] (iT A)):‹14› 9 f U ["queue","deed"] (zG A):=by
 refine F.okY ["queue","deed","word"] λV X R s H Y Q E hr nD0 h=>?_;obtain⟨L,q,t,S,d,rfl,W,e,g,m⟩:=h;refine⟨_,aA (aW (i:=2) nD0 ⋯ ⋯ ‹21›)
  (aA (bG ‹46›
   (aC (aP (cM r T.aa0 ‹18› bR (pv 0) ‹82›)))
   aO)
  (aA (bG ‹46›
   (aC (aP (cM u T.aa0 ‹18› bR (pv 0) ‹82›)))
   aO)
  (aA (bG ‹46›
   (aC (aP (cM B T.aa0 ‹18› bR (pv 0) ‹82›)))
   aO)
  (aA (bG ‹46›
   (aC (aP (cM D T.aa0 ‹18› bR (pv 0) (aN ‹21› ‹82›))))
   aO)
  (aA (bG ‹46›
   (aC (aP (cM G T.aa0 ‹18› bR (pv 0) (aN ‹21› ‹82›))))
   aO)
  (aA (bG ‹46›
   (aC (aP (cM I T.aa0 ‹18› bR (pv 0) ‹82›)))
   aO)
  (aA (bG ‹46›
   (aC (aP (cM J T.aa0 ‹18› bR (pv 0) ‹82›)))
   aO)
  (aA (bG ‹46›
   (aC (aP (eW N T.aa0 ‹18› bR (pv 0))))
   aO)
  (aC (aP (eW O T.aa0 ‹18› bR (pv 0)))))))))))),?_⟩
 obtain⟨o,p⟩:=W.self;refine⟨_,rfl,t,_,_,.str (eK d),rfl,rfl,SqT.of e,a8 (by decide) rfl,?_⟩;cases d with
 |put b=>
  obtain⟨x,rfl⟩:=List.length_eq_one_iff.mp g;exact jF rfl rfl ⟨_,rfl,L.qu,o,_,rfl,p,rfl,_,rfl,t,_,_,x,rfl,rfl,SqT.of e,rfl,m⟩
 |all Z=>
  obtain⟨x,rfl⟩:=List.length_eq_one_iff.mp g;exact bZ rfl rfl (jF rfl rfl ⟨_,rfl,L.qu,o,_,rfl,p,rfl,_,rfl,t,_,_,x,rfl,rfl,SqT.of e,rfl,m⟩)
 |take y=>
  obtain⟨x,rfl⟩:=List.length_eq_one_iff.mp g;exact bZ rfl rfl (bZ rfl rfl (jF rfl rfl ⟨_,rfl,L.qu,o,_,rfl,p,rfl,_,rfl,t,_,_,x,rfl,rfl,SqT.of e,rfl,m⟩))
 |done y n=>
  obtain⟨x,z,rfl⟩:=EN g;exact bZ rfl rfl (bZ rfl rfl (bZ rfl rfl (jF rfl rfl ⟨_,rfl,L.qu,o,_,rfl,p,rfl,_,rfl,t,_,_,x,rfl,rfl,SqT.of e,rfl,_,rfl,t,_,_,z,rfl,rfl,SqT.of e,rfl,m⟩)))
 |back y n=>
  obtain⟨x,z,rfl⟩:=EN g;exact bZ rfl rfl (bZ rfl rfl (bZ rfl rfl (bZ rfl rfl (jF rfl rfl ⟨_,rfl,L.qu,o,_,rfl,p,rfl,_,rfl,t,_,_,x,rfl,rfl,SqT.of e,rfl,_,rfl,t,_,_,z,rfl,rfl,SqT.of e,rfl,m⟩))))
 |wait n=>
  obtain⟨x,rfl⟩:=List.length_eq_one_iff.mp g;exact bZ rfl rfl (bZ rfl rfl (bZ rfl rfl (bZ rfl rfl (bZ rfl rfl (jF rfl rfl ⟨_,rfl,L.qu,o,_,rfl,p,rfl,_,rfl,t,_,_,x,rfl,rfl,SqT.of e,rfl,m⟩)))))
 |new n=>
  obtain⟨x,rfl⟩:=List.length_eq_one_iff.mp g;exact bZ rfl rfl (bZ rfl rfl (bZ rfl rfl (bZ rfl rfl (bZ rfl rfl (bZ rfl rfl (jF rfl rfl ⟨_,rfl,L.qu,o,_,rfl,p,rfl,_,rfl,t,_,_,x,rfl,rfl,SqT.of e,rfl,m⟩))))))
 |sweep=>
  obtain rfl:=List.length_eq_zero_iff.mp g;exact bZ rfl rfl (bZ rfl rfl (bZ rfl rfl (bZ rfl rfl (bZ rfl rfl (bZ rfl rfl (bZ rfl rfl (jF rfl rfl ⟨_,rfl,L.qu,o,_,rfl,p,rfl,m⟩)))))))
 |carry=>
  obtain rfl:=List.length_eq_zero_iff.mp g;exact bZ rfl rfl (bZ rfl rfl (bZ rfl rfl (bZ rfl rfl (bZ rfl rfl (bZ rfl rfl (bZ rfl rfl (bZ rfl rfl ⟨_,rfl,L.qu,o,_,rfl,p,rfl,m⟩)))))))
theorem ok_do(F:Fun K "do" "do" s_do f p)(T0:‹3›)(T:TxtS P w K mg A ab9 ae1 ab4)(e:‹15› "check_deed" 1 ["deed"] jP)(g:‹15› "told_by" 9 ["queue","deed"] (zG A)):‹14› 10 f p ["queue","deed"] (Dm A):=by
 refine F.okY ["queue","deed"] λr D m s H G Q E hr nD0 h=>?_;obtain⟨L,q,t,b,d,rfl,u,n,o,x⟩:=h;refine⟨_,aA (aX (bB e ‹18› bR ‹29›))
  (aC (Cq zS (gB (JT (px_fn g ‹18› (aE (pv 0) ‹29›))))
   (PH.cons ⋯ T.at5 (by decide) (λex=>(aC (aP bP))) (PH.cons ⋯ T.bh1 (by decide) (λex=>(aC (aP bP))) PH.nil)))),?_⟩
 refine⟨_,rfl,t,b,d,rfl,n,o,?_⟩;refine⟨_,rfl,_,rfl,L,q,t,b,d,rfl,u,n,o,?_⟩;refine x _ λa I y h=>?_;obtain⟨z,B⟩:=T.e_s a y;exact .inr ⟨z,.inl ⟨B,h⟩⟩
end
theorem iW(r:Rw)(b:Mr):cH (r::b)=iD r.1 r.2.1 r.2.2++cH b:=by
 unfold cH;rw[map_cons,List.flatten_cons]
theorem Ap(b:eZ n)(f:eZ m)(e:bK n=bK m):n=m:=by
 have g:=PySem.W.KIN.num_reads b.1 (Int.lt_of_lt_of_le b.2 (by decide));have o:=PySem.W.KIN.num_reads f.1 (Int.lt_of_lt_of_le f.2 (by decide));have p:Str.ofString (toString n)=Str.ofString (toString m):=by rw[<- w6 n,<- w6 m,e]
 rw[p]at g;exact Option.some.inj (g.symm.trans o)
theorem Bh(h:n∉b.map (·.1)):aR b n=none:=by
 unfold aR;rw[map_eq_none_iff,find?_eq_none];intro p e z;exact h (by rw[<- of_decide_eq_true z];exact mem_map_of_mem e)
theorem DG(b:List (Str×Mf))(h:x≠n):aR (gQ b n) x=aR b x:=by
 unfold aR gQ;congr 1;rw[List.find?_filter];congr 1;funext p;by_cases y:p.1=x
 ·rw[decide_eq_true y,decide_eq_true (show p.1≠n from λw=>h (y.symm.trans w))];rfl
 ·rw[decide_eq_false y];exact decide_eq_false (λw=>by cases w.2)
theorem EC(e:Ent)(h:∀p∈b,p.1<n):eO b n e=b++[(n,e)]:=by
 unfold eO;rw[if_neg];rw[any_eq_true];rintro ⟨p,f,z⟩;have:=h p f;have:=of_decide_eq_true z;omega
theorem EZ(l:Int)(b:Mf)(e:B.parts=[])(f:∀p∈B.es,p.1<n)(m:B.up=n):dR l B [("put",n,b)]=some ⟨B.es++[(n,(b,0,l))],n+1,[]⟩:=by
 show (match dC B "put" n b l with |none=>none |some g=>some g)=_;have:dC B "put" n b l=some ⟨B.es++[(n,(b,0,l))],n+1,[]⟩:=by
  unfold dC;rw[if_neg (by decide),if_neg (by decide),if_neg (λy=>y e),if_pos rfl];unfold mC;rw[if_neg (by omega),EC _ f,e]
 rw[this]
theorem Ic(k:Str)(n:Int):(cH [(k,n,[])]).length=7:=by
 rw[iW,length_append,eE];rfl
structure Sz(q:Qs)(n:Nat):Prop where
 left:q.D.left=none
 f0:0<=q.first
 top:q.last<=(n:Int)
 keys:∃k:Nat,q.last=q.first+(k:Int)/\q.D.fs.map (·.1)=(List.range (k+1)).map λ(i:Nat)=>bK (q.first+(i:Int))
 len:∀x bs,aR q.D.fs x=some bs->(bs.length:Int)<=q.most+706
 m8:1<=q.most
 m67:q.most<=2000
section
variable{q:Qs}{n:Nat}
theorem Sz.here(h:Sz q n):∃b,aR q.D.fs (bK q.last)=some b:=by
 obtain⟨k,e,f⟩:=h.keys;refine Bl ?_;rw[f,mem_map];exact⟨k,mem_range.mpr (by omega),by rw[e]⟩
theorem Sz.wok(h:Sz q n)(s:n<=80000)(f:0<=q.B.up)(g:q.B.es.length+q.B.parts.length+m<900):WOk q m:=by
 obtain⟨k,e,b⟩:=h.keys;have t:=h.f0;have top:=h.top;have o:=h.m67;refine⟨h.left,⟨by omega,by omega⟩,⟨by omega,by omega⟩,h.here,Bh ?_,λx p y=>?_,?_,f,g⟩
 ·rw[b,mem_map];rintro ⟨i,r,y⟩;rw[mem_range]at r;have:=Ap ⟨by omega,by omega⟩ ⟨by omega,by omega⟩ y;omega
 ·have:=h.len x p y;omega
 ·have:=congrArg List.length b;rw[length_map,length_map,length_range]at this;omega
theorem Sz.step(h:Sz q n)(E:n<=80000)(G:0<=q.B.up)(H:q.B.up<=999999)(O:q.B.es.length+q.B.parts.length<800)(Q:p.length<=700)(I:Bk)(z:Mt):Sz {nM (aZ q) p I with hs:=z} (n+1)/\(aZ q).last<=(n:Int)+1:=by
 have wok:=h.wok E (m:=0) G (by omega);obtain⟨k,e,B⟩:=h.keys;have D:=h.m8;have r:=h.m67;have nx:Sz (aZ q) (n+1)/\∃g,aR (aZ q).D.fs (bK (aZ q).last)=some g/\(g.length:Int)<=(aZ q).most+6:=by
  obtain⟨g,f⟩:=h.here;have b:hZ q=g:=by unfold hZ;rw[f];rfl
  unfold aZ;split
  ·refine⟨⟨rfl,h.f0,by show q.last+1<=_;have:=h.top;omega,⟨k+1,by show q.last+1=q.first+((k+1:Nat):Int);omega,?_⟩,λx p y=>?_,D,r⟩,iD "from" q.B.up [],?_,by rw[eE];show ((7+0:Nat):Int)<=q.most+6;omega⟩
   ·show (fE (q.D.fs++[(bK (q.last+1),[])]) _ _).map (·.1)=_;rw[m4,map_append,B,List.range_succ (n:=k+1),map_append,e];show _++[bK (q.first+(k:Int)+1)]=_++[bK (q.first+((k+1:Nat):Int))];rw[show q.first+(k:Int)+1=q.first+((k+1:Nat):Int) by omega];rfl
   ·rw[lP q wok.new]at y;split at y
    ·cases y;rw[eE];show ((7+0:Nat):Int)<=q.most+706;omega
    ·exact h.len x p y
   ·rw[lP q wok.new];exact if_pos rfl
  ·rename_i t;refine⟨⟨h.left,h.f0,Int.le_trans h.top (by omega),⟨k,e,B⟩,h.len,D,r⟩,g,f,?_⟩;rw[b]at t;unfold yD at t;rw[and_eq_true,not_and]at t;have:=t (by rw[Bool.not_eq_true',decide_eq_false_iff_not];omega);rw[decide_eq_true_eq]at this;omega
 obtain⟨o,g,f,J⟩:=nx;obtain⟨L,N,u⟩:=o.keys;have b:hZ (aZ q)=g:=by unfold hZ;rw[f];rfl
 refine⟨⟨rfl,o.f0,o.top,⟨L,N,?_⟩,λx s y=>?_,o.m8,o.m67⟩,by have:=o.top;omega⟩
 ·show (fE (aZ q).D.fs _ _).map (·.1)=_;rw[m4];exact u
 ·have y:aR (fE (aZ q).D.fs (bK (aZ q).last) (hZ (aZ q)++p)) x=some s:=y;rw[Bf,f,b]at y;split at y
  ·cases y;rw[length_append];show (((g.length+p.length:Nat)):Int)<=(aZ q).most+706;omega
  ·exact o.len x s y
theorem Sz.drop(h:Sz q n)(D:n<=80000)(r:q.first<q.last):q.D.left=none/\eZ q.first/\(∃b,aR q.D.fs (bK q.first)=some b)/\Sz (B4 q) n:=by
 obtain⟨k,e,m⟩:=h.keys;have E:=h.f0;have top:=h.top;obtain⟨f,rfl⟩:∃f,k=f+1:=⟨k-1,by omega⟩;have s:∀i:Nat,i<f+1->bK (q.first+1+(i:Int))≠bK q.first:=λi g y=>by
  have:=Ap ⟨by omega,by omega⟩ ⟨by omega,by omega⟩ y;omega
 refine⟨h.left,⟨by omega,by omega⟩,Bl ?_,⟨rfl,by show 0<=q.first+1;omega,h.top,⟨f,by show q.last=q.first+1+_;omega,?_⟩,λx b y=>?_,h.m8,h.m67⟩⟩
 ·rw[m,mem_map];exact⟨0,mem_range.mpr (by omega),by rw[show q.first+((0:Nat):Int)=q.first by omega]⟩
 ·show (gQ q.D.fs (bK q.first)).map (·.1)=_;have t:(gQ q.D.fs (bK q.first)).map (·.1)=(q.D.fs.map (·.1)).filter λx=>decide (x≠bK q.first):=by
   unfold gQ;rw[filter_map];rfl
  rw[t,m,range_succ_eq_map,map_cons,filter_cons,if_neg (by simp),map_map,List.filter_eq_self.mpr]
  ·apply map_congr_left;intro i _;show bK (q.first+((i+1:Nat):Int))=bK (q.first+1+(i:Int));rw[show q.first+((i+1:Nat):Int)=q.first+1+(i:Int) by omega]
  ·intro x o;rw[mem_map]at o;obtain⟨i,g,rfl⟩:=o;rw[mem_range]at g;refine decide_eq_true ?_;have:=s i g;show bK (q.first+((i+1:Nat):Int))≠bK q.first;rw[show q.first+((i+1:Nat):Int)=q.first+1+(i:Int) by omega];exact this
 ·have y:aR (gQ q.D.fs (bK q.first)) x=some b:=y;by_cases z:x=bK q.first
  ·subst z;have:aR (gQ q.D.fs (bK q.first)) (bK q.first)=none:=Bh (by
    unfold gQ;rw[mem_map];rintro ⟨p,u,B⟩;have:=of_decide_eq_true (mem_filter.mp u).2;exact this B)
   rw[this]at y;cases y
  ·rw[DG _ z]at y;exact h.len x b y
end
section
variable{es:Mq}{n up:Int}{e:Ent}
theorem vE(h:bM es n=some e):(n,e)∈es:=by
 unfold bM at h;cases y:es.find? λp=>decide (p.1=n) with
 |none=>
  rw[y]at h;cases h
 |some p=>
  rw[y]at h;cases h;have f:=List.mem_of_find?_eq_some y;have b:=List.find?_some (p:=λp:Int×Ent=>decide (p.1=n)) y;have b:p.1=n:=of_decide_eq_true b;rw[<- b];exact f
theorem pM(h:bM es n=some e):(es.any λp=>decide (p.1=n))=true:=any_eq_true.mpr ⟨_,vE h,decide_eq_true rfl⟩
theorem uW(h:bM es n=some e)(b:Ent):(eO es n b).map (·.1)=es.map (·.1):=by
 unfold eO;rw[if_pos (pM h),map_map];apply map_congr_left;intro p _;show (if p.1=n then (p.1,b) else p).1=p.1;split <;> rfl
theorem Bv:∀(es:Mq)(n k:Int)(f:Ent),bM (es.map λp=>if p.1=n then (p.1,f) else p) k=if k=n then (bM es n).map (λ_=>f) else bM es k
 |[],n,k,f=>by
  split <;> rfl
 |p::r,n,k,f=>by
  have m:=Bv r n k f;unfold bM at m⊢;rw[map_cons,find?_cons,find?_cons,find?_cons];have o:(if p.1=n then (p.1,f) else p).1=p.1:=by split <;> rfl
  rw[o];by_cases g:p.1=k
  ·rw[decide_eq_true g];by_cases b:k=n
   ·subst b;rw[if_pos g,if_pos rfl,decide_eq_true g];rfl
   ·rw[if_neg (λz=>b (g.symm.trans z)),if_neg b]
  ·rw[decide_eq_false g];by_cases b:k=n
   ·subst b;rw[if_pos rfl,decide_eq_false g];rw[if_pos rfl]at m;exact m
   ·rw[if_neg b];rw[if_neg b]at m;exact m
theorem pJ(h:bM es n=some e)(b:Ent)(k:Int):bM (eO es n b) k=if k=n then some b else bM es k:=by
 unfold eO;rw[if_pos (pM h),Bv,h];rfl
theorem vF(es:Mq)(n k:Int):bM (gJ es n) k=if k=n then none else bM es k:=by
 unfold bM gJ;rw[List.find?_filter];by_cases h:k=n
 ·subst h;rw[if_pos rfl,find?_eq_none.mpr λp _=>by simp];rfl
 ·rw[if_neg h];have b:(λa:Int×Ent=>decide (decide (a.1≠n)=true/\decide (a.1=k)=true))=λa=>decide (a.1=k):=by
   funext p;by_cases z:p.1=k
   ·rw[decide_eq_true z];exact decide_eq_true ⟨decide_eq_true (λy=>h (z.symm.trans y)),rfl⟩
   ·rw[decide_eq_false z];exact decide_eq_false (λy=>Bool.false_ne_true y.2)
  exact congrArg (λf=>Option.map (·.2) (es.find? f)) b
theorem CN(l:Int)(b:Mf)(t:Int)(g:n+1<=up):dR l ⟨es,up,[]⟩ [("carried",n,t::b)]=some ⟨eO es n (b,t,l),up,[]⟩:=by
 show (match dC ⟨es,up,[]⟩ "carried" n (t::b) l with |none=>none |some f=>some f)=_;have:dC ⟨es,up,[]⟩ "carried" n (t::b) l=some ⟨eO es n (b,t,l),up,[]⟩:=by
  unfold dC;rw[if_neg (by decide),if_neg (by decide),if_neg (λy=>y rfl),if_neg (by decide),if_neg (by decide),if_pos rfl];unfold Hr;rw[if_neg (show ¬n+1 > up by omega)];rfl
 rw[this]
theorem El(l:Int)(h:bM es n=some e):dR l ⟨es,up,[]⟩ [("out",n,[])]=some ⟨eO es n (e.1,e.2.1+1,e.2.2),up,[]⟩:=by
 show (match dC ⟨es,up,[]⟩ "out" n [] l with |none=>none |some b=>some b)=_;have:dC ⟨es,up,[]⟩ "out" n [] l=some ⟨eO es n (e.1,e.2.1+1,e.2.2),up,[]⟩:=by
  unfold dC;rw[if_neg (by decide),if_neg (by decide),if_neg (λy=>y rfl),if_neg (by decide),if_neg (by decide),if_neg (by decide)];show (match bM es n with |none=>_ |some e=>_)=_;rw[h];rfl
 rw[this]
theorem CM(l:Int)(h:bM es n=some e):dR l ⟨es,up,[]⟩ [("done",n,[])]=some ⟨gJ es n,up,[]⟩:=by
 show (match dC ⟨es,up,[]⟩ "done" n [] l with |none=>none |some b=>some b)=_;have:dC ⟨es,up,[]⟩ "done" n [] l=some ⟨gJ es n,up,[]⟩:=by
  unfold dC;rw[if_neg (by decide),if_neg (by decide),if_neg (λy=>y rfl),if_neg (by decide),if_neg (by decide),if_neg (by decide)];show (match bM es n with |none=>_ |some e=>_)=_;rw[h];rfl
 rw[this]
end
structure EntOk(es:Mq)(up:Int)(c:Nat):Prop where
 up0:0<=up/\up<=9*(c:Int)
 so:(es.map (·.1)).Pairwise (· < ·)
 ent:∀k e,bM es k=some e->0<=k/\k+1<=up/\0<=e.2.1/\e.2.1<=9/\dY e.1/\e.1.length<=60
 cnt:es.length<=9*c
structure Qi(q:Qs)(n c:Nat):Prop where
 sz:Sz q n
 pt:q.B.parts=[]
 eo:EntOk q.B.es q.B.up c
 hk:∀p∈q.hs,∃e,bM q.B.es p.1=some e
 hn:(q.hs.map (·.1)).Nodup
 hl:q.hs.length<=c
 tr:1<=q.tries/\q.tries<=9
theorem EntOk.mono{b:Mq}{e:Int}{c f:Nat}(h:EntOk b e c)(g:c<=f):EntOk b e f:=⟨⟨h.up0.1,by have:=h.up0.2;omega⟩,h.so,h.ent,by have:=h.cnt;omega⟩
section
variable{q:Qs}{n c:Nat}
theorem Qi.mono(h:Qi q n c){b e:Nat}(g:n<=b)(f:c<=e):Qi q b e:=⟨⟨h.sz.left,h.sz.f0,Int.le_trans h.sz.top (by omega),h.sz.keys,h.sz.len,h.sz.m8,h.sz.m67⟩,h.pt,h.eo.mono f,h.hk,h.hn,le_trans h.hl f,h.tr⟩
theorem Qi.wok(h:Qi q n c)(b:n<=70000)(e:c<=50)(f:m<=50):WOk q m:=by
 have:=h.eo.cnt;have:=h.eo.up0;have g:q.B.parts.length=0:=by rw[h.pt];rfl
 exact h.sz.wok (by omega) h.eo.up0.1 (by omega)
theorem Qi.write(h:Qi q n c)(t:n<=70000)(u:c<=50){rs:Mr}(len:(cH rs).length<=700)(b:Bk)(f:Mt){c':Nat}(m:b.parts=[])(o:EntOk b.es b.up c')(r:∀p∈f,∃e,bM b.es p.1=some e)(g:(f.map (·.1)).Nodup)(s:f.length<=c'):Qi {nM (aZ q) (cH rs) b with hs:=f} (n+1) c':=by
 have:=h.eo.cnt;have:=h.eo.up0;have x:q.B.parts.length=0:=by rw[h.pt];rfl
 refine⟨(h.sz.step (by omega) h.eo.up0.1 (by omega) (by omega) len b f).1,m,o,r,g,s,?_⟩;have:=(cP q).2.2.1;show 1<=(aZ q).tries/\(aZ q).tries<=9;rw[this];exact h.tr
theorem Qi.bk(h:Qi q n c):(aZ q).B=⟨q.B.es,q.B.up,[]⟩:=by
 rw[(cP q).2.2.2,<- h.pt]
theorem mP(h:EntOk b g c):∀p∈b,p.1<g:=λp m=>by
 obtain⟨e,o⟩:=i9 (mem_map_of_mem (f:=(·.1)) m);have:=(h.ent _ e o).2.1;omega
theorem x4(e:Ent)(h:∀p∈b,p.1<m)(k:Int):bM (b++[(m,e)]) k=if k=m then some e else bM b k:=by
 unfold bM;rw[List.find?_append];by_cases z:k=m
 ·subst z;have f:b.find? (λp=>decide (p.1=k))=none:=by
   rw[find?_eq_none];intro p g y;have:=h p g;have:=of_decide_eq_true y;omega
  rw[f,if_pos rfl,find?_cons,decide_eq_true rfl];rfl
 ·rw[if_neg z,find?_cons,decide_eq_false (λy=>z y.symm)];cases b.find? (λp=>decide (p.1=k)) <;> rfl
theorem Bz(h:EntOk m f c)(g:dY b)(bl:b.length<=60)(d:Nat)(o:f+1<=9*(d:Int))(r:m.length+1<=9*d):EntOk (m++[(f,(b,0,s))]) (f+1) d:=by
 refine⟨⟨by have:=h.up0.1;omega,o⟩,?_,λk e y=>?_,by rw[length_append];exact r⟩
 ·rw[map_append,pairwise_append];refine⟨h.so,List.pairwise_singleton _ _,λx t y u=>?_⟩;rw[mem_singleton.mp u];obtain⟨p,B,rfl⟩:=mem_map.mp t;exact mP h p B
 ·rw[x4 _ (mP h)]at y;split at y
  ·cases y;rename_i z;have:=h.up0.1;exact⟨by omega,by omega,Int.le_refl _,by show (0:Int)<=9;decide,g,bl⟩
  ·obtain⟨D,G,E⟩:=h.ent k e y;exact⟨D,by omega,E⟩
theorem EX{b:Mq}{m:Int}{e:Ent}(g:∀p∈b,p.1<m){f:Mt}(h:∀p∈f,∃e,bM b p.1=some e):∀p∈f,∃o,bM (b++[(m,e)]) p.1=some o:=λp r=>by
 obtain⟨s,t⟩:=h p r;rw[x4 _ g];split
 ·exact⟨_,rfl⟩
 ·exact⟨s,t⟩
theorem Qi.put(h:Qi q n c)(g:n<=70000)(m:c<=49){b:Mf}(e:dY b)(bl:b.length<=60):∃f,dR (aZ q).last (aZ q).B [("put",q.B.up,b)]=some f/\Qi (putQ q b f) (n+1) (c+1):=by
 have u:=h.eo.up0;have o:=h.eo.cnt;refine⟨⟨q.B.es++[(q.B.up,(b,0,(aZ q).last))],q.B.up+1,[]⟩,?_,?_⟩
 ·rw[h.bk];exact EZ (B:=⟨q.B.es,q.B.up,[]⟩) _ b rfl (mP h.eo) rfl
 ·have:=h.write (c':=c+1) g (by omega) (rs:=[("put",q.B.up,b)]) (by rw[iW,length_append,eE];show 7+b.length+0<=700;omega) ⟨q.B.es++[(q.B.up,(b,0,(aZ q).last))],q.B.up+1,[]⟩ (aZ q).hs rfl (Bz h.eo e bl (c+1) (by omega) (by omega)) ?_ ?_ ?_
  ·exact this
  ·rw[(cP q).2.1];exact EX (mP h.eo) h.hk
  ·rw[(cP q).2.1];exact h.hn
  ·rw[(cP q).2.1];exact le_succ_of_le h.hl
def wO(s:Int):Mq->Int->Md->Mq
 |e,_,[]=>e
 |e,f,b::r=>wO s (e++[(f,(b,0,s))]) (f+1) r
def jR(e:Int):Md->List (Int×Mf)
 |[]=>[]
 |b::r=>(e,b)::jR (e+1) r
theorem FZ(b:Int)(n:Nat):pH b (n+1)=b::pH (b+1) n:=by
 unfold pH;rw[range_succ_eq_map,map_cons,map_map];show (b+((0:Nat):Int))::_=_;rw[show b+((0:Nat):Int)=b by omega];congr 1;apply map_congr_left;intro k _;show b+((k+1:Nat):Int)=_;omega
theorem rS(f:Int)(b:Mf)(e:Md):i7 f (b::e)=(("part",f,b):Rw)::i7 (f+1) e:=by
 unfold i7;rw[length_cons,range_succ_eq_map,map_cons,map_map];congr 1
 ·simp
 ·apply map_congr_left;intro x _;show (("part",f+((x+1:Nat):Int),(b::e).getD (x+1) []):Rw)=(("part",f+1+(x:Int),e.getD x []):Rw);rw[show f+((x+1:Nat):Int)=f+1+(x:Int) by omega];rfl
theorem rT:∀(f:Int)(e:Md),(jR f e).map (·.1)=pH f e.length
 |f,[]=>rfl
 |f,b::e=>by
  show f::(jR (f+1) e).map (·.1)=pH f (e.length+1);rw[rT (f+1) e,FZ]
theorem vO(e:Int)(o:Mq)(p:Int)(rest:Mr):∀(g:Int)(f:Md)(m:List (Int×Mf)),dR e ⟨o,p,m⟩ (i7 g f++rest)=dR e ⟨o,p,m++jR g f⟩ rest
 |g,[],m=>by
  show dR e ⟨o,p,m⟩ rest=dR e ⟨o,p,m++[]⟩ rest;rw[append_nil]
 |g,b::f,m=>by
  rw[rS];show dR e ⟨o,p,m++[(g,b)]⟩ (i7 (g+1) f++rest)=dR e ⟨o,p,m++(g,b)::jR (g+1) f⟩ rest;rw[vO e o p rest (g+1) f,append_assoc];rfl
theorem BG(s:Int):∀(f:Md)(g:Mq)(e:Int),(∀p∈g,p.1<e)->sD s ⟨g,e,[]⟩ (jR e f)=some ⟨wO s g e f,e+(f.length:Int),[]⟩
 |[],g,e,_=>by
  show some _=some _;rw[show e+(([]:Md).length:Int)=e from Int.add_zero e];rfl
 |b::f,g,e,h=>by
  have o:mC ⟨g,e,[]⟩ e b s=some ⟨g++[(e,(b,0,s))],e+1,[]⟩:=by
   unfold mC;rw[if_neg (by show ¬e<e;omega),EC _ h]
  show (match mC ⟨g,e,[]⟩ e b s with |none=>none |some r=>sD s r (jR (e+1) f))=_;rw[o]
  try dsimp only
  rw[BG s f _ _ (λp m=>by
   rw[mem_append,mem_singleton]at m;rcases m with m |rfl
   ·have:=h p m;omega
   ·show e<e+1;omega)]
  rw[length_cons,show e+1+(f.length:Int)=e+((f.length+1:Nat):Int) by omega];rfl
theorem Bu(s:Int)(h:∀p∈f,p.1<e):dR s ⟨f,e,[]⟩ (kT e b)=some ⟨wO s f e b,e+(b.length:Int),[]⟩:=by
 unfold kT;rw[vO,List.nil_append];show (match dC ⟨f,e,jR e b⟩ "deal" e [(b.length:Int)] s with |none=>none |some g=>some g)=_;have:dC ⟨f,e,jR e b⟩ "deal" e [(b.length:Int)] s=some ⟨wO s f e b,e+(b.length:Int),[]⟩:=by
  unfold dC;rw[if_neg (by decide),if_pos rfl];unfold yO;rw[if_pos (by
   show (jR e b).map (·.1)=(List.range ((b.length:Int)).toNat).map _;rw[rT,Int.toNat_natCast];rfl)]
  exact BG s b f e h
 rw[this]
theorem Eb(s:Int){d:Nat}:∀(f:Md)(m:Mq)(g:Int)(o:Mt),EntOk m g d->(∀b∈f,dY b/\b.length<=60)->g+(f.length:Int)<=9*(d:Int)->m.length+f.length<=9*d->(∀p∈o,∃e,bM m p.1=some e)->
  EntOk (wO s m g f) (g+(f.length:Int)) d/\∀p∈o,∃e,bM (wO s m g f) p.1=some e
 |[],m,g,o,h,_,_,_,u=>⟨by rw[show g+(([]:Md).length:Int)=g from Int.add_zero g];exact h,u⟩
 |b::f,m,g,o,h,y,z,B,u=>by
  rw[length_cons]at z B;have t:=y b mem_cons_self;have D:=Bz h (s:=s) t.1 t.2 d (by omega) (by omega);have r:=Eb s f _ _ o D (λx E=>y x (mem_cons_of_mem _ E)) (by omega) (by rw[length_append];show m.length+1+f.length<=_;omega) (EX (mP h) u);rw[length_cons,show g+((f.length+1:Nat):Int)=g+1+(f.length:Int) by omega];exact r
theorem E5(a b:Mr):cH (a++b)=cH a++cH b:=by
 unfold cH;rw[map_append,List.flatten_append]
theorem xX:∀(e:Md)(f:Int),(∀b∈e,b.length<=60)->(cH (i7 f e)).length<=67*e.length
 |[],f,_=>le_refl _
 |b::e,f,h=>by
  rw[rS,iW,length_append,eE,length_cons];have:=xX e (f+1) (λx g=>h x (mem_cons_of_mem _ g));have:=h b mem_cons_self;show 7+b.length+_<=_;omega
theorem Qi.all(h:Qi q n c)(o:n<=70000)(s:c<=49)(t:e.length<=9)(g:∀b∈e,dY b/\b.length<=60):∃m,dR (aZ q).last (aZ q).B (kT q.B.up e)=some m/\Qi (allQ q e m) (n+1) (c+1):=by
 have u:=h.eo.up0;have x:=h.eo.cnt;obtain⟨p,r⟩:=Eb (aZ q).last (d:=c+1) e q.B.es q.B.up q.hs (h.eo.mono (by omega)) g (by omega) (by omega) h.hk;refine⟨⟨wO (aZ q).last q.B.es q.B.up e,q.B.up+(e.length:Int),[]⟩,?_,?_⟩
 ·rw[h.bk];exact Bu _ (mP h.eo)
 ·have:=h.write (c':=c+1) o (by omega) (rs:=kT q.B.up e) ?_ ⟨wO (aZ q).last q.B.es q.B.up e,q.B.up+(e.length:Int),[]⟩ (aZ q).hs rfl p ?_ ?_ ?_
  ·exact this
  ·unfold kT;rw[E5,length_append];have:=xX e q.B.up λb f=>(g b f).2;have:(cH ([("deal",q.B.up,[(e.length:Int)])]:Mr)).length=8:=by rw[iW,length_append,eE];rfl
   omega
  ·rw[(cP q).2.1];exact r
  ·rw[(cP q).2.1];exact h.hn
  ·rw[(cP q).2.1];exact le_succ_of_le h.hl
theorem AS{f:Mq}{g:Int}{d:Nat}(h:EntOk f g d){k:Int}{e e':Ent}(b:bM f k=some e)(o:e'.1=e.1)(p:0<=e'.2.1)(r:e'.2.1<=9):EntOk (eO f k e') g d:=by
 refine⟨h.up0,by rw[uW b];exact h.so,λm em y=>?_,?_⟩
 ·rw[pJ b]at y;split at y
  ·cases y;rename_i z;subst z;obtain⟨s,t,B,D,u,x⟩:=h.ent _ e b;exact⟨s,t,p,r,by rw[o];exact u,by rw[o];exact x⟩
  ·exact h.ent m em y
 ·have:=congrArg List.length (uW b e');rw[length_map,length_map]at this;rw[this];exact h.cnt
theorem DN{b:Mq}{k:Int}{e m:Ent}(o:bM b k=some e){g:Mt}(h:∀p∈g,∃e,bM b p.1=some e):∀p∈g,∃f,bM (eO b k m) p.1=some f:=λp r=>by
 obtain⟨s,t⟩:=h p r;rw[pJ o];split
 ·exact⟨_,rfl⟩
 ·exact⟨s,t⟩
theorem wA(k:Str)(m:Int):(cH [(k,m,[])]).length<=700:=by
 rw[Ic];decide
theorem Qi.out(h:Qi q n c)(s:n<=70000)(D:c<=49){k:Int}{e:Ent}(f:bM q.B.es k=some e)(E:e.2.1<q.tries)(t:bY q.hs k=none)(x:Str):∃m,dR (aZ q).last (aZ q).B [("out",k,[])]=some m/\m.es=eO q.B.es k (e.1,e.2.1+1,e.2.2)/\Qi (outQ q k x m) (n+1) (c+1):=by
 obtain⟨_,_,G,_⟩:=h.eo.ent k e f;have H:=h.tr;refine⟨_,by rw[h.bk];exact El _ f,rfl,?_⟩;have u:=AS (e':=(e.1,e.2.1+1,e.2.2)) (h.eo.mono (show c<=c+1 by omega)) f rfl (by show 0<=e.2.1+1;omega) (by show e.2.1+1<=9;omega);refine h.write s (by omega) (wA _ _) ⟨_,_,[]⟩ (q.hs++[(k,(x,q.now))]) rfl u (λp g=>?_) ?_ ?_
 ·rw[mem_append,mem_singleton]at g;rcases g with g |rfl
  ·exact DN f h.hk p g
  ·exact⟨_,by rw[pJ f,if_pos rfl]⟩
 ·rw[map_append,nodup_append];refine⟨h.hn,by simp,λa B b o=>?_⟩;have o:b∈[k]:=o;rw[mem_singleton.mp o];intro z;subst z;obtain⟨y,J,r⟩:=mK B;rw[t]at r;cases r
 ·rw[length_append];have:=h.hl;show q.hs.length+1<=_;omega
theorem Em{b:Mq}{n f:Int}{e:Ent}(l:Int)(h:bM b n=some e):dR l ⟨b,f,[]⟩ [("new",n,[])]=some ⟨eO b n (e.1,0,e.2.2),f,[]⟩:=by
 show (match dC ⟨b,f,[]⟩ "new" n [] l with |none=>none |some g=>some g)=_;have:dC ⟨b,f,[]⟩ "new" n [] l=some ⟨eO b n (e.1,0,e.2.2),f,[]⟩:=by
  unfold dC;rw[if_neg (by decide),if_neg (by decide),if_neg (λy=>y rfl),if_neg (by decide),if_neg (by decide),if_neg (by decide)];show (match bM b n with |none=>_ |some e=>_)=_;rw[h];rfl
 rw[this]
theorem Qi.new(h:Qi q n c)(g:n<=70000)(o:c<=49){k:Int}{e:Ent}(b:bM q.B.es k=some e):∃f,dR (aZ q).last (aZ q).B [("new",k,[])]=some f/\Qi (newQ q k f) (n+1) (c+1):=by
 refine⟨_,by rw[h.bk];exact Em _ b,?_⟩;have m:=AS (e':=(e.1,0,e.2.2)) (h.eo.mono (show c<=c+1 by omega)) b rfl (Int.le_refl _) (by show (0:Int)<=9;decide);refine h.write g (by omega) (wA _ _) ⟨_,_,[]⟩ (aZ q).hs rfl m ?_ ?_ ?_
 ·rw[(cP q).2.1];exact DN b h.hk
 ·rw[(cP q).2.1];exact h.hn
 ·rw[(cP q).2.1];exact le_succ_of_le h.hl
theorem IU(h:p∈dropH b k):p∈b/\p.1≠k:=by
 obtain⟨e,f⟩:=mem_filter.mp h;exact⟨e,of_decide_eq_true f⟩
theorem Ec{b:Mt}(P:Int×(Str×Int)->Bool)(h:(b.map (·.1)).Nodup):((b.filter P).map (·.1)).Nodup:=h.sublist (List.filter_sublist.map _)
theorem Qi.done(h:Qi q n c)(f:n<=70000)(z:c<=49){k:Int}{e:Ent}(g:bM q.B.es k=some e):∃b,dR (aZ q).last (aZ q).B [("done",k,[])]=some b/\Qi (Kq q k b) (n+1) (c+1):=by
 refine⟨_,by rw[h.bk];exact CM _ g,?_⟩;have o:EntOk (gJ q.B.es k) q.B.up (c+1):=by
  refine(EntOk.mono ⟨h.eo.up0,?_,λm em y=>?_,?_⟩ (show c<=c+1 by omega))
  ·unfold gJ;exact h.eo.so.sublist (List.filter_sublist.map _)
  ·rw[vF]at y;split at y
   ·cases y
   ·exact h.eo.ent m em y
  ·exact le_trans (length_filter_le _ _) h.eo.cnt
 refine h.write f (by omega) (wA _ _) ⟨_,_,[]⟩ (dropH q.hs k) rfl o (λp r=>?_) (Ec _ h.hn) ?_
 ·obtain⟨s,t⟩:=IU r;obtain⟨u,x⟩:=h.hk p s;exact⟨u,by rw[vF,if_neg t];exact x⟩
 ·exact le_trans (length_filter_le _ _) (le_succ_of_le h.hl)
theorem Qi.held(h:Qi q n c)(P:Int×(Str×Int)->Bool)(b:Int):Qi {q with now:=b,hs:=q.hs.filter P} n (c+1):=
 ⟨⟨h.sz.left,h.sz.f0,h.sz.top,h.sz.keys,h.sz.len,h.sz.m8,h.sz.m67⟩,h.pt,h.eo.mono (by omega),λp e=>h.hk p (mem_filter.mp e).1,Ec _ h.hn,le_trans (length_filter_le _ _) (le_succ_of_le h.hl),h.tr⟩
theorem Qi.drop(h:Qi q n c)(m:n<=70000)(e:q.first<q.last):q.D.left=none/\eZ q.first/\(∃f,aR q.D.fs (bK q.first)=some f)/\Qi (B4 q) n c:=by
 obtain⟨a,b,g,d⟩:=h.sz.drop (by omega) e;exact⟨a,b,g,⟨d,h.pt,h.eo,h.hk,h.hn,h.hl,h.tr⟩⟩
theorem MM{n t:Int}{b:Mf}(f:0<=n)(g:n<=999999)(u:0<=t)(m:t<=9)(o:dY b)(y:b.length<=60):bQ (cI ("carried",n,t::b))=true:=by
 show (dM.contains "carried" && (bL 0 999999 (.int n) && (dQ (.tuple ((t::b).map .int)) && fF "carried" (bX (.tuple ((t::b).map .int))))))=true;have p:bL 0 999999 (.int n)=true:=by
  simp only[bL,and_eq_true,decide_eq_true_eq];exact⟨f,g⟩
 have r:dQ (.tuple ((t::b).map .int))=true:=tH (ns:=t::b) (λx e=>by
  rcases mem_cons.mp e with rfl |e
  ·omega
  ·exact o x e)
 have s:fF "carried" (t::b)=true:=by
  unfold fF;rw[if_neg (by decide),if_pos rfl];rw[decide_eq_true (show 1<=(t::b).length by rw[length_cons];omega),decide_eq_true (show (t::b).length<=61 by rw[length_cons];omega),decide_eq_true (show (t::b).headD 0<=9 from m)];rfl
 rw[p,r,gF,s];decide +kernel
theorem DC(q:Qs):(aZ q).first=q.first/\q.last<=(aZ q).last:=by
 unfold aZ;split
 ·exact⟨rfl,by show q.last<=q.last+1;omega⟩
 ·exact⟨rfl,Int.le_refl _⟩
theorem Qi.car(h:Qi q n c)(f:n<=70000)(y:c<=49){k:Int}{e:Ent}(b:bM q.B.es k=some e):bQ (cI (sN k e))=true/\WOk q 1/\dR (aZ q).last (aZ q).B [sN k e]=some ⟨eO q.B.es k (e.1,e.2.1,(aZ q).last),q.B.up,[]⟩/\Qi (nM (aZ q) (cH [sN k e]) ⟨eO q.B.es k (e.1,e.2.1,(aZ q).last),q.B.up,[]⟩) (n+1) c:=by
 obtain⟨o,p,g,m,r,s⟩:=h.eo.ent k e b;have u:=h.eo.up0;have t:sN k e=(("carried",k,e.2.1::e.1):Rw):=by
  unfold sN;rw[if_neg (show ¬(9:Int)<e.2.1 by omega)]
 rw[t];refine⟨MM o (by omega) g m r s,h.wok f (by omega) (by omega),by rw[h.bk];exact CN _ _ _ p,?_⟩;have x:=AS (e':=(e.1,e.2.1,(aZ q).last)) h.eo b rfl g m;refine h.write f (by omega) (rs:=[("carried",k,e.2.1::e.1)]) (by rw[iW,length_append,eE];show 7+(e.1.length+1)+0<=700;omega) ⟨_,_,[]⟩ (aZ q).hs rfl x ?_ ?_ ?_
 ·rw[(cP q).2.1];exact DN b h.hk
 ·rw[(cP q).2.1];exact h.hn
 ·rw[(cP q).2.1];exact h.hl
theorem Qi.first(b:1<=m)(f:m<=2000)(g:1<=t)(o:t<=9):Qi (nP m h t d) 0 0:=by
 unfold nP;refine⟨⟨rfl,Int.le_refl _,Int.le_refl _,⟨0,rfl,rfl⟩,λx r e=>?_,b,f⟩,rfl,⟨⟨Int.le_refl _,Int.le_refl _⟩,List.Pairwise.nil,(λk e y=>by cases y),le_refl _⟩,(λp s=>by cases s),List.nodup_nil,le_refl _,g,o⟩;have e:aR [(bK 0,yE)] x=some r:=e;unfold aR at e;rw[find?_cons]at e;split at e
 ·cases e;show ((yE.length:Nat):Int)<=m+706;have:yE.length=7:=by decide +kernel
  omega
 ·cases e
end
abbrev La:=List (Int×(Mf×Int))
structure Ab where
 ls:La
 up:Int
 hs:Mt
 now:Int
def bare(p:Int×Ent):Int×(Mf×Int):=(p.1,(p.2.1,p.2.2.1))
def fT(q:Qs):Ab:=⟨q.B.es.map bare,q.B.up,q.hs,q.now⟩
def gE(b:La)(n:Int):Option (Mf×Int):=(b.find? λp=>decide (p.1=n)).map (·.2)
def setL(b:La)(n:Int)(e:Mf×Int):La:=b.map λp=>if p.1=n then (p.1,e) else p
def dropL(b:La)(n:Int):La:=b.filter λp=>decide (p.1≠n)
def Ik(e:Int):Md->La
 |[]=>[]
 |b::f=>(e,(b,0))::Ik (e+1) f
def Dn(l:Mf):Mf:=l.mergeSort λa b=>decide (a<=b)
def mF(a:Ab)(t:Int->Bool):Mf:=((a.ls.map (·.1)).filter (kP a.hs)).filter λn=>t ((gE a.ls n).getD ([],0)).2
def EQ(b:Int)(a:Ab)(m:Int):Mf:=(Dn (a.hs.map (·.1))).filter λn=>decide (a.now+m-((bY a.hs n).getD ("",0)).2 > b)
def lI(f e:Int)(a:Ab):rH->Ab
 | .put b=>{a with ls:=a.ls++[(a.up,(b,0))],up:=a.up+1}
 | .all o=>{a with ls:=a.ls++Ik a.up o,up:=a.up+(o.length:Int)}
 | .take x=>match mF a λt=>decide (t<e) with
  |[]=>a
  |m::_=>{a with ls:=setL a.ls m (((gE a.ls m).getD ([],0)).1,((gE a.ls m).getD ([],0)).2+1),hs:=a.hs++[(m,(x,a.now))] }
 | .done x m=>if ((bY a.hs m).map (·.1))=some x then {a with ls:=dropL a.ls m,hs:=a.hs.filter λp=>decide (p.1≠m)} else a
 | .back x m=>if ((bY a.hs m).map (·.1))=some x then {a with hs:=a.hs.filter λp=>decide (p.1≠m)} else a
 | .wait m=>{a with now:=a.now+m,hs:=a.hs.filter λp=>decide (p.1∉EQ f a m)}
 | .new m=>if m∈mF a (λt=>decide (t ≥ e)) then {a with ls:=setL a.ls m (((gE a.ls m).getD ([],0)).1,0)} else a
 | .sweep=>a
 | .carry=>a
theorem Ce(l:Mf):List.Perm (Dn l) l:=List.mergeSort_perm l _
theorem Ge(l:Mf):(Dn l).Pairwise (· <= ·):=by
 have h:=List.pairwise_mergeSort (le:=λa b:Int=>decide (a<=b)) (λa b c e f=>by simp only[decide_eq_true_eq]at *;omega) (λa b=>by simp only[Bool.or_eq_true,decide_eq_true_eq];omega) l;exact h.imp λh=>of_decide_eq_true h
theorem uH(p:List.Perm b l)(h:b.Pairwise (· <= ·)):b=Dn l:=eJ (p.trans (Ce l).symm) h (Ge l)
section
variable{es:Mq}
theorem GB(es:Mq):(es.map bare).map (·.1)=es.map (·.1):=by
 rw[map_map];rfl
theorem qW(es:Mq)(n:Int):gE (es.map bare) n=(bM es n).map λe=>(e.1,e.2.1):=by
 unfold gE bM;rw[List.find?_map,Option.map_map,Option.map_map];rfl
theorem CV(es:Mq)(n:Int):eV es n=((gE (es.map bare) n).getD ([],0)).2:=by
 rw[qW];unfold eV;cases bM es n <;> rfl
theorem BI(h:bM es n=some e)(b:Ent):(eO es n b).map bare=setL (es.map bare) n (b.1,b.2.1):=by
 unfold eO setL;rw[if_pos (pM h),map_map,map_map];refine map_congr_left λp _=>?_;show bare (if p.1=n then _ else _)=if (bare p).1=n then _ else _
 by_cases z:p.1=n
 ·rw[if_pos z,if_pos (show (bare p).1=n from z)];rfl
 ·rw[if_neg z,if_neg (show ¬(bare p).1=n from z)]
theorem F3(es:Mq)(n:Int):(gJ es n).map bare=dropL (es.map bare) n:=by
 unfold gJ dropL;rw[filter_map];rfl
theorem m7(q:Qs)(t:Int->Int->Bool):(((q.B.es.map (·.1)).filter (kP q.hs)).filter λn=>t (eV q.B.es n) q.tries)=mF (fT q) λx=>t x q.tries:=by
 unfold mF fT
 try dsimp only
 rw[GB];congr 1;funext n;rw[CV]
theorem CO(s:Int):∀(f:Md)(es:Mq)(e:Int),(wO s es e f).map bare=es.map bare++Ik e f
 |[],es,e=>(append_nil _).symm
 |b::g,es,e=>by
  show (wO s (es++[(e,(b,0,s))]) (e+1) g).map bare=_;rw[CO s g _ (e+1),map_append,append_assoc];rfl
end
theorem Step.keepS(st:Step L m n p)(S:aG f n)(g:∀b,gT L b->f b=none):aG f p/\∀b,gT m b->f b=none:=by
 refine⟨λb o e=>st.frm b o (S b o e) (λz=>by rw[g b z]at e;cases e),λb q=>?_⟩;rcases st.grow b q with z |z
 ·exact g b z
 ·exact S.free z
theorem QueueW.keep(h:QueueW A H L q m)(s:∀b o,H b=some o->gT L b->g b=some o)(t:fX H g):QueueW A g L q m:=by
 obtain⟨n,p⟩:=h.self;obtain⟨r,u,x⟩:=h.held;exact⟨⟨n,s _ _ p (.inl rfl)⟩,h.disk.keep λb o e f=>s b o e (.inr (.inr (.inr f))),h.book.keep (λb o e f=>s b o e (.inr (.inr (.inl f)))) t,⟨r,s _ _ u (.inr (.inl rfl)),x.t t⟩,h.a_bd,h.a_qu,h.a_hd⟩
structure Kc(A:Ad)(H:Hp)(L0 D0:Addr)(H1:Hp)(L:Pl)(q:Qs):Prop where
 same:aG H H1
 qu:L.qu=L0
 dk:L.dk=D0
 fr:∀b,gT L b->H b=none
 qw:QueueW A H1 L q false
def Off(H:Hp)(L:Pl)(a:Addr):Prop:=H a=none/\¬gT L a
section
variable{A:Ad}{H H1 H2:Hp}{L0 D0:Addr}{L L':Pl}{q q':Qs}{n:Nat}{Q:V->Hp->Prop}{E:XK}
theorem Kc.sames(k:Kc A H L0 D0 H1 L q)(s:aG H1 H2):Kc A H L0 D0 H2 L q:=⟨k.same.trans s,k.qu,k.dk,k.fr,k.qw.same s⟩
theorem Kc.step(k:Kc A H L0 D0 H1 L q)(st:Step L L' H1 H2)(b:QueueW A H2 L' q' false):Kc A H L0 D0 H2 L' q':=by
 obtain⟨s,f⟩:=st.keepS k.same k.fr;exact⟨s,st.qu.trans k.qu,st.dk.trans k.dk,f,b⟩
theorem Off.step(f:Off H L a)(st:Step L L' H1 H2)(b:H1 a=some o):Off H L' a/\H2 a=some o:=⟨⟨f.1,st.not b f.2⟩,st.frm _ _ b f.2⟩
theorem Kc.off(k:Kc A H L0 D0 H1 L q)(b:H1 a=none):Off H L a:=⟨k.same.free b,λz=>by
 obtain⟨o,e⟩:=fV k.qw z;rw[e]at b;cases b⟩
theorem Kc.self(k:Kc A H L0 D0 H1 L q):∃b,H1 L0=some (.ins A.queue b (quF L q false)):=by
 obtain⟨b,h⟩:=k.qw.self;rw[k.qu]at h;exact⟨b,h⟩
theorem Kc.disk(k:Kc A H L0 D0 H1 L q):DiskAt A.disk H1 D0 L.df L.kvs q.D:=by
 have:=k.qw.disk;rw[k.dk]at this;exact this
end
def MW(S:Addr->Prop)(H e:Hp):Prop:=∀b o,H b=some o->¬S b->e b=some o
theorem MW.tup(s:MW S H g)(m:∀b,S b->∀f,H b≠some (.tup f)):fX H g:=λb f e=>s b _ e λz=>m b z f e
open Classical in
section
variable{A:Ad}{H H1 H2:Hp}{L0 D0:Addr}{L L':Pl}{q q':Qs}{n:Nat}{Q:V->Hp->Prop}{E:XK}
theorem Kc.buts(k:Kc A H L0 D0 H1 L q)(f:MW S H1 H2)(off:∀b,S b->Off H L b)(g:∀b,S b->∀m,H1 b≠some (.tup m)):Kc A H L0 D0 H2 L q:=
 ⟨λb o e=>f b o (k.same b o e) (λz=>by rw[(off b z).1]at e;cases e),k.qu,k.dk,k.fr,k.qw.keep (λb o e p=>f b o e λz=>(off b z).2 p) (f.tup g)⟩
end
def Ae:rH->Prop
 | .put b=>dY b/\b.length<=60
 | .all e=>1<=e.length/\e.length<=9/\∀b∈e,dY b/\b.length<=60
 | .take x=>gU x
 | .done x n=>gU x/\0<=n/\n<=999999
 | .back x n=>gU x/\0<=n/\n<=999999
 | .wait m=>1<=m/\m<=99
 | .new n=>0<=n/\n<=999999
 | .sweep=>True
 | .carry=>True
def Il(q b:Qs):Prop:=b.tries=q.tries/\b.hold=q.hold/\b.most=q.most
def DoR(q:Qs)(d:rH)(b:Qs):Prop:=Il q b/\fT b=lI q.hold q.tries (fT q) d
theorem kN(q:Qs):(aZ q).tries=q.tries/\(aZ q).hold=q.hold/\(aZ q).most=q.most:=by
 unfold aZ;split <;> exact⟨rfl,rfl,rfl⟩
theorem En(q:Qs)(f:Mf)(b:Bk)(e:Mt):fT {nM (aZ q) f b with hs:=e}=⟨b.es.map bare,b.up,e,q.now⟩:=by
 show Ab.mk _ _ _ (aZ q).now=_;rw[(cP q).1];rfl
theorem qD(q:Qs)(e:Mf)(b:Bk):fT (nM (aZ q) e b)=⟨b.es.map bare,b.up,q.hs,q.now⟩:=by
 show Ab.mk _ _ (aZ q).hs (aZ q).now=_;rw[(cP q).1,(cP q).2.1];rfl
theorem x6(z:Qi q n c)(h:bY q.hs k=some o):∃e,bM q.B.es k=some e:=by
 unfold bY at h;cases y:q.hs.find? λp=>decide (p.1=k) with
 |none=>
  rw[y]at h;cases h
 |some p=>
  have f:=List.mem_of_find?_eq_some y;have b:=List.find?_some (p:=λp:Int×(Str×Int)=>decide (p.1=k)) y;have b:p.1=k:=of_decide_eq_true b;rw[<- b];exact z.hk p f
theorem Bq{b:Mt}{m e:Int}{x:Str}(h:bY b m=some (x,e)):(bY b m).map (·.1)=some x:=by rw[h];rfl
theorem EY{b:Mt}{m:Int}{x:Str}(h:∀f,bY b m≠some (x,f)):¬(bY b m).map (·.1)=some x:=by
 intro e;cases y:bY b m with
 |none=>rw[y]at e;cases e
 |some p=>
  rw[y]at e;injection e with e
  exact h p.2 (by rw[y,<- e])
theorem DD{o : Type}:∀{g:List (Int×o)}{p r:Int×o},(g.map (·.1)).Nodup->p∈g->r∈g->p.1=r.1->p=r
 |[],_,_,_,n,_,_=>by cases n
 |x::g,p,r,m,n,hr,e=>by
  rw[map_cons,nodup_cons]at m;rcases mem_cons.mp n with f |f
  ·rcases mem_cons.mp hr with b |b
   ·rw[f,b]
   ·exact absurd (by rw[<- f,e];exact mem_map_of_mem b) m.1
  ·rcases mem_cons.mp hr with b |b
   ·exact absurd (by rw[<- b,<- e];exact mem_map_of_mem f) m.1
   ·exact DD m.2 f b e
theorem Gh{f:Mq}(g:(f.map (·.1)).Pairwise (· < ·)){n s:Int}{e:Ent}(h:bM f n=some e):(eO f n (e.1,e.2.1,s)).map bare=f.map bare:=by
 unfold eO;rw[if_pos (pM h),map_map];refine map_congr_left λp m=>?_;show bare (if p.1=n then _ else _)=bare p;by_cases y:p.1=n
 ·have o:p.2=e:=by
   have q:=vE h;have r:(f.map (·.1)).Nodup:=g.imp λa b=>by omega
   exact congrArg Prod.snd (DD r m q y)
  rw[if_pos y];unfold bare;rw[o]
 ·rw[if_neg y]
theorem Fd(h:m∈qQ q ms):m∈ms/\bY q.hs m=none/\eV q.B.es m<q.tries:=by
 obtain⟨b,e⟩:=mem_filter.mp h;obtain⟨f,g⟩:=mem_filter.mp b;exact⟨f,Option.isNone_iff_eq_none.mp g,of_decide_eq_true e⟩
section
variable{A:Ad}{H H1:Hp}{L0 D0:Addr}{L:Pl}{q:Qs}{n c:Nat}{Q:V->Hp->Prop}{E:XK}
theorem Ep(k:Kc A H L0 D0 H1 L q)(z:Qi q n c)(t:n<=60000)(u:c<=48)(go:∀v f b H2,Step L f H1 H2->Kc A H L0 D0 H2 f b->Qi b (n+500) c->Il q b/\fT b=fT q->Q v H2):iR A [.ref L0] H1 Q E:=by
 have x:=z.eo.cnt;have y:(q.B.es.map (·.1)).Pairwise (· <= ·):=z.eo.so.imp Int.le_of_lt;rw[<- k.qu];refine⟨L,q,λb=>Qi b n c/\Il q b/\fT b=fT q,rfl,k.qw,⟨z,⟨rfl,rfl,rfl⟩,rfl⟩,λb e=>?_,λf b H2 st m e _=>?_⟩
 ·have g:=e.1;have:=g.eo.cnt;refine⟨⟨by omega,g.eo.so.imp Int.le_of_lt⟩,λlt _=>?_⟩;obtain⟨o,p,r,s⟩:=g.drop (by omega) lt;exact⟨o,p,r,s,e.2⟩
 ·exact go _ f _ H2 st (k.step st m) (e.1.mono (by omega) (le_refl _)) e.2
theorem Er(k:Kc A H L0 D0 H1 L q)(z:Qi q n c)(hn:n<=60000)(hc:c<=48)(go:∀v p f H2,Step L p H1 H2->Kc A H L0 D0 H2 p f->Qi f (n+500) c->Il q f/\fT f=fT q->Q v H2):iT A [.ref L0] H1 Q E:=by
 have cn:=z.eo.cnt;have G:(q.B.es.map (·.1)).Pairwise (· <= ·):=z.eo.so.imp Int.le_of_lt;rw[<- k.qu];have O:((q.B.es.map (·.1)).filter λn=>decide (sC q.B.es n=q.first)).length<=9*c:=by
  have:=length_filter_le (λn=>decide (sC q.B.es n=q.first)) (q.B.es.map (·.1));rw[length_map]at this;omega
 obtain⟨kk,ek,_⟩:=z.sz.keys;refine⟨L,q,λi f=>Qi f (n+i) c/\f.first=q.first/\q.last<=f.last/\f.B.es.map (·.1)=q.B.es.map (·.1)/\Il q f/\fT f=fT q,((q.B.es.map (·.1)).filter λn=>decide (sC q.B.es n=q.first)),rfl,k.qw,⟨by omega,G⟩,λ_=>?_,λne=>⟨λR g S=>?_,⟨z,rfl,Int.le_refl _,rfl,⟨rfl,rfl,rfl⟩,rfl⟩,λi m f I ⟨r,J,N,t,o,u⟩=>?_,λf ⟨r,J,N,t,o,u⟩=>?_⟩⟩
 ·exact go _ L q H1 (aG.step (aG.refl _)) k (z.mono (by omega) (le_refl _)) ⟨⟨rfl,rfl,rfl⟩,rfl⟩
 ·have em:R=q.B.es.map (·.1):=eJ g S G;rw[em]
 ·obtain⟨U,_⟩:=List.getElem?_eq_some_iff.mp I;obtain⟨e,s⟩:=i9 (es:=f.B.es) (n:=m) (by rw[t];exact(mem_filter.mp (mem_of_getElem? I)).1);obtain⟨x,B,V,D⟩:=r.car (by omega) (by omega) s;obtain⟨W,X⟩:=DC f;refine⟨e,_,s,x,B,V,D,W.trans J,Int.le_trans N X,?_,?_,?_⟩
  ·show (eO f.B.es m (e.1,e.2.1,(aZ f).last)).map (·.1)=_;rw[uW s];exact t
  ·have y:=kN f;exact⟨y.1.trans o.1,y.2.1.trans o.2.1,y.2.2.trans o.2.2⟩
  ·refine(qD f _ _).trans (Eq.trans ?_ u);show Ab.mk ((eO f.B.es m (e.1,e.2.1,(aZ f).last)).map bare) _ _ _=fT f;rw[Gh r.eo.so s];rfl
 ·obtain⟨a,b,Y,D⟩:=r.drop (by omega) (by omega);exact⟨a,b,Y,λp H2 st Z=>go _ p _ H2 st (k.step st Z) (D.mono (by omega) (le_refl _)) ⟨o,u⟩⟩
theorem GK(k:Kc A H L0 D0 H1 L q)(z:Qi q n c)(hn:n<=60000)(hc:c<=48){d:rH}(ok:Ae d){U:Mp}(g:aT H1 (dD d) U)
  (go:∀v u X H2,Step L u H1 H2->Kc A H L0 D0 H2 u X->Qi X (n+500) (c+1)->DoR q d X->Q v H2) (E':XK) (hE:∀a D,a∈[A.notHeld,A.badNumber,A.badBody,A.badHand]->Q (.str "refused") D->E' (.ref a) none D):LG A d (.ref L0::U) H1 Q E':=by
 have cn:=z.eo.cnt;have up:=z.eo.up0;have hl:=z.hl;have so:(q.B.es.map (·.1)).Pairwise (· <= ·):=z.eo.so.imp Int.le_of_lt;rw[<- k.qu];have ref:∀{a:Addr},a∈[A.notHeld,A.badNumber,A.badBody,A.badHand]->lI q.hold q.tries (fT q) d=fT q->∀D,aG H1 D->E' (.ref a) none D:=λha nt D s=>hE _ D ha (go _ L q D (aG.step s) (k.sames s) (z.mono (by omega) (by omega)) ⟨⟨rfl,rfl,rfl⟩,nt.symm⟩);cases d with
 |put b=>
  obtain⟨G,bl⟩:=ok;simp only[dD,aT]at g;obtain⟨vb,r,rfl,db,rfl⟩:=g;obtain⟨O,I,J⟩:=z.put (by omega) (by omega) G bl;have gd:mS (.tuple (b.map .int))=true:=zP (k:="put") (n:=0) (.inl rfl) (by decide) (by decide) G bl;refine⟨L,q,vb,.tuple (b.map .int),rfl,k.qw,db,(λV e=>by injection e with e;rw[<- e,length_map];omega),(λy=>by rw[gd]at y;cases y),λW e Z hl=>?_⟩;have eb:W=b:=by
   have:=congrArg bX e;rw[gF,gF]at this;exact this.symm
  subst eb;refine⟨z.wok (by omega) (by omega) (by omega),by omega,O,I,λu H2 st N=>go _ u _ H2 st (k.step st N) (J.mono (by omega) (by omega)) ⟨kN q,?_⟩⟩;have e:=Option.some.inj (I.symm.trans (by rw[z.bk];exact EZ (B:=⟨q.B.es,q.B.up,[]⟩) _ W rfl (mP z.eo) rfl));subst e;refine(qD q _ _).trans ?_;simp only[lI,fT,map_append];rfl
 |all V=>
  obtain⟨b1,b9,G⟩:=ok;simp only[dD,aT]at g;obtain⟨vb,r,rfl,db,rfl⟩:=g;obtain⟨O,I,J⟩:=z.all (by omega) (by omega) b9 G;have ab:∀{R:Md},PyData.tuple (dZ V) = .tuple (dZ R)->R=V:=λ{R} e=>by
   injection e with e
   have f:∀l:Md,(dZ l).map bX=l:=λl=>by
    unfold dZ;rw[map_map];have:(bX ∘ λb:Mf=>PyData.tuple (b.map .int))=id:=funext λb=>gF b;rw[this,map_id]
   rw[<- f R,<- e,f]
  have gd:jK (.tuple (dZ V))=true:=by
   have hl:(dZ V).length=V.length:=length_map _;have ha:(dZ V).all mS=true:=by
    unfold dZ;rw[all_map,all_eq_true];exact λb Z=>zP (k:="put") (n:=0) (.inl rfl) (by decide) (by decide) (G b Z).1 (G b Z).2
   simp [jK,hl,ha];omega
  refine⟨L,q,vb,.tuple (dZ V),rfl,k.qw,db,(λds e=>?_),(λy=>by rw[gd]at y;cases y),λR e h1 h9 Z=>?_⟩
  ·injection e with e
   rw[<- e];refine⟨by unfold dZ;rw[length_map];omega,λx hx=>?_⟩;unfold dZ at hx;obtain⟨b,Z,rfl⟩:=mem_map.mp hx;intro ae Y;injection Y with Y
   rw[<- Y,length_map];have:=(G b Z).2;omega
  ·have:=ab e;subst this;refine⟨z.wok (by omega) (by omega) (by omega),by omega,O,I,λp u H2 st N fp fn gp=>go _ u _ H2 st (k.step st N) (J.mono (by omega) (by omega)) ⟨kN q,?_⟩⟩
   ·have e:=Option.some.inj (I.symm.trans (by rw[z.bk];exact Bu _ (mP z.eo)));subst e;refine(qD q _ _).trans ?_;simp only[lI,fT];rw[CO]
 |take x=>
  simp only[dD,aT,Den]at g;obtain⟨vb,r,rfl,rfl,rfl⟩:=g;refine⟨L,q,_,rfl,k.qw,.inl ⟨x,q.B.es.map (·.1),rfl,⟨by omega,so⟩,by omega,ok.1,ok.2.1,List.Perm.refl _,so,λe D s=>?_,λm r er=>?_⟩⟩
  ·have Y:mF (fT q) (λt=>decide (t<q.tries))=[]:=(m7 q ltB).symm.trans e;refine go _ L q D (aG.step s) (k.sames s) (z.mono (by omega) (by omega)) ⟨⟨rfl,rfl,rfl⟩,?_⟩;simp only[lI,Y]
  ·obtain⟨h1,h2,h3⟩:=Fd (q:=q) (ms:=q.B.es.map (·.1)) (m:=m) (by rw[er];exact mem_cons_self);obtain⟨e,o⟩:=i9 h1;have ht:e.2.1<q.tries:=by
    unfold eV at h3;rw[o]at h3;exact h3
   obtain⟨O,I,eB,J⟩:=z.out (by omega) (by omega) o ht h2 x;obtain⟨a1,a2,_⟩:=z.eo.ent m e o;have hl:bM O.es m=some (e.1,e.2.1+1,e.2.2):=by rw[eB,pJ o,if_pos rfl]
   have Y:mF (fT q) (λt=>decide (t<q.tries))=m::r:=(m7 q ltB).symm.trans er;have ll:gE (fT q).ls m=some (e.1,e.2.1):=by
    show gE (q.B.es.map bare) m=_;rw[qW,o];rfl
   refine⟨z.wok (by omega) (by omega) (by omega),a1,by omega,O,_,I,hl,λp u H2 st N dp=>go _ u _ H2 st (k.step st N) (J.mono (by omega) (by omega)) ⟨kN q,?_⟩⟩
   ·refine(En q _ O _).trans ?_;simp only[lI,Y,ll,Option.getD_some];have S:=Option.some.inj (I.symm.trans (by rw[z.bk];exact El _ o));rw[S,BI o];rfl
 |done x m=>
  obtain⟨ho,m0,m9⟩:=ok;simp only[dD,aT,Den]at g;obtain⟨_,_,rfl,rfl,_,_,rfl,rfl,rfl⟩:=g;refine⟨L,q,_,_,.str x,.int m,rfl,k.qw,by simp only[Den],by simp only[Den],(λy e=>by cases e;exact ho.2.1),λx' m' tm S e2 _ _ o=>?_,λ_ nx D s=>ref mem_cons_self (by simp only[lI];exact if_neg (EY λtm e=>nx ⟨x,m,tm,rfl,rfl,m0,m9,e⟩)) D s,(λy=>by rw[ho.1]at y;cases y)⟩;cases S;cases e2;obtain⟨e,ee⟩:=x6 z o;obtain⟨O,I,J⟩:=z.done (by omega) (by omega) ee;refine⟨z.wok (by omega) (by omega) (by omega),O,I,λu H2 st N=>go _ u _ H2 st (k.step st N) (J.mono (by omega) (by omega)) ⟨kN q,?_⟩⟩;have S:=Option.some.inj (I.symm.trans (by rw[z.bk];exact CM _ ee));subst S;refine(En q _ _ _).trans ?_;simp only[lI];rw[if_pos (show (bY (fT q).hs m).map (·.1)=some x from Bq o),F3];rfl
 |back x m=>
  obtain⟨ho,m0,m9⟩:=ok;simp only[dD,aT,Den]at g;obtain⟨_,_,rfl,rfl,_,_,rfl,rfl,rfl⟩:=g;refine⟨L,q,_,_,.str x,.int m,rfl,k.qw,by simp only[Den],by simp only[Den],(λy e=>by cases e;exact ho.2.1),λx' m' tm S e2 o H2 st N=>?_,λ_ nx D s=>ref mem_cons_self (by simp only[lI];exact if_neg (EY λtm e=>nx ⟨x,m,tm,rfl,rfl,m0,m9,e⟩)) D s,(λy=>by rw[ho.1]at y;cases y)⟩;cases S;cases e2;refine go _ L _ H2 st (k.step st N) ((z.held (λp=>decide (p.1≠m)) q.now).mono (by omega) (by omega)) ⟨⟨rfl,rfl,rfl⟩,?_⟩;simp only[lI];rw[if_pos (show (bY (fT q).hs m).map (·.1)=some x from Bq o)];rfl
 |wait m=>
  simp only[dD,aT,Den]at g;obtain⟨_,_,rfl,rfl,rfl⟩:=g;have ac:bL 1 99 (.int m)=true:=by
   simp only[bL,and_eq_true,decide_eq_true_eq];exact ok
  refine⟨L,q,m,rfl,k.qw,(λy=>by rw[ac]at y;cases y),λ_=>⟨by omega,z.hn,z.hk,λms aa pw p H2 st N fp dp=>?_⟩⟩;have em:=uH aa pw;subst em;exact go _ L _ H2 st (k.step st N) ((z.held _ _).mono (by omega) (by omega)) ⟨⟨rfl,rfl,rfl⟩,rfl⟩
 |new m=>
  simp only[dD,aT,Den]at g;obtain⟨_,_,rfl,rfl,rfl⟩:=g;refine⟨L,q,.int m,.int m,q.B.es.map (·.1),rfl,k.qw,⟨by omega,so⟩,by simp only[Den],List.Perm.refl _,so,λnx D s=>ref (mem_cons_of_mem _ mem_cons_self) (by simp only[lI];exact if_neg λhm=>nx m (show m∈B9 q _ from Eq.mpr (congrArg (m ∈ ·) (m7 q geB)) hm) (by simp only[bL,decide_eq_true_eq,and_eq_true];exact ok) rfl) D s,λm' e hm m0 m9=>?_⟩;cases e;obtain⟨e,o⟩:=i9 (mem_filter.mp (mem_filter.mp hm).1).1;obtain⟨O,I,J⟩:=z.new (by omega) (by omega) o;have ad:m∈mF (fT q) (λt=>decide (t ≥ q.tries)):=(m7 q geB) ▸ hm;refine⟨z.wok (by omega) (by omega) (by omega),O,I,λu H2 st N=>go _ u _ H2 st (k.step st N) (J.mono (by omega) (by omega)) ⟨kN q,?_⟩⟩
  ·have S:=Option.some.inj (I.symm.trans (by rw[z.bk];exact Em _ o));subst S;refine(qD q _ _).trans ?_;simp only[lI];have ll:gE (fT q).ls m=some (e.1,e.2.1):=by
    show gE (q.B.es.map bare) m=_;rw[qW,o];rfl
   rw[if_pos ad,BI o,ll];rfl
 |sweep=>
  simp only[dD,aT]at g;subst g;exact k.qu.symm ▸ Ep k z hn hc λv u X H2 st k' J e=>go v u X H2 st k' (J.mono (le_refl _) (by omega)) e
 |carry=>
  simp only[dD,aT]at g;subst g;exact k.qu.symm ▸ Er k z hn hc λv u X H2 st k' J e=>go v u X H2 st k' (J.mono (le_refl _) (by omega)) e
theorem Ku(k:Kc A H L0 D0 H1 L q)(z:Qi q n c)(m:n<=60000)(o:c<=48)(ok:Ae d)(p:H1 t=some (.tup (.str (eK d)::b)))(f:aT H1 (dD d) b)
  (go:∀v g e H2,Step L g H1 H2->Kc A H L0 D0 H2 g e->Qi e (n+500) (c+1)->DoR q d e->Q v H2):Dm A [.ref L0,.ref t] H1 Q E:=
 ⟨L,q,t,b,d,by rw[k.qu],k.qw,p,f.length,λr s=>k.qu.symm ▸ GK k z m o ok f go r s⟩
end
abbrev Dx:Stmt:=top 74
abbrev KW:Stmt:=top 70
abbrev Gw:Stmt:=top 69
abbrev Go:Stmt:=top 71
abbrev uP:Stmt:=top 85
abbrev A1:Stmt:=top 87
def oY(x k:Int):Int:=((x*1103515245+7919*k+12345) % 2147483647) ^ 5 % 2147483647
theorem HA{a b:Int}(h:0<=a)(e:a<2147483647):a.natAbs<2 ^ 64:=by omega
inductive sV(K:Ma)(vs:Mp)(H:Hp)(Q:VK)(x_3:XK):Prop
 |mk:∀(a:Addr)(ns:Mf)(k:Int),vs=[.ref a,.int k]->0<=k->SqL K H a (ns.map V.int)->Q (.int (ns.getD k.toNat 0)) H->sV K vs H Q x_3
inductive zH(vs:Mp)(H:Hp)(Q:VK)(x_3:XK):Prop
 |mk:∀(x k:Int),vs=[.int x,.int k]->Q (.int (oY x k)) H->zH vs H Q x_3
def Hm(c p m:Int):Int:=(c*48271 % p) ^ 3 % p % m
inductive Cb(vs:Mp)(H:Hp)(Q:VK)(x_3:XK):Prop
 |mk:∀(c p m:Int),vs=[.int c,.int p,.int m]->0<p->p<2147483647->0<m->Q (.int (Hm c p m)) H->Cb vs H Q x_3
theorem Eu(s:∀b n,H b=some (.tup n)->o b=some (.tup n)):∀{m:List (Str×Mf)}{f:Mn},TbR H m f->TbR o m f
 |[],[],_=>trivial
 |p::m,q::f,h=>by
  obtain⟨r,⟨t,e,g⟩,u⟩:=h;exact⟨r,⟨t,e,s _ _ g⟩,Eu s u⟩
 |[],_::_,h=>h.elim
 |_::_,[],h=>h.elim
theorem zC:∀{e:List (Str×Mf)}{b:Mn},TbR H e b->b.map (·.1)=(e.map (·.1)).map Sum.inr
 |[],[],_=>rfl
 |p::e,q::b,h=>by rw[map_cons,map_cons,map_cons,h.1,zC h.2.2]
 |[],_::_,h=>h.elim
 |_::_,[],h=>h.elim
theorem Da(g:GM H v e):∀{f:List (Str×Mf)}{b:Mn},TbR H f b->TbR H (f++[(n,e)]) (b++[(Sum.inr n,v)])
 |[],[],_=>⟨rfl,g,trivial⟩
 |p::f,q::b,h=>⟨h.1,h.2.1,Da g h.2.2⟩
 |[],_::_,h=>h.elim
 |_::_,[],h=>h.elim
theorem GH{b:Mn}{k:Key}(h:k∉b.map (·.1)):c9 b k=none:=by
 unfold c9;rw[map_eq_none_iff,find?_eq_none];intro p e z;exact h (by rw[<- of_decide_eq_true z];exact mem_map_of_mem e)
theorem Fg(h:n∈f.map (·.1)):∃b,aR f n=some b:=by
 cases e:aR f n with
 |none=>exact absurd h (x5 e)
 |some b=>exact⟨b,rfl⟩
def nX(b:List (Str×Mf))(e:Mg):List (Str×Mf):=e.map λn=>(n,(aR b n).getD [])
def EK(b:List (Str×Mf)):Prop:=∀n∈b.map (·.1),cX cN 8 (.str n)=true/\n.length<=1000/\gO n=true
inductive uD(C:Addr)(vs:Mp)(H:Hp)(Q:VK)(x_3:XK):Prop
 |mk:∀(dk df:Addr)(kvs:Mn)(D:Dk),vs=[.ref dk]->DiskAt C H dk df kvs D->D.fs.length<=100000->EK D.fs->(∀ms,List.Perm ms (D.fs.map (·.1))->∀pf lvs H',aG H H'->H pf=none->H' pf=some (.dK lvs)->TbR H' (nX D.fs ms) lvs->Q (.ref pf) H')->uD C vs H Q x_3
section
variable{P:Program}{w:World}{K:Ma}{mg:Mc}{base:Heap}{aa8 aa1:Addr}{A:Ad}
theorem Jr(F:Fun K "_law_cell" "_law_cell" Gw f p)(T:‹3›):‹14› 1 f p ["_law_script","_law_k"] (sV K):=by
 refine F.okY ["_law_script","_law_k"] λr u e s H x Q E hr nD0 h=>?_;obtain⟨a,b,k,rfl,t,m,q⟩:=h;refine⟨_,aA (bG (aY vA (pv 1) ‹28› (bI _))
   (aC (aP (cG (cF K) (pv 0) (pv 1) (λ_ _=>rfl))))
   aO)
  (aC (aP aM)),?_⟩
 refine⟨_,rfl,_,rfl,a,_,rfl,.inl m,_,_,rfl,rfl,_,rfl,?_⟩;rw[length_map];show if decide (k<(b.length:Int))=true then _ else _
 by_cases n:k<(b.length:Int)
 ·rw[if_pos (decide_eq_true n)];have o:k.toNat<b.length:=by omega
  have g:b.getD k.toNat 0=b[k.toNat]:=by
   rw[getD_eq_getElem?_getD,getElem?_eq_getElem o];rfl
  rw[g]at q;exact⟨_,rfl,_,rfl,a,_,_,_,rfl,rfl,m,a8 t (by rw[getElem?_map,getElem?_eq_getElem o];rfl),q⟩
 ·rw[if_neg (by simpa using n)];have g:b.getD k.toNat 0=0:=by
   rw[getD_eq_getElem?_getD,getElem?_eq_none (by omega)];rfl
  rw[g]at q;exact q
theorem Jj{f:Addr}{g:Ml}(F:Fun K "_law_seed" "_law_seed" Go f g):‹14› 1 f g ["_law_seed_here","_law_k"] zH:=by
 refine F.okY ["_law_seed_here","_law_k"] λm p e s H r Q E hr nD0 h=>?_;obtain⟨x,k,rfl,q⟩:=h;refine⟨_,aC (aP (bC dL (bC HR (bC dL (bC cT (bC cT (bC qU (pv 0) aM) (bC qU aM (pv 1))) aM) aM) aM) aM)),?_⟩;have n:=emod_nonneg (x*1103515245+7919*k+12345) (show (2147483647:Int)≠0 by decide);have o:=emod_lt_of_pos (x*1103515245+7919*k+12345) (show (0:Int)<2147483647 by decide);refine⟨_,rfl,_,_,rfl,rfl,.inr ⟨by decide,by decide⟩,_,rfl,_,_,rfl,rfl,.inl ⟨by decide,by decide⟩,_,_,rfl,rfl,_,_,rfl,rfl,_,_,rfl,rfl,(by show (0:Int)<2147483647;decide),_,_,rfl,rfl,⟨by decide,by decide,HA (b:=0) n o⟩,_,_,rfl,rfl,(by show (0:Int)<2147483647;decide),?_⟩;exact q
theorem Lg{f:Addr}{n:Ml}(F:Fun K "_law_mix" "_law_mix" KW f n):‹14› 1 f n ["_law_cell_here","_law_prime","_law_many"] Cb:=by
 refine F.okY ["_law_cell_here","_law_prime","_law_many"] λo u e s H x Q E hr nD0 h=>?_;obtain⟨c,p,m,rfl,g,y,r,q⟩:=h;refine⟨_,aC (aP (bC dL (bC dL (bC HR (bC dL (bC qU (pv 0) aM) (pv 1)) aM) (pv 1)) (pv 2))),?_⟩;have t:=emod_nonneg (c*48271) (show p≠0 by omega);have z:=emod_lt_of_pos (c*48271) g;refine⟨_,rfl,_,_,rfl,rfl,.inr ⟨by decide,by decide⟩,_,rfl,_,_,rfl,rfl,g,_,_,rfl,rfl,⟨by decide,by decide,HA (b:=0) t (by omega)⟩,_,rfl,_,_,rfl,rfl,g,_,rfl,_,_,rfl,rfl,r,q⟩
theorem Ha{f:Addr}{fd:Ml}(F:Fun K "_law_files" "_law_files" Dx f fd)(T:‹3›)(ae:‹16› A.disk "names" 1 ["self"] (mW A.disk))(af:‹16› A.disk "read" 4 ["self","name"] (oR A.disk A.badName A.missing)):‹14› 5 f fd ["_law_disk"] (uD A.disk):=by
 refine F.okY ["_law_disk","_law_found","_law_name"] λas A' ag s H vs Q E hr nD0 h=>?_;obtain⟨R,df,S,D,rfl,hD,hl,ah,q⟩:=h;refine⟨_,aA (aW (i:=1) nD0 ⋯ ⋯ i4)
  (aA (eQ (i8 dF) ⋯ (bU K (eW ae T.ac6 ‹18› bA (pv 0))) (bH (i:=2) nD0 ⋯ ⋯)
   (aC (fM (hu1 hr.units) (pv 1) (pv 2) (cM af T.ac6 ‹18› bA (pv 0) ‹37›) ⋯)))
  (aC (aP (pv 1)))),?_⟩
 refine λr I=>?_;have S1:=aD (o:=.dK []) I;generalize ai:upd H r (.dK [])=H1 at S1⊢;have g1:H1 r=some (.dK []):=by rw[<- ai];exact aB
 have U:=hD.same S1;obtain⟨dx,h1⟩:=U.self;refine⟨_,rfl,R,dx,_,rfl,h1,rfl,R,df,S,D,rfl,U,hl,λJ g H2 S2 W p g2=>?_⟩;have aj:J≠r:=λz=>by rw[z,g1]at W;cases W
 refine⟨J,rfl,⟨_,SqL.of g2⟩,?_⟩;have ak:SqL K (λa=>if a=J then some (.lst (g.map V.str)) else none) J (g.map V.str):=SqL.of (if_pos rfl);have lm:(g.map V.str).length=g.length:=length_map _;have nd:g.Nodup:=p.nodup_iff.mpr hD.kn;have X:=p.length_eq;rw[length_map]at X;refine fR (H0:=λa=>if a=J then some (.lst (g.map V.str)) else none) (bO (K:=K) ak) (λi σ Y=>Y J=some (.lst (g.map V.str))/\aG H Y/\∃m z2,Y r=some (.dK m)/\TbR Y (nX D.fs (g.take i)) m/\σ = [some (.ref R),some (.ref r),z2]) ?i0 ?kp ?_ ?_
 case i0=>exact⟨g2,S1.trans S2,[],none,S2 _ _ g1,trivial,rfl⟩
 case kp=>
  intro i σ Y h b o e;by_cases z:b=J
  ·subst z;have e:some (HO.lst (g.map V.str))=some o:=by simpa using e
   rw[<- e];exact h.1
  ·have e:none=some o:=by simpa [z] using e
   cases e
 ·rintro i x σ H5 H6 Z ⟨g5,s5,m,z2,L,t,rfl⟩ s6 hx;rw[lm]at Z;rw[getElem?_map,getElem?_eq_getElem Z]at hx;cases hx;have u:g[i]∈D.fs.map (·.1):=p.mem_iff.mp (List.getElem_mem Z);obtain⟨bs,N⟩:=Fg u;obtain⟨hw,al,am⟩:=ah _ u;have aa:aG H H6:=s5.trans s6;have ab:=hD.same aa;obtain⟨an,ao⟩:=ab.self;refine⟨_,rfl,R,an,_,rfl,ao,rfl,_,rfl,R,df,S,D,.str g[i],.str g[i],rfl,ab,by simp only[Den],(λy e=>by injection e with e;rw[<- e];exact⟨al,am⟩),(λz=>by rw[hw]at z;cases z),λn en _=>?_⟩;injection en with en
  subst en;refine⟨(λz=>by rw[N]at z;cases z),λau B p7 H7 S7 g7=>?_⟩;rw[N]at B;cases B;have ac:H7 r=some (.dK m):=S7 _ _ (s6 _ _ L);have O:TbR H7 (nX D.fs (g.take i)) m:=Eu (λb xs e=>S7 _ _ (s6 _ _ e)) t;have ap:c9 m (Sum.inr g[i])=none:=by
   refine GH ?_;rw[(zC O)];have ek:(nX D.fs (g.take i)).map (·.1)=g.take i:=by
    unfold nX;rw[map_map];exact map_id _
   rw[ek];intro hm;rw[mem_map]at hm;obtain⟨y,hy,e⟩:=hm;have e:y=g[i]:=Sum.inr.inj e;have h2:y∈g.drop i:=by
    rw[drop_eq_getElem_cons Z,e];exact mem_cons_self
   have ad:=nd;rw[<- take_append_drop i g,nodup_append]at ad;exact ad.2.2 y hy y h2 rfl
  have aq:m.length<sizeLine:=by
   have:=congrArg List.length (zC O);unfold nX at this;rw[length_map,length_map,length_map,length_map,length_take]at this;exact lt_of_le_of_lt (show _<=100000 by omega) (by decide)
  refine⟨_,rfl,_,rfl,r,_,rfl,jU.k (k:=Sum.inr g[i]) ac aq,?_⟩;have ar:eF m (Sum.inr g[i]) (V.ref p7)=m++[(Sum.inr g[i],V.ref p7)]:=BL _ ap;rw[ar];have G:∀b xs,H7 b=some (.tup xs)->upd H7 r (.dK (m++[(Sum.inr g[i],V.ref p7)])) b=some (.tup xs):=λb xs e=>by
   rw[aH (λz=>by rw[z,ac]at e;cases e)];exact e
  refine⟨?_,λb o e=>?_,_,_,aB,?_,rfl⟩
  ·rw[aH aj];exact S7 _ _ (s6 _ _ g5)
  ·rw[aH (bS e I)];exact S7 _ _ (aa _ _ e)
  ·have et:nX D.fs (g.take (i+1))=nX D.fs (g.take i)++[(g[i],bs)]:=by
    unfold nX;rw[take_add_one,getElem?_eq_getElem Z,map_append];show _++[(g[i],(aR D.fs g[i]).getD [])]=_;rw[N];rfl
   rw[et];exact Da ⟨p7,rfl,G _ _ g7⟩ (Eu G O)
 ·rintro σ H5 ⟨g5,s5,m,z2,L,t,rfl⟩;rw[lm,take_length]at t;exact⟨_,rfl,q g p r m H5 s5 I L t⟩
end
theorem at2(e:0<=k)(f:k<2):∃m,atI [V.int a,V.int b] k=some (.int m)/\(m=a\/m=b):=by
 by_cases z:k=0
 ·subst z;exact⟨a,rfl,.inl rfl⟩
 ·have:k=1:=by omega
  subst this;exact⟨b,rfl,.inr rfl⟩
theorem at3(e:0<=k)(f:k<3):∃m,atI [V.int a,V.int b,V.int c] k=some (.int m)/\(m=a\/m=b\/m=c):=by
 by_cases z:k=0
 ·subst z;exact⟨a,rfl,.inl rfl⟩
 ·by_cases y:k=1
  ·subst y;exact⟨b,rfl,.inr (.inl rfl)⟩
  ·have:k=2:=by omega
   subst this;exact⟨c,rfl,.inr (.inr rfl)⟩
inductive lW(vs:Mp)(H:Hp)(Q:VK)(x_3:XK):Prop
 |mk:∀c:Int,vs=[.int c]->(∀(m h t:Int)(p:Addr)(H':Hp),1<=m->m<=2000->0<=h->h<=99->1<=t->t<=9->aG H H'->H' p=some (.tup [.int m,.int h,.int t])->Q (.ref p) H')->lW vs H Q x_3
inductive qI(A:Ad)(vs:Mp)(H:Hp)(Q:VK)(x_3:XK):Prop
 |mk:∀(dk df p:Addr)(kvs:Mn)(D:Dk)(m h t:Int),vs=[.ref dk,.ref p]->H p=some (.tup [.int m,.int h,.int t])->uM (.int m) (.int h) (.int t)=true->DiskAt A.disk H dk df kvs D->vU D->(∀L' d H',L'.dk=dk->(∀b o,H b=some o->¬own dk df kvs b->H' b=some o)->(∀b,gT L' b->own dk df kvs b\/H b=none)->QueueW A H' L' (nP m h t d) false->Q (.ref L'.qu) H')->qI A vs H Q x_3
section
variable{P:Program}{w:World}{K:Ma}{mg:Mc}{base:Heap}{A:Ad}
theorem BT(F:Fun K "_law_settings" "_law_settings" uP f R)(T:‹3›)(g:‹10›):‹14› 2 f R ["_law_cell_here"] lW:=by
 refine F.okY ["_law_cell_here","_law_seed_here","_law_most"] λS A' n s H vs Q E hr nD0 h=>?_;obtain⟨c,rfl,U⟩:=h;refine⟨_,aA (aW (i:=1) nD0 ⋯ ⋯ (bB g ‹18› bA (aE (pv 0) ‹43›)))
  (aA (aW (i:=2) nD0 ⋯ ⋯ (cG (cF K) (cD (bT (bC cT aM ‹26›) (bT (bC cT aM ‹26›) ‹43›))) ‹26› (λ_ _=>rfl)))
  (aC (aP (bE (aE (pv 2) (bT (bC dL ‹31› (cG (cF K) (cD (aI aM ‹43›)) (kH yU ⋯ T.ba3 DU (u9 (fU fP ‹26› aM (bI _)) aF)) (λ_ _=>rfl))) (bT (bC cT aM (bC dL ‹31› ‹87›)) aF))))))),?_⟩
 refine⟨_,rfl,c,0,rfl,?_⟩;generalize oY c 0=x;refine⟨_,rfl,_,_,rfl,rfl,⟨by decide,by decide⟩,_,_,rfl,rfl,(by show (0:Int)<60;decide),_,_,rfl,rfl,_,rfl,_,_,rfl,rfl,⟨by decide,by decide⟩,_,_,rfl,rfl,(by show (0:Int)<200;decide),_,_,rfl,rfl,aJ,λu p=>?_⟩;obtain⟨m,W,hm⟩:=at3 (a:=1+x / 3 % 60) (b:=1+x / 3 % 200) (c:=2000) (k:=x / 7 % 3) (by omega) (by omega);refine⟨_,rfl,_,_,rfl,rfl,⟨by decide,by decide⟩,_,_,rfl,rfl,(by show (0:Int)<3;decide),u,_,_,.int m,rfl,rfl,SqL.of aB,W,?_⟩;have y:=aD (o:=.lst [.int (1+x / 3 % 60),.int (1+x / 3 % 200),.int 2000]) p;generalize upd H u (.lst [.int (1+x / 3 % 60),.int (1+x / 3 % 200),.int 2000])=X at y⊢;refine⟨_,rfl,_,rfl,_,_,rfl,rfl,⟨by decide,by decide⟩,aJ,λp2 q=>?_⟩;refine⟨_,rfl,_,_,rfl,rfl,⟨by decide,by decide⟩,_,_,rfl,rfl,(by show (0:Int)<4;decide),rfl,.inr ⟨_,rfl,?_⟩⟩;obtain⟨h,Y,Z⟩:=at2 (a:=8) (b:=100) (k:=if decide (V.int (x / 19 % 4)=V.int 0)=true then 1 else 0) (by split <;> omega) (by split <;> omega);refine⟨p2,_,_,.int h,rfl,rfl,SqL.of aB,Y,_,_,rfl,rfl,(by rcases Z with z |z <;> rw[z] <;> decide),?_⟩;have B:=aD (o:=.lst [.int 8,.int 100]) q;generalize upd X p2 (.lst [.int 8,.int 100])=H2 at B⊢;refine⟨_,rfl,_,_,rfl,rfl,⟨by decide,by decide⟩,aJ,λD r=>?_⟩;obtain⟨t,e3,ht⟩:=at2 (a:=9) (b:=3) (k:=x / 17 % 2) (by omega) (by omega);refine⟨_,rfl,_,_,rfl,rfl,⟨by decide,by decide⟩,_,_,rfl,rfl,(by show (0:Int)<2;decide),D,_,_,.int t,rfl,rfl,SqL.of aB,e3,_,_,rfl,rfl,(by rcases ht with z |z <;> rw[z] <;> decide),_,_,rfl,rfl,aJ,λp4 e=>?_⟩;have G:=aD (o:=.lst [.int 9,.int 3]) r;generalize upd H2 D (.lst [.int 9,.int 3])=H3 at G e⊢;have I:1<=m/\m<=2000:=by
  have J:=emod_nonneg (x / 3) (show (60:Int)≠0 by decide);have L:=emod_lt_of_pos (x / 3) (show (0:Int)<60 by decide);have h3:=emod_nonneg (x / 3) (show (200:Int)≠0 by decide);have h4:=emod_lt_of_pos (x / 3) (show (0:Int)<200 by decide);omega
 have N:0<=x / 11 % h/\x / 11 % h<=99:=by
  have J:=emod_nonneg (x / 11) (show h≠0 by omega);have L:=emod_lt_of_pos (x / 11) (show 0<h by omega);omega
 have O:1<=1+x / 13 % t/\1+x / 13 % t<=9:=by
  have J:=emod_nonneg (x / 13) (show t≠0 by omega);have L:=emod_lt_of_pos (x / 13) (show 0<t by omega);omega
 exact U m (x / 11 % h) (1+x / 13 % t) p4 _ I.1 I.2 N.1 N.2 O.1 O.2 (y.trans (B.trans (G.trans (aD e)))) aB
theorem FP(F:Fun K "_law_queue" "_law_queue" A1 f S)(x:‹17› "Queue" A.queue 8 ["self","disk","most","hold","tries"] (uB A)):‹14› 10 f S ["_law_disk","_law_settings_here"] (qI A):=by
 refine F.okY ["_law_disk","_law_settings_here"] λU A' y s H vs Q E hr nD0 h=>?_;obtain⟨N,O,p,r,D,m,h,t,rfl,B,G,R,V,W⟩:=h;refine⟨_,aC (aP (Kh x ‹18› bA (aE (pv 0) (aN ‹21› (aN ‹21› ‹82›))))),?_⟩;refine⟨_,rfl,_,rfl,p,_,_,.int m,rfl,rfl,SqT.of B,a8 (by decide) rfl,_,rfl,p,_,_,.int h,rfl,rfl,SqT.of B,a8 (by decide) rfl,_,rfl,p,_,_,.int t,rfl,rfl,SqT.of B,a8 (by decide) rfl,λq u n I X=>?_⟩;have J:∀{c o},H c=some o->upd (upd H u (.own q)) q (.ins A.queue u []) c=some o:=λ{c o} e=>by
  rw[aH (bS e n),aH (bS e I)];exact e
 have L:¬own N O r q:=λz=>by
  obtain⟨o,e⟩:=oB R z;rw[n]at e;cases e
 have back:∀{c},upd (upd H u (.own q)) q (.ins A.queue u []) c=none->H c=none:=λ{c} e=>by
  cases Y:H c with
  |none=>rfl
  |some o=>rw[J Y]at e;cases e
 refine⟨q,u,N,O,r,D,m,h,t,rfl,aB,R.keep (λb o e _=>J e),L,G,V,λZ d H' eq ed f g hq=>⟨rfl,?_⟩⟩;subst eq;refine W Z d H' ed (λb o e nb=>f b o (J e) (bS e n) nb) (λb hb=>?_) hq;rcases g b hb with z |z |z
 ·rw[z];exact .inr n
 ·exact .inl z
 ·exact .inr (back z)
end
abbrev Gq:Stmt:=top 72
def EE(x m:Int):Int:=x / 97 % m
inductive sT(vs:Mp)(H:Hp)(Q:VK)(x_3:XK):Prop
 |mk:∀(x m:Int),vs=[.int x,.int m]->0<m->Q (.int (EE x m)) H->sT vs H Q x_3
section
variable{P:Program}{w:World}{K:Ma}{mg:Mc}{base:Heap}{A:Ad}
theorem Jl(F:Fun K "_law_pick" "_law_pick" Gq f e):‹14› 1 f e ["_law_seed_here","_law_many"] sT:=by
 refine F.okY ["_law_seed_here","_law_many"] λg o b s H p Q E hr nD0 h=>?_;obtain⟨x,m,rfl,n,q⟩:=h;refine⟨_,aC (aP (bC dL (bC nC (pv 0) aM) (pv 1))),?_⟩;exact⟨_,rfl,_,_,rfl,rfl,⟨by decide,by decide⟩,_,rfl,_,_,rfl,rfl,n,q⟩
end
def wsK(b:List (Int×Int)):Mn:=b.map λp=>(Sum.inl p.1,V.int p.2)
def pN(b:List (Int×Int))(k:Int):Option Int:=(b.find? λp=>decide (p.1=k)).map (·.2)
def sE(b:List (Int×Int))(k s:Int):List (Int×Int):=if (b.any λp=>decide (p.1=k))=true then b.map (λp=>if p.1=k then (p.1,s) else p) else b++[(k,s)]
theorem EU(a b:Int):decide ((Sum.inl a:Key)=Sum.inl b)=decide (a=b):=by
 by_cases h:a=b
 ·rw[decide_eq_true h,decide_eq_true (by rw[h])]
 ·rw[decide_eq_false h,decide_eq_false (λz=>h (Sum.inl.inj z))]
theorem Iv(b:List (Int×Int))(k s:Int):eF (wsK b) (Sum.inl k) (V.int s)=wsK (sE b k s):=by
 have e:((wsK b).any λf=>decide (f.1=Sum.inl k))=(b.any λp=>decide (p.1=k)):=by
  unfold wsK;rw[List.any_map];congr 1;funext p;exact EU p.1 k
 unfold eF sE;rw[e];split
 ·unfold wsK;rw[map_map,map_map];apply map_congr_left;intro p _;show (if (Sum.inl p.1:Key)=Sum.inl k then _ else _)=((Sum.inl (if p.1=k then (p.1,s) else p).1:Key),V.int (if p.1=k then (p.1,s) else p).2);by_cases h:p.1=k
  ·rw[if_pos h,if_pos (by rw[h])]
  ·rw[if_neg h,if_neg (λz=>h (Sum.inl.inj z))]
 ·unfold wsK;rw[map_append];rfl
theorem sP:∀(b:List (Int×Int))(k:Int),c9 (wsK b) (Sum.inl k)=(pN b k).map V.int
 |[],k=>rfl
 |p::r,k=>by
  have e:=sP r k;unfold c9 pN wsK at *;rw[map_cons,find?_cons,find?_cons];show Option.map _ (match decide ((Sum.inl p.1:Key)=Sum.inl k) with |true=>_ |false=>_)=_;rw[EU];cases decide (p.1=k) with
  |true=>rfl
  |false=>exact e
theorem Af(b:List (Int×Int)):(wsK b).map (·.1)=(b.map (·.1)).map Sum.inl:=by
 unfold wsK;rw[map_map,map_map];rfl
theorem qX(h:k∈ws.map (·.1)):∃s,pN ws k=some s:=by
 unfold pN;cases y:ws.find? λp=>decide (p.1=k) with
 |none=>
  rw[find?_eq_none]at y;obtain⟨p,b,e⟩:=mem_map.mp h;exact absurd (decide_eq_true e) (y p b)
 |some p=>exact⟨_,rfl⟩
theorem BJ{f:List (Int×Int)}{k:Int}:(f.any λp=>decide (p.1=k))=true ↔ k∈f.map (·.1):=by
 rw[any_eq_true,mem_map];exact⟨λ⟨p,b,e⟩=>⟨p,b,of_decide_eq_true e⟩,λ⟨p,b,e⟩=>⟨p,b,decide_eq_true e⟩⟩
theorem E7{b:List (Int×Int)}{k:Int}(s:Int)(h:k∈b.map (·.1)):(sE b k s).map (·.1)=b.map (·.1):=by
 unfold sE;rw[if_pos (BJ.mpr h),map_map];apply map_congr_left;intro p _;show (if p.1=k then (p.1,s) else p).1=p.1;split <;> rfl
theorem HD{b:List (Int×Int)}{k:Int}(s:Int)(h:k∉b.map (·.1)):sE b k s=b++[(k,s)]:=by
 unfold sE;rw[if_neg (λz=>h (BJ.mp z))]
theorem GF(b:List (Int×Int))(k:Int):e7 (wsK b) (Sum.inl k)=wsK (b.filter λp=>decide (p.1≠k)):=by
 unfold e7 wsK;rw[filter_map];congr 1;refine List.filter_congr λp _=>decide_eq_decide.mpr ?_;exact⟨λh z=>h (by show (Sum.inl p.1:Key)=Sum.inl k;rw[z]),λh z=>h (Sum.inl.inj z)⟩
def TR{e : Type}(f:e->V->Prop):List (Int×e)->Mn->Prop
 |[],[]=>True
 |p::g,r::b=>r.1=Sum.inl p.1/\f p.2 r.2/\TR f g b
 |_,_=>False
section
variable{α : Type}{f g:α->V->Prop}
theorem TR.imp(h:∀a v,f a v->g a v):∀{e:List (Int×α)}{b:Mn},TR f e b->TR g e b
 |[],[],_=>trivial
 |_::_,_::_,⟨m,n,o⟩=>⟨m,h _ _ n,TR.imp h o⟩
 |[],_::_,h=>h.elim
 |_::_,[],h=>h.elim
theorem TR.keys:∀{e:List (Int×α)}{b:Mn},TR f e b->b.map (·.1)=(e.map (·.1)).map Sum.inl
 |[],[],_=>rfl
 |_::_,_::_,⟨m,_,n⟩=>by rw[map_cons,map_cons,map_cons,TR.keys n,m]
 |[],_::_,h=>h.elim
 |_::_,[],h=>h.elim
theorem TR.len(h:TR f e b):b.length=e.length:=by
 have:=congrArg List.length h.keys;rw[length_map,length_map,length_map]at this;exact this
theorem TR.look:∀{m:List (Int×α)}{b:Mn},TR f m b->n∈m.map (·.1)->∃a v,(n,a)∈m/\c9 b (Sum.inl n)=some v/\f a v
 |[],[],_,h=>by cases h
 |p::m,r::b,⟨o,s,t⟩,h=>by
  by_cases e:p.1=n
  ·refine⟨p.2,r.2,by rw[<- e];exact mem_cons_self,?_,s⟩;unfold c9;rw[find?_cons,decide_eq_true (by rw[o,e])];rfl
  ·rw[map_cons]at h;rcases mem_cons.mp h with z |z
   ·exact absurd z.symm e
   ·obtain⟨a,v,u,q,x⟩:=TR.look t z;refine⟨a,v,mem_cons_of_mem _ u,?_,x⟩;unfold c9 at q⊢;rw[find?_cons,decide_eq_false (λy=>e (Sum.inl.inj (o.symm.trans y)))];exact q
 |[],_::_,h,_=>h.elim
 |_::_,[],h,_=>h.elim
theorem TR.no(h:TR f r o)(s:n∉r.map (·.1)):c9 o (Sum.inl n)=none/\(o.any λp=>decide (p.1=Sum.inl n))=false:=by
 have q:∀p∈o,p.1≠Sum.inl n:=λp b z=>by
  have:p.1∈o.map (·.1):=mem_map_of_mem b;rw[h.keys,z]at this;obtain⟨m,t,e⟩:=mem_map.mp this;exact s (by rw[<- Sum.inl.inj e];exact t)
 constructor
 ·unfold c9;rw[map_eq_none_iff,find?_eq_none];exact λp b z=>q p b (of_decide_eq_true z)
 ·rw[List.any_eq_false];exact λp b z=>q p b (of_decide_eq_true z)
def gA(b:List (Int×α))(n:Int)(a:α):List (Int×α):=if (b.any λp=>decide (p.1=n))=true then b.map (λp=>if p.1=n then (p.1,a) else p) else b++[(n,a)]
theorem xW(a:α)(h:n∈b.map (·.1)):(gA b n a).map (·.1)=b.map (·.1):=by
 have:(b.any λp=>decide (p.1=n))=true:=by
  obtain⟨p,m,e⟩:=mem_map.mp h;exact any_eq_true.mpr ⟨p,m,decide_eq_true e⟩
 unfold gA;rw[if_pos this,map_map];apply map_congr_left;intro p _;show (if p.1=n then (p.1,a) else p).1=p.1;split <;> rfl
theorem uX(a:α)(h:n∉b.map (·.1)):gA b n a=b++[(n,a)]:=by
 unfold gA;rw[if_neg];rw[any_eq_true];rintro ⟨p,m,e⟩;exact h (by rw[<- of_decide_eq_true e];exact mem_map_of_mem m)
theorem HC(h:p∈gA e n a):p∈e\/p.2=a:=by
 unfold gA at h;split at h
 ·obtain⟨o,m,b⟩:=mem_map.mp h;split at b
  ·rw[<- b];exact .inr rfl
  ·rw[<- b];exact .inl m
 ·rw[mem_append,mem_singleton]at h;rcases h with h |rfl
  ·exact .inl h
  ·exact .inr rfl
theorem TR.mapP(o:f a v):∀{q:List (Int×α)}{b:Mn},TR f q b->TR f (q.map λp=>if p.1=n then (p.1,a) else p) (b.map λs=>if s.1=Sum.inl n then (s.1,v) else s)
 |[],[],_=>trivial
 |p::q,r::b,⟨m,u,t⟩=>by
  rw[map_cons,map_cons];by_cases e:p.1=n
  ·rw[if_pos e,if_pos (show r.1=Sum.inl n by rw[m,e])];exact⟨m,o,TR.mapP o t⟩
  ·rw[if_neg e,if_neg (λz=>e (Sum.inl.inj (m.symm.trans z)))];exact⟨m,u,TR.mapP o t⟩
 |[],_::_,h=>h.elim
 |_::_,[],h=>h.elim
theorem TR.snoc(e:f a v):∀{m:List (Int×α)}{b:Mn},TR f m b->TR f (m++[(n,a)]) (b++[(Sum.inl n,v)])
 |[],[],_=>⟨rfl,e,trivial⟩
 |_::_,_::_,⟨o,p,q⟩=>⟨o,p,TR.snoc e q⟩
 |[],_::_,h=>h.elim
 |_::_,[],h=>h.elim
theorem TR.any(h:TR f q b):(b.any λs=>decide (s.1=Sum.inl n))=(q.any λp=>decide (p.1=n)):=by
 by_cases m:n∈q.map (·.1)
 ·obtain⟨p,o,e⟩:=mem_map.mp m;have t:Sum.inl n∈b.map (·.1):=by
   rw[h.keys];exact mem_map_of_mem m
  obtain⟨r,hr,u⟩:=mem_map.mp t;rw[any_eq_true.mpr ⟨p,o,decide_eq_true e⟩,any_eq_true.mpr ⟨r,hr,decide_eq_true u⟩]
 ·rw[(h.no m).2];refine(List.any_eq_false.mpr λp o z=>m ?_).symm;rw[<- of_decide_eq_true z];exact mem_map_of_mem o
theorem TR.put(h:TR f m b)(e:f a v):TR f (gA m n a) (eF b (Sum.inl n) v):=by
 unfold eF gA;rw[h.any];split
 ·exact h.mapP e
 ·exact h.snoc e
theorem TR.drop:∀{m:List (Int×α)}{b:Mn},TR f m b->TR f (m.filter λp=>decide (p.1≠n)) (e7 b (Sum.inl n))
 |[],[],_=>trivial
 |p::m,r::b,⟨o,s,t⟩=>by
  have q:=TR.drop (n:=n) t;unfold e7 at q⊢;rw[filter_cons,filter_cons];by_cases e:p.1=n
  ·rw[if_neg (by rw[decide_eq_true_eq];exact λz=>z e),if_neg (by rw[decide_eq_true_eq,o,e];exact λz=>z rfl)];exact q
  ·rw[if_pos (show decide (p.1≠n)=true from decide_eq_true e),if_pos (show decide (r.1≠Sum.inl n)=true from decide_eq_true (λz=>e (Sum.inl.inj (o.symm.trans z))))];exact⟨o,s,q⟩
 |[],_::_,h=>h.elim
 |_::_,[],h=>h.elim
end
structure Ms where
 ls:List (Int×(Mf×Int))
 after:Int
 hs:Mt
 time:Int
 rows:List (Mr)
 first:Int
 wh:List (Int×Int)
structure Sl where
 ps:Addr
 pl:Addr
 ph:Addr
 pr:Addr
 pw:Addr
 rs:List Addr
def stK(S:Sl)(M:Ms):Mn:=[(Sum.inr "letters",.ref S.pl),(Sum.inr "after",.int M.after),(Sum.inr "hands",.ref S.ph),(Sum.inr "time",.int M.time),(Sum.inr "rows",.ref S.pr),(Sum.inr "first",.int M.first),(Sum.inr "where",.ref S.pw)]
inductive pP(H:Hp)(e:Mf×Int)(v:V):Prop
 |mk:∀t b,v = .ref t->H t=some (.tup [.ref b,.int e.2])->H b=some (.tup (e.1.map V.int))->pP H e v
inductive pS(H:Hp)(e:Str×Int)(v:V):Prop
 |mk:∀t,v = .ref t->H t=some (.tup [.str e.1,.int e.2])->pS H e v
def RsR(H:Hp):List (Mr)->List Addr->Prop
 |[],[]=>True
 |r::e,a::f=>(∃b,H a=some (.lst b)/\aT H (r.map cI) b)/\RsR H e f
 |_,_=>False
def stL(S:Sl):List Addr:=S.ps::S.pl::S.ph::S.pr::S.pw::S.rs
structure StAt(H:Hp)(S:Sl)(M:Ms):Prop where
 st:H S.ps=some (.dK (stK S M))
 ls:∃kl,H S.pl=some (.dK kl)/\TR (pP H) M.ls kl
 hs:∃kh,H S.ph=some (.dK kh)/\TR (pS H) M.hs kh
 rw:H S.pr=some (.lst (S.rs.map V.ref))
 rr:RsR H M.rows S.rs
 wh:H S.pw=some (.dK (wsK M.wh))
 nd:(stL S).Nodup
structure StepS(S S':Sl)(H H':Hp):Prop where
 ps:S'.ps=S.ps
 frm:∀b o,H b=some o->b∉stL S->H' b=some o
 grow:∀b,b∈stL S'->b∈stL S\/H b=none
 tup:fX H H'
theorem StepS.trans(a:StepS S g H m)(b:StepS g n m H2):StepS S n H H2:=by
 refine⟨b.ps.trans a.ps,λc o e f=>b.frm c o (a.frm c o e f) (λz=>(a.grow c z).elim f (λy=>by rw[y]at e;cases e)),λc p=>?_,a.tup.trans b.tup⟩;rcases b.grow c p with z |z
 ·exact a.grow c z
 ·by_cases y:c∈stL S
  ·exact .inl y
  ·refine .inr ?_;cases e:H c with
   |none=>rfl
   |some o=>rw[a.frm c o e y]at z;cases z
theorem aG.stepS(s:aG H f):StepS S S H f:=⟨rfl,λb o e _=>s b o e,λb h=>.inl h,aG.tup s⟩
theorem StepS.not(a:StepS S f H g)(e:H b=some o)(n:b∉stL S):b∉stL f:=λz=>(a.grow b z).elim n (λy=>by rw[y]at e;cases e)
theorem pP.t(s:fX H f)(h:pP H e v):pP f e v:=by
 obtain⟨t,b,g,m,n⟩:=h;exact⟨t,b,g,s _ _ m,s _ _ n⟩
theorem pS.t(s:fX H b)(h:pS H e v):pS b e v:=by
 obtain⟨t,f,g⟩:=h;exact⟨t,f,s _ _ g⟩
theorem kE:∀b:Mr,fD (b.map cI)=true
 |[]=>rfl
 |r::b=>by
  show (lT (cI r) && fD (b.map cI))=true;rw[kE b];unfold cI;rw[lG];rfl
theorem RsR.keep(t:fX H f):∀{g:List (Mr)}{e:List Addr},RsR H g e->(∀a∈e,∀o,H a=some o->f a=some o)->RsR f g e
 |[],[],_,_=>trivial
 |_::_,a::_,⟨⟨m,n,p⟩,q⟩,k=>⟨⟨m,k a mem_cons_self _ n,gK t (kE _) p⟩,RsR.keep t q λb r=>k b (mem_cons_of_mem _ r)⟩
 |[],_::_,h,_=>h.elim
 |_::_,[],h,_=>h.elim
theorem RsR.len:∀{b:List (Mr)}{e:List Addr},RsR H b e->e.length=b.length
 |[],[],_=>rfl
 |_::_,_::_,⟨_,h⟩=>by rw[length_cons,length_cons,RsR.len h]
 |[],_::_,h=>h.elim
 |_::_,[],h=>h.elim
theorem RsR.snoc(g:H a=some (.lst b))(d:aT H (r.map cI) b):∀{e:List (Mr)}{f:List Addr},RsR H e f->RsR H (e++[r]) (f++[a])
 |[],[],_=>⟨⟨b,g,d⟩,trivial⟩
 |_::_,_::_,⟨m,n⟩=>⟨m,RsR.snoc g d n⟩
 |[],_::_,h=>h.elim
 |_::_,[],h=>h.elim
theorem RsR.split:∀{n:List (Mr)}{o:List Addr}{r:Mr},RsR H (n++[r]) o->∃f a m,o=f++[a]/\RsR H n f/\H a=some (.lst m)/\aT H (r.map cI) m
 |[],[a],r,⟨⟨m,g,d⟩,_⟩=>⟨[],a,m,rfl,trivial,g,d⟩
 |_::n,a::o,r,⟨p,q⟩=>by
  obtain⟨f,b,m,e,s,g,d⟩:=RsR.split q;exact⟨a::f,b,m,by rw[e];rfl,⟨p,s⟩,g,d⟩
 |[],[],_,h=>h.elim
 |[],_::_::_,_,h=>h.2.elim
 |_::_,[],_,h=>h.elim
section
variable{H H':Hp}{S:Sl}{M:Ms}
theorem StAt.keep(h:StAt H S M)(k:∀b o,H b=some o->b∈stL S->H' b=some o)(t:fX H H'):StAt H' S M:=by
 obtain⟨f,g,n⟩:=h.ls;obtain⟨p,q,r⟩:=h.hs;have m:∀b,b∈[S.ps,S.pl,S.ph,S.pr,S.pw]->b∈stL S:=λb s=>mem_append_left S.rs s;exact⟨k _ _ h.st (m _ (by simp)),⟨f,k _ _ g (m _ (by simp)),n.imp λa v=>pP.t t⟩,⟨p,k _ _ q (m _ (by simp)),r.imp λa v=>pS.t t⟩,k _ _ h.rw (m _ (by simp)),h.rr.keep t (λa u o e=>k a o e (mem_append_right [S.ps,S.pl,S.ph,S.pr,S.pw] u)),k _ _ h.wh (m _ (by simp)),h.nd⟩
theorem StAt.same(h:StAt H S M)(s:aG H H'):StAt H' S M:=h.keep (λb o e _=>s b o e) (aG.tup s)
theorem StAt.here(h:StAt H S M)(m:b∈stL S):∃o,H b=some o/\∀e,o ≠ .tup e:=by
 obtain⟨u,p,_⟩:=h.ls;obtain⟨x,q,_⟩:=h.hs;have s:∀{n:List (Mr)}{f:List Addr},RsR H n f->b∈f->∃o,H b=some o/\∀e,o ≠ .tup e:=by
  intro n
  induction n with
  |nil=>
   intro f h m;cases f with
   |nil=>cases m
   |cons a f=>exact h.elim
  |cons r n t=>
   intro f h m;cases f with
   |nil=>exact h.elim
   |cons a f=>
    rcases mem_cons.mp m with z |z
    ·obtain⟨⟨e,g,_⟩,_⟩:=h;exact⟨_,by rw[z];exact g,λe z=>by cases z⟩
    ·exact t h.2 z
 rcases mem_append.mp (show b∈[S.ps,S.pl,S.ph,S.pr,S.pw]++S.rs from m) with z |z
 ·simp only[mem_cons,List.not_mem_nil,or_false]at z;rcases z with z |z |z |z |z
  ·exact⟨_,by rw[z];exact h.st,λe z=>by cases z⟩
  ·exact⟨_,by rw[z];exact p,λe z=>by cases z⟩
  ·exact⟨_,by rw[z];exact q,λe z=>by cases z⟩
  ·exact⟨_,by rw[z];exact h.rw,λe z=>by cases z⟩
  ·exact⟨_,by rw[z];exact h.wh,λe z=>by cases z⟩
 ·exact s h.rr z
theorem StAt.off(h:StAt H S M)(f:H b=none):b∉stL S:=λz=>by
 obtain⟨o,e,_⟩:=h.here z;rw[f]at e;cases e
theorem cA(h:StAt H S M)(f:b∈stL S)(g:HO):StepS S S H (upd H b g):=by
 obtain⟨o,e,m⟩:=h.here f;exact⟨rfl,λc u n p=>by rw[aH (λz=>p (by rw[z];exact f))];exact n,λc q=>.inl q,kW e m⟩
end
abbrev A6:Stmt:=top 75
abbrev Dv:Stmt:=top 76
abbrev A4:Stmt:=top 83
structure MsOk(M:Ms)(c n:Nat):Prop where
 af:0<=M.after/\M.after<=9*(c:Int)
 so:(M.ls.map (·.1)).Pairwise (· < ·)
 lt:∀p∈M.ls,0<=p.1/\p.1<M.after/\p.2.1.length<=60
 cnt:M.ls.length<=9*c
 wk:M.wh.map (·.1)=M.ls.map (·.1)
 hn:(M.hs.map (·.1)).Nodup
 hl:M.hs.length<=c
 hk:∀p∈M.hs,p.1∈M.ls.map (·.1)/\gU p.2.1
 ne:M.rows≠[]
 rl:M.rows.length<=n
 sg:∀s∈M.rows,s.length<=n/\∀r∈s,r.2.2.length<=61
theorem MsOk.mono{M:Ms}{c n b e:Nat}(h:MsOk M c n)(m:c<=b)(f:n<=e):MsOk M b e:=⟨⟨h.af.1,by have:=h.af.2;omega⟩,h.so,h.lt,by have:=h.cnt;omega,h.wk,h.hn,le_trans h.hl m,h.hk,h.ne,le_trans h.rl f,λs g=>⟨le_trans (h.sg s g).1 f,(h.sg s g).2⟩⟩
def M0:Ms:=⟨[],0,[],0,[[("from",0,[])]],0,[]⟩
theorem M0_ok:MsOk M0 0 1:=⟨⟨Int.le_refl _,Int.le_refl _⟩,List.Pairwise.nil,(λp b=>by cases b),le_refl _,rfl,List.nodup_nil,le_refl _,(λp b=>by cases b),by decide,le_refl _,λs e=>by
 rw[mem_singleton.mp e];exact⟨le_refl _,λr hr=>by rw[mem_singleton.mp hr];exact zero_le _⟩⟩
def Gg(b:Mr):Int:=(b.map λr=>7+(r.2.2.length:Int)).sum
def wX:Sp:=λf H Q _=>f=[]/\∀S e,aG H e->(∀b∈stL S,H b=none)->StAt e S M0->Q (.ref S.ps) e
inductive tY(vs:Mp)(H:Hp)(Q:VK)(x_3:XK):Prop
 |mk:∀(l:Addr)(rs:Mr)(xs:Mp),vs=[.ref l]->H l=some (.lst xs)->aT H (rs.map cI) xs->rs.length<=100000->(∀H',aG H H'->Q (.int (Gg rs)) H')->tY vs H Q x_3
inductive qM(vs:Mp)(H:Hp)(Q:VK)(x_3:XK):Prop
 |mk:∀(S:Sl)(M:Ms)(r:Mr)(rs:List (Mr)),vs=[.ref S.ps]->StAt H S M->M.rows=r::rs->(∀S' H',StepS S S' H H'->StAt H' S' {M with rows:=rs,first:=M.first+1}->Q .non H')->qM vs H Q x_3
section
variable{H:Hp}{S:Sl}{M:Ms}
theorem StAt.g_letters(h:StAt H S M):cR H S.ps (.str "letters") (some (.ref S.pl)):=cR.k (k:=Sum.inr "letters") h.st
theorem StAt.g_after(h:StAt H S M):cR H S.ps (.str "after") (some (.int M.after)):=cR.k (k:=Sum.inr "after") h.st
theorem StAt.g_hands(h:StAt H S M):cR H S.ps (.str "hands") (some (.ref S.ph)):=cR.k (k:=Sum.inr "hands") h.st
theorem StAt.g_time(h:StAt H S M):cR H S.ps (.str "time") (some (.int M.time)):=cR.k (k:=Sum.inr "time") h.st
theorem StAt.g_rows(h:StAt H S M):cR H S.ps (.str "rows") (some (.ref S.pr)):=cR.k (k:=Sum.inr "rows") h.st
theorem StAt.g_first(h:StAt H S M):cR H S.ps (.str "first") (some (.int M.first)):=cR.k (k:=Sum.inr "first") h.st
theorem StAt.g_where(h:StAt H S M):cR H S.ps (.str "where") (some (.ref S.pw)):=cR.k (k:=Sum.inr "where") h.st
end
section
variable{P:Program}{w:World}{K:Ma}{mg:Mc}{base:Heap}{A:Ad}
theorem FU{f:Addr}{fd:Ml}(F:Fun K "_law_begin" "_law_begin" A6 f fd):‹14› 1 f fd [] wX:=by
 refine F.okY [] λaj A' ag s H vs Q E hr nD0 h=>?_;obtain⟨rfl,q⟩:=h;refine⟨_,@aC _ _ _ (@aP _ _ _ _ (@Jd _ _ _ _ _ (@iZ _ _ _ _ _ _ _ _ _ ‹34› (@i4 _ _) (@iZ _ _ _ _ _ _ _ _ _ ‹34› ‹36› (@iZ _ _ _ _ _ _ _ _ _ ‹34› (@i4 _ _) (@iZ _ _ _ _ _ _ _ _ _ ‹34› ‹36› (@iZ _ _ _ _ _ _ _ _ _ ‹34› (@cD _ _ _ _ (@fN _ _ _ _ _ _ (@cD _ _ _ _ (@bV _ _ _ _ _ _ _ (@bE _ _ _ _ _ (@aI _ _ _ _ _ _ _ ‹34› (@aI _ _ _ _ _ _ _ ‹36› (@bV _ _ _ _ _ _ _ (@bE _ _ _ _ _ (@aF _)) (@aF _))))) (@aF _))) (@aF _))) (@iZ _ _ _ _ _ _ _ _ _ ‹34› ‹36› (@iZ _ _ _ _ _ _ _ _ _ ‹34› (@i4 _ _) (@JU _ _)))))))) ⋯ ⋯ (List.cons_ne_nil _ _) (by decide))),?_⟩;refine λJ W N y O t=>⟨aJ,λpe B=>⟨aJ,λpt u=>⟨aJ,λX r=>⟨aJ,λR p Y m=>?_⟩⟩⟩⟩;obtain⟨H1,g,Z,g1⟩:=gUU (o:=.dK []) W;rw[g]at y t B u r p m⊢;obtain⟨H2,g,s2,g2⟩:=gUU (o:=.dK []) y;rw[g]at t B u r p m⊢;obtain⟨H3,g,s3,g3⟩:=gUU (o:=.dK []) t;rw[g]at B u r p m⊢;obtain⟨H4,g,L,g4⟩:=gUU (o:=.tup []) B;rw[g]at u r p m⊢;obtain⟨H5,g,S,g5⟩:=gUU (o:=.tup [.str "from",.int 0,.ref pe]) u;rw[g]at r p m⊢;obtain⟨H6,g,s6,g6⟩:=gUU (o:=.lst [.ref pt]) r;rw[g]at p m⊢;obtain⟨H7,g,s7,g7⟩:=gUU (o:=.lst [.ref X]) p;rw[g]at m⊢;obtain⟨H8,g,s8,g8⟩:=gUU (o:=.dK []) m;rw[g];have aa:=s7.trans s8;have ab:=s6.trans aa;have ac:=S.trans ab;have ad:=L.trans ac;have ae:=s3.trans ad;have af:=s2.trans ae;have x:∀{c:Addr},H1 c=none->c≠J:=λh z=>by rw[z,g1]at h;cases h
 have n2:∀{c:Addr},H2 c=none->c≠N:=λh z=>by rw[z,g2]at h;cases h
 have n3:∀{c:Addr},H3 c=none->c≠O:=λh z=>by rw[z,g3]at h;cases h
 have n6:∀{c:Addr},H6 c=none->c≠X:=λh z=>by rw[z,g6]at h;cases h
 have n7:∀{c:Addr},H7 c=none->c≠R:=λh z=>by rw[z,g7]at h;cases h
 have f3:=s2.trans s3;have f5:=f3.trans (L.trans S);have f6:=f5.trans s6;have f7:=f6.trans s7;have D:=f5.free r;have G:=f6.free p;have I:=f7.free m;refine⟨af _ _ g1,[(Sum.inr "letters",.ref N),(Sum.inr "after",.int 0),(Sum.inr "hands",.ref O),(Sum.inr "time",.int 0),(Sum.inr "rows",.ref R),(Sum.inr "first",.int 0),(Sum.inr "where",.ref Y)],rfl,le_of_ble_eq_true rfl,?_⟩;have em:qV [] [((Sum.inr "letters" : Key),V.ref N),(Sum.inr "after",.int 0),(Sum.inr "hands",.ref O),(Sum.inr "time",.int 0),(Sum.inr "rows",.ref R),(Sum.inr "first",.int 0),(Sum.inr "where",.ref Y)]=stK ⟨J,N,O,R,Y,[X]⟩ M0:=rfl;rw[em];have U:∀{c:Addr}{o:HO},H8 c=some o->c≠J->upd H8 J (.dK (stK ⟨J,N,O,R,Y,[X]⟩ M0)) c=some o:=λe n=>by rw[aH n];exact e
 refine q ⟨J,N,O,R,Y,[X]⟩ _ (λb o e=>U ((Z.trans af) b o e) (bS e W)) (λb hb=>?_) ⟨aB,⟨[],U (ae _ _ g2) (x y),trivial⟩,⟨[],U (ad _ _ g3) (x (s2.free t)),trivial⟩,U (s8 _ _ g7) (x G),⟨⟨[.ref pt],U (aa _ _ g6) (x D),?_⟩,trivial⟩,U g8 (x I),?_⟩
 ·have hb:b∈[J,N,O,R,Y,X]:=hb;simp only[mem_cons,List.not_mem_nil,or_false]at hb;rcases hb with rfl |rfl |rfl |rfl |rfl |rfl
  ·exact W
  ·exact Z.free y
  ·exact(Z.trans s2).free t
  ·exact Z.free G
  ·exact Z.free I
  ·exact Z.free D
 ·have ah:pt≠J:=x ((f3.trans L).free u);have ai:pe≠J:=x (f3.free B);show aT _ [cI ("from",0,[])] [.ref pt];unfold cI fQ;simp only[Den,aT,map_nil];exact⟨_,_,rfl,⟨pt,_,rfl,U (ab _ _ g5) ah,_,_,rfl,rfl,_,_,rfl,rfl,_,_,rfl,⟨pe,_,rfl,U (ac _ _ g4) ai,rfl⟩,rfl⟩,rfl⟩
 ·show List.Nodup [J,N,O,R,Y,X];have a1:=x y;have a2:=x (s2.free t);have a3:=x G;have a4:=x I;have a5:=x D;have b1:=n2 t;have b2:=n2 ((s3.trans (L.trans (S.trans s6))).free p);have b3:=n2 ((s3.trans (L.trans (S.trans (s6.trans s7)))).free m);have b4:=n2 ((s3.trans (L.trans S)).free r);have c1:=n3 ((L.trans (S.trans s6)).free p);have c2:=n3 ((L.trans (S.trans (s6.trans s7))).free m);have c3:=n3 ((L.trans S).free r);have d1:=n7 m;have d2:=n6 p;have d3:=n6 (s7.free m);simp only[nodup_cons,mem_cons,List.not_mem_nil,or_false,not_or,List.nodup_nil,and_true,not_false_eq_true];exact⟨⟨λz=>a1 z.symm,λz=>a2 z.symm,λz=>a3 z.symm,λz=>a4 z.symm,λz=>a5 z.symm⟩,⟨λz=>b1 z.symm,λz=>b2 z.symm,λz=>b3 z.symm,λz=>b4 z.symm⟩,⟨λz=>c1 z.symm,λz=>c2 z.symm,λz=>c3 z.symm⟩,⟨λz=>d1 z.symm,d2⟩,d3⟩
theorem HX{f:Addr}{B:Ml}(F:Fun K "_law_size" "_law_size" Dv f B)(T:‹3›):‹14› 1 f B ["_law_rows"] tY:=by
 refine F.okY ["_law_rows"] λN A' n s H vs Q E hr nD0 h=>?_;obtain⟨l,o,xs,rfl,g,d,hl,q⟩:=h;refine⟨_,@aC _ _ _ (@aP _ _ _ _ (@bJ _ _ _ _ _ _ _ _ _ (nK K) ⋯ T.ax5 AY (@dX _ _ _ _ _ _ _ _ (@cV _ _ _ _ _ _ _ _ _ _ _ ["_law_row"] [] ⋯ (@bU _ K _ _ _ ‹30› ⋯) (λC s2 H2 ex=>(@bH _ _ (0) _ (show List.Nodup (["_law_row"]:Mg) by decide +kernel) ⋯ (Or.inl ⋯) ⋯)) (λC s2 H2 ex=>(@ED _)) (λC s2 H2 ex=>(@bC _ _ _ _ _ _ _ _ cT ‹36› (@bJ _ _ _ _ _ _ _ _ _ (dI K) ⋯ T.ae0 gM (@aN _ _ _ _ _ _ _ (@cG _ _ _ _ _ _ _ (cU K) ‹30› ‹36› (λ_ _=>rfl)) (@aF _)) ⋯ ⋯ ⋯ ⋯))) ⋯ ⋯ ⋯ ⋯) (@aF _)) ⋯ ⋯ ⋯ ⋯)),?_⟩;have O:=d.length;rw[length_map]at O;refine⟨_,rfl,l,rfl,⟨_,SqL.of g⟩,?_⟩;refine c8 (bO (K:=K) (SqL.of g)) (le_trans (show _<=100000 by omega) (by decide)) (λi y _=>∃r,o[i]? = some r/\y = .int (7+(r.2.2.length:Int))) (λ_ _ _ _ _ h=>h) (λR=>∃z,R = [z]) ⟨none,rfl⟩ ?_ ?_
 ·intro i x S H3 hi p G U Q' u;obtain⟨z,rfl⟩:=p;obtain⟨dd,m,W⟩:=d.get U;rw[getElem?_map]at m;cases e:o[i]? with
  |none=>rw[e]at m;cases m
  |some r=>
   rw[e]at m;cases m;obtain⟨t,b,rfl,X,Y⟩:=pB W;refine⟨_,rfl,t,_,_,.ref b,rfl,rfl,SqT.of (G _ _ X),a8 (by decide) rfl,b,_,rfl,.inr (SqT.of (G _ _ Y)),_,_,rfl,rfl,?_⟩;rw[length_map];exact u _ _ _ ⟨_,rfl⟩ (aG.refl _) ⟨r,e,rfl⟩
 intro D I H2 hD Z gD J hR;have ey:I=(o.map λr=>7+(r.2.2.length:Int)).map V.int:=by
  apply ext_getElem?;intro j;cases L:I[j]? with
  |none=>
   have h1:=List.getElem?_eq_none_iff.mp L;rw[List.getElem?_eq_none_iff.mpr];rw[length_map,length_map];omega
  |some y=>
   obtain⟨r,e1,rfl⟩:=hR j y L;rw[getElem?_map,getElem?_map,e1];rfl
 subst ey;exact⟨D,_,rfl,.inl (SqL.of gD),q H2 Z⟩
theorem FS{f:Addr}{fd:Ml}(F:Fun K "_law_front_goes" "_law_front_goes" A4 f fd):‹14› 1 f fd ["_law_state"] qM:=by
 refine F.okY ["_law_state"] λah A' X s H vs Q E hr nD0 h=>?_;obtain⟨S,M,r,m,rfl,h,er,q⟩:=h;refine⟨_,@aA _ _ _ _ _ (@fM _ _ _ _ _ _ _ _ _ (hu1 hr.units) ‹30› ‹34› (@mG _ _ _ _ _ _ _ _ _ _ (uJ K) ‹22› (@m6 _ _ _ ‹36›) (@sW _)) ⋯) (@aC _ _ _ (@zQ _ _ _ _ _ _ _ _ _ _ _ (hu1 hr.units) ‹30› ‹34› ‹36› (@vL _) (λ_ _ _=>⋯))),?_⟩;refine⟨_,rfl,S.ps,_,rfl,h.g_rows,_,rfl,S.pr,_,rfl,SqL.of h.rw,λp Y=>?_⟩;obtain⟨a0,g,t⟩:∃a0 g,S.rs=a0::g:=by
  have:=h.rr.len;rw[er,length_cons]at this;exact List.exists_cons_of_length_eq_add_one this
 have ec:sM (S.rs.map V.ref) (some 1) none=g.map V.ref:=by
  rw[yR (by rw[t,map_cons,length_cons];omega),t];rfl
 rw[ec];obtain⟨D,Z,s1,g1⟩:=gUU (o:=.lst (g.map V.ref)) Y;rw[Z];have y:=h.same s1;have O:=h.off Y;refine⟨_,rfl,S.ps,_,rfl,jU.k (k:=Sum.inr "rows") y.st (by show 7<sizeLine;decide),?_⟩;have e2:eF (stK S M) (Sum.inr "rows") (.ref p)=stK {S with pr:=p,rs:=g} M:=rfl;rw[e2];have g2:upd D S.ps (.dK (stK {S with pr:=p,rs:=g} M)) S.ps=some (.dK (stK {S with pr:=p,rs:=g} M)):=aB;have aa:=cA y (b:=S.ps) (by unfold stL;simp) (.dK (stK {S with pr:=p,rs:=g} M));have k2:∀c o,D c=some o->c≠S.ps->upd D S.ps (.dK (stK {S with pr:=p,rs:=g} M)) c=some o:=λc o e n=>by rw[aH n];exact e
 generalize upd D S.ps (.dK (stK {S with pr:=p,rs:=g} M))=H2 at g2 aa k2⊢;refine⟨_,rfl,S.ps,_,rfl,cR.k (k:=Sum.inr "first") g2,_,_,rfl,rfl,_,jU.k (k:=Sum.inr "first") g2 (by show 7<sizeLine;decide),?_⟩;have e3:eF (stK {S with pr:=p,rs:=g} M) (Sum.inr "first") (.int (M.first+1))=stK {S with pr:=p,rs:=g} {M with rows:=m,first:=M.first+1}:=rfl;rw[e3];have R:=h.nd;unfold stL at R;rw[t]at R;simp only[nodup_cons,mem_cons,not_or]at R;obtain⟨⟨G,I,ai,J,aj,L⟩,⟨ab,ak,ac,al,ad⟩,⟨am,ae,an,af⟩,⟨ao,ap,aq⟩,⟨ar,ag⟩,au,N⟩:=R;unfold stL at O;rw[t]at O;simp only[mem_cons,not_or]at O;obtain⟨p0,p1,p2,p3,p4,p5,p6⟩:=O;have B:∀c o,D c=some o->c≠S.ps->upd H2 S.ps (.dK (stK {S with pr:=p,rs:=g} {M with rows:=m,first:=M.first+1})) c=some o:=λc o e n=>by rw[aH n];exact k2 c o e n
 have U:fX D (upd H2 S.ps (.dK (stK {S with pr:=p,rs:=g} {M with rows:=m,first:=M.first+1}))):=λb xs e=>B b _ e (λz=>by rw[z,y.st]at e;cases e);obtain⟨kl,l1,l2⟩:=y.ls;obtain⟨kh,l3,l4⟩:=y.hs;have rr:=y.rr;rw[er,t]at rr;refine q {S with pr:=p,rs:=g} _ ⟨rfl,λb o e nb=>B b o (s1 _ _ e) (λz=>nb (by unfold stL;rw[z];exact mem_cons_self)),λb W=>?_,(aG.tup s1).trans U⟩ ⟨aB,⟨kl,B _ _ l1 (λz=>G z.symm),l2.imp λa v=>pP.t U⟩,⟨kh,B _ _ l3 (λz=>I z.symm),l4.imp λa v=>pS.t U⟩,B _ _ g1 p0,rr.2.keep U (λa ha o e=>B a o e (λz=>L (by rw[<- z];exact ha))),B _ _ y.wh (λz=>J z.symm),?_⟩
 ·have W:b∈S.ps::S.pl::S.ph::p::S.pw::g:=W;simp only[mem_cons]at W;unfold stL;rw[t];simp only[mem_cons];rcases W with z |z |z |z |z |z
  ·exact .inl (.inl z)
  ·exact .inl (.inr (.inl z))
  ·exact .inl (.inr (.inr (.inl z)))
  ·exact .inr (by rw[z];exact Y)
  ·exact .inl (.inr (.inr (.inr (.inr (.inl z)))))
  ·exact .inl (.inr (.inr (.inr (.inr (.inr (.inr z))))))
 ·show (S.ps::S.pl::S.ph::p::S.pw::g).Nodup;simp only[nodup_cons,mem_cons,not_or];exact⟨⟨G,I,λz=>p0 z.symm,J,L⟩,⟨ab,λz=>p1 z.symm,ac,ad⟩,⟨λz=>p2 z.symm,ae,af⟩,⟨p4,p6⟩,ag,N⟩
end
structure Nds(S:Sl):Prop where
 ps:S.ps≠S.pl/\S.ps≠S.ph/\S.ps≠S.pr/\S.ps≠S.pw/\S.ps∉S.rs
 pl:S.pl≠S.ph/\S.pl≠S.pr/\S.pl≠S.pw/\S.pl∉S.rs
 ph:S.ph≠S.pr/\S.ph≠S.pw/\S.ph∉S.rs
 pr:S.pr≠S.pw/\S.pr∉S.rs
 pw:S.pw∉S.rs
 rs:S.rs.Nodup
theorem nds:(stL S).Nodup ↔ Nds S:=by
 unfold stL;simp only[nodup_cons,mem_cons,not_or];exact⟨λ⟨a,b,c,d,e,f⟩=>⟨a,b,c,d,e,f⟩,λ⟨a,b,c,d,e,f⟩=>⟨a,b,c,d,e,f⟩⟩
section
variable{H:Hp}{S:Sl}{M:Ms}
theorem Lp:S.ps∈stL S:=mem_cons_self
theorem Ht:S.pl∈stL S:=mem_cons_of_mem _ mem_cons_self
theorem Jy:S.ph∈stL S:=mem_cons_of_mem _ (mem_cons_of_mem _ mem_cons_self)
theorem Lq:S.pr∈stL S:=mem_cons_of_mem _ (mem_cons_of_mem _ (mem_cons_of_mem _ mem_cons_self))
theorem Lo:S.pw∈stL S:=mem_cons_of_mem _ (mem_cons_of_mem _ (mem_cons_of_mem _ (mem_cons_of_mem _ mem_cons_self)))
theorem m_rs(h:a∈S.rs):a∈stL S:=mem_append_right [S.ps,S.pl,S.ph,S.pr,S.pw] h
theorem StAt.setF(h:StAt H S M)(b:Ms)(f:b.ls=M.ls)(g:b.hs=M.hs)(m:b.rows=M.rows)(p:b.wh=M.wh):StAt (upd H S.ps (.dK (stK S b))) S b:=by
 have n:=nds.mp h.nd;have st:=cA h Lp (.dK (stK S b));obtain⟨q,r,s⟩:=h.ls;obtain⟨t,u,x⟩:=h.hs;refine⟨aB,⟨q,by rw[aH n.ps.1.symm];exact r,by rw[f];exact s.imp λa v=>pP.t st.tup⟩,⟨t,by rw[aH n.ps.2.1.symm];exact u,by rw[g];exact x.imp λa v=>pS.t st.tup⟩,by rw[aH n.ps.2.2.1.symm];exact h.rw,by rw[m];exact h.rr.keep st.tup (λa y o e=>by rw[aH (λz=>n.ps.2.2.2.2 (by rw[<- z];exact y))];exact e),by rw[aH n.ps.2.2.2.1.symm,p];exact h.wh,h.nd⟩
theorem StAt.setL(h:StAt H S M)(r:TR (pP H) f b):StAt (upd H S.pl (.dK b)) S {M with ls:=f}:=by
 have n:=nds.mp h.nd;have st:=cA h Ht (.dK b);obtain⟨g,m,p⟩:=h.hs;exact⟨by rw[aH n.ps.1];exact h.st,⟨b,aB,r.imp λa v=>pP.t st.tup⟩,⟨g,by rw[aH n.pl.1.symm];exact m,p.imp λa v=>pS.t st.tup⟩,by rw[aH n.pl.2.1.symm];exact h.rw,h.rr.keep st.tup (λa q o e=>by rw[aH (λz=>n.pl.2.2.2 (by rw[<- z];exact q))];exact e),by rw[aH n.pl.2.2.1.symm];exact h.wh,h.nd⟩
theorem StAt.setH(h:StAt H S M)(r:TR (pS H) f b):StAt (upd H S.ph (.dK b)) S {M with hs:=f}:=by
 have n:=nds.mp h.nd;have st:=cA h Jy (.dK b);obtain⟨g,m,p⟩:=h.ls;exact⟨by rw[aH n.ps.2.1];exact h.st,⟨g,by rw[aH n.pl.1];exact m,p.imp λa v=>pP.t st.tup⟩,⟨b,aB,r.imp λa v=>pS.t st.tup⟩,by rw[aH n.ph.1.symm];exact h.rw,h.rr.keep st.tup (λa q o e=>by rw[aH (λz=>n.ph.2.2 (by rw[<- z];exact q))];exact e),by rw[aH n.ph.2.1.symm];exact h.wh,h.nd⟩
theorem StAt.setW(h:StAt H S M)(b:List (Int×Int)):StAt (upd H S.pw (.dK (wsK b))) S {M with wh:=b}:=by
 have n:=nds.mp h.nd;have st:=cA h Lo (.dK (wsK b));obtain⟨f,g,m⟩:=h.ls;obtain⟨p,q,r⟩:=h.hs;exact⟨by rw[aH n.ps.2.2.2.1];exact h.st,⟨f,by rw[aH n.pl.2.2.1];exact g,m.imp λa v=>pP.t st.tup⟩,⟨p,by rw[aH n.ph.2.1];exact q,r.imp λa v=>pS.t st.tup⟩,by rw[aH n.pr.1];exact h.rw,h.rr.keep st.tup (λa s o e=>by rw[aH (λz=>n.pw (by rw[<- z];exact s))];exact e),aB,h.nd⟩
theorem StAt.addSeg(h:StAt H S M)(g:H m=some (.lst u))(d:aT H (r.map cI) u)(B:m∉stL S):StAt (upd H S.pr (.lst ((S.rs++[m]).map V.ref))) {S with rs:=S.rs++[m] } {M with rows:=M.rows++[r] }:=by
 have n:=nds.mp h.nd;have st:=cA h Lq (.lst ((S.rs++[m]).map V.ref));obtain⟨D,E,G⟩:=h.ls;obtain⟨I,J,L⟩:=h.hs;have f:=B;unfold stL at f;simp only[mem_cons,not_or]at f;obtain⟨N,p2,O,t,Q,R⟩:=f;refine⟨by rw[aH n.ps.2.2.1];exact h.st,⟨D,by rw[aH n.pl.2.1];exact E,G.imp λa v=>pP.t st.tup⟩,⟨I,by rw[aH n.ph.1];exact J,L.imp λa v=>pS.t st.tup⟩,aB,RsR.snoc (by rw[aH t];exact g) (gK st.tup (kE _) d) (h.rr.keep st.tup (λa q o e=>by rw[aH (λz=>n.pr.2 (by rw[<- z];exact q))];exact e)),by rw[aH n.pr.1.symm];exact h.wh,nds.mpr ?_⟩;have p:∀{x:Addr},x∉S.rs->m≠x->x∉S.rs++[m]:=λa b z=>by
  rw[mem_append,mem_singleton]at z;exact z.elim a (λy=>b y.symm)
 refine⟨⟨n.ps.1,n.ps.2.1,n.ps.2.2.1,n.ps.2.2.2.1,p n.ps.2.2.2.2 N⟩,⟨n.pl.1,n.pl.2.1,n.pl.2.2.1,p n.pl.2.2.2 p2⟩,⟨n.ph.1,n.ph.2.1,p n.ph.2.2 O⟩,⟨n.pr.1,p n.pr.2 t⟩,p n.pw Q,?_⟩;rw[nodup_append];refine⟨n.rs,by simp,λa q b U=>?_⟩;rw[mem_singleton.mp U];exact λz=>R (by rw[<- z];exact q)
theorem StAt.addRow(h:StAt H S M)(N:M.rows=b++[q])(eS:S.rs=s++[a])(hr:RsR H b s)(O:H a=some (.lst f))(y:aT H (q.map cI) f)(B:Den H (cI r) v):StAt (upd H a (.lst (f++[v]))) S {M with rows:=b++[q++[r]] }:=by
 have n:=nds.mp h.nd;have u:a∈S.rs:=by rw[eS];exact mem_append_right _ (mem_singleton.mpr rfl)
 have st:=cA h (m_rs u) (.lst (f++[v]));obtain⟨D,E,G⟩:=h.ls;obtain⟨I,J,L⟩:=h.hs;have g:∀{x:Addr},x∉S.rs->x≠a:=λm z=>m (by rw[z];exact u);have p:∀x∈s,x≠a:=λx m z=>by
  have:=n.rs;rw[eS,nodup_append]at this;exact this.2.2 x m a (mem_singleton.mpr rfl) z
 refine⟨by rw[aH (g n.ps.2.2.2.2)];exact h.st,⟨D,by rw[aH (g n.pl.2.2.2)];exact E,G.imp λa v=>pP.t st.tup⟩,⟨I,by rw[aH (g n.ph.2.2)];exact J,L.imp λa v=>pS.t st.tup⟩,by rw[aH (g n.pr.2)];exact h.rw,?_,by rw[aH (g n.pw)];exact h.wh,h.nd⟩;rw[eS];refine RsR.snoc aB ?_ (hr.keep st.tup λx m o e=>by rw[aH (p x m)];exact e);rw[map_append];exact(gK st.tup (kE _) y).app (kR (Ee st.tup (lG _ _ _) B))
end
abbrev Az:Stmt:=top 77
def jI(M:Ms):Mr:=M.rows.getLastD []
def dP(M:Ms)(b:Int):Ms:=if b<=Gg (jI M) then {M with rows:=M.rows++[([("from",M.after,[])]:Mr)] } else M
def sK(k:Str):Bool:=inV (.str k) [V.str "put",.str "part",.str "carried"]
def fB(M:Ms)(r:Rw):Ms:={M with rows:=M.rows.dropLast++[jI M++[r]],wh:=if sK r.1=true then sE M.wh r.2.1 (M.first+(M.rows.length:Int)-1) else M.wh}
def dJ(M:Ms)(e:Mr)(b:Int):Ms:=e.foldl fB (dP M b)
inductive jZ(vs:Mp)(H:Hp)(Q:VK)(x_3:XK):Prop
 |mk:∀(S:Sl)(M:Ms)(l:Addr)(rs:Mr)(xs:Mp)(most:Int)(n:Nat),vs=[.ref S.ps,.ref l,.int most]->StAt H S M->M.rows≠[]->M.rows.length<=n->(∀s∈M.rows,s.length<=n)->n+rs.length<=90000->M.wh.length+rs.length<=90000->H l=some (.lst xs)->l∉stL S->aT H (rs.map cI) xs->(∀S' H',StepS S S' H H'->StAt H' S' (dJ M rs most)->Q .non H')->jZ vs H Q x_3
theorem lN{b : Type}{l:List b}(h:l≠[])(d:b):l=l.dropLast++[l.getLastD d]:=by
 obtain⟨a,x,rfl⟩:∃a x,l=a++[x]:=⟨l.dropLast,l.getLast h,(List.dropLast_concat_getLast h).symm⟩;rw[List.dropLast_concat,List.getLastD_concat]
theorem EH(f:M.rows≠[])(g:M.rows.length<=n)(e:∀s∈M.rows,s.length<=n):(dP M most).rows≠[]/\(dP M most).rows.length<=n+1/\(∀s∈(dP M most).rows,s.length<=n+1)/\(dP M most).wh=M.wh:=by
 unfold dP;split
 ·refine⟨by simp,by rw[length_append];show M.rows.length+1<=_;omega,λs b=>?_,rfl⟩;rcases mem_append.mp b with z |z
  ·have:=e s z;omega
  ·rw[mem_singleton.mp z];show 1<=n+1;omega
 ·exact⟨f,by omega,λs b=>by have:=e s b;omega,rfl⟩
theorem wB(M:Ms)(r:Rw)(h:M.rows≠[]):(fB M r).rows≠[]/\(fB M r).rows.length=M.rows.length/\(fB M r).wh.length<=M.wh.length+1/\∀n,(∀s∈M.rows,s.length<=n)->∀s∈(fB M r).rows,s.length<=n+1:=by
 have e:=lN h [];refine⟨by unfold fB;simp,?_,?_,λn f s b=>?_⟩
 ·show (M.rows.dropLast++[jI M++[r]]).length=_;have:=congrArg List.length e;rw[length_append]at this;rw[length_append];show M.rows.dropLast.length+1=_;exact this.symm
 ·unfold fB;show (if sK r.1=true then sE M.wh r.2.1 (M.first+(M.rows.length:Int)-1) else M.wh).length<=_;split
  ·unfold sE;split
   ·rw[length_map];omega
   ·rw[length_append];exact le_refl _
  ·omega
 ·have b:s∈M.rows.dropLast++[jI M++[r]]:=b;rcases mem_append.mp b with z |z
  ·have:=f s (by rw[e];exact mem_append_left _ z);omega
  ·rw[mem_singleton.mp z,length_append];have:=f (jI M) (by rw[e];exact mem_append_right _ (mem_singleton.mpr rfl));show (jI M).length+1<=_;omega
section
variable{P:Program}{w:World}{K:Ma}{mg:Mc}{base:Heap}{A:Ad}
theorem FN(F:Fun K "_law_write" "_law_write" Az f fd)(T:‹3›)(ax:‹15› "_law_size" 1 ["_law_rows"] tY):‹14› 2 f fd ["_law_state","_law_rows","_law_most"] jZ:=by
 refine F.okY ["_law_state","_law_rows","_law_most","_law_row"] λbf A' ay s H vs Q E hr nD0 h=>?_;obtain⟨S,M,l,D,xs,g,n,rfl,h,aj,az,ak,hn,hw,gl,nl,dl,q⟩:=h;refine⟨_,aA (bG (aY HU (bB ax ‹18› bA (aN (cG (cF K) ‹20› (u5 nW aM) (λ_ _=>rfl)) aF)) (pv 2) (bI _))
   (aC (aX (i5 K PySem.F.plainAttrs_list PySem.F.slot_list_append PySem.F.type_list_append iK ‹20› (fN (cD (bV (bE (aI bP (aN ‹20› ‹47›))) aF)) aF))))
   aO)
  (aC (eQ (i8 dF) ⋯ (bU K (pv 1)) ‹53›
   (aA (aX (i5 K PySem.F.plainAttrs_list PySem.F.slot_list_append PySem.F.type_list_append iK (cG (cF K) ‹20› (u5 nW aM) (λ_ _=>rfl)) ‹51›))
   (aC (bG (aY (HS K) ‹38› (bE ‹97›) ⋯)
    (aC (fM (hu1 hr.units) ‹20› ‹38› (bC lK (bC cT ‹20› (bJ (dI K) ⋯ T.ae0 gM (aN ‹20› aF))) aM) ⋯))
    aO))))),?_⟩
 obtain⟨p,W⟩:∃p,p=M.rows.dropLast:=⟨_,rfl⟩;have eM:M.rows=p++[jI M]:=by rw[W];exact lN aj []
 obtain⟨as,a,a0,eS,bg,ga,d0⟩:=RsR.split (by rw[<- eM];exact h.rr);have bh:(jI M).length<=n:=ak _ (by rw[eM];exact mem_append_right _ (mem_singleton.mpr rfl));obtain⟨o1,o2,o3,o4⟩:=EH (most:=g) aj az ak;refine Gk (λal O=>∃m,al=[some (.ref S.ps),some (.ref l),some (.int g),none]/\StepS S m H O/\StAt O m (dP M g)/\O l=some (.lst xs)/\l∉stL m/\aT O (D.map cI) xs) (λnx am=>?_) ?_
 ·refine⟨_,rfl,S.ps,_,rfl,h.g_rows,1,rfl,S.pr,_,_,.ref a,rfl,rfl,SqL.of h.rw,(by rw[eS,map_append];exact CL _ _),a,jI M,a0,rfl,ga,d0,by omega,λH1 X=>?_⟩;have R:=h.same X;refine⟨_,rfl,_,_,rfl,rfl,_,rfl,?_⟩;by_cases hm:g<=Gg (jI M)
  ·rw[decide_eq_true hm];refine aU ⟨_,rfl,S.ps,_,rfl,R.g_rows,.inl ⟨rfl,_,SqL.of R.rw⟩,_,rfl,S.ps,_,rfl,R.g_after,aJ,λpe a1=>⟨aJ,λY an=>⟨aJ,λJ u=>?_⟩⟩⟩;obtain⟨H2,Z,v1,w1⟩:=gUU (o:=.tup []) a1;rw[Z]at an u⊢;obtain⟨H3,Z,v2,w2⟩:=gUU (o:=.tup [.str "from",.int M.after,.ref pe]) an;rw[Z]at u⊢;have v3:=aD (o:=.lst [.ref Y]) u;have w3:upd H3 J (.lst [.ref Y]) J=some (.lst [.ref Y]):=aB;have h3:=R.same (v1.trans v2);have np:=h3.off u;generalize upd H3 J (.lst [.ref Y])=H4 at v3 w3⊢;have s4:=X.trans (v1.trans (v2.trans v3));have h4:=h.same s4;have dg:aT H4 (([("from",M.after,[])]:Mr).map cI) [.ref Y]:=by
    show aT _ [cI ("from",M.after,[])] [.ref Y];unfold cI fQ;simp only[Den,aT,map_nil];exact⟨_,_,rfl,⟨Y,_,rfl,v3 _ _ w2,_,_,rfl,rfl,_,_,rfl,rfl,_,_,rfl,⟨pe,_,rfl,v3 _ _ (v2 _ _ w1),rfl⟩,rfl⟩,rfl⟩
   refine⟨S.pr,_,.ref J,rfl,rfl,h4.rw,?_,?_⟩
   ·rw[length_map,h4.rr.len];exact lt_of_le_of_lt (show _<=90000 by omega) (by decide)
   rw[show S.rs.map V.ref++[.ref J]=(S.rs++[J]).map V.ref by rw[map_append];rfl];have h5:=h4.addSeg w3 dg np;have aa:=cA h4 Lq (.lst ((S.rs++[J]).map V.ref));have a2:l≠S.pr:=λz=>nl (by rw[z];exact Lq);refine am _ _ ⟨{S with rs:=S.rs++[J] },rfl,⟨rfl,λb o e nb=>aa.frm b o (s4 _ _ e) nb,λb L=>?_,(aG.tup s4).trans aa.tup⟩,?_,by rw[aH a2];exact s4 _ _ gl,λz=>?_,gK ((aG.tup s4).trans aa.tup) (kE _) dl⟩
   ·have L:b∈[S.ps,S.pl,S.ph,S.pr,S.pw]++(S.rs++[J]):=L;rw[<- append_assoc,mem_append,mem_singleton]at L;rcases L with z |z
    ·exact .inl z
    ·rw[z];exact .inr ((X.trans (v1.trans v2)).free u)
   ·unfold dP;rw[if_pos hm];exact h5
   ·have L:l∈[S.ps,S.pl,S.ph,S.pr,S.pw]++(S.rs++[J]):=z;rw[<- append_assoc,mem_append,mem_singleton]at L;rcases L with z |z
    ·exact nl z
    ·rw[z]at gl;rw[(X.trans (v1.trans v2)) _ _ gl]at u;cases u
  ·rw[decide_eq_false hm];refine bD (am _ _ ⟨S,rfl,aG.stepS X,?_,X _ _ gl,nl,dl.same X⟩);unfold dP;rw[if_neg hm];exact R
 rintro al H1 ⟨m,rfl,G,R,ao,a3,ap⟩;have ln:=ap.length;rw[length_map]at ln;obtain⟨M1,aq⟩:∃M1,M1=dP M g:=⟨_,rfl⟩;rw[<- aq]at R o1 o2 o3 o4;refine⟨_,rfl,l,rfl,⟨_,SqL.of ao⟩,?_⟩;refine gG (bO (K:=K) (H:=upd (λ_=>none) l (.lst xs)) (SqL.of aB)) (λi σ O=>∃z3,σ = [some (.ref S.ps),some (.ref l),some (.int g),z3]/\StepS m m H1 O/\StAt O m ((D.take i).foldl fB M1)/\((D.take i).foldl fB M1).rows≠[]/\((D.take i).foldl fB M1).rows.length=M1.rows.length/\((D.take i).foldl fB M1).wh.length<=M.wh.length+i/\(∀s∈((D.take i).foldl fB M1).rows,s.length<=n+1+i)) ⟨none,rfl,aG.stepS (aG.refl _),R,o1,rfl,by rw[<- o4];exact le_refl _,o3⟩ (λi σ O hh b o e=>?_) ?_ ?_
 ·obtain⟨_,_,st,_⟩:=hh;by_cases y:b=l
  ·subst y;rw[aB]at e;injection e with e
   rw[<- e];exact st.frm _ _ ao a3
  ·rw[aH y]at e;cases e
 ·rintro D' i x σ H5 H6 ar-hi ⟨z3,rfl,st,a4,ab,ac,a5,N⟩ s6 hx;have hx:xs[i]? = some x:=hx;have hi:i<xs.length:=hi;have au:=st.trans (aG.stepS s6);obtain⟨dd,ad,dr⟩:=(gK au.tup (kE _) ap).get hx;rw[getElem?_map]at ad;obtain⟨r,er⟩:∃r,D[i]? = some r:=⟨_,getElem?_eq_getElem (by omega)⟩;rw[er]at ad;cases ad;obtain⟨t,bb,rfl,gt,gb⟩:=pB dr;have I:(D.take (i+1)).foldl fB M1=fB ((D.take i).foldl fB M1) r:=by
   rw[take_succ,er];show ((D.take i++[r]).foldl fB M1)=_;rw[List.foldl_append];rfl
  have h6:=a4.same s6;obtain⟨B,ba⟩:∃B,B=(D.take i).foldl fB M1:=⟨_,rfl⟩;rw[<- ba]at h6 ab ac a5 N I;have ae:B.rows=B.rows.dropLast++[jI B]:=lN ab [];obtain⟨bi,a6,af,ag,bc,ah,d6⟩:=RsR.split (by rw[<- ae];exact h6.rr);have be:(jI B).length<=n+1+i:=N _ (by rw[ae];exact mem_append_right _ (mem_singleton.mpr rfl));have l6:=d6.length;rw[length_map]at l6;refine⟨_,rfl,m.ps,_,(by rw[G.ps]),h6.g_rows,1,rfl,m.pr,_,_,.ref a6,rfl,rfl,SqL.of h6.rw,(by rw[ag,map_append];exact CL _ _),.inl ⟨rfl,_,SqL.of ah⟩,_,rfl,a6,af,.ref t,rfl,rfl,ah,lt_of_le_of_lt (show _<=200000 by omega) (by decide),?_⟩;have h7:=h6.addRow (v:=.ref t) (r:=r) ae ag bc ah d6 dr;have ai:=cA h6 (m_rs (by rw[ag];exact mem_append_right _ (mem_singleton.mpr rfl))) (.lst (af++[.ref t]));generalize upd H6 a6 (.lst (af++[.ref t]))=H7 at h7 ai⊢;have av:=ai.tup _ _ gt;refine⟨_,rfl,t,_,_,.str r.1,rfl,rfl,SqT.of av,a8 (by decide) rfl,aJ,new_o λpk H8 v8 w8=>?_⟩;have U:=h7.same v8;have aw:=au.trans (ai.trans (aG.stepS v8));obtain⟨b1,b2,b3,b4⟩:=wB B r ab;refine⟨pk,_,rfl,.inr (SqT.of w8),rfl,rfl,_,rfl,?_⟩;show if sK r.1=true then _ else _
  cases L:sK r.1 with
  |true=>
   refine aU ⟨_,rfl,m.ps,_,(by rw[G.ps]),U.g_first,_,rfl,m.ps,_,(by rw[G.ps]),U.g_rows,m.pr,_,rfl,.inl (SqL.of U.rw),_,_,rfl,rfl,_,_,rfl,rfl,_,rfl,m.ps,_,(by rw[G.ps]),U.g_where,_,rfl,t,_,_,.int r.2.1,rfl,rfl,SqT.of (v8 _ _ av),a8 (by decide) rfl,m.pw,_,rfl,jU.k (k:=Sum.inl r.2.1) U.wh ?_,?_⟩
   ·unfold wsK;rw[length_map];exact lt_of_le_of_lt (show B.wh.length<=90000 by omega) (by decide)
   have el:((m.rs.map V.ref).length:Int)=(B.rows.length:Int):=by rw[length_map,h6.rr.len]
   rw[el,Iv];have h9:=U.setW (sE B.wh r.2.1 (B.first+(B.rows.length:Int)-1));have bd:=cA U Lo (.dK (wsK (sE B.wh r.2.1 (B.first+(B.rows.length:Int)-1))));refine ar _ _ ⟨_,rfl,aw.trans bd,?_,by rw[I];exact b1,by rw[I,b2];exact ac,by rw[I];omega,by rw[I];exact λs hs=>b4 _ N s hs⟩;rw[I];unfold fB;rw[if_pos L];exact h9
  |false=>
   refine bD (ar _ _ ⟨_,rfl,aw,?_,by rw[I];exact b1,by rw[I,b2];exact ac,by rw[I];omega,by rw[I];exact λs hs=>b4 _ N s hs⟩);rw[I];unfold fB;rw[if_neg (by rw[L];decide)];exact U
 rintro σ H5 ⟨z3,rfl,st,h5,_⟩;rw[ln,take_length,aq]at h5;exact q m H5 (G.trans st) h5
end
abbrev A0:Stmt:=top 78
abbrev Gs:Stmt:=top 79
def l5(M:Ms):Mf:=(M.ls.map (·.1)).filter λn=>decide (n∉M.hs.map (·.1))
def tQ(b:La)(n:Int):Int:=((gE b n).getD ([],0)).2
def f9(M:Ms)(b:Int):Mf:=(l5 M).filter λn=>decide (tQ M.ls n<b)
theorem nF:∀{b:La}{n:Int}{a:Mf×Int},(b.map (·.1)).Nodup->(n,a)∈b->gE b n=some a
 |[],_,_,_,h=>by cases h
 |p::b,n,a,e,h=>by
  rw[map_cons,nodup_cons]at e;unfold gE;rw[find?_cons];rcases mem_cons.mp h with y |y
  ·rw[<- y,decide_eq_true rfl];rfl
  ·rw[decide_eq_false (λz=>e.1 (by rw[z];exact mem_map_of_mem (f:=(·.1)) y))];exact nF e.2 y
inductive qH(vs:Mp)(H:Hp)(Q:VK)(x_3:XK):Prop
 |mk:∀(S:Sl)(M:Ms)(tries:Int),vs=[.ref S.ps,.int tries]->StAt H S M->(M.ls.map (·.1)).Pairwise (· < ·)->M.ls.length<=1000->(∀p p1 p2 H',aG H H'->H' p=some (.tup [.ref p1,.ref p2])->H' p1=some (.lst ((f9 M tries).map V.int))->H' p2=some (.lst (((l5 M).filter λn=>decide (n∉f9 M tries)).map V.int))->H p1=none->H p2=none->Q (.ref p) H')->qH vs H Q x_3
def fY(M:Ms)(b:Mf):Ms:={M with ls:=gA M.ls M.after (b,0),after:=M.after+1}
def uY(M:Ms)(e:Md)(f:Mr)(b:Int):Ms:=e.foldl fY (dJ M f b)
inductive zI(vs:Mp)(H:Hp)(Q:VK)(x_3:XK):Prop
 |mk:∀(S:Sl)(M:Ms)(ab l:Addr)(bss:Md)(ys:Mp)(rs:Mr)(xs:Mp)(most:Int)(n:Nat),vs=[.ref S.ps,.ref ab,.int most,.ref l]->StAt H S M->M.rows≠[]->M.rows.length<=n->(∀s∈M.rows,s.length<=n)->n+rs.length<=90000->M.wh.length+rs.length<=90000->H l=some (.lst xs)->l∉stL S->aT H (rs.map cI) xs->(H ab=some (.lst ys)\/H ab=some (.tup ys))->ab∉stL S->aT H (dZ bss) ys->M.ls.length+bss.length<=90000->(∀S' H',StepS S S' H H'->StAt H' S' (uY M bss rs most)->Q .non H')->zI vs H Q x_3
theorem Ag:∀(b:Mr)(M:Ms),(b.foldl fB M).ls=M.ls/\(b.foldl fB M).hs=M.hs/\(b.foldl fB M).after=M.after/\(b.foldl fB M).time=M.time/\(b.foldl fB M).first=M.first
 |[],M=>⟨rfl,rfl,rfl,rfl,rfl⟩
 |r::b,M=>Ag b (fB M r)
theorem Jf(M:Ms)(b:Int):(dP M b).ls=M.ls/\(dP M b).hs=M.hs/\(dP M b).after=M.after/\(dP M b).time=M.time/\(dP M b).first=M.first:=by
 unfold dP;split <;> exact⟨rfl,rfl,rfl,rfl,rfl⟩
theorem fJ(M:Ms)(g:Mr)(f:Int):(dJ M g f).ls=M.ls/\(dJ M g f).hs=M.hs/\(dJ M g f).after=M.after/\(dJ M g f).time=M.time/\(dJ M g f).first=M.first:=by
 obtain⟨a,b,c,d,e⟩:=Ag g (dP M f);obtain⟨m,n,o,p,q⟩:=Jf M f;exact⟨a.trans m,b.trans n,c.trans o,d.trans p,e.trans q⟩
theorem CJ:∀(e:Md)(M:Ms),(e.foldl fY M).ls.length<=M.ls.length+e.length
 |[],M=>le_refl _
 |b::e,M=>by
  have h:=CJ e (fY M b);have:(fY M b).ls.length<=M.ls.length+1:=by
   show (gA M.ls M.after (b,0)).length<=_;unfold gA;split
   ·rw[length_map];omega
   ·rw[length_append];exact le_refl _
  rw[length_cons];show (e.foldl fY (fY M b)).ls.length<=_;omega
section
variable{P:Program}{w:World}{K:Ma}{mg:Mc}{base:Heap}{A:Ad}
theorem FO(F:Fun K "_law_ready" "_law_ready" A0 f fd)(T:‹3›):‹14› 1 f fd ["_law_state","_law_tries"] qH:=by
 refine F.okY ["_law_state","_law_tries","_law_some","_law_ready_here"] λao A' ai s H vs Q E hr nD0 h=>?_;obtain⟨S,M,g,rfl,h,so,hl,q⟩:=h;refine⟨_,aA (m5 (i:=2) ["_law_number"] [("_law_state",0)] nD0 ⋯ ⋯ ⋯ (bU K ‹88›) ‹39› (λC s2 H2 ex=>(hG (n8 (nA (hu1 hr.units) (pv 0) (dO (hu1 hr.units) (pv 1) bP (λ_ _=>rfl)))))) ‹64›)
  (aA (aW (i:=3) nD0 ⋯ ⋯ (cV ["_law_number"] [("_law_state",0),("_law_tries",1)] ⋯ (bU K (pv 2)) (λC s2 H2 ex=>(bH (i:=0) (show List.Nodup (["_law_number","_law_state","_law_tries"]:Mg) by decide +kernel) ⋯ (Or.inl ⋯))) (λC s2 H2 ex=>(hG (aY vA (cG (cU K) ‹44› aM (λ_ _=>rfl)) (pv 2) (bI _)))) ‹64›))
  (aC (aP (bE (aE (pv 3) (dX (cV ["_law_number"] [("_law_ready_here",3)] ⋯ (bU K (pv 2)) (λC s2 H2 ex=>(bH (i:=0) (show List.Nodup (["_law_number","_law_ready_here"]:Mg) by decide +kernel) ⋯ (Or.inl ⋯))) (λC s2 H2 ex=>(hG (aY (kK K) (pv 0) (pv 1) ⋯))) ‹64›) aF)))))),?_⟩
 obtain⟨kl,l1,l2⟩:=h.ls;obtain⟨kh,l3,l4⟩:=h.hs;refine⟨_,rfl,S.ps,_,rfl,h.g_letters,S.pl,kl,M.ls.map (·.1),rfl,l1,l2.keys,.inr (so.imp Int.le_of_lt),by rw[length_map];omega,λp ms X pw hp=>?_⟩;have em:ms=M.ls.map (·.1):=eJ X pw (so.imp Int.le_of_lt);subst em;obtain⟨H1,aj,s1,g1⟩:=gUU (o:=.lst ((M.ls.map (·.1)).map V.int)) hp;rw[aj];obtain⟨I,O⟩:∃I,I=M.ls.map (·.1):=⟨_,rfl⟩;have lk:I.length<=1000:=by rw[O,length_map];exact hl
 rw[<- O]at g1;have Y:l5 M=I.filter λn=>decide (n∉M.hs.map (·.1)):=by rw[O];rfl
 refine⟨p,rfl,⟨_,SqL.of g1⟩,?_⟩;refine fS (bO (K:=K) (SqL.of g1)) (by rw[length_map];exact le_trans lk (by decide)) (λj=>decide (I.getD j 0∉M.hs.map (·.1))) (λj=>V.int (I.getD j 0)) (λZ=>∃z,Z = [z,some (.ref S.ps)]) ⟨none,rfl⟩ ?_ ?_
 ·intro j x aa H3 hj D G r Q1 Q2 Q3 u y;obtain⟨z,rfl⟩:=D;rw[getElem?_map]at r;cases e:I[j]? with
  |none=>rw[e]at r;cases r
  |some n=>
   rw[e]at r;cases r;have eg:I.getD j 0=n:=by rw[getD_eq_getElem?_getD,e];rfl
   rw[eg]at u y;have R:=h.same (s1.trans G);have dg:=cR.k (k:=Sum.inl n) ((s1.trans G) _ _ l3);refine⟨_,rfl,_,rfl,S.ps,_,rfl,R.g_hands,S.ph,_,rfl,dg,_,rfl,?_⟩;by_cases m:n∈M.hs.map (·.1)
   ·obtain⟨a,v,_,ev,_⟩:=l4.look m;rw[ev];exact bD (y _ ⟨_,rfl⟩ (decide_eq_false (λz=>z m)))
   ·rw[(l4.no m).1];exact aU ⟨_,rfl,u _ ⟨_,rfl⟩ (decide_eq_true m)⟩
 intro ab H2 an s2 U;rw[length_map,gH I (λn=>decide (n∉M.hs.map (·.1))),<- Y]at U;obtain⟨B,J⟩:∃B,B=l5 M:=⟨_,rfl⟩;rw[<- J]at U q;have ak:∀n∈B,n∈M.ls.map (·.1):=λn m=>by
  rw[J]at m;exact(mem_filter.mp m).1
 have ac:B.length<=1000:=by
  rw[J,Y];exact le_trans (length_filter_le _ _) lk
 have S2:=s1.trans s2;obtain⟨L,ad⟩:∃L,L=tQ M.ls:=⟨_,rfl⟩;have al:∀n:Int,n∈M.ls.map (·.1)->∃t b,c9 kl (Sum.inl n)=some (.ref t)/\H t=some (.tup [.ref b,.int (L n)]):=λn m=>by
  obtain⟨a,v,ha,ev,t,b,e1,e2,_⟩:=l2.look m;have nd:(M.ls.map (·.1)).Nodup:=so.imp λa b=>by omega
  have:L n=a.2:=by
   rw[ad];unfold tQ;rw[nF nd ha];rfl
  exact⟨t,b,by rw[ev,e1],by rw[this];exact e2⟩
 refine⟨_,rfl,ab,rfl,⟨_,SqL.of U⟩,?_⟩;refine fS (bO (K:=K) (SqL.of U)) (by rw[length_map];exact le_trans ac (by decide)) (λj=>decide (L (B.getD j 0)<g)) (λj=>V.int (B.getD j 0)) (λZ=>∃z,Z = [z,some (.ref S.ps),some (.int g)]) ⟨none,rfl⟩ ?_ ?_
 ·intro j x aa H3 hj D G r Q1 Q2 Q3 u y;obtain⟨z,rfl⟩:=D;rw[getElem?_map]at r;cases e:B[j]? with
  |none=>rw[e]at r;cases r
  |some n=>
   rw[e]at r;cases r;have eg:B.getD j 0=n:=by rw[getD_eq_getElem?_getD,e];rfl
   rw[eg]at u y;have R:=h.same (S2.trans G);obtain⟨t,b,ev,gt⟩:=al n (ak n (mem_of_getElem? e));have dg:=cR.k (k:=Sum.inl n) ((S2.trans G) _ _ l1);rw[ev]at dg;refine⟨_,rfl,S.ps,_,rfl,R.g_letters,_,rfl,S.pl,_,rfl,dg,t,_,_,.int (L n),rfl,rfl,SqT.of ((S2.trans G) _ _ gt),a8 (by decide) rfl,_,rfl,_,_,rfl,rfl,_,rfl,?_⟩;by_cases m:L n<g
   ·rw[decide_eq_true m];exact aU ⟨_,rfl,u _ ⟨_,rfl⟩ (decide_eq_true m)⟩
   ·rw[decide_eq_false m];exact bD (y _ ⟨_,rfl⟩ (decide_eq_false m))
 intro N H3 ae G g3;rw[length_map,gH B (λn=>decide (L n<g))]at g3;have S3:=S2.trans G;refine⟨_,rfl,_,rfl,ab,rfl,⟨_,SqL.of (G _ _ U)⟩,?_⟩;obtain⟨W,af⟩:∃W,W=B.filter (λn=>decide (L n<g)):=⟨_,rfl⟩;rw[<- af]at g3;refine fS (bO (K:=K) (SqL.of (G _ _ U))) (by rw[length_map];exact le_trans ac (by decide)) (λj=>decide (B.getD j 0∉W)) (λj=>V.int (B.getD j 0)) (λZ=>∃z,Z = [z,some (.ref N)]) ⟨none,rfl⟩ ?_ ?_
 ·intro j x aa H4 hj D s4 r Q1 Q2 Q3 u y;obtain⟨z,rfl⟩:=D;rw[getElem?_map]at r;cases e:B[j]? with
  |none=>rw[e]at r;cases r
  |some n=>
   rw[e]at r;cases r;have eg:B.getD j 0=n:=by rw[getD_eq_getElem?_getD,e];rfl
   rw[eg]at u y;refine⟨_,rfl,_,rfl,N,_,rfl,.inl (SqL.of (s4 _ _ g3)),rfl,nI _,_,rfl,?_⟩;rw[if_pos rfl,pR];by_cases m:n∈W
   ·rw[decide_eq_true m];exact bD (y _ ⟨_,rfl⟩ (decide_eq_false (λz=>z m)))
   ·rw[decide_eq_false m];exact aU ⟨_,rfl,u _ ⟨_,rfl⟩ (decide_eq_true m)⟩
 intro ag H4 ah s4 g4;rw[length_map,gH B (λn=>decide (n∉W))]at g4;refine⟨aJ,λpt am=>?_⟩;have s5:=aD (o:=.tup [.ref N,.ref ag]) am;have S5:=S3.trans (s4.trans s5);have er:f9 M g=W:=by
  unfold f9;rw[af,ad,J]
 refine q pt N ag _ S5 aB ?_ ?_ (S2.free ae) (S3.free ah)
 ·rw[er];exact s5 _ _ (s4 _ _ g3)
 ·rw[er];exact s5 _ _ g4
theorem Ff(h:StAt p S M)(N:aT p (dZ e) O)(hl:M.ls.length+e.length<=90000)(k0:∀g,StepS S S p g->aG H0 g)
  (E:∀R:It->Hp->Prop,(∀J,Src J H0 O.length (λi x _=>O[i]? = some x)->R J p)->wi [some (.ref S.ps),some (.ref ab),some most,some (.ref l),q] p R)
  (go:∀g q,StepS S S p g->StAt g S (e.foldl fY M)->D.nx [some (.ref S.ps),some (.ref ab),some most,some (.ref l),q] g) :
  K8 wi (rZ 4) (tU (Kb (An (lU 0) (tC (V.str "letters"))) (An (lU 0) (tC (V.str "after"))) (Iy (eT (lU 4) (eT (tC (V.int 0)) kX)))) (Kd (lU 0) (tC (V.str "after")) (tC (V.int 1)) LS)) D [some (.ref S.ps),some (.ref ab),some most,some (.ref l),q] p:=by
 have G:=N.length;unfold dZ at G;rw[length_map]at G;refine E _ λJ S0=>?_;refine gG S0 (λi y g=>∃q,y = [some (.ref S.ps),some (.ref ab),some most,some (.ref l),q]/\StepS S S p g/\StAt g S ((e.take i).foldl fY M)) ⟨_,rfl,aG.stepS (aG.refl _),h⟩ (λi y g hh=>by obtain⟨_,_,st,_⟩:=hh;exact k0 g st) ?_ ?_
 ·rintro D' i x y Q H6 H-hi ⟨q,rfl,st,z⟩ U hx;have r:=st.trans (aG.stepS U);have W:=z.same U;obtain⟨dd,m,X⟩:=N.get hx;unfold dZ at m;rw[getElem?_map]at m;obtain⟨b,Y⟩:∃b,e[i]? = some b:=⟨_,getElem?_eq_getElem (by omega)⟩;rw[Y]at m;cases m;simp only[Den]at X;obtain⟨pb,zs,rfl,gb,dz⟩:=X;have ez:=cB.mp dz;subst ez;have Z:(e.take (i+1)).foldl fY M=fY ((e.take i).foldl fY M) b:=by
   rw[take_succ,Y];show ((e.take i++[b]).foldl fY M)=_;rw[List.foldl_append];rfl
  have o:((e.take i).foldl fY M).ls.length<=90000:=by
   have:=CJ (e.take i) M;rw[length_take]at this;omega
  obtain⟨f,I⟩:∃f,f=(e.take i).foldl fY M:=⟨_,rfl⟩;rw[<- I]at W Z o;refine⟨_,rfl,aJ,new_o λB H7 L w1=>?_⟩;have s:=W.same L;obtain⟨kl,l1,l2⟩:=s.ls;refine⟨_,rfl,S.ps,_,rfl,s.g_letters,_,rfl,S.ps,_,rfl,s.g_after,S.pl,_,rfl,jU.k (k:=Sum.inl f.after) l1 (by rw[l2.len];exact lt_of_le_of_lt o (by decide)),?_⟩;have t:=s.setL (l2.put (n:=f.after) (a:=(b,0)) (v:=.ref B) ⟨B,pb,rfl,w1,L _ _ (r.tup _ _ gb)⟩);have u:=cA s Ht (.dK (eF kl (Sum.inl f.after) (.ref B)));generalize upd H7 S.pl (.dK (eF kl (Sum.inl f.after) (.ref B)))=H8 at t u⊢;refine⟨_,rfl,S.ps,_,rfl,t.g_after,_,_,rfl,rfl,_,jU.k (k:=Sum.inr "after") t.st (by show 7<sizeLine;decide),?_⟩;have e9:eF (stK S {f with ls:=gA f.ls f.after (b,0)}) (Sum.inr "after") (.int (f.after+1))=stK S (fY f b):=rfl;rw[e9];refine H _ _ ⟨_,rfl,r.trans ((aG.stepS L).trans (u.trans (cA t Lp _))),?_⟩;rw[Z];exact t.setF (fY f b) rfl rfl rfl rfl
 ·rintro y Q ⟨q,rfl,st,z⟩;rw[G,take_length]at z;exact go Q _ st z
theorem Jn(F:Fun K "_law_put" "_law_put" Gs f fd)(T:‹3›)(X:‹7›):‹14› 3 f fd ["_law_state","_law_bodies","_law_most","_law_rows"] zI:=by
 refine F.okY ["_law_state","_law_bodies","_law_most","_law_rows","_law_body"] λag A' Y s H vs Q E hr nD0 h=>?_;obtain⟨S,M,r,l,t,O,rs,xs,m,n,rfl,h,Z,aa,ac,hn,hw,gl,nl,dl,G,z,I,J,q⟩:=h;refine⟨_,aA (aX (bB X ‹18› bA (aE (pv 0) (aE (pv 3) ‹37›))))
  (aC (eQ (i8 dF) ⋯ (JV K (pv 1)) ‹74›
   (aA (fM (hu1 hr.units) ‹20› ‹20› (bE (aE (pv 4) ‹43›)) ⋯)
   (aC (zQ (hu1 hr.units) (pv 0) bP aM vL (λ_ _ _=>⋯)))))),?_⟩
 refine⟨_,rfl,_,rfl,_,rfl,S,M,l,rs,xs,m,n,rfl,h,Z,aa,ac,hn,hw,gl,nl,dl,λS1 U p h1=>?_⟩;have e1:=(fJ M rs m).1;have ad:fD (dZ t)=true:=by
  clear I J q
  induction t with
  |nil=>rfl
  |cons b t W=>
   show (lT (.tuple (b.map .int)) && fD (dZ t))=true;rw[W];have:fD (b.map PyData.int)=true:=by
    clear W
    induction b with
    |nil=>rfl
    |cons x b W=>exact W
   show (fD (b.map PyData.int) && true)=true;rw[this];rfl
 have ae:=gK p.tup ad I;have L:U r=some (.lst O)\/U r=some (.tup O):=G.imp (λg=>p.frm _ _ g z) (λg=>p.frm _ _ g z);obtain⟨o,eo,af⟩:∃o,U r=some o/\(o = .lst O\/o = .tup O):=by
  rcases L with g |g
  ·exact⟨_,g,.inl rfl⟩
  ·exact⟨_,g,.inr rfl⟩
 have N:r∉stL S1:=by
  rcases G with g |g
  ·exact p.not g z
  ·exact p.not g z
 rw[<- p.ps];show K8 (iSeq K (lU 1)) (rZ 4) _ {nx:=λx B=>Q V.non B,rt:=Q} [some (.ref S1.ps),some (.ref r),some (.int m),some (.ref l),none] U;refine Ff (D:={nx:=λx B=>Q V.non B,rt:=Q}) (ab:=r) (l:=l) (most:=.int m) (H0:=upd (λ_=>none) r o) h1 ae (by rw[e1];exact J) (λB st b u e=>?_) (λR hR=>?_) λB z4 st h'=>q S1 B (p.trans st) h'
 ·by_cases y:b=r
  ·subst y;rw[aB]at e;injection e with e
   rw[<- e];exact st.frm _ _ eo N
  ·rw[aH y]at e;cases e
 ·refine⟨_,rfl,r,rfl,?_⟩;rcases af with rfl |rfl
  ·exact .inl ⟨⟨_,SqL.of eo⟩,hR _ (bO (SqL.of aB))⟩
  ·exact .inr ⟨⟨_,SqT.of eo⟩,hR _ (oO (SqT.of aB))⟩
end
def lQ(b:List (Mr))(n:Nat):Prop:=b≠[]/\b.length<=n/\∀s∈b,s.length<=n/\∀r∈s,r.2.2.length<=61
theorem MsOk.rows(h:MsOk M c n):lQ M.rows n:=⟨h.ne,h.rl,h.sg⟩
theorem FC(h:lQ M.rows n):lQ (dP M e).rows (n+1):=by
 obtain⟨a,b,c,_⟩:=EH (most:=e) h.1 h.2.1 λs f=>(h.2.2 s f).1;refine⟨a,b,λs f=>⟨c s f,?_⟩⟩;unfold dP at f;split at f
 ·rcases mem_append.mp f with z |z
  ·exact(h.2.2 s z).2
  ·rw[mem_singleton.mp z];intro r hr;rw[mem_singleton.mp hr];exact zero_le _
 ·exact(h.2.2 s f).2
theorem GC(h:lQ M.rows n)(hr:r.2.2.length<=61):lQ (fB M r).rows (n+1):=by
 obtain⟨a,b,_,d⟩:=wB M r h.1;refine⟨a,by rw[b];exact le_succ_of_le h.2.1,λs f=>⟨d n (λs f=>(h.2.2 s f).1) s f,?_⟩⟩;have e:=lN h.1 [];have f:s∈M.rows.dropLast++[jI M++[r]]:=f;rcases mem_append.mp f with z |z
 ·exact(h.2.2 s (by rw[e];exact mem_append_left _ z)).2
 ·rw[mem_singleton.mp z];intro x g;rcases mem_append.mp g with y |y
  ·exact(h.2.2 (jI M) (by rw[e];exact mem_append_right _ (mem_singleton.mpr rfl))).2 x y
  ·rw[mem_singleton.mp y];exact hr
theorem yF:∀{rs:Mr}{M:Ms}{n:Nat},lQ M.rows n->(∀r∈rs,r.2.2.length<=61)->lQ (rs.foldl fB M).rows (n+rs.length)
 |[],M,n,h,_=>h
 |r::rs,M,n,h,hr=>by
  have:=yF (rs:=rs) (GC (r:=r) h (hr r mem_cons_self)) λx b=>hr x (mem_cons_of_mem _ b);rw[length_cons];rw[show n+(rs.length+1)=n+1+rs.length by omega];exact this
theorem tJ(h:lQ M.rows n)(hr:∀r∈rs,r.2.2.length<=61):lQ (dJ M rs most).rows (n+1+rs.length):=yF (FC h) hr
theorem zT(M:Ms)(b:Int):(dP M b).wh=M.wh:=by
 unfold dP;split <;> rfl
theorem MsOk.write1(h:MsOk M c n)(g:r.2.2.length<=61)(m:sK r.1=true->r.2.1∈M.ls.map (·.1)):MsOk (dJ M [r] most) c (n+2):=by
 obtain⟨b,e,f,s,t⟩:=fJ M [r] most;have hr:=tJ (rs:=[r]) (most:=most) h.rows (λx o=>by rw[mem_singleton.mp o];exact g);have p:(dJ M [r] most).wh.map (·.1)=M.ls.map (·.1):=by
  show (if sK r.1=true then sE (dP M most).wh r.2.1 ((dP M most).first+((dP M most).rows.length:Int)-1) else (dP M most).wh).map (·.1)=_;rw[zT];split
  ·rename_i q;rw[E7 _ (by rw[h.wk];exact m q),h.wk]
  ·exact h.wk
 exact⟨by rw[f];exact h.af,by rw[b];exact h.so,by rw[b,f];exact h.lt,by rw[b];exact h.cnt,by rw[b];exact p,by rw[e];exact h.hn,by rw[e];exact h.hl,by rw[b,e];exact h.hk,hr.1,hr.2.1,hr.2.2⟩
def eY(w:Str)(k:Int):Md->Mr
 |[]=>[]
 |b::e=>(w,k,b)::eY w (k+1) e
theorem kJ(w:Str):∀(k:Int)(e:Md),(eY w k e).length=e.length
 |_,[]=>rfl
 |k,b::e=>by rw[length_cons,<- kJ w (k+1) e];rfl
theorem oA:∀{k:Int}{e:Md}{r:Rw},r∈eY w k e->r.2.2∈e
 |_,[],_,h=>by cases h
 |k,b::e,r,h=>by
  rcases mem_cons.mp h with z |z
  ·rw[z];exact mem_cons_self
  ·exact mem_cons_of_mem _ (oA z)
theorem xY:∀{bs:Md}{k:Int}{i:Nat}{b:Mf},bs[i]? = some b->(eY w k bs)[i]? = some (w,k+(i:Int),b)
 |[],_,i,b,h=>by cases h
 |e::bs,k,0,b,h=>by
  cases h;show some (w,k,e)=some (w,k+((0:Nat):Int),e);rw[show k+((0:Nat):Int)=k by omega]
 |e::bs,k,i+1,b,h=>by
  have:=xY (w:=w) (k:=k+1) (bs:=bs) (i:=i) (b:=b) h;show (eY w (k+1) bs)[i]? = _;rw[this,show k+1+(i:Int)=k+((i+1:Nat):Int) by omega]
theorem EG(hw:sK w=true):∀(f:Md)(k:Int)(M:Ms),(∀p∈M.wh,p.1<k)->((eY w k f).foldl fB M).wh.map (·.1)=M.wh.map (·.1)++(eY w k f).map (·.2.1)
 |[],k,M,_=>by
  show M.wh.map (·.1)=M.wh.map (·.1)++[];rw[append_nil]
 |b::f,k,M,h=>by
  have n:k∉M.wh.map (·.1):=λz=>by
   obtain⟨p,g,e⟩:=mem_map.mp z;have:=h p g;omega
  have m:(fB M (w,k,b)).wh=M.wh++[(k,M.first+(M.rows.length:Int)-1)]:=by
   show (if sK w=true then _ else _)=_;rw[if_pos hw,HD _ n]
  have o:=EG hw f (k+1) (fB M (w,k,b)) (λp g=>by
   rw[m]at g;rcases mem_append.mp g with z |z
   ·have:=h p z;omega
   ·rw[mem_singleton.mp z];show k<k+1;omega)
  show ((eY w (k+1) f).foldl fB (fB M (w,k,b))).wh.map (·.1)=_;rw[o,m,map_append,append_assoc];rfl
theorem DV:∀(f:Md)(M:Ms)(w:Str),(∀p∈M.ls,p.1<M.after)->((f.foldl fY M).ls=M.ls++(eY w M.after f).map (λr=>(r.2.1,(r.2.2,(0:Int)))))
 |[],M,w,_=>by
  show M.ls=M.ls++[];rw[append_nil]
 |b::f,M,w,h=>by
  have n:M.after∉M.ls.map (·.1):=λz=>by
   obtain⟨p,g,e⟩:=mem_map.mp z;have:=h p g;omega
  have m:(fY M b).ls=M.ls++[(M.after,(b,0))]:=uX _ n;have o:=DV f (fY M b) w (λp g=>by
   rw[m]at g;show p.1<M.after+1;rcases mem_append.mp g with z |z
   ·have:=h p z;omega
   ·rw[mem_singleton.mp z];show M.after<M.after+1;omega)
  show (f.foldl fY (fY M b)).ls=_;rw[o,m,append_assoc];rfl
theorem qA:∀(g:Md)(M:Ms),(g.foldl fY M).after=M.after+(g.length:Int)/\(g.foldl fY M).hs=M.hs/\(g.foldl fY M).time=M.time/\(g.foldl fY M).rows=M.rows/\(g.foldl fY M).first=M.first/\(g.foldl fY M).wh=M.wh
 |[],M=>⟨(Int.add_zero _).symm,rfl,rfl,rfl,rfl,rfl⟩
 |b::g,M=>by
  obtain⟨a,m,c,d,e,f⟩:=qA g (fY M b);refine⟨a.trans ?_,m,c,d,e,f⟩;rw[length_cons];show M.after+1+(g.length:Int)=M.after+((g.length+1:Nat):Int);omega
theorem lJ:∀{e:Md}{k:Int}{x:Int},x∈(eY w k e).map (·.2.1)->k<=x/\x<k+(e.length:Int)
 |[],k,x,h=>by cases h
 |b::e,k,x,h=>by
  rw[length_cons];rcases mem_cons.mp (show x∈k::(eY w (k+1) e).map (·.2.1) from h) with z |z
  ·omega
  ·have:=lJ z;omega
theorem BQ:∀(e:Md)(k:Int),((eY w k e).map (·.2.1)).Pairwise (· < ·)
 |[],k=>List.Pairwise.nil
 |b::e,k=>by
  show (k::(eY w (k+1) e).map (·.2.1)).Pairwise (· < ·);refine List.pairwise_cons.mpr ⟨λx f=>?_,BQ e (k+1)⟩;have:=lJ f;omega
theorem MsOk.put(h:MsOk M c n)(hw:sK w=true)(u:∀b∈bs,b.length<=60)(hl:bs.length<=9)(ht:tl.length<=1)(m:∀r∈tl,sK r.1=false/\r.2.2.length<=61):MsOk (uY M bs (eY w M.after bs++tl) most) (c+1) (n+11):=by
 unfold uY;obtain⟨G,y,B,U,V⟩:=fJ M (eY w M.after bs++tl) most;have W:(eY w M.after bs++tl).length<=10:=by rw[length_append,kJ];omega
 have hr:=tJ (rs:=eY w M.after bs++tl) (most:=most) h.rows (λx H=>by
  rcases mem_append.mp H with z |z
  ·exact le_succ_of_le (u _ (oA z))
  ·exact(m x z).2)
 have I:∀p∈M.wh,p.1<M.after:=λp g=>by
  have:p.1∈M.wh.map (·.1):=mem_map_of_mem g;rw[h.wk]at this;obtain⟨q,J,e⟩:=mem_map.mp this;rw[<- e];exact(h.lt q J).2.1
 have X:∀(tl:Mr)(o:Ms),(∀r∈tl,sK r.1=false/\r.2.2.length<=61)->(tl.foldl fB o).wh=o.wh:=by
  intro tl
  induction tl with
  |nil=>intro o _;rfl
  |cons r tl Y=>
   intro o R;show (tl.foldl fB (fB o r)).wh=_;rw[Y _ λx H=>R x (mem_cons_of_mem _ H)];show (if sK r.1=true then _ else _)=_;rw[(R r mem_cons_self).1];rfl
 have S:(dJ M (eY w M.after bs++tl) most).wh.map (·.1)=M.ls.map (·.1)++(eY w M.after bs).map (·.2.1):=by
  unfold dJ;rw[List.foldl_append,X _ _ m,EG hw bs M.after (dP M most) (by rw[zT];exact I),zT,h.wk]
 generalize dJ M (eY w M.after bs++tl) most=M1 at G y B U V hr S⊢;obtain⟨D,L,f3,N,f5,Z⟩:=qA bs M1;have E:=DV bs M1 w (by rw[G,B];exact λp g=>(h.lt p g).2.1);rw[G,B]at E;rw[B]at D;have O:(bs.foldl fY M1).ls.map (·.1)=M.ls.map (·.1)++(eY w M.after bs).map (·.2.1):=by
  rw[E,map_append,map_map];rfl
 have aa:=h.af;refine⟨⟨by rw[D];omega,by rw[D];omega⟩,?_,λp g=>?_,?_,by rw[Z,S,O],by rw[L,y];exact h.hn,by rw[L,y];have:=h.hl;omega,λp g=>?_,by rw[N];exact hr.1,by rw[N];have:=hr.2.1;omega,λs Q=>?_⟩
 ·rw[O,pairwise_append];refine⟨h.so,BQ _ _,λa ha b u=>?_⟩;obtain⟨q,J,e⟩:=mem_map.mp ha;have:=(h.lt q J).2.1;have:=lJ u;omega
 ·rw[E]at g;rw[D];rcases mem_append.mp g with z |z
  ·have:=h.lt p z;exact⟨this.1,by have:=this.2.1;omega,this.2.2⟩
  ·obtain⟨r,t,e⟩:=mem_map.mp z;have k1:=lJ (mem_map_of_mem (f:=λr:Rw=>r.2.1) t);rw[<- e];exact⟨by show 0<=r.2.1;omega,k1.2,u _ (oA t)⟩
 ·rw[E,length_append,length_map,kJ];have:=h.cnt;omega
 ·rw[L,y]at g;rw[O];exact⟨mem_append_left _ (h.hk p g).1,(h.hk p g).2⟩
 ·rw[N]at Q;exact⟨by have:=(hr.2.2 s Q).1;omega,(hr.2.2 s Q).2⟩
theorem gS{e : Type}(b:List (Int×e))(n:Int):(b.filter λp=>decide (p.1≠n)).map (·.1)=(b.map (·.1)).filter λk=>decide (k≠n):=by
 rw[filter_map];rfl
theorem MsOk.dropH(h:MsOk M c n):MsOk {M with hs:=M.hs.filter λp=>decide (p.1≠k)} c n:=
 ⟨h.af,h.so,h.lt,h.cnt,h.wk,by show ((M.hs.filter λp=>decide (p.1≠k)).map (·.1)).Nodup;rw[gS];exact h.hn.filter _,le_trans (length_filter_le _ _) h.hl,λp b=>h.hk p (mem_filter.mp b).1,h.ne,h.rl,h.sg⟩
theorem MsOk.dropL(h:MsOk M c n)(e:k∉M.hs.map (·.1)):MsOk {M with ls:=M.ls.filter (λp=>decide (p.1≠k)),wh:=M.wh.filter λp=>decide (p.1≠k)} c n:=by
 refine⟨h.af,?_,λp b=>h.lt p (mem_filter.mp b).1,le_trans (length_filter_le _ _) h.cnt,?_,h.hn,h.hl,λp b=>⟨?_,(h.hk p b).2⟩,h.ne,h.rl,h.sg⟩
 ·show ((M.ls.filter λp=>decide (p.1≠k)).map (·.1)).Pairwise _;rw[gS];exact h.so.filter _
 ·show (M.wh.filter λp=>decide (p.1≠k)).map (·.1)=(M.ls.filter λp=>decide (p.1≠k)).map (·.1);rw[gS,gS,h.wk]
 ·show p.1∈(M.ls.filter λp=>decide (p.1≠k)).map (·.1);rw[gS];exact mem_filter.mpr ⟨(h.hk p b).1,decide_eq_true λz=>e (by rw[<- z];exact mem_map_of_mem b)⟩
abbrev A3:Stmt:=top 81
section
variable{P:Program}{w:World}{K:Ma}{mg:Mc}{base:Heap}{A:Ad}
theorem EM{q:Addr}{H f:Hp}{S:Sl}{M:Ms}{c n:Nat}{x:Str}{k b:Int}{ns:Mf}{o g p2:Addr}{R:Hp->Prop}{E:XK}(p:q=S.ps)(h:StAt H S M)(ok:MsOk M c n)(G:n<=80000)(I:c<=100)(r:aG H f)(t:f p2=some (.lst [.ref g]))(u:f g=some (.tup [.str x,.int k,.ref o]))(y:f o=some (.tup (ns.map V.int)))(z:H p2=none)
  (go:∀m e,StepS S m H e->StAt e m (dJ M [(x,k,ns)] b)->R e):jZ [.ref q,.ref p2,.int b] f (λ_ e=>R e) E:=by
 refine⟨S,M,p2,[(x,k,ns)],[.ref g],b,n,by rw[p],h.same r,ok.ne,ok.rl,λs B=>(ok.sg s B).1,?_,?_,t,h.off z,?_,λm e st D=>go m e ((aG.stepS r).trans st) D⟩
 ·show n+1<=90000;omega
 ·have:=congrArg List.length ok.wk;rw[length_map,length_map]at this;have:=ok.cnt;show M.wh.length+1<=90000;omega
 ·refine kR ?_;unfold cI fQ;simp only[Den,aT];exact⟨g,_,rfl,u,_,_,rfl,rfl,_,_,rfl,rfl,_,_,rfl,⟨o,_,rfl,y,cB.mpr rfl⟩,rfl⟩
theorem zW{H:Hp}{S:Sl}{M:Ms}{c n:Nat}{x:Str}{k e:Int}{R:Hp->Prop}{E:XK}(h:StAt H S M)(ok:MsOk M c n)(y:n<=80000)(z:c<=100)(go:∀t m,StepS S t H m->StAt m t (dJ M [(x,k,[])] e)->R m){f p p2:Addr}(r:H f=none)(q:upd H f (.tup []) p=none)(b:upd (upd H f (.tup [])) p (.tup [.str x,.int k,.ref f]) p2=none) :
  jZ [.ref S.ps,.ref p2,.int e] (upd (upd (upd H f (.tup [])) p (.tup [.str x,.int k,.ref f])) p2 (.lst [.ref p])) (λ_ m=>R m) E:=by
 obtain⟨G,g,u,B⟩:=gUU (o:=.tup []) r;rw[g]at q b⊢;obtain⟨H2,g,s2,D⟩:=gUU (o:=.tup [.str x,.int k,.ref f]) q;rw[g]at b⊢;have s:=aD (o:=.lst [.ref p]) b;exact EM (ns:=[]) rfl h ok y z (u.trans (s2.trans s)) aB (s _ _ D) ((s2.trans s) _ _ B) ((u.trans s2).free b) go
def eI(M:Ms):Ab:=⟨M.ls,M.after,M.hs,M.time⟩
def Io(S:Sl)(H:Hp)(c n:Nat)(a:Ab)(Q:VK):Prop:=∀f b e v,StepS S f H e->StAt e f b->MsOk b c n->eI b=a->Q v e
def Fx(a:Ab)(y x:Str)(k:Int):Ab:=if (bY a.hs k).map (·.1)=some x then (if y = "done" then {a with ls:=dropL a.ls k,hs:=a.hs.filter λp=>decide (p.1≠k)} else {a with hs:=a.hs.filter λp=>decide (p.1≠k)}) else a
theorem vG:∀{b:Mt}{n:Int}{a:Str×Int},(b.map (·.1)).Nodup->(n,a)∈b->bY b n=some a
 |[],_,_,_,h=>by cases h
 |p::b,n,a,e,h=>by
  rw[map_cons,nodup_cons]at e;unfold bY;rw[find?_cons];rcases mem_cons.mp h with y |y
  ·rw[<- y,decide_eq_true rfl];rfl
  ·rw[decide_eq_false (λz=>e.1 (by rw[z];exact mem_map_of_mem (f:=(·.1)) y))];exact vG e.2 y
theorem Bg{b:Mt}{n:Int}(h:n∉b.map (·.1)):bY b n=none:=by
 unfold bY;rw[map_eq_none_iff,find?_eq_none];intro p e z;exact h (by rw[<- of_decide_eq_true z];exact mem_map_of_mem e)
inductive qL(vs:Mp)(H:Hp)(Q:VK)(x_3:XK):Prop
 |mk:∀(S:Sl)(M:Ms)(d:Addr)(most:Int)(y x:Str)(k:Int)(c n:Nat),vs=[.ref S.ps,.ref d,.int most]->StAt H S M->MsOk M c n->n<=80000->c<=100->H d=some (.tup [.str y,.str x,.int k])->x ≠ ""->Io S H c (n+2) (Fx (eI M) y x k) Q->qL vs H Q x_3
theorem FR(F:Fun K "_law_given" "_law_given" A3 f fd)(T:‹3›)(X:‹7›):‹14› 3 f fd ["_law_state","_law_deed_here","_law_most"] qL:=by
 refine F.okY ["_law_state","_law_deed_here","_law_most","_law_word","_law_hand","_law_number"] λai A' Y s H vs Q E hr nD0 h=>?_;obtain⟨S,M,d,b,y,x,k,c,n,rfl,h,ok,hn,hc,gd,hx,q⟩:=h;refine⟨_,aA (qS (pv 1) (iF K (n:=3) (cJ ‹53› (cJ ‹74› (cJ (bH (i:=5) nD0 ⋯ ⋯) iE)))))
  (aA (bG (aY BR (cG (cU K) (i5 K PySem.F.plainAttrs_dict PySem.F.slot_dict_get PySem.F.type_dict_get (Hl (hu1 hr.units)) ‹20› (aE (pv 5) (bV (bE (aI bP ‹43›)) aF))) aM (λ_ _=>rfl)) (pv 4) (bI _))
   (aC (aP bP))
   aO)
  (aA (bG ‹52›
   (aA (aX (bB X ‹18› bA (aE (pv 0) (fN (cD (bV (bE (aI bP (aE (pv 5) ‹47›))) aF)) ‹37›))))
   (aA ‹80›
   (aC ‹80›)))
   aO)
  (aA ‹80›
  ‹76›))),?_⟩
 obtain⟨kl,l1,l2⟩:=h.ls;obtain⟨kh,l3,l4⟩:=h.hs;refine⟨_,rfl,d,_,rfl,SqT.of gd,rfl,_,_,rfl,_,_,rfl,_,_,rfl,rfl,?_⟩;refine⟨_,rfl,S.ps,_,rfl,h.g_hands,.inr (.inr (.inl ⟨rfl,.inl ⟨_,l3⟩⟩)),_,rfl,aJ,new_o λpt Z I g1=>?_⟩;have hv:∃t z tt,(c9 kh (Sum.inl k)).getD (.ref pt) = .ref t/\Z t=some (.tup [.str z,.int tt])/\(k∉M.hs.map (·.1)->z = "")/\(k∈M.hs.map (·.1)->bY M.hs k=some (z,tt)):=by
  by_cases m:k∈M.hs.map (·.1)
  ·obtain⟨a,v,ha,L,t,N,B⟩:=l4.look m;exact⟨t,a.1,a.2,by rw[L,N];rfl,I _ _ B,λz=>absurd m z,λ_=>vG ok.hn ha⟩
  ·rw[(l4.no m).1];exact⟨pt,"",0,rfl,g1,λ_=>rfl,λz=>absurd z m⟩
 obtain⟨t,z,tt,et,gt,hz,O⟩:=hv;have h1:=h.same I;refine⟨S.ph,_,_,_,rfl,rfl,cR.k (k:=Sum.inl k) (I _ _ l3),t,_,_,.str z,et,rfl,SqT.of gt,a8 (by decide) rfl,?_⟩;refine⟨_,rfl,rfl,_,rfl,?_⟩;show if (!decide (V.str z=V.str x))=true then _ else _
 by_cases o:z=x
 ·rw[show (!decide (V.str z=V.str x))=false by rw[decide_eq_true (by rw[o])];rfl];refine bD ?_;have m:k∈M.hs.map (·.1):=by
   apply Classical.byContradiction;intro y;exact hx (by rw[<- o];exact hz y)
  have hy:(bY (eI M).hs k).map (·.1)=some x:=by
   show (bY M.hs k).map (·.1)=some x;rw[O m,<- o];rfl
  have tail:∀g M1 H2,StepS S g H H2->StAt H2 g M1->M1.hs=M.hs->eI {M1 with hs:=M1.hs.filter λp=>decide (p.1≠k)}=Fx (eI M) y x k->MsOk {M1 with hs:=M1.hs.filter λp=>decide (p.1≠k)} c (n+2)->tU (KS (tBM K "dict" G8 (An (lU 0) (tC (V.str "hands"))) (eT (lU 5) kX))) (tRet (tC V.non)) {nx:=λx H'=>Q V.non H',rt:=Q} [some (.ref S.ps),some (.ref d),some (.int b),some (.str y),some (.str x),some (.int k)] H2:=by
   intro g M1 H2 st u B ea aa;obtain⟨ab,a3,a4⟩:=u.hs;obtain⟨_,v,_,L,_⟩:=a4.look (n:=k) (by rw[B];exact m);exact⟨_,rfl,g.ps,_,(by rw[st.ps]),u.g_hands,.inr (.inr (.inl ⟨rfl,.inl ⟨_,a3⟩⟩)),_,rfl,g.ph,ab,Sum.inl k,v,rfl,rfl,a3,L,q g _ _ _ (st.trans (cA u Jy _)) (u.setH a4.drop) aa ea⟩
  refine⟨_,rfl,rfl,_,rfl,?_⟩;show if decide (V.str y=V.str "done")=true then _ else _
  cases R:decide (V.str y=V.str "done") with
  |false=>exact bD (tail S M Z (aG.stepS I) h1 rfl (by
   unfold Fx;rw[if_pos hy,if_neg (λe=>of_decide_eq_false R (by rw[e]))];rfl) (ok.dropH.mono (le_refl _) (by omega)))
  |true=>
   refine aU ⟨_,rfl,_,rfl,aJ,λp0 ac=>⟨aJ,λp1 ad=>⟨aJ,λp2 ae=>⟨_,rfl,?_⟩⟩⟩⟩;refine zW (E:=E0) h1 ok hn hc (λg H2 af u=>?_) ac ad ae;have D:=ok.write1 (r:=("done",k,[])) (most:=b) (zero_le _) (λz=>by cases z);obtain⟨N,B,e3,e4,e5⟩:=fJ M [("done",k,[])] b;generalize dJ M [("done",k,[])] b=M1 at u D N B e3 e4 e5;have st:=(aG.stepS I).trans af;obtain⟨G,a1,a2⟩:=u.ls;have U:k∈M1.ls.map (·.1):=by
    obtain⟨p,hp,e⟩:=mem_map.mp m;rw[N,<- e];exact(ok.hk p hp).1
   obtain⟨_,v,_,L,_⟩:=a2.look U;refine⟨_,rfl,g.ps,_,(by rw[st.ps]),u.g_letters,.inr (.inr (.inl ⟨rfl,.inl ⟨_,a1⟩⟩)),_,rfl,g.pl,G,Sum.inl k,v,rfl,rfl,a1,L,?_⟩;have J:=u.setL (a2.drop (n:=k));have W:=st.trans (cA u Ht (.dK (e7 G (Sum.inl k))));generalize upd H2 g.pl (.dK (e7 G (Sum.inl k)))=H3 at J W⊢;obtain⟨sk,ag⟩:=qX (ws:=M1.wh) (k:=k) (by rw[D.wk];exact U);have ew:c9 (wsK M1.wh) (Sum.inl k)=some (.int sk):=by rw[sP,ag];rfl
   refine⟨_,rfl,g.ps,_,(by rw[st.ps]),J.g_where,.inr (.inr (.inl ⟨rfl,.inl ⟨_,J.wh⟩⟩)),_,rfl,g.pw,_,Sum.inl k,_,rfl,rfl,J.wh,ew,?_⟩;show tU _ _ _ _ (upd H3 g.pw (.dK (e7 (wsK M1.wh) (Sum.inl k))));rw[GF];have h4:=J.setW (M1.wh.filter λp=>decide (p.1≠k));have ah:=W.trans (cA J Lo (.dK (wsK (M1.wh.filter λp=>decide (p.1≠k)))));refine tail g _ _ ah h4 B (by
    unfold Fx;rw[if_pos hy,if_pos (V.str.inj (of_decide_eq_true R))];show Ab.mk (M1.ls.filter _) M1.after (M1.hs.filter _) M1.time=_;rw[N,B,e3,e4];rfl) (D.dropH.dropL (k:=k) λz=>?_)
   have z:k∈(M1.hs.filter λp=>decide (p.1≠k)).map (·.1):=z;rw[gS]at z;exact of_decide_eq_true (mem_filter.mp z).2 rfl
 ·rw[show (!decide (V.str z=V.str x))=true by rw[decide_eq_false (λe=>o (by injection e))];rfl];refine aU (q S M Z _ (aG.stepS I) h1 (ok.mono (le_refl _) (by omega)) ?_);unfold Fx;rw[if_neg];show ¬(bY M.hs k).map (·.1)=some x;by_cases m:k∈M.hs.map (·.1)
  ·rw[O m];intro e;exact o (Option.some.inj e)
  ·rw[Bg m];intro e;cases e
end
abbrev A2:Stmt:=top 82
def jJ(M:Ms)(k:Int):Ms:={M with hs:=M.hs.filter λp=>decide (p.1≠k)}
theorem yI{k:Int}:∀{ks:Mf}{M:Ms},k∈M.hs.map (·.1)->k∉ks->k∈((ks.foldl jJ M).hs).map (·.1)
 |[],M,h,_=>h
 |j::ks,M,h,b=>by
  refine yI (ks:=ks) (M:=jJ M j) ?_ (λz=>b (mem_cons_of_mem _ z));show k∈(M.hs.filter λp=>decide (p.1≠j)).map (·.1);rw[gS];exact mem_filter.mpr ⟨h,decide_eq_true λz=>b (by rw[z];exact mem_cons_self)⟩
theorem yJ:∀(e:Mf)(M:Ms),eI (e.foldl jJ M) = {eI M with hs:=M.hs.filter λp=>decide (p.1∉e)}
 |[],M=>by
  show eI M=Ab.mk M.ls M.after (M.hs.filter _) M.time;rw[List.filter_eq_self.mpr (show ∀p∈M.hs,decide (p.1∉([]:Mf))=true from λp _=>decide_eq_true (λz=>by cases z))];rfl
 |j::e,M=>by
  show eI (e.foldl jJ (jJ M j))=_;rw[yJ e];show Ab.mk M.ls M.after ((M.hs.filter _).filter _) M.time=Ab.mk M.ls M.after _ M.time;rw[List.filter_filter];congr 2;funext p;rw[<- Bool.decide_and];exact decide_eq_decide.mpr ⟨λ⟨a,b⟩ z=>(mem_cons.mp z).elim b a,λh=>⟨λz=>h (mem_cons_of_mem _ z),λz=>h (by rw[z];exact mem_cons_self)⟩⟩
theorem Gi{b:La}{k:Int}(a:Mf×Int)(h:k∈b.map (·.1)):gA b k a=setL b k a:=by
 unfold gA setL;rw[if_pos];obtain⟨p,f,e⟩:=mem_map.mp h;exact any_eq_true.mpr ⟨p,f,decide_eq_true e⟩
theorem IJ(b:Mt)(n:Int):kP b n=decide (n∉b.map (·.1)):=by
 unfold kP;by_cases h:n∈b.map (·.1)
 ·obtain⟨x,f,e⟩:=mK h;rw[e,decide_eq_false (λz=>z h)];rfl
 ·rw[Bg h,decide_eq_true h];rfl
theorem HG(M:Ms)(t:Int->Bool):(l5 M).filter (λn=>t (tQ M.ls n))=mF (eI M) t:=by
 unfold l5 mF eI tQ
 try dsimp only
 congr 2;funext n;exact(IJ _ _).symm
theorem F5(M:Ms)(b:Int):((l5 M).filter λn=>decide (n∉f9 M b))=mF (eI M) λt=>decide (t ≥ b):=by
 rw[<- HG];refine List.filter_congr λn e=>decide_eq_decide.mpr ?_;unfold f9;rw[mem_filter,decide_eq_true_eq];exact⟨λh=>Int.not_lt.mp λz=>h ⟨e,z⟩,λh z=>Int.not_lt.mpr h z.2⟩
theorem B3{c n:Nat}:∀{ks:Mf}{M:Ms},MsOk M c n->MsOk (ks.foldl jJ M) c n
 |[],M,h=>h
 |j::ks,M,h=>B3 (ks:=ks) (M:=jJ M j) h.dropH
theorem MsOk.setL1{M:Ms}{c n:Nat}{k:Int}{a:Mf×Int}(h:MsOk M c n)(f:k∈M.ls.map (·.1))(g:a.1.length<=60):MsOk {M with ls:=gA M.ls k a} c n:=by
 have e:(gA M.ls k a).map (·.1)=M.ls.map (·.1):=xW a f;have m:(gA M.ls k a).length=M.ls.length:=by
  have:=congrArg List.length e;rw[length_map,length_map]at this;exact this
 refine⟨h.af,by show ((gA M.ls k a).map (·.1)).Pairwise _;rw[e];exact h.so,λp b=>?_,by show (gA M.ls k a).length<=_;rw[m];exact h.cnt,by show _=(gA M.ls k a).map (·.1);rw[e];exact h.wk,h.hn,h.hl,λp b=>⟨by show p.1∈(gA M.ls k a).map (·.1);rw[e];exact(h.hk p b).1,(h.hk p b).2⟩,h.ne,h.rl,h.sg⟩;have b:p∈gA M.ls k a:=b;have o:p.1∈M.ls.map (·.1):=by
  rw[<- e];exact mem_map_of_mem b
 obtain⟨q,r,s⟩:=mem_map.mp o;have:=h.lt q r;rw[s]at this;refine⟨this.1,this.2.1,?_⟩;rcases HC b with z |z
 ·exact(h.lt p z).2.2
 ·rw[z];exact g
theorem MsOk.front{M:Ms}{c n:Nat}{r:Mr}{b:List (Mr)}(h:MsOk M c n)(e:M.rows=r::b)(f:b≠[]):MsOk {M with rows:=b,first:=M.first+1} c n:=
 ⟨h.af,h.so,h.lt,h.cnt,h.wk,h.hn,h.hl,h.hk,f,by have:=h.rl;rw[e,length_cons]at this;show b.length<=n;omega,λs g=>h.sg s (by rw[e];exact mem_cons_of_mem _ g)⟩
theorem CQ(M:Ms)(r:Rw)(b:Int)(h:M.rows≠[]):M.rows.length<=(dJ M [r] b).rows.length:=by
 have e:M.rows.length<=(dP M b).rows.length/\(dP M b).rows≠[]:=by
  unfold dP;split
  ·exact⟨by rw[length_append];omega,by simp⟩
  ·exact⟨le_refl _,h⟩
 show M.rows.length<=(fB (dP M b) r).rows.length;rw[(wB _ r e.2).2.1];exact e.1
inductive qJ(vs:Mp)(H:Hp)(Q:VK)(x_3:XK):Prop
 |mk:∀(S:Sl)(M:Ms)(d se:Addr)(most hold tries:Int)(y:Str)(args:Mp)(c n:Nat)(a:Ab),vs=[.ref S.ps,.ref d,.ref se]->StAt H S M->MsOk M c n->n<=70000->c<=50->H se=some (.tup [.int most,.int hold,.int tries])->H d=some (.tup (.str y::args))->(y = "wait"->∃m,args=[.int m]/\a=lI hold tries (eI M) (.wait m))->(y = "new"->∃k,args=[.int k]/\a=lI hold tries (eI M) (.new k))->(y ≠ "wait"->y ≠ "new"->a=eI M)->Io S H c (n+1000) a Q->qJ vs H Q x_3
section
variable{P:Program}{w:World}{K:Ma}{mg:Mc}{base:Heap}{A:Ad}
theorem FQ{f:Addr}{fd:Ml}(F:Fun K "_law_other" "_law_other" A2 f fd)(T:‹3›)(bf:‹7›)(bs:‹13›)(bg:‹15› "_law_front_goes" 1 ["_law_state"] qM):‹14› 3 f fd ["_law_state","_law_deed_here","_law_settings_here"] qJ:=by
 refine F.okY ["_law_state","_law_deed_here","_law_settings_here","_law_most","_law_hold","_law_tries","_law_word","_law_late","_law_number","_law_moved","_law_body","_law_times","_law_many"] λcc A' bt s H vs Q E hr nD0 h=>?_;obtain⟨S,M,d,se,B,G,J,y,cb,c,n,aa,rfl,h,ok,hn,hc,gs,gd,hw,bu,ah,q⟩:=h;refine⟨_,@aA _ _ _ _ _ (@qS _ _ _ _ _ _ ‹66› (@iF _ K _ _ _ (3) _ (@cJ _ _ _ _ _ (@bH _ _ (3) _ nD0 ⋯ ⋯ ⋯) (@cJ _ _ _ _ _ (@bH _ _ (4) _ nD0 ⋯ ⋯ ⋯) (@cJ _ _ _ _ _ (@bH _ _ (5) _ nD0 ⋯ ⋯ ⋯) (@iE _) ⋯) ⋯) ⋯) ⋯ ⋯ ⋯ ⋯) ⋯ ⋯ ⋯) (@aA _ _ _ _ _ (@aW _ _ (6) _ _ _ _ nD0 ⋯ ⋯ ‹33› ⋯ ⋯) (@aA _ _ _ _ _ (@bG _ _ _ _ _ _ _ _ ‹96› (@aA _ _ _ _ _ (@zQ _ _ _ _ _ _ _ _ _ _ _ (hu1 hr.units) ‹30› ‹34› ‹33› (@vL _) (λ_ _ _=>⋯)) (@aA _ _ _ _ _ (@m5 _ _ _ (7) _ _ _ _ _ _ _ _ _ _ _ ["_law_number"] [("_law_state",0),("_law_hold",4)] nD0 ⋯ ⋯ ⋯ (@bU _ K _ _ _ (@bJ _ _ _ _ _ _ _ _ _ (@iI _ ⋯) ⋯ T.af7 iN ‹95› ⋯ ⋯ ⋯ ⋯) ⋯) (λC s2 H2 ex=>(@bH _ _ (0) _ (show List.Nodup (["_law_number","_law_state","_law_hold"]:Mg) by decide +kernel) ⋯ (Or.inl ⋯) ⋯)) (λC s2 H2 ex=>(@hG _ _ _ (@aY _ _ _ _ _ _ _ _ pF (@bC _ _ _ _ _ _ _ _ lK ‹83› (@cG _ _ _ _ _ _ _ (cU K) (@dO _ _ _ _ _ _ (hu1 hr.units) ‹83› ‹30› (λ_ _=>rfl)) ‹36› (λ_ _=>rfl))) ‹66› (bI _)))) (λC s2 H2 ex=>‹30›) ⋯ ⋯ ⋯ ⋯ ⋯ ⋯) (@aA _ _ _ _ _ (@eQ _ _ _ _ _ _ _ _ (i8 dF) ⋯ (@bU _ K _ _ _ (@pv _ 7 _ _ ⋯ ⋯ ⋯ ⋯) ⋯) (@bH _ _ (8) _ nD0 ⋯ ⋯ ⋯) (@aC _ _ _ (aX (i5 K PySem.F.plainAttrs_dict PySem.F.slot_dict_pop PySem.F.type_dict_pop pI ‹20› (aE (pv 8) aF)))) ⋯) (@aC _ _ _ (@aP _ _ _ _ (@pv _ 7 _ _ ⋯ ⋯ ⋯ ⋯)))))) (@aO _)) (@aA _ _ _ _ _ (@bG _ _ _ _ _ _ _ _ ‹96› (@aA _ _ _ _ _ (@bG _ _ _ _ _ _ _ _ (@aY _ _ _ _ _ _ _ _ (kK K) ‹33› (@cG _ _ _ _ _ _ _ (cU K) (@bB _ _ _ _ _ _ _ _ _ _ _ bs ‹18› bA (@aE _ _ _ _ _ _ ‹30› (@aE _ _ _ _ _ _ (@pv _ 5 _ _ ⋯ ⋯ ⋯ ⋯) (@aF _))) ⋯ ⋯ ⋯ ⋯) ‹36› (λ_ _=>rfl)) ⋯) (@aC _ _ _ (@aP _ _ _ _ ‹34›)) (@aO _)) (@aA _ _ _ _ _ (aX (bB bf ‹18› bA (aE (pv 0) (fN (cD (bV (bE (aI bP (aN ‹21› ‹47›))) aF)) ‹51›)))) (@aA _ _ _ _ _ (@fM _ _ _ _ _ _ _ _ _ (hu1 hr.units) ‹22› ‹33› (@bE _ _ _ _ _ (@aN _ _ _ _ _ _ _ (@cG _ _ _ _ _ _ _ (cU K) (@dO _ _ _ _ _ _ (hu1 hr.units) ‹22› ‹33› (λ_ _=>rfl)) ‹36› (λ_ _=>rfl)) ‹84›)) ⋯) (@aC _ _ _ (@aP _ _ _ _ (@jQ _ _ _)))))) (@aO _)) (@aA _ _ _ _ _ (@bG _ _ _ _ _ _ _ _ ‹96› (@aA _ _ _ _ _ (@bG _ _ _ _ _ _ _ _ (@aY _ _ _ _ _ _ _ _ fP (@bJ _ _ _ _ _ _ _ _ _ (dI K) ⋯ T.ae0 gM ‹95› ⋯ ⋯ ⋯ ⋯) ‹36› (bI _)) (@aC _ _ _ (@aP _ _ _ _ (@jQ _ _ _))) (@aO _)) (@aA _ _ _ _ _ (@m5 _ _ _ (9) _ _ _ _ _ _ _ _ _ _ _ ["_law_number"] [("_law_state",0)] nD0 ⋯ ⋯ ⋯ (@bU _ K _ _ _ (@bJ _ _ _ _ _ _ _ _ _ (@iI _ ⋯) ⋯ T.af7 iN ‹95› ⋯ ⋯ ⋯ ⋯) ⋯) (λC s2 H2 ex=>(@bH _ _ (0) _ (show List.Nodup (["_law_number","_law_state"]:Mg) by decide +kernel) ⋯ (Or.inl ⋯) ⋯)) (λC s2 H2 ex=>(@hG _ _ _ (@aY _ _ _ _ _ _ _ _ fP (@dO _ _ _ _ _ _ (hu1 hr.units) ‹83› ‹30› (λ_ _=>rfl)) ‹83› (bI _)))) (λC s2 H2 ex=>‹30›) ⋯ ⋯ ⋯ ⋯ ⋯ ⋯) (@aA _ _ _ _ _ (@eQ _ _ _ _ _ _ _ _ (i8 dF) ⋯ (@bU _ K _ _ _ ‹68› ⋯) (@bH _ _ (8) _ nD0 ⋯ ⋯ ⋯) (@aA _ _ _ _ _ (@qS _ _ _ _ _ _ (@dO _ _ _ _ _ _ (hu1 hr.units) ‹22› ‹69› (λ_ _=>rfl)) (@iF _ K _ _ _ (2) _ (@cJ _ _ _ _ _ (@bH _ _ (10) _ nD0 ⋯ ⋯ ⋯) (@cJ _ _ _ _ _ (@bH _ _ (11) _ nD0 ⋯ ⋯ ⋯) (@iE _) ⋯) ⋯) ⋯ ⋯ ⋯ ⋯) ⋯ ⋯ ⋯) (@aC _ _ _ (aX (bB bf ‹18› bA (aE (pv 0) (fN (cD (bV (bE (aI bP (aE (pv 8) (bT (bC jH (bE (aE (pv 11) aF)) (pv 10)) aF)))) aF)) ‹51›)))))) ⋯) (@aA _ _ _ _ _ (aX (bB bg ‹18› bA ‹35›)) (@aC _ _ _ (@aP _ _ _ _ (@bJ _ _ _ _ _ _ _ _ _ (dI K) ⋯ T.ae0 gM (@aE _ _ _ _ _ _ ‹68› (@aF _)) ⋯ ⋯ ⋯ ⋯))))))) (@aO _)) (@aA _ _ _ _ _ (@aW _ _ (12) _ _ _ _ nD0 ⋯ ⋯ ‹36› ⋯ ⋯) (@aA _ _ _ _ _ (@pD _ _ _ _ _ _ (i8 dF) (@PW.pt _ _ _ (@mB _ _ _ _ _ _ _ (@aY _ _ _ _ _ _ _ _ pF (@bJ _ _ _ _ _ _ _ _ _ (dI K) ⋯ T.ae0 gM ‹95› ⋯ ⋯ ⋯ ⋯) ‹36› (bI _)) (@jG _ _ _ _ (@aY _ _ _ _ _ _ _ _ (kK K) ‹22› (JZ (cV ["_law_number"] [("_law_state",0)] ⋯ (JY ‹20›) ‹39› ‹41› (λC s2 H2 ex=>‹44›))) ⋯)))) (@aA _ _ _ _ _ (aX (bB bg ‹18› bA ‹35›)) (@aC _ _ _ (@zR _ _ (12) _ _ _ _ _ _ nD0 ⋯ ⋯ ‹36› DL ⋯)))) (@aC _ _ _ (@aP _ _ _ _ ‹75›)))))))),?_⟩;obtain⟨kl,l1,l2⟩:=h.ls;obtain⟨kh,l3,l4⟩:=h.hs;have cnt:=ok.cnt;have hl:=ok.hl;refine⟨_,rfl,se,_,rfl,SqT.of gs,rfl,_,_,rfl,_,_,rfl,_,_,rfl,rfl,_,rfl,d,_,_,.str y,rfl,rfl,SqT.of gd,a8 (by decide) rfl,?_⟩;refine⟨_,rfl,rfl,_,rfl,?_⟩;show if decide (V.str y=V.str "wait")=true then _ else _
 by_cases e1:y = "wait"
 ·rw[decide_eq_true (by rw[e1])];obtain⟨m,rfl,ea⟩:=hw e1;refine aU ⟨_,rfl,S.ps,_,rfl,h.g_time,_,rfl,d,_,_,.int m,rfl,rfl,SqT.of gd,a8 (by decide) rfl,_,_,rfl,rfl,_,jU.k (k:=Sum.inr "time") h.st (by show 7<sizeLine;decide),?_⟩;have e2:eF (stK S M) (Sum.inr "time") (.int (M.time+m))=stK S {M with time:=M.time+m}:=rfl;rw[e2];have O:=h.setF {M with time:=M.time+m} rfl rfl rfl rfl;have ar:=cA h Lp (.dK (stK S {M with time:=M.time+m}));have I:MsOk {M with time:=M.time+m} c n:=⟨ok.af,ok.so,ok.lt,ok.cnt,ok.wk,ok.hn,ok.hl,ok.hk,ok.ne,ok.rl,ok.sg⟩;have am:eI {M with time:=M.time+m} = {eI M with now:=M.time+m}:=rfl;generalize ({M with time:=M.time+m}:Ms)=M1 at O ar I am⊢;have as:M1.hs=M.hs:=congrArg Ab.hs am;have bv:M1.time=M.time+m:=congrArg Ab.now am;generalize upd H S.ps (.dK (stK S M1))=H1 at O ar⊢;obtain⟨bh,a3,a4⟩:=O.hs;have ce:=I.hl;refine⟨_,rfl,S.ps,_,rfl,O.g_hands,S.ph,bh,M1.hs.map (·.1),rfl,a3,a4.keys,.inl (by rw[length_map];omega),by rw[length_map];omega,λp N R pw hp=>?_⟩;have nd:N.Nodup:=R.nodup_iff.mpr I.hn;have lk:N.length<=1000:=by rw[R.length_eq,length_map];omega
  have mk:∀k∈N,k∈M1.hs.map (·.1):=λk W=>R.mem_iff.mp W;obtain⟨H2,ai,s2,g2⟩:=gUU (o:=.lst (N.map V.int)) hp;rw[ai];obtain⟨tm,bi⟩:∃tm:Int->Int,tm=λn=>((bY M1.hs n).getD ("",0)).2:=⟨_,rfl⟩;have bw:∀n:Int,n∈M1.hs.map (·.1)->∃t b,c9 bh (Sum.inl n)=some (.ref t)/\H1 t=some (.tup [.str b,.int (tm n)]):=λn hn=>by
   obtain⟨a,v,ha,ev,t,e1,e2⟩:=a4.look hn;exact⟨t,a.1,by rw[ev,e1],by rw[e2,bi];dsimp only;rw[vG I.hn ha];rfl⟩
  have bj:N.filter (λk=>decide (G<M1.time-tm k))=EQ G (eI M) m:=by
   have em:=uH R pw;unfold EQ eI
   try dsimp only
   rw[em,as,bi,bv,as]
  refine⟨p,rfl,⟨_,SqL.of g2⟩,?_⟩;refine fS (bO (K:=K) (SqL.of g2)) (by rw[length_map];exact le_trans lk (by decide)) (λj=>decide (G<M1.time-tm (N.getD j 0))) (λj=>V.int (N.getD j 0)) (λZ=>∃z,Z = [z,some (.ref S.ps),some (.int G)]) ⟨none,rfl⟩ ?_ ?_
  ·intro j x bk H3 hj au X U Q1 Q2 Q3 ae af;obtain⟨z,rfl⟩:=au;rw[getElem?_map]at U;cases e:N[j]? with
   |none=>rw[e]at U;cases U
   |some k=>
    rw[e]at U;cases U;have eg:N.getD j 0=k:=by rw[getD_eq_getElem?_getD,e];rfl
    rw[eg]at ae af;have ag:=O.same (s2.trans X);obtain⟨t,b,ev,gt⟩:=bw k (mk k (mem_of_getElem? e));have dg:=cR.k (k:=Sum.inl k) ((s2.trans X) _ _ a3);rw[ev]at dg;refine⟨_,rfl,S.ps,_,rfl,ag.g_time,_,rfl,S.ps,_,rfl,ag.g_hands,_,rfl,S.ph,_,rfl,dg,t,_,_,.int (tm k),rfl,rfl,SqT.of ((s2.trans X) _ _ gt),a8 (by decide) rfl,_,_,rfl,rfl,_,rfl,_,_,rfl,rfl,_,rfl,?_⟩;by_cases hn:G<M1.time-tm k
    ·rw[decide_eq_true hn];exact aU ⟨_,rfl,ae _ ⟨_,rfl⟩ (decide_eq_true hn)⟩
    ·rw[decide_eq_false hn];exact bD (af _ ⟨_,rfl⟩ (decide_eq_false hn))
  intro L H3 aj X g3;rw[length_map,gH N (λk=>decide (G<M1.time-tm k))]at g3;have Y:∀k∈N.filter (λk=>decide (G<M1.time-tm k)),k∈M1.hs.map (·.1):=λk W=>mk k (mem_filter.mp W).1;have av:(N.filter λk=>decide (G<M1.time-tm k)).Nodup:=nd.filter _;rw[bj]at g3 Y av;simp only[lI]at ea;generalize EQ G (eI M) m=la at g3 Y av ea;have h3:=O.same (s2.trans X);have aw:=ar.trans (aG.stepS (s2.trans X));have ak:L∉stL S:=O.off (s2.free aj);refine⟨_,rfl,L,rfl,⟨_,SqL.of g3⟩,?_⟩;refine gG (bO (K:=K) (H:=upd (λ_=>none) L (.lst (la.map V.int))) (SqL.of aB)) (λi Z H'=>∃z8,Z = [some (.ref S.ps),some (.ref d),some (.ref se),some (.int B),some (.int G),some (.int J),some (.str y),some (.ref L),z8,none,none,none,none]/\StepS S S H3 H'/\StAt H' S ((la.take i).foldl jJ M1)) ⟨_,rfl,aG.stepS (aG.refl _),h3⟩ (λi Z H' hh b u e=>?_) ?_ ?_
  ·obtain⟨_,_,st,_⟩:=hh;by_cases yb:b=L
   ·subst yb;rw[aB]at e;injection e with e
    rw[<- e];exact st.frm _ _ g3 ak
   ·rw[aH yb]at e;cases e
  ·rintro D' i x Z H5 H6 ax-hi ⟨z8,rfl,st,h5⟩ s6 U;have ac:=st.trans (aG.stepS s6);have h6:=h5.same s6;rw[getElem?_map]at U;cases e:la[i]? with
   |none=>rw[e]at U;cases U
   |some k=>
    rw[e]at U;cases U;have tk:(la.take (i+1)).foldl jJ M1=jJ ((la.take i).foldl jJ M1) k:=by
     rw[take_succ,e];show ((la.take i++[k]).foldl jJ M1)=_;rw[List.foldl_append];rfl
    have W:k∈(((la.take i).foldl jJ M1).hs).map (·.1):=yI (Y k (mem_of_getElem? e)) (λz=>by
     obtain⟨j,hj,ej⟩:=List.mem_iff_getElem.mp z;rw[length_take]at hj;rw[List.getElem_take]at ej;obtain⟨cf,ei⟩:=List.getElem?_eq_some_iff.mp e;have:=(List.getElem_inj av).mp (ej.trans ei.symm);omega)
    generalize (la.take i).foldl jJ M1=Mi at h6 tk W;obtain⟨bx,b3,b4⟩:=h6.hs;obtain⟨_,v,_,ev,_⟩:=b4.look W;refine⟨_,rfl,S.ps,_,rfl,h6.g_hands,.inr (.inr (.inl ⟨rfl,.inl ⟨_,b3⟩⟩)),_,rfl,S.ph,bx,Sum.inl k,v,rfl,rfl,b3,ev,?_⟩;refine ax _ _ ⟨_,rfl,ac.trans (cA h6 Jy _),?_⟩;rw[tk];exact h6.setH b4.drop
  ·rintro Z H5 ⟨z8,rfl,st,h5⟩;refine⟨_,rfl,q S _ H5 _ (aw.trans st) h5 (B3 (I.mono (le_refl _) (by omega))) ?_⟩;rw[length_map,take_length,yJ,ea,am,as];rfl
 rw[decide_eq_false (λe=>e1 (by injection e))];refine bD ⟨_,rfl,rfl,_,rfl,?_⟩;show if decide (V.str y=V.str "new")=true then _ else _
 by_cases e2:y = "new"
 ·rw[decide_eq_true (by rw[e2])];obtain⟨k,rfl,ea⟩:=bu e2;refine aU ⟨_,rfl,d,_,_,.int k,rfl,rfl,SqT.of gd,a8 (by decide) rfl,_,rfl,_,rfl,S,M,J,rfl,h,ok.so,by omega,λp p1 p2 H1 s1 gp g1 g2 f1 f2=>?_⟩;have bm:∀j∈((l5 M).filter λn=>decide (n∉f9 M J)),j∈M.ls.map (·.1):=λj hj=>(mem_filter.mp ‹54›).1;simp only[lI]at ea;rw[<- F5]at ea;generalize ((l5 M).filter λn=>decide (n∉f9 M J))=dl at g2 bm ea;refine⟨p,_,_,.ref p2,rfl,rfl,SqT.of gp,a8 (by decide) rfl,p2,_,rfl,.inl (SqL.of g2),rfl,nI _,_,rfl,?_⟩;rw[if_pos rfl,pR];have O:=h.same s1;by_cases W:k∈dl
  ·rw[decide_eq_true W];have bz:=s1 _ _ gd;refine bD ⟨_,rfl,_,rfl,d,_,_,.int k,rfl,rfl,SqT.of bz,a8 (by decide) rfl,aJ,λp0 b0=>⟨aJ,λp1 ay=>⟨aJ,λp2 al=>⟨_,rfl,?_⟩⟩⟩⟩;refine zW (E:=E0) O ok (by omega) (by omega) (λg H2 az h2=>?_) b0 ay al;have I:=ok.write1 (r:=("new",k,[])) (most:=B) (zero_le _) (λz=>by cases z);obtain⟨w1,w2,w3,w4,w5⟩:=fJ M [("new",k,[])] B;generalize dJ M [("new",k,[])] B=M1 at h2 I w1 w2 w3 w4 w5;have st:=(aG.stepS s1).trans az;have bn:=st.tup _ _ gd;obtain⟨cg,a1,a2⟩:=h2.ls;have a0:k∈M1.ls.map (·.1):=by rw[w1];exact bm k W
   obtain⟨a,v,ha,ev,t,b,ba,gt,gb⟩:=a2.look a0;have dg:=cR.k (k:=Sum.inl k) a1;rw[ev,ba]at dg;refine⟨_,rfl,g.ps,_,(by rw[st.ps]),h2.g_letters,_,rfl,d,_,_,.int k,rfl,rfl,SqT.of bn,a8 (by decide) rfl,g.pl,_,rfl,dg,t,_,_,.ref b,rfl,rfl,SqT.of gt,a8 (by decide) rfl,aJ,new_o λpt H3 X g3=>?_⟩;have h3:=h2.same X;obtain⟨ch,a5,a6⟩:=h3.ls;have ci:=I.cnt;refine⟨_,rfl,g.ps,_,(by rw[st.ps]),h3.g_letters,_,rfl,d,_,_,.int k,rfl,rfl,SqT.of (X _ _ bn),a8 (by decide) rfl,g.pl,_,rfl,jU.k (k:=Sum.inl k) a5 (by rw[a6.len];exact lt_of_le_of_lt ‹65› (by decide)),?_⟩;exact q g _ _ _ (st.trans ((aG.stepS X).trans (cA h3 Ht _))) (h3.setL (a6.put (n:=k) (a:=(a.1,0)) (v:=.ref pt) ⟨pt,b,rfl,g3,X _ _ gb⟩)) ((I.setL1 (a:=(a.1,0)) a0 (show a.1.length<=60 from (I.lt _ ha).2.2)).mono (le_refl _) (by omega)) (by
    rw[ea,if_pos W];have l1:gE M1.ls k=some a:=nF (I.so.imp λh=>Int.ne_of_lt h) ha;show Ab.mk (gA M1.ls k (a.1,0)) M1.after M1.hs M1.time=Ab.mk (setL M.ls k (((gE M.ls k).getD ([],0)).1,0)) M.after M.hs M.time;rw[Gi _ a0,w2,w3,w4,<- w1,l1];rfl)
  ·rw[decide_eq_false W];exact aU (q S M H1 _ (aG.stepS s1) O (ok.mono (le_refl _) (by omega)) (by rw[ea,if_neg W]))
 rw[decide_eq_false (λe=>e2 (by injection e))];have ah:=ah e1 e2;subst ah;refine bD ⟨_,rfl,rfl,_,rfl,?_⟩;show if decide (V.str y=V.str "carry")=true then _ else _
 by_cases e3:y = "carry"
 ·rw[decide_eq_true (by rw[e3])];refine aU ⟨_,rfl,S.ps,_,rfl,h.g_rows,S.pr,_,rfl,.inl (SqL.of h.rw),rfl,_,rfl,?_⟩;have el:((S.rs.map V.ref).length:Int)=(M.rows.length:Int):=by rw[length_map,h.rr.len]
  rw[el];by_cases an:M.rows.length=1
  ·rw[decide_eq_true (by rw[an];rfl)];exact aU (q S M H _ (aG.stepS (aG.refl _)) h (ok.mono (le_refl _) (by omega)) rfl)
  rw[decide_eq_false (λe=>an (by injection e with e;omega))];refine bD ?_;have two:2<=M.rows.length:=by
   have:=ok.ne;cases e:M.rows with
   |nil=>exact absurd e this
   |cons r rs=>
    rw[e]at an;cases rs with
    |nil=>exact absurd rfl an
    |cons r2 rs=>rw[length_cons,length_cons];omega
  have wl:M.wh.length=M.ls.length:=by
   have:=congrArg List.length ok.wk;rw[length_map,length_map]at this;exact this
  refine⟨_,rfl,S.ps,_,rfl,h.g_where,S.pw,wsK M.wh,M.wh.map (·.1),rfl,h.wh,Af _,.inr (by rw[ok.wk];exact ok.so.imp Int.le_of_lt),by rw[length_map];omega,λp N R pw hp=>?_⟩;have lk:N.length<=9*c:=by rw[R.length_eq,length_map];omega
  have mk:∀k∈N,k∈M.wh.map (·.1):=λk W=>R.mem_iff.mp W;obtain⟨H2,ai,s2,g2⟩:=gUU (o:=.lst (N.map V.int)) hp;rw[ai];refine⟨p,rfl,⟨_,SqL.of g2⟩,?_⟩;refine fS (bO (K:=K) (SqL.of g2)) (by rw[length_map];exact le_trans ‹65› (by decide)) (λj=>decide (V.int ((pN M.wh (N.getD j 0)).getD 0)=V.int M.first)) (λj=>V.int (N.getD j 0)) (λZ=>∃z,Z = [z,some (.ref S.ps)]) ⟨none,rfl⟩ ?_ ?_
  ·intro j x bk H3 hj au X U Q1 Q2 Q3 ae af;obtain⟨z,rfl⟩:=au;rw[getElem?_map]at U;cases e:N[j]? with
   |none=>rw[e]at U;cases U
   |some k=>
    rw[e]at U;cases U;have eg:N.getD j 0=k:=by rw[getD_eq_getElem?_getD,e];rfl
    rw[eg]at ae af;have ag:=h.same (s2.trans X);obtain⟨wk,ao⟩:=qX (mk k (mem_of_getElem? e));have dg:=cR.k (k:=Sum.inl k) ag.wh;rw[sP,ao]at dg;rw[ao]at ae af;refine⟨_,rfl,S.ps,_,rfl,ag.g_where,_,rfl,S.pw,_,rfl,dg,_,rfl,S.ps,_,rfl,ag.g_first,rfl,_,rfl,?_⟩;cases hb:decide (V.int wk=V.int M.first) with
    |true=>exact aU ⟨_,rfl,ae _ ⟨_,rfl⟩ hb⟩
    |false=>exact bD (af _ ⟨_,rfl⟩ hb)
  intro L H3 aj X g3;rw[length_map,gH N (λk=>decide (V.int ((pN M.wh k).getD 0)=V.int M.first))]at g3;have Y:∀k∈N.filter (λk=>decide (V.int ((pN M.wh k).getD 0)=V.int M.first)),k∈M.ls.map (·.1):=λk W=>by
   rw[<- ok.wk];exact mk k (mem_filter.mp W).1
  have b5:(N.filter (λk=>decide (V.int ((pN M.wh k).getD 0)=V.int M.first))).length<=9*c:=le_trans (length_filter_le _ _) lk;generalize N.filter (λk=>decide (V.int ((pN M.wh k).getD 0)=V.int M.first))=la at g3 Y b5;have h3:=h.same (s2.trans X);have aw:StepS S S H H3:=aG.stepS (s2.trans X);have ak:L∉stL S:=h.off (s2.free aj);refine⟨_,rfl,L,rfl,⟨_,SqL.of g3⟩,?_⟩;refine gG (bO (K:=K) (H:=upd (λ_=>none) L (.lst (la.map V.int))) (SqL.of aB)) (λi Z H'=>∃z8 bb bc g M1,Z = [some (.ref S.ps),some (.ref d),some (.ref se),some (.int B),some (.int G),some (.int J),some (.str y),none,z8,some (.ref L),bb,bc,none]/\StepS S g H3 H'/\StAt H' g M1/\MsOk M1 c (n+2*i)/\eI M1=eI M/\2<=M1.rows.length) ⟨_,_,_,S,M,rfl,aG.stepS (aG.refl _),h3,ok,rfl,two⟩ (λi Z H' hh b u e=>?_) ?_ ?_
  ·obtain⟨_,_,_,_,_,_,st,_⟩:=hh;by_cases yb:b=L
   ·subst yb;rw[aB]at e;injection e with e
    rw[<- e];exact st.frm _ _ g3 ak
   ·rw[aH yb]at e;cases e
  ·rintro D' i x Z H5 H6 ax-hi ⟨z8,bb,bc,g,M1,rfl,st,h5,ad,ap,bd⟩ s6 U;have ac:=st.trans (aG.stepS s6);have h6:=h5.same s6;rw[getElem?_map]at U;rw[length_map]at hi;cases e:la[i]? with
   |none=>rw[e]at U;cases U
   |some k=>
    rw[e]at U;cases U;have W:k∈M1.ls.map (·.1):=by rw[show M1.ls=M.ls from congrArg Ab.ls ap];exact Y k (mem_of_getElem? e)
    obtain⟨cj,b1,b2⟩:=h6.ls;obtain⟨a,v,ha,ev,t,b,ba,gt,gb⟩:=b2.look W;have dg:=cR.k (k:=Sum.inl k) b1;rw[ev,ba]at dg;have ck:a.1.length<=60:=(ad.lt _ ha).2.2;refine⟨_,rfl,g.ps,_,(by rw[st.ps]),h6.g_letters,_,rfl,g.pl,_,rfl,dg,t,_,rfl,SqT.of gt,rfl,_,_,rfl,_,_,rfl,rfl,?_⟩;refine⟨_,rfl,_,rfl,_,rfl,aJ,new_o λpa H7 v1 u1=>?_⟩;refine⟨_,rfl,pa,b,_,_,rfl,rfl,u1,v1 _ _ gb,le_trans (show _<=100 by rw[length_map];show 1+a.1.length<=100;omega) (by decide),λpc H8 v2 u2=>⟨aJ,λp1 ay=>⟨aJ,λp2 al=>⟨_,rfl,?_⟩⟩⟩⟩;obtain⟨H9,ai,v3,u3⟩:=gUU (o:=.tup [.str "carried",.int k,.ref pc]) ay;rw[ai]at al⊢;have v4:=aD (o:=.lst [.ref p1]) al;refine EM (E:=E0) (ns:=a.2::a.1) (H:=H6) (S:=g) (M:=M1) st.ps.symm h6 ad (by omega) (by omega) (v1.trans (v2.trans (v3.trans v4))) aB (v4 _ _ u3) ((v3.trans v4) _ _ u2) ((v1.trans (v2.trans v3)).free al) λS2 H' az h'=>?_;have b6:=ad.write1 (r:=("carried",k,a.2::a.1)) (most:=B) (show a.1.length+1<=61 by omega) (λ_=>W);have b7:eI (dJ M1 [("carried",k,a.2::a.1)] B)=eI M1:=by
     obtain⟨w1,w2,w3,w4,_⟩:=fJ M1 [("carried",k,a.2::a.1)] B;unfold eI;rw[w1,w2,w3,w4]
    have cl:=CQ M1 ("carried",k,a.2::a.1) B ad.ne;refine ax _ _ ⟨_,_,_,S2,_,rfl,ac.trans az,h',b6.mono (le_refl _) (by omega),b7.trans ap,by omega⟩
  ·rintro Z H5 ⟨z8,bb,bc,g,M1,rfl,st,h5,ad,ap,bd⟩;rw[length_map]at ad;cases er:M1.rows with
   |nil=>exact absurd er ad.ne
   |cons r rs=>
    refine⟨_,rfl,g,M1,r,rs,(by rw[st.ps]),h5,er,λS2 H6 ac h6=>?_⟩;refine⟨_,rfl,L,_,rfl,.inl (SqL.of (ac.frm _ _ (st.frm _ _ g3 ak) (st.not g3 ak))),q S2 _ H6 _ (aw.trans (st.trans ac)) h6 ((ad.front er ?_).mono (le_refl _) (by omega)) ap⟩;intro z;rw[er,z]at bd;exact absurd (show 2<=1 from bd) (by decide)
 rw[decide_eq_false (λe=>e3 (by injection e))];refine bD ?_;refine⟨λm Z H'=>∃j g M1,Z = [some (.ref S.ps),some (.ref d),some (.ref se),some (.int B),some (.int G),some (.int J),some (.str y),none,none,none,none,none,some (.int j)]/\StepS S g H H'/\StAt H' g M1/\MsOk M1 c n/\eI M1=eI M/\M1.rows.length=m,⟨_,0,S,M,rfl,aG.stepS (aG.refl _),h,ok,rfl,rfl⟩,?_⟩;rintro m Z H1 ⟨j,g,M1,rfl,st,O,I,be,rfl⟩;have el:((g.rs.map V.ref).length:Int)=(M1.rows.length:Int):=by rw[length_map,O.rr.len]
 refine⟨_,rfl,g.ps,_,(by rw[st.ps]),O.g_rows,g.pr,_,rfl,.inl (SqL.of O.rw),_,_,rfl,rfl,_,rfl,?_⟩;rw[el];by_cases aq:(1:Int)<(M1.rows.length:Int)
 ·rw[decide_eq_true aq];refine aU ⟨_,rfl,g.ps,_,(by rw[st.ps]),O.g_first,_,rfl,g.ps,_,(by rw[st.ps]),O.g_where,g.pw,wsK M1.wh,rfl,O.wh,λo=>?_⟩;have g0:upd H1 g.pw (.frz o (.dK (wsK M1.wh))) g.pw=some (.frz o (.dK (wsK M1.wh))):=aB;have u0:∀b u,H1 b=some u->b≠g.pw->upd H1 g.pw (.frz o (.dK (wsK M1.wh))) b=some u:=λb u e nb=>by rw[aH nb];exact e
  have b8:g.ps≠g.pw:=(nds.mp O.nd).ps.2.2.2.1;generalize upd H1 g.pw (.frz o (.dK (wsK M1.wh)))=H2 at g0 u0⊢;have bo:=u0 _ _ O.st b8;have wl:(wsK M1.wh).length<=1000:=by
   have:=congrArg List.length I.wk;rw[length_map,length_map]at this;have:=I.cnt;unfold wsK;rw[length_map];omega
  refine c8 (Gb g0) (le_trans wl (by decide)) (λi v _=>∃z,v = .int z) (λ_ _ _ _ _ h=>h) (λZ=>∃z,Z = [z,some (.ref S.ps)]) ⟨none,rfl⟩ ?_ ?_
  ·rintro i x bk H3 hi ⟨z,rfl⟩ X ⟨kk,v,ek,rfl⟩ Q' b9;have W:kk∈(wsK M1.wh).map (·.1):=mem_map.mpr ⟨_,mem_of_getElem? ek,rfl⟩;rw[Af]at W;obtain⟨k,ca,rfl⟩:=mem_map.mp W;obtain⟨wk,ao⟩:=qX ca;have dg:cR H3 g.pw (.int k) (some (.int wk)):=.inl ⟨wsK M1.wh,Sum.inl k,.inr ⟨o,X _ _ g0⟩,rfl,by rw[sP,ao];rfl⟩;exact⟨_,rfl,g.ps,_,(by rw[st.ps]),cR.k (k:=Sum.inr "where") (X _ _ bo),_,rfl,g.pw,_,rfl,dg,b9 _ _ _ ⟨_,rfl⟩ (aG.refl _) ⟨_,rfl⟩⟩
  intro D ys H3 hD X gD bp hR;obtain⟨ns,rfl⟩:∃ns:Mf,ys=ns.map V.int:=by
   clear bp gD;have:∀y∈ys,∃z,y=V.int z:=λy hy=>by
    obtain⟨i,hi⟩:=List.mem_iff_getElem?.mp hy;exact hR i y hi
   clear hR
   induction ys with
   |nil=>exact⟨[],rfl⟩
   |cons y ys ih=>
    obtain⟨ns,e⟩:=ih λz hz=>this z (mem_cons_of_mem _ hz);obtain⟨z,ez⟩:=this y mem_cons_self;exact⟨z::ns,by rw[map_cons,e,ez]⟩
  have nD:D≠g.pw:=λz=>by rw[z,g0]at hD;cases hD
  have s4:aG H1 (upd H3 g.pw (.dK (wsK M1.wh))):=λb u e=>by
   by_cases yb:b=g.pw
   ·subst yb;rw[aB,<- e,O.wh]
   ·rw[aH yb];exact X _ _ (u0 b u e yb)
  refine⟨g.pw,o,_,X _ _ g0,⟨_,O.wh⟩,?_⟩;have bq:upd H3 g.pw (.dK (wsK M1.wh)) D=some (.lst (ns.map V.int)):=by rw[aH nD];exact gD
  generalize upd H3 g.pw (.dK (wsK M1.wh))=H4 at s4 bq⊢;have h4:=O.same s4;refine⟨D,_,rfl,.inl (SqL.of bq),rfl,nI _,_,rfl,?_⟩;rw[if_pos rfl,pR];cases hb:decide (M1.first∈ns) with
  |true=>exact bD ⟨_,rfl,q g M1 H4 _ (st.trans (aG.stepS s4)) h4 (I.mono (le_refl _) (by omega)) be⟩
  |false=>
   cases er:M1.rows with
   |nil=>exact absurd er I.ne
   |cons r rs=>
    refine aU ⟨λbr H'=>∃j g M1,br=[some (.ref S.ps),some (.ref d),some (.ref se),some (.int B),some (.int G),some (.int J),some (.str y),none,none,none,none,none,some (.int j)]/\StepS S g H H'/\StAt H' g M1/\MsOk M1 c n/\eI M1=eI M/\M1.rows.length=rs.length,λbr H' hh=>⟨rs.length,by rw[length_cons];omega,hh⟩,?_⟩;refine⟨_,rfl,g,M1,r,rs,(by rw[st.ps]),h4,er,λS2 H6 ac h6=>?_⟩;refine⟨_,rfl,_,_,rfl,rfl,_,S2,_,rfl,st.trans ((aG.stepS s4).trans ac),h6,I.front er ?_,be,rfl⟩;intro z;rw[er,z]at aq;exact absurd (show (1:Int)<1 from aq) (by decide)
 ·rw[decide_eq_false aq];refine bD (bD ?_);exact⟨_,rfl,q g M1 H1 _ st O (I.mono (le_refl _) (by omega)) be⟩
end
abbrev Du:Stmt:=top 80
theorem MsOk.addH(h:MsOk M c n)(hj:j∈M.ls.map (·.1))(f:j∉M.hs.map (·.1))(g:gU a.1):MsOk {M with hs:=gA M.hs j a} (c+1) n:=by
 have e:gA M.hs j a=M.hs++[(j,a)]:=uX a f;rw[e];have m:=h.af;refine⟨⟨m.1,by show M.after<=9*((c+1:Nat):Int);omega⟩,h.so,h.lt,le_trans h.cnt (by omega),h.wk,?_,?_,λp b=>?_,h.ne,h.rl,h.sg⟩
 ·show ((M.hs++[(j,a)]).map (·.1)).Nodup;rw[map_append,nodup_append];refine⟨h.hn,by simp,λx o y q=>?_⟩;rw[mem_singleton.mp (show y∈[j] from q)];exact λz=>f (by rw[<- z];exact o)
 ·show (M.hs++[(j,a)]).length<=c+1;rw[length_append];exact Nat.add_le_add_right h.hl 1
 ·have b:p∈M.hs++[(j,a)]:=b;rcases mem_append.mp b with z |z
  ·exact h.hk p z
  ·rw[mem_singleton.mp z];exact⟨hj,g⟩
theorem kS{H:Hp}{p:Addr}{ns:Mf}(g:H p=some (.lst (ns.map V.int))):Den H (.list (ns.map .int)) (.ref p):=by
 simp only[Den];exact⟨p,_,rfl,g,cB.mpr rfl⟩
theorem J3(h:gU x):x ≠ "":=λz=>by
 rw[z]at h;exact absurd h.1 (by decide +kernel)
theorem y9(w:Str):∀(e:Md)(k:Int),(eY w k e).map (λr=>(r.2.1,(r.2.2,(0:Int))))=Ik k e
 |[],_=>rfl
 |b::e,k=>by
  show (k,(b,(0:Int)))::(eY w (k+1) e).map (λr=>(r.2.1,(r.2.2,(0:Int))))=_;rw[y9 w e (k+1)];rfl
theorem BK{M:Ms}{c n:Nat}(ok:MsOk M c n)(e:Md)(f:Mr)(b:Int):eI (uY M e f b) = {eI M with ls:=M.ls++Ik M.after e,up:=M.after+(e.length:Int)}:=by
 obtain⟨m,q,g,r,_⟩:=fJ M f b;obtain⟨s,t,u,_⟩:=qA e (dJ M f b);have o:=DV e (dJ M f b) "" (by rw[m,g];exact λp x=>(ok.lt p x).2.1);rw[y9]at o;show Ab.mk (e.foldl fY (dJ M f b)).ls _ _ _=Ab.mk _ _ M.hs M.time;rw[o,m,g,show (uY M e f b).after=_ from s,g,show (uY M e f b).hs=_ from t,q,show (uY M e f b).time=_ from u,r]
def sA(k:Int)(b:Md):Mr:=eY "part" k b++[(("deal",k,[(b.length:Int)]):Rw)]
inductive tX(vs:Mp)(H:Hp)(Q:VK)(x_3:XK):Prop
 |mk:∀(S:Sl)(M:Ms)(t se:Addr)(d:rH)(args:Mp)(most hold tries:Int)(c n:Nat),vs=[.ref S.ps,.ref t,.ref se]->StAt H S M->MsOk M c n->n<=70000->c<=49->H se=some (.tup [.int most,.int hold,.int tries])->H t=some (.tup (.str (eK d)::args))->aT H (dD d) args->Ae d->Io S H (c+1) (n+1000) (lI hold tries (eI M) d) Q->tX vs H Q x_3
section
variable{P:Program}{w:World}{K:Ma}{mg:Mc}{base:Heap}{A:Ad}
theorem HW{f:Addr}{fd:Ml}(F:Fun K "_law_told" "_law_told" Du f fd)(T:‹3›)(av:‹15› "_law_put" 3 ["_law_state","_law_bodies","_law_most","_law_rows"] zI)(bi:‹7›)(bj:‹13›)(bk:‹15› "_law_given" 3 ["_law_state","_law_deed_here","_law_most"] qL)(bm:‹15› "_law_other" 3 ["_law_state","_law_deed_here","_law_settings_here"] qJ):‹14› 4 f fd ["_law_state","_law_deed_here","_law_settings_here"] tX:=by
 refine F.okY ["_law_state","_law_deed_here","_law_settings_here","_law_most","_law_hold","_law_tries","_law_word","_law_first","_law_rows","_law_ready_here","_law_body","_law_times"] λcg A' bn s H vs Q E hr nD0 h=>?_;obtain⟨S,M,t,se,d,ag,m,W,B,c,n,rfl,h,ok,hn,hc,gs,gt,O,aa,q⟩:=h;refine⟨_,aA (qS (pv 2) (iF K (n:=3) (cJ ‹53› (cJ ‹74› (cJ (bH (i:=5) nD0 ⋯ ⋯) iE)))))
  (aA (aW (i:=6) nD0 ⋯ ⋯ ‹21›)
  (aA (aW (i:=7) nD0 ⋯ ⋯ ‹20›)
  (aA (bG ‹72›
   (aA (aX (bB av ‹18› bA (aE (pv 0) (fN (cD ‹82›) (aE (pv 3) (fN (cD (bV (bE (aI bP (aE (pv 7) ‹82›))) aF)) aF))))))
   (aC (aP (pv 7))))
   aO)
  (aA (bG ‹72›
   (aA (m5 (i:=8) ["_law_k","_law_body"] [("_law_first",7)] nD0 ⋯ ⋯ ⋯ (HI K T.ag3 ‹21›) (λC s2 H2 ex=>(iF K (n:=2) (cJ (bH (i:=0) (show List.Nodup (["_law_k","_law_body","_law_first"]:Mg) by decide +kernel) ⋯ (Or.inl ⋯)) (cJ (bH (i:=1) (show List.Nodup (["_law_k","_law_body","_law_first"]:Mg) by decide +kernel) ⋯ (Or.inl ⋯)) iE)))) ‹41› (λC s2 H2 ex=>(bE (aI bP (bT (bC cT (pv 2) (pv 0)) ‹29›)))))
   (aA (aX (bB av ‹18› bA (aE (pv 0) (aN ‹21› (aE (pv 3) (bT (bC Cv (pv 8) (cD (bV (bE (aI bP (aE (pv 7) (bV (bE (cW (bJ (dI K) ⋯ T.ae0 gM ‹82›) aF)) aF)))) aF))) aF))))))
   (aC (aP (u7 ⋯ ⋯ T.ap7 ⋯ T.af1 (aE (pv 7) (aN ‹20› aF)))))))
   aO)
  (aA (bG ‹72›
   (aA (aW (i:=9) nD0 ⋯ ⋯ (cG (cU K) (bB bj ‹18› bA (aE (pv 0) ‹71›)) aM (λ_ _=>rfl)))
   (aA (bG (aY (Cu hr.units) (pv 9) (cD aF) (bI _))
    ‹76›
    aO)
   (aA (aX (bB bi ‹18› bA (aE (pv 0) (fN (cD (bV (bE (aI bP (aN ‹49› ‹47›))) aF)) ‹51›))))
   (aA (qS (dO (hu1 hr.units) ‹20› ‹49› (λ_ _=>rfl)) (iF K (n:=2) (cJ (bH (i:=10) nD0 ⋯ ⋯) (cJ (bH (i:=11) nD0 ⋯ ⋯) iE))))
   (aA (fM (hu1 hr.units) ‹20› ‹49› (bE (aE (pv 10) (bT (bC cT (pv 11) aM) aF))) ⋯)
   (aA (fM (hu1 hr.units) ‹20› ‹49› (bE (aN ‹21› (aN ‹20› aF))) ⋯)
   (aC (aP (bE (aN ‹49› (aE (pv 10) (bT (bC cT (pv 11) aM) aF))))))))))))
   aO)
  (aA (bG (aY (HS K) (pv 6) (bE (aI bP ‹25›)) ⋯)
   (aC (aP (bB bk ‹18› bA (aE (pv 0) (aE (pv 1) ‹51›)))))
   aO)
  (aC (aP (bB bm ‹18› bA (aE (pv 0) (aE (pv 1) ‹37›))))))))))),?_⟩
 have cnt:=ok.cnt;have hl:=ok.hl;have wl:M.wh.length=M.ls.length:=by
  have:=congrArg List.length ok.wk;rw[length_map,length_map]at this;exact this
 obtain⟨y,I⟩:∃y,y=eK d:=⟨_,rfl⟩;rw[<- I]at gt;refine⟨_,rfl,se,_,rfl,SqT.of gs,rfl,_,_,rfl,_,_,rfl,_,_,rfl,rfl,_,rfl,t,_,_,.str y,rfl,rfl,SqT.of gt,a8 (by decide) rfl,_,rfl,S.ps,_,rfl,h.g_after,?_⟩;refine⟨_,rfl,rfl,_,rfl,?_⟩;show if decide (V.str y=V.str "put")=true then _ else _
 by_cases e1:y = "put"
 ·rw[decide_eq_true (by rw[e1])];obtain⟨b,rfl⟩:∃b,d = .put b:=by
   rw[e1]at I;cases d <;> first |exact⟨_,rfl⟩ | (dsimp only[eK]at I;exact absurd I (by decide))
  obtain⟨aw,bl⟩:=aa;simp only[dD,aT]at O;obtain⟨vb,r,rfl,db,rfl⟩:=O;simp only[Den]at db;obtain⟨J,zs,rfl,gb,dz⟩:=db;have ez:=cB.mp dz;subst ez;refine aU ⟨_,rfl,_,rfl,t,_,_,.ref J,rfl,rfl,SqT.of gt,a8 (by decide) rfl,aJ,new_h λpb bo H1 R g1=>?_⟩;refine⟨_,rfl,_,rfl,_,rfl,t,_,_,.ref J,rfl,rfl,SqT.of (R _ _ gt),a8 (by decide) rfl,aJ,λU bp=>⟨aJ,λp2 ai=>?_⟩⟩;obtain⟨H2,G,s2,g2⟩:=gUU (o:=.tup [.str "put",.int M.after,.ref J]) bp;rw[G]at ai⊢;obtain⟨H3,G,s3,g3⟩:=gUU (o:=.lst [.ref U]) ai;rw[G];have ab:=R.trans (s2.trans s3);have bq:Den H3 (.tuple (b.map .int)) (.ref J):=by
   simp only[Den];exact⟨J,_,rfl,ab _ _ gb,cB.mpr rfl⟩
  refine⟨S,M,pb,p2,[b],[.ref J],[("put",M.after,b)],[.ref U],m,n,rfl,h.same ab,ok.ne,ok.rl,λs hs=>(ok.sg s hs).1,by show n+1<=90000;omega,by show M.wh.length+1<=90000;omega,g3,h.off ((R.trans s2).free ai),?_,.inl ((s2.trans s3) _ _ g1),h.off bo,kR bq,by show M.ls.length+1<=90000;omega,λS' H' st h'=>?_⟩
  ·refine kR ?_;unfold cI fQ;simp only[Den,aT];exact⟨U,_,rfl,s3 _ _ g2,_,_,rfl,rfl,_,_,rfl,rfl,_,_,rfl,⟨J,_,rfl,ab _ _ gb,cB.mpr rfl⟩,rfl⟩
  ·exact⟨_,rfl,q S' _ H' _ ((aG.stepS ab).trans st) h' ((ok.put (w:="put") (bs:=[b]) (tl:=[]) (most:=m) rfl (λx hx=>by rw[mem_singleton.mp hx];exact bl) (by show 1<=9;omega) (zero_le _) (λr hr=>by cases hr)).mono (le_refl _) (by omega)) (BK ok _ _ _)⟩
 rw[decide_eq_false (λe=>e1 (by injection e))];refine bD ⟨_,rfl,rfl,_,rfl,?_⟩;show if decide (V.str y=V.str "all")=true then _ else _
 by_cases e2:y = "all"
 ·rw[decide_eq_true (by rw[e2])];obtain⟨g,rfl⟩:∃g,d = .all g:=by
   rw[e2]at I;cases d <;> first |exact⟨_,rfl⟩ | (dsimp only[eK]at I;exact absurd I (by decide))
  obtain⟨b1,b9,aw⟩:=aa;simp only[dD,aT]at O;obtain⟨va,r,rfl,ax,rfl⟩:=O;simp only[Den]at ax;obtain⟨a,xs,rfl,ha,aj⟩:=ax;have lb:(dZ g).length=g.length:=length_map _;have lx:=aj.length;rw[lb]at lx;refine aU ⟨_,rfl,t,_,_,.ref a,rfl,rfl,SqT.of gt,a8 (by decide) rfl,a,_,rfl,SqT.of ha,?_⟩;refine c8 (tW (K:=K) 0 (SqT.of ha)) (by rw[lx];exact le_trans b9 (by decide)) (λi y H'=>Den H' (cI ("part",M.after+(i:Int),g.getD i [])) y) (λi y G1 G2 s h=>h.n s (lG _ _ _)) (λσ=>∃z1 z2,σ = [z1,z2,some (.int M.after)]) ⟨none,none,rfl⟩ ?_ ?_
  ·intro i x ch H3 hi br s3 hx Q' bt;obtain⟨z1,z2,rfl⟩:=br;obtain⟨p,u,rfl,hp,hv⟩:=hx;obtain⟨e,he,dn⟩:=aj.get hv;rw[lx]at hi;have eb:g[i]? = some (g.getD i []):=by rw[getD_eq_getElem?_getD,getElem?_eq_getElem hi];rfl
   unfold dZ at he;rw[getElem?_map,eb]at he;cases (Option.some.inj he:PyData.tuple ((g.getD i []).map .int)=e);refine⟨p,_,rfl,SqT.of hp,rfl,_,_,rfl,_,_,rfl,rfl,?_⟩;refine⟨_,rfl,_,rfl,_,_,rfl,rfl,_,rfl,aJ,λpt ay=>?_⟩;have ei:M.after+(0+(i:Int))=M.after+(i:Int):=by omega
   refine bt _ _ _ ⟨_,_,rfl⟩ (aD ay) ?_;show Den (upd H3 pt (.tup [.str "part",.int (M.after+(0+(i:Int))),u])) _ _;rw[ei];unfold cI fQ;simp only[Den,aT];refine⟨pt,_,rfl,aB,_,_,rfl,rfl,_,_,rfl,rfl,_,_,rfl,?_,rfl⟩;have:=dn.same (s3.trans (aD (o:=.tup [.str "part",.int (M.after+(i:Int)),u]) ay));simp only[Den]at this;exact this
  intro D ys H2 hD S2 gD X hR;rw[lx]at X;have az:=S2 _ _ gt;have bu:=S2 _ _ ha;refine⟨_,rfl,_,rfl,t,_,_,.ref a,rfl,rfl,SqT.of az,a8 (by decide) rfl,_,rfl,_,rfl,_,rfl,_,rfl,t,_,_,.ref a,rfl,rfl,SqT.of az,a8 (by decide) rfl,a,_,rfl,.inr (SqT.of bu),aJ,λt1 bv=>⟨aJ,λt2 ak=>⟨aJ,λl3 ac=>?_⟩⟩⟩;rw[lx]at ak ac⊢;obtain⟨H3,G,U1,u1⟩:=gUU (o:=.tup [.int (g.length:Int)]) bv;rw[G]at ak ac⊢;obtain⟨H4,G,U2,u2⟩:=gUU (o:=.tup [.str "deal",.int M.after,.ref t1]) ak;rw[G]at ac⊢;obtain⟨H5,G,U3,u3⟩:=gUU (o:=.lst [.ref t2]) ac;rw[G];have al:=U1.trans (U2.trans U3);refine⟨D,l3,ys,_,rfl,rfl,al _ _ gD,u3,?_,λpc a0=>?_⟩
  ·rw[X];exact le_trans (show _<=10 by simp;omega) (by decide)
  obtain⟨H6,G,U4,u4⟩:=gUU (o:=.lst (ys++[.ref t2])) a0;rw[G];have a3:=al.trans U4;have ad:=S2.trans a3;have na:a∉stL S:=λz=>by
   obtain⟨o,e,nt⟩:=h.here z;rw[ha]at e;cases e;exact nt _ rfl
  have ah:(sA M.after g).length=g.length+1:=by
   unfold sA;rw[length_append,kJ];rfl
  refine⟨S,M,a,pc,g,xs,sA M.after g,ys++[.ref t2],m,n,rfl,h.same ad,ok.ne,ok.rl,λs hs=>(ok.sg s hs).1,by rw[ah];omega,by rw[ah];omega,u4,h.off ((S2.trans al).free a0),?_,.inr (ad _ _ ha),na,aj.same ad,by omega,λS' H' st h'=>?_⟩
  ·unfold sA;rw[map_append];refine aT.app (iH (by rw[length_map,kJ,X]) λi y e=>?_) (kR ?_)
   ·have hi:i<g.length:=by
     have:=(List.getElem?_eq_some_iff.mp e).1;omega
    have eb:g[i]? = some (g.getD i []):=by rw[getD_eq_getElem?_getD,getElem?_eq_getElem hi];rfl
    refine⟨_,?_,(hR i y e).same a3⟩;rw[getElem?_map,xY eb];rfl
   ·unfold cI fQ;simp only[Den,aT,map_cons,map_nil];exact⟨t2,_,rfl,U4 _ _ (U3 _ _ u2),_,_,rfl,rfl,_,_,rfl,rfl,_,_,rfl,⟨t1,_,rfl,U4 _ _ (U3 _ _ (U2 _ _ u1)),_,_,rfl,rfl,rfl⟩,rfl⟩
  ·have a4:=(aG.stepS ad).trans st;have ba:MsOk (uY M g (sA M.after g) m) (c+1) (n+11):=ok.put (w:="part") (bs:=g) (tl:=[("deal",M.after,[(g.length:Int)])]) (most:=m) rfl (λx hx=>(aw x hx).2) b9 (le_refl _) (λr hr=>by rw[mem_singleton.mp hr];exact⟨rfl,by show 1<=61;omega⟩);have ea:(uY M g (sA M.after g) m).after=M.after+(g.length:Int):=by
    unfold uY;rw[(qA g _).1,(fJ M _ m).2.2.1]
   have af:=ok.af;have pa:=BK ok g (sA M.after g) m;generalize uY M g (sA M.after g) m=M' at h' ba ea pa;refine⟨_,rfl,_,rfl,S'.ps,_,(by rw[a4.ps]),h'.g_after,_,_,rfl,?_,?_,λp hp=>?_⟩
   ·rw[ea];exact⟨by omega,by omega,by omega,by omega⟩
   ·rw[ea];exact le_trans (show _<=9 by omega) (by decide)
   ·have sp:=aD (o:=.lst ((List.range (M'.after-M.after).toNat).map λk=>.int (M.after+(k:Nat)))) hp;exact q S' M' _ _ (a4.trans (aG.stepS sp)) (h'.same sp) (ba.mono (le_refl _) (by omega)) pa
 rw[decide_eq_false (λe=>e2 (by injection e))];refine bD ⟨_,rfl,rfl,_,rfl,?_⟩;show if decide (V.str y=V.str "take")=true then _ else _
 by_cases e3:y = "take"
 ·rw[decide_eq_true (by rw[e3])];obtain⟨x,rfl⟩:∃x,d = .take x:=by
   rw[e3]at I;cases d <;> first |exact⟨_,rfl⟩ | (dsimp only[eK]at I;exact absurd I (by decide))
  have am:gU x:=aa;simp only[dD,aT,Den]at O;obtain⟨_,_,rfl,rfl,rfl⟩:=O;refine aU ⟨_,rfl,_,rfl,S,M,B,rfl,h,ok.so,by omega,λp U p2 H1 R gp g1 g2 f1 f2=>?_⟩;have bb:∀j∈f9 M B,j∈M.ls.map (·.1)/\j∉M.hs.map (·.1):=λj hj=>by
   have:=mem_filter.mp ‹54›;exact⟨this.1,of_decide_eq_true this.2⟩
  have bw:f9 M B=mF (eI M) λt=>decide (t<B):=HG M λt=>decide (t<B);have Y:∀rd,f9 M B=rd->lI W B (eI M) (.take x)=match rd with
    |[]=>eI M
    |j::_=>{eI M with ls:=setL M.ls j (((gE M.ls j).getD ([],0)).1,((gE M.ls j).getD ([],0)).2+1),hs:=M.hs++[(j,(x,M.time))] }:=λrd e=>by
   rw[<- e,bw];rfl
  have Y:=Y _ rfl;generalize f9 M B=rd at g1 bb Y;refine⟨p,_,_,.ref U,rfl,rfl,SqT.of gp,a8 (by decide) rfl,?_⟩;refine⟨_,rfl,aJ,new_o λpe H2 s2 g3=>?_⟩;refine⟨.list (rd.map .int),.list (([]:Mf).map .int),kS (s2 _ _ g1),kS (ns:=[]) g3,dU _,dU _,_,rfl,?_⟩;rw[nJ];have an:=R.trans s2;have h2:=h.same an;cases rd with
  |nil=>exact aU (q S M H2 _ (aG.stepS an) h2 (ok.mono (by omega) (by omega)) Y.symm)
  |cons j rd=>
   refine bD ⟨_,rfl,_,rfl,U,_,_,.int j,rfl,rfl,SqL.of (s2 _ _ g1),a8 (by decide) rfl,aJ,λq0 bx=>⟨aJ,λq1 bz=>⟨aJ,λq2 b0=>⟨_,rfl,?_⟩⟩⟩⟩;refine zW (E:=E0) h2 ok (by omega) (by omega) (λZ H3 ao h3=>?_) bx bz b0;have L:=ok.write1 (r:=("out",j,[])) (most:=m) (zero_le _) (λz=>by cases z);obtain⟨w1,w2,w3,w4,w5⟩:=fJ M [("out",j,[])] m;generalize dJ M [("out",j,[])] m=M1 at h3 L w1 w2 w3 w4 w5;have st:=(aG.stepS an).trans ao;have bc:U∉stL S:=h.off f1;have ap:=ao.frm _ _ (s2 _ _ g1) bc;have bd:U∉stL Z:=ao.not (s2 _ _ g1) bc;have b2:=st.tup _ _ gt;obtain⟨N,aq⟩:=bb j mem_cons_self;rw[<- w1]at N;rw[<- w2]at aq;obtain⟨ci,a1,a2⟩:=h3.ls;obtain⟨a,v,ha,ev,tt,b,b5,b6,gb⟩:=a2.look N;have dg:=cR.k (k:=Sum.inl j) a1;rw[ev,b5]at dg;have b7:a.1.length<=60:=(L.lt _ ha).2.2;have cj:=L.cnt;have ck:=L.hl;refine⟨_,rfl,Z.ps,_,(by rw[st.ps]),h3.g_letters,_,rfl,U,_,_,.int j,rfl,rfl,SqL.of ap,a8 (by decide) rfl,Z.pl,_,rfl,dg,tt,_,rfl,SqT.of b6,rfl,_,_,rfl,_,_,rfl,rfl,?_⟩;refine⟨_,rfl,_,rfl,_,_,rfl,rfl,aJ,new_o λpt H4 s4 g4=>?_⟩;have h4:=h3.same s4;obtain⟨be,a5,a6⟩:=h4.ls;refine⟨_,rfl,Z.ps,_,(by rw[st.ps]),h4.g_letters,_,rfl,U,_,_,.int j,rfl,rfl,SqL.of (s4 _ _ ap),a8 (by decide) rfl,Z.pl,_,rfl,jU.k (k:=Sum.inl j) a5 (by rw[a6.len];exact lt_of_le_of_lt ‹65› (by decide)),?_⟩;have h5:=h4.setL (a6.put (n:=j) (a:=(a.1,a.2+1)) (v:=.ref pt) ⟨pt,b,rfl,g4,s4 _ _ gb⟩);have ae:=(aG.stepS s4).trans (cA h4 Ht (.dK (eF be (Sum.inl j) (.ref pt))));have b8:=L.setL1 (a:=(a.1,a.2+1)) N b7;have bf:j∈(gA M1.ls j (a.1,a.2+1)).map (·.1):=by rw[xW _ N];exact N
   generalize upd H4 Z.pl (.dK (eF be (Sum.inl j) (.ref pt)))=H5 at h5 ae⊢;have bg:=ae.frm _ _ ap bd;have ca:=ae.tup _ _ b2;refine⟨_,rfl,t,_,_,.str x,rfl,rfl,SqT.of ca,a8 (by decide) rfl,_,rfl,Z.ps,_,(by rw[st.ps]),h5.g_time,aJ,λph cb=>?_⟩;have s6:=aD (o:=.tup [.str x,.int M1.time]) cb;have g6:upd H5 ph (.tup [.str x,.int M1.time]) ph=some (.tup [.str x,.int M1.time]):=aB;have cc:({M1 with ls:=gA M1.ls j (a.1,a.2+1)}:Ms).time=M1.time:=rfl;rw[cc];generalize upd H5 ph (.tup [.str x,.int M1.time])=H6 at s6 g6⊢;have h6:=h5.same s6;obtain⟨bh,b3,b4⟩:=h6.hs;refine⟨_,rfl,Z.ps,_,(by rw[st.ps]),h6.g_hands,_,rfl,U,_,_,.int j,rfl,rfl,SqL.of (s6 _ _ bg),a8 (by decide) rfl,Z.ph,_,rfl,jU.k (k:=Sum.inl j) b3 (by rw[b4.len];exact lt_of_le_of_lt (show _<=1000 by show M1.hs.length<=1000;omega) (by decide)),?_⟩;have h7:=h6.setH (b4.put (n:=j) (a:=(x,M1.time)) (v:=.ref ph) ⟨ph,rfl,g6⟩);have ar:=(aG.stepS s6).trans (cA h6 Jy (.dK (eF bh (Sum.inl j) (.ref ph))));have cd:=b8.addH (j:=j) (a:=(x,M1.time)) bf aq am;generalize upd H6 Z.ph (.dK (eF bh (Sum.inl j) (.ref ph)))=H7 at h7 ar⊢;have ce:=ar.frm _ _ bg bd;refine⟨_,rfl,U,_,_,.int j,rfl,rfl,SqL.of ce,a8 (by decide) rfl,_,rfl,_,rfl,_,_,rfl,rfl,aJ,λpz cf=>?_⟩;have s8:=aD (o:=.tup [.int j,.ref b,.int (a.2+1)]) cf;refine q Z _ _ _ (st.trans (ae.trans (ar.trans (aG.stepS s8)))) (h7.same s8) (cd.mono (le_refl _) (by omega)) ?_;rw[Y];have l1:gE M1.ls j=some a:=nF (L.so.imp λh=>Int.ne_of_lt h) ha;show Ab.mk (gA M1.ls j (a.1,a.2+1)) M1.after (gA M1.hs j (x,M1.time)) M1.time=Ab.mk _ M.after _ M.time;rw[Gi _ N,uX _ aq,w2,w3,w4,<- w1,l1];rfl
 rw[decide_eq_false (λe=>e3 (by injection e))];refine bD ⟨_,rfl,aJ,new_o λpk H1 R g1=>?_⟩;have h1:=h.same R;refine⟨pk,_,rfl,.inr (SqT.of g1),rfl,rfl,_,rfl,?_⟩;show if inV (V.str y) [V.str "done",V.str "back"]=true then _ else _
 cases hb:inV (V.str y) [V.str "done",V.str "back"] with
 |true=>
  obtain⟨x,k,as,am,gv⟩:∃x k,ag=[.str x,.int k]/\gU x/\Fx (eI M) y x k=lI W B (eI M) d:=by
   rw[I]at hb;cases d <;> first | (simp only[dD,aT,Den]at O;obtain⟨_,_,rfl,rfl,_,_,rfl,rfl,rfl⟩:=O;exact⟨_,_,rfl,aa.1,by rw[I];rfl⟩) | (dsimp only[eK]at hb;exact absurd hb (by decide))
  subst as;exact aU ⟨_,rfl,_,rfl,_,rfl,S,M,t,m,y,x,k,c,n,rfl,h1,ok,by omega,by omega,R _ _ gt,J3 am,λS' M' H' v st h' au ea=>q S' M' H' v ((aG.stepS R).trans st) h' (au.mono (by omega) (by omega)) (ea.trans gv)⟩
 |false=>
  refine bD ⟨_,rfl,_,rfl,_,rfl,S,M,t,se,m,W,B,y,ag,c,n,_,rfl,h1,ok,hn,by omega,R _ _ gs,R _ _ gt,λz=>?_,λz=>?_,λz1 z2=>?_,λS' M' H' v st h' au=>q S' M' H' v ((aG.stepS R).trans st) h' (au.mono (by omega) (by omega))⟩
  ·rw[z]at I;cases d <;> first | (simp only[dD,aT,Den]at O;obtain⟨_,_,rfl,rfl,rfl⟩:=O;exact⟨_,rfl,rfl⟩) | (dsimp only[eK]at I;exact absurd I (by decide))
  ·rw[z]at I;cases d <;> first | (simp only[dD,aT,Den]at O;obtain⟨_,_,rfl,rfl,rfl⟩:=O;exact⟨_,rfl,rfl⟩) | (dsimp only[eK]at I;exact absurd I (by decide))
  ·rw[I]at e1 e2 e3 hb z1 z2;cases d <;> first |rfl |exact absurd rfl e1 |exact absurd rfl e2 |exact absurd rfl e3 |exact absurd rfl z1 |exact absurd rfl z2 | (dsimp only[eK]at hb;exact absurd hb (by decide))
end
abbrev D4:Stmt:=top 73
def mJ(x m:Int):Int:=if x / 5 % 2=0 then x / 7 % (m+1) else x / 7 % 4
def CG(x:Int)(k:Nat):Int:=if (k:Int) % 2=0 then EE (oY x k) 256 else x / 11 % 3*100
def jS(x m:Int):Mf:=(List.range (mJ x m).toNat).map (CG x)
theorem EL(b:0<=m):0<=mJ x m/\(mJ x m<=m\/mJ x m<=3):=by
 unfold mJ;have e:=emod_nonneg (x / 7) (show m+1≠0 by omega);have f:=emod_lt_of_pos (x / 7) (show 0<m+1 by omega);split <;> omega
theorem yW(h:3<=m)(b:m<=60):(jS x m).length<=60:=by
 unfold jS;rw[length_map,length_range];have:=EL (x:=x) (m:=m) (by omega);omega
theorem CF(x m:Int):dY (jS x m):=by
 intro b f;unfold jS at f;obtain⟨k,_,e⟩:=mem_map.mp f;rw[<- e];unfold CG EE;split
 ·have g:=emod_nonneg (oY x k / 97) (show (256:Int)≠0 by decide);have n:=emod_lt_of_pos (oY x k / 97) (show (0:Int)<256 by decide);omega
 ·have g:=emod_nonneg (x / 11) (show (3:Int)≠0 by decide);have n:=emod_lt_of_pos (x / 11) (show (0:Int)<3 by decide);omega
inductive uF(vs:Mp)(H:Hp)(Q:VK)(x_3:XK):Prop
 |mk:∀(x m:Int),vs=[.int x,.int m]->0<=m->m<=1000->(∀p H',aG H H'->H' p=some (.tup ((jS x m).map V.int))->Q (.ref p) H')->uF vs H Q x_3
section
variable{P:Program}{w:World}{K:Ma}{mg:Mc}{base:Heap}{A:Ad}
theorem Hf(F:Fun K "_law_bytes" "_law_bytes" D4 f O)(T:‹3›)(b:‹10›)(g:‹15› "_law_pick" 1 ["_law_seed_here","_law_many"] sT) :
  ‹14› 2 f O ["_law_seed_here","_law_most"] uF:=by
 refine F.okY ["_law_seed_here","_law_most","_law_many"] λR A' n s H vs Q E hr nD0 h=>?_;obtain⟨x,m,rfl,S,m9,q⟩:=h;refine⟨_,aA (aW (i:=2) nD0 ⋯ ⋯ (cG (cF K) (cD (bT (bC dL (bC nC (pv 0) aM) (bC cT (pv 1) aM)) (bT (bC dL (bC nC (pv 0) aM) aM) aF))) (bC dL (bC nC (pv 0) aM) aM) (λ_ _=>rfl)))
  (aC (aP (kH (mR K) ⋯ T.ai6 pZ (dX (cV ["_law_k"] [("_law_seed_here",0)] ⋯ (kG ⋯ T.af1 ‹37›) (λC s2 H2 ex=>(bH (i:=0) (show List.Nodup (["_law_k","_law_seed_here"]:Mg) by decide +kernel) ⋯ (Or.inl ⋯))) ‹41› (λC s2 H2 ex=>(cG (cF K) (cD (cW (bB g ‹18› bA (cW (bB b ‹18› bA (aE (pv 1) ‹35›)) ‹43›)) (bT (bC qU ‹26› aM) aF))) (bC dL (pv 0) aM) (λ_ _=>rfl)))) aF)))),?_⟩
 have U:=emod_nonneg (x / 5) (show (2:Int)≠0 by decide);have d1:=emod_lt_of_pos (x / 5) (show (0:Int)<2 by decide);obtain⟨b0,b1⟩:=EL (x:=x) S;refine⟨_,rfl,_,_,rfl,rfl,⟨by decide,by decide⟩,_,rfl,_,_,rfl,rfl,_,_,rfl,rfl,(by show (0:Int)<m+1;omega),_,rfl,_,_,rfl,rfl,⟨by decide,by decide⟩,_,_,rfl,rfl,(by show (0:Int)<4;decide),(by show 2<=sizeLine;decide),λJ p=>?_⟩;refine⟨_,rfl,_,_,rfl,rfl,⟨by decide,by decide⟩,_,_,rfl,rfl,(by show (0:Int)<2;decide),J,_,_,.int (mJ x m),rfl,rfl,SqL.of aB,a8 U ?_,?_⟩
 ·unfold mJ;by_cases h:x / 5 % 2=0
  ·rw[h,if_pos rfl];rfl
  ·have r:x / 5 % 2=1:=by omega
   rw[r,if_neg (by decide)];rfl
 have W:aG H _:=aD (o:=.lst [V.int (x / 7 % (m+1)),V.int (x / 7 % 4)]) p;refine⟨_,rfl,mJ x m,rfl,by omega,by omega,?_⟩;refine c8 (jW (H:=upd H J (.lst [V.int (x / 7 % (m+1)),V.int (x / 7 % 4)])) 0 (mJ x m).toNat) ?zl (λi y _=>y = .int (CG x i)) (λ_ _ _ _ _ h=>h) (λX=>∃z,X = [z,some (.int x)]) ?z0 ?_ ?_
 case zl=>exact le_trans (show (mJ x m).toNat<=1003 by omega) (by decide)
 case z0=>exact⟨none,rfl⟩
 ·intro i y Y H3 L t s3 Z Q' u;obtain⟨z,rfl⟩:=t;subst Z;have e0:(0:Int)+(i:Int)=i:=by omega
  have i0:=emod_nonneg (i:Int) (show (2:Int)≠0 by decide);have i1:=emod_lt_of_pos (i:Int) (show (0:Int)<2 by decide);refine⟨_,rfl,_,rfl,x,_,rfl,_,256,rfl,by decide,?_⟩;refine⟨_,rfl,_,_,rfl,rfl,⟨by decide,by decide⟩,_,_,rfl,rfl,(by show (0:Int)<3;decide),_,_,rfl,rfl,.inr ⟨by decide,by decide⟩,(by show 2<=sizeLine;decide),λp2 B=>?_⟩;refine⟨_,rfl,_,_,rfl,rfl,(by show (0:Int)<2;decide),p2,_,_,.int (CG x i),rfl,rfl,SqL.of aB,?_,?_⟩
  ·rw[e0];refine a8 i0 ?_;unfold CG;by_cases h:(i:Int) % 2=0
   ·rw[h,if_pos rfl];rfl
   ·have r:(i:Int) % 2=1:=by omega
    rw[r,if_neg (by decide)];rfl
  ·exact u _ _ _ ⟨_,rfl⟩ (aD B) rfl
 ·intro D G H' hD s' I N hR;have ey:G=(jS x m).map V.int:=by
   unfold jS;apply ext_getElem?;intro i;cases e:G[i]? with
   |none=>
    have:G.length<=i:=List.getElem?_eq_none_iff.mp e;rw[getElem?_eq_none (by rw[length_map,length_map,length_range];omega)]
   |some y=>
    have L:i<(mJ x m).toNat:=by
     have:=(List.getElem?_eq_some_iff.mp e).1;omega
    rw[hR i y e,getElem?_map,getElem?_map,getElem?_range L];rfl
  refine⟨D,_,rfl,.inl ⟨SqL.of I,λl hl=>?_⟩⟩;refine q l _ ((W.trans s').trans (aD hl)) ?_;rw[aB,ey]
end
abbrev Dw:Stmt:=top 84
theorem MD:gU "a":=by refine⟨?_,?_,?_⟩ <;> decide +kernel
theorem MC:gU "b":=by refine⟨?_,?_,?_⟩ <;> decide +kernel
theorem MB:gU "hhhhhz":=by refine⟨?_,?_,?_⟩ <;> decide +kernel
theorem J4(b:0<=i)(e:i<3):∃x,atI [V.str "a",V.str "b",V.str "hhhhhz"] i=some (.str x)/\gU x:=by
 have:i=0\/i=1\/i=2:=by omega
 rcases this with rfl |rfl |rfl
 ·exact⟨_,rfl,MD⟩
 ·exact⟨_,rfl,MC⟩
 ·exact⟨_,rfl,MB⟩
theorem tP(e:Mf):lT (.tuple (e.map .int))=true:=by
 show fD (e.map .int)=true
 induction e with
 |nil=>rfl
 |cons x b f=>exact f
theorem CT(e:0<=i)(f:i<2):∃x,atI [V.int a,V.int b] i=some (.int x)/\(x=a\/x=b):=by
 have:i=0\/i=1:=by omega
 rcases this with rfl |rfl
 ·exact⟨_,rfl,.inl rfl⟩
 ·exact⟨_,rfl,.inr rfl⟩
theorem md{i j:Int}(h:0<j):0<=i % j/\i % j<j:=⟨emod_nonneg i (by omega),emod_lt_of_pos i h⟩
theorem ET{ns:Mf}{i:Int}(e:0<=i)(h:i<(ns.length:Int)):∃x∈ns,atI (ns.map V.int) i=some (.int x):=by
 have b:i.toNat<ns.length:=by omega
 exact⟨ns[i.toNat],List.getElem_mem b,a8 e (by rw[getElem?_map,getElem?_eq_getElem b];rfl)⟩
inductive tZ(vs:Mp)(H:Hp)(Q:VK)(x_3:XK):Prop
 |mk:∀(S:Sl)(M:Ms)(x tries:Int)(c n:Nat),vs=[.ref S.ps,.int x,.int tries]->StAt H S M->MsOk M c n->c<=50->(∀d t args H',aG H H'->H' t=some (.tup (.str (eK d)::args))->aT H' (dD d) args->Ae d->Q (.ref t) H')->tZ vs H Q x_3
section
variable{P:Program}{w:World}{K:Ma}{mg:Mc}{base:Heap}{A:Ad}
theorem HY{f:Addr}{fd:Ml}(F:Fun K "_law_deed" "_law_deed" Dw f fd)(T:‹3›)(ao:‹15› "_law_pick" 1 ["_law_seed_here","_law_many"] sT)(ap:‹13›)(ad:‹15› "_law_bytes" 2 ["_law_seed_here","_law_most"] uF)(ae:‹10›):‹14› 3 f fd ["_law_state","_law_seed_here","_law_tries"] tZ:=by
 refine F.okY ["_law_state","_law_seed_here","_law_tries","_law_pick_here","_law_some","_law_dead","_law_number","_law_hand","_law_many"] λa2 A' aq s H vs Q E hr nD0 h=>?_;obtain⟨S,M,x,u,c,n,rfl,h,ok,hc,q⟩:=h;refine⟨_,aA (aW (i:=3) nD0 ⋯ ⋯ (bB ao ‹18› bA (aE (pv 1) ‹43›)))
  (aA (aW (i:=4) nD0 ⋯ ⋯ ‹88›)
  (aA (aW (i:=5) nD0 ⋯ ⋯ (cG (cU K) (bB ap ‹18› bA (aE (pv 0) ‹37›)) aM (λ_ _=>rfl)))
  (aA (aW (i:=6) nD0 ⋯ ⋯ (bC dL ‹31› (bC cT ‹20› aM)))
  (aA (aW (i:=7) nD0 ⋯ ⋯ (cG (cF K) (cD ‹97›) ‹26› (λ_ _=>rfl)))
  (aA (bG ‹73›
   (aC (aP (bE (aI bP (cW (bB ad ‹18› bA (cW (bB ae ‹18› bA (aE (pv 1) ‹43›)) (aN ‹87› aF))) aF)))))
   aO)
  (aA (bG (aY fP (pv 3) aM (bI _))
   (aA (aW (i:=8) nD0 ⋯ ⋯ (bC cT aM (bC dL ‹31› ‹87›)))
   (aC (aP (bE (aI bP (cW (kH (mR K) ⋯ T.ai6 pZ (dX (cV ["_law_k"] [("_law_seed_here",1)] ⋯ (kG ⋯ T.af1 (aE (pv 8) aF)) (λC s2 H2 ex=>(bH (i:=0) (show List.Nodup (["_law_k","_law_seed_here"]:Mg) by decide +kernel) ⋯ (Or.inl ⋯))) ‹41› (λC s2 H2 ex=>(bB ad ‹18› bA (cW (bB ae ‹18› bA (aE (pv 1) ‹35›)) ‹43›)))) aF)) aF))))))
   aO)
  (aA (bG ‹73›
   (aC (aP (bE (aI bP (aE (pv 7) aF)))))
   aO)
  (aA (bG ‹73›
   (aA (bG (mB (aY (Ct hr.units) (pv 4) (cD aF) (bI _)) (jG (aY pF ‹26› aM (bI _)))).pt
    (aA (aW (i:=6) nD0 ⋯ ⋯ (cG (cF K) (pv 4) (bC dL ‹31› (bJ (dI K) ⋯ T.ae0 gM ‹60›)) (λ_ _=>rfl)))
    (aC (aW (i:=7) nD0 ⋯ ⋯ (cG (cU K) (dO (hu1 hr.units) ‹20› (pv 6) (λ_ _=>rfl)) aM (λ_ _=>rfl)))))
    aO)
   (aC (aP (bE (aN (cG (cF K) (cD (aI bP ‹97›)) (bC lK (pv 3) aM) (λ_ _=>rfl)) (aE (pv 7) (aE (pv 6) aF)))))))
   aO)
  (aA (bG (aY fP (pv 3) aM (bI _))
   (aC (aP (bE (aI bP (HQ (BP (mB (aY (Ct hr.units) (pv 5) (cD aF) (bI _)) (jG (aY pF ‹26› aM (bI _)))).pt (cG (cF K) (pv 5) (bC dL ‹31› (bJ (dI K) ⋯ T.ae0 gM ‹71›)) (λ_ _=>rfl)) (pv 6)) aF)))))
   aO)
  (aC (aP (cG (cF K) (cD (bV (bE (aI bP (bT (bC cT aM (bC dL ‹31› (cG (cF K) (cD (aI aM ‹43›)) (kH yU ⋯ T.ba3 DU (u9 (fU fP ‹26› aM (bI _)) aF)) (λ_ _=>rfl)))) aF))) (bV (bE ‹25›) (bV (bE ‹25›) aF)))) (bC lK (pv 3) aM) (λ_ _=>rfl))))))))))))),?_⟩
 have cnt:=ok.cnt;have hl:=ok.hl;have af:=ok.af;obtain⟨kh,l3,l4⟩:=h.hs;refine⟨_,rfl,x,16,rfl,by decide,?_⟩;obtain⟨I,ag⟩:∃I,I=EE x 16:=⟨_,rfl⟩;have a3:0<=I/\I<16:=by rw[ag];exact md (by decide)
 rw[<- ag];refine⟨_,rfl,S.ps,_,rfl,h.g_hands,S.ph,kh,M.hs.map (·.1),rfl,l3,l4.keys,.inl (by rw[length_map];omega),by rw[length_map];omega,λps U aa pw ar=>?_⟩;have a4:U.length<=1000:=by rw[aa.length_eq,length_map];omega
 have mk:∀k∈U,k∈M.hs.map (·.1):=λk hk=>aa.mem_iff.mp hk;obtain⟨H1,B,s1,g1⟩:=gUU (o:=.lst (U.map V.int)) ar;rw[B];have h1:=h.same s1;refine⟨_,rfl,_,rfl,S,M,u,rfl,h1,ok.so,by omega,λp a5 pd H2 s2 gp a6 ah ba bb=>⟨p,_,_,.ref pd,rfl,rfl,SqT.of gp,a8 (by decide) rfl,?_⟩⟩;have ai:∀j∈((l5 M).filter λn=>decide (n∉f9 M u)),j∈M.ls.map (·.1):=λj hj=>(mem_filter.mp ‹54›).1;generalize ((l5 M).filter λn=>decide (n∉f9 M u))=dl at ah ai;have h2:=h1.same s2;have aj:∀j∈M.ls.map (·.1),0<=j/\j<=999999:=λj hj=>by
  obtain⟨p,hp,e⟩:=mem_map.mp hj;have:=ok.lt p hp;omega
 obtain⟨nu,ak⟩:∃nu,nu=x / 7 % (M.after+1):=⟨_,rfl⟩;have R:0<=nu/\nu<=999999:=by
  have:=md (i:=x / 7) (show 0<M.after+1 by omega);rw[ak];omega
 refine⟨_,rfl,_,_,rfl,rfl,⟨by decide,by decide⟩,_,rfl,S.ps,_,rfl,h2.g_after,_,_,rfl,rfl,_,_,rfl,rfl,(by show 0<M.after+1;omega),?_⟩;show rZ 6 (V.int (x / 7 % (M.after+1))) _ _ _;rw[<- ak];refine⟨aJ,new_o λp3 H3 s3 g3=>?_⟩;obtain⟨hd,as,ab⟩:=J4 (i:=x / 11 % 3) (md (by decide)).1 (md (by decide)).2;refine⟨_,rfl,_,_,rfl,rfl,⟨by decide,by decide⟩,_,_,rfl,rfl,(by show (0:Int)<3;decide),p3,_,_,.str hd,rfl,rfl,SqL.of g3,as,?_⟩;have X:=s1.trans (s2.trans s3);have h3:=h2.same s3;have au:=(s2.trans s3) _ _ g1;have av:=s3 _ _ ah;refine⟨_,rfl,_,_,rfl,rfl,_,rfl,?_⟩;by_cases c1:I<3
 ·rw[decide_eq_true c1];refine aU ⟨_,rfl,x,1,rfl,aJ,new_o λp4 G J g4=>?_⟩;obtain⟨g,em,hm⟩:=CT (a:=20) (b:=60) (i:=x / 17 % 2) (md (by decide)).1 (md (by decide)).2;refine⟨_,rfl,_,_,rfl,rfl,⟨by decide,by decide⟩,_,_,rfl,rfl,(by show (0:Int)<2;decide),p4,_,_,.int g,rfl,rfl,SqL.of g4,em,oY x 1,g,rfl,by omega,by omega,λpb H5 Y gb=>⟨aJ,λO m=>?_⟩⟩;have L:=aD (o:=.tup [.str "put",.ref pb]) m;refine q (.put (jS (oY x 1) g)) O [.ref pb] _ (X.trans (J.trans (Y.trans L))) aB ?_ ⟨CF _ _,yW (by omega) (by omega)⟩;simp only[dD,aT,Den];exact⟨_,_,rfl,⟨pb,_,rfl,L _ _ gb,cB.mpr rfl⟩,rfl⟩
 rw[decide_eq_false c1];refine bD ⟨_,rfl,rfl,_,rfl,?_⟩;show if decide (V.int I=V.int 3)=true then _ else _
 by_cases c2:I=3
 ·rw[decide_eq_true (by rw[c2])];refine aU ⟨_,rfl,_,_,rfl,rfl,⟨by decide,by decide⟩,aJ,new_o λp4 G J g4=>?_⟩;obtain⟨g,em,hm⟩:=CT (a:=4) (b:=9) (i:=x / 17 % 2) (md (by decide)).1 (md (by decide)).2;refine⟨_,rfl,_,_,rfl,rfl,⟨by decide,by decide⟩,_,_,rfl,rfl,(by show (0:Int)<2;decide),p4,_,_,.int g,rfl,rfl,SqL.of g4,em,_,_,rfl,rfl,(by show (0:Int)<g;omega),_,_,rfl,rfl,?_⟩;obtain⟨nm,aw⟩:∃nm:Nat,(nm:Int)=1+x / 7 % g:=⟨(1+x / 7 % g).toNat,by have:=md (i:=x / 7) (show 0<g by omega);omega⟩;have al:1<=nm/\nm<=9:=by
   have:=md (i:=x / 7) (show 0<g by omega);omega
  show rZ 8 (V.int (1+x / 7 % g)) _ _ _;rw[<- aw];refine⟨_,rfl,(nm:Int),rfl,by omega,by omega,?_⟩;refine c8 (jW (H:=G) 0 (nm:Int).toNat) (le_trans (show _<=9 by omega) (by decide)) (λi y H'=>Den H' (.tuple ((jS (oY x i) 8).map .int)) y) (λi y G1 G2 s h=>h.n s ?_) (λσ=>∃z,σ = [z,some (.int x)]) ⟨none,rfl⟩ ?_ ?_
  ·exact tP _
  ·intro i y bc H5 hi ax Y hx Q' ay;obtain⟨z,rfl⟩:=ax;subst hx;have e0:(0:Int)+(i:Int)=i:=by omega
   refine⟨_,rfl,_,rfl,x,_,rfl,_,8,rfl,by decide,by decide,λpb H6 L gb=>?_⟩;rw[e0]at gb;refine ay _ _ _ ⟨_,rfl⟩ L ?_;simp only[Den];exact⟨pb,_,rfl,gb,cB.mpr rfl⟩
  ·intro D ys H5 hD Y gD a1 hR;refine⟨D,_,rfl,.inl ⟨SqL.of gD,λl hl=>⟨aJ,λO m=>?_⟩⟩⟩;obtain⟨H6,B,L,g6⟩:=gUU (o:=.tup ys) hl;rw[B]at m⊢;have s7:=aD (o:=.tup [.str "all",.ref l]) m;refine q (.all ((List.range nm).map λ(i:Nat)=>jS (oY x (i:Int)) 8)) O [.ref l] _ (X.trans (J.trans (Y.trans (L.trans s7)))) aB ?_ ⟨?_,?_,?_⟩
   ·simp only[dD,aT];refine⟨_,_,rfl,?_,rfl⟩;simp only[Den];refine⟨l,ys,rfl,s7 _ _ g6,iH (by unfold dZ;rw[length_map,length_map,length_range];omega) λi y e=>?_⟩;have hi:i<nm:=by
     have:=(List.getElem?_eq_some_iff.mp e).1;omega
    refine⟨_,?_,(hR i y e).same (L.trans s7)⟩;unfold dZ;rw[getElem?_map,getElem?_map,getElem?_range hi];rfl
   ·rw[length_map,length_range];exact al.1
   ·rw[length_map,length_range];exact al.2
   ·intro b hb;obtain⟨i,_,e⟩:=mem_map.mp hb;rw[<- e];exact⟨CF _ _,yW (by decide) (by decide)⟩
 rw[decide_eq_false (λe=>c2 (by injection e))];refine bD ⟨_,rfl,_,_,rfl,rfl,_,rfl,?_⟩;by_cases c3:I<8
 ·rw[decide_eq_true c3];refine aU ⟨_,rfl,aJ,λO m=>?_⟩;have J:=aD (o:=.tup [.str "take",.str hd]) m;refine q (.take hd) O [.str hd] _ (X.trans J) aB ?_ ab;simp only[dD,aT,Den];exact⟨_,_,rfl,rfl,rfl⟩
 rw[decide_eq_false c3];refine bD ⟨_,rfl,_,_,rfl,rfl,_,rfl,?_⟩;have am:∀{i:Int},0<=i->i<4->∃y,atI [V.str "done",V.str "done",V.str "back",V.str "done"] i=some (.str y)/\(y = "done"\/y = "back"):=λ{i} h0 h4=>by
  have:i=0\/i=1\/i=2\/i=3:=by omega
  rcases this with rfl |rfl |rfl |rfl
  ·exact⟨_,rfl,.inl rfl⟩
  ·exact⟨_,rfl,.inl rfl⟩
  ·exact⟨_,rfl,.inr rfl⟩
  ·exact⟨_,rfl,.inl rfl⟩
 by_cases c4:I<12
 ·rw[decide_eq_true c4];have fin:∀(k:Int)(z:Str)(G:Hp),aG H G->gU z->0<=k->k<=999999->(Iy (eT (tOp (JS K) (K5 (eT (tC (V.str "done")) (eT (tC (V.str "done")) (eT (tC (V.str "back")) (eT (tC (V.str "done")) kX))))) (tOp (rI0 λi j=>V.int (i-j)) (lU 3) (tC (V.int 8)))) (eT (lU 7) (eT (lU 6) kX)))) [some (.ref S.ps),some (.int x),some (.int u),some (.int I),some (.ref ps),some (.ref pd),some (.int k),some (.str z),none] G Q:=by
   intro k z G S4 an k0 k9;obtain⟨y,ey,hy⟩:=am (i:=I-8) (by omega) (by omega);refine⟨aJ,new_o λp5 H5 Y g5=>?_⟩;refine⟨_,rfl,_,_,rfl,rfl,p5,_,_,.str y,rfl,rfl,SqL.of g5,ey,_,rfl,_,rfl,aJ,λO m=>?_⟩;rcases hy with rfl |rfl
   ·have L:=aD (o:=.tup [.str "done",.str z,.int k]) m;refine q (.done z k) O [.str z,.int k] _ (S4.trans (Y.trans L)) aB ?_ ⟨an,k0,k9⟩;simp only[dD,aT,Den];exact⟨_,_,rfl,rfl,_,_,rfl,rfl,rfl⟩
   ·have L:=aD (o:=.tup [.str "back",.str z,.int k]) m;refine q (.back z k) O [.str z,.int k] _ (S4.trans (Y.trans L)) aB ?_ ⟨an,k0,k9⟩;simp only[dD,aT,Den];exact⟨_,_,rfl,rfl,_,_,rfl,rfl,rfl⟩
  refine aU ⟨_,rfl,aJ,new_o λpe G J g4=>?_⟩;have N:=J _ _ au;have h4:=h3.same J;refine⟨.list (U.map .int),.list (([]:Mf).map .int),kS N,kS (ns:=[]) g4,dU _,dU _,_,rfl,?_⟩;rw[nJ];by_cases em:U=[]
  ·rw[decide_eq_true em];exact bD (bD (fin nu hd G (X.trans J) ab R.1 R.2))
  rw[decide_eq_false em];refine aU ⟨_,rfl,_,_,rfl,rfl,⟨by decide,by decide⟩,_,_,rfl,rfl,(by show (0:Int)<5;decide),_,_,rfl,rfl,_,rfl,?_⟩;by_cases c5:(0:Int)<x / 13 % 5
  ·rw[decide_eq_true c5];have r:0<(U.length:Int):=by
    cases U with
    |nil=>exact absurd rfl em
    |cons a b=>rw[length_cons];omega
   obtain⟨k,hk,ek⟩:=ET (ns:=U) (i:=x / 7 % (U.length:Int)) (md r).1 (md r).2;have lm:((U.map V.int).length:Int)=(U.length:Int):=by rw[length_map]
   obtain⟨bd,b3,b4⟩:=h4.hs;obtain⟨a,v,ha,ev,t,az,gt⟩:=b4.look (mk k hk);have dg:=cR.k (k:=Sum.inl k) b3;rw[ev,az]at dg;have:=aj k (ok.hk _ ha).1;refine aU ⟨_,rfl,_,rfl,_,_,rfl,rfl,⟨by decide,by decide⟩,_,rfl,ps,_,rfl,.inl (SqL.of N),_,_,rfl,rfl,(by show (0:Int)<((U.map V.int).length:Int);rw[lm];exact r),ps,_,_,.int k,rfl,rfl,SqL.of N,(by rw[lm];exact ek),_,rfl,S.ps,_,rfl,h4.g_hands,_,rfl,S.ph,_,rfl,dg,t,_,_,.str a.1,rfl,rfl,SqT.of gt,a8 (by decide) rfl,fin k a.1 G (X.trans J) (ok.hk _ ha).2 this.1 this.2⟩
  ·rw[decide_eq_false c5];exact bD (fin nu hd G (X.trans J) ab R.1 R.2)
 rw[decide_eq_false c4];refine bD ⟨_,rfl,rfl,_,rfl,?_⟩;show if decide (V.int I=V.int 12)=true then _ else _
 by_cases c6:I=12
 ·rw[decide_eq_true (by rw[c6])];have fin:∀(k:Int)(G:Hp),aG H G->0<=k/\k<=999999->∀O,G O=none->Q (.ref O) (upd G O (.tup [.str "new",.int k])):=λk G S4 k0 O m=>by
   have L:=aD (o:=.tup [.str "new",.int k]) m;refine q (.new k) O [.int k] _ (S4.trans L) aB ?_ k0;simp only[dD,aT,Den];exact⟨_,_,rfl,rfl,rfl⟩
  refine aU ⟨_,rfl,aJ,new_o λpe G J g4=>?_⟩;have N:=J _ _ av;refine⟨.list (dl.map .int),.list (([]:Mf).map .int),kS N,kS (ns:=[]) g4,dU _,dU _,_,rfl,?_⟩;rw[nJ];by_cases em:dl=[]
  ·rw[decide_eq_true em];exact bD (bD ⟨_,rfl,aJ,fin nu G (X.trans J) R⟩)
  rw[decide_eq_false em];refine aU ⟨_,rfl,_,_,rfl,rfl,⟨by decide,by decide⟩,_,_,rfl,rfl,(by show (0:Int)<4;decide),_,_,rfl,rfl,_,rfl,?_⟩;by_cases c5:(0:Int)<x / 13 % 4
  ·rw[decide_eq_true c5];have r:0<(dl.length:Int):=by
    cases dl with
    |nil=>exact absurd rfl em
    |cons a b=>rw[length_cons];omega
   obtain⟨k,hk,ek⟩:=ET (ns:=dl) (i:=x / 7 % (dl.length:Int)) (md r).1 (md r).2;have lm:((dl.map V.int).length:Int)=(dl.length:Int):=by rw[length_map]
   exact aU ⟨_,rfl,_,rfl,_,_,rfl,rfl,⟨by decide,by decide⟩,_,rfl,pd,_,rfl,.inl (SqL.of N),_,_,rfl,rfl,(by show (0:Int)<((dl.map V.int).length:Int);rw[lm];exact r),pd,_,_,.int k,rfl,rfl,SqL.of N,(by rw[lm];exact ek),aJ,fin k G (X.trans J) (aj k (ai k hk))⟩
  ·rw[decide_eq_false c5];exact bD ⟨_,rfl,aJ,fin nu G (X.trans J) R⟩
 rw[decide_eq_false (λe=>c6 (by injection e))];refine bD ⟨_,rfl,_,_,rfl,rfl,⟨by decide,by decide⟩,aJ,new_o λp5 H5 Y g5=>?_⟩;obtain⟨g,em,hm⟩:=CT (a:=6) (b:=99) (i:=if decide (V.int (x / 17 % 5)=V.int 0)=true then 1 else 0) (by split <;> omega) (by split <;> omega);have mw:=md (i:=x / 7) (show 0<g by omega);refine⟨_,rfl,_,_,rfl,rfl,⟨by decide,by decide⟩,_,_,rfl,rfl,(by show (0:Int)<5;decide),rfl,.inr ⟨_,rfl,p5,_,_,.int g,rfl,rfl,SqL.of g5,em,_,_,rfl,rfl,(by show (0:Int)<g;omega),_,_,rfl,rfl,aJ,λt1 a0=>⟨aJ,λt2 ac=>⟨aJ,λt3 Z=>⟨aJ,λpl W=>?_⟩⟩⟩⟩⟩;have L:=aD (o:=.tup [.str "wait",.int (1+x / 7 % g)]) a0;have g6:upd H5 t1 (.tup [.str "wait",.int (1+x / 7 % g)]) t1=some (.tup [.str "wait",.int (1+x / 7 % g)]):=aB;have e6:upd H5 t1 (.tup [.str "wait",(λi j=>V.int (i+j)) 1 (x / 7 % g)])=upd H5 t1 (.tup [.str "wait",.int (1+x / 7 % g)]):=rfl;rw[e6]at ac Z W⊢;clear e6;generalize upd H5 t1 (.tup [.str "wait",.int (1+x / 7 % g)])=H6 at L g6 ac Z W⊢;obtain⟨H7,B,s7,g7⟩:=gUU (o:=.tup [.str "sweep"]) ac;rw[B]at Z W⊢;obtain⟨H8,B,s8,g8⟩:=gUU (o:=.tup [.str "carry"]) Z;rw[B]at W⊢;obtain⟨H9,B,s9,g9⟩:=gUU (o:=.lst [.ref t1,.ref t2,.ref t3]) W;rw[B];have S9:=X.trans (Y.trans (L.trans (s7.trans (s8.trans s9))));have:I-13=0\/I-13=1\/I-13=2:=by omega
 rcases this with e |e |e
 ·refine⟨_,rfl,_,_,rfl,rfl,pl,_,_,.ref t1,rfl,rfl,SqL.of g9,(by rw[e];rfl),?_⟩;refine q (.wait (1+x / 7 % g)) t1 [.int (1+x / 7 % g)] H9 S9 ((s7.trans (s8.trans s9)) _ _ g6) ?_ ⟨by omega,by omega⟩;simp only[dD,aT,Den];exact⟨_,_,rfl,rfl,rfl⟩
 ·refine⟨_,rfl,_,_,rfl,rfl,pl,_,_,.ref t2,rfl,rfl,SqL.of g9,(by rw[e];rfl),?_⟩;refine q .sweep t2 [] H9 S9 ((s8.trans s9) _ _ g7) ?_ trivial;simp only[dD,aT]
 ·refine⟨_,rfl,_,_,rfl,rfl,pl,_,_,.ref t3,rfl,rfl,SqL.of g9,(by rw[e];rfl),?_⟩;refine q .carry t3 [] H9 S9 (s9 _ _ g8) ?_ trivial;simp only[dD,aT]
end
structure Bo(A:Ad)(H:Hp)(L0 D0:Addr)(H1:Hp)(L:Pl)(q:Qs)(S:Sl)(M:Ms):Prop where
 k:Kc A H L0 D0 H1 L q
 h:StAt H1 S M
 off:∀b∈stL S,Off H L b
section
variable{A:Ad}{H H1 H2:Hp}{L0 D0:Addr}{L L':Pl}{q q':Qs}{S S':Sl}{M M':Ms}
theorem Bo.same(b:Bo A H L0 D0 H1 L q S M)(s:aG H1 H2):Bo A H L0 D0 H2 L q S M:=⟨b.k.sames s,b.h.same s,b.off⟩
theorem Bo.queue(b:Bo A H L0 D0 H1 L q S M)(st:Step L L' H1 H2)(g:Kc A H L0 D0 H2 L' q'):Bo A H L0 D0 H2 L' q' S M:=⟨g,b.h.keep (λc o e f=>st.frm c o e (b.off c f).2) st.tup,λc f=>by
 obtain⟨o,e,_⟩:=b.h.here f;exact((b.off c f).step st e).1⟩
theorem Bo.state(b:Bo A H L0 D0 H1 L q S M)(st:StepS S S' H1 H2)(g:StAt H2 S' M'):Bo A H L0 D0 H2 L q S' M':=⟨b.k.buts (S:=λc=>c∈stL S) (λc o e n=>st.frm c o e n) b.off (λc f r e=>by
 obtain⟨o,m,p⟩:=b.h.here f;rw[m]at e;cases e;exact p _ rfl),g,λc f=>(st.grow c f).elim (b.off c) (λz=>b.k.off z)⟩
end
theorem depth_ints:∀b:Mf,PyData.depthAll (b.map .int)=0
 |[]=>rfl
 |n::b=>by
  show max 0 (PyData.depthAll (b.map .int))=0;rw[depth_ints b];rfl
theorem uK(h:∀d∈b,kB d=true/\PyData.depth d<=2):kB (.list b)=true/\PyData.depth (.list b)<=64:=by
 constructor
 ·show lR b=true;exact uO λd e=>(h d e).1
 ·show PyData.depthAll b+1<=64;have:=yN λd e=>(h d e).2;omega
theorem Ci(b:Mq)(f:Mf):kB (.list (f.map (mL b)))=true/\PyData.depth (.list (f.map (mL b)))<=64:=uK λd g=>by
 obtain⟨k,_,rfl⟩:=mem_map.mp g;unfold mL;generalize (bM b k).getD ([],0,0)=e;constructor
 ·unfold AF;simp only[kB,lR,Gm];rfl
 ·show max 0 (max (PyData.depthAll (e.1.map .int)+1) (max 0 0))+1<=2;rw[depth_ints];decide
theorem CH:∀e:Md,fD (dZ e)=true
 |[]=>rfl
 |b::e=>by
  show (lT (.tuple (b.map .int)) && fD (dZ e))=true;rw[CH e,tP];rfl
theorem Ii(d:rH):fD (dD d)=true:=by
 cases d with
 |put b=>
  show (lT (.tuple (b.map .int)) && true)=true;rw[tP];rfl
 |all e=>
  show (fD (dZ e) && true)=true;rw[CH];rfl
 |_=>rfl
theorem Ga(h:gO x=true):PyData.strOk x=true:=by
 unfold gO at h;unfold PyData.strOk;rw[Array.all_eq_true]at h⊢;intro i b;have:=of_decide_eq_true (h i b);exact decide_eq_true (by omega)
theorem x8(h:bY e k=some o):(k,o)∈e:=by
 unfold bY at h;cases y:e.find? λp=>decide (p.1=k) with
 |none=>
  rw[y]at h;cases h
 |some p=>
  rw[y]at h;cases h;have f:=List.mem_of_find?_eq_some y;have b:=List.find?_some (p:=λp:Int×(Str×Int)=>decide (p.1=k)) y;have b:p.1=k:=of_decide_eq_true b;rw[<- b];exact f
theorem Cj(b:Mf)(h:∀p∈hs,PyData.strOk p.2.1=true):kB (.list (rY hs b))=true/\PyData.depth (.list (rY hs b))<=64:=uK λd e=>by
 unfold rY at e;obtain⟨k,_,rfl⟩:=mem_map.mp e;refine⟨?_,by show max 0 (max 0 0)+1<=2;decide⟩;show (true && (PyData.strOk ((bY hs k).getD ("",0)).1 && true))=true;rw[Bool.true_and,Bool.and_true];cases y:bY hs k with
 |none=>decide +kernel
 |some o=>exact h _ (x8 y)
theorem IH(f:k∈g)(h:bY m k=some o)(b:PyData.strOk o.1=true):((rY m g).any λe=>PyData.eqv e (.tuple [.int k,.str o.1]))=true:=by
 refine any_eq_true.mpr ⟨.tuple [.int k,.str o.1],mem_map.mpr ⟨k,f,by rw[h];rfl⟩,vS ?_⟩;show (true && (PyData.strOk o.1 && true))=true;rw[b];rfl
abbrev uT:Stmt:=top 86
def J0(p:Int×(Mf×Int)):PyData:=.tuple [.int p.1,.tuple (p.2.1.map .int),.int p.2.2]
inductive lZ(vs:Mp)(H:Hp)(Q:VK)(x_3:XK):Prop
 |mk:∀(S:Sl)(M:Ms)(c n:Nat),vs=[.ref S.ps]->StAt H S M->MsOk M c n->c<=100->(∀p H',aG H H'->Den H' (.list (M.ls.map J0)) (.ref p)->Q (.ref p) H')->lZ vs H Q x_3
section
variable{P:Program}{w:World}{K:Ma}{mg:Mc}{base:Heap}{A:Ad}
theorem Ba{f:Addr}{U:Ml}(F:Fun K "_law_letters" "_law_letters" uT f U)(T:‹3›):‹14› 1 f U ["_law_state"] lZ:=by
 refine F.okY ["_law_state"] λaa A' B s H vs Q E hr nD0 h=>?_;obtain⟨S,M,c,n,rfl,h,ok,hc,q⟩:=h;refine⟨_,aC (aP (cV ["_law_number"] [("_law_state",0)] ⋯ (bU K ‹88›) ‹39› ‹41› (λC s2 H2 ex=>(bC jH (bE ‹35›) ‹44›)))),?_⟩;obtain⟨kl,W,X⟩:=h.ls;have cnt:=ok.cnt;have Y:=ok.so.imp Int.le_of_lt;refine⟨_,rfl,S.ps,_,rfl,h.g_letters,S.pl,kl,M.ls.map (·.1),rfl,W,X.keys,.inr Y,by rw[length_map];omega,λp ms m pw hp=>?_⟩;obtain rfl:ms=M.ls.map (·.1):=eJ m pw Y;obtain⟨H2,G,s2,Z⟩:=gUU (o:=.lst ((M.ls.map (·.1)).map V.int)) hp;rw[G];refine⟨p,rfl,⟨_,SqL.of Z⟩,?_⟩;refine c8 (bO (K:=K) (SqL.of Z)) (by rw[length_map,length_map];exact le_trans ‹65› (by decide)) (λi y H'=>∃e,M.ls[i]? = some e/\Den H' (J0 e) y) (λi y G1 G2 s h=>by obtain⟨e,h1,h2⟩:=h;exact⟨e,h1,h2.n s (AE e.1 (e.2.1,e.2.2,0))⟩) (λσ=>∃z,σ = [z,some (.ref S.ps)]) ⟨none,rfl⟩ ?_ ?_
 ·intro i x ab H3 hi I J r Q' L;obtain⟨z,rfl⟩:=I;rw[getElem?_map,getElem?_map]at r;cases e:M.ls[i]? with
  |none=>rw[e]at r;cases r
  |some a=>
   rw[e]at r;cases r;have ha:=mem_of_getElem? e;obtain⟨a',v,N,ev,t,b,O,gt,gb⟩:=X.look (mem_map_of_mem (f:=(·.1)) ha);have nd:(M.ls.map (·.1)).Nodup:=ok.so.imp λh=>Int.ne_of_lt h;obtain rfl:a'=a.2:=Option.some.inj ((nF nd N).symm.trans (nF nd ha));have R:=s2.trans J;refine⟨_,rfl,aJ,new_o λpa H4 v1 u1=>?_⟩;have u:=R.trans v1;have h4:=h.same u;have dg:=cR.k (k:=Sum.inl a.1) (u _ _ W);rw[ev,O]at dg;refine⟨_,rfl,S.ps,_,rfl,h4.g_letters,_,rfl,S.pl,_,rfl,dg,pa,t,_,_,rfl,rfl,u1,u _ _ gt,le_of_ble_eq_true rfl,λpc H8 v2 u2=>?_⟩;refine L _ _ _ ⟨_,rfl⟩ (v1.trans v2) ⟨a,e,?_⟩;unfold J0;simp only[Den,aT];exact⟨pc,_,rfl,u2,_,_,rfl,rfl,_,_,rfl,⟨b,_,rfl,v2 _ _ (u _ _ gb),cB.mpr rfl⟩,_,_,rfl,rfl,rfl⟩
 intro D ys H3 hD J gD g hR;refine q D H3 (s2.trans J) ?_;simp only[Den];refine⟨D,ys,rfl,gD,iH (by rw[length_map];rw[length_map,length_map]at g;exact g) λi y e=>?_⟩;obtain⟨a,e1,e2⟩:=hR i y e;exact⟨_,by rw[getElem?_map,e1];rfl,e2⟩
end
theorem Jz{q:Qs}{n c:Nat}(z:Qi q n c):(q.B.es.map (·.1)).map (mL q.B.es)=(fT q).ls.map J0:=by
 unfold fT
 try dsimp only
 rw[map_map,map_map];refine map_congr_left λp b=>?_;have g:(q.B.es.map (·.1)).Nodup:=z.eo.so.imp λh=>Int.ne_of_lt h;have e:bM q.B.es p.1=some p.2:=by
  obtain⟨e,h⟩:=i9 (mem_map_of_mem (f:=(·.1)) b);rw[h];exact congrArg (λx=>some x.2) (DD g (vE h) b rfl)
 show mL q.B.es p.1=_;unfold mL;rw[e];rfl
abbrev KY:Stmt:=top 88
theorem Jw{b : St}{H:Hp}{k:Mp->Hp->Prop}(h:k [] H):kX b H k:=h
theorem IK{J:It}{s H:Hp}{n:Nat}{Y:Nat->V->Hp->Prop}{g:TG}{t:TS}{D:Ends}{b : St}(S:Src J s n Y)(Pv:Nat->St->Hp->Prop)(y:Pv 0 b H)(o:∀i b e,Pv i b e->aG s e)
  (step:∀(r:Ends) i x b q H2,(∀b H,Pv (i+1) b H->r.nx b H/\r.ct b H)->i<n->Pv i b q->aG q H2->Y i x H2->g x b H2 λf z=>t r f z) (fin:∀b e,Pv n b e->D.nx b e) :
  ∃W:Nat->Nat->St->Hp->Prop,(∃m,W 0 m b H)/\∀i m b H,W i m b H->
   (J.stop i H/\D.nx b H)\/(J.go i H/\∃N:St->Hp->Prop,(∀p e,N p e->∃u,u<m/\W (i+1) u p e)/\∀x e,J.yld i H x e->g x b e λf H2=>t {D with nx:=N,ct:=N,bk:=D.nx} f H2):=
 fR S Pv y o (λi x b q H2 G I L O=>step {D with nx:=Pv (i+1),ct:=Pv (i+1),bk:=D.nx} i x b q H2 (λ_ _ h=>⟨h,h⟩) G I L O) fin
theorem new_d{g H2:Hp}{C f n r:Addr}(m:g f=none)(p:g n=none)(t:∀b o,upd (upd g n (.own f)) f (.ins C n []) b=some o->b≠f->H2 b=some o)(q:upd (upd g n (.own f)) f (.ins C n []) r=none):aG g H2/\∀b,own f r [] b->g b=none:=by
 refine⟨λb o e=>?_,?_⟩
 ·have s:b≠f:=bS e m;have u:b≠n:=bS e p;exact t b o (by rw[aH s,aH u];exact e) s
 ·rintro b (rfl |rfl |x)
  ·exact m
  ·cases e:g b with
   |none=>rfl
   |some o=>
    rw[aH (bS e m),aH (bS e p),e]at q;cases q
  ·simp at x
theorem new_q{A:Ad}{H H1 H2 f:Hp}{g n:Addr}{L:Pl}{q:Qs}(s:aG H H1)(t:aG H1 H2)(u:∀b,own g n [] b->H1 b=none)(z:L.dk=g)(B:∀b o,H2 b=some o->¬own g n [] b->f b=some o)(D:∀b,gT L b->own g n [] b\/H2 b=none)(p:QueueW A f L q false):aG H1 f/\(∀b,gT L b->H1 b=none)/\Kc A H L.qu g f L q:=by
 have x:aG H1 f:=λb o e=>B b o (t b o e) (λE=>by rw[u b E]at e;cases e);have m:∀b,gT L b->H1 b=none:=λb r=>by
  rcases D b r with y |y
  ·exact u b y
  ·exact t.free y
 exact⟨x,m,s.trans x,rfl,z,λb r=>s.free (m b r),p⟩
inductive Cc(K:Ma)(A:Ad)(vs:Mp)(H:Hp)(Q:VK)(x_3:XK):Prop
 |mk:∀(Hb:Hp)(a:Addr)(ns:Mf)(dk df p:Addr)(m hh tr:Int),vs=[.ref a,.int 1,.int 20,.ref dk,.ref p]->aG Hb H->(∀b,own dk df [] b->Hb b=none)->SqL K Hb a (ns.map V.int)->DiskAt A.disk H dk df [] ⟨[],0,none⟩->Hb p=some (.tup [.int m,.int hh,.int tr])->(1<=m/\m<=2000)->(0<=hh/\hh<=99)->(1<=tr/\tr<=9)->(∀L q S M pt H',Bo A Hb L.qu dk H' L q S M->Qi q 10000 20->MsOk M 20 20001->fT q=eI M->H' pt=some (.tup [.ref L.qu,.ref S.ps])->Q (.ref pt) H')->Cc K A vs H Q x_3
section
variable{P:Program}{w:World}{K:Ma}{mg:Mc}{base:Heap}{A:Ad}
theorem Lh{f:Addr}{fd:Ml}(F:Fun K "_law_done_so" "_law_done_so" KY f fd)(T:‹3›)(U:‹15› "do" 10 ["queue","deed"] (Dm A))
  (V:‹15› "_law_cell" 1 ["_law_script","_law_k"] (sV K)) (af:‹15› "_law_mix" 1 ["_law_cell_here","_law_prime","_law_many"] Cb) (ag:‹10›) (ah:‹15› "_law_queue" 10 ["_law_disk","_law_settings_here"] (qI A))
  (ai:‹15› "_law_begin" 1 [] wX) (aj:‹15› "_law_deed" 3 ["_law_state","_law_seed_here","_law_tries"] tZ) (ak:‹15› "_law_told" 4 ["_law_state","_law_deed_here","_law_settings_here"] tX) :
  ‹14› 11 f fd ["_law_script","_law_at","_law_many","_law_disk","_law_settings_here"] (Cc K A):=by
 refine F.okY ["_law_script","_law_at","_law_many","_law_disk","_law_settings_here","_law_state","_law_queue_here","_law_k","_law_deed_here"] λar A' al s H vs Q E hr nD0 h=>?_;obtain⟨Hb,a,I,J,df,p,m,n,g,rfl,sb,fb,hs,hD,g1,hm,as,W,qq⟩:=h;refine⟨_,aA (aW (i:=5) nD0 ⋯ ⋯ (LZ ai ‹18› bA))
  (aA (aW (i:=6) nD0 ⋯ ⋯ (bB ah ‹18› bA (aE (pv 3) ‹60›)))
  (aA (eQ (i8 dF) ⋯ (kG ⋯ T.af1 (cW (bB af ‹18› bA (cW (bB V ‹18› bA (aE (pv 0) ‹29›)) (aI aM (bT (bC cT (pv 2) aM) aF)))) aF)) (bH (i:=7) nD0 ⋯ ⋯)
   (aA (aW (i:=8) nD0 ⋯ ⋯ (bB aj ‹18› bA (aE (pv 5) (cW (bB ag ‹18› bA (bT (bC cT (bB V ‹18› bA (aE (pv 0) (bT (bC cT (bC cT (pv 1) aM) (bC dL (pv 7) aM)) aF))) (bC qU aM (pv 7))) (aE (pv 7) aF))) (aN (cG (cU K) (pv 4) aM (λ_ _=>rfl)) aF)))))
   (aA (aX (bB U ‹18› bA (aE (pv 6) (aE (pv 8) aF))))
   (aC (aX (bB ak ‹18› bA (aE (pv 5) (aE (pv 8) ‹60›))))))))
  (aC (aP (bE (aE (pv 6) ‹71›)))))),?_⟩
 refine⟨rfl,λS H3 s3 X h3=>?_⟩;have t:uM (.int m) (.int n) (.int g)=true:=by
  unfold uM;simp only[bL,and_eq_true,decide_eq_true_eq];omega
 refine⟨_,rfl,_,rfl,J,df,p,[],⟨[],0,none⟩,m,n,g,rfl,s3 _ _ (sb _ _ g1),t,hD.same s3,⟨rfl,rfl⟩,λL O H5 eL B w5 Y=>?_⟩;obtain⟨S5,am,k5⟩:=new_q (H:=Hb) (H1:=Hb) (aG.refl _) (sb.trans s3) fb eL B w5 Y;have Z:∀b∈stL S,¬own J df [] b:=λb D z=>by
  obtain⟨o,e⟩:=oB hD z;rw[X b D]at e;cases e
 have R:Bo A Hb L.qu J H5 L (nP m n g O) S M0:=⟨k5,h3.keep (λb o e D=>B b o e (Z b D)) ((show rF J df [] H3 H5 from B).tup (hD.same s3)),λb D=>⟨sb.free (X b D),λz=>by
  rcases w5 b z with y |y
  ·exact Z b D y
  ·obtain⟨o,e,_⟩:=h3.here D;rw[y]at e;cases e⟩⟩
 have z5:Qi (nP m n g O) 0 0:=Qi.first hm.1 hm.2 W.1 W.2;have B:((nP m n g O).tries=g/\(nP m n g O).hold=n)/\fT (nP m n g O)=eI M0:=⟨⟨rfl,rfl⟩,rfl⟩;generalize nP m n g O=q5 at R z5 B;obtain⟨L0,aa⟩:∃L0,L0=L.qu:=⟨_,rfl⟩;obtain⟨P0,ab⟩:∃P0,P0=S.ps:=⟨_,rfl⟩;rw[<- aa,<- ab];rw[<- aa]at R;clear k5 Y am w5 t;obtain⟨N,eN⟩:∃N:Nat,(N:Int)=Hm (I.getD (Int.toNat 1) 0) 9949 21:=⟨(Hm (I.getD (Int.toNat 1) 0) 9949 21).toNat,by
  have mb:=md (i:=(I.getD (Int.toNat 1) 0*48271 % 9949) ^ 3 % 9949) (j:=21) (by decide);unfold Hm;omega⟩
 have au:N<=20:=by
  have mb:=md (i:=(I.getD (Int.toNat 1) 0*48271 % 9949) ^ 3 % 9949) (j:=21) (by decide);unfold Hm at eN;omega
 refine⟨_,rfl,_,rfl,a,I,1,rfl,by decide,R.k.same.seq hs,_,rfl,_,_,rfl,rfl,_,9949,21,rfl,by decide,by decide,by decide,(N:Int),by rw[eN],by omega,by omega,?_⟩;refine IK (jW (H:=λ_=>none) 0 (N:Int).toNat) (λi σ H'=>∃L q S M z7 z8,σ = [some (.ref a),some (.int 1),some (.int 20),some (.ref J),some (.ref p),some (.ref P0),some (.ref L0),z7,z8]/\Bo A Hb L0 J H' L q S M/\Qi q (500*i) i/\MsOk M i (1+1000*i)/\P0=S.ps/\(q.tries=g/\q.hold=n)/\fT q=eI M) ⟨L,q5,S,M0,_,_,rfl,R,z5,M0_ok,ab,B.1,B.2⟩ (λi σ H' n b u e=>by cases e) ?_ ?_
 ·rintro D' i x σ H5 H6 an hi ⟨L,q,S,M,z7,z8,rfl,R,zq,r,eP,⟨tq,hq⟩,eA⟩ s6 rfl;have b6:=R.same s6;have av:i<20:=by omega
  have gp:=b6.k.same _ _ g1;have ao:=b6.k.same.seq hs;have i6:=md (i:=0+(i:Int)) (j:=6) (by decide);refine⟨_,rfl,_,rfl,_,rfl,_,_,rfl,rfl,_,rfl,_,_,rfl,rfl,(by show (0:Int)<6;decide),_,_,rfl,rfl,a,I,_,rfl,(by show 0<=1+1+(0+(i:Int)) % 6;omega),ao,?_⟩;refine⟨_,rfl,_,_,rfl,rfl,.inl ⟨by decide,by decide⟩,_,_,rfl,rfl,_,rfl,_,_,rfl,_,rfl,p,_,_,.int g,rfl,rfl,SqT.of gp,a8 (by decide) rfl,S,M,_,g,i,1+1000*i,(by rw[eP]),b6.h,r,by omega,λd td ac H7 s7 gt da ad=>?_⟩;have b7:=b6.same s7;refine⟨_,rfl,_,rfl,Jw (Ku b7.k zq (by omega) (by omega) ad gt da λv L' q' H8 st k' z' G=>?_)⟩;have b8:=b7.queue st k';refine⟨_,rfl,_,rfl,_,rfl,S,M,td,p,d,ac,m,n,g,i,1+1000*i,(by rw[eP]),b8.h,r,by omega,by omega,b8.k.same _ _ g1,st.tup _ _ gt,gK st.tup (Ii d) da,ad,λS' M' H9 v' ae h' ap ea=>?_⟩;refine(an _ _ ⟨L',q',S',M',_,_,rfl,b8.state ae h',z'.mono (by omega) (by omega),ap.mono (by omega) (by omega),eP.trans ae.ps.symm,⟨G.1.1.trans tq,G.1.2.1.trans hq⟩,?_⟩).1;rw[G.2,ea,eA,tq,hq]
 ·rintro σ H' ⟨L,q,S,M,z7,z8,rfl,b,zq,r,eP,_,eA⟩;refine⟨_,rfl,_,rfl,aJ,λpt aq=>?_⟩;have s1:=aD (o:=.tup [.ref L0,.ref P0]) aq;have b1:=b.same s1;have eL:=b.k.qu;subst eL;subst eP;exact qq L q S M pt _ b1 (zq.mono (by omega) (by omega)) (r.mono (by omega) (by omega)) eA aB
end
abbrev rM:Stmt:=top 89
inductive uA(K:Ma)(vs:Mp)(H:Hp)(Q:VK)(x_3:XK):Prop
 |mk:∀(a:Addr)(ns:Mf),vs=[.ref a]->SqL K H a (ns.map V.int)->(∀H',Q (.bl true) H')->uA K vs H Q x_3
def PEv(e : St)(f:Hp)(g:TE)(d:PyData):Prop:=∀(H:Hp)(Q:VK),aG f H->(∀v b,aG H b->Den b d v->Q v b)->g e H Q
def PAv(f : St)(g:Hp)(t:TA)(m:Mj):Prop:=∀(H:Hp)(Q:Mp->Hp->Prop),aG g H->(∀e b,aG H b->aT b m e->Q e b)->t f H Q
theorem B8{H:Hp}:∀{a b:Mj}{x y:Mp},aT H a x->aT H b y->aT H (a++b) (x++y)
 |[],_,x,y,f,g=>by
  simp only[aT]at f;rw[f];exact g
 |_::_,_,x,y,f,g=>by
  simp only[aT]at f;obtain⟨v,r,rfl,d,e⟩:=f;rw[List.cons_append,List.cons_append];simp only[aT];exact⟨v,_,rfl,d,B8 e g⟩
section
variable{σ : St}{H0:Hp}{te:TE}{t:TA}{d:PyData}{ds:Mj}
theorem AO{v:V}(h:∀H,Den H d v):PEv σ H0 (tC v) d:=λH Q _ q=>q v H (aG.refl H) (h H)
theorem IO{x:Str}:PEv σ H0 (tC (.str x)) (.str x):=AO λ_=>by simp only[Den]
theorem IR{x:Int}:PEv σ H0 (tC (.int x)) (.int x):=AO λ_=>by simp only[Den]
theorem IP:PEv σ H0 (tC .non) .none:=AO λ_=>by simp only[Den]
theorem Ig:PAv σ H0 kX []:=λH Q _ q=>q _ H (aG.refl H) (by simp only[aT])
theorem Ej(e:PEv σ H0 te d)(f:PAv σ H0 t ds):PAv σ H0 (eT te t) (d::ds):=λH Q s q=>
 e H _ s λv g b m=>f g _ (s.trans b) λn H2 s2 o=>q _ H2 (b.trans s2) (by simp only[aT];exact⟨v,n,rfl,m.same s2,o⟩)
theorem IN(f:ds.length<=sizeLine)(h:PAv σ H0 t ds):PEv σ H0 (Iy t) (.tuple ds):=λH Q s q=>
 h H _ s λg n m b=>⟨by rw[b.length];exact f,λp e=>q _ _ (m.trans (aD e)) (by simp only[Den];exact⟨p,g,rfl,aB,b.same (aD e)⟩)⟩
theorem IQ(f:ds.length<=sizeLine)(h:PAv σ H0 t ds):PEv σ H0 (K5 t) (.list ds):=λH Q s q=>
 h H _ s λg n m b=>⟨by rw[b.length];exact f,λp e=>q _ _ (m.trans (aD e)) (by simp only[Den];exact⟨p,g,rfl,aB,b.same (aD e)⟩)⟩
theorem ev_bl{b:Bool}:PEv σ H0 (tC (.bl b)) (.bool b):=AO λ_=>by simp only[Den]
theorem Bw{i:Nat}{S:Sl}{M:Ms}(e:σ[i]? = some (some (.ref S.ps)))(h:StAt H0 S M):PEv σ H0 (An (lU i) (tC (.str "after"))) (.int M.after):=λH Q s q=>⟨_,e,S.ps,_,rfl,(h.same s).g_after,q _ _ (aG.refl _) (by simp only[Den])⟩
theorem MH{te:TE}{n:Int}(m:0<=n)(r:n<=100000)(h:PEv σ H0 te (.int n)):PEv σ H0 (tLR1 (eT te kX)) (.list ((List.range n.toNat).map λ(k:Nat)=>.int (0+(k:Int)))):=λH Q s q=>h H _ s λv u f b=>by
 simp only[Den]at b;subst b;refine⟨n,rfl,by omega,le_trans (show n.toNat<=100000 by omega) (by decide),λp g=>?_⟩;have s2:=aD (o:=.lst ((List.range n.toNat).map λ(k:Nat)=>V.int (0+(k:Int)))) g;refine q _ _ (f.trans s2) ?_;simp only[Den];refine⟨p,_,rfl,aB,iH (by rw[length_map,length_map]) λi y e=>?_⟩;rw[getElem?_map]at e;cases z:(List.range n.toNat)[i]? with
 |none=>rw[z]at e;cases e
 |some k=>rw[z]at e;cases e;exact⟨_,by rw[getElem?_map,z];rfl,by simp only[Den]⟩
theorem MI{i:Int}:PEv σ H0 (tUn (rU λi=>V.int (-i)) (tC (.int i))) (.int (-i)):=λH Q s q=>⟨i,rfl,q _ H (aG.refl H) (by simp only[Den])⟩
theorem MJ{g m:TE}{e:Mj}(E:PEv σ H0 g (.list ds))(G:PEv σ H0 m (.list e))(I:ds.length+e.length<=sizeLine):PEv σ H0 (tOp LQ g m) (.list (ds++e)):=λH Q s q=>
 E H _ s λv J n r=>G J _ (s.trans n) λu H2 s2 x=>by
  simp only[Den]at r x;obtain⟨a,y,rfl,L,z⟩:=r;obtain⟨b,B,rfl,N,D⟩:=x;refine⟨a,b,y,B,rfl,rfl,s2 _ _ L,N,by rw[z.length,D.length];exact I,λp O=>?_⟩;have f:=aD (o:=.lst (y++B)) O;refine q _ _ (n.trans (s2.trans f)) ?_;simp only[Den];exact⟨p,_,rfl,aB,B8 (z.same (s2.trans f)) (D.same f)⟩
theorem LI{g:TG}{r:TS}{D:Ends}{i:Nat}{x:V}(h:PEv (σ.set i (some x)) H0 te d)(q:∀v b,aG H0 b->Den b d v->zF g (D.next (r D)) (σ.set i (some x)) v b):zF (rZ i) (D.next (tU (JE te g) r D)) σ x H0:=h H0 _ (aG.refl H0) q
end
theorem Bx{G:Hp}{e f:V}{d:PyData}{Q:VK}(m:Den G d e)(n:Den G d f)(b:kB d=true)(g:PyData.depth d<=64)(q:Q (.bl true) G):LP e f G Q:=by
 refine⟨d,d,m,n,mZ b g,mZ b g,?_⟩;rw[vS b];exact q
theorem Kx{b:List (Str×Mf)}{o f:Mg}(h:List.Perm o f):eqT (nX b o) (nX b f)=true:=by
 have r:∀{n:Str},n∈f->nQ (nX b f) n=some ((aR b n).getD []):=λ{n} g=>by
  unfold nQ nX;rw[List.find?_map];cases y:f.find? ((λp:Str×Mf=>decide (p.1=n)) ∘ λn=>(n,(aR b n).getD [])) with
  |none=>exact absurd (decide_eq_true rfl) (find?_eq_none.mp y n g)
  |some m=>
   have:=List.find?_some y;have e:m=n:=of_decide_eq_true this;rw[e];rfl
 unfold eqT;rw[and_eq_true,decide_eq_true_eq,all_eq_true];refine⟨by unfold nX;rw[length_map,length_map,h.length_eq],λp q=>?_⟩;unfold nX at q;obtain⟨n,g,rfl⟩:=mem_map.mp q;unfold okT;rw[r (h.mem_iff.mp g)];exact decide_eq_true rfl
def Hh(b:Int):Mj:=[.int (-1),.none,.bool true,.str "0",.int b,.tuple [.int 0]]
def Ie:Mj:=[.str "",.str "A",.str "sevenab",.none,.int 3,.tuple [.str "a"],.str "a1"]
theorem sQ{x:Str}(h:x.length<=1000/\gO x=true):∀y,PyData.str x = .str y->y.length<=1000/\gO y=true:=λy e=>by
 cases e;exact h
theorem Id:∀d∈Ie,cX iA 6 d=false/\∀y,d = .str y->y.length<=1000/\gO y=true:=by
 intro d b;simp only[Ie,mem_cons,List.not_mem_nil,or_false]at b;rcases b with rfl |rfl |rfl |rfl |rfl |rfl |rfl
 ·exact⟨by decide +kernel,sQ (by decide +kernel)⟩
 ·exact⟨by decide +kernel,sQ (by decide +kernel)⟩
 ·exact⟨by decide +kernel,sQ (by decide +kernel)⟩
 ·exact⟨by decide +kernel,λ_ e=>by cases e⟩
 ·exact⟨by decide +kernel,λ_ e=>by cases e⟩
 ·exact⟨by decide +kernel,λ_ e=>by cases e⟩
 ·exact⟨by decide +kernel,sQ (by decide +kernel)⟩
theorem FY{b:Int}:∀d∈Hh b++(List.range b.toNat).map λ(k:Nat)=>PyData.int (0+(k:Int)),kB d=true/\PyData.depth d<=1:=by
 intro d e;simp only[Hh,List.cons_append,List.nil_append,mem_cons,mem_map]at e;rcases e with rfl |rfl |rfl |rfl |rfl |rfl | ⟨_,_,rfl⟩
 ·exact⟨rfl,zero_le _⟩
 ·exact⟨rfl,zero_le _⟩
 ·exact⟨rfl,zero_le _⟩
 ·exact⟨by decide +kernel,zero_le _⟩
 ·exact⟨rfl,zero_le _⟩
 ·exact⟨by decide +kernel,by decide +kernel⟩
 ·exact⟨rfl,zero_le _⟩
theorem ix_ev{f : St}{m:Hp}{r:R2}{o t:TE}{g:TG}{R:TS}{D:Ends}{ds:Mj}(h:PEv f m o (.list ds))(q:∀p n b,aG m b->b p=some (.lst n)->aT b ds n->KO r t f (zF g (D.next (R D)) f) (.ref p) b):(D.next (tU (JE (tOp r o t) g) R D)).nx f m:=h m _ (aG.refl _) λv b s d=>by
 simp only[Den]at d;obtain⟨p,n,rfl,g,e⟩:=d;exact q p n b s g e
theorem MG{J:It}{p H:Hp}{n:Nat}{Y:Nat->V->Hp->Prop}{g:TG}{q:TS}{D:Ends}{b : St}(S:Src J p n Y)(Pv:Nat->St->Hp->Prop)(s:Pv 0 b H)(e:∀i b f,Pv i b f->aG p f)
  (step:∀(m:Ends) i x b r H2,(∀b H,Pv (i+1) b H->m.nx b H)->m.rt=D.rt->i<n->Pv i b r->aG r H2->Y i x H2->g x b H2 λo t=>q m o t) (fin:∀b f,Pv n b f->D.nx b f):GU g q D b J H:=gG S Pv s e step fin
theorem Br{q:Qs}{n c:Nat}(z:Qi q n c)(o:c<=50){k b:Int}{x:Str}(f:bY q.hs k=some (x,b)):0<=k/\k<=999999:=by
 obtain⟨e,g⟩:=x6 z f;have m:=z.eo.ent _ _ g;have p:=z.eo.up0;exact⟨m.1,by omega⟩
theorem hand3{j:Nat}{y:V}(h:[V.str "a",V.str "b",V.str "c"][j]? = some y):∃x:Str,y = .str x/\cX iA 6 (.str x)=true/\x.length<=1000/\gO x=true:=by
 match j,h with
 |0,h=>cases h;exact⟨_,rfl,by decide +kernel,by decide +kernel,by decide +kernel⟩
 |1,h=>cases h;exact⟨_,rfl,by decide +kernel,by decide +kernel,by decide +kernel⟩
 |2,h=>cases h;exact⟨_,rfl,by decide +kernel,by decide +kernel,by decide +kernel⟩
theorem Lc{R:Bool->Hp->Prop}{f : St}{H:Hp}{i:Nat}{x:V}{b:Bool}(e:f[i]? = some (some x))(h:R (b || decide (x = .bl true)) H):CY (KN (Ak (tOp (λx y H Q=>y = .bl true/\Q (.bl (decide (x = .bl true))) H) (lU i) (tC (.bl true)))) f R) (.bl b) H:=by
 refine⟨_,rfl,?_⟩;cases b with
 |true=>exact aU h
 |false=>exact bD ⟨x,e,rfl,_,rfl,h⟩
section
variable{P:Program}{w:World}{K:Ma}{mg:Mc}{base:Heap}{A:Ad}
theorem Lk{f:Addr}{fd:Ml}(F:Fun K "law" "law" rM f fd)(T:‹3›)(af:PySem.W.exmOne K (.ref A.notHeld) (.ref A.notHeld)=some true)(R:PySem.W.exmOne K (.ref A.badHand) (.ref A.badHand)=some true)(bm:‹17› "Disk" A.disk 3 ["self","steps"] (uE A.disk A.badNumber))
  (aq:‹16› A.queue "held" 1 ["self"] (nZ A)) (bn:‹16› A.queue "letters" 3 ["self"] (kZ A)) (ar:‹16› A.queue "done" 8 ["self","hand","number"] (iS A)) (as:‹16› A.queue "give_back" 4 ["self","hand","number"] (iU A)) (bo:‹16› A.queue "take" 8 ["self","hand"] (jX A))
  (au:‹15› "_law_cell" 1 ["_law_script","_law_k"] (sV K)) (bp:‹15› "_law_settings" 2 ["_law_cell_here"] lW) (av:‹15› "_law_files" 5 ["_law_disk"] (uD A.disk))
  (bq:‹15› "_law_done_so" 11 ["_law_script","_law_at","_law_many","_law_disk","_law_settings_here"] (Cc K A)) (br:‹15› "_law_letters" 1 ["_law_state"] lZ) :
  ‹14› 12 f fd ["_law_script"] (uA K):=by
 refine F.okY ["_law_script","_law_settings_here","_law_disk","_law_queue_here","_law_state","_law_files_here","_law_held","_law_numbers","_law_number","_law_hand","_law_way","_law_caught","_law_bad"] λcz A' bs s H vs Q E hr nD0 h=>?_;obtain⟨a,ns,rfl,hs,hQ⟩:=h;refine⟨_,@aA _ _ _ _ _ (@aW _ _ (1) _ _ _ _ nD0 ⋯ ⋯ (@bB _ _ _ _ _ _ _ _ _ _ _ bp ‹18› bA (@cW _ _ _ _ _ _ _ _ (@bB _ _ _ _ _ _ _ _ _ _ _ au ‹18› bA (@aE _ _ _ _ _ _ ‹30› ‹84›) ⋯ ⋯ ⋯ ⋯) (@aF _)) ⋯ ⋯ ⋯ ⋯) ⋯ ⋯) (@aA _ _ _ _ _ (@aW _ _ (2) _ _ _ _ nD0 ⋯ ⋯ (@Kh _ _ _ _ _ _ _ _ _ _ _ _ bm ‹18› bA ‹61› ⋯ ⋯ ⋯ ⋯) ⋯ ⋯) (@aA _ _ _ _ _ (@qS _ _ _ _ _ _ (@bB _ _ _ _ _ _ _ _ _ _ _ bq ‹18› bA (@aE _ _ _ _ _ _ ‹30› (@aI _ _ _ _ _ _ _ ‹36› (@aI _ _ _ _ _ _ _ ‹36› (@aE _ _ _ _ _ _ ‹66› (@aE _ _ _ _ _ _ ‹48› (@aF _)))))) ⋯ ⋯ ⋯ ⋯) (@iF _ K _ _ _ (2) _ (@cJ _ _ _ _ _ (@bH _ _ (3) _ nD0 ⋯ ⋯ ⋯) (@cJ _ _ _ _ _ (@bH _ _ (4) _ nD0 ⋯ ⋯ ⋯) (@iE _) ⋯) ⋯) ⋯ ⋯ ⋯ ⋯) ⋯ ⋯ ⋯) (@aA _ _ _ _ _ (@aW _ _ (5) _ _ _ _ nD0 ⋯ ⋯ (@bB _ _ _ _ _ _ _ _ _ _ _ av ‹18› bA (@aE _ _ _ _ _ _ ‹66› (@aF _)) ⋯ ⋯ ⋯ ⋯) ⋯ ⋯) (@aA _ _ _ _ _ (@aW _ _ (6) _ _ _ _ nD0 ⋯ ⋯ (@eW _ _ _ _ _ _ _ _ _ _ _ _ aq T.aa0 ‹18› bA ‹55› ⋯) ⋯ ⋯) (@aA _ _ _ _ _ (@aW _ _ (7) _ _ _ _ nD0 ⋯ ⋯ (@bC _ _ _ _ _ _ _ _ Cv (@cD _ _ _ _ (@Cs _ _ _ _ _ _ _ (@u5 _ _ _ _ _ _ nW ‹36›) (@aI _ _ _ _ _ _ _ (@jQ _ _ _) (@aI _ _ _ _ _ _ _ (@kI _ _ _ _) (@aI _ _ _ _ _ _ _ ‹34› (@aN _ _ _ _ _ _ _ (@dO _ _ _ _ _ _ (hu1 hr.units) (@pv _ 4 _ _ ⋯ ⋯ ⋯ ⋯) ‹34› (λ_ _=>rfl)) (@bV _ _ _ _ _ _ _ (@bE _ _ _ _ _ ‹84›) (@aF _)))))))) (@BO _ _ _ _ _ _ _ ⋯ ⋯ T.ap7 ⋯ T.af1 (@aN _ _ _ _ _ _ _ (@dO _ _ _ _ _ _ (hu1 hr.units) (@pv _ 4 _ _ ⋯ ⋯ ⋯ ⋯) ‹34› (λ_ _=>rfl)) (@aF _)) ⋯ ⋯)) ⋯ ⋯) (@aA _ _ _ _ _ (@eQ _ _ _ _ _ _ _ _ (i8 dF) ⋯ (@bU _ K _ _ _ (@pv _ 7 _ _ ⋯ ⋯ ⋯ ⋯) ⋯) (@bH _ _ (8) _ nD0 ⋯ ⋯ ⋯) (@aC _ _ _ (@eQ _ _ _ _ _ _ _ _ (i8 dF) ⋯ (@sX _ K _ _ _ (@bE _ _ _ _ _ (@aI _ _ _ _ _ _ _ ‹34› (@aI _ _ _ _ _ _ _ ‹34› ‹98›))) ⋯) (@bH _ _ (9) _ nD0 ⋯ ⋯ ⋯) (@aC _ _ _ (@bG _ _ _ _ _ _ _ _ (@PW.pt _ _ _ (@l9 _ _ _ _ _ _ _ (@aY _ _ _ _ _ _ _ _ (@FD _ hr.units) (@bE _ _ _ _ _ (@aE _ _ _ _ _ _ ‹69› (@aE _ _ _ _ _ _ ‹68› (@aF _)))) ‹67› ⋯) (@iX _ _ _ _ (@aY _ _ _ _ _ _ _ _ Ld ‹69› (@kI _ _ _ _) (bI _))))) (@aC _ _ _ (@eQ _ _ _ _ _ _ _ _ (i8 dF) ⋯ (@kG _ _ _ _ _ _ ⋯ T.af1 ‹84› ⋯) (@bH _ _ (10) _ nD0 ⋯ ⋯ ⋯) (@aA _ _ _ _ _ (@aW _ _ (11) _ _ _ _ nD0 ⋯ ⋯ (@kI _ _ _ _) ⋯ ⋯) (@aA _ _ _ _ _ (@Cq _ _ _ _ _ _ _ zS (@gB _ _ _ (@Cp _ _ _ _ _ _ _ _ ‹89› (@gB _ _ _ (@mD _ _ _ _ (@BF _ _ _ _ _ _ _ _ _ _ _ _ _ _ ar T.aa0 ‹18› ‹55› (@aE _ _ _ _ _ _ ‹68› (@aE _ _ _ _ _ _ ‹69› (@aF _))) ⋯ ⋯ ⋯) ⋯)) (@gB _ _ _ (@mD _ _ _ _ (@BF _ _ _ _ _ _ _ _ _ _ _ _ _ _ as T.aa0 ‹18› ‹55› (@aE _ _ _ _ _ _ ‹68› (@aE _ _ _ _ _ _ ‹69› (@aF _))) ⋯ ⋯ ⋯) ⋯)))) (@PH.cons _ _ _ _ _ _ _ _ _ _ ⋯ T.an8 (by decide) (λex=>(@aC _ _ _ (@aW _ _ (11) _ _ _ _ nD0 ⋯ ⋯ (@kI _ _ _ _) ⋯ ⋯))) (@PH.nil _))) (@aC _ _ _ (@bG _ _ _ _ _ _ _ _ (@cS _ _ _ _ (@dE _ _ _ (@pv _ 11 _ _ ⋯ ⋯ ⋯ ⋯) ⋯)) (@aC _ _ _ (@aP _ _ _ _ (@kI _ _ _ _))) (@aO _))))) ⋯)) (@aO _))) ⋯)) ⋯) (@aA _ _ _ _ _ (@aW _ _ (12) _ _ _ _ nD0 ⋯ ⋯ (@cG _ _ _ _ _ _ _ (cF K) (@cD _ _ _ _ (@aI _ _ _ _ _ _ _ ‹34› (@aI _ _ _ _ _ _ _ ‹34› (@aI _ _ _ _ _ _ _ ‹34› (@aI _ _ _ _ _ _ _ (@jQ _ _ _) (@aI _ _ _ _ _ _ _ ‹36› (@bV _ _ _ _ _ _ _ (@bE _ _ _ _ _ ‹98›) ‹98›))))))) (@bC _ _ _ _ _ _ _ _ dL (@bB _ _ _ _ _ _ _ _ _ _ _ au ‹18› bA (@aE _ _ _ _ _ _ ‹30› ‹84›) ⋯ ⋯ ⋯ ⋯) ‹36›) (λ_ _=>rfl)) ⋯ ⋯) (@aA _ _ _ _ _ (@aW _ _ (11) _ _ _ _ nD0 ⋯ ⋯ ‹36› ⋯ ⋯) (@aA _ _ _ _ _ (@eQ _ _ _ _ _ _ _ _ (i8 dF) ⋯ (@kG _ _ _ _ _ _ ⋯ T.af1 ‹84› ⋯) (@bH _ _ (10) _ nD0 ⋯ ⋯ ⋯) (@aC _ _ _ (@Cq _ _ _ _ _ _ _ zS (@gB _ _ _ (@Cp _ _ _ _ _ _ _ _ ‹89› (@gB _ _ _ (@mD _ _ _ _ (@BF _ _ _ _ _ _ _ _ _ _ _ _ _ _ ar T.aa0 ‹18› ‹55› (@aE _ _ _ _ _ _ ‹75› ‹61›) ⋯ ⋯ ⋯) ⋯)) (@gB _ _ _ (@Cp _ _ _ _ _ _ _ _ ‹89› (@gB _ _ _ (@mD _ _ _ _ (@BF _ _ _ _ _ _ _ _ _ _ _ _ _ _ as T.aa0 ‹18› ‹55› (@aE _ _ _ _ _ _ ‹75› ‹61›) ⋯ ⋯ ⋯) ⋯)) (@gB _ _ _ (@mD _ _ _ _ (@BF _ _ _ _ _ _ _ _ _ _ _ _ _ _ bo T.aa0 ‹18› ‹55› (@aE _ _ _ _ _ _ ‹75› (@aF _)) ⋯ ⋯ ⋯) ⋯)))))) (@PH.cons _ _ _ _ _ _ _ _ _ _ ⋯ T.be3 (by decide) (λex=>(@aC _ _ _ (@zR _ _ (11) _ _ _ _ _ _ nD0 ⋯ ⋯ ‹36› DL ⋯))) (@PH.cons _ _ _ _ _ _ _ _ _ _ ⋯ T.an8 (by decide) (λex=>(@aC _ _ _ (@aW _ _ (11) _ _ _ _ nD0 ⋯ ⋯ (@u5 _ _ _ _ _ _ nW ‹36›) ⋯ ⋯))) (@PH.nil _))))) ⋯) (@aC _ _ _ (@aP _ _ _ _ (@mH _ _ _ _ _ _ _ (@fU _ _ _ _ _ _ _ _ fP (@pv _ 11 _ _ ⋯ ⋯ ⋯ ⋯) ‹36› (bI _)) (@mH _ _ _ _ _ _ _ (@fU _ _ _ _ _ _ _ _ (Lf hr.units) (@bB _ _ _ _ _ _ _ _ _ _ _ av ‹18› bA (@aE _ _ _ _ _ _ ‹66› (@aF _)) ⋯ ⋯ ⋯ ⋯) (@pv _ 5 _ _ ⋯ ⋯ ⋯ ⋯) (bI _)) (@mH _ _ _ _ _ _ _ (@fU _ _ _ _ _ _ _ _ (Cu hr.units) (@eW _ _ _ _ _ _ _ _ _ _ _ _ aq T.aa0 ‹18› bA ‹55› ⋯) ‹67› (bI _)) (@u6 _ _ _ _ _ (@fU _ _ _ _ _ _ _ _ (Cu hr.units) (@eW _ _ _ _ _ _ _ _ _ _ _ _ bn T.aa0 ‹18› bA ‹55› ⋯) (@bB _ _ _ _ _ _ _ _ _ _ _ br ‹18› bA (@aE _ _ _ _ _ _ (@pv _ 4 _ _ ⋯ ⋯ ⋯ ⋯) (@aF _)) ⋯ ⋯ ⋯ ⋯) (bI _))))))))))))))))),?_⟩;refine⟨_,rfl,a,ns,0,rfl,by decide,hs,_,rfl,λm hh tr p H1 m1 m2 h1 h2 t1 t2 S1 g1=>?_⟩;refine λdk dx bt bu ne=>⟨dk,dx,.non,.none,rfl,aB,by simp only[Den],(λz=>by cases z),λ_ df H4 f4 aw ax=>⟨rfl,?_⟩⟩;obtain⟨S4,bv⟩:=new_d bt bu f4 aw;refine⟨_,rfl,_,rfl,_,rfl,H1,a,ns,dk,df,p,m,hh,tr,rfl,S4,bv,S1.seq hs,ax,g1,⟨m1,m2⟩,⟨h1,h2⟩,⟨t1,t2⟩,λL q S M pt H5 b5 W ah eA g5=>?_⟩;obtain⟨I,ay⟩:∃I,I=L.qu:=⟨_,rfl⟩;obtain⟨P0,X⟩:∃P0,P0=S.ps:=⟨_,rfl⟩;rw[<- ay,<- X]at g5;rw[<- ay]at b5;refine⟨pt,_,rfl,SqT.of g5,rfl,_,_,rfl,_,_,rfl,rfl,?_⟩;clear g5;obtain⟨len,az⟩:q.D.fs.length<=100000/\EK q.D.fs:=by
  obtain⟨k,e,ky⟩:=W.sz.keys;have tp:=W.sz.top;have f0:=W.sz.f0;constructor
  ·have:=congrArg List.length ky;simp only[length_map,length_range]at this;omega
  ·intro n hn;rw[ky]at hn;obtain⟨i,hi,rfl⟩:=mem_map.mp hn;have:=mem_range.mp hi;exact⟨kC ⟨by omega,by omega⟩,qO ⟨by omega,by omega⟩ _ rfl⟩
 refine⟨_,rfl,dk,L.df,L.kvs,q.D,rfl,b5.k.disk,len,az,λc0 bw U c1 H6 s6 f6 g6 ai=>?_⟩;have t:=b5.same s6;have bx:M.after=q.B.up:=(congrArg Ab.up eA).symm;have aj:q.hs=M.hs:=congrArg Ab.hs eA;have hl:=ah.hl;have uo:=W.eo.up0;obtain⟨G,Y⟩:=t.k.self;refine⟨_,rfl,I,G,_,rfl,Y,rfl,L,q,(by rw[t.k.qu]),t.k.qw,by rw[aj];omega,λhm pm pw ph H7 s7 f7 d7=>?_⟩;have b7:=t.same s7;refine LI (d:=.list (Hh q.B.up++(List.range q.B.up.toNat).map λ(k:Nat)=>.int (0+(k:Int)))) ?_ λv8 H8 s8 d8=>?_
 ·rw[<- bx];refine MJ (IQ aJ ?_) (MH (by omega) (by omega) (Bw (by rw[X];rfl) b7.h)) ?_
  ·repeat' first |exact Ig |refine Ej ?_ ?_ |refine IN aJ ?_ |exact MI |exact IO |exact IR |exact IP |exact ev_bl |exact Bw (by rw[X];rfl) b7.h
  ·rw[length_map,length_range];exact le_trans (show 6+M.after.toNat<=1000 by omega) (by decide)
 simp only[Den]at d8;obtain⟨p8,xs,rfl,g8,bz⟩:=d8;have b8:=b7.same s8;have d7:=d7.same s8;have g6:=(s7.trans s8) _ _ g6;have ai:=Eu (λb xs e=>(s7.trans s8) b _ e) ai;obtain⟨a0,a1⟩:=Cj (hs:=q.hs) hm λp hp=>Ga (ah.hk p (by rw[<- aj];exact hp)).2.2.1.2;clear f6 s6 s7 s8 t b7 b5 aw f4 ax Y;refine⟨_,rfl,p8,rfl,⟨_,SqL.of g8⟩,?_⟩;refine gG (bO (K:=K) (SqL.of g8)) (λi B D=>∃z8 z9 g r,B = [some (.ref a),some (.ref p),some (.ref dk),some (.ref I),some (.ref P0),some (.ref U),some (.ref ph),some (.ref p8),z8,z9,g,r,none]/\aG H8 D) ⟨_,_,_,_,rfl,aG.refl _⟩ (λi B D ⟨_,_,_,_,_,h⟩=>h) ?_ ?_
 ·rintro D' i x B G1 G2 b0 c2 hi ⟨z8,z9,g,r,rfl,sG⟩ s2 hx;obtain⟨dn,b1,dx⟩:=bz.get hx;have S2:=sG.trans s2;obtain⟨b2,c3⟩:=FY dn (mem_of_getElem? b1);refine⟨aJ,λpt b3=>⟨pt,rfl,⟨_,SqT.of aB⟩,?_⟩⟩;have s3:=S2.trans (aD (o:=.tup [.str "a",.str "b",.str "c"]) b3);have g3:upd G2 pt (.tup [.str "a",.str "b",.str "c"]) pt=some (.tup [.str "a",.str "b",.str "c"]):=aB;generalize upd G2 pt (.tup [.str "a",.str "b",.str "c"])=H3 at s3 g3⊢;refine gG (oO (K:=K) (SqT.of g3)) (λj B D=>∃z9 g r,B = [some (.ref a),some (.ref p),some (.ref dk),some (.ref I),some (.ref P0),some (.ref U),some (.ref ph),some (.ref p8),some x,z9,g,r,none]/\aG H3 D) ⟨_,_,_,rfl,aG.refl _⟩ (λj B D ⟨_,_,_,_,h⟩=>h) ?_ (λB D ⟨z9,g,r,e,J⟩=>b0 _ _ ⟨_,_,_,_,e,s3.trans J⟩);rintro D2 j y B G3 G4 a2 cx hj ⟨z9,g,r,rfl,a3⟩ s4 hy;obtain⟨N,rfl,hw,a4⟩:=hand3 hy;have S4:=s3.trans (a3.trans s4);refine⟨_,rfl,_,rfl,aJ,λpq a5=>?_⟩;have s5:=S4.trans (aD (o:=.tup [x,.str N]) a5);have t5:=(a3.trans s4).trans (aD (o:=.tup [x,.str N]) a5);have g5:upd G4 pq (.tup [x,.str N]) pq=some (.tup [x,.str N]):=aB;generalize upd G4 pq (.tup [x,.str N])=H5 at s5 t5 g5⊢;have Z:=dx.same s5;have b5:=b8.same s5;have dq:Den H5 (.tuple [dn,.str N]) (.ref pq):=by
   simp only[Den,aT];exact⟨pq,_,rfl,g5,x,_,rfl,Z,_,_,rfl,rfl,rfl⟩
  have a6:=Ga a4.2;refine⟨_,rfl,rY q.hs hm,.tuple [dn,.str N],d7.same s5,dq,mZ a0 a1,mZ ?_ ?_,Lc rfl ?_⟩
  ·show (kB dn && (PyData.strOk N && true))=true;rw[b2,a6];rfl
  ·show max (PyData.depth dn) (max 0 0)+1<=64;omega
  generalize hc:(_ || _:Bool)=c;cases c with
  |false=>exact bD (a2 _ _ ⟨_,_,_,rfl,t5⟩)
  |true=>
   have nh:¬rB q (.str N) dn:=λ⟨x',n,tm,e1,e2,_,_,el⟩=>by
    cases e1;subst e2;simp only[Den]at Z;subst Z;rw[if_pos rfl,IH (pm.mem_iff.mpr (mem_map.mpr ⟨_,x8 el,rfl⟩)) el a6]at hc;cases hc
   refine aU ?_;refine⟨2,rfl,by decide,by decide,?_⟩;refine gG (jW (H:=λ_=>none) 0 (2:Int).toNat) (λk B D=>∃g r,B = [some (.ref a),some (.ref p),some (.ref dk),some (.ref I),some (.ref P0),some (.ref U),some (.ref ph),some (.ref p8),some x,some (.str N),g,r,none]/\aG H5 D) ⟨_,_,rfl,aG.refl _⟩ (λk B D hh b u e=>by cases e) ?_ (λB D ⟨g,r,e,J⟩=>a2 _ _ ⟨_,_,_,e,t5.trans J⟩);rintro D3 k u B G5 G6 O ba hk ⟨g,r,rfl,ak⟩ s6 rfl;have V:=ak.trans s6;have t:=b5.same V;obtain⟨G,Y⟩:=t.k.self;have bb:=Z.same V;have ws:∀y,PyData.str N = .str y->y.length<=1000/\gO y=true:=λy e=>by
    cases e;exact a4
   have al:k=0\/k=1:=by
    have:k<2:=hk;omega
   rcases al with rfl |rfl
   ·refine⟨_,rfl,rfl,_,rfl,aU ?_⟩;refine⟨_,rfl,I,G,_,rfl,Y,rfl,_,rfl,_,rfl,L,q,_,_,.str N,dn,(by rw[t.k.qu]),t.k.qw,by simp only[Den],bb,ws,λx' n' tm e1 e2 n0 n9 el=>absurd ⟨x',n',tm,e1,e2,n0,n9,el⟩ nh,λ_ _ D J=>.inl ⟨af,?_⟩,(λy=>by rw[hw]at y;cases y)⟩;exact⟨_,rfl,_,rfl,bD (O _ _ ⟨_,_,rfl,V.trans J⟩)⟩
   ·refine⟨_,rfl,rfl,_,rfl,bD ?_⟩;refine⟨_,rfl,I,G,_,rfl,Y,rfl,_,rfl,_,rfl,L,q,_,_,.str N,dn,(by rw[t.k.qu]),t.k.qw,by simp only[Den],bb,ws,λx' n' tm e1 e2 el=>absurd ⟨x',n',tm,e1,e2,(Br W (by decide) el).1,(Br W (by decide) el).2,el⟩ nh,λ_ _ D J=>.inl ⟨af,?_⟩,(λy=>by rw[hw]at y;cases y)⟩;exact⟨_,rfl,_,rfl,bD (O _ _ ⟨_,_,rfl,V.trans J⟩)⟩
 rintro B H9 ⟨z8,z9,g,r,rfl,s9⟩;have b9:=b8.same s9;refine ix_ev (ds:=Ie) (IQ aJ ?_) λb4 ys ca aa cb ag=>?_
 ·repeat' first |exact Ig |refine Ej ?_ ?_ |refine IN aJ ?_ |exact IO |exact IR |exact IP
 have am:=b9.same aa;have im:=md (i:=ns.getD (Int.toNat 9) 0) (j:=7) (by decide);obtain⟨v,hv⟩:∃v,ys[(ns.getD (Int.toNat 9) 0 % 7).toNat]? = some v:=⟨_,getElem?_eq_getElem (by rw[ag.length];show _<7;omega)⟩;obtain⟨db,cc,dv⟩:=ag.get hv;obtain⟨an,ao⟩:=Id db (mem_of_getElem? cc);refine⟨_,rfl,a,ns,9,rfl,by decide,am.k.same.seq (S1.seq hs),_,_,rfl,rfl,(by show (0:Int)<7;decide),b4,_,_,v,rfl,rfl,SqL.of cb,a8 im.1 hv,?_⟩;refine⟨3,rfl,by decide,by decide,?_⟩;refine MG (jW (H:=λ_=>none) 0 (3:Int).toNat) (λk B D=>∃g,B = [some (.ref a),some (.ref p),some (.ref dk),some (.ref I),some (.ref P0),some (.ref U),some (.ref ph),some (.ref p8),z8,z9,g,some (.int (0+(k:Int))),some v]/\aG ca D) ⟨_,rfl,aG.refl _⟩ (λk B D hh b u e=>by cases e) ?_ ?_
 ·rintro D3 k u B G5 G6 O ba hk ⟨g,rfl,ak⟩ s6 rfl;have V:=ak.trans s6;have t:=am.same V;obtain⟨G,Y⟩:=t.k.self;have ap:=dv.same V;have al:k=0\/k=1\/k=2:=by
   have:k<3:=hk;omega
  rcases al with rfl |rfl |rfl
  ·refine⟨_,rfl,rfl,_,rfl,aU ?_⟩;refine⟨_,rfl,I,G,_,rfl,Y,rfl,_,rfl,L,q,_,_,db,.none,(by rw[t.k.qu]),t.k.qw,ap,by simp only[Den],ao,(λ_ _ _ _ e=>by cases e),(λy=>by rw[an]at y;cases y),λ_ D J=>.inl ⟨R,?_⟩⟩;exact⟨_,rfl,_,_,rfl,rfl,O _ _ ⟨_,rfl,V.trans J⟩⟩
  ·refine⟨_,rfl,rfl,_,rfl,bD ?_⟩;refine⟨_,rfl,rfl,_,rfl,aU ?_⟩;refine⟨_,rfl,I,G,_,rfl,Y,rfl,_,rfl,L,q,_,_,db,.none,(by rw[t.k.qu]),t.k.qw,ap,by simp only[Den],ao,(λ_ _ _ _ e=>by cases e),(λy=>by rw[an]at y;cases y),λ_ D J=>.inl ⟨R,?_⟩⟩;exact⟨_,rfl,_,_,rfl,rfl,O _ _ ⟨_,rfl,V.trans J⟩⟩
  ·refine⟨_,rfl,rfl,_,rfl,bD ?_⟩;refine⟨_,rfl,rfl,_,rfl,bD ?_⟩;refine⟨_,rfl,I,G,_,rfl,Y,rfl,_,rfl,L,q,_,(by rw[t.k.qu]),t.k.qw,.inr ⟨db,ap,ao,an,λD J=>.inl ⟨R,?_⟩⟩⟩;exact⟨_,rfl,_,_,rfl,rfl,O _ _ ⟨_,rfl,V.trans J⟩⟩
 rintro B c4 ⟨cy,rfl,ab⟩;have bc:=am.same ab;have bd:=Eu (λb xs e=>(s9.trans (aa.trans ab)) b _ e) ai;have cd:=(s9.trans (aa.trans ab)) _ _ g6;have ce:=d7.same (s9.trans (aa.trans ab));refine⟨_,rfl,rfl,_,rfl,aU ?_⟩;refine⟨_,rfl,dk,L.df,L.kvs,q.D,rfl,bc.k.disk,len,az,λc5 cf cg c6 c7 ac da ch be=>?_⟩;refine⟨_,rfl,cg,U,_,_,_,_,rfl,rfl,ch,ac _ _ cd,be,Eu (λb xs e=>ac b _ e) bd,?_⟩;rw[Kx (cf.trans bw.symm)];refine⟨_,rfl,aU ?_⟩;have ad:=bc.same ac;obtain⟨bf,ci⟩:=ad.k.self;refine⟨_,rfl,I,bf,_,rfl,ci,rfl,L,q,(by rw[ad.k.qu]),ad.k.qw,by rw[aj];omega,λcj bg ck dc dd bh de cl=>?_⟩;obtain rfl:cj=hm:=eJ (bg.trans pm.symm) ck pw;refine⟨_,rfl,Bx cl (ce.same (ac.trans bh)) a0 a1 ⟨_,rfl,aU ?_⟩⟩;have ae:=ad.same bh;obtain⟨bi,cm⟩:=ae.k.self;have bj:q.B.es.length<800/\(q.B.es.map (·.1)).Pairwise (· <= ·):=⟨by have:=W.eo.cnt;omega,W.eo.so.imp Int.le_of_lt⟩;refine⟨_,rfl,I,bi,_,rfl,cm,rfl,L,q,(by rw[ae.k.qu]),ae.k.qw,bj,λcn co cp p3 dg cq dh cr=>?_⟩;obtain rfl:cn=q.B.es.map (·.1):=eJ co cp bj.2;have ct:=ae.same cq;refine⟨_,rfl,S,M,20,20001,(by rw[X]),ct.h,ah,by omega,λp4 di cu bk=>?_⟩;rw[show M.ls=(fT q).ls from (congrArg Ab.ls eA).symm,<- Jz W]at bk;obtain⟨cv,cw⟩:=Ci q.B.es (q.B.es.map (·.1));exact Bx (cr.same cu) bk cv cw (hQ _)
end
structure DefIn(K:Ma)(x:Str)(st:Stmt):Prop where
 ex:∃(f:Addr) (oc:Value) (od:Option Addr) (kV doc pm:Value) (an:Option Addr) (cdv ct:Value) (osl:Me),nsIn K mainGlobals x=some (some (.ref f))/\
  K.lookup f=some ⟨oc,od,.func (fnOf x x (gL st) (fO st) (cZ st) .none kV doc pm an cdv ct),osl⟩/\codeIn K cdv x=true/\keepIn K (.ref f)=true
theorem a7{K:Ma}{x:Str}{st:Stmt}{f:Addr}{m:Value}{n o:Option Addr}{e:Me}{kV g p b q:Value}(a:nsIn K mainGlobals x=some (some (.ref f)))
  (l:K.lookup f=some ⟨m,n,.func (fnOf x x (gL st) (fO st) (cZ st) .none kV g p o b q),e⟩) (c:codeIn K b x=true) (k:keepIn K (.ref f)=true):DefIn K x st:=⟨⟨f,m,n,kV,g,p,o,b,q,e,a,l,c,k⟩⟩
theorem DefIn.get{K:Ma}{h:Heap}{mg:Mc}{x:Str}{st:Stmt}(X:K.In h)(G:h.Ns mainGlobals mg)(D:DefIn K x st):∃f b,Fun K x x st f b/\mg x=some (.ref f)/\keepIn K (.ref f)=true:=by
 obtain⟨f,n,o,kV,e,p,q,g,r,m,a,l,c,k⟩:=D.ex;exact⟨f,_,DO l c k,mg_of X G a,k⟩
def sR:Mg->Mh->Bool
 |[],[]=>true
 |k::b,.str x _::e=>decide (x=k) && sR b e
 |_,_=>false
theorem oK:∀{b:Mg}{e:Mh},sR b e=true->cE (b.map V.str) e
 |[],[],_=>.nil
 |k::b,.str x t::e,h=>by
  simp only[sR,and_eq_true,decide_eq_true_eq]at h;obtain⟨f,g⟩:=h;subst f;exact .cons ⟨t,rfl⟩ (oK g)
def AH(K:Ma)(a:Addr):Bool:=match K.lookup a with
 |some ⟨.type t,none,.seq b n,_⟩=>decide (t = "tuple") && (decide (b.size<=100) && sR dM b.toList)
 |_=>false
theorem DH{K:Ma}{a:Addr}(h:AH K a=true):(∀H,SqT K H a (dM.map V.str))/\∃o,K.lookup a=some o/\o.cls = .type "tuple"/\o.dict=none:=by
 unfold AH at h;split at h
 ·next t b n p e=>
  simp only[and_eq_true,decide_eq_true_eq]at h;obtain⟨f,g,m⟩:=h;subst f;exact⟨λH=>.inr ⟨_,b,n,e,rfl,rfl,aJ g,oK m⟩,_,e,rfl,rfl⟩
 ·cases h
structure MethIn(K:Ma)(C:Addr)(x qual:Str)(st:Stmt):Prop where
 ex:∃(f:Addr) (oc:Value) (od:Option Addr) (kV doc pm:Value) (an:Option Addr) (cdv ct:Value) (osl:Me),findIn K (.ref C) x=some (some (.ref f))/\PySem.W.isFn K (.ref f)=true/\
  K.lookup f=some ⟨oc,od,.func (fnOf x qual (gL st) (fO st) (cZ st) .none kV doc pm an cdv ct),osl⟩/\codeIn K cdv qual=true/\keepIn K (.ref f)=true
theorem a9{K:Ma}{C:Addr}{x b:Str}{st:Stmt}{f:Addr}{n:Value}{o p:Option Addr}{g:Me}{kV m q e r:Value}(a:findIn K (.ref C) x=some (some (.ref f)))(i:PySem.W.isFn K (.ref f)=true)
  (l:K.lookup f=some ⟨n,o,.func (fnOf x b (gL st) (fO st) (cZ st) .none kV m q p e r),g⟩) (c:codeIn K e b=true) (k:keepIn K (.ref f)=true):MethIn K C x b st:=⟨⟨f,n,o,kV,m,q,p,e,r,g,a,i,l,c,k⟩⟩
theorem MethIn.get{K:Ma}{C:Addr}{x b:Str}{st:Stmt}(D:MethIn K C x b st):∃f e,Fun K x b st f e/\findIn K (.ref C) x=some (some (.ref f))/\PySem.W.isFn K (.ref f)=true/\keepIn K (.ref f)=true:=by
 obtain⟨f,o,p,kV,g,q,r,m,s,n,a,i,l,c,k⟩:=D.ex;exact⟨f,_,DO l c k,a,i,k⟩
theorem ucs{P:Mh->Prop}{n:Nat}(h:∀a b,b.length=n->P (a::b)):∀b,b.length=n+1->P b:=λb e=>by
 cases b with
 |nil=>cases e
 |cons a r=>exact h a r (Nat.succ.inj e)
theorem us0{P:Mh->Prop}(h:P []):∀b,b.length=0->P b:=λb e=>by
 cases b with
 |nil=>exact h
 |cons a r=>cases e
def Iu(x b:Str)(st:Stmt)(m:Mg):Prop:=∀(kV e n:Value)(o:Option Addr)(f p:Value)(g:Mh),g.length=m.length->bindArgs (fnOf x b (gL st) (fO st) (cZ st) .none kV e n o f p) ⟨g,[]⟩=pure (m.zip g)
local macro_rules | `(tactic| trivial) => `(tactic| (intro _ _ _ _ _ _; (repeat refine ucs λ_ => ?_); exact us0 rfl))
structure Ev(P:Program)(w:World)(K:Ma)(mg:Mc)(base h:Heap):Prop where
 X:K.In h
 G:h.Ns mainGlobals mg
section
variable{P:Program}{w:World}{K:Ma}{mg:Mc}{base h:Heap}{x qual:Str}{st:Stmt}{C:Addr}{k:Nat}{ps:Mg}{sp:Sp}
theorem Ev.c(V:Ev P w K mg base h)(D:DefIn K x st)(ok:∀{f e},Fun K x x st f e->‹14› k f e ps sp)(b:Iu x x st ps:=by trivial):‹15› x k ps sp:=by
 obtain⟨f,e,F,m,kp⟩:=D.get V.X V.G;exact⟨f,e,ok F,m,kp,F.binds b⟩
theorem Ev.m(V:Ev P w K mg base h)(D:MethIn K C x qual st)(ok:∀{f e},Fun K x qual st f e->‹14› k f e ps sp)(b:Iu x qual st ps:=by trivial):‹16› C x k ps sp:=by
 obtain⟨f,e,F,a,i,kp⟩:=D.get;exact⟨f,e,ok F,⟨a,i,kp⟩,F.binds b⟩
theorem Ev.mk2{y:Str}(V:Ev P w K mg base h)(D:MethIn K C "__init__" qual st)(mk:PySem.W.makesIn K C=true)(g:keepIn K (.ref C)=true)(n:nsIn K mainGlobals y=some (some (.ref C)))(ok:∀{f e},Fun K "__init__" qual st f e->‹14› k f e ps sp)(b:Iu "__init__" qual st ps:=by trivial):‹17› y C k ps sp:=by
 obtain⟨f,e,F,a,i,kp⟩:=D.get;exact⟨f,e,ok F,⟨mk,a,i,g⟩,mg_of V.X V.G n,F.binds b⟩
end
theorem Lu{l:PySem.W.OpenLaw}{w:World}{K:Ma}{h:Heap}{mg:Mc}{fa fL aa8 aa2 aa4 ac0 aa5 aa6 aa1 ak4 aj7 af5 aa9 af6 ae1 ab4 aa7 ab0 aa3:Addr}(X:K.In h)(G:h.Ns mainGlobals mg)(hfa:mg "law" = some (.ref fa))
  {odL anL:Option Addr} {slL:Me} {ocL kVL dcL pmL cdL ctL:Value} {t0 t1 t2 t3 t4 t5 t6 t7 t8 t9 t10 t11 t12 t13 t14 t15:Tok}
  (ay0:DefIn K "is_number" rN)
  (as0:DefIn K "check_steps" nO)
  (be4:DefIn K "is_word" xO)
  (au1:DefIn K "check_hand" o7)
  (aq0:DefIn K "segment_name" l7)
  (bb1:DefIn K "is_bytes" uU)
  (ay1:DefIn K "fits_kind" rO)
  (bh4:DefIn K "is_row" A7)
  (ay2:DefIn K "checks_of" rQ)
  (ay3:DefIn K "row_bytes" rJ)
  (au2:DefIn K "segment_of" oZ)
  (as1:DefIn K "segments_on" nN)
  (be5:DefIn K "row_end" xF)
  (bb2:DefIn K "row_from" uQ)
  (be6:DefIn K "rows_in" xE)
  (ai1:DefIn K "without_last_parts" xB)
  (au3:DefIn K "check_name" o6)
  (ay4:DefIn K "make_good" rL)
  (ay5:DefIn K "_law_cell" Gw)
  (ay6:DefIn K "_law_seed" Go)
  (ao1:DefIn K "_law_settings" uP)
  (au4:DefIn K "_law_files" Dx)
  (au5:DefIn K "check_deed" o9)
  (au6:DefIn K "check_body" pA)
  (aq1:DefIn K "check_bodies" l8)
  (be7:DefIn K "told_by" xC)
  (d_do:DefIn K "do" s_do)
  (bb3:DefIn K "_law_mix" KW)
  (am9:DefIn K "check_settings" kD)
  (be8:DefIn K "rows_of" xD)
  (be9:DefIn K "book_of" xP)
  (au7:DefIn K "_law_queue" A1)
  (au8:DefIn K "_law_begin" A6)
  (ay7:DefIn K "_law_pick" Gq)
  (au9:DefIn K "_law_ready" A0)
  (av0:DefIn K "_law_bytes" D4)
  (ay8:DefIn K "_law_deed" Dw)
  (ay9:DefIn K "_law_size" Dv)
  (av1:DefIn K "_law_write" Az)
  (bb4:DefIn K "_law_put" Gs)
  (av2:DefIn K "_law_given" A3)
  (ak7:DefIn K "_law_front_goes" A4)
  (av3:DefIn K "_law_other" A2)
  (az0:DefIn K "_law_told" Du)
  (aq2:DefIn K "_law_done_so" KY)
  (aq3:DefIn K "_law_letters" uT)
  (bj9:nsIn K mainGlobals "Disk" = some (some (.ref aa7))) (bd4:plainGet K aa7 Str.empty=true) (bd5:hasDictIn K aa7=true) (bd6:PySem.W.plainOver K aa7=true) (bd7:findIn K (.ref aa7) "__setattr__" = some (some (.builtin "object.__setattr__"))) (bi5:PySem.W.makesIn K aa7=true) (bi6:keepIn K (.ref aa7)=true)
  (av4:findIn K (.ref aa7) "files" = some none)
  (ak8:findIn K (.ref aa7) "steps_done" = some none)
  (ak1:findIn K (.ref aa7) "steps_ahead" = some none)
  (ao2:MethIn K aa7 "__init__" "Disk.__init__" Dz)
  (av5:MethIn K aa7 "names" "Disk.names" Dt)
  (ak9:MethIn K aa7 "check_file" "Disk.check_file" o8)
  (az1:MethIn K aa7 "read" "Disk.read" Gp)
  (az2:MethIn K aa7 "size" "Disk.size" Gn)
  (al0:MethIn K aa7 "count_step" "Disk.count_step" o5)
  (az3:MethIn K aa7 "make" "Disk.make" Gr)
  (az4:MethIn K aa7 "drop" "Disk.drop" Gv)
  (bb5:MethIn K aa7 "cut" "Disk.cut" KZ)
  (bb6:MethIn K aa7 "add" "Disk.add" Ka)
  (bi7:nsIn K mainGlobals "Queue" = some (some (.ref ab0))) (bh5:plainGet K ab0 Str.empty=true) (bh6:hasDictIn K ab0=true) (bh7:PySem.W.plainOver K ab0=true) (bh8:findIn K (.ref ab0) "__setattr__" = some (some (.builtin "object.__setattr__"))) (bh9:PySem.W.makesIn K ab0=true) (bi0:keepIn K (.ref ab0)=true)
  (av6:findIn K (.ref ab0) "disk" = some none)
  (av7:findIn K (.ref ab0) "most" = some none)
  (av8:findIn K (.ref ab0) "hold" = some none)
  (as2:findIn K (.ref ab0) "tries" = some none)
  (av9:findIn K (.ref ab0) "book" = some none)
  (as3:findIn K (.ref ab0) "first" = some none)
  (aw0:findIn K (.ref ab0) "last" = some none)
  (ao3:findIn K (.ref ab0) "writing" = some none)
  (ao4:findIn K (.ref ab0) "holders" = some none)
  (az5:findIn K (.ref ab0) "now" = some none)
  (aw1:MethIn K ab0 "held" "Queue.held" At)
  (ao5:MethIn K ab0 "letters" "Queue.letters" rK)
  (ak2:MethIn K ab0 "check_held" "Queue.check_held" xK)
  (ai2:MethIn K ab0 "is_last_full" "Queue.is_last_full" Au)
  (ah2:MethIn K ab0 "begin_segment" "Queue.begin_segment" xM)
  (as4:MethIn K ab0 "write" "Queue.write" xG)
  (aw2:MethIn K ab0 "done" "Queue.done" Aw)
  (al1:MethIn K ab0 "give_back" "Queue.give_back" Ay)
  (ai3:MethIn K ab0 "free_letters" "Queue.free_letters" Av)
  (as5:MethIn K ab0 "ready" "Queue.ready" xI)
  (aw3:MethIn K ab0 "take" "Queue.take" Ar)
  (az6:MethIn K ab0 "put" "Queue.put" Ds)
  (ao6:MethIn K ab0 "put_all" "Queue.put_all" uS)
  (aw4:MethIn K ab0 "wait" "Queue.wait" Aq)
  (aw5:MethIn K ab0 "dead" "Queue.dead" Ax)
  (aq4:MethIn K ab0 "revive" "Queue.revive" uR)
  (ak3:MethIn K ab0 "drop_first" "Queue.drop_first" xJ)
  (as7:MethIn K ab0 "sweep" "Queue.sweep" xH)
  (as8:MethIn K ab0 "carry" "Queue.carry" xL)
  (an0:MethIn K ab0 "__init__" "Queue.__init__" As)
  (bk0:nsIn K mainGlobals "Book" = some (some (.ref aa3))) (bd8:plainGet K aa3 Str.empty=true) (bd9:hasDictIn K aa3=true) (be0:PySem.W.plainOver K aa3=true) (be1:findIn K (.ref aa3) "__setattr__" = some (some (.builtin "object.__setattr__"))) (bi8:PySem.W.makesIn K aa3=true) (bi9:keepIn K (.ref aa3)=true)
  (aq5:findIn K (.ref aa3) "entries" = some none)
  (ai4:findIn K (.ref aa3) "upcoming" = some none)
  (aw6:findIn K (.ref aa3) "parts" = some none)
  (as9:MethIn K aa3 "letter" "Book.letter" A5)
  (aq6:MethIn K aa3 "letters" "Book.letters" xN)
  (an1:MethIn K aa3 "enter_put" "Book.enter_put" rP)
  (al2:MethIn K aa3 "enter_deal" "Book.enter_deal" o0)
  (ai5:MethIn K aa3 "change_entry" "Book.change_entry" A8)
  (aw7:MethIn K aa3 "enter" "Book.enter" Dy)
  (al3:MethIn K aa3 "numbers_in" "Book.numbers_in" rR)
  (ao7:MethIn K aa3 "__init__" "Book.__init__" Gu)
  (aL:nsIn K mainGlobals "law" = some (some (.ref fL))) (lL:K.lookup fL=some ⟨ocL,odL,.func (fnOf "law" "law" (gL rM) (fO rM) (cZ rM) .none kVL dcL pmL anL cdL ctL),slL⟩) (cL:codeIn K cdL "law" = true) (kL:keepIn K (.ref fL)=true)
  (ax8:nsIn K mainGlobals "len" = some none)
  (ae7:nsIn K mainGlobals "isinstance" = some none)
  (bg2:nsIn K mainGlobals "all" = some none)
  (bb7:nsIn K mainGlobals "sum" = some none)
  (am0:nsIn K mainGlobals "tuple" = some none)
  (bb8:nsIn K mainGlobals "int" = some none)
  (bb9:nsIn K mainGlobals "bool" = some none)
  (bc0:nsIn K mainGlobals "str" = some none)
  (aq7:nsIn K mainGlobals "range" = some none)
  (ag4:nsIn K mainGlobals "enumerate" = some none)
  (aw8:nsIn K mainGlobals "list" = some none)
  (bk3:nsIn K mainGlobals "max" = some none)
  (bk4:nsIn K mainGlobals "min" = some none)
  (ar7:nsIn K mainGlobals "sorted" = some none)
  (ag1:nsIn K mainGlobals "HIGHEST_BYTE" = some (some (.int 255 t0)))
  (ae9:nsIn K mainGlobals "HIGHEST_NUMBER" = some (some (.int 999999 t1)))
  (aj6:nsIn K mainGlobals "LONGEST_BODY" = some (some (.int 60 t2)))
  (af4:nsIn K mainGlobals "HIGHEST_TIMES" = some (some (.int 9 t3)))
  (ag2:nsIn K mainGlobals "LARGEST_DEAL" = some (some (.int 9 t4)))
  (at1:nsIn K mainGlobals "CHECKS_SIZE" = some (some (.int 2 t5)))
  (az7:nsIn K mainGlobals "HEAD_SIZE" = some (some (.int 7 t6)))
  (aq8:nsIn K mainGlobals "LARGEST_MOST" = some (some (.int 2000 t7)))
  (aq9:nsIn K mainGlobals "LONGEST_HOLD" = some (some (.int 99 t8)))
  (ao8:nsIn K mainGlobals "HIGHEST_TRIES" = some (some (.int 9 t9)))
  (ar0:nsIn K mainGlobals "LONGEST_HAND" = some (some (.int 6 t10)))
  (ar1:nsIn K mainGlobals "LONGEST_NAME" = some (some (.int 8 t11)))
  (aw9:nsIn K mainGlobals "MOST_STEPS" = some (some (.int 100000 t12)))
  (ar2:nsIn K mainGlobals "LONGEST_WAIT" = some (some (.int 99 t13)))
  (ax0:nsIn K mainGlobals "NAME_SIGNS" = some (some (.str cN t14)))
  (ax1:nsIn K mainGlobals "HAND_SIGNS" = some (some (.str "abcdefghijklmnopqrstuvwxyz" t15)))
  (aK:nsIn K mainGlobals "KINDS" = some (some (.ref aa8))) (qK:AH K aa8=true)
  (bf0:nsIn K mainGlobals "BadName" = some (some (.ref aa2))) (an4:dH K aa2=true)
  (bf1:nsIn K mainGlobals "Missing" = some (some (.ref aa4))) (an5:dH K aa4=true)
  (bj0:nsIn K mainGlobals "There" = some (some (.ref ac0))) (ax6:dH K ac0=true)
  (ax2:nsIn K mainGlobals "Stopped" = some (some (.ref aa5))) (an6:dH K aa5=true)
  (ar8:nsIn K mainGlobals "Broken" = some (some (.ref aa6))) (af8:dH K aa6=true)
  (ar9:nsIn K mainGlobals "BadRow" = some (some (.ref aa1))) (ag7:dH K aa1=true)
  (at4:nsIn K mainGlobals "BadSettings" = some (some (.ref ak4))) (ag5:dH K ak4=true)
  (bf2:nsIn K mainGlobals "BadBody" = some (some (.ref aj7))) (aj8:dH K aj7=true)
  (bf3:nsIn K mainGlobals "BadHand" = some (some (.ref af5))) (an7:dH K af5=true)
  (ap5:nsIn K mainGlobals "BadNumber" = some (some (.ref aa9))) (af0:dH K aa9=true)
  (bf4:nsIn K mainGlobals "NotHeld" = some (some (.ref af6))) (aj9:dH K af6=true)
  (bf5:nsIn K mainGlobals "BadDeed" = some (some (.ref ae1))) (an2:dH K ae1=true)
  (ax3:nsIn K mainGlobals "QueueError" = some (some (.ref ab4))) (bi1:dH K ab4=true)
  (hex0:PySem.W.exmOne K (.ref af6) (.ref aa5)=some false)
  (hex1:PySem.W.exmOne K (.ref af6) (.ref ab4)=some true)
  (hex2:PySem.W.exmOne K (.ref aa9) (.ref aa5)=some false)
  (hex3:PySem.W.exmOne K (.ref aa9) (.ref ab4)=some true)
  (hex4:PySem.W.exmOne K (.ref aj7) (.ref aa5)=some false)
  (hex5:PySem.W.exmOne K (.ref aj7) (.ref ab4)=some true)
  (hex6:PySem.W.exmOne K (.ref af5) (.ref aa5)=some false)
  (hex7:PySem.W.exmOne K (.ref af5) (.ref ab4)=some true)
  (hex8:PySem.W.exmOne K (.ref af6) (.ref af6)=some true)
  (hex9:PySem.W.exmOne K (.ref af5) (.ref af5)=some true)
  {a_S:Addr} {esS:Array DictEntry} {epS:Nat}
  (aS:nsIn K mainGlobals "SIZES_OF_DEEDS" = some (some (.ref a_S)))
  (lS:K.lookup a_S=some ⟨.type "dict",none,.dict esS epS,#[]⟩)
  (sS:(a_S == sysModules)=false)
  (hS:esS.toList.map (·.hash)=zN.map λp=>PyData.keyHash w.params p.1)
  (eS:pV zN esS.toList=true)
  : ∃fd:Ml,(∀(s:Shared)(v:Value),BindsTo s fd ⟨[v],[]⟩ [("_law_script",v)])/\∀base:Heap,K.In base->base.Ns mainGlobals mg->FnOk l.prog w K mg base (CXE l.prog w) 12 fa fd ["_law_script"] (uA K):=by
 have e:=hfa.symm.trans (mg_of X G aL);cases e;obtain⟨kk1,kk2⟩:=DH qK;have TK:TxtK K mg aa8 aa1 aa6 aa3:=⟨⟨mg_none_of X G ax8,mg_none_of X G ae7,mg_none_of X G bg2,mg_none_of X G bb7,mg_none_of X G am0,mg_none_of X G bb8,mg_none_of X G bb9,mg_none_of X G bc0,mg_none_of X G aq7,mg_none_of X G ag4,⟨_,mg_of X G ag1⟩,⟨_,mg_of X G ae9⟩,⟨_,mg_of X G aj6⟩,⟨_,mg_of X G af4⟩,⟨_,mg_of X G ag2⟩,mg_of X G aK,kk1,kk2,ag7,mg_of X G ar9⟩,mg_none_of X G aw8,mg_none_of X G bk3,mg_none_of X G ar7,af8,mg_of X G ar8,⟨bd8,bd9,be0,be1⟩,aq5,ai4,aw6⟩;have TB:TxtB K mg aa8 aa1 aa6:=⟨⟨mg_none_of X G ax8,mg_none_of X G ae7,mg_none_of X G bg2,mg_none_of X G bb7,mg_none_of X G am0,mg_none_of X G bb8,mg_none_of X G bb9,mg_none_of X G bc0,mg_none_of X G aq7,mg_none_of X G ag4,⟨_,mg_of X G ag1⟩,⟨_,mg_of X G ae9⟩,⟨_,mg_of X G aj6⟩,⟨_,mg_of X G af4⟩,⟨_,mg_of X G ag2⟩,mg_of X G aK,kk1,kk2,ag7,mg_of X G ar9⟩,mg_none_of X G aw8,⟨_,mg_of X G at1⟩,⟨_,mg_of X G az7⟩,af8,mg_of X G ar8⟩;have TD:TxtD K mg aa2 aa4 ac0 aa5 aa1 aa9 aa7:=⟨⟨mg_none_of X G ax8,mg_none_of X G ae7,mg_none_of X G bg2,mg_none_of X G bb7,mg_none_of X G am0,mg_none_of X G bb8,mg_none_of X G bb9,mg_none_of X G bc0,mg_none_of X G aq7,mg_none_of X G ag4,mg_none_of X G aw8,mg_none_of X G ar7,⟨_,mg_of X G ag1⟩⟩,⟨_,mg_of X G ax0⟩,⟨_,mg_of X G ar1⟩,⟨_,mg_of X G aw9⟩,an4,mg_of X G bf0,an5,mg_of X G bf1,ax6,mg_of X G bj0,an6,mg_of X G ax2,ag7,mg_of X G ar9,af0,mg_of X G ap5,⟨bd4,bd5,bd6,bd7⟩,av4,ak8,ak1⟩;have TQ:TxtQ K mg ‹19›:=⟨mg_none_of X G ax8,mg_none_of X G bb8,mg_none_of X G ar7,mg_none_of X G bb7,af8,mg_of X G ar8,⟨bd8,bd9,be0,be1⟩,⟨bd4,bd5,bd6,bd7⟩,⟨bh5,bh6,bh7,bh8⟩,mg_none_of X G bk4,⟨_,mg_of X G aq8⟩,⟨_,mg_of X G aq9⟩,⟨_,mg_of X G ao8⟩,⟨_,mg_of X G ax1⟩,⟨_,mg_of X G ar0⟩,⟨_,mg_of X G ae9⟩,⟨_,mg_of X G af4⟩,ag5,mg_of X G at4,aj8,mg_of X G bf2,an7,mg_of X G bf3,aj9,mg_of X G bf4,ai4,av6,av7,av8,as2,av9,as3,aw0,ao3,ao4,az5,mg_none_of X G ae7,mg_none_of X G am0,mg_none_of X G ag4,mg_none_of X G aq7,mg_none_of X G aw8,⟨_,mg_of X G ag2⟩,af0,mg_of X G ap5⟩;have TS:TxtS l.prog w K mg ‹19› a_S ae1 ab4:=⟨mg_none_of X G ax8,mg_none_of X G ae7,mg_none_of X G am0,mg_none_of X G bc0,an2,mg_of X G bf5,mg_of X G ax2,List.forall_mem_cons.mpr ⟨⟨hex0,hex1⟩,List.forall_mem_cons.mpr ⟨⟨hex2,hex3⟩,List.forall_mem_cons.mpr ⟨⟨hex4,hex5⟩,List.forall_mem_cons.mpr ⟨⟨hex6,hex7⟩,λ_ h=>nomatch h⟩⟩⟩⟩,mg_of X G ax3,mg_of X G aS,gd_of (ps:=zN) sS lS hS eS (by decide)⟩;refine⟨fnOf "law" "law" (gL rM) (fO rM) (cZ rM) .none kVL dcL pmL anL cdL ctL,λs v=>.of_eq rfl,λbase _ _=>?_⟩;have V:Ev l.prog w K mg base h:=⟨X,G⟩;have ab2:=V.c ay0 λF=>z6 F TK.toTxtR;have ak5:=V.c as0 λF=>vC F TD ab2;have bh3:=V.mk2 ao2 bi5 bi6 bj9 λF=>He F TD ak5;have ax7:=V.m aw1 λF=>C2 F TQ;have ad0:=V.m as9 λF=>FT F TK;have ag0:=V.m aq6 λF=>C8 F TK ad0;have ar6:=V.m ao5 λF=>zZ F TQ ag0;have ah1:=V.c be4 λF=>C9 F TD.toTxtN;have ae6:=V.c au1 λF=>wI F TQ ah1;have ad9:=V.m ak2 λF=>BZ F TQ ab2 ae6;have ab3:=V.c aq0 λF=>sI F;have ac9:=V.c bb1 λF=>Bb F TK.toTxtR ab2;have ao9:=V.c ay1 λF=>AA F TK.toTxtR;have ai8:=V.c bh4 λF=>FV F TK.toTxtR ab2 ac9 ao9;have ap0:=V.c ay2 λF=>AC F TK.toTxtR;have ac1:=V.c ay3 λF=>zY F TK.toTxtR ai8 ap0;have am3:=V.c au2 λF=>vB F;have aj2:=V.m av5 λF=>FM F TD;have ad8:=V.c as1 λF=>sF F TQ am3 aj2;have ao0:=V.c be5 λF=>BW F TB;have ar3:=V.c bb2 λF=>zX F;have at7:=V.c be6 λF=>BV F TB ac9 ao0 ar3;have ae8:=V.c ai1 λF=>BS F TQ;have ae3:=V.c au3 λF=>wH F TD ah1;have ag6:=V.m ak9 λF=>wJ F TD ae3;have al8:=V.m az1 λF=>Jk F TD ag6;have al5:=V.m az2 λF=>Ji F TD ag6;have ak6:=V.m al0 λF=>wG F TD;have al6:=V.m az3 λF=>Jm F TD ae3 ak6;have al7:=V.m az4 λF=>Jp F TD ag6 ak6;have bh0:=V.m bb5 λF=>Jq F;have ah6:=V.m bb6 λF=>Ll F TD ac9 ag6 ak6;have af2:=V.c ay4 λF=>HZ F TQ ab3 ad8 at7 ae8 ac1 al8 al5 al6 al7 bh0 ah6;have ax4:=V.m an1 λF=>AB F TK;have bg0:=V.m al2 λF=>wF F TK ax4;have bc1:=V.m ai5 λF=>FW F TK;have aj0:=V.m aw7 λF=>Hd F TK ax4 bg0 bc1;have ah7:=V.m ai2 λF=>FJ F TQ ab3 al5;have ag9:=V.m ah2 λF=>C6 F TQ ab3 ac1 al6 ah6;have ab7:=V.m as4 λF=>Cy F TQ ab3 ac1 af2 ah6 aj0 ah7 ag9;have aj3:=V.m aw2 λF=>C4 F TQ ad9 ab7;have ad4:=V.m al1 λF=>C7 F TQ ad9;have ac7:=V.m ai3 λF=>FK F TQ ag0;have ba0:=V.m as5 λF=>C0 F TQ ac7;have al9:=V.m aw3 λF=>FI F TQ ae6 ad0 ba0 ab7;have ad1:=V.c ay5 λF=>Jr F TQ;have ab6:=V.c ay6 λF=>Jj F;have ah9:=V.c ao1 λF=>BT F TQ ab6;have ai0:=V.c au4 λF=>Ha F TQ aj2 al8;have am4:=V.c au5 λF=>wK F TS;have ae5:=V.c au6 λF=>wL F TQ ai8;have bh2:=V.m az6 λF=>HV F TQ ae5 ab7;have aj1:=V.c aq1 λF=>sJ F TQ ae5;have ar4:=V.m ao6 λF=>BY F TQ aj1 ab7;have bd0:=V.m aw4 λF=>FG F TQ ab2 ad0 (hw:=⟨_,mg_of X G ar2⟩);have bc9:=V.m aw5 λF=>FL F TQ ac7;have at9:=V.m aq4 λF=>BX F TQ ab2 bc9 ab7;have ad6:=V.m al3 λF=>AD F TK;have ad7:=V.m ak3 λF=>C3 F TQ ab3 al7;have ba1:=V.m as7 λF=>Cz F TQ ad6 ad7;have ba2:=V.m as8 λF=>C5 F TQ ad6 ad0 ad7 ab7;have au0:=V.c be7 λF=>Cw F TQ bh2 ar4 al9 aj3 ad4 bd0 at9 ba1 ba2;have c_do:=V.c d_do λF=>ok_do F TQ TS am4 au0;have ar5:=V.c bb3 λF=>Lg F;have ah0:=V.c am9 λF=>pG F TQ ab2;have at6:=V.c be8 λF=>BU F;have bg9:=V.mk2 ao7 bi8 bi9 bk0 λF=>Jo F TK;have at8:=V.c be9 λF=>Hg F TQ ad8 at6 bg9 aj0;have bd3:=V.mk2 an0 bh9 bi0 bi7 λF=>C1 F TQ ah0 at8 af2;have am7:=V.c au7 λF=>FP (A:=‹19›) F bd3;have am8:=V.c au8 λF=>FU F;have af3:=V.c ay7 λF=>Jl F;have ac3:=V.c au9 λF=>FO F TQ;have ah8:=V.c av0 λF=>Hf F TQ ab6 af3;have ap3:=V.c ay8 λF=>HY F TQ af3 ac3 ah8 ab6;have ap2:=V.c ay9 λF=>HX F TQ;have ab5:=V.c av1 λF=>FN F TQ ap2;have al4:=V.c bb4 λF=>Jn F TQ ab5;have am5:=V.c av2 λF=>FR F TQ ab5;have ae2:=V.c ak7 λF=>FS F;have am6:=V.c av3 λF=>FQ F TQ ab5 ac3 ae2;have ap4:=V.c az0 λF=>HW F TQ al4 ab5 ac3 am5 am6;have aj4:=V.c aq2 λF=>Lh F TQ c_do ad1 ar5 ab6 am7 am8 ap3 ap4;have aj5:=V.c aq3 λF=>Ba F TQ;exact Lk (DO (st:=rM) lL cL kL) TQ hex8 hex9 bh3 ax7 ar6 aj3 ad4 al9 ad1 ah9 ai0 aj4 aj5
theorem walk{l:PySem.W.OpenLaw}{q:Program}{b:Mg}{XP:(Mc)->Heap->Prop}{g:World->Heap->Prop}{d:DefRec}{K:Params->Ma}(p:l.most=some 63)(e:d.params.defaults=[])
  (r:∀(w:World)(h:Heap),g w h->(K w.params).In h)
  (F:∀(w:World)(mg:Mc)(m:Addr)(h:Heap),(K w.params).In h->h.Ns mainGlobals mg->mg d.name=some (.ref m)->
   ∃o:Ml,(∀(s:Shared)(u:Value),BindsTo s o ⟨[u],[]⟩ [("_law_script",u)])/\∀base:Heap,(K w.params).In base->base.Ns mainGlobals mg->FnOk l.prog w (K w.params) mg base (CXE l.prog w) 12 m o ["_law_script"] (uA (K w.params))) :
  PySem.W.WalkO q b XP g l.row.toRowW d [] (λf t=>PySem.call f t):=
 L2.Ix (n:=63) (k:=12) (x:="_law_script") (CX:=λw=>CXE l.prog w) (sp:=λw=>uA (K w.params)) p (by decide) e ⟨rfl,by decide,by decide⟩ r F (λ_ _ a y E _ hS=>⟨a,y,rfl,hS,λ_=>rfl⟩) λ_ _ _ _ _ ⟨_,_,_,_,_,z⟩=>z
end Qh
end
structure PySem.W.Fast:Prop where
 (tw2257226251151384670 tw2111613727761685338 tw4938956546374863871 tw14861871054164742105 tw5433462914084609253 tw10990507057589752391 tw6543467792935658921 tw16959495334388357582 tw14475522769491413 tw5705287273775451482 tw11434724164909050642 tw6266010783452131317 tw16869292330581638451 tw7031769501815862110 tw9762359734455705599 tw13973211585885482973 tw17415870320288825938 tw2246599027290638615 tw9425643382003661068 tw3592539608632608036 tw14723312973110091743 tw15327571315683746988 tw16816376489601397153 tw10018265342093171848 tw2403801065680534561 tw14962117605957453297 tw11122823402116474392 tw10164566390047174923 tw6502752927305389400 tw10971492860052310955 tw9153560482267799514 tw16876145025084289086 tw8634858711353063579 tw895551763104115543 tw7222592873544952159 tw15312430253274865924 tw11615642836543533160 tw4479291615313644698 tw16684979256005263779 tw4328332774659578967 tw9089292456758786647 tw10098892467183050043 tw6679107901229218181 tw2789474042943574470 tw11113596574685238867 tw17254198163029216427 tw12009849182085512705 tw5988797020710323987 tw2005097529732033370 tw7606806466472186285 tw11495656429386624201 tw13704493502812876145 tw9618941820284870249 tw9631181953624504767 tw15276898163542493882 tw6797681971204171416 tw8932942285924374974 tw16099258409649364474 tw3268199599360040095 tw15080664391204797021 tw17249426576264380506 tw7587169706515846172 tw15023650447667592966 tw12908901685030588792 tw17621449813970565948 tw3592866593548581067 tw10747280392799368442 tw8118638105498048746 tw13198655470464210026 tw233905160086298032 tw3135267910592146469 tw4860655148983374006 tw6412309075067448574 tw13796711289856160575 tw15144826800133571205 tw1404592175758935324 tw6263839211709326517 tw10424345532184380475 tw4458304754653881066 tw2103614604422976609 tw11848830307799648255 tw11246788588089006467 tw10190005560195282021 tw6001390836200875772 tw7903733832700095909 tw12055154075108652862 tw4656792341033702711 tw14572388227011074881 tw204872038295337201 tw14151379945564932780 tw2379812703674846418 tw2342666260920987833 tw970590600000286755 tw15944883631352228173 tw18372947325688744630 tw7222131014520094479 tw7112410416090500683 tw393789089834438060 tw16884023706466550340 tw11137588116961128767 tw8499669183176170821 tw884017573764203479 tw3541822105960260305 tw3940939143252694270 tw5603741091938141023 tw14025672183682040266 tw17729486672421876820 tw12470566014255024382 tw13019653212425805928 tw14579967004977978237 tw3836872086657665147 tw1685918029396233831 tw15800773262236265327 tw13857278971891248552 tw9474287529220373433 tw8737514031826945307 tw2951299732198622070 tw15653517734052383824 tw9751921408329090182 tw15414042443644699960 tw7417986691391804616 tw16835518623824429452 tw12507409949762788027 tw18090233986107020292 tw9751353225946625755 tw1308961418461458979 tw2152204444409283818 tw14441413837354593822 tw4426445187039605442 tw17730571900257124957 tw5095669898497402916 tw12713449244078627553 tw6724634339265188286 tw15999488428472186922 tw12282280229839866742 tw12795317499292179685 tw4615613895581315678 tw2836336424040577249 tw12354441985306472831 tw7370105843392204232 tw833026401384249339 tw13600278465862086302 tw13606586114559119139 tw1546047397731504938 tw826040728245190062 tw11614452530412970014 tw15862774497969887774 tw14399554537665359372 tw17678892582716350173 tw12529705749499972088 tw6066071507772026077 tw2485130782939845919 tw9128196471551640290 tw11044332604034977587 tw16811027070819529669 tw17016176458703407057 tw5530187137454636504 tw6519374466510473723 tw8348565899791089810 tw10264985992802578719 tw9280117369798667563 tw10066586944853452326 tw10555584839720077620 tw8427385770285139058 tw12320408980370132138 tw14515294923589762629 tw5913920258408382675 tw4560620627861498516 tw11722736533334134425 tw5256074953970609389 tw17404974841905223904 tw5379931399925482318 tw1607246240118453101 tw16769768362152657790 tw6501924175797451796 tw6379499850831262507 tw15925748095824392274 tw2174422954091465530 tw10485562204227824180 tw4232114156910318064 tw3354211913467074468 tw16427778966715810084 tw7480961394104952548 tw8598203346306694552 tw670491557498664349 tw9283653881668097858 tw4401520107683674591 tw12720285758022259422 tw3143748978404417095 tw6320740020828678927 tw6716569471119356076 tw10244943434283868236 tw6734810599767872221 tw15312021685973648826 tw9164931270267780124 tw11805835405333662003 tw15605727085381710824 tw17024962536630231671 tw7806604314061284212 tw14508846306177974355 tw14356631056672110516 tw649208662867369441 tw17825909516596228728 tw12298239557024959242 tw16655888627305480397 tw9053191360295521919 tw11033065069281131830 tw2910596928759324268 tw11950584330880652208 tw6443525577898947477 tw18247084422954834831 tw15461978007936482756 tw11872362681027981972 tw6659077214614634468 tw1488969680699540905 tw16069196130763908801 tw533003521150382210 tw3238883688313676163 tw17555905069841565022 tw10717006546552444259 tw17452350717691042196 tw1101924570435229565 tw13893769783640536546 tw686275982789088189 tw6012926329251664521 tw8645220896898822670 tw14708106802723679623 tw18354660828641826212 tw11396061382992309721 tw15653034022993752702 tw6246598389394296481 tw5050386547986066821 tw14094849950181225125 tw12391397920150056177 tw11988840402971311903 tw1655895017569225425 tw8343853759015498863 tw10269055680862690829 tw10126319996973529367 tw16126470652421559919 tw16922024778633881786 tw574730146632588246 tw17768117601126840296 tw2054901359978371977 tw11264702704927354782 tw17479756045360448876 tw10155990783067178620 tw4674708357208150880 tw15026783253178283357 tw10988974785803867329 tw12660994606225418048 tw1630782310502810858 tw9806456248568499056 tw13356618973374454212 tw11893978523636831628 tw13522614240363892317 tw2565682284317578826 tw11559201731015321199 tw171788771886348536 tw15899990967664218055 tw9604557446079421720 tw4494875781896762471 tw9782830615103126963 tw5479967373796064114 tw4838139594222208392 tw9535164040735142357 tw18304116449060227929 tw5213029110284062040 tw17008152681799285236 tw7436240899338739437 tw10541490168657043562 tw10841569627311457966 tw4343337805932569032 tw9267218919724848975 tw16334014539992946058 tw17394613924398679948 tw2321325707136932712 tw3894522895114876505 tw4273779395046562486 tw3051433927405086968 tw3430874886404557650 tw1455287155304657895 tw17232193604755142373 tw15953286753676627887 tw17548601639213553720 tw6400967417131357538 tw4937144237072807338 tw8961016749390617812 tw3144062270928487489 tw10477698956286145013 tw12344631373035411570 tw16769865439887972411 tw7879953022006120548 tw1044819894789346171 tw2967499011633452556 tw13794124249415303903 tw8832987241243558309 tw3880746869486886580 tw8644267368676615877 tw11841414078085427619 tw12918401101653383457 tw15091935465138199216 tw7556309121756131005 tw2015408481072810442 tw136491241739549801 tw12170506412358393453 tw12657987352008842479 tw2983111856926234797 tw11494217868894332169 tw14270619131706039015 tw3373116157638946706 tw3220523694251230235 tw13416385470657555575 tw7908066364166889539 tw5668709182159999128 tw4798173164641694484 tw2393989713575337680 tw10807227998501468677 tw1494232471076921666 tw11713394869458078685 tw13337542028685269041 tw4551288841449537887 tw9883171949112000799 tw12543543268008307711 tw16091283793192532045 tw7931949858585621020 tw7139066196365792186 tw7073201298127917366 tw14511165078598919586 tw1516508702993194679 tw17984987978236306585 tw8124612881548877963 tw10977919252352495626 tw7456575850327199308 tw11080248785839490060 tw545395403191716882 tw10889688545147039180 tw12524354519957055033 tw2712096045262377362 tw6631212140486753372 tw7692794747581746379 tw3255388106397360806 tw15584594365307263208 tw6445299498457154206 tw16288775202730339928 tw10150236255017457814 tw17277918505813555784 tw6636794327763831831 tw13349033470121679873 tw14116832643707835426 tw7869318286776958659 tw12718934974388706168 tw7349456677081302605 tw13711676629216898549 tw10679204400414582785 tw4318162043945072645 tw12745164450531837680 tw15978370123601778869 tw12386364580877361243 tw5664284186361569642 tw6527313111921947821 tw4173174761547522671 tw14189310716069921205 tw17040618278644174676 tw15750551043426383705 tw6437324875713792417 tw8206892912063081087 tw9838729137825874007 tw12100531805402817003 tw15561318829622178281 tw7701977184105684763 tw3354986778973015867 tw2907731966802425551 tw11062076569957636865 tw13752045068499926655 tw9366237837123737157 tw1329539385050193422 tw16987033894267026980 tw3531372735445001765 tw15021341828906598794 tw327413352979778528 tw15727125247033351717 tw10009621629595599459 tw1202300736443659645 tw12170844440472712675 tw1911083120521589533 tw12956476742851755928 tw15533028085668500624 tw11458659597021818028 tw5960956394549745638 tw8580169946077872358 tw6383032273676244940 tw11681203805177203724 tw8698169359891813602 tw4261090377391677652 tw15779855340690551160 tw1812904266329981142 tw11191925533532717716 tw10377724351682706452 tw14661913765422691621 tw13720138032354036396 tw6942564530403762849 tw6131354297484077601 tw1427035652912306079 tw12225466170465016391 tw9416778771562405152 tw18353478456115483488 tw6466693915070381049 tw9293531488192621484 tw10128276107785244105 tw18367429719420313578 tw7963754385609850398 tw2401807289836919320 tw12753108596340928127 tw14281220078101859352 tw3060415644232536167 tw9473379422426285029 tw12005505015991262583 tw16311864335839128375 tw17402749363151289318 tw1882778567206130740 tw10651521157197881737 tw15598418001163257536 tw9657012395885778289 tw387434622398969252 tw6733250959006482588 tw11558878318121632743 tw5548715507646681428 tw11040663423007266679 tw18270841690751350319 tw6643811453333689442 tw8071295378060759829 tw5261901334699491491 tw14754508489554674977 tw765769536166461337 tw12085084691611066461 tw10402183152265251401 tw5057834335228309525 tw15378582335869953930 tw13919036600514464096 tw12751856661836252932 tw487100529304804134 tw2547473019215218992 tw4095665120614815846 tw9735016174210999247 tw728691889801289234 tw2787939485977113176 tw12858512491912183101 tw14557356218382402129 tw1559735032856148420 tw17364294737775455209 tw12279946402672274663 tw5403000579030751444 tw5064158498714799649 tw5910592536365079784 tw6414240277115552514 tw5028763178247436176 tw16383456222199986262 tw10189062933059893211 tw12554707208312925837 tw3021928759850266981 tw8243125298745571943 tw4795023751524316168 tw10269153070198713741 tw1928811400651832019 tw16761928689073351365 tw8514442402511804108 tw10801556063553475765 tw17675504870181510301 tw11690654755813511455 tw4686440068923724540 tw697450542309862834 tw12928238456742461815 tw11007108115263185876 tw9591664534372667808 tw7007457444056632989 tw410983329414876835 tw12850422020361695222 tw10180236304951349908 tw3707669319962094787 tw6661748820535207275 tw15238320714581713571 tw3318057308878742901 tw13305460924719956643 tw2700218164372750430 tw8705148538043925220 tw10742224571597117111 tw18029895262652890069 tw8207104130272962929 tw13832160635136076255 tw9212339140509897985 tw109229686485461823 tw6961683929795924338 tw3777080099875107854 tw1639519741627726494 tw7741611727909713408 tw11331803547307419136 tw7569562489038123337 tw9520633902617643299 tw16832195128862914445 tw3686316057377675434 tw8518662981694570047 tw1805566642657955571 tw5293806019329327434 tw4987141053566222649 tw16935604201629054923 tw11992634786544132266 tw7004570619560563667 tw17489946658730913852 tw15972480317715475626 tw4847108583454378706 tw3785950665561073261 tw5359272833399516321 tw10688403174859021521 tw10781717304609361526 tw9889240278316772211 tw7435259655949731731 tw14396655488154159051 tw12062294250687748350 tw17231123971065640149 tw5427854264128579809 tw5723975229949534884 tw2638078266970177023 tw14457941642159549647 tw1056972654463062019 tw13698592474510823220 tw9061226504022359054 tw15048806436035758976 tw12451621727528192079 tw15398136648259615771 tw2342126532096522370 tw15206055283055036135 tw5411723643773874674 tw6030825306072024050 tw16769461623119233201 tw18266318717788218008 tw3529228588379545711 tw14545111971953780329 tw7074382354894812439 tw4506810527589686561 tw14427343480381399654 tw7128405386048678178 tw3062410713929505404 tw13043680475353745793 tw10011787403689866878 tw13022308067113858166 tw14542900133198704301 tw2282079408461792167 tw9859269339411928214 tw13937493960561008573 tw13475494190385970473 tw6572192343629029739 tw7126222920351903694 tw7879132461930523188 tw5910134248939523653 tw17576630763788079023 tw13831618468443444248 tw310533895669673032 tw8321140752657852819 tw2673451630544665321 tw15303070447825168199 tw5709454448199882043 tw14899654036476807756 tw7433144057399963665 tw11597284074588341137 tw15248679014461975697 tw10019235987000849550 tw6585615310433883836 tw6052720325457273172 tw15889547996647399386 tw8205855829237365773 tw10183624358640445861 tw4684898483954347290 tw11770648801982336804 tw11876991824843156156 tw16371610298095070799 tw16253552759891071442 tw3712425375205425805 tw16048869714120099360 tw12499580215704945361 tw9731038764040947251 tw740421196851183103 tw3936695394549287024 tw10144683418055641528 tw8336009041559376837 tw3537142543809809063 tw5497843047966689976 tw11620162221461321328 tw14995257895379255866 tw10554406379772270 tw15708508276236954218 tw7840655091850000695 tw9404899750000470654 tw4008279945507636045 tw13158858220365960260 tw424200020374942996 tw826977370169084201 tw11381573859096129012 tw2253763204074667424 tw3254946356964539037 tw6762981964847618102 tw6411902124280120018 tw7840632792215235569 tw10827870483057986067 tw1919643220083745305 tw14876584081807836 tw12212013361181407688 tw16710336637133393172 tw3592578544087101420 tw1505289024893463752 tw18275323985724608842 tw8908984767193787116 tw12062417486835141180 tw8040878055844679631 tw13857525173877287323 tw5520470152027768828 tw10284528395598776739 tw10000465176190805373 tw14481027099640729025 tw15858186609887703693 tw14844681636179907144 tw8946187799039110576 tw13324622878815126484 tw17804248827018890360 tw9471452073996311328 tw13574788716142901090 tw152996093923942600 tw5261419437408852319 tw11666220409663515262 tw17114801907457385722 tw8177982499185201471 tw6843130205884077844 tw13547231396931804416 tw12258621610243666247 tw16358924484057793387 tw13618966401896848035 tw10190198822387864632 tw8157444635723283732 tw14792120433685840742 tw2472781997445969311 tw240954123068940805 tw14338846604998101989 tw15470972610268854467 tw4323123858354805417 tw17288942924446069357 tw16947385894808194022 tw4034819437066075289 tw14065586022658946259 tw841171134453163645 tw10931418237017535759 tw4225714889370263022 tw13782205492652212079 tw11413016054739022628 tw15082592345864675469 tw7616239684774620412 tw15859041422617507421 tw10448335386406768053 tw14483471175695091865 tw12195034654030209596 tw7288134081176905109 tw4316294960417951495 tw18073409749383099628 tw11050347590071362207 tw17112108406069835711 tw6154940700220820602 tw15733778014309080883 tw13630263836681568962 tw8644794092074418676 tw9515168675187003619 tw7924525440241048096 tw15915996826614870907 tw522296424614140198 tw10644367678717809544 tw9619656399646958378 tw17372629865776203910 tw12175387909456500123 tw17089473824710024613 tw2797749381018020289 tw4668296458101020291 tw7016873355508347689 tw14098478507667495885 tw489227845650660207 tw728164481063940088 tw15540194257524975245 tw14859850770165976591 tw17079957962694985747 tw1171844611453566165 tw14772011882435349526 tw4347907607375285221 tw8920889389372237273 tw14664410944523018925 tw11286212719240629408 tw10762531169967720939 tw16286609186465383138 tw7575759275272992054 tw7879811502803659006 tw14712914158566767306 tw18361775078789638719 tw13226131762872832057 tw9863615806478656460 tw11250882723780837446 tw2597183024284824778 tw399013671727546210 tw7688514732489639153 tw6579711340117079522 tw6277925405244457917 tw10493027908701132440 tw7763089237516146493 tw2843531759429780326 tw7612395987951898216 tw16664072277015590949 tw4005902379907113020 tw16824925299258306731 tw16322553136857648957 tw4053061051491435150 tw11087949277286656922 tw4283732040558840505 tw13171291926099240241 tw12896944180363214512 tw3199865309708457444 tw5811070530508468449 tw15048954778072411535 tw7261976763168021582 tw4306862045563200096 tw4396019159220039160 tw16176155042591751800 tw2845233526430960747 tw10403975666769820523 tw8643892577828022538 tw2789488749128641994 tw11436836143996120880 tw6098906612583986342 tw4892457323749129412 tw10041380261575836169 tw11662757030777112783 tw5861589541621411439 tw4661273000763314890 tw11245233730381634393 tw4916364954126623248 tw11788324428316268491 tw10393328685007551947 tw17887576289515516281 tw5236580435799774709 tw14706964731136341875 tw3553815005777260923 tw8617845785844301216 tw7638108114647510841 tw13141961662058394043 tw6893592417922694297 tw7571333359243638337 tw8317207035711401806 tw11923751550373122911 tw9874361584861793193 tw13915877341381790826 tw6959651371505484171 tw5385234006372871474 tw9361695420070242794 tw2000603799369602386 tw6913550462849664918 tw12847647848468045163 tw8833854482381203936 tw12604856073379521386 tw4819958933864487229 tw7778108062763655686 tw16534125644768434060:True)
open PySem PySem.W PyProof.Rows
set_option maxRecDepth 100000 in
set_option maxHeartbeats 0 in
theorem PySem.Challenge.cw_queuehold_k21_not_held_holds : PySem.Challenge.rw_queuehold_k21_not_held.Holds := by
 w_on;o_law;k_head;(case hw=>w_witness2)
 k_fill
 refine Qh.walk (l:=PySem.Challenge.rw_queuehold_k21_not_held) rfl rfl (λw h Y=>PySem.W.kIn_of Y) ?F
 case F=>
  intro w mg fa h KX G hmg
  refine' Qh.Lu KX G hmg ?ay0 ?as0 ?be4 ?au1 ?aq0 ?bb1 ?ay1 ?bh4 ?ay2 ?ay3 ?au2 ?as1 ?be5 ?bb2 ?be6 ?ai1 ?au3 ?ay4 ?ay5 ?ay6 ?ao1 ?au4 ?au5 ?au6 ?aq1 ?be7 ?A0 ?bb3 ?am9 ?be8 ?be9 ?au7 ?au8 ?ay7 ?au9 ?av0 ?ay8 ?ay9 ?av1 ?bb4 ?av2 ?ak7 ?av3 ?az0 ?aq2 ?aq3 ?bj9 ?bd4 ?bd5 ?bd6 ?bd7 ?bi5 ?bi6 ?av4 ?ak8 ?ak1 ?ao2 ?av5 ?ak9 ?az1 ?az2 ?al0 ?az3 ?az4 ?bb5 ?bb6 ?bi7 ?bh5 ?bh6 ?bh7 ?bh8 ?bh9 ?bi0 ?av6 ?av7 ?av8 ?as2 ?av9 ?as3 ?aw0 ?ao3 ?ao4 ?az5 ?aw1 ?ao5 ?ak2 ?ai2 ?ah2 ?as4 ?aw2 ?al1 ?ai3 ?as5 ?aw3 ?az6 ?ao6 ?aw4 ?aw5 ?aq4 ?ak3 ?as7 ?as8 ?an0 ?bk0 ?bd8 ?bd9 ?be0 ?be1 ?bi8 ?bi9 ?aq5 ?ai4 ?aw6 ?as9 ?aq6 ?an1 ?al2 ?ai5 ?aw7 ?al3 ?ao7 ?aL ?lL ?cL ?kL ?ax8 ?ae7 ?bg2 ?bb7 ?am0 ?bb8 ?bb9 ?bc0 ?aq7 ?ag4 ?aw8 ?bk3 ?bk4 ?ar7 ?ag1 ?ae9 ?aj6 ?af4 ?ag2 ?at1 ?az7 ?aq8 ?aq9 ?ao8 ?ar0 ?ar1 ?aw9 ?ar2 ?ax0 ?ax1 ?aK ?qK ?bf0 ?an4 ?bf1 ?an5 ?bj0 ?ax6 ?ax2 ?an6 ?ar8 ?af8 ?ar9 ?ag7 ?at4 ?ag5 ?bf2 ?aj8 ?bf3 ?an7 ?ap5 ?af0 ?bf4 ?aj9 ?bf5 ?an2 ?ax3 ?bi1 ?A1 ?A2 ?A3 ?A4 ?A5 ?A6 ?A7 ?A8 ?A9 ?B0 ?aS ?lS ?sS ?hS ?eS
  case ay0|as0|be4|au1|aq0|bb1|ay1|bh4|ay2|ay3|au2|as1|be5|bb2|be6|ai1|au3|ay4|ay5|ay6|ao1|au4|au5|au6|aq1|be7|A0|bb3|am9|be8|be9|au7|au8|ay7|au9|av0|ay8|ay9|av1|bb4|av2|ak7|av3|az0|aq2|aq3=>refine' Qh.a7 ?a ?l ?c ?k;case a|l|c|k=>k_is
  case bj9|bd4|bd5|bd6|bd7|bi5|bi6|av4|ak8|ak1=>k_is
  case ao2|av5|ak9|az1|az2|al0|az3|az4|bb5|bb6=>refine' Qh.a9 ?a ?i ?l ?c ?k;case a|i|l|c|k=>k_is
  case bi7|bh5|bh6|bh7|bh8|bh9|bi0|av6|av7|av8|as2|av9|as3|aw0|ao3|ao4|az5=>k_is
  case aw1|ao5|ak2|ai2|ah2|as4|aw2|al1|ai3|as5|aw3|az6|ao6|aw4|aw5|aq4|ak3|as7|as8|an0=>refine' Qh.a9 ?a ?i ?l ?c ?k;case a|i|l|c|k=>k_is
  case bk0|bd8|bd9|be0|be1|bi8|bi9|aq5|ai4|aw6=>k_is
  case as9|aq6|an1|al2|ai5|aw7|al3|ao7=>refine' Qh.a9 ?a ?i ?l ?c ?k;case a|i|l|c|k=>k_is
  case aL|lL|cL|kL|ax8|ae7|bg2|bb7|am0|bb8|bb9|bc0|aq7|ag4|aw8|bk3|bk4|ar7|ag1|ae9|aj6|af4|ag2|at1|az7|aq8|aq9|ao8|ar0|ar1|aw9|ar2|ax0|ax1|aK=>k_is
  (case qK=>exact rfl)
  case bf0=>k_is
  (case an4=>exact rfl)
  case bf1=>k_is
  (case an5=>exact rfl)
  case bj0=>k_is
  (case ax6=>exact rfl)
  case ax2=>k_is
  (case an6=>exact rfl)
  case ar8=>k_is
  (case af8=>exact rfl)
  case ar9=>k_is
  (case ag7=>exact rfl)
  case at4=>k_is
  (case ag5=>exact rfl)
  case bf2=>k_is
  (case aj8=>exact rfl)
  case bf3=>k_is
  (case an7=>exact rfl)
  case ap5=>k_is
  (case af0=>exact rfl)
  case bf4=>k_is
  (case aj9=>exact rfl)
  case bf5=>k_is
  (case an2=>exact rfl)
  case ax3=>k_is
  (case bi1=>exact rfl)
  (case A1=>kts_exm)
  (case A2=>kts_exm)
  (case A3=>kts_exm)
  (case A4=>kts_exm)
  (case A5=>kts_exm)
  (case A6=>kts_exm)
  (case A7=>kts_exm)
  (case A8=>kts_exm)
  (case A9=>kts_exm)
  (case B0=>kts_exm)
  case aS|lS=>k_is
  (case sS=>exact rfl)
  (case hS=>exact rfl)
  (case eS=>exact rfl)
end

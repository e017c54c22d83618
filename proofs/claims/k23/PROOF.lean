import PyProof.Rows.All
import Wide.All
import OpenK.AllK
import Wide.FinOn
import Lean
import PyProof.EqAt
import PyProof.EqKinds
import PyProof.TupleCall
import KE.KPairComp
import PyProof.SumWalkG
import PyProof.WalkInts
import PyProof.Rows.SortStr
import PyProof.Rows.SortWalk
import PyProof.NeKinds
import KE.KIntText
import PyProof.Rows.FStr
import PyProof.Rows.StrNews2
import PyProof.CallStr
import KE.KNest
import KE.KNestM
import PyProof.StrLawsChain
import PySem.Challenge.RW_latestturn_k23_real_services
set_option Elab.async false
set_option linter.all false
set_option maxRecDepth 100000
set_option maxHeartbeats 4000000
noncomputable section
open PySem.W (mg_of nsIn keepIn fnOf codeIn findIn kitOne subIn hasDictIn clsIn takerIn instObj Looks emptyDict plainGet looks_findIn InstAt)
set_option maxHeartbeats 4000000
namespace L2
open PySem PySem.Spec PyProof.Rows
abbrev Key:=Sum Int Str
def keyIs:Key->Value->Bool
 |.inl k,v=>Value.isInt k v
 |.inr x,v=>Value.isStrOf x v
def keyH (w:World):Key->Int
 |.inl k=>hashInt k
 |.inr x=>hashStr w x
theorem yC:∀ {k:Key} {v:Value},keyIs k v=true->(∃i t,k=Sum.inl i/\v=Value.int i t)∨(∃x t,k=Sum.inr x/\v=Value.str x t)
 |.inl i,v,h=>by
  obtain⟨t,e⟩:=Value.isInt_shape (k:=i) (v:=v) h
  exact .inl ⟨i,t,rfl,e⟩
 |.inr x,v,h=>by
  obtain⟨t,e⟩:=Value.isStrOf_shape (x:=x) (v:=v) h
  exact .inr ⟨x,t,rfl,e⟩
theorem QP (i:Int)(t:Tok):keyIs (.inl i) (.int i t)=true:=by simp[keyIs,Value.isInt]
theorem Gf (x:Str)(t:Tok):keyIs (.inr x) (.str x t)=true:=by simp[keyIs,Value.isStrOf]
theorem Us (a b:Int):decide ((Sum.inl a:Key)=Sum.inl b)=(a==b):=by
 by_cases e:a=b
 ·subst e;simp
 ·have h:¬(Sum.inl a:Key)=Sum.inl b:=λq=>e (Sum.inl.inj q)
  rw[decide_eq_false h]
  exact (beq_eq_false_iff_ne.mpr e).symm
theorem V8 (a b:Str):decide ((Sum.inr a:Key)=Sum.inr b)=decide (a=b):=by
 by_cases e:a=b
 ·subst e;simp
 ·have h:¬(Sum.inr a:Key)=Sum.inr b:=λq=>e (Sum.inr.inj q)
  rw[decide_eq_false h,decide_eq_false e]
theorem Vw (a:Int)(b:Str):decide ((Sum.inl a:Key)=Sum.inr b)=false:=decide_eq_false (λq=>nomatch q)
theorem Qe (a:Str)(b:Int):decide ((Sum.inr a:Key)=Sum.inl b)=false:=decide_eq_false (λq=>nomatch q)
def zQ (prog:Program)(w:World):PySem.KeyKind prog w Key where
 is:=keyIs
 hash:=keyH w
 inj:=λv a b ha hb=>by
  rcases yC ha with⟨i,t,rfl,rfl⟩ | ⟨x,t,rfl,rfl⟩
  ·rcases yC hb with⟨j,u,rfl,e⟩ | ⟨y,u,rfl,e⟩
   ·injection e with e1 _;rw[e1]
   ·exact nomatch e
  ·rcases yC hb with⟨j,u,rfl,e⟩ | ⟨y,u,rfl,e⟩
   ·exact nomatch e
   ·injection e with e1 _;rw[e1]
 byValue:=λk v h=>by
  rcases yC h with⟨i,t,rfl,rfl⟩ | ⟨x,t,rfl,rfl⟩<;>rfl
 pyHash:=λhv h=>by
  rcases yC hv with⟨i,t,rfl,rfl⟩ | ⟨x,t,rfl,rfl⟩
  ·exact wpAny_pyHash_int h
  ·exact wpAny_pyHash_str h
 eqBool:=λhu hv h=>by
  rcases yC hu with⟨i,t,rfl,rfl⟩ | ⟨x,t,rfl,rfl⟩
  ·rcases yC hv with⟨j,u,rfl,rfl⟩ | ⟨y,u,rfl,rfl⟩
   ·rw[Us] at h;exact wpAny_eqBool_int h
   ·rw[Vw] at h;exact SeqAt.EqAt.int_str i t y u _ _ _ _ h
  ·rcases yC hv with⟨j,u,rfl,rfl⟩ | ⟨y,u,rfl,rfl⟩
   ·rw[Qe] at h;exact SeqAt.EqAt.str_int x t j u _ _ _ _ h
   ·rw[V8] at h;exact wpAny_eqBool_str h
 «strs»:=λk x t v h=>by
  rcases yC h with⟨i,u,rfl,e⟩ | ⟨y,u,rfl,e⟩
  ·exact nomatch e
  ·injection e with e1 _
   subst e1
   cases v<;>rfl
theorem UI (prog:Program)(w:World)(i:Int)(t:Tok):(zQ prog w).is (.inl i) (.int i t)=true:=QP i t
theorem Ur (prog:Program)(w:World)(x:Str)(t:Tok):(zQ prog w).is (.inr x) (.str x t)=true:=Gf x t
inductive V where
 |non | bl (b:Bool) | int (i:Int) | str (x:Str) | byt (b:Array UInt8) | flt (b:UInt64) | ref (a:Addr) | ty (n:String)
 deriving DecidableEq
def RelV:V->Value->Prop
 |.non,u=>u=Value.none
 |.bl b,u=>u=Value.bool b
 |.int i,u=>∃t,u=Value.int i t
 |.str x,u=>∃t,u=Value.str x t
 |.byt b,u=>∃t,u=Value.bytes b t
 |.flt b,u=>∃t,u=Value.float b t
 |.ref a,u=>u=Value.ref a
 |.ty n,u=>u=Value.type n
abbrev Vals:List V->List Value->Prop:=Paired RelV
theorem Vals.length {xs:List V}{us:List Value}(r:Vals xs us):xs.length=us.length:=Paired.length r
theorem Vals.get:∀ {xs:List V} {us:List Value} {i:Nat} {x:V},Vals xs us->xs[i]?=some x->∃u,us[i]?=some u/\RelV x u
 |_,_,_,_,.nil,e=>by simp at e
 |_,_,0,_,.cons r _,e=>by simp at e;subst e;exact⟨_,rfl,r⟩
 |_,_,i+1,x,.cons _ t,e=>by
  obtain⟨u,h1,h2⟩:=Vals.get (i:=i) (x:=x) t (by simpa using e)
  exact⟨u,by simpa using h1,h2⟩
theorem Vals.set {x:V}{u:Value}(r:RelV x u):∀ {xs:List V} {us:List Value} (i:Nat),Vals xs us->Vals (xs.set i x) (us.set i u)
 |_,_,_,.nil=>.nil
 |_,_,0,.cons _ t=>.cons r t
 |_,_,i+1,.cons q t=>.cons q (Vals.set r i t)
theorem Vals.append:∀ {xs ys:List V} {us ws:List Value},Vals xs us->Vals ys ws->Vals (xs++ys) (us++ws)
 |_,_,_,_,.nil,s=>s
 |_,_,_,_,.cons r t,s=>.cons r (Vals.append t s)
theorem Vals.take:∀ {xs:List V} {us:List Value} (n:Nat),Vals xs us->Vals (xs.take n) (us.take n)
 |_,_,0,_=>.nil
 |_,_,_+1,.nil=>.nil
 |_,_,n+1,.cons r t=>.cons r (Vals.take n t)
theorem Vals.drop:∀ {xs:List V} {us:List Value} (n:Nat),Vals xs us->Vals (xs.drop n) (us.drop n)
 |_,_,0,r=>r
 |_,_,_+1,.nil=>.nil
 |_,_,n+1,.cons _ t=>Vals.drop n t
def RelO:Option V->Option Value->Prop
 |some v,some u=>RelV v u
 |none,none=>True
 |_,_=>False
def KV {κ:Type}:List (κ×V)->List (κ×Value)->Prop:=Paired λ(p:κ×V) (q:κ×Value)=>p.1=q.1/\RelV p.2 q.2
def kV:Key->V
 |.inl i=>.int i
 |.inr x=>.str x
inductive HO where
  |lst (xs:List V)
  |tup (xs:List V)
  |dK (kvs:List (Key×V)) | dT (kvs:List (List Key×V))
  |set (S:Int->Bool) (n:Nat)
  |ins (C dx:Addr) (fs:List (Str×V))
  |own (x:Addr)
  |xd (fs:List (Str×V))
  |met (f x:Addr)
  |rng (lo hi:Int)
  |frz (o:Obj) (u:HO)
  |tbl (ps:Array Value)
  |ext (φ:Heap->Prop)
abbrev Hp:=Addr->Option HO
def upd (H:Hp)(a:Addr)(o:HO):Hp:=λb=>if b=a then some o else H b
theorem zi {H:Hp}{a:Addr}{o:HO}:upd H a o a=some o:=by unfold upd;rw[if_pos rfl]
theorem zd {H:Hp}{a b:Addr}{o:HO}(h:b≠a):upd H a o b=H b:=by unfold upd;rw[if_neg h]
theorem Uw {H:Hp}{a:Addr}{o u:HO}:upd (upd H a o) a u=upd H a u:=by
 funext b;unfold upd;split<;>rfl
theorem Yh {H:Hp}{a b:Addr}{o u:HO}(h:H a=some o)(h':H b=some u)(d:o≠u):a≠b:=by
 intro e;subst e;rw[h] at h';exact d (Option.some.inj h')
theorem zG {H:Hp}{a b:Addr}{o:HO}(h:H a=some o)(h':H b=none):a≠b:=by
 intro e;subst e;rw[h] at h';cases h'
section
variable (P:Program)(w:World)
def ObjOk (H:Hp)(h:Heap)(a:Addr):HO->Prop
 |.lst xs=>xs.length<=sizeLine/\∃(its:List Value) (n:Nat),Vals xs its/\h.get? a=some { cls:=.type "list",data:=.seq its.toArray n }
 |.tup xs=>xs.length<=sizeLine/\∃its:List Value,Vals xs its/\IsTup h a its.toArray
 |.dK kvs=>kvs.length<=sizeLine/\(a==sysModules)=false/\∃vs,KV kvs vs/\h.DictOf (zQ P w) a vs
 |.dT kvs=>kvs.length<=sizeLine/\(a==sysModules)=false/\∃xs:List (List Key×Addr×Value),
   Paired (λ(p:List Key×V) (q:List Key×Addr×Value)=>p.1=q.1/\H q.2.1=some (.tup (p.1.map kV))/\RelV p.2 q.2.2) kvs xs /\
   ∃o es ep,h.get? a=some o/\o.ExactDict/\o.data=.dict es ep/\es.toList=xs.map (entryOfKey (tupleKind (zQ P w)))/\(xs.map (·.1)).Nodup
 |.set S n=>h.SetOf (intKind P w) a S n
 |.ins C dx fs=>H dx=some (.own a)/\fs.length<=1000/\dx≠a/\h.get? a=some (instObj C dx) /\
   ∃mA,h.Ns1 dx mA/\(∀f,RelO (fs.lookup f) (mA f))/\PySem.Within mA (fs.map (·.1))
 |.own _=>∃o,h.get? a=some o
 |.xd fs=>∃mA,h.Ns1 a mA/\∀f,RelO (fs.lookup f) (mA f)
 |.rng lo hi=>∃t u v,h.get? a=some { cls:=.type "range",data:=.fields #[.int lo t,.int hi u,.int 1 v] }
 |.frz o u=>h.get? a=some o/\ObjOk H h a u
 |.tbl ps=>h.get? a=some { cls:=.none,data:=.fields ps }
 |.met f x=>h.get? a=some (PySem.W.methodObj (.ref f) (.ref x))
 |.ext φ=>φ h/\(∃o,h.get? a=some o)/\∀h1 h2:Heap,φ h1->(∀o,h1.get? a=some o->h2.get? a=some o)->φ h2
def HOk (H:Hp)(h:Heap):Prop:=∀a o,H a=some o->ObjOk P w H h a o
end
section
variable {P:Program}{w:World}{H H':Hp}{h h':Heap}{a:Addr}{o:HO}
theorem ObjOk.lt (x:ObjOk P w H h a o):a < h.objs.size:=by
 cases o with
 |lst xs=>obtain⟨_,_,_,_,e⟩:=x;exact Heap.lt_size e
 |tup xs=>obtain⟨_,_,_,p⟩:=x;exact p.lt
 |dK kvs=>obtain⟨_,_,_,_,o,_,_,e,_⟩:=x;exact Heap.lt_size e
 |dT kvs=>obtain⟨_,_,_,_,o,_,_,e,_⟩:=x;exact Heap.lt_size e
 |set S n=>obtain⟨o,_,_,_,e,_⟩:=x;exact Heap.lt_size e
 |ins C dx fs=>obtain⟨_,_,_,e,_⟩:=x;exact Heap.lt_size e
 |own y=>obtain⟨_,e⟩:=x;exact Heap.lt_size e
 |xd fs=>obtain⟨_,⟨_,_,_,e,_⟩,_⟩:=x;exact Heap.lt_size e
 |rng lo hi=>obtain⟨_,_,_,e⟩:=x;exact Heap.lt_size e
 |frz ob u=>obtain⟨e,_⟩:=x;exact Heap.lt_size e
 |tbl ps=>exact Heap.lt_size (show h.get? a=some _ from x)
 |met f y=>exact Heap.lt_size (show h.get? a=some _ from x)
 |ext φ=>obtain⟨_,⟨_,e⟩,_⟩:=x;exact Heap.lt_size e
theorem Paired.mapP {α β:Type}{F G:α->β->Prop}:∀ {l₁:List α} {l₂:List β},Paired F l₁ l₂->(∀a b,F a b->G a b)->Paired G l₁ l₂
 |_,_,.nil,_=>.nil
 |_,_,.cons r t,f=>.cons (f _ _ r) (Paired.mapP t f)
theorem ObjOk.stay (x:ObjOk P w H h a o)(k:∀b u,(b=a∨H b=some (.own a))->h.get? b=some u->h'.get? b=some u)
  (ho:∀b,H b=some (.own a)->H' b=some (.own a)) (ht:∀b xs,H b=some (.tup xs)->H' b=some (.tup xs)):ObjOk P w H' h' a o:=by
 induction o with
 |lst xs=>obtain⟨z,its,n,r,e⟩:=x;exact⟨z,its,n,r,k _ _ (.inl rfl) e⟩
 |tup xs=>obtain⟨z,its,r,ob,e,c⟩:=x;exact⟨z,its,r,ob,k _ _ (.inl rfl) e,c⟩
 |dK kvs=>obtain⟨z,y,vs,r,ob,es,ep,e,c⟩:=x;exact⟨z,y,vs,r,ob,es,ep,k _ _ (.inl rfl) e,c⟩
 |dT kvs=>
  obtain⟨z,y,xs,r,ob,es,ep,e,c⟩:=x
  exact⟨z,y,xs,Paired.mapP r λp q z=>⟨z.1,ht _ _ z.2.1,z.2.2⟩,ob,es,ep,k _ _ (.inl rfl) e,c⟩
 |set S n=>obtain⟨ob,es,ep,t,e,c⟩:=x;exact⟨ob,es,ep,t,k _ _ (.inl rfl) e,c⟩
 |ins C dx fs=>
  obtain⟨d,z,ne,e,mA,⟨od,es,ep,e2,c⟩,r⟩:=x
  exact⟨ho _ d,z,ne,k _ _ (.inl rfl) e,mA,⟨od,es,ep,k _ _ (.inr d) e2,c⟩,r⟩
 |own y=>obtain⟨ob,e⟩:=x;exact⟨ob,k _ _ (.inl rfl) e⟩
 |xd fs=>obtain⟨mA,⟨od,es,ep,e,c⟩,r⟩:=x;exact⟨mA,⟨od,es,ep,k _ _ (.inl rfl) e,c⟩,r⟩
 |rng lo hi=>obtain⟨t,u,v,e⟩:=x;exact⟨t,u,v,k _ _ (.inl rfl) e⟩
 |frz ob u ih=>obtain⟨e,q⟩:=x;exact⟨k _ _ (.inl rfl) e,ih q⟩
 |tbl ps=>
  have e:h.get? a=some { cls:=.none,data:=.fields ps }:=x
  show h'.get? a=some { cls:=.none,data:=.fields ps }
  exact k a _ (.inl rfl) e
 |met f y=>
  have e:h.get? a=some (PySem.W.methodObj (.ref f) (.ref y)):=x
  show h'.get? a=some (PySem.W.methodObj (.ref f) (.ref y))
  exact k a _ (.inl rfl) e
 |ext φ=>obtain⟨p,⟨o,e⟩,st⟩:=x;exact⟨st _ _ p λo q=>k _ _ (.inl rfl) q,⟨o,k _ _ (.inl rfl) e⟩,st⟩
theorem HOk.lt (x:HOk P w H h)(e:H a=some o):a < h.objs.size:=(x a o e).lt
theorem HOk.fresh (x:HOk P w H h)(e:h.objs.size<=a):H a=none:=by
 cases q:H a with
 |none=>rfl
 |some u=>exact absurd (Nat.lt_of_lt_of_le (x.lt q) e) (Nat.lt_irrefl _)
theorem HOk.kept (x:HOk P w H h)(k:∀b u,h.get? b=some u->h'.get? b=some u):HOk P w H h':=λa o e=>
 (x a o e).stay (λb u _ q=>k b u q) (λ_ q=>q) λ_ _ q=>q
theorem HOk.laid (x:HOk P w H h)(k:∀b u,h.get? b=some u->h'.get? b=some u)(hp:h.objs.size<=a)(new:ObjOk P w (upd H a o) h' a o):HOk P w (upd H a o) h':=λb u e=>by
 have hn:=x.fresh hp
 by_cases hb:b=a
 ·subst hb;rw[zi] at e;cases e;exact new
 ·rw[zd hb] at e
  exact (x b u e).stay (λc v _ q=>k c v q) (λc q=>by rw[zd (zG q hn)];exact q) λc xs q=>by rw[zd (zG q hn)];exact q
end
def Rd (H:Hp)(a:Addr)(u:HO):Prop:=H a=some u∨∃o,H a=some (.frz o u)
theorem Rd.ok {P:Program}{w:World}{H:Hp}{h:Heap}{a:Addr}{u:HO}(r:Rd H a u)(x:HOk P w H h):ObjOk P w H h a u:=by
 rcases r with r | ⟨o,r⟩
 ·exact x a u r
 ·obtain⟨_,q⟩:=x a _ r
  exact q
def Mut:Option HO->Prop
 |some (.lst _)=>True
 |some (.dK _)=>True
 |some (.dT _)=>True
 |some (.set _ _)=>True
 |some (.ins _ _ _)=>True
 |some (.ext _)=>True
 |_=>False
section
variable {P:Program}{w:World}{H:Hp}{h h':Heap}{x e:Addr}{o':HO}
theorem HOk.write (ok:HOk P w H h)(mu:Mut (H x))(he:e=x∨H e=some (.own x))(k:∀b u,b≠e->h.get? b=some u->h'.get? b=some u)(heo:∃u,h'.get? e=some u)
  (new:ObjOk P w (upd H x o') h' x o'):HOk P w (upd H x o') h':=λb u q=>by
 have nown:∀c y,H c=some (.own y)->c≠x:=λc y r z=>by subst z;rw[r] at mu;exact mu
 have ntup:∀c xs,H c=some (.tup xs)->c≠x:=λc xs r z=>by subst z;rw[r] at mu;exact mu
 by_cases hb:b=x
 ·subst hb;rw[zi] at q;cases q;exact new
 ·rw[zd hb] at q
  by_cases hbe:b=e
  ·have q':H b=some (.own x):=by
    rcases he with z | z
    ·exact absurd (hbe.trans z) hb
    ·rw[hbe];exact z
   rw[q] at q';cases q'
   obtain⟨v,hv⟩:=heo
   exact⟨v,by rw[hbe];exact hv⟩
  ·refine (ok b u q).stay (λc v hc r=>k c v ?_ r) (λc r=>by rw[zd (nown c b r)];exact r) λc xs r=>by rw[zd (ntup c xs r)];exact r
   rcases hc with rfl | hc
   ·exact hbe
   ·rintro rfl
    rcases he with z | z
    ·exact nown c b hc z
    ·rw[hc] at z;cases z;exact hb rfl
end
structure Un (fs ex:List Addr)(H H':Hp)(h h':Heap):Prop where
 keep:∀b o,h.get? b=some o->H b=none->b∉fs->b∉ex->h'.get? b=some o
 slot:∀b o,h.get? b=some o->H b=none->b∈fs->b∉ex->∃sl,h'.get? b=some { o with slots:=sl }
 free:∀b o,h.get? b=some o->H b=none->b∉ex->H' b=none
 there:∀b o,h.get? b=some o->b∉ex->∃o',h'.get? b=some o'
 tups:∀b xs,H b=some (.tup xs)->H' b=some (.tup xs)
 frzs:∀b o u,H b=some (.frz o u)->H' b=some (.frz o u)
 tbls:∀b ps,H b=some (.tbl ps)->∃more,H' b=some (.tbl (ps++more))
section
variable {fs fs' ex ex':List Addr}{H H1 H2:Hp}{h h1 h2 h':Heap}{a x e:Addr}{o:HO}
theorem Un.any (u:Un fs ex H H1 h h1){b:Addr}{ob:Obj}(q:h.get? b=some ob)(n:H b=none)(hx:b∉ex):∃sl,h1.get? b=some { ob with slots:=sl }:=by
 by_cases hb:b∈fs
 ·exact u.slot b ob q n hb hx
 ·exact⟨ob.slots,u.keep b ob q n hb hx⟩
theorem Un.kept (k:∀b u,h.get? b=some u->h'.get? b=some u):Un fs ex H H h h' :=
 ⟨λb ob q _ _ _=>k b ob q,λb ob q _ _ _=>⟨ob.slots,k b ob q⟩,λ_ _ _ n _=>n,λb ob q _=>⟨ob,k b ob q⟩,λ_ _ q=>q,λ_ _ _ q=>q,λ_ ps q=>⟨#[],by rw[q];simp⟩⟩
theorem Un.refl:Un fs ex H H h h:=Un.kept λ_ _ q=>q
theorem Un.laid (k:∀b u,h.get? b=some u->h'.get? b=some u)(hp:h.objs.size<=a)(hn:H a=none):Un fs ex H (upd H a o) h h' where
 keep:=λb u q _ _ _=>k b u q
 slot:=λb u q _ _ _=>⟨u.slots,k b u q⟩
 free:=λb u q n _=>by rw[zd (Nat.ne_of_lt (Nat.lt_of_lt_of_le (Heap.lt_size q) hp))];exact n
 there:=λb u q _=>⟨u,k b u q⟩
 tups:=λb xs q=>by rw[zd (zG q hn)];exact q
 frzs:=λb u xs q=>by rw[zd (zG q hn)];exact q
 tbls:=λb ps q=>⟨#[],by rw[zd (zG q hn),q];simp⟩
theorem Un.write (mu:Mut (H x))(he:e=x∨H e=some (.own x))(k:∀b u,b≠e->h.get? b=some u->h'.get? b=some u)(heo:∃u,h'.get? e=some u):Un fs ex H (upd H x o) h h':=by
 have hx:∀b,H b=none->b≠x:=λb n z=>by subst z;rw[n] at mu;exact mu
 have hb:∀b,H b=none->b≠e:=λb n z=>by
  subst z
  rcases he with r | r
  ·exact hx b n r
  ·rw[n] at r;cases r
 have hm:∀b u,H b=some u->¬Mut (some u)->b≠x:=λb u q nm z=>by subst z;rw[q] at mu;exact nm mu
 refine⟨λb u q n _ _=>k b u (hb b n) q,λb u q n _ _=>⟨u.slots,k b u (hb b n) q⟩,λb u q n _=>by rw[zd (hx b n)];exact n,λb u q _=>?_,
  λb xs q=>by rw[zd (hm b _ q λz=>z)];exact q,λb u xs q=>by rw[zd (hm b _ q λz=>z)];exact q,λb ps q=>⟨#[],by rw[zd (hm b _ q λz=>z),q];simp⟩⟩
 by_cases hbe:b=e
 ·subst hbe;exact heo
 ·exact⟨u,k b u hbe q⟩
end
def trk (h:Heap)(H:Hp):List Addr:=(List.range h.objs.size).filter λa=>(H a).isSome
def hidT (h:Heap)(H:Hp):Heap:=PySem.W.hideAll h (trk h H)
theorem WO (h:Heap)(H:Hp):(hidT h H).objs.size=h.objs.size:=PySem.W.hideAll_size _ _
theorem Qr {h:Heap}{H:Hp}{b:Addr}{o:Obj}(e:h.get? b=some o)(n:H b=none):(hidT h H).get? b=some o :=
 PySem.W.hideAll_get _ e λhm=>by
  have q:(H b).isSome=true:=(List.mem_filter.mp hm).2
  rw[n] at q;simp at q
theorem UN {h:Heap}{H:Hp}{b:Addr}{o:Obj}(e:(hidT h H).get? b=some o):h.get? b=some o/\H b=none:=by
 have e':h.get? b=some o:=PySem.W.of_hideAll (trk h H) e
 refine⟨e',?_⟩
 cases q:H b with
 |none=>rfl
 |some x=>
  have hm:b∈trk h H:=List.mem_filter.mpr ⟨List.mem_range.mpr (Heap.lt_size e'),by simp[q]⟩
  have z:(hidT h H).get? b=none:=PySem.W.hideAll_none (trk h H) hm
  rw[z] at e;cases e
def W3 (g h:Heap)(L:Addr):List (Addr×Obj):=(List.range h.objs.size).filterMap λa=>if a=L∨(g.get? a).isSome=true then none else (h.get? a).map λo=>(a,o)
def rest (g h:Heap)(L d:Addr):List (Addr×Obj):=(W3 g h L).filter λp=>decide (p.1≠d)
structure Mod (K:PySem.W.Frag)(mg:Str->Option Value)(base:Heap):Prop where
 kin:K.In base
 glob:base.Ns mainGlobals mg
 blt:∃mb,base.Ns builtinsNs mb/\∀x:Str,x ≠ "__name__" -> mb x=bootBuiltins x
 nolimit:base.NoLimit
structure Cx where
 prog:Program
 w:World
 K:PySem.W.Frag
 mg:Str->Option Value
 base:Heap
 A:Around
 N:List Str
 s₀:Shared
 H₀:Hp
 env:Env
 outer:List Env
 stack:List Env
 ex:List Addr
 fn:Str->Bool
 calm:Bool
 pn:List (Addr×Obj)
 xe:Value->Shared->Prop
def frs (l:List Env):List Addr:=l.filterMap (·.frame)
abbrev Cx.fs (X:Cx):List Addr:=frs X.outer
def Vis (sc:Scope)(x:Str):Prop:=sc.names.lookup x=some .local∨sc.names.lookup x=some .cell∨sc.names.lookup x=some .free
def Loc (sc:Scope)(x:Str):Prop:=sc.names.lookup x=some .local∨sc.names.lookup x=some .cell
theorem locl {sc:Scope}{x:Str}(h:(match sc.names.lookup x with | some .local=>true | some .cell=>true | _=>false)=true):Loc sc x:=by
 unfold Loc
 split at h<;>simp_all
def Look (env:Env)(h:Heap)(m:Str->Option Value)(x:Str)(u:Value):Prop :=
 (env.kindOf x=some .local/\m x=some u)∨((env.kindOf x=some .cell∨env.kindOf x=some .free)/\∃c,env.cells.lookup x=some c/\h.IsCell c (some u))
structure Cx.Ok (X:Cx):Prop where
 mod:Mod X.K X.mg X.base
 kind:X.env.scope.kind=.function
 glob:X.env.globals=mainGlobals
 blt:X.env.builtins=builtinsNs
 above:X.s₀.heap.objs.size<=X.env.locals
 inj:∀x y c,X.env.cells.lookup x=some c->X.env.cells.lookup y=some c->x=y
 has:∀x,(X.env.kindOf x=some .cell∨X.env.kindOf x=some .free)->∃c,X.env.cells.lookup x=some c
 cab:∀x c,X.fn x=true->X.env.cells.lookup x=some c->X.s₀.heap.objs.size<=c
 hd:X.calm=true->X.A.handled=none
 frames:X.A.frames=some X.stack
 stk:X.stack=X.outer∨(X.stack=X.env::X.outer/\X.env.frame=some X.env.locals)
 exf:∀b∈X.ex,b≠X.env.locals/\∀x c,X.env.cells.lookup x=some c->c≠b
 bs:∀b o,X.base.get? b=some o->X.s₀.heap.get? b=some o/\X.H₀ b=none
 bsz:X.base.objs.size<=X.s₀.heap.objs.size
 noex:∀b o,X.base.get? b=some o->b∉X.ex
 exfs:∀b∈X.ex,b∉X.fs
 funs:X.s₀.heap.FunFrames X.base X.outer
 frf:∀b∈X.fs,X.H₀ b=none
structure Inv (X:Cx)(pins:List (Addr×Obj))(σ:List (Option V))(H:Hp)(s:Shared):Prop where
 ok:X.Ok
 os:s.os=X.s₀.os
 bare:AllBare s.gens
 base:Un X.fs X.ex X.H₀ H X.s₀.heap s.heap
 loc:∃m,s.heap.Ns X.env.locals m/\∀(i:Nat) (x:Str) (v:V),X.N[i]?=some x->σ[i]?=some (some v)->Vis X.env.scope x->∃u,RelV v u/\Look X.env s.heap m x u
 cell:∀x c,X.env.cells.lookup x=some c->∃v,s.heap.IsCell c v
 free:H X.env.locals=none
 freeC:∀x c,X.env.cells.lookup x=some c->H c=none
 pin:∀p∈X.pn++pins,s.heap.get? p.1=some p.2/\H p.1=none/\p.1≠X.env.locals/\p.1∉X.fs/\∀v,p.2.data≠.cell v
 hok:HOk X.prog X.w H s.heap
 len:σ.length=X.N.length
section
variable {X:Cx}{pins:List (Addr×Obj)}{σ:List (Option V)}{H H':Hp}{s:Shared}{h':Heap}
theorem Cx.Ok.nofr (ok:X.Ok){b:Addr}{o:Obj}(e:X.base.get? b=some o):b∉X.fs:=λhb=>by
 have:=(ok.funs.mem hb).1
 rw[e] at this;cases this
theorem Inv.bs (I:Inv X pins σ H s):∀b o,X.base.get? b=some o->s.heap.get? b=some o/\H b=none:=λb o e=>
 ⟨I.base.keep b o (I.ok.bs b o e).1 (I.ok.bs b o e).2 (I.ok.nofr e) (I.ok.noex b o e),I.base.free b o (I.ok.bs b o e).1 (I.ok.bs b o e).2 (I.ok.noex b o e)⟩
theorem Inv.bk (I:Inv X pins σ H s):∀b o,X.base.get? b=some o->s.heap.get? b=some o:=λb o e=>(I.bs b o e).1
theorem Inv.mod (I:Inv X pins σ H s):Mod X.K X.mg X.base:=I.ok.mod
theorem Inv.kIn (I:Inv X pins σ H s):X.K.In s.heap:=I.ok.mod.kin.keeps I.bk
theorem Inv.lt (I:Inv X pins σ H s):X.env.locals < s.heap.objs.size:=let ⟨_,hn,_⟩:=I.loc;hn.lt
theorem Inv.sz (I:Inv X pins σ H s):X.s₀.heap.objs.size<=s.heap.objs.size:=Nat.le_trans I.ok.above (Nat.le_of_lt I.lt)
theorem Inv.nofs (I:Inv X pins σ H s){a:Addr}(h:s.heap.objs.size<=a):a∉X.fs:=λhb=>by
 obtain⟨_,o,ho,_⟩:=I.ok.funs.mem hb
 exact absurd (Nat.lt_of_lt_of_le (Heap.lt_size ho) (Nat.le_trans I.sz h)) (Nat.lt_irrefl _)
theorem Inv.cne (I:Inv X pins σ H s):∀x c,X.env.cells.lookup x=some c->c≠X.env.locals:=λx c e z=>by
 obtain⟨v,o,ho,hd⟩:=I.cell x c e
 obtain⟨m,⟨o',es,ep,ho',hd',_⟩,_⟩:=I.loc
 rw[z,ho'] at ho;cases ho;rw[hd'] at hd;cases hd
theorem Inv.funs (I:Inv X pins σ H s):s.heap.FunFrames X.base X.outer:=by
 have all:∀(l:List Env),(∀b∈frs l,b∈X.fs)->X.s₀.heap.FunFrames X.base l->s.heap.FunFrames X.base l:=by
  intro l
  induction l with
  |nil=>intro _ _;trivial
  |cons env r ih=>
   intro hs hl
   obtain⟨hk,⟨L,o,hf,hn,ho,hd⟩,hr⟩:=hl
   have hL:L∈X.fs:=hs L (by unfold frs;rw[List.filterMap_cons,hf];exact List.mem_cons_self)
   obtain⟨sl,e⟩:=I.base.slot L o ho (I.ok.frf L hL) hL λz=>I.ok.exfs L z hL
   exact⟨hk,⟨L,_,hf,hn,e,hd⟩,ih (λb hb=>hs b (by unfold frs;rw[List.filterMap_cons,hf];exact List.mem_cons_of_mem _ hb)) hr⟩
 exact all X.outer (λ_ hb=>hb) I.ok.funs
theorem Inv.stack (I:Inv X pins σ H s):s.heap.FunFrames X.base X.stack:=by
 rcases I.ok.stk with e | ⟨e,hf⟩
 ·rw[e];exact I.funs
 ·rw[e]
  obtain⟨m,hn,_⟩:=I.loc
  refine .cons (by rw[I.ok.kind];decide) hf hn ?_ I.funs
  exact Heap.get?_none_of_le (Nat.le_trans I.ok.bsz I.ok.above)
theorem Inv.stkSub (I:Inv X pins σ H s):∀b∈frs X.stack,b∈X.env.locals::X.fs:=λb hb=>by
 rcases I.ok.stk with e | ⟨e,hf⟩
 ·rw[e] at hb;exact List.mem_cons_of_mem _ hb
 ·rw[e] at hb
  unfold frs at hb
  rw[List.filterMap_cons,hf] at hb
  exact hb
theorem Inv.stkFree (I:Inv X pins σ H s):∀b∈frs X.stack,H b=none:=λb hb=>by
 rcases List.mem_cons.mp (I.stkSub b hb) with e | hb
 ·rw[e];exact I.free
 ·obtain⟨_,o,ho,_⟩:=I.ok.funs.mem hb
  exact I.base.free b o ho (I.ok.frf b hb) λz=>I.ok.exfs b z hb
theorem Inv.step {g':Array GenState}{t':Nat}{d':Drawn}{ch:List Addr}(I:Inv X pins σ H s)
  (hch:∀b∈ch,(b∈X.ex∨X.s₀.heap.objs.size<=b)/\b≠X.env.locals/\(∀x c,X.env.cells.lookup x=some c->c≠b)/\∀p∈X.pn++pins,p.1≠b)
  (keep:∀b o,b≠X.env.locals->b∉X.fs->b∉ch->s.heap.get? b=some o->H b=none->h'.get? b=some o)
  (slot:∀b o,b≠X.env.locals->b∈X.fs->b∉ch->s.heap.get? b=some o->H b=none->∃sl,h'.get? b=some { o with slots:=sl }) (free:∀b o,b∉ch->s.heap.get? b=some o->H b=none->H' b=none)
  (there:∀b o,b∉ch->s.heap.get? b=some o->∃o',h'.get? b=some o')
  (tups:∀b xs,H b=some (.tup xs)->H' b=some (.tup xs)) (frzs:∀b o u,H b=some (.frz o u)->H' b=some (.frz o u)) (tbls:∀b ps,H b=some (.tbl ps)->∃more,H' b=some (.tbl (ps++more)))
  (ns:∀m,s.heap.Ns X.env.locals m->h'.Ns X.env.locals m) (hok:HOk X.prog X.w H' h') (hg:AllBare g') :
  Inv X pins σ H' { s with heap:=h',gens:=g',drawn:=d',toks:=t' }:=by
 have neL:∀b o,X.s₀.heap.get? b=some o->b≠X.env.locals:=λb o e=>Nat.ne_of_lt (Nat.lt_of_lt_of_le (Heap.lt_size e) I.ok.above)
 have neC:∀b o,X.s₀.heap.get? b=some o->b∉X.ex->b∉ch:=λb o e hx hb=>by
  rcases (hch b hb).1 with z | z
  ·exact hx z
  ·exact absurd (Nat.lt_of_lt_of_le (Heap.lt_size e) z) (Nat.lt_irrefl _)
 have cellK:∀x c,X.env.cells.lookup x=some c->∀v,s.heap.IsCell c v->h'.IsCell c v:=λx c e v ⟨o,ho,hd⟩=>by
  have nch:c∉ch:=λz=>(hch c z).2.2.1 x c e rfl
  by_cases hc:c∈X.fs
  ·obtain⟨sl,q⟩:=slot c o (I.cne x c e) hc nch ho (I.freeC x c e)
   exact⟨_,q,hd⟩
  ·exact⟨o,keep c o (I.cne x c e) hc nch ho (I.freeC x c e),hd⟩
 refine⟨I.ok,I.os,hg,⟨λb o e n hb hx=>?_,λb o e n hb hx=>?_,λb o e n hx=>?_,λb o e hx=>?_,λb xs e=>tups b xs (I.base.tups b xs e),λb o xs e=>frzs b o xs (I.base.frzs b o xs e),λb ps e=>?_⟩,?_,λx c e=>?_,?_,λx c e=>?_,λp hp=>?_,hok,I.len⟩
 ·exact keep b o (neL b o e) hb (neC b o e hx) (I.base.keep b o e n hb hx) (I.base.free b o e n hx)
 ·obtain⟨sl,e1⟩:=I.base.slot b o e n hb hx
  obtain⟨sl',e2⟩:=slot b _ (neL b o e) hb (neC b o e hx) e1 (I.base.free b o e n hx)
  exact⟨sl',e2⟩
 ·obtain⟨o',e1⟩:=I.base.there b o e hx
  exact free b o' (neC b o e hx) e1 (I.base.free b o e n hx)
 ·obtain⟨o',e1⟩:=I.base.there b o e hx
  exact there b o' (neC b o e hx) e1
 ·obtain⟨m1,e1⟩:=I.base.tbls b ps e
  obtain⟨m2,e2⟩:=tbls b _ e1
  exact⟨m1++m2,by rw[e2,Array.append_assoc]⟩
 ·obtain⟨m,hn,hl⟩:=I.loc
  refine⟨m,ns m hn,λi x v e1 e2 e3=>?_⟩
  obtain⟨u,r,l⟩:=hl i x v e1 e2 e3
  refine⟨u,r,?_⟩
  rcases l with l | ⟨k,c,e,z⟩
  ·exact .inl l
  ·exact .inr ⟨k,c,e,cellK x c e _ z⟩
 ·obtain⟨v,z⟩:=I.cell x c e
  exact⟨v,cellK x c e v z⟩
 ·obtain⟨m,⟨o,_,_,ho,_⟩,_⟩:=I.loc
  exact free _ o (λz=>(hch _ z).2.1 rfl) ho I.free
 ·obtain⟨v,o,ho,hd⟩:=I.cell x c e
  exact free c o (λz=>(hch c z).2.2.1 x c e rfl) ho (I.freeC x c e)
 ·obtain⟨e,n,ne,nf,d⟩:=I.pin p hp
  have nch:p.1∉ch:=λz=>(hch p.1 z).2.2.2 p hp rfl
  exact⟨keep p.1 p.2 ne nf nch e n,free p.1 p.2 nch e n,ne,nf,d⟩
theorem Inv.un {t':Nat}(I:Inv X pins σ H s)(u:Un X.fs [] H H' s.heap h')(hok:HOk X.prog X.w H' h'):Inv X pins σ H' { s with heap:=h',toks:=t' }:=by
 obtain⟨m,⟨o,es,ep,ho,r⟩,_⟩:=id I.loc
 obtain⟨sl,hL⟩:=u.any ho I.free (by simp)
 exact I.step (g':=s.gens) (d':=s.drawn) (ch:=[]) (λ_ z=>nomatch z) (λb o _ hb _ e n=>u.keep b o e n hb (by simp)) (λb o _ hb _ e n=>u.slot b o e n hb (by simp)) (λb o _ e n=>u.free b o e n (by simp)) (λb o _ e=>u.there b o e (by simp)) u.tups u.frzs u.tbls (λm' hm=>by
  obtain⟨o',es',ep',ho',r'⟩:=hm
  rw[ho] at ho';cases ho'
  exact⟨_,es',ep',hL,r'⟩) hok I.bare
theorem Inv.call {g':Array GenState}{t':Nat}{d':Drawn}{ch:List Addr}(I:Inv X pins σ H s)(u:Un (frs X.stack) ch H H' s.heap h')(hok:HOk X.prog X.w H' h')(hg:AllBare g')
  (hch:∀b∈ch,(b∈X.ex∨X.s₀.heap.objs.size<=b)/\b≠X.env.locals/\(∀x c,X.env.cells.lookup x=some c->c≠b)/\∀p∈X.pn++pins,p.1≠b) :
  Inv X pins σ H' { s with heap:=h',gens:=g',drawn:=d',toks:=t' }:=by
 obtain⟨m,⟨o,es,ep,ho,r⟩,_⟩:=id I.loc
 obtain⟨sl,hL⟩:=u.any ho I.free λz=>(hch _ z).2.1 rfl
 exact I.step (ch:=ch) hch (λb o hL hb hc e n=>u.keep b o e n (λz=>(List.mem_cons.mp (I.stkSub b z)).elim hL hb) hc) (λb o _ _ hc e n=>u.any e n hc) (λb o hc e n=>u.free b o e n hc) (λb o hc e=>u.there b o e hc) u.tups u.frzs u.tbls (λm' hm=>by
  obtain⟨o',es',ep',ho',r'⟩:=hm
  rw[ho] at ho';cases ho'
  exact⟨_,es',ep',hL,r'⟩) hok hg
theorem Inv.turned {t':Nat}{it:Addr}(I:Inv X pins σ H s)(k:∀b o,b≠it->s.heap.get? b=some o->h'.get? b=some o)(hn:H it=none)(hL:it≠X.env.locals)
  (h1:it∈X.ex∨X.s₀.heap.objs.size<=it) (h2:∀x c,X.env.cells.lookup x=some c->c≠it) (h3:∀p∈X.pn++pins,p.1≠it):Inv X pins σ H { s with heap:=h',toks:=t' }:=by
 have nit:∀b u,H b=some u->b≠it:=λb u e z=>by rw[z,hn] at e;cases e
 refine I.step (g':=s.gens) (d':=s.drawn) (ch:=[it]) (λb hb=>?_) (λb o _ _ hc e _=>k b o (λz=>hc (by simp[z])) e) (λb o _ _ hc e _=>⟨o.slots,k b o (λz=>hc (by simp[z])) e⟩) (λ_ _ _ _ n=>n)
  (λb o hc e=>⟨o,k b o (λz=>hc (by simp[z])) e⟩) (λ_ _ e=>e) (λ_ _ _ e=>e) (λb ps e=>⟨#[],by rw[e];simp⟩) (λm hm=>?_) (λb u e=>?_) I.bare
 ·have e:b=it:=by simpa using hb
  subst e
  exact⟨h1,hL,h2,h3⟩
 ·obtain⟨o,es,ep,ho,r⟩:=hm
  exact⟨o,es,ep,k _ o (Ne.symm hL) ho,r⟩
 ·refine (I.hok b u e).stay (λc v hc q=>k c v ?_ q) (λ_ q=>q) λ_ _ q=>q
  rcases hc with z | z
  ·rw[z];exact nit b u e
  ·exact nit c _ z
theorem Inv.tok (I:Inv X pins σ H s)(t:Nat):Inv X pins σ H { s with toks:=t }:=I.un (h':=s.heap) (t':=t) Un.refl I.hok
theorem Inv.kept {t':Nat}(I:Inv X pins σ H s)(k:∀b u,s.heap.get? b=some u->h'.get? b=some u):Inv X pins σ H { s with heap:=h',toks:=t' }:=I.un (Un.kept k) (I.hok.kept k)
theorem Inv.laid {a:Addr}{o:HO}{t':Nat}(I:Inv X pins σ H s)(k:∀b u,s.heap.get? b=some u->h'.get? b=some u)(hp:s.heap.objs.size<=a)(new:ObjOk X.prog X.w (upd H a o) h' a o) :
  Inv X pins σ (upd H a o) { s with heap:=h',toks:=t' }:=I.un (Un.laid k hp (I.hok.fresh hp)) (I.hok.laid k hp new)
theorem Inv.write {x e:Addr}{o:HO}{t':Nat}(I:Inv X pins σ H s)(mu:Mut (H x))(he:e=x∨H e=some (.own x))(k:∀b u,b≠e->s.heap.get? b=some u->h'.get? b=some u)(heo:∃u,h'.get? e=some u)
  (new:ObjOk X.prog X.w (upd H x o) h' x o):Inv X pins σ (upd H x o) { s with heap:=h',toks:=t' }:=I.un (Un.write mu he k heo) (I.hok.write mu he k heo new)
theorem Inv.pins_of {pins':List (Addr×Obj)}(I:Inv X pins σ H s)(h:∀p∈pins',s.heap.get? p.1=some p.2/\H p.1=none/\p.1≠X.env.locals/\p.1∉X.fs/\∀v,p.2.data≠.cell v):Inv X pins' σ H s :=
 ⟨I.ok,I.os,I.bare,I.base,I.loc,I.cell,I.free,I.freeC,λp hp=>(List.mem_append.mp hp).elim (λz=>I.pin p (List.mem_append_left _ z)) (h p),I.hok,I.len⟩
theorem kh {N:List Str}(hN:N.Nodup){i j:Nat}{x:Str}(a:N[i]?=some x)(b:N[j]?=some x):i=j:=by
 obtain⟨h1,e1⟩:=List.getElem?_eq_some_iff.mp a
 obtain⟨h2,e2⟩:=List.getElem?_eq_some_iff.mp b
 exact (List.getElem_inj hN).mp (e1.trans e2.symm)
theorem jQ {M:Model}{A:Around}{E:Value->Shared->Prop}{i:Nat}{x:Str}{v:V}{u:Value}{Q:Unit->Shared->Prop}(I:Inv X pins σ H s)(hN:X.N.Nodup)(hi:X.N[i]?=some x)(hx:Loc X.env.scope x)(r:RelV v u)
  (h:∀s',Inv X pins (σ.set i (some v)) H s'->(∃a,Heap.SameBut a s.heap s'.heap/\(a=X.env.locals∨X.env.cells.lookup x=some a))->Q () s') (hf:X.fn x=true∨X.env.scope.names.lookup x=some .local:=by first | exact .inl rfl | exact .inr rfl | assumption):wpAny M A (storeName X.env x u) Q E s:=by
 obtain⟨m,hn,hl⟩:=id I.loc
 have hcls:(X.env.scope.kind==.class||(X.env.scope.kind==.module&&X.env.locals != X.env.globals))=false:=by rw[I.ok.kind];rfl
 have hiσ:i < σ.length:=by rw[I.len];exact (List.getElem?_eq_some_iff.mp hi).1
 have cne:=I.cne
 have tracked:∀ {a:Addr} {h':Heap},(∃o,s.heap.get? a=some o/\H a=none)->Heap.SameBut a s.heap h'->HOk X.prog X.w H h':=fun {a h'} ha hs b ob e=>by
  obtain⟨_,_,hfree⟩:=ha
  refine (I.hok b ob e).stay (λc w' hc q=>(hs.2 c ?_).trans q) (λ_ q=>q) λ_ _ q=>q
  rintro rfl
  rcases hc with rfl | hc
  ·rw[hfree] at e;cases e
  ·rw[hfree] at hc;cases hc
 rcases hx with hk | hk
 ·refine wpAny_storeName_local hk hn (λh' hn' hs=>?_) hcls
  obtain⟨oL,_,_,hoL,_⟩:=id hn
  refine h _ ⟨I.ok,I.os,I.bare,⟨λb o e n hb hx=>?_,λb o e n hb hx=>?_,I.base.free,λb o e hx=>?_,I.base.tups,I.base.frzs,I.base.tbls⟩,⟨_,hn',λj y v' e1 e2 e3=>?_⟩,λy c e=>?_,I.free,I.freeC,λp hp=>?_,tracked ⟨oL,hoL,I.free⟩ hs,by simpa using I.len⟩ ⟨_,hs,.inl rfl⟩
  ·exact (hs.2 b (Nat.ne_of_lt (Nat.lt_of_lt_of_le (Heap.lt_size e) I.ok.above))).trans (I.base.keep b o e n hb hx)
  ·obtain⟨sl,e1⟩:=I.base.slot b o e n hb hx
   exact⟨sl,(hs.2 b (Nat.ne_of_lt (Nat.lt_of_lt_of_le (Heap.lt_size e) I.ok.above))).trans e1⟩
  ·obtain⟨o',e1⟩:=I.base.there b o e hx
   exact⟨o',(hs.2 b (Nat.ne_of_lt (Nat.lt_of_lt_of_le (Heap.lt_size e) I.ok.above))).trans e1⟩
  ·by_cases hj:j=i
   ·subst hj
    rw[hi] at e1;cases e1
    rw[List.getElem?_set_self hiσ] at e2
    cases e2
    exact⟨u,r,.inl ⟨hk,by simp⟩⟩
   ·rw[List.getElem?_set_ne (Ne.symm hj)] at e2
    obtain⟨u',r',q⟩:=hl j y v' e1 e2 e3
    refine⟨u',r',?_⟩
    rcases q with⟨k,e⟩ | ⟨k,c,e,z⟩
    ·refine .inl ⟨k,?_⟩
     have:y≠x:=λe=>hj (kh hN e1 (e ▸ hi))
     simp[this,e]
    ·exact .inr ⟨k,c,e,z.sameBut hs (cne y c e)⟩
  ·obtain⟨w',z⟩:=I.cell y c e
   exact⟨w',z.sameBut hs (cne y c e)⟩
  ·obtain⟨e,n,ne,nf,d⟩:=I.pin p hp
   exact⟨(hs.2 p.1 ne).trans e,n,ne,nf,d⟩
 ·have hfn:X.fn x=true:=by
   rcases hf with z | z
   ·exact z
   ·rw[z] at hk;cases hk
  obtain⟨c,hc⟩:=I.ok.has x (.inl hk)
  obtain⟨w',z⟩:=I.cell x c hc
  refine wpAny_storeName_cell I.ok.kind hk hc z (λh' hc' hs=>?_)
  obtain⟨oc,hoc,hocd⟩:=id z
  refine h { s with heap:=h' } ⟨I.ok,I.os,I.bare,⟨λb o e n hb hx=>?_,λb o e n hb hx=>?_,I.base.free,λb o e hx=>?_,I.base.tups,I.base.frzs,I.base.tbls⟩,⟨m,hn.sameBut hs (Ne.symm (cne x c hc)),λj y v' e1 e2 e3=>?_⟩,λy c' e=>?_,I.free,I.freeC,λp hp=>?_,tracked ⟨oc,hoc,I.freeC x c hc⟩ hs,by simpa using I.len⟩ ⟨c,hs,.inr hc⟩
  ·exact (hs.2 b (Nat.ne_of_lt (Nat.lt_of_lt_of_le (Heap.lt_size e) (I.ok.cab x c hfn hc)))).trans (I.base.keep b o e n hb hx)
  ·obtain⟨sl,e1⟩:=I.base.slot b o e n hb hx
   exact⟨sl,(hs.2 b (Nat.ne_of_lt (Nat.lt_of_lt_of_le (Heap.lt_size e) (I.ok.cab x c hfn hc)))).trans e1⟩
  ·obtain⟨o',e1⟩:=I.base.there b o e hx
   exact⟨o',(hs.2 b (Nat.ne_of_lt (Nat.lt_of_lt_of_le (Heap.lt_size e) (I.ok.cab x c hfn hc)))).trans e1⟩
  ·by_cases hj:j=i
   ·subst hj
    rw[hi] at e1;cases e1
    rw[List.getElem?_set_self hiσ] at e2
    cases e2
    exact⟨u,r,.inr ⟨.inl hk,c,hc,hc'⟩⟩
   ·rw[List.getElem?_set_ne (Ne.symm hj)] at e2
    obtain⟨u',r',q⟩:=hl j y v' e1 e2 e3
    refine⟨u',r',?_⟩
    rcases q with q | ⟨k,c',e,z'⟩
    ·exact .inl q
    ·refine .inr ⟨k,c',e,z'.sameBut hs ?_⟩
     rintro rfl
     exact hj (kh hN e1 (I.ok.inj _ _ _ e hc ▸ hi))
  ·by_cases hcc:c'=c
   ·subst hcc;exact⟨_,hc'⟩
   ·obtain⟨w2,z2⟩:=I.cell y c' e
    exact⟨w2,z2.sameBut hs hcc⟩
  ·obtain⟨e,n,ne,nf,d⟩:=I.pin p hp
   refine⟨(hs.2 p.1 ?_).trans e,n,ne,nf,d⟩
   intro q
   rw[q,hoc] at e
   have q':oc=p.2:=Option.some.inj e
   exact d w' (by rw[<-q'];exact hocd)
theorem wJ {M:Model}{A:Around}{E:Value->Shared->Prop}{i:Nat}{x:Str}{v:V}{u:Value}{Q:Unit->Shared->Prop}(I:Inv X pins σ H s)(hN:X.N.Nodup)(hi:X.N[i]?=some x)(hx:Loc X.env.scope x)(r:RelV v u)
  (h:∀s',Inv X pins (σ.set i (some v)) H s'->Q () s') (hf:X.fn x=true∨X.env.scope.names.lookup x=some .local:=by first | exact .inl rfl | exact .inr rfl | assumption):wpAny M A (storeName X.env x u) Q E s :=
 jQ I hN hi hx r (λs' I' _=>h s' I') hf
theorem Inv.call' {s':Shared}{ch:List Addr}(I:Inv X pins σ H s)(ho:s'.os=s.os)(u:Un (frs X.stack) ch H H' s.heap s'.heap)(hok:HOk X.prog X.w H' s'.heap)(hg:AllBare s'.gens)
  (hch:∀b∈ch,(b∈X.ex∨X.s₀.heap.objs.size<=b)/\b≠X.env.locals/\(∀x c,X.env.cells.lookup x=some c->c≠b)/\∀p∈X.pn++pins,p.1≠b):Inv X pins σ H' s':=by
 obtain⟨h',g',d',t',o'⟩:=s'
 have e:o'=s.os:=ho
 subst e
 exact I.call (g':=g') (t':=t') (d':=d') u hok hg hch
end
abbrev XK:=Value->Option Addr->Hp->Prop
abbrev St:=List (Option V)
abbrev VK:=V->Hp->Prop
abbrev TE:=St->Hp->VK->Prop
abbrev TT:=St->Hp->(Bool->Hp->Prop)->Prop
abbrev TA:=St->Hp->(List V->Hp->Prop)->Prop
structure Ends where
 nx:St->Hp->Prop
 rt:VK
 bk:St->Hp->Prop:=λ_ _=>False
 ct:St->Hp->Prop:=λ_ _=>False
abbrev TS:=Ends->St->Hp->Prop
def EP (X:Cx)(pins:List (Addr×Obj))(σ:St)(Q:VK)(u:Value)(s':Shared):Prop:=∃v H',Inv X pins σ H' s'/\RelV v u/\Q v H'
def TP (X:Cx)(pins:List (Addr×Obj))(σ:St)(Q:Bool->Hp->Prop)(b:Bool)(s':Shared):Prop:=∃H',Inv X pins σ H' s'/\Q b H'
def AP (X:Cx)(pins:List (Addr×Obj))(σ:St)(Q:List V->Hp->Prop)(us:List Value)(s':Shared):Prop:=∃vs H',Inv X pins σ H' s'/\Vals vs us/\Q vs H'
def SP (X:Cx)(pins:List (Addr×Obj))(D:Ends)(f:Flow)(s':Shared):Prop :=
 match f with
 |.next=>∃σ' H',Inv X pins σ' H' s'/\D.nx σ' H'
 |.brk=>∃σ' H',Inv X pins σ' H' s'/\D.bk σ' H'
 |.cont=>∃σ' H',Inv X pins σ' H' s'/\D.ct σ' H'
 |.ret u=>∃v σ' H',Inv X pins σ' H' s'/\RelV v u/\D.rt v H'
def PE (X:Cx)(e:Expr)(t:TE):Prop :=
 ∀(pins:List (Addr×Obj)) (s:Shared) (σ:St) (H:Hp) (Q:VK),Inv X pins σ H s->t σ H Q->wpAny (model X.prog X.w) X.A (eval e X.env) (EP X pins σ Q) X.xe s
def PT (X:Cx)(e:Expr)(t:TT):Prop :=
 ∀(pins:List (Addr×Obj)) (s:Shared) (σ:St) (H:Hp) (Q:Bool->Hp->Prop),Inv X pins σ H s->t σ H Q->wpAny (model X.prog X.w) X.A (isTrue e X.env (eval e X.env)) (TP X pins σ Q) X.xe s
def PW (X:Cx)(e:Expr)(t:TT):Prop :=
 ∀(whole:Sem Value) (pins:List (Addr×Obj)) (s:Shared) (σ:St) (H:Hp) (Q:Bool->Hp->Prop),Inv X pins σ H s->t σ H Q->wpAny (model X.prog X.w) X.A (isTrue e X.env whole) (TP X pins σ Q) X.xe s
theorem PW.pt {X:Cx}{e:Expr}{t:TT}(h:PW X e t):PT X e t:=h _
def PA (X:Cx)(es:List Expr)(t:TA):Prop :=
 ∀(pos:Pos) (pins:List (Addr×Obj)) (s:Shared) (σ:St) (H:Hp) (Q:List V->Hp->Prop),Inv X pins σ H s->t σ H Q->wpAny (model X.prog X.w) X.A (spliced (backTo pos (starEach es X.env))) (AP X pins σ Q) X.xe s
def PS (X:Cx)(st:Stmt)(t:TS):Prop :=
 ∀(pins:List (Addr×Obj)) (s:Shared) (σ:St) (H:Hp) (D:Ends),Inv X pins σ H s->t D σ H->wpAny (model X.prog X.w) X.A (exec st X.env) (SP X pins D) X.xe s
def PSs (X:Cx)(st:List Stmt)(t:TS):Prop :=
 ∀(pins:List (Addr×Obj)) (s:Shared) (σ:St) (H:Hp) (D:Ends),Inv X pins σ H s->t D σ H->wpAny (model X.prog X.w) X.A (execs st X.env) (SP X pins D) X.xe s
theorem thn {α:Type}{t:Sem α}{Q Q':α->Shared->Prop}{M:Model}{A:Around}{E:Value->Shared->Prop}{s:Shared}(h:wpAny M A t Q E s)(hQ:∀a s,Q a s->Q' a s):wpAny M A t Q' E s:=wpAny_mono h hQ λ_ _ x=>x
section
variable {X:Cx}
def tVar (i:Nat):TE:=λσ H Q=>∃v,σ[i]?=some (some v)/\Q v H
def tC (v:V):TE:=λ_ H Q=>Q v H
theorem xt {i:Nat}{x:Str}{pos:Pos}(hN:X.N[i]?=some x)(hv:Vis X.env.scope x)(hd:(x==("__debug__" : Str))=false:=by decide) (hcd:(x==("__classdict__" : Str))=false:=by decide):PE X (.Name x pos) (tVar i):=by
 intro pins s σ H Q I h
 obtain⟨v,e,h⟩:=h
 obtain⟨m,hn,hl⟩:=I.loc
 obtain⟨u,r,l⟩:=hl i x v hN e hv
 have fin:EP X pins σ Q u s:=⟨v,H,I,r,h⟩
 rcases l with⟨hk,hm⟩ | ⟨hk,c,hc,hcell⟩
 ·exact wpAny_Name (wpAny_loadName_local I.ok.kind hk hn hm fin) hd
 ·rcases hk with hk | hk
  ·exact wpAny_Name (wpAny_loadName_cell I.ok.kind hk hc hcell fin) hd
  ·exact wpAny_Name (wpAny_loadName_free I.ok.kind hk hc hcell fin hcd) hd
theorem Jd {i j pos}:PE X (.Constant (.int i) j pos) (tC (.int i)):=λ_ _ _ H _ I h=>wpAny_Constant_int ⟨.int i,H,I.tok _,⟨_,rfl⟩,h⟩
theorem Ud {b j pos}:PE X (.Constant (.bool b) j pos) (tC (.bl b)):=λ_ _ _ H _ I h=>Constant_bool ⟨.bl b,H,I,rfl,h⟩
theorem VX {j pos}:PE X (.Constant .none j pos) (tC .non):=λ_ _ _ H _ I h=>Constant_none ⟨.non,H,I,rfl,h⟩
theorem K8 {x j pos}:PE X (.Constant (.str x) j pos) (tC (.str x)):=λ_ _ _ H _ I h=>Calls.Constant_str ⟨.str x,H,I.tok _,⟨_,rfl⟩,h⟩
def Gl (X:Cx)(x:Str):Prop:=X.env.kindOf x=some .globalImplicit
theorem yz {E:Value->Shared->Prop}{pins:List (Addr×Obj)}{s:Shared}{σ:St}{H:Hp}{x:Str}{u:Value}{pos:Pos}{Q:Value->Shared->Prop}(I:Inv X pins σ H s)(hg:Gl X x)(hm:X.mg x=some u)(h:Q u s)
  (hd:(x==("__debug__" : Str))=false:=by decide):wpAny (model X.prog X.w) X.A (eval (.Name x pos) X.env) Q E s :=
 Calls.Name_function_global I.ok.kind hg (Calls.loadGlobal_global (by rw[I.ok.glob];exact I.mod.glob.keeps I.bk) hm h) hd
theorem vc {E:Value->Shared->Prop}{pins:List (Addr×Obj)}{s:Shared}{σ:St}{H:Hp}{x:Str}{u:Value}{pos:Pos}{Q:Value->Shared->Prop}(I:Inv X pins σ H s)(hg:Gl X x)(hm:X.mg x=none)(hv:bootBuiltins x=some u)(h:Q u s)
  (hn:x ≠ "__name__" := by decide) (hd:(x==("__debug__" : Str))=false:=by decide):wpAny (model X.prog X.w) X.A (eval (.Name x pos) X.env) Q E s:=by
 obtain⟨mb,h1,h2⟩:=I.mod.blt
 exact Calls.Name_function_global I.ok.kind hg (Calls.loadGlobal_builtin (by rw[I.ok.glob];exact I.mod.glob.keeps I.bk) hm (by rw[I.ok.blt];exact h1.keeps I.bk) ((h2 x hn).trans hv) h) hd
theorem uR {x:Str}{v:V}{u:Value}{pos:Pos}(hg:Gl X x)(hm:X.mg x=some u)(r:RelV v u)(hd:(x==("__debug__" : Str))=false:=by decide):PE X (.Name x pos) (tC v) :=
 λ_ _ _ H _ I h=>yz I hg hm ⟨v,H,I,r,h⟩ hd
theorem uX {x:Str}{v:V}{u:Value}{pos:Pos}(hg:Gl X x)(hm:X.mg x=none)(hv:bootBuiltins x=some u)(r:RelV v u)(hn:x ≠ "__name__" := by decide) (hd:(x==("__debug__" : Str))=false:=by decide):PE X (.Name x pos) (tC v) :=
 λ_ _ _ H _ I h=>vc I hg hm hv ⟨v,H,I,r,h⟩ hn hd
variable {a b:Expr}{ta tb:TE}{pos:Pos}
def PC (X:Cx)(op:CmpOp)(a b:Expr)(t:TE):Prop :=
 ∀(pins:List (Addr×Obj)) (s:Shared) (σ:St) (H:Hp) (Q:VK),Inv X pins σ H s->t σ H Q ->
  wpAny (model X.prog X.w) X.A (eval a X.env) (λv s₁=>wpAny (model X.prog X.w) X.A (eval b X.env) (λu s₂=>wpAny (model X.prog X.w) X.A (compareOp op v u) (EP X pins σ Q) X.xe s₂) X.xe s₁) X.xe s
theorem Qk (b:Expr){op:CmpOp}(h:op≠.In)(h2:op≠.NotIn):behindInMarks op b=false:=by
 have e1:(op==CmpOp.In)=false:=by cases op<;>first | rfl | exact absurd rfl h
 have e2:(op==CmpOp.NotIn)=false:=by cases op<;>first | rfl | exact absurd rfl h2
 cases b<;>simp[behindInMarks,e1,e2]
def tIsN (ta:TE):TE:=λσ H Q=>ta σ H λx H1=>Q (.bl (decide (x=.non))) H1
theorem RelV.none_iff {x:V}{v:Value}(r:RelV x v):(v==Value.none)=decide (x=.non):=by
 cases x with
 |non=>cases r;rfl
 |bl _=>cases r;rfl
 |int _=>obtain⟨t,rfl⟩:=r;rfl
 |str _=>obtain⟨t,rfl⟩:=r;rfl
 |byt _=>obtain⟨t,rfl⟩:=r;rfl
 |flt _=>obtain⟨t,rfl⟩:=r;rfl
 |ref _=>cases r;rfl
 |ty _=>cases r;rfl
theorem uH {j pos'}(ha:PE X a ta):PC X .Is a (.Constant .none j pos') (tIsN ta):=by
 intro pins s σ H Q I h
 refine thn (ha pins s σ H _ I h) λv s1 ⟨x,H1,I1,r1,q1⟩=>?_
 exact Constant_none (is_none_gen ⟨.bl _,H1,I1,by rw[r1.none_iff];rfl,q1⟩)
def tB (t:TE):TT:=λσ H Q=>t σ H λx H1=>∃c,x=.bl c/\Q c H1
theorem Zy {op:CmpOp}{t:TE}(h:PC X op a b t)(h1:behindInMarks op b=false:=by first | exact Qk _ (by decide) (by decide) | rfl):PT X (.Compare a [op] [b] pos) (tB t):=by
 intro pins s σ H Q I hw
 refine wpAny_isTrue_Compare1 (thn (h pins s σ H _ I hw) λv s1 h1=>thn h1 λu s2 h2=>thn h2 λc s3 ⟨x,H1,I1,r1,q1⟩=>?_) h1
 obtain⟨d,rfl,q⟩:=q1
 cases r1
 exact wpAny_truthy_bool ⟨H1,I1,q⟩
variable {tA tB':TT}{rest:List Expr}
def tAnd (t u:TT):TT:=λσ H Q=>t σ H λc H1=>if c=true then u σ H1 Q else Q false H1
def tOr (t u:TT):TT:=λσ H Q=>t σ H λc H1=>if c=true then Q true H1 else u σ H1 Q
def tNot (t:TT):TT:=λσ H Q=>t σ H λc H1=>Q (!c) H1
theorem WD (ha:PT X a tA):PW X (.BoolOp .And [a] pos) tA:=by
 intro wh pins s σ H Q I h
 refine isTrue_and (thn (ha pins s σ H Q I h) λc s1 e=>?_)
 cases c with
 |true=>exact isTrue_and_nil e
 |false=>exact e
theorem UA (ha:PT X a tA):PW X (.BoolOp .Or [a] pos) tA:=by
 intro wh pins s σ H Q I h
 refine isTrue_or (thn (ha pins s σ H Q I h) λc s1 e=>?_)
 cases c with
 |false=>exact isTrue_or_nil e
 |true=>exact e
theorem Vg (ha:PT X a tA)(hb:PW X (.BoolOp .And (b::rest) pos) tB'):PW X (.BoolOp .And (a::b::rest) pos) (tAnd tA tB'):=by
 intro wh pins s σ H Q I h
 refine isTrue_and (thn (ha pins s σ H _ I h) λc s1 ⟨H1,I1,q1⟩=>?_)
 cases c with
 |true=>exact hb wh pins s1 σ H1 Q I1 q1
 |false=>exact⟨H1,I1,q1⟩
theorem WN (ha:PT X a tA)(hb:PW X (.BoolOp .Or (b::rest) pos) tB'):PW X (.BoolOp .Or (a::b::rest) pos) (tOr tA tB'):=by
 intro wh pins s σ H Q I h
 refine isTrue_or (thn (ha pins s σ H _ I h) λc s1 ⟨H1,I1,q1⟩=>?_)
 cases c with
 |true=>exact⟨H1,I1,q1⟩
 |false=>exact hb wh pins s1 σ H1 Q I1 q1
theorem Qf (ha:PT X a tA):PT X (.UnaryOp .Not a pos) (tNot tA):=by
 intro pins s σ H Q I h
 exact isTrue_not (ha pins s σ H (λc H1=>Q (!c) H1) I h)
def tAndV (ta tb:TE):TE:=λσ H Q=>ta σ H λx H1=>∃c,x=.bl c/\if c=true then tb σ H1 Q else Q (.bl false) H1
def tNotV (ta:TE):TE:=λσ H Q=>ta σ H λx H1=>∃c,x=.bl c/\Q (.bl (!c)) H1
theorem u3 {op}{t:TE}(h:PE X a t):PE X (.BoolOp op [a] pos) t:=λpins s σ H Q I hw=>BoolOp_one (h pins s σ H Q I hw)
theorem Z5 (ha:PE X a ta)(hb:PE X (.BoolOp .And (b::rest) pos) tb):PE X (.BoolOp .And (a::b::rest) pos) (tAndV ta tb):=by
 intro pins s σ H Q I h
 refine BoolOp_and (thn (ha pins s σ H _ I h) λv s1 ⟨x,H1,I1,r1,q1⟩=>?_)
 obtain⟨c,rfl,q1⟩:=q1
 cases r1
 refine wpAny_truthy_bool ?_
 cases c with
 |true=>exact hb pins s1 σ H1 Q I1 q1
 |false=>exact⟨.bl false,H1,I1,rfl,q1⟩
theorem Ut (ha:PE X a ta):PE X (.UnaryOp .Not a pos) (tNotV ta):=by
 intro pins s σ H Q I h
 refine UnaryOp_ (thn (ha pins s σ H _ I h) λv s1 ⟨x,H1,I1,r1,q1⟩=>?_)
 obtain⟨c,rfl,q1⟩:=q1
 cases r1
 exact not_of (wpAny_truthy_bool ⟨.bl (!c),H1,I1,rfl,q1⟩)
def tIf (t:TT)(ta tb:TE):TE:=λσ H Q=>t σ H λc H1=>if c=true then ta σ H1 Q else tb σ H1 Q
theorem kl {c:Expr}(hc:PT X c tA)(ha:PE X a ta)(hb:PE X b tb):PE X (.IfExp c a b pos) (tIf tA ta tb):=by
 intro pins s σ H Q I h
 refine wpAny_IfExp (thn (hc pins s σ H _ I h) λd s1 ⟨H1,I1,q1⟩=>?_)
 cases d with
 |true=>exact ha pins s1 σ H1 Q I1 q1
 |false=>exact hb pins s1 σ H1 Q I1 q1
end
def SqL (K:PySem.W.Frag)(H:Hp)(a:Addr)(xs:List V):Prop :=
 Rd H a (.lst xs) ∨
  ∃(o:Obj) (its:Array Value) (n:Nat),K.lookup a=some o/\o.cls=.type "list" /\ o.dict=none/\o.data=.seq its n/\its.size<=sizeLine/\Vals xs its.toList
def SqT (K:PySem.W.Frag)(H:Hp)(a:Addr)(xs:List V):Prop :=
 Rd H a (.tup xs) ∨
  ∃(o:Obj) (its:Array Value) (n:Nat),K.lookup a=some o/\o.cls=.type "tuple" /\ o.data=.seq its n/\its.size<=sizeLine/\Vals xs its.toList
def absV:Value->Option V
 |.none=>some .non
 |.bool b=>some (.bl b)
 |.int i _=>some (.int i)
 |.str x _=>some (.str x)
 |.bytes b _=>some (.byt b)
 |.float b _=>some (.flt b)
 |.ref a=>some (.ref a)
 |.type n=>some (.ty n)
 |_=>none
theorem RelV.abs {x:V}{u:Value}(r:RelV x u):absV u=some x:=by
 cases x with
 |non=>cases r;rfl
 |bl _=>cases r;rfl
 |int _=>obtain⟨t,rfl⟩:=r;rfl
 |str _=>obtain⟨t,rfl⟩:=r;rfl
 |byt _=>obtain⟨t,rfl⟩:=r;rfl
 |flt _=>obtain⟨t,rfl⟩:=r;rfl
 |ref _=>cases r;rfl
 |ty _=>cases r;rfl
theorem RelV.inj {x y:V}{u:Value}(r:RelV x u)(q:RelV y u):x=y:=Option.some.inj (r.abs.symm.trans q.abs)
theorem Vals.inj:∀ {xs ys:List V} {us:List Value},Vals xs us->Vals ys us->xs=ys
 |_,_,_,.nil,.nil=>rfl
 |_,_,_,.cons r t,.cons r' t'=>by rw[r.inj r',Vals.inj t t']
section
variable {X:Cx}{pins:List (Addr×Obj)}{σ:St}{H:Hp}{s:Shared}{a:Addr}{xs ys:List V}
theorem SqL.of {K:PySem.W.Frag}(h:H a=some (.lst xs)):SqL K H a xs:=.inl (.inl h)
theorem SqT.of {K:PySem.W.Frag}(h:H a=some (.tup xs)):SqT K H a xs:=.inl (.inl h)
theorem Inv.list (I:Inv X pins σ H s)(h:SqL X.K H a xs):∃its:List Value,Vals xs its/\PlainL s.heap a its.toArray/\xs.length<=sizeLine:=by
 rcases h with h | ⟨o,its,n,hk,hc,hd,hs,hz,r⟩
 ·obtain⟨z,its,n,r,e⟩:=h.ok I.hok
  exact⟨its,r,⟨_,n,e,rfl,rfl,rfl⟩,z⟩
 ·refine⟨its.toList,r,⟨o,n,I.kIn a o hk,hc,hd,by simpa using hs⟩,?_⟩
  have e:=r.length
  simp only[Array.length_toList] at e
  omega
theorem Inv.tuple (I:Inv X pins σ H s)(h:SqT X.K H a xs):∃its:List Value,Vals xs its/\IsTup s.heap a its.toArray/\xs.length<=sizeLine:=by
 rcases h with h | ⟨o,its,n,hk,hc,hs,hz,r⟩
 ·obtain⟨z,its,r,p⟩:=h.ok I.hok
  exact⟨its,r,p,z⟩
 ·refine⟨its.toList,r,⟨o,I.kIn a o hk,hc,n,by simpa using hs⟩,?_⟩
  have e:=r.length
  simp only[Array.length_toList] at e
  omega
theorem Inv.list_inj (I:Inv X pins σ H s)(h:SqL X.K H a xs)(h':SqL X.K H a ys):xs=ys:=by
 obtain⟨its,r,⟨o,n,e,_,_,d⟩,_⟩:=I.list h
 obtain⟨its',r',⟨o',n',e',_,_,d'⟩,_⟩:=I.list h'
 rw[e] at e';cases e'
 rw[d] at d'
 injection d' with d1 _
 have:its=its':=by simpa using congrArg Array.toList d1
 subst this
 exact r.inj r'
end
abbrev Cx.wish (X:Cx)(E:Value->Shared->Prop):Cx:={ X with xe:=E }
abbrev Cx.nox (X:Cx):Cx:=X.wish λ_ _=>False
theorem Cx.Ok.wish {X:Cx}(ok:X.Ok)(E:Value->Shared->Prop):(X.wish E).Ok :=
 ⟨ok.mod,ok.kind,ok.glob,ok.blt,ok.above,ok.inj,ok.has,ok.cab,ok.hd,ok.frames,ok.stk,ok.exf,ok.bs,ok.bsz,ok.noex,ok.exfs,ok.funs,ok.frf⟩
theorem Cx.Ok.unwish {X:Cx}{E:Value->Shared->Prop}(ok:(X.wish E).Ok):X.Ok :=
 ⟨ok.mod,ok.kind,ok.glob,ok.blt,ok.above,ok.inj,ok.has,ok.cab,ok.hd,ok.frames,ok.stk,ok.exf,ok.bs,ok.bsz,ok.noex,ok.exfs,ok.funs,ok.frf⟩
section
variable {X:Cx}{pins:List (Addr×Obj)}{σ:St}{H:Hp}{s:Shared}{E:Value->Shared->Prop}
theorem Inv.wish (I:Inv X pins σ H s)(E:Value->Shared->Prop):Inv (X.wish E) pins σ H s:=⟨I.ok.wish E,I.os,I.bare,I.base,I.loc,I.cell,I.free,I.freeC,I.pin,I.hok,I.len⟩
theorem Inv.unwish (I:Inv (X.wish E) pins σ H s):Inv X pins σ H s:=⟨I.ok.unwish,I.os,I.bare,I.base,I.loc,I.cell,I.free,I.freeC,I.pin,I.hok,I.len⟩
theorem SP.unwish {D:Ends}{f:Flow}{s':Shared}(h:SP (X.wish E) pins D f s'):SP X pins D f s':=by
 cases f with
 |next=>obtain⟨σ',H',I,q⟩:=h;exact⟨σ',H',I.unwish,q⟩
 |brk=>obtain⟨σ',H',I,q⟩:=h;exact⟨σ',H',I.unwish,q⟩
 |cont=>obtain⟨σ',H',I,q⟩:=h;exact⟨σ',H',I.unwish,q⟩
 |ret u=>obtain⟨v,σ',H',I,r,q⟩:=h;exact⟨v,σ',H',I.unwish,r,q⟩
theorem PT.nox {e:Expr}{t:TT}(h:PT X.nox e t):PT X e t:=λpins s σ H Q I hw=>
 wpAny_mono (h pins s σ H Q (I.wish _) hw) (λ_ _ ⟨H',I',q⟩=>⟨H',I'.unwish,q⟩) λ_ _ z=>False.elim z
theorem PSs.nox {st:List Stmt}{t:TS}(h:PSs X.nox st t):PSs X st t:=λpins s σ H D I hw=>
 wpAny_mono (h pins s σ H D (I.wish _) hw) (λ_ _ q=>q.unwish) λ_ _ z=>False.elim z
end
section
variable {X:Cx}{st:Stmt}{rest:List Stmt}{t u:TS}{e:Expr}{te:TE}{pos:Pos}
def tNext:TS:=λD σ H=>D.nx σ H
def tSeq (t u:TS):TS:=λD σ H=>t { D with nx:=u D } σ H
theorem Yf:PSs X [] tNext:=λ_ _ σ H _ I h=>wpAny_execs_nil ⟨σ,H,I,h⟩
theorem yi (h1:PS X st t)(h2:PSs X rest u):PSs X (st::rest) (tSeq t u):=by
 intro pins s σ H D I h
 refine wpAny_execs_cons (thn (h1 pins s σ H { D with nx:=u D } I h) λf s1 q=>?_)
 cases f with
 |next=>
  obtain⟨σ',H',I',q⟩:=q
  exact h2 pins s1 σ' H' D I' q
 |ret v=>exact q
 |brk=>exact q
 |cont=>exact q
theorem ZH (h1:PS X st t):PSs X [st] t:=by
 intro pins s σ H D I h
 refine wpAny_execs_cons (thn (h1 pins s σ H D I h) λf s1 q=>?_)
 cases f with
 |next=>exact wpAny_execs_nil q
 |ret v=>exact q
 |brk=>exact q
 |cont=>exact q
theorem Inv.quiet {pins:List (Addr×Obj)}{σ:St}{H:Hp}{s:Shared}(I:Inv X pins σ H s):interactive X.env=false:=by simp[interactive,I.ok.kind]
def tDrop (te:TE):TS:=λD σ H=>te σ H λ_ H1=>D.nx σ H1
theorem jc (he:PE X e te)(hs:swapsWith e none pos.line X.env=pure false:=by rfl):PS X (.Expr e pos) (tDrop te):=by
 intro pins s σ H D I h
 exact wpAny_Expr_any (thn (he pins s σ H _ I h) λv s1 ⟨x,H1,I1,r1,q1⟩=>⟨σ,H1,I1,q1⟩) I.quiet hs
def tRet (te:TE):TS:=λD σ H=>te σ H D.rt
theorem vj (he:PE X e te):PS X (.Return (some e) pos) (tRet te):=by
 intro pins s σ H D I h
 exact wpAny_Return_some (thn (he pins s σ H _ I h) λv s1 ⟨x,H1,I1,r1,q1⟩=>⟨x,σ,H1,I1,r1,q1⟩)
def tIfS (c:TT)(t u:TS):TS:=λD σ H=>c σ H λb H1=>if b=true then t D σ H1 else u D σ H1
theorem Yu {c:Expr}{a b:List Stmt}{tc:TT}(hc:PT X c tc)(ha:PSs X a t)(hb:PSs X b u):PS X (.If c a b pos) (tIfS tc t u):=by
 intro pins s σ H D I h
 refine wpAny_If (thn (hc pins s σ H _ I h) λd s1 ⟨H1,I1,q1⟩=>?_)
 cases d with
 |true=>exact ha pins s1 σ H1 D I1 q1
 |false=>exact hb pins s1 σ H1 D I1 q1
def tNever:TS:=λ_ _ _=>False
theorem KN:PS X st tNever:=λ_ _ _ _ _ _ h=>h.elim
end
abbrev TG:=V->St->Hp->(St->Hp->Prop)->Prop
abbrev TGs:=List V->St->Hp->(St->Hp->Prop)->Prop
def PG (X:Cx)(target:Expr)(t:TG):Prop :=
 ∀(pins:List (Addr×Obj)) (s:Shared) (σ:St) (H:Hp) (v:V) (u:Value) (Q:St->Hp->Prop),Inv X pins σ H s->RelV v u->t v σ H Q ->
  wpAny (model X.prog X.w) X.A (assign target X.env u) (λ_ s'=>∃σ' H',Inv X pins σ' H' s'/\Q σ' H') X.xe s
def PGs (X:Cx)(ts:List Expr)(t:TGs):Prop :=
 ∀(pins:List (Addr×Obj)) (s:Shared) (σ:St) (H:Hp) (vs:List V) (us:List Value) (Q:St->Hp->Prop),Inv X pins σ H s->Vals vs us->t vs σ H Q ->
  wpAny (model X.prog X.w) X.A (assignInOrder ((assignEach ts X.env).map (·.2)) us) (λ_ s'=>∃σ' H',Inv X pins σ' H' s'/\Q σ' H') X.xe s
abbrev TSet:=V->V->V->Hp->(Hp->Prop)->Prop
def PSet (X:Cx)(t:TSet):Prop :=
 ∀(pins:List (Addr×Obj)) (s:Shared) (σ:St) (H:Hp) (o i v:V) (ov iv u:Value) (Q:Hp->Prop),Inv X pins σ H s->RelV o ov->RelV i iv->RelV v u->t o i v H Q ->
  wpAny (model X.prog X.w) X.A (setItem ov iv u) (λ_ s'=>∃H',Inv X pins σ H' s'/\Q H') X.xe s
section
variable {X:Cx}{pos:Pos}
def gName (i:Nat):TG:=λv σ H Q=>Q (σ.set i (some v)) H
theorem zo {i:Nat}{x:Str}(hN:X.N.Nodup)(hi:X.N[i]?=some x)(hx:Loc X.env.scope x)(hf:X.fn x=true∨X.env.scope.names.lookup x=some .local:=by first | exact .inl rfl | exact .inr rfl | assumption):PG X (.Name x pos) (gName i):=by
 intro pins s σ H v u Q I r h
 exact wpAny_assign_Name (wJ I hN hi hx r (λs' I'=>⟨_,H,I',h⟩) hf)
def gNil:TGs:=λvs σ H Q=>vs=[]/\Q σ H
def gCons (t:TG)(u:TGs):TGs:=λvs σ H Q=>∃v r,vs=v::r/\t v σ H λσ' H'=>u r σ' H' Q
theorem zR:PGs X [] gNil:=by
 intro pins s σ H vs us Q I r h
 obtain⟨e,h⟩:=h
 subst e
 cases r
 exact assignInOrder_nil ⟨σ,H,I,h⟩
theorem zx {e:Expr}{es:List Expr}{t:TG}{u:TGs}(h1:PG X e t)(h2:PGs X es u)
  (hs:(assignEach (e::es) X.env).map (·.2)=assign e X.env::(assignEach es X.env).map (·.2):=by rfl):PGs X (e::es) (gCons t u):=by
 intro pins s σ H vs us Q I r h
 obtain⟨v,vr,e1,h⟩:=h
 subst e1
 cases r with
 |cons r rr=>
  rw[hs]
  refine assignInOrder_cons (thn (h1 pins s σ H _ _ _ I r h) λ_ s1 ⟨σ1,H1,I1,q1⟩=>?_)
  exact h2 pins s1 σ1 H1 _ _ Q I1 rr q1
def gTup (K:PySem.W.Frag)(n:Nat)(t:TGs):TG:=λv σ H Q=>∃a xs,v=.ref a/\SqT K H a xs/\xs.length=n/\t xs σ H Q
theorem zU {es:List Expr}{k:Nat}{t:TGs}{n:Nat}(hc:X.calm=true)(h:PGs X es t)
  (hn:(assignEach es X.env).length=n:=by rfl) (hst:(assignEach es X.env).findIdx? (·.1)=none:=by rfl):PG X (.Tuple es k pos) (gTup X.K n t):=by
 intro pins s σ H v u Q I r hw
 obtain⟨a,xs,e1,hq,hl,hw⟩:=hw
 subst e1
 cases r
 obtain⟨its,rv,ht,hz⟩:=I.tuple hq
 refine assign_Tuple_tuple (I.ok.hd hc) ht (by simp[hn,<-hl,rv.length]) hst λh' hx=>?_
 have I1:Inv X pins σ H { s with heap:=h' }:=I.kept (t':=s.toks) λb o e=>hx b o (Nat.ne_of_lt (Heap.lt_size e)) e
 exact h pins _ σ H xs _ Q I1 (by simpa using rv) hw
def gSub (to ti:TE)(t:TSet):TG:=λv σ H Q=>to σ H λo H1=>ti σ H1 λi H2=>t o i v H2 λH3=>Q σ H3
theorem U7 {o i:Expr}{to ti:TE}{t:TSet}(ho:PE X o to)(hi:PE X i ti)(hs:PSet X t)
  (ha:∀v,assign (.Subscript o i pos) X.env v=(do
   let ov <-holding [v] (eval o X.env)
   let iv <-holding [v,ov] (eval i X.env)
   standAt pos
   holding [v,ov,iv] (setItem ov iv v)
   release [v,ov,iv] []):=by intro _;rfl):PG X (.Subscript o i pos) (gSub to ti t):=by
 intro pins s σ H v u Q I r h
 rw[ha]
 refine wpAny_bind (wpAny_holding (thn (ho pins s σ H _ I h) λov s1 ⟨x,H1,I1,r1,q1⟩=>?_))
 refine wpAny_bind (wpAny_holding (thn (hi pins s1 σ H1 _ I1 q1) λiv s2 ⟨y,H2,I2,r2,q2⟩=>?_))
 refine wpAny_bind (wpAny_standAt (wpAny_bind (wpAny_holding (thn (hs pins s2 σ H2 x y v ov iv u _ I2 r1 r2 r q2) λ_ s3 ⟨H3,I3,q3⟩=>?_))))
 exact wpAny_release ⟨σ,H3,I3,q3⟩
def tAsg (te:TE)(g:TG):TS:=λD σ H=>te σ H λx H1=>g x σ H1 D.nx
theorem kB {tg e:Expr}{te:TE}{g:TG}(he:PE X e te)(hg:PG X tg g)(hs:swapsWithSole [tg] e pos.line X.env=pure false:=by rfl)(hw:swappedStores [tg] e X.env=pure none:=by rfl)
  (h1:(assignEach [tg] X.env).map (·.2)=[assign tg X.env]:=by rfl):PS X (.Assign [tg] e pos) (tAsg te g):=by
 intro pins s σ H D I h
 refine wpAny_Assign_stores (thn (he pins s σ H _ I h) λv s1 ⟨x,H1,I1,r1,q1⟩=>?_) hs hw
 rw[h1]
 exact thn (hg pins s1 σ H1 x v _ I1 r1 q1) λ_ s2 q=>q
theorem y0 {i:Nat}{x:Str}{e:Expr}{te:TE}{pos':Pos}(hN:X.N.Nodup)(hi:X.N[i]?=some x)(hx:Loc X.env.scope x)(he:PE X e te)(hs:swapsWith e (some (.Name x pos')) pos.line X.env=pure false:=by rfl)(hf:X.fn x=true∨X.env.scope.names.lookup x=some .local:=by first | exact .inl rfl | exact .inr rfl | assumption) :
  PS X (.Assign [.Name x pos'] e pos) (tAsg te (gName i)):=by
 intro pins s σ H D I h
 refine wpAny_Assign_Name (thn (he pins s σ H _ I h) λv s1 ⟨y,H1,I1,r1,q1⟩=>?_) hs
 exact wJ I1 hN hi hx r1 (λs2 I2=>⟨_,H1,I2,q1⟩) hf
end
section
variable {X:Cx}{pos:Pos}
def tWhile (c:TT)(tb:TS):TS:=λD σ H=>∃W:Nat->St->Hp->Prop,(∃m,W m σ H)/\∀m σ H,W m σ H ->
 c σ H λb H1=>if b=true then ∃N:St->Hp->Prop,(∀σ' H',N σ' H'->∃m',m' < m/\W m' σ' H')/\tb { D with nx:=N,ct:=N,bk:=D.nx } σ H1 else D.nx σ H1
theorem JX {c:Expr}{body:List Stmt}{tc:TT}{tb:TS}(hp:PassesOwn (model X.prog X.w) X.A X.env X.xe)(hc:PT X c tc)(hb:PSs X body tb):PS X (.While c body [] pos) (tWhile tc tb):=by
 intro pins s σ H D I h
 obtain⟨W,⟨m0,w0⟩,turn⟩:=h
 refine wpAny_While (codeAny_whileLoop (λn s'=>∃σ' H',Inv X pins σ' H' s'/\W n σ' H') ?_ m0 ⟨σ,H,I,w0⟩)
 rintro n s1 ⟨σ1,H1,I1,w1⟩
 refine wpAny_passesOwn hp (thn (hc pins s1 σ1 H1 _ I1 (turn n σ1 H1 w1)) λb s2 ⟨H2,I2,q2⟩=>?_)
 cases b with
 |true=>
  obtain⟨N,hN,q2⟩:=q2
  rw[if_pos rfl]
  refine wpAny_passesOwn hp (thn (hb pins s2 σ1 H2 _ I2 q2) λf s3 q3=>?_)
  cases f with
  |next=>
   obtain⟨σ3,H3,I3,n3⟩:=q3
   obtain⟨m',hm,w3⟩:=hN σ3 H3 n3
   exact⟨m',hm,σ3,H3,I3,w3⟩
  |cont=>
   obtain⟨σ3,H3,I3,n3⟩:=q3
   obtain⟨m',hm,w3⟩:=hN σ3 H3 n3
   exact⟨m',hm,σ3,H3,I3,w3⟩
  |brk=>exact q3
  |ret v=>exact q3
 |false=>
  rw[if_neg Bool.false_ne_true]
  exact wpAny_execs_nil ⟨σ1,H2,I2,q2⟩
end
structure It where
 go:Nat->Hp->Prop
 yld:Nat->Hp->V->Hp->Prop
 stop:Nat->Hp->Prop
def FpOk (X:Cx)(pins:List (Addr×Obj))(H:Hp)(b:Addr):Prop :=
 H b=none/\b≠X.env.locals/\b∉X.fs/\(b∈X.ex∨X.s₀.heap.objs.size<=b)/\(∀x c,X.env.cells.lookup x=some c->c≠b)/\∀p∈X.pn++pins,p.1≠b
theorem Inv.fpOk {X:Cx}{pins:List (Addr×Obj)}{σ:St}{H H':Hp}{s:Shared}{b:Addr}(I:Inv X pins σ H s)(hb:s.heap.objs.size<=b)(hn:H' b=none):FpOk X pins H' b:=by
 refine⟨hn,Nat.ne_of_gt (Nat.lt_of_lt_of_le I.lt hb),I.nofs hb,.inr (Nat.le_trans I.sz hb),λx c e z=>?_,λp hp z=>?_⟩
 ·obtain⟨v,q⟩:=I.cell x c e
  exact absurd (Nat.lt_of_lt_of_le q.lt (by rw[z];exact hb)) (Nat.lt_irrefl _)
 ·exact absurd (Nat.lt_of_lt_of_le (Heap.lt_size (I.pin p hp).1) (by rw[z];exact hb)) (Nat.lt_irrefl _)
structure Turn (P:Program)(w:World)(K:PySem.W.Frag)(tg:Expr)(J:It)(fp:List Addr)(it:Addr)(tn:Nat->Heap->Prop):Prop where
 mem:it∈fp
 obj:∀i h,tn i h->∀b∈fp,∃o,h.get? b=some o/\∀v,o.data≠.cell v
 keep:∀i h h',tn i h->(∀b∈fp,∀o,h.get? b=some o->h'.get? b=some o)->tn i h'
 item:∀(X:Cx),X.prog=P->X.w=w->X.K=K->X.calm=true->∀(i:Nat) (pins:List (Addr×Obj)) (s:Shared) (σ:St) (H:Hp) (E:Value->Shared->Prop),Inv X pins σ H s->(∀b∈fp,FpOk X pins H b)->tn i s.heap->J.go i H ->
  wpAny (model P w) X.A (pyNext (.ref it)) (λr s1=>∃u,r=some u /\
   wpAny (model P w) X.A (letOwnedTupleGo tg (.ref it) u) (λ_ s2=>∃x H',Inv X pins σ H' s2/\RelV x u/\J.yld i H x H'/\tn (i+1) s2.heap/\∀b∈fp,H' b=none) E s1) E s
 done:∀(X:Cx),X.prog=P->X.w=w->X.K=K->X.calm=true->∀(i:Nat) (pins:List (Addr×Obj)) (s:Shared) (σ:St) (H:Hp) (E:Value->Shared->Prop),Inv X pins σ H s->(∀b∈fp,FpOk X pins H b)->tn i s.heap->J.stop i H ->
  wpAny (model P w) X.A (pyNext (.ref it)) (λr s1=>r=none/\Inv X pins σ H s1) E s
 self:∀(A:Around) (i:Nat) (s:Shared) (Q:Value->Shared->Prop) (E:Value->Shared->Prop),tn i s.heap->Q (.ref it) s->wpAny (model P w) A (pyIter (.ref it)) Q E s
abbrev TI:=St->Hp->(It->Hp->Prop)->Prop
def PIE (X:Cx)(pins:List (Addr×Obj))(σ:St)(tg:Expr)(R:It->Hp->Prop)(itv:Value)(s2:Shared):Prop :=
 ∃(it:Addr) (fp:List Addr) (tn:Nat->Heap->Prop) (J:It) (H':Hp),itv=.ref it/\Inv X pins σ H' s2/\Turn X.prog X.w X.K tg J fp it tn/\tn 0 s2.heap/\(∀b∈fp,FpOk X pins H' b)/\R J H'
def PI (X:Cx)(tg iter:Expr)(wi:TI):Prop :=
 ∀(pins:List (Addr×Obj)) (s:Shared) (σ:St) (H:Hp) (R:It->Hp->Prop),Inv X pins σ H s->wi σ H R ->
  wpAny (model X.prog X.w) X.A (eval iter X.env) (λv s1=>wpAny (model X.prog X.w) X.A (pyIter v) (PIE X pins σ tg R) X.xe s1) X.xe s
theorem Z9 {M:Model}{A:Around}{E:Value->Shared->Prop}{s:Shared}{tg:Expr}{it:Addr}{u:Value}{o:Obj}{n:String}{vs:Array Value}{Q:Unit->Shared->Prop}(ho:s.heap.get? it=some o)(hc:o.cls=.type n)(hd:o.data=.fields vs)
    (hn:["enumerate","zip","dict_itemiterator","dict_reverseitemiterator","odict_iterator","itertools.zip_longest","itertools.pairwise"].contains n=false) (hQ:Q () s):wpAny M A (letOwnedTupleGo tg (.ref it) u) Q E s:=by
  unfold letOwnedTupleGo
  cases tg<;>first
    |exact wpAny_pure hQ
    | (cases u<;>first
        |exact wpAny_pure hQ
        | (refine wpAny_bind (wpAny_load ho ?_)
           rw[hc,hd]
           show wpAny M A (if (["enumerate","zip","dict_itemiterator","dict_reverseitemiterator","odict_iterator","itertools.zip_longest","itertools.pairwise"].contains n&&vs[0]?==some (rawInt _))=true then _ else _) Q E s
           rw[if_neg (by intro h;rw[hn,Bool.false_and] at h;cases h)]
           exact wpAny_pure hQ))
def Itl (K:PySem.W.Frag)(a:Addr):It :=
 ⟨λi H=>∃xs x,SqL K H a xs/\xs[i]?=some x,λi H x H'=>H'=H/\∀xs,SqL K H a xs->xs[i]?=some x,λi H=>∃xs,SqL K H a xs/\xs.length<=i⟩
def Itr (lo:Int)(n:Nat):It:=⟨λi _=>i < n,λi H x H'=>H'=H/\x=.int (lo+i),λi _=>n<=i⟩
theorem Vi {P:Program}{w:World}{K:PySem.W.Frag}{tg:Expr}(a it:Addr):Turn P w K tg (Itl K a) [it] it (λi h=>h.IsListIter it a i) where
 mem:=by simp
 obj:=λi h st b hb=>by
  have e:b=it:=by simpa using hb
  subst e
  obtain⟨o,e,c,d⟩:=st
  exact⟨o,e,λv z=>by rw[d] at z;cases z⟩
 keep:=λi h h' st k=>st.at λo e=>k it (by simp) o e
 item:=by
  intro X hP hw hK hc i pins s σ H E I hf st hg
  subst hP hw hK
  obtain⟨xs,x,hq,hx⟩:=hg
  obtain⟨its,rv,p,hz⟩:=I.list hq
  obtain⟨u,hu,ru⟩:=rv.get hx
  obtain⟨f0,f1,f2,f3,f4,f5⟩:=hf it (by simp)
  refine wpAny_pyNext_list_item st p.isList (x:=u) (by simpa using hu) λh' st' sb=>?_
  have I1:Inv X pins σ H { s with heap:=h' }:=I.turned (t':=s.toks) (λb o hb e=>(sb.2 b hb).trans e) f0 f1 f3 f4 f5
  obtain⟨o,e,c,d⟩:=id st'
  exact⟨u,rfl,Z9 (s:={ s with heap:=h' }) e c d (by decide) ⟨x,H,I1,ru,⟨rfl,λys hy=>by rw[I.list_inj hy hq];exact hx⟩,st',λb hb=>(hf b hb).1⟩⟩
 done:=by
  intro X hP hw hK hc i pins s σ H E I hf st hg
  subst hP hw hK
  obtain⟨xs,hq,hx⟩:=hg
  obtain⟨its,rv,p,hz⟩:=I.list hq
  obtain⟨f0,f1,f2,f3,f4,f5⟩:=hf it (by simp)
  have hl:=rv.length
  exact wpAny_pyNext_list_end (I.ok.hd hc) st p.isList (by simp;omega) λh' eb=>⟨rfl,I.turned (t':=s.toks) (λb o hb e=>eb b o hb e) f0 f1 f3 f4 f5⟩
 self:=λ_ _ _ _ _ st h=>wpAny_pyIter_listiter st h
theorem VG {P:Program}{w:World}{K:PySem.W.Frag}{tg:Expr}(it:Addr)(lo:Int)(n:Nat):Turn P w K tg (Itr lo n) [it] it (λi h=>IsRangeIter h it (lo+(i:Nat) * 1) ((n:Int) - (i:Nat)) 1) where
 mem:=by simp
 obj:=λi h st b hb=>by
  have e:b=it:=by simpa using hb
  subst e
  exact⟨_,st,λv z=>by
   have z':Data.fields _=Data.cell v:=z
   cases z'⟩
 keep:=λi h h' st k=>k it (by simp) _ st
 item:=by
  intro X hP hw hK hc i pins s σ H E I hf st hg
  subst hP hw hK
  obtain⟨f0,f1,f2,f3,f4,f5⟩:=hf it (by simp)
  have W:=Walks.range (prog:=X.prog) (w:=X.w) (I.ok.hd hc) it lo 1 n
  refine W.item i s _ _ hg st λv h' tk hv st' kk=>?_
  obtain⟨t,rfl⟩:=hv
  have I1:Inv X pins σ H { s with heap:=h',toks:=tk }:=I.turned (λb o hb e=>kk b o (by simpa using hb) e) f0 f1 f3 f4 f5
  refine⟨_,rfl,Z9 (s:={ s with heap:=h',toks:=tk }) (n := "range_iterator") st' rfl rfl (by decide) ⟨.int (lo+i),H,I1,⟨t,?_⟩,⟨rfl,rfl⟩,st',λb hb=>(hf b hb).1⟩⟩
  rw[Int.mul_one]
 done:=by
  intro X hP hw hK hc i pins s σ H E I hf st hg
  subst hP hw hK
  obtain⟨f0,f1,f2,f3,f4,f5⟩:=hf it (by simp)
  exact wpAny_pyNext_range_end (I.ok.hd hc) st (by have:n<=i:=hg;omega) λh' eb=>⟨rfl,I.turned (t':=s.toks) (λb o hb e=>eb b o hb e) f0 f1 f3 f4 f5⟩
 self:=λ_ _ _ _ _ st h=>wpAny_pyIter_rangeiter st h
section
variable {X:Cx}{tg:Expr}
def iList (K:PySem.W.Frag)(tl:TE):TI:=λσ H R=>tl σ H λx H1=>∃a,x=.ref a/\(∃xs,SqL K H1 a xs)/\R (Itl K a) H1
theorem KY {l:Expr}{tl:TE}(hl:PE X l tl):PI X tg l (iList X.K tl):=by
 intro pins s σ H R I h
 refine thn (hl pins s σ H _ I h) λv s1 ⟨x,H1,I1,r1,q1⟩=>?_
 obtain⟨a,e,⟨xs,hq⟩,q⟩:=q1
 subst e
 cases r1
 obtain⟨its,rv,p,hz⟩:=I1.list hq
 refine wpAny_pyIter_list p.isList ?_
 refine⟨s1.heap.objs.size,[s1.heap.objs.size],_,_,H1,rfl,I1.kept (t':=s1.toks) λb o e=>Heap.get?_push_of_some _ e,Vi a _,⟨_,Heap.get?_push_size _ rfl,rfl,rfl⟩,λb hb=>?_,q⟩
 have e:b=s1.heap.objs.size:=by simpa using hb
 subst e
 exact I1.fpOk (Nat.le_refl _) (I1.hok.fresh (Nat.le_refl _))
theorem K1 {pins:List (Addr×Obj)}{σ:St}{H:Hp}{s:Shared}{R:It->Hp->Prop}{E:Value->Shared->Prop}{lo hi:Int}{t u v:Tok}{tk:Nat}(I:Inv X pins σ H s)(h1:-(2 ^ 62)<=lo)(h2:lo < 2 ^ 62)(h3:-(2 ^ 62)<=hi)(h4:hi < 2 ^ 62)
  (q:R (Itr lo (hi - lo).toNat) H):wpAny (model X.prog X.w) X.A (pyIter (.ref s.heap.objs.size)) (PIE X pins σ tg R) E { s with heap:=s.heap.push { cls:=.type "range",data:=.fields #[.int lo t,.int hi u,.int 1 v] },toks:=tk }:=by
 refine wpAny_pyIter_range (IsRange.new ..) (small_one h1 h2 h3 h4) ?_
 have I1:Inv X pins σ H { s with heap:=s.heap.push { cls:=.type "range",data:=.fields #[.int lo t,.int hi u,.int 1 v] },toks:=tk }:=I.kept λb o e=>Heap.get?_push_of_some _ e
 refine⟨(s.heap.push { cls:=.type "range",data:=.fields #[.int lo t,.int hi u,.int 1 v] }).objs.size,[(s.heap.push { cls:=.type "range",data:=.fields #[.int lo t,.int hi u,.int 1 v] }).objs.size],_,_,H,rfl,
  I1.kept (t':=tk) λb o e=>Heap.get?_push_of_some _ e,VG _ lo (hi - lo).toNat,?_,λb hb=>?_,q⟩
 ·have e1:lo+((0:Nat):Int) * 1=lo:=by simp
  have e2:(((hi - lo).toNat:Nat):Int) - ((0:Nat):Int)=Builtin.Range.rangeSize lo hi 1:=by rw[rangeSize_one];split<;>omega
  show IsRangeIter _ _ (lo+((0:Nat):Int) * 1) ((((hi - lo).toNat:Nat):Int) - ((0:Nat):Int)) 1
  rw[e1,e2]
  exact Heap.get?_push_size _ rfl
 ·have e:b=(s.heap.push { cls:=.type "range",data:=.fields #[.int lo t,.int hi u,.int 1 v] }).objs.size:=by simpa using hb
  subst e
  exact I1.fpOk (Nat.le_refl _) (I1.hok.fresh (Nat.le_refl _))
def iRng1 (ta:TA):TI:=λσ H R=>ta σ H λvs H1=>∃j:Int,vs=[.int j]/\-(2 ^ 62)<=j/\j < 2 ^ 62/\R (Itr 0 j.toNat) H1
theorem Qb {a:Expr}{ta:TA}{p pos:Pos}(hg:Gl X "range") (hm:X.mg "range" = none) (ha:PA X [a] ta) (hs:starEach [a] X.env=[(false,eval a X.env)]:=by rfl):PI X tg (.Call (.Name "range" p) [a] [] pos) (iRng1 ta):=by
 intro pins s σ H R I h
 refine Call_ (vc I hg hm boot_range (PyProof.Rows.callWith_type1 (thn (ha pos pins s σ H _ I h) λus s1 ⟨vs,H1,I1,r1,q1⟩=>?_) hs rfl))
 obtain⟨j,e,q1,q2,q⟩:=q1
 subst e
 cases r1 with
 |cons r rr=>
  cases rr
  obtain⟨t,rfl⟩:=r
  exact call_range_1 (K1 I1 (by omega) (by omega) q1 q2 (by simpa using q))
def tFor (wi:TI)(g:TG)(tb:TS):TS:=λD σ H=>wi σ H λJ H1=>∃W:Nat->Nat->St->Hp->Prop,(∃m,W 0 m σ H1)/\∀i m σ H,W i m σ H ->
 (J.stop i H/\D.nx σ H)∨(J.go i H/\∃N:St->Hp->Prop,(∀σ' H',N σ' H'->∃m',m' < m/\W (i+1) m' σ' H')/\∀x H',J.yld i H x H'->g x σ H' λσ2 H2=>tb { D with nx:=N,ct:=N,bk:=D.nx } σ2 H2)
def pinsAt (fp:List Addr)(h:Heap):List (Addr×Obj):=fp.filterMap λb=>(h.get? b).map λo=>(b,o)
theorem jd {fp:List Addr}{h:Heap}{b:Addr}{o:Obj}(hb:b∈fp)(e:h.get? b=some o):(b,o)∈pinsAt fp h:=List.mem_filterMap.mpr ⟨b,hb,by rw[e];rfl⟩
theorem Z8 {fp:List Addr}{h:Heap}{p:Addr×Obj}(hp:p∈pinsAt fp h):p.1∈fp/\h.get? p.1=some p.2:=by
 obtain⟨b,hb,e⟩:=List.mem_filterMap.mp hp
 cases q:h.get? b with
 |none=>rw[q] at e;cases e
 |some o=>
  rw[q] at e
  have e':(b,o)=p:=Option.some.inj e
  subst e'
  exact⟨hb,q⟩
theorem Inv.pinned {pins:List (Addr×Obj)}{σ:St}{H:Hp}{s:Shared}{fp:List Addr}(I:Inv X pins σ H s)(hf:∀b∈fp,FpOk X pins H b)(ho:∀b∈fp,∃o,s.heap.get? b=some o/\∀v,o.data≠.cell v):Inv X (pins++pinsAt fp s.heap) σ H s :=
 I.pins_of λp hp=>(List.mem_append.mp hp).elim (λz=>I.pin p (List.mem_append_right _ z)) λz=>by
  obtain⟨hb,e⟩:=Z8 z
  obtain⟨f0,f1,f2,_⟩:=hf p.1 hb
  obtain⟨o,e',d⟩:=ho p.1 hb
  rw[e] at e';cases e'
  exact⟨e,f0,f1,f2,d⟩
theorem Inv.unpinned {pins pl:List (Addr×Obj)}{σ:St}{H:Hp}{s:Shared}(I:Inv X (pins++pl) σ H s):Inv X pins σ H s:=I.pins_of λp hp=>I.pin p (List.mem_append_right _ (List.mem_append_left _ hp))
theorem uw {iter:Expr}{body:List Stmt}{wi:TI}{g:TG}{tb:TS}{pos:Pos}(hp:PassesOwn (model X.prog X.w) X.A X.env X.xe)(hc:X.calm=true)(hi:PI X tg iter wi)(hg:PG X tg g)(hb:PSs X body tb)
  (hs:∀x,foldedSetIterable iter X.env x=pure x:=by intro _;rfl):PS X (.For tg iter body [] pos) (tFor wi g tb):=by
 intro pins s σ H D I h
 refine wpAny_For (thn (hi pins s σ H _ I h) λv s1 h1=>thn h1 λitv s2 h2=>?_) hs
 obtain⟨it,fp,tn,J,H2,e,I2,T,st2,f2,W,⟨m0,w0⟩,turn⟩:=h2
 subst e
 have stat:∀ {H':Hp},(∀b∈fp,H' b=none)->∀b∈fp,FpOk X pins H' b:=λhn b hb=>⟨hn b hb,(f2 b hb).2⟩
 refine codeAny_forLoop_any (λn s'=>∃i σ' H',Inv X pins σ' H' s'/\tn i s'.heap/\(∀b∈fp,H' b=none)/\W i n σ' H') ?_ m0 ⟨0,σ,H2,I2,st2,λb hb=>(f2 b hb).1,w0⟩
 rintro n s3 ⟨i,σ3,H3,I3,st3,fr3,w3⟩
 rcases turn i n σ3 H3 w3 with⟨stop,qn⟩ | ⟨go,N,hN,step⟩
 ·refine wpAny_passesOwn hp (thn (T.done X rfl rfl rfl hc i pins s3 σ3 H3 X.xe I3 (stat fr3) st3 stop) λr s4 ⟨hr,I4⟩=>?_)
  subst hr
  exact wpAny_execs_nil ⟨σ3,H3,I4,qn⟩
 ·refine wpAny_passesOwn hp (thn (T.item X rfl rfl rfl hc i pins s3 σ3 H3 X.xe I3 (stat fr3) st3 go) λr s4 ⟨u,hr,h4⟩=>?_)
  subst hr
  refine wpAny_passesOwn hp (thn h4 λ_ s5 ⟨x,H5,I5,r5,y5,st5,fr5⟩=>?_)
  have I5':=I5.pinned (stat fr5) (T.obj _ _ st5)
  refine wpAny_passesOwn hp (thn (hg _ s5 σ3 H5 x u _ I5' r5 (step x H5 y5)) λ_ s6 ⟨σ6,H6,I6,q6⟩=>?_)
  refine wpAny_passesOwn hp (thn (hb _ s6 σ6 H6 _ I6 q6) λf s7 q7=>?_)
  have again:∀ {σ7:St} {H7:Hp},Inv X (pins++pinsAt fp s5.heap) σ7 H7 s7->N σ7 H7->∃m,m < n/\∃i σ' H',Inv X pins σ' H' s7/\tn i s7.heap/\(∀b∈fp,H' b=none)/\W i m σ' H':=fun {σ7 H7} I7 n7=>by
   obtain⟨m',hm,w7⟩:=hN σ7 H7 n7
   refine⟨m',hm,i+1,σ7,H7,I7.unpinned,T.keep _ _ _ st5 λb hb o e=>(I7.pin (b,o) (List.mem_append_right _ (List.mem_append_right _ (jd hb e)))).1,λb hb=>?_,w7⟩
   obtain⟨o,e,d⟩:=T.obj _ _ st5 b hb
   exact (I7.pin (b,o) (List.mem_append_right _ (List.mem_append_right _ (jd hb e)))).2.1
  cases f with
  |next=>obtain⟨σ7,H7,I7,n7⟩:=q7;exact again I7 n7
  |cont=>obtain⟨σ7,H7,I7,n7⟩:=q7;exact again I7 n7
  |brk=>obtain⟨σ7,H7,I7,q7⟩:=q7;exact⟨σ7,H7,I7.unpinned,q7⟩
  |ret v=>obtain⟨x7,σ7,H7,I7,r7,q7⟩:=q7;exact⟨x7,σ7,H7,I7.unpinned,r7,q7⟩
end
abbrev R2:=V->V->Hp->VK->Prop
def OpR (X:Cx)(f:Value->Value->Sem Value)(r:R2):Prop :=
 ∀(pins:List (Addr×Obj)) (s:Shared) (σ:St) (H:Hp) (x y:V) (v u:Value) (Q:VK),Inv X pins σ H s->RelV x v->RelV y u->r x y H Q ->
  wpAny (model X.prog X.w) X.A (f v u) (EP X pins σ Q) X.xe s
def UnR (X:Cx)(f:Value->Sem Value)(r:V->Hp->VK->Prop):Prop :=
 ∀(pins:List (Addr×Obj)) (s:Shared) (σ:St) (H:Hp) (x:V) (v:Value) (Q:VK),Inv X pins σ H s->RelV x v->r x H Q ->
  wpAny (model X.prog X.w) X.A (f v) (EP X pins σ Q) X.xe s
def CallR (X:Cx)(f:Value)(r:List V->Hp->VK->Prop):Prop :=
 ∀(pins:List (Addr×Obj)) (s:Shared) (σ:St) (H:Hp) (xs:List V) (us:List Value) (Q:VK),Inv X pins σ H s->Vals xs us->r xs H Q ->
  wpAny (model X.prog X.w) X.A (call f us) (EP X pins σ Q) X.xe s
def TruR (X:Cx)(r:V->Hp->(Bool->Hp->Prop)->Prop):Prop :=
 ∀(pins:List (Addr×Obj)) (s:Shared) (σ:St) (H:Hp) (x:V) (v:Value) (Q:Bool->Hp->Prop),Inv X pins σ H s->RelV x v->r x H Q ->
  wpAny (model X.prog X.w) X.A (truthy v) (TP X pins σ Q) X.xe s
def tOp (r:R2)(ta tb:TE):TE:=λσ H Q=>ta σ H λx H1=>tb σ H1 λy H2=>r x y H2 Q
def tUn (r:V->Hp->VK->Prop)(ta:TE):TE:=λσ H Q=>ta σ H λx H1=>r x H1 Q
def rI (C:Int->Int->Prop)(g:Int->Int->V):R2:=λx y H Q=>∃i j,x=.int i/\y=.int j/\C i j/\Q (g i j) H
def rI0 (g:Int->Int->V):R2:=λx y H Q=>∃i j,x=.int i/\y=.int j/\Q (g i j) H
def rU (g:Int->V):V->Hp->VK->Prop:=λx H Q=>∃i,x=.int i/\Q (g i) H
section
variable {X:Cx}{a b c:Expr}{ta tb tc:TE}{pos:Pos}
theorem binT (ha:PE X a ta)(hb:PE X b tb){pins:List (Addr×Obj)}{s:Shared}{σ:St}{H:Hp}{R:V->V->Hp->Prop}(I:Inv X pins σ H s)
  (h:ta σ H λx H1=>tb σ H1 λy H2=>R x y H2) {Q:Value->Shared->Prop} {f:Value->Value->Sem Value}
  (hf:∀v u s2 x y H2,Inv X pins σ H2 s2->RelV x v->RelV y u->R x y H2->wpAny (model X.prog X.w) X.A (f v u) Q X.xe s2) :
  wpAny (model X.prog X.w) X.A (eval a X.env) (λv s₁=>wpAny (model X.prog X.w) X.A (eval b X.env) (λu s₂=>wpAny (model X.prog X.w) X.A (f v u) Q X.xe s₂) X.xe s₁) X.xe s:=by
 refine thn (ha pins s σ H _ I h) λv s1 ⟨x,H1,I1,r1,q1⟩=>?_
 refine thn (hb pins s1 σ H1 _ I1 q1) λu s2 ⟨y,H2,I2,r2,q2⟩=>?_
 exact hf v u s2 x y H2 I2 r1 r2 q2
theorem ZC {op:Operator}{r:R2}(ho:OpR X (binaryOp op) r)(ha:PE X a ta)(hb:PE X b tb):PE X (.BinOp a op b pos) (tOp r ta tb):=by
 intro pins s σ H Q I h
 exact wpAny_BinOp (binT ha hb I h λv u s2 x y H2 I2 rx ry q=>ho pins s2 σ H2 x y v u Q I2 rx ry q)
theorem VI {op:UnaryOp}{r:V->Hp->VK->Prop}(ho:UnR X (unaryOp op) r)(ha:PE X a ta):PE X (.UnaryOp op a pos) (tUn r ta):=by
 intro pins s σ H Q I h
 exact UnaryOp_ (thn (ha pins s σ H _ I h) λv s1 ⟨x,H1,I1,r1,q1⟩=>ho pins s1 σ H1 x v Q I1 r1 q1)
theorem opI {f:Value->Value->Sem Value}{C:Int->Int->Prop}{g:Int->Int->Int}
  (rule:∀(i j:Int) (t u:Tok) (s:Shared) (Q:Value->Shared->Prop) (E:Value->Shared->Prop),C i j->Q (.int (g i j) s.toks) { s with toks:=s.toks+1 }->wpAny (model X.prog X.w) X.A (f (.int i t) (.int j u)) Q E s) :
  OpR X f (rI C λi j=>.int (g i j)):=by
 intro pins s σ H x y v u Q I rx ry h
 obtain⟨i,j,rfl,rfl,hc,q⟩:=h
 obtain⟨t,rfl⟩:=rx
 obtain⟨t',rfl⟩:=ry
 exact rule i j t t' s _ _ hc ⟨.int (g i j),H,I.tok _,⟨_,rfl⟩,q⟩
theorem opI0 {f:Value->Value->Sem Value}{g:Int->Int->Int}
  (rule:∀(i j:Int) (t u:Tok) (s:Shared) (Q:Value->Shared->Prop) (E:Value->Shared->Prop),Q (.int (g i j) s.toks) { s with toks:=s.toks+1 }->wpAny (model X.prog X.w) X.A (f (.int i t) (.int j u)) Q E s) :
  OpR X f (rI0 λi j=>.int (g i j)):=by
 intro pins s σ H x y v u Q I rx ry h
 obtain⟨i,j,rfl,rfl,q⟩:=h
 obtain⟨t,rfl⟩:=rx
 obtain⟨t',rfl⟩:=ry
 exact rule i j t t' s _ _ ⟨.int (g i j),H,I.tok _,⟨_,rfl⟩,q⟩
theorem opB0 {f:Value->Value->Sem Value}{g:Int->Int->Bool}
  (rule:∀(i j:Int) (t u:Tok) (s:Shared) (Q:Value->Shared->Prop) (E:Value->Shared->Prop),Q (.bool (g i j)) s->wpAny (model X.prog X.w) X.A (f (.int i t) (.int j u)) Q E s) :
  OpR X f (rI0 λi j=>.bl (g i j)):=by
 intro pins s σ H x y v u Q I rx ry h
 obtain⟨i,j,rfl,rfl,q⟩:=h
 obtain⟨t,rfl⟩:=rx
 obtain⟨t',rfl⟩:=ry
 exact rule i j t t' s _ _ ⟨.bl (g i j),H,I,rfl,q⟩
def CDiv (i j:Int):Prop:=0 < j/\j < 1073741824
def CPow (i j:Int):Prop:=0<=j/\j<=1000000/\i.natAbs < 2 ^ 64
def CMul (i j:Int):Prop:=(-(2 ^ 64) < i/\i < 2 ^ 64)∨(-(2 ^ 64) < j/\j < 2 ^ 64)
theorem CMul.ok {i j:Int}(h:CMul i j):IntMulOk i j:=by
 rcases h with⟨h1,h2⟩ | ⟨h1,h2⟩
 ·exact .of_left (intBits_le_64 h1 h2)
 ·exact .of_right (intBits_le_64 h1 h2)
theorem Qm (k:Nat):(0:Int)<=2 ^ k:=by
 rw[two_pow_cast]
 exact Int.natCast_nonneg _
theorem op_add:OpR X (binaryOp .Add) (rI0 λi j=>.int (i+j)):=opI0 λ_ _ _ _ _ _ _ q=>add_int q
theorem UC:OpR X (binaryOp .Sub) (rI0 λi j=>.int (i - j)):=opI0 λ_ _ _ _ _ _ _ q=>sub_int q
theorem Ku:OpR X (binaryOp .Mult) (rI CMul λi j=>.int (i * j)):=opI λ_ _ _ _ _ _ _ hc q=>mul_int q hc.ok
theorem UB:OpR X (binaryOp .FloorDiv) (rI CDiv λi j=>.int (i / j)):=opI λi j _ _ _ _ _ hc q=>by
 have h1:(0:Int) < j:=hc.1
 have h2:j < 1073741824:=hc.2
 exact floordiv_int (by omega) (by rw[Int.fdiv_eq_ediv_of_nonneg i (by omega)];exact q) (.inl (PyProof.noPylong_small (by omega)))
theorem UL:OpR X (binaryOp .Mod) (rI (λ_ j=>0 < j) λi j=>.int (i % j)):=opI λi j _ _ _ _ _ hc q=>by
 have h1:(0:Int) < j:=hc
 exact mod_int' (by omega) (by rw[Int.fmod_eq_emod_of_nonneg i (by omega)];exact q)
theorem Qg:OpR X (binaryOp .Pow) (rI CPow λi j=>.int (i ^ j.toNat)):=opI λ_ _ _ _ _ _ _ hc q=>pow_int_small hc.1 hc.2.1 hc.2.2 q
theorem KQ:OpR X (binaryOp .RShift) (rI (λ_ j=>0<=j) λi j=>.int (i / 2 ^ j.toNat)):=opI λi j _ _ _ _ _ hc q=>
 rshift_int hc (by rw[Int.fdiv_eq_ediv_of_nonneg i (Qm _)];exact q)
theorem JS:OpR X (binaryOp .BitAnd) (rI0 λi j=>.int (Builtin.bitAnd i j)):=opI0 λ_ _ _ _ _ _ _ q=>and_int q
theorem unI {f:Value->Sem Value}{g:Int->Int}
  (rule:∀(i:Int) (t:Tok) (s:Shared) (Q:Value->Shared->Prop) (E:Value->Shared->Prop),Q (.int (g i) s.toks) { s with toks:=s.toks+1 }->wpAny (model X.prog X.w) X.A (f (.int i t)) Q E s) :
  UnR X f (rU λi=>.int (g i)):=by
 intro pins s σ H x v Q I rx h
 obtain⟨i,rfl,q⟩:=h
 obtain⟨t,rfl⟩:=rx
 exact rule i t s _ _ ⟨.int (g i),H,I.tok _,⟨_,rfl⟩,q⟩
theorem Up:UnR X (unaryOp .USub) (rU λi=>.int (-i)):=unI λ_ _ _ _ _ q=>neg_int q
end
def scal:V->V->Bool
 |.non,.non=>true | .non,.int _=>true | .int _,.non=>true | .non,.bl _=>true | .bl _,.non=>true | .non,.str _=>true | .str _,.non=>true
 |.int _,.int _=>true | .bl _,.bl _=>true | .str _,.str _=>true | .byt _,.byt _=>true
 |.int _,.str _=>true | .str _,.int _=>true | .bl _,.str _=>true | .str _,.bl _=>true
 |_,_=>false
section
variable {X:Cx}{a b c:Expr}{ta tb tc:TE}{pos:Pos}
theorem Uy {pins:List (Addr×Obj)}{σ:St}{H:Hp}{s:Shared}{Q:VK}{k k':Bool}(I:Inv X pins σ H s)(q:Q (.bl k) H)(e:k=k'):EP X pins σ Q (.bool k') s:=by
 subst e
 exact⟨.bl k,H,I,rfl,q⟩
theorem yj:OpR X (compareOp .Lt) (rI0 λi j=>.bl (decide (i < j))):=opB0 λ_ _ _ _ _ _ _ q=>lt_int q
theorem YM:OpR X (compareOp .LtE) (rI0 λi j=>.bl (decide (i<=j))):=opB0 λ_ _ _ _ _ _ _ q=>le_int q
theorem yA:OpR X (compareOp .Gt) (rI0 λi j=>.bl (decide (j < i))):=opB0 λ_ _ _ _ _ _ _ q=>gt_int q
theorem uz:OpR X (compareOp .Is) (λx y H Q=>y=.non/\Q (.bl (decide (x=.non))) H):=by
 intro pins s σ H x y v u Q I rx ry h
 obtain⟨rfl,q⟩:=h
 cases ry
 refine is_none_gen (Uy I q ?_)
 cases x<;>first
  | (cases rx;rfl)
  | (obtain⟨t,rfl⟩:=rx;rfl)
theorem OpR.or {f:Value->Value->Sem Value}{r r':R2}(h:OpR X f r)(h':OpR X f r'):OpR X f (λx y H Q=>r x y H Q∨r' x y H Q):=by
 intro pins s σ H x y v u Q I rx ry q
 rcases q with q | q
 ·exact h pins s σ H x y v u Q I rx ry q
 ·exact h' pins s σ H x y v u Q I rx ry q
theorem nomark (b:Expr){op:CmpOp}(h:op≠.In:=by decide)(h2:op≠.NotIn:=by decide):behindInMarks op b=false:=by
 have e1:(op==CmpOp.In)=false:=by cases op<;>first | rfl | exact absurd rfl h
 have e2:(op==CmpOp.NotIn)=false:=by cases op<;>first | rfl | exact absurd rfl h2
 cases b<;>simp[behindInMarks,e1,e2]
theorem JZ {op:CmpOp}{r:R2}(ho:OpR X (compareOp op) r)(ha:PE X a ta)(hb:PE X b tb)(hm:behindInMarks op b=false):PE X (.Compare a [op] [b] pos) (tOp r ta tb):=by
 intro pins s σ H Q I h
 exact wpAny_Compare1 (binT ha hb I h λv u s2 x y H2 I2 rx ry q=>ho pins s2 σ H2 x y v u Q I2 rx ry q) hm
def tTest (t:TE):TT:=λσ H Q=>t σ H λx H'=>∃k,x=.bl k/\Q k H'
theorem Uo {op:CmpOp}{r:R2}(ho:OpR X (compareOp op) r)(ha:PE X a ta)(hb:PE X b tb)(hm:behindInMarks op b=false):PT X (.Compare a [op] [b] pos) (tTest (tOp r ta tb)):=by
 intro pins s σ H Q I h
 refine wpAny_isTrue_Compare1 (thn (ha pins s σ H _ I h) λv s1 ⟨x,H1,I1,r1,q1⟩=>thn (hb pins s1 σ H1 _ I1 q1) λu s2 ⟨y,H2,I2,r2,q2⟩=>
  thn (ho pins s2 σ H2 x y v u _ I2 r1 r2 q2) λc s3 ⟨z,H3,I3,r3,k,e,q3⟩=>?_) hm
 subst e
 cases r3
 exact wpAny_truthy_bool ⟨H3,I3,q3⟩
def tChain (r r':R2)(ta tb tc:TE):TE:=λσ H Q=>ta σ H λx H1=>tb σ H1 λy H2=>r x y H2 λz H3=>∃k,z=.bl k /\
 (if k=true then tc σ H3 λw' H4=>r' y w' H4 Q else Q (.bl false) H3)
theorem Kj {op op':CmpOp}{r r':R2}(ho:OpR X (compareOp op) r)(ho':OpR X (compareOp op') r')(ha:PE X a ta)(hb:PE X b tb)(hc:PE X c tc)
  (hm:lastMarks [op,op'] [b,c]=false:=by with_unfolding_all rfl):PE X (.Compare a [op,op'] [b,c] pos) (tChain r r' ta tb tc):=by
 intro pins s σ H Q I h
 refine Compare_chain (thn (ha pins s σ H _ I h) λv s1 ⟨x,H1,I1,r1,q1⟩=>chain_link (thn (hb pins s1 σ H1 _ I1 q1) λu s2 ⟨y,H2,I2,r2,q2⟩=>
  thn (ho pins s2 σ H2 x y v u _ I2 r1 r2 q2) λd s3 ⟨z,H3,I3,r3,k,e,q3⟩=>?_)) hm
 subst e
 cases r3
 refine wpAny_truthy_bool ?_
 cases k with
 |false=>exact ite_ff ⟨.bl false,H3,I3,rfl,q3⟩
 |true=>exact ite_tt (chain_last (thn (hc pins s3 σ H3 _ I3 q3) λw' s4 ⟨z',H4,I4,r4,q4⟩=>ho' pins s4 σ H4 y z' u w' Q I4 r2 r4 q4))
def TruV (K:PySem.W.Frag)(x:V)(H:Hp)(k:Bool):Prop :=
 match x with
 |.non=>k=false
 |.bl b=>k=b
 |.int i=>k=(i != 0)
 |.str y=>y.length<=sizeLine/\k=((y.length:Int) != 0)
 |.byt y=>y.size<=sizeLine/\k=((y.size:Int) != 0)
 |.ref p=>(∃xs,SqL K H p xs/\k=!xs.isEmpty)∨(∃xs,SqT K H p xs/\k=!xs.isEmpty)∨∃kvs,H p=some (.dK kvs)/\k=!kvs.isEmpty
 |_=>False
theorem KZ {κ:Type}{kvs:List (κ×V)}{vs:List (κ×Value)}(r:KV kvs vs):(!vs.isEmpty)=!kvs.isEmpty:=by
 cases r<;>rfl
theorem uS {xs:List V}{its:List Value}(r:Vals xs its):(!its.toArray.isEmpty)=!xs.isEmpty:=by
 cases r<;>simp
theorem line63:(sizeLine:Nat) < 2 ^ 63:=by rw[sizeLine_eq];decide
theorem Kg:TruR X (λx H Q=>∃k,TruV X.K x H k/\Q k H):=by
 intro pins s σ H x v Q I rx h
 obtain⟨k,e,q⟩:=h
 have hl:=line63
 have hs:sizeLine=16777216:=sizeLine_eq
 cases x with
 |non=>
  cases rx
  have e':k=false:=e
  subst e'
  exact truthy_none ⟨H,I,q⟩
 |bl b=>
  cases rx
  have e':k=b:=e
  subst e'
  exact wpAny_truthy_bool ⟨H,I,q⟩
 |int i=>
  obtain⟨t,rfl⟩:=rx
  have e':k=(i != 0):=e
  subst e'
  exact PySem.P.truthy_int ⟨H,I,q⟩
 |str y=>
  obtain⟨t,rfl⟩:=rx
  obtain⟨hy,e'⟩:y.length<=sizeLine/\k=((y.length:Int) != 0):=e
  subst e'
  exact PySem.P.truthy_str (by omega) ⟨H,I.tok _,q⟩
 |byt y=>
  obtain⟨t,rfl⟩:=rx
  obtain⟨hy,e'⟩:y.size<=sizeLine/\k=((y.size:Int) != 0):=e
  subst e'
  exact PySem.W.truthy_bytes (by omega) ⟨H,I.tok _,q⟩
 |ref p=>
  cases rx
  have e':(∃xs,SqL X.K H p xs/\k=!xs.isEmpty)∨(∃xs,SqT X.K H p xs/\k=!xs.isEmpty)∨∃kvs,H p=some (.dK kvs)/\k=!kvs.isEmpty:=e
  rcases e' with⟨xs,hx,e'⟩ | ⟨xs,hx,e'⟩ | ⟨kvs,hx,e'⟩
  ·subst e'
   obtain⟨its,r,pl,hz⟩:=I.list hx
   have hlen:=r.length
   exact wpAny_truthy_list pl.isList (by simp only[List.size_toArray];omega) ⟨H,I.tok _,by rw[uS r];exact q⟩
  ·subst e'
   obtain⟨its,r,pl,hz⟩:=I.tuple hx
   have hlen:=r.length
   exact truthy_tuple pl (by simp only[List.size_toArray];omega) ⟨H,I.tok _,by rw[uS r];exact q⟩
  ·subst e'
   obtain⟨hz,hS,vs,r,m⟩:kvs.length<=sizeLine/\(p==sysModules)=false/\∃vs,KV kvs vs/\s.heap.DictOf (zQ X.prog X.w) p vs:=I.hok p _ hx
   have hlen:kvs.length=vs.length:=Paired.length r
   exact wpAny_truthy_dict hS m (by omega) ⟨H,I.tok _,by rw[KZ r];exact q⟩
 |_=>exact (show False from e).elim
theorem Uj (ha:PE X a ta)(he:∀whole,isTrue a X.env whole=(do let v <-whole;standAt a.pos;holding [v] (truthy v))) :
  PT X a (λσ H Q=>ta σ H λx H'=>∃k,TruV X.K x H' k/\Q k H'):=by
 intro pins s σ H Q I h
 exact isTrue_plain (thn (ha pins s σ H _ I h) λv s1 ⟨x,H1,I1,r1,q1⟩=>Kg pins s1 σ H1 x v Q I1 r1 q1) (he _)
theorem QA:OpR X (binaryOp .Add) (λx y H Q=>∃i j,x=.str i/\y=.str j/\i.length+j.length<=sizeLine/\Q (.str (i++j)) H):=by
 intro pins s σ H x y v u Q I rx ry h
 obtain⟨i,j,rfl,rfl,hz,q⟩:=h
 obtain⟨t,rfl⟩:=rx
 obtain⟨t',rfl⟩:=ry
 exact add_str (λt' tk=>⟨.str (i++j),H,I.tok _,⟨_,rfl⟩,q⟩) hz
theorem vals1 {x:V}{us:List Value}(r:Vals [x] us):∃u,us=[u]/\RelV x u:=by
 cases r with
 |cons r1 r2=>cases r2;exact⟨_,rfl,r1⟩
theorem vals2 {x y:V}{us:List Value}(r:Vals [x,y] us):∃u w',us=[u,w']/\RelV x u/\RelV y w':=by
 cases r with
 |cons r1 r2=>
  cases r2 with
  |cons r3 r4=>cases r4;exact⟨_,_,rfl,r1,r3⟩
theorem Gc (hc:X.calm=true):CallR X (.builtin "min") (λxs H Q=>∃i j,xs=[.int i,.int j]/\Q (.int (if j < i then j else i)) H):=by
 intro pins s σ H xs us Q I r h
 obtain⟨i,j,rfl,q⟩:=h
 obtain⟨u,w',rfl,⟨t,rfl⟩,⟨t',rfl⟩⟩:=vals2 r
 refine min_two_ints (I.ok.hd hc) λh' tk k=>⟨_,H,I.kept k,?_,q⟩
 by_cases hj:j < i
 ·rw[if_pos hj,if_pos hj];exact⟨_,rfl⟩
 ·rw[if_neg hj,if_neg hj];exact⟨_,rfl⟩
theorem Jo:CallR X (.type "int") (λxs H Q=>(∃i,xs=[.int i]/\Q (.int i) H)∨∃k,xs=[.bl k]/\Q (.int (if k then 1 else 0)) H):=by
 intro pins s σ H xs us Q I r h
 rcases h with⟨i,rfl,q⟩ | ⟨k,rfl,q⟩
 ·obtain⟨u,rfl,t,rfl⟩:=vals1 r
  exact call_int_int ⟨.int i,H,I,⟨_,rfl⟩,q⟩
 ·obtain⟨u,rfl,r1⟩:=vals1 r
  cases r1
  exact call_int_bool ⟨.int (if k then 1 else 0),H,I.tok _,⟨_,rfl⟩,q⟩
def LenV (K:PySem.W.Frag)(x:V)(H:Hp)(n:Nat):Prop :=
 match x with
 |.str y=>y.length<=sizeLine/\n=y.length
 |.byt y=>y.size<=sizeLine/\n=y.size
 |.ref p=>(∃xs,SqL K H p xs/\n=xs.length)∨∃xs,SqT K H p xs/\n=xs.length
 |_=>False
theorem Gx:CallR X (.builtin "len") (λxs H Q=>∃x n,xs=[x]/\LenV X.K x H n/\Q (.int n) H):=by
 intro pins s σ H xs us Q I r h
 obtain⟨x,n,rfl,e,q⟩:=h
 obtain⟨u,rfl,rx⟩:=vals1 r
 have hl:=line63
 have hs:sizeLine=16777216:=sizeLine_eq
 cases x with
 |str y=>
  obtain⟨t,rfl⟩:=rx
  obtain⟨hy,e'⟩:y.length<=sizeLine/\n=y.length:=e
  subst e'
  exact len_str (by omega) ⟨.int _,H,I.tok _,⟨_,rfl⟩,q⟩
 |byt y=>
  obtain⟨t,rfl⟩:=rx
  obtain⟨hy,e'⟩:y.size<=sizeLine/\n=y.size:=e
  subst e'
  exact PySem.W.len_bytes (by omega) ⟨.int _,H,I.tok _,⟨_,rfl⟩,q⟩
 |ref p=>
  cases rx
  have e':(∃xs,SqL X.K H p xs/\n=xs.length)∨∃xs,SqT X.K H p xs/\n=xs.length:=e
  rcases e' with⟨xs,hx,e'⟩ | ⟨xs,hx,e'⟩
  ·subst e'
   obtain⟨its,r',pl,hz⟩:=I.list hx
   have hlen:=r'.length
   exact Calls.call_len_list pl.isList (by simp only[List.size_toArray];omega) ⟨.int xs.length,H,I.tok _,⟨_,by simp only[List.size_toArray];rw[hlen]⟩,q⟩
  ·subst e'
   obtain⟨its,r',pl,hz⟩:=I.tuple hx
   have hlen:=r'.length
   exact len_tuple pl (by simp only[List.size_toArray];omega) ⟨.int xs.length,H,I.tok _,⟨_,by simp only[List.size_toArray];rw[hlen]⟩,q⟩
 |_=>exact (show False from e).elim
end
structure ObjM (h:Heap)(x dx C:Addr)(mA:Str->Option Value):Prop where
 obj:h.get? x=some (instObj C dx)
 ns:h.Ns1 dx mA
 ne:dx≠x
theorem Gr {h:Heap}{dx:Addr}{mA:Str->Option Value}(n:h.Ns1 dx mA):∃od,h.get? dx=some od/\∀name,PySem.W.lookIn name od=some (mA name):=by
 obtain⟨o,es,ep,ho,hd,hk,_,hm⟩:=n
 refine⟨o,ho,λname=>?_⟩
 have e:=hm name
 unfold nsFind findBy at e
 rw[<-Array.find?_toList] at e
 unfold PySem.W.lookIn
 rw[hd]
 dsimp only
 split
 ·rename_i y q
  rw[q] at e
  exact congrArg some e
 ·rename_i q
  rw[q] at e
  have a:es.toList.any (·.refKey)=false:=by
   rw[List.any_eq_false]
   intro y hy
   obtain⟨z,t,hkey⟩:=hk y (Array.mem_toList_iff.mp hy)
   simp[DictEntry.refKey,hkey]
  have a':¬es.toList.any (·.refKey)=true:=by rw[a];exact Bool.false_ne_true
  rw[if_neg a']
  exact congrArg some e
theorem ObjM.look {h:Heap}{x dx C:Addr}{mA:Str->Option Value}(I:ObjM h x dx C mA):∃od,InstAt h x (instObj C dx) C (some od)/\∀name,PySem.W.lookIn name od=some (mA name) :=
 let ⟨od,ho,hl⟩:=Gr I.ns
 ⟨od,⟨I.obj,rfl,rfl,ho⟩,hl⟩
section
variable {prog:Program}{w:World}{A:Around}{E:Value->Shared->Prop}{s:Shared}{K:PySem.W.Frag}{x dx C f:Addr}{mA:Str->Option Value}{name:Str}{v:Value}
theorem Wz {expr:Bool}{Q:Value->Shared->Prop}(X:K.In s.heap)(I:ObjM s.heap x dx C mA)(hg:plainGet K C name=true)(hh:hasDictIn K C=true)
  (ha:findIn K (.ref C) name=some none) (hv:mA name=some v) (hv':PySem.W.handedIn v=true) (h:Q v { s with toks:=s.toks+1 }) :
  wpAny (model prog w) A (getAttr (.ref x) name expr) Q E s:=by
 obtain⟨od,J,hl⟩:=I.look
 exact PySem.W.get_value X J (PySem.W.plainGet_of hg).1 (PySem.W.findObj_own hh ha rfl (by rw[hl,hv])) hv' h
theorem Jz {pl:Sem Bool}{Q:Value×List Value->Shared->Prop}(X:K.In s.heap)(I:ObjM s.heap x dx C mA)(hg:plainGet K C name=true)
  (hf:findIn K (.ref C) name=some (some (.ref f))) (ht:PySem.W.isFn K (.ref f)=true) (hv:mA name=none) (h:Q (.ref f,[.ref x]) s) :
  wpAny (model prog w) A (getMethod (.ref x) name pl) Q E s:=by
 obtain⟨od,J,hl⟩:=I.look
 exact PySem.W.method_fn X J (PySem.W.plainGet_of hg).1 (PySem.W.plainGet_of hg).2 hf (beq_iff_eq.mp ht) (by show (PySem.W.lookIn name od).map (·.isSome)=some false;rw[hl,hv];rfl) h
theorem QC {ns:List Str}{Q:Unit->Shared->Prop}(X:K.In s.heap)(I:ObjM s.heap x dx C mA)
  (hs:findIn K (.ref C) "__setattr__" = some (some (.builtin "object.__setattr__"))) (hp:PySem.W.plainOver K C=true) (ht:takerIn K C name=some none) (hh:hasDictIn K C=true)
  (hw:PySem.Within mA ns) (hsz:ns.length<=sizeLine)
  (h:∀h',ObjM h' x dx C (λy=>if y=name then some v else mA y)->Heap.SameBut dx s.heap h'->Q () { s with heap:=h',toks:=s.toks+2 }) :
  wpAny (model prog w) A (setAttr (.ref x) name v) Q E s:=by
 obtain⟨od,J,hl⟩:=I.look
 refine PySem.W.set_plain X J hs (PySem.W.osa_open (s:={ s with toks:=s.toks+1 }) (r:=none) X J hp ht λb=>?_)
 obtain⟨cd,hc,hd'⟩:=PySem.W.any_some hh
 have hx:s.heap.get? x=some ⟨.ref C,some dx,.plain,#[]⟩:=I.obj
 refine wpAny_bind (wpAny_pure (wpAny_bind (wpAny_bind (wpAny_loadPart hx (wpAny_bind (PySem.W.Looks.here (s:={ s with toks:=s.toks+1 }) (PySem.W.looks_clsIn X hc) ?_))))))
 rw[hd']
 refine wpAny_pure (a:=some dx) (wpAny_bind (wpAny_pure (wpAny_bind ?_)))
 refine wpAny_nsSet1 (s:={ s with toks:=s.toks+1 }) I.ns λh' hn2 hs2=>?_
 obtain⟨oD,esD,epD,hoD,hdD,hcD⟩:=hn2.count (PySem.Within.cons name v hw)
 refine wpAny_bind (wpAny_lookBehind hoD (by rw[hdD];exact pastItsLine_dict (Nat.le_trans hcD (by rw[List.length_cons];omega))) ?_)
 exact wpAny_pure (h _ ⟨(hs2.2 _ (Ne.symm I.ne)).trans I.obj,hn2,I.ne⟩ hs2)
theorem Gg {R:Result->Shared->Prop}{vs:List Value}{kw:List (Str×Value)}(X:K.In s.heap)(hm:PySem.W.makesIn K C=true)
  (hi:findIn K (.ref C) "__init__" = some (some (.ref f))) (hf:PySem.W.typeIn K (.ref f)=some (.type "function"))
  (h:codeAny (model prog w) (A.under (.builtin "type.__call__" ⟨.ref C::vs,kw⟩)) (.call (.ref f) ⟨.ref (s.heap.objs.size+1)::vs,kw⟩) (PySem.W.InitBack (s.heap.objs.size+1) R)
   { s with heap:=(s.heap.push emptyDict).push (instObj C s.heap.objs.size) }) :
  codeAny (model prog w) A (.call (.ref C) ⟨vs,kw⟩) R s:=by
 obtain⟨hh,g,d,t,os⟩:=s
 exact PySem.W.make_core (PySem.W.makes_of X hm) (looks_findIn X hi) (λself=>PySem.W.bind_fn X self hf) (.inl rfl) h
end
def putF (f:Str)(v:V):List (Str×V)->List (Str×V)
 | []=>[(f,v)]
 | (g,x)::r=>if g=f then (g,v)::r else (g,x)::putF f v r
theorem ZF (f g:Str)(v:V):∀fs:List (Str×V),(putF f v fs).lookup g=if g=f then some v else fs.lookup g
 | []=>by
  show List.lookup g [(f,v)]=_
  by_cases h:g=f
  ·have hb:(g==f)=true:=beq_iff_eq.mpr h
   simp only[List.lookup,hb,if_pos h]
  ·have hb:(g==f)=false:=beq_eq_false_iff_ne.mpr h
   simp only[List.lookup,hb,if_neg h]
 | (k,x)::r=>by
  have ih:=ZF f g v r
  rw[show putF f v ((k,x)::r)=(if k=f then (k,v)::r else (k,x)::putF f v r) from rfl]
  by_cases hk:k=f
  ·rw[if_pos hk]
   by_cases h:g=k
   ·have hb:(g==k)=true:=beq_iff_eq.mpr h
    simp only[List.lookup,hb,if_pos (h.trans hk)]
   ·have hb:(g==k)=false:=beq_eq_false_iff_ne.mpr h
    simp only[List.lookup,hb,if_neg (λe:g=f=>h (e.trans hk.symm))]
  ·rw[if_neg hk]
   by_cases h:g=k
   ·have hb:(g==k)=true:=beq_iff_eq.mpr h
    simp only[List.lookup,hb,if_neg (λe:g=f=>hk (h.symm.trans e))]
   ·have hb:(g==k)=false:=beq_eq_false_iff_ne.mpr h
    simp only[List.lookup,hb]
    exact ih
theorem kH (f:Str)(v:V):∀fs:List (Str×V),f∈(putF f v fs).map (·.1)/\∀g,g∈fs.map (·.1)->g∈(putF f v fs).map (·.1)
 | []=>⟨by simp[putF],λg h=>by simp at h⟩
 | (k,x)::r=>by
  obtain⟨i1,i2⟩:=kH f v r
  rw[show putF f v ((k,x)::r)=(if k=f then (k,v)::r else (k,x)::putF f v r) from rfl]
  by_cases hk:k=f
  ·rw[if_pos hk]
   subst hk
   exact⟨by simp,λg h=>by simpa using h⟩
  ·rw[if_neg hk]
   refine⟨?_,λg h=>?_⟩
   ·rw[List.map_cons]
    exact List.mem_cons_of_mem _ i1
   ·rw[List.map_cons] at h ⊢
    rcases List.mem_cons.mp h with e | e
    ·exact List.mem_cons.mpr (.inl e)
    ·exact List.mem_cons_of_mem _ (i2 g e)
theorem kU (f:Str)(v:V):∀fs:List (Str×V),(putF f v fs).length<=fs.length+1
 | []=>by simp[putF]
 | (k,x)::r=>by
  have ih:=kU f v r
  rw[show putF f v ((k,x)::r)=(if k=f then (k,v)::r else (k,x)::putF f v r) from rfl]
  by_cases hk:k=f
  ·rw[if_pos hk,List.length_cons,List.length_cons];omega
  ·rw[if_neg hk,List.length_cons,List.length_cons];omega
theorem RelO.some_of {v:V}{o:Option Value}(r:RelO (some v) o):∃u,o=some u/\RelV v u:=by
 cases o with
 |none=>exact (show False from r).elim
 |some u=>exact⟨u,rfl,r⟩
theorem RelO.none_of {o:Option Value}(r:RelO none o):o=none:=by
 cases o with
 |none=>rfl
 |some u=>exact (show False from r).elim
theorem UM {v:V}{u:Value}(r:RelV v u):PySem.W.handedIn u=true:=by
 cases v with
 |non=>cases (show u=Value.none from r);rfl
 |bl b=>cases (show u=Value.bool b from r);rfl
 |int i=>obtain⟨t,e⟩:=(show ∃t,u=Value.int i t from r);cases e;rfl
 |str x=>obtain⟨t,e⟩:=(show ∃t,u=Value.str x t from r);cases e;rfl
 |byt b=>obtain⟨t,e⟩:=(show ∃t,u=Value.bytes b t from r);cases e;rfl
 |flt b=>obtain⟨t,e⟩:=(show ∃t,u=Value.float b t from r);cases e;rfl
 |ref a=>cases (show u=Value.ref a from r);rfl
 |ty n=>cases (show u=Value.type n from r);rfl
section
variable {P:Program}{w:World}{H H':Hp}{h h':Heap}{a C dx:Addr}{fs fs':List (Str×V)}
theorem vE (hok:HOk P w H h)(e:H a=some (.ins C dx fs)):∃mA,ObjM h a dx C mA/\(∀f,RelO (fs.lookup f) (mA f))/\PySem.Within mA (fs.map (·.1))/\fs.length<=1000/\H dx=some (.own a):=by
 obtain⟨d,z,ne,ob,mA,n,r,q⟩:=(show ObjOk P w H h a (.ins C dx fs) from hok a _ e)
 exact⟨mA,⟨ob,n,ne⟩,r,q,z,d⟩
end
structure Cls (K:PySem.W.Frag)(C:Addr):Prop where
 pg:plainGet K C Str.empty=true
 hd:hasDictIn K C=true
 po:PySem.W.plainOver K C=true
 sa:findIn K (.ref C) "__setattr__" = some (some (.builtin "object.__setattr__"))
theorem Cls.get {K:PySem.W.Frag}{C:Addr}(c:Cls K C)(f:Str):plainGet K C f=true:=c.pg
def NoAttr (K:PySem.W.Frag)(C:Addr)(f:Str):Prop:=findIn K (.ref C) f=some none
theorem NoAttr.taker {K:PySem.W.Frag}{C:Addr}{f:Str}(n:NoAttr K C f):takerIn K C f=some none:=by
 unfold takerIn
 rw[show findIn K (.ref C) f=some none from n]
 rfl
structure Con (K:PySem.W.Frag)(C:Addr)(f:Str)(v:V)(u:Value):Prop where
 at_:findIn K (.ref C) f=some (some u)
 rel:RelV v u
 get:PySem.W.specialIn K u "__get__" = some none
 cp:PySem.W.copiedNames.contains f=false
structure Meth (K:PySem.W.Frag)(C:Addr)(m:Str)(f:Addr):Prop where
 at_:findIn K (.ref C) m=some (some (.ref f))
 fn:PySem.W.isFn K (.ref f)=true
 kp:keepIn K (.ref f)=true
section
variable {X:Cx}{pins:List (Addr×Obj)}{σ:St}{H:Hp}{s:Shared}{a C dx:Addr}{fs:List (Str×V)}{f:Str}{v:V}{A:Around}{E:Value->Shared->Prop}
theorem Ke {b:Bool}{Q:Value->Shared->Prop}(I:Inv X pins σ H s)(e:H a=some (.ins C dx fs))(c:Cls X.K C)(n:NoAttr X.K C f)(l:fs.lookup f=some v)
  (h:∀u s',Inv X pins σ H s'->RelV v u->Q u s'):wpAny (model X.prog X.w) A (getAttr (.ref a) f b) Q E s:=by
 obtain⟨mA,O,r,_,_,_⟩:=vE I.hok e
 obtain⟨u,hu,ru⟩:=RelO.some_of (v:=v) (o:=mA f) (by rw[<-l];exact r f)
 exact Wz I.kIn O (c.get f) c.hd n hu (UM ru) (h u _ (I.tok _) ru)
theorem UK {m:Str}{g:Addr}{pl:Sem Bool}{Q:Value×List Value->Shared->Prop}(I:Inv X pins σ H s)(e:H a=some (.ins C dx fs))(c:Cls X.K C)(k:Meth X.K C m g)(l:fs.lookup m=none)
  (h:Q (.ref g,[.ref a]) s):wpAny (model X.prog X.w) A (getMethod (.ref a) m pl) Q E s:=by
 obtain⟨mA,O,r,_,_,_⟩:=vE I.hok e
 have hn:mA m=none:=RelO.none_of (by rw[<-l];exact r m)
 exact Jz I.kIn O (c.get m) k.at_ k.fn hn h
theorem WI {y:V}{u:Value}{Q:Unit->Shared->Prop}(I:Inv X pins σ H s)(e:H a=some (.ins C dx fs))(c:Cls X.K C)(n:NoAttr X.K C f)(hl:fs.length < 1000)(ry:RelV y u)
  (h:∀s',Inv X pins σ (upd H a (.ins C dx (putF f y fs))) s'->Q () s'):wpAny (model X.prog X.w) A (setAttr (.ref a) f u) Q E s:=by
 obtain⟨mA,O,r,wi,_,ho⟩:=vE I.hok e
 have hz:(fs.map (·.1)).length<=sizeLine:=by rw[List.length_map,sizeLine_eq];omega
 refine QC I.kIn O c.sa c.po n.taker c.hd wi hz λh' O' sb=>h _ ?_
 have hd:∃o,h'.get? dx=some o:=let ⟨o,_,_,e',_⟩:=O'.ns;⟨o,e'⟩
 refine I.write (x:=a) (e:=dx) (by rw[e];exact True.intro) (.inr ho) (λb q hb z=>(sb.2 b hb).trans z) hd ?_
 refine⟨by rw[zd O.ne];exact ho,?_,O.ne,O'.obj,_,O'.ns,λg=>?_,λg hg=>?_⟩
 ·have:=kU f y fs;omega
 ·show RelO ((putF f y fs).lookup g) (if g=f then some u else mA g)
  rw[ZF]
  by_cases q:g=f
  ·rw[if_pos q,if_pos q];exact ry
  ·rw[if_neg q,if_neg q];exact r g
 ·by_cases q:g=f
  ·rw[q];exact (kH f y fs).1
  ·refine (kH f y fs).2 g (wi g λz=>hg ?_)
   show (if g=f then some u else mA g)=none
   rw[if_neg q];exact z
theorem Inv.made (I:Inv X pins σ H s):Inv X pins σ (upd (upd H s.heap.objs.size (.own (s.heap.objs.size+1))) (s.heap.objs.size+1) (.ins C s.heap.objs.size []))
  { s with heap:=(s.heap.push emptyDict).push (instObj C s.heap.objs.size) }:=by
 have e1:(s.heap.push emptyDict).get? s.heap.objs.size=some emptyDict:=Heap.get?_push_size s.heap rfl
 have e2:((s.heap.push emptyDict).push (instObj C s.heap.objs.size)).get? (s.heap.objs.size+1)=some (instObj C s.heap.objs.size):=by
  have:=Heap.get?_push_size (s.heap.push emptyDict) (o:=instObj C s.heap.objs.size) rfl
  rwa [Heap.size_push] at this
 have e3:(s.heap.push emptyDict).Ns s.heap.objs.size (λ_=>none):=⟨emptyDict,#[],_,e1,rfl,(λe he=>absurd he (by simp)),λ_=>rfl⟩
 have I1:=I.laid (a:=s.heap.objs.size) (o:=.own (s.heap.objs.size+1)) (h':=s.heap.push emptyDict) (t':=s.toks) (λb u q=>Heap.get?_push_of_some _ q) (Nat.le_refl _) ⟨_,e1⟩
 refine I1.laid (a:=s.heap.objs.size+1) (o:=.ins C s.heap.objs.size []) (t':=s.toks) (λb u q=>Heap.get?_push_of_some _ q) (Nat.le_of_eq (Heap.size_push _ _)) ?_
 have ne:s.heap.objs.size≠s.heap.objs.size+1:=Nat.ne_of_lt (Nat.lt_succ_self _)
 refine⟨by rw[zd ne,zi],Nat.zero_le _,ne,e2,λ_=>none,(Heap.Ns1.of_empty e3).at λo q=>Heap.get?_push_of_some _ q,λ_=>True.intro,λy hy=>absurd rfl hy⟩
theorem Vr {prog:Program}{w:World}{env:Env}{e:Expr}{f:Str}{pos:Pos}{s:Shared}{Q:Value->Shared->Prop}(hb:attributeBase e f env (eval e env)=eval e env)
  (h:wpAny (model prog w) A (eval e env) (λo s₁=>wpAny (model prog w) A (getAttr o f true) Q E s₁) E s):wpAny (model prog w) A (eval (.Attribute e f pos) env) Q E s :=
 Attribute_any_ h (by rw[arm_eval_Attribute,hb])
end
def tFld (K:PySem.W.Frag)(ta:TE)(f:Str):TE:=λσ H Q=>ta σ H λx H1=>∃a C dx fs v,x=.ref a/\H1 a=some (.ins C dx fs)/\Cls K C/\NoAttr K C f/\fs.lookup f=some v/\Q v H1
def sFld (K:PySem.W.Frag)(ta tv:TE)(f:Str):TS:=λD σ H=>tv σ H λy H1=>ta σ H1 λx H2=>∃a C dx fs,x=.ref a/\H2 a=some (.ins C dx fs)/\Cls K C/\NoAttr K C f/\fs.length < 1000 /\
 D.nx σ (upd H2 a (.ins C dx (putF f y fs)))
section
variable {X:Cx}{o e value:Expr}{f:Str}{pos pos' tpos:Pos}{ta tv:TE}
theorem Gy (he:PE X e ta)(hb:attributeBase e f X.env (eval e X.env)=eval e X.env):PE X (.Attribute e f pos) (tFld X.K ta f):=by
 intro pins s σ H Q I h
 refine Vr hb (thn (he pins s σ H _ I h) λu s1 ⟨x,H1,I1,rx,a,C,dx,fs,v,ex,ea,c,n,l,q⟩=>?_)
 subst ex
 obtain rfl:u=Value.ref a:=rx
 exact Ke I1 ea c n l λu' s2 I2 ru=>⟨v,H1,I2,ru,q⟩
theorem Qy (ha:PE X o ta)(hv:PE X value tv)(hs:swapsWith value (some (.Attribute o f pos')) pos.line X.env=pure false):PS X (.Assign [.Attribute o f pos'] value pos) (sFld X.K ta tv f):=by
 intro pins s σ H D I h
 refine plainObj_wpAny_Assign_Attribute (thn (hv pins s σ H _ I h) λu s1 ⟨y,H1,I1,ry,q⟩=>thn (ha pins s1 σ H1 _ I1 q) λov s2 ⟨x,H2,I2,rx,a,C,dx,fs,ex,ea,c,n,l,q2⟩=>?_) hs
 subst ex
 obtain rfl:ov=Value.ref a:=rx
 exact WI I2 ea c n l ry λs3 I3=>⟨σ,_,I3,q2⟩
end
section
variable {X:Cx}{pins:List (Addr×Obj)}{σ:St}{H:Hp}{s:Shared}{A:Around}{E:Value->Shared->Prop}{Q:Value->Shared->Prop}{c:Value}{b:Bool}
inductive TyOf (K:PySem.W.Frag) (H:Hp):V->Value->Prop where
 |non:TyOf K H .non (.type "NoneType")
 |bl (x:Bool):TyOf K H (.bl x) (.type "bool")
 |int (i:Int):TyOf K H (.int i) (.type "int")
 |str (x:Str):TyOf K H (.str x) (.type "str")
 |flt (x:UInt64):TyOf K H (.flt x) (.type "float")
 |lst {a:Addr} {xs:List V} (e:H a=some (.lst xs)):TyOf K H (.ref a) (.type "list")
 |frz {a:Addr} {o:Obj} {xs:List V} (e:H a=some (.frz o (.lst xs))):TyOf K H (.ref a) (.type "list")
 |tup {a:Addr} {xs:List V} (e:H a=some (.tup xs)):TyOf K H (.ref a) (.type "tuple")
 |dK {a:Addr} {kvs:List (Key×V)} (e:H a=some (.dK kvs)):TyOf K H (.ref a) (.type "dict")
 |dT {a:Addr} {kvs:List (List Key×V)} (e:H a=some (.dT kvs)):TyOf K H (.ref a) (.type "dict")
 |ins {a C dx:Addr} {fs:List (Str×V)} (e:H a=some (.ins C dx fs)) (cl:Cls K C) (ha:findIn K (.ref C) "__class__" = some (some (.builtin "object.__class__")))
   (hn:PySem.W.specialIn K (.builtin "object.__class__") "__get__" = some (some (.builtin "getset_descriptor.__get__"))) (htk:PySem.W.takesIn K (.builtin "object.__class__")=some true)
   (hm:PySem.W.mroIn K C (.type "object")=some true):TyOf K H (.ref a) (.ref C)
theorem Qc {x:V}{u t:Value}(I:Inv X pins σ H s)(rx:RelV x u)(ty:TyOf X.K H x t)(e:kitOne X.K t c=some b)(h:∀tk,Q (.bool b) { s with toks:=tk }) :
  wpAny (model X.prog X.w) A (call (.builtin "isinstance") [u,c]) Q E s:=by
 cases ty with
 |non=>cases (show u=Value.none from rx);exact PySem.W.kia_one PySem.W.kitx_none I.kIn True.intro e (λz=>nomatch z) h
 |bl y=>cases (show u=Value.bool y from rx);exact PySem.W.kia_one PySem.W.kitx_bool I.kIn True.intro e (λz=>nomatch z) h
 |int i=>obtain⟨t,q⟩:=(show ∃t,u=Value.int i t from rx);cases q;exact PySem.W.kia_one PySem.W.kitx_int I.kIn True.intro e (λz=>nomatch z) h
 |str y=>obtain⟨t,q⟩:=(show ∃t,u=Value.str y t from rx);cases q;exact PySem.W.kia_one PySem.W.kitx_str I.kIn True.intro e (λz=>nomatch z) h
 |flt y=>obtain⟨t,q⟩:=(show ∃t,u=Value.float y t from rx);cases q;exact PySem.W.kia_one PySem.W.kitx_float I.kIn True.intro e (λz=>nomatch z) h
 | @lst a xs ea=>
  cases (show u=Value.ref a from rx)
  obtain⟨_,_,n,_,h1⟩:=(show ObjOk X.prog X.w H s.heap a (.lst xs) from I.hok a _ ea)
  exact PySem.W.kia_one PySem.W.kitx_list I.kIn ⟨_,h1,rfl⟩ e (λz=>nomatch z) h
 | @frz a ob xs ea=>
  cases (show u=Value.ref a from rx)
  obtain⟨_,_,_,n,_,h1⟩:=(show ObjOk X.prog X.w H s.heap a (.frz ob (.lst xs)) from I.hok a _ ea)
  exact PySem.W.kia_one PySem.W.kitx_list I.kIn ⟨_,h1,rfl⟩ e (λz=>nomatch z) h
 | @tup a xs ea=>
  cases (show u=Value.ref a from rx)
  obtain⟨_,_,_,p⟩:=(show ObjOk X.prog X.w H s.heap a (.tup xs) from I.hok a _ ea)
  obtain⟨o,h1,h2,_⟩:=p
  exact PySem.W.kia_one PySem.W.kitx_tuple I.kIn ⟨o,h1,h2⟩ e (λz=>nomatch z) h
 | @dK a kvs ea=>
  cases (show u=Value.ref a from rx)
  obtain⟨_,_,vs,_,p⟩:=(show ObjOk X.prog X.w H s.heap a (.dK kvs) from I.hok a _ ea)
  obtain⟨o,es,ep,h1,h2,_⟩:=p
  exact PySem.W.kia_one PySem.W.kitx_dict I.kIn ⟨o,h1,h2.1⟩ e (λz=>nomatch z) h
 | @dT a kvs ea=>
  cases (show u=Value.ref a from rx)
  obtain⟨_,_,xs,_,o,es,ep,h1,h2,_⟩:=(show ObjOk X.prog X.w H s.heap a (.dT kvs) from I.hok a _ ea)
  exact PySem.W.kia_one PySem.W.kitx_dict I.kIn ⟨o,h1,h2.1⟩ e (λz=>nomatch z) h
 | @ins a C dx fs ea cl ha hn htk hm=>
  cases (show u=Value.ref a from rx)
  obtain⟨mA,O,_⟩:=vE I.hok ea
  obtain⟨od,J,_⟩:=O.look
  exact PySem.W.kia_one (PySem.W.kitx_own (cl.get _) cl.hd ha hn htk hm) I.kIn J e (λz=>nomatch z) h
end
structure Room (k:Nat)(A:Around):Prop where
 hd:A.handled=none
 dp:A.depth+3 * k+5 < recursionLimit
 un:A.units+16 * k+200 < cLine
theorem Room.mono {j k:Nat}{A:Around}(r:Room k A)(h:j<=k):Room j A:=⟨r.hd,by have:=r.dp;omega,by have:=r.un;omega⟩
theorem Room.deeper {k:Nat}{A:Around}(r:Room (k+1) A)(env:Env):Room k (A.deeper env) :=
 ⟨r.hd,by have:=r.dp;show A.depth+1+3 * k+5 < _;omega,by have:=r.un;show A.units+3+16 * k+200 < _;omega⟩
theorem Uk {A:Around}{C:Addr}{us:List Value}{kw:List (Str×Value)}:(A.under (.builtin "type.__call__" ⟨.ref C::us,kw⟩)).depth=A.depth+1:=by
 first | rfl | simp[Around.under,Code.weight,Code.isCreation,Code.isGuard,Code.isCaller,Code.frames,Code.isFrame,guardIds]
theorem VW {A:Around}{C:Addr}{us:List Value}{kw:List (Str×Value)}:(A.under (.builtin "type.__call__" ⟨.ref C::us,kw⟩)).units=A.units+1:=by
 first | rfl | simp[Around.under,Code.cUnits,Code.frames,Code.isFrame]
theorem Room.make {k:Nat}{A:Around}(r:Room (k+1) A)(C:Addr)(us:List Value)(kw:List (Str×Value)):Room k (A.under (.builtin "type.__call__" ⟨.ref C::us,kw⟩)) :=
 ⟨r.hd,by have:=r.dp;rw[Uk];omega,by have:=r.un;rw[VW];omega⟩
theorem Room.depth {k:Nat}{A:Around}(r:Room k A):A.depth < recursionLimit:=by have:=r.dp;omega
theorem Room.units {k:Nat}{A:Around}(r:Room k A):A.units+64 < cLine:=by have:=r.un;omega
def tNil:TA:=λ_ H Q=>Q [] H
def tCons (ta:TE)(tr:TA):TA:=λσ H Q=>ta σ H λx H1=>tr σ H1 λxs H2=>Q (x::xs) H2
section
variable {X:Cx}{e:Expr}{es:List Expr}{te:TE}{t:TA}{pos:Pos}
theorem yd:PA X [] tNil:=λ_ _ _ _ H Q I h=>Calls.spliced_nil ⟨[],H,I,.nil,h⟩
theorem zM (ha:PE X e te)(hr:PA X es t)(hs:starEach (e::es) X.env=(false,eval e X.env)::starEach es X.env:=by rfl):PA X (e::es) (tCons te t):=by
 intro pos pins s σ H Q I h
 rw[hs]
 show wpAny _ _ (spliced ((false,eval e X.env)::backTo pos (starEach es X.env))) _ _ s
 refine Calls.spliced_cons (thn (ha pins s σ H _ I h) λu s1 ⟨x,H1,I1,r1,q1⟩=>?_)
 exact thn (hr pos pins s1 σ H1 _ I1 q1) λus s2 ⟨xs,H2,I2,r2,q2⟩=>⟨x::xs,H2,I2,.cons r1 r2,q2⟩
def tTup (t:TA):TE:=λσ H Q=>t σ H λxs H1=>xs.length<=sizeLine/\∀p,H1 p=none->Q (.ref p) (upd H1 p (.tup xs))
def tLst (t:TA):TE:=λσ H Q=>t σ H λxs H1=>xs.length<=sizeLine/\∀p,H1 p=none->Q (.ref p) (upd H1 p (.lst xs))
theorem Qw {x1}(h:PA X es t):PE X (.Tuple es x1 pos) (tTup t):=by
 intro pins s σ H Q I hq
 refine wpAny_Tuple_spliced (thn (h pos pins s σ H _ I hq) λus s1 ⟨xs,H1,I1,r,z,q⟩=>⟨by rw[<-r.length];exact z,?_⟩)
 have hf:H1 s1.heap.objs.size=none:=I1.hok.fresh (Nat.le_refl _)
 refine⟨.ref s1.heap.objs.size,upd H1 s1.heap.objs.size (.tup xs),I1.laid (t':=s1.toks) (λb u e=>Heap.get?_push_of_some _ e) (Nat.le_refl _) ?_,rfl,q _ hf⟩
 exact⟨z,us,r,⟨_,Heap.get?_push_size _ rfl,rfl,_,rfl⟩⟩
theorem Ql (h:PA X es t):PE X (.List es pos) (tLst t):=by
 intro pins s σ H Q I hq
 refine wpAny_List_spliced (thn (h pos pins s σ H _ I hq) λus s1 ⟨xs,H1,I1,r,z,q⟩=>⟨by rw[<-r.length];exact z,?_⟩)
 have hf:H1 s1.heap.objs.size=none:=I1.hok.fresh (Nat.le_refl _)
 refine⟨.ref s1.heap.objs.size,upd H1 s1.heap.objs.size (.lst xs),I1.laid (t':=s1.toks) (λb u e=>Heap.get?_push_of_some _ e) (Nat.le_refl _) ?_,rfl,q _ hf⟩
 exact⟨z,us,0,r,Heap.get?_push_size _ rfl⟩
end
abbrev Sp:=List V->Hp->VK->XK->Prop
abbrev CXT:=List Env->Hp->Shared->XK->Value->Shared->Prop
structure Env0 (P:Program)(w:World)(K:PySem.W.Frag)(mg:Str->Option Value)(base:Heap)(A:Around)(outer:List Env)(s:Shared)(H:Hp):Prop where
 frames:A.frames=some outer
 mod:Mod K mg base
 bs:∀b o,base.get? b=some o->s.heap.get? b=some o/\H b=none
 bsz:base.objs.size<=s.heap.objs.size
 funs:s.heap.FunFrames base outer
 frf:∀b∈frs outer,H b=none
 hok:HOk P w H s.heap
 bare:AllBare s.gens
def CE (outer:List Env)(P:Program)(w:World)(H:Hp)(s:Shared)(Q:VK)(u:Value)(s':Shared):Prop :=
 ∃v H',s'.os=s.os/\AllBare s'.gens/\Un (frs outer) [] H H' s.heap s'.heap/\HOk P w H' s'.heap/\RelV v u/\Q v H'
def CR (CX:CXT)(outer:List Env)(P:Program)(w:World)(H:Hp)(s:Shared)(Q:VK)(E:XK)(r:Result)(s':Shared):Prop :=
 match r with
 |.ok (.ret u)=>CE outer P w H s Q u s'
 |.ok _=>False
 |.error e=>CX outer H s E e s'
structure FnOk (P:Program)(w:World)(K:PySem.W.Frag)(mg:Str->Option Value)(base:Heap)(CX:CXT)(k:Nat)(f:Addr)(fd:FuncData)(ps:List Str)(sp:Sp):Prop where
 len:∀vs H Q E,sp vs H Q E->vs.length=ps.length
 run:∀(A:Around) (outer:List Env) (s:Shared) (H:Hp) (args:Args) (us:List Value) (vs:List V) (Q:VK) (E:XK),Room k A->Env0 P w K mg base A outer s H->BindsTo s fd args (ps.zip us)->Vals vs us->sp vs H Q E ->
  codeAny (model P w) A (.call (.ref f) args) (CR CX outer P w H s Q E) s
theorem FnOk.imp {P:Program}{w:World}{K:PySem.W.Frag}{mg:Str->Option Value}{base:Heap}{CX:CXT}{k:Nat}{f:Addr}{fd:FuncData}{ps:List Str}{sp sp':Sp}(F:FnOk P w K mg base CX k f fd ps sp)
  (h:∀vs H Q E,sp' vs H Q E->sp vs H Q E):FnOk P w K mg base CX k f fd ps sp' :=
 ⟨λvs H Q E q=>F.len vs H Q E (h _ _ _ _ q),λA outer s H args us vs Q E hr he hb hv hs=>F.run A outer s H args us vs Q E hr he hb hv (h _ _ _ _ hs)⟩
theorem Env0.make {P:Program}{w:World}{K:PySem.W.Frag}{mg:Str->Option Value}{base:Heap}{A:Around}{outer:List Env}{s:Shared}{H:Hp}(e:Env0 P w K mg base A outer s H)(C:Addr)(us:List Value)(kw:List (Str×Value)) :
  Env0 P w K mg base (A.under (.builtin "type.__call__" ⟨.ref C::us,kw⟩)) outer s H:=⟨by first | exact e.frames | (simpa[Around.under,Code.envs,Code.isFrame,pushEnvs] using e.frames),e.mod,e.bs,e.bsz,e.funs,e.frf,e.hok,e.bare⟩
section
variable {X:Cx}{pins:List (Addr×Obj)}{σ:St}{H:Hp}{s s':Shared}
theorem Inv.env0 (I:Inv X pins σ H s):Env0 X.prog X.w X.K X.mg X.base X.A X.stack s H :=
 ⟨I.ok.frames,I.ok.mod,I.bs,Nat.le_trans I.ok.bsz I.sz,I.stack,I.stkFree,I.hok,I.bare⟩
theorem Inv.after {Q:VK}{u:Value}(I:Inv X pins σ H s)(h:CE X.stack X.prog X.w H s Q u s'):EP X pins σ Q u s':=by
 obtain⟨v,H',os,bare,un,hok,r,q⟩:=h
 obtain⟨hh,g,d,t,os'⟩:=s'
 obtain rfl:os'=s.os:=os
 exact⟨v,H',I.call (h':=hh) (g':=g) (d':=d) (t':=t) (ch:=[]) un hok bare (λb z=>absurd z (by simp)),r,q⟩
end
def tCall (sp:Sp)(dvs:List V)(E:XK)(t:TA):TE:=λσ H Q=>t σ H λvs H1=>sp (vs++dvs) H1 Q E
def tMeth (C:Addr)(m:Str)(sp:Sp)(dvs:List V)(E:XK)(ta:TE)(t:TA):TE:=λσ H Q=>ta σ H λx H1=>∃a dx fs,x=.ref a/\H1 a=some (.ins C dx fs)/\fs.lookup m=none /\
 t σ H1 λvs H2=>sp (x::(vs++dvs)) H2 Q E
def tMake (C:Addr)(sp:Sp)(dvs:List V)(E:XK)(t:TA):TE:=λσ H Q=>t σ H λvs H1=>∀x dx,H1 x=none->H1 dx=none->dx≠x ->
 sp (.ref x::(vs++dvs)) (upd (upd H1 dx (.own x)) x (.ins C dx [])) (λv H2=>v=.non/\Q (.ref x) H2) E
def Binds (K:PySem.W.Frag)(fd:FuncData)(ps:List Str)(ds:List Value):Prop :=
 ∀(s:Shared) (us:List Value),K.In s.heap->(us++ds).length=ps.length->BindsTo s fd ⟨us,[]⟩ (ps.zip (us++ds))
theorem Binds.all {K:PySem.W.Frag}{fd:FuncData}{ps:List Str}(h:∀us:List Value,us.length=ps.length->bindArgs fd ⟨us,[]⟩=pure (ps.zip us)):Binds K fd ps []:=λs us _ hl=>by
 rw[List.append_nil] at hl ⊢
 exact .of_eq (h us hl)
def Passes (CX:CXT)(X:Cx)(E:XK):Prop:=∀(pins:List (Addr×Obj)) (σ:St) (H:Hp) (s:Shared) (e:Value) (s':Shared),Inv X pins σ H s->CX X.stack H s E e s'->X.xe e s'
section
variable {X:Cx}{CX:CXT}{k:Nat}{f C:Addr}{fd:FuncData}{ps:List Str}{sp:Sp}{dvs:List V}{ds:List Value}{E:XK}{x m:Str}{p pos apos:Pos}{e o:Expr}{es:List Expr}{ta:TE}{t:TA}
theorem Zl {pins:List (Addr×Obj)}{σ:St}{H:Hp}{s:Shared}{Q:VK}{us:List Value}{vs:List V}(F:FnOk X.prog X.w X.K X.mg X.base CX k f fd ps sp)(hr:Room k X.A)(hb:Binds X.K fd ps ds)(hd:Vals dvs ds)(hx:Passes CX X E)
  (I:Inv X pins σ H s) (r:Vals vs us) (h:sp (vs++dvs) H Q E):wpAny (model X.prog X.w) X.A (call (.ref f) us) (EP X pins σ Q) X.xe s:=by
 have r2:Vals (vs++dvs) (us++ds):=r.append hd
 have hl:(us++ds).length=ps.length:=by rw[<-r2.length];exact F.len _ _ _ _ h
 refine wpAny_call (codeAny_mono (F.run X.A X.stack s H ⟨us,[]⟩ (us++ds) (vs++dvs) Q E hr I.env0 (hb s us I.kIn hl) r2 h) λr s' hq=>?_)
 cases r with
 |error e=>exact hx pins σ H s e s' I hq
 |ok fl=>
  cases fl with
  |ret u=>exact I.after hq
  |next=>exact False.elim hq
  |brk=>exact False.elim hq
  |cont=>exact False.elim hq
theorem jr (F:FnOk X.prog X.w X.K X.mg X.base CX k f fd ps sp)(hr:Room k X.A)(hg:Gl X x)(hm:X.mg x=some (.ref f))(hk:keepIn X.K (.ref f)=true)(hb:Binds X.K fd ps ds)(hd:Vals dvs ds)(hx:Passes CX X E)
  (ha:PA X (e::es) t) (hdb:(x==("__debug__" : Str))=false:=by decide) (he:starEach (e::es) X.env=(false,eval e X.env)::starEach es X.env:=by rfl) (hpl:(backTo pos (starEach es X.env)).any (·.1)=false:=by rfl) :
  PE X (.Call (.Name x p) (e::es) [] pos) (tCall sp dvs E t):=by
 intro pins s σ H Q I h
 refine wpAny_Call_Name_kw (yz I hg hm ?_ hdb)
 refine PySem.W.callWith_K (h₀:=X.base) I.ok.mod.kin hk (thn (ha pos pins s σ H _ I h) λus s1 ⟨vs,H1,I1,r,q⟩=>⟨I1.kIn,?_⟩) he hpl
 exact Zl F hr hb hd hx I1 r q
theorem Ui {pl:Sem Bool}(he:PE X o ta)(c:Cls X.K C)(hm:Meth X.K C m f)(F:FnOk X.prog X.w X.K X.mg X.base CX k f fd ps sp)(hr:Room k X.A)(hb:Binds X.K fd ps ds)(hd:Vals dvs ds)(hx:Passes CX X E)(ha:PA X (e::es) t)
  (hst:starEach (e::es) X.env=(false,eval e X.env)::starEach es X.env:=by rfl) (hpl:(backTo pos (starEach es X.env)).any (·.1)=false:=by rfl)
  (ht:eval (.Call (.Attribute o m apos) (e::es) [] pos) X.env=(do
   let ov <-eval o X.env
   standAt apos.atName
   let (f,first) <-holding [ov] (getMethod ov m pl)
   callWith pos f first (backTo pos (starEach (e::es) X.env)) (backToKw pos (keywordEach [] X.env))):=by rfl) :
  PE X (.Call (.Attribute o m apos) (e::es) [] pos) (tMeth C m sp dvs E ta t):=by
 intro pins s σ H Q I h
 refine PySem.W.methodCall_KW (pl:=pl) (thn (he pins s σ H _ I h) λu s1 ⟨x,H1,I1,rx,a,dx,fs,ex,ea,l,q⟩=>?_) ht
 subst ex
 obtain rfl:u=Value.ref a:=rx
 refine UK I1 ea c hm l ?_
 refine PySem.W.callWith_K (first:=[.ref a]) (h₀:=X.base) I.ok.mod.kin hm.kp (thn (ha pos pins s1 σ H1 _ I1 q) λus s2 ⟨vs,H2,I2,r,q2⟩=>⟨I2.kIn,?_⟩) hst hpl
 exact Zl (us:=.ref a::us) (vs:=.ref a::vs) F hr hb hd hx I2 (.cons rfl r) q2
structure Mk (K:PySem.W.Frag)(C f:Addr):Prop where
 makes:PySem.W.makesIn K C=true
 init:findIn K (.ref C) "__init__" = some (some (.ref f))
 fn:PySem.W.isFn K (.ref f)=true
 kp:keepIn K (.ref C)=true
theorem Jf {pins:List (Addr×Obj)}{σ:St}{H:Hp}{s:Shared}{Q:VK}{us:List Value}{vs:List V}(M:Mk X.K C f)(F:FnOk X.prog X.w X.K X.mg X.base CX k f fd ps sp)(hr:Room (k+1) X.A)(hb:Binds X.K fd ps ds)(hd:Vals dvs ds)
  (hx:Passes CX X E) (I:Inv X pins σ H s) (r:Vals vs us)
  (h:∀x dx,H x=none->H dx=none->dx≠x->sp (.ref x::(vs++dvs)) (upd (upd H dx (.own x)) x (.ins C dx [])) (λv H2=>v=.non/\Q (.ref x) H2) E) :
  wpAny (model X.prog X.w) X.A (call (.ref C) us) (EP X pins σ Q) X.xe s:=by
 have hq:=h (s.heap.objs.size+1) s.heap.objs.size (I.hok.fresh (Nat.le_succ _)) (I.hok.fresh (Nat.le_refl _)) (Nat.ne_of_lt (Nat.lt_succ_self _))
 have I2:=Inv.made (C:=C) I
 have r2:Vals (V.ref (s.heap.objs.size+1)::(vs++dvs)) (Value.ref (s.heap.objs.size+1)::(us++ds)):=.cons rfl (r.append hd)
 have hl:(Value.ref (s.heap.objs.size+1)::us++ds).length=ps.length:=by
  have e:=r2.length
  rw[F.len _ _ _ _ hq] at e
  exact e.symm
 refine wpAny_call (Gg (f:=f) I.kIn M.makes M.init (beq_iff_eq.mp M.fn) (codeAny_mono (F.run _ X.stack _ _ ⟨Value.ref (s.heap.objs.size+1)::us,[]⟩ (Value.ref (s.heap.objs.size+1)::(us++ds)) _ _ E (hr.make C us [])
  (I2.env0.make C us []) (hb _ (Value.ref (s.heap.objs.size+1)::us) I2.kIn hl) r2 hq) λr s' hq'=>?_))
 cases r with
 |error e=>exact hx pins σ _ _ e s' I2 hq'
 |ok fl=>
  cases fl with
  |ret u=>
   obtain⟨v,H',I3,rv,ev,q3⟩:=I2.after hq'
   subst ev
   exact⟨rv,⟨V.ref (s.heap.objs.size+1),H',I3,rfl,q3⟩⟩
  |next=>exact False.elim hq'
  |brk=>exact False.elim hq'
  |cont=>exact False.elim hq'
theorem Km (M:Mk X.K C f)(F:FnOk X.prog X.w X.K X.mg X.base CX k f fd ps sp)(hr:Room (k+1) X.A)(hg:Gl X x)(hm:X.mg x=some (.ref C))(hb:Binds X.K fd ps ds)(hd:Vals dvs ds)(hx:Passes CX X E)
  (ha:PA X (e::es) t) (hdb:(x==("__debug__" : Str))=false:=by decide) (he:starEach (e::es) X.env=(false,eval e X.env)::starEach es X.env:=by rfl) (hpl:(backTo pos (starEach es X.env)).any (·.1)=false:=by rfl) :
  PE X (.Call (.Name x p) (e::es) [] pos) (tMake C sp dvs E t):=by
 intro pins s σ H Q I h
 refine wpAny_Call_Name_kw (yz I hg hm ?_ hdb)
 refine PySem.W.callWith_K (h₀:=X.base) I.ok.mod.kin M.kp (thn (ha pos pins s σ H _ I h) λus s1 ⟨vs,H1,I1,r,q⟩=>⟨I1.kIn,?_⟩) he hpl
 exact Jf M F hr hb hd hx I1 r q
end
section
variable {X:Cx}{CX:CXT}{k:Nat}{f C:Addr}{fd:FuncData}{ps ks:List Str}{sp:Sp}{E:XK}{x m:Str}{p pos apos kpos:Pos}{e o:Expr}{es:List Expr}{kws:List Keyword}{te ta:TE}{t tk:TA}{nm:Option Str}
structure KBinds (K:PySem.W.Frag)(fd:FuncData)(ps ks:List Str)(g:List Value->List Value->List Value)(gV:List V->List V->List V):Prop where
 to:∀(s:Shared) (us ws:List Value),K.In s.heap->(g us ws).length=ps.length->BindsTo s fd ⟨us,ks.zip ws⟩ (ps.zip (g us ws))
 rel:∀ {vs:List V} {us:List Value} {zs:List V} {ws:List Value},Vals vs us->Vals zs ws->Vals (gV vs zs) (g us ws)
variable {g:List Value->List Value->List Value}{gV:List V->List V->List V}
end
structure FnScope (N P:List Str)(sc:Scope):Prop where
 kind:sc.kind=.function
 co:sc.isCoroutine=false
 gen:sc.isGenerator=false
 nd:N.Nodup
 pre:N.take P.length=P
 par:∀x∈P,sc.names.lookup x=some .local∨sc.names.lookup x=some .cell
 nofree:∀y∈sc.names,y.2≠.free
theorem YV {kindOf:Str->Option NameKind}{x:Str}:∀ {binds:List (Str×Value)} {m:Str->Option Value},(∀v,(x,v)∉binds)->bindL kindOf binds m x=m x
 | [],_,_=>rfl
 | (n,v)::r,m,h=>by
  unfold bindL
  rw[YV λw hw=>h w (List.mem_cons_of_mem _ hw)]
  split
  ·have:x≠n:=by rintro rfl;exact h v List.mem_cons_self
   simp[this]
  ·rfl
theorem Zn {kindOf:Str->Option NameKind}{x:Str}:∀ {binds:List (Str×Value)} {m:Str->Option Value},(∀v,(x,v)∉binds)->bindC kindOf binds m x=m x
 | [],_,_=>rfl
 | (n,v)::r,m,h=>by
  unfold bindC
  rw[Zn λw hw=>h w (List.mem_cons_of_mem _ hw)]
  split
  ·rfl
  ·have:x≠n:=by rintro rfl;exact h v List.mem_cons_self
   simp[this]
theorem YI {kindOf:Str->Option NameKind}{x:Str}{v:Value}:∀ {P:List Str} {vs:List Value} {i:Nat} {m:Str->Option Value},P.Nodup->P[i]?=some x->vs[i]?=some v->kindOf x=some .local ->
  bindL kindOf (P.zip vs) m x=some v
 | [],_,_,_,_,h,_,_=>by simp at h
 |_::_,[],_,_,_,_,h,_=>by simp at h
 |p::P,w::vs,0,m,nd,h1,h2,hk=>by
  simp at h1 h2;subst h1;subst h2
  show bindL kindOf ((p,w)::P.zip vs) m p=_
  unfold bindL
  rw[YV λv hv=>(List.nodup_cons.mp nd).1 (List.of_mem_zip hv).1,if_pos hk]
  simp
 |p::P,w::vs,i+1,m,nd,h1,h2,hk=>by
  show bindL kindOf ((p,w)::P.zip vs) m x=_
  unfold bindL
  exact YI (i:=i) (List.nodup_cons.mp nd).2 (by simpa using h1) (by simpa using h2) hk
theorem Z7 {kindOf:Str->Option NameKind}{x:Str}{v:Value}:∀ {P:List Str} {vs:List Value} {i:Nat} {m:Str->Option Value},P.Nodup->P[i]?=some x->vs[i]?=some v->kindOf x≠some .local ->
  bindC kindOf (P.zip vs) m x=some v
 | [],_,_,_,_,h,_,_=>by simp at h
 |_::_,[],_,_,_,_,h,_=>by simp at h
 |p::P,w::vs,0,m,nd,h1,h2,hk=>by
  simp at h1 h2;subst h1;subst h2
  show bindC kindOf ((p,w)::P.zip vs) m p=_
  unfold bindC
  rw[Zn λv hv=>(List.nodup_cons.mp nd).1 (List.of_mem_zip hv).1,if_neg hk]
  simp
 |p::P,w::vs,i+1,m,nd,h1,h2,hk=>by
  show bindC kindOf ((p,w)::P.zip vs) m x=_
  unfold bindC
  exact Z7 (i:=i) (List.nodup_cons.mp nd).2 (by simpa using h1) (by simpa using h2) hk
def start (N:List Str)(vs:List V):St:=vs.map some++List.replicate (N.length - vs.length) none
def cxOf (CX:CXT)(P:Program)(w:World)(K:PySem.W.Frag)(mg:Str->Option Value)(base:Heap)(N:List Str)(qual:Str)(scope:Scope)(f:Addr)(cd:Value)(A:Around)(outer:List Env)(s:Shared)(H:Hp)(E:XK):Cx where
 prog:=P
 w:=w
 K:=K
 mg:=mg
 base:=base
 A:=A.deeper (envOfC qual scope s.heap.objs.size f cd)
 N:=N
 s₀:=s
 H₀:=H
 env:=envOfC qual scope s.heap.objs.size f cd
 outer:=outer
 stack:=envOfC qual scope s.heap.objs.size f cd::outer
 ex:=[]
 calm:=true
 fn:=λ_=>true
 pn:=[]
 xe:=λe s'=>wpAny (model P w) (A.deeper (envOfC qual scope s.heap.objs.size f cd)) (leaving (envOfC qual scope s.heap.objs.size f cd) e) (λ_ s''=>CX outer H s E e s'') (λe' s''=>CX outer H s E e' s'') s'
theorem uY {sc:Scope}{n:Nat}{x:Str}(h:sc.names.lookup x=some .cell):∃c,(cellsFrom n sc.names []).lookup x=some c:=by
 have q:=PySem.W.cellsFrom_some sc.names n [] (.inl h)
 exact Option.isSome_iff_exists.mp q
theorem QE {CX:CXT}{P:Program}{w:World}{K:PySem.W.Frag}{mg:Str->Option Value}{base:Heap}{N ps:List Str}{qual:Str}{scope:Scope}{f:Addr}{cd:Value}{A:Around}{outer:List Env}{s s1:Shared}{H:Hp}{E:XK}{us:List Value}{vs:List V}
  (S:FnScope N ps scope) (hd:A.handled=none) (e0:Env0 P w K mg base A outer s H) (hl:vs.length=ps.length) (r:Vals vs us)
  (x:InCallC s s.heap.objs.size (bindL (envOfC qual scope s.heap.objs.size f cd).kindOf (ps.zip us) λ_=>none) (cellsFrom (s.heap.objs.size+1) scope.names []) (bindC (envOfC qual scope s.heap.objs.size f cd).kindOf (ps.zip us) λ_=>none) s1) :
  Inv (cxOf CX P w K mg base N qual scope f cd A outer s H E) [] (start N vs) H s1:=by
 have hpl:ps.length<=N.length:=by have:=congrArg List.length S.pre;rw[List.length_take] at this;omega
 obtain⟨h1,tk,rfl,hk⟩:=x.done
 have noA:∀b:Addr,b∉(cxOf CX P w K mg base N qual scope f cd A outer s H E).ex:=λb z=>absurd (show b∈([]:List Addr) from z) (by simp)
 refine⟨⟨e0.mod,S.kind,rfl,rfl,Nat.le_refl _,λy z c h1 h2=>?_,λy hy=>?_,λy c _ h=>?_,λ_=>hd,Around.frames_deeper e0.frames,.inr ⟨rfl,rfl⟩,λb z=>absurd z (noA b),e0.bs,e0.bsz,λb _ _=>noA b,λb z=>absurd z (noA b),e0.funs,e0.frf⟩,
  rfl,e0.bare,Un.kept hk,⟨_,x.toInCall.ns,λi y v h1 h2 h3=>?_⟩,λy c h=>⟨_,x.cell y c h⟩,e0.hok.fresh (Nat.le_refl _),λy c h=>?_,λp hp=>absurd (show p∈([]:List (Addr×Obj)) from hp) (by simp),e0.hok.kept hk,?_⟩
 ·exact name_of_addr x.apart (PySem.mem_of_lookup h1) (PySem.mem_of_lookup h2)
 ·have hy:scope.names.lookup y=some .cell∨scope.names.lookup y=some .free:=hy
  rcases hy with hy | hy
  ·exact uY hy
  ·exact absurd rfl (S.nofree _ (PySem.mem_of_lookup hy))
 ·exact Nat.le_of_lt (x.above y c (PySem.mem_of_lookup h))
 ·have hi:i < vs.length:=by
   unfold start at h2
   by_cases hi:i < vs.length
   ·exact hi
   ·rw[List.getElem?_append_right (by simpa using hi)] at h2
    rw[List.getElem?_replicate] at h2
    split at h2<;>cases h2
  have ha:vs[i]?=some v:=by
   unfold start at h2
   rw[List.getElem?_append_left (by simpa using hi),List.getElem?_map] at h2
   cases e:vs[i]? with
   |none=>rw[e] at h2;cases h2
   |some a=>rw[e] at h2;cases h2;rfl
  obtain⟨u,hu,rv⟩:=r.get ha
  have hp:ps[i]?=some y:=by
   rw[<-S.pre,List.getElem?_take_of_lt (by omega)];exact h1
  have ndP:ps.Nodup:=by rw[<-S.pre];exact S.nd.sublist (List.take_sublist _ _)
  refine⟨u,rv,?_⟩
  rcases S.par y (List.mem_of_getElem? hp) with k | k
  ·exact .inl ⟨k,YI ndP hp hu k⟩
  ·obtain⟨c,e⟩:=uY (n:=s.heap.objs.size+1) k
   refine .inr ⟨.inl k,c,e,?_⟩
   have q:=x.cell y c e
   rw[Z7 ndP hp hu (by show scope.names.lookup y≠_;rw[k];decide)] at q
   exact q
 ·exact e0.hok.fresh (Nat.le_of_lt (x.above y c (PySem.mem_of_lookup h)))
 ·unfold start
  show _=N.length
  rw[List.length_append,List.length_map,List.length_replicate]
  omega
theorem vR {CX:CXT}{P:Program}{w:World}{K:PySem.W.Frag}{mg:Str->Option Value}{base:Heap}{k:Nat}{f:Addr}{name qual:Str}{params:Arguments}{body:List Stmt}{scope:Scope}{dV kV doc pm cdv ct oc:Value}{an od:Option Addr}
  {osl:Array (Option Value)} {N ps:List Str} {sp:Sp} (lk:K.lookup f=some ⟨oc,od,.func (fnOf name qual params body scope dV kV doc pm an cdv ct),osl⟩) (hcd:codeIn K cdv qual=true) (S:FnScope N ps scope)
  (len:∀vs H Q E,sp vs H Q E->vs.length=ps.length)
  (hbody:∀(A:Around) (outer:List Env) (s:Shared) (H:Hp) (vs:List V) (Q:VK) (E:XK),Room k (A.deeper (envOfC qual scope s.heap.objs.size f cdv))->sp vs H Q E ->
   ∃t,PSs (cxOf CX P w K mg base N qual scope f cdv A outer s H E) body t/\t { nx:=λ_ H'=>Q .non H',rt:=Q } (start N vs) H) :
  FnOk P w K mg base CX (k+1) f (fnOf name qual params body scope dV kV doc pm an cdv ct) ps sp:=by
 refine⟨len,λA outer s H args us vs Q E hr e0 hb r hsp=>?_⟩
 have hl:=len _ _ _ _ hsp
 have KX:K.In s.heap:=e0.mod.kin.keeps λb o e=>(e0.bs b o e).1
 have lim:s.heap.NoLimit:=e0.mod.nolimit.keeps λb o e=>(e0.bs b o e).1
 have hkind:∀y∈ps.zip us,scope.names.lookup y.1=some .local∨(scope.names.lookup y.1=some .cell/\((cellsFrom (s.heap.objs.size+1) scope.names []).lookup y.1).isSome=true):=fun⟨n,v⟩ hy=>by
  rcases S.par n (List.of_mem_zip hy).1 with q | q
  ·exact .inl q
  ·exact .inr ⟨q,PySem.W.cellsFrom_some _ _ _ (.inl q)⟩
 refine codeAny_call_function hr.depth (KX _ _ lk) rfl S.co S.gen rfl (PySem.W.codeRec_of KX hcd) (hb _ _ _ _ ?_)
 refine wpAny_newFunctionEnv_cells S.kind hkind λenv he s1 x=>?_
 subst he
 refine⟨lim.keeps x.toInCall.keep,codeAny_func ?_⟩
 obtain⟨t,ht,hq⟩:=hbody A outer s H vs Q E (hr.deeper _) hsp
 have I:Inv (cxOf CX P w K mg base N qual scope f cdv A outer s H E) [] (start N vs) H s1:=QE S hr.hd e0 hl r x
 refine wpAny_mono (ht [] s1 (start N vs) H _ I hq) (λfl s' hs=>?_) λe s' hs=>hs
 have fin:∀ {σ':St} {H':Hp} {v:V} {u:Value},Inv (cxOf CX P w K mg base N qual scope f cdv A outer s H E) [] σ' H' s'->RelV v u->Q v H'->CE outer P w H s Q u s' :=
  fun {σ' H' v u} J rv q=>⟨v,H',J.os,J.bare,J.base,J.hok,rv,q⟩
 cases fl with
 |ret u=>
  obtain⟨v,σ',H',J,rv,q⟩:=hs
  exact fin J rv q
 |next=>
  obtain⟨σ',H',J,q⟩:=hs
  exact fin (v:=V.non) (u:=Value.none) J rfl q
 |brk=>
  obtain⟨_,_,_,q⟩:=hs
  exact False.elim q
 |cont=>
  obtain⟨_,_,_,q⟩:=hs
  exact False.elim q
section
variable {X:Cx}{x:Str}{p pos:Pos}{e:Expr}{es:List Expr}{t:TA}{id T:String}{r:List V->Hp->VK->Prop}
def tCB (r:List V->Hp->VK->Prop)(t:TA):TE:=λσ H Q=>t σ H λvs H1=>r vs H1 Q
theorem jA (hc:CallR X (.builtin id) r)(hg:Gl X x)(hm:X.mg x=none)(hv:bootBuiltins x=some (.builtin id))(ha:PA X (e::es) t)(hn:x ≠ "__name__" := by decide) (hdb:(x==("__debug__" : Str))=false:=by decide)
  (he:starEach (e::es) X.env=(false,eval e X.env)::starEach es X.env:=by rfl) (hpl:(backTo pos (starEach es X.env)).any (·.1)=false:=by rfl):PE X (.Call (.Name x p) (e::es) [] pos) (tCB r t):=by
 intro pins s σ H Q I h
 refine wpAny_Call_Name_kw (vc I hg hm hv ?_ hn hdb)
 exact PyProof.Rows.callWith_builtin1 (thn (ha pos pins s σ H _ I h) λus s1 ⟨vs,H1,I1,r1,q1⟩=>hc pins s1 σ H1 vs us Q I1 r1 q1) he hpl
theorem Z6 (hc:CallR X (.type T) r)(hg:Gl X x)(hm:X.mg x=none)(hv:bootBuiltins x=some (.type T))(ha:PA X (e::es) t)(hn:x ≠ "__name__" := by decide) (hdb:(x==("__debug__" : Str))=false:=by decide)
  (he:starEach (e::es) X.env=(false,eval e X.env)::starEach es X.env:=by rfl) (hpl:(backTo pos (starEach es X.env)).any (·.1)=false:=by rfl):PE X (.Call (.Name x p) (e::es) [] pos) (tCB r t):=by
 intro pins s σ H Q I h
 refine wpAny_Call_Name_kw (vc I hg hm hv ?_ hn hdb)
 exact PyProof.Rows.callWith_type1 (thn (ha pos pins s σ H _ I h) λus s1 ⟨vs,H1,I1,r1,q1⟩=>hc pins s1 σ H1 vs us Q I1 r1 q1) he hpl
end
end L2
namespace HT
open PySem PyProof.Rows
section
open PySem.SeqAt
open PySem.AutoSeq1 (wpAny_loadPart')
open PySem.MeetsSeq PySem.MeetsSeq2 PySem.MeetsSeq3
end
section
variable {prog:Program}{w:World}{A:Around}{E:Value->Shared->Prop}{s:Shared}
def sIx (n d:Nat):Option Int->Nat
 |none=>d
 |some v=>if v < 0 then (v+(n:Int)).toNat else min v.toNat n
end
end HT
namespace L2
open PySem PySem.Spec PyProof.Rows
abbrev TO:=St->Hp->(Option Int->Hp->Prop)->Prop
def PO (X:Cx)(e:Option Expr)(t:TO):Prop :=
 ∀(pins:List (Addr×Obj)) (s:Shared) (σ:St) (H:Hp) (Q:Option Int->Hp->Prop),Inv X pins σ H s->t σ H Q ->
  wpAny (model X.prog X.w) X.A (evalPart e X.env) (λu s'=>∃o H',Inv X pins σ H' s'/\IsPart u o/\Q o H') X.xe s
def Ko:TO:=λ_ H Q=>Q none H
def tPart (t:TE):TO:=λσ H Q=>t σ H λx H1=>∃i,x=.int i/\Q (some i) H1
section
variable {X:Cx}{e:Expr}{te:TE}{lo hi:Option Expr}{tl th:TO}{pos p2:Pos}
theorem WV:PO X none Ko:=by
 intro pins s σ H Q I h
 rw[evalPart_none]
 exact wpAny_pure ⟨none,H,I,.none,h⟩
theorem Q0 (h:PE X e te):PO X (some e) (tPart te):=by
 intro pins s σ H Q I hw
 rw[evalPart_some]
 refine thn (h pins s σ H _ I hw) λu s1 ⟨x,H1,I1,r1,q1⟩=>?_
 obtain⟨i,rfl,q⟩:=q1
 obtain⟨t,rfl⟩:=r1
 exact⟨some i,H1,I1,.int i t,q⟩
def SlR (X:Cx)(r:V->Option Int->Option Int->Hp->VK->Prop):Prop :=
 ∀(pins:List (Addr×Obj)) (s:Shared) (σ:St) (H:Hp) (x:V) (v vl vu:Value) (lo hi:Option Int) (sl:Addr) (Q:VK),Inv X pins σ H s->RelV x v->s.heap.IsSliceOf sl vl vu .none->IsPart vl lo->IsPart vu hi->r x lo hi H Q ->
  ∃T id,typeLookup (.type T) "__getitem__" = pure (some (.builtin id))/\s.TypeIs v T/\wpAny (model X.prog X.w) X.A (getItem v (.ref sl)) (EP X pins σ Q) X.xe s
def tSl (r:V->Option Int->Option Int->Hp->VK->Prop)(te:TE)(tl th:TO):TE:=λσ H Q=>te σ H λx H1=>tl σ H1 λl H2=>th σ H2 λu H3=>r x l u H3 Q
theorem Wo {r:V->Option Int->Option Int->Hp->VK->Prop}(hr:SlR X r)(he:PE X e te)(hl:PO X lo tl)(hu:PO X hi th):PE X (.Subscript e (.Slice lo hi none p2) pos) (tSl r te tl th):=by
 intro pins s σ H Q I h
 refine Subscript_ (thn (he pins s σ H _ I h) λv s1 ⟨x,H1,I1,r1,q1⟩=>?_)
 refine wpAny_Slice (thn (hl pins s1 σ H1 _ I1 q1) λvl s2 ⟨l,H2,I2,pl,q2⟩=>thn (hu pins s2 σ H2 _ I2 q2) λvu s3 ⟨u,H3,I3,pu,q3⟩=>?_)
 rw[evalPart_none]
 refine wpAny_pure ?_
 have I4:Inv X pins σ H3 { s3 with heap:=s3.heap.push { cls:=.type "slice",data:=.fields #[vl,vu,.none] } }:=I3.kept (t':=s3.toks) λb ob q=>Heap.get?_push_of_some _ q
 obtain⟨T,id,hT,ht,hg⟩:=hr pins { s3 with heap:=s3.heap.push { cls:=.type "slice",data:=.fields #[vl,vu,.none] } } σ H3 x v vl vu l u s3.heap.objs.size Q I4 r1 (Heap.IsSliceOf.new ..) pl pu q3
 show wpAny (model X.prog X.w) X.A (subscriptTail e (.Slice lo hi none p2) v (.ref s3.heap.objs.size)) (EP X pins σ Q) X.xe { s3 with heap:=s3.heap.push { cls:=.type "slice",data:=.fields #[vl,vu,.none] } }
 exact tail_any (ops:=[.ref s3.heap.objs.size,v]) ht hT hg (by with_unfolding_all rfl)
def cutV (xs:List V)(lo hi:Option Int):List V:=(xs.drop (HT.sIx xs.length 0 lo)).take (HT.sIx xs.length xs.length hi - HT.sIx xs.length 0 lo)
theorem WE (xs:List V)(lo hi:Option Int):(cutV xs lo hi).length<=xs.length:=by
 unfold cutV
 rw[List.length_take,List.length_drop]
 omega
end
def ixN (n:Nat)(i:Int):Option Nat:=if 0<=i then (if i < n then some i.toNat else none) else if -(n:Int)<=i then some (i+n).toNat else none
def atI {α:Type}(xs:List α)(i:Int):Option α:=(ixN xs.length i).bind λj=>xs[j]?
theorem Ws {n:Nat}{i:Int}{j:Nat}(h:ixN n i=some j):seqIndex? i n=some j/\j < n/\-(n:Int)<=i/\i < n:=by
 unfold ixN at h
 by_cases h0:0<=i
 ·rw[if_pos h0] at h
  by_cases h1:i < n
  ·rw[if_pos h1] at h
   have e:i.toNat=j:=Option.some.inj h
   exact⟨by rw[seqIndex_of h0 h1,e],by omega,by omega,h1⟩
  ·rw[if_neg h1] at h;cases h
 ·rw[if_neg h0] at h
  by_cases h1:-(n:Int)<=i
  ·rw[if_pos h1] at h
   have e:(i+n).toNat=j:=Option.some.inj h
   exact⟨by rw[seqIndex_neg (by omega) h1,e],by omega,h1,by omega⟩
  ·rw[if_neg h1] at h;cases h
theorem qp {α:Type}{xs:List α}{i:Int}{v:α}(h:atI xs i=some v):∃j,seqIndex? i xs.length=some j/\xs[j]?=some v/\j < xs.length/\-(xs.length:Int)<=i/\i < xs.length:=by
 unfold atI at h
 cases e:ixN xs.length i with
 |none=>rw[e] at h;cases h
 |some j=>
  rw[e] at h
  obtain⟨h1,h2,h3,h4⟩:=Ws e
  exact⟨j,h1,h,h2,h3,h4⟩
theorem atI_nat {α:Type}{xs:List α}{j:Nat}{v:α}(h:xs[j]?=some v):atI xs (j:Int)=some v:=by
 have hj:j < xs.length:=(List.getElem?_eq_some_iff.mp h).1
 have e:ixN xs.length (j:Int)=some j:=by
  unfold ixN
  rw[if_pos (by omega),if_pos (by omega)];simp
 unfold atI;rw[e];exact h
def qo (b:Expr):Prop:=∀o i,subscripted b false o i=operate [o,i] (getItem o i)
def IxR (X:Cx)(r:R2):Prop :=
 ∀(value slice:Expr) (pins:List (Addr×Obj)) (s:Shared) (σ:St) (H:Hp) (x y:V) (v u:Value) (Q:VK),Inv X pins σ H s->RelV x v->RelV y u->r x y H Q ->
  subscripted slice false v u=operate [v,u] (getItem v u)->wpAny (model X.prog X.w) X.A (subscriptTail value slice v u) (EP X pins σ Q) X.xe s
def MtR (X:Cx)(id:String)(r:V->List V->Hp->VK->Prop):Prop :=
 ∀(pins:List (Addr×Obj)) (s:Shared) (σ:St) (H:Hp) (x:V) (xs:List V) (v:Value) (us:List Value) (Q:VK),Inv X pins σ H s->RelV x v->Vals xs us->r x xs H Q ->
  wpAny (model X.prog X.w) X.A (call (.builtin id) (v::us)) (EP X pins σ Q) X.xe s
section
variable {X:Cx}{a b:Expr}{ta tb:TE}{pos:Pos}
theorem IxR.or {r r':R2}(h:IxR X r)(h':IxR X r'):IxR X (λx y H Q=>r x y H Q∨r' x y H Q):=by
 intro value slice pins s σ H x y v u Q I rx ry q hs
 rcases q with q | q
 ·exact h value slice pins s σ H x y v u Q I rx ry q hs
 ·exact h' value slice pins s σ H x y v u Q I rx ry q hs
theorem Uc {r:R2}(hr:IxR X r)(ha:PE X a ta)(hb:PE X b tb)(hs:qo b):PE X (.Subscript a b pos) (tOp r ta tb):=by
 intro pins s σ H Q I h
 exact Subscript_ (binT ha hb I h λv u s2 x y H2 I2 rx ry q=>hr a b pins s2 σ H2 x y v u Q I2 rx ry q (hs _ _))
def rIxL (K:PySem.W.Frag):R2:=λx y H Q=>∃p xs i v,x=.ref p/\y=.int i/\SqL K H p xs/\atI xs i=some v/\Q v H
def rIxT (K:PySem.W.Frag):R2:=λx y H Q=>∃p xs i v,x=.ref p/\y=.int i/\SqT K H p xs/\atI xs i=some v/\Q v H
def rIxS:R2:=λx y H Q=>∃z i c,x=.str z/\y=.int i/\z.length<=sizeLine/\atI z.cps.toList i=some c/\Q (.str ⟨#[c]⟩) H
theorem ix_list:IxR X (rIxL X.K):=by
 intro value slice pins s σ H x y v u Q I rx ry h hs
 obtain⟨p,xs,i,z,rfl,rfl,hq,he,q⟩:=h
 cases rx
 obtain⟨t,rfl⟩:=ry
 obtain⟨its,r,pl,hz⟩:=I.list hq
 obtain⟨j,h1,h2,h3,h4,h5⟩:=qp he
 obtain⟨w,ew,rw'⟩:=r.get h2
 have hl:=r.length
 have hn:=line63
 have fin:EP X pins σ Q w s:=⟨z,H,I,rw',q⟩
 by_cases h0:0<=i
 ·have hj:i.toNat=j:=by
   rw[seqIndex_of h0 h5] at h1
   exact Option.some.inj h1
  exact item_listR pl.isList h0 (by omega) (by rw[hj];simpa using ew) fin hs
 ·have hj:(i+(its.toArray.size:Int)).toNat=j:=by
   rw[seqIndex_neg (by omega) h4] at h1
   rw[List.size_toArray,<-hl]
   exact Option.some.inj h1
  exact subscriptTail_builtinR (x:=w) pl.isList.typeIs slot_list_getitem.lookup
   (wpAny_getItem_list_neg (Q:=λr s'=>r=w/\EP X pins σ Q r s') pl.isList (by omega) (by rw[List.size_toArray]<;>omega) (by omega) (by rw[hj];simpa using ew) ⟨rfl,fin⟩) hs
theorem ix_tup:IxR X (rIxT X.K):=by
 intro value slice pins s σ H x y v u Q I rx ry h hs
 obtain⟨p,xs,i,z,rfl,rfl,hq,he,q⟩:=h
 cases rx
 obtain⟨t,rfl⟩:=ry
 obtain⟨its,r,pl,hz⟩:=I.tuple hq
 obtain⟨j,h1,h2,h3,h4,h5⟩:=qp he
 obtain⟨w,ew,rw'⟩:=r.get h2
 have hl:=r.length
 have hn:=line63
 have fin:EP X pins σ Q w s:=⟨z,H,I,rw',q⟩
 exact subscriptTail_builtinR (x:=w) pl.typeIs slot_tuple_getitem.lookup
  (getItem_tuple (j:=j) (Q:=λr s'=>r=w/\EP X pins σ Q r s') pl (by omega) (by omega) (by rw[List.size_toArray,<-hl];exact h1) (by simpa using ew) ⟨rfl,fin⟩) hs
theorem WQ:IxR X rIxS:=by
 intro value slice pins s σ H x y v u Q I rx ry h hs
 obtain⟨z,i,c,rfl,rfl,hz,he,q⟩:=h
 obtain⟨t,rfl⟩:=rx
 obtain⟨t',rfl⟩:=ry
 obtain⟨j,h1,h2,h3,h4,h5⟩:=qp he
 have hl:z.cps.toList.length=z.length:=by simp[Str.length]
 rw[hl] at h1 h4 h5
 have hn:=line63
 exact tail_any (typeIs_str s z t) slot_str_getitem.lookup (getItem_str (c:=c) (by
  have e1:decide (i < -(2 ^ 63:Int))=false:=decide_eq_false (by omega)
  have e2:decide (i≥2 ^ 63)=false:=decide_eq_false (by omega)
  rw[e1,e2,Bool.or_false]) (by rw[h1];simpa using h2) ⟨.str ⟨#[c]⟩,H,I.tok _,⟨_,rfl⟩,q⟩) hs
def rIx (K:PySem.W.Frag):R2:=λx y H Q=>rIxL K x y H Q∨rIxT K x y H Q∨rIxS x y H Q
theorem V1:IxR X (rIx X.K):=ix_list.or (ix_tup.or WQ)
theorem KS (its:List Value)(n j:Nat)(u:Value):Obj.mapSeq (·.setIfInBounds j u) { cls:=.type "list",data:=.seq its.toArray n }={ cls:=.type "list",data:=.seq (its.set j u).toArray n }:=by
 simp[Obj.mapSeq]
theorem Inv.lst {pins:List (Addr×Obj)}{σ:St}{H:Hp}{s:Shared}{p:Addr}{xs:List V}(I:Inv X pins σ H s)(h:H p=some (.lst xs)) :
  ∃(its:List Value) (n:Nat),Vals xs its/\s.heap.get? p=some { cls:=.type "list",data:=.seq its.toArray n }/\xs.length<=sizeLine:=by
 obtain⟨z,its,n,r,e⟩:=I.hok p _ h
 exact⟨its,n,r,e,z⟩
theorem Inv.lstUpd {pins:List (Addr×Obj)}{σ:St}{H:Hp}{s:Shared}{p:Addr}{xs ys:List V}{its its':List Value}{n n':Nat}{f:Obj->Obj}(I:Inv X pins σ H s)(h:H p=some (.lst xs))
  (ho:s.heap.get? p=some { cls:=.type "list",data:=.seq its.toArray n }) (hf:f { cls:=.type "list",data:=.seq its.toArray n }={ cls:=.type "list",data:=.seq its'.toArray n' }) (r:Vals ys its') (hz:ys.length<=sizeLine) (t:Nat) :
  Inv X pins σ (upd H p (.lst ys)) { s with heap:=s.heap.update p f,toks:=t }:=by
 have e:(s.heap.update p f).get? p=some { cls:=.type "list",data:=.seq its'.toArray n' }:=by
  rw[Heap.get?_update_self f ho (by rw[hf]<;>rfl),hf]
 refine I.write (x:=p) (e:=p) (by rw[h];trivial) (.inl rfl) (λb u hb q=>(Heap.get?_update_other _ _ (Ne.symm hb)).trans q) ⟨_,e⟩ ?_
 exact⟨hz,its',n',r,e⟩
def rSetL:V->V->V->Hp->(Hp->Prop)->Prop:=λo i v H Q=>∃p xs k j,o=.ref p/\i=.int k/\H p=some (.lst xs)/\ixN xs.length k=some j/\Q (upd H p (.lst (xs.set j v)))
theorem JP:PSet X rSetL:=by
 intro pins s σ H o i v ov iv u Q I ro ri rv h
 obtain⟨p,xs,k,j,rfl,rfl,hp,hj,q⟩:=h
 cases ro
 obtain⟨t,rfl⟩:=ri
 obtain⟨its,n,r,ho,hz⟩:=I.lst hp
 obtain⟨h1,h2,h3,h4⟩:=Ws hj
 have hl:=r.length
 have hn:=line63
 have I':Inv X pins σ (upd H p (.lst (xs.set j v))) { s with heap:=s.heap.update p (Obj.mapSeq (·.setIfInBounds j u)) } :=
  I.lstUpd hp ho (KS its n j u) (r.set rv j) (by rw[List.length_set];exact hz) s.toks
 by_cases h0:0<=k
 ·have hk:k.toNat=j:=by
   rw[seqIndex_of h0 h4] at h1
   exact Option.some.inj h1
  exact PySem.W.ki_setAt ho h0 (by omega) (by rw[List.size_toArray,<-hl];exact h4) (by rw[hk];exact⟨_,I',q⟩)
 ·have hk:(k+(its.toArray.size:Int)).toNat=j:=by
   rw[seqIndex_neg (by omega) h3] at h1
   rw[List.size_toArray,<-hl]
   exact Option.some.inj h1
  exact PySem.W.ki_setBack ho (by omega) (by rw[List.size_toArray,<-hl];exact h3) (by omega) (by rw[hk];exact⟨_,I',q⟩)
theorem Ux (lo hi:Option Int)(n:Nat):(sliceBounds lo hi none n).1=((HT.sIx n 0 lo:Nat):Int)/\(sliceBounds lo hi none n).2.1=((HT.sIx n n hi:Nat):Int)/\(sliceBounds lo hi none n).2.2=1:=by
 refine⟨?_,?_,rfl⟩
 ·cases lo with
  |none=>simp[sliceBounds,HT.sIx]
  |some i=>
   simp only[sliceBounds,HT.sIx,Option.getD_none,show (1:Int) > 0 by decide,if_true]
   by_cases h:i < 0
   ·simp only[h,if_true]<;>omega
   ·simp only[h,if_false]<;>omega
 ·cases hi with
  |none=>simp[sliceBounds,HT.sIx]
  |some i=>
   simp only[sliceBounds,HT.sIx,Option.getD_none,show (1:Int) > 0 by decide,if_true]
   by_cases h:i < 0
   ·simp only[h,if_true]<;>omega
   ·simp only[h,if_false]<;>omega
theorem UD (its:List Value)(lo hi:Option Int):slicePick its.toArray lo hi none=((its.drop (HT.sIx its.length 0 lo)).take (HT.sIx its.length its.length hi - HT.sIx its.length 0 lo)).toArray:=by
 obtain⟨h1,h2,h3⟩:=Ux lo hi its.toArray.size
 unfold slicePick
 rw[h1,h2,h3]
 simp only[sliceRange_one,pick_run,List.size_toArray]<;>rfl
def rSlL (K:PySem.W.Frag):V->Option Int->Option Int->Hp->VK->Prop:=λx lo hi H Q=>∃a xs,x=.ref a/\SqL K H a xs/\∀p,H p=none->Q (.ref p) (upd H p (.lst (cutV xs lo hi)))
theorem Qd:SlR X (rSlL X.K):=by
 intro pins s σ H x v vl vu lo hi sl Q I rx hs pl pu h
 obtain⟨a,xs,rfl,hx,q⟩:=h
 cases rx
 obtain⟨its,r,ht,hz⟩:=I.list hx
 have hlen:=r.length
 refine⟨"list",_,slot_list_getitem.lookup,ht.isList.typeIs,?_⟩
 refine wpAny_getItem_list_slice ht.isList hs pl pu .none (by simp) ?_ (by rw[List.size_toArray]<;>omega)
 rw[UD,<-hlen]
 refine⟨.ref s.heap.objs.size,_,I.laid (t':=s.toks) (o:=.lst (cutV xs lo hi)) (λb ob q=>Heap.get?_push_of_some _ q) (Nat.le_refl _) ?_,rfl,q _ (I.hok.fresh (Nat.le_refl _))⟩
 exact⟨Nat.le_trans (WE xs lo hi) hz,_,0,(r.drop (HT.sIx xs.length 0 lo)).take (HT.sIx xs.length xs.length hi - HT.sIx xs.length 0 lo),Heap.get?_push_size _ rfl⟩
def tyV (K:PySem.W.Frag)(T:String)(x:V)(H:Hp):Prop:=match x with
 |.str _=>T = "str"
 |.int _=>T = "int"
 |.ref p=>(T = "list" /\ ∃xs,SqL K H p xs)∨(T = "tuple" /\ ∃o,K.lookup p=some o/\o.cls=.type "tuple" /\ o.dict=none) ∨
   (T = "dict" /\ ((∃kvs,H p=some (.dK kvs))∨∃kvs,H p=some (.dT kvs)))∨(T = "set" /\ ∃S n,H p=some (.set S n))
 |_=>False
theorem kO {pins:List (Addr×Obj)}{σ:St}{H:Hp}{s:Shared}{T:String}{x:V}{v:Value}(I:Inv X pins σ H s)(r:RelV x v)(ty:tyV X.K T x H) :
  s.TypeIs v T/\∀a,v=.ref a->∃ob,s.heap.get? a=some ob/\ob.dict=none:=by
 cases x with
 |str z=>
  obtain⟨t,rfl⟩:=r
  cases (show T = "str" from ty)
  exact⟨typeIs_str s z t,λ_ e=>nomatch e⟩
 |int i=>
  obtain⟨t,rfl⟩:=r
  cases (show T = "int" from ty)
  exact⟨typeIs_int s i t,λ_ e=>nomatch e⟩
 |ref p=>
  cases r
  rcases ty with⟨rfl,xs,hq⟩ | ⟨rfl,o,hk,hc,hd⟩ | ⟨rfl,hk⟩ | ⟨rfl,S,n,hk⟩
  ·obtain⟨its,_,pl,_⟩:=I.list hq
   refine⟨pl.isList.typeIs,λa e=>?_⟩
   cases e
   obtain⟨o,n,e,c,hd,_⟩:=pl
   exact⟨o,e,hd⟩
  ·refine⟨⟨o,I.kIn p o hk,hc⟩,λa e=>?_⟩
   cases e
   exact⟨o,I.kIn _ o hk,hd⟩
  ·have z:∃o,s.heap.get? p=some o/\o.ExactDict:=by
    rcases hk with⟨kvs,hk⟩ | ⟨kvs,hk⟩
    ·obtain⟨_,_,_,_,o,_,_,e,ex,_⟩:=I.hok p _ hk
     exact⟨o,e,ex⟩
    ·obtain⟨_,_,_,_,o,_,_,e,ex,_⟩:=I.hok p _ hk
     exact⟨o,e,ex⟩
   obtain⟨o,e,ex⟩:=z
   refine⟨⟨o,e,ex.1⟩,λa e2=>?_⟩
   cases e2
   exact⟨o,e,ex.2.1⟩
  ·obtain⟨o,_,_,_,e,ex,_⟩:=I.hok p _ hk
   refine⟨⟨o,e,ex.1⟩,λa e2=>?_⟩
   cases e2
   exact⟨o,e,ex.2.1⟩
 |_=>exact False.elim ty
def tBM0 (K:PySem.W.Frag)(T:String)(r:V->List V->Hp->VK->Prop)(to:TE):TE:=λσ H Q=>to σ H λx H1=>tyV K T x H1/\r x [] H1 Q
def tBM (K:PySem.W.Frag)(T:String)(r:V->List V->Hp->VK->Prop)(to:TE)(t:TA):TE:=λσ H Q=>to σ H λx H1=>tyV K T x H1/\t σ H1 λxs H2=>r x xs H2 Q
variable {o e:Expr}{es:List Expr}{to:TE}{t:TA}{name:Str}{apos cpos:Pos}{T id:String}{r:V->List V->Hp->VK->Prop}
theorem Gp (pa:PlainAttrs T)(slot:Slot T name id)(hty:typeOf (.builtin id)=pure (.type "method_descriptor")) (hm:MtR X id r) (ho:PE X o to)
  (hbase:attributeBase o name X.env (eval o X.env)=eval o X.env:=by rfl) (hline:(apos.endLine==cpos.line)=true:=by rfl):PE X (.Call (.Attribute o name apos) [] [] cpos) (tBM0 X.K T r to):=by
 intro pins s σ H Q I h
 refine wpAny_Call_method0_late hbase hline (thn (ho pins s σ H _ I h) λv s1 ⟨x,H1,I1,r1,ty,q1⟩=>?_)
 obtain⟨h1,h2⟩:=kO I1 r1 ty
 exact⟨T,id,pa,slot,hty,h1,h2,Calls.callWith_builtin rfl (PySem.evalArgs_none (hm pins s1 σ H1 x [] v [] Q I1 r1 .nil q1))⟩
theorem kj (pa:PlainAttrs T)(slot:Slot T name id)(hty:typeOf (.builtin id)=pure (.type "method_descriptor")) (hm:MtR X id r) (ho:PE X o to) (ha:PA X (e::es) t)
  (hbase:attributeBase o name X.env (eval o X.env)=eval o X.env:=by rfl)
  (hfew:((backTo cpos (starEach (e::es) X.env)).all (λx=>!x.1)&&(backToKw cpos (keywordEach [] X.env)).all (λx=>x.1.isSome)
   && decide ((e::es).length+([]:List Keyword).length+(if ([]:List Keyword).isEmpty then 0 else 1) < 30))=true:=by rfl)
  (hline:(apos.endLine==cpos.line)=true:=by rfl) (hs:starEach (e::es) X.env=(false,eval e X.env)::starEach es X.env:=by rfl) (hplain:(backTo cpos (starEach es X.env)).any (·.1)=false:=by rfl) :
  PE X (.Call (.Attribute o name apos) (e::es) [] cpos) (tBM X.K T r to t):=by
 intro pins s σ H Q I h
 refine wpAny_Call_method_late hbase hfew hline rfl (thn (ho pins s σ H _ I h) λv s1 ⟨x,H1,I1,r1,ty,q1⟩=>?_)
 obtain⟨h1,h2⟩:=kO I1 r1 ty
 refine⟨T,id,pa,slot,hty,h1,h2,?_⟩
 have hA:=ha cpos pins s1 σ H1 _ I1 q1
 rw[hs] at hA ⊢
 refine Calls.callWith_builtin (by show (false||(backTo cpos (starEach es X.env)).any (·.1))=false;rw[hplain]<;>rfl) (Calls.evalArgs_plain ?_)
 exact thn hA λus s2 ⟨vs,H2,I2,r2,q2⟩=>hm pins s2 σ H2 x vs v us Q I2 r1 r2 q2
end
def MtM (X:Cx)(id:String)(r:V->List V->Hp->VK->Prop):Prop :=
 ∀(pins:List (Addr×Obj)) (s:Shared) (σ:St) (H:Hp) (x:V) (xs:List V) (v:Value) (us:List Value) (Q:VK),Inv X pins σ H s->RelV x v->Vals xs us->r x xs H Q ->
  wpAny (model X.prog X.w) X.A (call (.builtin id) (v::us)) (EP X pins σ Q) X.xe s
theorem Vals.one:∀ {x:V} {us:List Value},Vals [x] us->∃u,us=[u]/\RelV x u
 |_,_,.cons r .nil=>⟨_,rfl,r⟩
theorem Vals.zero:∀ {us:List Value},Vals [] us->us=[]
 |_,.nil=>rfl
theorem Vals.dropLast {xs:List V}{us:List Value}(h:Vals xs us):Vals xs.dropLast us.dropLast:=by
 induction h with
 |nil=>exact .nil
 |cons r t ih=>
  cases t with
  |nil=>exact .nil
  |cons q t'=>exact .cons r ih
theorem VM {α:Type}(l:List α):l.eraseIdx (l.length - 1)=l.dropLast:=by
 induction l with
 |nil=>rfl
 |cons a r ih=>
  cases r with
  |nil=>rfl
  |cons b r=>
   have e:(a::b::r).length - 1=((b::r).length - 1)+1:=by
    have h1:(a::b::r).length=r.length+2:=rfl
    have h2:(b::r).length=r.length+1:=rfl
    omega
   rw[e,List.eraseIdx_cons_succ,ih]
   all_goals rfl
section
variable {X:Cx}{pins:List (Addr×Obj)}{σ:St}{H:Hp}{s:Shared}{l b:Addr}{xs ys zs:List V}
theorem Inv.lset {its its':List Value}{n:Nat}{f:Array Value->Array Value}{t':Nat}(I:Inv X pins σ H s)(hH:H l=some (.lst xs))
  (e:s.heap.get? l=some { cls:=.type "list",data:=.seq its.toArray n }) (hf:f its.toArray=its'.toArray) (hv:Vals ys its') (hz:ys.length<=sizeLine) :
  Inv X pins σ (upd H l (.lst ys)) { s with heap:=s.heap.update l (Obj.mapSeq f),toks:=t' }:=by
 have q:=PySem.IsL.update e f
 rw[hf] at q
 refine I.write (x:=l) (e:=l) (by rw[hH];exact trivial) (.inl rfl) (λb' u hb hu=>(Heap.get?_update_other s.heap (Obj.mapSeq f) (Ne.symm hb)).trans hu) ⟨_,q⟩ ?_
 exact⟨hz,its',_,hv,q⟩
theorem Inv.lnew {its:List Value}{t':Nat}(I:Inv X pins σ H s)(hv:Vals ys its)(hz:ys.length<=sizeLine) :
  Inv X pins σ (upd H s.heap.objs.size (.lst ys)) { s with heap:=s.heap.push { cls:=.type "list",data:=.seq its.toArray },toks:=t' } :=
 I.laid (λ_ _ q=>Heap.get?_push_of_some _ q) (Nat.le_refl _) ⟨hz,its,0,hv,Heap.get?_push_size _ rfl⟩
theorem Inv.fresh (I:Inv X pins σ H s):H s.heap.objs.size=none:=I.hok.fresh (Nat.le_refl _)
theorem Inv.lstM (I:Inv X pins σ H s)(hH:H l=some (.lst xs)):xs.length<=sizeLine/\∃(its:List Value) (n:Nat),Vals xs its/\xs.length=its.length/\s.heap.get? l=some { cls:=.type "list",data:=.seq its.toArray n }:=by
 obtain⟨z,its,n,r,e⟩:=I.hok l _ hH
 exact⟨z,its,n,r,r.length,e⟩
end
section
variable {X:Cx}
def Vu:V->List V->Hp->VK->Prop:=λx vs H Q=>∃l xs y,x=.ref l/\vs=[y]/\H l=some (.lst xs)/\xs.length < sizeLine/\Q .non (upd H l (.lst (xs++[y])))
theorem Yr:MtM X "list.append" Vu:=by
 intro pins s σ H x vs v us Q I rx rv h
 obtain⟨l,xs,y,rfl,rfl,hH,hz,q⟩:=h
 cases rx
 obtain⟨u,rfl,ru⟩:=rv.one
 obtain⟨z,its,n,r,hl,e⟩:=I.lstM hH
 refine call_meets F.slot_list_append ⟨_,e,rfl⟩ F.entry_list_append (F.args_list_append_2 _ _) (PySem.list_append l its.toArray n u (by rw[List.size_toArray];omega)) ⟨e,?_⟩
 refine⟨.non,_,I.lset (its':=its++[u]) hH e (by simp) (r.append (.cons ru .nil)) ?_,rfl,q⟩
 rw[List.length_append,List.length_singleton]
 omega
def rPop:V->List V->Hp->VK->Prop:=λx vs H Q=>∃l xs y,x=.ref l/\vs=[]/\H l=some (.lst xs)/\xs[xs.length - 1]?=some y/\Q y (upd H l (.lst xs.dropLast))
theorem Gm:MtM X "list.pop" rPop:=by
 intro pins s σ H x vs v us Q I rx rv h
 obtain⟨l,xs,y,rfl,rfl,hH,hy,q⟩:=h
 cases rx
 have hus:=rv.zero
 subst hus
 obtain⟨z,its,n,r,hl,e⟩:=I.lstM hH
 obtain⟨u,hu,ru⟩:=r.get hy
 have hy':its.toArray[its.toArray.size - 1]?=some u:=by
  show its.toArray[its.length - 1]?=some u
  rw[<-Array.getElem?_toList,<-hl]
  exact hu
 refine call_meets F.slot_list_pop ⟨_,e,rfl⟩ F.entry_list_pop (F.args_list_pop_1 _) (MeetsSeq.list_pop_last l its.toArray n u hy' (by rw[List.size_toArray];omega)) ⟨e,?_⟩
 refine⟨y,_,I.lset (its':=its.dropLast) hH e ?_ r.dropLast ?_,ru,q⟩
 ·show its.toArray.eraseIdxIfInBounds (its.toArray.size - 1)=its.dropLast.toArray
  rw[List.size_toArray,List.eraseIdxIfInBounds_toArray,VM]
 ·rw[List.length_dropLast]
  omega
end
section
variable {prog:Program}{w:World}{A:Around}{E:Value->Shared->Prop}{s:Shared}
end
section
variable {X:Cx}
end
end L2
namespace Att
open PySem PySem.W PySem.Calls PyProof.Rows
theorem KH {P:Params}{h:Heap}:∀(ns:List Int) (vs:List Value),WellAll P h vs (ns.map WData.int)->IntsAre vs ns:=by
 intro ns
 induction ns with
 |nil=>
  intro vs w
  rw[List.map_nil] at w
  cases w
  exact .nil
 |cons n ns ih=>
  intro vs w
  rw[List.map_cons] at w
  cases w with
  |cons a b=>
   cases a
   exact .cons _ _ (ih _ b)
theorem Uq {l:OpenLaw}{n:Nat}(hn:l.most=some n){P:Params}{h:Heap}{args:List WData}{vals:List Value}
  (hpre:l.row.toRowW.claim.pre args=true) (hwl:WellAll P h vals args) :
  ∃a vs ns,vals=[Value.ref a]/\args=[WData.list (ns.map WData.int)]/\h.get? a=some { cls:=.type "list",data:=.seq vs.toArray }/\IntsAre vs ns/\ns.length<=n:=by
 have hsh:WShape.hasAll [] args [.list .int]=true:=(pre_splitW hpre).1
 have hc:l.pre.holds [] { args:=args }=true:=(pre_splitW hpre).2
 obtain⟨d,r,rfl,h1,h2⟩:=hasAllW_cons hsh
 obtain rfl:=hasAllW_nil h2
 obtain⟨xs,rfl,h3⟩:=hasW_list h1
 obtain⟨ns,rfl⟩:=items_int h3
 have hlen:ns.length<=n:=by
  unfold OpenLaw.pre at hc
  have h4:(WTm.not (.lt (.lit (.int (n:Int))) (.len (.arg 0)))).holds [] { args:=[.list (ns.map .int)] }=true:=by
   have h4:=(holds_andW hc).1
   rw[hn] at h4
   exact h4
  have h5:=condW_of h4 (w_not (w_lt w_lit (w_len_list (w_arg rfl))))
  rw[List.length_map] at h5
  refine Nat.le_of_not_lt λq=>?_
  have q':(n:Int) < ((ns.length:Nat):Int):=by omega
  first
   | (rw[decide_eq_true q'] at h5;exact absurd h5 (by decide))
   | (simp at h5;omega)
 cases hwl with
 |cons w1 w2=>
  cases w2
  cases w1 with
  |list ho hall=>exact⟨_,_,ns,rfl,rfl,ho,KH ns _ hall,hlen⟩
theorem UE (l:OpenLaw)(args:List WData):l.row.toRowW.claim.post args (.bool true) args=true :=
 postW_of (r:=l.row.toRowW) (X:=(true==true))
  (show WShape.has [] (.bool true) .bool=true by first | rfl | decide | simp[WShape.has,WShape.arms,WShape.armsAll])
  (show (WTm.eq .res (.lit (.bool true))).value [] { args:=args,res:=some (.bool true),after:=args }=some (.bool (true==true)) from w_eq_bool (w_res rfl) w_lit) rfl
theorem attach_call {l:OpenLaw}{n:Nat}{q:Program}{loose:List Str}{XP:(Str->Option Value)->Heap->Prop}{YP:World->Heap->Prop}{d:DefRec}
  (hn:l.most=some n) (hdf:d.params.defaults=[])
  (call:∀(w:World) (s₀ s₁:Shared) (mg mb:Str->Option Value) (fa:Addr) (o:Obj) (pm cd doc:Value) (a:Addr) (vs:List Value) (ns:List Int),
   Ground q loose [] XP w s₀ mg mb s₁.heap->YP w s₁.heap ->
   s₁.heap.get? fa=some o->o.data=.func (docDef d.name d.params d.body d.scope pm cd doc)->s₁.heap.CodeRec cd d.name->mg d.name=some (.ref fa) ->
   s₁.heap.get? a=some { cls:=.type "list",data:=.seq vs.toArray }->IntsAre vs ns->ns.length<=n->s₁.gens=#[] ->
   codeAny (model l.prog w) callerA (.call (.ref fa) ⟨[.ref a],[]⟩) (λr s'=>r=.ok (.ret (.bool true))/\OldK s₁.heap s'.heap/\s'.os=s₁.os/\AllBare s'.gens) s₁) :
  WalkO q loose XP YP l.row.toRowW d [] (λf vs=>PySem.call f vs):=by
 intro w s₀ s₁ mg mb G Y fa o pm cd doc dV kV ho hd hcd hD hmg hg args vals as hpre hlay hrd hwl hlo
 obtain rfl:dV=.none:=Dflts.none hD hdf
 obtain rfl:kV=.none:=Dflts.noKw hD
 obtain⟨a,vs,ns,rfl,rfl,hobj,hints,hlen⟩:=Uq hn hpre hwl
 refine enter_call (codeAny_mono (call w s₀ s₁ mg mb fa o pm cd doc a vs ns G Y ho (fd_plain hd) hcd hmg hobj hints hlen hg) λr s' hq=>?_)
 obtain⟨rfl,h2,h3,h4⟩:=hq
 exact⟨.inl ⟨.bool true,.bool true,[],rfl,λ_=>rfl,.bool true,UE l _,λ_=>⟨List.Pairwise.nil,λ_ hm=>(nomatch hm)⟩⟩,h2,h3,h4⟩
section
variable {prog:Program}{w:World}{A:Around}{E:Value->Shared->Prop}{s:Shared}{K:Frag}
def ledger (h:Heap)(L d:Addr):List (Addr×Obj):=(List.range h.objs.size).filterMap λa=>if a=L∨a=d then none else (h.get? a).map λo=>(a,o)
end
end Att
namespace L2
open PySem PySem.Spec PyProof.Rows
theorem uT:∀ {vs:List Value} {ns:List Int},IntsAre vs ns->Vals (ns.map V.int) vs
 |_,_,.nil=>.nil
 |_,_,.cons n t h=>.cons ⟨t,rfl⟩ (uT h)
abbrev KOf {K:PySem.W.Frag}{h:Heap}(_:K.In h):PySem.W.Frag:=K
end L2
namespace L2
open PySem PySem.Spec PyProof.Rows
def Zh (s:Stmt)(j:Nat):Stmt:=match s with
 |.ClassDef _ _ _ body _ _ _ _ _ _ _=>body.getD j (.Pass ⟨0,0,0,0⟩)
 |_=>.Pass ⟨0,0,0,0⟩
def zu (s:Stmt):Arguments:=match s with
 |.FunctionDef _ a _ _ _ _ _ _ _ _=>a
 |_=>{ posonlyargs:=[],args:=[],vararg:=none,kwonlyargs:=[],kw_defaults:=[],kwarg:=none,defaults:=[] }
def zk (s:Stmt):List Stmt:=match s with
 |.FunctionDef _ _ b _ _ _ _ _ _ _=>b
 |_=>[]
def zb (s:Stmt):Scope:=match s with
 |.FunctionDef _ _ _ _ _ _ sc _ _ _=>sc
 |_=>{ kind:=.function,names:=[],isGenerator:=false,isCoroutine:=false }
abbrev CX0:CXT:=λ_ _ _ _ _ _=>False
abbrev E0:XK:=λ_ _ _=>False
theorem pass0 {X:Cx}:Passes CX0 X E0:=λ_ _ _ _ _ _ _ h=>h.elim
structure Fun (K:PySem.W.Frag)(x qual:Str)(st:Stmt)(f:Addr)(fd:FuncData):Prop where
 ex:∃(oc:Value) (od:Option Addr) (kV doc pm:Value) (an:Option Addr) (cdv ct:Value) (osl:Array (Option Value)),
  fd=fnOf x qual (zu st) (zk st) (zb st) .none kV doc pm an cdv ct/\K.lookup f=some ⟨oc,od,.func fd,osl⟩/\codeIn K cdv qual=true
 kp:keepIn K (.ref f)=true
section
variable {P:Program}{w:World}{K:PySem.W.Frag}{mg:Str->Option Value}{base:Heap}
theorem Fun.ok {x qual:Str}{st:Stmt}{f:Addr}{fd:FuncData}{N ps:List Str}{k:Nat}{sp:Sp}(F:Fun K x qual st f fd)(S:FnScope N ps (zb st))(len:∀vs H Q E,sp vs H Q E->vs.length=ps.length)
  (hbody:∀(cdv:Value) (A:Around) (outer:List Env) (s:Shared) (H:Hp) (vs:List V) (Q:VK) (E:XK),Room k (A.deeper (envOfC qual (zb st) s.heap.objs.size f cdv))->sp vs H Q E ->
   ∃t,PSs (cxOf CX0 P w K mg base N qual (zb st) f cdv A outer s H E).nox (zk st) t/\t { nx:=λ_ H'=>Q .non H',rt:=Q } (start N vs) H):FnOk P w K mg base CX0 (k+1) f fd ps sp:=by
 obtain⟨oc,od,kV,doc,pm,an,cdv,ct,osl,rfl,lk,hcd⟩:=F.ex
 refine vR lk hcd S len λA outer s H vs Q E hr hsp=>?_
 obtain⟨t,h,q⟩:=hbody cdv A outer s H vs Q E hr hsp
 exact⟨t,h.nox,q⟩
theorem Fun.binds {x qual:Str}{st:Stmt}{f:Addr}{fd:FuncData}{ps:List Str}(F:Fun K x qual st f fd)
  (h:∀(kV doc pm:Value) (an:Option Addr) (cdv ct:Value) (us:List Value),us.length=ps.length->bindArgs (fnOf x qual (zu st) (zk st) (zb st) .none kV doc pm an cdv ct) ⟨us,[]⟩=pure (ps.zip us)):Binds K fd ps []:=by
 obtain⟨oc,od,kV,doc,pm,an,cdv,ct,osl,rfl,lk,hcd⟩:=F.ex
 exact .all (h kV doc pm an cdv ct)
theorem zD {x qual:Str}{st:Stmt}{f:Addr}{oc:Value}{od an:Option Addr}{osl:Array (Option Value)}{kV doc pm cdv ct:Value}(l:K.lookup f=some ⟨oc,od,.func (fnOf x qual (zu st) (zk st) (zb st) .none kV doc pm an cdv ct),osl⟩)
  (c:codeIn K cdv qual=true) (k:keepIn K (.ref f)=true):Fun K x qual st f (fnOf x qual (zu st) (zk st) (zb st) .none kV doc pm an cdv ct):=⟨⟨oc,od,kV,doc,pm,an,cdv,ct,osl,rfl,l,c⟩,k⟩
end
section
variable {X:Cx}
theorem pv (i:Nat){x:Str}{pos:Pos}(hN:X.N[i]?=some x:=by rfl)(hv:Vis X.env.scope x:=by first | exact Or.inl rfl | exact Or.inr (Or.inl rfl) | exact Or.inr (Or.inr rfl))(hd:(x==("__debug__" : Str))=false:=by decide)
  (hcd:(x==("__classdict__" : Str))=false:=by decide):PE X (.Name x pos) (tVar i):=xt hN hv hd hcd
end
theorem iteF {A B:Prop}(h:B):if false=true then A else B:=by
 rw[if_neg Bool.false_ne_true]
 exact h
theorem iteT {A B:Prop}(h:A):if true=true then A else B:=by
 rw[if_pos rfl]
 exact h
def Same (H H':Hp):Prop:=∀b o,H b=some o->H' b=some o
theorem Same.refl (H:Hp):Same H H:=λ_ _ h=>h
theorem Same.trans {H H1 H2:Hp}(a:Same H H1)(b:Same H1 H2):Same H H2:=λc o h=>b c o (a c o h)
theorem Same.free {H H':Hp}(e:Same H H'){l:Addr}(h:H' l=Option.none):H l=Option.none:=by
 cases q:H l with
 |none=>rfl
 |some o=>
  rw[e l o q] at h
  cases h
theorem Same.seq {K:PySem.W.Frag}{H H':Hp}{a:Addr}{xs:List V}(e:Same H H')(h:SqL K H a xs):SqL K H' a xs:=by
 rcases h with (h | ⟨o,h⟩) | h
 ·exact .inl (.inl (e _ _ h))
 ·exact .inl (.inr ⟨o,e _ _ h⟩)
 ·exact .inr h
end L2
namespace L3
open PySem PySem.Spec L2
open PyProof.Rows hiding St
section
variable {X:Cx}{pins:List (Addr×Obj)}{σ:St}{H H':Hp}{s:Shared}{h':Heap}
theorem vF {ch:List Addr}{t':Nat}(I:Inv X pins σ H s)(k:∀b o,b∉ch->s.heap.get? b=some o->h'.get? b=some o)(hf:∀b∈ch,FpOk X pins H b):Inv X pins σ H { s with heap:=h',toks:=t' }:=by
 have nit:∀b u,H b=some u->b∉ch:=λb u e z=>by rw[(hf b z).1] at e;cases e
 refine I.step (g':=s.gens) (d':=s.drawn) (ch:=ch) (λb hb=>?_) (λb o _ _ hc e _=>k b o hc e) (λb o _ _ hc e _=>⟨o.slots,k b o hc e⟩) (λ_ _ _ _ n=>n)
  (λb o hc e=>⟨o,k b o hc e⟩) (λ_ _ e=>e) (λ_ _ _ e=>e) (λb ps e=>⟨#[],by rw[e];simp⟩) (λm hm=>?_) (λb u e=>?_) I.bare
 ·obtain⟨_,f1,_,f3,f4,f5⟩:=hf b hb
  exact⟨f3,f1,f4,f5⟩
 ·obtain⟨o,es,ep,ho,r⟩:=hm
  exact⟨o,es,ep,k _ o (λz=>(hf _ z).2.1 rfl) ho,r⟩
 ·refine (I.hok b u e).stay (λc v hc q=>k c v ?_ q) (λ_ q=>q) λ_ _ q=>q
  rcases hc with z | z
  ·rw[z];exact nit b u e
  ·exact nit c _ z
theorem stepN {ch:List Addr}{t':Nat}{T:Addr}{o:HO}(I:Inv X pins σ H s)(k:∀b o,b∉ch->s.heap.get? b=some o->h'.get? b=some o)(hf:∀b∈ch,FpOk X pins H b)(hT:s.heap.objs.size<=T)
  (new:ObjOk X.prog X.w (upd H T o) h' T o):Inv X pins σ (upd H T o) { s with heap:=h',toks:=t' }:=by
 have nit:∀b u,H b=some u->b∉ch:=λb u e z=>by rw[(hf b z).1] at e;cases e
 have nT:H T=none:=I.hok.fresh hT
 refine I.step (g':=s.gens) (d':=s.drawn) (ch:=ch) (λb hb=>?_) (λb o _ _ hc e _=>k b o hc e) (λb o _ _ hc e _=>⟨o.slots,k b o hc e⟩) (λb u _ e n=>?_)
  (λb o hc e=>⟨o,k b o hc e⟩) (λb xs e=>by rw[zd (zG e nT)];exact e) (λb ob u e=>by rw[zd (zG e nT)];exact e) (λb ps e=>⟨#[],by rw[zd (zG e nT),e];simp⟩) (λm hm=>?_) (λb u e=>?_) I.bare
 ·obtain⟨_,f1,_,f3,f4,f5⟩:=hf b hb
  exact⟨f3,f1,f4,f5⟩
 ·rw[zd (Nat.ne_of_lt (Nat.lt_of_lt_of_le (Heap.lt_size e) hT))];exact n
 ·obtain⟨o,es,ep,ho,r⟩:=hm
  exact⟨o,es,ep,k _ o (λz=>(hf _ z).2.1 rfl) ho,r⟩
 ·by_cases hb:b=T
  ·subst hb;rw[zi] at e;cases e;exact new
  ·rw[zd hb] at e
   refine (I.hok b u e).stay (λc v hc q=>k c v ?_ q) (λc q=>by rw[zd (zG q nT)];exact q) λc xs q=>by rw[zd (zG q nT)];exact q
   rcases hc with z | z
   ·rw[z];exact nit b u e
   ·exact nit c _ z
end
def Ite (K:PySem.W.Frag)(a:Addr):It :=
 ⟨λi H=>∃xs x,SqL K H a xs/\xs[i]?=some x,λi H x H'=>∃T v,H T=none/\x=.ref T/\H'=upd H T (.tup [.int i,v])/\∀xs,SqL K H a xs->xs[i]?=some v,λi H=>∃xs,SqL K H a xs/\xs.length<=i⟩
theorem KM {P:Program}{w:World}{K:PySem.W.Frag}{elts:List Expr}{k:Nat}{pos:Pos}(a e it:Addr)(hne:e≠it) :
  Turn P w K (.Tuple elts k pos) (Ite K a) [e,it] e (λi h=>(∃old,IsEnum h e it i old)/\h.IsListIter it a i) where
 mem:=by simp
 obj:=λi h st b hb=>by
  obtain⟨⟨old,he⟩,o,e1,c,d⟩:=st
  rcases List.mem_cons.mp hb with rfl | hb
  ·exact⟨_,he,λv z=>by cases z⟩
  ·rw[List.mem_singleton.mp hb]
   exact⟨o,e1,λv z=>by rw[d] at z;cases z⟩
 keep:=λi h h' st k=>⟨let ⟨old,he⟩:=st.1;⟨old,k e (by simp) _ he⟩,st.2.at λo e=>k it (by simp) o e⟩
 item:=by
  intro X hP hw hK hc i pins s σ H E I hf st hg
  subst hP hw hK
  obtain⟨⟨old,he⟩,hit⟩:=st
  obtain⟨xs,x,hq,hx⟩:=hg
  obtain⟨its,rv,p,hz⟩:=I.list hq
  obtain⟨u,hu,ru⟩:=rv.get hx
  refine wpAny_pyNext_enum_item he hit p.isList (x:=u) (by simpa using hu) hne λh' ho hit' hT hsz hk=>⟨_,rfl,?_⟩
  refine wpAny_letOwnedTupleGo_enum ho λh'' he'' hs''=>?_
  have nT:H s.heap.objs.size=none:=I.hok.fresh (Nat.le_refl _)
  have hTe:s.heap.objs.size≠e:=Nat.ne_of_gt (Heap.lt_size he)
  refine⟨.ref s.heap.objs.size,upd H s.heap.objs.size (.tup [.int i,x]),stepN (s:=s) (t':=s.toks+1) (ch:=[e,it]) I (λb o hb q=>?_) hf (Nat.le_refl _) ?_,rfl,⟨_,x,nT,rfl,rfl,λys hy=>by rw[I.list_inj hy hq];exact hx⟩,⟨⟨_,by simpa using he''⟩,hit'.extBut hs''.extBut (Ne.symm hne)⟩,λb hb=>?_⟩
  ·have h1:b≠e:=λz=>hb (by simp[z])
   have h2:b≠it:=λz=>hb (by simp[z])
   exact hs''.extBut b o h1 (hk b o h1 h2 q)
  ·exact⟨(show 2<=sizeLine by decide),[.int i s.toks,u],.cons ⟨_,rfl⟩ (.cons ru .nil),⟨_,hs''.extBut _ _ hTe hT,rfl,_,rfl⟩⟩
  ·have hb':b≠s.heap.objs.size:=by
    rcases List.mem_cons.mp hb with rfl | hb
    ·exact Ne.symm hTe
    ·rw[List.mem_singleton.mp hb]
     obtain⟨o,e1,_⟩:=hit
     exact Nat.ne_of_lt (Heap.lt_size e1)
   rw[zd hb']
   exact (hf b hb).1
 done:=by
  intro X hP hw hK hc i pins s σ H E I hf st hg
  subst hP hw hK
  obtain⟨⟨old,he⟩,hit⟩:=st
  obtain⟨xs,hq,hx⟩:=hg
  obtain⟨its,rv,p,hz⟩:=I.list hq
  have hl:=rv.length
  refine wpAny_pyNext_enum_end (I.ok.hd hc) he hit p.isList (by simp;omega) λh' eb=>⟨rfl,vF (t':=s.toks) (ch:=[e,it]) I (λb o hb q=>eb b o (λz=>hb (by simp[z])) q) hf⟩
 self:=λ_ _ _ _ _ st h=>let ⟨_,he⟩:=st.1;wpAny_pyIter_enum he h
section
variable {X:Cx}{elts:List Expr}{tk:Nat}{tpos:Pos}
def iEnum (K:PySem.W.Frag)(ta:TA):TI:=λσ H R=>ta σ H λvs H1=>∃a,vs=[.ref a]/\(∃xs,SqL K H1 a xs)/\R (Ite K a) H1
theorem JH {a:Expr}{ta:TA}{p pos:Pos}(hg:Gl X "enumerate") (hm:X.mg "enumerate" = none) (ha:PA X [a] ta) (hs:starEach [a] X.env=[(false,eval a X.env)]:=by rfl) :
  PI X (.Tuple elts tk tpos) (.Call (.Name "enumerate" p) [a] [] pos) (iEnum X.K ta):=by
 intro pins s σ H R I h
 refine Call_ (vc I hg hm (u:=.type "enumerate") (by decide +kernel) (PyProof.Rows.callWith_type1 (thn (ha pos pins s σ H _ I h) λus s1 ⟨vs,H1,I1,r1,q1⟩=>?_) hs rfl))
 obtain⟨a,e,⟨xs,hq⟩,q⟩:=q1
 subst e
 obtain⟨u,rfl,ru⟩:=vals1 r1
 cases ru
 obtain⟨its,rv,pl,hz⟩:=I1.list hq
 refine call_enumerate_list pl.isList λh' he hit hsz hk=>wpAny_pyIter_enum he ?_
 have I2:Inv X pins σ H1 { s1 with heap:=h' }:=I1.kept (t':=s1.toks) hk
 refine⟨s1.heap.objs.size+1,[s1.heap.objs.size+1,s1.heap.objs.size],_,_,H1,rfl,I2,KM a _ _ (show ((s1.heap.objs.size+1:Nat)≠s1.heap.objs.size) by omega),⟨⟨_,he⟩,hit⟩,λb hb=>?_,q⟩
 have hb':s1.heap.objs.size<=b:=by
  rcases List.mem_cons.mp hb with rfl | hb
  ·exact Nat.le_succ _
  ·rw[List.mem_singleton.mp hb];exact Nat.le_refl _
 exact I1.fpOk hb' (I1.hok.fresh hb')
end
theorem VU {prog:Program}{w:World}{A:Around}{R:Result->Shared->Prop}{s:Shared}{elt target iter:Expr}{ifs:List Expr}{scope:Scope}{pos:Pos}{it acc:Value}{env:Env}(I:Nat->Shared->Prop)
  (turn:∀n s,I n s->wpAny (model prog w) A (pyNext it) (λr s₁=>match r with
   |none=>R (.ok .next) s₁
   |some v=>wpAny (model prog w) A (letOwnedTupleGo target it v) (λ_ s₁'=>wpAny (model prog w) A (assign target env v) (λ_ s₂=>
     wpAny (model prog w) A (forIn ifs true λc r=>if r=true then do let ok <-isTrue c env (eval c env);pure (ForInStep.yield ok) else pure (ForInStep.yield r)) (λok s₃=>
      if ok=true then wpAny (model prog w) A (eval elt env) (λx s₄=>
       wpAny (model prog w) A (call (.builtin "list.append") [acc,x]) (λ_ s₅=>∃m,m < n/\I m s₅) (λ_ _=>False) s₄) (λ_ _=>False) s₃
      else ∃m,m < n/\I m s₃) (λ_ _=>False) s₂) (λ_ _=>False) s₁') (λ_ _=>False) s₁) (λ_ _=>False) s)
  (n:Nat) (h:I n s):codeAny (model prog w) A (.compLoop (.ListComp elt [⟨target,iter,ifs,0⟩] scope pos) 0 it acc env) R s:=by
 refine codeAny_loop rfl I (λn s hI=>?_) n h
 show wpAny _ A ((compTurn (.ListComp elt [⟨target,iter,ifs,0⟩] scope pos) 0 it acc env).onRaise (λx=>do noteFrame x env;theTreesLotGoes x)) _ _ s
 refine wpAny_noted ?_
 rw[compTurn_list]
 refine wpAny_bind (wpAny_standAt (wpAny_bind (wpAny_mono (turn n s hI) (λr s₁ h₁=>?_) λ_ _ h'=>h'.elim)))
 cases r with
 |none=>exact wpAny_pure h₁
 |some v=>
  refine wpAny_bind (wpAny_mono h₁ (λ_ s₁' h₁'=>?_) λ_ _ h'=>h'.elim)
  refine wpAny_bind (wpAny_mono h₁' (λ_ s₂ h₂=>wpAny_bind (wpAny_mono h₂ (λok s₃ h₃=>?_) λ_ _ h'=>h'.elim)) λ_ _ h'=>h'.elim)
  cases ok with
  |false=>exact wpAny_pure ⟨rfl,h₃⟩
  |true=>
   exact wpAny_bind (wpAny_bind (wpAny_mono h₃ (λx s₄ h₄=>wpAny_bind (wpAny_mono h₄ (λ_ s₅ h₅=>wpAny_pure (wpAny_pure ⟨rfl,h₅⟩)) λ_ _ h'=>h'.elim)) λ_ _ h'=>h'.elim))
def clGo (cells:List (Str×Addr)):List (Str×NameKind)->List (Str×Addr)->List (Str×Addr)
 | [],cs=>cs
 | (n,k)::r,cs=>clGo cells r (if k==.free then (n,(cells.lookup n).getD 0)::cs else cs)
theorem WT {scope:Scope}{env:Env}(h:∀x∈scope.names,x.2=.free->∃c,env.cells.lookup x.1=some c):closureFor scope env=pure (clGo env.cells scope.names []):=by
 simp only[closureFor]
 have go:∀(l:List (Str×NameKind)) (cs:List (Str×Addr)),(∀x∈l,x.2=.free->∃c,env.cells.lookup x.1=some c) ->
   (forIn l cs λ(x:Str×NameKind) (r:List (Str×Addr))=>(if (x.2==NameKind.free)=true then do let a <-cellOf env x.1;pure (ForInStep.yield ((x.1,a)::r)) else pure (ForInStep.yield r):Sem (ForInStep (List (Str×Addr)))))=pure (clGo env.cells l cs):=by
  intro l
  induction l with
  |nil=>intro cs _;rfl
  |cons x r ih=>
   intro cs hx
   obtain⟨n,k⟩:=x
   rw[List.forIn_cons]
   by_cases hk:(k==NameKind.free)=true
   ·obtain⟨c,e⟩:=hx (n,k) List.mem_cons_self (by simpa using hk)
    have e':env.cells.lookup n=some c:=e
    have ec:cellOf env n=pure c:=by unfold cellOf;rw[e']
    simp only[hk,if_true,ec,pure_bind]
    rw[ih _ λy hy=>hx y (List.mem_cons_of_mem _ hy)]
    simp only[clGo,hk,if_true,e',Option.getD_some]
   ·simp only[hk,Bool.false_eq_true,if_false,pure_bind]
    rw[ih _ λy hy=>hx y (List.mem_cons_of_mem _ hy)]
    simp only[clGo,hk,Bool.false_eq_true,if_false]
 have:=go scope.names [] h
 simpa using this
theorem qm {cells:List (Str×Addr)}:∀(l:List (Str×NameKind)) (cs:List (Str×Addr)) (x:Str) (c:Addr),(∀y∈l,y.2=.free->∃c,cells.lookup y.1=some c)->(∀x c,cs.lookup x=some c->cells.lookup x=some c) ->
  (clGo cells l cs).lookup x=some c->cells.lookup x=some c
 | [],cs,x,c,_,h,e=>h x c e
 | (n,k)::r,cs,x,c,hl,h,e=>by
  refine qm r _ x c (λy hy=>hl y (List.mem_cons_of_mem _ hy)) (λy d=>?_) e
  by_cases hk:(k==NameKind.free)=true
  ·rw[if_pos hk]
   obtain⟨c',e'⟩:=hl (n,k) List.mem_cons_self (by simpa using hk)
   have e':cells.lookup n=some c':=e'
   intro q
   by_cases hy:y=n
   ·subst hy
    rw[List.lookup_cons_self] at q
    rw[<-q,e'];rfl
   ·rw[List.lookup_cons,beq_eq_false_iff_ne.mpr hy] at q
    exact h y d q
  ·rw[if_neg hk];exact h y d
theorem Zm {cells:List (Str×Addr)}:∀(l:List (Str×NameKind)) (cs:List (Str×Addr)) (x:Str),(cs.lookup x).isSome=true->((clGo cells l cs).lookup x).isSome=true
 | [],cs,x,h=>h
 | (n,k)::r,cs,x,h=>by
  refine Zm r _ x ?_
  by_cases hk:(k==NameKind.free)=true
  ·rw[if_pos hk]
   by_cases hy:x=n
   ·subst hy;rw[List.lookup_cons_self];rfl
   ·rw[List.lookup_cons,beq_eq_false_iff_ne.mpr hy];exact h
  ·rw[if_neg hk];exact h
theorem qT {cells:List (Str×Addr)}:∀(l:List (Str×NameKind)) (cs:List (Str×Addr)) (x:Str),(x,NameKind.free)∈l->((clGo cells l cs).lookup x).isSome=true
 | [],cs,x,h=>by simp at h
 | (n,k)::r,cs,x,h=>by
  rcases List.mem_cons.mp h with e | h
  ·cases e
   exact Zm r _ _ (by rw[if_pos (show (NameKind.free==NameKind.free)=true from rfl),List.lookup_cons_self];rfl)
  ·exact qT r _ x h
def cxc (X:Cx)(scope:Scope)(C:Addr)(N:List Str)(s₀:Shared)(H₀:Hp)(fp:List Addr)(pn:List (Addr×Obj)):Cx :=
 { X with N:=N,s₀:=s₀,H₀:=H₀,env:=compEnvC scope (clGo X.env.cells scope.names []) C X.env,outer:=X.stack,stack:=X.stack,ex:=fp,fn:=λ_=>false,pn:=pn,xe:=λ_ _=>False }
structure CompScope (X:Cx)(scope:Scope)(own:List Str)(cap:List (Str×Nat)):Prop where
 kind:scope.kind=.function
 nocell:∀y∈scope.names,y.2≠.cell
 names:∀y∈scope.names,y.2=.local->scope.names.lookup y.1=some .local
 frees:∀y∈scope.names,y.2=.free->X.env.kindOf y.1=some .cell∨X.env.kindOf y.1=some .free
 caps:∀p∈cap,scope.names.lookup p.1=some .free/\X.N[p.2]?=some p.1
theorem qR {env:Env}:∀ {names:List (Str×NameKind)} {x:Str} {k':NameKind},
  (names.map λ(n,k)=>if (k==NameKind.free&&env.scope.kind==.function&&env.kindOf n==some .cell) then (n,NameKind.cell) else (n,k)).lookup x=some k'->(k'=.cell∨k'=.free)->(∀y∈names,y.2≠.cell)->(x,NameKind.free)∈names
 | [],x,k',h,_,_=>by simp at h
 | (n,k)::r,x,k',h,hk,hc=>by
  have ih:=@qR env r x k'
  rw[List.map_cons] at h
  by_cases hq:(k==NameKind.free&&env.scope.kind==.function&&env.kindOf n==some .cell)=true
  ·simp only[hq,if_true] at h
   have kf:k=NameKind.free:=by
    simp only[Bool.and_eq_true,beq_iff_eq] at hq
    exact hq.1.1
   by_cases hx:x=n
   ·subst hx;subst kf;exact List.mem_cons_self
   ·rw[List.lookup_cons,beq_eq_false_iff_ne.mpr hx] at h
    exact List.mem_cons_of_mem _ (ih h hk λy hy=>hc y (List.mem_cons_of_mem _ hy))
  ·simp only[hq,if_false] at h
   by_cases hx:x=n
   ·subst hx
    have h':some k=some k':=by
     have:=h
     simp at this
     rw[this]
    cases h'
    rcases hk with z | z
    ·exact absurd z (hc (x,k) List.mem_cons_self)
    ·subst z;exact List.mem_cons_self
   ·have h2:List.lookup x (List.map (λ(n,k)=>if (k==NameKind.free&&env.scope.kind==.function&&env.kindOf n==some .cell) then (n,NameKind.cell) else (n,k)) r)=some k':=by
     simpa[List.lookup_cons,beq_eq_false_iff_ne.mpr hx] using h
    exact List.mem_cons_of_mem _ (ih h2 hk λy hy=>hc y (List.mem_cons_of_mem _ hy))
theorem ZU {env:Env}:∀ {names:List (Str×NameKind)} {x:Str},names.lookup x=some .free ->
  (names.map λ(n,k)=>if (k==NameKind.free&&env.scope.kind==.function&&env.kindOf n==some .cell) then (n,NameKind.cell) else (n,k)).lookup x=some .cell ∨
  (names.map λ(n,k)=>if (k==NameKind.free&&env.scope.kind==.function&&env.kindOf n==some .cell) then (n,NameKind.cell) else (n,k)).lookup x=some .free
 | [],x,h=>by simp at h
 | (n,k)::r,x,h=>by
  have ih:=@ZU env r x
  rw[List.map_cons]
  by_cases hx:x=n
  ·subst hx
   rw[List.lookup_cons_self] at h
   cases h
   by_cases hq:(NameKind.free==NameKind.free&&env.scope.kind==.function&&env.kindOf x==some .cell)=true
   ·left;simp only[hq,if_true,List.lookup_cons_self]
   ·right;simp only[hq,if_false];simp
  ·rw[List.lookup_cons,beq_eq_false_iff_ne.mpr hx] at h
   by_cases hq:(k==NameKind.free&&env.scope.kind==.function&&env.kindOf n==some .cell)=true
   ·simp only[hq,if_true,List.lookup_cons,beq_eq_false_iff_ne.mpr hx];exact ih h
   ·have e:(if (k==NameKind.free&&env.scope.kind==.function&&env.kindOf n==some .cell)=true then (n,NameKind.cell) else (n,k))=(n,k):=if_neg hq
    simp only[e,List.lookup_cons,beq_eq_false_iff_ne.mpr hx];exact ih h
theorem uf {names:List (Str×NameKind)}{x:Str}{k:NameKind}(h:names.lookup x=some k):(x,k)∈names:=PySem.mem_of_lookup h
theorem U4 {X:Cx}{scope:Scope}{own:List Str}{cap:List (Str×Nat)}(S:CompScope X scope own cap){pins:List (Addr×Obj)}{σ:St}{H:Hp}{s:Shared}{C:Addr}{fp:List Addr}(I:Inv X pins σ H s)(hC:s.heap.objs.size<=C)(hf:∀b∈fp,FpOk X pins H b)(hlt:∀b∈fp,b < s.heap.objs.size){N:List Str}{pn:List (Addr×Obj)} :
  (cxc X scope C N s H fp pn).Ok:=by
 have hfr:∀y∈scope.names,y.2=.free->∃c,X.env.cells.lookup y.1=some c:=λy hy hk=>I.ok.has y.1 (S.frees y hy hk)
 have sub:∀x c,(clGo X.env.cells scope.names []).lookup x=some c->X.env.cells.lookup x=some c:=λx c=>qm _ _ x c hfr (λx c e=>by simp at e)
 refine⟨I.ok.mod,S.kind,I.ok.glob,I.ok.blt,hC,λx y c h1 h2=>I.ok.inj x y c (sub _ _ h1) (sub _ _ h2),λx hx=>?_,λx c h=>(by cases h),I.ok.hd,I.ok.frames,.inl rfl,λb hb=>⟨Nat.ne_of_lt (Nat.lt_of_lt_of_le (hlt b hb) hC),λx c e=>(hf b hb).2.2.2.2.1 x c (sub x c e)⟩,I.bs,Nat.le_trans I.ok.bsz I.sz,λb o e hb=>?_,λb hb z=>?_,I.stack,I.stkFree⟩
 ·have hx':(x,NameKind.free)∈scope.names:=by
   rcases hx with z | z
   ·exact qR (env:=X.env) z (.inl rfl) S.nocell
   ·exact qR (env:=X.env) z (.inr rfl) S.nocell
  exact Option.isSome_iff_exists.mp (qT scope.names [] x hx')
 ·rcases (hf b hb).2.2.2.1 with z | z
  ·exact I.ok.noex b o e z
  ·exact absurd (Nat.lt_of_lt_of_le (Heap.lt_size (I.ok.bs b o e).1) z) (Nat.lt_irrefl _)
 ·rcases List.mem_cons.mp (I.stkSub b z) with q | q
  ·exact (hf b hb).2.1 q
  ·exact (hf b hb).2.2.1 q
def tComp (wi:TI)(own:List Str)(cap:List (Str×Nat))(g:TG)(tc:TT)(te:TE):TE:=λσ H Q=>wi σ H λJ H1=>∃W:Nat->Nat->List V->Hp->Prop,(∃m,W 0 m [] H1)/\∀i m ys H,W i m ys H ->
 ys.length<=sizeLine/\((J.stop i H/\∀D,H D=none->Q (.ref D) (upd H D (.lst ys)))∨(J.go i H/\∃N:List V->Hp->Prop,(∀ys' H',N ys' H'->∃m',m' < m/\W (i+1) m' ys' H') /\
  ∀x H',J.yld i H x H'->∀σ1:St,σ1.length=own.length->g x (σ1++cap.map λp=>(σ[p.2]?).getD none) H' λσ2 H2=>(∃σ1':St,σ1'.length=own.length/\σ2=σ1'++cap.map λp=>(σ[p.2]?).getD none) /\
   tc σ2 H2 λb H3=>if b=true then te σ2 H3 λy H4=>N (ys++[y]) H4 else N ys H3))
def PIfs (X:Cx)(ifs:List Expr)(tc:TT):Prop :=
 ∀(pins:List (Addr×Obj)) (s:Shared) (σ:St) (H:Hp) (Q:Bool->Hp->Prop),Inv X pins σ H s->tc σ H Q ->
  wpAny (model X.prog X.w) X.A (forIn ifs true λc r=>if r=true then do let ok <-isTrue c X.env (eval c X.env);pure (ForInStep.yield ok) else pure (ForInStep.yield r)) (TP X pins σ Q) X.xe s
def tTrue:TT:=λ_ H Q=>Q true H
theorem Kf {X:Cx}:PIfs X [] tTrue:=λpins s σ H Q I h=>wpAny_tests_nil ⟨H,I,h⟩
theorem UW {X:Cx}{c:Expr}{tc:TT}(h:PT X c tc):PIfs X [c] tc:=λpins s σ H Q I hq=>wpAny_tests_one (h pins s σ H Q I hq)
theorem Vl {fs ex:List Addr}{H0 H:Hp}{h0 h h':Heap}{D C:Addr}{o:HO}(u:Un fs ex H0 H h0 h)(hD:h0.objs.size<=D)(hC:h0.objs.size<=C)(sb:Heap.SameBut C h h')(n:H D=none):Un fs ex H0 (upd H D o) h0 h':=by
 have ne:∀b ob,h0.get? b=some ob->b≠C:=λb ob e=>Nat.ne_of_lt (Nat.lt_of_lt_of_le (Heap.lt_size e) hC)
 have nd:∀b ob,h0.get? b=some ob->b≠D:=λb ob e=>Nat.ne_of_lt (Nat.lt_of_lt_of_le (Heap.lt_size e) hD)
 refine⟨λb ob e q hb hx=>(sb.2 b (ne b ob e)).trans (u.keep b ob e q hb hx),λb ob e q hb hx=>?_,λb ob e q hx=>?_,λb ob e hx=>?_,λb xs e=>?_,λb ob xs e=>?_,λb ps e=>?_⟩
 ·obtain⟨sl,z⟩:=u.slot b ob e q hb hx
  exact⟨sl,(sb.2 b (ne b ob e)).trans z⟩
 ·rw[zd (nd b ob e)];exact u.free b ob e q hx
 ·obtain⟨o',z⟩:=u.there b ob e hx
  exact⟨o',(sb.2 b (ne b ob e)).trans z⟩
 ·have z:=u.tups b xs e
  rw[zd (zG z n)];exact z
 ·have z:=u.frzs b ob xs e
  rw[zd (zG z n)];exact z
 ·obtain⟨m,z⟩:=u.tbls b ps e
  exact⟨m,by rw[zd (zG z n)];exact z⟩
theorem uy {X:Cx}{elt tg iter:Expr}{ifs:List Expr}{scope:Scope}{pos pos':Pos}{own:List Str}{cap:List (Str×Nat)}{wi:TI}{g:TG}{tc:TT}{te:TE}{use:Option (Value->Sem Unit)}{Q:Value->Shared->Prop}{W0:VK}{pins:List (Addr×Obj)}{s:Shared}{σ:St}{H:Hp}(hc:X.calm=true)(S:CompScope X scope own cap)(hi:PI X tg iter wi)
  (hin:∀C s₀ H₀ fp pn,PG (cxc X scope C (own++cap.map (·.1)) s₀ H₀ fp pn) tg g/\PIfs (cxc X scope C (own++cap.map (·.1)) s₀ H₀ fp pn) ifs tc/\PE (cxc X scope C (own++cap.map (·.1)) s₀ H₀ fp pn) elt te)
  (hs:∀x,foldedSetIterable iter X.env x=pure x) (I:Inv X pins σ H s) (h:tComp wi own cap g tc te σ H W0)
  (fin:∀(D C:Addr) (s4:Shared) (H':Hp) (ys:List V),Inv X pins σ (upd H' D (.lst ys)) s4->(∃m,s4.heap.Ns C m)->H' C=none->D≠C->X.env.locals < C->(∀x c,X.env.cells.lookup x=some c->c < C)->(∀H0:Hp,H0 C=none->FpOk X pins H0 C)->W0 (.ref D) (upd H' D (.lst ys))->compPost (model X.prog X.w) X.A X.xe use Q (.ref D) C (.ok .next) s4) :
  wpAny (model X.prog X.w) X.A (comprehension (.ListComp elt [⟨tg,iter,ifs,0⟩] scope pos) scope X.env pos' (newList []) false (eval iter X.env) use) Q X.xe s:=by
 have hfr:∀y∈scope.names,y.2=.free->∃c,X.env.cells.lookup y.1=some c:=λy hy hk=>I.ok.has y.1 (S.frees y hy hk)
 refine wpAny_comprehension_free rfl hs (WT hfr) S.kind S.names (thn (hi pins s σ H _ I h) λxv s₁ h₁=>thn h₁ λit s₂ h₂=>?_)
 obtain⟨it,fp,tn,J,H2,rfl,I2,T,st2,f2,W,⟨m0,w0⟩,turn⟩:=h₂
 refine wpAny_newObj_type (wpAny_newFunctionEnv S.nocell (by intro y hy;simp at hy) (λh₁ hns₁ hsb₁=>?_) S.kind)
 dsimp only at hns₁ hsb₁ ⊢
 generalize hH3:s₂.heap.push { cls:=.type "list",dict:=none,data:=.seq ([]:List Value).toArray }=h3 at hns₁ hsb₁ ⊢
 have hC:h3.objs.size=s₂.heap.objs.size+1:=by rw[<-hH3,Heap.size_push]
 have flt:∀b∈fp,b < s₂.heap.objs.size:=λb hb=>let ⟨o,e,_⟩:=T.obj _ _ st2 b hb;Heap.lt_size e
 have old:∀b o,s₂.heap.get? b=some o->h₁.get? b=some o:=λb o e=>hsb₁.extBut b o (by rw[hC];exact Nat.ne_of_lt (Nat.lt_succ_of_lt (Heap.lt_size e))) (Heap.get?_push_of_some _ (hH3 ▸ Heap.get?_push_of_some _ e))
 have hDC:s₂.heap.objs.size≠h3.objs.size:=by rw[hC];exact Nat.ne_of_lt (Nat.lt_succ_self _)
 have hacc:h₁.get? s₂.heap.objs.size=some { cls:=.type "list",data:=.seq ([]:List Value).toArray }:=hsb₁.extBut _ _ hDC (Heap.get?_push_of_some _ (hH3 ▸ Heap.get?_push_size _ rfl))
 generalize hD:s₂.heap.objs.size=D at hacc hDC
 have hCle:s₂.heap.objs.size<=h3.objs.size:=by rw[hC];exact Nat.le_succ _
 generalize hCC:h3.objs.size=C at *
 have ok:(cxc X scope C (own++cap.map (·.1)) s₂ H2 fp (X.pn++pins)).Ok:=U4 S I2 hCle f2 flt
 have sub:∀x c,(clGo X.env.cells scope.names []).lookup x=some c->X.env.cells.lookup x=some c:=λx c=>qm _ _ x c hfr (λx c e=>by simp at e)
 obtain⟨hG,hT,hE⟩:=hin C s₂ H2 fp (X.pn++pins)
 have fl:∀ {α:Type} {t:Sem α} {Q:α->Shared->Prop} {E:Value->Shared->Prop} {s:Shared},wpAny (model X.prog X.w) X.A t Q (λ_ _=>False) s->wpAny (model X.prog X.w) X.A t Q E s:=λh=>wpAny_mono h (λ_ _ q=>q) λ_ _ f=>f.elim
 have dn:D∉frs X.stack:=λz=>by
  rcases List.mem_cons.mp (I2.stkSub D z) with q | q
  ·exact absurd I2.lt (by rw[<-q,hD];exact Nat.lt_irrefl _)
  ·exact I2.nofs (Nat.le_of_eq hD) q
 have pnl:∀p∈X.pn++pins,p.1 < s₂.heap.objs.size:=λp hp=>Heap.lt_size (I2.pin p hp).1
 have celt:∀x c,(clGo X.env.cells scope.names []).lookup x=some c->c < s₂.heap.objs.size:=λx c e=>let ⟨v,q⟩:=I2.cell x c (sub x c e);q.lt
 have hDle:s₂.heap.objs.size<=D:=Nat.le_of_eq hD
 have I0:Inv (cxc X scope C (own++cap.map (·.1)) s₂ H2 fp (X.pn++pins)) [(D,{ cls:=.type "list",data:=.seq ([]:List Value).toArray })] (List.replicate own.length none++cap.map λp=>(σ[p.2]?).getD none) H2 { s₂ with heap:=h₁,toks:=s₂.toks+([]:List (Str×Value)).length }:=by
  refine⟨ok,rfl,I2.bare,Un.kept old,⟨_,hns₁,λi x v e1 e2 e3=>?_⟩,λx c e=>?_,I2.hok.fresh hCle,λx c e=>I2.freeC x c (sub x c e),λp hp=>?_,I2.hok.kept old,?_⟩
  ·by_cases hi:i < own.length
   ·rw[List.getElem?_append_left (by simpa using hi),List.getElem?_replicate] at e2
    rw[if_pos hi] at e2
    cases e2
   ·have e1:(own++cap.map (·.1))[i]?=some x:=e1
    rw[List.getElem?_append_right (by omega),List.getElem?_map] at e1
    rw[List.getElem?_append_right (by simpa using hi),List.length_replicate,List.getElem?_map] at e2
    cases q:cap[i - own.length]? with
    |none=>rw[q] at e1;cases e1
    |some p=>
     rw[q] at e1 e2
     have e1:p.1=x:=Option.some.inj e1
     have e2:(σ[p.2]?).getD none=some v:=Option.some.inj e2
     obtain⟨c1,c2⟩:=S.caps p (List.mem_of_getElem? q)
     have e2':σ[p.2]?=some (some v):=by
      cases q2:σ[p.2]? with
      |none=>rw[q2] at e2;cases e2
      |some w=>rw[q2] at e2;rw[show w=some v from e2]
     have hk:=S.frees (p.1,.free) (uf c1) rfl
     obtain⟨m,hn,hl⟩:=I2.loc
     obtain⟨u,ru,lk⟩:=hl p.2 p.1 v c2 e2' (.inr hk)
     refine⟨u,ru,.inr ?_⟩
     rcases lk with⟨k1,_⟩ | ⟨_,c,ec,hcell⟩
     ·rcases hk with z | z
      ·rw[k1] at z;cases z
      ·rw[k1] at z;cases z
     ·subst e1
      refine⟨ZU (env:=X.env) c1,?_⟩
      obtain⟨c',ec'⟩:=Option.isSome_iff_exists.mp (qT (cells:=X.env.cells) scope.names [] p.1 (uf c1))
      have z:=sub _ _ ec'
      rw[ec] at z;cases z
      obtain⟨o,ho,hd⟩:=hcell
      exact⟨c,ec',o,old c o ho,hd⟩
  ·obtain⟨v,o,ho,hd⟩:=I2.cell x c (sub x c e)
   exact⟨v,o,old c o ho,hd⟩
  ·rcases List.mem_append.mp (show p∈(X.pn++pins)++[(D,_)] from hp) with hp | hp
   ·obtain⟨q1,q2,q3,q4,q5⟩:=I2.pin p hp
    refine⟨old _ _ q1,q2,Nat.ne_of_lt (Nat.lt_of_lt_of_le (Heap.lt_size q1) hCle),λz=>?_,q5⟩
    rcases List.mem_cons.mp (I2.stkSub p.1 z) with q | q
    ·exact q3 q
    ·exact q4 q
   ·rw[List.mem_singleton.mp hp]
    exact⟨hacc,I2.hok.fresh hDle,hDC,dn,λv z=>by cases z⟩
  ·show (List.replicate own.length none++cap.map _).length=(own++cap.map _).length
   simp
 have stat:∀ {H':Hp} {pl:List (Addr×Obj)},(∀p∈pl,p.1=D∨p.1∈fp->p.1=D)->(∀b∈fp,H' b=none)->∀b∈fp,FpOk (cxc X scope C (own++cap.map (·.1)) s₂ H2 fp (X.pn++pins)) pl H' b:=by
  intro H' pl hpl hn b hb
  refine⟨hn b hb,Nat.ne_of_lt (Nat.lt_of_lt_of_le (flt b hb) hCle),λz=>?_,.inl hb,λx c e=>(f2 b hb).2.2.2.2.1 x c (sub x c e),λp hp=>?_⟩
  ·rcases List.mem_cons.mp (I2.stkSub b z) with q | q
   ·exact (f2 b hb).2.1 q
   ·exact (f2 b hb).2.2.1 q
  ·rcases List.mem_append.mp (show p∈(X.pn++pins)++pl from hp) with hp | hp
   ·exact (f2 b hb).2.2.2.2.2 p hp
   ·intro z
    have:=hpl p hp (.inr (z ▸ hb))
    rw[z] at this
    exact absurd (flt b hb) (by rw[this,hD];exact Nat.lt_irrefl _)
 have loop:∀s₃:Shared,s₃={ s₂ with heap:=h₁,toks:=s₂.toks+([]:List (Str×Value)).length } ->
   codeAny (model X.prog X.w) X.A (.compLoop (.ListComp elt [⟨tg,iter,ifs,0⟩] scope pos) 0 (.ref it) (.ref D) (compEnvC scope (clGo X.env.cells scope.names []) C X.env)) (compPost (model X.prog X.w) X.A X.xe use Q (.ref D) C) s₃:=by
  rintro s₃ rfl
  refine VU (λn s'=>∃i ys its k σ1 H',Inv (cxc X scope C (own++cap.map (·.1)) s₂ H2 fp (X.pn++pins)) [(D,{ cls:=.type "list",data:=.seq (List.toArray its) k })] (σ1++cap.map λp=>(σ[p.2]?).getD none) H' s'/\σ1.length=own.length/\Vals ys its/\tn i s'.heap/\(∀b∈fp,H' b=none)/\W i n ys H') ?_ m0
   ⟨0,[],[],0,_,H2,I0,by simp,.nil,T.keep _ _ _ st2 λb hb o e=>old b o e,λb hb=>(f2 b hb).1,w0⟩
  rintro n s' ⟨i,ys,its,k,σ1,H',J1,hσ,rv,st1,fr1,w1⟩
  obtain⟨hsz,⟨stop,qn⟩ | ⟨go,N,hN,step⟩⟩:=turn i n ys H' w1
  ·refine thn (T.done (cxc X scope C (own++cap.map (·.1)) s₂ H2 fp (X.pn++pins)) rfl rfl rfl hc i _ s' _ H' (λ_ _=>False) J1 (stat (by intro p hp _;rw[List.mem_singleton.mp hp]) fr1) st1 stop) λr s4 ⟨hr,I4⟩=>?_
   subst hr
   obtain⟨m4,hn4,_⟩:=I4.loc
   obtain⟨pD1,pD2,pD3,pD4,pD5⟩:=I4.pin (D,_) (List.mem_append_right _ List.mem_cons_self)
   have u:=Vl (o:=.lst ys) I4.base hDle hCle (show Heap.SameBut C s4.heap s4.heap from⟨rfl,λ_ _=>rfl⟩) pD2
   have hCn:H' C=none:=I4.free
   have I5:Inv X pins σ (upd H' D (.lst ys)) s4:=by
    refine I2.call' (s':=s4) (ch:=fp) I4.os u ?_ I4.bare λb hb=>?_
    ·intro b ob e
     by_cases hb:b=D
     ·subst hb
      rw[zi] at e;cases e
      exact⟨hsz,its,k,rv,pD1⟩
     ·rw[zd hb] at e
      exact (I4.hok b ob e).stay (λc v hc' q=>q) (λc q=>by rw[zd (zG q pD2)];exact q) λc xs q=>by rw[zd (zG q pD2)];exact q
    ·obtain⟨q1,q2,q3,q4,q5,q6⟩:=f2 b hb
     exact⟨q4,q2,q5,q6⟩
   exact fin D C s4 H' ys I5 ⟨m4,hn4⟩ hCn hDC (Nat.lt_of_lt_of_le I2.lt hCle) (λx c e=>let ⟨v,q⟩:=I2.cell x c e;Nat.lt_of_lt_of_le q.lt hCle) (λH0 z=>I2.fpOk hCle z) (qn D pD2)
  ·refine thn (T.item (cxc X scope C (own++cap.map (·.1)) s₂ H2 fp (X.pn++pins)) rfl rfl rfl hc i _ s' _ H' (λ_ _=>False) J1 (stat (by intro p hp _;rw[List.mem_singleton.mp hp]) fr1) st1 go) λr s4 ⟨u,hr,h4⟩=>?_
   subst hr
   refine thn h4 λ_ s5 ⟨x,H5,I5,r5,y5,st5,fr5⟩=>?_
   have I5':=I5.pinned (stat (by intro p hp _;rw[List.mem_singleton.mp hp]) fr5) (T.obj _ _ st5)
   refine thn (hG _ s5 _ H5 x u _ I5' r5 (step x H5 y5 σ1 hσ)) λ_ s6 ⟨σ6,H6,I6,⟨σ1',l6,e6⟩,q6⟩=>?_
   subst e6
   refine thn (hT _ s6 _ H6 _ I6 q6) λok s7 ⟨H7,I7,q7⟩=>?_
   have again:∀ {s8:Shared} {H8:Hp} {ys8:List V} {its8:List Value} {k8:Nat},Inv (cxc X scope C (own++cap.map (·.1)) s₂ H2 fp (X.pn++pins)) ([(D,{ cls:=.type "list",data:=.seq (List.toArray its8) k8 })]++pinsAt fp s5.heap) (σ1'++cap.map λp=>(σ[p.2]?).getD none) H8 s8->Vals ys8 its8->N ys8 H8 ->
     ∃m,m < n/\∃i ys its k σ1 H',Inv (cxc X scope C (own++cap.map (·.1)) s₂ H2 fp (X.pn++pins)) [(D,{ cls:=.type "list",data:=.seq (List.toArray its) k })] (σ1++cap.map λp=>(σ[p.2]?).getD none) H' s8/\σ1.length=own.length/\Vals ys its/\tn i s8.heap/\(∀b∈fp,H' b=none)/\W i m ys H':=by
    intro s8 H8 ys8 its8 k8 I8 rv8 n8
    obtain⟨m',hm,w8⟩:=hN ys8 H8 n8
    refine⟨m',hm,i+1,ys8,its8,k8,σ1',H8,I8.unpinned,l6,rv8,T.keep _ _ _ st5 λb hb o e=>(I8.pin (b,o) (List.mem_append_right _ (List.mem_append_right _ (jd hb e)))).1,λb hb=>?_,w8⟩
    obtain⟨o,e,d⟩:=T.obj _ _ st5 b hb
    exact (I8.pin (b,o) (List.mem_append_right _ (List.mem_append_right _ (jd hb e)))).2.1
   cases ok with
   |false=>exact again I7 rv q7
   |true=>
    refine thn (hE _ s7 _ H7 _ I7 q7) λy s8 ⟨v8,H8,I8,r8,q8⟩=>?_
    obtain⟨pD1,pD2,pD3,pD4,pD5⟩:=I8.pin (D,_) (List.mem_append_right _ List.mem_cons_self)
    have hsz':its.toArray.size<=sizeLine:=by rw[List.size_toArray,<-rv.length];exact hsz
    refine wpAny_list_append_plain (hsz:=hsz') (items:=its.toArray) ⟨k,pD1⟩ λh9 pl9 sb9=>?_
    obtain⟨k9,e9⟩:=pl9
    have ea:its.toArray.push y=(its++[y]).toArray:=by simp
    rw[ea] at e9
    have I8':Inv (cxc X scope C (own++cap.map (·.1)) s₂ H2 fp (X.pn++pins)) (pinsAt fp s5.heap) (σ1'++cap.map λp=>(σ[p.2]?).getD none) H8 s8:=I8.pins_of λp hp=>I8.pin p (List.mem_append_right _ (List.mem_append_right _ hp))
    have fD:FpOk (cxc X scope C (own++cap.map (·.1)) s₂ H2 fp (X.pn++pins)) (pinsAt fp s5.heap) H8 D:=by
     refine⟨pD2,pD3,pD4,.inr hDle,λx c e z=>?_,λp hp z=>?_⟩
     ·exact absurd (celt x c e) (by rw[z,hD];exact Nat.lt_irrefl _)
     ·rcases List.mem_append.mp (show p∈(X.pn++pins)++_ from hp) with hp | hp
      ·exact absurd (pnl p hp) (by rw[z,hD];exact Nat.lt_irrefl _)
      ·exact absurd (flt p.1 (Z8 hp).1) (by rw[z,hD];exact Nat.lt_irrefl _)
    have I9:Inv (cxc X scope C (own++cap.map (·.1)) s₂ H2 fp (X.pn++pins)) (pinsAt fp s5.heap) (σ1'++cap.map λp=>(σ[p.2]?).getD none) H8 { s8 with heap:=h9 }:=vF (t':=s8.toks) (ch:=[D]) I8' (λb o hb e=>(sb9.2 b λz=>hb (by simp[z])).trans e) λb hb=>by rw[List.mem_singleton.mp hb];exact fD
    have I10:Inv (cxc X scope C (own++cap.map (·.1)) s₂ H2 fp (X.pn++pins)) ([(D,{ cls:=.type "list",data:=.seq (its++[y]).toArray k9 })]++pinsAt fp s5.heap) (σ1'++cap.map λp=>(σ[p.2]?).getD none) H8 { s8 with heap:=h9 }:=I9.pins_of λp hp=>by
     rcases List.mem_append.mp hp with hp | hp
     ·rw[List.mem_singleton.mp hp]
      exact⟨e9,pD2,pD3,pD4,λv z=>by cases z⟩
     ·exact I9.pin p (List.mem_append_right _ hp)
    exact again (s8:={ s8 with heap:=h9 }) I10 (rv.append (.cons r8 .nil)) q8
 subst hD
 exact codeAny_compStart_list (loop _ rfl) (T.self _ 0 _ _ _ (T.keep _ _ _ st2 λb hb o e=>old b o e) (loop _ rfl))
theorem Gs {X:Cx}{elt tg iter:Expr}{ifs:List Expr}{scope:Scope}{pos:Pos}{own:List Str}{cap:List (Str×Nat)}{wi:TI}{g:TG}{tc:TT}{te:TE}(hc:X.calm=true)(S:CompScope X scope own cap)(hi:PI X tg iter wi)
  (hin:∀C s₀ H₀ fp pn,PG (cxc X scope C (own++cap.map (·.1)) s₀ H₀ fp pn) tg g/\PIfs (cxc X scope C (own++cap.map (·.1)) s₀ H₀ fp pn) ifs tc/\PE (cxc X scope C (own++cap.map (·.1)) s₀ H₀ fp pn) elt te)
  (hs:∀x,foldedSetIterable iter X.env x=pure x:=by intro _;rfl) :
  PE X (.ListComp elt [⟨tg,iter,ifs,0⟩] scope pos) (tComp wi own cap g tc te):=by
 intro pins s σ H Q I h
 rw[eval_ListComp]
 exact uy (Q:=EP X pins σ Q) hc S hi hin hs I h λD C s4 H' ys I5 ⟨m,hn⟩ hCn hDC _ _ fp qn=>⟨m,hn,λh' sb=>⟨.ref D,_,vF (t':=s4.toks) (ch:=[C]) I5 (λb o hb q=>(sb.2 b λz=>hb (by simp[z])).trans q) (λb hb=>by rw[List.mem_singleton.mp hb];exact fp _ (by rw[zd (Ne.symm hDC)];exact hCn)),rfl,qn⟩⟩
theorem JA {X:Cx}{i:Nat}{y:Str}{py spos:Pos}{elt tg iter:Expr}{ifs:List Expr}{scope:Scope}{pos:Pos}{own:List Str}{cap:List (Str×Nat)}{wi:TI}{g:TG}{tc:TT}{te:TE}(hc:X.calm=true)(S:CompScope X scope own cap)(hi:PI X tg iter wi)
  (hin:∀C s₀ H₀ fp pn,PG (cxc X scope C (own++cap.map (·.1)) s₀ H₀ fp pn) tg g/\PIfs (cxc X scope C (own++cap.map (·.1)) s₀ H₀ fp pn) ifs tc/\PE (cxc X scope C (own++cap.map (·.1)) s₀ H₀ fp pn) elt te)
  (hN:X.N.Nodup) (hiy:X.N[i]?=some y) (hy:Loc X.env.scope y) (hsw:swapsWith (.ListComp elt [⟨tg,iter,ifs,0⟩] scope pos) (some (.Name y py)) spos.line X.env=pure true)
  (hs:∀x,foldedSetIterable iter X.env x=pure x:=by intro _;rfl) (hfn:X.fn y=true∨X.env.scope.names.lookup y=some .local:=by first | exact .inl rfl | exact .inr rfl | assumption) :
  PS X (.Assign [.Name y py] (.ListComp elt [⟨tg,iter,ifs,0⟩] scope pos) spos) (tAsg (tComp wi own cap g tc te) (gName i)):=by
 intro pins s σ H Dn I h
 rw[exec_Assign_Name_used _ _ _ _ hsw]
 refine wpAny_bind (wpAny_standAt (wpAny_bind ?_))
 show wpAny _ X.A (do let _ <-comprehension (.ListComp elt [⟨tg,iter,ifs,0⟩] scope pos) scope X.env _ (newList []) false (eval iter X.env) (some (assign (.Name y py) X.env))) _ _ s
 refine wpAny_bind (wpAny_mono (uy (use:=some (assign (.Name y py) X.env)) (Q:=λ_ s'=>SP X pins Dn .next s') hc S hi hin hs I h λD C s4 H' ys I5 ⟨m4,hn4⟩ hCn hDC lt cl fp qn=>?_) (λ_ s' hq=>wpAny_pure (wpAny_pure hq)) λ_ _ e=>e)
 show wpAny _ X.A (assign (.Name y py) X.env (.ref D)) _ _ _
 refine wpAny_assign_Name (jQ I5 hN hiy hy (v:=.ref D) rfl (λs5 I6 ⟨a5,sb5,ha5⟩=>?_) hfn)
 have hCa:C≠a5:=by
  rcases ha5 with z | z
  ·rw[z];exact Nat.ne_of_gt lt
  ·exact λe=>absurd (cl _ _ z) (by rw[<-e];exact Nat.lt_irrefl _)
 refine⟨m4,hn4.sameBut sb5 hCa,λh3 sb3=>?_⟩
 have hC0:(upd H' D (.lst ys)) C=none:=by rw[zd (Ne.symm hDC)];exact hCn
 exact⟨_,_,vF (t':=s5.toks) (ch:=[C]) I6 (λb o hb q=>(sb3.2 b (λz=>hb (by simp[z]))).trans q) (λb hb=>by rw[List.mem_singleton.mp hb];exact fp _ hC0),qn⟩
end L3
namespace L2
open PySem PySem.Spec PyProof.Rows
section
variable {κ:Type} [DecidableEq κ]
def valV (kvs:List (κ×V))(k:κ):Option V:=(kvs.find? λkv=>decide (kv.1=k)).map (·.2)
def putK (kvs:List (κ×V))(k:κ)(v:V):List (κ×V) :=
 if (kvs.any λkv=>decide (kv.1=k))=true then kvs.map (λkv=>if kv.1=k then (kv.1,v) else kv) else kvs++[(k,v)]
theorem YU {p:κ×V}{r:List (κ×V)}{k:κ}(e:p.1=k):valV (p::r) k=some p.2:=by simp[valV,List.find?_cons,e]
theorem YL {p:κ×V}{r:List (κ×V)}{k:κ}(e:¬p.1=k):valV (p::r) k=valV r k:=by simp[valV,List.find?_cons,e]
theorem Jj (kvs:List (κ×V))(k:κ)(v:V):(putK kvs k v).length<=kvs.length+1:=by
 unfold putK
 split
 ·rw[List.length_map];omega
 ·rw[List.length_append,List.length_cons,List.length_nil];omega
theorem KV.val {kvs:List (κ×V)}{vs:List (κ×Value)}(r:KV kvs vs)(k:κ):RelO (valV kvs k) (valueAt vs k):=by
 unfold KV at r
 induction r with
 |nil=>exact True.intro
 | @cons p q ps qs h t ih=>
  obtain⟨h1,h2⟩:=h
  by_cases e:p.1=k
  ·have e':q.1=k:=h1.symm.trans e
   have b:valueAt (q::qs) k=some q.2:=by simp[valueAt,List.find?_cons,e']
   rw[YU e,b];exact h2
  ·have e':¬q.1=k:=λz=>e (h1.trans z)
   have b:valueAt (q::qs) k=valueAt qs k:=by simp[valueAt,List.find?_cons,e']
   rw[YL e,b];exact ih
theorem KV.any {kvs:List (κ×V)}{vs:List (κ×Value)}(r:KV kvs vs)(k:κ):(kvs.any λkv=>decide (kv.1=k))=vs.any λkv=>decide (kv.1=k):=by
 unfold KV at r
 induction r with
 |nil=>rfl
 |cons h t ih=>rw[List.any_cons,List.any_cons,ih,h.1]
theorem KV.repl {kvs:List (κ×V)}{vs:List (κ×Value)}(r:KV kvs vs)(k:κ){y:V}{u:Value}(ry:RelV y u) :
  KV (kvs.map λkv=>if kv.1=k then (kv.1,y) else kv) (vs.map λkv=>if kv.1=k then (kv.1,u) else kv):=by
 unfold KV at r ⊢
 induction r with
 |nil=>exact .nil
 | @cons p q ps qs h t ih=>
  rw[List.map_cons,List.map_cons]
  refine .cons ?_ ih
  obtain⟨h1,h2⟩:=h
  by_cases e:p.1=k
  ·rw[if_pos e,if_pos (h1.symm.trans e)];exact⟨h1,ry⟩
  ·rw[if_neg e,if_neg (λz=>e (h1.trans z))];exact⟨h1,h2⟩
theorem KV.put {kvs:List (κ×V)}{vs:List (κ×Value)}(r:KV kvs vs)(k:κ){y:V}{u:Value}(ry:RelV y u):KV (putK kvs k y) (stored vs k u):=by
 unfold putK stored
 rw[r.any k]
 by_cases e:(vs.any λkv=>decide (kv.1=k))=true
 ·rw[if_pos e,if_pos e];exact r.repl k ry
 ·rw[if_neg e,if_neg e];exact Paired.snoc r ⟨rfl,ry⟩
theorem KV.length {kvs:List (κ×V)}{vs:List (κ×Value)}(r:KV kvs vs):kvs.length=vs.length:=Paired.length r
end
theorem Yx {P:Program}{w:World}{k:Key}{u:Value}(r:RelV (kV k) u):(zQ P w).is k u=true:=by
 cases k with
 |inl i=>obtain⟨t,e⟩:=(show ∃t,u=Value.int i t from r);subst e;exact UI P w i t
 |inr x=>obtain⟨t,e⟩:=(show ∃t,u=Value.str x t from r);subst e;exact Ur P w x t
section
variable {P:Program}{w:World}{H:Hp}{h:Heap}{a:Addr}
end
section
variable {X:Cx}{pins:List (Addr×Obj)}{σ:St}{H:Hp}{s:Shared}{a:Addr}{y v:V}{u r:Value}{o:Option V}{A:Around}{E:Value->Shared->Prop}
theorem Inv.big (I:Inv X pins σ H s):sysModules < s.heap.objs.size:=by
 have h:mainGlobals < s.heap.objs.size:=(I.mod.glob.keeps I.bk).lt
 exact Nat.lt_trans (by decide) h
theorem VQ {h':Heap}{t':Nat}{ob:HO}(I:Inv X pins σ H s)(mu:Mut (H a))(hs:Heap.SameBut a s.heap h')(he:∃q,h'.get? a=some q)(new:ObjOk X.prog X.w (upd H a ob) h' a ob) :
  Inv X pins σ (upd H a ob) { s with heap:=h',toks:=t' } :=
 I.write (x:=a) (e:=a) mu (.inl rfl) (λb q hb z=>(hs.2 b hb).trans z) he new
end
section
variable {X:Cx}{pins:List (Addr×Obj)}{σ:St}{H:Hp}{s:Shared}{a:Addr}{kvs:List (Key×V)}{k:Key}{u:Value}{A:Around}{E:Value->Shared->Prop}
end
def NoSl (i:Expr):Prop:=∀ov iv,subscripted i false ov iv=operate [ov,iv] (getItem ov iv)
theorem VP {prog:Program}{w:World}{A:Around}{E:Value->Shared->Prop}{s:Shared}{env:Env}{value slice:Expr}{pos:Pos}{T id:String}{Q:Value->Shared->Prop}
  (hl:typeLookup (.type T) "__getitem__" = pure (some (.builtin id))) (hs:NoSl slice)
  (h:wpAny (model prog w) A (eval value env) (λo s₁=>wpAny (model prog w) A (eval slice env) (λi s₂=>s₂.TypeIs o T/\wpAny (model prog w) A (getItem o i) Q E s₂) E s₁) E s) :
  wpAny (model prog w) A (eval (.Subscript value slice pos) env) Q E s:=by
 refine Subscript_ (wpAny_mono h (λo s₁ h₁=>wpAny_mono h₁ (λi s₂ h₂=>?_) λ_ _ x=>x) λ_ _ x=>x)
 obtain⟨hT,h₂⟩:=h₂
 unfold subscriptTail
 refine wpAny_bind ?_
 rw[getitemInPython_of_ne hT.not_modules]
 refine wpAny_bind (wpAny_specialOf hT hl ?_)
 have fin:wpAny (model prog w) A (subscripted slice false o i) (λr s₃=>wpAny (model prog w) A (letTemporaryGo value o r >>= λ_=>pure r) Q E s₃) E s₂:=by
  rw[hs o i]
  exact wpAny_operating (wpAny_mono h₂ (λr s₃ h₃=>wpAny_bind (wpAny_letTemporaryGo (wpAny_pure h₃))) λ_ _ x=>x)
 first
  |exact wpAny_pure (wpAny_bind fin)
  |exact wpAny_bind (wpAny_pure (wpAny_bind fin))
  |exact wpAny_bind fin
section
variable {X:Cx}{o i e value:Expr}{pos pos' tpos:Pos}{td ty tv:TE}
end
section
variable {X:Cx}{pos:Pos}
end
structure M1 (X:Cx)(o:Expr)(m:Str)(apos:Pos)(e:Expr)(cpos:Pos):Prop where
 base:attributeBase o m X.env (eval o X.env)=eval o X.env
 few:((backTo cpos (starEach [e] X.env)).all (λx=>!x.1)&&(backToKw cpos (keywordEach [] X.env)).all (λx=>x.1.isSome)
  && decide (([e]:List Expr).length+([]:List Keyword).length+(if ([]:List Keyword).isEmpty then 0 else 1) < 30))=true
 line:(apos.endLine==cpos.line)=true
 trees:backTo cpos (starEach [e] X.env)=[(false,eval e X.env)]
structure M2 (X:Cx)(o:Expr)(m:Str)(apos:Pos)(e f:Expr)(cpos:Pos):Prop where
 base:attributeBase o m X.env (eval o X.env)=eval o X.env
 few:((backTo cpos (starEach [e,f] X.env)).all (λx=>!x.1)&&(backToKw cpos (keywordEach [] X.env)).all (λx=>x.1.isSome)
  && decide (([e,f]:List Expr).length+([]:List Keyword).length+(if ([]:List Keyword).isEmpty then 0 else 1) < 30))=true
 line:(apos.endLine==cpos.line)=true
 trees:backTo cpos (starEach [e,f] X.env)=[(false,eval e X.env),(false,eval f X.env)]
section
variable {X:Cx}{pins:List (Addr×Obj)}{σ:St}{H:Hp}{s:Shared}{a:Addr}{y d:V}{u r:Value}{o:Option V}{A:Around}{E:Value->Shared->Prop}
end
section
variable {X:Cx}{o e f:Expr}{apos cpos:Pos}{td ty tx:TE}
end
section
variable {X:Cx}{pins:List (Addr×Obj)}{σ:St}{H:Hp}{s:Shared}{a:Addr}{kvs:List (Key×V)}{A:Around}{E:Value->Shared->Prop}
end
section
variable {X:Cx}{pins:List (Addr×Obj)}{σ:St}{H:Hp}{s:Shared}{a:Addr}{y:V}{u:Value}{A:Around}{E:Value->Shared->Prop}
end
end L2
namespace L4
open PySem PySem.Spec L2 L3
open PyProof.Rows hiding St
def dxp (w:World)(a:Addr)(o:Obj)(kvs:List (Key×V)):Heap->Prop:=λh=>h.get? a=some o/\kvs.length<=sizeLine/\(a==sysModules)=false/\∃vs,KV kvs vs/\∀P,o.IsDictOf (zQ P w) vs
def DX (w:World)(a:Addr)(o:Obj)(kvs:List (Key×V)):HO:=.ext (dxp w a o kvs)
theorem pairsP {P P':Program}{w:World}:∀ {es:List DictEntry} {vs:List (Key×Value)},Pairs (zQ P w) es vs->Pairs (zQ P' w) es vs:=by
 intro es vs h
 induction h with
 |nil=>exact .nil
 |cons=>first | exact .cons ‹_› ‹_› | exact .cons ‹_› ‹_› ‹_› | (constructor<;>assumption)
theorem anyP {o:Obj}{P P':Program}{w:World}{vs:List (Key×Value)}(h:o.IsDictOf (zQ P w) vs):o.IsDictOf (zQ P' w) vs :=
 let ⟨es,ep,h1,h2,h3,h4,h5⟩:=h;⟨es,ep,h1,h2,h3,pairsP h4,h5⟩
theorem ZO {P:Program}{w:World}{h:Heap}{a:Addr}{kvs:List (Key×V)}{vs:List (Key×Value)}(z:kvs.length<=sizeLine)(hd:(a==sysModules)=false)(rel:KV kvs vs)(dd:h.DictOf (zQ P w) a vs) :
  ∃o,h.get? a=some o/\∀H,ObjOk P w H h a (DX w a o kvs):=by
 obtain⟨o,ho,hi⟩:=Heap.dictOf_iff.mp dd
 exact⟨o,ho,λH=>⟨⟨ho,z,hd,vs,rel,λP=>anyP hi⟩,⟨o,ho⟩,λh1 h2 ⟨e,r⟩ k=>⟨k _ e,r⟩⟩⟩
section
variable {X:Cx}{pins:List (Addr×Obj)}{σ:St}{H:Hp}{s:Shared}{a:Addr}{ob:Obj}{kvs:List (Key×V)}{k:Key}{y v:V}{u r:Value}{A:Around}{E:Value->Shared->Prop}
theorem vw (I:Inv X pins σ H s)(e:H a=some (DX X.w a ob kvs)):s.heap.get? a=some ob/\kvs.length<=sizeLine/\(a==sysModules)=false/\∃vs,KV kvs vs/\ob.IsDictOf (zQ X.prog X.w) vs/\s.heap.DictOf (zQ X.prog X.w) a vs:=by
 obtain⟨⟨h1,h2,h3,vs,h4,h5⟩,_⟩:=(show ObjOk X.prog X.w H s.heap a (DX X.w a ob kvs) from I.hok a _ e)
 exact⟨h1,h2,h3,vs,h4,h5 _,Heap.dictOf_iff.mpr ⟨ob,h1,h5 _⟩⟩
theorem Kt (I:Inv X pins σ H s)(e:H a=some (DX X.w a ob kvs)):s.TypeIs (.ref a) "dict" := by
 obtain⟨_,_,_,vs,_,_,dd⟩:=vw I e
 exact dd.typeIs
theorem VF {Q:Value->Shared->Prop}(I:Inv X pins σ H s)(e:H a=some (DX X.w a ob kvs))(l:valV kvs k=some v)(ry:RelV (kV k) u)(h:∀w' s',Inv X pins σ H s'->RelV v w'->Q w' s') :
  wpAny (model X.prog X.w) A (getItem (.ref a) u) Q E s:=by
 obtain⟨_,z,hd,vs,rel,_,dd⟩:=vw I e
 obtain⟨w',hw,rw'⟩:=RelO.some_of (v:=v) (o:=valueAt vs k) (by rw[<-l];exact rel.val k)
 exact wpAny_getItem_of (Yx ry) dd.mapOf hw (h w' _ (I.tok _) rw')
theorem Je {Q:Unit->Shared->Prop}(I:Inv X pins σ H s)(e:H a=some (DX X.w a ob kvs))(l:kvs.length < sizeLine)(ry:RelV (kV k) u)(rv:RelV v r)
  (h:∀s' ob',Inv X pins σ (upd H a (DX X.w a ob' (putK kvs k v))) s'->Q () s'):wpAny (model X.prog X.w) A (setItem (.ref a) u r) Q E s:=by
 obtain⟨_,z,hd,vs,rel,_,dd⟩:=vw I e
 have hz:vs.length<=sizeLine:=by rw[<-rel.length];exact z
 have hl:(putK kvs k v).length<=sizeLine:=by have:=Jj kvs k v;omega
 refine wpAny_setItem_pairs (hsz:=hz) (Yx ry) dd λh' dd' hs=>?_
 have he:∃q,h'.get? a=some q:=let ⟨q,_,_,hq,_⟩:=dd';⟨q,hq⟩
 obtain⟨o',ho',new⟩:=ZO (P:=X.prog) (w:=X.w) (a:=a) (kvs:=putK kvs k v) hl hd (rel.put k rv) dd'
 exact h _ o' (VQ I (by rw[e];exact True.intro) hs he (new _))
end
def tXNew (P:Program)(w:World):TE:=λ_ H Q=>∀p ob,H p=none->Q (.ref p) (upd H p (DX w p ob []))
def tXGet (P:Program)(w:World)(td ty:TE):TE:=λσ H Q=>td σ H λx H1=>ty σ H1 λy H2=>∃a ob kvs k v,x=.ref a/\H2 a=some (DX w a ob kvs)/\y=kV k/\valV kvs k=some v/\Q v H2
def sXPut (P:Program)(w:World)(td ty tv:TE):TS:=λD σ H=>tv σ H λv H1=>td σ H1 λx H2=>ty σ H2 λy H3=>∃a ob kvs k,x=.ref a/\H3 a=some (DX w a ob kvs)/\y=kV k/\kvs.length < sizeLine/\∀ob',D.nx σ (upd H3 a (DX w a ob' (putK kvs k v)))
section
variable {X:Cx}{o i e f value:Expr}{pos pos' tpos apos cpos:Pos}{td ty tv tx:TE}
theorem VN:PE X (.Dict [] [] pos) (tXNew X.prog X.w):=λpins s σ H Q I h=>by
 obtain⟨ob,ho,new⟩:=ZO (P:=X.prog) (w:=X.w) (a:=s.heap.objs.size) (kvs:=[]) (Nat.zero_le _) (beq_eq_false_iff_ne.mpr (Ne.symm (Nat.ne_of_lt I.big))) .nil (Heap.DictOf.new (knd:=zQ X.prog X.w) s.heap)
 exact wpAny_Dict_empty ⟨.ref s.heap.objs.size,_,I.laid (a:=s.heap.objs.size) (o:=DX X.w s.heap.objs.size ob []) (t':=s.toks) (λ_ _ q=>Heap.get?_push_of_some _ q) (Nat.le_refl _) (new _),rfl,h _ ob (I.hok.fresh (Nat.le_refl _))⟩
theorem Zc (ho:PE X o td)(hi:PE X i ty)(hs:NoSl i):PE X (.Subscript o i pos) (tXGet X.prog X.w td ty):=by
 intro pins s σ H Q I h
 refine VP PySem.F.slot_dict_getitem.lookup hs (thn (ho pins s σ H _ I h) λu s1 ⟨x,H1,I1,rx,q1⟩=>thn (hi pins s1 σ H1 _ I1 q1) λiv s2 ⟨y,H2,I2,ry,a,ob,kvs,k,v,ex,g,ey,l,q2⟩=>?_)
 subst ex ey
 obtain rfl:u=Value.ref a:=rx
 exact⟨Kt I2 g,VF I2 g l ry λw' s3 I3 rw'=>⟨v,H2,I3,rw',q2⟩⟩
theorem Jg (ho:PE X o td)(hi:PE X i ty)(hv:PE X value tv)(hs:swapsWith value (some (.Subscript o i pos')) pos.line X.env=pure false) :
  PS X (.Assign [.Subscript o i pos'] value pos) (sXPut X.prog X.w td ty tv):=by
 intro pins s σ H D I h
 refine wpAny_Assign_Subscript (thn (hv pins s σ H _ I h) λr s1 ⟨v,H1,I1,rv,q1⟩=>thn (ho pins s1 σ H1 _ I1 q1) λu s2 ⟨x,H2,I2,rx,q2⟩=>thn (hi pins s2 σ H2 _ I2 q2) λiv s3 ⟨y,H3,I3,ry,a,ob,kvs,k,ex,g,ey,l,q3⟩=>?_) hs
 subst ex ey
 obtain rfl:u=Value.ref a:=rx
 exact Je I3 g l ry rv λs4 ob' I4=>⟨σ,_,I4,q3 ob'⟩
end
section
variable {X:Cx}{pins:List (Addr×Obj)}{σ:St}{H:Hp}{s:Shared}{a:Addr}{ob:Obj}{kvs:List (Key×V)}
end
inductive PairsAt (P:Program) (w:World) (h:Heap):List Value->List (Key×Value)->Prop
 |nil:PairsAt P w h [] []
 |cons {a:Addr} {r:List Value} {k:Key} {kv v:Value} {kvs:List (Key×Value)}:h.IsTuple a #[kv,v]->(zQ P w).is k kv=true->PairsAt P w h r kvs->PairsAt P w h (.ref a::r) ((k,v)::kvs)
section
variable {prog:Program}{w:World}{A:Around}{s:Shared}{R:Result->Shared->Prop}
end
section
variable {prog:Program}{w:World}{A:Around}{E:Value->Shared->Prop}{s:Shared}
end
inductive PairsV (K:PySem.W.Frag) (H:Hp):List V->List (Key×V)->Prop
 |nil:PairsV K H [] []
 |cons {a:Addr} {r:List V} {k:Key} {v:V} {kvs:List (Key×V)}:SqT K H a [kV k,v]->PairsV K H r kvs->PairsV K H (.ref a::r) ((k,v)::kvs)
section
variable {X:Cx}{pins:List (Addr×Obj)}{σ:St}{H:Hp}{s:Shared}
end
section
variable {X:Cx}
end
section
variable {X:Cx}{pins:List (Addr×Obj)}{σ:St}{H:Hp}{s:Shared}{a v:Addr}{ob:Obj}{kvs:List (Key×V)}{cls:String}
end
structure M0 (X:Cx)(o:Expr)(m:Str)(apos cpos:Pos):Prop where
 base:attributeBase o m X.env (eval o X.env)=eval o X.env
 line:(apos.endLine==cpos.line)=true
section
variable {X:Cx}{o:Expr}{apos cpos:Pos}{td:TE}
end
section
variable {X:Cx}{pins:List (Addr×Obj)}{σ:St}{H:Hp}{s:Shared}{a b:Addr}{oa ob:Obj}{ka kb:List (Key×Int)}{A:Around}{E:Value->Shared->Prop}
end
section
variable {X:Cx}{i o:Expr}{ta tb:TE}
end
section
variable {X:Cx}{pins:List (Addr×Obj)}{σ:St}{H:Hp}{s:Shared}{a:Addr}{ob:Obj}{kvs:List (Key×V)}
end
section
variable {X:Cx}{pins:List (Addr×Obj)}{σ:St}{H H':Hp}{s:Shared}{h':Heap}
theorem many (I:Inv X pins σ H s)(k:∀b u,s.heap.get? b=some u->h'.get? b=some u)(low:∀b,b < s.heap.objs.size->H' b=H b)(hok:HOk X.prog X.w H' h')(t':Nat):Inv X pins σ H' { s with heap:=h',toks:=t' }:=by
 have hl:∀b u,H b=some u->H' b=some u:=λb u e=>by rw[low b (I.hok.lt e)];exact e
 exact I.un ⟨λb u q _ _ _=>k b u q,λb u q _ _ _=>⟨u.slots,k b u q⟩,λb u q n _=>by rw[low b (Heap.lt_size q)];exact n,λb u q _=>⟨u,k b u q⟩,λb xs q=>hl b _ q,λb u xs q=>hl b _ q,λb ps q=>⟨#[],by rw[hl b _ q];simp⟩⟩ hok
end
end L4
namespace Dv
open PySem PySem.Spec L2 L3 L4
open PyProof.Rows hiding St
structure KW where
 fr:PySem.W.Frag
 w:World
instance:Coe KW PySem.W.Frag:=⟨KW.fr⟩
abbrev _root_.L2.Cx.kw (X:Cx):KW:=⟨X.K,X.w⟩
inductive Xt where
 |dic (k:Str) (i:Int) | exc (C:Addr) (fs:List (Str×Key))
def exDic (F:Hp)(dd:Option Addr):List (Str×Key)->Prop
 | []=>dd=none
 |f::fs=>∃dx,dd=some dx/\F dx=some (.xd ((f::fs).map λp=>(p.1,kV p.2)))
def exAt (a:Addr)(o:Obj):HO:=.ext λh=>h.get? a=some o
def RXt (F:Hp):Xt->V->Prop
 |.dic k i,v=>∃a,v=.ref a/\F a=some (.dK [(.inr k,.int i)])
 |.exc C fs,v=>∃a oe,v=.ref a/\F a=some (exAt a oe)/\oe.cls=.ref C/\(∃z,oe.data=.fields z)/\exDic F oe.dict fs
theorem exDic.mono {F F':Hp}(s:Same F F'){dd:Option Addr}:∀ {fs:List (Str×Key)},exDic F dd fs->exDic F' dd fs
 | [],h=>h
 |_::_,⟨dx,e,q⟩=>⟨dx,e,s _ _ q⟩
theorem RXt.mono {F F':Hp}(s:Same F F'):∀ {x:Xt} {v:V},RXt F x v->RXt F' x v
 |.dic _ _,_,⟨a,e,q⟩=>⟨a,e,s _ _ q⟩
 |.exc _ _,_,⟨a,oe,e,q,h1,h2,h3⟩=>⟨a,oe,e,s _ _ q,h1,h2,h3.mono s⟩
theorem RXt.ref {F:Hp}:∀ {x:Xt} {v:V},RXt F x v->∃a,v=.ref a
 |.dic _ _,_,⟨a,e,_⟩=>⟨a,e⟩
 |.exc _ _,_,⟨a,_,e,_⟩=>⟨a,e⟩
inductive D where
 |non | bl (b:Bool) | int (i:Int) | str (x:Str) | lst (xs:List D) | tup (xs:List D) | scr (ns:List Int) | obj (C:Addr) (fs:List Str) (ds:List D)
  |emp
 |xc (x:Xt)
mutual
def Rp (K:KW)(F:Hp):D->V->Prop
 |.non,v=>v=.non
 |.bl b,v=>v=.bl b
 |.int i,v=>v=.int i
 |.str x,v=>v=.str x
 |.lst ds,v=>∃a vs,v=.ref a/\F a=some (.lst vs)/\Rps K F ds vs
 |.tup ds,v=>∃a vs,v=.ref a/\F a=some (.tup vs)/\Rps K F ds vs
 |.scr ns,v=>∃a,v=.ref a/\SqL K F a (ns.map V.int)
 |.obj C fs ds,v=>∃a dx vs,v=.ref a/\F a=some (.ins C dx (fs.zip vs))/\fs.length=vs.length/\Rps K F ds vs
 |.emp,v=>∃a,v=.ref a/\F a=some (.dK [])
 |.xc x,v=>RXt F x v
def Rps (K:KW)(F:Hp):List D->List V->Prop
 | [],vs=>vs=[]
 |d::ds,vs=>∃v r,vs=v::r/\Rp K F d v/\Rps K F ds r
end
mutual
theorem Rp.mono {K:KW}{F F':Hp}(s:Same F F'):∀ {d:D} {v:V},Rp K F d v->Rp K F' d v
 |.non,_,h=>h
 |.bl _,_,h=>h
 |.int _,_,h=>h
 |.str _,_,h=>h
 |.lst _,_,⟨a,vs,e,q,r⟩=>⟨a,vs,e,s _ _ q,Rps.mono s r⟩
 |.tup _,_,⟨a,vs,e,q,r⟩=>⟨a,vs,e,s _ _ q,Rps.mono s r⟩
 |.scr _,_,⟨a,e,q⟩=>⟨a,e,s.seq q⟩
 |.obj _ _ _,_,⟨a,dx,vs,e,q,l,r⟩=>⟨a,dx,vs,e,s _ _ q,l,Rps.mono s r⟩
 |.emp,_,⟨a,e,q⟩=>⟨a,e,s _ _ q⟩
 |.xc _,_,h=>RXt.mono s h
theorem Rps.mono {K:KW}{F F':Hp}(s:Same F F'):∀ {ds:List D} {vs:List V},Rps K F ds vs->Rps K F' ds vs
 | [],_,h=>h
 |_::_,_,⟨v,r,e,h,t⟩=>⟨v,r,e,Rp.mono s h,Rps.mono s t⟩
end
section
variable {K:KW}{F F' H H':Hp}
theorem Rps.length:∀ {ds:List D} {vs:List V},Rps K F ds vs->ds.length=vs.length
 | [],_,h=>by cases h;rfl
 |_::_,_,⟨_,_,e,_,t⟩=>by subst e;simp[Rps.length t]
theorem Rps.append:∀ {ds es:List D} {vs ws:List V},Rps K F ds vs->Rps K F es ws->Rps K F (ds++es) (vs++ws)
 | [],_,_,_,h,t=>by cases h;exact t
 |_::_,_,_,_,⟨v,r,e,h,t⟩,q=>by subst e;exact⟨v,_,rfl,h,Rps.append t q⟩
theorem Rps.get:∀ {ds:List D} {vs:List V} {i:Nat} {d:D},Rps K F ds vs->ds[i]?=some d->∃v,vs[i]?=some v/\Rp K F d v
 | [],_,_,_,_,e=>by simp at e
 |_::_,_,0,_,⟨v,r,e,h,t⟩,q=>by subst e;simp at q;subst q;exact⟨v,rfl,h⟩
 |_::_,_,i+1,_,⟨v,r,e,h,t⟩,q=>by
  subst e
  obtain⟨w,h1,h2⟩:=Rps.get (i:=i) t (by simpa using q)
  exact⟨w,by simpa using h1,h2⟩
theorem Rps.get':∀ {ds:List D} {vs:List V} {i:Nat} {v:V},Rps K F ds vs->vs[i]?=some v->∃d,ds[i]?=some d/\Rp K F d v:=fun {ds vs i v} r e=>by
 have hl:=r.length
 have hi:i < vs.length:=(List.getElem?_eq_some_iff.mp e).1
 have hd:ds[i]?=some ds[i]:=List.getElem?_eq_getElem (by omega)
 obtain⟨w,h1,h2⟩:=r.get hd
 rw[e] at h1;cases h1
 exact⟨_,hd,h2⟩
theorem Rps.take:∀ {ds:List D} {vs:List V} (n:Nat),Rps K F ds vs->Rps K F (ds.take n) (vs.take n)
 |_,_,0,_=>rfl
 | [],_,_+1,h=>by cases h;rfl
 |_::_,_,n+1,⟨v,r,e,h,t⟩=>by subst e;exact⟨v,_,rfl,h,Rps.take n t⟩
theorem Rps.drop:∀ {ds:List D} {vs:List V} (n:Nat),Rps K F ds vs->Rps K F (ds.drop n) (vs.drop n)
 |_,_,0,r=>r
 | [],_,_+1,h=>by cases h;rfl
 |_::_,_,n+1,⟨v,r,e,h,t⟩=>by subst e;exact Rps.drop n t
theorem Rps.set {d:D}{v:V}(hd:Rp K F d v):∀ {ds:List D} {vs:List V} (n:Nat),Rps K F ds vs->Rps K F (ds.set n d) (vs.set n v)
 | [],_,_,h=>by cases h;rfl
 |_::_,_,0,⟨w,r,e,h,t⟩=>by subst e;exact⟨v,r,rfl,hd,t⟩
 |_::_,_,n+1,⟨w,r,e,h,t⟩=>by subst e;exact⟨w,_,rfl,h,Rps.set hd n t⟩
theorem Rps.snoc {ds:List D}{vs:List V}{d:D}{v:V}(r:Rps K F ds vs)(h:Rp K F d v):Rps K F (ds++[d]) (vs++[v]):=r.append ⟨v,[],rfl,h,rfl⟩
theorem Rps.ints:∀(ns:List Int),Rps K F (ns.map D.int) (ns.map V.int)
 | []=>rfl
 |_::ns=>⟨_,_,rfl,rfl,Rps.ints ns⟩
theorem zX {a:Addr}{o:HO}(n:H a=none):Same H (upd H a o):=λb u e=>by rw[zd (zG e n)];exact e
theorem KD {a:Addr}{o:HO}(s:Same F H)(n:H a=none):Same F (upd H a o):=s.trans (zX n)
structure Ext (F H F' H':Hp):Prop where
 ff:Same F F'
 hh:Same H H'
 fh:Same F' H'
 nw:∀a,F' a≠none->F a≠none∨H a=none
theorem Ext.refl (s:Same F H):Ext F H F H:=⟨Same.refl _,Same.refl _,s,λ_ h=>.inl h⟩
theorem Ext.trans {F1 H1 F2 H2:Hp}(x:Ext F H F1 H1)(y:Ext F1 H1 F2 H2):Ext F H F2 H2 :=
 ⟨x.ff.trans y.ff,x.hh.trans y.hh,y.fh,λa h=>(y.nw a h).elim (x.nw a) λz=>.inr (x.hh.free z)⟩
theorem Ext.new {a:Addr}{o:HO}(s:Same F H)(n:H a=none):Ext F H F (upd H a o):=⟨Same.refl _,zX n,KD s n,λ_ h=>.inl h⟩
theorem Ext.newF {a:Addr}{o:HO}(s:Same F H)(n:H a=none):Ext F H (upd F a o) (upd H a o):=by
 refine⟨zX (s.free n),zX n,λb u e=>?_,λb h=>?_⟩
 ·by_cases hb:b=a
  ·subst hb;rw[zi] at e ⊢;exact e
  ·rw[zd hb] at e ⊢;exact s b u e
 ·by_cases hb:b=a
  ·subst hb;exact .inr n
  ·rw[zd hb] at h;exact .inl h
theorem Ext.freeze {a:Addr}{o:HO}(x:Ext F H F' H')(n:H a=none)(n':F' a=none)(e:H' a=some o):Ext F H (upd F' a o) H':=by
 refine⟨x.ff.trans (zX n'),x.hh,λb u q=>?_,λb h=>?_⟩
 ·by_cases hb:b=a
  ·subst hb;rw[zi] at q;cases q;exact e
  ·rw[zd hb] at q;exact x.fh b u q
 ·by_cases hb:b=a
  ·subst hb;exact .inr n
  ·rw[zd hb] at h;exact x.nw b h
def Rq (K:KW)(F H:Hp)(d:D)(v:V):Prop:=Rp K F d v∨∃a vs ds,d=.lst ds/\v=.ref a/\H a=some (.lst vs)/\Rps K F ds vs
theorem Rq.mono (f:Same F F')(h:Same H H'){d:D}{v:V}(r:Rq K F H d v):Rq K F' H' d v:=by
 rcases r with r | ⟨a,vs,ds,e1,e2,e3,e4⟩
 ·exact .inl (r.mono f)
 ·exact .inr ⟨a,vs,ds,e1,e2,h _ _ e3,e4.mono f⟩
theorem Rq.lst (s:Same F H){ds:List D}{v:V}(r:Rq K F H (.lst ds) v):∃a vs,v=.ref a/\H a=some (.lst vs)/\Rps K F ds vs:=by
 rcases r with⟨a,vs,e,q,r⟩ | ⟨a,vs,ds',e1,e2,e3,e4⟩
 ·exact⟨a,vs,e,s _ _ q,r⟩
 ·cases e1;exact⟨a,vs,e2,e3,e4⟩
theorem Rq.one {d:D}{v:V}(r:Rq K F H d v)(h:∀ds,d≠.lst ds):Rp K F d v:=by
 rcases r with r | ⟨a,vs,ds,e1,_⟩
 ·exact r
 ·exact (h ds e1).elim
theorem Rq.int {i:Int}{v:V}(r:Rq K F H (.int i) v):v=.int i:=r.one λ_ h=>by cases h
theorem Rq.bl {i:Bool}{v:V}(r:Rq K F H (.bl i) v):v=.bl i:=r.one λ_ h=>by cases h
theorem Rq.str {i:Str}{v:V}(r:Rq K F H (.str i) v):v=.str i:=r.one λ_ h=>by cases h
theorem Rq.non {v:V}(r:Rq K F H .non v):v=.non:=r.one λ_ h=>by cases h
theorem Rq.tup (s:Same F H){ds:List D}{v:V}(r:Rq K F H (.tup ds) v):∃a vs,v=.ref a/\H a=some (.tup vs)/\Rps K F ds vs:=by
 obtain⟨a,vs,e,q,r⟩:=r.one λ_ h=>by cases h
 exact⟨a,vs,e,s _ _ q,r⟩
theorem Rq.scr (s:Same F H){ns:List Int}{v:V}(r:Rq K F H (.scr ns) v):∃a,v=.ref a/\SqL K H a (ns.map V.int):=by
 obtain⟨a,e,q⟩:=r.one λ_ h=>by cases h
 exact⟨a,e,s.seq q⟩
end
inductive OT where
 |frz (d:D) | lst (ts:List OT) | tup (ts:List OT)
mutual
def RepO (K:KW)(F H:Hp):OT->V->Prop
 |.frz d,v=>Rp K F d v
 |.lst ts,v=>∃a vs,v=.ref a/\H a=some (.lst vs)/\RepOs K F H ts vs
 |.tup ts,v=>∃a vs,v=.ref a/\H a=some (.tup vs)/\RepOs K F H ts vs
def RepOs (K:KW)(F H:Hp):List OT->List V->Prop
 | [],vs=>vs=[]
 |t::ts,vs=>∃v r,vs=v::r/\RepO K F H t v/\RepOs K F H ts r
end
def itemsH (H:Hp)(a:Addr):List V:=match H a with
 |some (.lst vs)=>vs
 |some (.tup vs)=>vs
 |_=>[]
mutual
def feetO (H:Hp):OT->V->List Addr
 |.frz _,_=>[]
 |.lst ts,v=>match v with
  |.ref a=>a::feetOs H ts (itemsH H a)
  |_=>[]
 |.tup ts,v=>match v with
  |.ref a=>a::feetOs H ts (itemsH H a)
  |_=>[]
def feetOs (H:Hp):List OT->List V->List Addr
 | [],_=>[]
 |t::ts,vs=>match vs with
  |v::r=>feetO H t v++feetOs H ts r
  | []=>[]
end
mutual
def OT.erase:OT->D
 |.frz d=>d
 |.lst ts=>.lst (erases ts)
 |.tup ts=>.tup (erases ts)
def erases:List OT->List D
 | []=>[]
 |t::ts=>t.erase::erases ts
end
theorem yR {H:Hp}{a:Addr}{vs:List V}(h:H a=some (.lst vs)):itemsH H a=vs:=by unfold itemsH;rw[h]
theorem yT {H:Hp}{a:Addr}{vs:List V}(h:H a=some (.tup vs)):itemsH H a=vs:=by unfold itemsH;rw[h]
section
variable {K:KW}{F F' H H':Hp}
mutual
theorem RepO.ext (f:Same F F')(h:Same H H'):∀ {t:OT} {v:V},RepO K F H t v->RepO K F' H' t v/\feetO H' t v=feetO H t v
 |.frz _,_,r=>⟨Rp.mono f r,rfl⟩
 |.lst ts,_,⟨a,vs,e,q,r⟩=>by
  subst e
  obtain⟨r1,r2⟩:=RepOs.ext f h r
  exact⟨⟨a,vs,rfl,h _ _ q,r1⟩,by simp only[feetO,yR q,yR (h _ _ q),r2]⟩
 |.tup ts,_,⟨a,vs,e,q,r⟩=>by
  subst e
  obtain⟨r1,r2⟩:=RepOs.ext f h r
  exact⟨⟨a,vs,rfl,h _ _ q,r1⟩,by simp only[feetO,yT q,yT (h _ _ q),r2]⟩
theorem RepOs.ext (f:Same F F')(h:Same H H'):∀ {ts:List OT} {vs:List V},RepOs K F H ts vs->RepOs K F' H' ts vs/\feetOs H' ts vs=feetOs H ts vs
 | [],_,r=>⟨r,rfl⟩
 |t::ts,_,⟨v,r,e,h1,h2⟩=>by
  subst e
  obtain⟨a1,a2⟩:=RepO.ext f h h1
  obtain⟨b1,b2⟩:=RepOs.ext f h h2
  exact⟨⟨v,r,rfl,a1,b1⟩,by simp only[feetOs,a2,b2]⟩
end
mutual
theorem RepO.other {a:Addr}{o:HO}:∀ {t:OT} {v:V},RepO K F H t v->a∉feetO H t v->RepO K F (upd H a o) t v/\feetO (upd H a o) t v=feetO H t v
 |.frz _,_,r,_=>⟨r,rfl⟩
 |.lst ts,_,⟨b,vs,e,q,r⟩,hn=>by
  subst e
  simp only[feetO,yR q,List.mem_cons,not_or] at hn
  obtain⟨r1,r2⟩:=RepOs.other (o:=o) r hn.2
  have q':upd H a o b=some (.lst vs):=by rw[zd (Ne.symm hn.1)];exact q
  exact⟨⟨b,vs,rfl,q',r1⟩,by simp only[feetO,yR q,yR q',r2]⟩
 |.tup ts,_,⟨b,vs,e,q,r⟩,hn=>by
  subst e
  simp only[feetO,yT q,List.mem_cons,not_or] at hn
  obtain⟨r1,r2⟩:=RepOs.other (o:=o) r hn.2
  have q':upd H a o b=some (.tup vs):=by rw[zd (Ne.symm hn.1)];exact q
  exact⟨⟨b,vs,rfl,q',r1⟩,by simp only[feetO,yT q,yT q',r2]⟩
theorem RepOs.other {a:Addr}{o:HO}:∀ {ts:List OT} {vs:List V},RepOs K F H ts vs->a∉feetOs H ts vs->RepOs K F (upd H a o) ts vs/\feetOs (upd H a o) ts vs=feetOs H ts vs
 | [],_,r,_=>⟨r,rfl⟩
 |t::ts,_,⟨v,r,e,h1,h2⟩,hn=>by
  subst e
  simp only[feetOs,List.mem_append,not_or] at hn
  obtain⟨a1,a2⟩:=RepO.other (o:=o) h1 hn.1
  obtain⟨b1,b2⟩:=RepOs.other (o:=o) h2 hn.2
  exact⟨⟨v,r,rfl,a1,b1⟩,by simp only[feetOs,a2,b2]⟩
end
mutual
theorem RepO.feet {a:Addr}:∀ {t:OT} {v:V},RepO K F H t v->a∈feetO H t v->H a≠none
 |.frz _,_,_,h=>by simp[feetO] at h
 |.lst ts,_,⟨b,vs,e,q,r⟩,h=>by
  subst e
  simp only[feetO,yR q,List.mem_cons] at h
  rcases h with rfl | h
  ·rw[q];simp
  ·exact RepOs.feet r h
 |.tup ts,_,⟨b,vs,e,q,r⟩,h=>by
  subst e
  simp only[feetO,yT q,List.mem_cons] at h
  rcases h with rfl | h
  ·rw[q];simp
  ·exact RepOs.feet r h
theorem RepOs.feet {a:Addr}:∀ {ts:List OT} {vs:List V},RepOs K F H ts vs->a∈feetOs H ts vs->H a≠none
 | [],_,_,h=>by simp[feetOs] at h
 |t::ts,_,⟨v,r,e,h1,h2⟩,h=>by
  subst e
  simp only[feetOs,List.mem_append] at h
  rcases h with h | h
  ·exact RepO.feet h1 h
  ·exact RepOs.feet h2 h
end
mutual
theorem RepO.feet_no {a:Addr}:∀ {t:OT} {v:V},RepO K F H t v->a∈feetO H t v->∀z,H a≠some (.own z)
 |.frz _,_,_,h,_=>by simp[feetO] at h
 |.lst ts,_,⟨b,vs,e,q,r⟩,h,z=>by
  subst e
  simp only[feetO,yR q,List.mem_cons] at h
  rcases h with rfl | h
  ·rw[q];intro w;cases w
  ·exact RepOs.feet_no r h z
 |.tup ts,_,⟨b,vs,e,q,r⟩,h,z=>by
  subst e
  simp only[feetO,yT q,List.mem_cons] at h
  rcases h with rfl | h
  ·rw[q];intro w;cases w
  ·exact RepOs.feet_no r h z
theorem RepOs.feet_no {a:Addr}:∀ {ts:List OT} {vs:List V},RepOs K F H ts vs->a∈feetOs H ts vs->∀z,H a≠some (.own z)
 | [],_,_,h,_=>by simp[feetOs] at h
 |t::ts,_,⟨v,r,e,h1,h2⟩,h,z=>by
  subst e
  simp only[feetOs,List.mem_append] at h
  rcases h with h | h
  ·exact RepO.feet_no h1 h z
  ·exact RepOs.feet_no h2 h z
end
def addF (F H:Hp)(as:List Addr):Hp:=λb=>if b∈as then H b else F b
mutual
theorem RepO.fz {as:List Addr}(f:Same F (addF F H as)):∀ {t:OT} {v:V},RepO K F H t v->(∀a∈feetO H t v,a∈as)->Rp K (addF F H as) t.erase v
 |.frz _,_,r,_=>Rp.mono f r
 |.lst ts,_,⟨b,vs,e,q,r⟩,h=>by
  subst e
  simp only[feetO,yR q] at h
  exact⟨b,vs,rfl,by unfold addF;rw[if_pos (h b (by simp))];exact q,RepOs.fz f r λa ha=>h a (by simp[ha])⟩
 |.tup ts,_,⟨b,vs,e,q,r⟩,h=>by
  subst e
  simp only[feetO,yT q] at h
  exact⟨b,vs,rfl,by unfold addF;rw[if_pos (h b (by simp))];exact q,RepOs.fz f r λa ha=>h a (by simp[ha])⟩
theorem RepOs.fz {as:List Addr}(f:Same F (addF F H as)):∀ {ts:List OT} {vs:List V},RepOs K F H ts vs->(∀a∈feetOs H ts vs,a∈as)->Rps K (addF F H as) (erases ts) vs
 | [],_,r,_=>r
 |t::ts,_,⟨v,r,e,h1,h2⟩,h=>by
  subst e
  simp only[feetOs] at h
  exact⟨v,r,rfl,RepO.fz f h1 λa ha=>h a (by simp[ha]),RepOs.fz f h2 λa ha=>h a (by simp[ha])⟩
end
theorem wL {as:List Addr}(h:∀a∈as,F a=none):Same F (addF F H as):=λb u e=>by
 unfold addF
 rw[if_neg λz=>by rw[h b z] at e;cases e]
 exact e
end
inductive MT where
 |lf (d:D) | lst (ts:List MT) | tup (ts:List MT) | dct (ks:List Key) (ts:List MT) | obj (C:Addr) (fs:List Str) (ts:List MT)
mutual
def RepM (K:KW)(F H:Hp):MT->V->Prop
 |.lf d,v=>Rp K F d v
 |.lst ts,v=>∃a vs,v=.ref a/\H a=some (.lst vs)/\RepMs K F H ts vs
 |.tup ts,v=>∃a vs,v=.ref a/\H a=some (.tup vs)/\RepMs K F H ts vs
 |.dct ks ts,v=>∃a ob vs,v=.ref a/\H a=some (DX K.w a ob (ks.zip vs))/\ks.length=vs.length/\RepMs K F H ts vs
 |.obj C fs ts,v=>∃a dx vs,v=.ref a/\H a=some (.ins C dx (fs.zip vs))/\fs.length=vs.length/\H dx=some (.own a)/\fs≠[]/\RepMs K F H ts vs
def RepMs (K:KW)(F H:Hp):List MT->List V->Prop
 | [],vs=>vs=[]
 |t::ts,vs=>∃v r,vs=v::r/\RepM K F H t v/\RepMs K F H ts r
end
section
variable {K:KW}{F F' H H':Hp}
mutual
theorem RepM.ext (f:Same F F')(h:Same H H'):∀ {t:MT} {v:V},RepM K F H t v->RepM K F' H' t v
 |.lf _,_,r=>Rp.mono f r
 |.lst _,_,⟨a,vs,e,q,r⟩=>⟨a,vs,e,h _ _ q,RepMs.ext f h r⟩
 |.tup _,_,⟨a,vs,e,q,r⟩=>⟨a,vs,e,h _ _ q,RepMs.ext f h r⟩
 |.dct _ _,_,⟨a,ob,vs,e,q,l,r⟩=>⟨a,ob,vs,e,h _ _ q,l,RepMs.ext f h r⟩
 |.obj _ _ _,_,⟨a,dx,vs,e,q,l,o,n,r⟩=>⟨a,dx,vs,e,h _ _ q,l,h _ _ o,n,RepMs.ext f h r⟩
theorem RepMs.ext (f:Same F F')(h:Same H H'):∀ {ts:List MT} {vs:List V},RepMs K F H ts vs->RepMs K F' H' ts vs
 | [],_,r=>r
 |_::_,_,⟨v,w,e,r,q⟩=>⟨v,w,e,RepM.ext f h r,RepMs.ext f h q⟩
end
mutual
def OT.toM:OT->MT
 |.frz d=>.lf d
 |.lst ts=>.lst (toMs ts)
 |.tup ts=>.tup (toMs ts)
def toMs:List OT->List MT
 | []=>[]
 |t::ts=>t.toM::toMs ts
end
end
def Rkv (K:KW)(F:Hp)(kvs:List (Key×D))(vs:List (Key×V)):Prop:=Paired (λp q=>p.1=q.1/\Rp K F p.2 q.2) kvs vs
theorem Rkv.mono {K:KW}{F F':Hp}(s:Same F F'){kvs:List (Key×D)}{vs:List (Key×V)}(r:Rkv K F kvs vs):Rkv K F' kvs vs:=Paired.mapP r λ_ _ h=>⟨h.1,h.2.mono s⟩
inductive Lo where
 |lst (ds:List D) | tbl (pos:Pos) (q:Str)
  |fn (q:Str) (Φ:Value->Obj->Prop)
def TblOk (F:Hp)(pos:Pos)(q:Str)(ps:Array Value):Prop:=ps=#[]∨∃c oc vs t,ps=#[rawInt pos.line,rawInt pos.col,.ref c]/\F c=some (exAt c oc)/\oc.data=.fields vs/\vs[1]?=some (.str q t)
theorem TblOk.mono {F F':Hp}(f:Same F F'){pos:Pos}{q:Str}{ps:Array Value}(h:TblOk F pos q ps):TblOk F' pos q ps:=h.imp id fun⟨c,oc,vs,t,h1,h2,h3⟩=>⟨c,oc,vs,t,h1,f _ _ h2,h3⟩
def RL (K:KW)(F H:Hp)(a:Addr):Lo->Prop
 |.lst ds=>∃vs,H a=some (.lst vs)/\Rps K F ds vs
 |.tbl pos q=>∃ps,H a=some (.tbl ps)/\TblOk F pos q ps
 |.fn q Φ=>∃o c oc vs t,H a=some (exAt a o)/\Φ (.ref c) o/\F c=some (exAt c oc)/\oc.data=.fields vs/\vs[1]?=some (.str q t)
theorem RL.mono {K:KW}{F F' H H':Hp}{a:Addr}(f:Same F F')(h:∀o,H a=some o->H' a=some o):∀ {z:Lo},RL K F H a z->RL K F' H' a z
 |.lst _,⟨vs,e,r⟩=>⟨vs,h _ e,r.mono f⟩
 |.tbl _ _,⟨ps,e,r⟩=>⟨ps,h _ e,r.mono f⟩
 |.fn _ _,⟨o,c,oc,vs,t,e,h1,h2,h3⟩=>⟨o,c,oc,vs,t,h _ e,h1,f _ _ h2,h3⟩
theorem RL.at {K:KW}{F H:Hp}{a:Addr}:∀ {z:Lo},RL K F H a z->H a≠none
 |.lst _,⟨vs,e,_⟩=>by rw[e];simp
 |.tbl _ _,⟨ps,e,_⟩=>by rw[e];simp
 |.fn _ _,⟨o,c,oc,vs,t,e,_⟩=>by rw[e];simp
theorem RL.no {K:KW}{F H:Hp}{a:Addr}(x:Addr):∀ {z:Lo},RL K F H a z->H a≠some (.own x)
 |.lst _,⟨vs,e,_⟩=>by rw[e];intro q;cases q
 |.tbl _ _,⟨ps,e,_⟩=>by rw[e];intro q;cases q
 |.fn _ _,⟨o,c,oc,vs,t,e,_⟩=>by rw[e];intro q;cases q
inductive En where
 |val (d:D) | acc (ds:List D) | bor (ds:List D) | oac (a dx C:Addr) (fs:List Str) (ds:List D) | tre (t:OT)
  |dct (oa:Option Addr) (kvs:List (Key×D)) | dbo (kvs:List (Key×D))
  |exn (a:Addr)
  |obw (C:Addr) (fs:List Str) (ds:List D)
  |mbo (t:MT)
  |loc (oa:Option Addr) (z:Lo)
abbrev EnvD:=List (Option En)
structure Bs where
 F0:Hp
 H0:Hp
def RepE (K:KW)(B:Bs)(F H:Hp):En->V->Prop
 |.val d,v=>Rp K F d v
 |.acc ds,v=>∃a vs,v=.ref a/\H a=some (.lst vs)/\F a=none/\B.H0 a=none/\Rps K F ds vs
 |.bor ds,v=>∃a vs,v=.ref a/\B.H0 a=some (.lst vs)/\Rps K F ds vs
 |.oac a dx C fs ds,v=>∃vs,v=.ref a/\H a=some (.ins C dx (fs.zip vs))/\fs.length=vs.length/\F a=none/\B.H0 a=none/\Rps K F ds vs/\H dx=some (.own a)/\F dx=none/\B.H0 dx=none
 |.tre t,v=>RepO K F H t v/\(feetO H t v).Nodup/\∀a∈feetO H t v,F a=none/\B.H0 a=none
 |.dct oa kvs,v=>∃a ob vs,v=.ref a/\H a=some (DX K.w a ob vs)/\F a=none/\B.H0 a=none/\Rkv K F kvs vs/\∀b,oa=some b->b=a
 |.dbo kvs,v=>∃a ob vs,v=.ref a/\B.H0 a=some (DX K.w a ob vs)/\Rkv K F kvs vs
 |.exn a,v=>v=.ref a
 |.obw C fs ds,v=>∃a dx vs,v=.ref a/\H a=some (.ins C dx (fs.zip vs))/\fs.length=vs.length/\F a=none/\B.H0 a=none/\Rps K F ds vs/\H dx=some (.own a)/\F dx=none/\B.H0 dx=none
 |.mbo t,v=>RepM K F B.H0 t v
 |.loc oa z,v=>∃a,v=.ref a/\F a=none/\B.H0 a=none/\RL K F H a z/\∀b,oa=some b->b=a
def En.own:En->Bool
 |.acc _=>true
 |.dct _ _=>true
 |.oac _ _ _ _ _=>true
 |.obw _ _ _=>true
 |.loc _ _=>true
 |_=>false
def feetE (H:Hp):En->V->List Addr
 |.acc _,v=>match v with
  |.ref a=>[a]
  |_=>[]
 |.oac _ _ _ _ _,v=>match v with
  |.ref a=>[a]
  |_=>[]
 |.tre t,v=>feetO H t v
 |.obw _ _ _,v=>match v with
  |.ref a=>[a]
  |_=>[]
 |.dct _ _,v=>match v with
  |.ref a=>[a]
  |_=>[]
 |.loc _ _,v=>match v with
  |.ref a=>[a]
  |_=>[]
 |_,_=>[]
theorem qE {H:Hp}{x:En}{a:Addr}(o:x.own=true):feetE H x (.ref a)=[a]:=by cases x<;>first | rfl | cases o
structure Rep (K:KW)(B:Bs)(F:Hp)(σ:St)(H:Hp)(ρ:EnvD):Prop where
 ex:Ext B.F0 B.H0 F H
 len:σ.length=ρ.length
 ents:∀(i:Nat) x,ρ[i]?=some (some x)->∃v,σ[i]?=some (some v)/\RepE K B F H x v
 dj:∀(i j:Nat) x y v w,ρ[i]?=some (some x)->ρ[j]?=some (some y)->σ[i]?=some (some v)->σ[j]?=some (some w)->i≠j->∀a∈feetE H x v,a∉feetE H y w
section
variable {K:KW}{B:Bs}{F F' H H':Hp}{σ:St}{ρ:EnvD}
theorem yo {a:Addr}(e:Ext F H F' H')(h:F a=none)(hh:H a≠none):F' a=none:=by
 cases q:F' a with
 |none=>rfl
 |some o=>exact ((e.nw a (by rw[q];simp)).elim (λz=>(z h).elim) λz=>(hh z).elim)
theorem RepE.ext {x:En}{v:V}(r:RepE K B F H x v)(e:Ext F H F' H'):RepE K B F' H' x v:=by
 cases x with
 |val d=>exact Rp.mono e.ff r
 |acc ds=>
  obtain⟨a,vs,e1,e2,e3,e4,e5⟩:=r
  exact⟨a,vs,e1,e.hh _ _ e2,yo e e3 (by rw[e2];simp),e4,e5.mono e.ff⟩
 |bor ds=>
  obtain⟨a,vs,e1,e2,e5⟩:=r
  exact⟨a,vs,e1,e2,e5.mono e.ff⟩
 |oac a dx C fs ds=>
  obtain⟨vs,e1,e2,el,e3,e4,e5,d1,d2,d3⟩:=r
  exact⟨vs,e1,e.hh _ _ e2,el,yo e e3 (by rw[e2];simp),e4,e5.mono e.ff,e.hh _ _ d1,yo e d2 (by rw[d1];simp),d3⟩
 |tre t=>
  obtain⟨r1,r2,r3⟩:=r
  obtain⟨s1,s2⟩:=RepO.ext e.ff e.hh r1
  refine⟨s1,by rw[s2];exact r2,λa ha=>?_⟩
  rw[s2] at ha
  exact⟨yo e (r3 a ha).1 (RepO.feet r1 ha),(r3 a ha).2⟩
 |dct oa kvs=>
  obtain⟨a,ob,vs,e1,e2,e3,e4,e5,e6⟩:=r
  exact⟨a,ob,vs,e1,e.hh _ _ e2,yo e e3 (by rw[e2];simp),e4,e5.mono e.ff,e6⟩
 |dbo kvs=>
  obtain⟨a,ob,vs,e1,e2,e5⟩:=r
  exact⟨a,ob,vs,e1,e2,e5.mono e.ff⟩
 |exn a=>exact r
 |mbo t=>exact RepM.ext e.ff (Same.refl _) r
 |loc oa z=>
  obtain⟨a,e1,e2,e3,e4,e5⟩:=r
  exact⟨a,e1,yo e e2 e4.at,e3,e4.mono e.ff (λo q=>e.hh _ _ q),e5⟩
 |obw C fs ds=>
  obtain⟨a,dx,vs,e1,e2,el,e3,e4,e5,d1,d2,d3⟩:=r
  exact⟨a,dx,vs,e1,e.hh _ _ e2,el,yo e e3 (by rw[e2];simp),e4,e5.mono e.ff,e.hh _ _ d1,yo e d2 (by rw[d1];simp),d3⟩
theorem RepE.feet_ext {x:En}{v:V}(r:RepE K B F H x v)(e:Same H H'):feetE H' x v=feetE H x v:=by
 cases x with
 |tre t=>exact (RepO.ext (Same.refl F) e r.1).2
 |_=>rfl
theorem RepE.feet_at {x:En}{v:V}{a:Addr}(r:RepE K B F H x v)(h:a∈feetE H x v):H a≠none/\F a=none/\B.H0 a=none:=by
 cases x with
 |val d=>cases h
 |bor ds=>cases h
 |acc ds=>
  obtain⟨b,vs,rfl,e2,e3,e4,e5⟩:=r
  simp only[feetE,List.mem_singleton] at h
  subst h
  exact⟨by rw[e2];simp,e3,e4⟩
 |oac b dx C fs ds=>
  obtain⟨vs,rfl,e2,el,e3,e4,e5⟩:=r
  simp only[feetE,List.mem_singleton] at h
  subst h
  exact⟨by rw[e2];simp,e3,e4⟩
 |tre t=>exact⟨RepO.feet r.1 h,r.2.2 a h⟩
 |dct oa kvs=>
  obtain⟨b,ob,vs,rfl,e2,e3,e4,e5⟩:=r
  simp only[feetE,List.mem_singleton] at h
  subst h
  exact⟨by rw[e2];simp,e3,e4⟩
 |dbo kvs=>cases h
 |exn a=>cases h
 |mbo t=>cases h
 |loc oa z=>
  obtain⟨b,rfl,e2,e3,e4,_⟩:=r
  simp only[feetE,List.mem_singleton] at h
  subst h
  exact⟨e4.at,e2,e3⟩
 |obw C fs ds=>
  obtain⟨b,dx,vs,rfl,e2,el,e3,e4,e5⟩:=r
  simp only[feetE,List.mem_singleton] at h
  subst h
  exact⟨by rw[e2];simp,e3,e4⟩
theorem RepE.feet_no {x:En}{v:V}{a:Addr}(r:RepE K B F H x v)(h:a∈feetE H x v)(z:Addr):H a≠some (.own z):=by
 cases x with
 |val d=>cases h
 |bor ds=>cases h
 |acc ds=>
  obtain⟨b,vs,rfl,e2,_⟩:=r
  simp only[feetE,List.mem_singleton] at h
  subst h
  rw[e2];intro q;cases q
 |oac b dx C fs ds=>
  obtain⟨vs,rfl,e2,_⟩:=r
  simp only[feetE,List.mem_singleton] at h
  subst h
  rw[e2];intro q;cases q
 |tre t=>exact RepO.feet_no r.1 h z
 |dct oa kvs=>
  obtain⟨b,ob,vs,rfl,e2,_⟩:=r
  simp only[feetE,List.mem_singleton] at h
  subst h
  rw[e2];intro q;cases q
 |dbo kvs=>cases h
 |exn a=>cases h
 |mbo t=>cases h
 |loc oa y=>
  obtain⟨b,rfl,_,_,e4,_⟩:=r
  simp only[feetE,List.mem_singleton] at h
  subst h
  exact e4.no z
 |obw C fs ds=>
  obtain⟨b,dx,vs,rfl,e2,_⟩:=r
  simp only[feetE,List.mem_singleton] at h
  subst h
  rw[e2];intro q;cases q
theorem Rep.ext (r:Rep K B F σ H ρ)(e:Ext F H F' H'):Rep K B F' σ H' ρ:=by
 refine⟨r.ex.trans e,r.len,λi x h=>let ⟨v,h1,h2⟩:=r.ents i x h;⟨v,h1,h2.ext e⟩,λi j x y v w e1 e2 s1 s2 hne a ha hb=>?_⟩
 obtain⟨v',q1,p1⟩:=r.ents i x e1
 rw[s1] at q1;cases q1
 obtain⟨w',q2,p2⟩:=r.ents j y e2
 rw[s2] at q2;cases q2
 rw[p1.feet_ext e.hh] at ha
 rw[p2.feet_ext e.hh] at hb
 exact r.dj i j x y v w e1 e2 s1 s2 hne a ha hb
theorem Rep.fh (r:Rep K B F σ H ρ):Same F H:=r.ex.fh
theorem zZ {α:Type}{l:List α}{i j:Nat}{x y:α}(h:(l.set i x)[j]?=some y):(j=i/\x=y/\i < l.length)∨(j≠i/\l[j]?=some y):=by
 by_cases hj:j=i
 ·subst hj
  have hl:j < l.length:=by
   have:=(List.getElem?_eq_some_iff.mp h).1
   simpa using this
  rw[List.getElem?_set_self hl] at h
  cases h
  exact .inl ⟨rfl,rfl,hl⟩
 ·rw[List.getElem?_set_ne (Ne.symm hj)] at h
  exact .inr ⟨hj,h⟩
theorem Rep.seto (r:Rep K B F σ H ρ){i:Nat}{x:En}{v:V}(h:RepE K B F H x v)(hn:∀(j:Nat) y w,ρ[j]?=some (some y)->σ[j]?=some (some w)->j≠i->∀a∈feetE H x v,a∉feetE H y w):Rep K B F (σ.set i (some v)) H (ρ.set i (some x)):=by
 refine⟨r.ex,by simp[r.len],λj y e=>?_,λj k y z u w e1 e2 s1 s2 hne a ha hb=>?_⟩
 ·rcases zZ e with⟨rfl,q,hl⟩ | ⟨hj,e⟩
  ·cases q
   exact⟨v,List.getElem?_set_self (by rw[r.len];exact hl),h⟩
  ·obtain⟨w,h1,h2⟩:=r.ents j y e
   exact⟨w,by rw[List.getElem?_set_ne (Ne.symm hj)];exact h1,h2⟩
 ·rcases zZ e1 with⟨rfl,q1,_⟩ | ⟨hj,f1⟩<;>rcases zZ e2 with⟨rfl,q2,_⟩ | ⟨hk,f2⟩
  ·exact hne rfl
  ·cases q1
   rcases zZ s1 with⟨_,p1,_⟩ | ⟨z,_⟩
   ·cases p1
    rw[List.getElem?_set_ne (Ne.symm hk)] at s2
    exact hn k z w f2 s2 hk a ha hb
   ·exact (z rfl).elim
  ·cases q2
   rcases zZ s2 with⟨_,p2,_⟩ | ⟨z,_⟩
   ·cases p2
    rw[List.getElem?_set_ne (Ne.symm hj)] at s1
    exact hn j y u f1 s1 hj a hb ha
   ·exact (z rfl).elim
  ·rw[List.getElem?_set_ne (Ne.symm hj)] at s1
   rw[List.getElem?_set_ne (Ne.symm hk)] at s2
   exact r.dj j k y z u w f1 f2 s1 s2 hne a ha hb
theorem Rep.setv (r:Rep K B F σ H ρ){i:Nat}{d:D}{v:V}(h:Rp K F d v):Rep K B F (σ.set i (some v)) H (ρ.set i (some (.val d))) :=
 r.seto (x:=.val d) h λ_ _ _ _ _ _ a ha=>by cases ha
theorem RepE.other {x:En}{v:V}{a:Addr}{o:HO}(r:RepE K B F H x v)(hn:a∉feetE H x v)(h0:B.H0 a=none)(hw:∀z,H a≠some (.own z)):RepE K B F (upd H a o) x v/\feetE (upd H a o) x v=feetE H x v:=by
 cases x with
 |val d=>exact⟨r,rfl⟩
 |bor ds=>exact⟨r,rfl⟩
 |acc ds=>
  obtain⟨b,vs,rfl,q2,q3,q4,q5⟩:=r
  have hb:b≠a:=λz=>hn (by simp[feetE,z])
  exact⟨⟨b,vs,rfl,by rw[zd hb];exact q2,q3,q4,q5⟩,rfl⟩
 |oac b dx C fs ds=>
  obtain⟨vs,rfl,q2,ql,q3,q4,q5,d1,d2,d3⟩:=r
  have hb:b≠a:=λz=>hn (by simp[feetE,z])
  have hd:dx≠a:=λz=>hw b (by rw[<-z];exact d1)
  exact⟨⟨vs,rfl,by rw[zd hb];exact q2,ql,q3,q4,q5,by rw[zd hd];exact d1,d2,d3⟩,rfl⟩
 |tre t=>
  obtain⟨r1,r2,r3⟩:=r
  obtain⟨s1,s2⟩:=RepO.other (o:=o) r1 hn
  exact⟨⟨s1,by rw[s2];exact r2,λb hb=>r3 b (by rw[s2] at hb;exact hb)⟩,s2⟩
 |dct oa kvs=>
  obtain⟨b,ob,vs,rfl,q2,q3,q4,q5⟩:=r
  have hb:b≠a:=λz=>hn (by simp[feetE,z])
  exact⟨⟨b,ob,vs,rfl,by rw[zd hb];exact q2,q3,q4,q5⟩,rfl⟩
 |dbo kvs=>exact⟨r,rfl⟩
 |exn a=>exact⟨r,rfl⟩
 |mbo t=>exact⟨r,rfl⟩
 |loc oa y=>
  obtain⟨b,rfl,q2,q3,q4,q5⟩:=r
  have hb:b≠a:=λz=>hn (by simp[feetE,z])
  exact⟨⟨b,rfl,q2,q3,q4.mono (Same.refl _) (λu e=>by rw[zd hb];exact e),q5⟩,rfl⟩
 |obw C fs ds=>
  obtain⟨b,dx,vs,rfl,q2,ql,q3,q4,q5,d1,d2,d3⟩:=r
  have hb:b≠a:=λz=>hn (by simp[feetE,z])
  have hd:dx≠a:=λz=>hw b (by rw[<-z];exact d1)
  exact⟨⟨b,dx,vs,rfl,by rw[zd hb];exact q2,ql,q3,q4,q5,by rw[zd hd];exact d1,d2,d3⟩,rfl⟩
theorem Rep.writeG (r:Rep K B F σ H ρ){i:Nat}{x y:En}{v:V}{a:Addr}{o:HO}(hi:ρ[i]?=some (some x))(hs:σ[i]?=some (some v))(ha:a∈feetE H x v)(hy:RepE K B F (upd H a o) y v)(hsub:∀b∈feetE (upd H a o) y v,b∈feetE H x v) :
  Rep K B F σ (upd H a o) (ρ.set i (some y)):=by
 have hl:i < ρ.length:=(List.getElem?_eq_some_iff.mp hi).1
 obtain⟨v',hv',rx⟩:=r.ents i x hi
 rw[hs] at hv';cases hv'
 obtain⟨_,hf,h0⟩:=rx.feet_at ha
 have oth:∀ {j:Nat} {z:En} {w:V},ρ[j]?=some (some z)->σ[j]?=some (some w)->j≠i->RepE K B F (upd H a o) z w/\feetE (upd H a o) z w=feetE H z w:=fun {j z w} e s hj=>by
  obtain⟨w',hw',rz⟩:=r.ents j z e
  rw[s] at hw';cases hw'
  exact rz.other (λhz=>r.dj i j x z v w hi e hs s (Ne.symm hj) a ha hz) h0 (rx.feet_no ha)
 refine⟨⟨r.ex.ff,λb u e=>?_,λb u e=>?_,r.ex.nw⟩,by simp[r.len],λj z e=>?_,λj k z w u t e1 e2 s1 s2 hne b hb hc=>?_⟩
 ·rw[zd (zG e h0)];exact r.ex.hh b u e
 ·rw[zd (zG e hf)];exact r.ex.fh b u e
 ·rcases zZ e with⟨rfl,q,_⟩ | ⟨hj,e⟩
  ·cases q;exact⟨v,hs,hy⟩
  ·obtain⟨w,h1,_⟩:=r.ents j z e
   exact⟨w,h1,(oth e h1 hj).1⟩
 ·rcases zZ e1 with⟨rfl,q1,_⟩ | ⟨hj,f1⟩<;>rcases zZ e2 with⟨rfl,q2,_⟩ | ⟨hk,f2⟩
  ·exact hne rfl
  ·cases q1
   rw[hs] at s1;cases s1
   rw[(oth f2 s2 hk).2] at hc
   exact r.dj _ k x w v t hi f2 hs s2 hne b (hsub b hb) hc
  ·cases q2
   rw[hs] at s2;cases s2
   rw[(oth f1 s1 hj).2] at hb
   exact r.dj j _ z x u v f1 hi s1 hs hne b hb (hsub b hc)
  ·rw[(oth f1 s1 hj).2] at hb
   rw[(oth f2 s2 hk).2] at hc
   exact r.dj j k z w u t f1 f2 s1 s2 hne b hb hc
theorem Rep.write (r:Rep K B F σ H ρ){i:Nat}{x y:En}{a:Addr}{o:HO}(hi:ρ[i]?=some (some x))(ho:x.own=true)(hs:σ[i]?=some (some (.ref a)))(hf:F a=none)(h0:B.H0 a=none)(hy:RepE K B F (upd H a o) y (.ref a))(hyo:y.own=true) :
  Rep K B F σ (upd H a o) (ρ.set i (some y)) :=
 r.writeG hi hs (by rw[qE ho];simp) hy λb hb=>by rw[qE hyo] at hb;rw[qE ho];exact hb
theorem Rep.frzG (r:Rep K B F σ H ρ){i:Nat}{x:En}{v:V}{d:D}(hi:ρ[i]?=some (some x))(hs:σ[i]?=some (some v))(hd:Rp K (addF F H (feetE H x v)) d v):Rep K B (addF F H (feetE H x v)) σ H (ρ.set i (some (.val d))):=by
 obtain⟨v',hv',rx⟩:=r.ents i x hi
 rw[hs] at hv';cases hv'
 have sf:Same F (addF F H (feetE H x v)):=wL λa ha=>(rx.feet_at ha).2.1
 have non:∀ {b:Addr},F b=none->b∉feetE H x v->addF F H (feetE H x v) b=none:=fun {b} h hn=>by unfold addF;rw[if_neg hn];exact h
 refine⟨⟨r.ex.ff.trans sf,r.ex.hh,λb u e=>?_,λb e=>?_⟩,by simp[r.len],λj z e=>?_,λj k z w u t e1 e2 s1 s2 hne b hb hc=>?_⟩
 ·unfold addF at e
  split at e
  ·exact e
  ·exact r.ex.fh b u e
 ·unfold addF at e
  split at e
  ·rename_i hb;exact .inr (rx.feet_at hb).2.2
  ·exact r.ex.nw b e
 ·rcases zZ e with⟨rfl,q,_⟩ | ⟨hj,e⟩
  ·cases q;exact⟨v,hs,hd⟩
  ·obtain⟨w,h1,h2⟩:=r.ents j z e
   refine⟨w,h1,?_⟩
   have hx:∀b∈feetE H z w,b∉feetE H x v:=λb hb hc=>r.dj j i z x w v e hi h1 hs hj b hb hc
   cases z with
   |val d=>exact Rp.mono sf h2
   |bor ds=>obtain⟨b,vs,q1,q2,q3⟩:=h2;exact⟨b,vs,q1,q2,q3.mono sf⟩
   |acc ds=>
    obtain⟨b,vs,rfl,q2,q3,q4,q5⟩:=h2
    exact⟨b,vs,rfl,q2,non q3 (hx b (by simp[feetE])),q4,q5.mono sf⟩
   |oac b dx C fs ds=>
    obtain⟨vs,rfl,q2,ql,q3,q4,q5,d1,d2,d3⟩:=h2
    exact⟨vs,rfl,q2,ql,non q3 (hx b (by simp[feetE])),q4,q5.mono sf,d1,non d2 (λhz=>rx.feet_no hz _ d1),d3⟩
   |tre t=>
    obtain⟨r1,r2,r3⟩:=h2
    exact⟨(RepO.ext sf (Same.refl H) r1).1,r2,λb hb=>⟨non (r3 b hb).1 (hx b hb),(r3 b hb).2⟩⟩
   |dct oa kvs=>
    obtain⟨b,ob,vs,rfl,q2,q3,q4,q5,q6⟩:=h2
    exact⟨b,ob,vs,rfl,q2,non q3 (hx b (by simp[feetE])),q4,q5.mono sf,q6⟩
   |dbo kvs=>obtain⟨b,ob,vs,q1,q2,q3⟩:=h2;exact⟨b,ob,vs,q1,q2,q3.mono sf⟩
   |exn a=>exact h2
   |mbo t=>exact RepM.ext sf (Same.refl _) h2
   |loc oa y=>
    obtain⟨b,rfl,q2,q3,q4,q5⟩:=h2
    exact⟨b,rfl,non q2 (hx b (by simp[feetE])),q3,q4.mono sf (λu e=>e),q5⟩
   |obw C fs ds=>
    obtain⟨b,dx,vs,rfl,q2,ql,q3,q4,q5,d1,d2,d3⟩:=h2
    exact⟨b,dx,vs,rfl,q2,ql,non q3 (hx b (by simp[feetE])),q4,q5.mono sf,d1,non d2 (λhz=>rx.feet_no hz _ d1),d3⟩
 ·rcases zZ e1 with⟨rfl,q1,_⟩ | ⟨hj,f1⟩
  ·cases q1;cases hb
  ·rcases zZ e2 with⟨rfl,q2,_⟩ | ⟨hk,f2⟩
   ·cases q2;cases hc
   ·exact r.dj j k z w u t f1 f2 s1 s2 hne b hb hc
def frzE (i:Nat)(ρ:EnvD):EnvD:=match ρ[i]? with
 |some (some (.acc ds))=>ρ.set i (some (.val (.lst ds)))
 |some (some (.oac _ _ C fs ds))=>ρ.set i (some (.val (.obj C fs ds)))
 |some (some (.tre t))=>ρ.set i (some (.val t.erase))
 |_=>ρ
theorem Rep.frz (r:Rep K B F σ H ρ)(i:Nat):∃F',Same F F'/\Rep K B F' σ H (frzE i ρ):=by
 unfold frzE
 split
 ·rename_i ds hi
  obtain⟨v,hs,rx⟩:=r.ents i _ hi
  have sf:Same F (addF F H (feetE H (.acc ds) v)):=wL λa ha=>(rx.feet_at ha).2.1
  refine⟨_,sf,r.frzG hi hs ?_⟩
  obtain⟨a,vs,rfl,e2,e3,e4,e5⟩:=rx
  exact⟨a,vs,rfl,by unfold addF;rw[if_pos (by simp[feetE])];exact e2,e5.mono sf⟩
 ·rename_i a dx C fs ds hi
  obtain⟨v,hs,rx⟩:=r.ents i _ hi
  have sf:Same F (addF F H (feetE H (.oac a dx C fs ds) v)):=wL λb hb=>(rx.feet_at hb).2.1
  refine⟨_,sf,r.frzG hi hs ?_⟩
  obtain⟨vs,rfl,e2,el,e3,e4,e5,_⟩:=rx
  exact⟨a,dx,vs,rfl,by unfold addF;rw[if_pos (by simp[feetE])];exact e2,el,e5.mono sf⟩
 ·rename_i t hi
  obtain⟨v,hs,rx⟩:=r.ents i _ hi
  have sf:Same F (addF F H (feetE H (.tre t) v)):=wL λb hb=>(rx.feet_at hb).2.1
  exact⟨_,sf,r.frzG hi hs (RepO.fz sf rx.1 λa ha=>ha)⟩
 ·exact⟨F,Same.refl _,r⟩
end
abbrev Post (α:Type):=Hp->Hp->Hp->Hp->α->V->Prop
inductive Lq {α:Type} (K:KW) (B:Bs) (g:EnvD->Option α) (σ:St) (H:Hp) (P:Hp->EnvD->α->Prop):Prop
 |mk (F:Hp) (ρ:EnvD) (x:α) (r:Rep K B F σ H ρ) (hg:g ρ=some x) (k:P F ρ x)
theorem Lq.el {α:Type}{K:KW}{B:Bs}{g:EnvD->Option α}{σ:St}{H:Hp}{P:Hp->EnvD->α->Prop}{C:Prop}(h:Lq K B g σ H P)(f:∀F ρ x,Rep K B F σ H ρ->g ρ=some x->P F ρ x->C):C:=by
 cases h with
 |mk F ρ x r hg k=>exact f F ρ x r hg k
def lG {α:Type}(K:KW)(B:Bs)(post:Post α)(g:EnvD->Option α):TE:=λσ H Q=>
 Lq K B g σ H λF ρ x=>∀v F' H',Ext F H F' H'->post F H F' H' x v->Q v H'
def pE (K:KW):Post D:=λ_ _ F' _ d v=>Rp K F' d v
def pR (K:KW):Post D:=λ_ _ F' H' d v=>Rq K F' H' d v
def pA (K:KW):Post (List D):=λ_ H F' H' ds v=>∃a vs,v=.ref a/\H a=none/\H' a=some (.lst vs)/\F' a=none/\Rps K F' ds vs
def DE (X:Cx)(B:Bs)(e:Expr)(g:EnvD->Option D):Prop:=PE X e (lG X.kw B (pE X.kw) g)
def DR (X:Cx)(B:Bs)(e:Expr)(g:EnvD->Option D):Prop:=PE X e (lG X.kw B (pR X.kw) g)
def DA (X:Cx)(B:Bs)(e:Expr)(g:EnvD->Option (List D)):Prop:=PE X e (lG X.kw B (pA X.kw) g)
def lT (K:KW)(B:Bs)(g:EnvD->Option Bool):TT:=λσ H Q=>Lq K B g σ H λF ρ b=>∀F' H',Ext F H F' H'->Q b H'
def DT (X:Cx)(B:Bs)(e:Expr)(g:EnvD->Option Bool):Prop:=PT X e (lT X.kw B g)
def DW (X:Cx)(B:Bs)(e:Expr)(g:EnvD->Option Bool):Prop:=PW X e (lT X.kw B g)
def lAs (K:KW)(B:Bs)(post:Post D)(g:EnvD->Option (List D)):TA:=λσ H Q=>
 Lq K B g σ H λF ρ ds=>∀vs F' H',Ext F H F' H'->Paired (λd v=>post F H F' H' d v) ds vs->Q vs H'
def DAs (X:Cx)(B:Bs)(es:List Expr)(g:EnvD->Option (List D)):Prop:=PA X es (lAs X.kw B (pE X.kw) g)
def DRs (X:Cx)(B:Bs)(es:List Expr)(g:EnvD->Option (List D)):Prop:=PA X es (lAs X.kw B (pR X.kw) g)
section
variable {X:Cx}{B:Bs}{e a b c:Expr}{es:List Expr}{pos:Pos}
theorem zm {t t':TE}(h:PE X e t)(k:∀σ H Q,t' σ H Q->t σ H Q):PE X e t':=λpins s σ H Q I q=>h pins s σ H Q I (k σ H Q q)
theorem qW {t t':TT}(h:PT X e t)(k:∀σ H Q,t' σ H Q->t σ H Q):PT X e t':=λpins s σ H Q I q=>h pins s σ H Q I (k σ H Q q)
theorem Yk {t t':TT}(h:PW X e t)(k:∀σ H Q,t' σ H Q->t σ H Q):PW X e t':=λwh pins s σ H Q I q=>h wh pins s σ H Q I (k σ H Q q)
theorem yH {t t':TA}(h:PA X es t)(k:∀σ H Q,t' σ H Q->t σ H Q):PA X es t':=λpo pins s σ H Q I q=>h po pins s σ H Q I (k σ H Q q)
theorem zC {st:Stmt}{t t':TS}(h:PS X st t)(k:∀E σ H,t' E σ H->t E σ H):PS X st t':=λpins s σ H E I q=>h pins s σ H E I (k E σ H q)
theorem pss_imp {st:List Stmt}{t t':TS}(h:PSs X st t)(k:∀E σ H,t' E σ H->t E σ H):PSs X st t':=λpins s σ H E I q=>h pins s σ H E I (k E σ H q)
theorem qF {tg:Expr}{t t':TI}(h:PI X tg e t)(k:∀σ H Q,t' σ H Q->t σ H Q):PI X tg e t':=λpins s σ H Q I q=>h pins s σ H Q I (k σ H Q q)
theorem DE.read {g:EnvD->Option D}(h:DE X B e g):DR X B e g :=
 zm h λσ H Q zz=>zz.el λF ρ x r hg k=>⟨F,ρ,x,r,hg,λv F' H' e p=>k v F' H' e (.inl p)⟩
def gFz (g:EnvD->Option (List D)):EnvD->Option D:=λρ=>(g ρ).map D.lst
theorem DA.frz {g:EnvD->Option (List D)}(h:DA X B e g):DE X B e (gFz g) :=
 zm h λσ H Q zz=>zz.el λF ρ x r hg k=>by
  unfold gFz at hg
  cases q:g ρ with
  |none=>rw[q] at hg;cases hg
  |some ds=>
   rw[q] at hg;cases hg
   refine⟨F,ρ,ds,r,q,λv F' H' e p=>?_⟩
   obtain⟨a,vs,rfl,p1,p2,p3,p4⟩:=p
   exact k _ (upd F' a (.lst vs)) H' (e.freeze p1 p3 p2) ⟨a,vs,rfl,zi,p4.mono (zX p3)⟩
theorem DA.read {g:EnvD->Option (List D)}(h:DA X B e g):DR X B e (gFz g):=h.frz.read
def gv (i:Nat):EnvD->Option D:=λρ=>match ρ[i]? with
 |some (some (.val d))=>some d
 |_=>none
def gr (i:Nat):EnvD->Option D:=λρ=>match ρ[i]? with
 |some (some (.val d))=>some d
 |some (some (.acc ds))=>some (.lst ds)
 |some (some (.bor ds))=>some (.lst ds)
 |_=>none
theorem zq (i:Nat){x:Str}(h:PE X (.Name x pos) (tVar i):=by exact pv _):DE X B (.Name x pos) (gv i) :=
 zm h λσ H Q zz=>zz.el λF ρ d r hg k=>by
  unfold gv at hg
  split at hg
  ·rename_i d' e
   cases hg
   obtain⟨v,h1,h2⟩:=r.ents i _ e
   exact⟨v,h1,k v F H (.refl r.fh) h2⟩
  ·cases hg
theorem za (i:Nat){x:Str}(h:PE X (.Name x pos) (tVar i):=by exact pv _):DR X B (.Name x pos) (gr i) :=
 zm h λσ H Q zz=>zz.el λF ρ d r hg k=>by
  unfold gr at hg
  split at hg
  ·rename_i d' e
   cases hg
   obtain⟨v,h1,h2⟩:=r.ents i _ e
   exact⟨v,h1,k v F H (.refl r.fh) (.inl h2)⟩
  ·rename_i ds e
   cases hg
   obtain⟨v,h1,a,vs,e1,e2,e3,e4,e5⟩:=r.ents i _ e
   exact⟨v,h1,k v F H (.refl r.fh) (.inr ⟨a,vs,ds,rfl,e1,e2,e5⟩)⟩
  ·rename_i ds e
   cases hg
   obtain⟨v,h1,a,vs,e1,e2,e5⟩:=r.ents i _ e
   exact⟨v,h1,k v F H (.refl r.fh) (.inr ⟨a,vs,ds,rfl,e1,r.ex.hh _ _ e2,e5⟩)⟩
  ·cases hg
def gc (d:D):EnvD->Option D:=λ_=>some d
theorem vU {v:V}{d:D}(h:PE X e (tC v))(r:∀F,Rp X.kw F d v):DE X B e (gc d) :=
 zm h λσ H Q zz=>zz.el λF ρ d' rr hg k=>by cases hg;exact k v F H (.refl rr.fh) (r F)
theorem de_int {i:Int}{j}:DE X B (.Constant (.int i) j pos) (gc (.int i)):=vU Jd λ_=>rfl
theorem wH {i:Bool}{j}:DE X B (.Constant (.bool i) j pos) (gc (.bl i)):=vU Ud λ_=>rfl
theorem wN {j}:DE X B (.Constant .none j pos) (gc .non):=vU VX λ_=>rfl
theorem jk {x:Str}{j}:DE X B (.Constant (.str x) j pos) (gc (.str x)):=vU K8 λ_=>rfl
theorem jB {x:Str}{v:V}{u:Value}{d:D}(hg:Gl X x)(hm:X.mg x=some u)(r:RelV v u)(rd:∀F,Rp X.kw F d v)(hd:(x==("__debug__" : Str))=false:=by decide):DE X B (.Name x pos) (gc d) :=
 zm (uR hg hm r hd) λσ H Q zz=>zz.el λF ρ d' rr hg k=>by cases hg;exact k v F H (.refl rr.fh) (rd F)
def g2 {γ:Type}(f:D->D->Option γ)(ga gb:EnvD->Option D):EnvD->Option γ:=λρ=>(ga ρ).bind λx=>(gb ρ).bind λy=>f x y
def OkR {γ:Type}(K:KW)(r:R2)(pc:Post γ)(f:D->D->Option γ):Prop :=
 ∀F H x y dx dy d Q,Same F H->Rq K F H dx x->Rq K F H dy y->f dx dy=some d->(∀v F' H',Ext F H F' H'->pc F H F' H' d v->Q v H')->r x y H Q
def Back {γ:Type}(pc:Post γ):Prop:=∀F H F1 H1 F' H' d v,Ext F H F1 H1->pc F1 H1 F' H' d v->pc F H F' H' d v
theorem wj {K:KW}:Back (pE K):=λ_ _ _ _ _ _ _ _ _ h=>h
theorem YC {K:KW}:Back (pA K):=λ_ _ _ _ _ _ _ _ e ⟨a,vs,h1,h2,h⟩=>⟨a,vs,h1,e.hh.free h2,h⟩
theorem op2 {γ:Type}{r:R2}{pc:Post γ}{f:D->D->Option γ}(hb:Back pc)(hr:OkR X.kw r pc f){ga gb:EnvD->Option D}{σ:St}{H:Hp}{Q:VK}(h:lG X.kw B pc (g2 f ga gb) σ H Q) :
  tOp r (lG X.kw B (pR X.kw) ga) (lG X.kw B (pR X.kw) gb) σ H Q:=by
 refine Lq.el h λF ρ d rr hg k=>?_
 unfold g2 at hg
 cases qa:ga ρ with
 |none=>rw[qa] at hg;cases hg
 |some dx=>
  cases qb:gb ρ with
  |none=>rw[qa,qb] at hg;cases hg
  |some dy=>
   rw[qa,qb] at hg
   refine⟨F,ρ,dx,rr,qa,λx F1 H1 e1 p1=>⟨F1,ρ,dy,rr.ext e1,qb,λy F2 H2 e2 p2=>?_⟩⟩
   exact hr F2 H2 x y dx dy d Q e2.fh (p1.mono e2.ff e2.hh) p2 hg λv F' H' e p=>k v F' H' (e1.trans (e2.trans e)) (hb _ _ _ _ _ _ _ _ (e1.trans e2) p)
theorem yV {op:Operator}{r:R2}{f:D->D->Option D}{ga gb:EnvD->Option D}(ho:OpR X (binaryOp op) r)(hr:OkR X.kw r (pE X.kw) f)(ha:DR X B a ga)(hb:DR X B b gb):DE X B (.BinOp a op b pos) (g2 f ga gb) :=
 zm (ZC ho ha hb) λσ H Q h=>op2 wj hr h
theorem JT {op:Operator}{r:R2}{f:D->D->Option (List D)}{ga gb:EnvD->Option D}(ho:OpR X (binaryOp op) r)(hr:OkR X.kw r (pA X.kw) f)(ha:DR X B a ga)(hb:DR X B b gb):DA X B (.BinOp a op b pos) (g2 f ga gb) :=
 zm (ZC ho ha hb) λσ H Q h=>op2 YC hr h
theorem jt {op:CmpOp}{r:R2}{f:D->D->Option D}{ga gb:EnvD->Option D}(ho:OpR X (compareOp op) r)(hr:OkR X.kw r (pE X.kw) f)(ha:DR X B a ga)(hb:DR X B b gb)(hm:behindInMarks op b=false):DE X B (.Compare a [op] [b] pos) (g2 f ga gb) :=
 zm (JZ ho ha hb hm) λσ H Q h=>op2 wj hr h
theorem Qq {r:R2}{f:D->D->Option D}{ga gb:EnvD->Option D}(ho:IxR X r)(hr:OkR X.kw r (pE X.kw) f)(ha:DR X B a ga)(hb:DR X B b gb)(hs:qo b):DE X B (.Subscript a b pos) (g2 f ga gb) :=
 zm (Uc ho ha hb hs) λσ H Q h=>op2 wj hr h
def fI (C:Int->Int->Bool)(f:Int->Int->D):D->D->Option D
 |.int i,.int j=>if C i j then some (f i j) else none
 |_,_=>none
theorem okI {K:KW}{C:Int->Int->Prop}{p:Int->Int->Bool}{f:Int->Int->D}{g:Int->Int->V}(hp:∀i j,p i j=true->C i j)(hf:∀i j F,Rp K F (f i j) (g i j)):OkR K (rI C g) (pE K) (fI p f):=by
 intro F H x y dx dy d Q s rx ry e k
 unfold fI at e
 split at e
 ·rename_i i j
  split at e
  ·rename_i hc
   cases e
   exact⟨i,j,rx.int,ry.int,hp i j hc,k _ F H (.refl s) (hf i j F)⟩
  ·cases e
 ·cases e
theorem okI0 {K:KW}{f:Int->Int->D}{g:Int->Int->V}(hf:∀i j F,Rp K F (f i j) (g i j)):OkR K (rI0 g) (pE K) (fI (λ_ _=>true) f):=by
 intro F H x y dx dy d Q s rx ry e k
 unfold fI at e
 split at e
 ·rename_i i j
  rw[if_pos rfl] at e
  cases e
  exact⟨i,j,rx.int,ry.int,k _ F H (.refl s) (hf i j F)⟩
 ·cases e
def fSub:=fI (λ_ _=>true) λi j=>.int (i - j)
def LIM:Int:=18446744073709551616
def fMul:=fI (λi j=>(decide (-LIM < i)&&decide (i < LIM))||(decide (-LIM < j)&&decide (j < LIM))) λi j=>.int (i * j)
def fDiv:=fI (λ_ j=>decide (0 < j)&&decide (j < 1073741824)) λi j=>.int (i / j)
def fMod:=fI (λ_ j=>decide (0 < j)) λi j=>.int (i % j)
def fShr:=fI (λ_ j=>decide (0<=j)) λi j=>.int (i / 2 ^ j.toNat)
def fAnd:=fI (λ_ _=>true) λi j=>.int (Builtin.bitAnd i j)
def fPow:=fI (λi j=>decide (0<=j)&&decide (j<=1000000)&&decide (i.natAbs < 18446744073709551616)) λi j=>.int (i ^ j.toNat)
variable {ga gb:EnvD->Option D}
theorem vy (ha:DR X B a ga)(hb:DR X B b gb):DE X B (.BinOp a .Sub b pos) (g2 fSub ga gb):=yV UC (okI0 λ_ _ _=>rfl) ha hb
theorem yE (ha:DR X B a ga)(hb:DR X B b gb):DE X B (.BinOp a .Mult b pos) (g2 fMul ga gb):=yV Ku (okI (λi j h=>by
 simp only[Bool.or_eq_true,Bool.and_eq_true,decide_eq_true_eq] at h
 unfold LIM at h
 rcases h with⟨h1,h2⟩ | ⟨h1,h2⟩
 ·exact .inl ⟨by omega,by omega⟩
 ·exact .inr ⟨by omega,by omega⟩) λ_ _ _=>rfl) ha hb
theorem zN (ha:DR X B a ga)(hb:DR X B b gb):DE X B (.BinOp a .FloorDiv b pos) (g2 fDiv ga gb):=yV UB (okI (λi j h=>by
 simp only[Bool.and_eq_true,decide_eq_true_eq] at h
 exact h) λ_ _ _=>rfl) ha hb
theorem z5 (ha:DR X B a ga)(hb:DR X B b gb):DE X B (.BinOp a .Mod b pos) (g2 fMod ga gb):=yV UL (okI (λi j h=>by
 simp only[decide_eq_true_eq] at h
 exact h) λ_ _ _=>rfl) ha hb
theorem QZ (ha:DR X B a ga)(hb:DR X B b gb):DE X B (.BinOp a .RShift b pos) (g2 fShr ga gb):=yV KQ (okI (λi j h=>by
 simp only[decide_eq_true_eq] at h
 exact h) λ_ _ _=>rfl) ha hb
theorem JE (ha:DR X B a ga)(hb:DR X B b gb):DE X B (.BinOp a .BitAnd b pos) (g2 fAnd ga gb):=yV JS (okI0 λ_ _ _=>rfl) ha hb
theorem qj (ha:DR X B a ga)(hb:DR X B b gb):DE X B (.BinOp a .Pow b pos) (g2 fPow ga gb):=yV Qg (okI (λi j h=>by
 simp only[Bool.and_eq_true,decide_eq_true_eq] at h
 exact⟨h.1.1,h.1.2,by have:=h.2;omega⟩) λ_ _ _=>rfl) ha hb
def fLt:=fI (λ_ _=>true) λi j=>.bl (decide (i < j))
def fLe:=fI (λ_ _=>true) λi j=>.bl (decide (i<=j))
def fGt:=fI (λ_ _=>true) λi j=>.bl (decide (j < i))
theorem yg {K:KW}:OkR K (rI0 λi j=>.bl (decide (i < j))) (pE K) fLt:=okI0 λ_ _ _=>rfl
theorem uI {K:KW}:OkR K (rI0 λi j=>.bl (decide (i<=j))) (pE K) fLe:=okI0 λ_ _ _=>rfl
theorem yw {K:KW}:OkR K (rI0 λi j=>.bl (decide (j < i))) (pE K) fGt:=okI0 λ_ _ _=>rfl
def TOP:Nat:=1000000
theorem y9 {n:Nat}(h:n<=TOP):n<=sizeLine:=Nat.le_trans h (by decide)
theorem uK {n:Nat}(h:n<=TOP):n < sizeLine:=Nat.lt_of_le_of_lt h (by decide)
def fIx:D->D->Option D
 |.lst xs,.int i=>atI xs i
 |.tup xs,.int i=>atI xs i
 |.scr ns,.int i=>(atI ns i).map D.int
 |_,_=>none
theorem Wj {K:KW}{F:Hp}{ds:List D}{vs:List V}{i:Int}{d:D}(r:Rps K F ds vs)(h:atI ds i=some d):∃v,atI vs i=some v/\Rp K F d v:=by
 unfold atI at h ⊢
 rw[<-r.length]
 cases q:ixN ds.length i with
 |none=>rw[q] at h;cases h
 |some j=>rw[q] at h;exact r.get h
theorem jK {K:KW}:OkR K (rIx K) (pE K) fIx:=by
 intro F H x y dx dy d Q s rx ry e k
 unfold fIx at e
 split at e
 ·rename_i xs i
  obtain⟨p,vs,rfl,h1,h2⟩:=rx.lst s
  obtain⟨v,h3,h4⟩:=Wj h2 e
  exact .inl ⟨p,vs,i,v,rfl,ry.int,.of h1,h3,k _ F H (.refl s) h4⟩
 ·rename_i xs i
  obtain⟨p,vs,rfl,h1,h2⟩:=rx.tup s
  obtain⟨v,h3,h4⟩:=Wj h2 e
  exact .inr (.inl ⟨p,vs,i,v,rfl,ry.int,.of h1,h3,k _ F H (.refl s) h4⟩)
 ·rename_i ns i
  obtain⟨p,rfl,h1⟩:=rx.scr s
  cases q:atI ns i with
  |none=>rw[q] at e;cases e
  |some n=>
   rw[q] at e
   cases e
   refine .inl ⟨p,_,i,.int n,rfl,ry.int,h1,?_,k _ F H (.refl s) rfl⟩
   unfold atI at q ⊢
   rw[List.length_map]
   cases q':ixN ns.length i with
   |none=>rw[q'] at q;cases q
   |some j=>
    rw[q'] at q
    have q:ns[j]?=some n:=q
    show (ns.map V.int)[j]?=some (.int n)
    rw[List.getElem?_map,q];rfl
 ·cases e
end
mutual
def toP:D->PyData
 |.non=>.none
 |.bl b=>.bool b
 |.int i=>.int i
 |.str x=>.str x
 |.lst ds=>.list (toPs ds)
 |.tup ds=>.tuple (toPs ds)
 |.scr ns=>.list (ns.map PyData.int)
 |.obj _ _ _=>.dict []
 |.emp=>.dict []
 |.xc _=>.dict []
def toPs:List D->List PyData
 | []=>[]
 |d::ds=>toP d::toPs ds
end
section
variable {X:Cx}{pins:List (Addr×Obj)}{σ:St}{F H:Hp}{s:Shared}
theorem YG {h:Heap}:∀(ns:List Int) {us:List Value},Vals (ns.map V.int) us->∃as,ReadsAll h us (ns.map PyData.int) as
 | [],_,.nil=>⟨_,.nil⟩
 |n::ns,_,.cons r t=>by
  obtain⟨t',rfl⟩:=r
  obtain⟨as,q⟩:=YG ns t
  exact⟨_,.cons (.int n t') q⟩
mutual
theorem Rp.reads (I:Inv X pins σ H s)(fh:Same F H):∀(d:D) {v:V} {u:Value},(toP d).canLay0=true->Rp X.kw F d v->RelV v u->∃as,Reads s.heap u (toP d) as
 |.non,_,_,_,h,r=>by subst h;cases r;exact⟨_,.none⟩
 |.bl b,_,_,_,h,r=>by subst h;cases r;exact⟨_,.bool b⟩
 |.int i,_,_,_,h,r=>by subst h;obtain⟨t,rfl⟩:=r;exact⟨_,.int i t⟩
 |.str x,_,_,_,h,r=>by subst h;obtain⟨t,rfl⟩:=r;exact⟨_,.str x t⟩
 |.lst ds,_,_,c,⟨a,vs,e,q,h⟩,r=>by
  subst e;cases r
  obtain⟨z,its,n,rv,e⟩:=(show ObjOk X.prog X.w H s.heap a (.lst vs) from I.hok a _ (fh _ _ q))
  obtain⟨as,t⟩:=Rps.reads I fh ds (show PyData.canLayAll0 (toPs ds)=true from c) h rv
  exact⟨_,.list e rfl rfl (by simpa using t)⟩
 |.tup ds,_,_,c,⟨a,vs,e,q,h⟩,r=>by
  subst e;cases r
  obtain⟨z,its,rv,o,e,hc,n,hd⟩:=(show ObjOk X.prog X.w H s.heap a (.tup vs) from I.hok a _ (fh _ _ q))
  obtain⟨as,t⟩:=Rps.reads I fh ds (show PyData.canLayAll0 (toPs ds)=true from c) h rv
  exact⟨_,.tuple e hc hd (by simpa using t)⟩
 |.scr ns,_,_,c,⟨a,e,q⟩,r=>by
  subst e;cases r
  obtain⟨its,rv,⟨o,n,e,hc,_,hd⟩,_⟩:=I.list (fh.seq q)
  obtain⟨as,t⟩:=YG (h:=s.heap) ns rv
  exact⟨_,.list e hc hd (by simpa using t)⟩
 |.obj _ _ _,_,_,c,_,_=>by cases c
 |.emp,_,_,c,_,_=>by cases c
 |.xc _,_,_,c,_,_=>by cases c
theorem Rps.reads (I:Inv X pins σ H s)(fh:Same F H):∀(ds:List D) {vs:List V} {us:List Value},PyData.canLayAll0 (toPs ds)=true->Rps X.kw F ds vs->Vals vs us->∃as,ReadsAll s.heap us (toPs ds) as
 | [],_,_,_,h,r=>by subst h;cases r;exact⟨_,.nil⟩
 |d::ds,_,_,c,⟨v,w,e,h,t⟩,r=>by
  subst e
  cases r with
  |cons r rr=>
   have c':((toP d).canLay0&&PyData.canLayAll0 (toPs ds))=true:=c
   obtain⟨c1,c2⟩:=Bool.and_eq_true_iff.mp c'
   obtain⟨as,q⟩:=Rp.reads I fh d c1 h r
   obtain⟨bs,p⟩:=Rps.reads I fh ds c2 t rr
   exact⟨_,.cons q p⟩
end
theorem Rq.reads (I:Inv X pins σ H s)(fh:Same F H){d:D}{v:V}{u:Value}(c:(toP d).canLay0=true)(h:Rq X.kw F H d v)(r:RelV v u):∃as,Reads s.heap u (toP d) as:=by
 rcases h with h | ⟨a,vs,ds,rfl,rfl,e,h⟩
 ·exact h.reads I fh d c r
 ·cases r
  obtain⟨z,its,n,rv,e⟩:=(show ObjOk X.prog X.w H s.heap a (.lst vs) from I.hok a _ e)
  obtain⟨as,t⟩:=Rps.reads I fh ds (show PyData.canLayAll0 (toPs ds)=true from c) h rv
  exact⟨_,.list e rfl rfl (by simpa using t)⟩
end
def eqOk (d:D):Bool:=SeqAt.shaped (toP d)
def eqD (d d':D):Bool:=PyData.eqv (toP d) (toP d')
def rEqD (K:KW)(neg:Bool):R2:=λx y H Q=>∃F d d',Same F H/\Rq K F H d x/\Rq K F H d' y/\eqOk d=true/\eqOk d'=true/\Q (.bl (if neg then !eqD d d' else eqD d d')) H
section
variable {X:Cx}{B:Bs}{e a b c:Expr}{es:List Expr}{pos:Pos}{ga gb:EnvD->Option D}
theorem yn (hu:X.A.units+64 < cLine):OpR X (compareOp .Eq) (rEqD X.kw false):=by
 intro pins s σ H x y v u Q I rx ry ⟨F,d,d',fh,h1,h2,o1,o2,q⟩
 obtain⟨as,ra⟩:=h1.reads I fh (SeqAt.canLay_of_shaped o1) rx
 obtain⟨bs,rb⟩:=h2.reads I fh (SeqAt.canLay_of_shaped o2) ry
 exact SeqAt.compareEq_shaped ra rb o1 o2 hu ⟨.bl (eqD d d'),H,I,rfl,q⟩
theorem vD (hu:X.A.units+64 < cLine):OpR X (compareOp .NotEq) (rEqD X.kw true):=by
 intro pins s σ H x y v u Q I rx ry ⟨F,d,d',fh,h1,h2,o1,o2,q⟩
 obtain⟨as,ra⟩:=h1.reads I fh (SeqAt.canLay_of_shaped o1) rx
 obtain⟨bs,rb⟩:=h2.reads I fh (SeqAt.canLay_of_shaped o2) ry
 exact SeqAt.compareNe_shaped ra rb o1 o2 hu ⟨.bl (!eqD d d'),H,I,rfl,q⟩
def fEq (neg:Bool):D->D->Option D:=λx y=>if eqOk x&&eqOk y then some (.bl (if neg then !eqD x y else eqD x y)) else none
theorem zV {K:KW}{neg:Bool}:OkR K (rEqD K neg) (pE K) (fEq neg):=by
 intro F H x y dx dy d Q s rx ry e k
 unfold fEq at e
 split at e
 ·rename_i hc
  cases e
  obtain⟨h1,h2⟩:=Bool.and_eq_true_iff.mp hc
  exact⟨F,dx,dy,s,rx,ry,h1,h2,k _ F H (.refl s) rfl⟩
 ·cases e
def isNon:D->Bool
 |.non=>true
 |_=>false
theorem JY {K:KW}{F H:Hp}{d:D}{v:V}(r:Rq K F H d v):decide (v=.non)=isNon d:=by
 rcases r with r | ⟨a,vs,ds,rfl,rfl,_⟩
 ·cases d with
  |non=>cases r;rfl
  |bl b=>cases r;rfl
  |int b=>cases r;rfl
  |str b=>cases r;rfl
  |lst ds=>obtain⟨a,vs,rfl,_⟩:=r;rfl
  |tup ds=>obtain⟨a,vs,rfl,_⟩:=r;rfl
  |scr ds=>obtain⟨a,rfl,_⟩:=r;rfl
  |obj C f ds=>obtain⟨a,dx,vs,rfl,_⟩:=r;rfl
  |emp=>obtain⟨a,rfl,_⟩:=r;rfl
  |xc x=>obtain⟨a,rfl⟩:=RXt.ref r;rfl
 ·rfl
def fIs (neg:Bool):D->D->Option D
 |d,.non=>some (.bl (if neg then !isNon d else isNon d))
 |_,_=>none
theorem ZL {K:KW}:OkR K (λx y H Q=>y=.non/\Q (.bl (decide (x=.non))) H) (pE K) (fIs false):=by
 intro F H x y dx dy d Q s rx ry e k
 unfold fIs at e
 split at e
 ·cases e
  refine⟨ry.non,?_⟩
  rw[JY rx]
  exact k _ F H (.refl s) rfl
 ·cases e
def asB:D->Option Bool
 |.bl b=>some b
 |_=>none
def truD:D->Option Bool
 |.non=>some false
 |.bl b=>some b
 |.int i=>some (i != 0)
 |.str x=>if x.length<=TOP then some ((x.length:Int) != 0) else none
 |.lst ds=>some (!ds.isEmpty)
 |.tup ds=>some (!ds.isEmpty)
 |.scr ns=>some (!ns.isEmpty)
 |.obj _ _ _=>none
 |.emp=>none
 |.xc _=>none
theorem ZJ {K:KW}{F:Hp}{ds:List D}{vs:List V}(r:Rps K F ds vs):ds.isEmpty=vs.isEmpty:=by
 have:=r.length
 cases ds<;>cases vs<;>simp_all
theorem UV {K:KW}{F H:Hp}(s:Same F H){d:D}{v:V}{b:Bool}(r:Rq K F H d v)(h:truD d=some b):TruV K v H b:=by
 cases d with
 |non=>cases r.non;cases h;rfl
 |bl x=>cases r.bl;cases h;rfl
 |int x=>cases r.int;cases h;rfl
 |str x=>
  cases r.str
  have h:(if x.length<=TOP then some ((x.length:Int) != 0) else none)=some b:=h
  split at h
  ·rename_i hc;cases h;exact⟨y9 hc,rfl⟩
  ·cases h
 |lst ds=>obtain⟨a,vs,rfl,q,t⟩:=r.lst s;cases h;exact .inl ⟨vs,.of q,by rw[ZJ t]⟩
 |tup ds=>obtain⟨a,vs,rfl,q,t⟩:=r.tup s;cases h;exact .inr (.inl ⟨vs,.of q,by rw[ZJ t]⟩)
 |scr ns=>obtain⟨a,rfl,q⟩:=r.scr s;cases h;exact .inl ⟨_,q,by simp⟩
 |obj C f ds=>cases h
 |emp=>cases h
 |xc x=>cases h
def gt (g:EnvD->Option D):EnvD->Option Bool:=λρ=>(g ρ).bind truD
def gb' (g:EnvD->Option D):EnvD->Option Bool:=λρ=>(g ρ).bind asB
theorem ye {g:EnvD->Option D}(ha:DR X B a g)(he:∀whole,isTrue a X.env whole=(do let v <-whole;standAt a.pos;holding [v] (truthy v))):DT X B a (gt g) :=
 qW (Uj ha he) λσ H Q zz=>zz.el λF ρ b r hg k=>by
  unfold gt at hg
  cases q:g ρ with
  |none=>rw[q] at hg;cases hg
  |some d=>
   rw[q] at hg
   exact⟨F,ρ,d,r,q,λv F' H' e p=>⟨b,UV e.fh p hg,k F' H' e⟩⟩
theorem zy {op:CmpOp}{r:R2}{f:D->D->Option D}(ho:OpR X (compareOp op) r)(hr:OkR X.kw r (pE X.kw) f)(ha:DR X B a ga)(hb:DR X B b gb)(hm:behindInMarks op b=false):DT X B (.Compare a [op] [b] pos) (gb' (g2 f ga gb)) :=
 qW (Uo ho ha hb hm) λσ H Q zz=>zz.el λF ρ c rr hg k=>by
  unfold gb' at hg
  cases q:g2 f ga gb ρ with
  |none=>rw[q] at hg;cases hg
  |some d=>
   rw[q] at hg
   refine op2 wj hr ⟨F,ρ,d,rr,q,λv F' H' e p=>?_⟩
   cases d with
   |bl y=>cases hg;exact⟨c,p,k F' H' e⟩
   |_=>cases hg
def gAnd (ga gb:EnvD->Option Bool):EnvD->Option Bool:=λρ=>(ga ρ).bind λx=>if x then gb ρ else some false
def gOr (ga gb:EnvD->Option Bool):EnvD->Option Bool:=λρ=>(ga ρ).bind λx=>if x then some true else gb ρ
def gNot (ga:EnvD->Option Bool):EnvD->Option Bool:=λρ=>(ga ρ).map λx=>!x
variable {ta tb:EnvD->Option Bool}{rest:List Expr}
theorem qY (ha:DT X B a ta):DW X B (.BoolOp .And [a] pos) ta:=WD ha
theorem xj (ha:DT X B a ta):DW X B (.BoolOp .Or [a] pos) ta:=UA ha
theorem jZ (ha:DT X B a ta)(hb:DW X B (.BoolOp .And (b::rest) pos) tb):DW X B (.BoolOp .And (a::b::rest) pos) (gAnd ta tb) :=
 Yk (Vg ha hb) λσ H Q zz=>zz.el λF ρ c r hg k=>by
  unfold gAnd at hg
  cases q:ta ρ with
  |none=>rw[q] at hg;cases hg
  |some x=>
   rw[q] at hg
   refine⟨F,ρ,x,r,q,λF1 H1 e1=>?_⟩
   cases x with
   |true=>exact iteT ⟨F1,ρ,c,r.ext e1,hg,λF2 H2 e2=>k F2 H2 (e1.trans e2)⟩
   |false=>cases hg;exact iteF (k F1 H1 e1)
theorem yD (ha:DT X B a ta)(hb:DW X B (.BoolOp .Or (b::rest) pos) tb):DW X B (.BoolOp .Or (a::b::rest) pos) (gOr ta tb) :=
 Yk (WN ha hb) λσ H Q zz=>zz.el λF ρ c r hg k=>by
  unfold gOr at hg
  cases q:ta ρ with
  |none=>rw[q] at hg;cases hg
  |some x=>
   rw[q] at hg
   refine⟨F,ρ,x,r,q,λF1 H1 e1=>?_⟩
   cases x with
   |true=>cases hg;exact iteT (k F1 H1 e1)
   |false=>exact iteF ⟨F1,ρ,c,r.ext e1,hg,λF2 H2 e2=>k F2 H2 (e1.trans e2)⟩
theorem yq (h:DW X B a ta):DT X B a ta:=PW.pt h
theorem yX (ha:DT X B a ta):DT X B (.UnaryOp .Not a pos) (gNot ta) :=
 qW (Qf ha) λσ H Q zz=>zz.el λF ρ c r hg k=>by
  unfold gNot at hg
  cases q:ta ρ with
  |none=>rw[q] at hg;cases hg
  |some x=>rw[q] at hg;cases hg;exact⟨F,ρ,x,r,q,λF1 H1 e1=>k F1 H1 e1⟩
def gAndV (ga gb:EnvD->Option D):EnvD->Option D:=λρ=>((ga ρ).bind asB).bind λx=>if x then gb ρ else some (.bl false)
def gNotV (ga:EnvD->Option D):EnvD->Option D:=λρ=>((ga ρ).bind asB).map λx=>.bl (!x)
theorem Z4 {d:D}{b:Bool}(h:asB d=some b):d=.bl b:=by cases d<;>cases h;rfl
theorem bindB {g:EnvD->Option D}{ρ:EnvD}{α:Type}{f:Bool->Option α}{y:α}(h:((g ρ).bind asB).bind f=some y):∃b,g ρ=some (.bl b)/\f b=some y:=by
 cases q:g ρ with
 |none=>rw[q] at h;cases h
 |some d=>
  rw[q] at h
  cases q2:asB d with
  |none=>rw[show (some d).bind asB=asB d from rfl,q2] at h;cases h
  |some b=>rw[show (some d).bind asB=asB d from rfl,q2] at h;exact⟨b,by rw[Z4 q2],h⟩
theorem jx {op}(h:DE X B a ga):DE X B (.BoolOp op [a] pos) ga:=u3 h
theorem wX (ha:DE X B a ga)(hb:DE X B (.BoolOp .And (b::rest) pos) gb):DE X B (.BoolOp .And (a::b::rest) pos) (gAndV ga gb) :=
 zm (Z5 ha hb) λσ H Q zz=>zz.el λF ρ d r hg k=>by
  obtain⟨x,q,hg⟩:=bindB hg
  refine⟨F,ρ,_,r,q,λv F1 H1 e1 p1=>⟨x,p1,?_⟩⟩
  cases x with
  |true=>exact iteT ⟨F1,ρ,d,r.ext e1,hg,λv F2 H2 e2 p2=>k v F2 H2 (e1.trans e2) p2⟩
  |false=>cases hg;exact iteF (k _ F1 H1 e1 rfl)
theorem UQ (ha:DE X B a ga):DE X B (.UnaryOp .Not a pos) (gNotV ga) :=
 zm (Ut ha) λσ H Q zz=>zz.el λF ρ d r hg k=>by
  unfold gNotV at hg
  rw[Option.map_eq_bind] at hg
  obtain⟨x,q,hg⟩:=bindB hg
  cases hg
  exact⟨F,ρ,_,r,q,λv F1 H1 e1 p1=>⟨x,p1,k _ F1 H1 e1 rfl⟩⟩
def gIf (t:EnvD->Option Bool)(ga gb:EnvD->Option D):EnvD->Option D:=λρ=>(t ρ).bind λx=>if x then ga ρ else gb ρ
theorem Zu (ht:DT X B c ta)(ha:DE X B a ga)(hb:DE X B b gb):DE X B (.IfExp c a b pos) (gIf ta ga gb) :=
 zm (kl ht ha hb) λσ H Q zz=>zz.el λF ρ d r hg k=>by
  unfold gIf at hg
  cases q:ta ρ with
  |none=>rw[q] at hg;cases hg
  |some x=>
   rw[q] at hg
   refine⟨F,ρ,x,r,q,λF1 H1 e1=>?_⟩
   cases x with
   |true=>exact iteT ⟨F1,ρ,d,r.ext e1,hg,λv F2 H2 e2 p2=>k v F2 H2 (e1.trans e2) p2⟩
   |false=>exact iteF ⟨F1,ρ,d,r.ext e1,hg,λv F2 H2 e2 p2=>k v F2 H2 (e1.trans e2) p2⟩
end
section
variable {X:Cx}{B:Bs}{e a b c:Expr}{es:List Expr}{pos:Pos}{ga gb gc':EnvD->Option D}
def g3 (f f':D->D->Option D)(ga gb gc:EnvD->Option D):EnvD->Option D:=λρ=>
 (ga ρ).bind λx=>(gb ρ).bind λy=>((f x y).bind asB).bind λk=>if k then (gc ρ).bind λz=>f' y z else some (.bl false)
theorem Qn {r r':R2}{f f':D->D->Option D}(hr:OkR X.kw r (pE X.kw) f)(hr':OkR X.kw r' (pE X.kw) f'){σ:St}{H:Hp}{Q:VK}(h:lG X.kw B (pE X.kw) (g3 f f' ga gb gc') σ H Q) :
  tChain r r' (lG X.kw B (pR X.kw) ga) (lG X.kw B (pR X.kw) gb) (lG X.kw B (pR X.kw) gc') σ H Q:=by
 refine Lq.el h λF ρ d rr hg k=>?_
 unfold g3 at hg
 cases qa:ga ρ with
 |none=>rw[qa] at hg;cases hg
 |some dx=>
  cases qb:gb ρ with
  |none=>rw[qa,qb] at hg;cases hg
  |some dy=>
   rw[qa,qb] at hg
   have hg:((f dx dy).bind asB).bind (λk=>if k then (gc' ρ).bind λz=>f' dy z else some (.bl false))=some d:=hg
   cases qf:f dx dy with
   |none=>rw[qf] at hg;cases hg
   |some z=>
    rw[qf] at hg
    cases qz:asB z with
    |none=>rw[show (some z).bind asB=asB z from rfl,qz] at hg;cases hg
    |some kk=>
     rw[show (some z).bind asB=asB z from rfl,qz] at hg
     rw[Z4 qz] at qf
     refine⟨F,ρ,dx,rr,qa,λx F1 H1 e1 p1=>⟨F1,ρ,dy,rr.ext e1,qb,λy F2 H2 e2 p2=>?_⟩⟩
     refine hr F2 H2 x y dx dy _ _ e2.fh (p1.mono e2.ff e2.hh) p2 qf λv F3 H3 e3 p3=>⟨kk,p3,?_⟩
     have hg:(if kk=true then (gc' ρ).bind λz=>f' dy z else some (.bl false))=some d:=hg
     cases kk with
     |false=>rw[if_neg (by decide)] at hg;cases hg;exact iteF (k _ F3 H3 (e1.trans (e2.trans e3)) rfl)
     |true=>
      rw[if_pos rfl] at hg
      refine iteT ?_
      cases qc:gc' ρ with
      |none=>rw[qc] at hg;cases hg
      |some dz=>
       rw[qc] at hg
       refine⟨F3,ρ,dz,rr.ext (e1.trans (e2.trans e3)),qc,λw F4 H4 e4 p4=>?_⟩
       exact hr' F4 H4 y w dy dz d Q e4.fh ((p2.mono e3.ff e3.hh).mono e4.ff e4.hh) p4 hg λv F5 H5 e5 p5=>k v F5 H5 (e1.trans (e2.trans (e3.trans (e4.trans e5)))) p5
theorem Jl {op op':CmpOp}{r r':R2}{f f':D->D->Option D}(ho:OpR X (compareOp op) r)(ho':OpR X (compareOp op') r')(hr:OkR X.kw r (pE X.kw) f)(hr':OkR X.kw r' (pE X.kw) f')(ha:DR X B a ga)(hb:DR X B b gb)(hc:DR X B c gc')
  (hm:lastMarks [op,op'] [b,c]=false:=by with_unfolding_all rfl):DE X B (.Compare a [op,op'] [b,c] pos) (g3 f f' ga gb gc') :=
 zm (Kj ho ho' ha hb hc hm) λσ H Q h=>Qn hr hr' h
def gNil:EnvD->Option (List D):=λ_=>some []
def gCons' (g:EnvD->Option D)(gs:EnvD->Option (List D)):EnvD->Option (List D):=λρ=>(g ρ).bind λd=>(gs ρ).bind λds=>some (d::ds)
variable {g:EnvD->Option D}{gs:EnvD->Option (List D)}
theorem zt:DAs X B [] gNil:=yH yd λσ H Q zz=>zz.el λF ρ ds r hg k=>by cases hg;exact k [] F H (.refl r.fh) .nil
theorem z7:DRs X B [] gNil:=yH yd λσ H Q zz=>zz.el λF ρ ds r hg k=>by cases hg;exact k [] F H (.refl r.fh) .nil
theorem bind2 {α β γ:Type}{o:Option α}{p:Option β}{f:α->β->Option γ}{z:γ}(h:(o.bind λx=>p.bind λy=>f x y)=some z):∃x y,o=some x/\p=some y/\f x y=some z:=by
 cases o with
 |none=>cases h
 |some x=>
  cases p with
  |none=>cases h
  |some y=>exact⟨x,y,rfl,rfl,h⟩
theorem zh (ha:DE X B e g)(hr:DAs X B es gs)(hs:starEach (e::es) X.env=(false,eval e X.env)::starEach es X.env:=by rfl):DAs X B (e::es) (gCons' g gs) :=
 yH (zM ha hr hs) λσ H Q zz=>zz.el λF ρ ds r hg k=>by
  obtain⟨d,dr,q1,q2,q3⟩:=bind2 hg
  cases q3
  exact⟨F,ρ,d,r,q1,λv F1 H1 e1 p1=>⟨F1,ρ,dr,r.ext e1,q2,λvs F2 H2 e2 p2=>k _ F2 H2 (e1.trans e2) (.cons (Rp.mono e2.ff p1) p2)⟩⟩
theorem z6 (ha:DR X B e g)(hr:DRs X B es gs)(hs:starEach (e::es) X.env=(false,eval e X.env)::starEach es X.env:=by rfl):DRs X B (e::es) (gCons' g gs) :=
 yH (zM ha hr hs) λσ H Q zz=>zz.el λF ρ ds r hg k=>by
  obtain⟨d,dr,q1,q2,q3⟩:=bind2 hg
  cases q3
  exact⟨F,ρ,d,r,q1,λv F1 H1 e1 p1=>⟨F1,ρ,dr,r.ext e1,q2,λvs F2 H2 e2 p2=>k _ F2 H2 (e1.trans e2) (.cons (p1.mono e2.ff e2.hh) p2)⟩⟩
theorem va {K:KW}{F:Hp}:∀ {ds:List D} {vs:List V},Paired (λd v=>Rp K F d v) ds vs->Rps K F ds vs
 |_,_,.nil=>rfl
 |_,_,.cons r t=>⟨_,_,rfl,r,va t⟩
def gTup' (gs:EnvD->Option (List D)):EnvD->Option D:=λρ=>(gs ρ).bind λds=>if ds.length<=TOP then some (.tup ds) else none
def gLst (gs:EnvD->Option (List D)):EnvD->Option (List D):=λρ=>(gs ρ).bind λds=>if ds.length<=TOP then some ds else none
theorem zL {x1}(h:DAs X B es gs):DE X B (.Tuple es x1 pos) (gTup' gs) :=
 zm (Qw h) λσ H Q zz=>zz.el λF ρ d r hg k=>by
  unfold gTup' at hg
  cases q:gs ρ with
  |none=>rw[q] at hg;cases hg
  |some ds=>
   rw[q] at hg
   have hg:(if ds.length<=TOP then some (D.tup ds) else none)=some d:=hg
   split at hg
   ·rename_i hc
    cases hg
    refine⟨F,ρ,ds,r,q,λvs F1 H1 e1 p1=>⟨y9 (by rw[<-(va p1).length];exact hc),λp hp=>?_⟩⟩
    exact k _ (upd F1 p (.tup vs)) _ (e1.trans (.newF e1.fh hp)) ⟨p,vs,rfl,zi,(va p1).mono (zX (e1.fh.free hp))⟩
   ·cases hg
theorem zI (h:DAs X B es gs):DA X B (.List es pos) (gLst gs) :=
 zm (Ql h) λσ H Q zz=>zz.el λF ρ d r hg k=>by
  unfold gLst at hg
  cases q:gs ρ with
  |none=>rw[q] at hg;cases hg
  |some ds=>
   rw[q] at hg
   have hg:(if ds.length<=TOP then some ds else none)=some d:=hg
   split at hg
   ·rename_i hc
    cases hg
    refine⟨F,ρ,_,r,q,λvs F1 H1 e1 p1=>⟨y9 (by rw[<-(va p1).length];exact hc),λp hp=>?_⟩⟩
    exact k _ F1 _ (e1.trans (.new e1.fh hp)) ⟨p,vs,rfl,e1.hh.free hp,zi,e1.fh.free hp,va p1⟩
   ·cases hg
def lO (K:KW)(B:Bs)(g:EnvD->Option (Option Int)):TO:=λσ H Q=>Lq K B g σ H λF ρ i=>∀F' H',Ext F H F' H'->Q i H'
def DO (X:Cx)(B:Bs)(e:Option Expr)(g:EnvD->Option (Option Int)):Prop:=PO X e (lO X.kw B g)
theorem u4 {e:Option Expr}{t t':TO}(h:PO X e t)(k:∀σ H Q,t' σ H Q->t σ H Q):PO X e t':=λpins s σ H Q I q=>h pins s σ H Q I (k σ H Q q)
def gNone:EnvD->Option (Option Int):=λ_=>some none
theorem xA:DO X B none gNone:=u4 WV λσ H Q zz=>zz.el λF ρ i r hg k=>by cases hg;exact k F H (.refl r.fh)
def asI:D->Option Int
 |.int i=>some i
 |_=>none
theorem Zt {d:D}{i:Int}(h:asI d=some i):d=.int i:=by cases d<;>cases h;rfl
def gSome (g:EnvD->Option D):EnvD->Option (Option Int):=λρ=>(g ρ).bind λd=>(asI d).map some
theorem wx (h:DR X B e g):DO X B (some e) (gSome g):=u4 (Q0 h) λσ H Q zz=>zz.el λF ρ i r hg k=>by
 unfold gSome at hg
 cases q:g ρ with
 |none=>rw[q] at hg;cases hg
 |some d=>
  rw[q] at hg
  cases q2:asI d with
  |none=>rw[show (some d).bind (λd=>(asI d).map some)=(asI d).map some from rfl,q2] at hg;cases hg
  |some j=>
   rw[show (some d).bind (λd=>(asI d).map some)=(asI d).map some from rfl,q2] at hg
   cases hg
   rw[Zt q2] at q
   exact⟨F,ρ,_,r,q,λv F1 H1 e1 p1=>⟨j,p1.int,k F1 H1 e1⟩⟩
def cutD {α:Type}(xs:List α)(lo hi:Option Int):List α:=(xs.drop (HT.sIx xs.length 0 lo)).take (HT.sIx xs.length xs.length hi - HT.sIx xs.length 0 lo)
def gSl (g:EnvD->Option D)(gl gh:EnvD->Option (Option Int)):EnvD->Option (List D):=λρ=>(g ρ).bind λd=>(gl ρ).bind λl=>(gh ρ).bind λh=>match d with
 |.lst ds=>some (cutD ds l h)
 |_=>none
theorem vH {lo hi:Option Expr}{gl gh:EnvD->Option (Option Int)}{p2:Pos}(he:DR X B e g)(hl:DO X B lo gl)(hh:DO X B hi gh):DA X B (.Subscript e (.Slice lo hi none p2) pos) (gSl g gl gh) :=
 zm (Wo Qd he hl hh) λσ H Q zz=>zz.el λF ρ d r hg k=>by
  unfold gSl at hg
  cases q:g ρ with
  |none=>rw[q] at hg;cases hg
  |some x=>
   cases ql:gl ρ with
   |none=>rw[q,ql] at hg;cases hg
   |some l=>
    cases qh:gh ρ with
    |none=>rw[q,ql,qh] at hg;cases hg
    |some h=>
     rw[q,ql,qh] at hg
     cases x with
     |lst ds=>
      cases hg
      refine⟨F,ρ,_,r,q,λv F1 H1 e1 p1=>⟨F1,ρ,l,r.ext e1,ql,λF2 H2 e2=>⟨F2,ρ,h,r.ext (e1.trans e2),qh,λF3 H3 e3=>?_⟩⟩⟩
      have e:=e1.trans (e2.trans e3)
      obtain⟨a,vs,rfl,h1,h2⟩:=((p1.mono e2.ff e2.hh).mono e3.ff e3.hh).lst e3.fh
      refine⟨a,vs,rfl,.of h1,λp hp=>k _ F3 _ (e.trans (.new e.fh hp)) ⟨p,_,rfl,e.hh.free hp,zi,e.fh.free hp,?_⟩⟩
      unfold cutD cutV
      rw[<-h2.length]
      exact (h2.drop _).take _
     |_=>cases hg
def CallOk {γ:Type}(K:KW)(r:List V->Hp->VK->Prop)(pc:Post γ)(f:List D->Option γ):Prop :=
 ∀F H vs ds d Q,Same F H->Paired (λd v=>Rq K F H d v) ds vs->f ds=some d->(∀v F' H',Ext F H F' H'->pc F H F' H' d v->Q v H')->r vs H Q
def gB {γ:Type}(f:List D->Option γ)(gs:EnvD->Option (List D)):EnvD->Option γ:=λρ=>(gs ρ).bind f
theorem callB {γ:Type}{r:List V->Hp->VK->Prop}{pc:Post γ}{f:List D->Option γ}(hb:Back pc)(hr:CallOk X.kw r pc f){σ:St}{H:Hp}{Q:VK}(h:lG X.kw B pc (gB f gs) σ H Q):tCB r (lAs X.kw B (pR X.kw) gs) σ H Q:=by
 refine Lq.el h λF ρ d rr hg k=>?_
 unfold gB at hg
 cases q:gs ρ with
 |none=>rw[q] at hg;cases hg
 |some ds=>
  rw[q] at hg
  exact⟨F,ρ,ds,rr,q,λvs F1 H1 e1 p1=>hr F1 H1 vs ds d Q e1.fh p1 hg λv F' H' e p=>k v F' H' (e1.trans e) (hb _ _ _ _ _ _ _ _ e1 p)⟩
variable {x:Str}{p:Pos}{id T:String}
theorem qD {r:List V->Hp->VK->Prop}{f:List D->Option D}(hc:CallR X (.builtin id) r)(hr:CallOk X.kw r (pE X.kw) f)(hg:Gl X x)(hm:X.mg x=none)(hv:bootBuiltins x=some (.builtin id))(ha:DRs X B (e::es) gs)(hn:x ≠ "__name__" := by decide) (hdb:(x==("__debug__" : Str))=false:=by decide)
  (he:starEach (e::es) X.env=(false,eval e X.env)::starEach es X.env:=by rfl) (hpl:(backTo pos (starEach es X.env)).any (·.1)=false:=by rfl):DE X B (.Call (.Name x p) (e::es) [] pos) (gB f gs) :=
 zm (jA hc hg hm hv ha hn hdb he hpl) λσ H Q h=>callB wj hr h
theorem QR {r:List V->Hp->VK->Prop}{f:List D->Option (List D)}(hc:CallR X (.type T) r)(hr:CallOk X.kw r (pA X.kw) f)(hg:Gl X x)(hm:X.mg x=none)(hv:bootBuiltins x=some (.type T))(ha:DRs X B (e::es) gs)(hn:x ≠ "__name__" := by decide) (hdb:(x==("__debug__" : Str))=false:=by decide)
  (he:starEach (e::es) X.env=(false,eval e X.env)::starEach es X.env:=by rfl) (hpl:(backTo pos (starEach es X.env)).any (·.1)=false:=by rfl):DA X B (.Call (.Name x p) (e::es) [] pos) (gB f gs) :=
 zm (Z6 hc hg hm hv ha hn hdb he hpl) λσ H Q h=>callB YC hr h
theorem WU {r:List V->Hp->VK->Prop}{f:List D->Option D}(hc:CallR X (.type T) r)(hr:CallOk X.kw r (pE X.kw) f)(hg:Gl X x)(hm:X.mg x=none)(hv:bootBuiltins x=some (.type T))(ha:DRs X B (e::es) gs)(hn:x ≠ "__name__" := by decide) (hdb:(x==("__debug__" : Str))=false:=by decide)
  (he:starEach (e::es) X.env=(false,eval e X.env)::starEach es X.env:=by rfl) (hpl:(backTo pos (starEach es X.env)).any (·.1)=false:=by rfl):DE X B (.Call (.Name x p) (e::es) [] pos) (gB f gs) :=
 zm (Z6 hc hg hm hv ha hn hdb he hpl) λσ H Q h=>callB wj hr h
def fLen:List D->Option D
 | [.lst ds]=>some (.int ds.length)
 | [.tup ds]=>some (.int ds.length)
 | [.scr ns]=>some (.int ns.length)
 | [.str x]=>if x.length<=TOP then some (.int x.length) else none
 |_=>none
theorem pair1 {R:D->V->Prop}{d:D}{vs:List V}(h:Paired R [d] vs):∃v,vs=[v]/\R d v:=by
 cases h with
 |cons r t=>cases t;exact⟨_,rfl,r⟩
theorem pair2 {R:D->V->Prop}{d d':D}{vs:List V}(h:Paired R [d,d'] vs):∃v v',vs=[v,v']/\R d v/\R d' v':=by
 cases h with
 |cons r t=>
  obtain⟨v',rfl,r'⟩:=pair1 t
  exact⟨_,v',rfl,r,r'⟩
theorem J0 {K:KW}:CallOk K (λxs H Q=>∃x n,xs=[x]/\LenV K x H n/\Q (.int n) H) (pE K) fLen:=by
 intro F H vs ds d Q s hp e k
 unfold fLen at e
 split at e
 ·cases e
  obtain⟨v,rfl,r⟩:=pair1 hp
  obtain⟨a,ws,rfl,h1,h2⟩:=r.lst s
  exact⟨_,_,rfl,.inl ⟨ws,.of h1,h2.length⟩,k _ F H (.refl s) rfl⟩
 ·cases e
  obtain⟨v,rfl,r⟩:=pair1 hp
  obtain⟨a,ws,rfl,h1,h2⟩:=r.tup s
  exact⟨_,_,rfl,.inr ⟨ws,.of h1,h2.length⟩,k _ F H (.refl s) rfl⟩
 ·cases e
  obtain⟨v,rfl,r⟩:=pair1 hp
  obtain⟨a,rfl,h1⟩:=r.scr s
  exact⟨_,_,rfl,.inl ⟨_,h1,by simp⟩,k _ F H (.refl s) rfl⟩
 ·split at e
  ·rename_i hc
   cases e
   obtain⟨v,rfl,r⟩:=pair1 hp
   cases r.str
   exact⟨_,_,rfl,⟨y9 hc,rfl⟩,k _ F H (.refl s) rfl⟩
  ·cases e
 ·cases e
def fMin:List D->Option D
 | [.int i,.int j]=>some (.int (if j < i then j else i))
 |_=>none
theorem Kq {K:KW}:CallOk K (λxs H Q=>∃i j,xs=[.int i,.int j]/\Q (.int (if j < i then j else i)) H) (pE K) fMin:=by
 intro F H vs ds d Q s hp e k
 unfold fMin at e
 split at e
 ·cases e
  obtain⟨v,v',rfl,r,r'⟩:=pair2 hp
  cases r.int;cases r'.int
  exact⟨_,_,rfl,k _ F H (.refl s) rfl⟩
 ·cases e
end
section
variable {X:Cx}{B:Bs}{e a b c:Expr}{es:List Expr}{pos p p2:Pos}{g ga gb:EnvD->Option D}{gs:EnvD->Option (List D)}
def tyD:D->Option String
 |.non=>some "NoneType"
 |.bl _=>some "bool"
 |.int _=>some "int"
 |.str _=>some "str"
 |.lst _=>some "list"
 |.tup _=>some "tuple"
 |.scr _=>none
 |.obj _ _ _=>none
 |.emp=>some "dict"
 |.xc (.dic _ _)=>some "dict"
 |.xc (.exc _ _)=>none
def subT (t T:String):Option Bool:=if t=T then some true else if t = "bool" /\ T = "int" then some true else if (t∈["NoneType","bool","int","str","list","tuple","dict"])/\(T∈["bool","int","str","list","tuple","dict"]) then some false else none
theorem KF {K:KW}{F H:Hp}(s:Same F H){d:D}{v:V}{t:String}(r:Rq K F H d v)(h:tyD d=some t):TyOf K H v (.type t):=by
 cases d with
 |non=>cases r.non;cases h;exact .non
 |bl x=>cases r.bl;cases h;exact .bl x
 |int x=>cases r.int;cases h;exact .int x
 |str x=>cases r.str;cases h;exact .str x
 |lst ds=>obtain⟨a,vs,rfl,q,_⟩:=r.lst s;cases h;exact .lst q
 |tup ds=>obtain⟨a,vs,rfl,q,_⟩:=r.tup s;cases h;exact .tup q
 |scr ns=>cases h
 |obj C f ds=>cases h
 |emp=>obtain⟨a,rfl,q⟩:=r.one λ_ z=>(nomatch z);cases h;exact .dK (s _ _ q)
 |xc x=>
  cases x with
  |dic k i=>obtain⟨a,rfl,q⟩:=r.one λ_ z=>(nomatch z);cases h;exact .dK (s _ _ q)
  |exc C fs=>cases h
def gIs (T:String)(g:EnvD->Option D):EnvD->Option D:=λρ=>(g ρ).bind λd=>(tyD d).bind λt=>(subT t T).map D.bl
theorem Vx {T:String}(hk:∀t b,subT t T=some b->kitOne X.kw (.type t) (.type T)=some b) :
  CallR X (.builtin "isinstance") (λxs H Q=>∃x t b,xs=[x,.ty T]/\TyOf X.kw H x (.type t)/\subT t T=some b/\Q (.bl b) H):=by
 intro pins s σ H vs us Q I r h
 obtain⟨x,t,b,rfl,ty,hb,q⟩:=h
 obtain⟨u,w,rfl,ru,rw'⟩:=vals2 r
 cases rw'
 exact Qc I ru ty (hk t b hb) λtk=>⟨.bl b,H,I.tok tk,rfl,q⟩
theorem jg {T:String}{x:Str}(hk:∀t b,subT t T=some b->kitOne X.kw (.type t) (.type T)=some b)(hg:Gl X "isinstance") (hm:X.mg "isinstance" = none) (hgT:Gl X x) (hmT:X.mg x=none) (hvT:bootBuiltins x=some (.type T)) (ha:DR X B a g)
  (hnT:x ≠ "__name__" := by decide) (hdT:(x==("__debug__" : Str))=false:=by decide)
  (he:starEach [a,.Name x p2] X.env=(false,eval a X.env)::starEach [.Name x p2] X.env:=by rfl) (he2:starEach [.Name x p2] X.env=(false,eval (.Name x p2) X.env)::starEach [] X.env:=by rfl) (hpl:(backTo pos (starEach [.Name x p2] X.env)).any (·.1)=false:=by rfl) :
  DE X B (.Call (.Name "isinstance" p) [a,.Name x p2] [] pos) (gIs T g) :=
 zm (jA (Vx (T:=T) hk) hg hm (by decide +kernel) (zM ha (zM (uX hgT hmT hvT (v:=.ty T) rfl hnT hdT) yd he2) he) (by decide) (by decide) he hpl) λσ H Q zz=>zz.el λF ρ d r hg k=>by
  unfold gIs at hg
  cases q:g ρ with
  |none=>rw[q] at hg;cases hg
  |some x=>
   rw[q] at hg
   have hg:((tyD x).bind λt=>(subT t T).map D.bl)=some d:=hg
   cases q2:tyD x with
   |none=>rw[q2] at hg;cases hg
   |some t=>
    rw[q2] at hg
    have hg:(subT t T).map D.bl=some d:=hg
    cases q3:subT t T with
    |none=>rw[q3] at hg;cases hg
    |some y=>
     rw[q3] at hg
     cases hg
     exact⟨F,ρ,x,r,q,λv F1 H1 e1 p1=>⟨v,t,y,rfl,KF e1.fh p1 q2,q3,k _ F1 H1 e1 rfl⟩⟩
theorem U5 (hc:X.calm=true):CallR X (.builtin "all") (λxs H Q=>∃(a:Addr) (bs:List Bool),xs=[.ref a]/\SqL X.kw H a (bs.map V.bl)/\Q (.bl (bs.all λx=>x)) H):=by
 intro pins s σ H vs us Q I r h
 obtain⟨a,bs,rfl,hq,q⟩:=h
 obtain⟨u,rfl,ru⟩:=vals1 r
 cases ru
 obtain⟨its,rv,pl,hz⟩:=I.list hq
 have hlt:a < s.heap.objs.size:=let ⟨o,n,e,_⟩:=pl;Heap.lt_size e
 have hl:bs.length=its.length:=by have:=rv.length;simpa using this
 refine call_all_walk (wpAny_pyIter_list pl.isList ⟨s.heap.objs.size,_,_,_,_,_,λi=>bs.getD i false,rfl,Walks.list (A:=X.A.in1) (I.ok.hd hc) s.heap.objs.size a (Nat.ne_of_lt hlt) its.toArray,⟨⟨_,Heap.get?_push_size _ rfl,rfl,rfl⟩,?_⟩,?_,λh' tk hk=>?_⟩)
 ·obtain⟨o,n,e,c1,c2,c3⟩:=pl
  exact⟨o,Heap.get?_push_of_some _ e,c1,n,c3⟩
 ·intro i v s' Q' E' hv hq'
  have hv:its[i]?=some v:=by simpa using hv
  have hi:i < bs.length:=by rw[hl];exact (List.getElem?_eq_some_iff.mp hv).1
  have hb:(bs.map V.bl)[i]?=some (.bl bs[i]):=by simp[hi]
  obtain⟨u,hu,ru⟩:=rv.get hb
  rw[hv] at hu;cases hu
  cases ru
  have e:bs.getD i false=bs[i]:=by simp[List.getD,hi]
  have hq':Q' (bs.getD i false) s':=hq'
  rw[e] at hq'
  exact wpAny_truthy_bool hq'
 ·have e:((List.range its.toArray.size).all λi=>bs.getD i false)=bs.all λx=>x:=by
   rw[List.size_toArray,<-hl,Bool.eq_iff_iff]
   simp only[List.all_eq_true,List.mem_range]
   constructor
   ·intro h x hx
    obtain⟨i,hi,e⟩:=List.mem_iff_getElem.mp hx
    have:=h i hi
    simpa[List.getD,hi,e] using this
   ·intro h i hi
    have:=h bs[i] (List.getElem_mem hi)
    simpa[List.getD,hi] using this
  rw[e]
  refine⟨.bl (bs.all λx=>x),H,I.kept (t':=tk) λb o e=>hk b o (λz=>?_) (Heap.get?_push_of_some _ e),rfl,q⟩
  have:b=s.heap.objs.size:=by simpa using z
  exact absurd (Heap.lt_size e) (by rw[this];exact Nat.lt_irrefl _)
def asBs:List D->Option (List Bool)
 | []=>some []
 |.bl b::r=>(asBs r).map (b::·)
 |_=>none
theorem YQ {K:KW}{F:Hp}:∀ {ds:List D} {vs:List V} {bs:List Bool},asBs ds=some bs->Rps K F ds vs->vs=bs.map V.bl
 | [],_,_,e,h=>by cases e;cases h;rfl
 |.bl b::r,_,_,e,⟨v,w,e1,h,t⟩=>by
  subst e1;cases h
  cases q:asBs r with
  |none=>rw[show asBs (.bl b::r)=(asBs r).map (b::·) from rfl,q] at e;cases e
  |some bs=>
   rw[show asBs (.bl b::r)=(asBs r).map (b::·) from rfl,q] at e
   cases e
   rw[YQ q t];rfl
 |.non::_,_,_,e,_=>by cases e
 |.int _::_,_,_,e,_=>by cases e
 |.str _::_,_,_,e,_=>by cases e
 |.lst _::_,_,_,e,_=>by cases e
 |.tup _::_,_,_,e,_=>by cases e
 |.scr _::_,_,_,e,_=>by cases e
 |.obj _ _ _::_,_,_,e,_=>by cases e
 |.emp::_,_,_,e,_=>by cases e
 |.xc _::_,_,_,e,_=>by cases e
def fAll:List D->Option D
 | [.lst ds]=>(asBs ds).map λbs=>.bl (bs.all λx=>x)
 |_=>none
theorem QS {K:KW}:CallOk K (λxs H Q=>∃(a:Addr) (bs:List Bool),xs=[.ref a]/\SqL K H a (bs.map V.bl)/\Q (.bl (bs.all λx=>x)) H) (pE K) fAll:=by
 intro F H vs ds d Q s hp e k
 unfold fAll at e
 split at e
 ·rename_i ds
  obtain⟨v,rfl,r⟩:=pair1 hp
  obtain⟨a,ws,rfl,h1,h2⟩:=r.lst s
  cases q:asBs ds with
  |none=>rw[q] at e;cases e
  |some bs=>
   rw[q] at e
   cases e
   have:=YQ q h2
   subst this
   exact⟨a,bs,rfl,.of h1,k _ F H (.refl s) rfl⟩
 ·cases e
theorem Gi:CallR X (.type "list") (λxs H Q=>∃a vs,xs=[.ref a]/\(SqL X.kw H a vs∨SqT X.kw H a vs)/\∀p,H p=none->Q (.ref p) (upd H p (.lst vs))):=by
 intro pins s σ H vs us Q I r h
 obtain⟨a,ws,rfl,hq,q⟩:=h
 obtain⟨u,rfl,ru⟩:=vals1 r
 cases ru
 have fin:∀ {T:String} {o:Obj} {its:List Value} {n:Nat},(T = "list" ∨ T = "tuple")->s.heap.get? a=some o->o.cls=.type T->o.data=.seq its.toArray n->Vals ws its->ws.length<=sizeLine->wpAny (model X.prog X.w) X.A (call (.type "list") [.ref a]) (EP X pins σ Q) X.xe s:=by
  intro T o its n hT ho hc hd rv hz
  have hl:=rv.length
  refine call_list_seq a hT ho hc hd (λh' c' hk hn=>?_) (by rw[List.size_toArray,<-hl];exact hz)
  exact⟨.ref s.heap.objs.size,upd H s.heap.objs.size (.lst ws),I.laid (t':=s.toks) hk (Nat.le_refl _) ⟨hz,its,c',rv,hn⟩,rfl,q _ (I.hok.fresh (Nat.le_refl _))⟩
 rcases hq with hq | hq
 ·obtain⟨its,rv,⟨o,n,e,c1,c2,c3⟩,hz⟩:=I.list hq
  exact fin (.inl rfl) e c1 c3 rv hz
 ·obtain⟨its,rv,⟨o,e,c1,n,c3⟩,hz⟩:=I.tuple hq
  exact fin (.inr rfl) e c1 c3 rv hz
def fList:List D->Option (List D)
 | [.lst ds]=>some ds
 | [.tup ds]=>some ds
 | [.scr ns]=>some (ns.map D.int)
 |_=>none
theorem JU {K:KW}:CallOk K (λxs H Q=>∃a vs,xs=[.ref a]/\(SqL K H a vs∨SqT K H a vs)/\∀p,H p=none->Q (.ref p) (upd H p (.lst vs))) (pA K) fList:=by
 intro F H vs ds d Q s hp e k
 unfold fList at e
 split at e
 ·cases e
  obtain⟨v,rfl,r⟩:=pair1 hp
  obtain⟨a,ws,rfl,h1,h2⟩:=r.lst s
  exact⟨a,ws,rfl,.inl (.of h1),λp hp=>k _ F _ (.new s hp) ⟨p,ws,rfl,hp,zi,s.free hp,h2⟩⟩
 ·cases e
  obtain⟨v,rfl,r⟩:=pair1 hp
  obtain⟨a,ws,rfl,h1,h2⟩:=r.tup s
  exact⟨a,ws,rfl,.inr (.of h1),λp hp=>k _ F _ (.new s hp) ⟨p,ws,rfl,hp,zi,s.free hp,h2⟩⟩
 ·cases e
  obtain⟨v,rfl,r⟩:=pair1 hp
  obtain⟨a,rfl,h1⟩:=r.scr s
  exact⟨a,_,rfl,.inl h1,λp hp=>k _ F _ (.new s hp) ⟨p,_,rfl,hp,zi,s.free hp,Rps.ints _⟩⟩
 ·cases e
def ArgE (K:KW)(F H:Hp):En->V->Prop
 |.val d,v=>Rp K F d v
 |.bor ds,v=>∃a vs,v=.ref a/\H a=some (.lst vs)/\Rps K F ds vs
 |.dbo kvs,v=>∃a ob vs,v=.ref a/\H a=some (DX K.w a ob vs)/\Rkv K F kvs vs
 |.exn a,v=>v=.ref a
 |.mbo t,v=>RepM K F H t v
 |_,_=>False
theorem ArgE.ext {K:KW}{F H F' H':Hp}(e:Ext F H F' H'):∀ {x:En} {v:V},ArgE K F H x v->ArgE K F' H' x v
 |.val _,_,h=>Rp.mono e.ff h
 |.bor _,_,⟨a,vs,e1,e2,e3⟩=>⟨a,vs,e1,e.hh _ _ e2,e3.mono e.ff⟩
 |.acc _,_,h=>h
 |.oac _ _ _ _ _,_,h=>h
 |.tre _,_,h=>h
 |.dct _ _,_,h=>h
 |.dbo _,_,⟨a,ob,vs,e1,e2,e3⟩=>⟨a,ob,vs,e1,e.hh _ _ e2,e3.mono e.ff⟩
 |.exn _,_,h=>h
 |.obw _ _ _,_,h=>h
 |.loc _ _,_,h=>h
 |.mbo _,_,h=>RepM.ext e.ff e.hh h
def pN (K:KW):Post En:=λ_ _ F' H' x v=>ArgE K F' H' x v
def DN (X:Cx)(B:Bs)(e:Expr)(g:EnvD->Option En):Prop:=PE X e (lG X.kw B (pN X.kw) g)
def lNs (K:KW)(B:Bs)(g:EnvD->Option (List En)):TA:=λσ H Q=>
 Lq K B g σ H λF ρ xs=>∀vs F' H',Ext F H F' H'->Paired (λx v=>ArgE K F' H' x v) xs vs->Q vs H'
def DNs (X:Cx)(B:Bs)(es:List Expr)(g:EnvD->Option (List En)):Prop:=PA X es (lNs X.kw B g)
def gVal (g:EnvD->Option D):EnvD->Option En:=λρ=>(g ρ).map En.val
theorem zp (h:DE X B e g):DN X B e (gVal g):=zm h λσ H Q zz=>zz.el λF ρ x r hg k=>by
 unfold gVal at hg
 cases q:g ρ with
 |none=>rw[q] at hg;cases hg
 |some d=>rw[q] at hg;cases hg;exact⟨F,ρ,d,r,q,λv F' H' e p=>k v F' H' e p⟩
def gn (i:Nat):EnvD->Option En:=λρ=>match ρ[i]? with
 |some (some (.val d))=>some (.val d)
 |some (some (.acc ds))=>some (.bor ds)
 |some (some (.bor ds))=>some (.bor ds)
 |some (some (.dct _ kvs))=>some (.dbo kvs)
 |some (some (.dbo kvs))=>some (.dbo kvs)
 |_=>none
theorem zf (i:Nat){x:Str}(h:PE X (.Name x pos) (tVar i):=by exact pv _):DN X B (.Name x pos) (gn i) :=
 zm h λσ H Q zz=>zz.el λF ρ d r hg k=>by
  unfold gn at hg
  split at hg
  ·rename_i d' e
   cases hg
   obtain⟨v,h1,h2⟩:=r.ents i _ e
   exact⟨v,h1,k v F H (.refl r.fh) h2⟩
  ·rename_i ds e
   cases hg
   obtain⟨v,h1,a,vs,e1,e2,e3,e4,e5⟩:=r.ents i _ e
   exact⟨v,h1,k v F H (.refl r.fh) ⟨a,vs,e1,e2,e5⟩⟩
  ·rename_i ds e
   cases hg
   obtain⟨v,h1,a,vs,e1,e2,e5⟩:=r.ents i _ e
   exact⟨v,h1,k v F H (.refl r.fh) ⟨a,vs,e1,r.ex.hh _ _ e2,e5⟩⟩
  ·rename_i oa kvs e
   cases hg
   obtain⟨v,h1,a,ob,vs,e1,e2,e3,e4,e5,e6⟩:=r.ents i _ e
   exact⟨v,h1,k v F H (.refl r.fh) ⟨a,ob,vs,e1,e2,e5⟩⟩
  ·rename_i kvs e
   cases hg
   obtain⟨v,h1,a,ob,vs,e1,e2,e5⟩:=r.ents i _ e
   exact⟨v,h1,k v F H (.refl r.fh) ⟨a,ob,vs,e1,r.ex.hh _ _ e2,e5⟩⟩
  ·cases hg
def nNil:EnvD->Option (List En):=λ_=>some []
def nCons (g:EnvD->Option En)(gs:EnvD->Option (List En)):EnvD->Option (List En):=λρ=>(g ρ).bind λd=>(gs ρ).bind λds=>some (d::ds)
variable {gx:EnvD->Option En}{gxs:EnvD->Option (List En)}
theorem zj:DNs X B [] nNil:=yH yd λσ H Q zz=>zz.el λF ρ ds r hg k=>by cases hg;exact k [] F H (.refl r.fh) .nil
theorem zc (ha:DN X B e gx)(hr:DNs X B es gxs)(hs:starEach (e::es) X.env=(false,eval e X.env)::starEach es X.env:=by rfl):DNs X B (e::es) (nCons gx gxs) :=
 yH (zM ha hr hs) λσ H Q zz=>zz.el λF ρ ds r hg k=>by
  obtain⟨d,dr,q1,q2,q3⟩:=bind2 hg
  cases q3
  exact⟨F,ρ,d,r,q1,λv F1 H1 e1 p1=>⟨F1,ρ,dr,r.ext e1,q2,λvs F2 H2 e2 p2=>k _ F2 H2 (e1.trans e2) (.cons (ArgE.ext e2 p1) p2)⟩⟩
def pSp (K:KW)(n:Nat)(m:List En->Option En):Sp:=λvs H Q _=>
 ∃F xs o,Same F H/\xs.length=n/\Paired (λx v=>ArgE K F H x v) xs vs/\m xs=some o/\∀v F' H',Ext F H F' H'->RepE K ⟨F,H⟩ F' H' o v->Q v H'
def frzO:En->Option D
 |.val d=>some d
 |.acc ds=>some (.lst ds)
 |.tre t=>some t.erase
 |_=>none
def accO:En->Option (List D)
 |.acc ds=>some ds
 |_=>none
theorem ZN {K:KW}{F H F' H':Hp}{o:En}{d:D}{v:V}(hd:frzO o=some d)(e:Ext F H F' H')(r:RepE K ⟨F,H⟩ F' H' o v):∃F2,Ext F H F2 H'/\Rp K F2 d v:=by
 cases o with
 |val x=>cases hd;exact⟨F',e,r⟩
 |acc ds=>
  cases hd
  obtain⟨a,vs,rfl,h1,h2,h3,h4⟩:=r
  exact⟨upd F' a (.lst vs),e.freeze h3 h2 h1,⟨a,vs,rfl,zi,h4.mono (zX h2)⟩⟩
 |tre t=>
  cases hd
  obtain⟨r1,r2,r3⟩:=r
  have sf:Same F' (addF F' H' (feetO H' t v)):=wL λa ha=>(r3 a ha).1
  refine⟨addF F' H' (feetO H' t v),⟨e.ff.trans sf,e.hh,λb u q=>?_,λb q=>?_⟩,RepO.fz sf r1 λa ha=>ha⟩
  ·unfold addF at q
   split at q
   ·exact q
   ·exact e.fh b u q
  ·unfold addF at q
   split at q
   ·rename_i hb;exact .inr (r3 b hb).2
   ·exact e.nw b q
 |_=>cases hd
def gCall {α:Type}(m:List En->Option En)(f:En->Option α)(gs:EnvD->Option (List En)):EnvD->Option α:=λρ=>((gs ρ).bind m).bind f
theorem bindC {α:Type}{m:List En->Option En}{f:En->Option α}{gs:EnvD->Option (List En)}{ρ:EnvD}{y:α}(h:gCall m f gs ρ=some y):∃xs o,gs ρ=some xs/\m xs=some o/\f o=some y:=by
 unfold gCall at h
 cases q:gs ρ with
 |none=>rw[q] at h;cases h
 |some xs=>
  rw[q] at h
  cases q2:m xs with
  |none=>rw[show (some xs).bind m=m xs from rfl,q2] at h;cases h
  |some o=>rw[show (some xs).bind m=m xs from rfl,q2] at h;exact⟨xs,o,rfl,q2,h⟩
theorem xy {α β:Type}{R:α->β->Prop}{l:List α}{r:List β}(h:Paired R l r):l.length=r.length:=Paired.length h
theorem VO {n:Nat}{m:List En->Option En}(hm:∀xs o,m xs=some o->xs.length=n){E:XK}{σ:St}{H:Hp}{Q:VK}(h:lG X.kw B (pE X.kw) (gCall m frzO gxs) σ H Q):tCall (pSp X.kw n m) [] E (lNs X.kw B gxs) σ H Q:=by
 refine Lq.el h λF ρ d r hg k=>?_
 obtain⟨xs,o,q1,q2,q3⟩:=bindC hg
 refine⟨F,ρ,xs,r,q1,λvs F1 H1 e1 p1=>?_⟩
 show pSp X.kw n m (vs++[]) H1 Q E
 rw[List.append_nil]
 refine⟨F1,xs,o,e1.fh,hm xs o q2,p1,q2,λv F2 H2 e2 p2=>?_⟩
 obtain⟨F3,e3,p3⟩:=ZN q3 e2 p2
 exact k v F3 H2 (e1.trans e3) p3
theorem U8 {n:Nat}{m:List En->Option En}(hm:∀xs o,m xs=some o->xs.length=n){E:XK}{σ:St}{H:Hp}{Q:VK}(h:lG X.kw B (pA X.kw) (gCall m accO gxs) σ H Q):tCall (pSp X.kw n m) [] E (lNs X.kw B gxs) σ H Q:=by
 refine Lq.el h λF ρ d r hg k=>?_
 obtain⟨xs,o,q1,q2,q3⟩:=bindC hg
 refine⟨F,ρ,xs,r,q1,λvs F1 H1 e1 p1=>?_⟩
 show pSp X.kw n m (vs++[]) H1 Q E
 rw[List.append_nil]
 refine⟨F1,xs,o,e1.fh,hm xs o q2,p1,q2,λv F2 H2 e2 p2=>?_⟩
 cases o with
 |acc ds=>
  cases q3
  obtain⟨a,ws,h1,h2,h3,h4,h5⟩:=p2
  exact k v F2 H2 (e1.trans e2) ⟨a,ws,h1,e1.hh.free h4,h2,h3,h5⟩
 |_=>cases q3
def len? (n:Nat)(m:List En->Option En):List En->Option En:=λxs=>if xs.length=n then m xs else none
theorem kr {n:Nat}{m:List En->Option En}:∀xs o,len? n m xs=some o->xs.length=n:=λxs o h=>by
 unfold len? at h
 split at h
 ·assumption
 ·cases h
variable {x mm:Str}{f C:Addr}{fd:FuncData}{ps:List Str}{n k:Nat}{m:List En->Option En}{apos:Pos}{o:Expr}
theorem Kp (F:FnOk X.prog X.w X.kw X.mg X.base CX0 k f fd ps (pSp X.kw n (len? n m)))(hr:Room k X.A)(hg:Gl X x)(hm:X.mg x=some (.ref f))(hk:keepIn X.kw (.ref f)=true)(hb:Binds X.kw fd ps [])
  (ha:DNs X B (e::es) gxs) (hdb:(x==("__debug__" : Str))=false:=by decide) (he:starEach (e::es) X.env=(false,eval e X.env)::starEach es X.env:=by rfl) (hpl:(backTo pos (starEach es X.env)).any (·.1)=false:=by rfl) :
  DE X B (.Call (.Name x p) (e::es) [] pos) (gCall (len? n m) frzO gxs) :=
 zm (jr F hr hg hm hk hb .nil pass0 ha hdb he hpl) λσ H Q h=>VO kr h
theorem Qs (F:FnOk X.prog X.w X.kw X.mg X.base CX0 k f fd ps (pSp X.kw n (len? n m)))(hr:Room k X.A)(hg:Gl X x)(hm:X.mg x=some (.ref f))(hk:keepIn X.kw (.ref f)=true)(hb:Binds X.kw fd ps [])
  (ha:DNs X B (e::es) gxs) (hdb:(x==("__debug__" : Str))=false:=by decide) (he:starEach (e::es) X.env=(false,eval e X.env)::starEach es X.env:=by rfl) (hpl:(backTo pos (starEach es X.env)).any (·.1)=false:=by rfl) :
  DA X B (.Call (.Name x p) (e::es) [] pos) (gCall (len? n m) accO gxs) :=
 zm (jr F hr hg hm hk hb .nil pass0 ha hdb he hpl) λσ H Q h=>U8 kr h
end
def lookZ {α:Type}(f:Str):List Str->List α->Option α
 |k::ks,x::xs=>if f=k then some x else lookZ f ks xs
 |_,_=>none
def putZ {α:Type}(f:Str)(a:α):List Str->List α->List Str×List α
 |k::ks,x::xs=>if k=f then (k::ks,a::xs) else (k::(putZ f a ks xs).1,x::(putZ f a ks xs).2)
 |_,_=>([f],[a])
theorem jV {α:Type}{f:Str}:∀ {fs:List Str} {vs:List α},(fs.zip vs).lookup f=lookZ f fs vs
 | [],_=>by simp[lookZ]
 |_::_,[]=>by simp[lookZ]
 |k::ks,x::xs=>by
  rw[List.zip_cons_cons,List.lookup_cons]
  by_cases h:f=k
  ·subst h;simp[lookZ]
  ·rw[beq_eq_false_iff_ne.mpr h]
   simp only[lookZ,if_neg h]
   exact jV
theorem Zz {K:KW}{F:Hp}{f:Str}:∀ {fs:List Str} {ds:List D} {vs:List V} {d:D},Rps K F ds vs->lookZ f fs ds=some d->∃v,lookZ f fs vs=some v/\Rp K F d v
 | [],_,_,_,_,e=>by simp[lookZ] at e
 |_::_,[],_,_,_,e=>by simp[lookZ] at e
 |k::ks,x::xs,_,d,⟨v,r,e1,h,t⟩,e=>by
  subst e1
  simp only[lookZ] at e ⊢
  by_cases hk:f=k
  ·rw[if_pos hk] at e ⊢;cases e;exact⟨v,rfl,h⟩
  ·rw[if_neg hk] at e ⊢;exact Zz t e
theorem Yb {f:Str}{v:V}:∀ {fs:List Str} {vs:List V},fs.length=vs.length->putF f v (fs.zip vs)=(putZ f v fs vs).1.zip (putZ f v fs vs).2/\(putZ f v fs vs).1.length=(putZ f v fs vs).2.length
 | [],[],_=>⟨rfl,rfl⟩
 | [],_::_,h=>by simp at h
 |_::_,[],h=>by simp at h
 |k::ks,x::xs,h=>by
  obtain⟨i1,i2⟩:=Yb (f:=f) (v:=v) (fs:=ks) (vs:=xs) (by simpa using h)
  rw[List.zip_cons_cons]
  simp only[putF,putZ]
  by_cases hk:k=f
  ·rw[if_pos hk,if_pos hk]
   exact⟨rfl,by simpa using h⟩
  ·rw[if_neg hk,if_neg hk]
   exact⟨by rw[i1];rfl,by simpa using i2⟩
theorem YT {K:KW}{F:Hp}{f:Str}{d:D}{v:V}(hd:Rp K F d v):∀ {fs:List Str} {ds:List D} {vs:List V},fs.length=vs.length->Rps K F ds vs->(putZ f d fs ds).1=(putZ f v fs vs).1/\Rps K F (putZ f d fs ds).2 (putZ f v fs vs).2
 | [],ds,vs,_,r=>by
  cases ds<;>cases vs<;>exact⟨rfl,_,_,rfl,hd,rfl⟩
 |k::ks,[],_,h,r=>by cases r;simp at h
 |k::ks,x::xs,_,h,⟨w,r,e,hx,t⟩=>by
  subst e
  obtain⟨i1,i2⟩:=YT hd (fs:=ks) (by simpa using h) t
  simp only[putZ]
  by_cases hk:k=f
  ·rw[if_pos hk,if_pos hk];exact⟨rfl,_,_,rfl,hd,t⟩
  ·rw[if_neg hk,if_neg hk];exact⟨by rw[i1],_,_,rfl,hx,i2⟩
section
variable {X:Cx}{B:Bs}{e a b c o:Expr}{es:List Expr}{pos p apos:Pos}{g ga gb:EnvD->Option D}{gx:EnvD->Option En}{gxs:EnvD->Option (List En)}{C f:Addr}{fl mm x:Str}{fd:FuncData}{ps:List Str}{n k:Nat}{m:List En->Option En}
def gFld (C:Addr)(fl:Str)(g:EnvD->Option D):EnvD->Option D:=λρ=>(g ρ).bind λd=>match d with
 |.obj C' fs ds=>if C'=C then lookZ fl fs ds else none
 |_=>none
theorem KL {ρ:EnvD}{d:D}(h:gFld C fl g ρ=some d):∃fs ds,g ρ=some (.obj C fs ds)/\lookZ fl fs ds=some d:=by
 unfold gFld at h
 cases q:g ρ with
 |none=>rw[q] at h;cases h
 |some x=>
  rw[q] at h
  cases x with
  |obj C' fs ds=>
   replace h:(if C'=C then lookZ fl fs ds else none)=some d:=h
   by_cases e:C'=C
   ·rw[if_pos e] at h;subst e;exact⟨fs,ds,rfl,h⟩
   ·rw[if_neg e] at h;cases h
  |_=>cases h
theorem vd (cl:Cls X.kw C)(na:NoAttr X.kw C fl)(he:DE X B e g)(hb:attributeBase e fl X.env (eval e X.env)=eval e X.env:=by rfl):DE X B (.Attribute e fl pos) (gFld C fl g) :=
 zm (Gy he hb) λσ H Q zz=>zz.el λF ρ d r hg k=>by
  obtain⟨fs,ds,q,hl⟩:=KL hg
  refine⟨F,ρ,_,r,q,λv F1 H1 e1 p1=>?_⟩
  obtain⟨a,dx,vs,rfl,h1,h2,h3⟩:=p1
  obtain⟨w,h4,h5⟩:=Zz h3 hl
  exact⟨a,C,dx,_,w,rfl,e1.fh _ _ h1,cl,na,by rw[jV];exact h4,k w F1 H1 e1 h5⟩
def gMeth {α:Type}(C:Addr)(mm:Str)(m:List En->Option En)(f:En->Option α)(go:EnvD->Option D)(gs:EnvD->Option (List En)):EnvD->Option α:=λρ=>(go ρ).bind λd=>match d with
 |.obj C' fs ds=>if C'=C/\lookZ mm fs ds=none then ((gs ρ).bind λxs=>m (.val d::xs)).bind f else none
 |_=>none
theorem K5 {α:Type}{f:En->Option α}{go:EnvD->Option D}{gs:EnvD->Option (List En)}{ρ:EnvD}{y:α}(h:gMeth C mm m f go gs ρ=some y) :
  ∃fs ds xs o,go ρ=some (.obj C fs ds)/\lookZ mm fs ds=none/\gs ρ=some xs/\m (.val (.obj C fs ds)::xs)=some o/\f o=some y:=by
 unfold gMeth at h
 cases q:go ρ with
 |none=>rw[q] at h;cases h
 |some x=>
  rw[q] at h
  cases x with
  |obj C' fs ds=>
   replace h:(if C'=C/\lookZ mm fs ds=none then ((gs ρ).bind λxs=>m (.val (.obj C' fs ds)::xs)).bind f else none)=some y:=h
   by_cases e:C'=C/\lookZ mm fs ds=none
   ·rw[if_pos e] at h
    obtain⟨e,hl⟩:=e
    subst e
    cases q2:gs ρ with
    |none=>rw[q2] at h;cases h
    |some xs=>
     rw[q2] at h
     replace h:(m (.val (.obj C' fs ds)::xs)).bind f=some y:=h
     cases q3:m (.val (.obj C' fs ds)::xs) with
     |none=>rw[q3] at h;cases h
     |some o=>rw[q3] at h;exact⟨fs,ds,xs,o,rfl,hl,rfl,q3,h⟩
   ·rw[if_neg e] at h;cases h
  |_=>cases h
theorem ua {α β:Type}{f:Str}:∀ {fs:List Str} {ds:List α} {vs:List β},ds.length=vs.length->lookZ f fs ds=none->lookZ f fs vs=none
 | [],_,_,_,_=>by simp[lookZ]
 |_::_,[],vs,h,_=>by
  cases vs with
  |nil=>simp[lookZ]
  |cons=>simp at h
 |_::_,_::_,[],h,_=>by simp at h
 |k::ks,x::xs,v::vs,h,e=>by
  simp only[lookZ] at e ⊢
  by_cases hk:f=k
  ·rw[if_pos hk] at e;cases e
  ·rw[if_neg hk] at e ⊢;exact ua (by simpa using h) e
theorem Kv {E:XK}{σ:St}{H:Hp}{Q:VK}(h:lG X.kw B (pE X.kw) (gMeth C mm (len? n m) frzO g gxs) σ H Q):tMeth C mm (pSp X.kw n (len? n m)) [] E (lG X.kw B (pE X.kw) g) (lNs X.kw B gxs) σ H Q:=by
 refine Lq.el h λF ρ d r hg k=>?_
 obtain⟨fs,ds,xs,o,q1,q2,q3,q4,q5⟩:=K5 hg
 refine⟨F,ρ,_,r,q1,λv F1 H1 e1 p1=>?_⟩
 obtain⟨a,dx,vs,rfl,h1,h2,h3⟩:=id p1
 refine⟨a,dx,_,rfl,e1.fh _ _ h1,by rw[jV];exact ua h3.length q2,F1,ρ,xs,r.ext e1,q3,λws F2 H2 e2 p2=>?_⟩
 show pSp X.kw n (len? n m) (.ref a::(ws++[])) H2 Q E
 rw[List.append_nil]
 refine⟨F2,_,o,e2.fh,kr _ _ q4,.cons (Rp.mono e2.ff p1) p2,q4,λw F3 H3 e3 p3=>?_⟩
 obtain⟨F4,e4,p4⟩:=ZN q5 e3 p3
 exact k w F4 H3 (e1.trans (e2.trans e4)) p4
theorem J7 {pl:Sem Bool}(ho:DE X B o g)(c:Cls X.kw C)(hm:Meth X.kw C mm f)(F:FnOk X.prog X.w X.kw X.mg X.base CX0 k f fd ps (pSp X.kw n (len? n m)))(hr:Room k X.A)(hb:Binds X.kw fd ps [])(ha:DNs X B (e::es) gxs)
  (hst:starEach (e::es) X.env=(false,eval e X.env)::starEach es X.env:=by rfl) (hpl:(backTo pos (starEach es X.env)).any (·.1)=false:=by rfl)
  (ht:eval (.Call (.Attribute o mm apos) (e::es) [] pos) X.env=(do
   let ov <-eval o X.env
   standAt apos.atName
   let (f,first) <-holding [ov] (getMethod ov mm pl)
   callWith pos f first (backTo pos (starEach (e::es) X.env)) (backToKw pos (keywordEach [] X.env))):=by rfl) :
  DE X B (.Call (.Attribute o mm apos) (e::es) [] pos) (gMeth C mm (len? n m) frzO g gxs) :=
 zm (Ui ho c hm F hr hb .nil pass0 ha hst hpl ht) λσ H Q h=>Kv h
def iSp (K:KW)(C:Addr)(n:Nat)(mi:Addr->Addr->List En->Option (List Str×List D)):Sp:=λvs H Q _=>
 ∃F H1 xs x dx vs' fs ds,vs=.ref x::vs'/\H1 x=none/\H1 dx=none/\dx≠x/\H=upd (upd H1 dx (.own x)) x (.ins C dx [])/\Same F H1/\xs.length=n/\Paired (λy v=>ArgE K F H1 y v) xs vs'/\mi x dx xs=some (fs,ds) /\
  ∀F' H' us,Ext F H1 F' H'->F' x=none->H' x=some (.ins C dx (fs.zip us))->fs.length=us.length->Rps K F' ds us->(H' dx=some (.own x)/\F' dx=none)->Q .non H'
def gMake (C:Addr)(n:Nat)(mi:List En->Option (List Str×List D))(gs:EnvD->Option (List En)):EnvD->Option D:=λρ=>(gs ρ).bind λxs=>if xs.length=n then (mi xs).map λr=>.obj C r.1 r.2 else none
theorem VJ {mi:List En->Option (List Str×List D)}{mi':Addr->Addr->List En->Option (List Str×List D)}(hmi:∀x dx xs,mi' x dx xs=mi xs)(M:Mk X.kw C f)(F:FnOk X.prog X.w X.kw X.mg X.base CX0 k f fd ps (iSp X.kw C n mi'))(hr:Room (k+1) X.A)(hg:Gl X x)(hm:X.mg x=some (.ref C))(hb:Binds X.kw fd ps [])
  (ha:DNs X B (e::es) gxs) (hdb:(x==("__debug__" : Str))=false:=by decide) (he:starEach (e::es) X.env=(false,eval e X.env)::starEach es X.env:=by rfl) (hpl:(backTo pos (starEach es X.env)).any (·.1)=false:=by rfl) :
  DE X B (.Call (.Name x p) (e::es) [] pos) (gMake C n mi gxs) :=
 zm (Km M F hr hg hm hb .nil pass0 ha hdb he hpl) λσ H Q zz=>zz.el λF ρ d r hg k=>by
  unfold gMake at hg
  cases q:gxs ρ with
  |none=>rw[q] at hg;cases hg
  |some xs=>
   rw[q] at hg
   have hg:(if xs.length=n then (mi xs).map (λr=>D.obj C r.1 r.2) else none)=some d:=hg
   split at hg
   ·rename_i hl
    cases q2:mi xs with
    |none=>rw[q2] at hg;cases hg
    |some fr=>
     rw[q2] at hg
     cases hg
     refine⟨F,ρ,xs,r,q,λvs F1 H1 e1 p1 x dx nx ndx nex=>?_⟩
     show iSp X.kw C n mi' (.ref x::(vs++[])) _ _ _
     rw[List.append_nil]
     refine⟨F1,H1,xs,x,dx,vs,fr.1,fr.2,rfl,nx,ndx,nex,rfl,e1.fh,hl,p1,by rw[hmi];exact q2,λF2 H2 us e2 h1 h2 h3 h4 _=>⟨rfl,?_⟩⟩
     exact k _ (upd F2 x (.ins C dx (fr.1.zip us))) H2 (e1.trans (e2.freeze nx h1 h2)) ⟨x,dx,us,rfl,zi,h3,h4.mono (zX h1)⟩
   ·cases hg
end
inductive Fl where
 |next (ρ:EnvD) | ret (o:En) | brk (ρ:EnvD) | cont (ρ:EnvD)
def Fl.ok (K:KW)(B:Bs)(F:Hp)(E:Ends):Fl->Prop
 |.next ρ=>∀σ' F' H',Rep K B F' σ' H' ρ->Same F F'->E.nx σ' H'
 |.brk ρ=>∀σ' F' H',Rep K B F' σ' H' ρ->Same F F'->E.bk σ' H'
 |.cont ρ=>∀σ' F' H',Rep K B F' σ' H' ρ->Same F F'->E.ct σ' H'
 |.ret o=>∀v F' H',Ext B.F0 B.H0 F' H'->RepE K B F' H' o v->E.rt v H'
abbrev SD:=EnvD->Option Fl
def lS (K:KW)(B:Bs)(g:SD):TS:=λE σ H=>Lq K B g σ H λF ρ fl=>fl.ok K B F E
def DS (X:Cx)(B:Bs)(st:Stmt)(g:SD):Prop:=PS X st (lS X.kw B g)
def DSs (X:Cx)(B:Bs)(sts:List Stmt)(g:SD):Prop:=PSs X sts (lS X.kw B g)
theorem Fl.ok.mono {K:KW}{B:Bs}{F F':Hp}{E:Ends}{fl:Fl}(s:Same F F')(h:fl.ok K B F E):fl.ok K B F' E:=by
 cases fl with
 |next ρ=>exact λσ' F2 H' r s2=>h σ' F2 H' r (s.trans s2)
 |brk ρ=>exact λσ' F2 H' r s2=>h σ' F2 H' r (s.trans s2)
 |cont ρ=>exact λσ' F2 H' r s2=>h σ' F2 H' r (s.trans s2)
 |ret o=>exact h
section
variable {X:Cx}{B:Bs}{e a b c o:Expr}{es:List Expr}{st:Stmt}{rest:List Stmt}{pos p apos:Pos}{g ga gb:EnvD->Option D}{gl:EnvD->Option (List D)}{gs1 gs2:SD}{x:Str}
def sSeq (g1 g2:SD):SD:=λρ=>(g1 ρ).bind λfl=>match fl with
 |.next ρ'=>g2 ρ'
 |fl=>some fl
def sNext:SD:=λρ=>some (.next ρ)
theorem zF:DSs X B [] sNext:=pss_imp Yf λE σ H zz=>zz.el λF ρ fl r hg k=>by cases hg;exact k σ F H r (Same.refl _)
theorem zg (h:DS X B st gs1):DSs X B [st] gs1:=ZH h
theorem ze (h1:DS X B st gs1)(h2:DSs X B rest gs2):DSs X B (st::rest) (sSeq gs1 gs2) :=
 pss_imp (yi h1 h2) λE σ H zz=>zz.el λF ρ fl r hg k=>by
  unfold sSeq at hg
  cases q:gs1 ρ with
  |none=>rw[q] at hg;cases hg
  |some f1=>
   rw[q] at hg
   refine⟨F,ρ,f1,r,q,?_⟩
   cases f1 with
   |next ρ'=>exact λσ' F' H' r' s'=>⟨F',ρ',fl,r',hg,k.mono s'⟩
   |brk ρ'=>cases hg;exact k
   |cont ρ'=>cases hg;exact k
   |ret o'=>cases hg;exact k
def sFrz (i:Nat)(g:SD):SD:=λρ=>g (frzE i ρ)
theorem U2 (i:Nat)(h:DS X B st gs1):DS X B st (sFrz i gs1):=zC h λE σ H zz=>zz.el λF ρ fl r hg k=>by
 obtain⟨F',s',r'⟩:=r.frz i
 exact⟨F',_,fl,r',hg,k.mono s'⟩
def sSet (i:Nat)(g:EnvD->Option D):SD:=λρ=>(g ρ).map λd=>.next (ρ.set i (some (.val d)))
def sSetA (i:Nat)(g:EnvD->Option (List D)):SD:=λρ=>(g ρ).map λds=>.next (ρ.set i (some (.acc ds)))
theorem Zw {i:Nat}{E:Ends}{σ:St}{H:Hp}(h:lS X.kw B (sSet i g) E σ H):tAsg (lG X.kw B (pE X.kw) g) (gName i) E σ H:=by
 refine Lq.el h λF ρ fl r hg k=>?_
 unfold sSet at hg
 cases q:g ρ with
 |none=>rw[q] at hg;cases hg
 |some d=>
  rw[q] at hg
  cases hg
  exact⟨F,ρ,d,r,q,λv F1 H1 e1 p1=>k _ F1 H1 ((r.ext e1).setv p1) e1.ff⟩
theorem UU {i:Nat}{E:Ends}{σ:St}{H:Hp}(h:lS X.kw B (sSetA i gl) E σ H):tAsg (lG X.kw B (pA X.kw) gl) (gName i) E σ H:=by
 refine Lq.el h λF ρ fl r hg k=>?_
 unfold sSetA at hg
 cases q:gl ρ with
 |none=>rw[q] at hg;cases hg
 |some ds=>
  rw[q] at hg
  cases hg
  refine⟨F,ρ,ds,r,q,λv F1 H1 e1 p1=>k _ F1 H1 ((r.ext e1).seto ?_ ?_) e1.ff⟩
  ·obtain⟨a,vs,h1,h2,h3,h4,h5⟩:=p1
   exact⟨a,vs,h1,h3,h4,r.ex.hh.free h2,h5⟩
  ·intro j y w hj hs _ b hb hc
   obtain⟨a,vs,h1,h2,h3,h4,h5⟩:=p1
   subst h1
   simp only[feetE,List.mem_singleton] at hb
   subst hb
   obtain⟨w',hw,hr⟩:=r.ents j y hj
   rw[hs] at hw;cases hw
   rw[hr.feet_ext e1.hh] at hc
   exact (hr.feet_at hc).1 h2
theorem zl {i:Nat}{x:Str}{pos':Pos}(hN:X.N.Nodup)(hi:X.N[i]?=some x)(hx:Loc X.env.scope x)(he:DE X B e g)(hs:swapsWith e (some (.Name x pos')) pos.line X.env=pure false:=by rfl)(hf:X.fn x=true∨X.env.scope.names.lookup x=some .local:=by first | exact .inl rfl | exact .inr rfl | assumption) :
  DS X B (.Assign [.Name x pos'] e pos) (sSet i g):=zC (y0 hN hi hx he hs hf) λE σ H h=>Zw h
theorem yf {i:Nat}{x:Str}{pos':Pos}(hN:X.N.Nodup)(hi:X.N[i]?=some x)(hx:Loc X.env.scope x)(he:DA X B e gl)(hs:swapsWith e (some (.Name x pos')) pos.line X.env=pure false:=by rfl)(hf:X.fn x=true∨X.env.scope.names.lookup x=some .local:=by first | exact .inl rfl | exact .inr rfl | assumption) :
  DS X B (.Assign [.Name x pos'] e pos) (sSetA i gl):=zC (y0 hN hi hx he hs hf) λE σ H h=>UU h
def sRet (g:EnvD->Option D):SD:=λρ=>(g ρ).map λd=>.ret (.val d)
def sRetA (g:EnvD->Option (List D)):SD:=λρ=>(g ρ).map λd=>.ret (.acc d)
theorem zK (he:DE X B e g):DS X B (.Return (some e) pos) (sRet g):=zC (vj he) λE σ H zz=>zz.el λF ρ fl r hg k=>by
 unfold sRet at hg
 cases q:g ρ with
 |none=>rw[q] at hg;cases hg
 |some d=>rw[q] at hg;cases hg;exact⟨F,ρ,d,r,q,λv F1 H1 e1 p1=>k v F1 H1 (r.ex.trans e1) p1⟩
theorem jJ (he:DA X B e gl):DS X B (.Return (some e) pos) (sRetA gl):=zC (vj he) λE σ H zz=>zz.el λF ρ fl r hg k=>by
 unfold sRetA at hg
 cases q:gl ρ with
 |none=>rw[q] at hg;cases hg
 |some d=>
  rw[q] at hg;cases hg
  refine⟨F,ρ,d,r,q,λv F1 H1 e1 p1=>k v F1 H1 (r.ex.trans e1) ?_⟩
  obtain⟨a,vs,h1,h2,h3,h4,h5⟩:=p1
  exact⟨a,vs,h1,h3,h4,r.ex.hh.free h2,h5⟩
def sRetV (i:Nat):SD:=λρ=>match ρ[i]? with
 |some (some (.acc ds))=>some (.ret (.acc ds))
 |some (some (.val d))=>some (.ret (.val d))
 |_=>none
theorem yG (i:Nat)(h:PE X (.Name x p) (tVar i)):DS X B (.Return (some (.Name x p)) pos) (sRetV i):=zC (vj h) λE σ H zz=>zz.el λF ρ fl r hg k=>by
 unfold sRetV at hg
 split at hg
 ·rename_i ds q
  cases hg
  obtain⟨v,h1,h2⟩:=r.ents i _ q
  exact⟨v,h1,k v F H r.ex h2⟩
 ·rename_i d q
  cases hg
  obtain⟨v,h1,h2⟩:=r.ents i _ q
  exact⟨v,h1,k v F H r.ex h2⟩
 ·cases hg
def sIf (t:EnvD->Option Bool)(g1 g2:SD):SD:=λρ=>(t ρ).bind λb=>if b then g1 ρ else g2 ρ
theorem zB {t:EnvD->Option Bool}{as bs:List Stmt}(hc:DT X B c t)(ha:DSs X B as gs1)(hb:DSs X B bs gs2):DS X B (.If c as bs pos) (sIf t gs1 gs2):=zC (Yu hc ha hb) λE σ H zz=>zz.el λF ρ fl r hg k=>by
 unfold sIf at hg
 cases q:t ρ with
 |none=>rw[q] at hg;cases hg
 |some b=>
  rw[q] at hg
  refine⟨F,ρ,b,r,q,λF1 H1 e1=>?_⟩
  cases b with
  |true=>exact iteT ⟨F1,ρ,fl,r.ext e1,hg,k.mono e1.ff⟩
  |false=>exact iteF ⟨F1,ρ,fl,r.ext e1,hg,k.mono e1.ff⟩
def sNever:SD:=λ_=>none
theorem wW:DS X B st sNever:=zC KN λE σ H zz=>zz.el λF ρ fl r hg k=>by cases hg
def sExpr (g:EnvD->Option D):SD:=λρ=>(g ρ).map λ_=>.next ρ
theorem Gd (he:DE X B e g)(hs:swapsWith e none pos.line X.env=pure false:=by rfl):DS X B (.Expr e pos) (sExpr g):=zC (jc he hs) λE σ H zz=>zz.el λF ρ fl r hg k=>by
 unfold sExpr at hg
 cases q:g ρ with
 |none=>rw[q] at hg;cases hg
 |some d=>rw[q] at hg;cases hg;exact⟨F,ρ,d,r,q,λv F1 H1 e1 p1=>k σ F1 H1 (r.ext e1) e1.ff⟩
def sApp (i:Nat)(g:EnvD->Option D):SD:=λρ=>match ρ[i]? with
 |some (some (.acc ds))=>(g ρ).bind λd=>if ds.length<=TOP then some (.next (ρ.set i (some (.acc (ds++[d]))))) else none
 |_=>none
theorem ya (i:Nat){cpos:Pos}(hx:PE X (.Name x p) (tVar i))(he:DE X B e g)
  (hbase:attributeBase (.Name x p) "append" X.env (eval (.Name x p) X.env)=eval (.Name x p) X.env:=by rfl)
  (hfew:((backTo cpos (starEach [e] X.env)).all (λx=>!x.1)&&(backToKw cpos (keywordEach [] X.env)).all (λx=>x.1.isSome)
   && decide (([e]:List Expr).length+([]:List Keyword).length+(if ([]:List Keyword).isEmpty then 0 else 1) < 30))=true:=by rfl)
  (hline:(apos.endLine==cpos.line)=true:=by rfl) (hs:starEach [e] X.env=(false,eval e X.env)::starEach [] X.env:=by rfl) (hplain:(backTo cpos (starEach [] X.env)).any (·.1)=false:=by rfl)
  (hsw:swapsWith (.Call (.Attribute (.Name x p) "append" apos) [e] [] cpos) none pos.line X.env=pure false:=by rfl) :
  DS X B (.Expr (.Call (.Attribute (.Name x p) "append" apos) [e] [] cpos) pos) (sApp i g) :=
 zC (jc (kj PySem.F.plainAttrs_list PySem.F.slot_list_append PySem.F.type_list_append Yr hx (zM he yd hs) hbase hfew hline hs hplain) hsw) λE σ H zz=>zz.el λF ρ fl r hg k=>by
  unfold sApp at hg
  split at hg
  ·rename_i ds q
   cases q2:g ρ with
   |none=>rw[q2] at hg;cases hg
   |some d=>
    rw[q2] at hg
    have hg:(if ds.length<=TOP then some (Fl.next (ρ.set i (some (.acc (ds++[d]))))) else none)=some fl:=hg
    split at hg
    ·rename_i hl
     cases hg
     obtain⟨v,hv,a,vs,rfl,h1,h2,h3,h4⟩:=r.ents i _ q
     refine⟨.ref a,hv,.inl ⟨rfl,_,.of h1⟩,F,ρ,d,r,q2,λw F1 H1 e1 p1=>?_⟩
     have r1:=r.ext e1
     obtain⟨v',hv',a',vs',e',g1,g2,g3,g4⟩:=r1.ents i _ q
     rw[hv] at hv';cases hv';cases e'
     refine⟨a,vs',w,rfl,rfl,g1,uK (by rw[<-g4.length];exact hl),k σ F1 _ (r1.write q rfl hv g2 g3 ⟨a,_,rfl,zi,g2,g3,g4.snoc p1⟩ rfl) e1.ff⟩
    ·cases hg
  ·cases hg
def sPop (i:Nat):SD:=λρ=>match ρ[i]? with
 |some (some (.acc ds))=>if ds.isEmpty then none else some (.next (ρ.set i (some (.acc ds.dropLast))))
 |_=>none
theorem Vd {K:KW}{F:Hp}:∀ {ds:List D} {vs:List V},Rps K F ds vs->Rps K F ds.dropLast vs.dropLast:=fun {ds vs} r=>by
 rw[List.dropLast_eq_take,List.dropLast_eq_take,<-r.length]
 exact r.take _
theorem W5 (i:Nat){cpos:Pos}(hm:MtR X "list.pop" rPop) (hx:PE X (.Name x p) (tVar i))
  (hbase:attributeBase (.Name x p) "pop" X.env (eval (.Name x p) X.env)=eval (.Name x p) X.env:=by rfl) (hline:(apos.endLine==cpos.line)=true:=by rfl)
  (hsw:swapsWith (.Call (.Attribute (.Name x p) "pop" apos) [] [] cpos) none pos.line X.env=pure false:=by rfl) :
  DS X B (.Expr (.Call (.Attribute (.Name x p) "pop" apos) [] [] cpos) pos) (sPop i) :=
 zC (jc (Gp PySem.F.plainAttrs_list PySem.F.slot_list_pop PySem.F.type_list_pop hm hx hbase hline) hsw) λE σ H zz=>zz.el λF ρ fl r hg k=>by
  unfold sPop at hg
  split at hg
  ·rename_i ds q
   split at hg
   ·cases hg
   ·rename_i hl
    cases hg
    obtain⟨v,hv,a,vs,rfl,h1,h2,h3,h4⟩:=r.ents i _ q
    have hlen:0 < vs.length:=by
     rw[<-h4.length]
     cases ds with
     |nil=>simp at hl
     |cons=>simp
    have hy:vs[vs.length - 1]?=some vs[vs.length - 1]:=List.getElem?_eq_getElem (by omega)
    exact⟨.ref a,hv,.inl ⟨rfl,_,.of h1⟩,a,vs,_,rfl,rfl,h1,hy,k σ F _ (r.write q rfl hv h2 h3 ⟨a,_,rfl,zi,h2,h3,Vd h4⟩ rfl) (Same.refl _)⟩
  ·cases hg
def sPut (i:Nat)(gi g:EnvD->Option D):SD:=λρ=>match ρ[i]? with
 |some (some (.acc ds))=>(g ρ).bind λd=>((gi ρ).bind asI).bind λj=>(ixN ds.length j).map λn=>.next (ρ.set i (some (.acc (ds.set n d))))
 |_=>none
theorem QN (i:Nat){gi:EnvD->Option D}{ie:Expr}(hx:PE X (.Name x p) (tVar i))(hi:DE X B ie gi)(he:DE X B e g){tpos:Pos}
  (ha:∀v,assign (.Subscript (.Name x p) ie tpos) X.env v=(do
   let ov <-holding [v] (eval (.Name x p) X.env)
   let iv <-holding [v,ov] (eval ie X.env)
   standAt tpos
   holding [v,ov,iv] (setItem ov iv v)
   release [v,ov,iv] []):=by intro _;rfl)
  (hs:swapsWithSole [.Subscript (.Name x p) ie tpos] e pos.line X.env=pure false:=by rfl) (hw:swappedStores [.Subscript (.Name x p) ie tpos] e X.env=pure none:=by rfl)
  (h1:(assignEach [.Subscript (.Name x p) ie tpos] X.env).map (·.2)=[assign (.Subscript (.Name x p) ie tpos) X.env]:=by rfl) :
  DS X B (.Assign [.Subscript (.Name x p) ie tpos] e pos) (sPut i gi g) :=
 zC (kB he (U7 hx hi JP ha) hs hw h1) λE σ H zz=>zz.el λF ρ fl r hg k=>by
  unfold sPut at hg
  split at hg
  ·rename_i ds q
   cases q2:g ρ with
   |none=>rw[q2] at hg;cases hg
   |some d=>
    cases q3:gi ρ with
    |none=>rw[q2,q3] at hg;cases hg
    |some di=>
     rw[q2,q3] at hg
     have hg:((asI di).bind λj=>(ixN ds.length j).map λn=>Fl.next (ρ.set i (some (.acc (ds.set n d)))))=some fl:=hg
     cases q4:asI di with
     |none=>rw[q4] at hg;cases hg
     |some j=>
      rw[q4] at hg
      have hg:((ixN ds.length j).map λn=>Fl.next (ρ.set i (some (.acc (ds.set n d)))))=some fl:=hg
      cases q5:ixN ds.length j with
      |none=>rw[q5] at hg;cases hg
      |some n=>
       rw[q5] at hg
       cases hg
       rw[Zt q4] at q3
       refine⟨F,ρ,d,r,q2,λw F1 H1 e1 p1=>?_⟩
       have r1:=r.ext e1
       obtain⟨v,hv,a,vs,rfl,g1,g2,g3,g4⟩:=r1.ents i _ q
       refine⟨.ref a,hv,F1,ρ,_,r1,q3,λu F2 H2 e2 p2=>?_⟩
       have r2:=r1.ext e2
       obtain⟨v',hv',a',vs',e',f1,f2,f3,f4⟩:=r2.ents i _ q
       rw[hv] at hv';cases hv';cases e'
       exact⟨a,vs',j,n,rfl,p2,f1,by rw[<-f4.length];exact q5,k σ F2 _ (r2.write q rfl hv f2 f3 ⟨a,_,rfl,zi,f2,f3,Rps.set (Rp.mono e2.ff p1) n f4⟩ rfl) (e1.ff.trans e2.ff)⟩
  ·cases hg
def sFldD (i:Nat)(C:Addr)(fl:Str)(g:EnvD->Option D):SD:=λρ=>match ρ[i]? with
 |some (some (.oac a dx C' fs ds))=>if C'=C/\fs.length < 900 then (g ρ).map λd=>.next (ρ.set i (some (.oac a dx C (putZ fl d fs ds).1 (putZ fl d fs ds).2))) else none
 |_=>none
theorem YE (i:Nat){C:Addr}{fl:Str}{pos':Pos}(cl:Cls X.kw C)(na:NoAttr X.kw C fl)(hx:PE X (.Name x p) (tVar i))(he:DE X B e g)(hs:swapsWith e (some (.Attribute (.Name x p) fl pos')) pos.line X.env=pure false:=by rfl) :
  DS X B (.Assign [.Attribute (.Name x p) fl pos'] e pos) (sFldD i C fl g) :=
 zC (Qy hx he hs) λE σ H zz=>zz.el λF ρ f r hg k=>by
  unfold sFldD at hg
  split at hg
  ·rename_i a dx C' fs ds q
   split at hg
   ·rename_i hc
    obtain⟨rfl,hlen⟩:=hc
    cases q2:g ρ with
    |none=>rw[q2] at hg;cases hg
    |some d=>
     rw[q2] at hg
     cases hg
     refine⟨F,ρ,d,r,q2,λw F1 H1 e1 p1=>?_⟩
     have r1:=r.ext e1
     obtain⟨v,hv,vs,rfl,g1,g2,g3,g4,g5,d1,d2,d3⟩:=r1.ents i _ q
     obtain⟨z1,z2⟩:=Yb (f:=fl) (v:=w) g2
     obtain⟨z3,z4⟩:=YT (f:=fl) p1 g2 g5
     refine⟨.ref a,hv,a,C',dx,_,rfl,g1,cl,na,?_,k σ F1 _ (r1.write q rfl hv g3 g4 ⟨_,rfl,?_,?_,g3,g4,z4,by rw[zd (Yh d1 g1 (by intro z;cases z))];exact d1,d2,d3⟩ rfl) e1.ff⟩
     ·have:(fs.zip vs).length<=fs.length:=by rw[List.length_zip];exact Nat.min_le_left _ _
      omega
     ·rw[zi,z1,z3]
     ·rw[z3,z2]
   ·cases hg
  ·cases hg
end
inductive Tgt where
 |name (i:Nat) | tup (is:List Nat)
def gNames:List Nat->TGs
 | []=>L2.gNil
 |i::is=>gCons (gName i) (gNames is)
def tgT (K:KW):Tgt->TG
 |.name i=>gName i
 |.tup is=>gTup K is.length (gNames is)
def yF:List Nat->List D->EnvD->EnvD
 |i::is,d::ds,ρ=>yF is ds (ρ.set i (some (.val d)))
 |_,_,ρ=>ρ
def asgD:Tgt->D->EnvD->Option EnvD
 |.name i,d,ρ=>some (ρ.set i (some (.val d)))
 |.tup is,.tup ds,ρ=>if ds.length=is.length then some (yF is ds ρ) else none
 |_,_,_=>none
inductive SetOf:List Nat->St->St->Prop
 |refl {is σ}:SetOf is σ σ
 |step {is σ σ' i v}:i∈is->SetOf is (σ.set i v) σ'->SetOf is σ σ'
def Tgt.slots:Tgt->List Nat
 |.name i=>[i]
 |.tup is=>is
theorem SetOf.pre {is:List Nat}{σ σ':St}(h:SetOf is σ σ'):∀ {σ1 cv:St},σ=σ1++cv->(∀i∈is,i < σ1.length)->∃σ1',σ1'.length=σ1.length/\σ'=σ1'++cv:=by
 induction h with
 |refl=>intro σ1 cv e _;exact⟨σ1,rfl,e⟩
 | @step σ σ' i v hi _ ih=>
  intro σ1 cv e hl
  obtain⟨s,h1,h2⟩:=ih (σ1:=σ1.set i v) (cv:=cv) (by rw[e,List.set_append_left _ _ (hl i hi)]) (λj hj=>by rw[List.length_set];exact hl j hj)
  exact⟨s,by rw[h1,List.length_set],h2⟩
theorem names_ok {K:KW}{B:Bs}{F H:Hp}{all:List Nat}:∀ {is:List Nat} {ds:List D} {vs:List V} {σ:St} {ρ:EnvD} {Q:St->Hp->Prop},Rep K B F σ H ρ->Rps K F ds vs->ds.length=is.length->(∀i∈is,i∈all) ->
  (∀σ',Rep K B F σ' H (yF is ds ρ)->SetOf all σ σ'->Q σ' H)->gNames is vs σ H Q
 | [],[],_,σ,ρ,Q,r,h,_,_,k=>by cases h;exact⟨rfl,k σ r .refl⟩
 | [],_::_,_,_,_,_,_,_,hl,_,_=>by simp at hl
 |_::_,[],_,_,_,_,_,_,hl,_,_=>by simp at hl
 |i::is,d::ds,_,σ,ρ,Q,r,⟨v,w,e,h,t⟩,hl,ha,k=>by
  subst e
  refine⟨v,w,rfl,?_⟩
  exact names_ok (r.setv h) t (by simpa using hl) (λj hj=>ha j (List.mem_cons_of_mem _ hj)) λσ' r' s'=>k σ' r' (.step (ha i List.mem_cons_self) s')
theorem wC {K:KW}{B:Bs}{F H:Hp}{t:Tgt}{d:D}{v:V}{σ:St}{ρ ρ':EnvD}{Q:St->Hp->Prop}(r:Rep K B F σ H ρ)(h:Rp K F d v)(e:asgD t d ρ=some ρ')(k:∀σ',Rep K B F σ' H ρ'->SetOf t.slots σ σ'->Q σ' H):tgT K t v σ H Q:=by
 cases t with
 |name i=>cases e;exact k _ (r.setv h) (.step (List.mem_singleton.mpr rfl) .refl)
 |tup is=>
  cases d with
  |tup ds=>
   have e:(if ds.length=is.length then some (yF is ds ρ) else none)=some ρ':=e
   split at e
   ·rename_i hl
    cases e
    obtain⟨a,vs,rfl,h1,h2⟩:=h
    exact⟨a,vs,rfl,.of (r.fh _ _ h1),by rw[<-h2.length];exact hl,names_ok r h2 hl (λi hi=>hi) k⟩
   ·cases e
  |_=>cases e
def Jok (K:KW)(Hb:Hp)(J:It)(F:Hp)(ds:List D):Prop:=∀F2 H2,Same F F2->Same F2 H2->Same Hb H2->∀i,
 (i < ds.length->J.go i H2/\∀x H3,J.yld i H2 x H3->∃F3 d,Ext F2 H2 F3 H3/\ds[i]?=some d/\Rp K F3 d x)/\(i=ds.length->J.stop i H2)
def lI (K:KW)(B:Bs)(hb:Hp->Hp)(g:EnvD->Option (List D)):TI:=λσ H R=>Lq K B g σ H λF ρ ds=>∀J F' H',Ext F H F' H'->Jok K (hb H') J F' ds->R J H'
def DI (X:Cx)(B:Bs)(hb:Hp->Hp)(tg iter:Expr)(g:EnvD->Option (List D)):Prop:=PI X tg iter (lI X.kw B hb g)
def pQ (K:KW)(hb:Hp->Hp):Post D:=λ_ _ F' H' d v=>Rq K F' (hb H') d v
def DQ (X:Cx)(B:Bs)(hb:Hp->Hp)(e:Expr)(g:EnvD->Option D):Prop:=PE X e (lG X.kw B (pQ X.kw hb) g)
def HbOk (B:Bs)(hb:Hp->Hp):Prop:=(∀H,Same B.H0 H->Same (hb H) H)/\∀H H',Same H H'->Same (hb H) (hb H')
theorem hb0 {B:Bs}:HbOk B (λ_=>B.H0):=⟨λ_ h=>h,λ_ _ _=>Same.refl _⟩
theorem hb1 {B:Bs}:HbOk B (λH=>H):=⟨λ_ _=>Same.refl _,λ_ _ h=>h⟩
section
variable {X:Cx}{B:Bs}{hb:Hp->Hp}{e a b c tg iter:Expr}{es:List Expr}{pos p:Pos}{g ga gb:EnvD->Option D}{gi:EnvD->Option (List D)}{gs gbd:SD}{x:Str}
theorem DE.fix (h:DE X B e g):DQ X B hb e g:=zm h λσ H Q zz=>zz.el λF ρ x r hg k=>⟨F,ρ,x,r,hg,λv F' H' e p=>k v F' H' e (.inl p)⟩
theorem DR.cur (h:DR X B e g):DQ X B (λH=>H) e g:=h
def gf (i:Nat):EnvD->Option D:=λρ=>match ρ[i]? with
 |some (some (.val d))=>some d
 |some (some (.bor ds))=>some (.lst ds)
 |_=>none
theorem vQ (i:Nat)(h:PE X (.Name x pos) (tVar i)):DQ X B (λ_=>B.H0) (.Name x pos) (gf i) :=
 zm h λσ H Q zz=>zz.el λF ρ d r hg k=>by
  unfold gf at hg
  split at hg
  ·rename_i d' e
   cases hg
   obtain⟨v,h1,h2⟩:=r.ents i _ e
   exact⟨v,h1,k v F H (.refl r.fh) (.inl h2)⟩
  ·rename_i ds e
   cases hg
   obtain⟨v,h1,a,vs,e1,e2,e5⟩:=r.ents i _ e
   exact⟨v,h1,k v F H (.refl r.fh) (.inr ⟨a,vs,ds,rfl,e1,e2,e5⟩)⟩
  ·cases hg
def itL:D->Option (List D)
 |.lst ds=>some ds
 |.scr ns=>some (ns.map D.int)
 |_=>none
theorem v9 {K:KW}{F Hb:Hp}{d:D}{v:V}{ds:List D}(r:Rq K F Hb d v)(h:itL d=some ds):∃a vs,v=.ref a/\Rps K F ds vs/\∀F2 H2,Same F F2->Same F2 H2->Same Hb H2->SqL K H2 a vs:=by
 cases d with
 |lst es=>
  cases h
  rcases r with⟨a,vs,rfl,q,t⟩ | ⟨a,vs,ds',e1,rfl,q,t⟩
  ·exact⟨a,vs,rfl,t,λF2 H2 s1 s2 _=>.of (s2 _ _ (s1 _ _ q))⟩
  ·cases e1;exact⟨a,vs,rfl,t,λF2 H2 _ _ s3=>.of (s3 _ _ q)⟩
 |scr ns=>
  cases h
  obtain⟨a,rfl,q⟩:=r.one λ_ h=>by cases h
  exact⟨a,_,rfl,Rps.ints ns,λF2 H2 s1 s2 _=>s2.seq (s1.seq q)⟩
 |_=>cases h
def gIt (g:EnvD->Option D):EnvD->Option (List D):=λρ=>(g ρ).bind itL
theorem yb (hbk:HbOk B hb)(h:DQ X B hb e g):DI X B hb tg e (gIt g) :=
 qF (KY h) λσ H R zz=>zz.el λF ρ ds r hg k=>by
  unfold gIt at hg
  cases q:g ρ with
  |none=>rw[q] at hg;cases hg
  |some d=>
   rw[q] at hg
   refine⟨F,ρ,d,r,q,λv F1 H1 e1 p1=>?_⟩
   obtain⟨a,vs,rfl,t,sq⟩:=v9 p1 hg
   have r1:=r.ext e1
   refine⟨a,rfl,⟨vs,sq F1 H1 (Same.refl _) e1.fh (hbk.1 H1 r1.ex.hh)⟩,k _ F1 H1 e1 λF2 H2 s1 s2 s3 i=>⟨λhi=>?_,λhi=>?_⟩⟩
   ·have hq:=sq F2 H2 s1 s2 s3
    have hiv:i < vs.length:=by rw[<-t.length];exact hi
    have hv:vs[i]?=some vs[i]:=List.getElem?_eq_getElem hiv
    refine⟨⟨vs,_,hq,hv⟩,λx H3 hy=>?_⟩
    obtain⟨rfl,hy⟩:=hy
    obtain⟨d',hd,rd⟩:=t.get' (hy vs hq)
    exact⟨F2,d',.refl s2,hd,rd.mono s1⟩
   ·exact⟨vs,sq F2 H2 s1 s2 s3,by rw[hi,t.length];exact Nat.le_refl _⟩
def lQs (K:KW)(B:Bs)(hb:Hp->Hp)(g:EnvD->Option (List D)):TA:=λσ H Q=>
 Lq K B g σ H λF ρ ds=>∀vs F' H',Ext F H F' H'->Paired (λd v=>Rq K F' (hb H') d v) ds vs->Q vs H'
def DQs (X:Cx)(B:Bs)(hb:Hp->Hp)(es:List Expr)(g:EnvD->Option (List D)):Prop:=PA X es (lQs X.kw B hb g)
theorem VE:DQs X B hb [] gNil:=yH yd λσ H Q zz=>zz.el λF ρ ds r hg k=>by cases hg;exact k [] F H (.refl r.fh) .nil
theorem Gz (hbk:HbOk B hb)(ha:DQ X B hb e g)(hr:DQs X B hb es gi)(hs:starEach (e::es) X.env=(false,eval e X.env)::starEach es X.env:=by rfl):DQs X B hb (e::es) (gCons' g gi) :=
 yH (zM ha hr hs) λσ H Q zz=>zz.el λF ρ ds r hg k=>by
  obtain⟨d,dr,q1,q2,q3⟩:=bind2 hg
  cases q3
  exact⟨F,ρ,d,r,q1,λv F1 H1 e1 p1=>⟨F1,ρ,dr,r.ext e1,q2,λvs F2 H2 e2 p2=>k _ F2 H2 (e1.trans e2) (.cons (p1.mono e2.ff (hbk.2 _ _ e2.hh)) p2)⟩⟩
def enumD:Nat->List D->List D
 |_,[]=>[]
 |n,d::ds=>.tup [.int n,d]::enumD (n+1) ds
theorem jE:∀(n:Nat) (ds:List D),(enumD n ds).length=ds.length
 |_,[]=>rfl
 |n,_::ds=>by simp[enumD,jE (n+1) ds]
theorem Wi:∀(n:Nat) (ds:List D) (i:Nat) (d:D),ds[i]?=some d->(enumD n ds)[i]?=some (.tup [.int ((n+i:Nat):Int),d])
 |_,[],_,_,h=>by simp at h
 |n,x::ds,0,d,h=>by simp at h;subst h;simp[enumD]
 |n,x::ds,i+1,d,h=>by
  have:=Wi (n+1) ds i d (by simpa using h)
  simp only[enumD,List.getElem?_cons_succ,this]
  congr 5
  omega
def gEn (gs:EnvD->Option (List D)):EnvD->Option (List D):=λρ=>(gs ρ).bind λxs=>match xs with
 | [d]=>(itL d).map (enumD 0)
 |_=>none
variable {elts:List Expr}{tk:Nat}{tpos:Pos}
theorem K3 (hbk:HbOk B hb)(hg:Gl X "enumerate") (hm:X.mg "enumerate" = none) (ha:DQs X B hb [a] gi) (hs:starEach [a] X.env=[(false,eval a X.env)]:=by rfl) :
  DI X B hb (.Tuple elts tk tpos) (.Call (.Name "enumerate" p) [a] [] pos) (gEn gi) :=
 qF (JH hg hm ha hs) λσ H R zz=>zz.el λF ρ ds r hg k=>by
  unfold gEn at hg
  cases q:gi ρ with
  |none=>rw[q] at hg;cases hg
  |some xs=>
   rw[q] at hg
   refine⟨F,ρ,xs,r,q,λvs F1 H1 e1 p1=>?_⟩
   match xs,hg,p1 with
   | [d],hg,p1=>
    obtain⟨v,rfl,rv⟩:=pair1 p1
    have hg:(itL d).map (enumD 0)=some ds:=hg
    cases q2:itL d with
    |none=>rw[q2] at hg;cases hg
    |some es=>
     rw[q2] at hg
     cases hg
     obtain⟨a,us,rfl,t,sq⟩:=v9 rv q2
     have r1:=r.ext e1
     refine⟨a,rfl,⟨us,sq F1 H1 (Same.refl _) e1.fh (hbk.1 H1 r1.ex.hh)⟩,k _ F1 H1 e1 λF2 H2 s1 s2 s3 i=>⟨λhi=>?_,λhi=>?_⟩⟩
     ·rw[jE] at hi
      have hq:=sq F2 H2 s1 s2 s3
      have hiv:i < us.length:=by rw[<-t.length];exact hi
      have hv:us[i]?=some us[i]:=List.getElem?_eq_getElem hiv
      refine⟨⟨us,_,hq,hv⟩,λx H3 hy=>?_⟩
      obtain⟨T,w,nT,rfl,rfl,hy⟩:=hy
      obtain⟨d',hd,rd⟩:=t.get' (hy us hq)
      refine⟨upd F2 T (.tup [.int i,w]),_,.newF s2 nT,Wi 0 es i d' hd,⟨T,_,rfl,zi,_,_,rfl,?_,_,_,rfl,(rd.mono s1).mono (zX (s2.free nT)),rfl⟩⟩
      show V.int i=V.int ((0+i:Nat):Int)
      rw[Nat.zero_add]
     ·exact⟨us,sq F2 H2 s1 s2 s3,by rw[hi,jE,t.length];exact Nat.le_refl _⟩
def rngD (lo:Int):Nat->List D
 |0=>[]
 |n+1=>.int lo::rngD (lo+1) n
theorem yP:∀(lo:Int) (n:Nat),(rngD lo n).length=n
 |_,0=>rfl
 |lo,n+1=>by simp[rngD,yP (lo+1) n]
theorem YD:∀(lo:Int) (n i:Nat),i < n->(rngD lo n)[i]?=some (.int (lo+i))
 |_,0,_,h=>by omega
 |lo,n+1,0,_=>by simp[rngD]
 |lo,n+1,i+1,h=>by
  have:=YD (lo+1) n i (by omega)
  simp only[rngD,List.getElem?_cons_succ,this]
  congr 2
  omega
def BIG:Int:=1000000000000
def gR1 (gs:EnvD->Option (List D)):EnvD->Option (List D):=λρ=>(gs ρ).bind λxs=>match xs with
 | [.int j]=>if -BIG<=j/\j<=BIG then some (rngD 0 j.toNat) else none
 |_=>none
theorem JG {K:KW}{Hb F:Hp}(lo:Int)(n:Nat):Jok K Hb (Itr lo n) F (rngD lo n):=λF2 H2 s1 s2 s3 i=>⟨λhi=>by
 rw[yP] at hi
 refine⟨hi,λx H3 hy=>?_⟩
 obtain⟨rfl,rfl⟩:=hy
 exact⟨F2,_,.refl s2,YD lo n i hi,rfl⟩,λhi=>by rw[yP] at hi;exact Nat.le_of_eq hi.symm⟩
theorem x8 (hg:Gl X "range") (hm:X.mg "range" = none) (ha:DRs X B [a] gi) (hs:starEach [a] X.env=[(false,eval a X.env)]:=by rfl):DI X B hb tg (.Call (.Name "range" p) [a] [] pos) (gR1 gi) :=
 qF (Qb hg hm ha hs) λσ H R zz=>zz.el λF ρ ds r hg k=>by
  unfold gR1 at hg
  cases q:gi ρ with
  |none=>rw[q] at hg;cases hg
  |some xs=>
   rw[q] at hg
   refine⟨F,ρ,xs,r,q,λvs F1 H1 e1 p1=>?_⟩
   match xs,hg,p1 with
   | [.int j],hg,p1=>
    obtain⟨v,rfl,rv⟩:=pair1 p1
    cases rv.int
    have hg:(if -BIG<=j/\j<=BIG then some (rngD 0 j.toNat) else none)=some ds:=hg
    split at hg
    ·rename_i hc
     cases hg
     unfold BIG at hc
     exact⟨j,rfl,by omega,by omega,k _ F1 H1 e1 (JG 0 _)⟩
    ·cases hg
def forD (t:Tgt)(gb:SD):List D->EnvD->Option Fl
 | [],ρ=>some (.next ρ)
 |d::ds,ρ=>(asgD t d ρ).bind λρ1=>(gb ρ1).bind λfl=>match fl with
  |.next ρ2=>forD t gb ds ρ2
  |.cont ρ2=>forD t gb ds ρ2
  |.brk ρ2=>some (.next ρ2)
  |.ret o=>some (.ret o)
def sFor (t:Tgt)(gi:EnvD->Option (List D))(gb:SD):SD:=λρ=>(gi ρ).bind λds=>forD t gb ds ρ
theorem yU {body:List Stmt}{t:Tgt}(hp:PassesOwn (model X.prog X.w) X.A X.env X.xe)(hc:X.calm=true)(hi:DI X B (λ_=>B.H0) tg iter gi)(hg:PG X tg (tgT X.kw t))(hb:DSs X B body gbd)
  (hs:∀x,foldedSetIterable iter X.env x=pure x:=by intro _;rfl):DS X B (.For tg iter body [] pos) (sFor t gi gbd) :=
 zC (uw hp hc hi hg hb hs) λE σ H zz=>zz.el λF ρ fl r hg k=>by
  unfold sFor at hg
  cases q:gi ρ with
  |none=>rw[q] at hg;cases hg
  |some ds=>
   rw[q] at hg
   have hg:forD t gbd ds ρ=some fl:=hg
   refine⟨F,ρ,ds,r,q,λJ F1 H1 e1 jok=>?_⟩
   refine⟨λi m σ H=>m=ds.length - i/\i<=ds.length/\∃F2 ρ2,Rep X.kw B F2 σ H ρ2/\Same F1 F2/\forD t gbd (ds.drop i) ρ2=some fl,⟨ds.length,rfl,Nat.zero_le _,F1,ρ,r.ext e1,Same.refl _,hg⟩,?_⟩
   rintro i m σ2 H2 ⟨rfl,hi,F2,ρ2,r2,s2,h2⟩
   obtain⟨j1,j2⟩:=jok F2 H2 s2 r2.fh r2.ex.hh i
   by_cases hlt:i < ds.length
   ·obtain⟨go,yl⟩:=j1 hlt
    refine .inr ⟨go,λσ' H'=>∃F3 ρ3,Rep X.kw B F3 σ' H' ρ3/\Same F1 F3/\forD t gbd (ds.drop (i+1)) ρ3=some fl,λσ' H' ⟨F3,ρ3,r3,s3,h3⟩=>⟨ds.length - (i+1),by omega,rfl,hlt,F3,ρ3,r3,s3,h3⟩,λx H3 hy=>?_⟩
    obtain⟨F3,d,e3,hd,rd⟩:=yl x H3 hy
    have hdd:ds.drop i=d::ds.drop (i+1):=by
     rw[List.drop_eq_getElem_cons hlt]
     congr 1
     rw[List.getElem?_eq_getElem hlt] at hd
     exact Option.some.inj hd
    rw[hdd] at h2
    have h2:((asgD t d ρ2).bind λρ1=>(gbd ρ1).bind λfl=>match fl with
     |.next ρ2=>forD t gbd (ds.drop (i+1)) ρ2
     |.cont ρ2=>forD t gbd (ds.drop (i+1)) ρ2
     |.brk ρ2=>some (.next ρ2)
     |.ret o=>some (.ret o))=some fl:=h2
    cases q1:asgD t d ρ2 with
    |none=>rw[q1] at h2;cases h2
    |some ρ3=>
     rw[q1] at h2
     refine wC (r2.ext e3) rd q1 λσ' r4 _=>?_
     cases q4:gbd ρ3 with
     |none=>rw[show (some ρ3).bind _=(gbd ρ3).bind _ from rfl,q4] at h2;cases h2
     |some f1=>
      rw[show (some ρ3).bind _=(gbd ρ3).bind _ from rfl,q4] at h2
      refine⟨F3,ρ3,f1,r4,q4,?_⟩
      cases f1 with
      |next ρ5=>exact λσ5 F5 H5 r5 s5=>⟨F5,ρ5,r5,(s2.trans e3.ff).trans s5,h2⟩
      |cont ρ5=>exact λσ5 F5 H5 r5 s5=>⟨F5,ρ5,r5,(s2.trans e3.ff).trans s5,h2⟩
      |brk ρ5=>cases h2;exact λσ5 F5 H5 r5 s5=>k σ5 F5 H5 r5 (e1.ff.trans ((s2.trans e3.ff).trans s5))
      |ret o=>cases h2;exact k
   ·have hi':i=ds.length:=by omega
    have hdd:ds.drop i=[]:=by rw[hi',List.drop_length]
    rw[hdd] at h2
    cases h2
    exact .inl ⟨j2 hi',k σ2 F2 H2 r2 (e1.ff.trans s2)⟩
def capO:Option (Option En)->Option En
 |some (some (.val d))=>some (.val d)
 |some (some (.acc ds))=>some (.bor ds)
 |some (some (.bor ds))=>some (.bor ds)
 |some (some (.dct _ kvs))=>some (.dbo kvs)
 |some (some (.dbo kvs))=>some (.dbo kvs)
 |some (some (.mbo t))=>some (.mbo t)
 |_=>none
def capE (ρ:EnvD)(cap:List (Str×Nat)):EnvD:=cap.map λp=>capO ρ[p.2]?
def compD (t:Tgt)(tc:EnvD->Option Bool)(ge:EnvD->Option D)(ρ0:EnvD):List D->Option (List D)
 | []=>some []
 |d::ds=>(asgD t d ρ0).bind λρ1=>(tc ρ1).bind λb=>if b then (ge ρ1).bind λy=>(compD t tc ge ρ0 ds).map (y::·) else compD t tc ge ρ0 ds
def gComp (own:List Str)(cap:List (Str×Nat))(t:Tgt)(tc:EnvD->Option Bool)(ge:EnvD->Option D)(gi:EnvD->Option (List D)):EnvD->Option (List D):=λρ=>
 (gi ρ).bind λds=>if ds.length<=TOP then compD t tc ge (List.replicate own.length none++capE ρ cap) ds else none
def tYes:EnvD->Option Bool:=λ_=>some true
theorem Ug {K:KW}{B:Bs}{σ:St}{H:Hp}{Q:Bool->Hp->Prop}(h:lT K B tYes σ H Q):tTrue σ H Q:=by
 refine Lq.el h λF ρ b r hg k=>?_
 cases hg
 exact k F H (.refl r.fh)
theorem Vv {X:Cx}{ifs:List Expr}{t t':TT}(h:PIfs X ifs t)(k:∀σ H Q,t' σ H Q->t σ H Q):PIfs X ifs t':=λpins s σ H Q I q=>h pins s σ H Q I (k σ H Q q)
def DIfs (X:Cx)(B:Bs)(ifs:List Expr)(g:EnvD->Option Bool):Prop:=PIfs X ifs (lT X.kw B g)
theorem yy:DIfs X B [] tYes:=Vv Kf λσ H Q h=>Ug h
theorem VD {tc:EnvD->Option Bool}(h:DT X B c tc):DIfs X B [c] tc:=UW h
theorem QG {K:KW}{B:Bs}{F F1 H H1:Hp}{σ σ1:St}{ρ:EnvD}{own:List Str}{cap:List (Str×Nat)}(r:Rep K B F σ H ρ)(e:Ext F H F1 H1){F2 H2:Hp}(e2:Ext F1 H1 F2 H2)(hl:σ1.length=own.length) :
  Rep K ⟨F1,H1⟩ F2 (σ1++cap.map λp=>(σ[p.2]?).getD none) H2 (List.replicate own.length none++capE ρ cap):=by
 have noown:∀i y,(List.replicate own.length none++capE ρ cap)[i]?=some (some y)->∃p,cap[i - own.length]?=some p/\own.length<=i/\((∃d,y=.val d/\ρ[p.2]?=some (some (.val d)))∨(∃ds,y=.bor ds/\ρ[p.2]?=some (some (.acc ds)))∨(∃ds,y=.bor ds/\ρ[p.2]?=some (some (.bor ds)))∨(∃kvs,y=.dbo kvs/\∃oa,ρ[p.2]?=some (some (.dct oa kvs)))∨(∃kvs,y=.dbo kvs/\ρ[p.2]?=some (some (.dbo kvs)))∨∃t,y=.mbo t/\ρ[p.2]?=some (some (.mbo t))):=by
  intro i y h
  by_cases hi:i < own.length
  ·rw[List.getElem?_append_left (by simpa using hi),List.getElem?_replicate,if_pos hi] at h
   cases h
  ·rw[List.getElem?_append_right (by simpa using hi),List.length_replicate] at h
   unfold capE at h
   rw[List.getElem?_map] at h
   cases q:cap[i - own.length]? with
   |none=>rw[q] at h;cases h
   |some p=>
    rw[q] at h
    replace h:capO ρ[p.2]?=some y:=Option.some.inj h
    refine⟨p,rfl,by omega,?_⟩
    unfold capO at h
    split at h
    ·rename_i d q2;cases h;exact .inl ⟨d,rfl,q2⟩
    ·rename_i ds q2;cases h;exact .inr (.inl ⟨ds,rfl,q2⟩)
    ·rename_i ds q2;cases h;exact .inr (.inr (.inl ⟨ds,rfl,q2⟩))
    ·rename_i oa ds q2;cases h;exact .inr (.inr (.inr (.inl ⟨ds,rfl,oa,q2⟩)))
    ·rename_i ds q2;cases h;exact .inr (.inr (.inr (.inr (.inl ⟨ds,rfl,q2⟩))))
    ·rename_i t q2;cases h;exact .inr (.inr (.inr (.inr (.inr ⟨t,rfl,q2⟩))))
    ·cases h
 refine⟨e2,by simp[capE,hl],λi y h=>?_,λi j y z v w h1 h2 _ _ _ a ha _=>?_⟩
 ·obtain⟨p,hp,hi,hy⟩:=noown i y h
  have slot:∀v,σ[p.2]?=some (some v)->(σ1++cap.map λp=>(σ[p.2]?).getD none)[i]?=some (some v):=λv hv=>by
   rw[List.getElem?_append_right (by rw[hl];exact hi),hl,List.getElem?_map,hp]
   show some ((σ[p.2]?).getD none)=_
   rw[hv];rfl
  rcases hy with⟨d,rfl,q⟩ | ⟨ds,rfl,q⟩ | ⟨ds,rfl,q⟩ | ⟨ds,rfl,oa,q⟩ | ⟨ds,rfl,q⟩ | ⟨t,rfl,q⟩
  ·obtain⟨v,hv,h2⟩:=r.ents _ _ q
   exact⟨v,slot v hv,Rp.mono (e.ff.trans e2.ff) h2⟩
  ·obtain⟨v,hv,a,vs,e1,g1,g2,g3,g4⟩:=r.ents _ _ q
   exact⟨v,slot v hv,a,vs,e1,e.hh _ _ g1,g4.mono (e.ff.trans e2.ff)⟩
  ·obtain⟨v,hv,a,vs,e1,g1,g4⟩:=r.ents _ _ q
   exact⟨v,slot v hv,a,vs,e1,e.hh _ _ (r.ex.hh _ _ g1),g4.mono (e.ff.trans e2.ff)⟩
  ·obtain⟨v,hv,a,ob,vs,e1,g1,g2,g3,g4,g5⟩:=r.ents _ _ q
   exact⟨v,slot v hv,a,ob,vs,e1,e.hh _ _ g1,g4.mono (e.ff.trans e2.ff)⟩
  ·obtain⟨v,hv,a,ob,vs,e1,g1,g4⟩:=r.ents _ _ q
   exact⟨v,slot v hv,a,ob,vs,e1,e.hh _ _ (r.ex.hh _ _ g1),g4.mono (e.ff.trans e2.ff)⟩
  ·obtain⟨v,hv,h2⟩:=r.ents _ _ q
   exact⟨v,slot v hv,RepM.ext (e.ff.trans e2.ff) (r.ex.hh.trans e.hh) h2⟩
 ·obtain⟨p,_,_,hy⟩:=noown i y h1
  rcases hy with⟨d,rfl,q⟩ | ⟨ds,rfl,q⟩ | ⟨ds,rfl,q⟩ | ⟨ds,rfl,oa,q⟩ | ⟨ds,rfl,q⟩ | ⟨t,rfl,q⟩<;>cases ha
theorem Yw {own:List Str}{cap:List (Str×Nat)}{t:Tgt}{tc:EnvD->Option Bool}{ge:EnvD->Option D}{gi:EnvD->Option (List D)}(ht:∀i∈t.slots,i < own.length) :
  ∀σ H Q,lG X.kw B (pA X.kw) (gComp own cap t tc ge gi) σ H Q->tComp (lI X.kw B (λH=>H) gi) own cap (tgT X.kw t) (λσ H Q=>∃B',lT X.kw B' tc σ H Q) (λσ H Q=>∃B',lG X.kw B' (pE X.kw) ge σ H Q) σ H Q:=by
 intro σ H Q ⟨F,ρ,out,r,hg,k⟩
 unfold gComp at hg
 cases q:gi ρ with
 |none=>rw[q] at hg;cases hg
 |some ds=>
  rw[q] at hg
  have hg:(if ds.length<=TOP then compD t tc ge (List.replicate own.length none++capE ρ cap) ds else none)=some out:=hg
  split at hg
  ·rename_i htop
   refine⟨F,ρ,ds,r,q,λJ F1 H1 e1 jok=>?_⟩
   refine⟨λi m ys H2=>m=ds.length - i/\i<=ds.length/\∃F2 o1 o2,Ext F1 H1 F2 H2/\Rps X.kw F2 o1 ys/\o1.length<=i/\compD t tc ge (List.replicate own.length none++capE ρ cap) (ds.drop i)=some o2/\out=o1++o2,
    ⟨ds.length,rfl,Nat.zero_le _,F1,[],out,.refl e1.fh,rfl,Nat.le_refl _,hg,rfl⟩,?_⟩
   rintro i m ys H2 ⟨rfl,hi,F2,o1,o2,e2,ry,hl1,h2,rfl⟩
   refine⟨y9 (by rw[<-ry.length];omega),?_⟩
   obtain⟨j1,j2⟩:=jok F2 H2 e2.ff e2.fh e2.hh i
   by_cases hlt:i < ds.length
   ·obtain⟨go,yl⟩:=j1 hlt
    refine .inr ⟨go,λys' H'=>∃F3 p1 p2,Ext F1 H1 F3 H'/\Rps X.kw F3 p1 ys'/\p1.length<=i+1/\compD t tc ge (List.replicate own.length none++capE ρ cap) (ds.drop (i+1))=some p2/\o1++o2=p1++p2,λys' H' ⟨F3,p1,p2,e3,r3,l3,h3,eo⟩=>⟨ds.length - (i+1),by omega,rfl,hlt,F3,p1,p2,e3,r3,l3,h3,eo⟩,λx H3 hy σ1 hσ=>?_⟩
    obtain⟨F3,d,e3,hd,rd⟩:=yl x H3 hy
    have hdd:ds.drop i=d::ds.drop (i+1):=by
     rw[List.drop_eq_getElem_cons hlt]
     congr 1
     rw[List.getElem?_eq_getElem hlt] at hd
     exact Option.some.inj hd
    rw[hdd] at h2
    simp only[compD] at h2
    cases q1:asgD t d (List.replicate own.length none++capE ρ cap) with
    |none=>rw[q1] at h2;cases h2
    |some ρ1=>
     rw[q1] at h2
     have e13:=e2.trans e3
     refine wC (QG (own:=own) (cap:=cap) r e1 e13 hσ) rd q1 λσ' r4 so=>⟨?_,?_⟩
     ·obtain⟨σ1',l1,e4⟩:=so.pre (σ1:=σ1) rfl (λj hj=>by rw[hσ];exact ht j hj)
      exact⟨σ1',by rw[l1,hσ],e4⟩
     ·have h2:((tc ρ1).bind λb=>if b then (ge ρ1).bind λy=>(compD t tc ge (List.replicate own.length none++capE ρ cap) (ds.drop (i+1))).map (y::·) else compD t tc ge (List.replicate own.length none++capE ρ cap) (ds.drop (i+1)))=some o2:=h2
      cases q2:tc ρ1 with
      |none=>rw[q2] at h2;cases h2
      |some bb=>
       rw[q2] at h2
       refine⟨⟨F1,H1⟩,F3,ρ1,bb,r4,q2,λF5 H5 e5=>?_⟩
       cases bb with
       |false=>exact iteF ⟨F5,o1,o2,e13.trans e5,ry.mono (e3.ff.trans e5.ff),by omega,h2,rfl⟩
       |true=>
        have h2:((ge ρ1).bind λy=>(compD t tc ge (List.replicate own.length none++capE ρ cap) (ds.drop (i+1))).map (y::·))=some o2:=h2
        cases q3:ge ρ1 with
        |none=>rw[q3] at h2;cases h2
        |some y=>
         rw[q3] at h2
         have h2:(compD t tc ge (List.replicate own.length none++capE ρ cap) (ds.drop (i+1))).map (y::·)=some o2:=h2
         cases q4:compD t tc ge (List.replicate own.length none++capE ρ cap) (ds.drop (i+1)) with
         |none=>rw[q4] at h2;cases h2
         |some p2=>
          rw[q4] at h2
          cases h2
          refine iteT ⟨⟨F1,H1⟩,F5,ρ1,y,r4.ext e5,q3,λv F6 H6 e6 p6=>?_⟩
          exact⟨F6,o1++[y],p2,e13.trans (e5.trans e6),(ry.mono (e3.ff.trans (e5.ff.trans e6.ff))).snoc p6,by simp;omega,rfl,by simp⟩
   ·have hi':i=ds.length:=by omega
    have hdd:ds.drop i=[]:=by rw[hi',List.drop_length]
    rw[hdd] at h2
    cases h2
    refine .inl ⟨j2 hi',λD hD=>?_⟩
    have e:=e1.trans e2
    exact k _ F2 _ (e.trans (.new e.fh hD)) ⟨D,ys,rfl,e.hh.free hD,zi,e.fh.free hD,by simpa using ry⟩
  ·cases hg
theorem wq {elt:Expr}{ifs:List Expr}{scope:Scope}{own:List Str}{cap:List (Str×Nat)}{t:Tgt}{tc:EnvD->Option Bool}{ge:EnvD->Option D}(hc:X.calm=true)(S:CompScope X scope own cap)(hi:DI X B (λH=>H) tg iter gi)(ht:∀i∈t.slots,i < own.length)
  (hin:∀(B':Bs) C s₀ H₀ fp pn,PG (cxc X scope C (own++cap.map (·.1)) s₀ H₀ fp pn) tg (tgT X.kw t)/\DIfs (cxc X scope C (own++cap.map (·.1)) s₀ H₀ fp pn) B' ifs tc/\DE (cxc X scope C (own++cap.map (·.1)) s₀ H₀ fp pn) B' elt ge)
  (hs:∀x,foldedSetIterable iter X.env x=pure x:=by intro _;rfl) :
  DA X B (.ListComp elt [⟨tg,iter,ifs,0⟩] scope pos) (gComp own cap t tc ge gi):=by
 exact zm (Gs (tc:=λσ H Q=>∃B',lT X.kw B' tc σ H Q) (te:=λσ H Q=>∃B',lG X.kw B' (pE X.kw) ge σ H Q) hc S hi (λC s₀ H₀ fp pn=>⟨(hin ⟨H₀,H₀⟩ C s₀ H₀ fp pn).1,λpins s σ H Q I ⟨B',q⟩=>(hin B' C s₀ H₀ fp pn).2.1 pins s σ H Q I q,λpins s σ H Q I ⟨B',q⟩=>(hin B' C s₀ H₀ fp pn).2.2 pins s σ H Q I q⟩) hs) (Yw ht)
end
def stE (N:List Str)(xs:List (Option En)):EnvD:=xs++List.replicate (N.length - xs.length) none
def outO:Option Fl->Option En
 |some (.next _)=>some (.val .non)
 |some (.ret o)=>some o
 |_=>none
def mir (N:List Str)(g:SD):List En->Option En:=λxs=>outO (g (stE N (xs.map some)))
section
variable {P:Program}{w:World}{K:PySem.W.Frag}{mg:Str->Option Value}{base:Heap}
theorem wM {α β:Type}{R:α->β->Prop}:∀ {l:List α} {r:List β} {i:Nat} {x:α},Paired R l r->l[i]?=some x->∃y,r[i]?=some y/\R x y
 |_,_,_,_,.nil,e=>by simp at e
 |_,_,0,_,.cons r _,e=>by simp at e;subst e;exact⟨_,rfl,r⟩
 |_,_,i+1,x,.cons _ t,e=>by
  obtain⟨u,h1,h2⟩:=wM (i:=i) t (by simpa using e)
  exact⟨u,by simpa using h1,h2⟩
theorem vb {F H:Hp}{N ps:List Str}{xs:List En}{vs:List V}(fh:Same F H)(hp:Paired (λx v=>ArgE ⟨K,w⟩ F H x v) xs vs):Rep ⟨K,w⟩ ⟨F,H⟩ F (L2.start N vs) H (stE N (xs.map some)):=by
 have hl:=xy hp
 have at':∀(i:Nat) y,(stE N (xs.map some))[i]?=some (some y)->xs[i]?=some y:=λi y h=>by
  unfold stE at h
  by_cases hi:i < xs.length
  ·rw[List.getElem?_append_left (by simpa using hi),List.getElem?_map] at h
   cases q:xs[i]? with
   |none=>rw[q] at h;cases h
   |some z=>rw[q] at h;cases h;rfl
  ·rw[List.getElem?_append_right (by simpa using hi),List.getElem?_replicate] at h
   split at h<;>cases h
 refine⟨.refl fh,?_,λi y h=>?_,λi j y z v w h1 h2 _ _ _ a ha _=>?_⟩
 ·unfold L2.start stE
  simp[hl]
 ·have hx:=at' i y h
  obtain⟨v,hv,r⟩:=wM hp hx
  refine⟨v,?_,?_⟩
  ·unfold L2.start
   rw[List.getElem?_append_left (by simpa using (List.getElem?_eq_some_iff.mp hv).1),List.getElem?_map,hv];rfl
  ·cases y with
   |val d=>exact r
   |bor ds=>exact r
   |acc ds=>exact r.elim
   |oac a dx C fs ds=>exact r.elim
   |obw C fs ds=>exact r.elim
   |loc b z=>exact r.elim
   |tre t=>exact r.elim
   |dct oa kvs=>exact r.elim
   |dbo kvs=>exact r
   |exn a=>exact r
   |mbo t=>exact r
 ·have hx:=at' i y h1
  obtain⟨u,_,r⟩:=wM hp hx
  cases y with
  |val d=>cases ha
  |bor ds=>cases ha
  |acc ds=>exact r.elim
  |oac a dx C fs ds=>exact r.elim
  |obw C fs ds=>exact r.elim
  |loc b z=>exact r.elim
  |tre t=>exact r.elim
  |dct oa kvs=>exact r.elim
  |dbo kvs=>cases ha
  |exn a=>cases ha
  |mbo t=>cases ha
theorem zH {x qual:Str}{st:Stmt}{f:Addr}{fd:FuncData}{N ps:List Str}{k:Nat}{g:SD}(F:Fun K x qual st f fd)(S:FnScope N ps (zb st))
  (hb:∀(cdv:Value) (A:Around) (outer:List Env) (s:Shared) (H:Hp) (E:XK) (B:Bs),Room k (A.deeper (envOfC qual (zb st) s.heap.objs.size f cdv)) ->
   DSs (cxOf CX0 P w K mg base N qual (zb st) f cdv A outer s H E).nox B (zk st) g) :
  FnOk P w K mg base CX0 (k+1) f fd ps (pSp ⟨K,w⟩ ps.length (len? ps.length (mir N g))):=by
 refine F.ok S (λvs H Q E h=>?_) (λcdv A outer s H vs Q E hr h=>?_)
 ·obtain⟨F,xs,o,_,hl,hp,_⟩:=h
  rw[<-xy hp];exact hl
 ·obtain⟨F0,xs,o,fh,hl,hp,hm,k⟩:=h
  refine⟨_,hb cdv A outer s H E ⟨F0,H⟩ hr,?_⟩
  have hm:mir N g xs=some o:=by
   unfold len? at hm
   rw[if_pos hl] at hm
   exact hm
  unfold mir at hm
  cases q:g (stE N (xs.map some)) with
  |none=>rw[q] at hm;cases hm
  |some fl=>
   rw[q] at hm
   refine⟨F0,_,fl,vb (ps:=ps) fh hp,q,?_⟩
   cases fl with
   |next ρ=>cases hm;exact λσ' F' H' r s=>k .non F' H' r.ex rfl
   |ret o'=>cases hm;exact λv F' H' e p=>k v F' H' e p
   |brk ρ=>cases hm
   |cont ρ=>cases hm
def outJ (x dx C:Addr):Option (Option En)->Option (List Str×List D)
 |some (some (.oac a d C' fs ds))=>if a=x/\d=dx/\C'=C then some (fs,ds) else none
 |_=>none
def outI (x dx C:Addr):Option Fl->Option (List Str×List D)
 |some (.next ρ)=>outJ x dx C ρ[0]?
 |_=>none
def mirI (C:Addr)(N:List Str)(g:SD)(x dx:Addr):List En->Option (List Str×List D):=λxs=>outI x dx C (g (stE N (some (.oac x dx C [] [])::xs.map some)))
theorem VR {x qual:Str}{st:Stmt}{f C:Addr}{fd:FuncData}{N ps:List Str}{k n:Nat}{g:SD}(F:Fun K x qual st f fd)(S:FnScope N ps (zb st))(hn:ps.length=n+1)
  (hb:∀(cdv:Value) (A:Around) (outer:List Env) (s:Shared) (H:Hp) (E:XK) (B:Bs),Room k (A.deeper (envOfC qual (zb st) s.heap.objs.size f cdv)) ->
   DSs (cxOf CX0 P w K mg base N qual (zb st) f cdv A outer s H E).nox B (zk st) g) :
  FnOk P w K mg base CX0 (k+1) f fd ps (iSp ⟨K,w⟩ C n (mirI C N g)):=by
 refine F.ok S (λvs H Q E h=>?_) (λcdv A outer s H vs Q E hr h=>?_)
 ·obtain⟨F,H1,xs,a,dx,vs',fs,ds,rfl,_,_,_,_,_,hl,hp,_⟩:=h
  rw[List.length_cons,<-xy hp,hl,hn]
 ·obtain⟨F0,H1,xs,a,dx,vs',fs,ds,rfl,nx,ndx,nex,rfl,fh,hl,hp,hm,k⟩:=h
  refine⟨_,hb cdv A outer s _ E ⟨F0,H1⟩ hr,?_⟩
  have hx1:(upd H1 dx (.own a)) a=none:=by rw[zd (Ne.symm nex)];exact nx
  have sH:Same H1 (upd (upd H1 dx (.own a)) a (.ins C dx [])):=(zX ndx).trans (zX hx1)
  have r0:=vb (N:=N) (ps:=ps) fh hp
  have hla:=xy hp
  have R:Rep ⟨K,w⟩ ⟨F0,H1⟩ F0 (L2.start N (.ref a::vs')) (upd (upd H1 dx (.own a)) a (.ins C dx [])) (stE N (some (.oac a dx C [] [])::xs.map some)):=by
   have sl:∀i:Nat,(L2.start N (.ref a::vs'))[i+1]?=none∨∀v,(L2.start N (.ref a::vs'))[i+1]?=some (some v)->vs'[i]?=some v:=λi=>.inr λv h=>by
    unfold L2.start at h
    by_cases hi:i < vs'.length
    ·rw[List.getElem?_append_left (by simpa using hi),List.getElem?_map,List.getElem?_cons_succ] at h
     cases q:vs'[i]? with
     |none=>rw[q] at h;cases h
     |some z=>rw[q] at h;cases h;rfl
    ·rw[List.getElem?_append_right (by simpa using hi),List.getElem?_replicate] at h
     split at h<;>cases h
   have at':∀(i:Nat) y,(stE N (some (.oac a dx C [] [])::xs.map some))[i]?=some (some y)->(i=0/\y=.oac a dx C [] [])∨∃j,i=j+1/\xs[j]?=some y:=λi y h=>by
    unfold stE at h
    cases i with
    |zero=>simp at h;exact .inl ⟨rfl,h.symm⟩
    |succ j=>
     refine .inr ⟨j,rfl,?_⟩
     by_cases hi:j < xs.length
     ·rw[List.getElem?_append_left (by simpa using hi),List.getElem?_cons_succ,List.getElem?_map] at h
      cases q:xs[j]? with
      |none=>rw[q] at h;cases h
      |some z=>rw[q] at h;cases h;rfl
     ·rw[List.getElem?_append_right (by simpa using hi),List.getElem?_replicate] at h
      split at h<;>cases h
   refine⟨⟨Same.refl _,sH,fh.trans sH,λ_ h=>.inl h⟩,?_,λi y h=>?_,λi j y z v w h1 h2 _ _ hne b hb hc=>?_⟩
   ·unfold L2.start stE
    simp[hla]
   ·rcases at' i y h with⟨rfl,rfl⟩ | ⟨j,rfl,hx⟩
    ·exact⟨.ref a,by simp[L2.start],[],rfl,zi,rfl,fh.free nx,nx,rfl,by rw[zd nex];exact zi,fh.free ndx,ndx⟩
    ·obtain⟨v,hv,r⟩:=wM hp hx
     refine⟨v,?_,?_⟩
     ·unfold L2.start
      rw[List.getElem?_append_left (by simpa using (List.getElem?_eq_some_iff.mp hv).1),List.getElem?_map,List.getElem?_cons_succ,hv];rfl
     ·cases y with
      |val d=>exact r
      |bor ds=>exact r
      |acc ds=>exact r.elim
      |oac a dx C fs ds=>exact r.elim
      |obw C fs ds=>exact r.elim
      |loc b z=>exact r.elim
      |tre t=>exact r.elim
      |dct oa kvs=>exact r.elim
      |dbo kvs=>exact r
      |exn a=>exact r
      |mbo t=>exact r
   ·have own0:∀(i:Nat) y v b,(stE N (some (.oac a dx C [] [])::xs.map some))[i]?=some (some y)->b∈feetE (upd (upd H1 dx (.own a)) a (.ins C dx [])) y v->i=0:=λi y v b h o=>by
     rcases at' i y h with⟨rfl,_⟩ | ⟨j,rfl,hx⟩
     ·rfl
     ·obtain⟨u,_,r⟩:=wM hp hx
      cases y with
      |val d=>cases o
      |bor ds=>cases o
      |acc ds=>exact r.elim
      |oac a dx C fs ds=>exact r.elim
      |obw C fs ds=>exact r.elim
      |loc b z=>exact r.elim
      |tre t=>exact r.elim
      |dct oa kvs=>exact r.elim
      |dbo kvs=>cases o
      |exn a=>cases o
      |mbo t=>cases o
    exact hne (by rw[own0 i y v b h1 hb,own0 j z w b h2 hc])
  unfold mirI at hm
  cases q:g (stE N (some (.oac a dx C [] [])::xs.map some)) with
  |none=>rw[q] at hm;cases hm
  |some fl=>
   rw[q] at hm
   refine⟨F0,_,fl,R,q,?_⟩
   cases fl with
   |next ρ=>
    refine λσ' F' H' r s=>?_
    replace hm:outJ a dx C ρ[0]?=some (fs,ds):=hm
    unfold outJ at hm
    split at hm
    ·rename_i a' d' C' fs' ds' q0
     split at hm
     ·rename_i hc
      obtain⟨rfl,rfl,rfl⟩:=hc
      cases hm
      obtain⟨v,_,vs,rfl,h1,h2,h3,_,h5,d1,d2,_⟩:=r.ents 0 _ q0
      exact k F' H' vs r.ex h3 h1 h2 h5 ⟨d1,d2⟩
     ·cases hm
    ·cases hm
   |ret o'=>cases hm
   |brk ρ=>cases hm
   |cont ρ=>cases hm
end
section
variable {X:Cx}{B:Bs}{e a b c o:Expr}{es:List Expr}{pos p apos:Pos}{g:EnvD->Option D}{gxs:EnvD->Option (List En)}{x mm:Str}{C:Addr}{n k:Nat}{m:List En->Option En}
def fNeg:D->Option D
 |.int i=>some (.int (-i))
 |_=>none
def gNeg (g:EnvD->Option D):EnvD->Option D:=λρ=>(g ρ).bind fNeg
theorem xJ (ha:DR X B a g):DE X B (.UnaryOp .USub a pos) (gNeg g) :=
 zm (VI Up ha) λσ H Q zz=>zz.el λF ρ d r hg k=>by
  unfold gNeg at hg
  cases q:g ρ with
  |none=>rw[q] at hg;cases hg
  |some y=>
   rw[q] at hg
   cases y with
   |int i=>cases hg;exact⟨F,ρ,_,r,q,λv F1 H1 e1 p1=>⟨i,p1.int,k _ F1 H1 e1 rfl⟩⟩
   |_=>cases hg
structure Fx (P:Program)(w:World)(K:PySem.W.Frag)(mg:Str->Option Value)(base:Heap)(x:Str)(k n:Nat)(m:List En->Option En):Prop where
 ex:∃f fd ps,FnOk P w K mg base CX0 k f fd ps (pSp ⟨K,w⟩ n (len? n m))/\mg x=some (.ref f)/\keepIn K (.ref f)=true/\Binds K fd ps []
structure Mx (P:Program)(w:World)(K:PySem.W.Frag)(mg:Str->Option Value)(base:Heap)(C:Addr)(x:Str)(k n:Nat)(m:List En->Option En):Prop where
 ex:∃f fd ps,FnOk P w K mg base CX0 k f fd ps (pSp ⟨K,w⟩ n (len? n m))/\Meth K C x f/\Binds K fd ps []
structure Kx (P:Program)(w:World)(K:PySem.W.Frag)(mg:Str->Option Value)(base:Heap)(C:Addr)(x:Str)(k n:Nat)(mi:List En->Option (List Str×List D)):Prop where
 ex:∃f fd ps mi',FnOk P w K mg base CX0 k f fd ps (iSp ⟨K,w⟩ C n mi')/\Mk K C f/\mg x=some (.ref C)/\Binds K fd ps []/\∀a dx xs,mi' a dx xs=mi xs
theorem zw (h:Fx X.prog X.w X.kw X.mg X.base x k n m)(hr:Room k X.A)(hg:Gl X x)(ha:DNs X B (e::es) gxs)(hdb:(x==("__debug__" : Str))=false:=by decide +kernel)
  (he:starEach (e::es) X.env=(false,eval e X.env)::starEach es X.env:=by rfl) (hpl:(backTo pos (starEach es X.env)).any (·.1)=false:=by rfl):DE X B (.Call (.Name x p) (e::es) [] pos) (gCall (len? n m) frzO gxs):=by
 obtain⟨f,fd,ps,F,hm,hk,hb⟩:=h.ex
 exact Kp F hr hg hm hk hb ha hdb he hpl
theorem xk (h:Fx X.prog X.w X.kw X.mg X.base x k n m)(hr:Room k X.A)(hg:Gl X x)(ha:DNs X B (e::es) gxs)(hdb:(x==("__debug__" : Str))=false:=by decide +kernel)
  (he:starEach (e::es) X.env=(false,eval e X.env)::starEach es X.env:=by rfl) (hpl:(backTo pos (starEach es X.env)).any (·.1)=false:=by rfl):DA X B (.Call (.Name x p) (e::es) [] pos) (gCall (len? n m) accO gxs):=by
 obtain⟨f,fd,ps,F,hm,hk,hb⟩:=h.ex
 exact Qs F hr hg hm hk hb ha hdb he hpl
theorem YO {pl:Sem Bool}(ho:DE X B o g)(cl:Cls X.kw C)(h:Mx X.prog X.w X.kw X.mg X.base C mm k n m)(hr:Room k X.A)(ha:DNs X B (e::es) gxs)
  (hst:starEach (e::es) X.env=(false,eval e X.env)::starEach es X.env:=by rfl) (hpl:(backTo pos (starEach es X.env)).any (·.1)=false:=by rfl)
  (ht:eval (.Call (.Attribute o mm apos) (e::es) [] pos) X.env=(do
   let ov <-eval o X.env
   standAt apos.atName
   let (f,first) <-holding [ov] (getMethod ov mm pl)
   callWith pos f first (backTo pos (starEach (e::es) X.env)) (backToKw pos (keywordEach [] X.env))):=by rfl) :
  DE X B (.Call (.Attribute o mm apos) (e::es) [] pos) (gMeth C mm (len? n m) frzO g gxs):=by
 obtain⟨f,fd,ps,F,hm,hb⟩:=h.ex
 exact J7 ho cl hm F hr hb ha hst hpl ht
theorem Qt {mi:List En->Option (List Str×List D)}(h:Kx X.prog X.w X.kw X.mg X.base C x k n mi)(hr:Room (k+1) X.A)(hg:Gl X x)(ha:DNs X B (e::es) gxs)(hdb:(x==("__debug__" : Str))=false:=by decide +kernel)
  (he:starEach (e::es) X.env=(false,eval e X.env)::starEach es X.env:=by rfl) (hpl:(backTo pos (starEach es X.env)).any (·.1)=false:=by rfl):DE X B (.Call (.Name x p) (e::es) [] pos) (gMake C n mi gxs):=by
 obtain⟨f,fd,ps,mi',F,M,hm,hb,hmi⟩:=h.ex
 exact VJ hmi M F hr hg hm hb ha hdb he hpl
theorem yv {gs:EnvD->Option (List D)}(hg:Gl X "len") (hm:X.mg "len" = none) (ha:DRs X B [a] gs) (he:starEach [a] X.env=(false,eval a X.env)::starEach [] X.env:=by rfl) (hpl:(backTo pos (starEach [] X.env)).any (·.1)=false:=by rfl) :
  DE X B (.Call (.Name "len" p) [a] [] pos) (gB fLen gs):=qD Gx J0 hg hm (by decide +kernel) ha (by decide) (by decide) he hpl
theorem km {gs:EnvD->Option (List D)}(hc:X.calm=true)(hg:Gl X "min") (hm:X.mg "min" = none) (ha:DRs X B [a,b] gs) (he:starEach [a,b] X.env=(false,eval a X.env)::starEach [b] X.env:=by rfl) (hpl:(backTo pos (starEach [b] X.env)).any (·.1)=false:=by rfl) :
  DE X B (.Call (.Name "min" p) [a,b] [] pos) (gB fMin gs):=qD (Gc hc) Kq hg hm (by decide +kernel) ha (by decide) (by decide) he hpl
theorem Ul {gs:EnvD->Option (List D)}(hc:X.calm=true)(hg:Gl X "all") (hm:X.mg "all" = none) (ha:DRs X B [a] gs) (he:starEach [a] X.env=(false,eval a X.env)::starEach [] X.env:=by rfl) (hpl:(backTo pos (starEach [] X.env)).any (·.1)=false:=by rfl) :
  DE X B (.Call (.Name "all" p) [a] [] pos) (gB fAll gs):=qD (U5 hc) QS hg hm (by decide +kernel) ha (by decide) (by decide) he hpl
theorem x6 {gs:EnvD->Option (List D)}(hg:Gl X "list") (hm:X.mg "list" = none) (ha:DRs X B [a] gs) (he:starEach [a] X.env=(false,eval a X.env)::starEach [] X.env:=by rfl) (hpl:(backTo pos (starEach [] X.env)).any (·.1)=false:=by rfl) :
  DA X B (.Call (.Name "list" p) [a] [] pos) (gB fList gs):=QR Gi JU hg hm (by decide +kernel) ha (by decide) (by decide) he hpl
theorem kitT {K:PySem.W.Frag}(T:String)(hT:T∈["bool","int","str","list","tuple","dict"]):∀t b,subT t T=some b->kitOne K (.type t) (.type T)=some b:=by
 intro t b h
 unfold subT at h
 by_cases h1:t=T
 ·rw[if_pos h1] at h
  cases h
  subst h1
  unfold kitOne
  rw[if_pos (beq_self_eq_true _)]
 ·rw[if_neg h1] at h
  by_cases h2:t = "bool" /\ T = "int"
  ·rw[if_pos h2] at h
   cases h
   obtain⟨rfl,rfl⟩:=h2
   rfl
  ·rw[if_neg h2] at h
   by_cases h3:(t∈["NoneType","bool","int","str","list","tuple","dict"])/\(T∈["bool","int","str","list","tuple","dict"])
   ·rw[if_pos h3] at h
    cases h
    obtain⟨m1,m2⟩:=h3
    simp only[List.mem_cons,List.not_mem_nil,or_false] at m1 m2
    rcases m1 with rfl | rfl | rfl | rfl | rfl | rfl | rfl<;>rcases m2 with rfl | rfl | rfl | rfl | rfl | rfl<;>first | rfl | exact absurd rfl h1 | exact absurd ⟨rfl,rfl⟩ h2
   ·rw[if_neg h3] at h;cases h
def ckFree (sc:List (Str×NameKind))(y:Str×NameKind):Bool:=y.2 != .free||sc.lookup y.1==some .cell||sc.lookup y.1==some .free
def ckComp (names sc:List (Str×NameKind))(N:List Str)(cap:List (Str×Nat)):Bool :=
 names.all (λy=>y.2 != .cell)&&names.all (λy=>y.2 != .local||names.lookup y.1==some .local)&&names.all (ckFree sc)&&cap.all (λp=>names.lookup p.1==some .free&&N[p.2]?==some p.1)
theorem ym {scope:Scope}{own:List Str}{cap:List (Str×Nat)}{sc:List (Str×NameKind)}{N:List Str}(hk:scope.kind=.function)(h1:X.env.scope.names=sc)(h2:X.N=N)(h:ckComp scope.names sc N cap=true):CompScope X scope own cap:=by
 subst h1 h2
 unfold ckComp at h
 simp only[Bool.and_eq_true,List.all_eq_true] at h
 obtain⟨⟨⟨a1,a2⟩,a3⟩,a4⟩:=h
 refine⟨hk,λy hy e=>?_,λy hy e=>?_,λy hy e=>?_,λp hp=>?_⟩
 ·have:=a1 y hy;rw[e] at this;cases this
 ·have:=a2 y hy;rw[e] at this;simpa using this
 ·have:=a3 y hy
  unfold ckFree at this
  rw[e] at this
  have q:List.lookup y.fst X.env.scope.names=some NameKind.cell∨List.lookup y.fst X.env.scope.names=some NameKind.free:=by simpa using this
  exact q
 ·have:=a4 p hp
  simpa using this
end
def thenB (o:Option Fl)(g:SD):Option Fl:=o.bind λfl=>match fl with | .next ρ'=>g ρ' | fl=>some fl
def loopB (o:Option Fl)(k:EnvD->Option Fl):Option Fl:=o.bind λfl=>match fl with | .next ρ2=>k ρ2 | .cont ρ2=>k ρ2 | .brk ρ2=>some (.next ρ2) | .ret o=>some (.ret o)
section
variable {ρ:EnvD}{i k n:Nat}{d x y:D}{ds es:List D}{a b j:Int}{α γ:Type}{ga gb gc' g:EnvD->Option D}{ta tb:EnvD->Option Bool}{gs:EnvD->Option (List D)}{s1 s2:SD}
@[simp]theorem zas:gc d ρ=some d:=rfl
@[simp]theorem zbt:gv i ρ=match ρ[i]? with | some (some (.val d))=>some d | _=>none:=rfl
@[simp]theorem GT:gr i ρ=match ρ[i]? with | some (some (.val d))=>some d | some (some (.acc ds))=>some (.lst ds) | some (some (.bor ds))=>some (.lst ds) | _=>none:=rfl
@[simp]theorem Rb:gn i ρ=match ρ[i]? with | some (some (.val d))=>some (.val d) | some (some (.acc ds))=>some (.bor ds) | some (some (.bor ds))=>some (.bor ds) | some (some (.dct _ kvs))=>some (.dbo kvs) | some (some (.dbo kvs))=>some (.dbo kvs) | _=>none:=rfl
@[simp]theorem GH:gf i ρ=match ρ[i]? with | some (some (.val d))=>some d | some (some (.bor ds))=>some (.lst ds) | _=>none:=rfl
@[simp]theorem Re:gFz gs ρ=(gs ρ).map D.lst:=rfl
@[simp]theorem zb9 {f:D->D->Option γ}:g2 f ga gb ρ=(ga ρ).bind λx=>(gb ρ).bind λy=>f x y:=rfl
@[simp]theorem RF {f f':D->D->Option D}:g3 f f' ga gb gc' ρ=(ga ρ).bind λx=>(gb ρ).bind λy=>((f x y).bind asB).bind λk=>if k then (gc' ρ).bind λz=>f' y z else some (.bl false):=rfl
@[simp]theorem GO:gt g ρ=(g ρ).bind truD:=rfl
@[simp]theorem R4:gb' g ρ=(g ρ).bind asB:=rfl
@[simp]theorem GP:gAnd ta tb ρ=(ta ρ).bind λx=>if x then tb ρ else some false:=rfl
@[simp]theorem RD:gOr ta tb ρ=(ta ρ).bind λx=>if x then some true else tb ρ:=rfl
@[simp]theorem GJ:gNot ta ρ=(ta ρ).map λx=>!x:=rfl
@[simp]theorem zb1:gAndV ga gb ρ=((ga ρ).bind asB).bind λx=>if x then gb ρ else some (.bl false):=rfl
@[simp]theorem Rg:gNotV ga ρ=((ga ρ).bind asB).map λx=>.bl (!x):=rfl
@[simp]theorem RK:gIf ta ga gb ρ=(ta ρ).bind λx=>if x then ga ρ else gb ρ:=rfl
@[simp]theorem zaz:gNil ρ=some []:=rfl
@[simp]theorem zay:gCons' g gs ρ=(g ρ).bind λd=>(gs ρ).bind λds=>some (d::ds):=rfl
@[simp]theorem GD:gTup' gs ρ=(gs ρ).bind λds=>if ds.length<=TOP then some (.tup ds) else none:=rfl
@[simp]theorem zbu:gLst gs ρ=(gs ρ).bind λds=>if ds.length<=TOP then some ds else none:=rfl
@[simp]theorem zbe {f:List D->Option γ}:gB f gs ρ=(gs ρ).bind f:=rfl
@[simp]theorem R8:nNil ρ=some []:=rfl
@[simp]theorem R9 {g:EnvD->Option En}{gs:EnvD->Option (List En)}:nCons g gs ρ=(g ρ).bind λd=>(gs ρ).bind λds=>some (d::ds):=rfl
@[simp]theorem RM:gVal g ρ=(g ρ).map En.val:=rfl
@[simp]theorem GA {T:String}:gIs T g ρ=(g ρ).bind λd=>(tyD d).bind λt=>(subT t T).map D.bl:=rfl
@[simp]theorem Rl:gNone ρ=some none:=rfl
@[simp]theorem zbv:gSome g ρ=(g ρ).bind λd=>(asI d).map some:=rfl
@[simp]theorem Rf:gNeg g ρ=(g ρ).bind fNeg:=rfl
@[simp]theorem zbd:gIt g ρ=(g ρ).bind itL:=rfl
@[simp]theorem GR {gl gh:EnvD->Option (Option Int)}:gSl g gl gh ρ=(g ρ).bind λd=>(gl ρ).bind λl=>(gh ρ).bind λh=>match d with | .lst ds=>some (cutD ds l h) | _=>none:=rfl
@[simp]theorem zaq:fNeg (.int a)=some (.int (-a)):=rfl
@[simp]theorem zbg:itL (.lst ds)=some ds:=rfl
@[simp]theorem zbo:asI (.int a)=some a:=rfl
@[simp]theorem zbl {b:Bool}:asB (.bl b)=some b:=rfl
@[simp]theorem zag {m:List En->Option En}{f:En->Option α}{gs:EnvD->Option (List En)}:gCall m f gs ρ=((gs ρ).bind m).bind f:=rfl
@[simp]theorem zbb {m:List En->Option En}{xs:List En}:len? n m xs=if xs.length=n then m xs else none:=rfl
@[simp]theorem za8:frzO (.val d)=some d:=rfl
@[simp]theorem RC:frzO (.acc ds)=some (.lst ds):=rfl
@[simp]theorem GI:frzO (.bor ds)=none:=rfl
@[simp]theorem zal {p q C:Addr}{fs:List Str}:frzO (.oac p q C fs ds)=none:=rfl
@[simp]theorem RZ {t:OT}:frzO (.tre t)=some t.erase:=rfl
@[simp]theorem RE {t:OT}:accO (.tre t)=none:=rfl
@[simp]theorem zad:accO (.val d)=none:=rfl
@[simp]theorem zai:accO (.bor ds)=none:=rfl
@[simp]theorem Rn:accO (.acc ds)=some ds:=rfl
@[simp]theorem zar:gR1 gs ρ=(gs ρ).bind λxs=>match xs with | [.int j]=>if -BIG<=j/\j<=BIG then some (rngD 0 j.toNat) else none | _=>none:=rfl
@[simp]theorem zam:gEn gs ρ=(gs ρ).bind λxs=>match xs with | [d]=>(itL d).map (enumD 0) | _=>none:=rfl
@[simp]theorem G5 {C:Addr}{fl:Str}:gFld C fl g ρ=(g ρ).bind λd=>match d with | .obj C' fs ds=>if C'=C then lookZ fl fs ds else none | _=>none:=rfl
@[simp]theorem RY {C:Addr}{mm:Str}{m:List En->Option En}{f:En->Option α}{go:EnvD->Option D}{gs:EnvD->Option (List En)}:gMeth C mm m f go gs ρ=(go ρ).bind λd=>match d with
 |.obj C' fs ds=>if C'=C/\lookZ mm fs ds=none then ((gs ρ).bind λxs=>m (.val d::xs)).bind f else none
 |_=>none:=rfl
@[simp]theorem Ro {C:Addr}{mi:List En->Option (List Str×List D)}{gs:EnvD->Option (List En)}:gMake C n mi gs ρ=(gs ρ).bind λxs=>if xs.length=n then (mi xs).map λr=>.obj C r.1 r.2 else none:=rfl
@[simp]theorem za4 {own:List Str}{cap:List (Str×Nat)}{t:Tgt}{tc:EnvD->Option Bool}{ge:EnvD->Option D}{gi:EnvD->Option (List D)}:gComp own cap t tc ge gi ρ=(gi ρ).bind λds=>if ds.length<=TOP then compD t tc ge (List.replicate own.length none++capE ρ cap) ds else none:=rfl
@[simp]theorem RH {cap:List (Str×Nat)}:capE ρ cap=cap.map λp=>capO ρ[p.2]?:=rfl
@[simp]theorem Ga:tYes ρ=some true:=rfl
@[simp]theorem GQ:fSub (.int a) (.int b)=some (.int (a - b)):=rfl
theorem YK:fMul (.int a) (.int b)=if (decide (-LIM < a)&&decide (a < LIM))||(decide (-LIM < b)&&decide (b < LIM)) then some (.int (a * b)) else none:=rfl
theorem vS (h1:-LIM < a)(h2:a < LIM):fMul (.int a) (.int b)=some (.int (a * b)):=by rw[YK,if_pos (by simp[h1,h2])]
theorem zbx (h1:-LIM < b)(h2:b < LIM):fMul (.int a) (.int b)=some (.int (a * b)):=by rw[YK,if_pos (by simp[h1,h2])]
theorem Kc:fDiv (.int a) (.int b)=if decide (0 < b)&&decide (b < 1073741824) then some (.int (a / b)) else none:=rfl
theorem Vt:fMod (.int a) (.int b)=if decide (0 < b) then some (.int (a % b)) else none:=rfl
theorem zS (h1:0 < b)(h2:b < 1073741824):fDiv (.int a) (.int b)=some (.int (a / b)):=by rw[Kc,if_pos (by simp[h1,h2])]
theorem zE (h1:0 < b):fMod (.int a) (.int b)=some (.int (a % b)):=by rw[Vt,if_pos (by simp[h1])]
theorem Yo (h1:0<=b):fShr (.int a) (.int b)=some (.int (a / 2 ^ b.toNat)):=by show (if _ then _ else _)=_;rw[if_pos (by simp[h1])]
@[simp]theorem zb2:fAnd (.int a) (.int b)=some (.int (Builtin.bitAnd a b)):=rfl
theorem Vj:fPow (.int a) (.int b)=if decide (0<=b)&&decide (b<=1000000)&&decide (a.natAbs < 18446744073709551616) then some (.int (a ^ b.toNat)) else none:=rfl
@[simp]theorem GF:fLt (.int a) (.int b)=some (.bl (decide (a < b))):=rfl
@[simp]theorem za5:fLe (.int a) (.int b)=some (.bl (decide (a<=b))):=rfl
@[simp]theorem G7:fGt (.int a) (.int b)=some (.bl (decide (b < a))):=rfl
@[simp]theorem zbi:fIx (.lst ds) (.int a)=atI ds a:=rfl
@[simp]theorem GX:fIx (.tup ds) (.int a)=atI ds a:=rfl
@[simp]theorem GM {ns:List Int}:fIx (.scr ns) (.int a)=(atI ns a).map D.int:=rfl
theorem Zg:eqOk (.int a)=true:=by simp[eqOk,SeqAt.shaped,toP,PyData.canLay0,PyData.depth]
@[simp]theorem GB {neg:Bool}:fEq neg (.int a) (.int b)=some (.bl (if neg then !decide (a=b) else decide (a=b))):=by
 unfold fEq
 rw[Zg,Zg]
 have:eqD (.int a) (.int b)=decide (a=b):=by
  by_cases h:a=b
  ·subst h;simp[eqD,toP,PyData.eqv]
  ·simp[eqD,toP,PyData.eqv,h]
 rw[this];rfl
@[simp]theorem G4 {neg:Bool}:fIs neg d .non=some (.bl (if neg then !isNon d else isNon d)):=by cases d<;>rfl
@[simp]theorem zac:isNon .non=true:=rfl
@[simp]theorem R0:isNon (.int a)=false:=rfl
@[simp]theorem Rr {b:Bool}:truD (.bl b)=some b:=rfl
@[simp]theorem RB:truD (.lst ds)=some (!ds.isEmpty):=rfl
@[simp]theorem GY:truD (.tup ds)=some (!ds.isEmpty):=rfl
@[simp]theorem R6:fLen [.lst ds]=some (.int ds.length):=rfl
@[simp]theorem RO:fLen [.tup ds]=some (.int ds.length):=rfl
@[simp]theorem zae {ns:List Int}:fLen [.scr ns]=some (.int ns.length):=rfl
@[simp]theorem R5:fMin [.int a,.int b]=some (.int (min a b)):=by
 show some (D.int (if b < a then b else a))=_
 congr 2;split<;>omega
@[simp]theorem za9:fAll [.lst ds]=(asBs ds).map λbs=>.bl (bs.all λx=>x):=rfl
@[simp]theorem GZ:fList [.lst ds]=some ds:=rfl
@[simp]theorem GW:fList [.tup ds]=some ds:=rfl
@[simp]theorem RW:tyD (.int a)=some "int" := rfl
@[simp]theorem zb5 {b:Bool}:tyD (.bl b)=some "bool" := rfl
@[simp]theorem zba:tyD .non=some "NoneType" := rfl
@[simp]theorem RG:tyD (.lst ds)=some "list" := rfl
@[simp]theorem Rm:tyD (.tup ds)=some "tuple" := rfl
@[simp]theorem za2 {x:Str}:tyD (.str x)=some "str" := rfl
@[simp]theorem zbp:subT "int" "int" = some true:=by decide
@[simp]theorem zca:subT "int" "bool" = some false:=by decide
@[simp]theorem RT:subT "NoneType" "int" = some false:=by decide
@[simp]theorem za0:subT "list" "list" = some true:=by decide
@[simp]theorem G6:subT "tuple" "tuple" = some true:=by decide
@[simp]theorem zau:sSeq s1 s2 ρ=thenB (s1 ρ) s2:=rfl
@[simp]theorem zb8:thenB (some (.next ρ)) s2=s2 ρ:=rfl
@[simp]theorem zax {o:En}:thenB (some (.ret o)) s2=some (.ret o):=rfl
@[simp]theorem za6:thenB none s2=none:=rfl
@[simp]theorem za1 {k:EnvD->Option Fl}:loopB (some (.next ρ)) k=k ρ:=rfl
@[simp]theorem R1 {k:EnvD->Option Fl}{o:En}:loopB (some (.ret o)) k=some (.ret o):=rfl
@[simp]theorem RX {k:EnvD->Option Fl}:loopB none k=none:=rfl
@[simp]theorem Rw:sNext ρ=some (.next ρ):=rfl
@[simp]theorem Rc:sNever ρ=none:=rfl
@[simp]theorem zah:sFrz i s1 ρ=s1 (frzE i ρ):=rfl
@[simp]theorem zbk:frzE i ρ=match ρ[i]? with | some (some (.acc ds))=>ρ.set i (some (.val (.lst ds))) | some (some (.oac _ _ C fs ds))=>ρ.set i (some (.val (.obj C fs ds))) | some (some (.tre t))=>ρ.set i (some (.val t.erase)) | _=>ρ:=rfl
@[simp]theorem zan:sSet i g ρ=(g ρ).map λd=>.next (ρ.set i (some (.val d))):=rfl
@[simp]theorem Rj:sSetA i gs ρ=(gs ρ).map λds=>.next (ρ.set i (some (.acc ds))):=rfl
@[simp]theorem zaj:sRet g ρ=(g ρ).map λd=>.ret (.val d):=rfl
@[simp]theorem G8:sRetA gs ρ=(gs ρ).map λd=>.ret (.acc d):=rfl
@[simp]theorem zb7:sRetV i ρ=match ρ[i]? with | some (some (.acc ds))=>some (.ret (.acc ds)) | some (some (.val d))=>some (.ret (.val d)) | _=>none:=rfl
@[simp]theorem R7:sIf ta s1 s2 ρ=(ta ρ).bind λb=>if b then s1 ρ else s2 ρ:=rfl
@[simp]theorem Rt:sExpr g ρ=(g ρ).map λ_=>.next ρ:=rfl
@[simp]theorem GK:sApp i g ρ=match ρ[i]? with | some (some (.acc ds))=>(g ρ).bind λd=>if ds.length<=TOP then some (.next (ρ.set i (some (.acc (ds++[d]))))) else none | _=>none:=rfl
@[simp]theorem RA:sPop i ρ=match ρ[i]? with | some (some (.acc ds))=>if ds.isEmpty then none else some (.next (ρ.set i (some (.acc ds.dropLast)))) | _=>none:=rfl
@[simp]theorem zb4 {gi:EnvD->Option D}:sPut i gi g ρ=match ρ[i]? with | some (some (.acc ds))=>(g ρ).bind λd=>((gi ρ).bind asI).bind λj=>(ixN ds.length j).map λn=>.next (ρ.set i (some (.acc (ds.set n d)))) | _=>none:=rfl
@[simp]theorem zap {C:Addr}{fl:Str}:sFldD i C fl g ρ=match ρ[i]? with | some (some (.oac a dx C' fs ds))=>if C'=C/\fs.length < 900 then (g ρ).map λd=>.next (ρ.set i (some (.oac a dx C (putZ fl d fs ds).1 (putZ fl d fs ds).2))) else none | _=>none:=rfl
@[simp]theorem GC {t:Tgt}{gi:EnvD->Option (List D)}:sFor t gi s1 ρ=(gi ρ).bind λds=>forD t s1 ds ρ:=rfl
@[simp]theorem VY:asgD (.name i) d ρ=some (ρ.set i (some (.val d))):=rfl
@[simp]theorem Rv {is:List Nat}:asgD (.tup is) (.tup ds) ρ=if ds.length=is.length then some (yF is ds ρ) else none:=rfl
@[simp]theorem RV {is:List Nat}:yF (i::is) (d::ds) ρ=yF is ds (ρ.set i (some (.val d))):=rfl
@[simp]theorem GG:yF [] [] ρ=ρ:=rfl
@[simp]theorem GL {o:En}:outO (some (.ret o))=some o:=rfl
@[simp]theorem zb6:outO (some (.next ρ))=some (.val .non):=rfl
@[simp]theorem RN {t:Tgt}:forD t s1 [] ρ=some (.next ρ):=rfl
@[simp]theorem zat {t:Tgt}:forD t s1 (d::ds) ρ=loopB ((asgD t d ρ).bind s1) (forD t s1 ds):=by
 show ((asgD t d ρ).bind λρ1=>(s1 ρ1).bind λfl=>_)=_
 cases asgD t d ρ with
 |none=>rfl
 |some ρ1=>rfl
@[simp]theorem GE {t:Tgt}:compD t ta g ρ []=some []:=rfl
@[simp]theorem xx {t:Tgt}:compD t ta g ρ (d::ds)=(asgD t d ρ).bind λρ1=>(ta ρ1).bind λb=>if b then (g ρ1).bind λy=>(compD t ta g ρ ds).map (y::·) else compD t ta g ρ ds:=rfl
@[simp]theorem zb0:capO (some (some (.val d)))=some (.val d):=rfl
@[simp]theorem zbf:capO (some (some (.acc ds)))=some (.bor ds):=rfl
@[simp]theorem G9:capO (some (some (.bor ds)))=some (.bor ds):=rfl
@[simp]theorem R3 {oa:Option Addr}{kvs:List (Key×D)}:capO (some (some (.dct oa kvs)))=some (.dbo kvs):=rfl
@[simp]theorem Rh {kvs:List (Key×D)}:capO (some (some (.dbo kvs)))=some (.dbo kvs):=rfl
theorem yu {xs:List α}{v:α}(n:Nat)(h:xs[n]?=some v):atI xs (n:Int)=some v:=by
 have hl:n < xs.length:=(List.getElem?_eq_some_iff.mp h).1
 unfold atI ixN
 rw[if_pos (by omega),if_pos (by omega)]
 simpa using h
@[simp]theorem G3 {xs:List α}{v:α}:atI (v::xs) 0=some v:=yu 0 rfl
@[simp]theorem RQ {xs:List α}{v w:α}:atI (w::v::xs) 1=some v:=yu 1 rfl
@[simp]theorem zb3 {xs:List α}{v w u:α}:atI (u::w::v::xs) 2=some v:=yu 2 rfl
@[simp]theorem qM {xs:List α}{v:α}:atI (xs++[v]) (-1)=some v:=by
 unfold atI ixN
 rw[if_neg (by omega),if_pos (by simp;omega)]
 simp
 have:(-1+((xs.length:Int)+1)).toNat=xs.length:=by omega
 rw[this];simp
theorem K6 (n:Nat):ixN (n+1) (-1)=some n:=by
 unfold ixN
 rw[if_neg (by omega),if_pos (by omega)]
 congr 1;omega
theorem wm:∀(lo:Int) (n:Nat),rngD lo n=(List.range n).map λ(k:Nat)=>D.int (lo+k)
 |lo,0=>rfl
 |lo,n+1=>by
  rw[rngD,wm (lo+1) n,List.range_succ_eq_map]
  simp only[List.map_cons,List.map_map]
  congr 1
  ·simp
  ·apply List.map_congr_left
   intro a _
   show D.int _=D.int _
   congr 1
   show lo+1+(a:Int)=lo+((a+1:Nat):Int)
   omega
end
section
variable {X:Cx}{B:Bs}{e a b c o:Expr}{es:List Expr}{pos p apos cpos p2:Pos}{g ga gb go:EnvD->Option D}{gs:EnvD->Option (List D)}{x:Str}
def fPlus:D->D->Option D
 |.int i,.int j=>some (.int (i+j))
 |.str x,.str y=>if x.length+y.length<=TOP then some (.str (x++y)) else none
 |_,_=>none
theorem VZ {K:KW}:OkR K (λx y H Q=>rI0 (λi j=>.int (i+j)) x y H Q∨∃i j,x=.str i/\y=.str j/\i.length+j.length<=sizeLine/\Q (.str (i++j)) H) (pE K) fPlus:=by
 intro F H x y dx dy d Q s rx ry e k
 unfold fPlus at e
 split at e
 ·cases e;exact .inl ⟨_,_,rx.int,ry.int,k _ F H (.refl s) rfl⟩
 ·split at e
  ·rename_i hc
   cases e;exact .inr ⟨_,_,rx.str,ry.str,y9 hc,k _ F H (.refl s) rfl⟩
  ·cases e
 ·cases e
theorem zA (ha:DR X B a ga)(hb:DR X B b gb):DE X B (.BinOp a .Add b pos) (g2 fPlus ga gb):=yV (op_add.or QA) VZ ha hb
def fItem:D->D->Option D
 |.str z,.int i=>if z.length<=TOP then (atI z.cps.toList i).map λc=>.str ⟨#[c]⟩ else none
 |.lst xs,.int i=>atI xs i
 |.tup xs,.int i=>atI xs i
 |.scr ns,.int i=>(atI ns i).map D.int
 |_,_=>none
theorem KR {K:KW}:OkR K (rIx K) (pE K) fItem:=by
 intro F H x y dx dy d Q s rx ry e k
 cases dx with
 |str z=>
  cases dy with
  |int i=>
   replace e:(if z.length<=TOP then (atI z.cps.toList i).map (λc=>D.str ⟨#[c]⟩) else none)=some d:=e
   split at e
   ·rename_i hc
    cases q:atI z.cps.toList i with
    |none=>rw[q] at e;cases e
    |some c=>
     rw[q] at e
     cases e
     exact .inr (.inr ⟨z,i,c,rx.str,ry.int,y9 hc,q,k _ F H (.refl s) rfl⟩)
   ·cases e
  |_=>cases e
 |lst xs=>exact jK F H x y _ dy d Q s rx ry (by cases dy<;>first | exact e | cases e) k
 |tup xs=>exact jK F H x y _ dy d Q s rx ry (by cases dy<;>first | exact e | cases e) k
 |scr xs=>exact jK F H x y _ dy d Q s rx ry (by cases dy<;>first | exact e | cases e) k
 |_=>cases dy<;>cases e
theorem zr (ha:DR X B a ga)(hb:DR X B b gb)(hs:qo b):DE X B (.Subscript a b pos) (g2 fItem ga gb):=Qq V1 KR ha hb hs
def rSlS:V->Option Int->Option Int->Hp->VK->Prop:=λx lo hi H Q=>∃z,x=.str z/\z.length<=sizeLine/\Q (.str (Txt.slice z lo hi)) H
theorem Ki:SlR X rSlS:=by
 intro pins s σ H x v vl vu lo hi sl Q I rx hs pl pu h
 obtain⟨z,rfl,hz,q⟩:=h
 obtain⟨t,rfl⟩:=rx
 refine⟨"str",_,PySem.F.slot_str_getitem.lookup,typeIs_str _ _ _,?_⟩
 cases pl with
 |none=>
  cases pu with
  |none=>exact wpAny_getItem_str_slice (l:=none) (u:=none) (st:=none) hs rfl (post_val_or_str ⟨Nat.le_trans (Txt.slice_le z none none) hz,λt' k=>⟨.str _,H,I.tok _,⟨_,rfl⟩,q⟩⟩)
  |int j tj=>exact wpAny_getItem_str_slice (l:=none) (u:=some (j,tj)) (st:=none) hs rfl (post_val_or_str ⟨Nat.le_trans (Txt.slice_le z none (some j)) hz,λt' k=>⟨.str _,H,I.tok _,⟨_,rfl⟩,q⟩⟩)
 |int i ti=>
  cases pu with
  |none=>exact wpAny_getItem_str_slice (l:=some (i,ti)) (u:=none) (st:=none) hs rfl (post_val_or_str ⟨Nat.le_trans (Txt.slice_le z (some i) none) hz,λt' k=>⟨.str _,H,I.tok _,⟨_,rfl⟩,q⟩⟩)
  |int j tj=>exact wpAny_getItem_str_slice (l:=some (i,ti)) (u:=some (j,tj)) (st:=none) hs rfl (post_val_or_str ⟨Nat.le_trans (Txt.slice_le z (some i) (some j)) hz,λt' k=>⟨.str _,H,I.tok _,⟨_,rfl⟩,q⟩⟩)
def gSlS (g:EnvD->Option D)(gl gh:EnvD->Option (Option Int)):EnvD->Option D:=λρ=>(g ρ).bind λd=>(gl ρ).bind λl=>(gh ρ).bind λh=>match d with
 |.str z=>if z.length<=TOP then some (.str (Txt.slice z l h)) else none
 |_=>none
theorem Yt {lo hi:Option Expr}{gl gh:EnvD->Option (Option Int)}(he:DR X B e g)(hl:DO X B lo gl)(hh:DO X B hi gh):DE X B (.Subscript e (.Slice lo hi none p2) pos) (gSlS g gl gh) :=
 zm (Wo Ki he hl hh) λσ H Q zz=>zz.el λF ρ d r hg k=>by
  unfold gSlS at hg
  cases q:g ρ with
  |none=>rw[q] at hg;cases hg
  |some x=>
   cases ql:gl ρ with
   |none=>rw[q,ql] at hg;cases hg
   |some l=>
    cases qh:gh ρ with
    |none=>rw[q,ql,qh] at hg;cases hg
    |some h=>
     rw[q,ql,qh] at hg
     cases x with
     |str z=>
      replace hg:(if z.length<=TOP then some (D.str (Txt.slice z l h)) else none)=some d:=hg
      split at hg
      ·rename_i hc
       cases hg
       refine⟨F,ρ,_,r,q,λv F1 H1 e1 p1=>⟨F1,ρ,l,r.ext e1,ql,λF2 H2 e2=>⟨F2,ρ,h,r.ext (e1.trans e2),qh,λF3 H3 e3=>?_⟩⟩⟩
       exact⟨z,p1.str,y9 hc,k _ F3 H3 (e1.trans (e2.trans e3)) rfl⟩
      ·cases hg
     |_=>cases hg
theorem Y0:∀ {ys:List Str} {us:List Value},Vals (ys.map V.str) us->StrsAre us ys
 | [],_,.nil=>.nil
 |y::ys,_,.cons r t=>by
  obtain⟨k,rfl⟩:=r
  exact .cons y k (Y0 t)
def rJoin (K:KW):V->List V->Hp->VK->Prop:=λx vs H Q=>∃z a ys,x=.str z/\vs=[.ref a]/\SqL K H a (ys.map V.str)/\(ys.map (·.length)).sum+ys.length * z.length<=16777216/\Q (.str (Txt.join z ys)) H
theorem Gw:MtR X "str.join" (rJoin X.kw):=by
 intro pins s σ H x vs v us Q I rx rv h
 obtain⟨z,a,ys,rfl,rfl,hq,hz,q⟩:=h
 obtain⟨t,rfl⟩:=rx
 obtain⟨u,rfl,ru⟩:=rv.one
 cases ru
 obtain⟨its,r,pl,_⟩:=I.list hq
 exact join_list pl.isList (by simpa using Y0 r) hz λt' k=>⟨.str _,H,I.tok _,⟨_,rfl⟩,q⟩
def asSs:List D->Option (List Str)
 | []=>some []
 |.str x::r=>(asSs r).map (x::·)
 |_=>none
theorem uP {K:KW}{F:Hp}:∀ {ds:List D} {vs:List V} {bs:List Str},asSs ds=some bs->Rps K F ds vs->vs=bs.map V.str
 | [],_,_,e,h=>by cases e;cases h;rfl
 |.str b::r,_,_,e,⟨v,w,e1,h,t⟩=>by
  subst e1;cases h
  cases q:asSs r with
  |none=>rw[show asSs (.str b::r)=(asSs r).map (b::·) from rfl,q] at e;cases e
  |some bs=>
   rw[show asSs (.str b::r)=(asSs r).map (b::·) from rfl,q] at e
   cases e
   rw[uP q t];rfl
 |.non::_,_,_,e,_=>by cases e
 |.int _::_,_,_,e,_=>by cases e
 |.bl _::_,_,_,e,_=>by cases e
 |.lst _::_,_,_,e,_=>by cases e
 |.tup _::_,_,_,e,_=>by cases e
 |.scr _::_,_,_,e,_=>by cases e
 |.obj _ _ _::_,_,_,e,_=>by cases e
 |.emp::_,_,_,e,_=>by cases e
 |.xc _::_,_,_,e,_=>by cases e
def fJoin:D->List D->Option D
 |.str z,[.lst ds]=>(asSs ds).bind λys=>if (ys.map (·.length)).sum+ys.length * z.length<=TOP then some (.str (Txt.join z ys)) else none
 |_,_=>none
def gSM (f:D->List D->Option D)(go:EnvD->Option D)(gs:EnvD->Option (List D)):EnvD->Option D:=λρ=>(go ρ).bind λd=>(gs ρ).bind λds=>f d ds
theorem Vm (ho:DR X B o go)(ha:DRs X B [e] gs)
  (hbase:attributeBase o "join" X.env (eval o X.env)=eval o X.env:=by rfl)
  (hfew:((backTo cpos (starEach [e] X.env)).all (λx=>!x.1)&&(backToKw cpos (keywordEach [] X.env)).all (λx=>x.1.isSome)
   && decide (([e]:List Expr).length+([]:List Keyword).length+(if ([]:List Keyword).isEmpty then 0 else 1) < 30))=true:=by rfl)
  (hline:(apos.endLine==cpos.line)=true:=by rfl) (hs:starEach [e] X.env=(false,eval e X.env)::starEach [] X.env:=by rfl) (hplain:(backTo cpos (starEach [] X.env)).any (·.1)=false:=by rfl) :
  DE X B (.Call (.Attribute o "join" apos) [e] [] cpos) (gSM fJoin go gs) :=
 zm (kj PySem.F.plainAttrs_str PySem.F.slot_str_join PySem.F.type_str_join Gw ho ha hbase hfew hline hs hplain) λσ H Q zz=>zz.el λF ρ d r hg k=>by
  obtain⟨d1,ds,q1,q2,q3⟩:=bind2 hg
  unfold fJoin at q3
  split at q3
  ·rename_i z xs
   cases q4:asSs xs with
   |none=>rw[q4] at q3;cases q3
   |some ys=>
    rw[q4] at q3
    replace q3:(if (ys.map (·.length)).sum+ys.length * z.length<=TOP then some (D.str (Txt.join z ys)) else none)=some d:=q3
    split at q3
    ·rename_i hc
     cases q3
     refine⟨F,ρ,_,r,q1,λv F1 H1 e1 p1=>?_⟩
     cases p1.str
     refine⟨rfl,F1,ρ,_,r.ext e1,q2,λvs F2 H2 e2 p2=>?_⟩
     obtain⟨w,rfl,rw'⟩:=pair1 p2
     obtain⟨a,us,rfl,h1,h2⟩:=rw'.lst e2.fh
     have:=uP q4 h2
     subst this
     exact⟨z,a,ys,rfl,rfl,.of h1,Nat.le_trans hc (by decide),k _ F2 H2 (e1.trans e2) rfl⟩
    ·cases q3
  ·cases q3
def rCatS (K:KW):R2:=λx y H Q=>∃l b xs zs,x=.ref l/\y=.ref b/\SqL K H l xs/\SqL K H b zs/\xs.length+zs.length<=sizeLine/\∀p,H p=none->Q (.ref p) (upd H p (.lst (xs++zs)))
theorem Ub:OpR X (binaryOp .Add) (rCatS X.kw):=by
 intro pins s σ H x y v u Q I rx ry h
 obtain⟨l,b,xs,zs,rfl,rfl,hH,hB,hz,q⟩:=h
 cases rx
 cases ry
 obtain⟨its,r,pl,z⟩:=I.list hH
 obtain⟨its2,r2,pl2,z2⟩:=I.list hB
 obtain⟨⟨cls,dd,data,sl⟩,n,ho,hc,hd',hd⟩:=pl
 obtain⟨⟨cls2,dd2,data2,sl2⟩,n2,ho2,hc2,hd2',hd2⟩:=pl2
 simp only at hc hd hc2 hd2
 subst hc hd hc2 hd2
 have e:its.toArray++its2.toArray=(its++its2).toArray:=by simp
 have l1:=r.length
 have l2:=r2.length
 refine concat_meets ⟨_,ho,rfl⟩ ⟨_,ho2,rfl⟩ noFill_list_add seq_list_add PySem.F.slot_list_add PySem.F.entry_list_add (PySem.F.args_list_add_2 _ _) (list_addW l b its.toArray its2.toArray n n2 dd dd2 sl sl2 (by simp;omega)) ⟨ho,ho2,?_⟩
 rw[e]
 exact⟨.ref _,_,I.lnew (t':=s.toks) (r.append r2) (by rw[List.length_append];omega),rfl,q _ I.fresh⟩
def fCatS:D->D->Option (List D):=λx y=>(itL x).bind λxs=>(itL y).bind λys=>if xs.length+ys.length<=TOP then some (xs++ys) else none
theorem JJ {K:KW}:OkR K (rCatS K) (pA K) fCatS:=by
 intro F H x y dx dy d Q s rx ry e k
 unfold fCatS at e
 obtain⟨xs,ys,q1,q2,q3⟩:=bind2 e
 split at q3
 ·rename_i hc
  cases q3
  obtain⟨l,vs,rfl,h2,h1⟩:=v9 rx q1
  obtain⟨b,ws,rfl,h4,h3⟩:=v9 ry q2
  refine⟨l,b,vs,ws,rfl,rfl,h1 F H (Same.refl _) s (Same.refl _),h3 F H (Same.refl _) s (Same.refl _),y9 (by rw[<-h2.length,<-h4.length];exact hc),λp hp=>k _ F _ (.new s hp) ⟨p,_,rfl,hp,zi,s.free hp,h2.append h4⟩⟩
 ·cases q3
theorem Vy (ha:DR X B a ga)(hb:DR X B b gb):DA X B (.BinOp a .Add b pos) (g2 fCatS ga gb):=JT Ub JJ ha hb
def fInt:List D->Option D
 | [.int i]=>some (.int i)
 | [.bl b]=>some (.int (if b then 1 else 0))
 |_=>none
theorem Ky {K:KW}:CallOk K (λxs H Q=>(∃i,xs=[.int i]/\Q (.int i) H)∨∃k,xs=[.bl k]/\Q (.int (if k then 1 else 0)) H) (pE K) fInt:=by
 intro F H vs ds d Q s hp e k
 unfold fInt at e
 split at e
 ·cases e
  obtain⟨v,rfl,r⟩:=pair1 hp
  cases r.int
  exact .inl ⟨_,rfl,k _ F H (.refl s) rfl⟩
 ·cases e
  obtain⟨v,rfl,r⟩:=pair1 hp
  cases r.bl
  exact .inr ⟨_,rfl,k _ F H (.refl s) rfl⟩
 ·cases e
theorem Uh (hg:Gl X "int") (hm:X.mg "int" = none) (ha:DRs X B [a] gs) (he:starEach [a] X.env=(false,eval a X.env)::starEach [] X.env:=by rfl) (hpl:(backTo pos (starEach [] X.env)).any (·.1)=false:=by rfl) :
  DE X B (.Call (.Name "int" p) [a] [] pos) (gB fInt gs):=WU Jo Ky hg hm (by decide +kernel) ha (by decide) (by decide) he hpl
def sAsg (t:Tgt)(g:EnvD->Option D):SD:=λρ=>(g ρ).bind λd=>(asgD t d ρ).map Fl.next
theorem kX {tg:Expr}{t:Tgt}(he:DE X B e g)(hg:PG X tg (tgT X.kw t))(hs:swapsWithSole [tg] e pos.line X.env=pure false:=by rfl)(hw:swappedStores [tg] e X.env=pure none:=by rfl)
  (h1:(assignEach [tg] X.env).map (·.2)=[assign tg X.env]:=by rfl):DS X B (.Assign [tg] e pos) (sAsg t g) :=
 zC (kB he hg hs hw h1) λE σ H zz=>zz.el λF ρ fl r hg k=>by
  unfold sAsg at hg
  cases q:g ρ with
  |none=>rw[q] at hg;cases hg
  |some d=>
   rw[q] at hg
   replace hg:(asgD t d ρ).map Fl.next=some fl:=hg
   cases q2:asgD t d ρ with
   |none=>rw[q2] at hg;cases hg
   |some ρ'=>
    rw[q2] at hg
    cases hg
    exact⟨F,ρ,d,r,q,λv F1 H1 e1 p1=>wC (r.ext e1) p1 q2 λσ' r' _=>k σ' F1 H1 r' e1.ff⟩
def whileD (t:EnvD->Option Bool)(gb:SD):Nat->EnvD->Option Fl
 |0,_=>none
 |n+1,ρ=>(t ρ).bind λb=>if b then (gb ρ).bind λfl=>match fl with
  |.next ρ2=>whileD t gb n ρ2
  |.cont ρ2=>whileD t gb n ρ2
  |.brk ρ2=>some (.next ρ2)
  |.ret o=>some (.ret o)
  else some (.next ρ)
theorem qV {t:EnvD->Option Bool}{gb:SD}:∀ {n:Nat} {ρ:EnvD} {fl:Fl},whileD t gb n ρ=some fl->whileD t gb (n+1) ρ=some fl
 |0,_,_,h=>by cases h
 |n+1,ρ,fl,h=>by
  rw[whileD] at h ⊢
  cases q:t ρ with
  |none=>rw[q] at h;cases h
  |some b=>
   rw[q] at h
   cases b with
   |false=>exact h
   |true=>
    replace h:((gb ρ).bind λfl=>match fl with
     |.next ρ2=>whileD t gb n ρ2
     |.cont ρ2=>whileD t gb n ρ2
     |.brk ρ2=>some (.next ρ2)
     |.ret o=>some (.ret o))=some fl:=h
    show ((gb ρ).bind λfl=>match fl with
     |.next ρ2=>whileD t gb (n+1) ρ2
     |.cont ρ2=>whileD t gb (n+1) ρ2
     |.brk ρ2=>some (.next ρ2)
     |.ret o=>some (.ret o))=some fl
    cases q2:gb ρ with
    |none=>rw[q2] at h;cases h
    |some f=>
     rw[q2] at h
     cases f with
     |next ρ2=>exact qV h
     |cont ρ2=>exact qV h
     |brk ρ2=>exact h
     |ret o=>exact h
theorem Wp {t:EnvD->Option Bool}{gb:SD}{n m:Nat}{ρ:EnvD}{fl:Fl}(hm:n<=m)(h:whileD t gb n ρ=some fl):whileD t gb m ρ=some fl:=by
 induction hm with
 |refl=>exact h
 |step _ ih=>exact qV ih
open Classical in
def sWhile (t:EnvD->Option Bool)(gb:SD):SD:=λρ=>if h:∃n fl,whileD t gb n ρ=some fl then some (Classical.choose (Classical.choose_spec h)) else none
theorem vg {t:EnvD->Option Bool}{gb:SD}{n:Nat}{ρ:EnvD}{fl:Fl}(h:whileD t gb n ρ=some fl):sWhile t gb ρ=some fl:=by
 unfold sWhile
 have hx:∃n fl,whileD t gb n ρ=some fl:=⟨n,fl,h⟩
 rw[dif_pos hx]
 have q:=Classical.choose_spec (Classical.choose_spec hx)
 generalize Classical.choose (Classical.choose_spec hx)=f at q
 generalize Classical.choose hx=k at q
 have a1:=Wp (Nat.le_max_left n k) h
 have a2:=Wp (Nat.le_max_right n k) q
 rw[a1] at a2
 exact a2.symm
theorem Qj {t:EnvD->Option Bool}{gb:SD}{ρ:EnvD}{fl:Fl}(h:sWhile t gb ρ=some fl):∃n,whileD t gb n ρ=some fl:=by
 unfold sWhile at h
 split at h
 ·rename_i hx
  cases h
  exact⟨_,Classical.choose_spec (Classical.choose_spec hx)⟩
 ·cases h
theorem jq {body:List Stmt}{t:EnvD->Option Bool}{gbd:SD}(hp:PassesOwn (model X.prog X.w) X.A X.env X.xe)(hc:DT X B c t)(hb:DSs X B body gbd):DS X B (.While c body [] pos) (sWhile t gbd) :=
 zC (JX hp hc hb) λE σ H zz=>zz.el λF ρ fl r hg k=>by
  obtain⟨n,hn⟩:=Qj hg
  refine⟨λm σ H=>∃F2 ρ2,Rep X.kw B F2 σ H ρ2/\Same F F2/\whileD t gbd m ρ2=some fl,⟨n,F,ρ,r,Same.refl _,hn⟩,?_⟩
  rintro m σ2 H2 ⟨F2,ρ2,r2,s2,h2⟩
  cases m with
  |zero=>cases h2
  |succ m=>
   rw[whileD] at h2
   cases q:t ρ2 with
   |none=>rw[q] at h2;cases h2
   |some bb=>
    rw[q] at h2
    refine⟨F2,ρ2,bb,r2,q,λF3 H3 e3=>?_⟩
    cases bb with
    |false=>
     cases h2
     exact iteF (k σ2 F3 H3 (r2.ext e3) (s2.trans e3.ff))
    |true=>
     refine iteT ⟨λσ' H'=>∃F4 ρ4,Rep X.kw B F4 σ' H' ρ4/\Same F F4/\whileD t gbd m ρ4=some fl,λσ' H' h=>⟨m,Nat.lt_succ_self _,h⟩,?_⟩
     replace h2:((gbd ρ2).bind λfl=>match fl with
      |.next ρ2=>whileD t gbd m ρ2
      |.cont ρ2=>whileD t gbd m ρ2
      |.brk ρ2=>some (.next ρ2)
      |.ret o=>some (.ret o))=some fl:=h2
     cases q2:gbd ρ2 with
     |none=>rw[q2] at h2;cases h2
     |some f1=>
      rw[q2] at h2
      refine⟨F3,ρ2,f1,r2.ext e3,q2,?_⟩
      cases f1 with
      |next ρ5=>exact λσ5 F5 H5 r5 s5=>⟨F5,ρ5,r5,(s2.trans e3.ff).trans s5,h2⟩
      |cont ρ5=>exact λσ5 F5 H5 r5 s5=>⟨F5,ρ5,r5,(s2.trans e3.ff).trans s5,h2⟩
      |brk ρ5=>cases h2;exact λσ5 F5 H5 r5 s5=>k σ5 F5 H5 r5 ((s2.trans e3.ff).trans s5)
      |ret o=>cases h2;exact k
variable {nm:Str}{id:String}{r:V->List V->Hp->VK->Prop}{f:List D->List D->Option (List D)}
theorem U6 {gl:EnvD->Option (List D)}{σ:St}{H:Hp}{Q:VK}(h:lG X.kw B (pE X.kw) (gFz gl) σ H Q):lG X.kw B (pA X.kw) gl σ H Q:=by
 refine Lq.el h λF ρ x r hg k=>?_
 unfold gFz at hg
 cases q:gl ρ with
 |none=>rw[q] at hg;cases hg
 |some ds=>
  rw[q] at hg;cases hg
  refine⟨F,ρ,ds,r,q,λv F' H' e p=>?_⟩
  obtain⟨a,vs,rfl,p1,p2,p3,p4⟩:=p
  exact k _ (upd F' a (.lst vs)) H' (e.freeze p1 p3 p2) ⟨a,vs,rfl,zi,p4.mono (zX p3)⟩
section
variable {i:Nat}{y:Str}{py spos:Pos}{elt tg iter:Expr}{ifs:List Expr}{scope:Scope}{own:List Str}{cap:List (Str×Nat)}{t:Tgt}{tc:EnvD->Option Bool}{ge:EnvD->Option D}{gi:EnvD->Option (List D)}
theorem G2 (hc:X.calm=true)(S:CompScope X scope own cap)(hi:DI X B (λH=>H) tg iter gi)
  (hin:∀(B':Bs) C s₀ H₀ fp pn,PG (cxc X scope C (own++cap.map (·.1)) s₀ H₀ fp pn) tg (tgT X.kw t)/\DIfs (cxc X scope C (own++cap.map (·.1)) s₀ H₀ fp pn) B' ifs tc/\DE (cxc X scope C (own++cap.map (·.1)) s₀ H₀ fp pn) B' elt ge)
  (hN:X.N.Nodup) (hiy:X.N[i]?=some y) (hy:Loc X.env.scope y) (hsw:swapsWith (.ListComp elt [⟨tg,iter,ifs,0⟩] scope pos) (some (.Name y py)) spos.line X.env=pure true)
  (hs:∀x,foldedSetIterable iter X.env x=pure x) (hfn:X.fn y=true∨X.env.scope.names.lookup y=some .local) :
  PS X (.Assign [.Name y py] (.ListComp elt [⟨tg,iter,ifs,0⟩] scope pos) spos) (tAsg (tComp (lI X.kw B (λH=>H) gi) own cap (tgT X.kw t) (λσ H Q=>∃B',lT X.kw B' tc σ H Q) (λσ H Q=>∃B',lG X.kw B' (pE X.kw) ge σ H Q)) (gName i)) :=
 JA (tc:=λσ H Q=>∃B',lT X.kw B' tc σ H Q) (te:=λσ H Q=>∃B',lG X.kw B' (pE X.kw) ge σ H Q) hc S hi (λC s₀ H₀ fp pn=>⟨(hin ⟨H₀,H₀⟩ C s₀ H₀ fp pn).1,λpins s σ H Q I ⟨B',q⟩=>(hin B' C s₀ H₀ fp pn).2.1 pins s σ H Q I q,λpins s σ H Q I ⟨B',q⟩=>(hin B' C s₀ H₀ fp pn).2.2 pins s σ H Q I q⟩) hN hiy hy hsw hs hfn
theorem j7 (hc:X.calm=true)(S:CompScope X scope own cap)(hi:DI X B (λH=>H) tg iter gi)(ht:∀i∈t.slots,i < own.length)
  (hin:∀(B':Bs) C s₀ H₀ fp pn,PG (cxc X scope C (own++cap.map (·.1)) s₀ H₀ fp pn) tg (tgT X.kw t)/\DIfs (cxc X scope C (own++cap.map (·.1)) s₀ H₀ fp pn) B' ifs tc/\DE (cxc X scope C (own++cap.map (·.1)) s₀ H₀ fp pn) B' elt ge)
  (hN:X.N.Nodup) (hiy:X.N[i]?=some y) (hy:Loc X.env.scope y) (hsw:swapsWith (.ListComp elt [⟨tg,iter,ifs,0⟩] scope pos) (some (.Name y py)) spos.line X.env=pure true:=by rfl)
  (hs:∀x,foldedSetIterable iter X.env x=pure x:=by intro _;rfl) (hfn:X.fn y=true∨X.env.scope.names.lookup y=some .local:=by first | exact .inl rfl | exact .inr rfl | assumption) :
  DS X B (.Assign [.Name y py] (.ListComp elt [⟨tg,iter,ifs,0⟩] scope pos) spos) (sSet i (gFz (gComp own cap t tc ge gi))) :=
 zC (G2 hc S hi hin hN hiy hy hsw hs hfn) λE σ H h=>Yw ht σ H _ (U6 (Zw h))
end
end
section
variable {X:Cx}{B:Bs}{e a b c o:Expr}{es:List Expr}{pos p p2 apos cpos:Pos}{g ga gb go:EnvD->Option D}{gs:EnvD->Option (List D)}{x:Str}
def gh (i:Nat):EnvD->Option D:=λρ=>match ρ[i]? with
 |some (some (.val d))=>some d
 |some (some (.acc ds))=>some (.lst ds)
 |some (some (.bor ds))=>some (.lst ds)
 |some (some (.tre t))=>some t.erase
 |_=>none
variable {gt':EnvD->Option OT}{gts:EnvD->Option (List OT)}
variable {gxs:EnvD->Option (List En)}{n k:Nat}{m:List En->Option En}
mutual
def OT.get:OT->List Nat->Option OT
 |t,[]=>some t
 |.lst ts,k::p=>gets ts k p
 |.tup ts,k::p=>gets ts k p
 |.frz _,_::_=>none
def gets:List OT->Nat->List Nat->Option OT
 | [],_,_=>none
 |t::_,0,p=>t.get p
 |_::ts,k+1,p=>gets ts k p
end
mutual
def OT.put:OT->List Nat->OT->OT
 |_,[],u=>u
 |.lst ts,k::p,u=>.lst (puts ts k p u)
 |.tup ts,k::p,u=>.tup (puts ts k p u)
 |.frz d,_::_,_=>.frz d
def puts:List OT->Nat->List Nat->OT->List OT
 | [],_,_,_=>[]
 |t::ts,0,p,u=>t.put p u::ts
 |t::ts,k+1,p,u=>t::puts ts k p u
end
structure At (K:KW)(F H:Hp)(ft:List Addr)(ds:List D)(b:Addr)(vs:List V):Prop where
 hb:H b=some (.lst vs)
 rp:Rps K F ds vs
 mem:b∈ft
end
def OT.size:OT->Option Nat
 |.lst ts=>some ts.length
 |.tup ts=>some ts.length
 |.frz _=>none
section
variable {X:Cx}{B:Bs}{e a b c o:Expr}{es:List Expr}{pos p p2 apos cpos:Pos}{g ga gb go:EnvD->Option D}{gs:EnvD->Option (List D)}{x nm:Str}{gp:EnvD->Option (List Nat)}
variable {id:String}{r:V->List V->Hp->VK->Prop}{f:List D->List D->Option (List D)}
end
section
variable {ρ:EnvD}{i:Nat}{t:OT}{ga gb:EnvD->Option D}{gs:EnvD->Option (List D)}{gp:EnvD->Option (List Nat)}{ds:List D}{gt':EnvD->Option OT}{gts:EnvD->Option (List OT)}{gl:EnvD->Option (List D)}{α:Type}
@[simp]theorem GU:gh i ρ=match ρ[i]? with | some (some (.val d))=>some d | some (some (.acc ds))=>some (.lst ds) | some (some (.bor ds))=>some (.lst ds) | some (some (.tre t))=>some t.erase | _=>none:=rfl
@[simp]theorem zaw {d:D}:(OT.frz d).erase=d:=by simp[OT.erase]
@[simp]theorem Rk {ts:List OT}:(OT.tup ts).erase=.tup (erases ts):=by simp[OT.erase]
@[simp]theorem zao:erases []=[]:=by simp[erases]
@[simp]theorem zbc {ts:List OT}:erases (t::ts)=t.erase::erases ts:=by simp[erases]
end
section
variable {ρ:EnvD}{i k n m:Nat}{d x y:D}{ds es:List D}{a b j:Int}{α γ:Type}{ga gb gc' g:EnvD->Option D}{ta tb:EnvD->Option Bool}{gs:EnvD->Option (List D)}{s1 s2:SD}{p q:Str}{ns:List Int}
@[simp]theorem RP:fPlus (.int a) (.int b)=some (.int (a+b)):=rfl
@[simp]theorem GN:fPlus (.str p) (.str q)=if p.length+q.length<=TOP then some (.str (p++q)) else none:=rfl
@[simp]theorem za7:fItem (.lst ds) (.int a)=atI ds a:=rfl
@[simp]theorem zbr:fItem (.tup ds) (.int a)=atI ds a:=rfl
@[simp]theorem RJ:fItem (.scr ns) (.int a)=(atI ns a).map D.int:=rfl
theorem uC:fItem (.str p) (.int a)=if p.length<=TOP then (atI p.cps.toList a).map λc=>.str ⟨#[c]⟩ else none:=rfl
@[simp]theorem zak {gl gh:EnvD->Option (Option Int)}:gSlS g gl gh ρ=(g ρ).bind λd=>(gl ρ).bind λl=>(gh ρ).bind λh=>match d with | .str z=>if z.length<=TOP then some (.str (Txt.slice z l h)) else none | _=>none:=rfl
@[simp]theorem Ru {f:D->List D->Option D}:gSM f ga gs ρ=(ga ρ).bind λd=>(gs ρ).bind λds=>f d ds:=rfl
@[simp]theorem zav:fJoin (.str p) [.lst ds]=(asSs ds).bind λys=>if (ys.map (·.length)).sum+ys.length * p.length<=TOP then some (.str (Txt.join p ys)) else none:=rfl
@[simp]theorem RI:itL (.scr ns)=some (ns.map D.int):=rfl
@[simp]theorem zby:fCatS x y=(itL x).bind λxs=>(itL y).bind λys=>if xs.length+ys.length<=TOP then some (xs++ys) else none:=rfl
@[simp]theorem RU:fInt [.int a]=some (.int a):=rfl
@[simp]theorem GV {b:Bool}:fInt [.bl b]=some (.int (if b then 1 else 0)):=rfl
@[simp]theorem zaa {t:Tgt}:sAsg t g ρ=(g ρ).bind λd=>(asgD t d ρ).map Fl.next:=rfl
@[simp]theorem zab:tyD (.str p)=some "str" := rfl
@[simp]theorem Rz:isNon (.lst ds)=false:=rfl
@[simp]theorem zbh:fList [.scr ns]=some (ns.map D.int):=rfl
theorem fEqB {neg u v:Bool}:fEq neg (.bl u) (.bl v)=some (.bl (if neg then !(u==v) else (u==v))):=by
 cases neg<;>cases u<;>cases v<;>rfl
theorem wI {t:EnvD->Option Bool}(h:t ρ=some false):whileD t s1 (n+1) ρ=some (.next ρ):=by
 rw[whileD,h];rfl
theorem jl {t:EnvD->Option Bool}{ρ2:EnvD}(h:t ρ=some true)(h2:s1 ρ=some (.next ρ2)):whileD t s1 (n+1) ρ=whileD t s1 n ρ2:=by
 rw[whileD,h]
 show ((s1 ρ).bind _)=_
 rw[h2];rfl
theorem kx {xs:List α}(h:0<=a):cutD xs none (some a)=xs.take a.toNat:=by
 simp only[cutD,HT.sIx]
 rw[if_neg (show ¬a < 0 by omega)]
 simp only[Nat.sub_zero,List.drop_zero]
 by_cases h2:a.toNat<=xs.length
 ·rw[Nat.min_eq_left h2]
 ·rw[Nat.min_eq_right (by omega),List.take_of_length_le (Nat.le_refl _),List.take_of_length_le (by omega)]
theorem KJ {xs:List α}(h:0<=a):cutD xs (some a) none=xs.drop a.toNat:=by
 simp only[cutD,HT.sIx]
 rw[if_neg (show ¬a < 0 by omega)]
 by_cases h2:a.toNat<=xs.length
 ·rw[Nat.min_eq_left h2]
  exact List.take_of_length_le (by simp)
 ·rw[Nat.min_eq_right (by omega),List.drop_of_length_le (Nat.le_refl _),List.drop_of_length_le (by omega)];simp
theorem zbn {β:Type}{f:α->β}{xs:List α}{l h:Option Int}:cutD (xs.map f) l h=(cutD xs l h).map f:=by
 unfold cutD;simp[List.map_drop,List.map_take]
theorem uN {xs:List α}(h1:0<=a)(h2:a < xs.length):∃v,atI xs a=some v/\xs[a.toNat]?=some v:=by
 obtain⟨n,rfl⟩:∃n:Nat,a=(n:Int):=⟨a.toNat,by omega⟩
 have hl:n < xs.length:=by omega
 exact⟨xs[n],yu n (List.getElem?_eq_getElem hl),by simp[hl]⟩
theorem zbs {β:Type}{f:α->β}{xs:List α}:atI (xs.map f) a=(atI xs a).map f:=by
 unfold atI
 rw[List.length_map]
 cases ixN xs.length a with
 |none=>rfl
 |some j=>simp
theorem GS {xs:List α}{v:α}(h:atI xs a=some v):v∈xs:=by
 unfold atI at h
 cases q:ixN xs.length a with
 |none=>rw[q] at h;cases h
 |some j=>rw[q] at h;exact List.mem_of_getElem? h
def Tx (n:Nat)(x:Str):Prop:=PyData.strOk x=true/\x.length<=n
theorem Tx.mono {x:Str}(h:Tx n x)(e:n<=m):Tx m x:=⟨h.1,Nat.le_trans h.2 e⟩
theorem Tx.app {x y:Str}(h:Tx n x)(h':Tx m y):Tx (n+m) (x++y):=by
 refine⟨?_,?_⟩
 ·show (x.cps++y.cps).all _=true
  rw[Array.all_append]
  exact Bool.and_eq_true_iff.mpr ⟨h.1,h'.1⟩
 ·show (x.cps++y.cps).size<=n+m
  rw[Array.size_append]
  have h1:=h.2
  have h2:=h'.2
  unfold Str.length at h1 h2
  omega
theorem Tx.slice {x:Str}{l u:Option Int}(h:Tx n x):Tx n (Txt.slice x l u):=by
 refine⟨?_,Nat.le_trans (Txt.slice_le x l u) h.2⟩
 unfold Txt.slice
 split
 ·exact h.1
 ·have h1:=h.1
  unfold PyData.strOk at h1 ⊢
  rw[Array.all_eq_true'] at h1
  rw[Array.all_eq_true']
  intro c hc
  simp only[List.mem_toArray,List.mem_filterMap] at hc
  obtain⟨i,_,e⟩:=hc
  exact h1 c (Array.mem_of_getElem? e)
theorem Tx.item {z:Str}(h:Tx n z)(hn:n<=TOP)(h1:0<=a)(h2:a < z.length):∃c,fItem (.str z) (.int a)=some (.str c)/\Tx 1 c:=by
 have hl:(z.cps.toList.length:Int)=z.length:=by simp[Str.length]
 obtain⟨c,e1,e2⟩:=uN (xs:=z.cps.toList) h1 (by omega)
 refine⟨⟨#[c]⟩,?_,?_,Nat.le_refl _⟩
 ·rw[uC,if_pos (Nat.le_trans h.2 hn),e1];rfl
 ·have h1:=h.1
  unfold PyData.strOk at h1
  rw[Array.all_eq_true'] at h1
  have:=h1 c (by simpa using List.mem_of_getElem? e2)
  unfold PyData.strOk
  simpa using this
theorem Ye (sep:Str)(hs:PyData.strOk sep=true):∀(rest:List Str) (acc:Array Nat),acc.all (· < 0x110000)=true->(∀y∈rest,PyData.strOk y=true)->(rest.foldl (λacc p=>acc++sep.cps++p.cps) acc).all (· < 0x110000)=true
 | [],_,h,_=>h
 |y::rest,acc,h,hy=>by
  rw[List.foldl_cons]
  refine Ye sep hs rest _ ?_ λz hz=>hy z (by simp[hz])
  rw[Array.all_append,Array.all_append]
  have h2:y.cps.all (· < 0x110000)=true:=hy y (by simp)
  have h3:sep.cps.all (· < 0x110000)=true:=hs
  rw[h,h2,h3];rfl
theorem Tx.join0 {ys:List Str}(h:∀y∈ys,Tx 1 y):Tx ys.length (Txt.join "" ys):=by
 have e0:PyData.strOk ("" : Str)=true:=by decide +kernel
 refine⟨?_,?_⟩
 ·show ((ys.drop 1).foldl (λacc p=>acc++("" : Str).cps++p.cps) (ys.headD Str.empty).cps).all (· < 0x110000)=true
  refine Ye "" e0 (ys.drop 1) _ ?_ λy hy=>(h y (List.mem_of_mem_drop hy)).1
  cases ys with
  |nil=>simp[Str.empty]
  |cons y r=>exact (h y (by simp)).1
 ·show (Builtin.Str.glued "" ys).length<=ys.length
  rw[PySem.size_glued]
  have e1:("" : Str).length=0:=by decide +kernel
  rw[e1,Nat.mul_zero,Nat.add_zero]
  have:∀l:List Str,(∀y∈l,Tx 1 y)->(l.map (·.length)).sum<=l.length:=by
   intro l
   induction l with
   |nil=>intro _;exact Nat.le_refl _
   |cons y r ih=>
    intro hh
    have h1:=(hh y (by simp)).2
    have h2:=ih λz hz=>hh z (by simp[hz])
    simp only[List.map_cons,List.sum_cons,List.length_cons]
    omega
  exact this ys h
theorem US:∀ {l:List Str},(∀y∈l,Tx 1 y)->(l.map (·.length)).sum<=l.length
 | [],_=>Nat.le_refl _
 |y::r,hh=>by
  have h1:=(hh y (by simp)).2
  have h2:=US λz hz=>hh z (List.mem_cons_of_mem _ hz)
  simp only[List.map_cons,List.sum_cons,List.length_cons]
  omega
theorem Wf:∀(ys:List Str),asSs (ys.map D.str)=some ys
 | []=>rfl
 |y::ys=>by simp[asSs,Wf ys]
end
section
variable {X:Cx}{B:Bs}{hb:Hp->Hp}{e a b c o tg:Expr}{es:List Expr}{pos p p2 apos cpos:Pos}{g ga gb go:EnvD->Option D}{gs:EnvD->Option (List D)}{x:Str}
end
section
variable {ρ:EnvD}{g:EnvD->Option D}{ds:List D}{a:Int}{u v:Bool}{p q:Str}{neg:Bool}
end
def dKey:D->Option Key
 |.int i=>some (.inl i)
 |.str x=>some (.inr x)
 |_=>none
def kD:Key->D
 |.inl i=>.int i
 |.inr x=>.str x
theorem Yj {d:D}{k:Key}(h:dKey d=some k):d=kD k:=by
 cases d<;>cases h<;>rfl
theorem Uu {K:KW}{F:Hp}{k:Key}{v:V}(r:Rp K F (kD k) v):v=kV k:=by cases k<;>exact r
theorem Wu {K:KW}{F H:Hp}{k:Key}{v:V}(r:Rq K F H (kD k) v):v=kV k:=by
 refine Uu (r.one λds h=>?_)
 cases k<;>cases h
def lookD (kvs:List (Key×D))(k:Key):Option D:=(kvs.find? λp=>decide (p.1=k)).map (·.2)
def putD (kvs:List (Key×D))(k:Key)(d:D):List (Key×D) :=
 if (kvs.any λp=>decide (p.1=k))=true then kvs.map (λp=>if p.1=k then (p.1,d) else p) else kvs++[(k,d)]
section
variable {K:KW}{F:Hp}
theorem Rkv.length {kvs:List (Key×D)}{vs:List (Key×V)}(r:Rkv K F kvs vs):kvs.length=vs.length:=Paired.length r
theorem Rkv.look {kvs:List (Key×D)}{vs:List (Key×V)}(r:Rkv K F kvs vs)(k:Key):(lookD kvs k=none/\valV vs k=none)∨∃d v,lookD kvs k=some d/\valV vs k=some v/\Rp K F d v:=by
 unfold Rkv at r
 induction r with
 |nil=>exact .inl ⟨rfl,rfl⟩
 | @cons p q ps qs h t ih=>
  by_cases e:p.1=k
  ·refine .inr ⟨p.2,q.2,by simp[lookD,e],YU (h.1 ▸ e),h.2⟩
  ·rw[show lookD (p::ps) k=lookD ps k by simp[lookD,e],YL (λz=>e (h.1.trans z))]
   exact ih
theorem Rkv.any {kvs:List (Key×D)}{vs:List (Key×V)}(r:Rkv K F kvs vs)(k:Key):(kvs.any λp=>decide (p.1=k))=(vs.any λp=>decide (p.1=k)):=by
 unfold Rkv at r
 induction r with
 |nil=>rfl
 | @cons p q ps qs h t ih=>simp only[List.any_cons,ih,h.1]
theorem Rkv.repl {k:Key}{d:D}{v:V}(rd:Rp K F d v):∀ {kvs:List (Key×D)} {vs:List (Key×V)},Rkv K F kvs vs->Rkv K F (kvs.map λp=>if p.1=k then (p.1,d) else p) (vs.map λp=>if p.1=k then (p.1,v) else p):=by
 intro kvs vs r
 unfold Rkv at r ⊢
 induction r with
 |nil=>exact .nil
 | @cons p q ps qs h t ih=>
  refine .cons ?_ ih
  show (if p.1=k then (p.1,d) else p).1=(if q.1=k then (q.1,v) else q).1/\Rp K F (if p.1=k then (p.1,d) else p).2 (if q.1=k then (q.1,v) else q).2
  by_cases e:p.1=k
  ·rw[if_pos e,if_pos (h.1.symm.trans e)];exact⟨h.1,rd⟩
  ·rw[if_neg e,if_neg (λz=>e (h.1.trans z))];exact h
theorem Rkv.put {kvs:List (Key×D)}{vs:List (Key×V)}(r:Rkv K F kvs vs)(k:Key){d:D}{v:V}(rd:Rp K F d v):Rkv K F (putD kvs k d) (putK vs k v):=by
 unfold putD putK
 rw[r.any k]
 by_cases q:(vs.any λp=>decide (p.1=k))=true
 ·rw[if_pos q,if_pos q];exact r.repl rd
 ·rw[if_neg q,if_neg q];exact Paired.snoc r ⟨rfl,rd⟩
end
def pD (K:KW):Post (List (Key×D)):=λ_ H F' H' kvs v=>∃a ob vs,v=.ref a/\H a=none/\H' a=some (DX K.w a ob vs)/\F' a=none/\Rkv K F' kvs vs
def pK (K:KW):Post (List (Key×D)):=λ_ _ F' H' kvs v=>∃a ob vs,v=.ref a/\H' a=some (DX K.w a ob vs)/\Rkv K F' kvs vs
def DD (X:Cx)(B:Bs)(e:Expr)(g:EnvD->Option (List (Key×D))):Prop:=PE X e (lG X.kw B (pD X.kw) g)
def DK (X:Cx)(B:Bs)(e:Expr)(g:EnvD->Option (List (Key×D))):Prop:=PE X e (lG X.kw B (pK X.kw) g)
section
variable {X:Cx}{B:Bs}{e a b c o i:Expr}{es:List Expr}{pos p apos cpos pos':Pos}{g ga gi gv':EnvD->Option D}{gk gk2:EnvD->Option (List (Key×D))}{gs gxs:EnvD->Option (List D)}{x:Str}
def gk' (i:Nat):EnvD->Option (List (Key×D)):=λρ=>match ρ[i]? with
 |some (some (.dct _ kvs))=>some kvs
 |some (some (.dbo kvs))=>some kvs
 |_=>none
theorem kN (i:Nat)(h:PE X (.Name x pos) (tVar i)):DK X B (.Name x pos) (gk' i) :=
 zm h λσ H Q zz=>zz.el λF ρ d r hg k=>by
  unfold gk' at hg
  split at hg
  ·rename_i oa kvs e
   cases hg
   obtain⟨v,h1,a,ob,vs,e1,e2,e3,e4,e5,e6⟩:=r.ents i _ e
   exact⟨v,h1,k v F H (.refl r.fh) ⟨a,ob,vs,e1,e2,e5⟩⟩
  ·rename_i kvs e
   cases hg
   obtain⟨v,h1,a,ob,vs,e1,e2,e5⟩:=r.ents i _ e
   exact⟨v,h1,k v F H (.refl r.fh) ⟨a,ob,vs,e1,r.ex.hh _ _ e2,e5⟩⟩
  ·cases hg
def gNewD:EnvD->Option (List (Key×D)):=λ_=>some []
theorem U9:DD X B (.Dict [] [] pos) gNewD:=zm VN λσ H Q zz=>zz.el λF ρ d r hg k=>by
 cases hg
 exact λq ob hn=>k _ F _ (.new r.fh hn) ⟨q,ob,[],rfl,hn,zi,r.fh.free hn,.nil⟩
def gGetD (gk:EnvD->Option (List (Key×D)))(gi:EnvD->Option D):EnvD->Option D:=λρ=>(gk ρ).bind λkvs=>((gi ρ).bind dKey).bind λk=>lookD kvs k
theorem ue (ho:DK X B o gk)(hi:DR X B i gi)(hs:NoSl i:=by intro _ _;rfl):DE X B (.Subscript o i pos) (gGetD gk gi) :=
 zm (Zc ho hi hs) λσ H Q zz=>zz.el λF ρ d r hg k=>by
  unfold gGetD at hg
  cases q1:gk ρ with
  |none=>rw[q1] at hg;cases hg
  |some kvs=>
   cases q2:gi ρ with
   |none=>rw[q1,q2] at hg;cases hg
   |some di=>
    rw[q1,q2] at hg
    have hg:((dKey di).bind λk=>lookD kvs k)=some d:=hg
    cases q3:dKey di with
    |none=>rw[q3] at hg;cases hg
    |some ky=>
     rw[q3] at hg
     have hL:lookD kvs ky=some d:=hg
     clear hg
     have hd:=Yj q3
     subst hd
     refine⟨F,ρ,kvs,r,q1,λv F1 H1 e1 ⟨a,ob,vs,h1,h2,h3⟩=>⟨F1,ρ,_,r.ext e1,q2,λu F2 H2 e2 p2=>?_⟩⟩
     have h3':=h3.mono e2.ff
     rcases h3'.look ky with⟨z,_⟩ | ⟨d',w,z1,z2,z3⟩
     ·rw[z] at hL;cases hL
     ·rw[z1] at hL;cases hL
      exact⟨a,ob,vs,ky,w,h1,e2.hh _ _ h2,Wu p2,z2,k w F2 H2 (e1.trans e2) z3⟩
def sPutD (j:Nat)(gi g:EnvD->Option D):SD:=λρ=>match ρ[j]? with
 |some (some (.dct oa kvs))=>(g ρ).bind λd=>((gi ρ).bind dKey).bind λk=>if kvs.length < sizeLine then some (.next (ρ.set j (some (.dct oa (putD kvs k d))))) else none
 |_=>none
theorem kQ (j:Nat)(hx:PE X (.Name x p) (tVar j))(hi:DR X B i gi)(he:DE X B e g)(hs:swapsWith e (some (.Subscript (.Name x p) i pos')) pos.line X.env=pure false:=by rfl) :
  DS X B (.Assign [.Subscript (.Name x p) i pos'] e pos) (sPutD j gi g) :=
 zC (Jg hx hi he hs) λE σ H zz=>zz.el λF ρ fl r hg k=>by
  unfold sPutD at hg
  split at hg
  ·rename_i oa kvs q
   cases q2:g ρ with
   |none=>rw[q2] at hg;cases hg
   |some d=>
    cases q3:gi ρ with
    |none=>rw[q2,q3] at hg;cases hg
    |some di=>
     rw[q2,q3] at hg
     have hg:((dKey di).bind λk=>if kvs.length < sizeLine then some (Fl.next (ρ.set j (some (.dct oa (putD kvs k d))))) else none)=some fl:=hg
     cases q4:dKey di with
     |none=>rw[q4] at hg;cases hg
     |some ky=>
      rw[q4] at hg
      have hg:(if kvs.length < sizeLine then some (Fl.next (ρ.set j (some (.dct oa (putD kvs ky d))))) else none)=some fl:=hg
      split at hg
      ·rename_i hz
       cases hg
       have hd:=Yj q4
       subst hd
       refine⟨F,ρ,d,r,q2,λw F1 H1 e1 p1=>?_⟩
       have r1:=r.ext e1
       obtain⟨v,hv,_⟩:=r1.ents j _ q
       refine⟨v,hv,F1,ρ,_,r1,q3,λu F2 H2 e2 p2=>?_⟩
       have r2:=r1.ext e2
       obtain⟨v',hv',a,ob,vs,e',f1,f2,f3,f4,f5⟩:=r2.ents j _ q
       rw[hv] at hv';cases hv';subst e'
       refine⟨a,ob,vs,ky,rfl,f1,Wu p2,by rw[<-f4.length];exact hz,λob'=>k σ F2 _ ?_ (e1.ff.trans e2.ff)⟩
       exact r2.write q rfl hv f2 f3 ⟨a,ob',_,rfl,zi,f2,f3,f4.put ky (Rp.mono e2.ff p1),f5⟩ rfl
      ·cases hg
  ·cases hg
end
section
variable {X:Cx}{B:Bs}{e a b c o i:Expr}{es:List Expr}{pos p apos cpos pos':Pos}{g ga gi gv':EnvD->Option D}{gk gk2:EnvD->Option (List (Key×D))}{gs:EnvD->Option (List D)}{gxs:EnvD->Option (List En)}{x:Str}
def sSetD (j:Nat)(g:EnvD->Option (List (Key×D))):SD:=λρ=>(g ρ).map λkvs=>.next (ρ.set j (some (.dct none kvs)))
theorem QH {K:KW}{F H:Hp}{σ:St}{ρ:EnvD}{F1 H1:Hp}(r:Rep K B F σ H ρ)(e:Ext F H F1 H1){a:Addr}(n:H a=none):∀(j:Nat) y w,ρ[j]?=some (some y)->σ[j]?=some (some w)->a∉feetE H1 y w:=λj y w h1 h2 ha=>by
 obtain⟨w',q,ry⟩:=r.ents j y h1
 rw[h2] at q;cases q
 rw[ry.feet_ext e.hh] at ha
 exact (ry.feet_at ha).1 n
theorem Kd {j:Nat}{y:Str}{pos':Pos}(hN:X.N.Nodup)(hi:X.N[j]?=some y)(hx:Loc X.env.scope y)(he:DD X B e gk)(hs:swapsWith e (some (.Name y pos')) pos.line X.env=pure false:=by rfl)(hf:X.fn y=true∨X.env.scope.names.lookup y=some .local:=by first | exact .inl rfl | exact .inr rfl) :
  DS X B (.Assign [.Name y pos'] e pos) (sSetD j gk):=zC (y0 hN hi hx he hs hf) λE σ H zz=>zz.el λF ρ fl r hg k=>by
 unfold sSetD at hg
 cases q:gk ρ with
 |none=>rw[q] at hg;cases hg
 |some kvs=>
  rw[q] at hg
  cases hg
  refine⟨F,ρ,kvs,r,q,λv F1 H1 e1 ⟨a,ob,vs,h1,h2,h3,h4,h5⟩=>k _ F1 H1 ((r.ext e1).seto (x:=.dct none kvs) ⟨a,ob,vs,h1,h3,h4,r.ex.hh.free h2,h5,λ_ z=>nomatch z⟩ λj' y w q1 q2 _ b hb=>?_) e1.ff⟩
  subst h1
  simp only[feetE,List.mem_singleton] at hb
  subst hb
  exact QH r e1 h2 j' y w q1 q2
variable {k n:Nat}{m:List En->Option En}
end
section
variable {K:KW}{F:Hp}
end
section
variable {X:Cx}{B:Bs}{e a b c o i tg:Expr}{es:List Expr}{pos p apos cpos pos':Pos}{g ga gi gv':EnvD->Option D}{gk gk2:EnvD->Option (List (Key×D))}{gs:EnvD->Option (List D)}{x:Str}
end
section
variable {X:Cx}{B:Bs}{e a b c o i tg:Expr}{es:List Expr}{pos p apos cpos pos':Pos}{g ga gi gv':EnvD->Option D}{gk gk2:EnvD->Option (List (Key×D))}{gs:EnvD->Option (List D)}{x:Str}
end
def without (H:Hp)(a:Addr):Hp:=λb=>if b=a then none else H b
theorem wZ {H:Hp}{a:Addr}:without H a a=none:=by unfold without;rw[if_pos rfl]
theorem without_ne {H:Hp}{a b:Addr}(h:b≠a):without H a b=H b:=by unfold without;rw[if_neg h]
theorem ZT {H:Hp}{a:Addr}:Same (without H a) H:=λb u e=>by
 unfold without at e
 split at e
 ·cases e
 ·exact e
theorem Zd {F H:Hp}{a:Addr}(s:Same F H)(n:F a=none):Same F (without H a):=λb u e=>by
 rw[without_ne (zG e n)];exact s b u e
def lSp (K:KW)(n:Nat)(m:Addr->List (Key×D)->List En->Option (List (Key×D))):Sp:=λvs H Q _=>
 ∃F kvs xs kvs' a ob ws us,vs=.ref a::us/\Same F H/\F a=none/\H a=some (DX K.w a ob ws)/\Rkv K F kvs ws/\xs.length+1=n/\Paired (λx v=>ArgE K F (without H a) x v) xs us/\m a kvs xs=some kvs' /\
  ∀F' H' ob' ws',Ext F (without H a) F' H'->H' a=some (DX K.w a ob' ws')->F' a=none->Rkv K F' kvs' ws'->Q .non H'
section
variable {P:Program}{w:World}{K:PySem.W.Frag}{mg:Str->Option Value}{base:Heap}
structure Lx (P:Program)(w:World)(K:PySem.W.Frag)(mg:Str->Option Value)(base:Heap)(x:Str)(k n:Nat)(m:List (Key×D)->List En->Option (List (Key×D))):Prop where
 ex:∃f fd ps m',FnOk P w K mg base CX0 k f fd ps (lSp ⟨K,w⟩ n m')/\mg x=some (.ref f)/\keepIn K (.ref f)=true/\Binds K fd ps []/\∀a kvs xs,xs.length+1=n->m' a kvs xs=m kvs xs
end
section
variable {X:Cx}{B:Bs}{es:List Expr}{pos p p1 cpos:Pos}{gxs:EnvD->Option (List En)}{x y:Str}{k n:Nat}{m:List (Key×D)->List En->Option (List (Key×D))}
end
section
variable {X:Cx}{B:Bs}{a b:Expr}{pos:Pos}{ga gb:EnvD->Option D}
end
section
variable {ρ:EnvD}{i j n:Nat}{d:D}{ds:List D}{kvs:List (Key×D)}{oa:Option Addr}{gi g:EnvD->Option D}{gk gk2:EnvD->Option (List (Key×D))}{gs:EnvD->Option (List D)}
@[simp]theorem Ra:gk' i ρ=match ρ[i]? with | some (some (.dct _ kvs))=>some kvs | some (some (.dbo kvs))=>some kvs | _=>none:=rfl
@[simp]theorem zbq:gNewD ρ=some []:=rfl
@[simp]theorem zbw:gGetD gk gi ρ=(gk ρ).bind λkvs=>((gi ρ).bind dKey).bind λk=>lookD kvs k:=rfl
@[simp]theorem Ri:sSetD j gk ρ=(gk ρ).map λkvs=>.next (ρ.set j (some (.dct none kvs))):=rfl
@[simp]theorem zaf:sPutD j gi g ρ=match ρ[j]? with | some (some (.dct oa kvs))=>(g ρ).bind λd=>((gi ρ).bind dKey).bind λk=>if kvs.length < sizeLine then some (.next (ρ.set j (some (.dct oa (putD kvs k d))))) else none | _=>none:=rfl
@[simp]theorem za3 {x:Str}:dKey (.str x)=some (.inr x):=rfl
@[simp]theorem zbm {k:Int}:dKey (.int k)=some (.inl k):=rfl
end
end Dv
namespace L4
open PySem PySem.Spec L2 L3
open PyProof.Rows hiding St
end L4
namespace Dv
open PySem PySem.Spec L2 L3 L4
open PyProof.Rows hiding St
def gNev:EnvD->Option D:=λ_=>none
section
variable {X:Cx}{B:Bs}{e a b c o i tg st:Expr}{es elts:List Expr}{pos p p2 apos cpos pos' tpos:Pos}{tk:Nat}{g ga gi gv':EnvD->Option D}{gk gk2:EnvD->Option (List (Key×D))}{gs:EnvD->Option (List D)}{gxs:EnvD->Option (List En)}{x:Str}
theorem Jn:DE X B e gNev:=λpins s σ H Q I zz=>zz.el λF ρ d r hg k=>by cases hg
def mN (m:List En->Option En):List En->Option En:=λxs=>m (xs++[.val .non])
end
structure FunD (K:PySem.W.Frag)(x qual:Str)(st:Stmt)(f:Addr)(fd:FuncData):Prop where
 ex:∃(oc dV:Value) (od:Option Addr) (kV doc pm:Value) (an:Option Addr) (cdv ct:Value) (osl:Array (Option Value)),
  fd=fnOf x qual (zu st) (zk st) (zb st) dV kV doc pm an cdv ct/\K.lookup f=some ⟨oc,od,.func fd,osl⟩/\codeIn K cdv qual=true
 kp:keepIn K (.ref f)=true
section
variable {P:Program}{w:World}{K:PySem.W.Frag}{mg:Str->Option Value}{base:Heap}
theorem FunD.ok {x qual:Str}{st:Stmt}{f:Addr}{fd:FuncData}{N ps:List Str}{k:Nat}{sp:Sp}(F:FunD K x qual st f fd)(S:FnScope N ps (zb st))(len:∀vs H Q E,sp vs H Q E->vs.length=ps.length)
  (hbody:∀(cdv:Value) (A:Around) (outer:List Env) (s:Shared) (H:Hp) (vs:List V) (Q:VK) (E:XK),Room k (A.deeper (envOfC qual (zb st) s.heap.objs.size f cdv))->sp vs H Q E ->
   ∃t,PSs (cxOf CX0 P w K mg base N qual (zb st) f cdv A outer s H E).nox (zk st) t/\t { nx:=λ_ H'=>Q .non H',rt:=Q } (L2.start N vs) H):FnOk P w K mg base CX0 (k+1) f fd ps sp:=by
 obtain⟨oc,dV,od,kV,doc,pm,an,cdv,ct,osl,rfl,lk,hcd⟩:=F.ex
 refine vR lk hcd S len λA outer s H vs Q E hr hsp=>?_
 obtain⟨t,h,q⟩:=hbody cdv A outer s H vs Q E hr hsp
 exact⟨t,h.nox,q⟩
theorem UY {x qual:Str}{st:Stmt}{f:Addr}{oc dV:Value}{od an:Option Addr}{osl:Array (Option Value)}{kV doc pm cdv ct:Value}(l:K.lookup f=some ⟨oc,od,.func (fnOf x qual (zu st) (zk st) (zb st) dV kV doc pm an cdv ct),osl⟩)
  (c:codeIn K cdv qual=true) (k:keepIn K (.ref f)=true):FunD K x qual st f (fnOf x qual (zu st) (zk st) (zb st) dV kV doc pm an cdv ct):=⟨⟨oc,dV,od,kV,doc,pm,an,cdv,ct,osl,rfl,l,c⟩,k⟩
theorem Qu {x qual:Str}{st:Stmt}{f:Addr}{fd:FuncData}{N ps:List Str}{k:Nat}{g:SD}(F:FunD K x qual st f fd)(S:FnScope N ps (zb st))
  (hb:∀(cdv:Value) (A:Around) (outer:List Env) (s:Shared) (H:Hp) (E:XK) (B:Bs),Room k (A.deeper (envOfC qual (zb st) s.heap.objs.size f cdv)) ->
   DSs (cxOf CX0 P w K mg base N qual (zb st) f cdv A outer s H E).nox B (zk st) g) :
  FnOk P w K mg base CX0 (k+1) f fd ps (pSp ⟨K,w⟩ ps.length (len? ps.length (mir N g))):=by
 refine F.ok S (λvs H Q E h=>?_) (λcdv A outer s H vs Q E hr h=>?_)
 ·obtain⟨F,xs,o,_,hl,hp,_⟩:=h
  rw[<-xy hp];exact hl
 ·obtain⟨F0,xs,o,fh,hl,hp,hm,k⟩:=h
  refine⟨_,hb cdv A outer s H E ⟨F0,H⟩ hr,?_⟩
  have hm:mir N g xs=some o:=by
   unfold len? at hm
   rw[if_pos hl] at hm
   exact hm
  unfold mir at hm
  cases q:g (stE N (xs.map some)) with
  |none=>rw[q] at hm;cases hm
  |some fl=>
   rw[q] at hm
   refine⟨F0,_,fl,vb (ps:=ps) fh hp,q,?_⟩
   cases fl with
   |next ρ=>cases hm;exact λσ' F' H' r s=>k .non F' H' r.ex rfl
   |ret o'=>cases hm;exact λv F' H' e p=>k v F' H' e p
   |brk ρ=>cases hm
   |cont ρ=>cases hm
structure FxN (P:Program)(w:World)(K:PySem.W.Frag)(mg:Str->Option Value)(base:Heap)(x:Str)(k n:Nat)(m:List En->Option En):Prop where
 ex:∃f fd ps,FnOk P w K mg base CX0 k f fd ps (pSp ⟨K,w⟩ n (len? n m))/\mg x=some (.ref f)/\keepIn K (.ref f)=true/\Binds K fd ps [.none]
end
section
variable {X:Cx}{B:Bs}{e:Expr}{es:List Expr}{pos p:Pos}{gxs:EnvD->Option (List En)}{x:Str}{k n:Nat}{m:List En->Option En}
end
section
variable {ρ:EnvD}{g gi:EnvD->Option D}{m:List En->Option En}{xs:List En}
@[simp]theorem zbj:gNev ρ=none:=rfl
@[simp]theorem RS:mN m xs=m (xs++[.val .non]):=rfl
end
section
variable {X:Cx}{B:Bs}{e c tg iter:Expr}{pos p1 p2:Pos}{ge:EnvD->Option D}{t:EnvD->Option Bool}{gi:EnvD->Option (List D)}{gbd:SD}
end
end Dv
namespace L4
open PySem PySem.Spec L2 L3
open PyProof.Rows hiding St
section
variable {prog:Program}{w:World}{A:Around}{E:Value->Shared->Prop}{s:Shared}
end
section
variable {X:Cx}{o a b:Expr}{pos p2:Pos}{to ta tb:TE}
end
end L4
namespace Dv
open PySem PySem.Spec L2 L3 L4
open PyProof.Rows hiding St
section
variable {X:Cx}{B:Bs}{e ae be:Expr}{p p2 tpos pos:Pos}{ga gb:EnvD->Option D}{gl:EnvD->Option (List D)}{x:Str}
end
section
variable {X:Cx}{B:Bs}{hb:Hp->Hp}{e a b c o tg:Expr}{es:List Expr}{pos p p2 apos cpos:Pos}{g ga gb go:EnvD->Option D}{gs:EnvD->Option (List D)}{x:Str}
end
section
variable {X:Cx}{B:Bs}{hb:Hp->Hp}{e a b c o tg:Expr}{es:List Expr}{pos p p2 apos cpos:Pos}{g ga gb go:EnvD->Option D}{gs:EnvD->Option (List D)}{x:Str}
end
end Dv
namespace L4
open PySem PySem.Spec L2 L3
open PyProof.Rows hiding St
section
variable {prog:Program}{w:World}{A:Around}{E:Value->Shared->Prop}{s:Shared}{T:String}{r d:Addr}{n:Nat}{P:Nat->Value->Prop}{OK:Heap->Prop}
end
end L4
namespace Dv
open PySem PySem.Spec L2 L3 L4
open PyProof.Rows hiding St
section
variable {X:Cx}{B:Bs}{o:Expr}{pos p:Pos}{gk:EnvD->Option (List (Key×D))}{x:Str}
end
section
variable {K:KW}{B:Bs}{F H:Hp}{σ:St}{ρ:EnvD}
end
section
variable {X:Cx}{B:Bs}{tg e ck:Expr}{es:List Expr}{x y nm:Str}{pos p2 p3 p4 p5 apos cpos:Pos}{id:String}{r:V->List V->Hp->VK->Prop}{f:List D->List D->Option (List D)}{gs:EnvD->Option (List D)}{dd:List D}
end
end Dv
namespace L4
open PySem PySem.Spec L2 L3
open PyProof.Rows hiding St
section
variable {prog:Program}{w:World}{A:Around}{E:Value->Shared->Prop}{s:Shared}
end
section
variable {X:Cx}{a:Expr}{ta:TA}{p p2 pos pos2:Pos}
end
end L4
namespace Dv
open PySem PySem.Spec L2 L3 L4
open PyProof.Rows hiding St
section
variable {X:Cx}{B:Bs}{a:Expr}{p p2 pos pos2:Pos}{gs:EnvD->Option (List D)}
end
section
variable {X:Cx}{B:Bs}{e:Expr}{es:List Expr}{pos p:Pos}{g:EnvD->Option En}{gxs:EnvD->Option (List En)}{x:Str}
def scal:D->Bool
 |.int _=>true
 |.bl _=>true
 |.non=>true
 |.str _=>true
 |_=>false
variable {k n:Nat}{m:List En->Option En}
end
section
variable {K:KW}{B:Bs}{F H:Hp}{σ:St}{ρ:EnvD}
end
section
variable {X:Cx}{B:Bs}{e ck ck0 ck1:Expr}{x y z:Str}{pos pos1 pos2 p p1 p2 p3 p4 p5 p6 p7 pos' apos cpos:Pos}{g:EnvD->Option D}
end
section
variable {X:Cx}{B:Bs}{e:Expr}{es:List Expr}{pos p:Pos}{gxs:EnvD->Option (List En)}{x:Str}{k n:Nat}{m:List En->Option En}
end
section
variable {X:Cx}{B:Bs}{e:Expr}{pos:Pos}{g:EnvD->Option D}
end
section
variable {X:Cx}{B:Bs}{tg iter elt:Expr}{ifs:List Expr}{pos:Pos}{gi:EnvD->Option OT}
end
section
variable {X:Cx}{B:Bs}{o:Expr}{apos cpos pos p:Pos}{x:Str}{td:TE}
end
end Dv
namespace L6
open PySem PySem.Spec L2 L3 L4
open PyProof.Rows hiding St
def tupO (vs:List Value):Obj:={ cls:=.type "tuple",data:=.seq vs.toArray }
def excO (C t:Addr):Obj:={ cls:=.ref C,data:=.fields #[.ref t,.none,.none,.none,.bool false,.none] }
def made (H:Heap)(C:Addr)(vs:List Value):Heap:=(H.push (tupO vs)).push (excO C H.objs.size)
section
variable {H:Heap}{C M:Addr}{vs:List Value}
theorem j6 {a:Addr}{o:Obj}(q:H.get? a=some o):(made H C vs).get? a=some o:=Heap.get?_push_of_some _ (Heap.get?_push_of_some _ q)
theorem ZS:(made H C vs).get? (H.objs.size+1)=some { cls:=.ref C,data:=.fields #[.ref H.objs.size,.none,.none,.none,.bool false,.none] }:=by unfold made excO tupO;heap_get
theorem Js {m:Str->Option Value}(q:H.Ns M m):(made H C vs).Ns M m:=by
 obtain⟨o,x,y,z,r⟩:=q
 exact⟨o,x,y,j6 z,r⟩
end
section
variable {P:Program}{w:World}{A:Around}{E:Value->Shared->Prop}{H:Heap}{g:Array GenState}{dr:Drawn}{t:Nat}{os:OsState}{C N fI:Addr}{oI:Obj}{vs:List Value}{mN:Str->Option Value}
variable {nm q:Str}{bs bm bb:List Value}{hd:Bool}{sn:List Str}{sb:List Value}{ab:Bool}{col:Option Bool}{dl:Option Addr}{k0 k1 k2 k3 k5:Option Value}{b0 nid iid:String}
end
def Trc (h:Heap)(e:Addr)(c:Value)(dd:Option Addr)(a0:Value)(T:Option Addr):Prop :=
 ∃oe vs,h.get? e=some oe/\oe.cls=c/\oe.dict=dd/\oe.data=.fields vs/\vs[0]?=some a0/\(T=none->vs[1]?=some .none) /\
  ∀t,T=some t->vs[1]?=some (.ref t)/\t≠e/\∃oT ts,h.get? t=some oT/\oT.data=.fields ts/\ts[3]?=some .none
def Kpt (S:List Addr)(e:Addr)(T:Option Addr)(h h':Heap):Prop :=
 ∀b o,b≠e->T≠some b->h.get? b=some o->(b∉S->h'.get? b=some o)/\∃sl,h'.get? b=some { o with slots:=sl }
theorem Ja (f:Array Value->Array Value)(o:Obj):(Obj.mapFields f o).dict=o.dict:=by
 obtain⟨c,d,dt,sl⟩:=o
 cases dt<;>rfl
section
variable {M:Model}{A:Around}{E:Value->Shared->Prop}{s:Shared}
end
def CX1 (P:Program)(w:World):CXT:=λouter H s E e s'=>∃ea C dd a0 T H',e=.ref ea/\s'.os=s.os/\AllBare s'.gens/\Un (frs outer) [] H H' s.heap s'.heap/\HOk P w H' s'.heap /\
 Trc s'.heap ea C dd a0 (some T)/\s.heap.objs.size<=ea/\s.heap.objs.size<=T/\H' ea=none/\H' T=none/\E C dd H'
section
variable {P:Program}{w:World}{K:PySem.W.Frag}{mg:Str->Option Value}{base:Heap}{N:List Str}{qual:Str}{scope:Scope}{f:Addr}{cd:Value}{A:Around}{outer:List Env}{s:Shared}{H:Hp}{E:XK}
end
section
variable {prog:Program}{w:World}{A:Around}{E:Value->Shared->Prop}{s:Shared}{K:PySem.W.Frag}{x dx C f:Addr}{mA:Str->Option Value}{name:Str}{v:Value}
abbrev vB:List Value:=[.type "ValueError",.type "Exception",.type "BaseException",.type "object"]
end
structure XC (K:PySem.W.Frag)(C HE fI:Addr)(fd:Str):Prop where
 cls:∃dd cd k0 k1 k2 k3 k5 bm,K.lookup C=some ⟨.type "type",dd,.cls cd,#[k0,k1,k2,k3,some (.builtin "ValueError.__new__"),k5]⟩/\cd.mro=.ref C::bm/\cd.hasDel=false /\
  PySem.W.tailIn K vB bm=true/\PySem.W.nsOkIn K cd.ns=true/\nsIn K cd.ns "__init__" = some (some (.ref fI))
 fn:∃o,K.lookup fI=some o/\o.cls=.type "function"
 kp:keepIn K (.ref C)=true
 sa:findIn K (.ref C) "__setattr__" = some (some (.builtin "object.__setattr__"))
 tk:takerIn K C fd=some none
 hd:hasDictIn K C=true
 sub:subIn K (.ref C) (.type "BaseException")=some true
 subH:subIn K (.ref C) (.ref HE)=some true
 ga:findIn K (.ref C) "__getattribute__" = some (some (.builtin "BaseException.__getattribute__"))
 gt:findIn K (.ref C) "__getattr__" = some none
 na:findIn K (.ref C) fd=some none
 rd:PySem.W.readsIn K HE (.type "type")=true
 fc:PySem.W.findCls K (.ref HE) (.type "type") "__init__" = some (.val (.builtin "ValueError.__init__"))
 sp:PySem.W.specialIn K (.ref HE) "__getattribute__" = some (some (.builtin "type.__getattribute__"))
section
variable {K:PySem.W.Frag}{C HE fI:Addr}{fd:Str}{h:Heap}
end
section
variable {prog:Program}{w:World}{A:Around}{E:Value->Shared->Prop}{h:Heap}{g:Array GenState}{d:Drawn}{t:Nat}{os:OsState}
variable {nm q:Str}{C N:Addr}{bs bm bmB:List Value}{hdct:Bool}{sn:List Str}{sub:List Value}{ab:Bool}{col:Option Bool}{dd:Option Addr}{k0 k1 k2 k3 k5:Option Value}{B newId initId:String}
theorem Ju (F:ExcBaseFacts B newId initId bmB)(T:OwnTail h bmB bm){e ta:Addr}{rest:List Value}{Q:Value->Shared->Prop}
  (hC:h.get? C=some (excClassObj nm q C N bs bm hdct sn sub ab col dd k0 k1 k2 k3 k5 newId)) (he:h.get? e=some { cls:=.ref C,data:=.fields #[.ref ta,.none,.none,.none,.bool false,.none] }) (hrest:rest.length<=sizeLine)
  (hq:∀h',h'.get? e=some { cls:=.ref C,data:=.fields #[.ref h.objs.size,.none,.none,.none,.bool false,.none] }->(∀b o,b≠e->h.get? b=some o->h'.get? b=some o)->Q .none ⟨h',g,d,t,os⟩) :
  wpAny (model prog w) A (call (.builtin initId) (.ref e::rest)) Q E ⟨h,g,d,t,os⟩:=by
 refine wpAny_call (codeAny_call_builtin F.init.plain F.initEntry (wpAny_check_init_subT F T hC he rfl ?_))
 wp_walk
 refine hq _ ?_ λb o hb q=>?_
 ·exact Heap.get?_update_self _ (Heap.get?_push_of_some _ he) rfl
 ·rw[Heap.get?_update_other _ _ (Ne.symm hb)]
  exact Heap.get?_push_of_some _ q
end
def ExO (e C t:Addr)(dd:Option Addr):HO:=.ext λh=>h.get? e=some { cls:=.ref C,dict:=dd,data:=.fields #[.ref t,.none,.none,.none,.bool false,.none] }
theorem WB {P:Program}{w:World}{H:Hp}{h:Heap}{e C t:Addr}{dd:Option Addr}(q:h.get? e=some { cls:=.ref C,dict:=dd,data:=.fields #[.ref t,.none,.none,.none,.bool false,.none] }):ObjOk P w H h e (ExO e C t dd) :=
 ⟨q,⟨_,q⟩,λ_ _ p k=>k _ p⟩
def xiSp (C:Addr)(fd:Str):Sp:=λvs H Q _=>∃e v t,vs=[.ref e,v]/\H e=some (ExO e C t none)/\∀t' dx,H dx=none->dx≠e->Q .non (upd (upd H e (ExO e C t' (some dx))) dx (.xd [(fd,v)]))
section
variable {X:Cx}{C HE fI:Addr}{fd x:Str}{pos p apos pa pb pos':Pos}{a b:Expr}{ta tb:TE}
end
def del (H:Hp)(e:Addr):Hp:=λb=>if b=e then none else H b
theorem zv {H:Hp}{e b:Addr}(h:b≠e):del H e b=H b:=by unfold del;rw[if_neg h]
theorem yr {H:Hp}{e:Addr}:del H e e=none:=by unfold del;rw[if_pos rfl]
theorem jC {X:Cx}{pins:List (Addr×Obj)}{σ:St}{H:Hp}{s:Shared}{e:Addr}{φ:Heap->Prop}(I:Inv X pins σ H s)(he:H e=some (.ext φ)):Inv X pins σ (del H e) s:=by
 have no:∀ {b:Addr},H b=none->del H e b=none:=fun {b} n=>by
  by_cases q:b=e
  ·rw[q];exact yr
  ·rw[zv q];exact n
 have ke:∀ {b:Addr} {u:HO},H b=some u->(∀φ,u≠.ext φ)->del H e b=some u:=fun {b u} n d=>by
  have:b≠e:=λz=>by rw[z,he] at n;cases n;exact d _ rfl
  rw[zv this];exact n
 have u:=I.base
 refine⟨I.ok,I.os,I.bare,⟨u.keep,u.slot,λb o q n hx=>no (u.free b o q n hx),u.there,λb xs q=>ke (u.tups b xs q) (λ_ z=>nomatch z),λb o xs q=>ke (u.frzs b o xs q) (λ_ z=>nomatch z),λb ps q=>?_⟩,I.loc,I.cell,no I.free,λx c q=>no (I.freeC x c q),λp hp=>?_,λa o q=>?_,I.len⟩
 ·obtain⟨m,z⟩:=u.tbls b ps q
  exact⟨m,ke z λ_ z=>nomatch z⟩
 ·obtain⟨a1,a2,a3⟩:=I.pin p hp
  exact⟨a1,no a2,a3⟩
 ·have hne:a≠e:=λz=>by rw[z,yr] at q;cases q
  rw[zv hne] at q
  exact (I.hok a o q).stay (λb u _ z=>z) (λb z=>ke z λ_ z=>nomatch z) λb xs z=>ke z λ_ z=>nomatch z
section
variable {M:Model}{A:Around}{E:Value->Shared->Prop}{s:Shared}{env:Env}
variable {nm q:Str}{C N:Addr}{bs bm:List Value}{hdct:Bool}{sn:List Str}{sub:List Value}{ab:Bool}{col:Option Bool}{dd:Option Addr}{k0 k1 k2 k3 k5:Option Value}{newId:String}
theorem W9 {x:Sem Value}{Q:Flow->Shared->Prop}(hbase:bm.contains (.type "BaseException")=true) (hh:A.handled=none)
  (h:wpAny M A x (λv s₁=>∃e t ed,v=.ref e/\s₁.heap.get? C=some (excClassObj nm q C N bs bm hdct sn sub ab col dd k0 k1 k2 k3 k5 newId) /\
   s₁.heap.get? e=some { cls:=.ref C,dict:=ed,data:=.fields #[.ref t,.none,.none,.none,.bool false,.none] }/\E (.ref e) s₁) E s) :
  wpAny M A (raiseStmt env (some x) none) Q E s:=by
 have hcB:(Value.ref C::bm).contains (.type "BaseException")=true:=by rw[List.contains_cons,hbase,Bool.or_true]
 unfold raiseStmt
 refine wpAny_bind (wpAny_mono h (λv s₁ h₁=>?_) λ_ _ x=>x)
 obtain⟨e,t,ed,rfl,hC,he,hE⟩:=h₁
 obtain⟨hp,g,d,tk,os⟩:=s₁
 repeat (first | with_reducible refine wpAny_loadPart_at he ?_ | with_reducible refine wpAny_loadPart_at hC ?_ | (with_reducible refine wpAny_isSubtype_exc hC ?_;rw[hcB]) | wp_step)
 exact wpAny_raiseNew_none hh hE
end
section
variable {X:Cx}{C HE fI:Addr}{fd x:Str}{pos p cpos:Pos}{a:Expr}{t:TA}{k:Nat}{f0:FuncData}{ps:List Str}
end
section
variable {P:Program}{w:World}{K:PySem.W.Frag}{mg:Str->Option Value}{base:Heap}{N:List Str}{qual:Str}{scope:Scope}{f:Addr}{cd:Value}{A:Around}{outer:List Env}{s0:Shared}{H0:Hp}{E:XK}
variable {X:Cx}{C HE fI:Addr}{fd x:Str}{pos p cpos:Pos}{a:Expr}{t:TA}{k:Nat}{f0:FuncData}{ps:List Str}
end
theorem Wq {M:Model}{h:Heap}{e C:Addr}{oe:Obj}(he:h.get? e=some oe)(hc:oe.cls=.ref C):Looks M h (typeOf (.ref e)) (.ref C):=by
 intro A' Q' E' s' k q
 unfold typeOf
 refine wpAny_bind (wpAny_loadPart (k _ _ he) ?_)
 rw[hc]
 exact wpAny_pure q
section
variable {K:PySem.W.Frag}{e C M:Addr}
structure XM (K:PySem.W.Frag)(C M:Addr):Prop where
 sub:subIn K (.ref C) (.ref M)=some true
 nt:PySem.W.instIn K (.ref M) (.type "tuple")=some false
 cls:(clsIn K M).isSome=true
 exc:subIn K (.ref M) (.type "BaseException")=some true
theorem Wg {prog:Program}{w:World}{A:Around}{E:Value->Shared->Prop}{s:Shared}{Q:Bool->Shared->Prop}{oe:Obj}(xm:XM K C M)(X:K.In s.heap)(he:s.heap.get? e=some oe)(hc:oe.cls=.ref C)(h:Q true s) :
  wpAny (model prog w) A (excMatches (.ref e) (.ref M)) Q E s:=by
 obtain⟨hh,g,d,t,os⟩:=s
 have L0:=PySem.W.looks_instIn (M:=model prog w) X xm.nt
 have L1:=Wq (M:=model prog w) he hc
 have L2:=PySem.W.looks_subIn (M:=model prog w) X xm.sub
 have L3:=PySem.W.looks_subIn (M:=model prog w) X xm.exc
 have L4:Looks (model prog w) hh (isType (.ref M)) true:=by
  have z0:=xm.cls
  unfold clsIn at z0
  split at z0
  ·rename_i c' d' cd' sl' ho
   intro A' Q' E' s' k q
   unfold isType loadHead
   exact wpAny_bind (wpAny_loadPart (k _ _ (X _ _ ho)) (wpAny_pure q))
  ·cases z0
 unfold excMatches isExcClass
 repeat (first | with_reducible refine L0.at ?_ | with_reducible refine L1.at ?_ | with_reducible refine L2.at ?_ | with_reducible refine L3.at ?_ | with_reducible refine L4.at ?_ | wp_step)
 all_goals first | exact h | skip
end
section
variable {X:Cx}{pins:List (Addr×Obj)}{σ:St}{H:Hp}{s:Shared}{h':Heap}{e:Addr}{T:Option Addr}
def Own (X:Cx)(pins:List (Addr×Obj))(H:Hp)(b:Addr):Prop:=X.s₀.heap.objs.size<=b/\b≠X.env.locals/\(∀x c,X.env.cells.lookup x=some c->c≠b)/\(∀p∈X.pn++pins,p.1≠b)/\H b=none/\b∉X.fs
theorem wg {s1:Shared}{H1:Hp}(I:Inv X pins σ H1 s1){b:Addr}(h:s1.heap.objs.size<=b)(n:H b=none):Own X pins H b:=by
 refine⟨Nat.le_trans I.sz h,Nat.ne_of_gt (Nat.lt_of_lt_of_le I.lt h),λx c q=>?_,λp hp=>?_,n,I.nofs h⟩
 ·obtain⟨v,o,ho,_⟩:=I.cell x c q
  exact Nat.ne_of_lt (Nat.lt_of_lt_of_le (Heap.lt_size ho) h)
 ·exact Nat.ne_of_lt (Nat.lt_of_lt_of_le (Heap.lt_size (I.pin p hp).1) h)
theorem xQ (I:Inv X pins σ H s)(K:Kpt (frs X.stack) e T s.heap h')(h1:Own X pins H e)(h2:∀t,T=some t->Own X pins H t):Inv X pins σ H { s with heap:=h' }:=by
 have sub:∀b,b∈frs X.stack->b=X.env.locals∨b∈X.fs:=λb hb=>List.mem_cons.mp (I.stkSub b hb)
 have ne:∀b,b∉(e::T.toList)->b≠e/\T≠some b:=λb hb=>by
  refine⟨λz=>hb (by rw[z];exact .head _),λz=>hb ?_⟩
  rw[z];exact .tail _ (.head _)
 have tr:∀b u,H b=some u->b≠e/\T≠some b:=λb u q=>by
  constructor
  ·intro z
   rw[z,h1.2.2.2.2.1] at q
   cases q
  ·intro z
   have:=(h2 b z).2.2.2.2.1
   rw[this] at q
   cases q
 refine I.step (g':=s.gens) (t':=s.toks) (d':=s.drawn) (ch:=e::T.toList) (λb hb=>?_) (λb o hL hf hc q n=>?_) (λb o hL hf hc q n=>?_) (λb o hc q n=>n) (λb o hc q=>?_) (λ_ _ q=>q) (λ_ _ _ q=>q) (λb ps q=>⟨#[],by rw[q];simp⟩) (λm hm=>?_) (λb u q=>?_) I.bare
 ·have:Own X pins H b:=by
   rcases List.mem_cons.mp hb with rfl | z
   ·exact h1
   ·exact h2 b (by cases T with | none=>cases z | some t=>simp at z;rw[z])
  exact⟨.inr this.1,this.2.1,this.2.2.1,this.2.2.2.1⟩
 ·obtain⟨n1,n2⟩:=ne b hc
  exact (K b o n1 n2 q).1 λz=>(sub b z).elim hL hf
 ·obtain⟨n1,n2⟩:=ne b hc
  exact (K b o n1 n2 q).2
 ·obtain⟨n1,n2⟩:=ne b hc
  obtain⟨sl,z⟩:=(K b o n1 n2 q).2
  exact⟨_,z⟩
 ·obtain⟨o,es,ep,ho,r⟩:=hm
  obtain⟨sl,z⟩:=(K _ o (Ne.symm h1.2.1) (λz=>(h2 _ z).2.1 rfl) ho).2
  exact⟨_,es,ep,z,r⟩
 ·refine (I.hok b u q).stay (λc v hc z=>?_) (λ_ z=>z) λ_ _ z=>z
  have hn:∃u',H c=some u':=by
   rcases hc with rfl | z
   ·exact⟨u,q⟩
   ·exact⟨_,z⟩
  obtain⟨u',hu⟩:=hn
  obtain⟨n1,n2⟩:=tr c u' hu
  refine (K c v n1 n2 z).1 λhf=>?_
  rw[I.stkFree c hf] at hu;cases hu
theorem ZM {M:Model}{A:Around}{E:Value->Shared->Prop}{c a0:Value}{dd:Option Addr}{t:Addr}{Q:Unit->Shared->Prop}(ht:Trc s.heap e c dd a0 (some t))
  (h:∀h',Trc h' e c dd a0 (some t)->Kpt [] e (some t) s.heap h'->Q () { s with heap:=h' }):wpAny M A (setFlight (.ref e) none) Q E s:=by
 obtain⟨oe,vs,he,rfl,rfl,hd,h0,hn,hs⟩:=ht
 obtain⟨h1,hte,oT,ts,hT,hdT,h3⟩:=hs t rfl
 have sz:3 < ts.size:=(Array.getElem?_eq_some_iff.mp h3).1
 unfold setFlight
 refine wpAny_bind (wpAny_field he hd h1 ?_)
 rw[if_pos (show (Value.ref t != Value.none)=true from by simp)]
 refine wpAny_setField hT hdT sz (h _ ⟨oe,vs,?_,rfl,rfl,hd,h0,hn,λt' q=>?_⟩ λb o hb hbt q=>?_)
 ·rw[Heap.get?_update_other _ _ hte];exact he
 ·cases q
  refine⟨h1,hte,_,_,Heap.get?_update_self _ hT (Obj.isFreed_of_fields (Obj.data_mapFields hdT _)),Obj.data_mapFields hdT _,?_⟩
  rw[Array.getElem?_setIfInBounds_self_of_lt sz];rfl
 ·have:(s.heap.update t (Obj.mapFields (·.setIfInBounds 3 ((none:Option Addr).elim Value.none λf=>rawInt f)))).get? b=some o:=by
   rw[Heap.get?_update_other _ _ (λz=>hbt (by rw[z]))];exact q
  exact⟨λ_=>this,o.slots,this⟩
theorem Kpt.wide {S S':List Addr}{h h':Heap}(K:Kpt S e T h h')(hs:∀b∈S,b∈S'):Kpt S' e T h h':=λb o n1 n2 q=>⟨λhb=>(K b o n1 n2 q).1 λz=>hb (hs b z),(K b o n1 n2 q).2⟩
theorem Kl {M:Model}{A:Around}{E:Value->Shared->Prop}{i:Nat}{n:Str}{pos:Pos}{Q:Unit->Shared->Prop}(I:Inv X pins σ H s)(hN:X.N.Nodup)(hi:X.N[i]?=some n)(hl:X.env.scope.names.lookup n=some .local)
  (h:∀s',Inv X pins (σ.set i none) H s'->Q () s'):wpAny M A (do bindName X.env n .none;unbindBehindTheSuite X.env n pos) Q E s:=by
 refine wpAny_bind (wpAny_bindName (wJ (v:=.non) I hN hi (.inl hl) rfl (λs1 I1=>?_) (.inr hl)))
 have hiσ:i < σ.length:=by rw[I.len];exact (List.getElem?_eq_some_iff.mp hi).1
 obtain⟨m,hn,hlk⟩:=id I1.loc
 have hcls:(X.env.scope.kind==.class||(X.env.scope.kind==.module&&X.env.locals != X.env.globals))=false:=by rw[I.ok.kind];rfl
 obtain⟨u,ru,look⟩:=hlk i n .non hi (List.getElem?_set_self hiσ) (.inl hl)
 have hm:m n=some u:=by
  rcases look with⟨_,z⟩ | ⟨z,_⟩
  ·exact z
  ·have z':X.env.scope.names.lookup n=some .cell∨X.env.scope.names.lookup n=some .free:=z
   rw[hl] at z'
   rcases z' with z' | z'<;>cases z'
 unfold unbindBehindTheSuite
 refine wpAny_onRaise (wpAny_unbindName_local hl hn hm hcls λh' w hn' hs=>h _ ?_)
 obtain⟨oL,_,_,hoL,_⟩:=id hn
 have cne:=I1.cne
 refine⟨I1.ok,I1.os,I1.bare,⟨λb o e n hb hx=>?_,λb o e n hb hx=>?_,I1.base.free,λb o e hx=>?_,I1.base.tups,I1.base.frzs,I1.base.tbls⟩,⟨_,hn',λj y v' e1 e2 e3=>?_⟩,λy c e=>?_,I1.free,I1.freeC,λp hp=>?_,λb ob e=>?_,by simpa using I.len⟩
 ·exact (hs.2 b (Nat.ne_of_lt (Nat.lt_of_lt_of_le (Heap.lt_size e) I1.ok.above))).trans (I1.base.keep b o e n hb hx)
 ·obtain⟨sl,e1⟩:=I1.base.slot b o e n hb hx
  exact⟨sl,(hs.2 b (Nat.ne_of_lt (Nat.lt_of_lt_of_le (Heap.lt_size e) I1.ok.above))).trans e1⟩
 ·obtain⟨o',e1⟩:=I1.base.there b o e hx
  exact⟨o',(hs.2 b (Nat.ne_of_lt (Nat.lt_of_lt_of_le (Heap.lt_size e) I1.ok.above))).trans e1⟩
 ·by_cases hj:j=i
  ·subst hj
   rw[List.getElem?_set_self hiσ] at e2
   cases e2
  ·rw[List.getElem?_set_ne (Ne.symm hj)] at e2
   obtain⟨u',r',q⟩:=hlk j y v' e1 (by rw[List.getElem?_set_ne (Ne.symm hj)];exact e2) e3
   refine⟨u',r',?_⟩
   rcases q with⟨k,e⟩ | ⟨k,c,e,z⟩
   ·refine .inl ⟨k,?_⟩
    have:y≠n:=λe=>hj (kh hN e1 (e ▸ hi))
    simp[this,e]
   ·exact .inr ⟨k,c,e,z.sameBut hs (cne y c e)⟩
 ·obtain⟨w',z⟩:=I1.cell y c e
  exact⟨w',z.sameBut hs (cne y c e)⟩
 ·obtain⟨e,n,ne,nf,d⟩:=I1.pin p hp
  exact⟨(hs.2 p.1 ne).trans e,n,ne,nf,d⟩
 ·refine (I1.hok b ob e).stay (λc w' hc q=>(hs.2 c ?_).trans q) (λ_ q=>q) λ_ _ q=>q
  rintro rfl
  have hf:=I1.free
  rcases hc with rfl | hc
  ·rw[hf] at e;cases e
  ·rw[hf] at hc;cases hc
end
def cxE (X:Cx)(ea:Addr)(pn:List (Addr×Obj)):Cx:={ X with A:=X.A.mark (some (.ref ea)),calm:=false,pn:=pn++X.pn,xe:=λ_ _=>False }
section
variable {X:Cx}{pins:List (Addr×Obj)}{σ:St}{H:Hp}{s:Shared}{ea:Addr}{pn:List (Addr×Obj)}
theorem VT (ok:X.Ok):(cxE X ea pn).Ok :=
 ⟨ok.mod,ok.kind,ok.glob,ok.blt,ok.above,ok.inj,ok.has,ok.cab,λz=>(nomatch z),ok.frames,ok.stk,ok.exf,ok.bs,ok.bsz,ok.noex,ok.exfs,ok.funs,ok.frf⟩
theorem vN (I:Inv X pins σ H s)(h:∀p∈pn,s.heap.get? p.1=some p.2/\H p.1=none/\p.1≠X.env.locals/\p.1∉X.fs/\∀v,p.2.data≠.cell v):Inv (cxE X ea pn) pins σ H s :=
 ⟨VT I.ok,I.os,I.bare,I.base,I.loc,I.cell,I.free,I.freeC,λp hp=>by
  have hp':p∈(pn++X.pn)++pins:=hp
  rw[List.append_assoc] at hp'
  rcases List.mem_append.mp hp' with z | z
  ·exact h p z
  ·exact I.pin p z,I.hok,I.len⟩
theorem uo (ok:X.Ok)(I:Inv (cxE X ea pn) pins σ H s):Inv X pins σ H s :=
 ⟨ok,I.os,I.bare,I.base,I.loc,I.cell,I.free,I.freeC,λp hp=>I.pin p (by
  show p∈(pn++X.pn)++pins
  rw[List.append_assoc];exact List.mem_append_right _ hp),I.hok,I.len⟩
end
section
variable {X:Cx}{C MC:Addr}{ie:Nat}{r:St->Hp->(St->XK)->Prop}{ts:Addr->Addr->TS}{body suite:List Stmt}{b0:Stmt}{xM n:Str}{pM hpos pos:Pos}
end
section
variable {X:Cx}{C HE fI ea dx M2:Addr}{oe:Obj}{fd n x y:Str}{ie iy:Nat}{pos p p2 p3 pos2 pos3:Pos}{ta tb:TE}
end
section
variable {X:Cx}{k:Nat}{f:Addr}{f0:FuncData}{ps:List Str}{sp:Sp}{x:Str}{pos p:Pos}{e:Expr}{es:List Expr}{t:TA}{st:Stmt}{rest:List Stmt}{E:XK}
theorem PA.nox {es:List Expr}{t:TA}(h:PA X.nox es t):PA X es t:=λpos pins s σ H Q I hw=>
 wpAny_mono (h pos pins s σ H Q (I.wish _) hw) (λ_ _ ⟨v,H',I',r,q⟩=>⟨v,H',I'.unwish,r,q⟩) λ_ _ z=>False.elim z
theorem PS.nox {st:Stmt}{t:TS}(h:PS X.nox st t):PS X st t:=λpins s σ H D I hw=>
 wpAny_mono (h pins s σ H D (I.wish _) hw) (λ_ _ q=>q.unwish) λ_ _ z=>False.elim z
end
end L6
namespace Dv
open PySem PySem.Spec L2 L3 L4 L6
open PyProof.Rows hiding St
def rSp (K:KW)(C:Addr)(fd:Str)(n:Nat)(m:List En->Option D):Sp:=λvs H _ E=>
 ∃F xs d,Same F H/\xs.length=n/\Paired (λx v=>ArgE K F H x v) xs vs/\m xs=some d/\∀dx v F' H',Ext F H F' H'->H' dx=some (.xd [(fd,v)])->Rp K F' d v->E (.ref C) (some dx) H'
structure Rx (P:Program)(w:World)(K:PySem.W.Frag)(mg:Str->Option Value)(base:Heap)(x:Str)(C:Addr)(fd:Str)(k n:Nat)(m:List En->Option D):Prop where
 ex:∃f f0 ps,FnOk P w K mg base (CX1 P w) k f f0 ps (rSp ⟨K,w⟩ C fd n m)/\mg x=some (.ref f)/\keepIn K (.ref f)=true/\Binds K f0 ps []
section
variable {P:Program}{w:World}{K:PySem.W.Frag}{mg:Str->Option Value}{base:Heap}{N:List Str}{qual:Str}{scope:Scope}{f:Addr}{cd:Value}{A:Around}{outer:List Env}{s0:Shared}{H0:Hp}{E:XK}
variable {X:Cx}{B:Bs}{C HE fI:Addr}{fd x:Str}{pos p cpos:Pos}{a e:Expr}{es:List Expr}{st:Stmt}{rest:List Stmt}{k n:Nat}{g:EnvD->Option D}{gs:SD}{gxs:EnvD->Option (List En)}{m:List En->Option D}{f0:FuncData}{ps:List Str}
end
section
variable {X:Cx}{B:Bs}{C HE fI MC M2:Addr}{fd x:Str}{pos p cpos:Pos}{a e c:Expr}{es:List Expr}{rest sa sb:List Stmt}{k n:Nat}{g ga gb:EnvD->Option D}{gt:EnvD->Option Bool}{gxs:EnvD->Option (List En)}{m:List En->Option D}
theorem QU {K:KW}{F:Hp}{σ:St}{H:Hp}{ρ:EnvD}{i:Nat}(r:Rep K B F σ H ρ)(h:∀x,ρ[i]?≠some (some x)):Rep K B F (σ.set i none) H ρ:=by
 have ne:∀ {j:Nat} {x:En},ρ[j]?=some (some x)->j≠i:=fun {j x} e z=>by subst z;exact h x e
 refine⟨r.ex,by simp[r.len],λj x e=>?_,λj l y z v w e1 e2 s1 s2 hne=>?_⟩
 ·obtain⟨v,h1,h2⟩:=r.ents j x e
  exact⟨v,by rw[List.getElem?_set_ne (Ne.symm (ne e))];exact h1,h2⟩
 ·rw[List.getElem?_set_ne (Ne.symm (ne e1))] at s1
  rw[List.getElem?_set_ne (Ne.symm (ne e2))] at s2
  exact r.dj j l y z v w e1 e2 s1 s2 hne
variable {xM y n2 xI fx:Str}{ie iy i:Nat}{pM hpos pI pN pC pA pE' pY pK pB pF apos epos:Pos}{body:List Stmt}{nm:Str}
end
structure Exc (P:Program)(w:World)(K:PySem.W.Frag)(mg:Str->Option Value)(base:Heap)(CT HE fI:Addr)(fd xT xH:Str):Prop where
 xc:XC K CT HE fI fd
 xm:XM K CT CT
 xmH:XM K CT HE
 z:kitOne K (.ref CT) (.ref HE)=some true
 zT:kitOne K (.ref CT) (.ref CT)=some true
 mT:mg xT=some (.ref CT)
 mH:mg xH=some (.ref HE)
 ini:∃f0 ps,FnOk P w K mg base CX0 1 fI f0 ps (xiSp CT fd)/\Binds K f0 ps []
section
variable {P:Program}{w:World}{K:PySem.W.Frag}{mg:Str->Option Value}{base:Heap}{N:List Str}{qual:Str}{scope:Scope}{f:Addr}{cd:Value}{A:Around}{outer:List Env}{s0:Shared}{H0:Hp}{E:XK}
variable {B:Bs}{CT HE fI:Addr}{fd xT xH:Str}{pos p cpos:Pos}{a:Expr}{rest:List Stmt}{g:EnvD->Option D}
theorem KI {K:PySem.W.Frag}{C M:Addr}(h1:PySem.W.isClsIn K M=true)(h2:PySem.W.typeIn K (.ref M)=some (.type "type")) (h3:subIn K (.ref C) (.ref M)=some true):kitOne K (.ref C) (.ref M)=some true:=by
 unfold kitOne
 split
 ·rfl
 ·show (if ((clsIn K M).isSome&&PySem.W.typeIn K (.ref M)==some (.type "type"))=true then subIn K (.ref C) (.ref M) else none)=some true
  have h1:(clsIn K M).isSome=true:=h1
  rw[h1,h2,if_pos (by decide)]
  exact h3
end
section
variable {X:Cx}{B:Bs}{C HE fI MC M2:Addr}{fd x:Str}{pos p cpos:Pos}{gb:EnvD->Option D}
variable {xM y n2 xI fx:Str}{ie iy i:Nat}{pM hpos pI pN pC pA pE' pY pK pB pF apos epos:Pos}{body:List Stmt}{nm:Str}
end
section
variable {P:Program}{w:World}{K:PySem.W.Frag}{mg:Str->Option Value}{base:Heap}{N:List Str}{qual:Str}{scope:Scope}{f:Addr}{cd:Value}{A:Around}{outer:List Env}{s0:Shared}{H0:Hp}{E:XK}
variable {X:Cx}{B:Bs}{C:Addr}{fd x:Str}{pos p cpos lpos:Pos}{e elt tg:Expr}{es ifs:List Expr}{rest:List Stmt}{k n i:Nat}{gxs:EnvD->Option (List En)}{m:List En->Option D}{own:List Str}{cap:List (Str×Nat)}{scp:Scope}
end
end Dv
namespace Dv
open PySem PySem.Spec L2 L3 L4
open PyProof.Rows hiding St
section
variable {X:Cx}{B:Bs}{e o:Expr}{apos cpos:Pos}{go:EnvD->Option D}{gs:EnvD->Option (List D)}
end
open L6
def noStar:Expr->Bool
 |.Starred _ _=>false
 |_=>true
theorem xh {e:Expr}{es:List Expr}{env:Env}(h:noStar e=true):starEach (e::es) env=(false,eval e env)::starEach es env:=by
 cases e<;>first | rfl | (cases h)
def PassS (X:Cx)(E:St->XK):Prop:=∀(pins:List (Addr×Obj)) (σ:St) (H:Hp) (s:Shared) (e:Value) (s':Shared),Inv X pins σ H s->CX1 X.prog X.w X.stack H s (E σ) e s'->X.xe e s'
abbrev Xv:=Str×Option D
def Pd (K:KW)(F H:Hp)(fd:Str)(dd:Option Addr):Option D->Prop
 |none=>dd=none
 |some d=>∃dx v,dd=some dx/\H dx=some (.xd [(fd,v)])/\Rp K F d v
def ySp (K:KW)(ca:Str->Addr)(fd:Str)(n:Nat)(m:List En->Option Xv):Sp:=λvs H _ E=>
 ∃F xs q,Same F H/\xs.length=n/\Paired (λx v=>ArgE K F H x v) xs vs/\m xs=some q/\∀dd F' H',Ext F H F' H'->Pd K F' H' fd dd q.2->E (.ref (ca q.1)) dd H'
structure Ry (P:Program)(w:World)(K:PySem.W.Frag)(mg:Str->Option Value)(base:Heap)(ca:Str->Addr)(fd:Str)(x:Str)(k n:Nat)(m:List En->Option Xv):Prop where
 ex:∃f f0 ps,FnOk P w K mg base (CX1 P w) k f f0 ps (ySp ⟨K,w⟩ ca fd n m)/\mg x=some (.ref f)/\keepIn K (.ref f)=true/\Binds K f0 ps []
def lVs (K:KW)(B:Bs)(ca:Str->Addr)(fd:Str)(E:St->XK)(g:EnvD->Option (EnvD×Xv)):St->Hp->Prop:=λσ H=>
 Lq K B g σ H λF ρ q=>∀dd σ' F' H',Rep K B F' σ' H' q.1->Same F F'->Pd K F' H' fd dd q.2.2->E σ' (.ref (ca q.2.1)) dd H'
def DVs (X:Cx)(B:Bs)(ca:Str->Addr)(fd:Str)(E:St->XK)(sts:List Stmt)(g:EnvD->Option (EnvD×Xv)):Prop:=PSs X sts λ_ σ H=>lVs X.kw B ca fd E g σ H
theorem kP {X:Cx}{e:Expr}:PE X e λ_ _ _=>False:=λ_ _ _ _ _ _ h=>h.elim
section
variable {X:Cx}{B:Bs}{ca:Str->Addr}{fd x:Str}{E:St->XK}{pos p cpos:Pos}{a b e c:Expr}{es:List Expr}{st:Stmt}{rest sa sb:List Stmt}{k n:Nat}{g ga gb:EnvD->Option Xv}{gd:EnvD->Option D}{gl:EnvD->Option (List D)}{gs:SD}{gt:EnvD->Option Bool}{gxs:EnvD->Option (List En)}{m:List En->Option Xv}{h1 h2:EnvD->Option (EnvD×Xv)}
def ySeq (gs:SD)(h:EnvD->Option (EnvD×Xv)):EnvD->Option (EnvD×Xv):=λρ=>match gs ρ with
 |some (.next ρ')=>h ρ'
 |_=>none
theorem YJ (d1:DS X.nox B st gs)(d2:DVs X B ca fd E rest h2):DVs X B ca fd E (st::rest) (ySeq gs h2) :=
 pss_imp (yi (PS.nox d1) d2) λD σ H zz=>zz.el λF ρ q r hg k=>by
  unfold ySeq at hg
  split at hg
  ·rename_i ρ' q1
   exact⟨F,ρ,_,r,q1,λσ' F' H' r' s'=>⟨F',ρ',q,r',hg,λdd σ2 F2 H2 r2 s2 pd=>k dd σ2 F2 H2 r2 (s'.trans s2) pd⟩⟩
  ·cases hg
def yNo {α:Type}:EnvD->Option α:=λ_=>none
theorem K4:DVs X B ca fd E rest yNo:=λ_ _ _ _ _ _ ⟨_,_,_,_,hg,_⟩=>by cases hg
def yIf (gt:EnvD->Option Bool)(h1 h2:EnvD->Option (EnvD×Xv)):EnvD->Option (EnvD×Xv):=λρ=>(gt ρ).bind λb=>if b=true then h1 ρ else h2 ρ
theorem Vf (hc:DT X.nox B c gt)(d1:DVs X B ca fd E sa h1)(d2:DVs X B ca fd E sb h2):DVs X B ca fd E (.If c sa sb pos::rest) (yIf gt h1 h2) :=
 pss_imp (yi (Yu (PT.nox hc) d1 d2) (u:=λ_ _ _=>False) λ_ _ _ _ _ _ z=>z.elim) λD σ H zz=>zz.el λF ρ q r hg k=>by
  unfold yIf at hg
  cases q1:gt ρ with
  |none=>rw[q1] at hg;cases hg
  |some b=>
   rw[q1] at hg
   have hg:(if b=true then h1 ρ else h2 ρ)=some q:=hg
   refine⟨F,ρ,b,r,q1,λF1 H1 e1=>?_⟩
   cases b with
   |true=>rw[if_pos rfl] at hg;exact iteT ⟨F1,ρ,q,r.ext e1,hg,λdd σ2 F2 H2 r2 s2 pd=>k dd σ2 F2 H2 r2 (e1.ff.trans s2) pd⟩
   |false=>rw[if_neg (by decide)] at hg;exact iteF ⟨F1,ρ,q,r.ext e1,hg,λdd σ2 F2 H2 r2 s2 pd=>k dd σ2 F2 H2 r2 (e1.ff.trans s2) pd⟩
end
end Dv
namespace L6
open PySem PySem.Spec L2 L3 L4
open PyProof.Rows hiding St
def Trf (h:Heap)(e:Addr)(c:Value)(dd:Option Addr)(a0:Value)(T:Option Addr):Prop :=
 ∃oe vs,h.get? e=some oe/\oe.cls=c/\oe.dict=dd/\oe.data=.fields vs/\vs[0]?=some a0/\(T=none->vs[1]?=some .none) /\
  ∀t,T=some t->vs[1]?=some (.ref t)/\t≠e/\∃oT ts fl,h.get? t=some oT/\oT.data=.fields ts/\ts[3]?=some fl
theorem Trc.free {h:Heap}{e:Addr}{c:Value}{dd:Option Addr}{a0:Value}{T:Option Addr}(t:Trc h e c dd a0 T):Trf h e c dd a0 T:=by
 obtain⟨oe,vs,h1,h2,h3,h4,h5,h6,h7⟩:=t
 exact⟨oe,vs,h1,h2,h3,h4,h5,h6,λt q=>let ⟨a,b,oT,ts,c,d,e⟩:=h7 t q;⟨a,b,oT,ts,_,c,d,e⟩⟩
section
variable {M:Model}{A:Around}{E:Value->Shared->Prop}{s:Shared}
theorem Wh {base:Heap}{env:Env}{outer:List Env}{L e:Addr}{oe:Obj}{vs:Array Value}{head a0:Value}{hadNext:Bool}{Q:Unit->Shared->Prop}
  (hfr:A.frames=some (env::outer)) (hl:s.heap.FunFrames base (env::outer)) (hf:env.frame=some L)
  (he:s.heap.get? e=some oe) (hd:oe.data=.fields vs) (hsz:1 < vs.size) (h0:vs[0]?=some a0)
  (h:∀h' T,Trf h' e oe.cls oe.dict a0 (some T)->s.heap.objs.size<=T->Kpt (frs (env::outer)) e none s.heap h'->Q () { s with heap:=h' }) :
  wpAny M A (do let a <-frameOf env;let pl <-entryPlaceOf L hadNext;let b <-EntryCells.newEntry head a .none (rawInt L) .none pl;setField (.ref e) 1 b) Q E s:=by
 have hene:e∉(env::outer).filterMap (·.frame):=λhm=>by
  obtain⟨_,o,ho,hnf⟩:=hl.mem hm
  rw[he] at ho;cases ho;exact hnf vs hd
 refine wpAny_bind (wpAny_frameOf_fun hfr hl hf λh1 hs1=>?_)
 refine wpAny_bind (wpAny_entryPlaceOf λpl hpl=>?_)
 unfold EntryCells.newEntry newFields
 refine wpAny_bind (wpAny_newObj_type ?_ (hpl.sizeOk5 _ _ _ _ _))
 generalize hoT:({ cls:=.type "traceback",dict:=none,data:=.fields ([head,.ref L,.none,rawInt L,.none]++(if pl.isEmpty then List.replicate 6 Value.none else pl)).toArray }:Obj)=oT
 have dT:oT.data=.fields ([head,.ref L,.none,rawInt L,.none]++(if pl.isEmpty then List.replicate 6 Value.none else pl)).toArray:=by rw[<-hoT]
 have nfT:oT.isFreed=false:=by rw[<-hoT];rfl
 have he1:h1.get? e=some oe:=(hs1.2.1 e hene).trans he
 have he2:=Heap.get?_push_of_some (h:=h1) oT he1
 have hTe:h1.objs.size≠e:=Nat.ne_of_gt (Heap.lt_size he1)
 refine wpAny_setField he2 hd hsz ?_
 have hd3:=Obj.data_mapFields hd (·.setIfInBounds 1 (Value.ref h1.objs.size))
 have he3:=Heap.get?_update_self (Obj.mapFields (·.setIfInBounds 1 (Value.ref h1.objs.size))) he2 (Obj.isFreed_of_fields hd3)
 have hT3:=(Heap.get?_update_other (h1.push oT) (Obj.mapFields (·.setIfInBounds 1 (Value.ref h1.objs.size))) (Ne.symm hTe)).trans (Heap.get?_push_size h1 nfT)
 refine h _ h1.objs.size ⟨_,_,he3,Obj.cls_mapFields _ _,Ja _ _,hd3,?_,λq=>(nomatch q),λt q=>?_⟩ (Nat.le_of_eq hs1.1.symm) ?_
 ·rw[Array.getElem?_setIfInBounds_ne (by decide)];exact h0
 ·cases q
  exact⟨by simp[hsz],hTe,_,_,rawInt L,hT3,dT,by simp⟩
 ·intro b o hbe _ hb
  have keep:∀u,h1.get? b=some u->((h1.push oT).update e (Obj.mapFields (·.setIfInBounds 1 (Value.ref h1.objs.size)))).get? b=some u:=λu hu=>by
   rw[Heap.get?_update_other _ _ (Ne.symm hbe)]
   exact Heap.get?_push_of_some _ hu
  refine⟨λhS=>keep o ((hs1.2.1 b hS).trans hb),?_⟩
  obtain⟨sl,q⟩:=hs1.2.2 b o hb
  exact⟨sl,keep _ q⟩
theorem noteF {base:Heap}{env:Env}{outer:List Env}{L e:Addr}{c a0:Value}{dd T:Option Addr}{Q:Unit->Shared->Prop}
  (hfr:A.frames=some (env::outer)) (hl:s.heap.FunFrames base (env::outer)) (hf:env.frame=some L) (ht:Trf s.heap e c dd a0 T)
  (h:∀h' T',Trf h' e c dd a0 (some T')->(s.heap.objs.size<=T'∨T=some T')->Kpt (frs (env::outer)) e T s.heap h'->Q () { s with heap:=h' }):wpAny M A (noteFrame (.ref e) env) Q E s:=by
 have ht0:=ht
 obtain⟨oe,vs,he,rfl,rfl,hd,h0,hn,hs⟩:=ht
 unfold noteFrame
 simp only[hf]
 cases T with
 |none=>
  have h1:=hn rfl
  refine wpAny_bind (wpAny_field he hd h1 ?_)
  rw[if_neg (by decide)]
  exact Wh hfr hl hf he hd (Array.getElem?_eq_some_iff.mp h1).1 h0 λh' T' a b=>h h' T' a (.inl b)
 |some t=>
  obtain⟨h1,hte,oT,ts,fl,hT,hdT,h3⟩:=hs t rfl
  refine wpAny_bind (wpAny_field he hd h1 ?_)
  rw[if_pos (show (Value.ref t != Value.none)=true from by simp)]
  refine wpAny_bind (wpAny_field hT hdT h3 ?_)
  by_cases hfl:(fl==rawInt L)=true
  ·rw[if_pos hfl]
   exact wpAny_pure (h s.heap t ht0 (.inr rfl) λb o _ _ q=>⟨λ_=>q,o.slots,q⟩)
  rw[if_neg hfl]
  refine wpAny_bind (wpAny_setField hT hdT (Array.getElem?_eq_some_iff.mp h3).1 ?_)
  have other:∀b,b≠t->(s.heap.update t (Obj.mapFields (·.setIfInBounds 3 Value.none))).get? b=s.heap.get? b:=λb hb=>Heap.get?_update_other _ _ (Ne.symm hb)
  have ne:∀b o,s.heap.get? b=some o->(∀ws,o.data≠.fields ws)->b≠t:=λb o hb hnf q=>by
   subst q;rw[hT] at hb;cases hb;exact hnf ts hdT
  refine Wh hfr (hl.of_keeps λb o hb hnf=>⟨o,(other b (ne b o hb hnf)).trans hb,rfl⟩) hf ((other e (Ne.symm hte)).trans he) hd (Array.getElem?_eq_some_iff.mp h1).1 h0 λh' T' k1 k2 k3=>h h' T' k1 (.inl ?_) ?_
  ·have:(s.heap.update t (Obj.mapFields (·.setIfInBounds 3 Value.none))).objs.size=s.heap.objs.size:=by simp[Heap.update]
   rw[<-this];exact k2
  ·exact λb o hbe hbt hb=>k3 b o hbe (by simp) ((other b λq=>hbt (by rw[q])).trans hb)
theorem qG {e t:Addr}{c a0:Value}{dd fo:Option Addr}{Q:Unit->Shared->Prop}(ht:Trf s.heap e c dd a0 (some t))
  (h:∀h',Trf h' e c dd a0 (some t)->(fo=none->Trc h' e c dd a0 (some t))->Kpt [] e (some t) s.heap h'->Q () { s with heap:=h' }):wpAny M A (setFlight (.ref e) fo) Q E s:=by
 obtain⟨oe,vs,he,rfl,rfl,hd,h0,hn,hs⟩:=ht
 obtain⟨h1,hte,oT,ts,fl,hT,hdT,h3⟩:=hs t rfl
 have sz:3 < ts.size:=(Array.getElem?_eq_some_iff.mp h3).1
 unfold setFlight
 refine wpAny_bind (wpAny_field he hd h1 ?_)
 rw[if_pos (show (Value.ref t != Value.none)=true from by simp)]
 have he':(s.heap.update t (Obj.mapFields (·.setIfInBounds 3 (fo.elim Value.none λf=>rawInt f)))).get? e=some oe:=by rw[Heap.get?_update_other _ _ hte];exact he
 have hT':=Heap.get?_update_self (Obj.mapFields (·.setIfInBounds 3 (fo.elim Value.none λf=>rawInt f))) hT (Obj.isFreed_of_fields (Obj.data_mapFields hdT _))
 have h3':(ts.setIfInBounds 3 (fo.elim Value.none λf=>rawInt f))[3]?=some (fo.elim Value.none λf=>rawInt f):=Array.getElem?_setIfInBounds_self_of_lt sz
 refine wpAny_setField hT hdT sz (h _ ⟨oe,vs,he',rfl,rfl,hd,h0,hn,λt' q=>?_⟩ (λhfo=>⟨oe,vs,he',rfl,rfl,hd,h0,hn,λt' q=>?_⟩) λb o hb hbt q=>?_)
 ·cases q
  exact⟨h1,hte,_,_,_,hT',Obj.data_mapFields hdT _,h3'⟩
 ·cases q
  subst hfo
  exact⟨h1,hte,_,_,hT',Obj.data_mapFields hdT _,h3'⟩
 ·have:(s.heap.update t (Obj.mapFields (·.setIfInBounds 3 (fo.elim Value.none λf=>rawInt f)))).get? b=some o:=by
   rw[Heap.get?_update_other _ _ (λz=>hbt (by rw[z]))];exact q
  exact⟨λ_=>this,o.slots,this⟩
end
def cxT (X:Cx)(pn:List (Addr×Obj))(W:Value->Shared->Prop):Cx:={ X with pn:=pn++X.pn,xe:=W }
section
variable {X:Cx}{pins pn:List (Addr×Obj)}{W:Value->Shared->Prop}{σ:St}{H:Hp}{s:Shared}
theorem Wr (I:Inv X pn σ H s):Inv (cxT X pn W) [] σ H s :=
 ⟨⟨I.ok.mod,I.ok.kind,I.ok.glob,I.ok.blt,I.ok.above,I.ok.inj,I.ok.has,I.ok.cab,I.ok.hd,I.ok.frames,I.ok.stk,I.ok.exf,I.ok.bs,I.ok.bsz,I.ok.noex,I.ok.exfs,I.ok.funs,I.ok.frf⟩,I.os,I.bare,I.base,I.loc,I.cell,I.free,I.freeC,λp hp=>by
  have hp':p∈(pn++X.pn)++[]:=hp
  rw[List.append_nil] at hp'
  exact I.pin p ((List.mem_append.mp hp').elim (λz=>List.mem_append_right _ z) λz=>List.mem_append_left _ z),I.hok,I.len⟩
theorem okT (ok:(cxT X pn W).Ok):X.Ok:=⟨ok.mod,ok.kind,ok.glob,ok.blt,ok.above,ok.inj,ok.has,ok.cab,ok.hd,ok.frames,ok.stk,ok.exf,ok.bs,ok.bsz,ok.noex,ok.exfs,ok.funs,ok.frf⟩
theorem xo (ok:X.Ok)(I:Inv (cxT X pn W) pins σ H s):Inv X pn σ H s :=
 ⟨ok,I.os,I.bare,I.base,I.loc,I.cell,I.free,I.freeC,λp hp=>I.pin p (by
  show p∈(pn++X.pn)++pins
  exact List.mem_append_left _ ((List.mem_append.mp hp).elim (λz=>List.mem_append_right _ z) λz=>List.mem_append_left _ z)),I.hok,I.len⟩
end
def WX (X:Cx)(pins:List (Addr×Obj))(E:St->XK):Value->Shared->Prop:=λex s'=>∃σ' ea C dd a0 T H',ex=.ref ea/\Inv X pins σ' H' s'/\Trf s'.heap ea C dd a0 T/\Own X pins H' ea/\(∀t,T=some t->Own X pins H' t)/\E σ' C dd H'
section
variable {X:Cx}{pins:List (Addr×Obj)}{E:St->XK}
theorem Wn:Dv.PassS (cxT X pins (WX X pins E)) E:=by
 intro pins' σ H s e s' I0 hx
 have I:Inv X pins σ H s:=xo (okT I0.ok) I0
 obtain⟨ea,C,dd,a0,T,H',rfl,hos,bare,un,hok,ht,h1,h2,h3,h4,hE⟩:=hx
 exact⟨σ,ea,C,dd,a0,some T,H',rfl,I.call' hos un hok bare λb z=>absurd z (by simp),ht.free,wg I h1 h3,λt q=>by cases q;exact wg I h2 h4,hE⟩
variable (hstk:X.stack=X.env::X.outer/\X.env.frame=some X.env.locals)
include hstk
theorem JQ {e:Value}{s:Shared}{Q:Unit->Shared->Prop}{Ew:Value->Shared->Prop}(h:WX X pins E e s)
  (k:∀s',WX X pins E e s'->(∃ea C dd a0 T,e=.ref ea/\Trf s'.heap ea C dd a0 (some T))->Q () s'):wpAny (model X.prog X.w) X.A (noteFrame e X.env) Q Ew s:=by
 obtain⟨σ',ea,C,dd,a0,T,H',rfl,I,ht,o1,o2,hE⟩:=h
 have hfr:X.A.frames=some (X.env::X.outer):=by rw[I.ok.frames,hstk.1]
 have hff:s.heap.FunFrames X.base (X.env::X.outer):=by have:=I.stack;rw[hstk.1] at this;exact this
 refine noteF hfr hff hstk.2 ht λh1 T1 t1 l1 k1=>k _ ⟨σ',ea,C,dd,a0,some T1,H',rfl,?_,t1,o1,λt q=>?_,hE⟩ ⟨ea,C,dd,a0,T1,rfl,t1⟩
 ·rw[<-hstk.1] at k1
  exact xQ I k1 o1 o2
 ·cases q
  rcases l1 with l | l
  ·exact wg I l (I.hok.fresh l)
  ·exact o2 _ l
omit hstk in
theorem uE {e:Value}{s:Shared}{fo:Option Addr}{Q:Unit->Shared->Prop}{Ew:Value->Shared->Prop}(h:WX X pins E e s)(hT:∃ea C dd a0 T,e=.ref ea/\Trf s.heap ea C dd a0 (some T))
  (k:∀s',WX X pins E e s'->Q () s'):wpAny (model X.prog X.w) X.A (setFlight e fo) Q Ew s:=by
 obtain⟨σ',ea,C,dd,a0,T,H',rfl,I,ht,o1,o2,hE⟩:=h
 obtain⟨ea',C',dd',a0',T',q,t'⟩:=hT
 cases q
 cases T with
 |none=>
  obtain⟨oe,vs,h1,_,_,h4,_,h6,_⟩:=ht
  obtain⟨oe',vs',g1,_,_,g4,_,_,g7⟩:=t'
  rw[h1] at g1;cases g1
  rw[h4] at g4;cases g4
  have:=(g7 T' rfl).1
  rw[h6 rfl] at this;cases this
 |some T=>
  refine qG ht λh1 t1 _ k1=>k _ ⟨σ',ea,C,dd,a0,some T,H',rfl,?_,t1,o1,o2,hE⟩
  exact xQ I (k1.wide λb z=>nomatch z) o1 o2
theorem JN:PassesOwn (model X.prog X.w) X.A X.env (WX X pins E):=by
 intro e s h
 unfold notedBy
 refine JQ hstk h λs1 w1 hT=>?_
 unfold cameBackBy
 obtain⟨ea,C,dd,a0,T,rfl,t1⟩:=id hT
 obtain⟨oe,vs,he,_,_,hd,_,_,hs⟩:=id t1
 refine wpAny_bind (wpAny_field he hd (hs T rfl).1 ?_)
 rw[if_neg (show ¬((Value.ref T==Value.none)=true) from by simp)]
 first
  |exact uE w1 hT λs2 w2=>w2
  |exact wpAny_bind (wpAny_pure (uE w1 hT λs2 w2=>w2))
end
section
variable {X:Cx}{E:St->XK}{sts:List Stmt}{t:TS}
theorem QO (h:∀pn,PSs (cxT X pn (WX X pn E)) sts t)(hx:∀pn e s',WX X pn E e s'->X.xe e s'):PSs X sts t:=λpins s σ H D I q=>
 wpAny_mono (h pins [] s σ H D (Wr I) q) (λf s1 z=>by
  cases f with
  |next=>obtain⟨σ',H',I',q⟩:=z;exact⟨σ',H',xo I.ok I',q⟩
  |brk=>obtain⟨σ',H',I',q⟩:=z;exact⟨σ',H',xo I.ok I',q⟩
  |cont=>obtain⟨σ',H',I',q⟩:=z;exact⟨σ',H',xo I.ok I',q⟩
  |ret u=>obtain⟨v,σ',H',I',r,q⟩:=z;exact⟨v,σ',H',xo I.ok I',r,q⟩) (hx pins)
end
section
variable {P:Program}{w:World}{K:PySem.W.Frag}{mg:Str->Option Value}{base:Heap}{N:List Str}{qual:Str}{scope:Scope}{f:Addr}{cd:Value}{A:Around}{outer:List Env}{s:Shared}{H:Hp}{E:XK}
theorem QB {X:Cx}(hX:X=cxOf (CX1 P w) P w K mg base N qual scope f cd A outer s H E)(pn:List (Addr×Obj))(e:Value)(s':Shared)(h:WX X pn (λ_=>E) e s'):X.xe e s':=by
 obtain⟨σ',ea,C,dd,a0,T,H',rfl,I,ht,o1,o2,hE⟩:=h
 have hs0:X.s₀=s:=by subst hX;rfl
 have b1:s.heap.objs.size<=ea:=by have:=o1.1;rw[hs0] at this;exact this
 have b2:∀t,T=some t->s.heap.objs.size<=t/\H' t=none:=λt q=>⟨by have:=(o2 t q).1;rw[hs0] at this;exact this,(o2 t q).2.2.2.2.1⟩
 have h3:H' ea=none:=o1.2.2.2.2.1
 subst hX
 show wpAny _ _ (leaving _ _) _ _ _
 unfold leaving
 have hl:=I.stack
 have hfree:=I.stkFree
 have hb0:=I.base
 have hok:=I.hok
 have sz:s.heap.objs.size<=s'.heap.objs.size:=I.sz
 refine wpAny_bind (noteF I.ok.frames hl rfl ht λh1 T1 t1 l1 k1=>qG (s:={ s' with heap:=h1 }) t1 λh' _ t2 k2=>?_)
 have t2:=t2 rfl
 have kT:H' T1=none/\s.heap.objs.size<=T1:=by
  rcases l1 with l | l
  ·exact⟨hok.fresh l,Nat.le_trans sz l⟩
  ·exact⟨(b2 _ l).2,(b2 _ l).1⟩
 have k3:Kpt (frs ((envOfC qual scope s.heap.objs.size f cd)::outer)) ea T s'.heap h':=λb o n1 n2 q=>by
  have n3:some T1≠some b:=λz=>by
   cases z
   rcases l1 with l | l
   ·exact absurd (Heap.lt_size q) (Nat.not_lt.mpr l)
   ·exact n2 l
  obtain⟨q1,sl,q2⟩:=k1 b o n1 n2 q
  refine⟨λhb=>((k2 b o n1 n3 (q1 hb)).1 (by simp)),?_⟩
  obtain⟨sl2,q3⟩:=(k2 b _ n1 n3 q2).2
  exact⟨sl2,q3⟩
 have fr:∀b,b < s.heap.objs.size->b∉frs outer->b∉frs ((envOfC qual scope s.heap.objs.size f cd)::outer):=λb hb hn hm=>by
  unfold frs at hm
  rw[List.filterMap_cons] at hm
  have q:(envOfC qual scope s.heap.objs.size f cd).frame=some s.heap.objs.size:=rfl
  rw[q] at hm
  rcases List.mem_cons.mp hm with z | z
  ·omega
  ·exact hn z
 have lo:∀b o,s.heap.get? b=some o->b≠ea/\T≠some b/\b < s.heap.objs.size:=λb o e=>by
  have l:=Heap.lt_size e
  refine⟨Nat.ne_of_lt (Nat.lt_of_lt_of_le l b1),λz=>?_,l⟩
  exact absurd (Nat.lt_of_lt_of_le l (b2 b z).1) (Nat.lt_irrefl _)
 refine⟨ea,C,dd,a0,T1,H',rfl,I.os,I.bare,⟨λb o e n hb hx=>?_,λb o e n hb hx=>?_,λb o e n hx=>hb0.free b o e n hx,λb o e hx=>?_,hb0.tups,hb0.frzs,hb0.tbls⟩,λa u e=>?_,t2,b1,kT.2,h3,kT.1,hE⟩
 ·obtain⟨l1,l2,l3⟩:=lo b o e
  exact (k3 b o l1 l2 (hb0.keep b o e n hb hx)).1 (fr b l3 hb)
 ·obtain⟨l1,l2,l3⟩:=lo b o e
  obtain⟨sl,q⟩:=hb0.slot b o e n hb hx
  obtain⟨sl',q'⟩:=(k3 b _ l1 l2 q).2
  exact⟨sl',q'⟩
 ·obtain⟨l1,l2,l3⟩:=lo b o e
  obtain⟨o',q⟩:=hb0.there b o e hx
  obtain⟨sl',q'⟩:=(k3 b _ l1 l2 q).2
  exact⟨_,q'⟩
 ·refine (hok a u e).stay (λb v hb q=>?_) (λ_ z=>z) λ_ _ z=>z
  have ht:H' b≠none:=by
   rcases hb with rfl | z
   ·rw[e];simp
   ·rw[z];simp
  exact (k3 b v (λz=>ht (by rw[z];exact h3)) (λz=>ht (b2 b z).2) q).1 λz=>ht (hfree b z)
end
section
variable {X:Cx}{pn:List (Addr×Obj)}{E:St->XK}{C HE fI:Addr}{fd x:Str}{pos p cpos:Pos}{a:Expr}{t:TA}{k:Nat}{f0:FuncData}{ps:List Str}
end
section
variable {X:Cx}{MC:Addr}{ie:Nat}{t1:TS}{t2:(St->XK)->TS}{ts:Addr->Addr->Option Addr->TS}{body suite:List Stmt}{b0:Stmt}{xM n:Str}{pM hpos pos:Pos}
end
end L6
namespace Dv
open PySem PySem.Spec L2 L3 L4 L6
open PyProof.Rows hiding St
section
variable {P:Program}{w:World}{K:PySem.W.Frag}{mg:Str->Option Value}{base:Heap}{N:List Str}{qual:Str}{scope:Scope}{f:Addr}{cd:Value}{A:Around}{outer:List Env}{s0:Shared}{H0:Hp}
variable {X:Cx}{pn:List (Addr×Obj)}{E:St->XK}{B:Bs}{ca:Str->Addr}{C HE fI:Addr}{fd x nm:Str}{pos p cpos:Pos}{a:Expr}{rest:List Stmt}{k:Nat}{gd:EnvD->Option D}{f0:FuncData}{ps:List Str}{g:EnvD->Option (EnvD×Xv)}
end
inductive It where
 |con (x:Str) | pay | isx (b:Bool)
def itD (p:Option D):It->Option D
 |.con x=>some (.str x)
 |.pay=>p
 |.isx b=>some (.bl b)
def tIt (ie:Nat)(ea:Addr)(dd:Option Addr)(fd:Str):It->TE
 |.con x=>λ_ H Q=>Q (.str x) H
 |.pay=>λσ H Q=>σ[ie]?=some (some (.ref ea))/\∃dx v,dd=some dx/\H dx=some (.xd [(fd,v)])/\Q v H
 |.isx b=>λσ H Q=>σ[ie]?=some (some (.ref ea))/\(dd=none∨∃dx v,dd=some dx/\H dx=some (.xd [(fd,v)]))/\Q (.bl b) H
def ItOk (X:Cx)(C:Addr)(ie:Nat)(fd:Str)(e:Expr)(it:It):Prop:=∀ea oe dd,oe.cls=.ref C->oe.dict=dd->(∃fs,oe.data=.fields fs)->PE (cxE X ea [(ea,oe)]) e (tIt ie ea dd fd it)
section
variable {X:Cx}{B:Bs}{C HE fI M2 MC:Addr}{ca:Str->Addr}{fd n x nm0:Str}{ie i:Nat}{pos p p2 p3 pI pC:Pos}{e:Expr}{es:List Expr}{it:It}{its:List It}
theorem UJ {K:KW}{F H:Hp}{ea:Addr}{dd:Option Addr}{σ:St}{q:Option D}{d:D}{Q:VK}(h1:σ[ie]?=some (some (.ref ea)))(pd:Pd K F H fd dd q)(hd:itD q it=some d)(k:∀v,Rp K F d v->Q v H):tIt ie ea dd fd it σ H Q:=by
 cases it with
 |con x=>cases hd;exact k _ rfl
 |isx b=>
  cases hd
  refine⟨h1,?_,k _ rfl⟩
  cases q with
  |none=>exact .inl pd
  |some d=>obtain⟨dx,v,e1,e2,_⟩:=pd;exact .inr ⟨dx,v,e1,e2⟩
 |pay=>
  replace hd:q=some d:=hd
  subst hd
  obtain⟨dx,v,e1,e2,e3⟩:=pd
  exact⟨h1,dx,v,e1,e2,k v e3⟩
def unset:Option (Option En)->Bool
 |some none=>true
 |_=>false
@[simp]theorem zbz:unset (some none)=true:=rfl
theorem Vz {o:Option (Option En)}(h:unset o=true):o=some none:=by
 unfold unset at h
 split at h
 ·rfl
 ·cases h
variable {gs:SD}{gx:EnvD->Option (EnvD×Xv)}{body:List Stmt}{xM fx:Str}{pM hpos pF epos lpos:Pos}
end
section
variable {X:Cx}{B:Bs}{pos:Pos}
end
section
end
section
variable {X:Cx}{pins:List (Addr×Obj)}{σ:St}{H:Hp}{s:Shared}
end
def forX (t:Tgt)(gb:SD)(gx:EnvD->Option (EnvD×Xv)):List D->EnvD->Option (EnvD×Xv)
 | [],_=>none
 |d::ds,ρ=>(asgD t d ρ).bind λρ1=>match gb ρ1 with
  |some (.next ρ2)=>forX t gb gx ds ρ2
  |some (.cont ρ2)=>forX t gb gx ds ρ2
  |some _=>none
  |none=>gx ρ1
def yFor (t:Tgt)(gi:EnvD->Option (List D))(gb:SD)(gx:EnvD->Option (EnvD×Xv)):EnvD->Option (EnvD×Xv):=λρ=>(gi ρ).bind λds=>forX t gb gx ds ρ
section
variable {X:Cx}{B:Bs}{ca:Str->Addr}{fd:Str}{E:St->XK}{pos:Pos}{tg iter:Expr}{body rest:List Stmt}{t:Tgt}{gi:EnvD->Option (List D)}{gbd:SD}{gxb:EnvD->Option (EnvD×Xv)}
theorem WC (hp:PassesOwn (model X.prog X.w) X.A X.env X.xe)(hc:X.calm=true)(hi:DI X B (λ_=>B.H0) tg iter gi)(hg:PG X tg (tgT X.kw t))(hb:DSs X.nox B body gbd)(hx:DVs X B ca fd E body gxb)
  (hs:∀x,foldedSetIterable iter X.env x=pure x:=by intro _;rfl):DVs X B ca fd E (.For tg iter body [] pos::rest) (yFor t gi gbd gxb):=by
 have both:PSs X body (λD σ H=>lS X.kw B gbd D σ H∨lVs X.kw B ca fd E gxb σ H):=λpins s σ H D I q=>by
  rcases q with q | q
  ·exact PSs.nox hb pins s σ H D I q
  ·exact hx pins s σ H D I q
 refine pss_imp (yi (uw hp hc hi hg both hs) (u:=λ_ _ _=>False) λ_ _ _ _ _ _ z=>z.elim) λD σ H zz=>zz.el λF ρ q r hg k=>?_
 unfold yFor at hg
 cases q0:gi ρ with
 |none=>rw[q0] at hg;cases hg
 |some ds=>
  rw[q0] at hg
  have hg:forX t gbd gxb ds ρ=some q:=hg
  refine⟨F,ρ,ds,r,q0,λJ F1 H1 e1 jok=>?_⟩
  refine⟨λi m σ H=>m=ds.length - i/\i<=ds.length/\∃F2 ρ2,Rep X.kw B F2 σ H ρ2/\Same F1 F2/\forX t gbd gxb (ds.drop i) ρ2=some q,⟨ds.length,rfl,Nat.zero_le _,F1,ρ,r.ext e1,Same.refl _,hg⟩,?_⟩
  rintro i m σ2 H2 ⟨rfl,hi,F2,ρ2,r2,s2,h2⟩
  obtain⟨j1,j2⟩:=jok F2 H2 s2 r2.fh r2.ex.hh i
  by_cases hlt:i < ds.length
  ·obtain⟨go,yl⟩:=j1 hlt
   refine .inr ⟨go,λσ' H'=>∃F3 ρ3,Rep X.kw B F3 σ' H' ρ3/\Same F1 F3/\forX t gbd gxb (ds.drop (i+1)) ρ3=some q,λσ' H' ⟨F3,ρ3,r3,s3,h3⟩=>⟨ds.length - (i+1),by omega,rfl,hlt,F3,ρ3,r3,s3,h3⟩,λx H3 hy=>?_⟩
   obtain⟨F3,d,e3,hd,rd⟩:=yl x H3 hy
   have hdd:ds.drop i=d::ds.drop (i+1):=by
    rw[List.drop_eq_getElem_cons hlt]
    congr 1
    rw[List.getElem?_eq_getElem hlt] at hd
    exact Option.some.inj hd
   rw[hdd] at h2
   replace h2:((asgD t d ρ2).bind λρ1=>match gbd ρ1 with
    |some (.next ρ2)=>forX t gbd gxb (ds.drop (i+1)) ρ2
    |some (.cont ρ2)=>forX t gbd gxb (ds.drop (i+1)) ρ2
    |some _=>none
    |none=>gxb ρ1)=some q:=h2
   cases q1:asgD t d ρ2 with
   |none=>rw[q1] at h2;cases h2
   |some ρ3=>
    rw[q1,Option.bind_some] at h2
    refine wC (r2.ext e3) rd q1 λσ' r4 _=>?_
    cases q4:gbd ρ3 with
    |none=>
     rw[q4] at h2
     exact .inr ⟨F3,ρ3,q,r4,h2,λdd σ5 F5 H5 r5 s5 pd=>k dd σ5 F5 H5 r5 (e1.ff.trans ((s2.trans e3.ff).trans s5)) pd⟩
    |some f1=>
     rw[q4] at h2
     refine .inl ⟨F3,ρ3,f1,r4,q4,?_⟩
     cases f1 with
     |next ρ5=>exact λσ5 F5 H5 r5 s5=>⟨F5,ρ5,r5,(s2.trans e3.ff).trans s5,h2⟩
     |cont ρ5=>exact λσ5 F5 H5 r5 s5=>⟨F5,ρ5,r5,(s2.trans e3.ff).trans s5,h2⟩
     |brk ρ5=>cases h2
     |ret o=>cases h2
  ·have hi':i=ds.length:=by omega
   have hdd:ds.drop i=[]:=by rw[hi',List.drop_length]
   rw[hdd] at h2
   cases h2
end
end Dv
namespace L6
open PySem PySem.Spec L2 L3 L4
open PyProof.Rows hiding St
structure XC0 (K:PySem.W.Frag)(C:Addr):Prop where
 cls:∃dd cd k0 k1 k2 k3 k5 bm,K.lookup C=some ⟨.type "type",dd,.cls cd,#[k0,k1,k2,k3,some (.builtin "ValueError.__new__"),k5]⟩/\cd.mro=.ref C::bm/\cd.hasDel=false /\
  PySem.W.tailIn K vB bm=true/\PySem.W.nsOkIn K cd.ns=true/\nsIn K cd.ns "__init__" = some none
 kp:keepIn K (.ref C)=true
section
variable {P:Program}{w:World}{A:Around}{E:Value->Shared->Prop}{H:Heap}{g:Array GenState}{dr:Drawn}{t:Nat}{os:OsState}{C N:Addr}{vs:List Value}{mN:Str->Option Value}
variable {nm q:Str}{bs bm bb:List Value}{hd:Bool}{sn:List Str}{sb:List Value}{ab:Bool}{col:Option Bool}{dl:Option Addr}{k0 k1 k2 k3 k5:Option Value}{b0 nid iid:String}
theorem WK (F:ExcBaseFacts b0 nid iid bb)(T:OwnTail H bb bm){Q:Fin->Shared->Prop}(c:H.get? C=some (excClassObj nm q C N bs bm hd sn sb ab col dl k0 k1 k2 k3 k5 nid))(n:H.Ns N mN)(i:mN "__init__" = none)
  (k:∀h' e t',H.objs.size<=e->h'.get? e=some { cls:=.ref C,data:=.fields #[.ref t',.none,.none,.none,.bool false,.none] }->(∀b o,H.get? b=some o->h'.get? b=some o)->Q (.done (.ret (.ref e))) ⟨h',g,dr,t,os⟩) (few:vs.length<=sizeLine) :
  wpAny (model P w) A (Builtin.«type.__call__» ⟨.ref C::vs,[]⟩) Q E ⟨H,g,dr,t,os⟩:=by
 have me:(Value.ref C::bm).contains (.ref C)=true:=List.contains_iff_mem.mpr (.head _)
 have c':=j6 (C:=C) (vs:=vs) c
 have T':=T.keeps (h':=made H C vs) λ_ _ z=>j6 z
 repeat
  first
   |with_reducible refine wpAny_loadPart_at c ?_
   |with_reducible refine wpAny_madeBy_exc c ?_
   |wp_step
 apply codeAny_call_builtin_code (Code.quiet_builtin _ F.quiet)
 apply wpAny_check_new_subT F T c
 refine codeAny_exc_new_subT F T c ?_ few
 show wpAny (model P w) A _ _ _ ⟨made H C vs,g,dr,t,os⟩
 unfold isInstance
 repeat
  first
   |with_reducible refine wpAny_loadPart_at ZS ?_
   | (with_reducible refine wpAny_isSubtype_exc c' ?_;rw[me])
   |wp_step
 show wpAny (model P w) A (typeLookup (.ref C) "__init__") _ _ _
 apply wpAny_typeLookup_tail c' (Js n) T' F.mroIs F.init.lookup
 rw[i]
 refine wpAny_holding (wpAny_bind (wpAny_of_eq (F.init.bind _) (wpAny_bind ?_)))
 refine Ju F T' c' ZS few λh' e1 e2=>?_
 wp_walk
 exact k h' _ _ (Nat.le_succ _) e1 λb o z=>e2 b o (Nat.ne_of_lt (Nat.lt_succ_of_lt (Heap.lt_size z))) (j6 z)
theorem U0 (F:ExcBaseFacts b0 nid iid bb)(T:OwnTail H bb bm){Q:Value->Shared->Prop}(c:H.get? C=some (excClassObj nm q C N bs bm hd sn sb ab col dl k0 k1 k2 k3 k5 nid))(n:H.Ns N mN)(i:mN "__init__" = none)
  (k:∀h' e t',H.objs.size<=e->h'.get? e=some { cls:=.ref C,data:=.fields #[.ref t',.none,.none,.none,.bool false,.none] }->(∀b o,H.get? b=some o->h'.get? b=some o)->Q (.ref e) ⟨h',g,dr,t,os⟩) (few:vs.length<=sizeLine) :
  wpAny (model P w) A (call (.ref C) vs) Q E ⟨H,g,dr,t,os⟩:=by
 have ty:(⟨H,g,dr,t,os⟩:Shared).TypeIs (.ref C) "type" := ⟨_,c,rfl⟩
 have l1:=tc_lookup
 have l2:=tc_bind (.ref C)
 apply wpAny_call
 apply codeAny_of_tree
 show wpAny (model P w) _ (callAny (.ref C) ⟨vs,[]⟩) _ _ _
 repeat
  any_goals first
   |assumption
   |with_reducible refine wpAny_loadPart_at c ?_
   |wp_step
 refine⟨rfl,codeAny_call_builtin_at (Code.quiet_builtin _ (by decide +kernel)) entry_typeCall (wpAny_check_type_call_sub c ?_)⟩
 exact WK (few:=few) F T c n i λh' e t' l m s=>k h' e t' l m s
end
theorem WA {K:PySem.W.Frag}{h:Heap}{N:Addr}{mg:Str->Option Value}{n:Str}(X:K.In h)(G:h.Ns N mg)(e:nsIn K N n=some none):mg n=none:=by
 obtain⟨o,es,ep,ho,hd,_,hf⟩:=G
 unfold nsIn at e
 split at e
 ·rename_i q
  have:=X _ _ q
  rw[ho] at this
  cases this
  cases hd
  split at e
  ·cases e
  ·rename_i he
   rw[<-hf]
   unfold nsFind findBy
   rw[<-Array.find?_toList,he]
   rfl
 ·cases e
theorem XC0.at {K:PySem.W.Frag}{C:Addr}{h:Heap}(x:XC0 K C)(X:K.In h):∃nm q N bs bm hdct sn sub ab col dd k0 k1 k2 k3 k5 mN,h.get? C=some (excClassObj nm q C N bs bm hdct sn sub ab col dd k0 k1 k2 k3 k5 "ValueError.__new__")/\h.Ns N mN/\mN "__init__" = none/\OwnTail h vB bm:=by
 obtain⟨dd,cd,k0,k1,k2,k3,k5,bm,e,m,hdel,ht,hok,hi⟩:=x.cls
 obtain⟨nm,bs,mro,ns,qn,hd,sn,sub,ab,col,del⟩:=cd
 dsimp only at m hdel hok hi
 subst m hdel
 have G:h.Ns ns (h.nsMap ns):=.of_isNs (PySem.W.isNs_of_in X hok)
 refine⟨nm,qn,ns,bs,bm,hd,sn,sub,ab,col,dd,k0,k1,k2,k3,k5,_,X _ _ e,G,?_,PySem.W.tail_of_in X ht⟩
 exact WA X G hi
section
variable {X:Cx}{pn:List (Addr×Obj)}{E:St->XK}{C:Addr}{x:Str}{pos p cpos:Pos}{a:Expr}{t:TA}
def V9 (C:Addr)(E:St->XK)(t:TA):TS:=λ_ σ H=>t σ H λvs H1=>∃v,vs=[v]/\E σ (.ref C) none H1
theorem JW (hc:X.calm=true)(xc:XC0 X.K C)(hg:Gl X x)(hm:X.mg x=some (.ref C))(ha:PA (cxT X pn (WX X pn E)) [a] t)(hdb:(x==("__debug__" : Str))=false:=by decide)
  (he:starEach [a] X.env=(false,eval a X.env)::starEach [] X.env:=by rfl) (hpl:(backTo cpos (starEach [] X.env)).any (·.1)=false:=by rfl) :
  PS (cxT X pn (WX X pn E)) (.Raise (some (.Call (.Name x p) [a] [] cpos)) none pos) (V9 C E t):=by
 intro pins s σ H D I h
 have hh:X.A.handled=none:=I.ok.hd hc
 obtain⟨nm,qq,N',bs,bm,hdct,sn,sub,ab,col,dd,k0,k1,k2,k3,k5,mN,hC,hN,hi,T⟩:=xc.at I.ok.mod.kin
 have hbase:bm.contains (.type "BaseException")=true:=T.hasType (by decide)
 rw[arm_exec_Raise]
 refine wpAny_bind (wpAny_standAt ?_)
 show wpAny _ _ (raiseStmt X.env (some (do let v <-eval (.Call (.Name x p) [a] [] cpos) X.env;standAt pos;pure v)) none) _ _ _
 refine W9 (nm:=nm) (q:=qq) (C:=C) (N:=N') (bs:=bs) (bm:=bm) (hdct:=hdct) (sn:=sn) (sub:=sub) (ab:=ab) (col:=col) (dd:=dd) (k0:=k0) (k1:=k1) (k2:=k2) (k3:=k3) (k5:=k5) (newId := "ValueError.__new__") hbase hh (wpAny_bind ?_)
 refine wpAny_Call_Name_kw (yz (X:=cxT X pn (WX X pn E)) I hg hm ?_ hdb)
 refine PySem.W.callWith_K (h₀:=X.base) I.ok.mod.kin xc.kp (thn (ha cpos pins s σ H _ I h) λus s1 ⟨vs,H1,I1,r1,v,ev,q⟩=>⟨I1.kIn,?_⟩) he hpl
 subst ev
 obtain⟨nm',qq',N2,bs',bm',hdct',sn',sub',ab',col',dd',k0',k1',k2',k3',k5',mN',hC',hN',hi',T'⟩:=xc.at I1.kIn
 have hl1:us.length<=sizeLine:=by rw[<-r1.length,List.length_cons,List.length_nil,sizeLine_eq];omega
 obtain⟨hh1,g,d,tk,os⟩:=s1
 refine U0 PySem.F.excBase_ValueError T' hC' hN' hi' (λh' e t' l1 l2 l3=>wpAny_bind (wpAny_standAt (wpAny_pure ?_))) hl1
 have I2:Inv (cxT X pn (WX X pn E)) pins σ (upd H1 e (ExO e C t' none)) ⟨h',g,d,tk,os⟩:=I1.laid (a:=e) (o:=ExO e C t' none) (h':=h') (t':=tk) (λb o q=>l3 b o q) l1 (WB l2)
 have hne:H1 e=none:=I1.hok.fresh l1
 have hee:upd H1 e (ExO e C t' none) e=some (ExO e C t' none):=zi
 refine⟨e,t',none,rfl,I2.bk _ _ hC,l2,?_⟩
 have I3:=jC I2 hee
 have eq:del (upd H1 e (ExO e C t' none)) e=H1:=by
  funext b
  by_cases h1:b=e
  ·subst h1;rw[yr,hne]
  ·rw[zv h1,zd h1]
 rw[eq] at I3
 exact⟨σ,e,.ref C,none,.ref t',none,_,rfl,xo (okT I3.ok) I3,⟨_,_,l2,rfl,rfl,rfl,rfl,λ_=>rfl,λ_ z=>(nomatch z)⟩,wg (xo (okT I1.ok) I1) l1 hne,λ_ z=>(nomatch z),q⟩
end
end L6
namespace Dv
open PySem PySem.Spec L2 L3 L4 L6
open PyProof.Rows hiding St
section
variable {X:Cx}{pn:List (Addr×Obj)}{E:St->XK}{B:Bs}{ca:Str->Addr}{C:Addr}{fd x nm:Str}{pos p cpos:Pos}{a:Expr}{rest:List Stmt}{gd:EnvD->Option D}
def xC (nm:Str)(gd:EnvD->Option D):EnvD->Option (EnvD×Xv):=λρ=>(gd ρ).map λ_=>(ρ,nm,none)
theorem VC (hC:ca nm=C)(hc:X.calm=true)(xc:XC0 X.K C)(hg:Gl X x)(hm:X.mg x=some (.ref C))(ha:DE (cxT X pn (WX X pn E)).nox B a gd)(hdb:(x==("__debug__" : Str))=false:=by decide +kernel)
  (he:starEach [a] X.env=(false,eval a X.env)::starEach [] X.env:=by rfl) (hpl:(backTo cpos (starEach [] X.env)).any (·.1)=false:=by rfl) :
  DVs (cxT X pn (WX X pn E)) B ca fd E (.Raise (some (.Call (.Name x p) [a] [] cpos)) none pos::rest) (xC nm gd) :=
 pss_imp (yi (JW hc xc hg hm (PA.nox (zM ha yd he)) hdb he hpl) (u:=λ_ _ _=>False) λ_ _ _ _ _ _ z=>z.elim) λD σ H zz=>zz.el λF ρ q r hg k=>by
  unfold xC at hg
  cases q1:gd ρ with
  |none=>rw[q1] at hg;cases hg
  |some d=>
   rw[q1] at hg
   cases hg
   refine⟨F,ρ,d,r,q1,λv F' H' e1 p1=>⟨v,rfl,?_⟩⟩
   have:=k none σ F' _ (r.ext e1) e1.ff rfl
   rw[hC] at this
   exact this
end
end Dv
namespace L6
open PySem PySem.Spec L2 L3 L4
open PyProof.Rows hiding St
section
variable {prog:Program}{w:World}{A:Around}{E:Value->Shared->Prop}
end
end L6
namespace Dv
open PySem PySem.Spec L2 L3 L4 L6
open PyProof.Rows hiding St
end Dv
namespace L6
open PySem PySem.Spec L2 L3 L4
open PyProof.Rows hiding St
structure XN (K:PySem.W.Frag)(C M:Addr):Prop where
 sub:subIn K (.ref C) (.ref M)=some false
 nt:PySem.W.instIn K (.ref M) (.type "tuple")=some false
 cls:(clsIn K M).isSome=true
 exc:subIn K (.ref M) (.type "BaseException")=some true
theorem Yy {K:PySem.W.Frag}{e C M:Addr}{prog:Program}{w:World}{A:Around}{E:Value->Shared->Prop}{s:Shared}{Q:Bool->Shared->Prop}{oe:Obj}(xm:XN K C M)(X:K.In s.heap)(he:s.heap.get? e=some oe)(hc:oe.cls=.ref C)(h:Q false s) :
  wpAny (model prog w) A (excMatches (.ref e) (.ref M)) Q E s:=by
 obtain⟨hh,g,d,t,os⟩:=s
 have L0:=PySem.W.looks_instIn (M:=model prog w) X xm.nt
 have L1:=Wq (M:=model prog w) he hc
 have L2:=PySem.W.looks_subIn (M:=model prog w) X xm.sub
 have L3:=PySem.W.looks_subIn (M:=model prog w) X xm.exc
 have L4:Looks (model prog w) hh (isType (.ref M)) true:=by
  have z0:=xm.cls
  unfold clsIn at z0
  split at z0
  ·rename_i c' d' cd' sl' ho
   intro A' Q' E' s' k q
   unfold isType loadHead
   exact wpAny_bind (wpAny_loadPart (k _ _ (X _ _ ho)) (wpAny_pure q))
  ·cases z0
 unfold excMatches isExcClass
 repeat (first | with_reducible refine L0.at ?_ | with_reducible refine L1.at ?_ | with_reducible refine L2.at ?_ | with_reducible refine L3.at ?_ | with_reducible refine L4.at ?_ | wp_step)
 all_goals first | exact h | skip
structure Hd where
 MC:Addr
 ie:Option Nat
 ts:Addr->Addr->Option Addr->TS
def sWish (h:Hd)(D:Ends)(σ':St)(C:Addr)(dd:Option Addr)(H':Hp):Prop:=∀ea,H' ea=none->match h.ie with
 |some i=>h.ts ea C dd { nx:=λσ2 H2=>D.nx (σ2.set i none) H2,rt:=λ_ _=>False } (σ'.set i (some (.ref ea))) H'
 |none=>h.ts ea C dd { nx:=D.nx,rt:=λ_ _=>False } σ' H'
def hWish (K:PySem.W.Frag):List Hd->Ends->St->XK
 | [],_=>λ_ _ _ _=>False
 |h::hs,D=>λσ' C' dd H'=>∃C,C'=.ref C/\((XM K C h.MC/\sWish h D σ' C dd H')∨(XN K C h.MC/\hWish K hs D σ' C' dd H'))
inductive HsOk (X:Cx):List ExceptHandler->List Hd->Prop
 |nil:HsOk X [] []
 |as {xM n:Str} {MC:Addr} {ie:Nat} {ts:Addr->Addr->Option Addr->TS} {b0:Stmt} {suite:List Stmt} {rest:List ExceptHandler} {hds:List Hd} {pM hpos:Pos} (hg:Gl X xM) (hm:X.mg xM=some (.ref MC)) (hdb:(xM==("__debug__" : Str))=false)
   (hi:X.N[ie]?=some n) (hl:X.env.scope.names.lookup n=some .local) (hs:∀ea oe C dd,oe.cls=.ref C->oe.dict=dd->(∃fs,oe.data=.fields fs)->PSs (cxE X ea [(ea,oe)]) (b0::suite) (ts ea C dd)) (hr:HsOk X rest hds) :
   HsOk X (.ExceptHandler (some (.Name xM pM)) (some n) (b0::suite) hpos::rest) (⟨MC,some ie,ts⟩::hds)
 |no {xM:Str} {MC:Addr} {ts:Addr->Addr->Option Addr->TS} {b0:Stmt} {suite:List Stmt} {rest:List ExceptHandler} {hds:List Hd} {pM hpos:Pos} (hg:Gl X xM) (hm:X.mg xM=some (.ref MC)) (hdb:(xM==("__debug__" : Str))=false)
   (hs:∀ea oe C dd,oe.cls=.ref C->oe.dict=dd->(∃fs,oe.data=.fields fs)->PSs (cxE X ea [(ea,oe)]) (b0::suite) (ts ea C dd)) (hr:HsOk X rest hds) :
   HsOk X (.ExceptHandler (some (.Name xM pM)) none (b0::suite) hpos::rest) (⟨MC,none,ts⟩::hds)
section
variable {X:Cx}{pins:List (Addr×Obj)}
theorem qk (hN:X.N.Nodup):∀ {hs:List ExceptHandler} {hds:List Hd},HsOk X hs hds->∀ {σ':St} {H':Hp} {s:Shared} {ea T:Addr} {C' a0:Value} {dd:Option Addr} {D:Ends},Inv X pins σ' H' s->Trc s.heap ea C' dd a0 (some T)->Own X pins H' ea->Own X pins H' T ->
  hWish X.K hds D σ' C' dd H'->wpAny (model X.prog X.w) X.A (handleBy (.ref ea) X.env hs) (SP X pins D) X.xe s
 |_,_,.nil,_,_,_,_,_,_,_,_,_,_,_,_,_,q=>q.elim
 |_,_,@HsOk.as _ xM n MC ie ts b0 suite rest hds pM hpos hg hm hdb hi hl hs hr,σ',H',s,ea,T,C',a0,dd,D,I,t5,o1,o5,q=>by
  obtain⟨C,rfl,q⟩:=q
  have h3:H' ea=none:=o1.2.2.2.2.1
  have I':Inv (cxE X ea []) pins σ' H' s:=vN I λp hp=>nomatch hp
  obtain⟨oe5,vs5,he5,hc5,hd5,hf5,_⟩:=id t5
  refine wpAny_handleBy_cons (codeAny_handlers_test (yz (X:=cxE X ea []) I' hg hm ?_ hdb)) (by intro z;cases z)
  rcases q with⟨xm,q⟩ | ⟨xn,q⟩
  ·refine Wg xm I.kIn he5 hc5 ?_
   refine codeAny_handlers_suite_as ?_
   refine ZM t5 λh6 t6 k6=>?_
   have I6:=xQ I (k6.wide (S':=frs X.stack) λb z=>nomatch z) o1 λt z=>by cases z;exact o5
   refine jQ (X:=X) (v:=.ref ea) I6 hN hi (.inl hl) rfl (λs7 I7 sb=>?_) (.inr hl)
   obtain⟨oe,vs,he,hc,hd,hf,_⟩:=id t6
   have he7:s7.heap.get? ea=some oe:=by
    obtain⟨a,sb1,sb2⟩:=sb
    refine (sb1.2 ea ?_).trans he
    rintro rfl
    rcases sb2 with z | z
    ·exact o1.2.1 z
    ·exact o1.2.2.1 n ea z rfl
   have I7':Inv (cxE X ea [(ea,oe)]) pins (σ'.set ie (some (.ref ea))) H' s7:=vN I7 λp hp=>by
    cases hp with
    |head=>exact⟨he7,h3,o1.2.1,o1.2.2.2.2.2,λv z=>by rw[hf] at z;cases z⟩
    |tail _ z=>cases z
   refine wpAny_mono (hs ea oe C dd hc hd ⟨vs,hf⟩ pins s7 _ H' _ I7' (q ea h3)) (λf s8 z=>?_) λ_ _ z=>False.elim z
   cases f with
   |next=>
    obtain⟨σ8,H8,I8,q8⟩:=z
    exact Kl (uo I.ok I8) hN hi hl λs9 I9=>⟨_,_,I9,q8⟩
   |ret v=>obtain⟨_,_,_,_,_,z⟩:=z;exact z.elim
   |brk=>obtain⟨_,_,_,z⟩:=z;exact z.elim
   |cont=>obtain⟨_,_,_,z⟩:=z;exact z.elim
  ·refine Yy xn I.kIn he5 hc5 ?_
   exact qk hN hr I t5 o1 o5 q
 |_,_,@HsOk.no _ xM MC ts b0 suite rest hds pM hpos hg hm hdb hs hr,σ',H',s,ea,T,C',a0,dd,D,I,t5,o1,o5,q=>by
  obtain⟨C,rfl,q⟩:=q
  have h3:H' ea=none:=o1.2.2.2.2.1
  have I':Inv (cxE X ea []) pins σ' H' s:=vN I λp hp=>nomatch hp
  obtain⟨oe5,vs5,he5,hc5,hd5,hf5,_⟩:=id t5
  refine wpAny_handleBy_cons (codeAny_handlers_test (yz (X:=cxE X ea []) I' hg hm ?_ hdb)) (by intro z;cases z)
  rcases q with⟨xm,q⟩ | ⟨xn,q⟩
  ·refine Wg xm I.kIn he5 hc5 ?_
   refine codeAny_handlers_suite ?_
   refine ZM t5 λh6 t6 k6=>?_
   have I6:=xQ I (k6.wide (S':=frs X.stack) λb z=>nomatch z) o1 λt z=>by cases z;exact o5
   obtain⟨oe,vs,he,hc,hd,hf,_⟩:=id t6
   have I7':Inv (cxE X ea [(ea,oe)]) pins σ' H' { s with heap:=h6 }:=vN I6 λp hp=>by
    cases hp with
    |head=>exact⟨he,h3,o1.2.1,o1.2.2.2.2.2,λv z=>by rw[hf] at z;cases z⟩
    |tail _ z=>cases z
   refine wpAny_mono (hs ea oe C dd hc hd ⟨vs,hf⟩ pins _ _ H' _ I7' (q ea h3)) (λf s8 z=>?_) λ_ _ z=>False.elim z
   cases f with
   |next=>
    obtain⟨σ8,H8,I8,q8⟩:=z
    exact⟨_,_,uo I.ok I8,q8⟩
   |ret v=>obtain⟨_,_,_,_,_,z⟩:=z;exact z.elim
   |brk=>obtain⟨_,_,_,z⟩:=z;exact z.elim
   |cont=>obtain⟨_,_,_,z⟩:=z;exact z.elim
  ·refine Yy xn I.kIn he5 hc5 ?_
   exact qk hN hr I t5 o1 o5 q
end
section
variable {X:Cx}{t1:TS}{t2:(St->XK)->TS}{body:List Stmt}{h0:ExceptHandler}{hs:List ExceptHandler}{hds:List Hd}{pos:Pos}
theorem W6 (h1:PSs X.nox body t1)(h2:∀pn (E:St->XK),PSs (cxT X pn (WX X pn E)) body (t2 E))(hN:X.N.Nodup)(hstk:X.stack=X.env::X.outer/\X.env.frame=some X.env.locals)(hh:HsOk X (h0::hs) hds) :
  PS X (.Try body (h0::hs) [] [] pos) (λD σ H=>t1 D σ H∨t2 (hWish X.K hds D) { nx:=λ_ _=>False,rt:=λ_ _=>False } σ H):=by
 intro pins s σ H D I h
 rcases h with h | h
 ·refine wpAny_Try_except (wpAny_mono (h1 pins s σ H D (I.wish _) h) (λf s1 q=>?_) λ_ _ z=>False.elim z)
  have q:=SP.unwish q
  cases f with
  |next=>exact wpAny_execs_nil q
  |ret v=>exact q
  |brk=>exact q
  |cont=>exact q
 refine wpAny_Try_except (wpAny_mono (h2 pins _ [] s σ H _ (Wr I) h) (λf s1 q=>?_) λex s' hx=>?_)
 ·cases f with
  |next=>obtain⟨_,_,_,z⟩:=q;exact z.elim
  |ret v=>obtain⟨_,_,_,_,_,z⟩:=q;exact z.elim
  |brk=>obtain⟨_,_,_,z⟩:=q;exact z.elim
  |cont=>obtain⟨_,_,_,z⟩:=q;exact z.elim
 obtain⟨σ',ea,C',dd,a0,T,H',rfl,I2,ht,o1,o2,q⟩:=hx
 have hfr:X.A.frames=some (X.env::X.outer):=by rw[I.ok.frames,hstk.1]
 have hff:s'.heap.FunFrames X.base (X.env::X.outer):=by have:=I2.stack;rw[hstk.1] at this;exact this
 refine noteF hfr hff hstk.2 ht λh4 T5 t4 l4 k4=>?_
 rw[<-hstk.1] at k4
 have I4:=xQ I2 k4 o1 o2
 have o5:Own X pins H' T5:=by
  rcases l4 with l | l
  ·exact wg I2 l (I2.hok.fresh l)
  ·exact o2 _ l
 refine qG (s:={ s' with heap:=h4 }) t4 λh5 _ t5 k5=>?_
 have t5:=t5 rfl
 have I5:=xQ (s:={ s' with heap:=h4 }) I4 (k5.wide (S':=frs X.stack) λb z=>nomatch z) o1 λt z=>by cases z;exact o5
 exact qk hN hh I5 t5 o1 o5 q
end
end L6
namespace Dv
open PySem PySem.Spec L2 L3 L4 L6
open PyProof.Rows hiding St
section
variable {X:Cx}{B:Bs}{ca:Str->Addr}{fd:Str}{E:St->XK}{pos:Pos}{tg iter elt:Expr}{ifs:List Expr}{scope:Scope}{own:List Str}{cap:List (Str×Nat)}{t:Tgt}{tc:EnvD->Option Bool}{α:Type}{post:Post α}{ge:EnvD->Option α}{gx:EnvD->Option Xv}{gi:EnvD->Option (List D)}
end
end Dv
namespace L6
open PySem PySem.Spec L2 L3 L4
open PyProof.Rows hiding St
def ExcAt (e C:Addr)(h:Heap):Prop:=∃ox od,InstAt h e ox C od
structure XI (K:PySem.W.Frag)(C:Addr):Prop where
 sub:subIn K (.ref C) (.type "BaseException")=some true
 cls:(clsIn K C).isSome=true
 ga:findIn K (.ref C) "__getattribute__" = some (some (.builtin "BaseException.__getattribute__"))
 gt:findIn K (.ref C) "__getattr__" = some none
 ca:findIn K (.ref C) "__class__" = some (some (.builtin "object.__class__"))
 cg:PySem.W.specialIn K (.builtin "object.__class__") "__get__" = some (some (.builtin "getset_descriptor.__get__"))
 ct:PySem.W.takesIn K (.builtin "object.__class__")=some true
 mo:PySem.W.mroIn K C (.type "object")=some true
section
variable {prog:Program}{w:World}{A:Around}{E:Value->Shared->Prop}{K:PySem.W.Frag}{x C:Addr}
theorem JO {ox:Obj}{od:Option Obj}{tk:Tok}{R:Result->Shared->Prop}{s:Shared}(xi:XI K C)(X:K.In s.heap)(I:InstAt s.heap x ox C od)(hq:R (.ok (.ret (.ref C))) s) :
  wpAny (model prog w) A.in1 (Builtin.«object.__getattribute__» ⟨[.ref x,.str "__class__" tk],[]⟩)
   (λfin s'=>match fin with | .done f=>R (.ok f) s' | .again c'=>c'.quiet=true/\codeAny (model prog w) A c' R s') (λe s'=>R (.error e) s') s:=by
 have hf:PySem.W.findObj K C od "__class__" = some (.bind (.builtin "getset_descriptor.__get__") (.builtin "object.__class__")):=by
  obtain⟨cd,hc⟩:=Option.isSome_iff_exists.mp xi.cls
  unfold PySem.W.findObj
  rw[hc,Option.bind_some,xi.ca,Option.bind_some]
  simp[xi.cg,xi.ct]
 obtain⟨h,g,d,t,os⟩:=s
 have L0:=I.type (M:=model prog w)
 have L1:=PySem.W.looks_find (M:=model prog w) X I hf
 unfold Builtin.«object.__getattribute__»
 refine wpAny_bind (wpAny_pure (wpAny_bind (wpAny_pure (wpAny_bind (L0.at (wpAny_bind (L1.at ?_)))))))
 show wpAny _ _ (holding [_] (call _ [_,.ref x,.ref C]) >>= ret) _ _ _
 exact wpAny_bind (wpAny_holding (wpAny_call (PySem.W.class_get (s:=⟨h,g,d,t,os⟩) X I xi.mo (wpAny_pure hq))))
theorem Ka {ox:Obj}{od:Option Obj}{tk:Tok}{R:Result->Shared->Prop}{s:Shared}(xi:XI K C)(X:K.In s.heap)(I:InstAt s.heap x ox C od)(hq:R (.ok (.ret (.ref C))) s) :
  codeAny (model prog w) A (.call (.builtin "BaseException.__getattribute__") ⟨[.ref x,.str "__class__" tk],[]⟩) R s:=by
 refine codeAny_call_builtin PySem.F.attrBase_ValueError.ga.plain PySem.F.entry_bexc_ga ?_
 refine @PySem.W.check_slot (model prog w) _ _ s "BaseException.__getattribute__" "BaseException" "__getattribute__" (.ref x) [.str "__class__" tk] [] _ (by decide +kernel) (by decide +kernel) (I.type.andThen (PySem.W.looks_subIn X xi.sub)) (PySem.F.args_bexc_ga (.ref x) (.str "__class__" tk)) ?_
 exact JO xi X I hq
theorem JV {ox:Obj}{od:Option Obj}{Q:Option Value->Shared->Prop}{s:Shared}(xi:XI K C)(X:K.In s.heap)(I:InstAt s.heap x ox C od)(hq:Q (some (.ref C)) { s with toks:=s.toks+1 }) :
  wpAny (model prog w) A (getAttr? (.ref x) "__class__") Q E s:=by
 obtain⟨h,g,d,t,os⟩:=s
 have L0:=I.type (M:=model prog w)
 have L1:=looks_findIn (M:=model prog w) X xi.ga
 have L2:=looks_findIn (M:=model prog w) X xi.gt
 have f3:=PySem.F.attrBase_ValueError.ga.bind (.ref x)
 have hv2:handedOut (Value.ref C)=pure (Value.ref C):=rfl
 have hx2:(Value.builtin "BaseException.__getattribute__" == Value.builtin "object.__getattribute__")=false:=by decide +kernel
 have hx1:(onTheHeap (Value.ref C)&&Value.builtin "BaseException.__getattribute__" == Value.builtin "object.__getattribute__")=false:=by rw[hx2];rfl
 unfold getAttr? getAttrBy? getAttrBy
 repeat (any_goals (first | assumption | with_reducible refine L0.at ?_ | with_reducible refine L1.at ?_ | with_reducible refine L2.at ?_ | rw[hv2] | wp_step))
 refine Ka (s:=⟨h,g,d,t+1,os⟩) xi X I ?_
 repeat (any_goals (first | assumption | rw[hv2] | wp_step))
theorem G1 (xi:XI K C):PySem.W.KitX K (.ref x) (.ref C) (ExcAt x C) where
 ty:=λ_ _ _ ⟨_,_,I⟩=>I.type
 it:=λ_ _ X _=>by
  obtain⟨cd,hc⟩:=Option.isSome_iff_exists.mp xi.cls
  unfold clsIn at hc
  split at hc
  ·rename_i ho
   intro A' Q' E' s' k q
   unfold isType loadHead
   exact wpAny_bind (wpAny_loadPart (k _ _ (X _ _ ho)) (wpAny_pure q))
  ·cases hc
 ne:=λh tp dd its n sl X htp=>by
  obtain⟨cd,hc⟩:=Option.isSome_iff_exists.mp xi.cls
  refine Bool.eq_false_iff.mpr λq=>?_
  cases (Value.ref.inj (beq_iff_eq.mp q):C=tp)
  unfold clsIn at hc
  split at hc
  ·rename_i ho
   cases (X _ _ ho).symm.trans htp
  ·cases hc
 ca:=λX ⟨_,_,I⟩ k=>JV xi X I k
theorem Zq {s:Shared}{Q:Value->Shared->Prop}{c:Value}{b:Bool}(xi:XI K C)(X:K.In s.heap)(I:ExcAt x C s.heap)(z:kitOne K (.ref C) c=some b)(h:∀tk,Q (.bool b) { s with toks:=tk }) :
  wpAny (model prog w) A (call (.builtin "isinstance") [.ref x,c]) Q E s :=
 PySem.W.kia_one (G1 xi) X I z (λz=>nomatch z) h
end
def rIsB (ea:Addr)(dd:Option Addr)(fd:Str)(M2:Addr)(b:Bool):List V->Hp->VK->Prop:=λxs H Q=>xs=[.ref ea,.ref M2]/\(dd=none∨∃dx v,dd=some dx/\H dx=some (.xd [(fd,v)]))/\Q (.bl b) H
theorem VL {X:Cx}{C ea M2:Addr}{oe:Obj}{fd:Str}{dd:Option Addr}{b:Bool}(xi:XI X.K C)(hpn:(ea,oe)∈X.pn)(hc:oe.cls=.ref C)(hd:oe.dict=dd)(hf:∃fs,oe.data=.fields fs)(z:kitOne X.K (.ref C) (.ref M2)=some b):CallR X (.builtin "isinstance") (rIsB ea dd fd M2 b):=by
 intro pins s σ H xs us Q I r h
 obtain⟨rfl,hdd,q⟩:=h
 cases r with
 | @cons _ u1 _ _ r1 r2=>
 cases r2 with
 | @cons _ u2 _ _ r3 r4=>
 cases r4
 obtain rfl:u1=Value.ref ea:=r1
 obtain rfl:u2=Value.ref M2:=r3
 obtain⟨fs,hf⟩:=hf
 have he:=(I.pin (ea,oe) (List.mem_append_left _ hpn)).1
 have hn:PySem.W.notCls oe=true:=by unfold PySem.W.notCls;rw[hf]
 have IA:ExcAt ea C s.heap:=by
  rcases hdd with e0 | ⟨dx,v,e1,e2⟩
  ·exact⟨oe,none,he,hc,hn,by rw[hd,e0];trivial⟩
  ·obtain⟨mA,hm,_⟩:=I.hok dx _ e2
   obtain⟨o,_,_,ho,_⟩:=hm.ns
   exact⟨oe,some o,he,hc,hn,by rw[hd,e1];exact ho⟩
 exact Zq xi I.kIn IA z λtk=>⟨.bl b,H,I.tok tk,rfl,q⟩
end L6
namespace Dv
open PySem PySem.Spec L2 L3 L4 L6
open PyProof.Rows hiding St
theorem K2 {X:Cx}{C M2:Addr}{fd n x:Str}{ie:Nat}{p2 p3 pI pC:Pos}{b:Bool}(xi:XI X.K C)(z:kitOne X.K (.ref C) (.ref M2)=some b)(hgI:Gl X "isinstance") (hmI:X.mg "isinstance" = none) (hg:Gl X x) (hm:X.mg x=some (.ref M2)) (hi:X.N[ie]?=some n) (hl:X.env.scope.names.lookup n=some .local)
  (d3:(n==("__debug__" : Str))=false:=by decide +kernel) (d4:(n==("__classdict__" : Str))=false:=by decide +kernel) (hdb:(x==("__debug__" : Str))=false:=by decide +kernel)
  (he:starEach [.Name n p2,.Name x p3] X.env=(false,eval (.Name n p2) X.env)::starEach [.Name x p3] X.env:=by rfl) (he2:starEach [.Name x p3] X.env=(false,eval (.Name x p3) X.env)::starEach [] X.env:=by rfl) (hpl:(backTo pC (starEach [.Name x p3] X.env)).any (·.1)=false:=by rfl) :
  ItOk X C ie fd (.Call (.Name "isinstance" pI) [.Name n p2,.Name x p3] [] pC) (.isx b):=λea oe dd hc hd hf=>
 zm (jA (X:=cxE X ea [(ea,oe)]) (VL (fd:=fd) (b:=b) xi (List.mem_append_left _ (.head _)) hc hd hf z) hgI hmI (by decide +kernel) (zM (xt hi (.inl hl) d3 d4) (zM (uR hg hm (v:=.ref M2) rfl hdb) yd he2) he) (by decide) (by decide) he hpl) λσ H Q ⟨e1,ed,q⟩=>⟨_,e1,rfl,ed,q⟩
section
variable {X:Cx}{elts:List Expr}{tk:Nat}{tpos p pos:Pos}{a:Expr}{B:Bs}{hb:Hp->Hp}{gi:EnvD->Option (List D)}
end
structure Exc0 (K:PySem.W.Frag)(mg:Str->Option Value)(CT HE:Addr)(xT xH:Str)(oth:List (Str×Bool)):Prop where
 xc:XC0 K CT
 xi:XI K CT
 xm:XM K CT CT
 xmH:XM K CT HE
 z:kitOne K (.ref CT) (.ref HE)=some true
 zT:kitOne K (.ref CT) (.ref CT)=some true
 mT:mg xT=some (.ref CT)
 mH:mg xH=some (.ref HE)
 oth:∀q∈oth,∃M,mg q.1=some (.ref M)/\kitOne K (.ref CT) (.ref M)=some q.2
section
variable {X:Cx}{B:Bs}{ca:Str->Addr}{fd:Str}{E:St->XK}{pos:Pos}{tg iter elt:Expr}{ifs:List Expr}{scope:Scope}{own:List Str}{cap:List (Str×Nat)}{t:Tgt}{tc:EnvD->Option Bool}{ge:EnvD->Option D}{gx:EnvD->Option Xv}{gi:EnvD->Option (List D)}
end
end Dv
namespace Dv
open PySem PySem.Spec L2 L3 L4
open PyProof.Rows hiding St
section
variable {X:Cx}{B:Bs}{a e o:Expr}{es:List Expr}{pos p apos cpos:Pos}{g go:EnvD->Option D}{gs:EnvD->Option (List D)}
end
section
variable {ρ:EnvD}{g go:EnvD->Option D}{gs:EnvD->Option (List D)}{gj:EnvD->Option Str}
end
section
variable {X:Cx}{B:Bs}{tg iter:Expr}{pos:Pos}{gi:EnvD->Option (List D)}
end
section
variable {K:KW}{B:Bs}{F H:Hp}{σ:St}{ρ:EnvD}
end
section
variable {X:Cx}{B:Bs}{tg e ck c re:Expr}{es:List Expr}{x y nm:Str}{pos p2 p3 p4 p5 ip rp apos cpos:Pos}{id:String}{r:V->List V->Hp->VK->Prop}{f:List D->List D->Option (List D)}{gs:EnvD->Option (List D)}{dd:List D}{gt:EnvD->Option Bool}{ge:EnvD->Option D}
end
open L6
section
variable {X:Cx}{B:Bs}{e a b o:Expr}{es:List Expr}{pos p cpos:Pos}{gts:EnvD->Option (List OT)}{gp:EnvD->Option (List Nat)}{ga gb:EnvD->Option D}
end
section
variable {X:Cx}{B:Bs}{ca:Str->Addr}{fd x:Str}{id:String}{E:St->XK}{pos p:Pos}{e:Expr}{es:List Expr}{k n:Nat}{g:EnvD->Option Xv}{gd:EnvD->Option D}{gx:EnvD->Option En}{m:List En->Option En}
end
theorem qy {α:Type}{P:α->Prop}:∀q∈([]:List α),P q:=λ_ h=>nomatch h
theorem Yq {α:Type}{P:α->Prop}{a:α}{l:List α}(h:P a)(r:∀q∈l,P q):∀q∈a::l,P q:=List.forall_mem_cons.mpr ⟨h,r⟩
theorem Pd.ext {K:KW}{F H F' H':Hp}{fd:Str}{dd:Option Addr}{q:Option D}(e:Ext F H F' H')(h:Pd K F H fd dd q):Pd K F' H' fd dd q:=by
 cases q with
 |none=>exact h
 |some d=>obtain⟨dx,v,e1,e2,e3⟩:=h;exact⟨dx,v,e1,e.hh _ _ e2,e3.mono e.ff⟩
def hasE (ie:Option Nat)(ea:Addr)(σ:St):Prop:=match ie with
 |some k=>σ[k]?=some (some (.ref ea))
 |none=>True
abbrev Jt:=Option D->Option D
def jtsD (q:Option D):List Jt->Option (List D)
 | []=>some []
 |f::r=>(f q).bind λd=>(jtsD q r).map (d::·)
def lCJ (K:KW)(ie:Option Nat)(ea:Addr)(dd:Option Addr)(fd:Str)(f:Jt):TE:=λσ H Q=>hasE ie ea σ/\∃F q d,Same F H/\Pd K F H fd dd q/\f q=some d/\∀v F' H',Ext F H F' H'->Rp K F' d v->Q v H'
def lCJs (K:KW)(ie:Option Nat)(ea:Addr)(dd:Option Addr)(fd:Str)(fs:List Jt):TA:=λσ H Q=>hasE ie ea σ/\∃F q ds,Same F H/\Pd K F H fd dd q/\jtsD q fs=some ds/\∀vs F' H',Ext F H F' H'->Rps K F' ds vs->Q vs H'
def JtOk (X:Cx)(C:Addr)(ie:Option Nat)(fd:Str)(e:Expr)(f:Jt):Prop:=∀ea oe dd,oe.cls=.ref C->oe.dict=dd->(∃fs,oe.data=.fields fs)->PE (cxE X ea [(ea,oe)]) e (lCJ X.kw ie ea dd fd f)
def JtsOk (X:Cx)(C:Addr)(ie:Option Nat)(fd:Str)(es:List Expr)(fs:List Jt):Prop:=∀ea oe dd,oe.cls=.ref C->oe.dict=dd->(∃fs,oe.data=.fields fs)->PA (cxE X ea [(ea,oe)]) es (lCJs X.kw ie ea dd fd fs)
def jIs (b:Bool):Jt:=λ_=>some (.bl b)
section
variable {X:Cx}{B:Bs}{C HE fI M2 MC:Addr}{ca:Str->Addr}{fd n x y:Str}{ie:Option Nat}{i k:Nat}{pos p p2 p3 pI pC pB lpos:Pos}{e:Expr}{es:List Expr}{f:Jt}{fs:List Jt}{b:Bool}
theorem Vo {it:It}(h:ItOk X C k fd e it):JtOk X C (some k) fd e (λq=>itD q it):=λea oe dd h1 h2 h3=>zm (h ea oe dd h1 h2 h3) λσ H Q ⟨h1,F,q,d,s,pd,hf,kk⟩=>UJ h1 pd hf λv hv=>kk v F H (.refl s) hv
theorem QD (h:ItOk X C k fd e (.isx b)):JtOk X C (some k) fd e (jIs b):=Vo h
end
structure Cl where
 ie:Option Nat
 its:List (Str×List Jt)
inductive CsOk (X:Cx) (ca:Str->Addr) (fd:Str) (i:Nat):List ExceptHandler->List Cl->Prop
 |nil:CsOk X ca fd i [] []
 |as {xM n fx:Str} {MC:Addr} {ie:Nat} {its:List (Str×List Jt)} {es:List Expr} {rest:List ExceptHandler} {cls:List Cl} {pM hpos pF lpos epos:Pos} (hg:Gl X xM) (hm:X.mg xM=some (.ref MC)) (hdb:(xM==("__debug__" : Str))=false)
   (hie:X.N[ie]?=some n) (hl:X.env.scope.names.lookup n=some .local) (hit:∀q∈its,JtsOk X (ca q.1) (some ie) fd es q.2) (hx:∀q∈its,XM X.K (ca q.1) MC) (hn:∀c∈cls,∀q∈c.its,XN X.K (ca q.1) MC)
   (hi:X.N[i]?=some fx) (hiL:Loc X.env.scope fx) (hif:X.fn fx=true∨X.env.scope.names.lookup fx=some .local) (hs:swapsWith (.List es lpos) (some (.Name fx pF)) epos.line X.env=pure false) (hr:CsOk X ca fd i rest cls) :
   CsOk X ca fd i (.ExceptHandler (some (.Name xM pM)) (some n) [.Assign [.Name fx pF] (.List es lpos) epos] hpos::rest) (⟨some ie,its⟩::cls)
 |no {xM fx:Str} {MC:Addr} {its:List (Str×List Jt)} {es:List Expr} {rest:List ExceptHandler} {cls:List Cl} {pM hpos pF lpos epos:Pos} (hg:Gl X xM) (hm:X.mg xM=some (.ref MC)) (hdb:(xM==("__debug__" : Str))=false)
   (hit:∀q∈its,JtsOk X (ca q.1) none fd es q.2) (hx:∀q∈its,XM X.K (ca q.1) MC) (hn:∀c∈cls,∀q∈c.its,XN X.K (ca q.1) MC)
   (hi:X.N[i]?=some fx) (hiL:Loc X.env.scope fx) (hif:X.fn fx=true∨X.env.scope.names.lookup fx=some .local) (hs:swapsWith (.List es lpos) (some (.Name fx pF)) epos.line X.env=pure false) (hr:CsOk X ca fd i rest cls) :
   CsOk X ca fd i (.ExceptHandler (some (.Name xM pM)) none [.Assign [.Name fx pF] (.List es lpos) epos] hpos::rest) (⟨none,its⟩::cls)
theorem xV {α:Type}{nm:Str}{v:α}:∀ {l:List (Str×α)},l.lookup nm=some v->(nm,v)∈l
 | [],h=>by cases h
 | (a,b)::r,h=>by
  rw[List.lookup_cons] at h
  split at h
  ·rename_i q
   cases h
   have:nm=a:=eq_of_beq q
   subst this
   exact .head _
  ·exact .tail _ (xV h)
section
variable {X:Cx}{B:Bs}{ca:Str->Addr}{fd:Str}{i:Nat}
variable {gs:SD}{gx:EnvD->Option (EnvD×Xv)}{body:List Stmt}{h0:ExceptHandler}{hs:List ExceptHandler}{cls:List Cl}{pos:Pos}
end
end Dv
namespace L6
open PySem PySem.Spec L2 L3 L4
open PyProof.Rows hiding St
def calmA (A:Around):Around:={ A with handled:=none }
def PinOk (outer:List Env)(s:Shared)(H:Hp)(pn:List (Addr×Obj)):Prop:=∀p∈pn,s.heap.get? p.1=some p.2/\H p.1=none/\p.1∉frs outer/\∀v,p.2.data≠.cell v
abbrev SpE:=List (Addr×Obj)->List V->Hp->VK->Prop
structure FnE (P:Program)(w:World)(K:PySem.W.Frag)(mg:Str->Option Value)(base:Heap)(k:Nat)(f:Addr)(fd:FuncData)(ps:List Str)(sp:SpE):Prop where
 len:∀pn vs H Q,sp pn vs H Q->vs.length=ps.length
 run:∀(A:Around) (outer:List Env) (s:Shared) (H:Hp) (args:Args) (us:List Value) (vs:List V) (Q:VK) (pn:List (Addr×Obj)),Room k (calmA A)->Env0 P w K mg base A outer s H->BindsTo s fd args (ps.zip us)->Vals vs us->PinOk outer s H pn->sp pn vs H Q ->
  codeAny (model P w) A (.call (.ref f) args) (CR CX0 outer P w H s Q (λ_ _ _=>False)) s
section
variable {P:Program}{w:World}{K:PySem.W.Frag}{mg:Str->Option Value}{base:Heap}{N ps:List Str}{qual name:Str}{scope:Scope}{f:Addr}{cdv:Value}{A:Around}{outer:List Env}{s s1:Shared}{H:Hp}{us:List Value}{vs:List V}{E:XK}{pn:List (Addr×Obj)}
end
section
variable {X:Cx}{k:Nat}{f:Addr}{fd:FuncData}{ps:List Str}{sp:SpE}{x:Str}{p pos:Pos}{e:Expr}{es:List Expr}{t:TA}{ea:Addr}{oe:Obj}
end
def rIsT (ea:Addr)(dd:Option Addr)(fd:Str)(T:String)(b:Bool):List V->Hp->VK->Prop:=λxs H Q=>xs=[.ref ea,.ty T]/\(dd=none∨∃dx v,dd=some dx/\H dx=some (.xd [(fd,v)]))/\Q (.bl b) H
theorem WG {X:Cx}{C ea:Addr}{T:String}{oe:Obj}{fd:Str}{dd:Option Addr}{b:Bool}(xi:XI X.K C)(hpn:(ea,oe)∈X.pn)(hc:oe.cls=.ref C)(hd:oe.dict=dd)(hf:∃fs,oe.data=.fields fs)(z:kitOne X.K (.ref C) (.type T)=some b):CallR X (.builtin "isinstance") (rIsT ea dd fd T b):=by
 intro pins s σ H xs us Q I r h
 obtain⟨rfl,hdd,q⟩:=h
 cases r with
 | @cons _ u1 _ _ r1 r2=>
 cases r2 with
 | @cons _ u2 _ _ r3 r4=>
 cases r4
 obtain rfl:u1=Value.ref ea:=r1
 obtain rfl:u2=Value.type T:=r3
 obtain⟨fs,hf⟩:=hf
 have he:=(I.pin (ea,oe) (List.mem_append_left _ hpn)).1
 have hn:PySem.W.notCls oe=true:=by unfold PySem.W.notCls;rw[hf]
 have IA:ExcAt ea C s.heap:=by
  rcases hdd with e0 | ⟨dx,v,e1,e2⟩
  ·exact⟨oe,none,he,hc,hn,by rw[hd,e0];trivial⟩
  ·obtain⟨mA,hm,_⟩:=I.hok dx _ e2
   obtain⟨o,_,_,ho,_⟩:=hm.ns
   exact⟨oe,some o,he,hc,hn,by rw[hd,e1];exact ho⟩
 exact Zq xi I.kIn IA z λtk=>⟨.bl b,H,I.tok tk,rfl,q⟩
end L6
namespace Dv
open PySem PySem.Spec L2 L3 L4 L6
open PyProof.Rows hiding St
def kitF (K:PySem.W.Frag)(C:Addr)(isx:Nat->Bool):Nat->List Value->Prop
 |_,[]=>True
 |j,v::vs=>kitOne K (.ref C) v=some (isx j)/\kitF K C isx (j+1) vs
structure ExAt (K:PySem.W.Frag)(fd:Str)(ea C:Addr)(oe:Obj)(H:Hp):Prop where
 xi:XI K C
 cls:oe.cls=.ref C
 flds:∃fs,oe.data=.fields fs
 dic:oe.dict=none∨∃dx v,oe.dict=some dx/\H dx=some (.xd [(fd,v)])
def eSp (K:KW)(fd:Str)(tab:List Value)(m:Addr->(Nat->Bool)->List En->Option En):SpE:=λpn vs H Q=>
 ∃ea oe C isx F d,pn=[(ea,oe)]/\vs=[.ref ea]/\ExAt K fd ea C oe H/\kitF K C isx 0 tab/\Same F H/\m ea isx [.exn ea]=some (.val d)/\∀v F' H',Ext F H F' H'->Rp K F' d v->Q v H'
structure Ex1 (P:Program)(w:World)(K:PySem.W.Frag)(mg:Str->Option Value)(base:Heap)(fd:Str)(tab:List Value)(x:Str)(k:Nat)(m:Addr->(Nat->Bool)->List En->Option En):Prop where
 ex:∃f f0 ps,FnE P w K mg base k f f0 ps (eSp ⟨K,w⟩ fd tab m)/\mg x=some (.ref f)/\keepIn K (.ref f)=true/\Binds K f0 ps []
section
variable {P:Program}{w:World}{K:PySem.W.Frag}{mg:Str->Option Value}{base:Heap}
end
section
variable {X:Cx}{B:Bs}{C ea M2:Addr}{oe:Obj}{fd n x:Str}{i:Nat}{p2 p3 pI pC:Pos}{b:Bool}{T:String}
end
section
variable {X:Cx}{C:Addr}{fd n x:Str}{k kk:Nat}{p p2 pos:Pos}{tab:List Value}{m:Addr->(Nat->Bool)->List En->Option En}{isx:Nat->Bool}
end
section
variable {X:Cx}{B:Bs}{ca:Str->Addr}{fd:Str}{E:St->XK}{pos cpos:Pos}{a b c:Expr}{sa sb rest:List Stmt}{op:CmpOp}{g:EnvD->Option Xv}
end
inductive SuV (X:Cx) (C:Addr) (ie:Option Nat) (fd:Str):List Stmt->List (Nat×Jt)->Prop
 |nil:SuV X C ie fd [] []
 |cons {fx:Str} {e:Expr} {f:Jt} {i:Nat} {pF epos:Pos} {rest:List Stmt} {l:List (Nat×Jt)} (h:JtOk X C ie fd e f) (hi:X.N[i]?=some fx) (hiL:Loc X.env.scope fx) (hif:X.fn fx=true∨X.env.scope.names.lookup fx=some .local)
   (hs:swapsWith e (some (.Name fx pF)) epos.line X.env=pure false) (hr:SuV X C ie fd rest l):SuV X C ie fd (.Assign [.Name fx pF] e epos::rest) ((i,f)::l)
def tSu (K:KW)(ie:Option Nat)(ea:Addr)(dd:Option Addr)(fd:Str):List (Nat×Jt)->TS
 | []=>λD σ H=>D.nx σ H
 | (i,f)::l=>λD σ H=>lCJ K ie ea dd fd f σ H λv H1=>tSu K ie ea dd fd l D (σ.set i (some v)) H1
section
variable {X:Cx}{B:Bs}{C:Addr}{ie:Option Nat}{ca:Str->Addr}{fd:Str}
theorem kG (hN:X.N.Nodup):∀ {suite:List Stmt} {l:List (Nat×Jt)},SuV X C ie fd suite l->∀ea oe dd,oe.cls=.ref C->oe.dict=dd->(∃fs,oe.data=.fields fs)->PSs (cxE X ea [(ea,oe)]) suite (tSu X.kw ie ea dd fd l)
 |_,_,.nil,_,_,_,_,_,_=>pss_imp Yf λ_ _ _ q=>q
 |_,_,.cons h hi hiL hif hs hr,ea,oe,dd,h1,h2,h3=>pss_imp (yi (y0 (X:=cxE X ea [(ea,oe)]) hN hi hiL (h ea oe dd h1 h2 h3) hs hif) (kG hN hr ea oe dd h1 h2 h3)) λ_ _ _ q=>q
def suD (q:Option D)(ie:Option Nat):List (Nat×Jt)->EnvD->Option EnvD
 | [],ρ=>some ρ
 | (i,f)::l,ρ=>if ie≠some i then (f q).bind λd=>suD q ie l (ρ.set i (some (.val d))) else none
theorem qL {K:KW}{ea:Addr}{dd:Option Addr}{q:Option D}{D:Ends}:∀ {l:List (Nat×Jt)} {ρ ρ':EnvD} {σ:St} {F H:Hp},Rep K B F σ H ρ->hasE ie ea σ->Pd K F H fd dd q->suD q ie l ρ=some ρ' ->
  (∀σ2 F2 H2,Rep K B F2 σ2 H2 ρ'->Same F F2->D.nx σ2 H2)->tSu K ie ea dd fd l D σ H
 | [],ρ,ρ',σ,F,H,r,_,_,hs,k=>by cases hs;exact k σ F H r (Same.refl _)
 | (i,f)::l,ρ,ρ',σ,F,H,r,hh,pd,hs,k=>by
  unfold suD at hs
  split at hs
  ·rename_i hne
   cases q1:f q with
   |none=>rw[q1] at hs;cases hs
   |some d=>
    rw[q1,Option.bind_some] at hs
    refine⟨hh,F,q,d,r.fh,pd,q1,λv F1 H1 e1 p1=>qL ((r.ext e1).setv p1) ?_ (pd.ext e1) hs λσ2 F2 H2 r2 s2=>k σ2 F2 H2 r2 (e1.ff.trans s2)⟩
    cases ie with
    |none=>trivial
    |some kk=>
     show (σ.set i (some v))[kk]?=some (some (.ref ea))
     rw[List.getElem?_set_ne (λz=>hne (by rw[z]))]
     exact hh
  ·cases hs
theorem kL {q:Option D}{k:Nat}:∀ {l:List (Nat×Jt)} {ρ ρ':EnvD},suD q (some k) l ρ=some ρ'->ρ'[k]?=ρ[k]?
 | [],ρ,ρ',hs=>by cases hs;rfl
 | (i,f)::l,ρ,ρ',hs=>by
  unfold suD at hs
  split at hs
  ·rename_i hne
   cases q1:f q with
   |none=>rw[q1] at hs;cases hs
   |some d=>
    rw[q1,Option.bind_some] at hs
    rw[kL hs,List.getElem?_set_ne (λz=>hne (by rw[z]))]
  ·cases hs
theorem Ua {K:KW}{F:Hp}{σ:St}{H:Hp}{ρ:EnvD}{i:Nat}{u:Option V}(r:Rep K B F σ H ρ)(h:∀x,ρ[i]?≠some (some x)):Rep K B F (σ.set i u) H ρ:=by
 have ne:∀ {j:Nat} {x:En},ρ[j]?=some (some x)->j≠i:=fun {j x} e z=>by subst z;exact h x e
 refine⟨r.ex,by simp[r.len],λj x e=>?_,λj l y z v w e1 e2 s1 s2 hne=>?_⟩
 ·obtain⟨v,h1,h2⟩:=r.ents j x e
  exact⟨v,by rw[List.getElem?_set_ne (Ne.symm (ne e))];exact h1,h2⟩
 ·rw[List.getElem?_set_ne (Ne.symm (ne e1))] at s1
  rw[List.getElem?_set_ne (Ne.symm (ne e2))] at s2
  exact r.dj j l y z v w e1 e2 s1 s2 hne
end
structure ClV where
 ie:Option Nat
 its:List (Str×List (Nat×Jt))
def pickV:List ClV->Str->Option (Option Nat×List (Nat×Jt))
 | [],_=>none
 |c::r,nm=>match c.its.lookup nm with
  |some l=>some (c.ie,l)
  |none=>pickV r nm
theorem qA {nm:Str}{c:Option Nat×List (Nat×Jt)}:∀ {cls:List ClV},pickV cls nm=some c->∃d∈cls,d.ie=c.1/\(nm,c.2)∈d.its
 | [],h=>by cases h
 |d::r,h=>by
  unfold pickV at h
  split at h
  ·rename_i l q
   cases h
   exact⟨d,.head _,rfl,xV q⟩
  ·obtain⟨d',h1,h2⟩:=qA h
   exact⟨d',.tail _ h1,h2⟩
inductive CvOk (X:Cx) (ca:Str->Addr) (fd:Str):List ExceptHandler->List ClV->Prop
 |nil:CvOk X ca fd [] []
 |as {xM n:Str} {MC:Addr} {ie:Nat} {its:List (Str×List (Nat×Jt))} {b0:Stmt} {suite:List Stmt} {rest:List ExceptHandler} {cls:List ClV} {pM hpos:Pos} (hg:Gl X xM) (hm:X.mg xM=some (.ref MC)) (hdb:(xM==("__debug__" : Str))=false)
   (hie:X.N[ie]?=some n) (hl:X.env.scope.names.lookup n=some .local) (hit:∀q∈its,SuV X (ca q.1) (some ie) fd (b0::suite) q.2) (hx:∀q∈its,XM X.K (ca q.1) MC) (hn:∀c∈cls,∀q∈c.its,XN X.K (ca q.1) MC) (hr:CvOk X ca fd rest cls) :
   CvOk X ca fd (.ExceptHandler (some (.Name xM pM)) (some n) (b0::suite) hpos::rest) (⟨some ie,its⟩::cls)
 |no {xM:Str} {MC:Addr} {its:List (Str×List (Nat×Jt))} {b0:Stmt} {suite:List Stmt} {rest:List ExceptHandler} {cls:List ClV} {pM hpos:Pos} (hg:Gl X xM) (hm:X.mg xM=some (.ref MC)) (hdb:(xM==("__debug__" : Str))=false)
   (hit:∀q∈its,SuV X (ca q.1) none fd (b0::suite) q.2) (hx:∀q∈its,XM X.K (ca q.1) MC) (hn:∀c∈cls,∀q∈c.its,XN X.K (ca q.1) MC) (hr:CvOk X ca fd rest cls) :
   CvOk X ca fd (.ExceptHandler (some (.Name xM pM)) none (b0::suite) hpos::rest) (⟨none,its⟩::cls)
def vWish (K:KW)(fd:Str)(c:Option Nat×List (Nat×Jt))(D:Ends)(σ':St)(dd:Option Addr)(H':Hp):Prop:=∀ea,H' ea=none->match c.1 with
 |some k=>tSu K (some k) ea dd fd c.2 { nx:=λσ2 H2=>D.nx (σ2.set k none) H2,rt:=λ_ _=>False } (σ'.set k (some (.ref ea))) H'
 |none=>tSu K none ea dd fd c.2 { nx:=D.nx,rt:=λ_ _=>False } σ' H'
section
variable {X:Cx}{B:Bs}{ca:Str->Addr}{fd:Str}
theorem qI (hN:X.N.Nodup):∀ {hs:List ExceptHandler} {cls:List ClV},CvOk X ca fd hs cls->∃hds,HsOk X hs hds/\∀ {nm:Str} {c:Option Nat×List (Nat×Jt)} {D:Ends} {σ':St} {dd:Option Addr} {H':Hp},pickV cls nm=some c->vWish X.kw fd c D σ' dd H'->hWish X.K hds D σ' (.ref (ca nm)) dd H'
 |_,_,.nil=>⟨[],.nil,λh=>by cases h⟩
 |_,_,@CvOk.as _ _ _ xM n MC ie its b0 suite rest cls pM hpos hg hm hdb hie hl hit hx hn hr=>by
  obtain⟨hds,h1,h2⟩:=qI hN hr
  refine⟨⟨MC,some ie,λea C dd D σ H=>∃q∈its,C=ca q.1/\tSu X.kw (some ie) ea dd fd q.2 D σ H⟩::hds,.as hg hm hdb hie hl (λea oe C dd hc hd hf=>?_) h1,fun {nm c D σ' dd H'} hp hw=>?_⟩
  ·intro pins s σ H D I ⟨q,hq,hC,h⟩
   subst hC
   exact kG hN (hit q hq) ea oe dd hc hd hf pins s σ H D I h
  ·refine⟨ca nm,rfl,?_⟩
   unfold pickV at hp
   split at hp
   ·rename_i l q
    cases hp
    exact .inl ⟨hx (nm,l) (xV q),λea hea=>⟨(nm,l),xV q,rfl,hw ea hea⟩⟩
   ·obtain⟨d,e1,e2,e3⟩:=qA hp
    exact .inr ⟨hn d e1 (nm,c.2) e3,h2 hp hw⟩
 |_,_,@CvOk.no _ _ _ xM MC its b0 suite rest cls pM hpos hg hm hdb hit hx hn hr=>by
  obtain⟨hds,h1,h2⟩:=qI hN hr
  refine⟨⟨MC,none,λea C dd D σ H=>∃q∈its,C=ca q.1/\tSu X.kw none ea dd fd q.2 D σ H⟩::hds,.no hg hm hdb (λea oe C dd hc hd hf=>?_) h1,fun {nm c D σ' dd H'} hp hw=>?_⟩
  ·intro pins s σ H D I ⟨q,hq,hC,h⟩
   subst hC
   exact kG hN (hit q hq) ea oe dd hc hd hf pins s σ H D I h
  ·refine⟨ca nm,rfl,?_⟩
   unfold pickV at hp
   split at hp
   ·rename_i l q
    cases hp
    exact .inl ⟨hx (nm,l) (xV q),λea hea=>⟨(nm,l),xV q,rfl,hw ea hea⟩⟩
   ·obtain⟨d,e1,e2,e3⟩:=qA hp
    exact .inr ⟨hn d e1 (nm,c.2) e3,h2 hp hw⟩
def okV (ie:Option Nat)(ρ:EnvD):Bool:=match ie with
 |none=>true
 |some k=>unset (ρ[k]?)
def sTryV (cls:List ClV)(gs:SD)(gx:EnvD->Option (EnvD×Xv)):SD:=λρ=>match gs ρ with
 |some fl=>some fl
 |none=>(gx ρ).bind λq=>(pickV cls q.2.1).bind λc=>if okV c.1 q.1=true then (suD q.2.2 c.1 c.2 q.1).map .next else none
variable {gs:SD}{gx:EnvD->Option (EnvD×Xv)}{body:List Stmt}{h0:ExceptHandler}{hs:List ExceptHandler}{cls:List ClV}{pos:Pos}
theorem JK (h1:DSs X.nox B body gs)(h2:∀pn (E:St->XK),DVs (cxT X pn (WX X pn E)) B ca fd E body gx)(hN:X.N.Nodup)(hstk:X.stack=X.env::X.outer/\X.env.frame=some X.env.locals)(hc:CvOk X ca fd (h0::hs) cls) :
  DS X B (.Try body (h0::hs) [] [] pos) (sTryV cls gs gx):=by
 obtain⟨hds,hh,hw⟩:=qI hN hc
 refine zC (W6 (t1:=lS X.kw B gs) (t2:=λE _ σ H=>lVs X.kw B ca fd E gx σ H) h1 h2 hN hstk hh) λD σ H h=>?_
 refine Lq.el h λF ρ fl r hgg k=>?_
 unfold sTryV at hgg
 cases q1:gs ρ with
 |some f1=>
  rw[q1] at hgg
  have hgg:some f1=some fl:=hgg
  cases hgg
  exact .inl ⟨F,ρ,fl,r,q1,k⟩
 |none=>
  rw[q1] at hgg
  replace hgg:((gx ρ).bind λq=>(pickV cls q.2.1).bind λc=>if okV c.1 q.1=true then (suD q.2.2 c.1 c.2 q.1).map Fl.next else none)=some fl:=hgg
  obtain⟨q,q2,hgg⟩:=Option.bind_eq_some_iff.mp hgg
  obtain⟨c,q3,hgg⟩:=Option.bind_eq_some_iff.mp hgg
  split at hgg
  ·rename_i hok
   cases q4:suD q.2.2 c.1 c.2 q.1 with
   |none=>rw[q4] at hgg;cases hgg
   |some ρ'=>
    rw[q4] at hgg
    cases hgg
    refine .inr ⟨F,ρ,q,r,q2,λdd σ' F' H' r' s' pd=>hw q3 ?_⟩
    intro ea hea
    obtain⟨ie,fs⟩:=c
    cases ie with
    |none=>exact qL (D:={ nx:=D.nx,rt:=λ_ _=>False }) r' trivial pd q4 λσ2 F2 H2 r2 s2=>k σ2 F2 H2 r2 (s'.trans s2)
    |some kk=>
     have e4:q.1[kk]?=some none:=Vz hok
     have len:kk < σ'.length:=by rw[r'.len];exact (List.getElem?_eq_some_iff.mp e4).1
     have nx:∀x,q.1[kk]?≠some (some x):=λx z=>by rw[e4] at z;cases z
     refine qL (D:={ nx:=λσ2 H2=>D.nx (σ2.set kk none) H2,rt:=λ_ _=>False }) (Ua r' nx) (List.getElem?_set_self len) pd q4 λσ2 F2 H2 r2 s2=>?_
     refine k _ F2 H2 (QU r2 λx z=>?_) (s'.trans s2)
     rw[kL q4,e4] at z
     cases z
  ·cases hgg
end
section
variable {X:Cx}{pins:List (Addr×Obj)}{σ:St}{H:Hp}{s:Shared}
end
theorem JC {K:PySem.W.Frag}{C:Addr}{T:String}(h1:PySem.W.kitMeta T=true)(h3:subIn K (.ref C) (.type T)=some true):kitOne K (.ref C) (.type T)=some true:=by
 unfold kitOne
 split
 ·rfl
 ·unfold PySem.W.kitCls
  simp[h1,h3]
section
variable {X:Cx}{B:Bs}{pos:Pos}
end
section
variable {X:Cx}{B:Bs}{e a:Expr}{x:Str}{p p2 pos apos:Pos}{C M:Addr}{g:EnvD->Option D}
variable {mm:Str}{n k:Nat}{m:List En->Option En}{gxs:EnvD->Option (List En)}{o:Expr}{es:List Expr}
structure IO (K:PySem.W.Frag)(C:Addr):Prop where
 cl:Cls K C
 ha:findIn K (.ref C) "__class__" = some (some (.builtin "object.__class__"))
 hn:PySem.W.specialIn K (.builtin "object.__class__") "__get__" = some (some (.builtin "getset_descriptor.__get__"))
 htk:PySem.W.takesIn K (.builtin "object.__class__")=some true
 hm:PySem.W.mroIn K C (.type "object")=some true
end
structure BO (K:PySem.W.Frag)(V f:Addr):Prop where
 sp:PySem.W.specialIn K (.ref V) "__getattribute__" = some (some (.builtin "type.__getattribute__"))
 rd:PySem.W.readsIn K V (.type "type")=true
 fc:PySem.W.findCls K (.ref V) (.type "type") "__init__" = some (.val (.ref f))
 hn:PySem.W.handedIn (.ref f)=true
 kp:keepIn K (.ref f)=true
section
variable {X:Cx}{k:Nat}{f V:Addr}{fd:FuncData}{ps:List Str}{sp:Sp}{x:Str}{p pos apos:Pos}{e:Expr}{es:List Expr}{t:TA}
end
section
variable {K:KW}{B:Bs}{F H:Hp}{a dx C:Addr}{fs0:List (Str×V)}
end
section
variable {X:Cx}{B:Bs}{k n:Nat}{f V C:Addr}{fd:FuncData}{ps:List Str}{x y:Str}{p p2 pos apos cpos:Pos}{es:List Expr}{gs:EnvD->Option (List En)}{mi:Addr->Addr->List En->Option (List Str×List D)}
structure Bo (P:Program)(w:World)(K:PySem.W.Frag)(mg:Str->Option Value)(base:Heap)(V C:Addr)(k n:Nat)(mi:Addr->Addr->List En->Option (List Str×List D)):Prop where
 ex:∃f f0 ps,BO K V f/\FnOk P w K mg base CX0 k f f0 ps (iSp ⟨K,w⟩ C n mi)/\Binds K f0 ps []
end
end Dv
namespace L4
open PySem PySem.Spec L2 L3
open PyProof.Rows hiding St
end L4
namespace Dv
open PySem PySem.Spec L2 L3 L4 L6
open PyProof.Rows hiding St
section
variable {X:Cx}{B:Bs}{e:Expr}{pos p1 p2:Pos}{k:Str}{v:Int}{gk:EnvD->Option (List (Key×D))}
end
section
variable {X:Cx}{B:Bs}{e a o:Expr}{es:List Expr}{g:EnvD->Option OT}{ks:List Nat}{k:Nat}{pos p apos cpos:Pos}{nm:Str}{id:String}{r:V->List V->Hp->VK->Prop}{f:List D->List D->Option (List D)}{gs:EnvD->Option (List D)}
end
section
variable {X:Cx}{B:Bs}{e:Expr}{g:EnvD->Option D}{pos p2:Pos}
end
end Dv
namespace L4
open PySem PySem.Spec L2 L3
open PyProof.Rows hiding St
section
variable {X:Cx}
end
end L4
namespace Dv
open PySem PySem.Spec L2 L3 L4 L6
open PyProof.Rows hiding St
section
variable {X:Cx}{B:Bs}{e:Expr}{pos p:Pos}{gk:EnvD->Option (List (Key×D))}
end
def pB (K:KW)(B:Bs):Post En:=λ_ _ F' _ x v=>(∃d,x=.val d/\Rp K F' d v)∨∃ds a vs,x=.bor ds/\v=.ref a/\B.H0 a=some (.lst vs)/\Rps K F' ds vs
section
variable {X:Cx}{B:Bs}{e a b c:Expr}{pos pos':Pos}{x:Str}{i:Nat}{g:EnvD->Option D}{ga gb:EnvD->Option En}{ta:EnvD->Option Bool}
end
section
variable {X:Cx}{B:Bs}{o:Expr}{apos cpos pos:Pos}{i:Nat}{gp:EnvD->Option (List Nat)}
end
section
variable {K:KW}{B:Bs}{F H:Hp}
end
section
variable {X:Cx}{B:Bs}{e tg ck:Expr}{es:List Expr}{x:Str}{pos p p1 p2:Pos}{g:EnvD->Option OT}{gd:EnvD->Option D}{gs:EnvD->Option (List D)}
end
section
variable {X:Cx}{B:Bs}{C f:Addr}{e:Expr}{es:List Expr}{x y fl:Str}{pos p pos':Pos}{k n i:Nat}{fd:FuncData}{ps:List Str}{gxs:EnvD->Option (List En)}{g:EnvD->Option (List Str×List D)}{gd:EnvD->Option D}
end
section
variable {X:Cx}{C:Addr}{T:String}{fd n x:Str}{ie:Nat}{p2 p3 pI pC pos:Pos}{b b1 b2 b3:Bool}{e1 e2:Expr}
theorem VS (xi:XI X.K C)(z:kitOne X.K (.ref C) (.type T)=some b)(hgI:Gl X "isinstance") (hmI:X.mg "isinstance" = none) (hgT:Gl X x) (hmT:X.mg x=none) (hvT:bootBuiltins x=some (.type T)) (hi:X.N[ie]?=some n) (hl:X.env.scope.names.lookup n=some .local)
  (d3:(n==("__debug__" : Str))=false:=by decide +kernel) (d4:(n==("__classdict__" : Str))=false:=by decide +kernel) (hnT:x ≠ "__name__" := by decide) (hdT:(x==("__debug__" : Str))=false:=by decide)
  (he:starEach [.Name n p2,.Name x p3] X.env=(false,eval (.Name n p2) X.env)::starEach [.Name x p3] X.env:=by rfl) (he2:starEach [.Name x p3] X.env=(false,eval (.Name x p3) X.env)::starEach [] X.env:=by rfl) (hpl:(backTo pC (starEach [.Name x p3] X.env)).any (·.1)=false:=by rfl) :
  ItOk X C ie fd (.Call (.Name "isinstance" pI) [.Name n p2,.Name x p3] [] pC) (.isx b):=λea oe dd hc hd hf=>
 zm (jA (X:=cxE X ea [(ea,oe)]) (WG (fd:=fd) (b:=b) xi (List.mem_append_left _ (.head _)) hc hd hf z) hgI hmI (by decide +kernel) (zM (xt hi (.inl hl) d3 d4) (zM (uX hgT hmT hvT (v:=.ty T) rfl hnT hdT) yd he2) he) (by decide) (by decide) he hpl) λσ H Q ⟨e1,ed,q⟩=>⟨_,e1,rfl,ed,q⟩
theorem U3 (h1:ItOk X C ie fd e1 (.isx b1))(h2:ItOk X C ie fd e2 (.isx b2))(hb:(b1&&b2)=b3:=by rfl):ItOk X C ie fd (.BoolOp .And [e1,e2] pos) (.isx b3):=hb ▸ λea oe dd hc hd hf=>
 zm (Z5 (h1 ea oe dd hc hd hf) (u3 (h2 ea oe dd hc hd hf))) λσ H Q ⟨k1,k2,k3⟩=>by
  refine⟨k1,k2,b1,rfl,?_⟩
  cases b1 with
  |true=>exact⟨k1,k2,k3⟩
  |false=>exact k3
end
section
variable {X:Cx}{C:Addr}{fd:Str}{ie:Option Nat}{pos:Pos}{a b:Expr}{f g:Jt}
end
mutual
def MT.er:MT->Option D
 |.lf d=>some d
 |.lst ts=>(ers ts).map D.lst
 |.tup ts=>(ers ts).map D.tup
 |.obj C fs ts=>(ers ts).map (D.obj C fs)
 |.dct _ _=>none
def ers:List MT->Option (List D)
 | []=>some []
 |t::ts=>t.er.bind λd=>(ers ts).map (d::·)
end
section
variable {K:KW}{F H:Hp}
end
mutual
def flatO:OT->Bool
 |.frz d=>scal d
 |.lst ts=>flatOs ts
 |.tup ts=>flatOs ts
def flatOs:List OT->Bool
 | []=>true
 |t::ts=>flatO t&&flatOs ts
end
section
variable {X:Cx}{B:Bs}{e a b:Expr}{es:List Expr}{pos p:Pos}{gxs:EnvD->Option (List En)}{x:Str}{k n:Nat}{m:List En->Option En}{ga gb:EnvD->Option D}
end
structure RyM (P:Program)(w:World)(K:PySem.W.Frag)(mg:Str->Option Value)(base:Heap)(ca:Str->Addr)(fd:Str)(C:Addr)(mm:Str)(k n:Nat)(m:List En->Option Xv):Prop where
 ex:∃f f0 ps,FnOk P w K mg base (CX1 P w) k f f0 ps (ySp ⟨K,w⟩ ca fd n m)/\Meth K C mm f/\Binds K f0 ps []
section
variable {X:Cx}{B:Bs}{ca:Str->Addr}{fd mm:Str}{E:St->XK}{pos p apos:Pos}{e o:Expr}{es:List Expr}{k n:Nat}{g:EnvD->Option D}{gxs:EnvD->Option (List En)}{m:List En->Option Xv}{C:Addr}
end
end Dv
namespace L6
open PySem PySem.Spec L2 L3 L4
open PyProof.Rows hiding St
open Dv (exAt)
section
variable {X:Cx}{C HE fI:Addr}{fd x:Str}{pos p cpos:Pos}{a:Expr}{t:TA}{k:Nat}{f0:FuncData}{ps:List Str}
end
end L6
namespace Dv
open PySem PySem.Spec L2 L3 L4 L6
open PyProof.Rows hiding St
section
variable {X:Cx}{B:Bs}{C HE fI:Addr}{fd x:Str}{pos p cpos:Pos}{a:Expr}{k:Nat}{f0:FuncData}{ps:List Str}{g:EnvD->Option D}
end
end Dv
namespace L6
open PySem PySem.Spec L2 L3 L4
open PyProof.Rows hiding St
open Dv (exAt)
structure XF (K:PySem.W.Frag)(C:Addr)(fd:Str):Prop where
 sub:subIn K (.ref C) (.type "BaseException")=some true
 ga:findIn K (.ref C) "__getattribute__" = some (some (.builtin "BaseException.__getattribute__"))
 gt:findIn K (.ref C) "__getattr__" = some none
 na:findIn K (.ref C) fd=some none
 hd:hasDictIn K C=true
section
variable {X:Cx}{o:Expr}{fd:Str}{pos:Pos}{t:TE}
end
end L6
namespace Dv
open PySem PySem.Spec L2 L3 L4 L6
open PyProof.Rows hiding St
section
variable {X:Cx}{B:Bs}{a:Expr}{x fd:Str}{M2:Addr}{p3 pI pC pos p1 p2:Pos}{g:EnvD->Option D}{tab:List (Addr×Bool)}{T:String}{cls:List Addr}
end
end Dv
namespace L6
open PySem PySem.Spec L2 L3 L4
open PyProof.Rows hiding St
open Dv (exAt)
section
variable {X:Cx}{pins:List (Addr×Obj)}{σ:St}{H:Hp}{s:Shared}{h':Heap}{dx:Addr}{fs fs':List (Str×V)}{t':Nat}
end
section
variable {prog:Program}{w:World}{A:Around}{E:Value->Shared->Prop}{s:Shared}{K:PySem.W.Frag}{x dx C f:Addr}{mA:Str->Option Value}{name:Str}{v:Value}
end
section
variable {X:Cx}{C HE fI:Addr}{fd f1 f2 x:Str}{pos p apos pa pb pos':Pos}{a b c:Expr}{ta tb:TE}
end
section
variable {X:Cx}{C HE fI:Addr}{fd f1 f2 x:Str}{pos p cpos:Pos}{a b:Expr}{t:TA}{k:Nat}{f0:FuncData}{ps:List Str}
end
end L6
namespace Dv
open PySem PySem.Spec L2 L3 L4 L6
open PyProof.Rows hiding St
section
variable {X:Cx}{B:Bs}{C HE fI:Addr}{f1 f2 x:Str}{pos p cpos:Pos}{a b:Expr}{k:Nat}{f0:FuncData}{ps:List Str}{g g':EnvD->Option D}
end
end Dv
namespace L6
open PySem PySem.Spec L2 L3 L4
open PyProof.Rows hiding St
open Dv (exAt)
section
variable {X:Cx}{pins:List (Addr×Obj)}{σ:St}{H:Hp}{s:Shared}{ea:Addr}{oe:Obj}
theorem WL (I:Inv X pins σ H s)(o:Own X pins H ea)(he:s.heap.get? ea=some oe):Inv X pins σ (upd H ea (exAt ea oe)) s:=by
 obtain⟨o1,o2,o3,o4,o5,o6⟩:=o
 have ke:∀ {b:Addr} {u:HO},H b=some u->upd H ea (exAt ea oe) b=some u:=fun {b u} q=>by
  have:b≠ea:=λz=>by rw[z,o5] at q;cases q
  rw[zd this];exact q
 have u:=I.base
 refine⟨I.ok,I.os,I.bare,⟨u.keep,u.slot,λb o q n hx=>?_,u.there,λb xs q=>ke (u.tups b xs q),λb o xs q=>ke (u.frzs b o xs q),λb ps q=>?_⟩,I.loc,I.cell,?_,λx c q=>?_,λp hp=>?_,λa o q=>?_,I.len⟩
 ·rw[zd (Nat.ne_of_lt (Nat.lt_of_lt_of_le (Heap.lt_size q) o1))];exact u.free b o q n hx
 ·obtain⟨m,z⟩:=u.tbls b ps q
  exact⟨m,ke z⟩
 ·rw[zd (Ne.symm o2)];exact I.free
 ·rw[zd (o3 x c q)];exact I.freeC x c q
 ·obtain⟨a1,a2,a3⟩:=I.pin p hp
  exact⟨a1,by rw[zd (o4 p hp)];exact a2,a3⟩
 ·by_cases ha:a=ea
  ·subst ha
   rw[zi] at q
   cases q
   exact⟨he,⟨_,he⟩,λ_ _ p k=>k _ p⟩
  ·rw[zd ha] at q
   exact (I.hok a o q).stay (λb u _ z=>z) (λb z=>ke z) λb xs z=>ke z
end
section
variable {X:Cx}{pins:List (Addr×Obj)}{MC:Addr}{ie i:Nat}{xM n fx:Str}{pM hpos pos pF pN apos:Pos}{body:List Stmt}{t2:(St->XK)->TS}
end
end L6
namespace Dv
open PySem PySem.Spec L2 L3 L4 L6
open PyProof.Rows hiding St
section
variable {X:Cx}{B:Bs}{ca:Str->Addr}{fd:Str}{MC:Addr}{ie i:Nat}{xM n fx:Str}{pM hpos pos pF pN apos:Pos}{body:List Stmt}{gx:EnvD->Option (EnvD×Xv)}{nms:List Str}
end
structure RyK (P:Program)(w:World)(K:PySem.W.Frag)(mg:Str->Option Value)(base:Heap)(ca:Str->Addr)(fd:Str)(C:Addr)(x:Str)(k n:Nat)(m:List En->Option Xv):Prop where
 ex:∃f f0 ps,FnOk P w K mg base (CX1 P w) k f f0 ps (ySp ⟨K,w⟩ ca fd n m)/\Mk K C f/\mg x=some (.ref C)/\Binds K f0 ps []
section
variable {X:Cx}{B:Bs}{ca:Str->Addr}{fd x:Str}{E:St->XK}{pos p:Pos}{e:Expr}{es:List Expr}{k n:Nat}{gxs:EnvD->Option (List En)}{m:List En->Option Xv}{C:Addr}
end
end Dv
namespace L6
open PySem PySem.Spec L2 L3 L4
open PyProof.Rows hiding St
open Dv (exAt)
section
variable {X:Cx}{pins:List (Addr×Obj)}{σ:St}{H:Hp}{s:Shared}
theorem V6 {P:Addr}{ps more:Array Value}{h':Heap}{t':Nat}(I:Inv X pins σ H s)(hP:H P=some (.tbl ps))(k:∀b u,b≠P->s.heap.get? b=some u->h'.get? b=some u)(hp:h'.get? P=some { cls:=.none,data:=.fields (ps++more) }) :
  Inv X pins σ (upd H P (.tbl (ps++more))) { s with heap:=h',toks:=t' }:=by
 have hb:∀b,H b=none->b≠P:=λb n z=>by subst z;rw[n] at hP;cases hP
 have ho:∀b u,H b=some u->(∀gs,u≠.tbl gs)->b≠P:=λb u q n z=>by subst z;rw[q] at hP;cases hP;exact n _ rfl
 refine I.un ⟨λb u q n _ _=>k b u (hb b n) q,λb u q n _ _=>⟨u.slots,k b u (hb b n) q⟩,λb u q n _=>by rw[zd (hb b n)];exact n,λb u q _=>?_,λb xs q=>by rw[zd (ho b _ q λ_ z=>nomatch z)];exact q,λb u xs q=>by rw[zd (ho b _ q λ_ z=>nomatch z)];exact q,λb qs q=>?_⟩ λb u q=>?_
 ·by_cases hbe:b=P
  ·subst hbe;exact⟨_,hp⟩
  ·exact⟨u,k b u hbe q⟩
 ·by_cases hbe:b=P
  ·subst hbe
   rw[hP] at q;cases q
   exact⟨more,zi⟩
  ·exact⟨#[],by rw[zd hbe,q];simp⟩
 ·by_cases hbe:b=P
  ·subst hbe;rw[zi] at q;cases q;exact hp
  ·rw[zd hbe] at q
   refine (I.hok b u q).stay (λc v hc r=>k c v ?_ r) (λc r=>by rw[zd (ho c _ r λ_ z=>nomatch z)];exact r) λc xs r=>by rw[zd (ho c _ r λ_ z=>nomatch z)];exact r
   rcases hc with rfl | hc
   ·exact hbe
   ·exact ho c _ hc λ_ z=>nomatch z
end
def CodeObj (o:Obj)(q:Str):Prop:=∃vs t,o.data=.fields vs/\vs[1]?=some (.str q t)
theorem CodeObj.rec {h:Heap}{c:Addr}{o:Obj}{q:Str}(x:CodeObj o q)(e:h.get? c=some o):h.CodeRec (.ref c) q:=let ⟨vs,t,h1,h2⟩:=x;⟨c,o,vs,t,rfl,e,h1,h2⟩
section
variable {X:Cx}{name:Str}{args:Arguments}{body:List Stmt}{scope:Scope}{pos:Pos}{i:Nat}{c P:Addr}{clos:List (Str×Addr)}
abbrev fnO (name qual:Str)(args:Arguments)(body:List Stmt)(scope:Scope)(clos:List (Str×Addr))(doc pm cv ct:Value):Obj :=
 { cls:=.type "function",data:=.func (PySem.W.fnX name qual args body scope clos .none .none doc pm none cv ct) }
def sDef (i:Nat)(P:Addr)(pos:Pos)(name qual:Str)(args:Arguments)(body:List Stmt)(scope:Scope)(clos:List (Str×Addr)):TS:=λD σ H=>∃ps,H P=some (.tbl ps)/\TriplesOk ps.toList /\
  ((codeAmong pos ps.toList=none/\∀f c' oc doc pm ct,CodeObj oc qual->H f=none->H c'=none->c'≠f->f≠P->c'≠P->D.nx (σ.set i (some (.ref f))) (upd (upd (upd H P (.tbl (ps++#[rawInt pos.line,rawInt pos.col,.ref c']))) c' (exAt c' oc)) f (exAt f (fnO name qual args body scope clos doc pm (.ref c') ct)))) ∨
   (∃cv,codeAmong pos ps.toList=some cv/\∀f doc pm ct,H f=none->D.nx (σ.set i (some (.ref f))) (upd H f (exAt f (fnO name qual args body scope clos doc pm cv ct)))))
theorem jh {P:Program}{w:World}{H:Hp}{h:Heap}{a:Addr}{o:Obj}(q:h.get? a=some o):ObjOk P w H h a (exAt a o):=⟨q,⟨_,q⟩,λ_ _ p k=>k _ p⟩
theorem Jh (hN:X.N.Nodup)(hi:X.N[i]?=some name)(hx:Loc X.env.scope name)(hcode:X.env.code=.ref c)(C:∀h,X.K.In h->PySem.W.CodeHd h c P)(hgP:mainGlobals≠P)(hb:X.base.BuiltinsAt X.mg P)
  (hcl:closureFor scope X.env=pure clos) (hd:defaultsOf args X.env=([],[])) (han:annTrees args none X.env=[])
  (hf:X.fn name=true∨X.env.scope.names.lookup name=some .local:=by first | exact .inl rfl | exact .inr rfl | assumption) :
  PS X (.FunctionDef name args body [] none [] scope none name pos) (sDef i P pos name (qualnameIn X.env name name) args body scope clos):=by
 intro pins s σ H D I ⟨ps,hP,ht,q⟩
 rw[exec_def,hd,han]
 have hp:s.heap.get? P=some { cls:=.none,data:=.fields ps }:=I.hok P _ hP
 have hbs:s.heap.BuiltinsAt X.mg P:=let ⟨bm,o,h1,h2,h3,h4,h5,h6⟩:=hb;⟨bm,o,h1,h2,h3,h4,I.bk _ _ h5,h6⟩
 have hgl:s.heap.Ns mainGlobals X.mg:=let ⟨o,x,y,h1,h2⟩:=I.ok.mod.glob;⟨o,x,y,I.bk _ _ h1,h2⟩
 refine wpAny_bind (wpAny_standAt ?_)
 refine wpAny_bind (wpAny_holding ?_)
 show wpAny _ _ (makeFunction name (qualnameIn X.env name name) args (.stmts body) scope X.env [] [] [] pos pos.line) _ _ _
 rcases q with⟨hn,q⟩ | ⟨cv,hc,q⟩
 ·refine PySem.W.makeFunction_K hcl I.ok.glob hgl hcode (C _ I.kIn) hp ht hn hgP hbs λc' ctv doc h' tk hx' hge hlt hrec htb=>?_
  obtain⟨c0,oc,vs,t,e0,ho,hd1,hd2⟩:=hrec
  cases e0
  have hPs:P < s.heap.objs.size:=Heap.lt_size hp
  have hcP:c'≠P:=Nat.ne_of_gt (Nat.lt_of_lt_of_le hPs hge)
  have hfP:h'.objs.size≠P:=Nat.ne_of_gt (Nat.lt_trans (Nat.lt_of_lt_of_le hPs hge) hlt)
  have hcn:H c'=none:=I.hok.fresh hge
  have hfn:H h'.objs.size=none:=I.hok.fresh (Nat.le_trans hge (Nat.le_of_lt hlt))
  have I1:=V6 (t':=tk) I hP (λb u hne e=>hx' b u hne e) htb
  have o1:Own X pins (upd H P (.tbl (ps++#[rawInt pos.line,rawInt pos.col,.ref c']))) c':=wg I hge (by rw[zd hcP];exact hcn)
  have I2:=WL I1 o1 ho
  have I3:=I2.laid (a:=h'.objs.size) (o:=exAt h'.objs.size (fnO name (qualnameIn X.env name name) args body scope clos doc ((X.mg "__name__").getD .none) (.ref c') ctv)) (h':=h'.push (fnO name (qualnameIn X.env name name) args body scope clos doc ((X.mg "__name__").getD .none) (.ref c') ctv)) (t':=tk) (λb u e=>Heap.get?_push_of_some _ e) (Nat.le_refl _) (jh (Heap.get?_push_at rfl rfl))
  refine wpAny_bind (wpAny_standAt ?_)
  refine wpAny_bind (wpAny_bindName (wJ (v:=.ref h'.objs.size) I3 hN hi hx rfl (λs2 I4=>wpAny_pure ?_) hf))
  exact⟨_,_,I4,q _ _ oc _ _ _ ⟨vs,t,hd1,hd2⟩ hfn hcn (Nat.ne_of_lt hlt) hfP hcP⟩
 ·refine PySem.W.makeFunction_hit hcl I.ok.glob hgl hcode (C _ I.kIn) hp ht hc hbs λctv doc h' tk hk hsz=>?_
  have hfr:H h'.objs.size=none:=I.hok.fresh hsz
  have I2:=I.laid (a:=h'.objs.size) (o:=exAt h'.objs.size (fnO name (qualnameIn X.env name name) args body scope clos doc ((X.mg "__name__").getD .none) cv ctv)) (h':=h'.push (fnO name (qualnameIn X.env name name) args body scope clos doc ((X.mg "__name__").getD .none) cv ctv)) (t':=tk) (λb u e=>Heap.get?_push_of_some _ (hk b u e)) hsz (jh (Heap.get?_push_at rfl rfl))
  refine wpAny_bind (wpAny_standAt ?_)
  refine wpAny_bind (wpAny_bindName (wJ (v:=.ref h'.objs.size) I2 hN hi hx rfl (λs2 I3=>wpAny_pure ?_) hf))
  exact⟨_,_,I3,q _ _ _ _ hfr⟩
end
def cxClo (P:Program)(w:World)(K:PySem.W.Frag)(mg:Str->Option Value)(base:Heap)(N:List Str)(qual:Str)(scope:Scope)(f:Addr)(cd:Value)(cl:List (Str×Addr))(A:Around)(outer:List Env)(s:Shared)(H:Hp):Cx where
 prog:=P
 w:=w
 K:=K
 mg:=mg
 base:=base
 A:=A.deeper (PySem.W.envX qual scope s.heap.objs.size f cd cl)
 N:=N
 s₀:=s
 H₀:=H
 env:=PySem.W.envX qual scope s.heap.objs.size f cd cl
 outer:=outer
 stack:=PySem.W.envX qual scope s.heap.objs.size f cd cl::outer
 ex:=[]
 fn:=λx=>(cl.lookup x).isNone
 calm:=true
 pn:=[]
 xe:=λ_ _=>False
structure CloScope (p:Str)(fs:List Str)(cl:List (Str×Addr))(scope:Scope):Prop where
 kind:scope.kind=.function
 co:scope.isCoroutine=false
 gen:scope.isGenerator=false
 nd:(p::fs).Nodup
 nocell:∀x∈scope.names,x.2≠.cell
 par:scope.names.lookup p=some .local
 fre:∀x∈fs,scope.names.lookup x=some .free
 has:∀x,scope.names.lookup x=some .free->∃c,cl.lookup x=some c
 inj:∀x y c,cl.lookup x=some c->cl.lookup y=some c->x=y
def CellsHold (cl:List (Str×Addr))(h:Heap):List Str->List V->Prop
 | [],vs=>vs=[]
 |y::ys,vs=>∃c u v r,vs=v::r/\cl.lookup y=some c/\RelV v u/\h.IsCell c (some u)/\CellsHold cl h ys r
theorem CellsHold.get {cl:List (Str×Addr)}{h:Heap}:∀ {ys:List Str} {vs:List V} {i:Nat} {y:Str} {v:V},CellsHold cl h ys vs->ys[i]?=some y->vs[i]?=some v->∃c u,cl.lookup y=some c/\RelV v u/\h.IsCell c (some u)
 | [],_,_,_,_,_,e,_=>by simp at e
 |_::_,_,0,_,_,⟨c,u,v,r,e,h1,h2,h3,_⟩,e1,e2=>by
  subst e
  simp at e1 e2;subst e1 e2
  exact⟨c,u,h1,h2,h3⟩
 |_::_,_,i+1,_,_,⟨c,u,v,r,e,_,_,_,t⟩,e1,e2=>by
  subst e
  exact CellsHold.get (i:=i) t (by simpa using e1) (by simpa using e2)
theorem CellsHold.len {cl:List (Str×Addr)}{h:Heap}:∀ {ys:List Str} {vs:List V},CellsHold cl h ys vs->vs.length=ys.length
 | [],_,h=>by cases h;rfl
 |_::_,_,⟨_,_,_,_,e,_,_,_,t⟩=>by subst e;simp[CellsHold.len t]
section
variable {P:Program}{w:World}{K:PySem.W.Frag}{mg:Str->Option Value}{base:Heap}{p qual:Str}{fs:List Str}{scope:Scope}{f:Addr}{cd:Value}{cl:List (Str×Addr)}{A:Around}{outer:List Env}{s:Shared}{H:Hp}{u:Value}{v:V}{ws:List V}{h1:Heap}{tk:Nat}
theorem KA (S:CloScope p fs cl scope)(hd:A.handled=none)(e0:Env0 P w K mg base A outer s H)(r:RelV v u)(hc:CellsHold cl s.heap fs ws)(hno:∀x c,cl.lookup x=some c->H c=none)(hcell:∀x c,cl.lookup x=some c->∃z,s.heap.IsCell c z)
  (hns:h1.Ns s.heap.objs.size (λx=>[(p,u)].reverse.lookup x)) (hk:∀b o,s.heap.get? b=some o->h1.get? b=some o) :
  Inv (cxClo P w K mg base (p::fs) qual scope f cd cl A outer s H) [] (some v::ws.map some) H { s with heap:=h1,toks:=tk }:=by
 have noA:∀b:Addr,b∉(cxClo P w K mg base (p::fs) qual scope f cd cl A outer s H).ex:=λb z=>absurd (show b∈([]:List Addr) from z) (by simp)
 refine⟨⟨e0.mod,S.kind,rfl,rfl,Nat.le_refl _,λy z c h1 h2=>S.inj y z c h1 h2,λy hy=>?_,λy c hf h=>?_,λ_=>hd,Around.frames_deeper e0.frames,.inr ⟨rfl,rfl⟩,λb z=>absurd z (noA b),e0.bs,e0.bsz,λb _ _=>noA b,λb z=>absurd z (noA b),e0.funs,e0.frf⟩,
  rfl,e0.bare,Un.kept hk,⟨_,hns,λi y v' q1 q2 q3=>?_⟩,λy c h=>?_,e0.hok.fresh (Nat.le_refl _),λy c h=>hno y c h,λp hp=>absurd (show p∈([]:List (Addr×Obj)) from hp) (by simp),e0.hok.kept hk,?_⟩
 ·have hy:scope.names.lookup y=some .cell∨scope.names.lookup y=some .free:=hy
  rcases hy with hy | hy
  ·exact absurd rfl (S.nocell _ (PySem.mem_of_lookup hy))
  ·exact S.has y hy
 ·have hf:(cl.lookup y).isNone=true:=hf
  have h:cl.lookup y=some c:=h
  rw[h] at hf;cases hf
 ·cases i with
  |zero=>
   have q1:some p=some y:=q1
   have q2:some (some v)=some (some v'):=q2
   cases q1;cases q2
   exact⟨u,r,.inl ⟨S.par,by simp⟩⟩
  |succ i=>
   have q1:fs[i]?=some y:=q1
   have q2:(ws.map some)[i]?=some (some v'):=q2
   rw[List.getElem?_map] at q2
   cases e:ws[i]? with
   |none=>rw[e] at q2;cases q2
   |some v2=>
    rw[e] at q2;cases q2
    obtain⟨c,u',g1,g2,g3⟩:=hc.get q1 e
    exact⟨u',g2,.inr ⟨.inr (S.fre y (List.mem_of_getElem? q1)),c,g1,g3.keeps hk⟩⟩
 ·obtain⟨z,hz⟩:=hcell y c h
  exact⟨z,hz.keeps hk⟩
 ·show (some v::ws.map some).length=(p::fs).length
  simp[hc.len]
end
section
variable {X:Cx}{pins:List (Addr×Obj)}{σ σ':St}{H H':Hp}{s s':Shared}{c:Addr}{o:Obj}{φ:Heap->Prop}
theorem Yz (I:Inv X pins σ H s)(hc:H c=some (.ext φ))(I':Inv X pins σ' H' s')(n:H' c=none)(he:s'.heap.get? c=some o):Inv X pins σ' (upd H' c (exAt c o)) s':=by
 have ke:∀ {b:Addr} {u:HO},H' b=some u->upd H' c (exAt c o) b=some u:=fun {b u} q=>by
  have:b≠c:=λz=>by rw[z,n] at q;cases q
  rw[zd this];exact q
 have ne:∀ {b:Addr},H b=none->b≠c:=fun {b} q z=>by rw[z,hc] at q;cases q
 have u:=I'.base
 refine⟨I'.ok,I'.os,I'.bare,⟨u.keep,u.slot,λb ob q n0 hx=>?_,u.there,λb xs q=>ke (u.tups b xs q),λb ob xs q=>ke (u.frzs b ob xs q),λb ps q=>?_⟩,I'.loc,I'.cell,?_,λx d q=>?_,λp hp=>?_,λa ob q=>?_,I'.len⟩
 ·rw[zd (ne (I.base.free b ob q n0 hx))];exact u.free b ob q n0 hx
 ·obtain⟨m,z⟩:=u.tbls b ps q
  exact⟨m,ke z⟩
 ·rw[zd (ne I.free)];exact I'.free
 ·rw[zd (ne (I.freeC x d q))];exact I'.freeC x d q
 ·obtain⟨a1,a2,a3⟩:=I'.pin p hp
  exact⟨a1,by rw[zd (ne (I.pin p hp).2.1)];exact a2,a3⟩
 ·by_cases ha:a=c
  ·subst ha
   rw[zi] at q
   cases q
   exact jh he
  ·rw[zd ha] at q
   exact (I'.hok a ob q).stay (λb u _ z=>z) (λb z=>ke z) λb xs z=>ke z
end
section
variable {X:Cx}{pins:List (Addr×Obj)}{σ:St}{H:Hp}{s:Shared}{k:Nat}{p y1 y2 nm qual:Str}{c1 c2 f c':Addr}{o1 o2 oc:Obj}{w1 w2 v:V}{u u1 u2 doc pm ct:Value}{args:Arguments}{body:List Stmt}{scope:Scope}{Q:VK}
theorem Gh (S:CloScope p [y1,y2] [(y1,c1),(y2,c2)] scope)(I:Inv X pins σ H s)(hr:Room (k+1) X.A)(hf:H f=some (exAt f (fnO nm qual args body scope [(y1,c1),(y2,c2)] doc pm (.ref c') ct)))(hcd:H c'=some (exAt c' oc))(hoc:CodeObj oc qual)
  (h1:H c1=some (exAt c1 o1)) (d1:o1.data=.cell (some u1)) (r1:RelV w1 u1) (h2:H c2=some (exAt c2 o2)) (d2:o2.data=.cell (some u2)) (r2:RelV w2 u2) (h12:c1≠c2) (hy:(y2==y1)=false) (r:RelV v u)
  (hbind:BindsTo s (PySem.W.fnX nm qual args body scope [(y1,c1),(y2,c2)] .none .none doc pm none (.ref c') ct) ⟨[u],[]⟩ [(p,u)])
  (hbody:Room k (X.A.deeper (PySem.W.envX qual scope s.heap.objs.size f (.ref c') [(y1,c1),(y2,c2)]))->∃t,PSs (cxClo X.prog X.w X.K X.mg X.base [p,y1,y2] qual scope f (.ref c') [(y1,c1),(y2,c2)] X.A X.stack s (del (del H c1) c2)) body t /\
   t { nx:=λ_ H'=>Q .non (upd (upd H' c1 (exAt c1 o1)) c2 (exAt c2 o2)),rt:=λv' H'=>Q v' (upd (upd H' c1 (exAt c1 o1)) c2 (exAt c2 o2)) } [some v,some w1,some w2] (del (del H c1) c2)) :
  wpAny (model X.prog X.w) X.A (call (.ref f) [u]) (EP X pins σ Q) X.xe s:=by
 have e1:s.heap.get? c1=some o1:=(show ObjOk X.prog X.w H s.heap c1 (exAt c1 o1) from I.hok c1 _ h1).1
 have e2:s.heap.get? c2=some o2:=(show ObjOk X.prog X.w H s.heap c2 (exAt c2 o2) from I.hok c2 _ h2).1
 have ef:=(show ObjOk X.prog X.w H s.heap f (exAt f _) from I.hok f _ hf).1
 have ec:s.heap.get? c'=some oc:=(show ObjOk X.prog X.w H s.heap c' (exAt c' oc) from I.hok c' _ hcd).1
 have I1:Inv X pins σ (del H c1) s:=jC I h1
 have I2:Inv X pins σ (del (del H c1) c2) s:=jC I1 (by rw[zv (Ne.symm h12)];exact h2)
 have n1:del (del H c1) c2 c1=none:=by rw[zv h12];exact yr
 have n2:del (del H c1) c2 c2=none:=yr
 have lk1:List.lookup y1 [(y1,c1),(y2,c2)]=some c1:=by simp[List.lookup]
 have lk2:List.lookup y2 [(y1,c1),(y2,c2)]=some c2:=by simp[List.lookup,hy]
 have lkb:∀x d,List.lookup x [(y1,c1),(y2,c2)]=some d->d=c1∨d=c2:=λx d h=>by
  rw[List.lookup_cons] at h
  split at h
  ·cases h;exact .inl rfl
  ·rw[List.lookup_cons] at h
   split at h
   ·cases h;exact .inr rfl
   ·cases h
 obtain⟨t,ht,hq⟩:=hbody (hr.deeper _)
 have lim:s.heap.NoLimit:=I.ok.mod.nolimit.keeps λb o e=>I.bk b o e
 refine wpAny_call (codeAny_call_def (fd:=PySem.W.fnX nm qual args body scope [(y1,c1),(y2,c2)] .none .none doc pm none (.ref c') ct) (body:=body) (binds:=[(p,u)]) hr.depth ef rfl lim (hoc.rec ec) rfl hbind S.nocell (λx hx=>by rw[List.mem_singleton.mp hx];exact S.par) (λh0 hns hk=>?_) S.co S.gen S.kind)
 have J:=KA (qual:=qual) (f:=f) (cd:=.ref c') (tk:=s.toks+1) S hr.hd I2.env0 r ⟨c1,u1,w1,[w2],rfl,lk1,r1,⟨o1,e1,d1⟩,c2,u2,w2,[],rfl,lk2,r2,⟨o2,e2,d2⟩,rfl⟩ (λx d h=>(lkb x d h).elim (λz=>by rw[z];exact n1) λz=>by rw[z];exact n2) (λx d h=>(lkb x d h).elim (λz=>by rw[z];exact⟨_,o1,e1,d1⟩) λz=>by rw[z];exact⟨_,o2,e2,d2⟩) hns hk
 refine wpAny_mono (ht [] _ _ _ _ J hq) (λfl s' hs=>?_) λe s' z=>z.elim
 have fin:∀ {σ':St} {H':Hp} {v':V} {u':Value},Inv (cxClo X.prog X.w X.K X.mg X.base [p,y1,y2] qual scope f (.ref c') [(y1,c1),(y2,c2)] X.A X.stack s (del (del H c1) c2)) [] σ' H' s'->RelV v' u'->Q v' (upd (upd H' c1 (exAt c1 o1)) c2 (exAt c2 o2))->EP X pins σ Q u' s':=fun {σ' H' v' u'} J' rv q=>by
  have g1:s'.heap.get? c1=some o1:=J'.base.keep c1 o1 e1 n1 (λz=>by have:=I.stkFree c1 z;rw[h1] at this;cases this) (by intro z;cases z)
  have g2:s'.heap.get? c2=some o2:=J'.base.keep c2 o2 e2 n2 (λz=>by have:=I.stkFree c2 z;rw[h2] at this;cases this) (by intro z;cases z)
  have m1:H' c1=none:=J'.base.free c1 o1 e1 n1 (by intro z;cases z)
  have m2:H' c2=none:=J'.base.free c2 o2 e2 n2 (by intro z;cases z)
  obtain⟨v2,H2,I3,rv2,ev,eH⟩:=I2.after (Q:=λa b=>a=v'/\b=H') ⟨v',H',J'.os,J'.bare,J'.base,J'.hok,rv,rfl,rfl⟩
  subst ev eH
  have I4:=Yz I h1 I3 m1 g1
  have I5:=Yz I h2 I4 (by rw[zd (Ne.symm h12)];exact m2) g2
  exact⟨_,_,I5,rv2,q⟩
 cases fl with
 |ret u'=>
  obtain⟨v',σ',H',J',rv,q⟩:=hs
  exact fin J' rv q
 |next=>
  obtain⟨σ',H',J',q⟩:=hs
  exact fin (v':=V.non) (u':=Value.none) J' rfl q
 |brk=>obtain⟨_,_,_,q⟩:=hs;exact q.elim
 |cont=>obtain⟨_,_,_,q⟩:=hs;exact q.elim
end
structure Inn where
 nm:Str
 qual:Str
 args:Arguments
 body:List Stmt
 scope:Scope
 p:Str
 y1:Str
 y2:Str
def CloH (T:Inn)(H:Hp)(f a1 a2:Addr):Prop:=∃c1 c2 c' o1 o2 oc doc pm ct,H f=some (exAt f (fnO T.nm T.qual T.args T.body T.scope [(T.y1,c1),(T.y2,c2)] doc pm (.ref c') ct))/\H c'=some (exAt c' oc)/\CodeObj oc T.qual /\
 H c1=some (exAt c1 o1)/\o1.data=.cell (some (.ref a2))/\H c2=some (exAt c2 o2)/\o2.data=.cell (some (.ref a1))/\c1≠c2
theorem CloH.mono {T:Inn}{H H':Hp}{f a1 a2:Addr}(s:Same H H')(h:CloH T H f a1 a2):CloH T H' f a1 a2:=by
 obtain⟨c1,c2,c',o1,o2,oc,doc,pm,ct,h1,h2,h3,h4,h5,h6,h7,h8⟩:=h
 exact⟨c1,c2,c',o1,o2,oc,doc,pm,ct,s _ _ h1,s _ _ h2,h3,s _ _ h4,h5,s _ _ h6,h7,h8⟩
def tTell (w:World):TS:=λD σ H=>∃x a1 a2 ws ob kvs v,σ=[some (.str x),some (.ref a2),some (.ref a1)]/\H a1=some (.lst ws)/\ws.length < sizeLine/\H a2=some (DX w a2 ob kvs)/\valV kvs (.inr x)=some v/\D.rt v (upd H a1 (.lst (ws++[.str x])))
structure InnOk (T:Inn)(P:Program)(w:World)(K:PySem.W.Frag)(mg:Str->Option Value)(base:Heap):Prop where
 bind:∀clos doc pm c' ct u,bindArgs (PySem.W.fnX T.nm T.qual T.args T.body T.scope clos .none .none doc pm none c' ct) ⟨[u],[]⟩=pure [(T.p,u)]
 sc:∀c1 c2,c1≠c2->CloScope T.p [T.y1,T.y2] [(T.y1,c1),(T.y2,c2)] T.scope
 ne:(T.y2==T.y1)=false
 body:∀f c' c1 c2 A outer s H,PSs (cxClo P w K mg base [T.p,T.y1,T.y2] T.qual T.scope f (.ref c') [(T.y1,c1),(T.y2,c2)] A outer s H) T.body (tTell w)
def rAsk (T:Inn)(w:World)(f:Addr)(Q:VK):VK:=λy H1=>∃x a1 a2 ws ob kvs v,y=.str x/\CloH T H1 f a1 a2/\H1 a1=some (.lst ws)/\ws.length < sizeLine /\
 H1 a2=some (DX w a2 ob kvs)/\valV kvs (.inr x)=some v/\Q v (upd H1 a1 (.lst (ws++[.str x])))
def tAsk (T:Inn)(w:World)(ir:Nat)(te:TE):TE:=λσ H Q=>∃f,σ[ir]?=some (some (.ref f))/\te σ H (rAsk T w f Q)
section
variable {X:Cx}{T:Inn}{ir k:Nat}{rn:Str}{e:Expr}{te:TE}{p pos:Pos}
theorem Q7 (W:InnOk T X.prog X.w X.K X.mg X.base)(hr:Room (k+1) X.A)(hy:PE X (.Name rn p) (tVar ir))(ha:PE X e te)
  (he:starEach [e] X.env=(false,eval e X.env)::starEach [] X.env:=by rfl) (hpl:(backTo pos (starEach [] X.env)).any (·.1)=false:=by rfl):PE X (.Call (.Name rn p) [e] [] pos) (tAsk T X.w ir te):=by
 intro pins s σ H Q I ⟨f,hf,h⟩
 refine wpAny_Call_Name_kw (thn (hy pins s σ H (λv H1=>v=.ref f/\te σ H1 (rAsk T X.w f Q)) I ⟨.ref f,hf,rfl,h⟩) λu s1 ⟨v,H1,I1,rv,e1,q⟩=>?_)
 subst e1
 obtain rfl:u=Value.ref f:=rv
 have hp:=(zM ha yd he) pos pins s1 σ H1 (λvs H2=>match vs with
  | [y]=>rAsk T X.w f Q y H2
  |_=>False) I1 q
 rw[he] at hp ⊢
 refine PySem.W.callWith_of (P:=λh=>∃o fd,h.get? f=some o/\o.data=.func fd) (by show ((false||(backTo pos (starEach [] X.env)).any (·.1))||false)=false;rw[hpl];rfl) (λh ⟨o,fd,q1,q2⟩=>?_) (PySem.Calls.evalArgs_plain ?_)
 ·obtain⟨oc,od,odt,osl⟩:=o
  obtain rfl:odt=.func fd:=q2
  exact⟨.frame,.inl rfl,(PySem.W.Looks.ld (part:=none) q1).andThen .now⟩
 ·refine wpAny_mono hp (λus s2 ⟨vs,H2,I2,rv,hq⟩=>?_) λ_ _ z=>z
  dsimp only at hq
  split at hq
  ·rename_i y
   obtain⟨u,rfl,ru⟩:=vals1 rv
   obtain⟨x,a1,a2,ws,ob,kvs,v,ey,hc,h1,hl,h2,hv,hq⟩:=hq
   subst ey
   obtain⟨c1,c2,c',o1,o2,oc,doc,pm,ct,g1,g2,g3,g4,g5,g6,g7,g8⟩:=hc
   have ef:=(show ObjOk X.prog X.w H2 s2.heap f (exAt f _) from I2.hok f _ g1).1
   refine⟨⟨_,_,ef,rfl⟩,?_⟩
   have n1:a1≠c1:=λz=>by rw[z,g4] at h1;cases h1
   have n2:a1≠c2:=λz=>by rw[z,g6] at h1;cases h1
   have m0:∀ {c:Addr} {o:Obj} {z:Option Value},H2 c=some (exAt c o)->o.data=.cell z->a2≠c:=fun {c o z} q1 q2 ez=>by
    subst ez
    obtain⟨e1,_,_,_,_,e2,_⟩:=vw I2 h2
    have e3:s2.heap.get? a2=some o:=(show ObjOk X.prog X.w H2 s2.heap a2 (exAt a2 o) from I2.hok a2 _ q1).1
    rw[e1] at e3;cases e3
    obtain⟨_,_,_,e4,_⟩:=e2
    rw[q2] at e4;cases e4
   have m1:=m0 g4 g5
   have m2:=m0 g6 g7
   refine Gh (w1:=.ref a2) (w2:=.ref a1) (W.sc c1 c2 g8) I2 hr g1 g2 g3 g4 g5 rfl g6 g7 rfl g8 W.ne ru (.of_eq (W.bind _ _ _ _ _ _)) λhk=>⟨_,W.body _ _ _ _ _ _ _ _,x,a1,a2,ws,ob,kvs,v,rfl,?_,hl,?_,hv,?_⟩
   ·rw[zv n2,zv n1];exact h1
   ·rw[zv m2,zv m1];exact h2
   ·show Q v _
    have:upd (upd (upd (del (del H2 c1) c2) a1 (.lst (ws++[.str x]))) c1 (exAt c1 o1)) c2 (exAt c2 o2)=upd H2 a1 (.lst (ws++[.str x])):=by
     funext b
     by_cases hb2:b=c2
     ·subst hb2;rw[zi,zd (Ne.symm n2),g6]
     ·rw[zd hb2]
      by_cases hb1:b=c1
      ·subst hb1;rw[zi,zd (Ne.symm n1),g4]
      ·rw[zd hb1]
       by_cases hb:b=a1
       ·subst hb;rw[zi,zi]
       ·rw[zd hb,zd hb,zv hb2,zv hb1]
    rw[this];exact hq
  ·exact hq.elim
end
end L6
namespace Dv
open PySem PySem.Spec L2 L3 L4 L6
open PyProof.Rows hiding St
theorem WY {X:Cx}{pins:List (Addr×Obj)}{σ:St}{H:Hp}{s:Shared}(I:Inv X pins σ H s){i:Nat}{x:Str}(hi:X.N[i]?=some x)(hx:¬Vis X.env.scope x)(v:V):Inv X pins (σ.set i (some v)) H s:=by
 obtain⟨m,h1,h2⟩:=I.loc
 refine⟨I.ok,I.os,I.bare,I.base,⟨m,h1,λj y u q1 q2 q3=>?_⟩,I.cell,I.free,I.freeC,I.pin,I.hok,by simp[I.len]⟩
 rcases zZ q2 with⟨rfl,_,_⟩ | ⟨hj,q⟩
 ·rw[hi] at q1;cases q1;exact absurd q3 hx
 ·exact h2 j y u q1 q q3
theorem vm {X:Cx}{sts:List Stmt}{t:TS}{i:Nat}{x:Str}(hi:X.N[i]?=some x)(hx:¬Vis X.env.scope x)(v:V)(h:PSs X sts t):PSs X sts λD σ H=>t D (σ.set i (some v)) H :=
 λpins s σ H D I q=>h pins s _ H D (WY I hi hx v) q
theorem uQ {K:KW}{F H:Hp}{σ:St}{ρ:EnvD}{a:Addr}{z:Lo}{i:Nat}(r:Rep K ⟨F,without H a⟩ F σ (without H a) ρ)(fh:Same F H)(fa:F a=none)(h:RL K F H a z):Rep K ⟨F,without H a⟩ F (σ.set i (some (.ref a))) H (ρ.set i (some (.loc (some a) z))):=by
 have e:Ext F (without H a) F H:=⟨Same.refl _,ZT,fh,λ_ h=>.inl h⟩
 refine (r.ext e).seto ⟨a,rfl,fa,wZ,h,λb q=>by cases q;rfl⟩ λj y w h1 h2 hj b hb hc=>?_
 simp only[feetE,List.mem_singleton] at hb
 subst hb
 obtain⟨w',q1,q2⟩:=r.ents j y h1
 rw[h2] at q1;cases q1
 rw[q2.feet_ext e.hh] at hc
 exact (q2.feet_at hc).1 wZ
def lRt (K:KW)(B:Bs)(g:EnvD->Option (EnvD×D)):TS:=λE σ H=>Lq K B g σ H λF ρ q=>∀v σ' F' H',Rep K B F' σ' H' q.1->Same F F'->Rp K F' q.2 v->E.rt v H'
def DRt (X:Cx)(B:Bs)(sts:List Stmt)(g:EnvD->Option (EnvD×D)):Prop:=PSs X sts (lRt X.kw B g)
section
variable {X:Cx}{B:Bs}{st:Stmt}{rest:List Stmt}{gs:SD}{g:EnvD->Option D}{h2:EnvD->Option (EnvD×D)}{e:Expr}{pos:Pos}
def tSqR (gs:SD)(h:EnvD->Option (EnvD×D)):EnvD->Option (EnvD×D):=λρ=>match gs ρ with
 |some (.next ρ')=>h ρ'
 |_=>none
theorem yk (d1:DS X B st gs)(d2:DRt X B rest h2):DRt X B (st::rest) (tSqR gs h2) :=
 pss_imp (yi d1 d2) λD σ H zz=>zz.el λF ρ q r hg k=>by
  unfold tSqR at hg
  split at hg
  ·rename_i ρ' q1
   exact⟨F,ρ,_,r,q1,λσ' F' H' r' s'=>⟨F',ρ',q,r',hg,λv σ2 F2 H2 r2 s2 p2=>k v σ2 F2 H2 r2 (s'.trans s2) p2⟩⟩
  ·cases hg
def tFrR (i:Nat)(h:EnvD->Option (EnvD×D)):EnvD->Option (EnvD×D):=λρ=>h (frzE i ρ)
theorem qP (i:Nat)(h:DRt X B rest h2):DRt X B rest (tFrR i h2):=pss_imp h λE σ H zz=>zz.el λF ρ fl r hg k=>by
 obtain⟨F',s',r'⟩:=r.frz i
 exact⟨F',_,fl,r',hg,λv σ2 F2 H2 r2 s2 p2=>k v σ2 F2 H2 r2 (s'.trans s2) p2⟩
def tRtR (g:EnvD->Option D):EnvD->Option (EnvD×D):=λρ=>(g ρ).map λd=>(ρ,d)
theorem qO (h:DE X B e g):DRt X B (.Return (some e) pos::rest) (tRtR g) :=
 pss_imp (yi (vj h) (u:=λ_ _ _=>False) λ_ _ _ _ _ _ z=>z.elim) λD σ H zz=>zz.el λF ρ q r hg k=>by
  unfold tRtR at hg
  cases q1:g ρ with
  |none=>rw[q1] at hg;cases hg
  |some d=>
   rw[q1] at hg
   cases hg
   exact⟨F,ρ,d,r,q1,λv F' H' e1 p1=>k v σ F' H' (r.ext e1) e1.ff p1⟩
end
structure CloB (T:Inn)(K:KW)(B:Bs)(f a1:Addr)(kvs:List (Key×D)):Prop where
 ex:∃a2 ob ws,CloH T B.H0 f a1 a2/\B.H0 a2=some (DX K.w a2 ob ws)/\Rkv K B.F0 kvs ws
def sAsk (f a1:Addr)(kvs:List (Key×D))(i ir id:Nat)(g:EnvD->Option D):SD:=λρ=>match ρ[ir]?,ρ[id]? with
 |some (some (.exn b)),some (some (.loc (some c) (.lst ds)))=>if b=f/\c=a1/\ds.length<=TOP then (g ρ).bind λd=>match d with
  |.str x=>(lookD kvs (.inr x)).map λd'=>.next ((ρ.set id (some (.loc (some a1) (.lst (ds++[.str x]))))).set i (some (.val d')))
  |_=>none
  else none
 |_,_=>none
section
variable {X:Cx}{B:Bs}{T:Inn}{f a1:Addr}{kvs:List (Key×D)}{i ir id k:Nat}{rn tn:Str}{e:Expr}{g:EnvD->Option D}{p q1 pos apos:Pos}
theorem jS (cb:CloB T X.kw B f a1 kvs)(W:InnOk T X.prog X.w X.K X.mg X.base)(hr:Room (k+1) X.A)(hy:PE X (.Name rn p) (tVar ir))(ha:DE X B e g)(hN:X.N.Nodup)(hi:X.N[i]?=some tn)(hx:Loc X.env.scope tn)
  (he:starEach [e] X.env=(false,eval e X.env)::starEach [] X.env:=by rfl) (hpl:(backTo pos (starEach [] X.env)).any (·.1)=false:=by rfl)
  (hs:swapsWith (.Call (.Name rn p) [e] [] pos) (some (.Name tn q1)) apos.line X.env=pure false:=by rfl) (hf:X.fn tn=true∨X.env.scope.names.lookup tn=some .local:=by first | exact .inl rfl | exact .inr rfl | assumption) :
  DS X B (.Assign [.Name tn q1] (.Call (.Name rn p) [e] [] pos) apos) (sAsk f a1 kvs i ir id g) :=
 zC (y0 hN hi hx (Q7 W hr hy ha he hpl) hs hf) λE σ H zz=>zz.el λF ρ fl r hg kk=>by
  unfold sAsk at hg
  split at hg
  ·rename_i b c ds q0 qd
   split at hg
   ·rename_i hc
    obtain⟨rfl,rfl,hl⟩:=hc
    cases q2:g ρ with
    |none=>rw[q2] at hg;cases hg
    |some d=>
     rw[q2,Option.bind_some] at hg
     split at hg
     ·rename_i x
      cases q3:lookD kvs (.inr x) with
      |none=>rw[q3] at hg;cases hg
      |some d'=>
       rw[q3] at hg
       cases hg
       obtain⟨v0,s0,e0⟩:=r.ents ir _ q0
       obtain rfl:v0=.ref b:=e0
       refine⟨b,s0,F,ρ,_,r,q2,λw F1 H1 e1 p1=>?_⟩
       obtain rfl:w=.str x:=p1
       have r1:=r.ext e1
       obtain⟨v1,s1,a,rfl,g2,g3,⟨ws,g4,g5⟩,g6⟩:=r1.ents id _ qd
       have hca:=g6 c rfl
       subst hca
       obtain⟨a2,ob,kw,c1,c2,c3⟩:=cb.ex
       obtain⟨v,hv,rv⟩:∃v,valV kw (.inr x)=some v/\Rp X.kw F1 d' v:=by
        rcases (c3.mono r1.ex.ff).look (.inr x) with⟨z,_⟩ | ⟨d2,v,z1,z2,z3⟩
        ·rw[q3] at z;cases z
        ·rw[q3] at z1;cases z1;exact⟨v,z2,z3⟩
       refine⟨x,c,a2,ws,ob,kw,v,rfl,c1.mono r1.ex.hh,g4,uK (by rw[<-g5.length];exact hl),r1.ex.hh _ _ c2,hv,?_⟩
       have r2:=r1.write (o:=.lst (ws++[.str x])) (y:=.loc (some c) (.lst (ds++[.str x]))) qd rfl s1 g2 g3 ⟨c,rfl,g2,g3,⟨_,zi,g5.snoc (d:=.str x) (v:=.str x) rfl⟩,λb q=>by cases q;rfl⟩ rfl
       exact kk _ F1 _ (r2.setv rv) e1.ff
     ·cases hg
   ·cases hg
  ·cases hg
end
def kHd (K:KW)(T:Inn)(n:Nat)(vs:List V)(H F:Hp)(xs:List En)(f a1:Addr)(kvs:List (Key×D))(asked:List D):Prop :=
 ∃a2 ob kws ws,Same F H/\F a1=none/\H a1=some (.lst ws)/\Rps K F asked ws/\CloH T H f a1 a2/\H a2=some (DX K.w a2 ob kws)/\Rkv K F kvs kws/\xs.length=n/\Paired (λx v=>ArgE K F (without H a1) x v) xs vs
def kSp (K:KW)(T:Inn)(n:Nat)(m:Addr->Addr->List (Key×D)->List D->List En->Option (D×List D)):Sp:=λvs H Q _=>
 ∃F xs f a1 kvs asked q,kHd K T n vs H F xs f a1 kvs asked/\m f a1 kvs asked xs=some q /\
  ∀v F' H' ws',Ext F (without H a1) F' H'->F' a1=none->H' a1=some (.lst ws')->Rps K F' q.2 ws'->Rp K F' q.1 v->Q v H'
def kySp (K:KW)(T:Inn)(ca:Str->Addr)(fd:Str)(n:Nat)(m:Addr->Addr->List (Key×D)->List D->List En->Option (Xv×List D)):Sp:=λvs H _ E=>
 ∃F xs f a1 kvs asked q,kHd K T n vs H F xs f a1 kvs asked/\m f a1 kvs asked xs=some q /\
  ∀dd F' H' ws',Ext F (without H a1) F' H'->F' a1=none->H' a1=some (.lst ws')->Rps K F' q.2 ws'->Pd K F' H' fd dd q.1.2->E (.ref (ca q.1.1)) dd H'
def outK (a1:Addr)(id:Nat)(ρ:EnvD):Option (List D):=match ρ[id]? with
 |some (some (.loc (some b) (.lst l)))=>if b=a1 then some l else none
 |_=>none
def mirK (N:List Str)(id:Nat)(g:Addr->Addr->List (Key×D)->EnvD->Option (EnvD×D)):Addr->Addr->List (Key×D)->List D->List En->Option (D×List D):=λf a1 kvs asked xs=>
 (g f a1 kvs ((stE N (xs.map some)).set id (some (.loc (some a1) (.lst asked))))).bind λq=>(outK a1 id q.1).map λl=>(q.2,l)
def mirKY (N:List Str)(id:Nat)(g:Addr->Addr->List (Key×D)->EnvD->Option (EnvD×Xv)):Addr->Addr->List (Key×D)->List D->List En->Option (Xv×List D):=λf a1 kvs asked xs=>
 (g f a1 kvs ((stE N (xs.map some)).set id (some (.loc (some a1) (.lst asked))))).bind λq=>(outK a1 id q.1).map λl=>(q.2,l)
theorem ZD {a1:Addr}{id:Nat}{ρ:EnvD}{l:List D}(h:outK a1 id ρ=some l):ρ[id]?=some (some (.loc (some a1) (.lst l))):=by
 unfold outK at h
 split at h
 ·split at h
  ·rename_i hb;subst hb;cases h;assumption
  ·cases h
 ·cases h
section
variable {P:Program}{w:World}{K:PySem.W.Frag}{mg:Str->Option Value}{base:Heap}{T:Inn}
theorem kHd.bs {n:Nat}{vs:List V}{H F:Hp}{xs:List En}{f a1:Addr}{kvs:List (Key×D)}{asked:List D}(h:kHd ⟨K,w⟩ T n vs H F xs f a1 kvs asked):CloB T ⟨K,w⟩ ⟨F,without H a1⟩ f a1 kvs:=by
 obtain⟨a2,ob,kws,ws,fh,fa,ha,ra,hc,hd,rk,_,_⟩:=h
 have ne:∀ {b:Addr} {u:HO},H b=some u->(∀ys,u≠.lst ys)->without H a1 b=some u:=fun {b u} q n=>by
  rw[without_ne λz=>by rw[z,ha] at q;cases q;exact n _ rfl];exact q
 obtain⟨c1,c2,c',o1,o2,oc,doc,pm,ct,g1,g2,g3,g4,g5,g6,g7,g8⟩:=hc
 exact⟨a2,ob,kws,⟨c1,c2,c',o1,o2,oc,doc,pm,ct,ne g1 (by intro _ z;cases z),ne g2 (by intro _ z;cases z),g3,ne g4 (by intro _ z;cases z),g5,ne g6 (by intro _ z;cases z),g7,g8⟩,ne hd (by intro _ z;cases z),rk⟩
theorem kHd.rep {N:List Str}{id n:Nat}{vs:List V}{H F:Hp}{xs:List En}{f a1:Addr}{kvs:List (Key×D)}{asked:List D}(h:kHd ⟨K,w⟩ T n vs H F xs f a1 kvs asked) :
  Rep ⟨K,w⟩ ⟨F,without H a1⟩ F ((L2.start N vs).set id (some (.ref a1))) H ((stE N (xs.map some)).set id (some (.loc (some a1) (.lst asked)))):=by
 obtain⟨a2,ob,kws,ws,fh,fa,ha,ra,hc,hd,rk,_,hp⟩:=h
 exact uQ (vb (ps:=[]) (Zd fh fa) hp) fh fa ⟨ws,ha,ra⟩
theorem kHd.len {n:Nat}{vs:List V}{H F:Hp}{xs:List En}{f a1:Addr}{kvs:List (Key×D)}{asked:List D}(h:kHd ⟨K,w⟩ T n vs H F xs f a1 kvs asked):vs.length=n:=by
 obtain⟨a2,ob,kws,ws,fh,fa,ha,ra,hc,hd,rk,hl,hp⟩:=h
 rw[<-xy hp];exact hl
theorem uO {x qual:Str}{st:Stmt}{f0:Addr}{fd:FuncData}{N ps:List Str}{dn:Str}{id k:Nat}{g:Addr->Addr->List (Key×D)->EnvD->Option (EnvD×D)}(F:FunD K x qual st f0 fd)(S:FnScope N ps (zb st))(hid:N[id]?=some dn)(hdn:¬Vis (zb st) dn)
  (hb:∀(cdv:Value) (A:Around) (outer:List Env) (s:Shared) (H:Hp) (E:XK) (B:Bs) (f a1:Addr) (kvs:List (Key×D)),CloB T ⟨K,w⟩ B f a1 kvs->Room k (A.deeper (envOfC qual (zb st) s.heap.objs.size f0 cdv)) ->
   DRt (cxOf CX0 P w K mg base N qual (zb st) f0 cdv A outer s H E).nox B (zk st) (g f a1 kvs)) :
  FnOk P w K mg base CX0 (k+1) f0 fd ps (kSp ⟨K,w⟩ T ps.length (mirK N id g)):=by
 refine F.ok S (λvs H Q E h=>?_) (λcdv A outer s H vs Q E hr h=>?_)
 ·obtain⟨F,xs,f,a1,kvs,asked,q,hd,_⟩:=h
  exact hd.len
 ·obtain⟨F,xs,f,a1,kvs,asked,q,hd,hm,kk⟩:=h
  unfold mirK at hm
  obtain⟨q1,e1,e2⟩:=Option.bind_eq_some_iff.mp hm
  cases e3:outK a1 id q1.1 with
  |none=>rw[e3] at e2;cases e2
  |some l=>
   rw[e3] at e2
   cases e2
   refine⟨_,vm (X:=(cxOf CX0 P w K mg base N qual (zb st) f0 cdv A outer s H E).nox) hid hdn (.ref a1) (hb cdv A outer s H E ⟨F,without H a1⟩ f a1 kvs hd.bs hr),?_⟩
   refine⟨F,_,q1,hd.rep,e1,λv σ' F' H' r' s' p'=>?_⟩
   obtain⟨v',_,a,rfl,h1,h2,⟨ws',h3,h4⟩,h5⟩:=r'.ents id _ (ZD e3)
   have:=h5 a1 rfl
   subst this
   exact kk v F' H' ws' r'.ex h1 h3 h4 p'
theorem Zp {ca:Str->Addr}{fd1:Str}{x qual:Str}{st:Stmt}{f0:Addr}{fd:FuncData}{N ps:List Str}{dn:Str}{id k:Nat}{g:Addr->Addr->List (Key×D)->EnvD->Option (EnvD×Xv)}(F:FunD K x qual st f0 fd)(S:FnScope N ps (zb st))(hid:N[id]?=some dn)(hdn:¬Vis (zb st) dn)
  (hb:∀(cdv:Value) (A:Around) (outer:List Env) (s:Shared) (H:Hp) (E:XK) (B:Bs) (f a1:Addr) (kvs:List (Key×D)) (pn:List (Addr×Obj)),CloB T ⟨K,w⟩ B f a1 kvs->Room k (A.deeper (envOfC qual (zb st) s.heap.objs.size f0 cdv)) ->
   DVs (cxT (cxOf (CX1 P w) P w K mg base N qual (zb st) f0 cdv A outer s H E) pn (WX (cxOf (CX1 P w) P w K mg base N qual (zb st) f0 cdv A outer s H E) pn λ_=>E)) B ca fd1 (λ_=>E) (zk st) (g f a1 kvs)) :
  FnOk P w K mg base (CX1 P w) (k+1) f0 fd ps (kySp ⟨K,w⟩ T ca fd1 ps.length (mirKY N id g)):=by
 obtain⟨oc,dV,od,kV,doc,pm,an,cdv,ct,osl,rfl,lk,hcd⟩:=F.ex
 refine vR lk hcd S (λvs H Q E h=>?_) λA outer s H vs Q E hr h=>?_
 ·obtain⟨F,xs,f,a1,kvs,asked,q,hd,_⟩:=h
  exact hd.len
 ·obtain⟨F,xs,f,a1,kvs,asked,q,hd,hm,kk⟩:=h
  unfold mirKY at hm
  obtain⟨q1,e1,e2⟩:=Option.bind_eq_some_iff.mp hm
  cases e3:outK a1 id q1.1 with
  |none=>rw[e3] at e2;cases e2
  |some l=>
   rw[e3] at e2
   cases e2
   refine⟨_,vm (X:=cxOf (CX1 P w) P w K mg base N qual (zb st) f0 cdv A outer s H E) hid hdn (.ref a1) (t:=λ_ σ H'=>lVs ⟨K,w⟩ ⟨F,without H a1⟩ ca fd1 (λ_=>E) (g f a1 kvs) σ H') (QO (E:=λ_=>E) (λpn=>hb cdv A outer s H E ⟨F,without H a1⟩ f a1 kvs pn hd.bs hr) (QB rfl)),?_⟩
   refine⟨F,_,q1,hd.rep,e1,λdd σ' F' H' r' s' pd=>?_⟩
   obtain⟨v',_,a,rfl,h1,h2,⟨ws',h3,h4⟩,h5⟩:=r'.ents id _ (ZD e3)
   have:=h5 a1 rfl
   subst this
   exact kk dd F' H' ws' r'.ex h1 h3 h4 pd
theorem Fun.toD {x qual:Str}{st:Stmt}{f0:Addr}{fd:FuncData}(F:Fun K x qual st f0 fd):FunD K x qual st f0 fd :=
 let ⟨oc,od,kV,doc,pm,an,cdv,ct,osl,h⟩:=F.ex
 ⟨⟨oc,.none,od,kV,doc,pm,an,cdv,ct,osl,h⟩,F.kp⟩
structure KxA (T:Inn)(P:Program)(w:World)(K:PySem.W.Frag)(mg:Str->Option Value)(base:Heap)(x:Str)(k n:Nat)(m:Addr->Addr->List (Key×D)->List D->List En->Option (D×List D)):Prop where
 ex:∃f fd ps,FnOk P w K mg base CX0 k f fd ps (kSp ⟨K,w⟩ T n m)/\mg x=some (.ref f)/\keepIn K (.ref f)=true/\Binds K fd ps []
structure KxY (T:Inn)(P:Program)(w:World)(K:PySem.W.Frag)(mg:Str->Option Value)(base:Heap)(ca:Str->Addr)(fd1:Str)(x:Str)(k n:Nat)(m:Addr->Addr->List (Key×D)->List D->List En->Option (Xv×List D)):Prop where
 ex:∃f fd ps,FnOk P w K mg base (CX1 P w) k f fd ps (kySp ⟨K,w⟩ T ca fd1 n m)/\mg x=some (.ref f)/\keepIn K (.ref f)=true/\Binds K fd ps []
end
def gnE (i:Nat):EnvD->Option En:=λρ=>match ρ[i]? with
 |some (some (.exn a))=>some (.exn a)
 |_=>none
theorem uB {X:Cx}{B:Bs}{pos:Pos}(i:Nat){x:Str}(h:PE X (.Name x pos) (tVar i)):DN X B (.Name x pos) (gnE i) :=
 zm h λσ H Q zz=>zz.el λF ρ d r hg k=>by
  unfold gnE at hg
  split at hg
  ·rename_i a e
   cases hg
   obtain⟨v,h1,h2⟩:=r.ents i _ e
   exact⟨v,h1,k v F H (.refl r.fh) h2⟩
  ·cases hg
def noH:List En->Bool
 | []=>true
 |.val _::r=>noH r
 |.exn _::r=>noH r
 |_=>false
theorem ja {K:KW}{F H H':Hp}:∀ {xs:List En} {vs:List V},noH xs=true->Paired (λx v=>ArgE K F H x v) xs vs->Paired (λx v=>ArgE K F H' x v) xs vs
 | [],_,_,.nil=>.nil
 |x::xs,_,h,.cons r t=>by
  cases x with
  |val d=>exact .cons r (ja h t)
  |exn d=>exact .cons r (ja h t)
  |_=>cases h
theorem wA {K:KW}{B:Bs}{F1 H1 F' H':Hp}{σ:St}{ρ:EnvD}{i:Nat}{x y:En}{a:Addr}{o o':HO}(r:Rep K B F1 σ H1 ρ)(hi:ρ[i]?=some (some x))(ho:x.own=true)(hs:σ[i]?=some (some (.ref a)))(hb:B.H0 a=none)
  (h1:H1 a=some o) (e':Ext F1 (without H1 a) F' H') (fa':F' a=none) (ha':H' a=some o') (hy:RepE K B F' H' y (.ref a)) (hyo:y.own=true):Rep K B F' σ H' (ρ.set i (some y)):=by
 have ext:Ext F1 H1 F' (upd H' a o):=by
  refine⟨e'.ff,λb u hu=>?_,λb u hu=>?_,λb hbF=>?_⟩
  ·by_cases hba:b=a
   ·subst hba;rw[zi];rw[h1] at hu;exact hu
   ·rw[zd hba];exact e'.hh b u (by rw[without_ne hba];exact hu)
  ·rw[zd (zG hu fa')];exact e'.fh b u hu
  ·rcases e'.nw b hbF with z | z
   ·exact .inl z
   ·by_cases hba:b=a
    ·subst hba;exact absurd fa' hbF
    ·rw[without_ne hba] at z;exact .inr z
 have hH:upd (upd H' a o) a o'=H':=by
  rw[Uw]
  funext b
  by_cases hba:b=a
  ·subst hba;rw[zi,ha']
  ·rw[zd hba]
 have hw:=(r.ext ext).write (o:=o') (y:=y) hi ho hs fa' hb (by rw[hH];exact hy) hyo
 rw[hH] at hw
 exact hw
theorem UZ {X:Cx}{E:St->XK}{sp:Sp}{t:TA}{f:Addr}{f0:FuncData}{ps:List Str}{x:Str}{k:Nat}{e:Expr}{es:List Expr}{p pos:Pos}(hp:PassS X E)(F:FnOk X.prog X.w X.K X.mg X.base (CX1 X.prog X.w) k f f0 ps sp)(hm:X.mg x=some (.ref f))(hk:keepIn X.K (.ref f)=true)(hb:Binds X.K f0 ps [])
  (hr:Room k X.A) (hg:Gl X x) (ha:PA X.nox (e::es) t) (hdb:(x==("__debug__" : Str))=false:=by decide +kernel) (he:starEach (e::es) X.env=(false,eval e X.env)::starEach es X.env:=by rfl) (hpl:(backTo pos (starEach es X.env)).any (·.1)=false:=by rfl) :
  PE X (.Call (.Name x p) (e::es) [] pos) λσ H _=>t σ H λvs H1=>sp vs H1 (λ_ _=>False) (E σ):=by
 intro pins s σ H Q I h
 refine wpAny_Call_Name_kw (yz I hg hm ?_ hdb)
 refine PySem.W.callWith_K (h₀:=X.base) I.ok.mod.kin hk (wpAny_mono (ha pos pins s σ H (λvs H1=>sp vs H1 (λ_ _=>False) (E σ)) (I.wish _) h) (λus s1 ⟨vs,H1,I1,rv,q⟩=>⟨I1.kIn,?_⟩) λ_ _ z=>False.elim z) he hpl
 have I1:=I1.unwish
 have hl:(us++([]:List Value)).length=ps.length:=by rw[List.append_nil,<-rv.length];exact F.len _ _ _ _ q
 refine wpAny_call (codeAny_mono (F.run X.A X.stack s1 H1 ⟨us,[]⟩ us vs _ (E σ) hr I1.env0 (by have:=hb s1 us I1.kIn hl;rw[List.append_nil] at this;exact this) rv q) λr s' hq=>?_)
 cases r with
 |error e=>exact hp pins σ H1 s1 e s' I1 hq
 |ok fl=>
  cases fl with
  |ret u=>obtain⟨_,_,_,_,_,_,_,z⟩:=hq;exact z.elim
  |next=>exact False.elim hq
  |brk=>exact False.elim hq
  |cont=>exact False.elim hq
def sAskC (f a1:Addr)(kvs:List (Key×D))(i ir id n:Nat)(m:Addr->Addr->List (Key×D)->List D->List En->Option (D×List D))(gxs:EnvD->Option (List En)):SD:=λρ=>match ρ[ir]?,ρ[id]? with
 |some (some (.exn b)),some (some (.loc (some c) (.lst ds)))=>if b=f/\c=a1 then (gxs ρ).bind λxs=>if noH xs=true/\xs.length=n then (m f a1 kvs ds xs).map λq=>.next ((ρ.set id (some (.loc (some a1) (.lst q.2)))).set i (some (.val q.1))) else none else none
 |_,_=>none
def yAskC (f a1:Addr)(kvs:List (Key×D))(ir id n:Nat)(m:Addr->Addr->List (Key×D)->List D->List En->Option (Xv×List D))(gxs:EnvD->Option (List En)):EnvD->Option (EnvD×Xv):=λρ=>match ρ[ir]?,ρ[id]? with
 |some (some (.exn b)),some (some (.loc (some c) (.lst ds)))=>if b=f/\c=a1 then (gxs ρ).bind λxs=>if noH xs=true/\xs.length=n then (m f a1 kvs ds xs).map λq=>(ρ.set id (some (.loc (some a1) (.lst q.2))),q.1) else none else none
 |_,_=>none
section
variable {X:Cx}{B:Bs}{T:Inn}{f a1:Addr}{kvs:List (Key×D)}{i ir id k n j:Nat}{rn wn x:Str}{ea e:Expr}{es:List Expr}{gxs:EnvD->Option (List En)}{p p2 p3 p4 p5 q1 pos apos:Pos}{rest:List Stmt}
theorem Wa (cb:CloB T X.kw B f a1 kvs){F F1 H H1:Hp}{σ:St}{ρ:EnvD}{ds:List D}{xs:List En}{vs:List V}(r1:Rep X.kw B F1 σ H1 ρ)(qd:ρ[id]?=some (some (.loc (some a1) (.lst ds))))(hn:noH xs=true)(hl:xs.length=n)
  (p1:Paired (λx v=>ArgE X.kw F1 H1 x v) xs vs):kHd X.kw T n vs H1 F1 xs f a1 kvs ds/\σ[id]?=some (some (.ref a1))/\B.H0 a1=none/\∃ws,H1 a1=some (.lst ws):=by
 obtain⟨v1,s1,a,rfl,g2,g3,⟨ws,g4,g5⟩,g6⟩:=r1.ents id _ qd
 have hca:=g6 a1 rfl
 subst hca
 obtain⟨a2,ob,kw,c1,c2,c3⟩:=cb.ex
 exact⟨⟨a2,ob,kw,ws,r1.fh,g2,g4,g5,c1.mono r1.ex.hh,r1.ex.hh _ _ c2,c3.mono r1.ex.ff,hl,ja hn p1⟩,s1,g3,ws,g4⟩
theorem Jk {m:Addr->Addr->List (Key×D)->List D->List En->Option (D×List D)}(cb:CloB T X.kw B f a1 kvs)(h:KxA T X.prog X.w X.kw X.mg X.base x k n m)(hr:Room k X.A)(hg:Gl X x)(hy:PE X (.Name rn p2) (tVar ir))(ha:DNs X B (e::es) gxs)(hN:X.N.Nodup)(hi:X.N[i]?=some wn)(hx:Loc X.env.scope wn)
  (hdb:(x==("__debug__" : Str))=false:=by decide +kernel) (he:starEach (e::es) X.env=(false,eval e X.env)::starEach es X.env:=by rfl) (hpl:(backTo pos (starEach es X.env)).any (·.1)=false:=by rfl)
  (hs:swapsWith (.IfExp (.Compare (.Name rn p2) [.Is] [.Constant .none j p3] p4) ea (.Call (.Name x p) (e::es) [] pos) p5) (some (.Name wn q1)) apos.line X.env=pure false:=by rfl) (hf:X.fn wn=true∨X.env.scope.names.lookup wn=some .local:=by first | exact .inl rfl | exact .inr rfl | assumption) :
  DS X B (.Assign [.Name wn q1] (.IfExp (.Compare (.Name rn p2) [.Is] [.Constant .none j p3] p4) ea (.Call (.Name x p) (e::es) [] pos) p5) apos) (sAskC f a1 kvs i ir id n m gxs):=by
 obtain⟨f0,fd,ps,Fo,hm,hk,hb⟩:=h.ex
 refine zC (y0 hN hi hx (kl (Zy (uH hy)) (kP (e:=ea)) (jr Fo hr hg hm hk hb .nil pass0 ha hdb he hpl)) hs hf) λE σ H zz=>zz.el λF ρ fl r hg kk=>?_
 unfold sAskC at hg
 split at hg
 ·rename_i b c ds q0 qd
  split at hg
  ·rename_i hc
   obtain⟨rfl,rfl⟩:=hc
   cases q2:gxs ρ with
   |none=>rw[q2] at hg;cases hg
   |some xs=>
    rw[q2,Option.bind_some] at hg
    split at hg
    ·rename_i hn
     cases q3:m b c kvs ds xs with
     |none=>rw[q3] at hg;cases hg
     |some q=>
      rw[q3] at hg
      cases hg
      obtain⟨v0,s0,e0⟩:=r.ents ir _ q0
      obtain rfl:v0=.ref b:=e0
      refine⟨.ref b,s0,false,by simp,iteF ?_⟩
      refine⟨F,ρ,xs,r,q2,λvs F1 H1 e1 p1=>?_⟩
      have r1:=r.ext e1
      obtain⟨hd,s1,hb0,ws,hw⟩:=Wa (n:=n) (H:=H) (F:=F) cb r1 qd hn.1 hn.2 p1
      show kSp X.kw T n m (vs++[]) H1 _ _
      rw[List.append_nil]
      refine⟨F1,xs,b,c,kvs,ds,q,hd,q3,λv F' H' ws' e' fa' ha' rs' rp'=>?_⟩
      have r2:=wA (y:=.loc (some c) (.lst q.2)) r1 qd rfl s1 hb0 hw e' fa' ha' ⟨c,rfl,fa',hb0,⟨ws',ha',rs'⟩,λb q=>by cases q;rfl⟩ rfl
      exact kk _ F' H' (r2.setv rp') (e1.ff.trans e'.ff)
    ·cases hg
  ·cases hg
 ·cases hg
theorem V4 {ca:Str->Addr}{fd1:Str}{E:St->XK}{m:Addr->Addr->List (Key×D)->List D->List En->Option (Xv×List D)}(hp:PassS X E)(cb:CloB T X.kw B f a1 kvs)(h:KxY T X.prog X.w X.kw X.mg X.base ca fd1 x k n m)(hr:Room k X.A)(hg:Gl X x)(hy:PE X (.Name rn p2) (tVar ir))(ha:DNs X.nox B (e::es) gxs)
  (hN:X.N.Nodup) (hi:X.N[i]?=some wn) (hx:Loc X.env.scope wn)
  (hdb:(x==("__debug__" : Str))=false:=by decide +kernel) (he:starEach (e::es) X.env=(false,eval e X.env)::starEach es X.env:=by rfl) (hpl:(backTo pos (starEach es X.env)).any (·.1)=false:=by rfl)
  (hs:swapsWith (.IfExp (.Compare (.Name rn p2) [.Is] [.Constant .none j p3] p4) ea (.Call (.Name x p) (e::es) [] pos) p5) (some (.Name wn q1)) apos.line X.env=pure false:=by rfl) (hf:X.fn wn=true∨X.env.scope.names.lookup wn=some .local:=by first | exact .inl rfl | exact .inr rfl | assumption) :
  DVs X B ca fd1 E (.Assign [.Name wn q1] (.IfExp (.Compare (.Name rn p2) [.Is] [.Constant .none j p3] p4) ea (.Call (.Name x p) (e::es) [] pos) p5) apos::rest) (yAskC f a1 kvs ir id n m gxs):=by
 obtain⟨f0,fd,ps,Fo,hm,hk,hb⟩:=h.ex
 refine pss_imp (yi (y0 hN hi hx (kl (Zy (uH hy)) (kP (e:=ea)) (UZ hp Fo hm hk hb hr hg ha hdb he hpl)) hs hf) (u:=λ_ _ _=>False) λ_ _ _ _ _ _ z=>z.elim) λD σ H zz=>zz.el λF ρ fl r hg kk=>?_
 unfold yAskC at hg
 split at hg
 ·rename_i b c ds q0 qd
  split at hg
  ·rename_i hc
   obtain⟨rfl,rfl⟩:=hc
   cases q2:gxs ρ with
   |none=>rw[q2] at hg;cases hg
   |some xs=>
    rw[q2,Option.bind_some] at hg
    split at hg
    ·rename_i hn
     cases q3:m b c kvs ds xs with
     |none=>rw[q3] at hg;cases hg
     |some q=>
      rw[q3] at hg
      cases hg
      obtain⟨v0,s0,e0⟩:=r.ents ir _ q0
      obtain rfl:v0=.ref b:=e0
      refine⟨.ref b,s0,false,by simp,iteF ?_⟩
      refine⟨F,ρ,xs,r,q2,λvs F1 H1 e1 p1=>?_⟩
      have r1:=r.ext e1
      obtain⟨hd,s1,hb0,ws,hw⟩:=Wa (n:=n) (H:=H) (F:=F) cb r1 qd hn.1 hn.2 p1
      refine⟨F1,xs,b,c,kvs,ds,q,hd,q3,λdd F' H' ws' e' fa' ha' rs' pd=>?_⟩
      have r2:=wA (y:=.loc (some c) (.lst q.2)) r1 qd rfl s1 hb0 hw e' fa' ha' ⟨c,rfl,fa',hb0,⟨ws',ha',rs'⟩,λb q=>by cases q;rfl⟩ rfl
      exact kk dd σ F' H' r2 (e1.ff.trans e'.ff) pd
    ·cases hg
  ·cases hg
 ·cases hg
end
end Dv
namespace L6
open PySem PySem.Spec L2 L3 L4
open PyProof.Rows hiding St
open Dv (exAt)
def cel (H:Hp)(c1 c2:Addr)(o1 o2:Obj):Hp:=upd (upd H c1 (exAt c1 o1)) c2 (exAt c2 o2)
section
variable {H H':Hp}{c1 c2:Addr}{o1 o2:Obj}
theorem qS (h:c1≠c2):cel H c1 c2 o1 o2 c1=some (exAt c1 o1):=by unfold cel;rw[zd h,zi]
theorem jT:cel H c1 c2 o1 o2 c2=some (exAt c2 o2):=by unfold cel;rw[zi]
theorem y4 {b:Addr}(h1:b≠c1)(h2:b≠c2):cel H c1 c2 o1 o2 b=H b:=by unfold cel;rw[zd h2,zd h1]
theorem jz {P:Program}{w:World}{h:Heap}{e:Addr}{φ:Heap->Prop}(ok:HOk P w H h)(he:H e=some (.ext φ)):HOk P w (del H e) h:=λa o q=>by
 have ke:∀ {b:Addr} {u:HO},H b=some u->(∀φ,u≠.ext φ)->del H e b=some u:=fun {b u} n d=>by
  have:b≠e:=λz=>by rw[z,he] at n;cases n;exact d _ rfl
  rw[zv this];exact n
 have hne:a≠e:=λz=>by rw[z,yr] at q;cases q
 rw[zv hne] at q
 exact (ok a o q).stay (λb u _ z=>z) (λb z=>ke z λ_ z=>nomatch z) λb xs z=>ke z λ_ z=>nomatch z
theorem kM {P:Program}{w:World}{h:Heap}{c:Addr}{o:Obj}(ok:HOk P w H h)(n:H c=none)(g:h.get? c=some o):HOk P w (upd H c (exAt c o)) h:=λa u q=>by
 have ke:∀ {b:Addr} {u:HO},H b=some u->upd H c (exAt c o) b=some u:=fun {b u} q=>by
  rw[zd λz=>by rw[z,n] at q;cases q];exact q
 by_cases ha:a=c
 ·subst ha
  rw[zi] at q
  cases q
  exact jh g
 ·rw[zd ha] at q
  exact (ok a u q).stay (λb u _ z=>z) (λb z=>ke z) λb xs z=>ke z
theorem um {fs:List Addr}{h h':Heap}(U:Un fs [] (cel H c1 c2 o1 o2) H' h h')(hc:c1≠c2)(e1:h.get? c1=some o1)(e2:h.get? c2=some o2)(n1:H c1=none)(n2:H c2=none)(f1:c1∉fs)(f2:c2∉fs)(g1:h'.get? c1=some o1)(g2:h'.get? c2=some o2) :
  Un fs [] H (del (del H' c1) c2) h h':=by
 have ke:∀ {b:Addr} {u:HO},H b=some u->cel H c1 c2 o1 o2 b=some u/\b≠c1/\b≠c2:=fun {b u} q=>by
  have h1:b≠c1:=λz=>by rw[z,n1] at q;cases q
  have h2:b≠c2:=λz=>by rw[z,n2] at q;cases q
  exact⟨by rw[y4 h1 h2];exact q,h1,h2⟩
 refine⟨λb o q n hb hx=>?_,λb o q n hb hx=>?_,λb o q n hx=>?_,U.there,λb xs q=>?_,λb o u q=>?_,λb ps q=>?_⟩
 ·by_cases h1:b=c1
  ·subst h1;rw[e1] at q;cases q;exact g1
  ·by_cases h2:b=c2
   ·subst h2;rw[e2] at q;cases q;exact g2
   ·exact U.keep b o q (by rw[y4 h1 h2];exact n) hb hx
 ·exact U.slot b o q (by
   have h1:b≠c1:=λz=>f1 (by rw[<-z];exact hb)
   have h2:b≠c2:=λz=>f2 (by rw[<-z];exact hb)
   rw[y4 h1 h2];exact n) hb hx
 ·by_cases h2:b=c2
  ·subst h2;exact yr
  ·rw[zv h2]
   by_cases h1:b=c1
   ·subst h1;exact yr
   ·rw[zv h1];exact U.free b o q (by rw[y4 h1 h2];exact n) hx
 ·obtain⟨k1,k2,k3⟩:=ke q
  rw[zv k3,zv k2];exact U.tups b xs k1
 ·obtain⟨k1,k2,k3⟩:=ke q
  rw[zv k3,zv k2];exact U.frzs b o u k1
 ·obtain⟨k1,k2,k3⟩:=ke q
  rw[zv k3,zv k2];exact U.tbls b ps k1
end
section
variable {X:Cx}{pins:List (Addr×Obj)}{σ:St}{H:Hp}{s:Shared}{c1 c2:Addr}{o1 o2:Obj}{y1 y2:Str}{i1 i2:Nat}
theorem vo {c:Addr}{y:Str}(I:Inv X pins σ H s)(hc:X.env.cells.lookup y=some c)(hf:X.fn y=true):c∉frs X.stack/\X.base.get? c=none:=by
 have hcs:=I.ok.cab y c hf hc
 have hb:X.base.get? c=none:=by
  cases q:X.base.get? c with
  |none=>rfl
  |some o=>exact absurd (Heap.lt_size q) (Nat.not_lt.mpr (Nat.le_trans I.ok.bsz hcs))
 refine⟨λhz=>?_,hb⟩
 obtain⟨z,⟨oz,hz1,hz2⟩⟩:=I.cell y c hc
 obtain⟨m,⟨ol,es,ep,h1,h2⟩,_⟩:=id I.loc
 rcases List.mem_cons.mp (I.stkSub c hz) with rfl | hz
 ·rw[h1] at hz1;cases hz1
  rw[hz2] at h2
  simp at h2
 ·obtain⟨o,ho,_⟩:=(I.ok.funs.mem hz).2
  exact absurd (Heap.lt_size ho) (Nat.not_lt.mpr hcs)
theorem uL (I:Inv X pins σ H s)(hc:c1≠c2)(e1:s.heap.get? c1=some o1)(e2:s.heap.get? c2=some o2)(n1:H c1=none)(n2:H c2=none)(f1:c1∉frs X.stack/\X.base.get? c1=none)(f2:c2∉frs X.stack/\X.base.get? c2=none) :
  Env0 X.prog X.w X.K X.mg X.base X.A X.stack s (cel H c1 c2 o1 o2):=by
 have e0:=I.env0
 refine⟨e0.frames,e0.mod,λb o q=>⟨(e0.bs b o q).1,?_⟩,e0.bsz,e0.funs,λb hb=>?_,?_,e0.bare⟩
 ·have h1:b≠c1:=λz=>by rw[z,f1.2] at q;cases q
  have h2:b≠c2:=λz=>by rw[z,f2.2] at q;cases q
  rw[y4 h1 h2];exact (e0.bs b o q).2
 ·have h1:b≠c1:=λz=>f1.1 (by rw[<-z];exact hb)
  have h2:b≠c2:=λz=>f2.1 (by rw[<-z];exact hb)
  rw[y4 h1 h2];exact e0.frf b hb
 ·exact kM (kM e0.hok n1 e1) (by rw[zd (Ne.symm hc)];exact n2) e2
structure Cells (X:Cx)(y1 y2:Str)(i1 i2:Nat)(c1 c2:Addr):Prop where
 i1:X.N[i1]?=some y1
 i2:X.N[i2]?=some y2
 k1:X.env.scope.names.lookup y1=some .cell
 k2:X.env.scope.names.lookup y2=some .cell
 l1:X.env.cells.lookup y1=some c1
 l2:X.env.cells.lookup y2=some c2
 ne:y1≠y2
 f1:X.fn y1=true
 f2:X.fn y2=true
def rCel (c1 c2:Addr)(i1 i2:Nat)(σ:St)(H:Hp)(R:Obj->Obj->Prop):Prop:=∃v1 v2,σ[i1]?=some (some v1)/\σ[i2]?=some (some v2)/\∀o1 o2 u1 u2,c1≠c2->o1.data=.cell (some u1)->RelV v1 u1->o2.data=.cell (some u2)->RelV v2 u2->H c1=none->H c2=none->R o1 o2
theorem YH {R:Obj->Obj->Prop}(W:Cells X y1 y2 i1 i2 c1 c2)(I:Inv X pins σ H s)(h:rCel c1 c2 i1 i2 σ H R):∃o1 o2,c1≠c2/\s.heap.get? c1=some o1/\s.heap.get? c2=some o2/\H c1=none/\H c2=none/\R o1 o2:=by
 obtain⟨v1,v2,s1,s2,k⟩:=h
 obtain⟨m,_,hl⟩:=I.loc
 have one:∀ {i:Nat} {y:Str} {c:Addr} {v:V},X.N[i]?=some y->X.env.scope.names.lookup y=some .cell->X.env.cells.lookup y=some c->σ[i]?=some (some v)->∃o u,s.heap.get? c=some o/\o.data=.cell (some u)/\RelV v u:=fun {i y c v} a1 a2 a3 a4=>by
  obtain⟨u,r,l⟩:=hl i y v a1 a4 (.inr (.inl a2))
  rcases l with⟨z,_⟩ | ⟨_,c',z1,o,z2,z3⟩
  ·have z:X.env.scope.names.lookup y=some .local:=z
   rw[a2] at z;cases z
  ·rw[a3] at z1;cases z1
   exact⟨o,u,z2,z3,r⟩
 obtain⟨o1,u1,a1,a2,a3⟩:=one W.i1 W.k1 W.l1 s1
 obtain⟨o2,u2,b1,b2,b3⟩:=one W.i2 W.k2 W.l2 s2
 have hc:c1≠c2:=λz=>W.ne (I.ok.inj y1 y2 c1 W.l1 (by rw[z];exact W.l2))
 exact⟨o1,o2,hc,a1,b1,I.freeC _ _ W.l1,I.freeC _ _ W.l2,k o1 o2 u1 u2 hc a2 a3 b2 b3 (I.freeC _ _ W.l1) (I.freeC _ _ W.l2)⟩
variable {k:Nat}{f:Addr}{fd:FuncData}{ps:List Str}{sp:Sp}{x:Str}{p pos:Pos}{e:Expr}{es:List Expr}{t:TA}
def qCel (c1 c2:Addr)(o1 o2:Obj)(Q:VK):VK:=λv H'=>H' c1=some (exAt c1 o1)/\H' c2=some (exAt c2 o2)/\Q v (del (del H' c1) c2)
def xCel (c1 c2:Addr)(o1 o2:Obj)(E:XK):XK:=λC dd H'=>H' c1=some (exAt c1 o1)/\H' c2=some (exAt c2 o2)/\E C dd (del (del H' c1) c2)
theorem V5 (W:Cells X y1 y2 i1 i2 c1 c2)(F:FnOk X.prog X.w X.K X.mg X.base CX0 k f fd ps sp)(hr:Room k X.A)(hg:Gl X x)(hm:X.mg x=some (.ref f))(hk:keepIn X.K (.ref f)=true)(hb:Binds X.K fd ps []){E:XK}
  (ha:PA X (e::es) t) (hdb:(x==("__debug__" : Str))=false:=by decide +kernel) (he:starEach (e::es) X.env=(false,eval e X.env)::starEach es X.env:=by rfl) (hpl:(backTo pos (starEach es X.env)).any (·.1)=false:=by rfl) :
  PE X (.Call (.Name x p) (e::es) [] pos) λσ H Q=>t σ H λvs H1=>rCel c1 c2 i1 i2 σ H1 λo1 o2=>sp vs (cel H1 c1 c2 o1 o2) (qCel c1 c2 o1 o2 Q) E:=by
 intro pins s σ H Q I h
 refine wpAny_Call_Name_kw (yz I hg hm ?_ hdb)
 refine PySem.W.callWith_K (h₀:=X.base) I.ok.mod.kin hk (thn (ha pos pins s σ H _ I h) λus s1 ⟨vs,H1,I1,rv,q⟩=>⟨I1.kIn,?_⟩) he hpl
 obtain⟨o1,o2,hc,g1,g2,n1,n2,q⟩:=YH W I1 q
 have f1:=vo I1 W.l1 W.f1
 have f2:=vo I1 W.l2 W.f2
 have hl:(us++([]:List Value)).length=ps.length:=by rw[List.append_nil,<-rv.length];exact F.len _ _ _ _ q
 refine wpAny_call (codeAny_mono (F.run X.A X.stack s1 _ ⟨us,[]⟩ us vs _ E hr (uL I1 hc g1 g2 n1 n2 f1 f2) (by have:=hb s1 us I1.kIn hl;rw[List.append_nil] at this;exact this) rv q) λr s' hq=>?_)
 cases r with
 |error e=>exact False.elim hq
 |ok fl=>
  cases fl with
  |ret u=>
   obtain⟨v,H',os,bare,un,hok,rv',a1,a2,q'⟩:=hq
   have b1:s'.heap.get? c1=some o1:=(show ObjOk X.prog X.w H' s'.heap c1 (exAt c1 o1) from hok c1 _ a1).1
   have b2:s'.heap.get? c2=some o2:=(show ObjOk X.prog X.w H' s'.heap c2 (exAt c2 o2) from hok c2 _ a2).1
   exact I1.after ⟨v,_,os,bare,um un hc g1 g2 n1 n2 f1.1 f2.1 b1 b2,jz (jz hok a1) (by rw[zv (Ne.symm hc)];exact a2),rv',q'⟩
  |next=>exact False.elim hq
  |brk=>exact False.elim hq
  |cont=>exact False.elim hq
theorem V0 {E:St->XK}(hp:Dv.PassS X E)(W:Cells X y1 y2 i1 i2 c1 c2)(F:FnOk X.prog X.w X.K X.mg X.base (CX1 X.prog X.w) k f fd ps sp)(hm:X.mg x=some (.ref f))(hk:keepIn X.K (.ref f)=true)(hb:Binds X.K fd ps [])
  (hr:Room k X.A) (hg:Gl X x) (ha:PA X.nox (e::es) t) (hdb:(x==("__debug__" : Str))=false:=by decide +kernel) (he:starEach (e::es) X.env=(false,eval e X.env)::starEach es X.env:=by rfl) (hpl:(backTo pos (starEach es X.env)).any (·.1)=false:=by rfl) :
  PE X (.Call (.Name x p) (e::es) [] pos) λσ H _=>t σ H λvs H1=>rCel c1 c2 i1 i2 σ H1 λo1 o2=>sp vs (cel H1 c1 c2 o1 o2) (λ_ _=>False) (xCel c1 c2 o1 o2 (E σ)):=by
 intro pins s σ H Q I h
 refine wpAny_Call_Name_kw (yz I hg hm ?_ hdb)
 refine PySem.W.callWith_K (h₀:=X.base) I.ok.mod.kin hk (wpAny_mono (ha pos pins s σ H _ (I.wish _) h) (λus s1 ⟨vs,H1,I1,rv,q⟩=>⟨I1.kIn,?_⟩) λ_ _ z=>False.elim z) he hpl
 have I1:=I1.unwish
 obtain⟨o1,o2,hc,g1,g2,n1,n2,q⟩:=YH W I1 q
 have f1:=vo I1 W.l1 W.f1
 have f2:=vo I1 W.l2 W.f2
 have hl:(us++([]:List Value)).length=ps.length:=by rw[List.append_nil,<-rv.length];exact F.len _ _ _ _ q
 refine wpAny_call (codeAny_mono (F.run X.A X.stack s1 _ ⟨us,[]⟩ us vs _ (xCel c1 c2 o1 o2 (E σ)) hr (uL I1 hc g1 g2 n1 n2 f1 f2) (by have:=hb s1 us I1.kIn hl;rw[List.append_nil] at this;exact this) rv q) λr s' hq=>?_)
 cases r with
 |error e=>
  obtain⟨ea,C,dd,a0,T,H',e0,hos,bare,un,hok,ht,h1,h2,h3,h4,a1,a2,hE⟩:=hq
  have b1:s'.heap.get? c1=some o1:=(show ObjOk X.prog X.w H' s'.heap c1 (exAt c1 o1) from hok c1 _ a1).1
  have b2:s'.heap.get? c2=some o2:=(show ObjOk X.prog X.w H' s'.heap c2 (exAt c2 o2) from hok c2 _ a2).1
  have no:∀ {b:Addr},H' b=none->del (del H' c1) c2 b=none:=fun {b} n=>by
   by_cases z2:b=c2
   ·rw[z2];exact yr
   ·rw[zv z2]
    by_cases z1:b=c1
    ·rw[z1];exact yr
    ·rw[zv z1];exact n
  exact hp pins σ H1 s1 e s' I1 ⟨ea,C,dd,a0,T,_,e0,hos,bare,um un hc g1 g2 n1 n2 f1.1 f2.1 b1 b2,jz (jz hok a1) (by rw[zv (Ne.symm hc)];exact a2),ht,h1,h2,no h3,no h4,hE⟩
 |ok fl=>
  cases fl with
  |ret u=>obtain⟨_,_,_,_,_,_,_,z⟩:=hq;exact z.elim
  |next=>exact False.elim hq
  |brk=>exact False.elim hq
  |cont=>exact False.elim hq
end
end L6
namespace Dv
open PySem PySem.Spec L2 L3 L4 L6
open PyProof.Rows hiding St
open Classical in
def allOf {α β:Type}(m:β->Option α):Option α:=if h:∃q,∀b,m b=some q then some h.choose else none
theorem YF {α β:Type}{m:β->Option α}{q:α}(h:allOf m=some q)(b:β):m b=some q:=by
 unfold allOf at h
 split at h
 ·rename_i hq;cases h;exact hq.choose_spec b
 ·cases h
theorem kz {α β:Type}{m:β->Option α}{q:α}(b0:β)(h:∀b,m b=some q):allOf m=some q:=by
 have hq:∃q,∀b,m b=some q:=⟨q,h⟩
 unfold allOf
 rw[dif_pos hq]
 have:=hq.choose_spec b0
 rw[h b0] at this
 exact this.symm
def isFn (T:Inn)(c1 c2:Addr)(cv:Value)(o:Obj):Prop:=∃doc pm ct,o=fnO T.nm T.qual T.args T.body T.scope [(T.y1,c1),(T.y2,c2)] doc pm cv ct
def sDefD (Pt:Addr)(pos:Pos)(T:Inn)(c1 c2:Addr)(i id:Nat):SD:=λρ=>match ρ[id]? with
 |some (some (.loc (some a) (.tbl ps q)))=>if a=Pt/\ps=pos/\q=T.qual then some (.next (ρ.set i (some (.loc none (.fn T.qual (isFn T c1 c2)))))) else none
 |_=>none
section
variable {X:Cx}{B:Bs}{T:Inn}{c1 c2 Pt c:Addr}{i id:Nat}{pos:Pos}
theorem UF (hN:X.N.Nodup)(hi:X.N[i]?=some T.nm)(hx:Loc X.env.scope T.nm)(hcode:X.env.code=.ref c)(C:∀h,X.K.In h->PySem.W.CodeHd h c Pt)(hgP:mainGlobals≠Pt)(hb:X.base.BuiltinsAt X.mg Pt)
  (hcl:closureFor T.scope X.env=pure [(T.y1,c1),(T.y2,c2)]) (hd:defaultsOf T.args X.env=([],[])) (han:annTrees T.args none X.env=[]) (hq:qualnameIn X.env T.nm T.nm=T.qual)
  (hf:X.fn T.nm=true∨X.env.scope.names.lookup T.nm=some .local:=by first | exact .inl rfl | exact .inr rfl | assumption) :
  DS X B (.FunctionDef T.nm T.args T.body [] none [] T.scope none T.nm pos) (sDefD Pt pos T c1 c2 i id) :=
 zC (Jh hN hi hx hcode C hgP hb hcl hd han hf) λE σ H zz=>zz.el λF ρ fl r hg kk=>by
  unfold sDefD at hg
  split at hg
  ·rename_i a ps q qd
   split at hg
   ·rename_i hc
    obtain⟨rfl,rfl,rfl⟩:=hc
    cases hg
    obtain⟨v1,s1,a',rfl,g2,g3,⟨tb,g4,g5⟩,g6⟩:=r.ents id _ qd
    have hca:=g6 a rfl
    subst hca
    rw[hq]
    have own1:∀ {f:Addr} {σ':St} {F' H':Hp} {ρ':EnvD},Rep X.kw B F' σ' H' ρ'->H' f=none->∀ {o:Obj} {oc:Obj} {c':Addr},isFn T c1 c2 (.ref c') o->F' c'=some (exAt c' oc)->CodeObj oc T.qual ->
      Rep X.kw B F' (σ'.set i (some (.ref f))) (upd H' f (exAt f o)) (ρ'.set i (some (.loc none (.fn T.qual (isFn T c1 c2))))):=fun {f σ' F' H' ρ'} r' n {o oc c'} h1 h2 h3=>by
     have e:Ext F' H' F' (upd H' f (exAt f o)):=Ext.new r'.fh n
     obtain⟨vs,t,z1,z2⟩:=h3
     refine (r'.ext e).seto ⟨f,rfl,r'.fh.free n,r'.ex.hh.free n,⟨o,c',oc,vs,t,zi,h1,h2,z1,z2⟩,λb z=>by cases z⟩ λj y w k1 k2 hj b hb hc=>?_
     simp only[feetE,List.mem_singleton] at hb
     subst hb
     obtain⟨w',q1,q2⟩:=r'.ents j y k1
     rw[k2] at q1;cases q1
     rw[q2.feet_ext e.hh] at hc
     exact (q2.feet_at hc).1 n
    rcases g5 with rfl | ⟨c',oc,vs,t,rfl,h2,h3,h4⟩
    ·refine⟨#[],g4,trivial,.inl ⟨rfl,λf c' oc doc pm ct hoc nf nc hcf hfP hcP=>?_⟩⟩
     have nF:F c'=none:=r.fh.free nc
     have e1:Ext F H (upd F c' (exAt c' oc)) (upd H c' (exAt c' oc)):=Ext.newF r.fh nc
     have r1:=r.ext e1
     have hoc2:=hoc
     obtain⟨vs,t,z1,z2⟩:=hoc2
     have r2:=r1.write (o:=.tbl (#[]++#[rawInt ps.line,rawInt ps.col,.ref c'])) (y:=.loc (some a) (.tbl ps T.qual)) qd rfl s1 (by rw[zd (Ne.symm hcP)];exact g2) g3
      ⟨a,rfl,by rw[zd (Ne.symm hcP)];exact g2,g3,⟨_,zi,.inr ⟨c',oc,vs,t,by simp,zi,z1,z2⟩⟩,λb z=>by cases z;rfl⟩ rfl
     have hset:ρ.set id (some (.loc (some a) (.tbl ps T.qual)))=ρ:=by
      refine List.ext_getElem? λj=>?_
      by_cases hj:id=j
      ·subst hj;rw[List.getElem?_set_self (List.getElem?_eq_some_iff.mp qd).1,qd]
      ·rw[List.getElem?_set_ne hj]
     rw[hset] at r2
     have hH:upd (upd H c' (exAt c' oc)) a (.tbl (#[]++#[rawInt ps.line,rawInt ps.col,.ref c']))=upd (upd H a (.tbl (#[]++#[rawInt ps.line,rawInt ps.col,.ref c']))) c' (exAt c' oc):=by
      funext b
      by_cases h1:b=a
      ·subst h1;rw[zi,zd (Ne.symm hcP),zi]
      ·by_cases h2:b=c'
       ·subst h2;rw[zd h1,zi,zi]
       ·rw[zd h1,zd h2,zd h2,zd h1]
     rw[hH] at r2
     exact kk _ _ _ (own1 r2 (by rw[zd (Ne.symm hcf),zd hfP];exact nf) ⟨doc,pm,ct,rfl⟩ zi hoc) e1.ff
    ·refine⟨_,g4,?_,.inr ⟨.ref c',?_,λf doc pm ct nf=>?_⟩⟩
     ·trivial
     ·simp[codeAmong,rawInt]
     ·exact kk _ _ _ (own1 r nf ⟨doc,pm,ct,rfl⟩ h2 ⟨vs,t,h3,h4⟩) (Same.refl _)
   ·cases hg
  ·cases hg
end
end Dv
namespace Dv
open PySem PySem.Spec L2 L3 L4 L6
open PyProof.Rows hiding St
theorem Ym {F H F' H':Hp}{a c1 c2:Addr}{o1 o2:Obj}(s:Same F H)(n1:H c1=none)(n2:H c2=none)(h1:c1≠a)(h2:c2≠a)(hc:c1≠c2)(e:Ext F (without (cel H c1 c2 o1 o2) a) F' H') :
  Ext F (without H a) F' (del (del H' c1) c2)/\H' c1=some (exAt c1 o1)/\H' c2=some (exAt c2 o2):=by
 have g1:without (cel H c1 c2 o1 o2) a c1=some (exAt c1 o1):=by rw[without_ne h1,qS hc]
 have g2:without (cel H c1 c2 o1 o2) a c2=some (exAt c2 o2):=by rw[without_ne h2,jT]
 have f1:F' c1=none:=yo e (s.free n1) (by rw[g1];simp)
 have f2:F' c2=none:=yo e (s.free n2) (by rw[g2];simp)
 refine⟨⟨e.ff,λb u q=>?_,λb u q=>?_,λb q=>?_⟩,e.hh _ _ g1,e.hh _ _ g2⟩
 ·have hba:b≠a:=λz=>by rw[z,wZ] at q;cases q
  rw[without_ne hba] at q
  have b1:b≠c1:=λz=>by rw[z,n1] at q;cases q
  have b2:b≠c2:=λz=>by rw[z,n2] at q;cases q
  rw[zv b2,zv b1]
  exact e.hh b u (by rw[without_ne hba,y4 b1 b2];exact q)
 ·have b1:b≠c1:=λz=>by rw[z,f1] at q;cases q
  have b2:b≠c2:=λz=>by rw[z,f2] at q;cases q
  rw[zv b2,zv b1]
  exact e.fh b u q
 ·refine (e.nw b q).imp id λz=>?_
  by_cases hba:b=a
  ·rw[hba];exact wZ
  ·rw[without_ne hba] at z ⊢
   have b1:b≠c1:=λy=>by rw[y,qS hc] at z;cases z
   have b2:b≠c2:=λy=>by rw[y,jT] at z;cases z
   rw[y4 b1 b2] at z;exact z
structure KcA (T:Inn)(P:Program)(w:World)(K:PySem.W.Frag)(mg:Str->Option Value)(base:Heap)(x:Str)(k n:Nat)(m0:List (Key×D)->List D->List En->Option (D×List D)):Prop where
 ex:∃f fd ps m,FnOk P w K mg base CX0 k f fd ps (kSp ⟨K,w⟩ T n m)/\mg x=some (.ref f)/\keepIn K (.ref f)=true/\Binds K fd ps []/\∀f a1 kvs asked xs q,m0 kvs asked xs=some q->m f a1 kvs asked (xs++[.exn f])=some q
structure KcY (T:Inn)(P:Program)(w:World)(K:PySem.W.Frag)(mg:Str->Option Value)(base:Heap)(ca:Str->Addr)(fd1:Str)(x:Str)(k n:Nat)(m0:List (Key×D)->List D->List En->Option (Xv×List D)):Prop where
 ex:∃f fd ps m,FnOk P w K mg base (CX1 P w) k f fd ps (kySp ⟨K,w⟩ T ca fd1 n m)/\mg x=some (.ref f)/\keepIn K (.ref f)=true/\Binds K fd ps []/\∀f a1 kvs asked xs q,m0 kvs asked xs=some q->m f a1 kvs asked (xs++[.exn f])=some q
def mAll {α:Type}(m:Addr->Addr->List (Key×D)->List D->List En->Option α):List (Key×D)->List D->List En->Option α:=λkvs asked xs=>allOf λb:Addr×Addr=>m b.1 b.2 kvs asked (xs++[.exn b.1])
theorem ZP {α:Type}{m:Addr->Addr->List (Key×D)->List D->List En->Option α}:∀f a1 kvs asked xs q,mAll m kvs asked xs=some q->m f a1 kvs asked (xs++[.exn f])=some q:=λf a1 kvs asked xs q h=>YF h (f,a1)
open Classical in
def gHand {α:Type}(T:Inn)(c1 c2:Addr)(it i1 i2 n:Nat)(m0:List (Key×D)->List D->List En->Option α)(gxs:EnvD->Option (List En))(k:List D->α->EnvD->Option β):EnvD->Option β:=λρ=>match ρ[it]?,ρ[i1]?,ρ[i2]? with
 |some (some (.loc none (.fn q Φ))),some (some (.dbo kvs)),some (some (.acc ds))=>if q=T.qual/\Φ=isFn T c1 c2 then (gxs ρ).bind λxs=>if noH xs=true/\xs.length+1=n then (m0 kvs ds xs).bind λr=>k ds r ρ else none else none
 |_,_,_=>none
theorem uk {α β:Type}{T:Inn}{c1 c2:Addr}{it i1 i2 n:Nat}{m0:List (Key×D)->List D->List En->Option α}{gxs:EnvD->Option (List En)}{k:List D->α->EnvD->Option β}{ρ:EnvD}{y:β}(h:gHand T c1 c2 it i1 i2 n m0 gxs k ρ=some y) :
  ∃kvs ds xs r,ρ[it]?=some (some (.loc none (.fn T.qual (isFn T c1 c2))))/\ρ[i1]?=some (some (.dbo kvs))/\ρ[i2]?=some (some (.acc ds))/\gxs ρ=some xs/\noH xs=true/\xs.length+1=n/\m0 kvs ds xs=some r/\k ds r ρ=some y:=by
 unfold gHand at h
 split at h
 ·rename_i q Φ kvs ds q1 q2 q3
  split at h
  ·rename_i hc
   obtain⟨rfl,rfl⟩:=hc
   obtain⟨xs,q4,h⟩:=Option.bind_eq_some_iff.mp h
   split at h
   ·rename_i hn
    obtain⟨r,q5,h⟩:=Option.bind_eq_some_iff.mp h
    exact⟨kvs,ds,xs,r,q1,q2,q3,q4,hn.1,hn.2,q5,h⟩
   ·cases h
  ·cases h
 ·cases h
def sHand (T:Inn)(c1 c2:Addr)(i it i1 i2 n:Nat)(m0:List (Key×D)->List D->List En->Option (D×List D))(gxs:EnvD->Option (List En)):SD:=gHand T c1 c2 it i1 i2 n m0 gxs λ_ r ρ=>some (.next ((ρ.set i2 (some (.acc r.2))).set i (some (.val r.1))))
def yHand (T:Inn)(c1 c2:Addr)(it i1 i2 n:Nat)(m0:List (Key×D)->List D->List En->Option (Xv×List D))(gxs:EnvD->Option (List En)):EnvD->Option (EnvD×Xv):=gHand T c1 c2 it i1 i2 n m0 gxs λ_ r ρ=>some (ρ.set i2 (some (.acc r.2)),r.1)
section
variable {X:Cx}{B:Bs}{T:Inn}{c1 c2:Addr}{i it i1 i2 k n:Nat}{fx tn x:Str}{e:Expr}{es:List Expr}{gxs:EnvD->Option (List En)}{p pt q1 pos apos:Pos}{rest:List Stmt}
theorem kR {α β:Type}{R:α->β->Prop}:∀ {l l':List α} {r r':List β},Paired R l r->Paired R l' r'->Paired R (l++l') (r++r')
 | [],_,_,_,.nil,h=>h
 |_::_,_,_,_,.cons a t,h=>.cons a (kR t h)
def tA4 (K:KW)(B:Bs)(g1 g2 g3:EnvD->Option En)(it:Nat):TA:=tCons (lG K B (pN K) g1) (tCons (lG K B (pN K) g2) (tCons (lG K B (pN K) g3) (tCons (tVar it) tNil)))
theorem kY {K:KW}{g1 g2 g3:EnvD->Option En}{F H:Hp}{σ:St}{ρ:EnvD}{xs:List En}{R:List V->Hp->Prop}{f:Addr}(r:Rep K B F σ H ρ)(h:nCons g1 (nCons g2 (nCons g3 nNil)) ρ=some xs)(st:σ[it]?=some (some (.ref f)))
  (k:∀vs F' H',Ext F H F' H'->Paired (λx v=>ArgE K F' H' x v) xs vs->R (vs++[.ref f]) H'):tA4 K B g1 g2 g3 it σ H R:=by
 obtain⟨x1,y1,q1,h,e⟩:=bind2 h
 obtain⟨x2,y2,q2,h,e'⟩:=bind2 h
 obtain⟨x3,y3,q3,h,e''⟩:=bind2 h
 cases h;cases e'';cases e';cases e
 exact⟨F,ρ,x1,r,q1,λv1 F1 H1 e1 p1=>⟨F1,ρ,x2,r.ext e1,q2,λv2 F2 H2 e2 p2=>⟨F2,ρ,x3,(r.ext e1).ext e2,q3,λv3 F3 H3 e3 p3=>⟨.ref f,st,k [v1,v2,v3] F3 H3 ((e1.trans e2).trans e3) (.cons (ArgE.ext (e2.trans e3) p1) (.cons (ArgE.ext e3 p2) (.cons p3 .nil)))⟩⟩⟩⟩
theorem YW {F F1 H1:Hp}{σ:St}{ρ:EnvD}{ds:List D}{kvs:List (Key×D)}{xs:List En}{vs:List V}{o1 o2:Obj}{u1 u2:Value}{f:Addr}{v1 v2:V}(r1:Rep X.kw B F1 σ H1 ρ)(qt:ρ[it]?=some (some (.loc none (.fn T.qual (isFn T c1 c2)))))(qd:ρ[i1]?=some (some (.dbo kvs)))(ql:ρ[i2]?=some (some (.acc ds)))
  (hn:noH xs=true) (hl:xs.length+1=n) (p1:Paired (λx v=>ArgE X.kw F1 H1 x v) xs vs) (st:σ[it]?=some (some (.ref f))) (s1:σ[i1]?=some (some v1)) (s2:σ[i2]?=some (some v2)) (hc:c1≠c2)
  (d1:o1.data=.cell (some u1)) (rl1:RelV v1 u1) (d2:o2.data=.cell (some u2)) (rl2:RelV v2 u2) (n1:H1 c1=none) (n2:H1 c2=none) :
  ∃a1 ws,v2=.ref a1/\H1 a1=some (.lst ws)/\B.H0 a1=none/\c1≠a1/\c2≠a1/\kHd X.kw T n (vs++[.ref f]) (cel H1 c1 c2 o1 o2) F1 (xs++[.exn f]) f a1 kvs ds:=by
 obtain⟨w,e1,a',rfl,ft,bt,⟨o,c',oc,zs,t,g1,⟨doc,pm,ct,rfl⟩,g3,g4,g5⟩,_⟩:=r1.ents it _ qt
 rw[st] at e1;cases e1
 obtain⟨w,e1,a2,ob,kw,rfl,h1,h2⟩:=r1.ents i1 _ qd
 rw[s1] at e1;cases e1
 obtain⟨w,e1,a1,ws,rfl,h3,h4,h5,h6⟩:=r1.ents i2 _ ql
 rw[s2] at e1;cases e1
 have k1:c1≠a1:=λz=>by rw[<-z,n1] at h3;cases h3
 have k2:c2≠a1:=λz=>by rw[<-z,n2] at h3;cases h3
 have up:Same H1 (cel H1 c1 c2 o1 o2):=λb u q=>by
  rw[y4 (λz=>by rw[z,n1] at q;cases q) (λz=>by rw[z,n2] at q;cases q)];exact q
 obtain rfl:u1=Value.ref a2:=rl1
 obtain rfl:u2=Value.ref a1:=rl2
 refine⟨a1,ws,rfl,h3,h5,k1,k2,a2,ob,kw,ws,r1.fh.trans up,h4,up _ _ h3,h6,?_,up _ _ (r1.ex.hh _ _ h1),h2,by simpa using hl,?_⟩
 ·exact⟨c1,c2,c',o1,o2,oc,doc,pm,ct,up _ _ g1,up _ _ (r1.fh _ _ g3),⟨zs,t,g4,g5⟩,qS hc,d1,jT,d2,hc⟩
 ·exact kR (ja hn p1) (.cons rfl .nil)
variable {g1 g2 g3:EnvD->Option En}{e1 e2 e3:Expr}
theorem pa4 (h1:DN X B e1 g1)(h2:DN X B e2 g2)(h3:DN X B e3 g3)(ht:PE X (.Name tn pt) (tVar it))
  (s1:starEach [e1,e2,e3,.Name tn pt] X.env=(false,eval e1 X.env)::starEach [e2,e3,.Name tn pt] X.env:=by rfl) (s2:starEach [e2,e3,.Name tn pt] X.env=(false,eval e2 X.env)::starEach [e3,.Name tn pt] X.env:=by rfl)
  (s3:starEach [e3,.Name tn pt] X.env=(false,eval e3 X.env)::starEach [.Name tn pt] X.env:=by rfl):PA X [e1,e2,e3,.Name tn pt] (tA4 X.kw B g1 g2 g3 it):=zM h1 (zM h2 (zM h3 (zM ht yd) s3) s2) s1
theorem JD {y1 y2:Str}{m0:List (Key×D)->List D->List En->Option (D×List D)}(W:Cells X y1 y2 i1 i2 c1 c2)(h:KcA T X.prog X.w X.kw X.mg X.base x k n m0)(hr:Room k X.A)(hg:Gl X x)(ha:PA X [e1,e2,e3,.Name tn pt] (tA4 X.kw B g1 g2 g3 it))(hN:X.N.Nodup)(hi:X.N[i]?=some fx)(hx:Loc X.env.scope fx)
  (hdb:(x==("__debug__" : Str))=false:=by decide +kernel) (he:starEach [e1,e2,e3,.Name tn pt] X.env=(false,eval e1 X.env)::starEach [e2,e3,.Name tn pt] X.env:=by rfl) (hpl:(backTo pos (starEach [e2,e3,.Name tn pt] X.env)).any (·.1)=false:=by rfl)
  (hs:swapsWith (.Call (.Name x p) [e1,e2,e3,.Name tn pt] [] pos) (some (.Name fx q1)) apos.line X.env=pure false:=by rfl) (hf:X.fn fx=true∨X.env.scope.names.lookup fx=some .local:=by first | exact .inl rfl | exact .inr rfl | assumption) :
  DS X B (.Assign [.Name fx q1] (.Call (.Name x p) [e1,e2,e3,.Name tn pt] [] pos) apos) (sHand T c1 c2 i it i1 i2 n m0 (nCons g1 (nCons g2 (nCons g3 nNil)))):=by
 obtain⟨f0,fd,ps,m,Fo,hm,hk,hb,hall⟩:=h.ex
 refine zC (y0 hN hi hx (V5 W Fo hr hg hm hk hb (E:=λ_ _ _=>False) ha hdb he hpl) hs hf) λE σ H zz=>zz.el λF ρ fl r hg kk=>?_
 obtain⟨kvs,ds,xs,q,qt,qd,ql,qx,hn,hl,hq,hfl⟩:=uk hg
 cases hfl
 obtain⟨vt,st,at',rfl,_⟩:=r.ents it _ qt
 obtain⟨v1,s1,_⟩:=r.ents i1 _ qd
 obtain⟨v2,s2,_⟩:=r.ents i2 _ ql
 refine kY r qx st λvs F1 H1 x1 p1=>⟨v1,v2,s1,s2,λo1 o2 u1 u2 hc d1 rl1 d2 rl2 n1 n2=>?_⟩
 have r1:=r.ext x1
 obtain⟨a1,ws,rfl,hw,hb0,k1,k2,hd⟩:=YW (n:=n) (F:=F) r1 qt qd ql hn hl p1 st s1 s2 hc d1 rl1 d2 rl2 n1 n2
 refine⟨F1,_,at',a1,kvs,ds,q,hd,hall _ _ _ _ _ _ hq,λv F' H' ws' e' fa' ha' rs' rp'=>?_⟩
 obtain⟨e'',z1,z2⟩:=Ym r1.fh n1 n2 k1 k2 hc e'
 have ha'':del (del H' c1) c2 a1=some (.lst ws'):=by rw[zv (Ne.symm k2),zv (Ne.symm k1)];exact ha'
 have r2:=wA (y:=.acc q.2) r1 ql rfl s2 hb0 hw e'' fa' ha'' ⟨a1,ws',rfl,ha'',fa',hb0,rs'⟩ rfl
 exact⟨z1,z2,kk _ F' _ (r2.setv rp') (x1.ff.trans e''.ff)⟩
theorem KB {y1 y2:Str}{ca:Str->Addr}{fd1:Str}{E:St->XK}{m0:List (Key×D)->List D->List En->Option (Xv×List D)}(hp:PassS X E)(W:Cells X y1 y2 i1 i2 c1 c2)(h:KcY T X.prog X.w X.kw X.mg X.base ca fd1 x k n m0)(hr:Room k X.A)(hg:Gl X x)(ha:PA X.nox [e1,e2,e3,.Name tn pt] (tA4 X.kw B g1 g2 g3 it))(hN:X.N.Nodup)(hi:X.N[i]?=some fx)(hx:Loc X.env.scope fx)
  (hdb:(x==("__debug__" : Str))=false:=by decide +kernel) (he:starEach [e1,e2,e3,.Name tn pt] X.env=(false,eval e1 X.env)::starEach [e2,e3,.Name tn pt] X.env:=by rfl) (hpl:(backTo pos (starEach [e2,e3,.Name tn pt] X.env)).any (·.1)=false:=by rfl)
  (hs:swapsWith (.Call (.Name x p) [e1,e2,e3,.Name tn pt] [] pos) (some (.Name fx q1)) apos.line X.env=pure false:=by rfl) (hf:X.fn fx=true∨X.env.scope.names.lookup fx=some .local:=by first | exact .inl rfl | exact .inr rfl | assumption) :
  DVs X B ca fd1 E (.Assign [.Name fx q1] (.Call (.Name x p) [e1,e2,e3,.Name tn pt] [] pos) apos::rest) (yHand T c1 c2 it i1 i2 n m0 (nCons g1 (nCons g2 (nCons g3 nNil)))):=by
 obtain⟨f0,fd,ps,m,Fo,hm,hk,hb,hall⟩:=h.ex
 refine pss_imp (yi (y0 hN hi hx (V0 hp W Fo hm hk hb hr hg ha hdb he hpl) hs hf) (u:=λ_ _ _=>False) λ_ _ _ _ _ _ z=>z.elim) λD σ H zz=>zz.el λF ρ fl r hg kk=>?_
 obtain⟨kvs,ds,xs,q,qt,qd,ql,qx,hn,hl,hq,hfl⟩:=uk hg
 cases hfl
 obtain⟨vt,st,at',rfl,_⟩:=r.ents it _ qt
 obtain⟨v1,s1,_⟩:=r.ents i1 _ qd
 obtain⟨v2,s2,_⟩:=r.ents i2 _ ql
 show tA4 X.kw B g1 g2 g3 it σ H λvs H1=>rCel c1 c2 i1 i2 σ H1 λo1 o2=>kySp X.kw T ca fd1 n m vs (cel H1 c1 c2 o1 o2) (λ_ _=>False) (xCel c1 c2 o1 o2 (E σ))
 refine kY r qx st λvs F1 H1 x1 p1=>⟨v1,v2,s1,s2,λo1 o2 u1 u2 hc d1 rl1 d2 rl2 n1 n2=>?_⟩
 have r1:=r.ext x1
 obtain⟨a1,ws,rfl,hw,hb0,k1,k2,hd⟩:=YW (n:=n) (F:=F) r1 qt qd ql hn hl p1 st s1 s2 hc d1 rl1 d2 rl2 n1 n2
 refine⟨F1,_,at',a1,kvs,ds,q,hd,hall _ _ _ _ _ _ hq,λdd F' H' ws' e' fa' ha' rs' pd=>?_⟩
 obtain⟨e'',z1,z2⟩:=Ym r1.fh n1 n2 k1 k2 hc e'
 have ha'':del (del H' c1) c2 a1=some (.lst ws'):=by rw[zv (Ne.symm k2),zv (Ne.symm k1)];exact ha'
 have r2:=wA (y:=.acc q.2) r1 ql rfl s2 hb0 hw e'' fa' ha'' ⟨a1,ws',rfl,ha'',fa',hb0,rs'⟩ rfl
 refine⟨z1,z2,kk dd σ F' _ r2 (x1.ff.trans e''.ff) ?_⟩
 cases hq2:q.1.2 with
 |none=>rw[hq2] at pd;exact pd
 |some d=>
  rw[hq2] at pd
  obtain⟨dx,v,g1,g2,g3⟩:=pd
  refine⟨dx,v,g1,?_,g3⟩
  have x2:dx≠c2:=λz=>by rw[z,z2] at g2;cases g2
  have x1:dx≠c1:=λz=>by rw[z,z1] at g2;cases g2
  rw[zv x2,zv x1]
  exact g2
end
def tHd (K:KW)(Pt:Addr)(pos:Pos)(q:Str)(n:Nat)(vs:List V)(H F:Hp)(xs:List En):Prop :=
 Same F H/\F Pt=none/\RL K F H Pt (.tbl pos q)/\xs.length=n/\Paired (λx v=>ArgE K F (without H Pt) x v) xs vs
def tSp (K:KW)(Pt:Addr)(pos:Pos)(q:Str)(n:Nat)(m:Addr->Addr->List En->Option D):Sp:=λvs H Q _=>
 ∃F xs d,tHd K Pt pos q n vs H F xs/\(∀c1 c2,m c1 c2 xs=some d)/\∀v F' H',Ext F (without H Pt) F' H'->F' Pt=none->RL K F' H' Pt (.tbl pos q)->Rp K F' d v->Q v H'
def uSp (K:KW)(Pt:Addr)(pos:Pos)(q:Str)(n:Nat)(m:List En->Option D):Sp:=λvs H Q _=>
 ∃F xs d,tHd K Pt pos q n vs H F xs/\m xs=some d/\∀v F' H',Rp K F' d v->Q v H'
def isT (Pt:Addr)(pos:Pos)(q:Str)(id:Nat)(ρ:EnvD):Bool:=match ρ[id]? with
 |some (some (.loc (some b) (.tbl p' q')))=>decide (b=Pt/\p'=pos/\q'=q)
 |_=>false
theorem ub {Pt:Addr}{pos:Pos}{q:Str}{id:Nat}{ρ:EnvD}(h:isT Pt pos q id ρ=true):ρ[id]?=some (some (.loc (some Pt) (.tbl pos q))):=by
 unfold isT at h
 split at h
 ·rename_i e
  obtain⟨rfl,rfl,rfl⟩:=of_decide_eq_true h
  exact e
 ·cases h
def mirT (N:List Str)(id:Nat)(Pt:Addr)(pos:Pos)(q:Str)(g:Addr->Addr->EnvD->Option (EnvD×D)):Addr->Addr->List En->Option D:=λc1 c2 xs=>
 (g c1 c2 ((stE N (xs.map some)).set id (some (.loc (some Pt) (.tbl pos q))))).bind λr=>if isT Pt pos q id r.1=true then some r.2 else none
def mirU (N:List Str)(id:Nat)(Pt:Addr)(pos:Pos)(q:Str)(g:SD):List En->Option D:=λxs=>match g ((stE N (xs.map some)).set id (some (.loc (some Pt) (.tbl pos q)))) with
 |some (.ret (.val d))=>some d
 |_=>none
section
variable {P:Program}{w:World}{K:PySem.W.Frag}{mg:Str->Option Value}{base:Heap}{Pt:Addr}{tp:Pos}{tq:Str}
theorem tHd.rep {N:List Str}{id n:Nat}{vs:List V}{H F:Hp}{xs:List En}(h:tHd ⟨K,w⟩ Pt tp tq n vs H F xs) :
  Rep ⟨K,w⟩ ⟨F,without H Pt⟩ F ((L2.start N vs).set id (some (.ref Pt))) H ((stE N (xs.map some)).set id (some (.loc (some Pt) (.tbl tp tq)))):=by
 obtain⟨fh,fa,ha,_,hp⟩:=h
 exact uQ (vb (ps:=[]) (Zd fh fa) hp) fh fa ha
theorem tHd.len {n:Nat}{vs:List V}{H F:Hp}{xs:List En}(h:tHd ⟨K,w⟩ Pt tp tq n vs H F xs):vs.length=n:=by
 obtain⟨_,_,_,hl,hp⟩:=h
 rw[<-xy hp];exact hl
structure FunC (K:PySem.W.Frag)(x qual:Str)(st:Stmt)(f:Addr)(fd:FuncData)(cdv:Value):Prop where
 ex:∃(oc dV:Value) (od:Option Addr) (kV doc pm:Value) (an:Option Addr) (ct:Value) (osl:Array (Option Value)),
  fd=fnOf x qual (zu st) (zk st) (zb st) dV kV doc pm an cdv ct/\K.lookup f=some ⟨oc,od,.func fd,osl⟩/\codeIn K cdv qual=true
 kp:keepIn K (.ref f)=true
theorem K7 {x qual:Str}{st:Stmt}{f0:Addr}{fd:FuncData}{cdv:Value}{N ps:List Str}{dn:Str}{id k:Nat}{g:Addr->Addr->EnvD->Option (EnvD×D)}(F:FunC K x qual st f0 fd cdv)(S:FnScope N ps (zb st))(hid:N[id]?=some dn)(hdn:¬Vis (zb st) dn)
  (hb:∀(A:Around) (outer:List Env) (s:Shared) (H:Hp) (E:XK) (B:Bs),Room k (A.deeper (envOfC qual (zb st) s.heap.objs.size f0 cdv)) ->
   ∃c1 c2,DRt (cxOf CX0 P w K mg base N qual (zb st) f0 cdv A outer s H E).nox B (zk st) (g c1 c2)) :
  FnOk P w K mg base CX0 (k+1) f0 fd ps (tSp ⟨K,w⟩ Pt tp tq ps.length (mirT N id Pt tp tq g)):=by
 obtain⟨oc,dV,od,kV,doc,pm,an,ct,osl,rfl,lk,hcd⟩:=F.ex
 refine vR lk hcd S (λvs H Q E h=>?_) λA outer s H vs Q E hr h=>?_
 ·obtain⟨F,xs,d,hd,_⟩:=h
  exact hd.len
 ·obtain⟨F,xs,d,hd,hm,kk⟩:=h
  obtain⟨c1,c2,hB⟩:=hb A outer s H E ⟨F,without H Pt⟩ hr
  have hm:=hm c1 c2
  unfold mirT at hm
  obtain⟨q1,e1,e2⟩:=Option.bind_eq_some_iff.mp hm
  split at e2
  ·rename_i ht
   cases e2
   refine⟨_,(vm (X:=(cxOf CX0 P w K mg base N qual (zb st) f0 cdv A outer s H E).nox) hid hdn (.ref Pt) hB).nox,?_⟩
   refine⟨F,_,q1,hd.rep,e1,λv σ' F' H' r' s' p'=>?_⟩
   obtain⟨v',_,a,rfl,h1,h2,h3,h5⟩:=r'.ents id _ (ub ht)
   have:=h5 Pt rfl
   subst this
   exact kk v F' H' r'.ex h1 h3 p'
  ·cases e2
theorem Qx {x qual:Str}{st:Stmt}{f0:Addr}{fd:FuncData}{N ps:List Str}{dn:Str}{id k:Nat}{g:SD}(F:FunD K x qual st f0 fd)(S:FnScope N ps (zb st))(hid:N[id]?=some dn)(hdn:¬Vis (zb st) dn)
  (hb:∀(cdv:Value) (A:Around) (outer:List Env) (s:Shared) (H:Hp) (E:XK) (B:Bs),Room k (A.deeper (envOfC qual (zb st) s.heap.objs.size f0 cdv)) ->
   DSs (cxOf CX0 P w K mg base N qual (zb st) f0 cdv A outer s H E).nox B (zk st) g) :
  FnOk P w K mg base CX0 (k+1) f0 fd ps (uSp ⟨K,w⟩ Pt tp tq ps.length (mirU N id Pt tp tq g)):=by
 refine F.ok S (λvs H Q E h=>?_) (λcdv A outer s H vs Q E hr h=>?_)
 ·obtain⟨F,xs,d,hd,_⟩:=h
  exact hd.len
 ·obtain⟨F,xs,d,hd,hm,kk⟩:=h
  unfold mirU at hm
  split at hm
  ·rename_i d' e1
   cases hm
   refine⟨_,vm (X:=(cxOf CX0 P w K mg base N qual (zb st) f0 cdv A outer s H E).nox) hid hdn (.ref Pt) (hb cdv A outer s H E ⟨F,without H Pt⟩ hr),?_⟩
   exact⟨F,_,_,hd.rep,e1,λv F' H' e' p'=>kk v F' H' p'⟩
  ·cases hm
structure KxT (P:Program)(w:World)(K:PySem.W.Frag)(mg:Str->Option Value)(base:Heap)(Pt:Addr)(tp:Pos)(tq:Str)(x:Str)(k n:Nat)(m0:List En->Option D):Prop where
 ex:∃f fd ps m,FnOk P w K mg base CX0 k f fd ps (tSp ⟨K,w⟩ Pt tp tq n m)/\mg x=some (.ref f)/\keepIn K (.ref f)=true/\Binds K fd ps []/\∀xs d,m0 xs=some d->∀c1 c2,m c1 c2 xs=some d
def mAllT (m:Addr->Addr->List En->Option D):List En->Option D:=λxs=>allOf λb:Addr×Addr=>m b.1 b.2 xs
theorem UH {m:Addr->Addr->List En->Option D}:∀xs d,mAllT m xs=some d->∀c1 c2,m c1 c2 xs=some d:=λxs d h c1 c2=>YF h (c1,c2)
end
def noM:List En->Bool
 | []=>true
 |.val _::r=>noM r
 |.dbo _::r=>noM r
 |_=>false
theorem qu {K:KW}{F H:Hp}{a:Addr}{ps:Array Value}(ha:H a=some (.tbl ps)):∀ {xs:List En} {vs:List V},noM xs=true->Paired (λx v=>ArgE K F H x v) xs vs->Paired (λx v=>ArgE K F (without H a) x v) xs vs
 | [],_,_,.nil=>.nil
 |x::xs,_,h,.cons r t=>by
  cases x with
  |val d=>exact .cons r (qu ha h t)
  |dbo kvs=>
   refine .cons ?_ (qu ha h t)
   obtain⟨b,ob,vs,e1,e2,e3⟩:=r
   exact⟨b,ob,vs,e1,by rw[without_ne (Yh e2 ha λz=>nomatch z)];exact e2,e3⟩
  |_=>cases h
def sTbl (Pt:Addr)(tp:Pos)(tq:Str)(id n:Nat)(t:Tgt)(m0:List En->Option D)(gxs:EnvD->Option (List En)):SD:=λρ=>if isT Pt tp tq id ρ=true then (gxs ρ).bind λxs=>if noM xs=true/\xs.length=n then (m0 xs).bind λd=>(asgD t d ρ).map .next else none else none
section
variable {X:Cx}{B:Bs}{Pt:Addr}{tp:Pos}{tq:Str}{id k n:Nat}{x:Str}{tg e:Expr}{es:List Expr}{t:Tgt}{m0:List En->Option D}{gxs:EnvD->Option (List En)}{p pos apos:Pos}
theorem Zi (h:KxT X.prog X.w X.kw X.mg X.base Pt tp tq x k n m0)(hr:Room k X.A)(hg:Gl X x)(ha:DNs X B (e::es) gxs)(ht:PG X tg (tgT X.kw t))(hdb:(x==("__debug__" : Str))=false:=by decide +kernel)
  (he:starEach (e::es) X.env=(false,eval e X.env)::starEach es X.env:=by rfl) (hpl:(backTo pos (starEach es X.env)).any (·.1)=false:=by rfl)
  (hs:swapsWithSole [tg] (.Call (.Name x p) (e::es) [] pos) apos.line X.env=pure false:=by rfl) (hw:swappedStores [tg] (.Call (.Name x p) (e::es) [] pos) X.env=pure none:=by rfl)
  (h1:(assignEach [tg] X.env).map (·.2)=[assign tg X.env]:=by rfl):DS X B (.Assign [tg] (.Call (.Name x p) (e::es) [] pos) apos) (sTbl Pt tp tq id n t m0 gxs):=by
 obtain⟨f,fd,ps,m,Fo,hm,hk,hb,hall⟩:=h.ex
 refine zC (kB (jr Fo hr hg hm hk hb .nil pass0 ha hdb he hpl) ht hs hw h1) λE σ H zz=>zz.el λF ρ fl r hg kk=>?_
 unfold sTbl at hg
 split at hg
 ·rename_i hT
  obtain⟨xs,q1,hg⟩:=Option.bind_eq_some_iff.mp hg
  split at hg
  ·rename_i hn
   obtain⟨d,q2,hg⟩:=Option.bind_eq_some_iff.mp hg
   cases q3:asgD t d ρ with
   |none=>rw[q3] at hg;cases hg
   |some ρ'=>
    rw[q3] at hg
    cases hg
    refine⟨F,ρ,xs,r,q1,λvs F1 H1 e1 p1=>?_⟩
    have qd:=ub hT
    have r1:=r.ext e1
    obtain⟨v1,s1,a,rfl,g2,g3,g4,g6⟩:=r1.ents id _ qd
    have hca:=g6 Pt rfl
    subst hca
    have g4':=g4
    obtain⟨tb,hH,hT2⟩:=g4'
    show tSp X.kw Pt tp tq n m (vs++[]) H1 _ _
    rw[List.append_nil]
    refine⟨F1,xs,d,⟨r1.fh,g2,g4,hn.2,qu hH hn.1 p1⟩,hall _ _ q2,λv F' H' e' fa' rl' rp'=>?_⟩
    have rl2:=rl'
    obtain⟨tb',hH',_⟩:=rl2
    have r2:=wA (y:=.loc (some Pt) (.tbl tp tq)) r1 qd rfl s1 g3 hH e' fa' hH' ⟨Pt,rfl,fa',g3,rl',λb q=>by cases q;rfl⟩ rfl
    have hset:ρ.set id (some (.loc (some Pt) (.tbl tp tq)))=ρ:=by
     refine List.ext_getElem? λj=>?_
     by_cases hj:id=j
     ·subst hj;rw[List.getElem?_set_self (List.getElem?_eq_some_iff.mp qd).1,qd]
     ·rw[List.getElem?_set_ne hj]
    rw[hset] at r2
    exact wC r2 rp' q3 λσ' r3 _=>kk σ' F' H' r3 (e1.ff.trans e'.ff)
  ·cases hg
 ·cases hg
end
end Dv
namespace L6
open PySem PySem.Spec L2 L3 L4
open PyProof.Rows hiding St
theorem Kr {P:Program}{w:World}{K:PySem.W.Frag}{mg mb:Str->Option Value}{k:Nat}{fa a c Pt:Addr}{fd:FuncData}{x:Str}{sp:Sp}{s₁:Shared}{vs:List Value}{ns:List Int}
  (KX:K.In s₁.heap) (hns:s₁.heap.Ns mainGlobals mg) (hb:s₁.heap.Ns builtinsNs mb) (hbb:∀x:Str,x ≠ "__name__" -> mb x=bootBuiltins x) (hlim:s₁.heap.NoLimit)
  (hbm:∃bm ob,mg "__builtins__" = some (.ref bm)/\bm≠builtinsNs/\s₁.heap.get? bm=some ob/\ob.cls=.type "module" /\ ob.dict=some builtinsNs/\ob.data=.plain) (hg:s₁.gens=#[])
  (hPt:s₁.heap.get? Pt=some (PySem.W.tabObj #[])) (hcd:PySem.W.CodeHd s₁.heap c Pt) (hKP:K.lookup Pt=none)
  (ha:s₁.heap.get? a=some { cls:=.type "list",data:=.seq vs.toArray }) (hi:IntsAre vs ns) (hl:ns.length<=sizeLine) (hr:Room k callerA)
  (F:∀base:Heap,K.In base->base.Ns mainGlobals mg->base.BuiltinsAt mg Pt->FnOk P w K mg base CX0 k fa fd [x] sp) (hbind:∀(s:Shared) (u:Value),BindsTo s fd ⟨[u],[]⟩ [(x,u)])
  (hsp:∀H:Hp,H Pt=some (.tbl #[])->SqL K (Dv.without H Pt) a (ns.map V.int)->sp [.ref a] H (λv _=>v=.bl true) λ_ _ _=>False) :
  codeAny (model P w) callerA (.call (.ref fa) ⟨[.ref a],[]⟩) (λr s'=>r=.ok (.ret (.bool true))/\OldK s₁.heap s'.heap/\s'.os=s₁.os/\AllBare s'.gens) s₁:=by
 have rv:=uT hi
 have lenV:=hi.length
 have aP:a≠Pt:=λz=>by rw[z,hPt] at ha;cases ha
 have core:∀H:Hp,H Pt=some (.tbl #[])->SqL K (Dv.without H Pt) a (ns.map V.int)->HOk P w H s₁.heap->(∀b,H b≠none->b=Pt∨(b=a/\∃o xs,H b=some (.frz o (.lst xs))))->(H a≠none->K.lookup a=none) ->
   codeAny (model P w) callerA (.call (.ref fa) ⟨[.ref a],[]⟩) (λr s'=>r=.ok (.ret (.bool true))/\OldK s₁.heap s'.heap/\s'.os=s₁.os/\AllBare s'.gens) s₁:=by
  intro H hT hS hok hA hK
  have base_of:∀ {b:Addr} {o:Obj},s₁.heap.get? b=some o->H b=none->(hidT s₁.heap H).get? b=some o:=λe n=>Qr e n
  have no:∀ {b:Addr} {o:Obj},s₁.heap.get? b=some o->(∀z,o.data≠.fields z)->(∀z n,o.data≠.seq z n)->H b=none:=fun {b o} e d1 d2=>by
   cases q:H b with
   |none=>rfl
   |some u=>
    rcases hA b (by rw[q];simp) with rfl | ⟨rfl,_⟩
    ·rw[hPt] at e;cases e;exact absurd rfl (d1 _)
    ·rw[ha] at e;cases e;exact absurd rfl (d2 _ _)
  have noA:∀ {b:Addr} {o:Obj} {es:Array DictEntry} {ep:Nat},s₁.heap.get? b=some o->o.data=.dict es ep->H b=none:=fun {b o es ep} e d=>no e (λz q=>by rw[d] at q;cases q) λz n q=>by rw[d] at q;cases q
  have nsK:∀ {b:Addr} {m:Str->Option Value},s₁.heap.Ns b m->(hidT s₁.heap H).Ns b m:=fun {b m} ⟨o,es,ep,e,d,r⟩=>⟨o,es,ep,base_of e (noA e d),d,r⟩
  have hKb:K.In (hidT s₁.heap H):=λb o e=>base_of (KX b o e) (by
   cases q:H b with
   |none=>rfl
   |some u=>
    rcases hA b (by rw[q];simp) with rfl | ⟨rfl,_⟩
    ·rw[hKP] at e;cases e
    ·rw[hK (by rw[q];simp)] at e;cases e)
  have hM:Mod K mg (hidT s₁.heap H):=⟨hKb,nsK hns,⟨mb,nsK hb,hbb⟩,let ⟨mc,h1,h2⟩:=hlim;⟨mc,nsK h1,h2⟩⟩
  have e0:Env0 P w K mg (hidT s₁.heap H) callerA [] s₁ H:=⟨rfl,hM,λb o e=>UN e,Nat.le_of_eq (WO _ _),trivial,λb hb=>absurd (show b∈([]:List Addr) from hb) (by simp),hok,.of_eq hg⟩
  have hBA:(hidT s₁.heap H).BuiltinsAt mg Pt:=by
   obtain⟨bm,ob,b1,b2,b3,b4,b5,b6⟩:=hbm
   have n1:bm≠mainGlobals:=λq=>by
    obtain⟨o,es,ep,e,hd,_⟩:=hns
    rw[q,e] at b3;cases b3;rw[hd] at b6;cases b6
   have n2:bm≠Pt:=λq=>by rw[q,hPt] at b3;cases b3;cases b6
   exact⟨bm,ob,b1,b2,n1,n2,base_of b3 (no b3 (λz q=>by rw[b6] at q;cases q) λz n q=>by rw[b6] at q;cases q),b4,b5,b6⟩
  refine codeAny_mono ((F _ hKb (nsK hns) hBA).run callerA [] s₁ H ⟨[.ref a],[]⟩ [.ref a] [.ref a] _ _ hr e0 (hbind s₁ (.ref a)) (.cons rfl .nil) (hsp H hT hS)) λr s' h=>?_
  cases r with
  |error e=>exact False.elim h
  |ok fl=>
   cases fl with
   |next=>exact False.elim h
   |brk=>exact False.elim h
   |cont=>exact False.elim h
   |ret u=>
    obtain⟨v,H',os,bare,un,hok',r',q⟩:=h
    have q':v=.bl true:=q
    subst q'
    obtain rfl:u=Value.bool true:=r'
    refine⟨rfl,⟨λb o e=>?_,λb o e=>un.there b o e (by simp)⟩,os,bare⟩
    cases q:H b with
    |none=>exact .inl (un.keep b o e q (by intro z;exact absurd (show b∈([]:List Addr) from z) (by simp)) (by simp))
    |some u=>
     rcases hA b (by rw[q];simp) with rfl | ⟨rfl,ob,xs,z⟩
     ·obtain⟨more,z2⟩:=un.tbls b #[] hT
      have z3:s'.heap.get? b=some { cls:=.none,data:=.fields (#[]++more) }:=hok' b _ z2
      rw[hPt] at e;cases e
      exact .inr (.inl ⟨(hcd.tab hPt).isCodeTable,rfl,#[],more,rfl,z3⟩)
     ·have z2:=un.frzs b ob _ z
      obtain⟨e1,_⟩:=hok b _ z
      obtain⟨e2,_⟩:=hok' b _ z2
      rw[e] at e1;cases e1
      exact .inl e2
 cases hk:K.lookup a with
 |some o=>
  have e:=KX a o hk
  rw[ha] at e
  cases e
  refine core (λb=>if b=Pt then some (.tbl #[]) else none) (if_pos rfl) (.inr ⟨_,vs.toArray,_,hk,rfl,rfl,rfl,by rw[List.size_toArray,lenV];exact hl,by simpa using rv⟩) (λb u z=>?_) (λb z=>?_) λz=>absurd (if_neg aP) z
  ·by_cases hb:b=Pt
   ·have z':=(if_pos hb).symm.trans z
    cases z'
    subst hb
    exact hPt
   ·have z':=(if_neg hb).symm.trans z
    cases z'
  ·by_cases hb:b=Pt
   ·exact .inl hb
   ·exact absurd (if_neg hb) z
 |none=>
  refine core (λb=>if b=Pt then some (.tbl #[]) else if b=a then some (.frz { cls:=.type "list",data:=.seq vs.toArray } (.lst (ns.map V.int))) else none) (if_pos rfl) (.inl (.inr ⟨{ cls:=.type "list",data:=.seq vs.toArray },?_⟩)) (λb u z=>?_) (λb z=>?_) λ_=>hk
  ·rw[Dv.without_ne aP]
   show (if a=Pt then _ else if a=a then _ else _)=_
   rw[if_neg aP,if_pos rfl]
  ·by_cases hb:b=Pt
   ·have z':=(if_pos hb).symm.trans z
    cases z'
    subst hb
    exact hPt
   ·have z:=(if_neg hb).symm.trans z
    by_cases hb:b=a
    ·have z':=(if_pos hb).symm.trans z
     cases z'
     subst hb
     exact⟨ha,by rw[List.length_map];exact hl,vs,_,rv,ha⟩
    ·have z':=(if_neg hb).symm.trans z
     cases z'
  ·by_cases hb:b=Pt
   ·exact .inl hb
   ·by_cases hba:b=a
    ·exact .inr ⟨hba,_,_,(if_neg hb).trans (if_pos hba)⟩
    ·exact absurd ((if_neg hb).trans (if_neg hba)) z
theorem walk_ofT {l:PySem.W.OpenLaw}{n k:Nat}{q:Program}{loose:List Str}{XP:(Str->Option Value)->Heap->Prop}{YP:World->Heap->Prop}{d:DefRec}{K:Params->PySem.W.Frag}{sp:World->Sp}{x:Str}{Pt:Addr}
  (hn:l.most=some n) (hn2:n<=sizeLine) (hdf:d.params.defaults=[]) (hr:Room k callerA)
  (hY:∀(w:World) (h:Heap),YP w h->(K w.params).In h/\h.get? Pt=some (PySem.W.tabObj #[]))
  (F:∀(w:World) (mg:Str->Option Value) (fa:Addr) (h:Heap),(K w.params).In h->h.Ns mainGlobals mg->mg d.name=some (.ref fa) ->
   ∃fd:FuncData,(∃c,PySem.W.codeHdIn (K w.params) c Pt=true/\(K w.params).lookup Pt=none)/\(∀(s:Shared) (u:Value),BindsTo s fd ⟨[u],[]⟩ [(x,u)]) /\
    ∀base:Heap,(K w.params).In base->base.Ns mainGlobals mg->base.BuiltinsAt mg Pt->FnOk l.prog w (K w.params) mg base CX0 k fa fd [x] (sp w))
  (hsp:∀(w:World) (H:Hp) (a:Addr) (ns:List Int),ns.length<=n->H Pt=some (.tbl #[])->SqL (K w.params) (Dv.without H Pt) a (ns.map V.int)->sp w [.ref a] H (λv _=>v=.bl true) λ_ _ _=>False) :
  PySem.W.WalkO q loose XP YP l.row.toRowW d [] (λf vs=>PySem.call f vs):=by
 refine Att.attach_call hn hdf λw s₀ s₁ mg mb fa o pm cd doc a vs ns G Y ho hd hcd hmg hobj hints hlen hg=>?_
 obtain⟨KX,hPt⟩:=hY w _ Y
 obtain⟨fd,⟨c,hc1,hc2⟩,hb,hF⟩:=F w mg fa _ KX G.T.g hmg
 exact Kr KX G.T.g G.T.b G.T.builtins G.T.nolimit G.T.bmain hg hPt (PySem.W.codeHd_of_K KX hc1) hc2 hobj hints (Nat.le_trans hlen hn2) hr hF hb λH hT hS=>hsp w H a ns hlen hT hS
theorem J5 {scope:Scope}{p y1 y2:Str}{c1 c2:Addr}(hk:scope.kind=.function)(hco:scope.isCoroutine=false)(hg:scope.isGenerator=false)(hn:scope.names=[(p,.local),(y2,.free),(y1,.free)])
  (n1:(y1==p)=false) (n2:(y2==p)=false) (n3:(y1==y2)=false) (n4:(y2==y1)=false) (nd:[p,y1,y2].Nodup) (hc:c1≠c2):CloScope p [y1,y2] [(y1,c1),(y2,c2)] scope:=by
 refine⟨hk,hco,hg,nd,λx hx=>?_,?_,λx hx=>?_,λx h=>?_,λx y c h1 h2=>?_⟩
 ·rw[hn] at hx
  simp only[List.mem_cons,List.not_mem_nil,or_false] at hx
  rcases hx with rfl | rfl | rfl<;>simp
 ·rw[hn];simp[List.lookup]
 ·rw[hn]
  simp only[List.mem_cons,List.not_mem_nil,or_false] at hx
  rcases hx with rfl | rfl
  ·simp[List.lookup,n1,n3]
  ·simp[List.lookup,n2]
 ·rw[hn] at h
  simp only[List.lookup_cons] at h ⊢
  cases q1:x==y1 with
  |true=>exact⟨c1,rfl⟩
  |false=>
   cases q2:x==y2 with
   |true=>exact⟨c2,rfl⟩
   |false=>
    exfalso
    cases q3:x==p with
    |true=>rw[q3] at h;cases h
    |false=>rw[q3,q2,q1] at h;cases h
 ·simp only[List.lookup_cons] at h1 h2
  cases q1:x==y1 with
  |true=>
   rw[q1] at h1;cases h1
   cases q2:y==y1 with
   |true=>rw[eq_of_beq q1,eq_of_beq q2]
   |false=>
    rw[q2] at h2
    cases q3:y==y2 with
    |true=>rw[q3] at h2;cases h2;exact absurd rfl hc
    |false=>rw[q3] at h2;cases h2
  |false=>
   rw[q1] at h1
   cases q3:x==y2 with
   |false=>rw[q3] at h1;cases h1
   |true=>
    rw[q3] at h1;cases h1
    cases q2:y==y1 with
    |true=>rw[q2] at h2;cases h2;exact absurd rfl hc
    |false=>
     rw[q2] at h2
     cases q4:y==y2 with
     |true=>rw[eq_of_beq q3,eq_of_beq q4]
     |false=>rw[q4] at h2;cases h2
theorem Gv {X:Cx}{p y1 y2:Str}{q1 q2 q3 q4 q5 q6 q7 q8 q9:Pos}(h2:PE X (.Name y2 q1) (tVar 2))(h0:PE X (.Name p q3) (tVar 0))(h1:PE X (.Name y1 q6) (tVar 1))(h0':PE X (.Name p q7) (tVar 0))(hs0:NoSl (.Name p q7))
  (hbase:attributeBase (.Name y2 q1) "append" X.env (eval (.Name y2 q1) X.env)=eval (.Name y2 q1) X.env:=by rfl)
  (hfew:((backTo q4 (starEach [.Name p q3] X.env)).all (λx=>!x.1)&&(backToKw q4 (keywordEach [] X.env)).all (λx=>x.1.isSome)
   && decide (([.Name p q3]:List Expr).length+([]:List Keyword).length+(if ([]:List Keyword).isEmpty then 0 else 1) < 30))=true:=by rfl)
  (hline:(q2.endLine==q4.line)=true:=by rfl) (hs:starEach [.Name p q3] X.env=(false,eval (.Name p q3) X.env)::starEach [] X.env:=by rfl) (hplain:(backTo q4 (starEach [] X.env)).any (·.1)=false:=by rfl)
  (hsw:swapsWith (.Call (.Attribute (.Name y2 q1) "append" q2) [.Name p q3] [] q4) none q5.line X.env=pure false:=by rfl) :
  PSs X [.Expr (.Call (.Attribute (.Name y2 q1) "append" q2) [.Name p q3] [] q4) q5,.Return (some (.Subscript (.Name y1 q6) (.Name p q7) q8)) q9] (tTell X.w) :=
 Dv.pss_imp (yi (jc (kj PySem.F.plainAttrs_list PySem.F.slot_list_append PySem.F.type_list_append Yr h2 (zM h0 yd hs) hbase hfew hline hs hplain) hsw) (ZH (vj (Zc h1 h0' hs0)))) λD σ H h=>by
  obtain⟨x,a1,a2,ws,ob,kvs,v,rfl,g1,g2,g3,g4,q⟩:=h
  refine⟨.ref a1,rfl,.inl ⟨rfl,_,.of g1⟩,.str x,rfl,a1,ws,.str x,rfl,rfl,g1,g2,?_⟩
  have ne:a2≠a1:=λz=>by rw[z,g1] at g3;cases g3
  refine⟨.ref a2,rfl,.str x,rfl,a2,ob,kvs,.inr x,v,rfl,?_,rfl,g4,q⟩
  rw[zd ne];exact g3
end L6
namespace QM
variable {α:Type} [DecidableEq α]
abbrev Tk (α:Type):=α×Int
def PosQ (q:List (Tk α)):Prop:=∀t∈q,1<=t.2
def srv (m:Nat)(q:List (Tk α)):List α:=(q.take m).map (·.1)
def beh (m:Nat)(q:List (Tk α)):List (Tk α):=((q.take m).filter λt=>decide (1 < t.2)).map (λt=>(t.1,t.2 - 1))++q.drop m
def behL (m:Int):Nat->List (Tk α)->List (Tk α)
 |_,[]=>[]
 |k,t::ts=>(if 0 < (if (k:Int) < m then t.2 - 1 else t.2) then [(t.1,if (k:Int) < m then t.2 - 1 else t.2)] else [])++behL m (k+1) ts
theorem kJ {m:Int}:∀(q:List (Tk α)) (k:Nat),PosQ q->m<=k->behL m k q=q
 | [],_,_,_=>rfl
 |t::ts,k,h,hk=>by
  have h1:1<=t.2:=h t (by simp)
  have e:¬(k:Int) < m:=by omega
  simp only[behL,if_neg e]
  rw[if_pos (by omega),kJ ts (k+1) (λu hu=>h u (by simp[hu])) (by omega)]
  rfl
theorem Zo {m:Int}:∀(q:List (Tk α)) (k:Nat),PosQ q->(k:Int)<=m->behL m k q=beh (m.toNat - k) q
 | [],k,_,_=>by simp[behL,beh]
 |t::ts,k,h,hk=>by
  have ht:PosQ ts:=λu hu=>h u (by simp[hu])
  have h1:1<=t.2:=h t (by simp)
  by_cases e:(k:Int) < m
  ·have e2:m.toNat - k=(m.toNat - (k+1))+1:=by omega
   have ih:=Zo (m:=m) ts (k+1) ht (by omega)
   simp only[behL,if_pos e]
   rw[ih,e2]
   unfold beh
   simp only[List.take_succ_cons,List.drop_succ_cons,List.filter_cons]
   by_cases h2:1 < t.2
   ·rw[if_pos (by omega),if_pos (by simpa using h2)];rfl
   ·rw[if_neg (by omega),if_neg (by simpa using h2)];rfl
  ·have e2:m.toNat - k=0:=by omega
   rw[kJ (t::ts) k h (by omega),e2]
   simp[beh]
theorem kW {m:Nat}{q:List (Tk α)}(h:PosQ q):PosQ (beh m q):=by
 intro t ht
 unfold beh at ht
 rcases List.mem_append.mp ht with ht | ht
 ·obtain⟨u,hu,rfl⟩:=List.mem_map.mp ht
  have:=(List.mem_filter.mp hu).2
  simp at this
  show 1<=u.2 - 1
  omega
 ·exact h t (List.mem_of_mem_drop ht)
theorem YN {m:Nat}{q:List (Tk α)}:(beh m q).length<=q.length:=by
 unfold beh
 rw[List.length_append,List.length_map,List.length_drop]
 have:=List.length_filter_le (λt:Tk α=>decide (1 < t.2)) (q.take m)
 rw[List.length_take] at this
 omega
theorem Zk {m:Nat}{q:List (Tk α)}(P:α->Prop)(h:∀t∈q,P t.1):∀t∈beh m q,P t.1:=by
 intro t ht
 unfold beh at ht
 rcases List.mem_append.mp ht with ht | ht
 ·obtain⟨u,hu,rfl⟩:=List.mem_map.mp ht
  exact h u (List.mem_of_mem_take (List.mem_filter.mp hu).1)
 ·exact h t (List.mem_of_mem_drop ht)
def sumQ:List (Tk α)->Nat
 | []=>0
 |t::ts=>t.2.toNat+sumQ ts
theorem Wb (p q:List (Tk α)):sumQ (p++q)=sumQ p+sumQ q:=by
 induction p with
 |nil=>simp[sumQ]
 |cons t ts ih=>simp only[List.cons_append,sumQ,ih];omega
theorem Y8:∀(p:List (Tk α)),PosQ p->sumQ ((p.filter λt=>decide (1 < t.2)).map λt=>(t.1,t.2 - 1))+p.length=sumQ p
 | [],_=>rfl
 |t::ts,h=>by
  have ih:=Y8 ts λu hu=>h u (by simp[hu])
  have h1:1<=t.2:=h t (by simp)
  rw[List.filter_cons]
  by_cases h2:1 < t.2
  ·rw[if_pos (by simpa using h2)]
   simp only[List.map_cons,sumQ,List.length_cons]
   omega
  ·rw[if_neg (by simpa using h2)]
   simp only[sumQ,List.length_cons]
   omega
theorem ur {m:Nat}{q:List (Tk α)}(h:PosQ q):sumQ (beh m q)+min m q.length=sumQ q:=by
 have e:sumQ q=sumQ (q.take m)+sumQ (q.drop m):=by rw[<-Wb,List.take_append_drop]
 have h1:=Y8 (q.take m) λt ht=>h t (List.mem_of_mem_take ht)
 rw[List.length_take] at h1
 unfold beh
 rw[Wb]
 omega
theorem uW {n:Nat}{b:Int}(q:List (Tk α))(hl:q.length<=n)(h:∀t∈q,t.2<=b):sumQ q<=n * b.toNat:=by
 have:∀q:List (Tk α),(∀t∈q,t.2<=b)->sumQ q<=q.length * b.toNat:=by
  intro q
  induction q with
  |nil=>intro _;simp[sumQ]
  |cons t ts ih=>
   intro hh
   have h1:=hh t (by simp)
   have h2:=ih λu hu=>hh u (by simp[hu])
   simp only[sumQ,List.length_cons,Nat.succ_mul]
   omega
 exact Nat.le_trans (this q h) (Nat.mul_le_mul_right _ hl)
def walk (f:Int->Int):Int->List (Tk α)->List (Int×List α)->Option (List (Tk α))
 |_,q,[]=>some q
 |due,q,r::rs=>if q=[]∨r.1≠due∨r.2≠srv (f due).toNat q then none else walk f (due+1) (beh (f due).toNat q) rs
end QM
namespace Dv
open PySem PySem.Spec L2 L3 L4 QM
open PyProof.Rows hiding St
def tkD (t:Str×Int):D:=.tup [.str t.1,.int t.2]
def rnD (r:Int×List Str):D:=.tup [.int r.1,.lst (r.2.map D.str)]
abbrev Ok (x:Str):Prop:=PyData.strOk x=true
theorem yx {α:Type}{f:α->D}:∀(l:List α),toPs (l.map f)=l.map λx=>toP (f x)
 | []=>rfl
 |x::l=>by simp[toPs,yx l]
theorem vT {α:Type} [DecidableEq α]{f:α->PyData}(hf:∀x y,PyData.eqv (f x) (f y)=decide (x=y)):∀(xs ys:List α),PyData.eqvAll (xs.map f) (ys.map f)=decide (xs=ys)
 | [],[]=>rfl
 | [],_::_=>rfl
 |_::_,[]=>rfl
 |x::xs,y::ys=>by
  show (PyData.eqv (f x) (f y)&&PyData.eqvAll (xs.map f) (ys.map f))=_
  rw[hf,vT hf xs ys]
  by_cases h1:x=y<;>by_cases h2:xs=ys<;>simp[h1,h2]
theorem ZA (x y:Str):PyData.eqv (.str x) (.str y)=decide (x=y):=by
 show (x==y)=_
 by_cases h:x=y
 ·subst h;simp
 ·simp[h]
theorem Z1 (x y:Int):PyData.eqv (.int x) (.int y)=decide (x=y):=by
 show (x==y)=_
 by_cases h:x=y
 ·subst h;simp
 ·simp[h]
theorem kI (xs ys:List Str):PyData.eqv (toP (.lst (xs.map D.str))) (toP (.lst (ys.map D.str)))=decide (xs=ys):=by
 show PyData.eqvAll (toPs (xs.map D.str)) (toPs (ys.map D.str))=_
 rw[yx,yx]
 exact vT (f:=PyData.str) ZA xs ys
theorem Q5 (x y:Str×Int):PyData.eqv (toP (tkD x)) (toP (tkD y))=decide (x=y):=by
 show (PyData.eqv (.str x.1) (.str y.1)&&(PyData.eqv (.int x.2) (.int y.2)&&true))=_
 rw[ZA,Z1]
 obtain⟨a,b⟩:=x
 obtain⟨c,d⟩:=y
 by_cases h1:a=c<;>by_cases h2:b=d<;>simp[h1,h2]
theorem QJ (xs ys:List (Str×Int)):PyData.eqv (toP (.lst (xs.map tkD))) (toP (.lst (ys.map tkD)))=decide (xs=ys):=by
 show PyData.eqvAll (toPs (xs.map tkD)) (toPs (ys.map tkD))=_
 rw[yx,yx]
 exact vT (f:=λx=>toP (tkD x)) Q5 xs ys
theorem Jv (x y:Int×List Str):PyData.eqv (toP (rnD x)) (toP (rnD y))=decide (x=y):=by
 show (PyData.eqv (.int x.1) (.int y.1)&&(PyData.eqv (toP (.lst (x.2.map D.str))) (toP (.lst (y.2.map D.str)))&&true))=_
 rw[kI,Z1]
 obtain⟨a,b⟩:=x
 obtain⟨c,d⟩:=y
 by_cases h1:a=c<;>by_cases h2:b=d<;>simp[h1,h2]
theorem Ge (xs ys:List (Int×List Str)):PyData.eqv (toP (.lst (xs.map rnD))) (toP (.lst (ys.map rnD)))=decide (xs=ys):=by
 show PyData.eqvAll (toPs (xs.map rnD)) (toPs (ys.map rnD))=_
 rw[yx,yx]
 exact vT (f:=λx=>toP (rnD x)) Jv xs ys
theorem YS {α:Type}{f:α->PyData}:∀(xs:List α),(∀x∈xs,PyData.canLay0 (f x)=true)->PyData.canLayAll0 (xs.map f)=true
 | [],_=>rfl
 |x::xs,h=>by
  show (PyData.canLay0 (f x)&&PyData.canLayAll0 (xs.map f))=true
  rw[h x (by simp),YS xs λy hy=>h y (by simp[hy])];rfl
theorem uh {α:Type}{f:α->PyData}{n:Nat}:∀(xs:List α),(∀x∈xs,PyData.depth (f x)<=n)->PyData.depthAll (xs.map f)<=n
 | [],_=>Nat.zero_le _
 |x::xs,h=>by
  have h1:=h x (by simp)
  have h2:=uh xs λy hy=>h y (by simp[hy])
  show max (PyData.depth (f x)) (PyData.depthAll (xs.map f))<=n
  omega
def Lay (n:Nat)(d:D):Prop:=(toP d).canLay0=true/\(toP d).depth<=n
theorem Lay.ok {n:Nat}{d:D}(h:Lay n d)(hn:n<=64):eqOk d=true:=by
 unfold eqOk SeqAt.shaped
 rw[h.1]
 simpa using Nat.le_trans h.2 hn
theorem V7 {x:Str}(h:Ok x):Lay 0 (.str x):=⟨h,Nat.le_refl _⟩
theorem qv {α:Type}{f:α->D}{n:Nat}{xs:List α}(h:∀x∈xs,Lay n (f x)):Lay (n+1) (.lst (xs.map f)):=by
 refine⟨?_,?_⟩
 ·show PyData.canLayAll0 (toPs (xs.map f))=true
  rw[yx];exact YS xs λx hx=>(h x hx).1
 ·show PyData.depthAll (toPs (xs.map f))+1<=n+1
  rw[yx]
  exact Nat.succ_le_succ (uh xs λx hx=>(h x hx).2)
theorem UG {t:Str×Int}(h:Ok t.1):Lay 1 (tkD t):=by
 refine⟨?_,?_⟩
 ·show (PyData.canLay0 (.str t.1)&&(PyData.canLay0 (.int t.2)&&true))=true
  rw[show PyData.canLay0 (.str t.1)=true from h];rfl
 ·show max 0 (max 0 0)+1<=1;omega
theorem ki {xs:List Str}(h:∀x∈xs,Ok x):Lay 1 (.lst (xs.map D.str)):=qv λx hx=>V7 (h x hx)
theorem Yi {q:List (Str×Int)}(h:∀t∈q,Ok t.1):Lay 2 (.lst (q.map tkD)):=qv λt ht=>UG (h t ht)
theorem Gj {r:Int×List Str}(h:∀x∈r.2,Ok x):Lay 2 (rnD r):=by
 obtain⟨h1,h2⟩:=ki h
 refine⟨?_,?_⟩
 ·show (PyData.canLay0 (.int r.1)&&((toP (.lst (r.2.map D.str))).canLay0&&true))=true
  rw[h1];rfl
 ·show max 0 (max ((toP (.lst (r.2.map D.str))).depth) 0)+1<=2;omega
theorem Y9 {rs:List (Int×List Str)}(h:∀r∈rs,∀x∈r.2,Ok x):Lay 3 (.lst (rs.map rnD)):=qv λr hr=>Gj (h r hr)
theorem jI {neg:Bool}{x y:D}{n m:Nat}{b:Bool}(hx:Lay n x)(hy:Lay m y)(hn:n<=64)(hm:m<=64)(e:PyData.eqv (toP x) (toP y)=b):fEq neg x y=some (.bl (if neg then !b else b)):=by
 unfold fEq eqD
 rw[hx.ok hn,hy.ok hm,e];rfl
theorem Yn {neg:Bool}{xs ys:List Str}(hx:∀x∈xs,Ok x)(hy:∀x∈ys,Ok x):fEq neg (.lst (xs.map D.str)) (.lst (ys.map D.str))=some (.bl (if neg then !decide (xs=ys) else decide (xs=ys))) :=
 jI (ki hx) (ki hy) (by decide) (by decide) (kI xs ys)
theorem Vq {neg:Bool}{xs ys:List (Str×Int)}(hx:∀x∈xs,Ok x.1)(hy:∀x∈ys,Ok x.1):fEq neg (.lst (xs.map tkD)) (.lst (ys.map tkD))=some (.bl (if neg then !decide (xs=ys) else decide (xs=ys))) :=
 jI (Yi hx) (Yi hy) (by decide) (by decide) (QJ xs ys)
theorem jy {neg:Bool}{xs:List (Str×Int)}(hx:∀x∈xs,Ok x.1):fEq neg (.lst (xs.map tkD)) (.lst [])=some (.bl (if neg then !decide (xs=[]) else decide (xs=[]))):=Vq (ys:=[]) hx (by simp)
theorem Zf {neg:Bool}{xs ys:List (Int×List Str)}(hx:∀r∈xs,∀x∈r.2,Ok x)(hy:∀r∈ys,∀x∈r.2,Ok x):fEq neg (.lst (xs.map rnD)) (.lst (ys.map rnD))=some (.bl (if neg then !decide (xs=ys) else decide (xs=ys))) :=
 jI (Y9 hx) (Y9 hy) (by decide) (by decide) (Ge xs ys)
end Dv
namespace QM
variable {α:Type} [DecidableEq α]
inductive Run (f:Int->Int):Int->List (Tk α)->List (Int×List α)->Prop
 |nil (x:Int):Run f x [] []
 |cons {x:Int} {q:List (Tk α)} {rs:List (Int×List α)}:q≠[]->Run f (x+1) (beh (f x).toNat q) rs->Run f x q ((x,srv (f x).toNat q)::rs)
variable {f:Int->Int}{x:Int}{q q':List (Tk α)}{rows rows' tl:List (Int×List α)}{v:α}
def nms (q:List (Tk α)):List α:=q.map (·.1)
end QM
namespace Dv
open PySem PySem.Spec L2 L3 L4 QM
open PyProof.Rows hiding St
def mk (l:List Nat):Str:=⟨l.toArray⟩
theorem uF {a b:List Nat}(h:mk a=mk b):a=b:=by
 have:a.toArray=b.toArray:=congrArg Str.cps h
 simpa using this
theorem kn (a b:List Nat):mk a++mk b=mk (a++b):=by
 show (⟨a.toArray++b.toArray⟩:Str)=⟨(a++b).toArray⟩
 simp
theorem jn (l:List Nat):(mk l).length=l.length:=by simp[mk,Str.length]
theorem Va {l:List Nat}{a:Int}(h:l.length<=TOP)(h1:0<=a)(h2:a < l.length):fItem (.str (mk l)) (.int a)=some (.str (mk [l.getD a.toNat 0])):=by
 rw[uC,if_pos (by rw[jn];exact h)]
 obtain⟨v,e1,e2⟩:=uN (xs:=l) h1 h2
 have e3:l.getD a.toNat 0=v:=by rw[List.getD_eq_getElem?_getD,e2];rfl
 rw[e3,show (mk l).cps.toList=l by simp[mk],e1]
 rfl
theorem Yp {l:List Nat}{k:Int}(h1:0<=k)(h2:k<=l.length):Txt.slice (mk l) none (some k)=mk (l.take k.toNat):=by
 have e:=slice_closes_to (x:=mk l) (j:=k) ⟨h1,by simp[mk];exact h2⟩
 have e:=eq_of_beq e
 rw[e]
 simp[mk]
theorem Ys:∀(rest:List (List Nat)) (acc:List Nat),((rest.map mk).foldl (λacc p=>acc++("" : Str).cps++p.cps) acc.toArray)=(acc++rest.flatten).toArray
 | [],acc=>by simp
 |l::rest,acc=>by
  have e:("" : Str).cps=#[]:=by decide +kernel
  rw[List.map_cons,List.foldl_cons,e]
  have e2:acc.toArray++#[]++(mk l).cps=(acc++l).toArray:=by simp[mk]
  rw[e2]
  have ih:=Ys rest (acc++l)
  rw[e] at ih
  rw[ih];simp
theorem W1:∀(ls:List (List Nat)),Txt.join "" (ls.map mk)=mk ls.flatten
 | []=>by
  show (Builtin.Str.glued "" []:Str)=mk []
  decide +kernel
 |l::ls=>by
  show (⟨((ls.map mk)).foldl (λacc p=>acc++("" : Str).cps++p.cps) (mk l).cps⟩:Str)=mk (l::ls).flatten
  have:=Ys ls l
  rw[show (mk l).cps=l.toArray from rfl,this]
  rfl
def SIGNS:Str := "abcdefghijklmnopqrstuvwxyz0123456789"
def S36:List Nat:=[97,98,99,100,101,102,103,104,105,106,107,108,109,110,111,112,113,114,115,116,117,118,119,120,121,122,48,49,50,51,52,53,54,55,56,57]
theorem Qo:SIGNS=mk S36:=by decide +kernel
def sg (a:Int):Nat:=S36.getD a.toNat 0
theorem vM {a:Int}(h1:0<=a)(h2:a < 36):fItem (.str SIGNS) (.int a)=some (.str (mk [sg a])):=by
 rw[Qo]
 have hl:(S36.length:Int)=36:=by decide
 exact Va (by decide) h1 (by omega)
theorem ZX {a:Int}(h1:0<=a)(h2:a < 36):sg a∈S36:=by
 unfold sg
 have hl:S36.length=36:=by decide
 have:a.toNat < S36.length:=by omega
 rw[List.getD_eq_getElem?_getD,List.getElem?_eq_getElem this]
 exact List.getElem_mem _
theorem YZ {a:Int}(h1:0<=a)(h2:a < 26):sg a∈S36.take 26:=by
 unfold sg
 have hl:(S36.take 26).length=26:=by decide
 have h3:a.toNat < (S36.take 26).length:=by omega
 have e:S36.getD a.toNat 0=(S36.take 26)[a.toNat]:=by
  rw[List.getD_eq_getElem?_getD]
  have:S36[a.toNat]?=(S36.take 26)[a.toNat]?:=by rw[List.getElem?_take];rw[if_pos (by omega)]
  rw[this,List.getElem?_eq_getElem h3];rfl
 rw[e]
 exact List.getElem_mem _
theorem YA {a b:Int}(h1:0<=a)(h2:a < 36)(h3:0<=b)(h4:b < 36)(e:sg a=sg b):a=b:=by
 unfold sg at e
 have hl:S36.length=36:=by decide
 have ha:a.toNat < S36.length:=by omega
 have hb:b.toNat < S36.length:=by omega
 rw[List.getD_eq_getElem?_getD,List.getD_eq_getElem?_getD,List.getElem?_eq_getElem ha,List.getElem?_eq_getElem hb] at e
 have nd:S36.Nodup:=by decide +kernel
 have:=(List.getElem_inj nd).mp e
 omega
def NameOk (x:Str):Prop:=∃c cs,x=mk (c::cs)/\c∈S36.take 26/\(∀d∈cs,d∈S36)/\cs.length<=7
theorem Jw {l:List Nat}(h:∀d∈l,d∈S36):Ok (mk l):=by
 show (mk l).cps.all (· < 0x110000)=true
 rw[Array.all_eq_true']
 intro c hc
 have hc:c∈l:=by simpa[mk] using hc
 have:=h c hc
 have all:S36.all (λc=>decide (c < 0x110000))=true:=by decide
 exact List.all_eq_true.mp all c this
theorem NameOk.ok {x:Str}(h:NameOk x):Ok x:=by
 obtain⟨c,cs,rfl,h1,h2,_⟩:=h
 exact Jw λd hd=>by
  rcases List.mem_cons.mp hd with rfl | hd
  ·exact List.mem_of_mem_take h1
  ·exact h2 d hd
end Dv
namespace HM
abbrev Row:=Int×Int
def Pos (l:List Row):Prop:=∀r∈l,0 < r.1/\0<=r.2
def atR (rest:Int):List Row->Int->Int
 | [],_=>rest
 |r::rs,x=>if x < r.1 then r.2 else atR rest rs (x - r.1)
def total:List Row->Int
 | []=>0
 |r::rs=>r.1+total rs
def nextC (rest:Int):List Row->Int
 | []=>rest
 |r::_=>r.2
def kstep (acc:List Row)(r:Row):List Row:=match acc.getLast? with
 |some q=>if q.2=r.2 then acc.dropLast++[(q.1+r.1,r.2)] else acc++[r]
 |none=>acc++[r]
def kend (rest:Int)(k:List Row):List Row:=match k.getLast? with
 |some q=>if q.2=rest then k.dropLast else k
 |none=>k
def krows (rest:Int)(rs:List Row):List Row:=kend rest (rs.foldl kstep [])
def Norm (rest:Int):List Row->Prop
 | []=>True
 |r::rs=>nextC rest rs≠r.2/\Norm rest rs
theorem Pos.app {l m:List Row}:Pos (l++m)↔Pos l/\Pos m:=by
 constructor
 ·intro h;exact⟨λr hr=>h r (by simp[hr]),λr hr=>h r (by simp[hr])⟩
 ·intro ⟨h1,h2⟩ r hr
  rcases List.mem_append.mp hr with h | h
  ·exact h1 r h
  ·exact h2 r h
theorem Pos.cons {r:Row}{m:List Row}:Pos (r::m)↔(0 < r.1/\0<=r.2)/\Pos m:=by
 constructor
 ·intro h;exact⟨h r (by simp),λq hq=>h q (by simp[hq])⟩
 ·intro ⟨h1,h2⟩ q hq
  rcases List.mem_cons.mp hq with rfl | h
  ·exact h1
  ·exact h2 q h
theorem Pos.nil:Pos []:=λ_ h=>by cases h
def Inv (acc:List Row):Prop:=acc=[]∨∃pre a c,acc=pre++[(a,c)]/\Norm c pre
structure Same {α:Type}(rest:Int)(Φ:List Row->α):Prop where
 merge:∀pre a b c tl,Pos pre->Pos tl->0 < a->0 < b->Φ (pre++(a,c)::(b,c)::tl)=Φ (pre++(a+b,c)::tl)
 drop:∀pre a,Pos pre->0 < a->Φ (pre++[(a,rest)])=Φ pre
theorem xW {α:Type}{rest:Int}{Φ:List Row->α}(S:Same rest Φ):∀(rs acc:List Row),Pos acc->Pos rs->Φ (rs.foldl kstep acc)=Φ (acc++rs)/\Pos (rs.foldl kstep acc)
 | [],acc,h,_=>by simp[h]
 |r::rs,acc,h,hr=>by
  obtain⟨h1,h2⟩:=Pos.cons.mp hr
  rcases List.eq_nil_or_concat acc with rfl | ⟨pre,q,rfl⟩
  ·obtain⟨e,p⟩:=xW S rs [r] (Pos.cons.mpr ⟨h1,Pos.nil⟩) h2
   exact⟨by simpa[kstep] using e,by simpa[kstep] using p⟩
  ·rw[List.concat_eq_append] at h ⊢
   obtain⟨hp,hq⟩:=Pos.app.mp h
   have hq:=(Pos.cons.mp hq).1
   have hk:kstep (pre++[q]) r=if q.2=r.2 then pre++[(q.1+r.1,r.2)] else pre++[q]++[r]:=by
    unfold kstep;rw[List.getLast?_concat];simp only[List.dropLast_concat]
   rw[List.foldl_cons,hk]
   by_cases e:q.2=r.2
   ·rw[if_pos e]
    obtain⟨e1,p⟩:=xW S rs (pre++[(q.1+r.1,r.2)]) (Pos.app.mpr ⟨hp,Pos.cons.mpr ⟨⟨by show 0 < q.1+r.1;omega,h1.2⟩,Pos.nil⟩⟩) h2
    refine⟨?_,p⟩
    rw[e1]
    have:=S.merge pre q.1 r.1 r.2 rs hp h2 hq.1 h1.1
    have hq':q=(q.1,r.2):=by rw[<-e]
    rw[hq']
    simpa using this.symm
   ·rw[if_neg e]
    obtain⟨e1,p⟩:=xW S rs (pre++[q]++[r]) (Pos.app.mpr ⟨h,Pos.cons.mpr ⟨h1,Pos.nil⟩⟩) h2
    exact⟨by rw[e1];simp,p⟩
theorem KG {α:Type}{rest:Int}{Φ:List Row->α}(S:Same rest Φ)(rs:List Row)(h:Pos rs):Φ (krows rest rs)=Φ rs:=by
 obtain⟨e,p⟩:=xW S rs [] Pos.nil h
 rw[List.nil_append] at e
 rw[<-e]
 unfold krows kend
 rcases List.eq_nil_or_concat (rs.foldl kstep []) with h0 | ⟨pre,q,h0⟩
 ·rw[h0];rfl
 ·rw[List.concat_eq_append] at h0
  rw[h0] at p ⊢
  rw[List.getLast?_concat]
  simp only[List.dropLast_concat]
  by_cases c:q.2=rest
  ·rw[if_pos c]
   obtain⟨hp,hq⟩:=Pos.app.mp p
   have hq':q=(q.1,rest):=by rw[<-c]
   rw[hq']
   exact (S.drop pre q.1 hp (Pos.cons.mp hq).1.1).symm
  ·rw[if_neg c]
theorem Qz (rest:Int)(rs:List Row)(h:Pos rs):Pos (krows rest rs):=by
 obtain⟨_,p⟩:=xW (rest:=rest) (Φ:=λ_=>()) ⟨λ_ _ _ _ _ _ _ _ _=>rfl,λ_ _ _ _=>rfl⟩ rs [] Pos.nil h
 unfold krows kend
 rcases List.eq_nil_or_concat (rs.foldl kstep []) with h0 | ⟨pre,q,h0⟩
 ·rw[h0];exact Pos.nil
 ·rw[List.concat_eq_append] at h0
  rw[h0] at p ⊢
  rw[List.getLast?_concat]
  simp only[List.dropLast_concat]
  by_cases c:q.2=rest
  ·rw[if_pos c];exact (Pos.app.mp p).1
  ·rw[if_neg c];exact p
theorem ZG (acc:List Row)(r:Row):(kstep acc r).length<=acc.length+1:=by
 unfold kstep
 split
 ·split
  ·simp
  ·simp
 ·simp
theorem Za:∀(rs acc:List Row),(rs.foldl kstep acc).length<=acc.length+rs.length
 | [],acc=>by simp
 |r::rs,acc=>by
  have h1:=Za rs (kstep acc r)
  have h2:=ZG acc r
  rw[List.foldl_cons];simp only[List.length_cons];omega
theorem VV (rest:Int)(rs:List Row):(krows rest rs).length<=rs.length:=by
 have:=Za rs []
 simp only[List.length_nil,Nat.zero_add] at this
 unfold krows kend
 split
 ·split
  ·simp;omega
  ·exact this
 ·exact this
theorem JL (rest x:Int):Same rest λl=>atR rest l x:=by
 refine⟨λpre a b c tl hp ht ha hb=>?_,λpre a hp ha=>?_⟩
 ·show atR rest _ x=atR rest _ x
  induction pre generalizing x with
  |nil=>
   simp only[List.nil_append,atR]
   by_cases h:x < a
   ·rw[if_pos h,if_pos (by omega)]
   ·rw[if_neg h]
    by_cases h2:x - a < b
    ·rw[if_pos h2,if_pos (by omega)]
    ·rw[if_neg h2,if_neg (by omega)];congr 1;omega
  |cons r rs ih=>simp only[List.cons_append,atR];rw[ih _ (Pos.cons.mp hp).2]
 ·show atR rest _ x=atR rest _ x
  induction pre generalizing x with
  |nil=>simp only[List.nil_append,atR];split<;>rfl
  |cons r rs ih=>simp only[List.cons_append,atR];rw[ih _ (Pos.cons.mp hp).2]
theorem ux:∀ {l:List Row},Pos l->0<=total l
 | [],_=>Int.le_refl _
 |q::qs,hq=>by have:=ux (Pos.cons.mp hq).2;have:=(Pos.cons.mp hq).1.1;simp only[total];omega
theorem jo:∀(l m:List Row),total (l++m)=total l+total m
 | [],m=>by simp[total]
 |r::rs,m=>by simp only[List.cons_append,total,jo rs m];omega
end HM
namespace Dv
open PySem PySem.Spec L2 L3 L4 QM
open PyProof.Rows hiding St
abbrev SI:=List (Str×Int)
def kv (q:SI):List (Key×D):=q.map λt=>(.inr t.1,.int t.2)
def lookS (q:SI)(x:Str):Option Int:=(q.find? λt=>decide (t.1=x)).map (·.2)
def putS (q:SI)(x:Str)(v:Int):SI:=if (q.any λt=>decide (t.1=x))=true then q.map (λt=>if t.1=x then (t.1,v) else t) else q++[(x,v)]
theorem Zs (q:SI):(kv q).length=q.length:=by simp[kv]
theorem ko (x:Str):∀q:SI,lookD (kv q) (.inr x)=(lookS q x).map D.int
 | []=>rfl
 |t::q=>by
  have ih:=ko x q
  unfold lookD lookS kv at ih ⊢
  by_cases h:t.1=x
  ·simp[h]
  ·simp[h] at ih ⊢;exact ih
theorem UX (x:Str)(q:SI):((kv q).any λp=>decide (p.1=.inr x))=(q.any λt=>decide (t.1=x)):=by
 induction q with
 |nil=>rfl
 |cons t q ih=>
  show (decide ((Sum.inr t.1:Key)=.inr x)||_)=_
  rw[List.any_cons]
  unfold kv at ih
  rw[ih]
  congr 1
  by_cases h:t.1=x<;>simp[h]
theorem WJ (x:Str)(v:Int)(q:SI):putD (kv q) (.inr x) (.int v)=kv (putS q x v):=by
 unfold putD putS
 rw[UX]
 split
 ·unfold kv
  rw[List.map_map,List.map_map]
  refine List.map_congr_left λt _=>?_
  by_cases h:t.1=x<;>simp[h]
 ·simp[kv]
def keysS (q:SI):List Str:=q.map (·.1)
theorem ve (t:Str×Int)(d:SI)(x:Str):lookS (t::d) x=if t.1=x then some t.2 else lookS d x:=by
 unfold lookS
 by_cases h:t.1=x<;>simp[h]
theorem KC {d:SI}{x:Str}{v:Int}(h:x∈keysS d):putS d x v=d.map λt=>if t.1=x then (t.1,v) else t:=by
 unfold putS
 rw[if_pos]
 simpa[keysS,List.any_eq_true] using h
theorem Qv {d:SI}{x:Str}{v:Int}(h:x∉keysS d):(d.map λt=>if t.1=x then (t.1,v) else t)=d:=by
 induction d with
 |nil=>rfl
 |cons t d ih=>
  simp[keysS] at h
  have:t.1≠x:=λz=>h.1 z.symm
  simp[this]
  have:=ih (by simpa[keysS] using h.2)
  simpa using this
end Dv
namespace QM
variable {α:Type} [DecidableEq α]
inductive Eas:List (Tk α)->List (Tk α)->Prop
 |nil:Eas [] []
 |skip {t:Tk α} {p q:List (Tk α)}:Eas p q->Eas p (t::q)
 |keep {n:α} {a b:Int} {p q:List (Tk α)}:b<=a->Eas p q->Eas ((n,b)::p) ((n,a)::q)
def val (q:List (Tk α))(n:α):Int:=((q.find? λt=>decide (t.1=n)).map (·.2)).getD 0
variable {f g:Int->Int}
end QM
namespace Dv
open PySem PySem.Spec L2 L3 L4 QM
open PyProof.Rows hiding St
theorem vJ {d:SI}{x:Str}{v:Int}(h:x∉keysS d):putS d x v=d++[(x,v)]:=by
 unfold putS
 rw[if_neg]
 intro z
 apply h
 simpa[keysS,List.any_eq_true] using z
theorem ud (d:SI)(x y:Str)(v:Int):lookS (putS d x v) y=if x=y then some v else lookS d y:=by
 by_cases hx:x∈keysS d
 ·rw[KC hx]
  induction d with
  |nil=>cases hx
  |cons t d ih=>
   rw[List.map_cons,ve,ve]
   by_cases e:t.1=x
   ·rw[if_pos e]
    by_cases e2:x=y
    ·simp[e,e2]
    ·have:¬t.1=y:=λz=>e2 (e.symm.trans z)
     simp only[if_neg e2,if_neg this]
     by_cases hx':x∈keysS d
     ·rw[ih hx',if_neg e2]
     ·rw[Qv hx']
   ·rw[if_neg e]
    have hx':x∈keysS d:=by simpa[keysS,Ne.symm e] using hx
    rw[ih hx']
    by_cases e2:x=y
    ·have:¬t.1=y:=λz=>e (z.trans e2.symm)
     simp[e2,this]
    ·simp[e2]
 ·rw[vJ hx]
  have:∀d:SI,x∉keysS d->lookS (d++[(x,v)]) y=if x=y then some v else lookS d y:=by
   intro d
   induction d with
   |nil=>intro _;simp[ve]
   |cons t d ih=>
    intro h
    have h1:¬x=t.1/\x∉keysS d:=by simpa[keysS] using h
    rw[List.cons_append,ve,ve,ih h1.2]
    by_cases e2:x=y
    ·have:¬t.1=y:=λz=>h1.1 (e2.trans z.symm)
     simp[e2,this]
    ·simp[e2]
  exact this d hx
variable {f:Int->Int}
def ra (f:Int->Int):Int->SI->Nat->List (Int×List Str)
 |_,_,0=>[]
 |x,A,k+1=>(x,srv (f x).toNat A)::ra f (x+1) (beh (f x).toNat A) k
def hb (rows:List (Int×List Str))(n:Str)(t:Int):Nat:=(rows.filter λr=>decide (r.1<=t)&&decide (n∈r.2)).length
end Dv
namespace Dv
open PySem PySem.Spec L2 L3 L4
open PyProof.Rows hiding St
section
variable {i:Nat}{g:EnvD->Option D}{gl gi:EnvD->Option (List D)}{gk:EnvD->Option (List (Key×D))}{gb:EnvD->Option Bool}{b s1 s2:SD}{ρ ρ':EnvD}{d:D}{ds:List D}{kvs:List (Key×D)}{r:Option Fl}{t:Tgt}
theorem xB (h:g ρ=some d)(k:b (ρ.set i (some (.val d)))=r):sSeq (sSet i g) b ρ=r:=by
 rw[<-k]
 show thenB ((g ρ).map λd=>Fl.next (ρ.set i (some (.val d)))) b=_
 rw[h];rfl
theorem UO (h:gl ρ=some ds)(k:b (ρ.set i (some (.acc ds)))=r):sSeq (sSetA i gl) b ρ=r:=by
 rw[<-k]
 show thenB ((gl ρ).map λd=>Fl.next (ρ.set i (some (.acc d)))) b=_
 rw[h];rfl
theorem Q6 (h:gk ρ=some kvs)(k:b (ρ.set i (some (.dct none kvs)))=r):sSeq (sSetD i gk) b ρ=r:=by
 rw[<-k]
 show thenB ((gk ρ).map λd=>Fl.next (ρ.set i (some (.dct none d)))) b=_
 rw[h];rfl
theorem VB (h:gi ρ=some ds)(h2:forD t s1 ds ρ=some (.next ρ'))(k:b ρ'=r):sSeq (sFor t gi s1) b ρ=r:=by
 rw[<-k]
 show thenB ((gi ρ).bind λds=>forD t s1 ds ρ) b=_
 rw[h]
 show thenB (forD t s1 ds ρ) b=_
 rw[h2];rfl
theorem Z0 (h:gb ρ=some false)(k:b ρ=r):sSeq (sIf gb s1 sNext) b ρ=r:=by
 rw[<-k]
 show thenB ((gb ρ).bind λc=>if c then s1 ρ else sNext ρ) b=_
 rw[h];rfl
end
end Dv
namespace QX
open PySem PySem.StrLaws PySem.Builtin PySem.Builtin.Str
end QX
namespace QX
end QX
namespace My
open PySem PySem.Spec L2 L3 L4 L6 Dv
open PyProof.Rows hiding St
def top (i:Nat):Stmt:=PySem.Challenge.pw_latestturn_k23_real_services.main.body.getD i (.Pass ⟨0,0,0,0⟩)
abbrev wo:Stmt:=top 9
abbrev wa:Stmt:=top 10
abbrev xK:Stmt:=top 11
abbrev xu:Stmt:=top 12
abbrev xG:Stmt:=top 13
abbrev xP:Stmt:=top 14
abbrev wy:Stmt:=Zh (top 15) 0
abbrev wk:Stmt:=Zh (top 15) 4
abbrev yZ:Stmt:=top 17
abbrev xf:Stmt:=top 19
abbrev yc:Stmt:=top 21
abbrev xX:Stmt:=top 23
abbrev wb:Stmt:=top 24
abbrev x9:Stmt:=top 25
abbrev yI:Stmt:=top 26
abbrev yQ:Stmt:=top 27
abbrev xq:Stmt:=top 28
abbrev wd:Stmt:=top 29
abbrev xD:Stmt:=top 30
abbrev xw:Stmt:=top 31
abbrev xN:Stmt:=top 32
abbrev we:Stmt:=top 33
abbrev yt:Stmt:=top 35
def wt:List Str:=["thing"]
def xb:SD:=(sRet (gAndV (gIs "int" (gr 0)) (gNotV (gIs "bool" (gr 0)))))
def zJ:List En->Option En:=mir wt (xb)
def vX:List Str:=["thing","low","high"]
def kg:SD:=(sRet (gAndV (gCall (len? 1 zJ) frzO (nCons (gn 0) nNil)) (g3 fLe fLe (gr 1) (gr 0) (gr 2))))
def yM:List En->Option En:=mir vX (kg)
def uJ:List Str:=["thing"]
def qw:SD:=(sSeq (sIf (gOr (gNot (gt (gIs "tuple" (gr 0)))) (gb' (g2 (fEq true) (gB fLen (gCons' (gr 0) gNil)) (gc (.int 2))))) (sRet (gc (.bl false))) sNext) (sRet (gAndV (gCall (len? 3 yM) frzO (nCons (gVal (g2 fItem (gr 0) (gc (.int 0)))) (nCons (gVal (gc (.int 1))) (nCons (gVal (gc (.int 100))) nNil)))) (gCall (len? 3 yM) frzO (nCons (gVal (g2 fItem (gr 0) (gc (.int 1)))) (nCons (gVal (gc (.int 0))) (nCons (gVal (gc (.int 8))) nNil)))))))
def wQ:List En->Option En:=mir uJ (qw)
def vk:List Str:=["rows","rest"]
def jH:EnvD->Option D:=(gCall (len? 1 wQ) frzO (nCons (gn 0) nNil))
def qK:SD:=(sSeq (sIf (gOr (gNot (gt (gIs "list" (gr 0)))) (gb' (g2 fGt (gB fLen (gCons' (gr 0) gNil)) (gc (.int 16))))) sNever sNext) (sSeq (sIf (gNot (gt (gB fAll (gCons' (gFz (gComp ["row"] [] (.name 0) tYes jH (gIt (gr 0)))) gNil)))) sNever sNext) (sIf (gNot (gt (gCall (len? 3 yM) frzO (nCons (gn 1) (nCons (gVal (gc (.int 1))) (nCons (gVal (gc (.int 8))) nNil)))))) sNever sNext)))
def wz:List En->Option En:=mir vk (qK)
def js:List Str:=["rows","rest","kept","turns","counters"]
def wF:SD:=(sIf (gAnd (gt (gr 2)) (gb' (g2 (fEq false) (g2 fItem (g2 fItem (gr 2) (gNeg (gc (.int 1)))) (gc (.int 1))) (gr 4)))) (sPut 2 (gNeg (gc (.int 1))) (gTup' (gCons' (g2 fPlus (g2 fItem (g2 fItem (gr 2) (gNeg (gc (.int 1)))) (gc (.int 0))) (gr 3)) (gCons' (gv 4) gNil)))) (sIf (gb' (g2 fGt (gr 3) (gc (.int 0)))) (sApp 2 (gTup' (gCons' (gv 3) (gCons' (gv 4) gNil)))) sNext))
def kd:SD:=(sSeq (sSetA 2 (gLst gNil)) (sSeq (sFor (.tup [3,4]) (gIt (gf 0)) wF) (sSeq (sIf (gAnd (gt (gr 2)) (gb' (g2 (fEq false) (g2 fItem (g2 fItem (gr 2) (gNeg (gc (.int 1)))) (gc (.int 1))) (gr 1)))) (sPop 2) sNext) (sRetV 2))))
def vi:List En->Option En:=mir js (kd)
def vL:List Str:=["rows","spans","start","turns","counters"]
def jY:SD:=(sSeq (sApp 1 (gTup' (gCons' (gv 2) (gCons' (g2 fPlus (gr 2) (gr 3)) (gCons' (gv 4) gNil))))) (sSet 2 (g2 fPlus (gr 2) (gr 3))))
def kA:SD:=(sSeq (sSetA 1 (gLst gNil)) (sSeq (sSet 2 (gc (.int 0))) (sSeq (sFor (.tup [3,4]) (gIt (gf 0)) jY) (sRetV 1))))
def wK:List En->Option En:=mir vL (kA)
def wV:List Str:=["self","rows","rest"]
def w5 (C:Addr):SD:=(sSeq (sExpr (gCall (len? 2 wz) frzO (nCons (gn 1) (nCons (gn 2) nNil)))) (sSeq (sFldD 0 C "kept_rest" (gv 2)) (sFldD 0 C "spans" (gCall (len? 1 wK) frzO (nCons (gVal (gCall (len? 2 vi) frzO (nCons (gn 1) (nCons (gn 2) nNil)))) nNil)))))
def wu (C:Addr):List En->Option (List Str×List D):=mirI C wV (w5 C) 0 0
def vO:List Str:=["self","turn","low","high","middle"]
def vK (C:Addr):SD:=(sSeq (sSet 4 (g2 fDiv (g2 fPlus (gr 2) (gr 3)) (gc (.int 2)))) (sIf (gb' (g2 fLt (gr 1) (g2 fItem (g2 fItem (gFld C "spans" (gv 0)) (gr 4)) (gc (.int 1))))) (sSet 3 (gv 4)) (sSet 2 (g2 fPlus (gr 4) (gc (.int 1))))))
def qi (C:Addr):SD:=(sSeq (sSet 2 (gc (.int 0))) (sSeq (sSet 3 (gB fLen (gCons' (gFld C "spans" (gv 0)) gNil))) (sSeq (sWhile (gb' (g2 fLt (gr 2) (gr 3))) (vK C)) (sRet (gIf (gb' (g2 fLt (gr 2) (gB fLen (gCons' (gFld C "spans" (gv 0)) gNil)))) (g2 fItem (g2 fItem (gFld C "spans" (gv 0)) (gr 2)) (gc (.int 2))) (gFld C "kept_rest" (gv 0)))))))
def yY (C:Addr):List En->Option En:=mir vO (qi C)
def Ze:List Str:=["queue"]
def jW:EnvD->Option D:=(gv 0)
def ku:SD:=(sRetA (gComp ["name","left"] [] (.tup [0,1]) tYes jW (gIt (gr 0))))
def wO:List En->Option En:=mir Ze (ku)
def wR:List Str:=["queue","many","served","begun"]
def j5:EnvD->Option D:=(gTup' (gCons' (gv 0) (gCons' (g2 fSub (gr 1) (gc (.int 1))) gNil)))
def qX:SD:=(sSeq (sSet 2 (gFz (gSl (gr 0) gNone (gSome (gr 1))))) (sSeq (sSet 3 (gFz (gComp ["name","left"] [] (.tup [0,1]) (gb' (g2 fGt (gr 1) (gc (.int 1)))) j5 (gIt (gr 2))))) (sRet (gTup' (gCons' (gFz (gCall (len? 1 wO) accO (nCons (gn 2) nNil))) (gCons' (gFz (g2 fCatS (gr 3) (gFz (gSl (gr 0) (gSome (gr 1)) gNone)))) gNil))))))
def yS:List En->Option En:=mir wR (qX)
def jj:List Str:=["queue","hours","begin","real","waiting","rows","turn","served"]
def xR (C:Addr):SD:=(sSeq (sSet 6 (g2 fPlus (gr 2) (gB fLen (gCons' (gr 5) gNil)))) (sSeq (sSet 7 (gCall (len? 2 yS) frzO (nCons (gn 4) (nCons (gVal (gMeth C "at" (len? 2 (yY C)) frzO (gv 1) (nCons (gn 6) nNil))) nNil)))) (sSeq (sApp 5 (gTup' (gCons' (gv 6) (gCons' (g2 fItem (gr 7) (gc (.int 0))) gNil)))) (sSet 4 (g2 fItem (gr 7) (gc (.int 1)))))))
def qe (C:Addr):SD:=(sSeq (sSet 4 (gIf (gb' (g2 (fIs false) (gr 3) (gc .non))) (gv 0) gNev)) (sSeq (sSetA 5 (gLst gNil)) (sSeq (sWhile (gt (gr 4)) (xR C)) (sRetV 5))))
def xp (C:Addr):List En->Option En:=mir jj (qe C)
def vf:List Str:=["_law_script","_law_k"]
def jb:SD:=(sSeq (sIf (gb' (g2 fLt (gr 1) (gB fLen (gCons' (gr 0) gNil)))) (sRet (g2 fItem (gr 0) (gr 1))) sNext) (sRet (gc (.int 0))))
def z9:List En->Option En:=mir vf (jb)
def jf:List Str:=["_law_cell_here","_law_k","_law_number"]
def qB:SD:=(sSeq (sSet 2 (g2 fMod (g2 fPlus (g2 fPlus (g2 fMul (g2 fMod (gr 0) (gc (.int 2147483647))) (gc (.int 48271))) (g2 fMul (gc (.int 69621)) (gr 1))) (gc (.int 7))) (gc (.int 2147483647)))) (sSeq (sSet 2 (g2 fMod (g2 fMul (gr 2) (gr 2)) (gc (.int 2147483629)))) (sRet (g2 fMod (g2 fPlus (g2 fPlus (g2 fMul (gr 2) (gr 2)) (g2 fMul (gc (.int 16807)) (gr 2))) (gc (.int 11))) (gc (.int 2147483587))))))
def yN:List En->Option En:=mir jf (qB)
def vP:List Str:=["_law_script","_law_at_here","_law_base","_law_count","_law_cell_here","_law_found","_law_k"]
def vz:SD:=(sIf (gb' (g2 (fEq false) (g2 fAnd (g2 fShr (gCall (len? 2 z9) frzO (nCons (gn 0) (nCons (gVal (gc (.int 0))) nNil))) (g2 fMod (gr 1) (gc (.int 8)))) (gc (.int 1))) (gc (.int 0)))) (sSeq (sApp 5 (g2 fMod (gr 4) (gr 2))) (sSet 4 (g2 fDiv (gr 4) (gr 2)))) (sApp 5 (g2 fMod (g2 fDiv (gCall (len? 2 yN) frzO (nCons (gn 4) (nCons (gn 6) nNil))) (gc (.int 8))) (gr 2))))
def qU:SD:=(sSeq (sSet 4 (gCall (len? 2 z9) frzO (nCons (gn 0) (nCons (gn 1) nNil)))) (sSeq (sSetA 5 (gLst gNil)) (sSeq (sFor (.name 6) (gR1 (gCons' (gr 3) gNil)) vz) (sRetV 5))))
def yJ:List En->Option En:=mir vP (qU)
def xg:List Str:=["_law_cell_here","_law_many","_law_signs","_law_base","_law_first","_law_names_here","_law_k","_law_name"]
def jM:SD:=(sSeq (sSet 7 (g2 fItem (gr 2) (g2 fMod (g2 fPlus (gr 4) (g2 fDiv (gr 6) (gc (.int 36)))) (gc (.int 26))))) (sSeq (sSet 7 (g2 fPlus (gr 7) (g2 fItem (gr 2) (g2 fMod (g2 fPlus (g2 fDiv (gr 0) (gc (.int 3))) (g2 fMul (gc (.int 7)) (gr 6))) (gc (.int 36)))))) (sApp 5 (g2 fPlus (gr 7) (gSlS (gr 3) gNone (gSome (g2 fMod (g2 fDiv (gr 0) (gc (.int 108))) (gc (.int 7)))))))))
def kF:EnvD->Option D:=(g2 fPlus (g2 fItem (gr 1) (gr 2)) (gSlS (gr 3) gNone (gSome (gr 0))))
def je:EnvD->Option D:=(g2 fItem (gr 1) (g2 fMod (gCall (len? 2 yN) frzO (nCons (gn 2) (nCons (gn 0) nNil))) (gc (.int 36))))
def vv:SD:=(sSeq (sSet 2 (gc (.str "abcdefghijklmnopqrstuvwxyz0123456789"))) (sSeq (sSet 3 (gSM fJoin (gc (.str "")) (gCons' (gFz (gComp ["_law_j"] [("_law_signs",2),("_law_cell_here",0)] (.name 0) tYes je (gR1 (gCons' (gc (.int 7)) gNil)))) gNil))) (sSeq (sSet 4 (g2 fMod (gCall (len? 2 yN) frzO (nCons (gn 0) (nCons (gVal (gc (.int 8))) nNil))) (gc (.int 26)))) (sSeq (sIf (gAnd (gb' (g2 (fEq false) (g2 fMod (gr 0) (gc (.int 3))) (gc (.int 0)))) (gb' (g2 fLt (gr 1) (gc (.int 9))))) (sRetA (gComp ["_law_k"] [("_law_signs",2),("_law_first",4),("_law_base",3)] (.name 0) tYes kF (gR1 (gCons' (gr 1) gNil)))) sNext) (sSeq (sSetA 5 (gLst gNil)) (sSeq (sFor (.name 6) (gR1 (gCons' (gr 1) gNil)) jM) (sRetV 5)))))))
def xl:List En->Option En:=mir xg (vv)
def x5:List Str:=["_law_script","_law_rows"]
def jL:EnvD->Option D:=(gTup' (gCons' (g2 fMul (gc (.int 11)) (gr 0)) (gCons' (g2 fPlus (gr 1) (g2 fMul (gc (.int 4)) (gB fInt (gCons' (g2 fGt (gr 1) (gc (.int 0))) gNil)))) gNil)))
def kC:EnvD->Option D:=(gTup' (gCons' (g2 fPlus (gc (.int 1)) (g2 fMod (gr 0) (gc (.int 9)))) (gCons' (g2 fDiv (gr 0) (gc (.int 9))) gNil)))
def vp:SD:=(sSeq (sSet 1 (gFz (gComp ["_law_n"] [] (.name 0) tYes kC (gIt (gFz (gCall (len? 4 yJ) accO (nCons (gn 0) (nCons (gVal (gc (.int 1))) (nCons (gVal (gc (.int 45))) (nCons (gVal (g2 fMod (gCall (len? 2 z9) frzO (nCons (gn 0) (nCons (gVal (gc (.int 2))) nNil))) (gc (.int 7)))) nNil)))))))))) (sSeq (sIf (gb' (g2 (fEq false) (g2 fMod (g2 fDiv (gCall (len? 2 z9) frzO (nCons (gn 0) (nCons (gVal (gc (.int 2))) nNil))) (gc (.int 7))) (gc (.int 8))) (gc (.int 1)))) (sSet 1 (gFz (gComp ["_law_many","_law_counters"] [] (.tup [0,1]) tYes jL (gIt (gr 1))))) sNext) (sRet (gTup' (gCons' (gv 1) (gCons' (g2 fPlus (gc (.int 1)) (g2 fMod (g2 fDiv (gCall (len? 2 z9) frzO (nCons (gn 0) (nCons (gVal (gc (.int 2))) nNil))) (gc (.int 56))) (g2 fItem (gFz (gLst (gCons' (gc (.int 3)) (gCons' (gc (.int 8)) gNil)))) (g2 fMod (g2 fDiv (gCall (len? 2 z9) frzO (nCons (gn 0) (nCons (gVal (gc (.int 2))) nNil))) (gc (.int 1344))) (gc (.int 2)))))) gNil))))))
def xF:List En->Option En:=mir x5 (vp)
def xY:List Str:=["_law_script","_law_cell_here","_law_many","_law_size","_law_lefts","_law_names_here"]
def vV:EnvD->Option D:=(gTup' (gCons' (g2 fItem (gr 1) (gr 0)) (gCons' (g2 fPlus (gc (.int 1)) (g2 fItem (gr 2) (gr 0))) gNil)))
def jw:SD:=(sSeq (sSet 1 (gCall (len? 2 z9) frzO (nCons (gn 0) (nCons (gVal (gc (.int 3))) nNil)))) (sSeq (sSet 2 (g2 fMod (gr 1) (gc (.int 9)))) (sSeq (sSet 3 (g2 fItem (gFz (gLst (gCons' (gc (.int 6)) (gCons' (gc (.int 20)) gNil)))) (g2 fMod (g2 fDiv (gr 1) (gc (.int 144))) (gc (.int 2))))) (sSeq (sIf (gb' (g2 (fEq false) (g2 fMod (g2 fDiv (gr 1) (gc (.int 9))) (gc (.int 16))) (gc (.int 1)))) (sSeq (sSet 2 (gc (.int 60))) (sSet 3 (gc (.int 3)))) sNext) (sSeq (sSet 4 (gFz (gCall (len? 4 yJ) accO (nCons (gn 0) (nCons (gVal (gc (.int 4))) (nCons (gn 3) (nCons (gn 2) nNil))))))) (sSeq (sSet 5 (gCall (len? 2 xl) frzO (nCons (gVal (gCall (len? 2 z9) frzO (nCons (gn 0) (nCons (gVal (gc (.int 5))) nNil)))) (nCons (gn 2) nNil)))) (sRetA (gComp ["_law_k"] [("_law_names_here",5),("_law_lefts",4)] (.name 0) tYes vV (gR1 (gCons' (gr 2) gNil))))))))))
def wc:List En->Option En:=mir xY (jw)
def w9:List Str:=["_law_script","_law_cell_here"]
def j4:SD:=(sSeq (sSet 1 (gCall (len? 2 z9) frzO (nCons (gn 0) (nCons (gVal (gc (.int 6))) nNil)))) (sSeq (sIf (gb' (g2 (fEq false) (g2 fMod (gr 1) (gc (.int 8))) (gc (.int 1)))) (sRet (g2 fMod (g2 fDiv (gr 1) (gc (.int 8))) (g2 fPlus (g2 fPow (gc (.int 10)) (gc (.int 5))) (gc (.int 1))))) sNext) (sRet (g2 fMod (g2 fDiv (gr 1) (gc (.int 8))) (gc (.int 30))))))
def xO:List En->Option En:=mir w9 (j4)
def vG:List Str:=["_law_rows","_law_rest","_law_turn_here","_law_many","_law_counters"]
def j9:SD:=(sSeq (sIf (gb' (g2 fLt (gr 2) (gr 3))) (sRetV 4) sNext) (sSet 2 (g2 fSub (gr 2) (gr 3))))
def jN:SD:=(sSeq (sFor (.tup [3,4]) (gIt (gf 0)) j9) (sRetV 1))
def wY:List En->Option En:=mir vG (jN)
def vh:List Str:=["_law_queue_here","_law_many","_law_behind","_law_k","_law_name","_law_left"]
def qg:EnvD->Option D:=(gv 0)
def xE:SD:=(sSeq (sAsg (.tup [4,5]) (g2 fItem (gr 0) (gr 3))) (sSeq (sIf (gb' (g2 fLt (gr 3) (gr 1))) (sSet 5 (g2 fSub (gr 5) (gc (.int 1)))) sNext) (sIf (gb' (g2 fGt (gr 5) (gc (.int 0)))) (sApp 2 (gTup' (gCons' (gv 4) (gCons' (gv 5) gNil)))) sNext)))
def jP:SD:=(sSeq (sSetA 2 (gLst gNil)) (sSeq (sFor (.name 3) (gR1 (gCons' (gB fLen (gCons' (gr 0) gNil)) gNil)) xE) (sFrz 2 (sRet (gTup' (gCons' (gFz (gComp ["_law_name","_law_left"] [] (.tup [0,1]) tYes qg (gIt (gFz (gSl (gr 0) gNone (gSome (gr 1))))))) (gCons' (gv 2) gNil)))))))
def wU:List En->Option En:=mir vh (jP)
def wB:List Str:=["_law_queue_here","_law_hours_here","_law_begin_here","_law_found","_law_some","_law_turn_here","_law_names_here"]
def qQ:SD:=(sSeq (sAsg (.tup [6,4]) (gCall (len? 2 wU) frzO (nCons (gn 4) (nCons (gVal (gCall (len? 3 wY) frzO (nCons (gVal (g2 fItem (gr 1) (gc (.int 0)))) (nCons (gVal (g2 fItem (gr 1) (gc (.int 1)))) (nCons (gn 5) nNil))))) nNil)))) (sSeq (sApp 3 (gTup' (gCons' (gv 5) (gCons' (gv 6) gNil)))) (sSet 5 (g2 fPlus (gr 5) (gc (.int 1))))))
def vx:SD:=(sSeq (sSetA 3 (gLst gNil)) (sSeq (sSet 4 (gFz (gB fList (gCons' (gr 0) gNil)))) (sSeq (sSet 5 (gv 2)) (sSeq (sWhile (gb' (g2 (fEq true) (gr 4) (gFz (gLst gNil)))) qQ) (sRetV 3)))))
def zY:List En->Option En:=mir wB (vx)
def wD:List Str:=["_law_cell_here","_law_left"]
def jv:SD:=(sSeq (sIf (gb' (g2 fLt (g2 fMod (gr 0) (gc (.int 12))) (gc (.int 9)))) (sRet (g2 fMod (gr 0) (gc (.int 12)))) sNext) (sRet (g2 fItem (gFz (gLst (gCons' (gv 1) (gCons' (g2 fPlus (gr 1) (gc (.int 1))) (gCons' (g2 fPlus (g2 fPow (gc (.int 10)) (gc (.int 20))) (g2 fMod (gr 0) (gc (.int 7)))) gNil))))) (g2 fSub (g2 fMod (gr 0) (gc (.int 12))) (gc (.int 9))))))
def xU:List En->Option En:=mir wD (jv)
abbrev xa:Stmt:=top 20
abbrev yO:Stmt:=top 34
abbrev jG:Stmt:=(zk yO).getD 1 (.Pass ⟨0,0,0,0⟩)
abbrev zO:Pos:=⟨196,4,198,41⟩
abbrev tellT:Inn:=⟨"_law_tell","_law_tried.<locals>._law_tell",zu jG,zk jG,zb jG,"_law_name","_law_turns_here","_law_asked"⟩
def xZ:List Str:=["queue","real","shorter","name","left","takes","."]
def zP (f' a1:Addr)(kvs:List (Key×D)):SD:=(sSeq (sAsk f' a1 kvs 5 1 6 (gv 3)) (sSeq (sIf (gOr (gNot (gt (gCall (len? 1 zJ) frzO (nCons (gn 5) nNil)))) (gb' (g2 fLt (gr 5) (gc (.int 0))))) sNever sNext) (sIf (gb' (g2 fGt (gr 5) (gc (.int 0)))) (sApp 2 (gTup' (gCons' (gv 3) (gCons' (gB fMin (gCons' (gr 4) (gCons' (gr 5) gNil))) gNil)))) sNext)))
def ji (f' a1:Addr)(kvs:List (Key×D)):EnvD->Option (EnvD×D):=(tSqR (sSetA 2 (gLst gNil)) (tSqR (sFor (.tup [3,4]) (gIt (gFz (gB fList (gCons' (gr 0) gNil)))) (zP f' a1 kvs)) (tFrR 2 (tRtR (gv 2)))))
def xr:Addr->Addr->List (Key×D)->List D->List En->Option (D×List D):=mirK xZ 6 (ji)
def ju (f' a1:Addr)(kvs:List (Key×D)):EnvD->Option (EnvD×Xv):=(ySeq (sSetA 2 (gLst gNil)) (yFor (.tup [3,4]) (gIt (gFz (gB fList (gCons' (gr 0) gNil)))) (zP f' a1 kvs) (ySeq (sAsk f' a1 kvs 5 1 6 (gv 3)) (yIf (gOr (gNot (gt (gCall (len? 1 zJ) frzO (nCons (gn 5) nNil)))) (gb' (g2 fLt (gr 5) (gc (.int 0))))) (xC "NoNumber" (gc (.str "a service really takes a whole number of turns, from 0 on"))) yNo))))
def wG:Addr->Addr->List (Key×D)->List D->List En->Option (Xv×List D):=mirKY xZ 6 ju
def xS:List Str:=["queue","hours","begin","real","waiting","rows","turn","served","."]
def kK (C:Addr):SD:=(sSeq (sSet 6 (g2 fPlus (gr 2) (gB fLen (gCons' (gr 5) gNil)))) (sSeq (sSet 7 (gCall (len? 2 yS) frzO (nCons (gn 4) (nCons (gVal (gMeth C "at" (len? 2 (yY C)) frzO (gv 1) (nCons (gn 6) nNil))) nNil)))) (sSeq (sApp 5 (gTup' (gCons' (gv 6) (gCons' (g2 fItem (gr 7) (gc (.int 0))) gNil)))) (sSet 4 (g2 fItem (gr 7) (gc (.int 1)))))))
def vZ (C:Addr)(f' a1:Addr)(kvs:List (Key×D)):EnvD->Option (EnvD×D):=(tSqR (sAskC f' a1 kvs 4 3 8 2 xr (nCons (gn 0) (nCons (gnE 3) nNil))) (tSqR (sSetA 5 (gLst gNil)) (tSqR (sWhile (gt (gr 4)) (kK C)) (tFrR 5 (tRtR (gv 5))))))
def yh (C:Addr):Addr->Addr->List (Key×D)->List D->List En->Option (D×List D):=mirK xS 8 (vZ C)
def qH (f' a1:Addr)(kvs:List (Key×D)):EnvD->Option (EnvD×Xv):=(yAskC f' a1 kvs 3 8 2 wG (nCons (gn 0) (nCons (gnE 3) nNil)))
def x4:Addr->Addr->List (Key×D)->List D->List En->Option (Xv×List D):=mirKY xS 8 qH
def j0:List Str:=["_law_queue_here","_law_room","_law_begin_here","_law_turns_here","_law_asked","_law_tell","_law_found","_law_told","e","."]
def vA (C Pt:Addr)(c1 c2:Addr):EnvD->Option (EnvD×D):=(tSqR (sSetA 4 (gLst gNil)) (tSqR (sDefD Pt zO tellT c1 c2 5 9) (tSqR (sSet 6 (gc .non)) (tSqR (sSet 7 (gc (.bl false))) (tSqR (sTryV [⟨some 8,[("NoNumber",[(7,jIs true)])]⟩] (sHand tellT c1 c2 6 5 3 4 4 (mAll (yh C)) (nCons (gn 0) (nCons (gn 1) (nCons (gn 2) nNil)))) (yHand tellT c1 c2 5 3 4 4 (mAll x4) (nCons (gn 0) (nCons (gn 1) (nCons (gn 2) nNil))))) (tFrR 4 (tRtR (gTup' (gCons' (gv 6) (gCons' (gv 7) (gCons' (gv 4) gNil)))))))))))
def j3 (C Pt:Addr):Addr->Addr->List En->Option D:=mirT j0 9 Pt zO tellT.qual (vA C Pt)
def yL (C Pt:Addr):List En->Option D:=mAllT (j3 C Pt)
def vq:List Str:=["_law_script","_law_hours_here","_law_queue_here","_law_begin_here","_law_room","_law_turns_here","_law_shorter","_law_k","_law_one","_law_names_here","_law_found","_law_told","_law_asked","_law_at_here","."]
def kE:EnvD->Option D:=(gv 0)
def vW:SD:=(sSeq (sPutD 5 (g2 fItem (gr 8) (gc (.int 0))) (gCall (len? 2 xU) frzO (nCons (gVal (gCall (len? 2 z9) frzO (nCons (gn 0) (nCons (gVal (g2 fPlus (gc (.int 7)) (gr 7))) nNil)))) (nCons (gVal (g2 fItem (gr 8) (gc (.int 1)))) nNil)))) (sIf (gb' (g2 fGt (gGetD (gk' 5) (g2 fItem (gr 8) (gc (.int 0)))) (gc (.int 0)))) (sApp 6 (gTup' (gCons' (g2 fItem (gr 8) (gc (.int 0))) (gCons' (gB fMin (gCons' (g2 fItem (gr 8) (gc (.int 1))) (gCons' (gGetD (gk' 5) (g2 fItem (gr 8) (gc (.int 0)))) gNil))) gNil)))) sNext))
def vC (C Pt:Addr):SD:=(sSeq (sSet 1 (gCall (len? 1 xF) frzO (nCons (gn 0) nNil))) (sSeq (sSet 2 (gFz (gCall (len? 1 wc) accO (nCons (gn 0) nNil)))) (sSeq (sSet 3 (gCall (len? 1 xO) frzO (nCons (gn 0) nNil))) (sSeq (sSet 4 (gMake C 2 (wu C) (nCons (gVal (gFz (gB fList (gCons' (g2 fItem (gr 1) (gc (.int 0))) gNil)))) (nCons (gVal (g2 fItem (gr 1) (gc (.int 1)))) nNil)))) (sSeq (sSetD 5 gNewD) (sSeq (sSetA 6 (gLst gNil)) (sSeq (sFor (.tup [7,8]) (gEn (gCons' (gf 2) gNil)) vW) (sSeq (sSet 9 (gFz (gComp ["_law_name","_law_left"] [] (.tup [0,1]) tYes kE (gIt (gr 2))))) (sSeq (sTbl Pt zO tellT.qual 14 4 (.tup [10,11,12]) (yL C Pt) (nCons (gVal (gFz (gB fList (gCons' (gr 2) gNil)))) (nCons (gn 4) (nCons (gn 3) (nCons (gn 5) nNil))))) (sSeq (sIf (gOr (gb' (g2 (fEq true) (gr 10) (gFz (gCall (len? 3 zY) accO (nCons (gn 6) (nCons (gn 1) (nCons (gn 3) nNil))))))) (gOr (gt (gr 11)) (gb' (g2 (fEq true) (gr 12) (gr 9))))) (sRet (gc (.bl false))) sNext) (sSeq (sIf (gOr (gb' (g2 (fEq false) (gr 2) (gFz (gLst gNil)))) (gb' (g2 fGt (g2 fMod (g2 fDiv (gCall (len? 2 z9) frzO (nCons (gn 0) (nCons (gVal (gc (.int 6))) nNil))) (gc (.int 240))) (gc (.int 3))) (gc (.int 0))))) (sRet (g2 (fEq false) (gFz (gCall (len? 4 (xp C)) accO (nCons (gVal (gFz (gB fList (gCons' (gr 2) gNil)))) (nCons (gn 4) (nCons (gn 3) (nCons (gVal (gc .non)) nNil)))))) (gFz (gCall (len? 3 zY) accO (nCons (gn 2) (nCons (gn 1) (nCons (gn 3) nNil))))))) sNext) (sSeq (sSet 13 (g2 fMod (g2 fDiv (gCall (len? 2 z9) frzO (nCons (gn 0) (nCons (gVal (gc (.int 7))) nNil))) (gc (.int 12))) (gB fLen (gCons' (gr 2) gNil)))) (sSeq (sPutD 5 (g2 fItem (gr 9) (gr 13)) (g2 fItem (gFz (gLst (gCons' (gNeg (gc (.int 1))) (gCons' (gc (.bl true)) (gCons' (gc (.str "3")) (gCons' (gc .non) (gCons' (gNeg (g2 fPow (gc (.int 10)) (gc (.int 20)))) (gCons' (gc (.bl false)) (gCons' (gFz (gLst (gCons' (gc (.int 2)) gNil))) gNil))))))))) (g2 fMod (g2 fDiv (gCall (len? 2 z9) frzO (nCons (gn 0) (nCons (gVal (gc (.int 8))) nNil))) (gc (.int 12))) (gc (.int 7))))) (sSeq (sTbl Pt zO tellT.qual 14 4 (.tup [10,11,12]) (yL C Pt) (nCons (gVal (gFz (gB fList (gCons' (gr 2) gNil)))) (nCons (gn 4) (nCons (gn 3) (nCons (gn 5) nNil))))) (sRet (gAndV (g2 (fIs false) (gr 10) (gc .non)) (gAndV (gv 11) (g2 (fEq false) (gr 12) (gFz (gSl (gr 9) gNone (gSome (g2 fPlus (gr 13) (gc (.int 1))))))))))))))))))))))))
def uq (C Pt:Addr):List En->Option D:=mirU vq 14 Pt zO tellT.qual (vC C Pt)
structure Txt (K:PySem.W.Frag)(mg:Str->Option Value)(C:Addr):Prop where
 cl:Cls K C
 n_kept_rest:NoAttr K C "kept_rest"
 n_spans:NoAttr K C "spans"
 b_ValueError:mg "ValueError" = none
 b_all:mg "all" = none
 b_bool:mg "bool" = none
 b_enumerate:mg "enumerate" = none
 b_int:mg "int" = none
 b_isinstance:mg "isinstance" = none
 b_len:mg "len" = none
 b_list:mg "list" = none
 b_min:mg "min" = none
 b_range:mg "range" = none
 b_tuple:mg "tuple" = none
 c_MOST_COUNTERS':∃t,mg "MOST_COUNTERS" = some (.int 8 t)
 c_MOST_ROWS':∃t,mg "MOST_ROWS" = some (.int 16 t)
 c_MOST_TURNS':∃t,mg "MOST_TURNS" = some (.int 100 t)
structure Exs (P:Program)(w:World)(K:PySem.W.Frag)(mg:Str->Option Value)(base:Heap)(ca:Str->Addr):Prop where
 is_NoNumber:XI K (ca "NoNumber")
 m_HallError:mg "HallError" = some (.ref (ca "HallError"))
 m_NoNumber:mg "NoNumber" = some (.ref (ca "NoNumber"))
 t1_NoNumber_ValueError:kitOne K (.ref (ca "NoNumber")) (.type "ValueError")=some true
 x_NoNumber:XC0 K (ca "NoNumber")
 y_NoNumber_NoNumber:XM K (ca "NoNumber") (ca "NoNumber")
 z1_NoNumber_HallError:kitOne K (.ref (ca "NoNumber")) (.ref (ca "HallError"))=some true
section
variable {P:Program}{w:World}{K:PySem.W.Frag}{mg:Str->Option Value}{base:Heap}{C:Addr}
theorem Ya:FnScope ["thing"] ["thing"] (zb wo):=⟨rfl,rfl,rfl,by decide +kernel,rfl,by decide +kernel,by decide +kernel⟩
theorem K9 {f:Addr}{fd:FuncData}(T:Txt K mg C)(F:Fun K "is_whole" "is_whole" wo f fd):FnOk P w K mg base CX0 1 f fd ["thing"] (pSp ⟨K,w⟩ 1 (len? 1 (mir ["thing"] xb))):=by
 have sc:=Ya
 refine zH (k:=0) F Ya (λcdv A outer s H E B hr=>?_)
 exact (zg (zK (wX (jg (kitT "int" (by decide)) (by rfl) T.b_isinstance (by rfl) T.b_int (by decide +kernel) (za 0)) (jx (UQ (jg (kitT "bool" (by decide)) (by rfl) T.b_isinstance (by rfl) T.b_bool (by decide +kernel) (za 0)))))))
theorem uD:FnScope vX ["thing","low","high"] (zb wa):=⟨rfl,rfl,rfl,by decide +kernel,rfl,by decide +kernel,by decide +kernel⟩
theorem Kz {f:Addr}{fd:FuncData}(T:Txt K mg C)(F:Fun K "is_number" "is_number" wa f fd) (Haf:Fx P w K mg base "is_whole" 1 1 zJ):FnOk P w K mg base CX0 2 f fd ["thing","low","high"] (pSp ⟨K,w⟩ 3 (len? 3 (mir vX kg))):=by
 have sc:=uD
 refine zH (k:=1) F uD (λcdv A outer s H E B hr=>?_)
 exact (zg (zK (wX (zw Haf (hr.mono (by decide)) (by rfl) (zc (zf 0) zj)) (jx (Jl YM YM uI uI (za 1) (za 0) (za 2))))))
theorem ui:FnScope ["thing"] ["thing"] (zb xK):=⟨rfl,rfl,rfl,by decide +kernel,rfl,by decide +kernel,by decide +kernel⟩
theorem QF {f:Addr}{fd:FuncData}(T:Txt K mg C)(F:Fun K "is_row" "is_row" xK f fd) (Had:Fx P w K mg base "is_number" 2 3 yM):FnOk P w K mg base CX0 3 f fd ["thing"] (pSp ⟨K,w⟩ 1 (len? 1 (mir ["thing"] qw))):=by
 obtain⟨tok_MOST_COUNTERS,t_MOST_COUNTERS⟩:=T.c_MOST_COUNTERS'
 obtain⟨tok_MOST_TURNS,t_MOST_TURNS⟩:=T.c_MOST_TURNS'
 have sc:=ui
 refine zH (k:=2) F ui (λcdv A outer s H E B hr=>?_)
 exact (ze (zB (yq (yD (yX (ye (DE.read (jg (kitT "tuple" (by decide)) (by rfl) T.b_isinstance (by rfl) T.b_tuple (by decide +kernel) (za 0))) (by intro _;rfl))) (xj (zy (vD hr.units) zV (DE.read (yv (by rfl) T.b_len (z6 (za 0) z7))) de_int.read (nomark _))))) (zg (zK wH)) zF) (zg (zK (wX (zw Had (hr.mono (by decide)) (by rfl) (zc (zp (zr (za 0) de_int.read (by intro _ _;rfl))) (zc (zp de_int) (zc (zp (jB (v:=.int 100) (by rfl) t_MOST_TURNS (by exact⟨_,rfl⟩) (by intro _;rfl))) zj)))) (jx (zw Had (hr.mono (by decide)) (by rfl) (zc (zp (zr (za 0) de_int.read (by intro _ _;rfl))) (zc (zp de_int) (zc (zp (jB (v:=.int 8) (by rfl) t_MOST_COUNTERS (by exact⟨_,rfl⟩) (by intro _;rfl))) zj)))))))))
theorem ZK:FnScope vk ["rows","rest"] (zb xu):=⟨rfl,rfl,rfl,by decide +kernel,rfl,by decide +kernel,by decide +kernel⟩
theorem UT {f:Addr}{fd:FuncData}(T:Txt K mg C)(F:Fun K "check_hours" "check_hours" xu f fd) (Had:Fx P w K mg base "is_number" 2 3 yM) (Hae:Fx P w K mg base "is_row" 3 1 wQ):FnOk P w K mg base CX0 4 f fd ["rows","rest"] (pSp ⟨K,w⟩ 2 (len? 2 (mir vk qK))):=by
 obtain⟨tok_MOST_COUNTERS,t_MOST_COUNTERS⟩:=T.c_MOST_COUNTERS'
 obtain⟨tok_MOST_ROWS,t_MOST_ROWS⟩:=T.c_MOST_ROWS'
 have sc:=ZK
 refine zH (k:=3) F ZK (λcdv A outer s H E B hr=>?_)
 exact (ze (zB (yq (yD (yX (ye (DE.read (jg (kitT "list" (by decide)) (by rfl) T.b_isinstance (by rfl) T.b_list (by decide +kernel) (za 0))) (by intro _;rfl))) (xj (zy yA yw (DE.read (yv (by rfl) T.b_len (z6 (za 0) z7))) (DE.read (jB (v:=.int 16) (by rfl) t_MOST_ROWS (by exact⟨_,rfl⟩) (by intro _;rfl))) (nomark _))))) (zg wW) zF) (ze (zB (yX (ye (DE.read (Ul (by rfl) (by rfl) T.b_all (z6 (DA.read (wq (own:=["row"]) (cap:=[]) (t:=(.name 0)) (by rfl) (ym (sc:=(zb xu).names) (N:=vk) (by rfl) (by rfl) (by rfl) (by decide +kernel)) (yb hb1 (DR.cur (za 0))) (by decide) (λB' C' s₀ H₀ fp pn=>⟨(zo (i:=0) (show List.Nodup (["row"]:List Str) from by decide +kernel) (by rfl) (locl (by rfl))),yy,(zw Hae (hr.mono (by decide)) (by rfl) (zc (zf 0) zj))⟩))) z7))) (by intro _;rfl))) (zg wW) zF) (zg (zB (yX (ye (DE.read (zw Had (hr.mono (by decide)) (by rfl) (zc (zf 1) (zc (zp de_int) (zc (zp (jB (v:=.int 8) (by rfl) t_MOST_COUNTERS (by exact⟨_,rfl⟩) (by intro _;rfl))) zj))))) (by intro _;rfl))) (zg wW) zF))))
theorem YX:FnScope js ["rows","rest"] (zb xG):=⟨rfl,rfl,rfl,by decide +kernel,rfl,by decide +kernel,by decide +kernel⟩
theorem Q1 {f:Addr}{fd:FuncData}(T:Txt K mg C)(F:Fun K "kept_rows" "kept_rows" xG f fd):FnOk P w K mg base CX0 1 f fd ["rows","rest"] (pSp ⟨K,w⟩ 2 (len? 2 (mir js kd))):=by
 have sc:=YX
 refine zH (k:=0) F YX (λcdv A outer s H E B hr=>?_)
 exact (ze (yf (i:=2) sc.nd (by rfl) (locl (by rfl)) (zI zt)) (ze (yU (t:=(.tup [3,4])) PassesOwn.never (by rfl) (yb hb0 (vQ 0 (pv 0))) (zU (by rfl) (zx (zo (i:=3) sc.nd (by rfl) (locl (by rfl))) (zx (zo (i:=4) sc.nd (by rfl) (locl (by rfl))) zR))) (zg (zB (yq (jZ (ye (za 2) (by intro _;rfl)) (qY (zy (yn hr.units) zV (DE.read (zr (DE.read (zr (za 2) (DE.read (xJ de_int.read)) (by intro _ _;rfl))) de_int.read (by intro _ _;rfl))) (za 4) (nomark _))))) (zg (QN 2 (pv 2) (xJ de_int.read) (zL (zh (zA (DE.read (zr (DE.read (zr (za 2) (DE.read (xJ de_int.read)) (by intro _ _;rfl))) de_int.read (by intro _ _;rfl))) (za 3)) (zh (zq 4) zt))))) (zg (zB (zy yA yw (za 3) de_int.read (nomark _)) (zg (ya 2 (pv 2) (zL (zh (zq 3) (zh (zq 4) zt))))) zF))))) (ze (zB (yq (jZ (ye (za 2) (by intro _;rfl)) (qY (zy (yn hr.units) zV (DE.read (zr (DE.read (zr (za 2) (DE.read (xJ de_int.read)) (by intro _ _;rfl))) de_int.read (by intro _ _;rfl))) (za 1) (nomark _))))) (zg (W5 2 Gm (pv 2))) zF) (zg (yG 2 (pv 2))))))
theorem Zr:FnScope vL ["rows"] (zb xP):=⟨rfl,rfl,rfl,by decide +kernel,rfl,by decide +kernel,by decide +kernel⟩
theorem QY {f:Addr}{fd:FuncData}(T:Txt K mg C)(F:Fun K "spans_of" "spans_of" xP f fd):FnOk P w K mg base CX0 1 f fd ["rows"] (pSp ⟨K,w⟩ 1 (len? 1 (mir vL kA))):=by
 have sc:=Zr
 refine zH (k:=0) F Zr (λcdv A outer s H E B hr=>?_)
 exact (ze (yf (i:=1) sc.nd (by rfl) (locl (by rfl)) (zI zt)) (ze (zl (i:=2) sc.nd (by rfl) (locl (by rfl)) de_int) (ze (yU (t:=(.tup [3,4])) PassesOwn.never (by rfl) (yb hb0 (vQ 0 (pv 0))) (zU (by rfl) (zx (zo (i:=3) sc.nd (by rfl) (locl (by rfl))) (zx (zo (i:=4) sc.nd (by rfl) (locl (by rfl))) zR))) (ze (ya 1 (pv 1) (zL (zh (zq 2) (zh (zA (za 2) (za 3)) (zh (zq 4) zt))))) (zg (zl (i:=2) sc.nd (by rfl) (locl (by rfl)) (zA (za 2) (za 3)))))) (zg (yG 1 (pv 1))))))
theorem Wd:FnScope wV ["self","rows","rest"] (zb wy):=⟨rfl,rfl,rfl,by decide +kernel,rfl,by decide +kernel,by decide +kernel⟩
theorem WR {f:Addr}{fd:FuncData}(T:Txt K mg C)(F:Fun K "__init__" "Hours.__init__" wy f fd) (Hav:Fx P w K mg base "spans_of" 1 1 wK) (Hag:Fx P w K mg base "kept_rows" 1 2 vi) (Hac:Fx P w K mg base "check_hours" 4 2 wz):FnOk P w K mg base CX0 5 f fd ["self","rows","rest"] (iSp ⟨K,w⟩ C 2 (mirI C ["self","rows","rest"] (w5 C))):=by
 have sc:=Wd
 refine VR (k:=4) F Wd rfl (λcdv A outer s H E B hr=>?_)
 exact (ze (Gd (zw Hac (hr.mono (by decide)) (by rfl) (zc (zf 1) (zc (zf 2) zj)))) (ze (YE 0 T.cl T.n_kept_rest (pv 0) (zq 2)) (zg (YE 0 T.cl T.n_spans (pv 0) (zw Hav (hr.mono (by decide)) (by rfl) (zc (zp (zw Hag (hr.mono (by decide)) (by rfl) (zc (zf 1) (zc (zf 2) zj)))) zj))))))
theorem kZ:FnScope vO ["self","turn"] (zb wk):=⟨rfl,rfl,rfl,by decide +kernel,rfl,by decide +kernel,by decide +kernel⟩
theorem Q8 {f:Addr}{fd:FuncData}(T:Txt K mg C)(F:Fun K "at" "Hours.at" wk f fd):FnOk P w K mg base CX0 1 f fd ["self","turn"] (pSp ⟨K,w⟩ 2 (len? 2 (mir vO (qi C)))):=by
 have sc:=kZ
 refine zH (k:=0) F kZ (λcdv A outer s H E B hr=>?_)
 exact (ze (zl (i:=2) sc.nd (by rfl) (locl (by rfl)) de_int) (ze (zl (i:=3) sc.nd (by rfl) (locl (by rfl)) (yv (by rfl) T.b_len (z6 (DE.read (vd T.cl T.n_spans (zq 0))) z7))) (ze (jq PassesOwn.never (zy yj yg (za 2) (za 3) (nomark _)) (ze (zl (i:=4) sc.nd (by rfl) (locl (by rfl)) (zN (DE.read (zA (za 2) (za 3))) de_int.read)) (zg (zB (zy yj yg (za 1) (DE.read (zr (DE.read (zr (DE.read (vd T.cl T.n_spans (zq 0))) (za 4) (by intro _ _;rfl))) de_int.read (by intro _ _;rfl))) (nomark _)) (zg (zl (i:=3) sc.nd (by rfl) (locl (by rfl)) (zq 4))) (zg (zl (i:=2) sc.nd (by rfl) (locl (by rfl)) (zA (za 4) de_int.read))))))) (zg (zK (Zu (zy yj yg (za 2) (DE.read (yv (by rfl) T.b_len (z6 (DE.read (vd T.cl T.n_spans (zq 0))) z7))) (nomark _)) (zr (DE.read (zr (DE.read (vd T.cl T.n_spans (zq 0))) (za 2) (by intro _ _;rfl))) de_int.read (by intro _ _;rfl)) (vd T.cl T.n_kept_rest (zq 0))))))))
theorem We:FnScope ["queue"] ["queue"] (zb yZ):=⟨rfl,rfl,rfl,by decide +kernel,rfl,by decide +kernel,by decide +kernel⟩
theorem JF {f:Addr}{fd:FuncData}(T:Txt K mg C)(F:Fun K "names_of" "names_of" yZ f fd):FnOk P w K mg base CX0 1 f fd ["queue"] (pSp ⟨K,w⟩ 1 (len? 1 (mir ["queue"] ku))):=by
 have sc:=We
 refine zH (k:=0) F We (λcdv A outer s H E B hr=>?_)
 exact (zg (jJ (wq (own:=["name","left"]) (cap:=[]) (t:=(.tup [0,1])) (by rfl) (ym (sc:=(zb yZ).names) (N:=["queue"]) (by rfl) (by rfl) (by rfl) (by decide +kernel)) (yb hb1 (DR.cur (za 0))) (by decide) (λB' C' s₀ H₀ fp pn=>⟨(zU (by rfl) (zx (zo (i:=0) (show List.Nodup (["name","left"]:List Str) from by decide +kernel) (by rfl) (locl (by rfl))) (zx (zo (i:=1) (show List.Nodup (["name","left"]:List Str) from by decide +kernel) (by rfl) (locl (by rfl))) zR))),yy,(zq 0)⟩))))
theorem uA:FnScope wR ["queue","many"] (zb xf):=⟨rfl,rfl,rfl,by decide +kernel,rfl,by decide +kernel,by decide +kernel⟩
theorem J9 {f:Addr}{fd:FuncData}(T:Txt K mg C)(F:Fun K "turn_served" "turn_served" xf f fd) (Hat:Fx P w K mg base "names_of" 1 1 wO):FnOk P w K mg base CX0 2 f fd ["queue","many"] (pSp ⟨K,w⟩ 2 (len? 2 (mir wR qX))):=by
 have sc:=uA
 refine zH (k:=1) F uA (λcdv A outer s H E B hr=>?_)
 exact (ze (zl (i:=2) sc.nd (by rfl) (locl (by rfl)) (DA.frz (vH (za 0) xA (wx (za 1))))) (ze (j7 (i:=3) (own:=["name","left"]) (cap:=[]) (t:=(.tup [0,1])) (by rfl) (ym (sc:=(zb xf).names) (N:=wR) (by rfl) (by rfl) (by rfl) (by decide +kernel)) (yb hb1 (DR.cur (za 2))) (by decide) (λB' C' s₀ H₀ fp pn=>⟨(zU (by rfl) (zx (zo (i:=0) (show List.Nodup (["name","left"]:List Str) from by decide +kernel) (by rfl) (locl (by rfl))) (zx (zo (i:=1) (show List.Nodup (["name","left"]:List Str) from by decide +kernel) (by rfl) (locl (by rfl))) zR))),(VD (zy yA yw (za 1) de_int.read (nomark _))),(zL (zh (zq 0) (zh (vy (za 1) de_int.read) zt)))⟩) sc.nd (by rfl) (locl (by rfl))) (zg (zK (zL (zh (DA.frz (xk Hat (hr.mono (by decide)) (by rfl) (zc (zf 2) zj))) (zh (DA.frz (Vy (za 3) (DA.read (vH (za 0) (wx (za 1)) xA)))) zt)))))))
theorem Ww:FnScope jj ["queue","hours","begin","real"] (zb yc):=⟨rfl,rfl,rfl,by decide +kernel,rfl,by decide +kernel,by decide +kernel⟩
theorem U1 {f:Addr}{fd:FuncData}(T:Txt K mg C)(F:FunD K "run_of" "run_of" yc f fd) (Hax:Fx P w K mg base "turn_served" 2 2 yS) (Hab:Mx P w K mg base C "at" 1 2 (yY C)):FnOk P w K mg base CX0 3 f fd ["queue","hours","begin","real"] (pSp ⟨K,w⟩ 4 (len? 4 (mir jj (qe C)))):=by
 have sc:=Ww
 refine Qu (k:=2) F Ww (λcdv A outer s H E B hr=>?_)
 exact (ze (zl (i:=4) sc.nd (by rfl) (locl (by rfl)) (Zu (zy uz ZL (za 3) (DE.read wN) (nomark _)) (zq 0) Jn)) (ze (yf (i:=5) sc.nd (by rfl) (locl (by rfl)) (zI zt)) (ze (jq PassesOwn.never (ye (za 4) (by intro _;rfl)) (ze (zl (i:=6) sc.nd (by rfl) (locl (by rfl)) (zA (za 2) (DE.read (yv (by rfl) T.b_len (z6 (za 5) z7))))) (ze (zl (i:=7) sc.nd (by rfl) (locl (by rfl)) (zw Hax (hr.mono (by decide)) (by rfl) (zc (zf 4) (zc (zp (YO (zq 1) T.cl Hab (hr.mono (by decide)) (zc (zf 6) zj))) zj)))) (ze (ya 5 (pv 5) (zL (zh (zq 6) (zh (zr (za 7) de_int.read (by intro _ _;rfl)) zt)))) (zg (zl (i:=4) sc.nd (by rfl) (locl (by rfl)) (zr (za 7) de_int.read (by intro _ _;rfl)))))))) (zg (yG 5 (pv 5))))))
theorem ug:FnScope vf ["_law_script","_law_k"] (zb xX):=⟨rfl,rfl,rfl,by decide +kernel,rfl,by decide +kernel,by decide +kernel⟩
theorem Um {f:Addr}{fd:FuncData}(T:Txt K mg C)(F:Fun K "_law_cell" "_law_cell" xX f fd):FnOk P w K mg base CX0 1 f fd ["_law_script","_law_k"] (pSp ⟨K,w⟩ 2 (len? 2 (mir vf jb))):=by
 have sc:=ug
 refine zH (k:=0) F ug (λcdv A outer s H E B hr=>?_)
 exact (ze (zB (zy yj yg (za 1) (DE.read (yv (by rfl) T.b_len (z6 (za 0) z7))) (nomark _)) (zg (zK (zr (za 0) (za 1) (by intro _ _;rfl)))) zF) (zg (zK de_int)))
theorem Z3:FnScope jf ["_law_cell_here","_law_k"] (zb wb):=⟨rfl,rfl,rfl,by decide +kernel,rfl,by decide +kernel,by decide +kernel⟩
theorem Gk {f:Addr}{fd:FuncData}(T:Txt K mg C)(F:Fun K "_law_stir" "_law_stir" wb f fd):FnOk P w K mg base CX0 1 f fd ["_law_cell_here","_law_k"] (pSp ⟨K,w⟩ 2 (len? 2 (mir jf qB))):=by
 have sc:=Z3
 refine zH (k:=0) F Z3 (λcdv A outer s H E B hr=>?_)
 exact (ze (zl (i:=2) sc.nd (by rfl) (locl (by rfl)) (z5 (DE.read (zA (DE.read (zA (DE.read (yE (DE.read (z5 (za 0) de_int.read)) de_int.read)) (DE.read (yE de_int.read (za 1))))) de_int.read)) de_int.read)) (ze (zl (i:=2) sc.nd (by rfl) (locl (by rfl)) (z5 (DE.read (yE (za 2) (za 2))) de_int.read)) (zg (zK (z5 (DE.read (zA (DE.read (zA (DE.read (yE (za 2) (za 2))) (DE.read (yE de_int.read (za 2))))) de_int.read)) de_int.read)))))
theorem Yv:FnScope vP ["_law_script","_law_at_here","_law_base","_law_count"] (zb x9):=⟨rfl,rfl,rfl,by decide +kernel,rfl,by decide +kernel,by decide +kernel⟩
theorem KO {f:Addr}{fd:FuncData}(T:Txt K mg C)(F:Fun K "_law_row" "_law_row" x9 f fd) (Haj:Fx P w K mg base "_law_cell" 1 2 z9) (Hap:Fx P w K mg base "_law_stir" 1 2 yN):FnOk P w K mg base CX0 2 f fd ["_law_script","_law_at_here","_law_base","_law_count"] (pSp ⟨K,w⟩ 4 (len? 4 (mir vP qU))):=by
 have sc:=Yv
 refine zH (k:=1) F Yv (λcdv A outer s H E B hr=>?_)
 exact (ze (zl (i:=4) sc.nd (by rfl) (locl (by rfl)) (zw Haj (hr.mono (by decide)) (by rfl) (zc (zf 0) (zc (zf 1) zj)))) (ze (yf (i:=5) sc.nd (by rfl) (locl (by rfl)) (zI zt)) (ze (yU (t:=(.name 6)) PassesOwn.never (by rfl) (x8 (by rfl) T.b_range (z6 (za 3) z7)) (zo (i:=6) sc.nd (by rfl) (locl (by rfl))) (zg (zB (zy (yn hr.units) zV (DE.read (JE (DE.read (QZ (DE.read (zw Haj (hr.mono (by decide)) (by rfl) (zc (zf 0) (zc (zp de_int) zj)))) (DE.read (z5 (za 1) de_int.read)))) de_int.read)) de_int.read (nomark _)) (ze (ya 5 (pv 5) (z5 (za 4) (za 2))) (zg (zl (i:=4) sc.nd (by rfl) (locl (by rfl)) (zN (za 4) (za 2))))) (zg (ya 5 (pv 5) (z5 (DE.read (zN (DE.read (zw Hap (hr.mono (by decide)) (by rfl) (zc (zf 4) (zc (zf 6) zj)))) de_int.read)) (za 2))))))) (zg (yG 5 (pv 5))))))
theorem Wl:FnScope xg ["_law_cell_here","_law_many"] (zb yI):=⟨rfl,rfl,rfl,by decide +kernel,rfl,by decide +kernel,by decide +kernel⟩
theorem Jy {f:Addr}{fd:FuncData}(T:Txt K mg C)(F:Fun K "_law_names" "_law_names" yI f fd) (Hap:Fx P w K mg base "_law_stir" 1 2 yN):FnOk P w K mg base CX0 2 f fd ["_law_cell_here","_law_many"] (pSp ⟨K,w⟩ 2 (len? 2 (mir xg vv))):=by
 have sc:=Wl
 refine zH (k:=1) F Wl (λcdv A outer s H E B hr=>?_)
 exact (ze (zl (i:=2) sc.nd (by rfl) (locl (by rfl)) jk) (ze (zl (i:=3) sc.nd (by rfl) (locl (by rfl)) (Vm (DE.read jk) (z6 (DA.read (wq (own:=["_law_j"]) (cap:=[("_law_signs",2),("_law_cell_here",0)]) (t:=(.name 0)) (by rfl) (ym (sc:=(zb yI).names) (N:=xg) (by rfl) (by rfl) (by rfl) (by decide +kernel)) (x8 (by rfl) T.b_range (z6 de_int.read z7)) (by decide) (λB' C' s₀ H₀ fp pn=>⟨(zo (i:=0) (show List.Nodup (["_law_j","_law_signs","_law_cell_here"]:List Str) from by decide +kernel) (by rfl) (locl (by rfl))),yy,(zr (za 1) (DE.read (z5 (DE.read (zw Hap (hr.mono (by decide)) (by rfl) (zc (zf 2) (zc (zf 0) zj)))) de_int.read)) (by intro _ _;rfl))⟩))) z7))) (ze (zl (i:=4) sc.nd (by rfl) (locl (by rfl)) (z5 (DE.read (zw Hap (hr.mono (by decide)) (by rfl) (zc (zf 0) (zc (zp de_int) zj)))) de_int.read)) (ze (zB (yq (jZ (zy (yn hr.units) zV (DE.read (z5 (za 0) de_int.read)) de_int.read (nomark _)) (qY (zy yj yg (za 1) de_int.read (nomark _))))) (zg (jJ (wq (own:=["_law_k"]) (cap:=[("_law_signs",2),("_law_first",4),("_law_base",3)]) (t:=(.name 0)) (by rfl) (ym (sc:=(zb yI).names) (N:=xg) (by rfl) (by rfl) (by rfl) (by decide +kernel)) (x8 (by rfl) T.b_range (z6 (za 1) z7)) (by decide) (λB' C' s₀ H₀ fp pn=>⟨(zo (i:=0) (show List.Nodup (["_law_k","_law_signs","_law_first","_law_base"]:List Str) from by decide +kernel) (by rfl) (locl (by rfl))),yy,(zA (DE.read (zr (za 1) (za 2) (by intro _ _;rfl))) (DE.read (Yt (za 3) xA (wx (za 0)))))⟩)))) zF) (ze (yf (i:=5) sc.nd (by rfl) (locl (by rfl)) (zI zt)) (ze (yU (t:=(.name 6)) PassesOwn.never (by rfl) (x8 (by rfl) T.b_range (z6 (za 1) z7)) (zo (i:=6) sc.nd (by rfl) (locl (by rfl))) (ze (zl (i:=7) sc.nd (by rfl) (locl (by rfl)) (zr (za 2) (DE.read (z5 (DE.read (zA (za 4) (DE.read (zN (za 6) de_int.read)))) de_int.read)) (by intro _ _;rfl))) (ze (zl (i:=7) sc.nd (by rfl) (locl (by rfl)) (zA (za 7) (DE.read (zr (za 2) (DE.read (z5 (DE.read (zA (DE.read (zN (za 0) de_int.read)) (DE.read (yE de_int.read (za 6))))) de_int.read)) (by intro _ _;rfl))))) (zg (ya 5 (pv 5) (zA (za 7) (DE.read (Yt (za 3) xA (wx (DE.read (z5 (DE.read (zN (za 0) de_int.read)) de_int.read))))))))))) (zg (yG 5 (pv 5)))))))))
theorem YR:FnScope x5 ["_law_script"] (zb yQ):=⟨rfl,rfl,rfl,by decide +kernel,rfl,by decide +kernel,by decide +kernel⟩
theorem J3 {f:Addr}{fd:FuncData}(T:Txt K mg C)(F:Fun K "_law_hours" "_law_hours" yQ f fd) (Haj:Fx P w K mg base "_law_cell" 1 2 z9) (Han:Fx P w K mg base "_law_row" 2 4 yJ):FnOk P w K mg base CX0 3 f fd ["_law_script"] (pSp ⟨K,w⟩ 1 (len? 1 (mir x5 vp))):=by
 have sc:=YR
 refine zH (k:=2) F YR (λcdv A outer s H E B hr=>?_)
 exact (ze (j7 (i:=1) (own:=["_law_n"]) (cap:=[]) (t:=(.name 0)) (by rfl) (ym (sc:=(zb yQ).names) (N:=x5) (by rfl) (by rfl) (by rfl) (by decide +kernel)) (yb hb1 (DR.cur (DA.read (xk Han (hr.mono (by decide)) (by rfl) (zc (zf 0) (zc (zp de_int) (zc (zp de_int) (zc (zp (z5 (DE.read (zw Haj (hr.mono (by decide)) (by rfl) (zc (zf 0) (zc (zp de_int) zj)))) de_int.read)) zj)))))))) (by decide) (λB' C' s₀ H₀ fp pn=>⟨(zo (i:=0) (show List.Nodup (["_law_n"]:List Str) from by decide +kernel) (by rfl) (locl (by rfl))),yy,(zL (zh (zA de_int.read (DE.read (z5 (za 0) de_int.read))) (zh (zN (za 0) de_int.read) zt)))⟩) sc.nd (by rfl) (locl (by rfl))) (ze (zB (zy (yn hr.units) zV (DE.read (z5 (DE.read (zN (DE.read (zw Haj (hr.mono (by decide)) (by rfl) (zc (zf 0) (zc (zp de_int) zj)))) de_int.read)) de_int.read)) de_int.read (nomark _)) (zg (j7 (i:=1) (own:=["_law_many","_law_counters"]) (cap:=[]) (t:=(.tup [0,1])) (by rfl) (ym (sc:=(zb yQ).names) (N:=x5) (by rfl) (by rfl) (by rfl) (by decide +kernel)) (yb hb1 (DR.cur (za 1))) (by decide) (λB' C' s₀ H₀ fp pn=>⟨(zU (by rfl) (zx (zo (i:=0) (show List.Nodup (["_law_many","_law_counters"]:List Str) from by decide +kernel) (by rfl) (locl (by rfl))) (zx (zo (i:=1) (show List.Nodup (["_law_many","_law_counters"]:List Str) from by decide +kernel) (by rfl) (locl (by rfl))) zR))),yy,(zL (zh (yE de_int.read (za 0)) (zh (zA (za 1) (DE.read (yE de_int.read (DE.read (Uh (by rfl) T.b_int (z6 (DE.read (jt yA yw (za 1) de_int.read (nomark _))) z7)))))) zt)))⟩) sc.nd (by rfl) (locl (by rfl)))) zF) (zg (zK (zL (zh (zq 1) (zh (zA de_int.read (DE.read (z5 (DE.read (zN (DE.read (zw Haj (hr.mono (by decide)) (by rfl) (zc (zf 0) (zc (zp de_int) zj)))) de_int.read)) (DE.read (zr (DA.read (zI (zh de_int (zh de_int zt)))) (DE.read (z5 (DE.read (zN (DE.read (zw Haj (hr.mono (by decide)) (by rfl) (zc (zf 0) (zc (zp de_int) zj)))) de_int.read)) de_int.read)) (by intro _ _;rfl)))))) zt)))))))
theorem Wx:FnScope xY ["_law_script"] (zb xq):=⟨rfl,rfl,rfl,by decide +kernel,rfl,by decide +kernel,by decide +kernel⟩
theorem Ve {f:Addr}{fd:FuncData}(T:Txt K mg C)(F:Fun K "_law_queue" "_law_queue" xq f fd) (Hal:Fx P w K mg base "_law_names" 2 2 xl) (Haj:Fx P w K mg base "_law_cell" 1 2 z9) (Han:Fx P w K mg base "_law_row" 2 4 yJ):FnOk P w K mg base CX0 3 f fd ["_law_script"] (pSp ⟨K,w⟩ 1 (len? 1 (mir xY jw))):=by
 have sc:=Wx
 refine zH (k:=2) F Wx (λcdv A outer s H E B hr=>?_)
 exact (ze (zl (i:=1) sc.nd (by rfl) (locl (by rfl)) (zw Haj (hr.mono (by decide)) (by rfl) (zc (zf 0) (zc (zp de_int) zj)))) (ze (zl (i:=2) sc.nd (by rfl) (locl (by rfl)) (z5 (za 1) de_int.read)) (ze (zl (i:=3) sc.nd (by rfl) (locl (by rfl)) (zr (DA.read (zI (zh de_int (zh de_int zt)))) (DE.read (z5 (DE.read (zN (za 1) de_int.read)) de_int.read)) (by intro _ _;rfl))) (ze (zB (zy (yn hr.units) zV (DE.read (z5 (DE.read (zN (za 1) de_int.read)) de_int.read)) de_int.read (nomark _)) (ze (zl (i:=2) sc.nd (by rfl) (locl (by rfl)) de_int) (zg (zl (i:=3) sc.nd (by rfl) (locl (by rfl)) de_int))) zF) (ze (zl (i:=4) sc.nd (by rfl) (locl (by rfl)) (DA.frz (xk Han (hr.mono (by decide)) (by rfl) (zc (zf 0) (zc (zp de_int) (zc (zf 3) (zc (zf 2) zj))))))) (ze (zl (i:=5) sc.nd (by rfl) (locl (by rfl)) (zw Hal (hr.mono (by decide)) (by rfl) (zc (zp (zw Haj (hr.mono (by decide)) (by rfl) (zc (zf 0) (zc (zp de_int) zj)))) (zc (zf 2) zj)))) (zg (jJ (wq (own:=["_law_k"]) (cap:=[("_law_names_here",5),("_law_lefts",4)]) (t:=(.name 0)) (by rfl) (ym (sc:=(zb xq).names) (N:=xY) (by rfl) (by rfl) (by rfl) (by decide +kernel)) (x8 (by rfl) T.b_range (z6 (za 2) z7)) (by decide) (λB' C' s₀ H₀ fp pn=>⟨(zo (i:=0) (show List.Nodup (["_law_k","_law_names_here","_law_lefts"]:List Str) from by decide +kernel) (by rfl) (locl (by rfl))),yy,(zL (zh (zr (za 1) (za 0) (by intro _ _;rfl)) (zh (zA de_int.read (DE.read (zr (za 2) (za 0) (by intro _ _;rfl)))) zt)))⟩))))))))))
theorem ZI:FnScope w9 ["_law_script"] (zb wd):=⟨rfl,rfl,rfl,by decide +kernel,rfl,by decide +kernel,by decide +kernel⟩
theorem V2 {f:Addr}{fd:FuncData}(T:Txt K mg C)(F:Fun K "_law_begin" "_law_begin" wd f fd) (Haj:Fx P w K mg base "_law_cell" 1 2 z9):FnOk P w K mg base CX0 2 f fd ["_law_script"] (pSp ⟨K,w⟩ 1 (len? 1 (mir w9 j4))):=by
 have sc:=ZI
 refine zH (k:=1) F ZI (λcdv A outer s H E B hr=>?_)
 exact (ze (zl (i:=1) sc.nd (by rfl) (locl (by rfl)) (zw Haj (hr.mono (by decide)) (by rfl) (zc (zf 0) (zc (zp de_int) zj)))) (ze (zB (zy (yn hr.units) zV (DE.read (z5 (za 1) de_int.read)) de_int.read (nomark _)) (zg (zK (z5 (DE.read (zN (za 1) de_int.read)) (DE.read (zA (DE.read (qj de_int.read de_int.read)) de_int.read))))) zF) (zg (zK (z5 (DE.read (zN (za 1) de_int.read)) de_int.read)))))
theorem Yd:FnScope vG ["_law_rows","_law_rest","_law_turn_here"] (zb xD):=⟨rfl,rfl,rfl,by decide +kernel,rfl,by decide +kernel,by decide +kernel⟩
theorem J2 {f:Addr}{fd:FuncData}(T:Txt K mg C)(F:Fun K "_law_at" "_law_at" xD f fd):FnOk P w K mg base CX0 1 f fd ["_law_rows","_law_rest","_law_turn_here"] (pSp ⟨K,w⟩ 3 (len? 3 (mir vG jN))):=by
 have sc:=Yd
 refine zH (k:=0) F Yd (λcdv A outer s H E B hr=>?_)
 exact (ze (yU (t:=(.tup [3,4])) PassesOwn.never (by rfl) (yb hb0 (vQ 0 (pv 0))) (zU (by rfl) (zx (zo (i:=3) sc.nd (by rfl) (locl (by rfl))) (zx (zo (i:=4) sc.nd (by rfl) (locl (by rfl))) zR))) (ze (zB (zy yj yg (za 2) (za 3) (nomark _)) (zg (yG 4 (pv 4))) zF) (zg (zl (i:=2) sc.nd (by rfl) (locl (by rfl)) (vy (za 2) (za 3)))))) (zg (yG 1 (pv 1))))
theorem ZQ:FnScope vh ["_law_queue_here","_law_many"] (zb xw):=⟨rfl,rfl,rfl,by decide +kernel,rfl,by decide +kernel,by decide +kernel⟩
theorem KU {f:Addr}{fd:FuncData}(T:Txt K mg C)(F:Fun K "_law_turn" "_law_turn" xw f fd):FnOk P w K mg base CX0 1 f fd ["_law_queue_here","_law_many"] (pSp ⟨K,w⟩ 2 (len? 2 (mir vh jP))):=by
 have sc:=ZQ
 refine zH (k:=0) F ZQ (λcdv A outer s H E B hr=>?_)
 exact (ze (yf (i:=2) sc.nd (by rfl) (locl (by rfl)) (zI zt)) (ze (yU (t:=(.name 3)) PassesOwn.never (by rfl) (x8 (by rfl) T.b_range (z6 (DE.read (yv (by rfl) T.b_len (z6 (za 0) z7))) z7)) (zo (i:=3) sc.nd (by rfl) (locl (by rfl))) (ze (kX (t:=(.tup [4,5])) (zr (za 0) (za 3) (by intro _ _;rfl)) (zU (by rfl) (zx (zo (i:=4) sc.nd (by rfl) (locl (by rfl))) (zx (zo (i:=5) sc.nd (by rfl) (locl (by rfl))) zR)))) (ze (zB (zy yj yg (za 3) (za 1) (nomark _)) (zg (zl (i:=5) sc.nd (by rfl) (locl (by rfl)) (vy (za 5) de_int.read))) zF) (zg (zB (zy yA yw (za 5) de_int.read (nomark _)) (zg (ya 2 (pv 2) (zL (zh (zq 4) (zh (zq 5) zt))))) zF))))) (zg (U2 2 (zK (zL (zh (DA.frz (wq (own:=["_law_name","_law_left"]) (cap:=[]) (t:=(.tup [0,1])) (by rfl) (ym (sc:=(zb xw).names) (N:=vh) (by rfl) (by rfl) (by rfl) (by decide +kernel)) (yb hb1 (DR.cur (DA.read (vH (za 0) xA (wx (za 1)))))) (by decide) (λB' C' s₀ H₀ fp pn=>⟨(zU (by rfl) (zx (zo (i:=0) (show List.Nodup (["_law_name","_law_left"]:List Str) from by decide +kernel) (by rfl) (locl (by rfl))) (zx (zo (i:=1) (show List.Nodup (["_law_name","_law_left"]:List Str) from by decide +kernel) (by rfl) (locl (by rfl))) zR))),yy,(zq 0)⟩))) (zh (zq 2) zt))))))))
theorem u6:FnScope wB ["_law_queue_here","_law_hours_here","_law_begin_here"] (zb xN):=⟨rfl,rfl,rfl,by decide +kernel,rfl,by decide +kernel,by decide +kernel⟩
theorem Jm {f:Addr}{fd:FuncData}(T:Txt K mg C)(F:Fun K "_law_run" "_law_run" xN f fd) (Haq:Fx P w K mg base "_law_turn" 1 2 wU) (Hah:Fx P w K mg base "_law_at" 1 3 wY):FnOk P w K mg base CX0 2 f fd ["_law_queue_here","_law_hours_here","_law_begin_here"] (pSp ⟨K,w⟩ 3 (len? 3 (mir wB vx))):=by
 have sc:=u6
 refine zH (k:=1) F u6 (λcdv A outer s H E B hr=>?_)
 exact (ze (yf (i:=3) sc.nd (by rfl) (locl (by rfl)) (zI zt)) (ze (zl (i:=4) sc.nd (by rfl) (locl (by rfl)) (DA.frz (x6 (by rfl) T.b_list (z6 (za 0) z7)))) (ze (zl (i:=5) sc.nd (by rfl) (locl (by rfl)) (zq 2)) (ze (jq PassesOwn.never (zy (vD hr.units) zV (za 4) (DA.read (zI zt)) (nomark _)) (ze (kX (t:=(.tup [6,4])) (zw Haq (hr.mono (by decide)) (by rfl) (zc (zf 4) (zc (zp (zw Hah (hr.mono (by decide)) (by rfl) (zc (zp (zr (za 1) de_int.read (by intro _ _;rfl))) (zc (zp (zr (za 1) de_int.read (by intro _ _;rfl))) (zc (zf 5) zj))))) zj))) (zU (by rfl) (zx (zo (i:=6) sc.nd (by rfl) (locl (by rfl))) (zx (zo (i:=4) sc.nd (by rfl) (locl (by rfl))) zR)))) (ze (ya 3 (pv 3) (zL (zh (zq 5) (zh (zq 6) zt)))) (zg (zl (i:=5) sc.nd (by rfl) (locl (by rfl)) (zA (za 5) de_int.read)))))) (zg (yG 3 (pv 3)))))))
theorem Y5:FnScope wD ["_law_cell_here","_law_left"] (zb we):=⟨rfl,rfl,rfl,by decide +kernel,rfl,by decide +kernel,by decide +kernel⟩
theorem WM {f:Addr}{fd:FuncData}(T:Txt K mg C)(F:Fun K "_law_turns" "_law_turns" we f fd):FnOk P w K mg base CX0 1 f fd ["_law_cell_here","_law_left"] (pSp ⟨K,w⟩ 2 (len? 2 (mir wD jv))):=by
 have sc:=Y5
 refine zH (k:=0) F Y5 (λcdv A outer s H E B hr=>?_)
 exact (ze (zB (zy yj yg (DE.read (z5 (za 0) de_int.read)) de_int.read (nomark _)) (zg (zK (z5 (za 0) de_int.read))) zF) (zg (zK (zr (DA.read (zI (zh (zq 1) (zh (zA (za 1) de_int.read) (zh (zA (DE.read (qj de_int.read de_int.read)) (DE.read (z5 (za 0) de_int.read))) zt))))) (DE.read (vy (DE.read (z5 (za 0) de_int.read)) de_int.read)) (by intro _ _;rfl)))))
theorem W8:InnOk tellT P w K mg base where
 bind:=λ_ _ _ _ _ _=>rfl
 sc:=λc1 c2 h=>J5 rfl rfl rfl rfl (by decide +kernel) (by decide +kernel) (by decide +kernel) (by decide +kernel) (by decide +kernel) h
 ne:=by decide +kernel
 body:=λf c' c1 c2 A outer s H=>Gv (xt rfl (.inr (.inr rfl))) (xt rfl (.inl rfl)) (xt rfl (.inr (.inr rfl))) (xt rfl (.inl rfl)) (by intro _ _;rfl)
theorem vn:FnScope xZ ["queue","real"] (zb xa):=⟨rfl,rfl,rfl,by decide +kernel,rfl,by decide +kernel,by decide +kernel⟩
theorem Vb {f:Addr}{fd:FuncData}(T:Txt K mg C)(F:Fun K "really_left" "really_left" xa f fd) (W:InnOk tellT P w K mg base) (Haf:Fx P w K mg base "is_whole" 1 1 zJ):FnOk P w K mg base CX0 3 f fd ["queue","real"] (kSp ⟨K,w⟩ tellT 2 (mirK ["queue","real","shorter","name","left","takes","."] 6 (ji))):=by
 have sc:=vn
 refine uO (k:=2) (Fun.toD F) vn (by rfl) (by rintro (h | h | h)<;>exact absurd h (by decide +kernel)) (λcdv A outer s H E B f' a1 kvs cb hr=>?_)
 exact (yk (yf (i:=2) sc.nd (by rfl) (locl (by rfl)) (zI zt)) (yk (yU (t:=(.tup [3,4])) PassesOwn.never (by rfl) (yb hb0 (DE.fix (DA.frz (x6 (by rfl) T.b_list (z6 (za 0) z7))))) (zU (by rfl) (zx (zo (i:=3) sc.nd (by rfl) (locl (by rfl))) (zx (zo (i:=4) sc.nd (by rfl) (locl (by rfl))) zR))) (ze (jS (k:=0) (i:=5) (ir:=1) (id:=6) cb W (hr.mono (by decide)) (pv 1) (zq 3) sc.nd (by rfl) (locl (by rfl))) (ze (zB (yq (yD (yX (ye (DE.read (zw Haf (hr.mono (by decide)) (by rfl) (zc (zf 5) zj))) (by intro _;rfl))) (xj (zy yj yg (za 5) de_int.read (nomark _))))) (zg wW) zF) (zg (zB (zy yA yw (za 5) de_int.read (nomark _)) (zg (ya 2 (pv 2) (zL (zh (zq 3) (zh (km (by rfl) (by rfl) T.b_min (z6 (za 4) (z6 (za 5) z7))) zt))))) zF))))) (qP 2 (qO (zq 2)))))
theorem W2 {f:Addr}{fd:FuncData}(T:Txt K mg C)(F:Fun K "really_left" "really_left" xa f fd) {ca:Str->Addr} (U:Exs P w K mg base ca) (W:InnOk tellT P w K mg base) (Haf:Fx P w K mg base "is_whole" 1 1 zJ):FnOk P w K mg base (CX1 P w) 3 f fd ["queue","real"] (kySp ⟨K,w⟩ tellT ca "-" 2 (mirKY ["queue","real","shorter","name","left","takes","."] 6 ju)):=by
 have sc:=vn
 refine Zp (k:=2) (Fun.toD F) vn (by rfl) (by rintro (h | h | h)<;>exact absurd h (by decide +kernel)) (λcdv A outer s H E B f' a1 kvs pn cb hr=>?_)
 exact (YJ (yf (i:=2) sc.nd (by rfl) (locl (by rfl)) (zI zt)) (WC (t:=(.tup [3,4])) (JN ⟨rfl,rfl⟩) (by rfl) (yb hb0 (DE.fix (DA.frz (x6 (by rfl) T.b_list (z6 (za 0) z7))))) (zU (by rfl) (zx (zo (i:=3) sc.nd (by rfl) (locl (by rfl))) (zx (zo (i:=4) sc.nd (by rfl) (locl (by rfl))) zR))) (ze (jS (k:=0) (i:=5) (ir:=1) (id:=6) cb W (hr.mono (by decide)) (pv 1) (zq 3) sc.nd (by rfl) (locl (by rfl))) (ze (zB (yq (yD (yX (ye (DE.read (zw Haf (hr.mono (by decide)) (by rfl) (zc (zf 5) zj))) (by intro _;rfl))) (xj (zy yj yg (za 5) de_int.read (nomark _))))) (zg wW) zF) (zg (zB (zy yA yw (za 5) de_int.read (nomark _)) (zg (ya 2 (pv 2) (zL (zh (zq 3) (zh (km (by rfl) (by rfl) T.b_min (z6 (za 4) (z6 (za 5) z7))) zt))))) zF)))) (YJ (jS (k:=0) (i:=5) (ir:=1) (id:=6) cb W (hr.mono (by decide)) (pv 1) (zq 3) sc.nd (by rfl) (locl (by rfl))) (Vf (yq (yD (yX (ye (DE.read (zw Haf (hr.mono (by decide)) (by rfl) (zc (zf 5) zj))) (by intro _;rfl))) (xj (zy yj yg (za 5) de_int.read (nomark _))))) (VC (nm := "NoNumber") rfl rfl U.x_NoNumber (by rfl) U.m_NoNumber jk) K4))))
theorem vI:FnScope xS ["queue","hours","begin","real"] (zb yc):=⟨rfl,rfl,rfl,by decide +kernel,rfl,by decide +kernel,by decide +kernel⟩
theorem QW {f:Addr}{fd:FuncData}(T:Txt K mg C)(F:FunD K "run_of" "run_of" yc f fd) (Hax:Fx P w K mg base "turn_served" 2 2 yS) (Hab:Mx P w K mg base C "at" 1 2 (yY C)) (hk_really_left:KxA tellT P w K mg base "really_left" 3 2 xr):FnOk P w K mg base CX0 4 f fd ["queue","hours","begin","real"] (kSp ⟨K,w⟩ tellT 4 (mirK ["queue","hours","begin","real","waiting","rows","turn","served","."] 8 (vZ C))):=by
 have sc:=vI
 refine uO (k:=3) F vI (by rfl) (by rintro (h | h | h)<;>exact absurd h (by decide +kernel)) (λcdv A outer s H E B f' a1 kvs cb hr=>?_)
 exact (yk (Jk (i:=4) (ir:=3) (id:=8) cb hk_really_left (hr.mono (by decide)) (by rfl) (pv 3) (zc (zf 0) (zc (uB 3 (pv 3)) zj)) sc.nd (by rfl) (locl (by rfl))) (yk (yf (i:=5) sc.nd (by rfl) (locl (by rfl)) (zI zt)) (yk (jq PassesOwn.never (ye (za 4) (by intro _;rfl)) (ze (zl (i:=6) sc.nd (by rfl) (locl (by rfl)) (zA (za 2) (DE.read (yv (by rfl) T.b_len (z6 (za 5) z7))))) (ze (zl (i:=7) sc.nd (by rfl) (locl (by rfl)) (zw Hax (hr.mono (by decide)) (by rfl) (zc (zf 4) (zc (zp (YO (zq 1) T.cl Hab (hr.mono (by decide)) (zc (zf 6) zj))) zj)))) (ze (ya 5 (pv 5) (zL (zh (zq 6) (zh (zr (za 7) de_int.read (by intro _ _;rfl)) zt)))) (zg (zl (i:=4) sc.nd (by rfl) (locl (by rfl)) (zr (za 7) de_int.read (by intro _ _;rfl)))))))) (qP 5 (qO (zq 5))))))
theorem WS {f:Addr}{fd:FuncData}(T:Txt K mg C)(F:FunD K "run_of" "run_of" yc f fd) {ca:Str->Addr} (U:Exs P w K mg base ca) (hkx_really_left:KxY tellT P w K mg base ca "-" "really_left" 3 2 wG):FnOk P w K mg base (CX1 P w) 4 f fd ["queue","hours","begin","real"] (kySp ⟨K,w⟩ tellT ca "-" 4 (mirKY ["queue","hours","begin","real","waiting","rows","turn","served","."] 8 qH)):=by
 have sc:=vI
 refine Zp (k:=3) F vI (by rfl) (by rintro (h | h | h)<;>exact absurd h (by decide +kernel)) (λcdv A outer s H E B f' a1 kvs pn cb hr=>?_)
 exact (V4 (i:=4) (ir:=3) (id:=8) Wn cb hkx_really_left (hr.mono (by decide)) (by rfl) (pv 3) (zc (zf 0) (zc (uB 3 (pv 3)) zj)) sc.nd (by rfl) (locl (by rfl)))
theorem kS:FnScope j0 ["_law_queue_here","_law_room","_law_begin_here","_law_turns_here"] (zb yO):=⟨rfl,rfl,rfl,by decide +kernel,rfl,by decide +kernel,by decide +kernel⟩
theorem QK {f c Pt:Addr}{fd:FuncData}(T:Txt K mg C)(F:FunC K "_law_tried" "_law_tried" yO f fd (.ref c)) (hC:∀h,K.In h->PySem.W.CodeHd h c Pt) (hgP:mainGlobals≠Pt) (hBA:base.BuiltinsAt mg Pt) {ca:Str->Addr} (U:Exs P w K mg base ca)
  (hk_run_of:KcA tellT P w K mg base "run_of" 4 4 (mAll (yh C))) (hkx_run_of:KcY tellT P w K mg base ca "-" "run_of" 4 4 (mAll x4)):FnOk P w K mg base CX0 5 f fd ["_law_queue_here","_law_room","_law_begin_here","_law_turns_here"] (tSp ⟨K,w⟩ Pt zO tellT.qual 4 (mirT ["_law_queue_here","_law_room","_law_begin_here","_law_turns_here","_law_asked","_law_tell","_law_found","_law_told","e","."] 9 Pt zO tellT.qual (vA C Pt))):=by
 have sc:=kS
 refine K7 (k:=4) F kS (by rfl) (by rintro (h | h | h)<;>exact absurd h (by decide +kernel)) (λA outer s H E B hr=>⟨s.heap.objs.size+1,s.heap.objs.size+2,?_⟩)
 exact (yk (yf (i:=4) sc.nd (by rfl) (by first|exact .inl rfl|exact .inr rfl) (zI zt)) (yk (UF (T:=tellT) (i:=5) (id:=9) sc.nd (by rfl) (by first|exact .inl rfl|exact .inr rfl) rfl hC hgP hBA (by rfl) (by rfl) (by rfl) (by rfl)) (yk (zl (i:=6) sc.nd (by rfl) (by first|exact .inl rfl|exact .inr rfl) wN) (yk (zl (i:=7) sc.nd (by rfl) (by first|exact .inl rfl|exact .inr rfl) wH) (yk (JK (ca:=ca) (fd := "-") (zg (JD (T:=tellT) (i:=6) ⟨rfl,rfl,rfl,rfl,rfl,rfl,by decide +kernel,rfl,rfl⟩ hk_run_of (hr.mono (by decide)) (by rfl) (pa4 (zf 0) (zf 1) (zf 2) (pv 5)) sc.nd (by rfl) (by first|exact .inl rfl|exact .inr rfl))) (λpn E=>(KB (T:=tellT) (i:=6) Wn ⟨rfl,rfl,rfl,rfl,rfl,rfl,by decide +kernel,rfl,rfl⟩ hkx_run_of (hr.mono (by decide)) (by rfl) (pa4 (zf 0) (zf 1) (zf 2) (pv 5)) sc.nd (by rfl) (by first|exact .inl rfl|exact .inr rfl))) sc.nd ⟨rfl,rfl⟩ (.as (by rfl) U.m_NoNumber (by decide +kernel) (by rfl) (by rfl) (Yq (.cons (QD (U3 (K2 U.is_NoNumber U.z1_NoNumber_HallError (by rfl) T.b_isinstance (by rfl) U.m_HallError (by rfl) (by rfl)) (VS U.is_NoNumber U.t1_NoNumber_ValueError (by rfl) T.b_isinstance (by rfl) T.b_ValueError (by decide +kernel) (by rfl) (by rfl)))) (by rfl) (by first|exact .inl rfl|exact .inr rfl) (by first|exact .inl rfl|exact .inr rfl) (by rfl) .nil) qy) (Yq U.y_NoNumber_NoNumber qy) qy .nil)) (qP 4 (qO (zL (zh (zq 6) (zh (zq 7) (zh (zq 4) zt)))))))))))
theorem ZV:FnScope vq ["_law_script"] (zb yt):=⟨rfl,rfl,rfl,by decide +kernel,rfl,by decide +kernel,by decide +kernel⟩
theorem Vh {f Pt:Addr}{fd:FuncData}(T:Txt K mg C)(F:Fun K "law" "law" yt f fd) (Haj:Fx P w K mg base "_law_cell" 1 2 z9) (Hau:Fx P w K mg base "run_of" 3 4 (xp C)) (Hao:Fx P w K mg base "_law_run" 2 3 zY) (Har:Fx P w K mg base "_law_turns" 1 2 xU) (Hai:Fx P w K mg base "_law_begin" 2 1 xO) (Ham:Fx P w K mg base "_law_queue" 3 1 wc) (Hak:Fx P w K mg base "_law_hours" 3 1 xF) (Haw:KxT P w K mg base Pt zO tellT.qual "_law_tried" 5 4 (yL C Pt)) (Haa:Kx P w K mg base C "Hours" 5 2 (wu C)):FnOk P w K mg base CX0 7 f fd ["_law_script"] (uSp ⟨K,w⟩ Pt zO tellT.qual 1 (mirU ["_law_script","_law_hours_here","_law_queue_here","_law_begin_here","_law_room","_law_turns_here","_law_shorter","_law_k","_law_one","_law_names_here","_law_found","_law_told","_law_asked","_law_at_here","."] 14 Pt zO tellT.qual (vC C Pt))):=by
 have sc:=ZV
 refine Qx (k:=6) (Fun.toD F) ZV (by rfl) (by rintro (h | h | h)<;>exact absurd h (by decide +kernel)) (λcdv A outer s H E B hr=>?_)
 exact (ze (zl (i:=1) sc.nd (by rfl) (locl (by rfl)) (zw Hak (hr.mono (by decide)) (by rfl) (zc (zf 0) zj))) (ze (zl (i:=2) sc.nd (by rfl) (locl (by rfl)) (DA.frz (xk Ham (hr.mono (by decide)) (by rfl) (zc (zf 0) zj)))) (ze (zl (i:=3) sc.nd (by rfl) (locl (by rfl)) (zw Hai (hr.mono (by decide)) (by rfl) (zc (zf 0) zj))) (ze (zl (i:=4) sc.nd (by rfl) (locl (by rfl)) (Qt Haa (hr.mono (by decide)) (by rfl) (zc (zp (DA.frz (x6 (by rfl) T.b_list (z6 (DE.read (zr (za 1) de_int.read (by intro _ _;rfl))) z7)))) (zc (zp (zr (za 1) de_int.read (by intro _ _;rfl))) zj)))) (ze (Kd (j:=5) sc.nd (by rfl) (locl (by rfl)) U9) (ze (yf (i:=6) sc.nd (by rfl) (locl (by rfl)) (zI zt)) (ze (yU (t:=(.tup [7,8])) PassesOwn.never (by rfl) (K3 hb0 (by rfl) T.b_enumerate (Gz hb0 (vQ 2 (pv 2)) VE)) (zU (by rfl) (zx (zo (i:=7) sc.nd (by rfl) (locl (by rfl))) (zx (zo (i:=8) sc.nd (by rfl) (locl (by rfl))) zR))) (ze (kQ 5 (pv 5) (DE.read (zr (za 8) de_int.read (by intro _ _;rfl))) (zw Har (hr.mono (by decide)) (by rfl) (zc (zp (zw Haj (hr.mono (by decide)) (by rfl) (zc (zf 0) (zc (zp (zA de_int.read (za 7))) zj)))) (zc (zp (zr (za 8) de_int.read (by intro _ _;rfl))) zj)))) (zg (zB (zy yA yw (DE.read (ue (kN 5 (pv 5)) (DE.read (zr (za 8) de_int.read (by intro _ _;rfl))))) de_int.read (nomark _)) (zg (ya 6 (pv 6) (zL (zh (zr (za 8) de_int.read (by intro _ _;rfl)) (zh (km (by rfl) (by rfl) T.b_min (z6 (DE.read (zr (za 8) de_int.read (by intro _ _;rfl))) (z6 (DE.read (ue (kN 5 (pv 5)) (DE.read (zr (za 8) de_int.read (by intro _ _;rfl))))) z7))) zt))))) zF)))) (ze (j7 (i:=9) (own:=["_law_name","_law_left"]) (cap:=[]) (t:=(.tup [0,1])) (by rfl) (ym (sc:=(zb yt).names) (N:=vq) (by rfl) (by rfl) (by rfl) (by decide +kernel)) (yb hb1 (DR.cur (za 2))) (by decide) (λB' C' s₀ H₀ fp pn=>⟨(zU (by rfl) (zx (zo (i:=0) (show List.Nodup (["_law_name","_law_left"]:List Str) from by decide +kernel) (by rfl) (locl (by rfl))) (zx (zo (i:=1) (show List.Nodup (["_law_name","_law_left"]:List Str) from by decide +kernel) (by rfl) (locl (by rfl))) zR))),yy,(zq 0)⟩) sc.nd (by rfl) (locl (by rfl))) (ze (Zi (id:=14) (t:=(.tup [10,11,12])) Haw (hr.mono (by decide)) (by rfl) (zc (zp (DA.frz (x6 (by rfl) T.b_list (z6 (za 2) z7)))) (zc (zf 4) (zc (zf 3) (zc (zf 5) zj)))) (zU (by rfl) (zx (zo (i:=10) sc.nd (by rfl) (locl (by rfl))) (zx (zo (i:=11) sc.nd (by rfl) (locl (by rfl))) (zx (zo (i:=12) sc.nd (by rfl) (locl (by rfl))) zR))))) (ze (zB (yq (yD (zy (vD hr.units) zV (za 10) (DA.read (xk Hao (hr.mono (by decide)) (by rfl) (zc (zf 6) (zc (zf 1) (zc (zf 3) zj))))) (nomark _)) (yD (ye (za 11) (by intro _;rfl)) (xj (zy (vD hr.units) zV (za 12) (za 9) (nomark _)))))) (zg (zK wH)) zF) (ze (zB (yq (yD (zy (yn hr.units) zV (za 2) (DA.read (zI zt)) (nomark _)) (xj (zy yA yw (DE.read (z5 (DE.read (zN (DE.read (zw Haj (hr.mono (by decide)) (by rfl) (zc (zf 0) (zc (zp de_int) zj)))) de_int.read)) de_int.read)) de_int.read (nomark _))))) (zg (zK (jt (yn hr.units) zV (DA.read (xk Hau (hr.mono (by decide)) (by rfl) (zc (zp (DA.frz (x6 (by rfl) T.b_list (z6 (za 2) z7)))) (zc (zf 4) (zc (zf 3) (zc (zp wN) zj)))))) (DA.read (xk Hao (hr.mono (by decide)) (by rfl) (zc (zf 2) (zc (zf 1) (zc (zf 3) zj))))) (nomark _)))) zF) (ze (zl (i:=13) sc.nd (by rfl) (locl (by rfl)) (z5 (DE.read (zN (DE.read (zw Haj (hr.mono (by decide)) (by rfl) (zc (zf 0) (zc (zp de_int) zj)))) de_int.read)) (DE.read (yv (by rfl) T.b_len (z6 (za 2) z7))))) (ze (kQ 5 (pv 5) (DE.read (zr (za 9) (za 13) (by intro _ _;rfl))) (zr (DA.read (zI (zh (xJ de_int.read) (zh wH (zh jk (zh wN (zh (xJ (DE.read (qj de_int.read de_int.read))) (zh wH (zh (DA.frz (zI (zh de_int zt))) zt (xh rfl)) (xh rfl)) (xh rfl)) (xh rfl)) (xh rfl)) (xh rfl)) (xh rfl)))) (DE.read (z5 (DE.read (zN (DE.read (zw Haj (hr.mono (by decide)) (by rfl) (zc (zf 0) (zc (zp de_int) zj)))) de_int.read)) de_int.read)) (by intro _ _;rfl))) (ze (Zi (id:=14) (t:=(.tup [10,11,12])) Haw (hr.mono (by decide)) (by rfl) (zc (zp (DA.frz (x6 (by rfl) T.b_list (z6 (za 2) z7)))) (zc (zf 4) (zc (zf 3) (zc (zf 5) zj)))) (zU (by rfl) (zx (zo (i:=10) sc.nd (by rfl) (locl (by rfl))) (zx (zo (i:=11) sc.nd (by rfl) (locl (by rfl))) (zx (zo (i:=12) sc.nd (by rfl) (locl (by rfl))) zR))))) (zg (zK (wX (jt uz ZL (za 10) (DE.read wN) (nomark _)) (wX (zq 11) (jx (jt (yn hr.units) zV (za 12) (DA.read (vH (za 9) xA (wx (DE.read (zA (za 13) de_int.read))))) (nomark _)))))))))))))))))))))
end
end My
namespace My
open PySem PySem.Spec L2 L3 L4 Dv HM
open PyProof.Rows hiding St
def rowD (r:HM.Row):D:=.tup [.int r.1,.int r.2]
def Good (r:HM.Row):Prop:=(1<=r.1/\r.1<=100)/\0<=r.2/\r.2<=8
theorem yB (a:Int):zJ [.val (.int a)]=some (.val (.bl true)):=by
 simp[zJ,mir,stE,wt,xb]
theorem kq {a lo hi:Int}(h1:lo<=a)(h2:a<=hi):yM [.val (.int a),.val (.int lo),.val (.int hi)]=some (.val (.bl true)):=by
 simp[yM,mir,stE,vX,kg,yB,h1,h2]
theorem QV {r:HM.Row}(h:Good r):wQ [.val (rowD r)]=some (.val (.bl true)):=by
 simp[wQ,mir,stE,uJ,qw,rowD,kq h.1.1 h.1.2,kq h.2.1 h.2.2]
theorem yp (ns:List Int)(k:Nat):z9 [.val (.scr ns),.val (.int k)]=some (.val (.int (ns.getD k 0))):=by
 by_cases h:k < ns.length
 ·have e:atI ns (k:Int)=some ns[k]:=yu k (List.getElem?_eq_getElem h)
  simp[z9,mir,stE,vf,jb,h,e]
 ·simp[z9,mir,stE,vf,jb,h]
theorem Wt (a:Int)(k:Int):∃z,yN [.val (.int a),.val (.int k)]=some (.val (.int z)):=by
 have h1:∀x:Int,-LIM < x % 2147483647:=λx=>by unfold LIM;omega
 have h1':∀x:Int,x % 2147483647 < LIM:=λx=>by unfold LIM;omega
 have h2:∀x:Int,-LIM < x % 2147483629:=λx=>by unfold LIM;omega
 have h2':∀x:Int,x % 2147483629 < LIM:=λx=>by unfold LIM;omega
 have l1:-LIM < 69621:=by decide
 have l2:69621 < LIM:=by decide
 have l3:-LIM < 16807:=by decide
 have l4:16807 < LIM:=by decide
 simp[yN,mir,stE,jf,qB,zE,vS,h1,h2,h1',h2',l1,l2,l3,l4]
theorem uj (ns:List Int)(b:Int)(at0:Nat)(cnt:D)(hb:0 < b)(hb2:b < 1073741824):∀(ks:List Nat) (c:Int) (k0:Option En) (vs:List Int),vs.length+ks.length<=1000->(∀v∈vs,0<=v/\v < b) ->
  ∃(c':Int) (k':Option En) (vs':List Int),(∀v∈vs',0<=v/\v < b)/\vs'.length=vs.length+ks.length /\
   forD (.name 6) vz (ks.map λ(k:Nat)=>D.int (0+(k:Int))) [some (.val (.scr ns)),some (.val (.int (at0:Int))),some (.val (.int b)),some (.val cnt),some (.val (.int c)),some (.acc (vs.map D.int)),k0]
   = some (.next [some (.val (.scr ns)),some (.val (.int (at0:Int))),some (.val (.int b)),some (.val cnt),some (.val (.int c')),some (.acc (vs'.map D.int)),k'])
 | [],c,k0,vs,hl,hv=>⟨c,k0,vs,hv,by simp,by simp⟩
 |k::ks,c,k0,vs,hl,hv=>by
  simp only[List.length_cons] at hl
  obtain⟨z,hz⟩:=Wt c (0+(k:Int))
  have e0:=yp ns 0
  have hs:(0:Int)<=(at0:Int) % 8:=by omega
  have ht:(vs.map D.int).length<=TOP:=by simp[TOP];omega
  have ht':vs.length<=TOP:=by simp[TOP];omega
  have ih:=λ(v:Int) (c2:Int) (h1:0<=v) (h2:v < b)=>uj ns b at0 cnt hb hb2 ks c2 (some (.val (.int (0+(k:Int))))) (vs++[v]) (by simp;omega) (by
   intro w hw
   rcases List.mem_append.mp hw with h | h
   ·exact hv w h
   ·rw[List.mem_singleton.mp h];exact⟨h1,h2⟩)
  by_cases q:Builtin.bitAnd (ns.getD 0 0 / 2 ^ ((at0:Int) % 8).toNat) 1=0
  ·obtain⟨c',k',vs',p1,p2,p3⟩:=ih (c % b) (c / b) (Int.emod_nonneg _ (by omega)) (Int.emod_lt_of_pos _ hb)
   refine⟨c',k',vs',p1,by rw[p2];simp;omega,?_⟩
   rw[<-p3]
   simp at e0 q
   simp[vz,e0,zE,Yo hs,q,zE hb,zS hb hb2,ht,ht']
  ·obtain⟨c',k',vs',p1,p2,p3⟩:=ih (z / 8 % b) c (Int.emod_nonneg _ (by omega)) (Int.emod_lt_of_pos _ hb)
   refine⟨c',k',vs',p1,by rw[p2];simp;omega,?_⟩
   rw[<-p3]
   simp at e0 q hz
   simp[vz,e0,zE,Yo hs,q,zE hb,zS,ht,ht',hz]
theorem ZW (ns:List Int)(at0:Nat)(b:Int)(n:Nat)(hb:0 < b)(hb2:b < 1073741824)(hn:n<=900):∃vs:List Int,(∀v∈vs,0<=v/\v < b)/\vs.length=n /\
  yJ [.val (.scr ns),.val (.int at0),.val (.int b),.val (.int n)]=some (.acc (vs.map D.int)):=by
 obtain⟨c',k',vs',p1,p2,p3⟩:=uj ns b at0 (.int n) hb hb2 (List.range n) (ns.getD at0 0) none [] (by simp;omega) (by simp)
 refine⟨vs',p1,by simpa using p2,?_⟩
 have e0:=yp ns at0
 have hB:-BIG<=(n:Int)/\(n:Int)<=BIG:=by unfold BIG;omega
 simp only[yJ,mir,stE,vP,qU]
 simp[e0,hB,wm,TOP] at p3 ⊢
 simp[p3]
theorem Vn {α:Type}{xs:List α}{n:Nat}(h:xs.length<=n)(hn:n<=TOP):xs.length<=TOP:=Nat.le_trans h hn
theorem t16:16<=TOP:=by decide
theorem Zb:∀(rs:List HM.Row),(∀r∈rs,Good r)->compD (.name 0) tYes jH [none] (rs.map rowD)=some (rs.map λ_=>D.bl true)
 | [],_=>by simp
 |r::rs,h=>by
  have h1:=QV (h r (by simp))
  have ih:=Zb rs λq hq=>h q (by simp[hq])
  simp only[List.map_cons,xx,VY,Option.bind_some,Ga,if_true,ih,Option.map_some]
  simp[jH,h1]
theorem Y6 {α:Type}:∀(rs:List α),asBs (rs.map λ_=>D.bl true)=some (rs.map λ_=>true)
 | []=>rfl
 |r::rs=>by simp[asBs,Y6 rs]
theorem Vp {rs:List HM.Row}{rest:Int}(h:∀r∈rs,Good r)(hl:rs.length<=16)(h1:1<=rest)(h2:rest<=8):wz [.val (.lst (rs.map rowD)),.val (.int rest)]=some (.val .non):=by
 have e:=Zb rs h
 have e2:=Y6 rs
 have e3:=kq h1 h2
 have ht:rs.length<=TOP:=Vn hl t16
 simp only[wz,mir,stE,vk,qK]
 have hl':¬((16:Int) < (rs.length:Int)):=by omega
 simp[e,e2,e3,ht,hl,hl']
theorem uZ (R:Option En)(rest:D):∀(rs acc:List HM.Row) (x y:Option En),Pos rs->acc.length+rs.length<=1000 ->
  ∃(x' y':Option En),forD (.tup [3,4]) wF (rs.map rowD) [R,some (.val rest),some (.acc (acc.map rowD)),x,y]=some (.next [R,some (.val rest),some (.acc ((rs.foldl kstep acc).map rowD)),x',y'])
 | [],acc,x,y,_,_=>⟨x,y,by simp⟩
 |r::rs,acc,x,y,hp,hl=>by
  simp only[List.length_cons] at hl
  obtain⟨h1,h2⟩:=Pos.cons.mp hp
  have hk:=ZG acc r
  obtain⟨x',y',e⟩:=uZ R rest rs (kstep acc r) (some (.val (.int r.1))) (some (.val (.int r.2))) h2 (by omega)
  refine⟨x',y',?_⟩
  rw[List.foldl_cons,<-e]
  have ht:acc.length<=TOP:=by simp[TOP];omega
  rcases List.eq_nil_or_concat acc with rfl | ⟨pre,q,rfl⟩
  ·simp[wF,rowD,kstep,h1.1,TOP]
  ·rw[List.concat_eq_append] at ht ⊢
   have hk:kstep (pre++[q]) r=if q.2=r.2 then pre++[(q.1+r.1,r.2)] else pre++[q]++[r]:=by
    unfold kstep;rw[List.getLast?_concat];simp only[List.dropLast_concat]
   rw[hk]
   have ea:atI ((pre++[q]).map rowD) (-1)=some (rowD q):=by rw[List.map_append];exact qM
   have en:ixN (pre.length+1) (-1)=some pre.length:=K6 _
   have es:∀d:D,(pre.map rowD++[rowD q]).set pre.length d=pre.map rowD++[d]:=λd=>by
    rw[List.set_append_right _ _ (by simp)];simp
   have ea':atI (pre.map rowD++[rowD q]) (-1)=some (rowD q):=qM
   by_cases c:q.2=r.2
   ·rw[if_pos c]
    simp[wF,ea',en,es,rowD,c,TOP] at ht ⊢
    try simp[rowD] at ea' es
   ·rw[if_neg c]
    simp[wF,ea',rowD,c,TOP,h1.1] at ht ⊢
    simp[rowD] at ea'
    simp[ea',c,ht]
theorem Kk {rs:List HM.Row}{rest:Int}(h:Pos rs)(hl:rs.length<=500):vi [.val (.lst (rs.map rowD)),.val (.int rest)]=some (.acc ((krows rest rs).map rowD)):=by
 obtain⟨x',y',e⟩:=uZ (some (.val (.lst (rs.map rowD)))) (.int rest) rs [] none none h (by simp;omega)
 simp only[vi,mir,stE,js,kd]
 simp at e
 simp[e,TOP]
 unfold krows kend
 rcases List.eq_nil_or_concat (rs.foldl kstep []) with h0 | ⟨pre,q,h0⟩
 ·rw[h0];simp
 ·rw[List.concat_eq_append] at h0
  rw[h0]
  have ea':atI (pre.map rowD++[rowD q]) (-1)=some (rowD q):=qM
  by_cases c:q.2=rest
  ·simp[ea',rowD,c]
   try simp[rowD] at ea'
  ·simp[ea',rowD,c]
   try simp[rowD] at ea'
def spanD (p:Int×HM.Row):D:=.tup [.int p.1,.int (p.1+p.2.1),.int p.2.2]
def spans:Int->List HM.Row->List (Int×HM.Row)
 |_,[]=>[]
 |s,r::rs=>(s,r)::spans (s+r.1) rs
theorem uc (R:D):∀(rs:List HM.Row) (s:Int) (acc:List D) (x y:Option En),acc.length+rs.length<=1000 ->
  ∃(s':Int) (x' y':Option En),forD (.tup [3,4]) jY (rs.map rowD) [some (.val R),some (.acc acc),some (.val (.int s)),x,y]=some (.next [some (.val R),some (.acc (acc++(spans s rs).map spanD)),some (.val (.int s')),x',y'])
 | [],s,acc,x,y,_=>⟨s,x,y,by simp[spans]⟩
 |r::rs,s,acc,x,y,hl=>by
  simp only[List.length_cons] at hl
  obtain⟨s',x',y',e⟩:=uc R rs (s+r.1) (acc++[spanD (s,r)]) (some (.val (.int r.1))) (some (.val (.int r.2))) (by simp;omega)
  refine⟨s',x',y',?_⟩
  have ht:acc.length<=TOP:=by simp[TOP];omega
  rw[List.append_assoc] at e
  simp only[spans,List.map_cons]
  rw[show acc++spanD (s,r)::(spans (s+r.1) rs).map spanD=acc++([spanD (s,r)]++(spans (s+r.1) rs).map spanD) from rfl,<-e]
  have t3:3<=TOP:=by decide
  simp[jY,rowD,spanD,ht,t3]
theorem Uv {rs:List HM.Row}(hl:rs.length<=500):wK [.val (.lst (rs.map rowD))]=some (.acc ((spans 0 rs).map spanD)):=by
 obtain⟨s',x',y',e⟩:=uc (.lst (rs.map rowD)) rs 0 [] none none (by simp;omega)
 simp only[wK,mir,stE,vL,kA]
 simp at e
 simp[e]
theorem Kn:¬(("spans" : Str) = "kept_rest"):=by decide +kernel
theorem Qp:¬(("kept_rest" : Str) = "spans"):=by decide +kernel
def FS:List Str:=["kept_rest","spans"]
def hoursD (C:Addr)(rest:Int)(ks:List HM.Row):D:=.obj C FS [.int rest,.lst ((spans 0 ks).map spanD)]
theorem QT {a b:D}:lookZ "kept_rest" FS [a,b]=some a:=by simp[lookZ,FS]
theorem qN {a b:D}:lookZ "spans" FS [a,b]=some b:=by simp[lookZ,FS,Kn]
theorem WH (C a dx:Addr){rs:List HM.Row}{rest:Int}(h:∀r∈rs,Good r)(hl:rs.length<=16)(h1:1<=rest)(h2:rest<=8)(hp:Pos rs) :
  mirI C wV (w5 C) a dx [.val (.lst (rs.map rowD)),.val (.int rest)]=some (FS,[.int rest,.lst ((spans 0 (krows rest rs)).map spanD)]):=by
 have e1:=Vp h hl h1 h2
 have e2:=Kk (rest:=rest) hp (by omega)
 have e3:=Uv (rs:=krows rest rs) (Nat.le_trans (VV rest rs) (by omega))
 simp only[mirI,stE,wV,w5]
 simp[e1,e2,e3,putZ,Qp,outI,outJ,FS]
theorem J6 (C:Addr){rs:List HM.Row}{rest:Int}(h:∀r∈rs,Good r)(hl:rs.length<=16)(h1:1<=rest)(h2:rest<=8)(hp:Pos rs) :
  wu C [.val (.lst (rs.map rowD)),.val (.int rest)]=some (FS,[.int rest,.lst ((spans 0 (krows rest rs)).map spanD)]):=WH C 0 0 h hl h1 h2 hp
theorem JI {g1 g2 g3:EnvD->Option D}{n1 n2:Str}(h1:∀o o' l,g1 (o::l)=g1 (o'::l))(h2:∀o o' l,g2 (o::l)=g2 (o'::l))(h3:∀o o' l,g3 (o::l)=g3 (o'::l))(C a dx:Addr)(l:EnvD) :
  outI a dx C (sSeq (sExpr g1) (sSeq (sFldD 0 C n1 g2) (sFldD 0 C n2 g3)) (some (.oac a dx C [] [])::l))=outI 0 0 C (sSeq (sExpr g1) (sSeq (sFldD 0 C n1 g2) (sFldD 0 C n2 g3)) (some (.oac 0 0 C [] [])::l)):=by
 have e1:=h1 (some (.oac a dx C [] [])) (some (.oac 0 0 C [] [])) l
 have e2:=h2 (some (.oac a dx C [] [])) (some (.oac 0 0 C [] [])) l
 cases q1:g1 (some (.oac 0 0 C [] [])::l) with
 |none=>rw[q1] at e1;simp[e1,q1,outI]
 |some d1=>
  rw[q1] at e1
  cases q2:g2 (some (.oac 0 0 C [] [])::l) with
  |none=>rw[q2] at e2;simp[e1,q1,e2,q2,outI]
  |some d2=>
   rw[q2] at e2
   simp[e1,q1,e2,q2]
   have e3:=h3 (some (.oac a dx C (putZ n1 d2 [] []).1 (putZ n1 d2 [] []).2)) (some (.oac 0 0 C (putZ n1 d2 [] []).1 (putZ n1 d2 [] []).2)) l
   cases q3:g3 (some (.oac 0 0 C (putZ n1 d2 [] []).1 (putZ n1 d2 [] []).2)::l) with
   |none=>rw[q3] at e3;simp[putZ] at e3 q3;simp[e3,q3,outI,putZ]
   |some d3=>rw[q3] at e3;simp[putZ] at e3 q3;simp[e3,q3,outI,outJ,putZ]
theorem Ks (C a dx:Addr)(xs:List En):mirI C wV (w5 C) a dx xs=wu C xs:=by
 unfold wu mirI stE
 exact JI (λo o' l=>by simp) (λo o' l=>by simp) (λo o' l=>by simp) C a dx _
theorem t2:2<=TOP:=by decide
theorem qZ:∀(s:Int) (ks:List HM.Row),(spans s ks).length=ks.length
 |_,[]=>rfl
 |s,r::rs=>by simp[spans,qZ (s+r.1) rs]
def stp (s:Int):List HM.Row->Nat->Int
 | [],_=>s
 |r::_,0=>s+r.1
 |r::rs,i+1=>stp (s+r.1) rs i
def cntK (rest:Int):List HM.Row->Nat->Int
 | [],_=>rest
 |r::_,0=>r.2
 |_::rs,i+1=>cntK rest rs i
theorem jU (rest:Int):∀(ks:List HM.Row) (s:Int) (i:Nat),i < ks.length->∃(a:Int) (r:HM.Row),(spans s ks)[i]?=some (a,r)/\a+r.1=stp s ks i/\r.2=cntK rest ks i
 |r::rs,s,0,_=>⟨s,r,by simp[spans],rfl,rfl⟩
 |r::rs,s,i+1,h=>by
  obtain⟨a,q,h1,h2,h3⟩:=jU rest rs (s+r.1) i (by simpa using h)
  exact⟨a,q,by simpa[spans] using h1,h2,h3⟩
theorem ZR:∀(ks:List HM.Row) (s:Int) (i:Nat),Pos ks->s<=stp s ks i
 | [],_,_,_=>Int.le_refl _
 |r::rs,s,0,h=>by have:=(Pos.cons.mp h).1.1;simp only[stp];omega
 |r::rs,s,i+1,h=>by have:=(Pos.cons.mp h).1.1;have:=ZR rs (s+r.1) i (Pos.cons.mp h).2;simp only[stp];omega
theorem Zj:∀(ks:List HM.Row) (s:Int) (i j:Nat),Pos ks->i<=j->stp s ks i<=stp s ks j
 | [],_,_,_,_,_=>Int.le_refl _
 |r::rs,s,0,0,_,_=>Int.le_refl _
 |r::rs,s,0,j+1,h,_=>ZR rs (s+r.1) j (Pos.cons.mp h).2
 |r::rs,s,i+1,0,_,h=>by omega
 |r::rs,s,i+1,j+1,h,hj=>Zj rs (s+r.1) i j (Pos.cons.mp h).2 (by omega)
theorem uM (rest x:Int):∀(ks:List HM.Row) (s:Int) (lo:Nat),(∀i,i < lo->stp s ks i<=x)->(lo < ks.length->x < stp s ks lo)->lo<=ks.length->atR rest ks (x - s)=cntK rest ks lo
 | [],_,_,_,_,_=>rfl
 |r::rs,s,0,_,h2,_=>by
  have h:=h2 (by simp)
  simp only[stp] at h
  have h':x - s < r.1:=by omega
  simp[atR,h',cntK]
 |r::rs,s,lo+1,h1,h2,h3=>by
  have h:=h1 0 (by omega)
  simp only[stp] at h
  have h':¬(x - s < r.1):=by omega
  have e:x - s - r.1=x - (s+r.1):=by omega
  simp only[atR,if_neg h',e,cntK]
  exact uM rest x rs (s+r.1) lo (λi hi=>h1 (i+1) (by omega)) (λhl=>h2 (by simpa using hl)) (by simpa using h3)
theorem atI_nat {α:Type}{xs:List α}{i:Nat}{v:α}(h:xs[i]?=some v):atI xs (i:Int)=some v:=yu i h
theorem qJ (C:Addr)(fs:List Str)(ds:List D)(rest x:Int)(ks:List HM.Row)(hp:Pos ks)(hs:lookZ "spans" fs ds=some (.lst ((spans 0 ks).map spanD))):∀(k lo hi:Nat) (m:Option En),hi - lo<=k->lo<=hi->hi<=ks.length->(∀i,i < lo->stp 0 ks i<=x)->(hi < ks.length->x < stp 0 ks hi) ->
  ∃(lo':Nat) (m':Option En),(lo'<=ks.length/\(∀i,i < lo'->stp 0 ks i<=x)/\(lo' < ks.length->x < stp 0 ks lo')) /\
   whileD (gb' (g2 fLt (gr 2) (gr 3))) (vK C) (k+1) [some (.val (.obj C fs ds)),some (.val (.int x)),some (.val (.int (lo:Int))),some (.val (.int (hi:Int))),m]
    = some (.next [some (.val (.obj C fs ds)),some (.val (.int x)),some (.val (.int (lo':Int))),some (.val (.int (lo':Int))),m'])
 |0,lo,hi,m,hk,hle,hn,h1,h2=>by
  have:lo=hi:=by omega
  subst this
  refine⟨lo,m,⟨hn,h1,h2⟩,?_⟩
  rw[wI]
  simp
 |k+1,lo,hi,m,hk,hle,hn,h1,h2=>by
  by_cases hlt:lo < hi
  ·obtain⟨mid,hm⟩:∃mid:Nat,mid=(lo+hi) / 2:=⟨_,rfl⟩
   have em:((lo:Int)+(hi:Int)) / 2=(mid:Int):=by omega
   have m1:lo<=mid:=by omega
   have m2:mid < hi:=by omega
   clear hm
   obtain⟨a,r,g1,g2',g3⟩:=jU rest ks 0 mid (by omega)
   have ei:atI ((spans 0 ks).map spanD) (mid:Int)=some (spanD (a,r)):=atI_nat (by simp[g1])
   have t1:atI (α:=D) [.int a,.int (a+r.1),.int r.2] 1=some (.int (a+r.1)):=rfl
   have hl2:(lo:Int) < (hi:Int):=by omega
   by_cases hx:x < stp 0 ks mid
   ·obtain⟨lo',m',p,e⟩:=qJ C fs ds rest x ks hp hs k lo mid (some (.val (.int (mid:Int)))) (by omega) (by omega) (by omega) h1 (λ_=>hx)
    refine⟨lo',m',p,?_⟩
    have hx':x < a+r.1:=by rw[g2'];exact hx
    rw[jl (ρ2:=[some (.val (.obj C fs ds)),some (.val (.int x)),some (.val (.int (lo:Int))),some (.val (.int (mid:Int))),some (.val (.int (mid:Int)))]) (by simp[hl2]) (by
     simp[vK,zS,em,hs,ei,spanD,t1,hx']),e]
   ·obtain⟨lo',m',p,e⟩:=qJ C fs ds rest x ks hp hs k (mid+1) hi (some (.val (.int (mid:Int)))) (by omega) (by omega) (by omega) (λi hi'=>Int.le_trans (Zj ks 0 i mid hp (by omega)) (by omega)) h2
    refine⟨lo',m',p,?_⟩
    have hx':¬(x < a+r.1):=by rw[g2'];exact hx
    rw[jl (ρ2:=[some (.val (.obj C fs ds)),some (.val (.int x)),some (.val (.int ((mid+1:Nat):Int))),some (.val (.int (hi:Int))),some (.val (.int (mid:Int)))]) (by simp[hl2]) (by
     simp[vK,zS,em,hs,ei,spanD,t1,hx']),e]
  ·have:lo=hi:=by omega
   subst this
   refine⟨lo,m,⟨hn,h1,h2⟩,?_⟩
   rw[wI]
   simp
theorem Gn (C:Addr){rest x:Int}{ks:List HM.Row}(hp:Pos ks):yY C [.val (hoursD C rest ks),.val (.int x)]=some (.val (.int (atR rest ks x))):=by
 obtain⟨lo,m,⟨p1,p2,p3⟩,e⟩:=qJ C FS [.int rest,.lst ((spans 0 ks).map spanD)] rest x ks hp qN ks.length 0 ks.length none (by omega) (by omega) (by omega) (λi hi=>by omega) (λh=>by omega)
 have ea:=uM rest x ks 0 lo p2 p3 p1
 rw[Int.sub_zero] at ea
 have ew:=vg e
 simp only[yY,mir,stE,vO,qi,hoursD]
 simp only[Int.natCast_zero] at ew
 by_cases hlt:lo < ks.length
 ·obtain⟨a,r,g1,g2',g3⟩:=jU rest ks 0 lo hlt
  have ei:atI ((spans 0 ks).map spanD) (lo:Int)=some (spanD (a,r)):=atI_nat (by simp[g1])
  have t1:atI (α:=D) [.int a,.int (a+r.1),.int r.2] 2=some (.int r.2):=rfl
  have h':(lo:Int) < (ks.length:Int):=by omega
  simp[qN,qZ,ew,ei,spanD,t1,h',ea,g3]
 ·have h':¬((lo:Int) < (ks.length:Int)):=by omega
  have e0:cntK rest ks lo=rest:=by
   have:∀(l:List HM.Row) (i:Nat),l.length<=i->cntK rest l i=rest:=by
    intro l
    induction l with
    |nil=>intro i _;rfl
    |cons q qs ih=>intro i hi;match i,hi with | i+1,hi=>exact ih i (by simpa using hi)
   exact this ks lo (by omega)
  simp[qN,qZ,ew,h',QT,ea,e0]
section
variable (C:Addr){rs:List HM.Row}{rest:Int}
theorem Gu {m:Str}(h1:¬(m = "kept_rest")) (h2:¬(m = "spans")) {r:Int} {x:List D}:lookZ m FS [D.int r,D.lst x]=none:=by simp[lookZ,FS,h1,h2]
theorem Q3 {r:Int}{x:List D}:lookZ "at" FS [D.int r,D.lst x]=none:=Gu (by decide +kernel) (by decide +kernel)
structure Fit (rs:List HM.Row)(rest:Int):Prop where
 good:∀r∈rs,Good r
 len:rs.length<=16
 lo:1<=rest
 hi:rest<=8
theorem Fit.pos (F:Fit rs rest):Pos rs:=λr hr=>⟨by have:=(F.good r hr).1.1;omega,(F.good r hr).2.1⟩
end
open QM
theorem jm {e:EnvD->Option D}(he:∀a b,e [some (.val a),some (.val b)]=some a):∀(q:List (Str×Int)),compD (.tup [0,1]) tYes e [none,none] (q.map tkD)=some ((q.map (·.1)).map D.str)
 | []=>by simp
 |t::q=>by
  have ih:=jm he q
  simp only[List.map_cons,xx,ih]
  simp[tkD,he]
theorem J4 {q:List (Str×Int)}(hl:q.length<=1000):wO [.val (.lst (q.map tkD))]=some (.acc ((q.map (·.1)).map D.str)):=by
 have e:=jm (e:=jW) (λa b=>by simp[jW]) q
 have ht:q.length<=TOP:=by simp[TOP];omega
 simp at e
 simp[wO,mir,stE,Ze,ku,ht,e]
theorem Z2:∀(q:List (Str×Int)),compD (.tup [0,1]) (gb' (g2 fGt (gr 1) (gc (.int 1)))) j5 [none,none] (q.map tkD)=some (((q.filter λt=>decide (1 < t.2)).map λt=>(t.1,t.2 - 1)).map tkD)
 | []=>by simp
 |t::q=>by
  have ih:=Z2 q
  simp only[List.map_cons,xx,ih]
  by_cases h:1 < t.2
  ·rw[List.filter_cons,if_pos (by simpa using h)]
   simp[tkD,j5,h,t2]
  ·rw[List.filter_cons,if_neg (by simpa using h)]
   simp[tkD,j5,h]
theorem V3 {q A Bq:List (Str×Int)}{m:Int}(c1:cutD (q.map tkD) none (some m)=A.map tkD)(c2:cutD (q.map tkD) (some m) none=Bq.map tkD)(hA:A.length<=1000)(hB:Bq.length<=1000) :
  yS [.val (.lst (q.map tkD)),.val (.int m)]=some (.val (.tup [.lst ((A.map (·.1)).map D.str),.lst (((A.filter λt=>decide (1 < t.2)).map λt=>(t.1,t.2 - 1)).map tkD++Bq.map tkD)])):=by
 have e1:=Z2 A
 have e2:=J4 hA
 have hf:=List.length_filter_le (λt:Str×Int=>decide (1 < t.2)) A
 have ht:A.length<=TOP:=by simp[TOP];omega
 have ht3:(A.filter λt=>decide (1 < t.2)).length+Bq.length<=TOP:=by simp only[TOP];omega
 simp at e1 e2
 simp[yS,mir,stE,wR,qX,c1,c2,ht,e1,e2,ht3,t2]
theorem QI {q:List (Str×Int)}{m:Int}(hl:q.length<=1000)(hm:0<=m) :
  yS [.val (.lst (q.map tkD)),.val (.int m)]=some (.val (.tup [.lst ((srv m.toNat q).map D.str),.lst ((beh m.toNat q).map tkD)])):=by
 have c1:cutD (q.map tkD) none (some m)=(q.take m.toNat).map tkD:=by rw[kx hm,List.map_take]
 have c2:cutD (q.map tkD) (some m) none=(q.drop m.toNat).map tkD:=by rw[KJ hm,List.map_drop]
 rw[V3 c1 c2 (by rw[List.length_take];omega) (by rw[List.length_drop];omega),beh,List.map_append]
 rfl
theorem Wm (q:List (Str×Int))(m:Int):∀(ts pre acc:List (Str×Int)) (a b c:Option En),q=pre++ts->acc.length+ts.length<=1000->∃a' b' c',
  forD (.name 3) xE (rngD (pre.length:Int) ts.length) [some (.val (.lst (q.map tkD))),some (.val (.int m)),some (.acc (acc.map tkD)),a,b,c]
   = some (.next [some (.val (.lst (q.map tkD))),some (.val (.int m)),some (.acc ((acc++behL m pre.length ts).map tkD)),a',b',c'])
 | [],pre,acc,a,b,c,_,_=>⟨a,b,c,by simp[rngD,behL]⟩
 |t::ts,pre,acc,a,b,c,hq,hl=>by
  simp only[List.length_cons] at hl
  have ei:atI (q.map tkD) (pre.length:Int)=some (tkD t):=yu _ (by rw[hq];simp)
  have ih:=λ(acc':List (Str×Int)) (l:Int) (h:acc'.length+ts.length<=1000)=>Wm q m ts (pre++[t]) acc' (some (.val (.int (pre.length:Int)))) (some (.val (.str t.1))) (some (.val (.int l))) (by rw[hq];simp) h
  have ec:((pre++[t]).length:Int)=(pre.length:Int)+1:=by simp
  have hT:acc.length<=TOP:=by simp[TOP];omega
  simp only[rngD,List.length_cons]
  by_cases h1:(pre.length:Int) < m
  ·by_cases h2:0 < t.2 - 1
   ·have h3:1 < t.2:=by omega
    obtain⟨a',b',c',e⟩:=ih (acc++[(t.1,t.2 - 1)]) (t.2 - 1) (by simp;omega)
    refine⟨a',b',c',?_⟩
    simp only[behL,if_pos h1,if_pos h2]
    rw[ec] at e
    rw[show (pre++[t]).length=pre.length+1 by simp,List.append_assoc] at e
    rw[<-e]
    simp[xE,ei,tkD,h1,h3,hT,t2]
   ·have h3:¬1 < t.2:=by omega
    obtain⟨a',b',c',e⟩:=ih acc (t.2 - 1) (by omega)
    refine⟨a',b',c',?_⟩
    simp only[behL,if_pos h1,if_neg h2]
    rw[ec] at e
    rw[show (pre++[t]).length=pre.length+1 by simp] at e
    rw[List.nil_append,<-e]
    simp[xE,ei,tkD,h1,h3,hT,t2]
  ·by_cases h2:0 < t.2
   ·obtain⟨a',b',c',e⟩:=ih (acc++[(t.1,t.2)]) t.2 (by simp;omega)
    refine⟨a',b',c',?_⟩
    simp only[behL,if_neg h1,if_pos h2]
    rw[ec] at e
    rw[show (pre++[t]).length=pre.length+1 by simp,List.append_assoc] at e
    rw[<-e]
    simp[xE,ei,tkD,h1,h2,hT,t2]
   ·obtain⟨a',b',c',e⟩:=ih acc t.2 (by omega)
    refine⟨a',b',c',?_⟩
    simp only[behL,if_neg h1,if_neg h2]
    rw[ec] at e
    rw[show (pre++[t]).length=pre.length+1 by simp] at e
    rw[List.nil_append,<-e]
    simp[xE,ei,tkD,h1,h2,hT,t2]
theorem Jx {q:List (Str×Int)}{m:Int}(hp:PosQ q)(hl:q.length<=900)(hm:0<=m) :
  wU [.val (.lst (q.map tkD)),.val (.int m)]=some (.val (.tup [.lst ((srv m.toNat q).map D.str),.lst ((beh m.toNat q).map tkD)])):=by
 obtain⟨a',b',c',e⟩:=Wm q m q [] [] none none none rfl (by simp;omega)
 have e1:=jm (e:=qg) (λa b=>by simp[qg]) (q.take m.toNat)
 have c1:cutD (q.map tkD) none (some m)=(q.take m.toNat).map tkD:=by rw[kx hm,List.map_take]
 have ht:(q.take m.toNat).length<=TOP:=by rw[List.length_take];simp[TOP];omega
 rw[List.nil_append,show behL m ([]:List (Str×Int)).length q=beh m.toNat q from Zo q 0 hp hm] at e
 rw[List.length_take] at ht
 have hB:-BIG<=(q.length:Int)/\(q.length:Int)<=BIG:=by unfold BIG;omega
 simp at e e1
 simp[wU,mir,stE,vh,jP,hB,e,c1,ht,e1,t2]
 simp[e1,srv]
theorem Yg (R:Option En)(rest:Int):∀(rs:List HM.Row) (x:Int) (a b:Option En),
  thenB (forD (.tup [3,4]) j9 (rs.map rowD) [R,some (.val (.int rest)),some (.val (.int x)),a,b]) (sRetV 1)=some (.ret (.val (.int (atR rest rs x))))
 | [],x,a,b=>by simp[atR]
 |r::rs,x,a,b=>by
  have ih:=Yg R rest rs (x - r.1) (some (.val (.int r.1))) (some (.val (.int r.2)))
  by_cases h:x < r.1
  ·simp[rowD,j9,h,atR]
  ·simp only[atR,if_neg h]
   rw[<-ih]
   simp[rowD,j9,h]
theorem UP (rs:List HM.Row)(rest x:Int):wY [.val (.lst (rs.map rowD)),.val (.int rest),.val (.int x)]=some (.val (.int (atR rest rs x))):=by
 have e:=Yg (some (.val (.lst (rs.map rowD)))) rest rs x none none
 simp only[wY,mir,stE,vG,jN]
 simp[e]
theorem jF {rest:Int}:∀(rs:List HM.Row) (x:Int),(∀r∈rs,0<=r.2)->0<=rest->0<=atR rest rs x
 | [],_,_,h=>h
 |r::rs,x,h,hr=>by
  simp only[atR]
  split
  ·exact h r (by simp)
  ·exact jF rs _ (λq hq=>h q (by simp[hq])) hr
theorem jR {rest:Int}:∀(rs:List HM.Row) (x:Int),total rs<=x->Pos rs->atR rest rs x=rest
 | [],_,_,_=>rfl
 |r::rs,x,h,hp=>by
  have h1:=ux (Pos.cons.mp hp).2
  simp only[total] at h
  simp only[atR]
  rw[if_neg (by omega)]
  exact jR rs _ (by omega) (Pos.cons.mp hp).2
def hrD (rs:List HM.Row)(rest:Int):D:=.tup [.lst (rs.map rowD),.int rest]
theorem sum0 {q:List (Str×Int)}(h:PosQ q)(hs:sumQ q=0):q=[]:=by
 cases q with
 |nil=>rfl
 |cons t ts=>
  have h1:1<=t.2:=h t (by simp)
  simp only[sumQ] at hs
  omega
theorem qC (rs:List HM.Row)(rest:Int)(F:Fit rs rest)(X0 X2:Option En):∀(n:Nat) (q:List (Str×Int)) (x:Int) (acc:List (Int×List Str)) (nm:Option En),PosQ q->(∀t∈q,Ok t.1)->q.length<=100->sumQ q+(total rs - x).toNat<=n->acc.length+n<=5000 ->
  ∃(out:List (Int×List Str)) (v4 v5 v6:Option En),((∀r∈out,(∀y∈r.2,Ok y)/\r.2.length<=100)/\Run (atR rest rs) x q out/\out.length<=n) /\
   whileD (gb' (g2 (fEq true) (gr 4) (gFz (gLst gNil)))) qQ (n+1) [X0,some (.val (hrD rs rest)),X2,some (.acc (acc.map rnD)),some (.val (.lst (q.map tkD))),some (.val (.int x)),nm]
    = some (.next [X0,some (.val (hrD rs rest)),X2,some (.acc ((acc++out).map rnD)),v4,v5,v6])
 |0,q,x,acc,nm,hp,ho,hl,hs,ha=>by
  have hq:q=[]:=sum0 hp (by omega)
  subst hq
  refine⟨[],some (.val (.lst [])),some (.val (.int x)),nm,⟨by simp,.nil x,by simp⟩,?_⟩
  rw[wI]
  ·simp
  ·have:=jy (neg:=true) (xs:=[]) (by simp)
   simp at this
   simp[this]
 |n+1,q,x,acc,nm,hp,ho,hl,hs,ha=>by
  by_cases hq:q=[]
  ·subst hq
   refine⟨[],some (.val (.lst [])),some (.val (.int x)),nm,⟨by simp,.nil x,by simp⟩,?_⟩
   rw[wI]
   ·simp
   ·have:=jy (neg:=true) (xs:=[]) (by simp)
    simp at this
    simp[this]
  ·have hn:0<=atR rest rs x:=jF rs x (λr hr=>(F.good r hr).2.1) (by have:=F.lo;omega)
   have e1:=UP rs rest x
   have e2:=Jx (m:=atR rest rs x) hp (by omega) hn
   have hsum:=ur (m:=(atR rest rs x).toNat) hp
   have hql:1<=q.length:=by cases q with | nil=>exact (hq rfl).elim | cons=>simp
   have hdec:sumQ (beh (atR rest rs x).toNat q)+(total rs - (x+1)).toNat<=n:=by
    by_cases hx:x < total rs
    ·omega
    ·have:=jR (rest:=rest) rs x (by omega) F.pos
     have h1:=F.lo
     rw[this] at hsum ⊢
     omega
   have hb:=YN (m:=(atR rest rs x).toNat) (q:=q)
   obtain⟨out,v4,v5,v6,⟨o1,o1r,o1l⟩,o2⟩:=qC rs rest F X0 X2 n (beh (atR rest rs x).toNat q) (x+1) (acc++[(x,srv (atR rest rs x).toNat q)]) (some (.val (.lst ((srv (atR rest rs x).toNat q).map D.str)))) (kW hp) (Zk Ok ho) (by omega) hdec (by simp;omega)
   refine⟨(x,srv (atR rest rs x).toNat q)::out,v4,v5,v6,⟨?_,.cons hq o1r,by simp;omega⟩,?_⟩
   ·intro r hr
    rcases List.mem_cons.mp hr with rfl | hr
    ·refine⟨λy hy=>?_,?_⟩
     ·obtain⟨t,ht,rfl⟩:=List.mem_map.mp hy
      exact ho t (List.mem_of_mem_take ht)
     ·show (srv (atR rest rs x).toNat q).length<=100
      unfold srv
      rw[List.length_map,List.length_take];omega
    ·exact o1 r hr
   ·have tst:=jy (neg:=true) ho
    simp[hq] at tst
    have hT:acc.length<=TOP:=by simp[TOP];omega
    rw[jl (ρ2:=[X0,some (.val (hrD rs rest)),X2,some (.acc ((acc++[(x,srv (atR rest rs x).toNat q)]).map rnD)),some (.val (.lst ((beh (atR rest rs x).toNat q).map tkD))),some (.val (.int (x+1))),some (.val (.lst ((srv (atR rest rs x).toNat q).map D.str)))]),o2]
    ·simp
    ·simp[tst]
    ·simp[qQ,hrD,e1,e2,hT,t2,rnD]
theorem Gq {rs:List HM.Row}{rest x:Int}{q:List (Str×Int)}(F:Fit rs rest)(hx:0<=x)(hp:PosQ q)(ho:∀t∈q,Ok t.1)(hl:q.length<=60)(hs:sumQ q<=1200)(ht:total rs<=2000) :
  ∃out:List (Int×List Str),(∀r∈out,(∀y∈r.2,Ok y)/\r.2.length<=100)/\Run (atR rest rs) x q out/\out.length<=5000/\zY [.val (.lst (q.map tkD)),.val (hrD rs rest),.val (.int x)]=some (.acc (out.map rnD)):=by
 obtain⟨out,v4,v5,v6,⟨o1,o1r,o1l⟩,o2⟩:=qC rs rest F (some (.val (.lst (q.map tkD)))) (some (.val (.int x))) (sumQ q+(total rs - x).toNat) q x [] none hp ho (by omega) (Nat.le_refl _) (by simp;omega)
 refine⟨out,o1,o1r,by omega,?_⟩
 have o3:=vg o2
 simp at o3
 simp[zY,mir,stE,wB,vx,o3]
theorem u9 {α:Type}{f:α->D}{e:EnvD->Option D}{ρ0:EnvD}(P:α->Prop):∀(ks:List D),(∀k∈ks,∃y,P y/\e (ρ0.set 0 (some (.val k)))=some (f y)) ->
  ∃ys:List α,ys.length=ks.length/\(∀y∈ys,P y)/\compD (.name 0) tYes e ρ0 ks=some (ys.map f)
 | [],_=>⟨[],rfl,by simp,by simp⟩
 |k::ks,h=>by
  obtain⟨y,hy,e1⟩:=h k (by simp)
  obtain⟨ys,l,hp,e2⟩:=u9 P ks λk' hk'=>h k' (by simp[hk'])
  refine⟨y::ys,by simp[l],λz hz=>?_,?_⟩
  ·rcases List.mem_cons.mp hz with rfl | hz
   ·exact hy
   ·exact hp z hz
  ·simp[e1,e2]
theorem Kh {lo:Int}:∀ {n:Nat} {d:D},d∈rngD lo n->∃i:Nat,i < n/\d=.int (lo+i):=by
 intro n d h
 rw[wm] at h
 obtain⟨i,hi,rfl⟩:=List.mem_map.mp h
 exact⟨i,List.mem_range.mp hi,rfl⟩
theorem str0:("" : Str).length=0:=by decide +kernel
theorem mod2 (c:Int):c % 2=0∨c % 2=1:=by omega
theorem pick2 (a b c:Int):∃v,atI [D.int a,D.int b] (c % 2)=some (.int v)/\(v=a∨v=b):=by
 rcases mod2 c with h | h<;>rw[h]
 ·exact⟨a,by simp,.inl rfl⟩
 ·exact⟨b,by simp,.inr rfl⟩
theorem vY:∀(rs:List HM.Row),(∀r∈rs,Good r)->total rs<=100 * rs.length
 | [],_=>by simp[total]
 |r::rs,h=>by
  have h1:=(h r (by simp)).1.2
  have ih:=vY rs λq hq=>h q (by simp[hq])
  simp only[total,List.length_cons]
  omega
theorem uu:∀(vs:List Int),compD (.name 0) tYes kC [none] (vs.map D.int)=some ((vs.map λv=>((1+v % 9,v / 9):Int×Int)).map rowD)
 | []=>by simp
 |v::vs=>by
  have ih:=uu vs
  simp only[List.map_cons,xx,ih]
  simp[kC,zE,zS,rowD,t2]
theorem YY:∀(rs:List HM.Row),compD (.tup [0,1]) tYes jL [none,none] (rs.map rowD)=some ((rs.map λr=>((11 * r.1,r.2+4 * (if 0 < r.2 then 1 else 0)):Int×Int)).map rowD)
 | []=>by simp
 |r::rs=>by
  have ih:=YY rs
  have m1:∀x,fMul (.int 11) (.int x)=some (.int (11 * x)):=λx=>vS (by decide) (by decide)
  have m2:∀x,fMul (.int 4) (.int x)=some (.int (4 * x)):=λx=>vS (by decide) (by decide)
  simp only[List.map_cons,xx,ih]
  by_cases h:0 < r.2<;>simp[jL,rowD,t2,m1,m2,h]
theorem Jp (ns:List Int):∃(rs:List HM.Row) (rest:Int),Fit rs rest/\total rs<=2000/\xF [.val (.scr ns)]=some (.val (hrD rs rest)):=by
 have c2:=yp ns 2
 have hm:0<=ns.getD 2 0 % 7:=Int.emod_nonneg _ (by omega)
 have hm2:ns.getD 2 0 % 7 < 7:=Int.emod_lt_of_pos _ (by omega)
 obtain⟨mn,hmn⟩:∃mn:Nat,ns.getD 2 0 % 7=(mn:Int):=⟨(ns.getD 2 0 % 7).toNat,by omega⟩
 obtain⟨vs,v1,v2,v3⟩:=ZW ns 1 45 mn (by omega) (by omega) (by omega)
 have e1:=uu vs
 obtain⟨rv,r1,r2⟩:=pick2 3 8 (ns.getD 2 0 / 1344)
 have hr:1<=1+ns.getD 2 0 / 56 % rv/\1+ns.getD 2 0 / 56 % rv<=8:=by rcases r2 with rfl | rfl<;>omega
 have hrv:0 < rv:=by rcases r2 with rfl | rfl<;>omega
 have hT:vs.length<=TOP:=by simp[TOP];omega
 have g0:∀r∈vs.map (λv=>((1+v % 9,v / 9):Int×Int)),(1<=r.1/\r.1<=9)/\0<=r.2/\r.2<=4:=by
  intro r hr
  obtain⟨v,hv,rfl⟩:=List.mem_map.mp hr
  have:=v1 v hv
  show (1<=1+v % 9/\1+v % 9<=9)/\0<=v / 9/\v / 9<=4
  omega
 simp at c2 hmn v3 r1
 by_cases hc:ns.getD 2 0 / 7 % 8=1
 ·have e2:=YY (vs.map λv=>((1+v % 9,v / 9):Int×Int))
  have gd:∀r∈(vs.map λv=>((1+v % 9,v / 9):Int×Int)).map (λr=>((11 * r.1,r.2+4 * (if 0 < r.2 then 1 else 0)):Int×Int)),Good r:=by
   intro r hr
   obtain⟨u,hu,rfl⟩:=List.mem_map.mp hr
   have:=g0 u hu
   unfold Good
   show (1<=11 * u.1/\11 * u.1<=100)/\0<=u.2+4 * (if 0 < u.2 then 1 else 0)/\u.2+4 * (if 0 < u.2 then 1 else 0)<=8
   split<;>omega
  have tl:=vY _ gd
  refine⟨_,1+ns.getD 2 0 / 56 % rv,⟨gd,by simp;omega,hr.1,hr.2⟩,by simp at tl ⊢;omega,?_⟩
  generalize hA:vs.map (λv=>((1+v % 9,v / 9):Int×Int))=A at e1 e2 gd tl g0 ⊢
  generalize hA':A.map (λr=>((11 * r.1,r.2+4 * (if 0 < r.2 then 1 else 0)):Int×Int))=A' at e2 gd tl ⊢
  have hl:A.length<=TOP:=by rw[<-hA];simpa using hT
  simp at hc
  simp[xF,mir,stE,x5,vp,c2,zE,zS,hmn,v3,hT,e1,hc,hl,e2,r1,zE hrv,t2,hrD]
 ·have gd:∀r∈vs.map (λv=>((1+v % 9,v / 9):Int×Int)),Good r:=λr hr=>by
   have:=g0 r hr
   unfold Good
   omega
  have tl:=vY _ gd
  refine⟨_,1+ns.getD 2 0 / 56 % rv,⟨gd,by simp;omega,hr.1,hr.2⟩,by simp at tl ⊢;omega,?_⟩
  generalize hA:vs.map (λv=>((1+v % 9,v / 9):Int×Int))=A at e1 gd tl g0 ⊢
  simp at hc
  simp[xF,mir,stE,x5,vp,c2,zE,zS,hmn,v3,hT,e1,hc,r1,zE hrv,t2,hrD]
theorem Ji (ns:List Int):∃b:Int,0<=b/\xO [.val (.scr ns)]=some (.val (.int b)):=by
 have c6:=yp ns 6
 have pw:fPow (.int 10) (.int 5)=some (.int 100000):=by rw[Vj];simp
 simp at c6
 by_cases hc:ns.getD 6 0 % 8=1
 ·refine⟨ns.getD 6 0 / 8 % 100001,Int.emod_nonneg _ (by omega),?_⟩
  simp at hc
  simp[xO,mir,stE,w9,j4,c6,zE,zS,hc,pw]
 ·refine⟨ns.getD 6 0 / 8 % 30,Int.emod_nonneg _ (by omega),?_⟩
  simp at hc
  simp[xO,mir,stE,w9,j4,c6,zE,zS,hc]
def nameK (c first:Int)(base:List Nat)(k:Nat):List Nat:=[sg ((first+(k:Int) / 36) % 26),sg ((c / 3+7 * (k:Int)) % 36)]++base.take (c / 108 % 7).toNat
theorem yK {n:Nat}(h:n<=1000):n<=TOP:=Nat.le_trans h (by decide)
theorem uU (c first:Int)(mv:Option En)(base:List Nat)(hb:base.length=7):∀(ks:List Nat) (acc:List Str) (a b:Option En),acc.length+ks.length<=900->∃(a' b':Option En),
  forD (.name 6) jM (ks.map λ(k:Nat)=>D.int (0+(k:Int))) [some (.val (.int c)),mv,some (.val (.str SIGNS)),some (.val (.str (mk base))),some (.val (.int first)),some (.acc (acc.map D.str)),a,b]
   = some (.next [some (.val (.int c)),mv,some (.val (.str SIGNS)),some (.val (.str (mk base))),some (.val (.int first)),some (.acc ((acc++ks.map λk=>mk (nameK c first base k)).map D.str)),a',b'])
 | [],acc,a,b,_=>⟨a,b,by simp⟩
 |k::ks,acc,a,b,hl=>by
  simp only[List.length_cons] at hl
  have e1:=vM (a:=(first+(k:Int) / 36) % 26) (Int.emod_nonneg _ (by omega)) (by have:=Int.emod_lt_of_pos (first+(k:Int) / 36) (show (0:Int) < 26 by omega);omega)
  have e2:=vM (a:=(c / 3+7 * (k:Int)) % 36) (Int.emod_nonneg _ (by omega)) (Int.emod_lt_of_pos _ (by omega))
  have e3:Txt.slice (mk base) none (some (c / 108 % 7))=mk (base.take (c / 108 % 7).toNat):=Yp (Int.emod_nonneg _ (by omega)) (by have:=Int.emod_lt_of_pos (c / 108) (show (0:Int) < 7 by omega);omega)
  obtain⟨a',b',o3⟩:=uU c first mv base hb ks (acc++[mk (nameK c first base k)]) (some (.val (.int (0+(k:Int))))) (some (.val (.str (mk [sg ((first+(k:Int) / 36) % 26),sg ((c / 3+7 * (k:Int)) % 36)])))) (by simp;omega)
  refine⟨a',b',?_⟩
  simp only[List.map_cons]
  rw[List.append_assoc] at o3
  simp only[List.cons_append,List.nil_append] at o3
  rw[<-o3]
  have hT:acc.length<=TOP:=yK (by omega)
  have hmk1:mk [sg ((first+(k:Int) / 36) % 26)]++mk [sg ((c / 3+7 * (k:Int)) % 36)]=mk [sg ((first+(k:Int) / 36) % 26),sg ((c / 3+7 * (k:Int)) % 36)]:=kn _ _
  have hmk2:mk [sg ((first+(k:Int) / 36) % 26),sg ((c / 3+7 * (k:Int)) % 36)]++mk (base.take (c / 108 % 7).toNat)=mk (nameK c first base k):=kn _ _
  have l1:1+1<=TOP:=by decide
  have l2:2+(base.take (c / 108 % 7).toNat).length<=TOP:=yK (by rw[List.length_take];omega)
  have l2':2+min (c / 108 % 7).toNat 7<=TOP:=yK (by omega)
  have l3:base.length<=TOP:=yK (by omega)
  have l4:7<=TOP:=by decide
  have m7:fMul (.int 7) (.int (k:Int))=some (.int (7 * (k:Int))):=vS (by decide) (by decide)
  simp[jM,zE,zS,m7,e1,e2,e3,jn,hb,l1,l2,l2',l4,t2,hmk1,hmk2,hT]
theorem Gb {c first:Int}{base:List Nat}{k:Nat}(hb:base.length=7)(hs:∀d∈base,d∈S36):NameOk (mk (nameK c first base k)):=by
 refine⟨_,_,rfl,YZ (Int.emod_nonneg _ (by omega)) (Int.emod_lt_of_pos _ (by omega)),λd hd=>?_,?_⟩
 ·rcases List.mem_cons.mp hd with rfl | hd
  ·exact ZX (Int.emod_nonneg _ (by omega)) (Int.emod_lt_of_pos _ (by omega))
  ·exact hs d (List.mem_of_mem_take hd)
 ·show (sg _::base.take _).length<=7
  rw[List.length_cons,List.length_take]
  have:=Int.emod_lt_of_pos (c / 108) (show (0:Int) < 7 by omega)
  omega
theorem WW {c first:Int}{base:List Nat}{k k':Nat}(hk:k < 60)(hk':k' < 60)(e:mk (nameK c first base k)=mk (nameK c first base k')):k=k':=by
 have e:=uF e
 unfold nameK at e
 simp only[List.cons_append,List.nil_append,List.cons.injEq] at e
 have h1:=YA (Int.emod_nonneg _ (by omega)) (by have:=Int.emod_lt_of_pos (first+(k:Int) / 36) (show (0:Int) < 26 by omega);omega) (Int.emod_nonneg _ (by omega)) (by have:=Int.emod_lt_of_pos (first+(k':Int) / 36) (show (0:Int) < 26 by omega);omega) e.1
 have h2:=YA (Int.emod_nonneg _ (by omega)) (Int.emod_lt_of_pos _ (by omega)) (Int.emod_nonneg _ (by omega)) (Int.emod_lt_of_pos _ (by omega)) e.2.1
 omega
theorem jX {α:Type}{g:Nat->α}{n:Nat}(h:∀a b,a < n->b < n->g a=g b->a=b):((List.range n).map g).Nodup:=by
 unfold List.Nodup
 rw[List.pairwise_map]
 refine List.Pairwise.imp_of_mem (R:=(· < ·)) (fun {a b} ha hb hab e=>?_) List.pairwise_lt_range
 have:=h a b (List.mem_range.mp ha) (List.mem_range.mp hb) e
 omega
theorem Jq (c:Int)(many:Nat)(hm:many<=60):∃xs:List Str,(∀x∈xs,NameOk x)/\xs.Nodup/\xs.length=many/\xl [.val (.int c),.val (.int many)]=some (.acc (xs.map D.str)):=by
 have hst:=Wt c
 obtain⟨z8,h8⟩:=hst 8
 obtain⟨base,y1,y2,y3⟩:=u9 (f:=λn=>D.str (mk [n])) (e:=je) (ρ0:=[none,some (.val (.str SIGNS)),some (.val (.int c))]) (λn=>n∈S36) (rngD 0 7) (by
  intro k hk
  obtain⟨i,hi,rfl⟩:=Kh hk
  obtain⟨z,hz⟩:=hst (0+(i:Int))
  have ec:=vM (a:=z % 36) (Int.emod_nonneg _ (by omega)) (Int.emod_lt_of_pos _ (by omega))
  refine⟨sg (z % 36),ZX (Int.emod_nonneg _ (by omega)) (Int.emod_lt_of_pos _ (by omega)),?_⟩
  simp at hz
  simp[je,hz,zE,ec])
 rw[yP] at y1
 have ej:asSs (base.map λn=>D.str (mk [n]))=some (base.map λn=>mk [n]):=by
  have:=Wf (base.map λn=>mk [n])
  rw[List.map_map] at this
  exact this
 have ejj:Txt.join "" (base.map λn=>mk [n])=mk base:=by
  have:=W1 (base.map λn=>[n])
  rw[List.map_map] at this
  have e2:(base.map λn=>[n]).flatten=base:=by
   have:∀l:List Nat,(l.map λn=>[n]).flatten=l:=by
    intro l
    induction l with
    |nil=>rfl
    |cons a l ih=>simpa using ih
   exact this base
  rw[e2] at this
  exact this
 have hsum:((base.map λn=>mk [n]).map (·.length)).sum+(base.map λn=>mk [n]).length * ("" : Str).length<=TOP:=by
  have:∀l:List Nat,((l.map λn=>mk [n]).map (·.length)).sum=l.length:=by
   intro l
   induction l with
   |nil=>rfl
   |cons a l ih=>simp only[List.map_cons,List.sum_cons,ih,jn,List.length_cons,List.length_nil];omega
  rw[this,str0];exact yK (by omega)
 have hsum':=hsum
 simp only[List.map_map,List.length_map] at hsum'
 have hB:-BIG<=(many:Int)/\(many:Int)<=BIG:=by unfold BIG;omega
 have b7:-BIG<=(7:Int)/\(7:Int)<=BIG:=by unfold BIG;omega
 have t7:7<=TOP:=by decide
 have hpre:∀g:SD,thenB (some (Fl.next [some (.val (.int c)),some (.val (.int (many:Int))),some (.val (.str SIGNS)),some (.val (.str (mk base))),some (.val (.int (z8 % 26))),none,none,none])) g=g [some (.val (.int c)),some (.val (.int (many:Int))),some (.val (.str SIGNS)),some (.val (.str (mk base))),some (.val (.int (z8 % 26))),none,none,none]:=λg=>rfl
 have hcomp:compD (.name 0) tYes je [none,some (.val (.str SIGNS)),some (.val (.int c))] (rngD 0 7)=some (base.map λn=>D.str (mk [n])):=y3
 by_cases hc:c % 3=0/\(many:Int) < 9
 ·refine⟨(List.range many).map λk=>mk (sg (z8 % 26)::base.take k),λx hx=>?_,?_,by simp,?_⟩
  ·obtain⟨k,hk,rfl⟩:=List.mem_map.mp hx
   refine⟨_,_,rfl,YZ (Int.emod_nonneg _ (by omega)) (Int.emod_lt_of_pos _ (by omega)),λd hd=>y2 d (List.mem_of_mem_take hd),by rw[List.length_take];omega⟩
  ·apply jX
   intro a b ha hb e
   have e:=uF e
   have e:=congrArg List.length e
   simp only[List.length_cons,List.length_take] at e
   omega
  ·have ec:=vM (a:=z8 % 26) (Int.emod_nonneg _ (by omega)) (by have:=Int.emod_lt_of_pos z8 (show (0:Int) < 26 by omega);omega)
   have hcp:∀ks:List Nat,(∀k∈ks,k < 8)->compD (.name 0) tYes kF [none,some (.val (.str SIGNS)),some (.val (.int (z8 % 26))),some (.val (.str (mk base)))] (ks.map λ(k:Nat)=>D.int (0+(k:Int)))=some ((ks.map λk=>mk (sg (z8 % 26)::base.take k)).map D.str):=by
    intro ks
    induction ks with
    |nil=>intro _;simp
    |cons k ks ih=>
     intro h
     have ih:=ih λk' hk'=>h k' (by simp[hk'])
     have hk:=h k (by simp)
     have e3:Txt.slice (mk base) none (some ((k:Nat):Int))=mk (base.take k):=by
      have:=Yp (l:=base) (k:=(k:Int)) (by omega) (by omega)
      simpa using this
     have hmk:mk [sg (z8 % 26)]++mk (base.take k)=mk (sg (z8 % 26)::base.take k):=kn _ _
     have l2:1+(base.take k).length<=TOP:=yK (by rw[List.length_take];omega)
     have l2':1+min k 7<=TOP:=yK (by omega)
     simp only[List.map_cons,xx,ih]
     simp[kF,ec,e3,jn,y1,t7,l2,l2',hmk]
   have hcp:=hcp (List.range many) (λk hk=>by have:=List.mem_range.mp hk;omega)
   rw[<-wm 0 many] at hcp
   have ht:many<=TOP:=yK (by omega)
   generalize (List.range many).map (λk=>mk (sg (z8 % 26)::base.take k))=xs at hcp ⊢
   simp only[SIGNS] at hcomp hcp
   simp[xl,mir,stE,xg,vv,hcomp,ej,ejj,hsum',h8,zE,hc,hB,b7,hcp,yP,t7,ht]
 ·refine⟨(List.range many).map λk=>mk (nameK c (z8 % 26) base k),λx hx=>?_,?_,by simp,?_⟩
  ·obtain⟨k,hk,rfl⟩:=List.mem_map.mp hx
   exact Gb y1 y2
  ·apply jX
   intro a b ha hb e
   exact WW (by omega) (by omega) e
  ·obtain⟨a',b',o3⟩:=uU c (z8 % 26) (some (.val (.int (many:Int)))) base y1 (List.range many) [] none none (by simp;omega)
   rw[<-wm 0 many,List.nil_append] at o3
   generalize (List.range many).map (λk=>mk (nameK c (z8 % 26) base k))=xs at o3 ⊢
   simp only[SIGNS] at hcomp o3
   simp only[List.map_nil] at o3
   simp[xl,mir,stE,xg,vv,hcomp,ej,ejj,hsum',h8,zE,hB,b7,t7,yP]
   by_cases h0:c % 3=0
   ·have h9:¬(many:Int) < 9:=λz=>hc ⟨h0,z⟩
    simp[h0,h9,hB,o3]
   ·simp[h0,hB,o3]
structure Q2 (q:List (Str×Int)):Prop where
 pos:PosQ q
 le:∀t∈q,t.2<=20
 nam:∀t∈q,NameOk t.1
 nd:(nms q).Nodup
 len:q.length<=60
theorem Q2.ok {q:List (Str×Int)}(h:Q2 q):∀t∈q,Ok t.1:=λt ht=>(h.nam t ht).ok
theorem Q2.sum {q:List (Str×Int)}(h:Q2 q):sumQ q<=1200:=uW q h.len h.le
theorem ZZ (ns:List Int)(size:Int)(many:Nat)(h1:0 < size)(h2:size<=20)(hm:many<=60):∃(q:List (Str×Int)) (vs:List Int) (xs:List Str),Q2 q/\q.length=many /\
  yJ [.val (.scr ns),.val (.int 4),.val (.int size),.val (.int many)]=some (.acc (vs.map D.int))/\xl [.val (.int (ns.getD 5 0)),.val (.int many)]=some (.acc (xs.map D.str)) /\
  compD (.name 0) tYes vV [none,some (.val (.lst (xs.map D.str))),some (.val (.lst (vs.map D.int)))] (rngD 0 many)=some (q.map tkD):=by
 obtain⟨vs,v1,v2,v3⟩:=ZW ns 4 size many h1 (by omega) (by omega)
 obtain⟨xs,x1,xn,x2,x3⟩:=Jq (ns.getD 5 0) many hm
 have hcp:∀ks:List Nat,(∀k∈ks,k < many)->compD (.name 0) tYes vV [none,some (.val (.lst (xs.map D.str))),some (.val (.lst (vs.map D.int)))] (ks.map λ(k:Nat)=>D.int (0+(k:Int)))=some ((ks.map λk=>(xs.getD k Str.empty,1+vs.getD k 0)).map tkD):=by
  intro ks
  induction ks with
  |nil=>intro _;simp
  |cons k ks ih=>
   intro h
   have ih:=ih λk' hk'=>h k' (by simp[hk'])
   have hk:=h k (by simp)
   have hx:xs[k]?=some (xs.getD k Str.empty):=by rw[List.getD_eq_getElem?_getD,List.getElem?_eq_getElem (by omega)];rfl
   have hv:vs[k]?=some (vs.getD k 0):=by rw[List.getD_eq_getElem?_getD,List.getElem?_eq_getElem (by omega)];rfl
   have ax:atI (xs.map D.str) (k:Int)=some (.str (xs.getD k Str.empty)):=yu k (by rw[List.getElem?_map,hx];rfl)
   have av:atI (vs.map D.int) (k:Int)=some (.int (vs.getD k 0)):=yu k (by rw[List.getElem?_map,hv];rfl)
   simp only[List.map_cons,xx,ih]
   generalize xs.getD k Str.empty=X at ax ⊢
   generalize vs.getD k 0=Y at av ⊢
   simp[vV,ax,av,tkD,t2]
 have hcp:=hcp (List.range many) (λk hk=>List.mem_range.mp hk)
 rw[<-wm 0 many] at hcp
 have gx:∀k,k < many->xs.getD k Str.empty∈xs:=λk hk=>by
  rw[List.getD_eq_getElem?_getD,List.getElem?_eq_getElem (by omega)];exact List.getElem_mem _
 have gv:∀k,k < many->vs.getD k 0∈vs:=λk hk=>by
  rw[List.getD_eq_getElem?_getD,List.getElem?_eq_getElem (by omega)];exact List.getElem_mem _
 refine⟨_,vs,xs,⟨?_,?_,?_,?_,by simp;omega⟩,by simp,by simpa using v3,x3,hcp⟩
 ·intro t ht
  obtain⟨k,hk,rfl⟩:=List.mem_map.mp ht
  have:=v1 _ (gv k (List.mem_range.mp hk))
  show 1<=1+vs.getD k 0
  omega
 ·intro t ht
  obtain⟨k,hk,rfl⟩:=List.mem_map.mp ht
  have:=v1 _ (gv k (List.mem_range.mp hk))
  show 1+vs.getD k 0<=20
  omega
 ·intro t ht
  obtain⟨k,hk,rfl⟩:=List.mem_map.mp ht
  exact x1 _ (gx k (List.mem_range.mp hk))
 ·unfold nms
  rw[List.map_map]
  apply jX
  intro a b ha hb e
  have e:xs.getD a Str.empty=xs.getD b Str.empty:=e
  rw[List.getD_eq_getElem?_getD,List.getD_eq_getElem?_getD,List.getElem?_eq_getElem (show a < xs.length by omega),List.getElem?_eq_getElem (show b < xs.length by omega)] at e
  exact (List.getElem_inj xn).mp e
theorem Qh (ns:List Int):∃q:List (Str×Int),Q2 q/\wc [.val (.scr ns)]=some (.acc (q.map tkD)):=by
 have c3:=yp ns 3
 have c5:=yp ns 5
 obtain⟨sz,s1,s2⟩:=pick2 6 20 (ns.getD 3 0 / 144)
 have hs1:0 < sz:=by rcases s2 with rfl | rfl<;>omega
 have hs2:sz<=20:=by rcases s2 with rfl | rfl<;>omega
 simp at c3 c5
 by_cases hc:ns.getD 3 0 / 9 % 16=1
 ·obtain⟨q,vs,xs,g,ql,r1,r2,r3⟩:=ZZ ns 3 60 (by omega) (by omega) (by omega)
  refine⟨q,g,?_⟩
  have hB:-BIG<=(60:Int)/\(60:Int)<=BIG:=by unfold BIG;omega
  have ht:60<=TOP:=by decide
  simp at r1 r2 r3 s1 hc
  simp[wc,mir,stE,xY,jw,c3,c5,zE,zS,s1,hc,r1,r2,r3,hB,yP,ht,t2]
 ·have hm:0<=ns.getD 3 0 % 9:=Int.emod_nonneg _ (by omega)
  have hm2:ns.getD 3 0 % 9 < 9:=Int.emod_lt_of_pos _ (by omega)
  obtain⟨mn,hmn⟩:∃mn:Nat,ns.getD 3 0 % 9=(mn:Int):=⟨(ns.getD 3 0 % 9).toNat,by omega⟩
  obtain⟨q,vs,xs,g,ql,r1,r2,r3⟩:=ZZ ns sz mn hs1 hs2 (by omega)
  refine⟨q,g,?_⟩
  have hB:-BIG<=(mn:Int)/\(mn:Int)<=BIG:=by unfold BIG;omega
  have ht:mn<=TOP:=by simp[TOP];omega
  simp at r1 r2 r3 s1 hc hmn
  simp[wc,mir,stE,xY,jw,c3,c5,zE,zS,s1,hc,hmn,r1,r2,r3,hB,yP,ht,t2]
structure HOk (rest:Int)(ks:List HM.Row):Prop where
 pos:Pos ks
 lo:1<=rest
 tot:total ks<=2000
theorem HOk.nn {rest:Int}{ks:List HM.Row}(h:HOk rest ks)(x:Int):0<=atR rest ks x:=jF ks x (λr hr=>(h.pos r hr).2) (by have:=h.lo;omega)
theorem qr (C:Addr){rest:Int}{ks:List HM.Row}(F:HOk rest ks)(b0:Int)(X0 X3:Option En)(Z:EnvD):∀(n:Nat) (q:List (Str×Int)) (acc:List (Int×List Str)) (a b:Option En),PosQ q->(∀t∈q,Ok t.1)->q.length<=100->sumQ q+(total ks - (b0+acc.length)).toNat<=n->acc.length+n<=5000 ->
  ∃(out:List (Int×List Str)) (v4 v6 v7:Option En),((∀r∈out,(∀y∈r.2,Ok y)/\r.2.length<=100)/\Run (atR rest ks) (b0+acc.length) q out/\out.length<=n) /\
   whileD (gt (gr 4)) (xR C) (n+1) (X0::some (.val (hoursD C rest ks))::some (.val (.int b0))::X3::some (.val (.lst (q.map tkD)))::some (.acc (acc.map rnD))::a::b::Z)
    = some (.next (X0::some (.val (hoursD C rest ks))::some (.val (.int b0))::X3::v4::some (.acc ((acc++out).map rnD))::v6::v7::Z))
 |n,q,acc,a,b,hp,ho,hl,hs,ha=>by
  by_cases hq:q=[]
  ·subst hq
   refine⟨[],some (.val (.lst [])),a,b,⟨by simp,.nil _,by simp⟩,?_⟩
   rw[wI]
   ·simp
   ·simp
  ·have hql:1<=q.length:=by cases q with | nil=>exact (hq rfl).elim | cons=>simp
   have hn:=F.nn (b0+acc.length)
   have e1:=Gn C (rest:=rest) (x:=b0+(acc.length:Int)) (ks:=ks) F.pos
   have e2:=QI (q:=q) (m:=atR rest ks (b0+acc.length)) (by omega) hn
   have hsum:=ur (m:=(atR rest ks (b0+acc.length)).toNat) hp
   have hdec:sumQ (beh (atR rest ks (b0+acc.length)).toNat q)+(total ks - (b0+acc.length+1)).toNat+1<=n:=by
    by_cases hx:b0+acc.length < total ks
    ·omega
    ·have:=jR (rest:=rest) ks (b0+acc.length) (by omega) F.pos
     have h1:=F.lo
     rw[this] at hsum ⊢
     omega
   have hb:=YN (m:=(atR rest ks (b0+acc.length)).toNat) (q:=q)
   match n,hs,ha,hdec with
   |n+1,hs,ha,hdec=>
    have el:b0+(((acc++[(b0+(acc.length:Int),srv (atR rest ks (b0+acc.length)).toNat q)]).length:Nat):Int)=b0+acc.length+1:=by simp;omega
    obtain⟨out,v4,v6,v7,⟨o1,o1r,o1l⟩,o2⟩:=qr C F b0 X0 X3 Z n (beh (atR rest ks (b0+acc.length)).toNat q) (acc++[(b0+acc.length,srv (atR rest ks (b0+acc.length)).toNat q)]) (some (.val (.int (b0+acc.length)))) (some (.val (.tup [.lst ((srv (atR rest ks (b0+acc.length)).toNat q).map D.str),.lst ((beh (atR rest ks (b0+acc.length)).toNat q).map tkD)]))) (kW hp) (Zk Ok ho) (by omega) (by rw[el];omega) (by simp;omega)
    rw[el] at o1r
    refine⟨(b0+acc.length,srv (atR rest ks (b0+acc.length)).toNat q)::out,v4,v6,v7,⟨?_,.cons hq o1r,by simp;omega⟩,?_⟩
    ·intro r hr
     rcases List.mem_cons.mp hr with rfl | hr
     ·refine⟨λy hy=>?_,?_⟩
      ·obtain⟨t,ht,rfl⟩:=List.mem_map.mp hy
       exact ho t (List.mem_of_mem_take ht)
      ·show (srv (atR rest ks (b0+acc.length)).toNat q).length<=100
       unfold srv
       rw[List.length_map,List.length_take];omega
     ·exact o1 r hr
    ·have hT:acc.length<=TOP:=by simp[TOP];omega
     rw[jl (ρ2:=_) (by simp[hq]) (show xR C _=some (.next _) from by
      simp[hoursD] at e1
      simp[xR,hoursD,Q3,e1,e2,hT,t2]
      rfl)]
     simp[hoursD,rnD] at o2 ⊢
     exact o2
theorem Q4 (C:Addr){rest:Int}{ks:List HM.Row}(F:HOk rest ks){b0:Int}(hb:0<=b0){q:List (Str×Int)}(hp:PosQ q)(ho:∀t∈q,Ok t.1)(hl:q.length<=60)(hs:sumQ q<=1200) :
  ∃out:List (Int×List Str),(∀r∈out,(∀y∈r.2,Ok y)/\r.2.length<=100)/\Run (atR rest ks) b0 q out/\out.length<=5000 /\
   xp C [.val (.lst (q.map tkD)),.val (hoursD C rest ks),.val (.int b0),.val .non]=some (.acc (out.map rnD)):=by
 have ht:=F.tot
 obtain⟨out,v4,v6,v7,⟨o1,o1r,o1l⟩,o2⟩:=qr C F b0 (some (.val (.lst (q.map tkD)))) (some (.val .non)) [] (sumQ q+(total ks - b0).toNat) q [] none none hp ho (by omega) (by simp) (by simp;omega)
 refine⟨out,o1,by simpa using o1r,by omega,?_⟩
 have o3:=vg o2
 simp at o3
 simp[xp,mir,stE,jj,qe,o3]
section
variable (C:Addr){rest:Int}{ks:List HM.Row}{b0:Int}{q:List (Str×Int)}{out:List (Int×List Str)}
end
theorem W7 (acc:List HM.Row)(r:HM.Row):total (kstep acc r)=total acc+r.1:=by
 rcases List.eq_nil_or_concat acc with rfl | ⟨pre,q,rfl⟩
 ·simp[kstep,total]
 ·rw[List.concat_eq_append]
  unfold kstep
  rw[List.getLast?_concat]
  simp only[List.dropLast_concat]
  split<;>simp[jo,total]<;>omega
theorem u0:∀(rs acc:List HM.Row),total (rs.foldl kstep acc)=total acc+total rs
 | [],acc=>by simp[total]
 |r::rs,acc=>by rw[List.foldl_cons,u0 rs,W7];simp only[total];omega
theorem VA {rest:Int}{rs:List HM.Row}(h:Pos rs):total (krows rest rs)<=total rs:=by
 have h1:=u0 rs []
 obtain⟨_,hp⟩:=xW (rest:=rest) (Φ:=λ_=>()) ⟨λ_ _ _ _ _ _ _ _ _=>rfl,λ_ _ _ _=>rfl⟩ rs [] Pos.nil h
 simp only[total,Int.zero_add] at h1
 unfold krows kend
 rcases List.eq_nil_or_concat (rs.foldl kstep []) with h0 | ⟨pre,q,h0⟩
 ·rw[h0] at h1 ⊢;simp[total] at h1 ⊢;omega
 ·rw[List.concat_eq_append] at h0
  rw[h0] at h1 hp ⊢
  rw[List.getLast?_concat]
  have hq:=(Pos.cons.mp (Pos.app.mp hp).2).1
  rw[jo] at h1
  simp only[total] at h1
  simp only[List.dropLast_concat]
  split
  ·omega
  ·rw[jo];simp only[total];omega
theorem Fit.hok {rs:List HM.Row}{rest:Int}(F:Fit rs rest):HOk rest (krows rest rs):=by
 refine⟨Qz rest rs F.pos,F.lo,?_⟩
 have h1:=VA (rest:=rest) F.pos
 have h2:=vY rs F.good
 have h3:=F.len
 omega
theorem Fit.at {rs:List HM.Row}{rest:Int}(F:Fit rs rest)(x:Int):atR rest (krows rest rs) x=atR rest rs x:=KG (JL rest x) rs F.pos
def Has (kvs:List (Key×D))(v:Str->Int)(q:List (Str×Int)):Prop:=∀t∈q,lookD kvs (.inr t.1)=some (.int (v t.1))/\0<=v t.1
def shQ (v:Str->Int)(q:List (Str×Int)):List (Str×Int):=q.filterMap λt=>if 0 < v t.1 then some (t.1,min t.2 (v t.1)) else none
theorem Wy (v:Str->Int)(t:Str×Int)(q:List (Str×Int)):shQ v (t::q)=(if 0 < v t.1 then [(t.1,min t.2 (v t.1))] else [])++shQ v q:=by
 unfold shQ
 rw[List.filterMap_cons]
 by_cases h:0 < v t.1<;>simp[h]
theorem zW {n:Nat}(h:n<=1000):n<=TOP:=Nat.le_trans h (by decide)
theorem ZY (f a1:Addr)(kvs:List (Key×D))(v:Str->Int)(X0:Option En):∀(q acc:List (Str×Int)) (asked:List D) (a b c:Option En),Has kvs v q->asked.length+q.length<=1000->acc.length+q.length<=1000->∃a' b' c':Option En,
  forD (.tup [3,4]) (zP f a1 kvs) (q.map tkD) [X0,some (.exn f),some (.acc (acc.map tkD)),a,b,c,some (.loc (some a1) (.lst asked))]
   = some (.next [X0,some (.exn f),some (.acc ((acc++shQ v q).map tkD)),a',b',c',some (.loc (some a1) (.lst (asked++(q.map (·.1)).map D.str)))])
 | [],acc,asked,a,b,c,_,_,_=>⟨a,b,c,by simp[shQ]⟩
 |t::q,acc,asked,a,b,c,hv,h1,h2=>by
  obtain⟨e1,e2⟩:=hv t (by simp)
  simp only[List.length_cons] at h1 h2
  have hT:asked.length<=TOP:=zW (by omega)
  have hA:acc.length<=TOP:=zW (by omega)
  obtain⟨a',b',c',ih⟩:=ZY f a1 kvs v X0 q (acc++if 0 < v t.1 then [(t.1,min t.2 (v t.1))] else []) (asked++[.str t.1]) (some (.val (.str t.1))) (some (.val (.int t.2))) (some (.val (.int (v t.1)))) (λx hx=>hv x (by simp[hx])) (by simp;omega) (by split<;>simp<;>omega)
  refine⟨a',b',c',?_⟩
  rw[Wy,<-List.append_assoc]
  have hs:asked++List.map D.str (List.map (λx=>x.1) (t::q))=asked++[D.str t.1]++List.map D.str (List.map (λx=>x.1) q):=by simp
  rw[hs,<-ih]
  have hn:¬(v t.1 < 0):=by omega
  by_cases hp:0 < v t.1
  ·simp[zP,sAsk,tkD,e1,hT,hA,yB,hn,hp,t2]
  ·simp[zP,sAsk,tkD,e1,hT,hA,yB,hn,hp,t2]
theorem Jc (f a1:Addr){kvs:List (Key×D)}{v:Str->Int}{q:List (Str×Int)}{asked:List D}(hv:Has kvs v q)(hl:q.length<=100)(ha:asked.length<=100) :
  xr f a1 kvs asked [.val (.lst (q.map tkD)),.exn f]=some (.lst ((shQ v q).map tkD),asked++(q.map (·.1)).map D.str):=by
 obtain⟨a',b',c',e⟩:=ZY f a1 kvs v (some (.val (.lst (q.map tkD)))) q [] asked none none none hv (by omega) (by simp;omega)
 simp at e
 simp[xr,mirK,stE,xZ,ji,tSqR,tFrR,tRtR,e,frzE,outK]
def Bad (d:D):Prop:=zJ [.val d]=some (.val (.bl false))∨∃i:Int,d=.int i/\i < 0
theorem Yl (f a1:Addr)(kvs:List (Key×D))(v:Str->Int)(X0:Option En){t:Str×Int}{d:D}(hd:lookD kvs (.inr t.1)=some d)(hb:Bad d)(post:List (Str×Int)):∀(pre acc:List (Str×Int)) (asked:List D) (a b c:Option En),Has kvs v pre->asked.length+pre.length<=1000->acc.length+pre.length<=1000 ->
  forD (.tup [3,4]) (zP f a1 kvs) ((pre++t::post).map tkD) [X0,some (.exn f),some (.acc (acc.map tkD)),a,b,c,some (.loc (some a1) (.lst asked))]=none
 | [],acc,asked,a,b,c,_,h1,h2=>by
  have hT:asked.length<=TOP:=zW (by simpa using Nat.le_trans (Nat.le_add_right _ _) h1)
  rcases hb with hb | ⟨i,rfl,hi⟩
  ·simp[zP,sAsk,tkD,hd,hT,hb,t2]
  ·simp[zP,sAsk,tkD,hd,hT,yB,hi,t2]
 |x::pre,acc,asked,a,b,c,hv,h1,h2=>by
  obtain⟨e1,e2⟩:=hv x (by simp)
  simp only[List.length_cons] at h1 h2
  have hT:asked.length<=TOP:=zW (by omega)
  have hA:acc.length<=TOP:=zW (by omega)
  have ih:=Yl f a1 kvs v X0 hd hb post pre (acc++if 0 < v x.1 then [(x.1,min x.2 (v x.1))] else []) (asked++[.str x.1]) (some (.val (.str x.1))) (some (.val (.int x.2))) (some (.val (.int (v x.1)))) (λy hy=>hv y (by simp[hy])) (by simp;omega) (by split<;>simp<;>omega)
  rw[<-ih]
  have hn:¬(v x.1 < 0):=by omega
  by_cases hp:0 < v x.1
  ·simp[zP,sAsk,tkD,e1,hT,hA,yB,hn,hp,t2]
  ·simp[zP,sAsk,tkD,e1,hT,hA,yB,hn,hp,t2]
theorem G0 (f a1:Addr){kvs:List (Key×D)}{v:Str->Int}{pre post:List (Str×Int)}{t:Str×Int}{d:D}{asked:List D}(hv:Has kvs v pre)(hd:lookD kvs (.inr t.1)=some d)(hb:Bad d)(hl:pre.length<=100)(ha:asked.length<=100) :
  xr f a1 kvs asked [.val (.lst ((pre++t::post).map tkD)),.exn f]=none:=by
 have e:=Yl f a1 kvs v (some (.val (.lst ((pre++t::post).map tkD)))) hd hb post pre [] asked none none none hv (by omega) (by simp;omega)
 simp at e
 simp[xr,mirK,stE,xZ,ji,tSqR,tFrR,tRtR,e]
def gyR (f a1:Addr)(kvs:List (Key×D)):EnvD->Option (EnvD×Xv):=(ySeq (sAsk f a1 kvs 5 1 6 (gv 3)) (yIf (gOr (gNot (gt (gCall (len? 1 zJ) frzO (nCons (gn 5) nNil)))) (gb' (g2 fLt (gr 5) (gc (.int 0))))) (xC "NoNumber" (gc (.str "a service really takes a whole number of turns, from 0 on"))) yNo))
theorem uV (f a1:Addr)(kvs:List (Key×D))(v:Str->Int)(X0:Option En){t:Str×Int}{d:D}(hd:lookD kvs (.inr t.1)=some d)(hb:Bad d)(post:List (Str×Int)):∀(pre acc:List (Str×Int)) (asked:List D) (a b c:Option En),Has kvs v pre->asked.length+pre.length<=1000->acc.length+pre.length<=1000->∃A a' b' c':Option En,
  forX (.tup [3,4]) (zP f a1 kvs) (gyR f a1 kvs) ((pre++t::post).map tkD) [X0,some (.exn f),some (.acc (acc.map tkD)),a,b,c,some (.loc (some a1) (.lst asked))]
   = some ([X0,some (.exn f),A,a',b',c',some (.loc (some a1) (.lst (asked++((pre.map (·.1))++[t.1]).map D.str)))],(("NoNumber" : Str),(none:Option D)))
 | [],acc,asked,a,b,c,_,h1,h2=>by
  have hT:asked.length<=TOP:=zW (by simpa using Nat.le_trans (Nat.le_add_right _ _) h1)
  refine⟨some (.acc (acc.map tkD)),some (.val (.str t.1)),some (.val (.int t.2)),some (.val d),?_⟩
  rcases hb with hb | ⟨i,rfl,hi⟩
  ·simp[forX,asgD,zP,gyR,ySeq,yIf,xC,sAsk,tkD,hd,hT,hb,t2]
  ·simp[forX,asgD,zP,gyR,ySeq,yIf,xC,sAsk,tkD,hd,hT,yB,hi,t2]
 |x::pre,acc,asked,a,b,c,hv,h1,h2=>by
  obtain⟨e1,e2⟩:=hv x (by simp)
  simp only[List.length_cons] at h1 h2
  have hT:asked.length<=TOP:=zW (by omega)
  have hA:acc.length<=TOP:=zW (by omega)
  obtain⟨A,a',b',c',ih⟩:=uV f a1 kvs v X0 hd hb post pre (acc++if 0 < v x.1 then [(x.1,min x.2 (v x.1))] else []) (asked++[.str x.1]) (some (.val (.str x.1))) (some (.val (.int x.2))) (some (.val (.int (v x.1)))) (λy hy=>hv y (by simp[hy])) (by simp;omega) (by split<;>simp<;>omega)
  refine⟨A,a',b',c',?_⟩
  have hs:asked++List.map D.str (List.map (λx=>x.1) (x::pre)++[t.1])=asked++[D.str x.1]++List.map D.str (List.map (λx=>x.1) pre++[t.1]):=by simp
  rw[hs,<-ih]
  have hn:¬(v x.1 < 0):=by omega
  by_cases hp:0 < v x.1
  ·simp[forX,asgD,zP,sAsk,tkD,e1,hT,hA,yB,hn,hp,t2]
  ·simp[forX,asgD,zP,sAsk,tkD,e1,hT,hA,yB,hn,hp,t2]
theorem QL (f a1:Addr){kvs:List (Key×D)}{v:Str->Int}{pre post:List (Str×Int)}{t:Str×Int}{d:D}{asked:List D}(hv:Has kvs v pre)(hd:lookD kvs (.inr t.1)=some d)(hb:Bad d)(hl:pre.length<=100)(ha:asked.length<=100) :
  wG f a1 kvs asked [.val (.lst ((pre++t::post).map tkD)),.exn f]=some ((("NoNumber" : Str),(none:Option D)),asked++((pre.map (·.1))++[t.1]).map D.str):=by
 obtain⟨A,a',b',c',e⟩:=uV f a1 kvs v (some (.val (.lst ((pre++t::post).map tkD)))) hd hb post pre [] asked none none none hv (by omega) (by simp;omega)
 have e':ju f a1 kvs [some (.val (.lst ((pre++t::post).map tkD))),some (.exn f),none,none,none,none,some (.loc (some a1) (.lst asked))]=_:=(show _=forX (.tup [3,4]) (zP f a1 kvs) (gyR f a1 kvs) ((pre++t::post).map tkD) [some (.val (.lst ((pre++t::post).map tkD))),some (.exn f),some (.acc []),none,none,none,some (.loc (some a1) (.lst asked))] from by
  unfold ju
  simp[ySeq,yFor,gyR]).trans e
 simp[wG,mirKY,stE,xZ] at *
 rw[e']
 simp[outK]
theorem j8 {f g:Int->Int}(hfg:∀x,f x=g x):∀ {rows rows':List (Int×List Str)} {x:Int} {q:List (Str×Int)},QM.Run f x q rows->QM.Run g x q rows'->rows=rows'
 |_,_,_,_,.nil _,.nil _=>rfl
 |_,_,_,_,.nil _,.cons h _=>absurd rfl h
 |_,_,_,_,.cons h _,.nil _=>absurd rfl h
 |_,_,x,_,.cons _ r1,.cons _ r2=>by
  rw[<-hfg x] at r2 ⊢
  rw[j8 hfg r1 r2]
theorem Wv {v:Str->Int}{q:List (Str×Int)}(h:PosQ q):PosQ (shQ v q):=λt ht=>by
 obtain⟨x,hx,e⟩:=List.mem_filterMap.mp ht
 have:=h x hx
 split at e
 ·cases e;show 1<=min x.2 (v x.1);omega
 ·cases e
theorem jD {v:Str->Int}{q:List (Str×Int)}{t:Str×Int}(ht:t∈shQ v q):∃x∈q,t.1=x.1/\t.2<=x.2:=by
 obtain⟨x,hx,e⟩:=List.mem_filterMap.mp ht
 split at e
 ·cases e;exact⟨x,hx,rfl,by show min x.2 (v x.1)<=x.2;omega⟩
 ·cases e
theorem jO {v:Str->Int}(q:List (Str×Int)):(shQ v q).length<=q.length:=List.length_filterMap_le _ _
theorem Vc (C:Addr):kK C=xR C:=rfl
theorem Qa (C:Addr){rest:Int}{ks:List HM.Row}(F:HOk rest ks){b0:Int}(hb:0<=b0){q:List (Str×Int)}{v:Str->Int}{kvs:List (Key×D)}(hv:Has kvs v q)(hp:PosQ q)(ho:∀t∈q,Ok t.1)(hl:q.length<=60)(hs:sumQ (shQ v q)<=1200) :
  ∃out:List (Int×List Str),(∀r∈out,(∀y∈r.2,Ok y)/\r.2.length<=100)/\Run (atR rest ks) b0 (shQ v q) out/\out.length<=5000 /\
   mAll (yh C) kvs [] [.val (.lst (q.map tkD)),.val (hoursD C rest ks),.val (.int b0)]=some (.lst (out.map rnD),(q.map (·.1)).map D.str):=by
 have ht:=F.tot
 have hl2:=jO (v:=v) q
 obtain⟨out,o1,o1r,o1l,o2⟩:∃out:List (Int×List Str),(∀r∈out,(∀y∈r.2,Ok y)/\r.2.length<=100)/\Run (atR rest ks) b0 (shQ v q) out/\out.length<=5000/\∀(X0 X3:Option En) (Z:EnvD),∃v4 v6 v7:Option En,sWhile (gt (gr 4)) (xR C) (X0::some (.val (hoursD C rest ks))::some (.val (.int b0))::X3::some (.val (.lst ((shQ v q).map tkD)))::some (.acc [])::none::none::Z)=some (.next (X0::some (.val (hoursD C rest ks))::some (.val (.int b0))::X3::v4::some (.acc (out.map rnD))::v6::v7::Z)):=by
  have hk:∀t∈shQ v q,Ok t.1:=λt ht=>by obtain⟨x,hx,e,_⟩:=jD ht;rw[e];exact ho x hx
  have hw:=λ(X0 X3:Option En) (Z:EnvD)=>qr C F b0 X0 X3 Z (sumQ (shQ v q)+(total ks - b0).toNat) (shQ v q) [] none none (Wv hp) hk (by omega) (by simp) (by simp;omega)
  obtain⟨out,v4,v6,v7,⟨o1,o1r,o1l⟩,o2⟩:=hw none none []
  refine⟨out,o1,by simpa using o1r,by omega,λX0 X3 Z=>?_⟩
  obtain⟨out2,w4,w6,w7,⟨p1,p1r,p1l⟩,p2⟩:=hw X0 X3 Z
  have:out2=out:=j8 (λ_=>rfl) (by simpa using p1r) (by simpa using o1r)
  subst this
  refine⟨w4,w6,w7,?_⟩
  have o3:=vg p2
  simpa using o3
 refine⟨out,o1,o1r,o1l,kz (0,0) fun⟨f,a1⟩=>?_⟩
 have er:=Jc f a1 (asked:=[]) hv (by omega) (by simp)
 obtain⟨v4,v6,v7,e⟩:=o2 (some (.val (.lst (q.map tkD)))) (some (.exn f)) [some (.loc (some a1) (.lst ((q.map (·.1)).map D.str)))]
 simp at er
 simp only[List.map_map] at e
 show yh C f a1 kvs [] [.val (.lst (q.map tkD)),.val (hoursD C rest ks),.val (.int b0),.exn f]=_
 simp[yh,mirK,stE,xS,vZ,tSqR,tFrR,tRtR,sAskC,gnE,noH,er,Vc,e,frzE,outK]
theorem Kb {α β:Type}{m:β->Option α}(b:β)(h:m b=none):allOf m=none:=by
 unfold allOf
 rw[dif_neg]
 rintro ⟨q,hq⟩
 have:=hq b
 rw[h] at this;cases this
theorem Kw (C:Addr){H:D}{b0:Int}{pre post:List (Str×Int)}{t:Str×Int}{d:D}{v:Str->Int}{kvs:List (Key×D)}(hv:Has kvs v pre)(hd:lookD kvs (.inr t.1)=some d)(hb:Bad d)(hl:pre.length<=100) :
  mAll (yh C) kvs [] [.val (.lst ((pre++t::post).map tkD)),.val H,.val (.int b0)]=none:=by
 refine Kb (0,0) ?_
 have er:=G0 0 0 (asked:=[]) (post:=post) hv hd hb hl (by simp)
 simp only[List.map_append,List.map_cons] at er
 show yh C 0 0 kvs [] [.val (.lst ((pre++t::post).map tkD)),.val H,.val (.int b0),.exn 0]=_
 simp[yh,mirK,stE,xS,vZ,tSqR,tFrR,tRtR,sAskC,gnE,noH,er]
theorem VH {H:D}{b0:Int}{pre post:List (Str×Int)}{t:Str×Int}{d:D}{v:Str->Int}{kvs:List (Key×D)}(hv:Has kvs v pre)(hd:lookD kvs (.inr t.1)=some d)(hb:Bad d)(hl:pre.length<=100) :
  mAll x4 kvs [] [.val (.lst ((pre++t::post).map tkD)),.val H,.val (.int b0)]=some ((("NoNumber" : Str),(none:Option D)),((pre.map (·.1))++[t.1]).map D.str):=by
 refine kz (0,0) fun⟨f,a1⟩=>?_
 have er:=QL f a1 (asked:=[]) (post:=post) hv hd hb hl (by simp)
 simp only[List.map_append,List.map_cons,List.nil_append] at er
 show x4 f a1 kvs [] [.val (.lst ((pre++t::post).map tkD)),.val H,.val (.int b0),.exn f]=_
 simp[x4,mirKY,stE,xS,qH,yAskC,gnE,noH,er,outK]
theorem YB (C Pt:Addr){xs:List En}{d:D}(h:∀c1 c2,j3 C Pt c1 c2 xs=some d):yL C Pt xs=some d:=kz (0,0) λb=>h b.1 b.2
theorem J8 (C Pt:Addr){q:List D}{H:D}{b0:Int}{kvs:List (Key×D)}{r:D}{asked:List D}(h:mAll (yh C) kvs [] [.val (.lst q),.val H,.val (.int b0)]=some (r,asked)) :
  yL C Pt [.val (.lst q),.val H,.val (.int b0),.dbo kvs]=some (.tup [r,.bl false,.lst asked]):=by
 refine YB C Pt λc1 c2=>?_
 have t3:3<=TOP:=by decide
 unfold j3 mirT
 simp[stE,j0,vA,tSqR,tFrR,tRtR,sTryV,sHand,gHand,sDefD,noH,h,frzE,isT,t3]
theorem JB (C Pt:Addr){q:List D}{H:D}{b0:Int}{kvs:List (Key×D)}{asked:List D}(h:mAll (yh C) kvs [] [.val (.lst q),.val H,.val (.int b0)]=none)
  (hx:mAll x4 kvs [] [.val (.lst q),.val H,.val (.int b0)]=some ((("NoNumber" : Str),(none:Option D)),asked)) :
  yL C Pt [.val (.lst q),.val H,.val (.int b0),.dbo kvs]=some (.tup [.non,.bl true,.lst asked]):=by
 refine YB C Pt λc1 c2=>?_
 have t3:3<=TOP:=by decide
 unfold j3 mirT
 simp[stE,j0,vA,tSqR,tFrR,tRtR,sTryV,sHand,yHand,gHand,sDefD,noH,h,hx,frzE,isT,t3,pickV,suD,okV,unset,jIs]
theorem pow20:fPow (.int 10) (.int 20)=some (.int 100000000000000000000):=rfl
theorem UR (c left:Int)(h:1<=left):∃z:Int,0<=z/\xU [.val (.int c),.val (.int left)]=some (.val (.int z)):=by
 by_cases hc:c % 12 < 9
 ·exact⟨c % 12,Int.emod_nonneg _ (by omega),by simp[xU,mir,stE,wD,jv,zE,hc]⟩
 ·have h3:3<=TOP:=by decide
  have h7:0<=c % 7:=Int.emod_nonneg _ (by omega)
  have hm:c % 12 < 12:=Int.emod_lt_of_pos _ (by omega)
  obtain⟨z,hz,e⟩:∃z:Int,0<=z/\atI [D.int left,D.int (left+1),D.int (100000000000000000000+c % 7)] (c % 12 - 9)=some (.int z):=by
   have:c % 12 - 9=0∨c % 12 - 9=1∨c % 12 - 9=2:=by omega
   rcases this with e | e | e<;>rw[e]
   ·exact⟨left,by omega,rfl⟩
   ·exact⟨left+1,by omega,rfl⟩
   ·exact⟨100000000000000000000+c % 7,by omega,rfl⟩
  exact⟨z,hz,by simp[xU,mir,stE,wD,jv,zE,hc,pow20,e,h3,t2]⟩
def shZ (d:SI)(q:List (Str×Int)):List (Str×Int):=shQ (λx=>(lookS d x).getD 0) q
theorem Ue {d:SI}{x:Str}{z:Int}(h:x∉keysS d):putD (kv d) (.inr x) (.int z)=kv (d++[(x,z)]):=by rw[WJ,vJ h]
theorem Wc {d:SI}{x:Str}{z:Int}(h:x∉keysS d):lookS (d++[(x,z)]) x=some z:=by
 rw[<-vJ h,ud,if_pos rfl]
theorem Jb {d:SI}{x y:Str}{z:Int}(h:x∉keysS d)(hy:y≠x):lookS (d++[(x,z)]) y=lookS d y:=by
 rw[<-vJ h,ud,if_neg (Ne.symm hy)]
theorem Yc {n:Nat}(h:n<=1000):n < sizeLine:=Nat.lt_of_le_of_lt h (by decide)
theorem Zv (ns:List Int)(Y1 Y2 Y3 Y4:Option En)(T:EnvD):∀(ts:List (Str×Int)) (k:Nat) (d:SI) (acc:List (Str×Int)) (a b:Option En),PosQ ts->(∀t∈ts,t.1∉keysS d)->(nms ts).Nodup->d.length+ts.length<=500->acc.length+ts.length<=500->∃(d':SI) (a' b':Option En),
  keysS d'=keysS d++nms ts/\(∀y∈keysS d,lookS d' y=lookS d y)/\(∀t∈ts,∃z,0<=z/\lookS d' t.1=some z) /\
  forD (.tup [7,8]) vW (enumD k (ts.map tkD)) (some (.val (.scr ns))::Y1::Y2::Y3::Y4::some (.dct none (kv d))::some (.acc (acc.map tkD))::a::b::T)
   = some (.next (some (.val (.scr ns))::Y1::Y2::Y3::Y4::some (.dct none (kv d'))::some (.acc ((acc++shZ d' ts).map tkD))::a'::b'::T))
 | [],k,d,acc,a,b,_,_,_,_,_=>⟨d,a,b,by simp[nms],λ_ _=>rfl,by simp,by simp[enumD,shZ,shQ]⟩
 |t::ts,k,d,acc,a,b,hp,hd,nd,h1,h2=>by
  simp only[List.length_cons] at h1 h2
  have ht:=hd t (by simp)
  obtain⟨z,hz,e⟩:=UR (ns.getD (7+k) 0) t.2 (hp t (by simp))
  have nd':t.1∉nms ts/\(nms ts).Nodup:=List.nodup_cons.mp nd
  have hk:keysS (d++[(t.1,z)])=keysS d++[t.1]:=by simp[keysS]
  obtain⟨d',a',b',i1,i2,i3,i4⟩:=Zv ns Y1 Y2 Y3 Y4 T ts (k+1) (d++[(t.1,z)]) (acc++if 0 < z then [(t.1,min t.2 z)] else []) (some (.val (.int k))) (some (.val (tkD t))) (λx hx=>hp x (by simp[hx])) (λx hx=>by
   rw[hk]
   intro hm
   rcases List.mem_append.mp hm with hm | hm
   ·exact hd x (by simp[hx]) hm
   ·exact nd'.1 (by rw[<-List.mem_singleton.mp hm];exact List.mem_map_of_mem hx)) nd'.2 (by simp;omega) (by split<;>simp<;>omega)
  have hl:lookS d' t.1=some z:=by rw[i2 t.1 (by rw[hk];simp)];exact Wc ht
  refine⟨d',a',b',by rw[i1,hk];simp[nms],λy hy=>?_,λx hx=>?_,?_⟩
  ·rw[i2 y (by rw[hk];simp[hy])]
   exact Jb ht λe=>ht (by rw[<-e];exact hy)
  ·rcases List.mem_cons.mp hx with rfl | hx
   ·exact⟨z,hz,hl⟩
   ·exact i3 x hx
  ·have hs:shZ d' (t::ts)=(if 0 < z then [(t.1,min t.2 z)] else [])++shZ d' ts:=by
    unfold shZ;rw[Wy,hl];rfl
   rw[hs,<-List.append_assoc,<-i4]
   have ec:=yp ns (7+k)
   rw[Int.natCast_add] at ec
   have hput:=Ue (z:=z) ht
   have hlook:lookD (kv (d++[(t.1,z)])) (.inr t.1)=some (.int z):=by rw[ko,Wc ht];rfl
   have hlen:(kv d).length < sizeLine:=by rw[Zs];exact Yc (by omega)
   have hA:acc.length<=TOP:=zW (by omega)
   generalize kv (d++[(t.1,z)])=KK at *
   generalize kv d=K0 at *
   simp at ec
   simp only[List.getD_eq_getElem?_getD] at e
   by_cases hp0:0 < z
   ·simp[enumD,vW,tkD,ec,e,hput,hlook,hlen,hp0,hA,t2]
   ·simp[enumD,vW,tkD,ec,e,hput,hlook,hlen,hp0,t2]
section
variable {ρ ρ':EnvD}{b:SD}{r:Option Fl}{gb:EnvD->Option Bool}{s1 s2:SD}{o:En}
theorem ZE (h:gb ρ=some true)(h2:s1 ρ=some (.ret o)):sSeq (sIf gb s1 s2) b ρ=some (.ret o):=by
 show thenB ((gb ρ).bind λc=>if c then s1 ρ else s2 ρ) b=_
 rw[h]
 show thenB (s1 ρ) b=_
 rw[h2];rfl
theorem Zx {Pt:Addr}{tp:Pos}{tq:Str}{id n:Nat}{t:Tgt}{m0:List En->Option D}{gxs:EnvD->Option (List En)}{xs:List En}{d:D}(h1:isT Pt tp tq id ρ=true)(h2:gxs ρ=some xs)(h3:noM xs=true/\xs.length=n)(h4:m0 xs=some d)(h5:asgD t d ρ=some ρ')(k:b ρ'=r) :
  sSeq (sTbl Pt tp tq id n t m0 gxs) b ρ=r:=by
 rw[<-k]
 show thenB (sTbl Pt tp tq id n t m0 gxs ρ) b=_
 unfold sTbl
 rw[if_pos h1,h2,Option.bind_some,if_pos h3,h4,Option.bind_some,h5];rfl
theorem KP {j:Nat}{gi g:EnvD->Option D}{oa:Option Addr}{kvs:List (Key×D)}{d:D}{ky:Key}(h1:ρ[j]?=some (some (.dct oa kvs)))(h2:g ρ=some d)(h3:(gi ρ).bind dKey=some ky)(h4:kvs.length < sizeLine)(k:b (ρ.set j (some (.dct oa (putD kvs ky d))))=r):sSeq (sPutD j gi g) b ρ=r:=by
 rw[<-k]
 show thenB (sPutD j gi g ρ) b=_
 unfold sPutD
 rw[h1]
 simp only[h2,h3,Option.bind_some,if_pos h4];rfl
end
theorem yW (p:Key×D)(kvs:List (Key×D))(k:Key):lookD (p::kvs) k=if p.1=k then some p.2 else lookD kvs k:=by
 unfold lookD
 rw[List.find?_cons]
 by_cases h:p.1=k<;>simp[h]
theorem Y7 (ky k':Key)(d:D):∀kvs:List (Key×D),lookD (kvs.map λp=>if p.1=ky then (p.1,d) else p) k'=if ky=k' then (lookD kvs k').map (λ_=>d) else lookD kvs k'
 | []=>by simp[lookD]
 |p::kvs=>by
  have ih:=Y7 ky k' d kvs
  rw[List.map_cons,yW,yW,ih]
  by_cases h1:p.1=ky
  ·by_cases h2:ky=k'
   ·simp[h1,h2]
   ·have h3:¬(p.1=k'):=λz=>h2 (by rw[<-h1,z])
    simp[h1,h2]
  ·by_cases h2:p.1=k'
   ·have h3:¬(ky=k'):=λz=>h1 (by rw[h2,z])
    rw[if_neg h1,if_pos h2,if_neg h3,if_pos h2]
   ·simp[h1,h2]
theorem Wk (ky:Key):∀kvs:List (Key×D),(kvs.any λp=>decide (p.1=ky))=(lookD kvs ky).isSome
 | []=>rfl
 |p::kvs=>by
  rw[List.any_cons,Wk ky kvs,yW]
  by_cases h:p.1=ky<;>simp[h]
theorem u7 (ky k':Key)(d:D):∀kvs:List (Key×D),lookD kvs ky=none->lookD (kvs++[(ky,d)]) k'=if ky=k' then some d else lookD kvs k'
 | [],_=>by simp[yW,lookD]
 |p::kvs,h=>by
  rw[yW] at h
  split at h
  ·cases h
  ·rename_i hp
   rw[List.cons_append,yW,yW,u7 ky k' d kvs h]
   by_cases h2:p.1=k'
   ·have h3:¬(ky=k'):=λz=>hp (by rw[h2,z])
    simp[h2,h3]
   ·simp[h2]
theorem u5 (ky k':Key)(d:D)(kvs:List (Key×D)):lookD (putD kvs ky d) k'=if ky=k' then some d else lookD kvs k':=by
 unfold putD
 rw[Wk]
 cases h:lookD kvs ky with
 |none=>simp;exact u7 ky k' d kvs h
 |some x=>
  simp
  rw[Y7]
  by_cases hk:ky=k'
  ·subst hk;simp[h]
  ·simp[hk]
theorem uG (c:Bool):zJ [.val (.bl c)]=some (.val (.bl false)):=by simp[zJ,mir,stE,wt,xb,gIs,tyD,subT]
theorem Vs (x:Str):zJ [.val (.str x)]=some (.val (.bl false)):=by simp[zJ,mir,stE,wt,xb,gIs,tyD,subT]
theorem WZ:zJ [.val .non]=some (.val (.bl false)):=by simp[zJ,mir,stE,wt,xb,gIs,tyD,subT]
theorem JM (ds:List D):zJ [.val (.lst ds)]=some (.val (.bl false)):=by simp[zJ,mir,stE,wt,xb,gIs,tyD,subT]
def bads:List D:=[.int (-1),.bl true,.str "3",.non,.int (-100000000000000000000),.bl false,.lst [.int 2]]
theorem Q9 (c:Int):∃d,atI bads (c % 7)=some d/\Bad d:=by
 have h0:0<=c % 7:=Int.emod_nonneg _ (by omega)
 have h7:c % 7 < 7:=Int.emod_lt_of_pos _ (by omega)
 have:c % 7=0∨c % 7=1∨c % 7=2∨c % 7=3∨c % 7=4∨c % 7=5∨c % 7=6:=by omega
 rcases this with e | e | e | e | e | e | e<;>rw[e]
 ·exact⟨_,rfl,.inr ⟨_,rfl,by omega⟩⟩
 ·exact⟨_,rfl,.inl (uG _)⟩
 ·exact⟨_,rfl,.inl (Vs _)⟩
 ·exact⟨_,rfl,.inl WZ⟩
 ·exact⟨_,rfl,.inr ⟨_,rfl,by omega⟩⟩
 ·exact⟨_,rfl,.inl (uG _)⟩
 ·exact⟨_,rfl,.inl (JM _)⟩
theorem Uz {rs:List HM.Row}{rest x:Int}{q:List (Str×Int)}(F:Fit rs rest)(hx:0<=x)(hp:PosQ q)(ho:∀t∈q,Ok t.1)(hl:q.length<=60)(hs:sumQ q<=1200)(ht:total rs<=2000) :
  ∃out:List (Int×List Str),(∀r∈out,(∀y∈r.2,Ok y)/\r.2.length<=100)/\QM.Run (atR rest rs) x q out/\out.length<=5000/\zY [.bor (q.map tkD),.val (hrD rs rest),.val (.int x)]=some (.acc (out.map rnD)):=by
 obtain⟨out,v4,v5,v6,⟨o1,o1r,o1l⟩,o2⟩:=qC rs rest F (some (.bor (q.map tkD))) (some (.val (.int x))) (sumQ q+(total rs - x).toNat) q x [] none hp ho (by omega) (Nat.le_refl _) (by simp;omega)
 refine⟨out,o1,o1r,by omega,?_⟩
 have o3:=vg o2
 simp at o3
 simp[zY,mir,stE,wB,vx,o3]
theorem names_ok {q:List (Str×Int)}(ho:∀t∈q,Ok t.1):∀x∈q.map (·.1),Ok x:=λx hx=>by
 obtain⟨t,ht,rfl⟩:=List.mem_map.mp hx;exact ho t ht
def lawE (C Pt:Addr):SD:=(sSeq (sSet 13 (g2 fMod (g2 fDiv (gCall (len? 2 z9) frzO (nCons (gn 0) (nCons (gVal (gc (.int 7))) nNil))) (gc (.int 12))) (gB fLen (gCons' (gr 2) gNil)))) (sSeq (sPutD 5 (g2 fItem (gr 9) (gr 13)) (g2 fItem (gFz (gLst (gCons' (gNeg (gc (.int 1))) (gCons' (gc (.bl true)) (gCons' (gc (.str "3")) (gCons' (gc .non) (gCons' (gNeg (g2 fPow (gc (.int 10)) (gc (.int 20)))) (gCons' (gc (.bl false)) (gCons' (gFz (gLst (gCons' (gc (.int 2)) gNil))) gNil))))))))) (g2 fMod (g2 fDiv (gCall (len? 2 z9) frzO (nCons (gn 0) (nCons (gVal (gc (.int 8))) nNil))) (gc (.int 12))) (gc (.int 7))))) (sSeq (sTbl Pt zO tellT.qual 14 4 (.tup [10,11,12]) (yL C Pt) (nCons (gVal (gFz (gB fList (gCons' (gr 2) gNil)))) (nCons (gn 4) (nCons (gn 3) (nCons (gn 5) nNil))))) (sRet (gAndV (g2 (fIs false) (gr 10) (gc .non)) (gAndV (gv 11) (g2 (fEq false) (gr 12) (gFz (gSl (gr 9) gNone (gSome (g2 fPlus (gr 13) (gc (.int 1)))))))))))))
theorem W4 (C Pt:Addr)(ns:List Int){H HH:D}{b0:Int}{q:List (Str×Int)}{d:SI}{v:Str->Int}(Q:Q2 q)(hq:q≠[])(hv:Has (kv d) v q)(hd:d.length<=500)(y6 y7 y8 y10 y11 y12:Option En) :
  lawE C Pt [some (.val (.scr ns)),some (.val H),some (.val (.lst (q.map tkD))),some (.val (.int b0)),some (.val HH),some (.dct none (kv d)),y6,y7,y8,some (.val (.lst ((q.map (·.1)).map D.str))),y10,y11,y12,none,some (.loc (some Pt) (.tbl zO tellT.qual))]=some (.ret (.val (.bl true))):=by
 have ec7:=yp ns 7
 have ec8:=yp ns 8
 have hlen:q.length<=60:=Q.len
 have hpos:0 < q.length:=List.length_pos_iff.mpr hq
 obtain⟨i,hi,ei⟩:∃i:Nat,i < q.length/\ns.getD 7 0 / 12 % (q.length:Int)=(i:Int):=by
  have h1:=Int.emod_nonneg (ns.getD 7 0 / 12) (show (q.length:Int)≠0 by omega)
  have h2:=Int.emod_lt_of_pos (ns.getD 7 0 / 12) (show (0:Int) < q.length by omega)
  exact⟨(ns.getD 7 0 / 12 % (q.length:Int)).toNat,by omega,by omega⟩
 obtain⟨bd,eb,hb⟩:=Q9 (ns.getD 8 0 / 12)
 have hsplit:q=q.take i++q[i]::q.drop (i+1):=by rw[List.getElem_cons_drop,List.take_append_drop]
 have hat:atI ((q.map (·.1)).map D.str) (i:Int)=some (.str q[i].1):=yu i (by simp[hi])
 have hne:∀t∈q.take i,t.1≠q[i].1:=λt ht e=>by
  have nd:=Q.nd
  have e2:nms q=nms (q.take i)++q[i].1::nms (q.drop (i+1)):=(congrArg nms hsplit).trans (by simp only[nms,List.map_append,List.map_cons])
  rw[e2] at nd
  have:=(List.nodup_append.mp nd).2.2 t.1 (List.mem_map_of_mem ht) q[i].1 (by simp)
  exact this e
 have hv2:Has (putD (kv d) (.inr q[i].1) bd) v (q.take i):=λt ht=>by
  have:=hv t (List.mem_of_mem_take ht)
  rw[u5,if_neg (λz=>hne t ht (Sum.inr.inj z).symm)]
  exact this
 have hd2:lookD (putD (kv d) (.inr q[i].1) bd) (.inr q[i].1)=some bd:=by rw[u5,if_pos rfl]
 have hl2:(q.take i).length<=100:=by rw[List.length_take];omega
 have en:=Kw C (H:=HH) (b0:=b0) (post:=q.drop (i+1)) hv2 hd2 hb hl2
 have ex:=VH (H:=HH) (b0:=b0) (post:=q.drop (i+1)) hv2 hd2 hb hl2
 rw[<-hsplit] at en ex
 have et:=JB C Pt en ex
 have hcut:cutD ((q.map (·.1)).map D.str) none (some ((i:Int)+1))=((q.take i).map (·.1)++[q[i].1]).map D.str:=by
  rw[kx (by omega)]
  have:((i:Int)+1).toNat=i+1:=by omega
  rw[this,List.take_succ]
  simp[hi]
 have hok:∀x∈(q.take i).map (·.1)++[q[i].1],Ok x:=λx hx=>by
  rcases List.mem_append.mp hx with h | h
  ·obtain⟨t,ht,rfl⟩:=List.mem_map.mp h;exact Q.ok t (List.mem_of_mem_take ht)
  ·rw[List.mem_singleton.mp h];exact Q.ok _ (List.getElem_mem hi)
 have heq:fEq false (.lst (((q.take i).map (·.1)++[q[i].1]).map D.str)) (.lst (((q.take i).map (·.1)++[q[i].1]).map D.str))=some (.bl true):=(Yn (neg:=false) hok hok).trans (by rw[if_neg (by decide),decide_eq_true rfl])
 have hT:q.length<=TOP:=zW (by omega)
 have hlk:(kv d).length < sizeLine:=by rw[Zs];exact Yc (by omega)
 have t7:7<=TOP:=by decide
 have t1:1<=TOP:=by decide
 have hcl:((q.take i).map (·.1)++[q[i].1]).length<=TOP:=by simp;exact zW (by omega)
 generalize ((q.take i).map (·.1)++[q[i].1]).map D.str=AA at *
 have hcl2:((q.map (·.1)).map D.str).length<=TOP:=by simpa using hT
 generalize (q.map (·.1)).map D.str=NM at *
 generalize q[i].1=nm at *
 simp at ec7 ec8
 simp only[List.getD_eq_getElem?_getD] at ei eb
 unfold lawE
 refine xB (d:=.int i) ?_ ?_
 ·have hm:fMod (.int (ns[7]?.getD 0 / 12)) (.int (q.length:Int))=some (.int i):=by rw[<-ei];exact zE (by omega)
  simp[ec7,zS,hT,hm]
 refine KP (oa:=none) (kvs:=kv d) (d:=bd) (ky:=.inr nm) (by simp) ?_ ?_ hlk ?_
 ·unfold bads at eb
  simp[ec8,zE,zS,pow20,t7,t1,eb]
 ·simp[hat]
 generalize putD (kv d) (.inr nm) bd=KK at *
 refine Zx (xs:=[.val (.lst (q.map tkD)),.val HH,.val (.int b0),.dbo KK]) (d:=.tup [.non,.bl true,.lst AA]) (by simp[isT]) (by simp[hT]) (by simp[noM]) et (by rfl) ?_
 simp[hcut,heq]
section
variable {C Pt:Addr}{ns:List Int}{HR HH b TB:D}{QQ NM OO SS PP:List D}{K0:List (Key×D)}{bi:Int}{a' b' y13 y14:Option En}
theorem JR (p4:zY [.bor SS,.val HR,.val (.int bi)]=some (.acc OO))(eqR:fEq true (.lst OO) (.lst OO)=some (.bl false))(eqN:fEq true (.lst NM) (.lst NM)=some (.bl false)) :
  (gOr (gb' (g2 (fEq true) (gr 10) (gFz (gCall (len? 3 zY) accO (nCons (gn 6) (nCons (gn 1) (nCons (gn 3) nNil))))))) (gOr (gt (gr 11)) (gb' (g2 (fEq true) (gr 12) (gr 9)))))
   [some (.val (.scr ns)),some (.val HR),some (.val (.lst QQ)),some (.val (.int bi)),some (.val HH),some (.dct none K0),some (.acc SS),a',b',some (.val (.lst NM)),some (.val (.lst OO)),some (.val (.bl false)),some (.val (.lst NM)),y13,y14]=some false:=by
 simp[p4,eqR,eqN]
theorem Jr {c:Bool}(eq0:fEq false (.lst QQ) (.lst [])=some (.bl c))(ec6:z9 [.val (.scr ns),.val (.int 6)]=some (.val (.int (ns.getD 6 0)))) :
  (gOr (gb' (g2 (fEq false) (gr 2) (gFz (gLst gNil)))) (gb' (g2 fGt (g2 fMod (g2 fDiv (gCall (len? 2 z9) frzO (nCons (gn 0) (nCons (gVal (gc (.int 6))) nNil))) (gc (.int 240))) (gc (.int 3))) (gc (.int 0)))))
   [some (.val (.scr ns)),some (.val HR),some (.val (.lst QQ)),some (.val (.int bi)),some (.val HH),some (.dct none K0),some (.acc SS),a',b',some (.val (.lst NM)),some (.val (.lst OO)),some (.val (.bl false)),some (.val (.lst NM)),y13,y14]=some (c||decide (0 < ns.getD 6 0 / 240 % 3)):=by
 generalize ns.getD 6 0=cc at *
 cases c<;>simp[eq0,ec6,zS,zE]
theorem uv (hT:QQ.length<=TOP)(r4:xp C [.val (.lst QQ),.val HH,.val (.int bi),.val .non]=some (.acc PP))(s4:zY [.val (.lst QQ),.val HR,.val (.int bi)]=some (.acc PP))(eqS:fEq false (.lst PP) (.lst PP)=some (.bl true)) :
  (sRet (g2 (fEq false) (gFz (gCall (len? 4 (xp C)) accO (nCons (gVal (gFz (gB fList (gCons' (gr 2) gNil)))) (nCons (gn 4) (nCons (gn 3) (nCons (gVal (gc .non)) nNil)))))) (gFz (gCall (len? 3 zY) accO (nCons (gn 2) (nCons (gn 1) (nCons (gn 3) nNil)))))))
   [some (.val (.scr ns)),some (.val HR),some (.val (.lst QQ)),some (.val (.int bi)),some (.val HH),some (.dct none K0),some (.acc SS),a',b',some (.val (.lst NM)),some (.val (.lst OO)),some (.val (.bl false)),some (.val (.lst NM)),y13,y14]=some (.ret (.val (.bl true))):=by
 simp[r4,s4,eqS,hT]
end
theorem Qi (C Pt:Addr)(ns:List Int)(hl:ns.length<=63):uq C Pt [.val (.scr ns)]=some (.bl true):=by
 obtain⟨rs,rest,F,tot,eh⟩:=Jp ns
 obtain⟨q,Q,eq⟩:=Qh ns
 obtain⟨b,hb,eb⟩:=Ji ns
 have ei:=J6 C F.good F.len F.lo F.hi F.pos
 have hlen:q.length<=60:=Q.len
 obtain⟨d,a',b',i1,i2,i3,i4⟩:=Zv ns (some (.val (hrD rs rest))) (some (.val (.lst (q.map tkD)))) (some (.val (.int b))) (some (.val (hoursD C rest (krows rest rs)))) [none,none,none,none,none,some (.loc (some Pt) (.tbl zO tellT.qual))] q 0 [] [] none none Q.pos (by simp[keysS]) Q.nd (by simp;omega) (by simp;omega)
 have hdl:d.length<=60:=by
  have:=congrArg List.length i1
  simp[keysS,nms] at this
  omega
 have hv:Has (kv d) (λx=>(lookS d x).getD 0) q:=λt ht=>by
  obtain⟨z,hz,e⟩:=i3 t ht
  refine⟨?_,?_⟩
  ·rw[ko];simp[e]
  ·simp[e];exact hz
 have hs:sumQ (shQ (λx=>(lookS d x).getD 0) q)<=1200:=uW (n:=60) (b:=20) _ (Nat.le_trans (jO q) hlen) λt ht=>by
  obtain⟨x,hx,_,e2⟩:=jD ht
  have:=Q.le x hx
  omega
 have hok:∀t∈shQ (λx=>(lookS d x).getD 0) q,Ok t.1:=λt ht=>by obtain⟨x,hx,e,_⟩:=jD ht;rw[e];exact Q.ok x hx
 obtain⟨out,o1,o2,o3,o4⟩:=Qa C F.hok hb hv Q.pos Q.ok hlen hs
 have et:=J8 C Pt o4
 obtain⟨out2,p1,p2,p3,p4⟩:=Uz F hb (Wv Q.pos) hok (Nat.le_trans (jO q) hlen) hs tot
 have hO:out=out2:=j8 F.at o2 p2
 subst hO
 have eqR:fEq true (.lst (out.map rnD)) (.lst (out.map rnD))=some (.bl false):=(Zf (neg:=true) (λr hr=>(o1 r hr).1) (λr hr=>(o1 r hr).1)).trans (by simp)
 have eqN:fEq true (.lst ((q.map (·.1)).map D.str)) (.lst ((q.map (·.1)).map D.str))=some (.bl false):=(Yn (neg:=true) (names_ok Q.ok) (names_ok Q.ok)).trans (by simp)
 have eq0:=jy (neg:=false) Q.ok
 have ec:=jm (e:=kE) (λa b=>by simp[kE]) q
 have ec6:=yp ns 6
 obtain⟨out3,r1,r2,r3,r4⟩:=Q4 C F.hok hb Q.pos Q.ok hlen Q.sum
 obtain⟨out4,s1,s2,s3,s4⟩:=Gq F hb Q.pos Q.ok hlen Q.sum tot
 have hO:out3=out4:=j8 F.at r2 s2
 subst hO
 have eqS:fEq false (.lst (out3.map rnD)) (.lst (out3.map rnD))=some (.bl true):=(Zf (neg:=false) (λr hr=>(r1 r hr).1) (λr hr=>(r1 r hr).1)).trans (by simp)
 have hT:q.length<=TOP:=zW (by omega)
 have hT5:out.length<=TOP:=Nat.le_trans o3 (by decide)
 have hR:rs.length<=TOP:=zW (by have:=F.len;omega)
 have he:=λhq=>W4 C Pt ns (H:=hrD rs rest) (HH:=hoursD C rest (krows rest rs)) (b0:=b) Q hq hv (by omega) (some (.acc ((shZ d q).map tkD))) a' b' (some (.val (.lst (out.map rnD)))) (some (.val (.bl false))) (some (.val (.lst ((q.map (·.1)).map D.str))))
 have g:vC C Pt [some (.val (.scr ns)),none,none,none,none,none,none,none,none,none,none,none,none,none,some (.loc (some Pt) (.tbl zO tellT.qual))]=some (.ret (.val (.bl true))):=by
  unfold vC
  refine xB (d:=hrD rs rest) (by simp[eh]) ?_
  refine xB (d:=.lst (q.map tkD)) (by generalize q.map tkD=QQ at *;simp[eq]) ?_
  refine xB (d:=.int b) (by simp[eb]) ?_
  refine xB (d:=hoursD C rest (krows rest rs)) (by
   unfold hrD hoursD
   have hR':(rs.map rowD).length<=TOP:=by simpa using hR
   generalize rs.map rowD=RR at *
   generalize (spans 0 (krows rest rs)).map spanD=SS at *
   simp[hR',ei]) ?_
  refine Q6 (kvs:=[]) (by rfl) ?_
  refine UO (ds:=[]) (by simp) ?_
  refine VB (ds:=enumD 0 (q.map tkD)) (by simp) i4 ?_
  refine xB (d:=.lst ((q.map (·.1)).map D.str)) (by simp[ec,hT]) ?_
  refine Zx (xs:=[.val (.lst (q.map tkD)),.val (hoursD C rest (krows rest rs)),.val (.int b),.dbo (kv d)]) (d:=.tup [.lst (out.map rnD),.bl false,.lst ((q.map (·.1)).map D.str)]) (by simp[isT]) (by simp[hT]) (by simp[noM]) et (by rfl) ?_
  generalize hHH:hoursD C rest (krows rest rs)=HH at *
  generalize hHR:hrD rs rest=HR at *
  refine Z0 (JR p4 eqR eqN) ?_
  have hT':(q.map tkD).length<=TOP:=by simpa using hT
  have t2:=Jr (QQ:=q.map tkD) (HR:=HR) (HH:=HH) (K0:=kv d) (bi:=b) (SS:=(shZ d q).map tkD) (a':=a') (b':=b') (NM:=(q.map (·.1)).map D.str) (OO:=out.map rnD) (y13:=none) (y14:=some (.loc (some Pt) (.tbl zO tellT.qual))) eq0 ec6
  by_cases hq:q=[]
  ·refine ZE (t2.trans (by rw[if_neg (by decide),decide_eq_true hq];rfl)) (uv hT' r4 s4 eqS)
  ·by_cases hc:0 < ns.getD 6 0 / 240 % 3
   ·exact ZE (t2.trans (by rw[decide_eq_true hc,Bool.or_true])) (uv hT' r4 s4 eqS)
   ·exact Z0 (t2.trans (by rw[if_neg (by decide),decide_eq_false hq,decide_eq_false hc];rfl)) (he hq)
 simp[uq,mirU,stE,vq,g]
end My
namespace My
open PySem PySem.Spec L2 L3 L4 L6 Dv
open PyProof.Rows hiding St
def spOut (Pt:Addr)(K:PySem.W.Frag):Sp:=λvs H Q _=>∃(a:Addr) (ns:List Int),vs=[.ref a]/\H Pt=some (.tbl #[])/\SqL K (without H Pt) a (ns.map V.int)/\ns.length<=63/\∀H',Q (.bl true) H'
theorem Vk {P:Program}{w:World}{K:PySem.W.Frag}{mg:Str->Option Value}{base:Heap}{k:Nat}{f Pt:Addr}{tp:Pos}{tq:Str}{fd:FuncData}{ps:List Str}{m:List En->Option D}(h:FnOk P w K mg base CX0 k f fd ps (uSp ⟨K,w⟩ Pt tp tq 1 m))
  (hm:∀ns:List Int,ns.length<=63->m [.val (.scr ns)]=some (.bl true)):FnOk P w K mg base CX0 k f fd ps (spOut Pt K) :=
 h.imp λvs H Q E ⟨a,ns,e,hT,hs,hl,q⟩=>⟨without H Pt,[.val (.scr ns)],.bl true,⟨ZT,wZ,⟨#[],hT,.inl rfl⟩,rfl,by subst e;exact .cons ⟨a,rfl,hs⟩ .nil⟩,hm ns hl,λv F' H' r=>by cases r;exact q H'⟩
theorem bdE {P:List Value->Prop}(h:P []):∀us:List Value,us.length=0->P us
 | [],_=>h
theorem bdC {P:List Value->Prop}{n:Nat}(h:∀a,∀us:List Value,us.length=n->P (a::us)):∀us:List Value,us.length=n+1->P us
 |a::us,q=>h a us (Nat.succ.inj q)
theorem bd1 {fd:FuncData}{ps:List Str}(h:∀a0,bindArgs fd ⟨[a0],[]⟩=pure (ps.zip [a0])):∀us:List Value,us.length=1->bindArgs fd ⟨us,[]⟩=pure (ps.zip us):=bdC λa0=>bdE (h a0)
theorem bd2 {fd:FuncData}{ps:List Str}(h:∀a0 a1,bindArgs fd ⟨[a0,a1],[]⟩=pure (ps.zip [a0,a1])):∀us:List Value,us.length=2->bindArgs fd ⟨us,[]⟩=pure (ps.zip us):=bdC λa0=>bdC λa1=>bdE (h a0 a1)
theorem bd3 {fd:FuncData}{ps:List Str}(h:∀a0 a1 a2,bindArgs fd ⟨[a0,a1,a2],[]⟩=pure (ps.zip [a0,a1,a2])):∀us:List Value,us.length=3->bindArgs fd ⟨us,[]⟩=pure (ps.zip us):=bdC λa0=>bdC λa1=>bdC λa2=>bdE (h a0 a1 a2)
theorem bd4 {fd:FuncData}{ps:List Str}(h:∀a0 a1 a2 a3,bindArgs fd ⟨[a0,a1,a2,a3],[]⟩=pure (ps.zip [a0,a1,a2,a3])):∀us:List Value,us.length=4->bindArgs fd ⟨us,[]⟩=pure (ps.zip us):=bdC λa0=>bdC λa1=>bdC λa2=>bdC λa3=>bdE (h a0 a1 a2 a3)
set_option maxHeartbeats 0 in
set_option autoImplicit true in
theorem all_mk {l:PySem.W.OpenLaw}{w:World}{K:PySem.W.Frag}{h:Heap}{mg:Str->Option Value}{fa C cT Pt:Addr}(X:K.In h)(G:h.Ns mainGlobals mg)(hfa:mg "law" = some (.ref fa))
  {C_NoNumber C_HallError:Addr}
  {dd_NoNumber:Option Addr} {cd_NoNumber:ClassData} {k0_NoNumber k1_NoNumber k2_NoNumber k3_NoNumber k5_NoNumber:Option Value} {bm_NoNumber:List Value}
  {t_MOST_COUNTERS:Tok}
  {t_MOST_ROWS:Tok}
  {t_MOST_TURNS:Tok}
  (aC:nsIn K mainGlobals "Hours" = some (some (.ref C)))
  (a0:nsIn K mainGlobals "is_whole" = some (some (.ref f0)))
  (l0:K.lookup f0=some ⟨oc0,od0,.func (fnOf "is_whole" "is_whole" (zu wo) (zk wo) (zb wo) .none kV0 dc0 pm0 an0 cd0 ct0),sl0⟩)
  (c0:codeIn K cd0 "is_whole" = true)
  (k0:keepIn K (.ref f0)=true)
  (a1:nsIn K mainGlobals "is_number" = some (some (.ref f1)))
  (l1:K.lookup f1=some ⟨oc1,od1,.func (fnOf "is_number" "is_number" (zu wa) (zk wa) (zb wa) .none kV1 dc1 pm1 an1 cd1 ct1),sl1⟩)
  (c1:codeIn K cd1 "is_number" = true)
  (k1:keepIn K (.ref f1)=true)
  (a2:nsIn K mainGlobals "is_row" = some (some (.ref f2)))
  (l2:K.lookup f2=some ⟨oc2,od2,.func (fnOf "is_row" "is_row" (zu xK) (zk xK) (zb xK) .none kV2 dc2 pm2 an2 cd2 ct2),sl2⟩)
  (c2:codeIn K cd2 "is_row" = true)
  (k2:keepIn K (.ref f2)=true)
  (a3:nsIn K mainGlobals "check_hours" = some (some (.ref f3)))
  (l3:K.lookup f3=some ⟨oc3,od3,.func (fnOf "check_hours" "check_hours" (zu xu) (zk xu) (zb xu) .none kV3 dc3 pm3 an3 cd3 ct3),sl3⟩)
  (c3:codeIn K cd3 "check_hours" = true)
  (k3:keepIn K (.ref f3)=true)
  (a4:nsIn K mainGlobals "kept_rows" = some (some (.ref f4)))
  (l4:K.lookup f4=some ⟨oc4,od4,.func (fnOf "kept_rows" "kept_rows" (zu xG) (zk xG) (zb xG) .none kV4 dc4 pm4 an4 cd4 ct4),sl4⟩)
  (c4:codeIn K cd4 "kept_rows" = true)
  (k4:keepIn K (.ref f4)=true)
  (a5:nsIn K mainGlobals "spans_of" = some (some (.ref f5)))
  (l5:K.lookup f5=some ⟨oc5,od5,.func (fnOf "spans_of" "spans_of" (zu xP) (zk xP) (zb xP) .none kV5 dc5 pm5 an5 cd5 ct5),sl5⟩)
  (c5:codeIn K cd5 "spans_of" = true)
  (k5:keepIn K (.ref f5)=true)
  (a6:findIn K (.ref C) "__init__" = some (some (.ref f6)))
  (i6:PySem.W.isFn K (.ref f6)=true)
  (l6:K.lookup f6=some ⟨oc6,od6,.func (fnOf "__init__" "Hours.__init__" (zu wy) (zk wy) (zb wy) .none kV6 dc6 pm6 an6 cd6 ct6),sl6⟩)
  (c6:codeIn K cd6 "Hours.__init__" = true)
  (k6:keepIn K (.ref f6)=true)
  (a7:findIn K (.ref C) "at" = some (some (.ref f7)))
  (i7:PySem.W.isFn K (.ref f7)=true)
  (l7:K.lookup f7=some ⟨oc7,od7,.func (fnOf "at" "Hours.at" (zu wk) (zk wk) (zb wk) .none kV7 dc7 pm7 an7 cd7 ct7),sl7⟩)
  (c7:codeIn K cd7 "Hours.at" = true)
  (k7:keepIn K (.ref f7)=true)
  (a8:nsIn K mainGlobals "names_of" = some (some (.ref f8)))
  (l8:K.lookup f8=some ⟨oc8,od8,.func (fnOf "names_of" "names_of" (zu yZ) (zk yZ) (zb yZ) .none kV8 dc8 pm8 an8 cd8 ct8),sl8⟩)
  (c8:codeIn K cd8 "names_of" = true)
  (k8:keepIn K (.ref f8)=true)
  (a9:nsIn K mainGlobals "turn_served" = some (some (.ref f9)))
  (l9:K.lookup f9=some ⟨oc9,od9,.func (fnOf "turn_served" "turn_served" (zu xf) (zk xf) (zb xf) .none kV9 dc9 pm9 an9 cd9 ct9),sl9⟩)
  (c9:codeIn K cd9 "turn_served" = true)
  (k9:keepIn K (.ref f9)=true)
  (a10:nsIn K mainGlobals "run_of" = some (some (.ref f10)))
  (l10:K.lookup f10=some ⟨oc10,od10,.func (fnOf "run_of" "run_of" (zu yc) (zk yc) (zb yc) (.ref td10) kV10 dc10 pm10 an10 cd10 ct10),sl10⟩)
  (t10:K.lookup td10=some ⟨ot10,ou10,.seq #[.none] on10,ow10⟩)
  (c10:codeIn K cd10 "run_of" = true)
  (k10:keepIn K (.ref f10)=true)
  (a11:nsIn K mainGlobals "_law_cell" = some (some (.ref f11)))
  (l11:K.lookup f11=some ⟨oc11,od11,.func (fnOf "_law_cell" "_law_cell" (zu xX) (zk xX) (zb xX) .none kV11 dc11 pm11 an11 cd11 ct11),sl11⟩)
  (c11:codeIn K cd11 "_law_cell" = true)
  (k11:keepIn K (.ref f11)=true)
  (a12:nsIn K mainGlobals "_law_stir" = some (some (.ref f12)))
  (l12:K.lookup f12=some ⟨oc12,od12,.func (fnOf "_law_stir" "_law_stir" (zu wb) (zk wb) (zb wb) .none kV12 dc12 pm12 an12 cd12 ct12),sl12⟩)
  (c12:codeIn K cd12 "_law_stir" = true)
  (k12:keepIn K (.ref f12)=true)
  (a13:nsIn K mainGlobals "_law_row" = some (some (.ref f13)))
  (l13:K.lookup f13=some ⟨oc13,od13,.func (fnOf "_law_row" "_law_row" (zu x9) (zk x9) (zb x9) .none kV13 dc13 pm13 an13 cd13 ct13),sl13⟩)
  (c13:codeIn K cd13 "_law_row" = true)
  (k13:keepIn K (.ref f13)=true)
  (a14:nsIn K mainGlobals "_law_names" = some (some (.ref f14)))
  (l14:K.lookup f14=some ⟨oc14,od14,.func (fnOf "_law_names" "_law_names" (zu yI) (zk yI) (zb yI) .none kV14 dc14 pm14 an14 cd14 ct14),sl14⟩)
  (c14:codeIn K cd14 "_law_names" = true)
  (k14:keepIn K (.ref f14)=true)
  (a15:nsIn K mainGlobals "_law_hours" = some (some (.ref f15)))
  (l15:K.lookup f15=some ⟨oc15,od15,.func (fnOf "_law_hours" "_law_hours" (zu yQ) (zk yQ) (zb yQ) .none kV15 dc15 pm15 an15 cd15 ct15),sl15⟩)
  (c15:codeIn K cd15 "_law_hours" = true)
  (k15:keepIn K (.ref f15)=true)
  (a16:nsIn K mainGlobals "_law_queue" = some (some (.ref f16)))
  (l16:K.lookup f16=some ⟨oc16,od16,.func (fnOf "_law_queue" "_law_queue" (zu xq) (zk xq) (zb xq) .none kV16 dc16 pm16 an16 cd16 ct16),sl16⟩)
  (c16:codeIn K cd16 "_law_queue" = true)
  (k16:keepIn K (.ref f16)=true)
  (a17:nsIn K mainGlobals "_law_begin" = some (some (.ref f17)))
  (l17:K.lookup f17=some ⟨oc17,od17,.func (fnOf "_law_begin" "_law_begin" (zu wd) (zk wd) (zb wd) .none kV17 dc17 pm17 an17 cd17 ct17),sl17⟩)
  (c17:codeIn K cd17 "_law_begin" = true)
  (k17:keepIn K (.ref f17)=true)
  (a18:nsIn K mainGlobals "_law_at" = some (some (.ref f18)))
  (l18:K.lookup f18=some ⟨oc18,od18,.func (fnOf "_law_at" "_law_at" (zu xD) (zk xD) (zb xD) .none kV18 dc18 pm18 an18 cd18 ct18),sl18⟩)
  (c18:codeIn K cd18 "_law_at" = true)
  (k18:keepIn K (.ref f18)=true)
  (a19:nsIn K mainGlobals "_law_turn" = some (some (.ref f19)))
  (l19:K.lookup f19=some ⟨oc19,od19,.func (fnOf "_law_turn" "_law_turn" (zu xw) (zk xw) (zb xw) .none kV19 dc19 pm19 an19 cd19 ct19),sl19⟩)
  (c19:codeIn K cd19 "_law_turn" = true)
  (k19:keepIn K (.ref f19)=true)
  (a20:nsIn K mainGlobals "_law_run" = some (some (.ref f20)))
  (l20:K.lookup f20=some ⟨oc20,od20,.func (fnOf "_law_run" "_law_run" (zu xN) (zk xN) (zb xN) .none kV20 dc20 pm20 an20 cd20 ct20),sl20⟩)
  (c20:codeIn K cd20 "_law_run" = true)
  (k20:keepIn K (.ref f20)=true)
  (a21:nsIn K mainGlobals "_law_turns" = some (some (.ref f21)))
  (l21:K.lookup f21=some ⟨oc21,od21,.func (fnOf "_law_turns" "_law_turns" (zu we) (zk we) (zb we) .none kV21 dc21 pm21 an21 cd21 ct21),sl21⟩)
  (c21:codeIn K cd21 "_law_turns" = true)
  (k21:keepIn K (.ref f21)=true)
  (a22:nsIn K mainGlobals "law" = some (some (.ref f22)))
  (l22:K.lookup f22=some ⟨oc22,od22,.func (fnOf "law" "law" (zu yt) (zk yt) (zb yt) .none kV22 dc22 pm22 an22 cd22 ct22),sl22⟩)
  (c22:codeIn K cd22 "law" = true)
  (k22:keepIn K (.ref f22)=true)
  (a23:nsIn K mainGlobals "really_left" = some (some (.ref f23)))
  (l23:K.lookup f23=some ⟨oc23,od23,.func (fnOf "really_left" "really_left" (zu xa) (zk xa) (zb xa) .none kV23 dc23 pm23 an23 cd23 ct23),sl23⟩)
  (c23:codeIn K cd23 "really_left" = true)
  (k23:keepIn K (.ref f23)=true)
  (a24:nsIn K mainGlobals "_law_tried" = some (some (.ref f24)))
  (l24:K.lookup f24=some ⟨oc24,od24,.func (fnOf "_law_tried" "_law_tried" (zu yO) (zk yO) (zb yO) .none kV24 dc24 pm24 an24 (.ref cT) ct24),sl24⟩)
  (c24:codeIn K (.ref cT) "_law_tried" = true)
  (k24:keepIn K (.ref f24)=true)
  (ch:PySem.W.codeHdIn K cT Pt=true) (hgP:mainGlobals≠Pt) (kp:K.lookup Pt=none)
  (pg:plainGet K C Str.empty=true)
  (hd:hasDictIn K C=true)
  (po:PySem.W.plainOver K C=true)
  (sa:findIn K (.ref C) "__setattr__" = some (some (.builtin "object.__setattr__")))
  (mk:PySem.W.makesIn K C=true)
  (kc:keepIn K (.ref C)=true)
  (n_kept_rest:findIn K (.ref C) "kept_rest" = some none)
  (n_spans:findIn K (.ref C) "spans" = some none)
  (tt_NoNumber:nsIn K mainGlobals "NoNumber" = some (some (.ref C_NoNumber)))
  (tt_HallError:nsIn K mainGlobals "HallError" = some (some (.ref C_HallError)))
  (be_NoNumber:subIn K (.ref C_NoNumber) (.type "BaseException")=some true)
  (cl_NoNumber:PySem.W.isClsIn K C_NoNumber=true)
  (ga_NoNumber:findIn K (.ref C_NoNumber) "__getattribute__" = some (some (.builtin "BaseException.__getattribute__")))
  (gt_NoNumber:findIn K (.ref C_NoNumber) "__getattr__" = some none)
  (cc_NoNumber:findIn K (.ref C_NoNumber) "__class__" = some (some (.builtin "object.__class__")))
  (xcg:PySem.W.specialIn K (.builtin "object.__class__") "__get__" = some (some (.builtin "getset_descriptor.__get__")))
  (xct:PySem.W.takesIn K (.builtin "object.__class__")=some true)
  (mo_NoNumber:PySem.W.mroIn K C_NoNumber (.type "object")=some true)
  (su_NoNumber_ValueError:subIn K (.ref C_NoNumber) (.type "ValueError")=some true)
  (xl_NoNumber:K.lookup C_NoNumber=some ⟨.type "type",dd_NoNumber,.cls cd_NoNumber,#[k0_NoNumber,k1_NoNumber,k2_NoNumber,k3_NoNumber,some (.builtin "ValueError.__new__"),k5_NoNumber]⟩)
  (xmr_NoNumber:cd_NoNumber.mro=.ref C_NoNumber::bm_NoNumber)
  (xdl_NoNumber:cd_NoNumber.hasDel=false)
  (xtl_NoNumber:PySem.W.tailIn K vB bm_NoNumber=true)
  (xok_NoNumber:PySem.W.nsOkIn K cd_NoNumber.ns=true)
  (xin_NoNumber:nsIn K cd_NoNumber.ns "__init__" = some none)
  (xkp_NoNumber:keepIn K (.ref C_NoNumber)=true)
  (sb_NoNumber_NoNumber:subIn K (.ref C_NoNumber) (.ref C_NoNumber)=some true)
  (nt_NoNumber:PySem.W.instIn K (.ref C_NoNumber) (.type "tuple")=some false)
  (cl_HallError:PySem.W.isClsIn K C_HallError=true)
  (ty_HallError:PySem.W.typeIn K (.ref C_HallError)=some (.type "type"))
  (sb_NoNumber_HallError:subIn K (.ref C_NoNumber) (.ref C_HallError)=some true)
  (b_ValueError:nsIn K mainGlobals "ValueError" = some none)
  (b_all:nsIn K mainGlobals "all" = some none)
  (b_bool:nsIn K mainGlobals "bool" = some none)
  (b_enumerate:nsIn K mainGlobals "enumerate" = some none)
  (b_int:nsIn K mainGlobals "int" = some none)
  (b_isinstance:nsIn K mainGlobals "isinstance" = some none)
  (b_len:nsIn K mainGlobals "len" = some none)
  (b_list:nsIn K mainGlobals "list" = some none)
  (b_min:nsIn K mainGlobals "min" = some none)
  (b_range:nsIn K mainGlobals "range" = some none)
  (b_tuple:nsIn K mainGlobals "tuple" = some none)
  (c_MOST_COUNTERS:nsIn K mainGlobals "MOST_COUNTERS" = some (some (.int 8 t_MOST_COUNTERS)))
  (c_MOST_ROWS:nsIn K mainGlobals "MOST_ROWS" = some (some (.int 16 t_MOST_ROWS)))
  (c_MOST_TURNS:nsIn K mainGlobals "MOST_TURNS" = some (some (.int 100 t_MOST_TURNS)))
  : ∃fd:FuncData,(∃c,PySem.W.codeHdIn K c Pt=true/\K.lookup Pt=none)/\(∀(s:Shared) (v:Value),BindsTo s fd ⟨[v],[]⟩ [("_law_script",v)])/\∀base:Heap,K.In base->base.Ns mainGlobals mg->base.BuiltinsAt mg Pt->FnOk l.prog w K mg base CX0 7 fa fd ["_law_script"] (spOut Pt K):=by
 have e:=hfa.symm.trans (mg_of X G a22)
 cases e
 have T:Txt K mg C:=⟨⟨pg,hd,po,sa⟩,n_kept_rest,n_spans,PySem.W.mg_none_of X G b_ValueError,PySem.W.mg_none_of X G b_all,PySem.W.mg_none_of X G b_bool,PySem.W.mg_none_of X G b_enumerate,PySem.W.mg_none_of X G b_int,PySem.W.mg_none_of X G b_isinstance,PySem.W.mg_none_of X G b_len,PySem.W.mg_none_of X G b_list,PySem.W.mg_none_of X G b_min,PySem.W.mg_none_of X G b_range,PySem.W.mg_none_of X G b_tuple,⟨_,mg_of X G c_MOST_COUNTERS⟩,⟨_,mg_of X G c_MOST_ROWS⟩,⟨_,mg_of X G c_MOST_TURNS⟩⟩
 have F0:=zD (st:=wo) l0 c0 k0
 have bb0:=F0.binds (ps:=["thing"]) λ_ _ _ _ _ _=>bd1 λ_=>rfl
 have F1:=zD (st:=wa) l1 c1 k1
 have bb1:=F1.binds (ps:=["thing","low","high"]) λ_ _ _ _ _ _=>bd3 λ_ _ _=>rfl
 have F2:=zD (st:=xK) l2 c2 k2
 have bb2:=F2.binds (ps:=["thing"]) λ_ _ _ _ _ _=>bd1 λ_=>rfl
 have F3:=zD (st:=xu) l3 c3 k3
 have bb3:=F3.binds (ps:=["rows","rest"]) λ_ _ _ _ _ _=>bd2 λ_ _=>rfl
 have F4:=zD (st:=xG) l4 c4 k4
 have bb4:=F4.binds (ps:=["rows","rest"]) λ_ _ _ _ _ _=>bd2 λ_ _=>rfl
 have F5:=zD (st:=xP) l5 c5 k5
 have bb5:=F5.binds (ps:=["rows"]) λ_ _ _ _ _ _=>bd1 λ_=>rfl
 have F6:=zD (st:=wy) l6 c6 k6
 have bb6:=F6.binds (ps:=["self","rows","rest"]) λ_ _ _ _ _ _=>bd3 λ_ _ _=>rfl
 have F7:=zD (st:=wk) l7 c7 k7
 have bb7:=F7.binds (ps:=["self","turn"]) λ_ _ _ _ _ _=>bd2 λ_ _=>rfl
 have F8:=zD (st:=yZ) l8 c8 k8
 have bb8:=F8.binds (ps:=["queue"]) λ_ _ _ _ _ _=>bd1 λ_=>rfl
 have F9:=zD (st:=xf) l9 c9 k9
 have bb9:=F9.binds (ps:=["queue","many"]) λ_ _ _ _ _ _=>bd2 λ_ _=>rfl
 have F10:=UY (st:=yc) l10 c10 k10
 have bb10:Binds K (fnOf "run_of" "run_of" (zu yc) (zk yc) (zb yc) (.ref td10) kV10 dc10 pm10 an10 cd10 ct10) ["queue","hours","begin","real"] []:=λs us hK hl=>have hl1:us.length=4:=(by simpa using hl);match us,hl1 with | [_,_,_,_],_=>BindsTo.of_defaults rfl (hK _ _ t10) rfl rfl rfl
 have F11:=zD (st:=xX) l11 c11 k11
 have bb11:=F11.binds (ps:=["_law_script","_law_k"]) λ_ _ _ _ _ _=>bd2 λ_ _=>rfl
 have F12:=zD (st:=wb) l12 c12 k12
 have bb12:=F12.binds (ps:=["_law_cell_here","_law_k"]) λ_ _ _ _ _ _=>bd2 λ_ _=>rfl
 have F13:=zD (st:=x9) l13 c13 k13
 have bb13:=F13.binds (ps:=["_law_script","_law_at_here","_law_base","_law_count"]) λ_ _ _ _ _ _=>bd4 λ_ _ _ _=>rfl
 have F14:=zD (st:=yI) l14 c14 k14
 have bb14:=F14.binds (ps:=["_law_cell_here","_law_many"]) λ_ _ _ _ _ _=>bd2 λ_ _=>rfl
 have F15:=zD (st:=yQ) l15 c15 k15
 have bb15:=F15.binds (ps:=["_law_script"]) λ_ _ _ _ _ _=>bd1 λ_=>rfl
 have F16:=zD (st:=xq) l16 c16 k16
 have bb16:=F16.binds (ps:=["_law_script"]) λ_ _ _ _ _ _=>bd1 λ_=>rfl
 have F17:=zD (st:=wd) l17 c17 k17
 have bb17:=F17.binds (ps:=["_law_script"]) λ_ _ _ _ _ _=>bd1 λ_=>rfl
 have F18:=zD (st:=xD) l18 c18 k18
 have bb18:=F18.binds (ps:=["_law_rows","_law_rest","_law_turn_here"]) λ_ _ _ _ _ _=>bd3 λ_ _ _=>rfl
 have F19:=zD (st:=xw) l19 c19 k19
 have bb19:=F19.binds (ps:=["_law_queue_here","_law_many"]) λ_ _ _ _ _ _=>bd2 λ_ _=>rfl
 have F20:=zD (st:=xN) l20 c20 k20
 have bb20:=F20.binds (ps:=["_law_queue_here","_law_hours_here","_law_begin_here"]) λ_ _ _ _ _ _=>bd3 λ_ _ _=>rfl
 have F21:=zD (st:=we) l21 c21 k21
 have bb21:=F21.binds (ps:=["_law_cell_here","_law_left"]) λ_ _ _ _ _ _=>bd2 λ_ _=>rfl
 have F22:=zD (st:=yt) l22 c22 k22
 have F23:=zD (st:=xa) l23 c23 k23
 have bb23:=F23.binds (ps:=["queue","real"]) λ_ _ _ _ _ _=>bd2 λ_ _=>rfl
 have F24':=zD (st:=yO) l24 c24 k24
 have bb24:=F24'.binds (ps:=["_law_queue_here","_law_room","_law_begin_here","_law_turns_here"]) λ_ _ _ _ _ _=>bd4 λ_ _ _ _=>rfl
 have F24:FunC K "_law_tried" "_law_tried" yO f24 _ (.ref cT):=⟨⟨_,_,_,_,_,_,_,_,_,rfl,l24,c24⟩,k24⟩
 obtain⟨ca,e_NoNumber,e_HallError⟩:∃ca:Str->Addr,ca "NoNumber" = C_NoNumber/\ca "HallError" = C_HallError:=⟨λs=>if s = "NoNumber" then C_NoNumber else if s = "HallError" then C_HallError else 0,if_pos rfl,(if_neg (by decide +kernel)).trans <| if_pos rfl⟩
 subst e_NoNumber
 subst e_HallError
 refine⟨fnOf "law" "law" (zu yt) (zk yt) (zb yt) .none kV22 dc22 pm22 an22 cd22 ct22,⟨cT,ch,kp⟩,λs v=>.of_eq rfl,λbase _ _ hBA=>?_⟩
 have U:Exs l.prog w K mg base ca:=⟨⟨be_NoNumber,cl_NoNumber,ga_NoNumber,gt_NoNumber,cc_NoNumber,xcg,xct,mo_NoNumber⟩,mg_of X G tt_HallError,mg_of X G tt_NoNumber,JC (by decide +kernel) su_NoNumber_ValueError,⟨⟨dd_NoNumber,cd_NoNumber,k0_NoNumber,k1_NoNumber,k2_NoNumber,k3_NoNumber,k5_NoNumber,bm_NoNumber,xl_NoNumber,xmr_NoNumber,xdl_NoNumber,xtl_NoNumber,xok_NoNumber,xin_NoNumber⟩,xkp_NoNumber⟩,⟨sb_NoNumber_NoNumber,nt_NoNumber,cl_NoNumber,be_NoNumber⟩,KI cl_HallError ty_HallError sb_NoNumber_HallError⟩
 have Haf:Fx l.prog w K mg base "is_whole" 1 1 zJ:=⟨f0,_,_,K9 T F0,mg_of X G a0,k0,bb0⟩
 have Had:Fx l.prog w K mg base "is_number" 2 3 yM:=⟨f1,_,_,Kz T F1 Haf,mg_of X G a1,k1,bb1⟩
 have Hae:Fx l.prog w K mg base "is_row" 3 1 wQ:=⟨f2,_,_,QF T F2 Had,mg_of X G a2,k2,bb2⟩
 have Hac:Fx l.prog w K mg base "check_hours" 4 2 wz:=⟨f3,_,_,UT T F3 Had Hae,mg_of X G a3,k3,bb3⟩
 have Hag:Fx l.prog w K mg base "kept_rows" 1 2 vi:=⟨f4,_,_,Q1 T F4,mg_of X G a4,k4,bb4⟩
 have Hav:Fx l.prog w K mg base "spans_of" 1 1 wK:=⟨f5,_,_,QY T F5,mg_of X G a5,k5,bb5⟩
 have Haa:Kx l.prog w K mg base C "Hours" 5 2 (wu C):=⟨f6,_,_,_,WR T F6 Hav Hag Hac,⟨mk,a6,i6,kc⟩,mg_of X G aC,bb6,λa dx xs=>Ks C a dx xs⟩
 have Hab:Mx l.prog w K mg base C "at" 1 2 (yY C):=⟨f7,_,_,Q8 T F7,⟨a7,i7,k7⟩,bb7⟩
 have Hat:Fx l.prog w K mg base "names_of" 1 1 wO:=⟨f8,_,_,JF T F8,mg_of X G a8,k8,bb8⟩
 have Hax:Fx l.prog w K mg base "turn_served" 2 2 yS:=⟨f9,_,_,J9 T F9 Hat,mg_of X G a9,k9,bb9⟩
 have Hau:Fx l.prog w K mg base "run_of" 3 4 (xp C):=⟨f10,_,_,U1 T F10 Hax Hab,mg_of X G a10,k10,bb10⟩
 have Haj:Fx l.prog w K mg base "_law_cell" 1 2 z9:=⟨f11,_,_,Um T F11,mg_of X G a11,k11,bb11⟩
 have Hap:Fx l.prog w K mg base "_law_stir" 1 2 yN:=⟨f12,_,_,Gk T F12,mg_of X G a12,k12,bb12⟩
 have Han:Fx l.prog w K mg base "_law_row" 2 4 yJ:=⟨f13,_,_,KO T F13 Haj Hap,mg_of X G a13,k13,bb13⟩
 have Hal:Fx l.prog w K mg base "_law_names" 2 2 xl:=⟨f14,_,_,Jy T F14 Hap,mg_of X G a14,k14,bb14⟩
 have Hak:Fx l.prog w K mg base "_law_hours" 3 1 xF:=⟨f15,_,_,J3 T F15 Haj Han,mg_of X G a15,k15,bb15⟩
 have Ham:Fx l.prog w K mg base "_law_queue" 3 1 wc:=⟨f16,_,_,Ve T F16 Hal Haj Han,mg_of X G a16,k16,bb16⟩
 have Hai:Fx l.prog w K mg base "_law_begin" 2 1 xO:=⟨f17,_,_,V2 T F17 Haj,mg_of X G a17,k17,bb17⟩
 have Hah:Fx l.prog w K mg base "_law_at" 1 3 wY:=⟨f18,_,_,J2 T F18,mg_of X G a18,k18,bb18⟩
 have Haq:Fx l.prog w K mg base "_law_turn" 1 2 wU:=⟨f19,_,_,KU T F19,mg_of X G a19,k19,bb19⟩
 have Hao:Fx l.prog w K mg base "_law_run" 2 3 zY:=⟨f20,_,_,Jm T F20 Haq Hah,mg_of X G a20,k20,bb20⟩
 have Har:Fx l.prog w K mg base "_law_turns" 1 2 xU:=⟨f21,_,_,WM T F21,mg_of X G a21,k21,bb21⟩
 have W:InnOk tellT l.prog w K mg base:=W8
 have hk_rl:KxA tellT l.prog w K mg base "really_left" 3 2 xr:=⟨f23,_,_,Vb T F23 W Haf,mg_of X G a23,k23,bb23⟩
 have hkx_rl:KxY tellT l.prog w K mg base ca "-" "really_left" 3 2 wG:=⟨f23,_,_,W2 T F23 U W Haf,mg_of X G a23,k23,bb23⟩
 have hk_ro:KcA tellT l.prog w K mg base "run_of" 4 4 (mAll (yh C)):=⟨f10,_,_,_,QW T F10 Hax Hab hk_rl,mg_of X G a10,k10,bb10,ZP⟩
 have hkx_ro:KcY tellT l.prog w K mg base ca "-" "run_of" 4 4 (mAll x4):=⟨f10,_,_,_,WS T F10 U hkx_rl,mg_of X G a10,k10,bb10,ZP⟩
 have Haw:KxT l.prog w K mg base Pt zO tellT.qual "_law_tried" 5 4 (yL C Pt):=⟨f24,_,_,_,QK T F24 (λh X=>PySem.W.codeHd_of_K X ch) hgP hBA U hk_ro hkx_ro,mg_of X G a24,k24,bb24,UH⟩
 exact Vk (Vh T F22 Haj Hau Hao Har Hai Ham Hak Haw Haa) (λns hl=>Qi C Pt ns hl)
theorem walk {l:PySem.W.OpenLaw}{q:Program}{loose:List Str}{XP:(Str->Option Value)->Heap->Prop}{YP:World->Heap->Prop}{d:DefRec}{K:Params->PySem.W.Frag}(Pt:Addr)(hn:l.most=some 63)(hdf:d.params.defaults=[])
  (hY:∀(w:World) (h:Heap),YP w h->(K w.params).In h/\h.get? Pt=some (PySem.W.tabObj #[]))
  (F:∀(w:World) (mg:Str->Option Value) (fa:Addr) (h:Heap),(K w.params).In h->h.Ns mainGlobals mg->mg d.name=some (.ref fa) ->
   ∃fd:FuncData,(∃c,PySem.W.codeHdIn (K w.params) c Pt=true/\(K w.params).lookup Pt=none)/\(∀(s:Shared) (u:Value),BindsTo s fd ⟨[u],[]⟩ [("_law_script",u)])/\∀base:Heap,(K w.params).In base->base.Ns mainGlobals mg->base.BuiltinsAt mg Pt->FnOk l.prog w (K w.params) mg base CX0 7 fa fd ["_law_script"] (spOut Pt (K w.params))) :
  PySem.W.WalkO q loose XP YP l.row.toRowW d [] (λf vs=>PySem.call f vs) :=
 L6.walk_ofT (n:=63) (k:=7) (x := "_law_script") (Pt:=Pt) (sp:=λw=>spOut Pt (K w.params)) hn (by decide) hdf ⟨rfl,by decide,by decide⟩ hY F λ_ _ a ns hl hT hS=>⟨a,ns,rfl,hT,hS,hl,λ_=>rfl⟩
end My
namespace PySem.W.Fast
def tw2241904250581685280:=()
def tw1590618592395329376:=()
def tw1581624251066888257:=()
def tw11324496948684732833:=()
def tw12693801114331838275:=()
def tw15505043045849427748:=()
def tw1491192051703182117:=()
def tw10048785875686902662:=()
def tw9074163174302175527:=()
def tw11788263506007301256:=()
def tw6184977284309089033:=()
def tw1500600818678386798:=()
def tw14063440244510274131:=()
def tw4927727484305521429:=()
def tw14524055034011500630:=()
def tw3072258344601293080:=()
def tw15852313784094000824:=()
def tw16486203252380024955:=()
def tw7859196371947829277:=()
def tw8582380462376092314:=()
def tw9104938538607388518:=()
def tw10570148905095238623:=()
def tw18049885420182498151:=()
def tw8846576357683526574:=()
def tw18117705862334466362:=()
def tw13950173773059846612:=()
def tw7389658952533645152:=()
def tw4508663316132495578:=()
def tw16926629377942118487:=()
def tw8556378886560114473:=()
def tw438144133223147116:=()
def tw6774442713306876960:=()
def tw5104691002783935557:=()
def tw6629411978757271054:=()
def tw7694939215357417628:=()
def tw9958482207704675414:=()
def tw12747041030225140596:=()
def tw13895751011638576352:=()
def tw4282747334799070367:=()
def tw9609802170665083629:=()
def tw283519729056766325:=()
def tw9747911248908822108:=()
def tw14249080606339732937:=()
def tw3074930410839097741:=()
def tw13778580339241975923:=()
def tw5812340882698984390:=()
def tw10047521926480872728:=()
def tw7253856683593371296:=()
def tw14619203303270701931:=()
def tw2000245591462521588:=()
def tw2241288043702363015:=()
def tw10276211294264313311:=()
def tw17720651493918705382:=()
def tw2222836739087466851:=()
def tw6060277959271183572:=()
def tw9184577970419802543:=()
def tw2849375049359133153:=()
def tw14136904929083061372:=()
def tw8676447326060572399:=()
def tw9139166438953980532:=()
def tw6089721636342215345:=()
def tw4600785098341321932:=()
def tw8705665943835726981:=()
def tw12857877944471171168:=()
def tw6944322538471212317:=()
def tw17105414698977641532:=()
def tw7131382436667858230:=()
def tw3116772057732848674:=()
def tw12175899973530690702:=()
def tw8895217059476800282:=()
def tw6805631483701274314:=()
def tw18124014705442943406:=()
def tw5889465588377605477:=()
def tw14213519681151959949:=()
def tw2366272503522095903:=()
def tw11094415286784409332:=()
def tw16287363617353025055:=()
def tw13991812860611713688:=()
def tw11061183387683686466:=()
def tw8825062703750000148:=()
def tw13459543402168353151:=()
def tw10733626735967522687:=()
def tw15672317461159614706:=()
def tw4937837757301430450:=()
def tw125551749289593562:=()
def tw14435438933880650778:=()
def tw6507252602160669994:=()
def tw16483803245877120884:=()
def tw310677554916558012:=()
def tw16567122164957835326:=()
def tw8736034287013397930:=()
def tw6074999281529521291:=()
def tw4093618309999236409:=()
def tw15927902452732549828:=()
def tw10370146315453139851:=()
def tw6130973285519015843:=()
def tw11410387102634850954:=()
def tw6034692139691046850:=()
def tw13302900860835343216:=()
def tw16472411675254438429:=()
def tw12344293478131283349:=()
def tw2678790658119331498:=()
def tw5739803343529181868:=()
def tw5029605286409294260:=()
def tw14274773998115587151:=()
def tw15341391634987343131:=()
def tw11195795942192614997:=()
def tw14864422064923091413:=()
def tw1504542205464769210:=()
def tw5611212961409594648:=()
def tw12590111907172140429:=()
def tw7411733294558439141:=()
def tw5152812576043575852:=()
def tw4062430937284578276:=()
def tw9495344503436523083:=()
def tw17330832441685154974:=()
def tw3304381199087508656:=()
def tw8491283001398712843:=()
def tw7747914988831433928:=()
def tw1037313618967845535:=()
def tw12776033911368131094:=()
def tw15794806077652679553:=()
def tw11522559126512329833:=()
def tw11745218415726405958:=()
def tw2138759216130038736:=()
def tw15063849031431211690:=()
def tw9235051320109881177:=()
def tw416247985827456798:=()
def tw17709513916934794905:=()
def tw15316580634657145061:=()
def tw8077591159674202841:=()
def tw17338356391166114017:=()
def tw10731162724905181077:=()
def tw14362340997581608560:=()
def tw9072432497465591022:=()
def tw2159573888146276021:=()
def tw9079301784333784775:=()
def tw3969125761111855770:=()
def tw1155128791795976221:=()
def tw14243413632468003197:=()
def tw11144964869090690519:=()
def tw17892493460886082555:=()
def tw17961004444394622014:=()
def tw693418162961290885:=()
def tw2218879207812073106:=()
def tw7933046497473949877:=()
def tw2712910028037253236:=()
def tw290549082887073145:=()
def tw1385431498963696811:=()
def tw5072260838995823990:=()
def tw10633500423511761270:=()
def tw5655442312066300634:=()
def tw9657050023900150940:=()
def tw18366475560533718083:=()
def tw14667144953019610464:=()
def tw11998972268245702164:=()
def tw16509539532913872403:=()
def tw2656124469869556028:=()
def tw3537881195799759345:=()
end PySem.W.Fast
open PySem PySem.W PyProof.Rows
set_option maxRecDepth 100000 in
set_option maxHeartbeats 0 in
theorem PySem.Challenge.cw_latestturn_k23_real_services_holds : PySem.Challenge.rw_latestturn_k23_real_services.Holds := by
 w_on;o_law;k_head;(case hw=>w_witness2)
 k_fill
 refine My.walk (l:=PySem.Challenge.rw_latestturn_k23_real_services) 276 rfl rfl (λw h Y=>⟨PySem.W.km_in_of Y,PySem.W.km_tabs_of Y _ (List.mem_singleton.mpr rfl)⟩) ?F
 case F=>
  intro w mg fa h KX G hmg
  refine' My.all_mk KX G hmg ?aC ?a0 ?l0 ?c0 ?k0 ?a1 ?l1 ?c1 ?k1 ?a2 ?l2 ?c2 ?k2 ?a3 ?l3 ?c3 ?k3 ?a4 ?l4 ?c4 ?k4 ?a5 ?l5 ?c5 ?k5 ?a6 ?i6 ?l6 ?c6 ?k6 ?a7 ?i7 ?l7 ?c7 ?k7 ?a8 ?l8 ?c8 ?k8 ?a9 ?l9 ?c9 ?k9 ?a10 ?l10 ?t10 ?c10 ?k10 ?a11 ?l11 ?c11 ?k11 ?a12 ?l12 ?c12 ?k12 ?a13 ?l13 ?c13 ?k13 ?a14 ?l14 ?c14 ?k14 ?a15 ?l15 ?c15 ?k15 ?a16 ?l16 ?c16 ?k16 ?a17 ?l17 ?c17 ?k17 ?a18 ?l18 ?c18 ?k18 ?a19 ?l19 ?c19 ?k19 ?a20 ?l20 ?c20 ?k20 ?a21 ?l21 ?c21 ?k21 ?a22 ?l22 ?c22 ?k22 ?a23 ?l23 ?c23 ?k23 ?a24 ?l24 ?c24 ?k24 ?ch ?hgP ?kp ?pg ?hd ?po ?sa ?mk ?kc ?n_kept_rest ?n_spans ?tt_NoNumber ?tt_HallError ?be_NoNumber ?cl_NoNumber ?ga_NoNumber ?gt_NoNumber ?cc_NoNumber ?xcg ?xct ?mo_NoNumber ?su_NoNumber_ValueError ?xl_NoNumber ?xmr_NoNumber ?xdl_NoNumber ?xtl_NoNumber ?xok_NoNumber ?xin_NoNumber ?xkp_NoNumber ?sb_NoNumber_NoNumber ?nt_NoNumber ?cl_HallError ?ty_HallError ?sb_NoNumber_HallError ?b_ValueError ?b_all ?b_bool ?b_enumerate ?b_int ?b_isinstance ?b_len ?b_list ?b_min ?b_range ?b_tuple ?c_MOST_COUNTERS ?c_MOST_ROWS ?c_MOST_TURNS
  (case aC | a0 | l0 | c0 | k0 | a1 | l1 | c1 | k1 | a2 | l2 | c2 | k2 | a3 | l3 | c3 | k3 | a4 | l4 | c4 | k4 | a5 | l5 | c5 | k5 | a6 | i6 | l6 | c6 | k6 | a7 | i7 | l7 | c7 | k7 | a8 | l8 | c8 | k8 | a9 | l9 | c9 | k9 | a10 | l10 | t10 | c10 | k10 | a11 | l11 | c11 | k11 | a12 | l12 | c12 | k12 | a13 | l13 | c13 | k13 | a14 | l14 | c14 | k14 | a15 | l15 | c15 | k15 | a16 | l16 | c16 | k16 | a17 | l17 | c17 | k17 | a18 | l18 | c18 | k18 | a19 | l19 | c19 | k19 | a20 | l20 | c20 | k20 | a21 | l21 | c21 | k21 | a22 | l22 | c22 | k22 | a23 | l23 | c23 | k23 | a24 | l24 | c24 | k24 | pg | hd | po | sa | mk | kc | n_kept_rest | n_spans | tt_NoNumber | tt_HallError | be_NoNumber | cl_NoNumber | ga_NoNumber | gt_NoNumber | cc_NoNumber | xcg | xct | mo_NoNumber | su_NoNumber_ValueError | xl_NoNumber=>k_is)
  (case hgP=>decide)
  (case ch | kp=>kernel_rfl)
  (case xmr_NoNumber | xdl_NoNumber=>rfl)
  (case xtl_NoNumber | xok_NoNumber=>kernel_rfl)
  (case xin_NoNumber | xkp_NoNumber | sb_NoNumber_NoNumber | nt_NoNumber | cl_HallError | ty_HallError | sb_NoNumber_HallError | b_ValueError | b_all | b_bool | b_enumerate | b_int | b_isinstance | b_len | b_list | b_min | b_range | b_tuple | c_MOST_COUNTERS | c_MOST_ROWS | c_MOST_TURNS=>k_is)
#print axioms PySem.Challenge.cw_latestturn_k23_real_services_holds
end

import PyProof.Rows.All
import Wide.All
import OpenK.AllK
import Wide.FinOn
import Lean
import PyProof.EqAt
import PyProof.EqKinds
import PyProof.TupleCall
import KE.KPairComp
import PyProof.SumWalkG
import PyProof.WalkInts
import PyProof.Rows.SortStr
import PyProof.Rows.SortWalk
import PyProof.NeKinds
import KE.KIntText
import PyProof.Rows.FStr
import PyProof.Rows.StrNews2
import PyProof.CallStr
import PyProof.StrLawsChain
import PySem.Challenge.RW_latestturn_k61_lifts
set_option Elab.async false
set_option linter.all false
set_option maxRecDepth 100000
set_option maxHeartbeats 4000000
noncomputable section
open PySem.W (mg_of nsIn keepIn fnOf codeIn findIn kitOne subIn hasDictIn clsIn takerIn instObj Looks emptyDict plainGet looks_findIn InstAt)
set_option maxHeartbeats 4000000
set_option hygiene false
local macro_rules
| `(#[$n:num])=>match n.getNat with
|0=>`((by rfl))
|1=>`((by omega))
|2=>`(q.map tkD)
|3=>`(hr.mono (by decide))
|4=>`(model X.prog X.w)
|5=>`(⟨rfl,rfl,rfl,by decide +kernel,rfl,by decide +kernel,by decide +kernel⟩)
|6=>`((by decide +kernel))
|7=>`((by intro _ _;rfl))
|8=>`(x==("__debug__" : Str))
|9=>`(List.replicate own.length none++capE Z cap)
|10=>`(cxc X scope C (own++cap.map (·.1)) s₂ H2 fp (X.pn++pins))
|11=>`(backTo pos (starEach es X.env))
|12=>`(.Call (.Name x p) (e::es) [] pos)
|13=>`(cxc X scope C (own++cap.map (·.1)) s₀ H₀ fp pn)
|14=>`(some (.val (.lst ((nms q).map D.str))))
|_=>Lean.Macro.throwUnsupported
set_option hygiene true
namespace L2
open PySem PySem.Spec PyProof.Rows
abbrev Key:=Sum Int Str
def keyIs:Key->Value->Bool
 |.inl k,v=>Value.isInt k v
 |.inr x,v=>Value.isStrOf x v
def keyH (w:World):Key->Int
 |.inl k=>hashInt k
 |.inr x=>hashStr w x
theorem yJ:∀ {k:Key} {v:Value},keyIs k v=true->(∃i t,k=Sum.inl i/\v=Value.int i t)∨(∃x t,k=Sum.inr x/\v=Value.str x t)
 |.inl i,v,h=>by
  obtain⟨t,e⟩:=Value.isInt_shape (k:=i) (v:=v) h
  exact .inl ⟨i,t,rfl,e⟩
 |.inr x,v,h=>by
  obtain⟨t,e⟩:=Value.isStrOf_shape (x:=x) (v:=v) h
  exact .inr ⟨x,t,rfl,e⟩
theorem zcs (i:Int)(t:Tok):keyIs (.inl i) (.int i t)=true:=by simp[keyIs,Value.isInt]
theorem zc1 (x:Str)(t:Tok):keyIs (.inr x) (.str x t)=true:=by simp[keyIs,Value.isStrOf]
theorem zff (a b:Int):decide ((Sum.inl a:Key)=Sum.inl b)=(a==b):=by
 by_cases e:a=b
 ·subst e;simp
 ·have h:¬(Sum.inl a:Key)=Sum.inl b:=λq=>e (Sum.inl.inj q)
  rw[decide_eq_false h]
  exact (beq_eq_false_iff_ne.mpr e).symm
theorem za9 (a b:Str):decide ((Sum.inr a:Key)=Sum.inr b)=decide (a=b):=by
 by_cases e:a=b
 ·subst e;simp
 ·have h:¬(Sum.inr a:Key)=Sum.inr b:=λq=>e (Sum.inr.inj q)
  rw[decide_eq_false h,decide_eq_false e]
theorem Gn (a:Int)(b:Str):decide ((Sum.inl a:Key)=Sum.inr b)=false:=decide_eq_false (λq=>nomatch q)
theorem zdg (a:Str)(b:Int):decide ((Sum.inr a:Key)=Sum.inl b)=false:=decide_eq_false (λq=>nomatch q)
def zJ (prog:Program)(w:World):PySem.KeyKind prog w Key where
 is:=keyIs
 hash:=keyH w
 inj:=λv a b ha hb=>by
  rcases yJ ha with⟨i,t,rfl,rfl⟩ | ⟨x,t,rfl,rfl⟩
  ·rcases yJ hb with⟨j,u,rfl,e⟩ | ⟨y,u,rfl,e⟩
   ·injection e with e1 _;rw[e1]
   ·exact nomatch e
  ·rcases yJ hb with⟨j,u,rfl,e⟩ | ⟨y,u,rfl,e⟩
   ·exact nomatch e
   ·injection e with e1 _;rw[e1]
 byValue:=λk v h=>by
  rcases yJ h with⟨i,t,rfl,rfl⟩ | ⟨x,t,rfl,rfl⟩<;>rfl
 pyHash:=λhv h=>by
  rcases yJ hv with⟨i,t,rfl,rfl⟩ | ⟨x,t,rfl,rfl⟩
  ·exact wpAny_pyHash_int h
  ·exact wpAny_pyHash_str h
 eqBool:=λhu hv h=>by
  rcases yJ hu with⟨i,t,rfl,rfl⟩ | ⟨x,t,rfl,rfl⟩
  ·rcases yJ hv with⟨j,u,rfl,rfl⟩ | ⟨y,u,rfl,rfl⟩
   ·rw[zff] at h;exact wpAny_eqBool_int h
   ·rw[Gn] at h;exact SeqAt.EqAt.int_str i t y u _ _ _ _ h
  ·rcases yJ hv with⟨j,u,rfl,rfl⟩ | ⟨y,u,rfl,rfl⟩
   ·rw[zdg] at h;exact SeqAt.EqAt.str_int x t j u _ _ _ _ h
   ·rw[za9] at h;exact wpAny_eqBool_str h
 «strs»:=λk x t v h=>by
  rcases yJ h with⟨i,u,rfl,e⟩ | ⟨y,u,rfl,e⟩
  ·exact nomatch e
  ·injection e with e1 _
   subst e1
   cases v<;>rfl
theorem ze3 (prog:Program)(w:World)(i:Int)(t:Tok):(zJ prog w).is (.inl i) (.int i t)=true:=zcs i t
theorem zfw (prog:Program)(w:World)(x:Str)(t:Tok):(zJ prog w).is (.inr x) (.str x t)=true:=zc1 x t
inductive V where
 |non | bl (b:Bool) | int (i:Int) | str (x:Str) | byt (b:Array UInt8) | flt (b:UInt64) | ref (a:Addr) | ty (n:String)
 deriving DecidableEq
def RelV:V->Value->Prop
 |.non,u=>u=Value.none
 |.bl b,u=>u=Value.bool b
 |.int i,u=>∃t,u=Value.int i t
 |.str x,u=>∃t,u=Value.str x t
 |.byt b,u=>∃t,u=Value.bytes b t
 |.flt b,u=>∃t,u=Value.float b t
 |.ref a,u=>u=Value.ref a
 |.ty n,u=>u=Value.type n
abbrev Vals:List V->List Value->Prop:=Paired RelV
theorem Vals.length {xs:List V}{us:List Value}(r:Vals xs us):xs.length=us.length:=Paired.length r
theorem Vals.get:∀ {xs:List V} {us:List Value} {i:Nat} {x:V},Vals xs us->xs[i]?=some x->∃u,us[i]?=some u/\RelV x u
 |_,_,_,_,.nil,e=>by simp at e
 |_,_,0,_,.cons r _,e=>by simp at e;subst e;exact⟨_,rfl,r⟩
 |_,_,i+1,x,.cons _ t,e=>by
  obtain⟨u,h1,h2⟩:=Vals.get (i:=i) (x:=x) t (by simpa using e)
  exact⟨u,by simpa using h1,h2⟩
theorem Vals.set {x:V}{u:Value}(r:RelV x u):∀ {xs:List V} {us:List Value} (i:Nat),Vals xs us->Vals (xs.set i x) (us.set i u)
 |_,_,_,.nil=>.nil
 |_,_,0,.cons _ t=>.cons r t
 |_,_,i+1,.cons q t=>.cons q (Vals.set r i t)
theorem Vals.append:∀ {xs ys:List V} {us ws:List Value},Vals xs us->Vals ys ws->Vals (xs++ys) (us++ws)
 |_,_,_,_,.nil,s=>s
 |_,_,_,_,.cons r t,s=>.cons r (Vals.append t s)
theorem Vals.take:∀ {xs:List V} {us:List Value} (n:Nat),Vals xs us->Vals (xs.take n) (us.take n)
 |_,_,0,_=>.nil
 |_,_,_+1,.nil=>.nil
 |_,_,n+1,.cons r t=>.cons r (Vals.take n t)
theorem Vals.drop:∀ {xs:List V} {us:List Value} (n:Nat),Vals xs us->Vals (xs.drop n) (us.drop n)
 |_,_,0,r=>r
 |_,_,_+1,.nil=>.nil
 |_,_,n+1,.cons _ t=>Vals.drop n t
def RelO:Option V->Option Value->Prop
 |some v,some u=>RelV v u
 |none,none=>True
 |_,_=>False
def KV {κ:Type}:List (κ×V)->List (κ×Value)->Prop:=Paired λ(p:κ×V) (q:κ×Value)=>p.1=q.1/\RelV p.2 q.2
def kV:Key->V
 |.inl i=>.int i
 |.inr x=>.str x
inductive HO where
  |lst (xs:List V)
  |tup (xs:List V)
  |dK (kvs:List (Key×V)) | dT (kvs:List (List Key×V))
  |set (S:Int->Bool) (n:Nat)
  |ins (C dx:Addr) (fs:List (Str×V))
  |own (x:Addr)
  |xd (fs:List (Str×V))
  |met (f x:Addr)
  |rng (lo hi:Int)
  |frz (o:Obj) (u:HO)
  |tbl (ps:Array Value)
  |ext (φ:Heap->Prop)
abbrev Hp:=Addr->Option HO
def upd (H:Hp)(a:Addr)(o:HO):Hp:=λb=>if b=a then some o else H b
theorem zr {H:Hp}{a:Addr}{o:HO}:upd H a o a=some o:=by unfold upd;rw[if_pos rfl]
theorem zh {H:Hp}{a b:Addr}{o:HO}(h:b≠a):upd H a o b=H b:=by unfold upd;rw[if_neg h]
theorem kl {H:Hp}{a:Addr}{o u:HO}:upd (upd H a o) a u=upd H a u:=by
 funext b;unfold upd;split<;>rfl
theorem jj {H:Hp}{a b:Addr}{o u:HO}(h:H a=some o)(h':H b=some u)(d:o≠u):a≠b:=by
 intro e;subst e;rw[h] at h';exact d (Option.some.inj h')
theorem z8 {H:Hp}{a b:Addr}{o:HO}(h:H a=some o)(h':H b=none):a≠b:=by
 intro e;subst e;rw[h] at h';cases h'
section
variable (P:Program)(w:World)
def ObjOk (H:Hp)(h:Heap)(a:Addr):HO->Prop
 |.lst xs=>xs.length<=sizeLine/\∃(its:List Value) (n:Nat),Vals xs its/\h.get? a=some { cls:=.type "list",data:=.seq its.toArray n }
 |.tup xs=>xs.length<=sizeLine/\∃its:List Value,Vals xs its/\IsTup h a its.toArray
 |.dK kvs=>kvs.length<=sizeLine/\(a==sysModules)=false/\∃vs,KV kvs vs/\h.DictOf (zJ P w) a vs
 |.dT kvs=>kvs.length<=sizeLine/\(a==sysModules)=false/\∃xs:List (List Key×Addr×Value),
   Paired (λ(p:List Key×V) (q:List Key×Addr×Value)=>p.1=q.1/\H q.2.1=some (.tup (p.1.map kV))/\RelV p.2 q.2.2) kvs xs /\
   ∃o es ep,h.get? a=some o/\o.ExactDict/\o.data=.dict es ep/\es.toList=xs.map (entryOfKey (tupleKind (zJ P w)))/\(xs.map (·.1)).Nodup
 |.set S n=>h.SetOf (intKind P w) a S n
 |.ins C dx fs=>H dx=some (.own a)/\fs.length<=1000/\dx≠a/\h.get? a=some (instObj C dx) /\
   ∃mA,h.Ns1 dx mA/\(∀f,RelO (fs.lookup f) (mA f))/\PySem.Within mA (fs.map (·.1))
 |.own _=>∃o,h.get? a=some o
 |.xd fs=>∃mA,h.Ns1 a mA/\∀f,RelO (fs.lookup f) (mA f)
 |.rng lo hi=>∃t u v,h.get? a=some { cls:=.type "range",data:=.fields #[.int lo t,.int hi u,.int 1 v] }
 |.frz o u=>h.get? a=some o/\ObjOk H h a u
 |.tbl ps=>h.get? a=some { cls:=.none,data:=.fields ps }
 |.met f x=>h.get? a=some (PySem.W.methodObj (.ref f) (.ref x))
 |.ext φ=>φ h/\(∃o,h.get? a=some o)/\∀h1 h2:Heap,φ h1->(∀o,h1.get? a=some o->h2.get? a=some o)->φ h2
def HOk (H:Hp)(h:Heap):Prop:=∀a o,H a=some o->ObjOk P w H h a o
end
section
variable {P:Program}{w:World}{H H':Hp}{h h':Heap}{a:Addr}{o:HO}
theorem ObjOk.lt (x:ObjOk P w H h a o):a < h.objs.size:=by
 cases o with
 |lst xs=>obtain⟨_,_,_,_,e⟩:=x;exact Heap.lt_size e
 |tup xs=>obtain⟨_,_,_,p⟩:=x;exact p.lt
 |dK kvs=>obtain⟨_,_,_,_,o,_,_,e,_⟩:=x;exact Heap.lt_size e
 |dT kvs=>obtain⟨_,_,_,_,o,_,_,e,_⟩:=x;exact Heap.lt_size e
 |set S n=>obtain⟨o,_,_,_,e,_⟩:=x;exact Heap.lt_size e
 |ins C dx fs=>obtain⟨_,_,_,e,_⟩:=x;exact Heap.lt_size e
 |own y=>obtain⟨_,e⟩:=x;exact Heap.lt_size e
 |xd fs=>obtain⟨_,⟨_,_,_,e,_⟩,_⟩:=x;exact Heap.lt_size e
 |rng lo hi=>obtain⟨_,_,_,e⟩:=x;exact Heap.lt_size e
 |frz ob u=>obtain⟨e,_⟩:=x;exact Heap.lt_size e
 |tbl ps=>exact Heap.lt_size (show h.get? a=some _ from x)
 |met f y=>exact Heap.lt_size (show h.get? a=some _ from x)
 |ext φ=>obtain⟨_,⟨_,e⟩,_⟩:=x;exact Heap.lt_size e
theorem Paired.mapP {α β:Type}{F G:α->β->Prop}:∀ {l₁:List α} {l₂:List β},Paired F l₁ l₂->(∀a b,F a b->G a b)->Paired G l₁ l₂
 |_,_,.nil,_=>.nil
 |_,_,.cons r t,f=>.cons (f _ _ r) (Paired.mapP t f)
theorem ObjOk.stay (x:ObjOk P w H h a o)(k:∀b u,(b=a∨H b=some (.own a))->h.get? b=some u->h'.get? b=some u)
  (ho:∀b,H b=some (.own a)->H' b=some (.own a)) (ht:∀b xs,H b=some (.tup xs)->H' b=some (.tup xs)):ObjOk P w H' h' a o:=by
 induction o with
 |lst xs=>obtain⟨z,its,n,r,e⟩:=x;exact⟨z,its,n,r,k _ _ (.inl rfl) e⟩
 |tup xs=>obtain⟨z,its,r,ob,e,c⟩:=x;exact⟨z,its,r,ob,k _ _ (.inl rfl) e,c⟩
 |dK kvs=>obtain⟨z,y,vs,r,ob,es,ep,e,c⟩:=x;exact⟨z,y,vs,r,ob,es,ep,k _ _ (.inl rfl) e,c⟩
 |dT kvs=>
  obtain⟨z,y,xs,r,ob,es,ep,e,c⟩:=x
  exact⟨z,y,xs,Paired.mapP r λp q z=>⟨z.1,ht _ _ z.2.1,z.2.2⟩,ob,es,ep,k _ _ (.inl rfl) e,c⟩
 |set S n=>obtain⟨ob,es,ep,t,e,c⟩:=x;exact⟨ob,es,ep,t,k _ _ (.inl rfl) e,c⟩
 |ins C dx fs=>
  obtain⟨d,z,ne,e,mA,⟨od,es,ep,e2,c⟩,r⟩:=x
  exact⟨ho _ d,z,ne,k _ _ (.inl rfl) e,mA,⟨od,es,ep,k _ _ (.inr d) e2,c⟩,r⟩
 |own y=>obtain⟨ob,e⟩:=x;exact⟨ob,k _ _ (.inl rfl) e⟩
 |xd fs=>obtain⟨mA,⟨od,es,ep,e,c⟩,r⟩:=x;exact⟨mA,⟨od,es,ep,k _ _ (.inl rfl) e,c⟩,r⟩
 |rng lo hi=>obtain⟨t,u,v,e⟩:=x;exact⟨t,u,v,k _ _ (.inl rfl) e⟩
 |frz ob u ih=>obtain⟨e,q⟩:=x;exact⟨k _ _ (.inl rfl) e,ih q⟩
 |tbl ps=>
  have e:h.get? a=some { cls:=.none,data:=.fields ps }:=x
  show h'.get? a=some { cls:=.none,data:=.fields ps }
  exact k a _ (.inl rfl) e
 |met f y=>
  have e:h.get? a=some (PySem.W.methodObj (.ref f) (.ref y)):=x
  show h'.get? a=some (PySem.W.methodObj (.ref f) (.ref y))
  exact k a _ (.inl rfl) e
 |ext φ=>obtain⟨p,⟨o,e⟩,st⟩:=x;exact⟨st _ _ p λo q=>k _ _ (.inl rfl) q,⟨o,k _ _ (.inl rfl) e⟩,st⟩
theorem HOk.lt (x:HOk P w H h)(e:H a=some o):a < h.objs.size:=(x a o e).lt
theorem HOk.fresh (x:HOk P w H h)(e:h.objs.size<=a):H a=none:=by
 cases q:H a with
 |none=>rfl
 |some u=>exact absurd (Nat.lt_of_lt_of_le (x.lt q) e) (Nat.lt_irrefl _)
theorem HOk.kept (x:HOk P w H h)(k:∀b u,h.get? b=some u->h'.get? b=some u):HOk P w H h':=λa o e=>
 (x a o e).stay (λb u _ q=>k b u q) (λ_ q=>q) λ_ _ q=>q
theorem HOk.laid (x:HOk P w H h)(k:∀b u,h.get? b=some u->h'.get? b=some u)(hp:h.objs.size<=a)(new:ObjOk P w (upd H a o) h' a o):HOk P w (upd H a o) h':=λb u e=>by
 have hn:=x.fresh hp
 by_cases hb:b=a
 ·subst hb;rw[zr] at e;cases e;exact new
 ·rw[zh hb] at e
  exact (x b u e).stay (λc v _ q=>k c v q) (λc q=>by rw[zh (z8 q hn)];exact q) λc xs q=>by rw[zh (z8 q hn)];exact q
end
def Rd (H:Hp)(a:Addr)(u:HO):Prop:=H a=some u∨∃o,H a=some (.frz o u)
theorem Rd.ok {P:Program}{w:World}{H:Hp}{h:Heap}{a:Addr}{u:HO}(r:Rd H a u)(x:HOk P w H h):ObjOk P w H h a u:=by
 rcases r with r | ⟨o,r⟩
 ·exact x a u r
 ·obtain⟨_,q⟩:=x a _ r
  exact q
def Mut:Option HO->Prop
 |some (.lst _)=>True
 |some (.dK _)=>True
 |some (.dT _)=>True
 |some (.set _ _)=>True
 |some (.ins _ _ _)=>True
 |some (.ext _)=>True
 |_=>False
section
variable {P:Program}{w:World}{H:Hp}{h h':Heap}{x e:Addr}{o':HO}
theorem HOk.write (ok:HOk P w H h)(mu:Mut (H x))(he:e=x∨H e=some (.own x))(k:∀b u,b≠e->h.get? b=some u->h'.get? b=some u)(heo:∃u,h'.get? e=some u)
  (new:ObjOk P w (upd H x o') h' x o'):HOk P w (upd H x o') h':=λb u q=>by
 have nown:∀c y,H c=some (.own y)->c≠x:=λc y r z=>by subst z;rw[r] at mu;exact mu
 have ntup:∀c xs,H c=some (.tup xs)->c≠x:=λc xs r z=>by subst z;rw[r] at mu;exact mu
 by_cases hb:b=x
 ·subst hb;rw[zr] at q;cases q;exact new
 ·rw[zh hb] at q
  by_cases hbe:b=e
  ·have q':H b=some (.own x):=by
    rcases he with z | z
    ·exact absurd (hbe.trans z) hb
    ·rw[hbe];exact z
   rw[q] at q';cases q'
   obtain⟨v,hv⟩:=heo
   exact⟨v,by rw[hbe];exact hv⟩
  ·refine (ok b u q).stay (λc v hc r=>k c v ?_ r) (λc r=>by rw[zh (nown c b r)];exact r) λc xs r=>by rw[zh (ntup c xs r)];exact r
   rcases hc with rfl | hc
   ·exact hbe
   ·rintro rfl
    rcases he with z | z
    ·exact nown c b hc z
    ·rw[hc] at z;cases z;exact hb rfl
end
structure Un (fs ex:List Addr)(H H':Hp)(h h':Heap):Prop where
 keep:∀b o,h.get? b=some o->H b=none->b∉fs->b∉ex->h'.get? b=some o
 slot:∀b o,h.get? b=some o->H b=none->b∈fs->b∉ex->∃sl,h'.get? b=some { o with slots:=sl }
 free:∀b o,h.get? b=some o->H b=none->b∉ex->H' b=none
 there:∀b o,h.get? b=some o->b∉ex->∃o',h'.get? b=some o'
 tups:∀b xs,H b=some (.tup xs)->H' b=some (.tup xs)
 frzs:∀b o u,H b=some (.frz o u)->H' b=some (.frz o u)
 tbls:∀b ps,H b=some (.tbl ps)->∃more,H' b=some (.tbl (ps++more))
section
variable {fs fs' ex ex':List Addr}{H H1 H2:Hp}{h h1 h2 h':Heap}{a x e:Addr}{o:HO}
theorem Un.any (u:Un fs ex H H1 h h1){b:Addr}{ob:Obj}(q:h.get? b=some ob)(n:H b=none)(hx:b∉ex):∃sl,h1.get? b=some { ob with slots:=sl }:=by
 by_cases hb:b∈fs
 ·exact u.slot b ob q n hb hx
 ·exact⟨ob.slots,u.keep b ob q n hb hx⟩
theorem Un.kept (k:∀b u,h.get? b=some u->h'.get? b=some u):Un fs ex H H h h' :=
 ⟨λb ob q _ _ _=>k b ob q,λb ob q _ _ _=>⟨ob.slots,k b ob q⟩,λ_ _ _ n _=>n,λb ob q _=>⟨ob,k b ob q⟩,λ_ _ q=>q,λ_ _ _ q=>q,λ_ ps q=>⟨#[],by rw[q];simp⟩⟩
theorem Un.refl:Un fs ex H H h h:=Un.kept λ_ _ q=>q
theorem Un.laid (k:∀b u,h.get? b=some u->h'.get? b=some u)(hp:h.objs.size<=a)(hn:H a=none):Un fs ex H (upd H a o) h h' where
 keep:=λb u q _ _ _=>k b u q
 slot:=λb u q _ _ _=>⟨u.slots,k b u q⟩
 free:=λb u q n _=>by rw[zh (Nat.ne_of_lt (Nat.lt_of_lt_of_le (Heap.lt_size q) hp))];exact n
 there:=λb u q _=>⟨u,k b u q⟩
 tups:=λb xs q=>by rw[zh (z8 q hn)];exact q
 frzs:=λb u xs q=>by rw[zh (z8 q hn)];exact q
 tbls:=λb ps q=>⟨#[],by rw[zh (z8 q hn),q];simp⟩
theorem Un.write (mu:Mut (H x))(he:e=x∨H e=some (.own x))(k:∀b u,b≠e->h.get? b=some u->h'.get? b=some u)(heo:∃u,h'.get? e=some u):Un fs ex H (upd H x o) h h':=by
 have hx:∀b,H b=none->b≠x:=λb n z=>by subst z;rw[n] at mu;exact mu
 have hb:∀b,H b=none->b≠e:=λb n z=>by
  subst z
  rcases he with r | r
  ·exact hx b n r
  ·rw[n] at r;cases r
 have hm:∀b u,H b=some u->¬Mut (some u)->b≠x:=λb u q nm z=>by subst z;rw[q] at mu;exact nm mu
 refine⟨λb u q n _ _=>k b u (hb b n) q,λb u q n _ _=>⟨u.slots,k b u (hb b n) q⟩,λb u q n _=>by rw[zh (hx b n)];exact n,λb u q _=>?_,
  λb xs q=>by rw[zh (hm b _ q λz=>z)];exact q,λb u xs q=>by rw[zh (hm b _ q λz=>z)];exact q,λb ps q=>⟨#[],by rw[zh (hm b _ q λz=>z),q];simp⟩⟩
 by_cases hbe:b=e
 ·subst hbe;exact heo
 ·exact⟨u,k b u hbe q⟩
end
def trk (h:Heap)(H:Hp):List Addr:=(List.range h.objs.size).filter λa=>(H a).isSome
def hidT (h:Heap)(H:Hp):Heap:=PySem.W.hideAll h (trk h H)
theorem G4 (h:Heap)(H:Hp):(hidT h H).objs.size=h.objs.size:=PySem.W.hideAll_size _ _
theorem zck {h:Heap}{H:Hp}{b:Addr}{o:Obj}(e:h.get? b=some o)(n:H b=none):(hidT h H).get? b=some o :=
 PySem.W.hideAll_get _ e λhm=>by
  have q:(H b).isSome=true:=(List.mem_filter.mp hm).2
  rw[n] at q;simp at q
theorem Rw {h:Heap}{H:Hp}{b:Addr}{o:Obj}(e:(hidT h H).get? b=some o):h.get? b=some o/\H b=none:=by
 have e':h.get? b=some o:=PySem.W.of_hideAll (trk h H) e
 refine⟨e',?_⟩
 cases q:H b with
 |none=>rfl
 |some x=>
  have hm:b∈trk h H:=List.mem_filter.mpr ⟨List.mem_range.mpr (Heap.lt_size e'),by simp[q]⟩
  have z:(hidT h H).get? b=none:=PySem.W.hideAll_none (trk h H) hm
  rw[z] at e;cases e
def zcp (g h:Heap)(L:Addr):List (Addr×Obj):=(List.range h.objs.size).filterMap λa=>if a=L∨(g.get? a).isSome=true then none else (h.get? a).map λo=>(a,o)
def rest (g h:Heap)(L d:Addr):List (Addr×Obj):=(zcp g h L).filter λp=>decide (p.1≠d)
structure Mod (K:PySem.W.Frag)(mg:Str->Option Value)(base:Heap):Prop where
 kin:K.In base
 glob:base.Ns mainGlobals mg
 blt:∃mb,base.Ns builtinsNs mb/\∀x:Str,x ≠ "__name__" -> mb x=bootBuiltins x
 nolimit:base.NoLimit
structure Cx where
 prog:Program
 w:World
 K:PySem.W.Frag
 mg:Str->Option Value
 base:Heap
 A:Around
 N:List Str
 s₀:Shared
 H₀:Hp
 env:Env
 outer:List Env
 stack:List Env
 ex:List Addr
 fn:Str->Bool
 calm:Bool
 pn:List (Addr×Obj)
 xe:Value->Shared->Prop
def frs (l:List Env):List Addr:=l.filterMap (·.frame)
abbrev Cx.fs (X:Cx):List Addr:=frs X.outer
def Vis (sc:Scope)(x:Str):Prop:=sc.names.lookup x=some .local∨sc.names.lookup x=some .cell∨sc.names.lookup x=some .free
def Loc (sc:Scope)(x:Str):Prop:=sc.names.lookup x=some .local∨sc.names.lookup x=some .cell
theorem locl {sc:Scope}{x:Str}(h:(match sc.names.lookup x with | some .local=>true | some .cell=>true | _=>false)=true):Loc sc x:=by
 unfold Loc
 split at h<;>simp_all
def Look (env:Env)(h:Heap)(m:Str->Option Value)(x:Str)(u:Value):Prop :=
 (env.kindOf x=some .local/\m x=some u)∨((env.kindOf x=some .cell∨env.kindOf x=some .free)/\∃c,env.cells.lookup x=some c/\h.IsCell c (some u))
structure Cx.Ok (X:Cx):Prop where
 mod:Mod X.K X.mg X.base
 kind:X.env.scope.kind=.function
 glob:X.env.globals=mainGlobals
 blt:X.env.builtins=builtinsNs
 above:X.s₀.heap.objs.size<=X.env.locals
 inj:∀x y c,X.env.cells.lookup x=some c->X.env.cells.lookup y=some c->x=y
 has:∀x,(X.env.kindOf x=some .cell∨X.env.kindOf x=some .free)->∃c,X.env.cells.lookup x=some c
 cab:∀x c,X.fn x=true->X.env.cells.lookup x=some c->X.s₀.heap.objs.size<=c
 hd:X.calm=true->X.A.handled=none
 frames:X.A.frames=some X.stack
 stk:X.stack=X.outer∨(X.stack=X.env::X.outer/\X.env.frame=some X.env.locals)
 exf:∀b∈X.ex,b≠X.env.locals/\∀x c,X.env.cells.lookup x=some c->c≠b
 bs:∀b o,X.base.get? b=some o->X.s₀.heap.get? b=some o/\X.H₀ b=none
 bsz:X.base.objs.size<=X.s₀.heap.objs.size
 noex:∀b o,X.base.get? b=some o->b∉X.ex
 exfs:∀b∈X.ex,b∉X.fs
 funs:X.s₀.heap.FunFrames X.base X.outer
 frf:∀b∈X.fs,X.H₀ b=none
structure Inv (X:Cx)(pins:List (Addr×Obj))(σ:List (Option V))(H:Hp)(s:Shared):Prop where
 ok:X.Ok
 os:s.os=X.s₀.os
 bare:AllBare s.gens
 base:Un X.fs X.ex X.H₀ H X.s₀.heap s.heap
 loc:∃m,s.heap.Ns X.env.locals m/\∀(i:Nat) (x:Str) (v:V),X.N[i]?=some x->σ[i]?=some (some v)->Vis X.env.scope x->∃u,RelV v u/\Look X.env s.heap m x u
 cell:∀x c,X.env.cells.lookup x=some c->∃v,s.heap.IsCell c v
 free:H X.env.locals=none
 freeC:∀x c,X.env.cells.lookup x=some c->H c=none
 pin:∀p∈X.pn++pins,s.heap.get? p.1=some p.2/\H p.1=none/\p.1≠X.env.locals/\p.1∉X.fs/\∀v,p.2.data≠.cell v
 hok:HOk X.prog X.w H s.heap
 len:σ.length=X.N.length
section
variable {X:Cx}{pins:List (Addr×Obj)}{σ:List (Option V)}{H H':Hp}{s:Shared}{h':Heap}
theorem Cx.Ok.nofr (ok:X.Ok){b:Addr}{o:Obj}(e:X.base.get? b=some o):b∉X.fs:=λhb=>by
 have:=(ok.funs.mem hb).1
 rw[e] at this;cases this
theorem Inv.bs (I:Inv X pins σ H s):∀b o,X.base.get? b=some o->s.heap.get? b=some o/\H b=none:=λb o e=>
 ⟨I.base.keep b o (I.ok.bs b o e).1 (I.ok.bs b o e).2 (I.ok.nofr e) (I.ok.noex b o e),I.base.free b o (I.ok.bs b o e).1 (I.ok.bs b o e).2 (I.ok.noex b o e)⟩
theorem Inv.bk (I:Inv X pins σ H s):∀b o,X.base.get? b=some o->s.heap.get? b=some o:=λb o e=>(I.bs b o e).1
theorem Inv.mod (I:Inv X pins σ H s):Mod X.K X.mg X.base:=I.ok.mod
theorem Inv.kIn (I:Inv X pins σ H s):X.K.In s.heap:=I.ok.mod.kin.keeps I.bk
theorem Inv.lt (I:Inv X pins σ H s):X.env.locals < s.heap.objs.size:=let ⟨_,hn,_⟩:=I.loc;hn.lt
theorem Inv.sz (I:Inv X pins σ H s):X.s₀.heap.objs.size<=s.heap.objs.size:=Nat.le_trans I.ok.above (Nat.le_of_lt I.lt)
theorem Inv.nofs (I:Inv X pins σ H s){a:Addr}(h:s.heap.objs.size<=a):a∉X.fs:=λhb=>by
 obtain⟨_,o,ho,_⟩:=I.ok.funs.mem hb
 exact absurd (Nat.lt_of_lt_of_le (Heap.lt_size ho) (Nat.le_trans I.sz h)) (Nat.lt_irrefl _)
theorem Inv.cne (I:Inv X pins σ H s):∀x c,X.env.cells.lookup x=some c->c≠X.env.locals:=λx c e z=>by
 obtain⟨v,o,ho,hd⟩:=I.cell x c e
 obtain⟨m,⟨o',es,ep,ho',hd',_⟩,_⟩:=I.loc
 rw[z,ho'] at ho;cases ho;rw[hd'] at hd;cases hd
theorem Inv.funs (I:Inv X pins σ H s):s.heap.FunFrames X.base X.outer:=by
 have all:∀(l:List Env),(∀b∈frs l,b∈X.fs)->X.s₀.heap.FunFrames X.base l->s.heap.FunFrames X.base l:=by
  intro l
  induction l with
  |nil=>intro _ _;trivial
  |cons env r ih=>
   intro hs hl
   obtain⟨hk,⟨L,o,hf,hn,ho,hd⟩,hr⟩:=hl
   have hL:L∈X.fs:=hs L (by unfold frs;rw[List.filterMap_cons,hf];exact List.mem_cons_self)
   obtain⟨sl,e⟩:=I.base.slot L o ho (I.ok.frf L hL) hL λz=>I.ok.exfs L z hL
   exact⟨hk,⟨L,_,hf,hn,e,hd⟩,ih (λb hb=>hs b (by unfold frs;rw[List.filterMap_cons,hf];exact List.mem_cons_of_mem _ hb)) hr⟩
 exact all X.outer (λ_ hb=>hb) I.ok.funs
theorem Inv.stack (I:Inv X pins σ H s):s.heap.FunFrames X.base X.stack:=by
 rcases I.ok.stk with e | ⟨e,hf⟩
 ·rw[e];exact I.funs
 ·rw[e]
  obtain⟨m,hn,_⟩:=I.loc
  refine .cons (by rw[I.ok.kind];decide) hf hn ?_ I.funs
  exact Heap.get?_none_of_le (Nat.le_trans I.ok.bsz I.ok.above)
theorem Inv.stkSub (I:Inv X pins σ H s):∀b∈frs X.stack,b∈X.env.locals::X.fs:=λb hb=>by
 rcases I.ok.stk with e | ⟨e,hf⟩
 ·rw[e] at hb;exact List.mem_cons_of_mem _ hb
 ·rw[e] at hb
  unfold frs at hb
  rw[List.filterMap_cons,hf] at hb
  exact hb
theorem Inv.stkFree (I:Inv X pins σ H s):∀b∈frs X.stack,H b=none:=λb hb=>by
 rcases List.mem_cons.mp (I.stkSub b hb) with e | hb
 ·rw[e];exact I.free
 ·obtain⟨_,o,ho,_⟩:=I.ok.funs.mem hb
  exact I.base.free b o ho (I.ok.frf b hb) λz=>I.ok.exfs b z hb
theorem Inv.step {g':Array GenState}{t':Nat}{d':Drawn}{ch:List Addr}(I:Inv X pins σ H s)
  (hch:∀b∈ch,(b∈X.ex∨X.s₀.heap.objs.size<=b)/\b≠X.env.locals/\(∀x c,X.env.cells.lookup x=some c->c≠b)/\∀p∈X.pn++pins,p.1≠b)
  (keep:∀b o,b≠X.env.locals->b∉X.fs->b∉ch->s.heap.get? b=some o->H b=none->h'.get? b=some o)
  (slot:∀b o,b≠X.env.locals->b∈X.fs->b∉ch->s.heap.get? b=some o->H b=none->∃sl,h'.get? b=some { o with slots:=sl }) (free:∀b o,b∉ch->s.heap.get? b=some o->H b=none->H' b=none)
  (there:∀b o,b∉ch->s.heap.get? b=some o->∃o',h'.get? b=some o')
  (tups:∀b xs,H b=some (.tup xs)->H' b=some (.tup xs)) (frzs:∀b o u,H b=some (.frz o u)->H' b=some (.frz o u)) (tbls:∀b ps,H b=some (.tbl ps)->∃more,H' b=some (.tbl (ps++more)))
  (ns:∀m,s.heap.Ns X.env.locals m->h'.Ns X.env.locals m) (hok:HOk X.prog X.w H' h') (hg:AllBare g') :
  Inv X pins σ H' { s with heap:=h',gens:=g',drawn:=d',toks:=t' }:=by
 have neL:∀b o,X.s₀.heap.get? b=some o->b≠X.env.locals:=λb o e=>Nat.ne_of_lt (Nat.lt_of_lt_of_le (Heap.lt_size e) I.ok.above)
 have neC:∀b o,X.s₀.heap.get? b=some o->b∉X.ex->b∉ch:=λb o e hx hb=>by
  rcases (hch b hb).1 with z | z
  ·exact hx z
  ·exact absurd (Nat.lt_of_lt_of_le (Heap.lt_size e) z) (Nat.lt_irrefl _)
 have cellK:∀x c,X.env.cells.lookup x=some c->∀v,s.heap.IsCell c v->h'.IsCell c v:=λx c e v ⟨o,ho,hd⟩=>by
  have nch:c∉ch:=λz=>(hch c z).2.2.1 x c e rfl
  by_cases hc:c∈X.fs
  ·obtain⟨sl,q⟩:=slot c o (I.cne x c e) hc nch ho (I.freeC x c e)
   exact⟨_,q,hd⟩
  ·exact⟨o,keep c o (I.cne x c e) hc nch ho (I.freeC x c e),hd⟩
 refine⟨I.ok,I.os,hg,⟨λb o e n hb hx=>?_,λb o e n hb hx=>?_,λb o e n hx=>?_,λb o e hx=>?_,λb xs e=>tups b xs (I.base.tups b xs e),λb o xs e=>frzs b o xs (I.base.frzs b o xs e),λb ps e=>?_⟩,?_,λx c e=>?_,?_,λx c e=>?_,λp hp=>?_,hok,I.len⟩
 ·exact keep b o (neL b o e) hb (neC b o e hx) (I.base.keep b o e n hb hx) (I.base.free b o e n hx)
 ·obtain⟨sl,e1⟩:=I.base.slot b o e n hb hx
  obtain⟨sl',e2⟩:=slot b _ (neL b o e) hb (neC b o e hx) e1 (I.base.free b o e n hx)
  exact⟨sl',e2⟩
 ·obtain⟨o',e1⟩:=I.base.there b o e hx
  exact free b o' (neC b o e hx) e1 (I.base.free b o e n hx)
 ·obtain⟨o',e1⟩:=I.base.there b o e hx
  exact there b o' (neC b o e hx) e1
 ·obtain⟨m1,e1⟩:=I.base.tbls b ps e
  obtain⟨m2,e2⟩:=tbls b _ e1
  exact⟨m1++m2,by rw[e2,Array.append_assoc]⟩
 ·obtain⟨m,hn,hl⟩:=I.loc
  refine⟨m,ns m hn,λi x v e1 e2 e3=>?_⟩
  obtain⟨u,r,l⟩:=hl i x v e1 e2 e3
  refine⟨u,r,?_⟩
  rcases l with l | ⟨k,c,e,z⟩
  ·exact .inl l
  ·exact .inr ⟨k,c,e,cellK x c e _ z⟩
 ·obtain⟨v,z⟩:=I.cell x c e
  exact⟨v,cellK x c e v z⟩
 ·obtain⟨m,⟨o,_,_,ho,_⟩,_⟩:=I.loc
  exact free _ o (λz=>(hch _ z).2.1 rfl) ho I.free
 ·obtain⟨v,o,ho,hd⟩:=I.cell x c e
  exact free c o (λz=>(hch c z).2.2.1 x c e rfl) ho (I.freeC x c e)
 ·obtain⟨e,n,ne,nf,d⟩:=I.pin p hp
  have nch:p.1∉ch:=λz=>(hch p.1 z).2.2.2 p hp rfl
  exact⟨keep p.1 p.2 ne nf nch e n,free p.1 p.2 nch e n,ne,nf,d⟩
theorem Inv.un {t':Nat}(I:Inv X pins σ H s)(u:Un X.fs [] H H' s.heap h')(hok:HOk X.prog X.w H' h'):Inv X pins σ H' { s with heap:=h',toks:=t' }:=by
 obtain⟨m,⟨o,es,ep,ho,r⟩,_⟩:=id I.loc
 obtain⟨sl,hL⟩:=u.any ho I.free (by simp)
 exact I.step (g':=s.gens) (d':=s.drawn) (ch:=[]) (λ_ z=>nomatch z) (λb o _ hb _ e n=>u.keep b o e n hb (by simp)) (λb o _ hb _ e n=>u.slot b o e n hb (by simp)) (λb o _ e n=>u.free b o e n (by simp)) (λb o _ e=>u.there b o e (by simp)) u.tups u.frzs u.tbls (λm' hm=>by
  obtain⟨o',es',ep',ho',r'⟩:=hm
  rw[ho] at ho';cases ho'
  exact⟨_,es',ep',hL,r'⟩) hok I.bare
theorem Inv.call {g':Array GenState}{t':Nat}{d':Drawn}{ch:List Addr}(I:Inv X pins σ H s)(u:Un (frs X.stack) ch H H' s.heap h')(hok:HOk X.prog X.w H' h')(hg:AllBare g')
  (hch:∀b∈ch,(b∈X.ex∨X.s₀.heap.objs.size<=b)/\b≠X.env.locals/\(∀x c,X.env.cells.lookup x=some c->c≠b)/\∀p∈X.pn++pins,p.1≠b) :
  Inv X pins σ H' { s with heap:=h',gens:=g',drawn:=d',toks:=t' }:=by
 obtain⟨m,⟨o,es,ep,ho,r⟩,_⟩:=id I.loc
 obtain⟨sl,hL⟩:=u.any ho I.free λz=>(hch _ z).2.1 rfl
 exact I.step (ch:=ch) hch (λb o hL hb hc e n=>u.keep b o e n (λz=>(List.mem_cons.mp (I.stkSub b z)).elim hL hb) hc) (λb o _ _ hc e n=>u.any e n hc) (λb o hc e n=>u.free b o e n hc) (λb o hc e=>u.there b o e hc) u.tups u.frzs u.tbls (λm' hm=>by
  obtain⟨o',es',ep',ho',r'⟩:=hm
  rw[ho] at ho';cases ho'
  exact⟨_,es',ep',hL,r'⟩) hok hg
theorem Inv.turned {t':Nat}{it:Addr}(I:Inv X pins σ H s)(k:∀b o,b≠it->s.heap.get? b=some o->h'.get? b=some o)(hn:H it=none)(hL:it≠X.env.locals)
  (h1:it∈X.ex∨X.s₀.heap.objs.size<=it) (h2:∀x c,X.env.cells.lookup x=some c->c≠it) (h3:∀p∈X.pn++pins,p.1≠it):Inv X pins σ H { s with heap:=h',toks:=t' }:=by
 have nit:∀b u,H b=some u->b≠it:=λb u e z=>by rw[z,hn] at e;cases e
 refine I.step (g':=s.gens) (d':=s.drawn) (ch:=[it]) (λb hb=>?_) (λb o _ _ hc e _=>k b o (λz=>hc (by simp[z])) e) (λb o _ _ hc e _=>⟨o.slots,k b o (λz=>hc (by simp[z])) e⟩) (λ_ _ _ _ n=>n)
  (λb o hc e=>⟨o,k b o (λz=>hc (by simp[z])) e⟩) (λ_ _ e=>e) (λ_ _ _ e=>e) (λb ps e=>⟨#[],by rw[e];simp⟩) (λm hm=>?_) (λb u e=>?_) I.bare
 ·have e:b=it:=by simpa using hb
  subst e
  exact⟨h1,hL,h2,h3⟩
 ·obtain⟨o,es,ep,ho,r⟩:=hm
  exact⟨o,es,ep,k _ o (Ne.symm hL) ho,r⟩
 ·refine (I.hok b u e).stay (λc v hc q=>k c v ?_ q) (λ_ q=>q) λ_ _ q=>q
  rcases hc with z | z
  ·rw[z];exact nit b u e
  ·exact nit c _ z
theorem Inv.tok (I:Inv X pins σ H s)(t:Nat):Inv X pins σ H { s with toks:=t }:=I.un (h':=s.heap) (t':=t) Un.refl I.hok
theorem Inv.kept {t':Nat}(I:Inv X pins σ H s)(k:∀b u,s.heap.get? b=some u->h'.get? b=some u):Inv X pins σ H { s with heap:=h',toks:=t' }:=I.un (Un.kept k) (I.hok.kept k)
theorem Inv.laid {a:Addr}{o:HO}{t':Nat}(I:Inv X pins σ H s)(k:∀b u,s.heap.get? b=some u->h'.get? b=some u)(hp:s.heap.objs.size<=a)(new:ObjOk X.prog X.w (upd H a o) h' a o) :
  Inv X pins σ (upd H a o) { s with heap:=h',toks:=t' }:=I.un (Un.laid k hp (I.hok.fresh hp)) (I.hok.laid k hp new)
theorem Inv.write {x e:Addr}{o:HO}{t':Nat}(I:Inv X pins σ H s)(mu:Mut (H x))(he:e=x∨H e=some (.own x))(k:∀b u,b≠e->s.heap.get? b=some u->h'.get? b=some u)(heo:∃u,h'.get? e=some u)
  (new:ObjOk X.prog X.w (upd H x o) h' x o):Inv X pins σ (upd H x o) { s with heap:=h',toks:=t' }:=I.un (Un.write mu he k heo) (I.hok.write mu he k heo new)
theorem Inv.pins_of {pins':List (Addr×Obj)}(I:Inv X pins σ H s)(h:∀p∈pins',s.heap.get? p.1=some p.2/\H p.1=none/\p.1≠X.env.locals/\p.1∉X.fs/\∀v,p.2.data≠.cell v):Inv X pins' σ H s :=
 ⟨I.ok,I.os,I.bare,I.base,I.loc,I.cell,I.free,I.freeC,λp hp=>(List.mem_append.mp hp).elim (λz=>I.pin p (List.mem_append_left _ z)) (h p),I.hok,I.len⟩
theorem ZU {N:List Str}(hN:N.Nodup){i j:Nat}{x:Str}(a:N[i]?=some x)(b:N[j]?=some x):i=j:=by
 obtain⟨h1,e1⟩:=List.getElem?_eq_some_iff.mp a
 obtain⟨h2,e2⟩:=List.getElem?_eq_some_iff.mp b
 exact (List.getElem_inj hN).mp (e1.trans e2.symm)
theorem kS {M:Model}{A:Around}{E:Value->Shared->Prop}{i:Nat}{x:Str}{v:V}{u:Value}{Q:Unit->Shared->Prop}(I:Inv X pins σ H s)(hN:X.N.Nodup)(hi:X.N[i]?=some x)(hx:Loc X.env.scope x)(r:RelV v u)
  (h:∀s',Inv X pins (σ.set i (some v)) H s'->(∃a,Heap.SameBut a s.heap s'.heap/\(a=X.env.locals∨X.env.cells.lookup x=some a))->Q () s') (hf:X.fn x=true∨X.env.scope.names.lookup x=some .local:=by first | exact .inl rfl | exact .inr rfl | assumption):wpAny M A (storeName X.env x u) Q E s:=by
 obtain⟨m,hn,hl⟩:=id I.loc
 have hcls:(X.env.scope.kind==.class||(X.env.scope.kind==.module&&X.env.locals != X.env.globals))=false:=by rw[I.ok.kind];rfl
 have hiσ:i < σ.length:=by rw[I.len];exact (List.getElem?_eq_some_iff.mp hi).1
 have cne:=I.cne
 have tracked:∀ {a:Addr} {h':Heap},(∃o,s.heap.get? a=some o/\H a=none)->Heap.SameBut a s.heap h'->HOk X.prog X.w H h':=fun {a h'} ha hs b ob e=>by
  obtain⟨_,_,hfree⟩:=ha
  refine (I.hok b ob e).stay (λc w' hc q=>(hs.2 c ?_).trans q) (λ_ q=>q) λ_ _ q=>q
  rintro rfl
  rcases hc with rfl | hc
  ·rw[hfree] at e;cases e
  ·rw[hfree] at hc;cases hc
 rcases hx with hk | hk
 ·refine wpAny_storeName_local hk hn (λh' hn' hs=>?_) hcls
  obtain⟨oL,_,_,hoL,_⟩:=id hn
  refine h _ ⟨I.ok,I.os,I.bare,⟨λb o e n hb hx=>?_,λb o e n hb hx=>?_,I.base.free,λb o e hx=>?_,I.base.tups,I.base.frzs,I.base.tbls⟩,⟨_,hn',λj y v' e1 e2 e3=>?_⟩,λy c e=>?_,I.free,I.freeC,λp hp=>?_,tracked ⟨oL,hoL,I.free⟩ hs,by simpa using I.len⟩ ⟨_,hs,.inl rfl⟩
  ·exact (hs.2 b (Nat.ne_of_lt (Nat.lt_of_lt_of_le (Heap.lt_size e) I.ok.above))).trans (I.base.keep b o e n hb hx)
  ·obtain⟨sl,e1⟩:=I.base.slot b o e n hb hx
   exact⟨sl,(hs.2 b (Nat.ne_of_lt (Nat.lt_of_lt_of_le (Heap.lt_size e) I.ok.above))).trans e1⟩
  ·obtain⟨o',e1⟩:=I.base.there b o e hx
   exact⟨o',(hs.2 b (Nat.ne_of_lt (Nat.lt_of_lt_of_le (Heap.lt_size e) I.ok.above))).trans e1⟩
  ·by_cases hj:j=i
   ·subst hj
    rw[hi] at e1;cases e1
    rw[List.getElem?_set_self hiσ] at e2
    cases e2
    exact⟨u,r,.inl ⟨hk,by simp⟩⟩
   ·rw[List.getElem?_set_ne (Ne.symm hj)] at e2
    obtain⟨u',r',q⟩:=hl j y v' e1 e2 e3
    refine⟨u',r',?_⟩
    rcases q with⟨k,e⟩ | ⟨k,c,e,z⟩
    ·refine .inl ⟨k,?_⟩
     have:y≠x:=λe=>hj (ZU hN e1 (e ▸ hi))
     simp[this,e]
    ·exact .inr ⟨k,c,e,z.sameBut hs (cne y c e)⟩
  ·obtain⟨w',z⟩:=I.cell y c e
   exact⟨w',z.sameBut hs (cne y c e)⟩
  ·obtain⟨e,n,ne,nf,d⟩:=I.pin p hp
   exact⟨(hs.2 p.1 ne).trans e,n,ne,nf,d⟩
 ·have hfn:X.fn x=true:=by
   rcases hf with z | z
   ·exact z
   ·rw[z] at hk;cases hk
  obtain⟨c,hc⟩:=I.ok.has x (.inl hk)
  obtain⟨w',z⟩:=I.cell x c hc
  refine wpAny_storeName_cell I.ok.kind hk hc z (λh' hc' hs=>?_)
  obtain⟨oc,hoc,hocd⟩:=id z
  refine h { s with heap:=h' } ⟨I.ok,I.os,I.bare,⟨λb o e n hb hx=>?_,λb o e n hb hx=>?_,I.base.free,λb o e hx=>?_,I.base.tups,I.base.frzs,I.base.tbls⟩,⟨m,hn.sameBut hs (Ne.symm (cne x c hc)),λj y v' e1 e2 e3=>?_⟩,λy c' e=>?_,I.free,I.freeC,λp hp=>?_,tracked ⟨oc,hoc,I.freeC x c hc⟩ hs,by simpa using I.len⟩ ⟨c,hs,.inr hc⟩
  ·exact (hs.2 b (Nat.ne_of_lt (Nat.lt_of_lt_of_le (Heap.lt_size e) (I.ok.cab x c hfn hc)))).trans (I.base.keep b o e n hb hx)
  ·obtain⟨sl,e1⟩:=I.base.slot b o e n hb hx
   exact⟨sl,(hs.2 b (Nat.ne_of_lt (Nat.lt_of_lt_of_le (Heap.lt_size e) (I.ok.cab x c hfn hc)))).trans e1⟩
  ·obtain⟨o',e1⟩:=I.base.there b o e hx
   exact⟨o',(hs.2 b (Nat.ne_of_lt (Nat.lt_of_lt_of_le (Heap.lt_size e) (I.ok.cab x c hfn hc)))).trans e1⟩
  ·by_cases hj:j=i
   ·subst hj
    rw[hi] at e1;cases e1
    rw[List.getElem?_set_self hiσ] at e2
    cases e2
    exact⟨u,r,.inr ⟨.inl hk,c,hc,hc'⟩⟩
   ·rw[List.getElem?_set_ne (Ne.symm hj)] at e2
    obtain⟨u',r',q⟩:=hl j y v' e1 e2 e3
    refine⟨u',r',?_⟩
    rcases q with q | ⟨k,c',e,z'⟩
    ·exact .inl q
    ·refine .inr ⟨k,c',e,z'.sameBut hs ?_⟩
     rintro rfl
     exact hj (ZU hN e1 (I.ok.inj _ _ _ e hc ▸ hi))
  ·by_cases hcc:c'=c
   ·subst hcc;exact⟨_,hc'⟩
   ·obtain⟨w2,z2⟩:=I.cell y c' e
    exact⟨w2,z2.sameBut hs hcc⟩
  ·obtain⟨e,n,ne,nf,d⟩:=I.pin p hp
   refine⟨(hs.2 p.1 ?_).trans e,n,ne,nf,d⟩
   intro q
   rw[q,hoc] at e
   have q':oc=p.2:=Option.some.inj e
   exact d w' (by rw[<-q'];exact hocd)
theorem uu {M:Model}{A:Around}{E:Value->Shared->Prop}{i:Nat}{x:Str}{v:V}{u:Value}{Q:Unit->Shared->Prop}(I:Inv X pins σ H s)(hN:X.N.Nodup)(hi:X.N[i]?=some x)(hx:Loc X.env.scope x)(r:RelV v u)
  (h:∀s',Inv X pins (σ.set i (some v)) H s'->Q () s') (hf:X.fn x=true∨X.env.scope.names.lookup x=some .local:=by first | exact .inl rfl | exact .inr rfl | assumption):wpAny M A (storeName X.env x u) Q E s :=
 kS I hN hi hx r (λs' I' _=>h s' I') hf
theorem Inv.call' {s':Shared}{ch:List Addr}(I:Inv X pins σ H s)(ho:s'.os=s.os)(u:Un (frs X.stack) ch H H' s.heap s'.heap)(hok:HOk X.prog X.w H' s'.heap)(hg:AllBare s'.gens)
  (hch:∀b∈ch,(b∈X.ex∨X.s₀.heap.objs.size<=b)/\b≠X.env.locals/\(∀x c,X.env.cells.lookup x=some c->c≠b)/\∀p∈X.pn++pins,p.1≠b):Inv X pins σ H' s':=by
 obtain⟨h',g',d',t',o'⟩:=s'
 have e:o'=s.os:=ho
 subst e
 exact I.call (g':=g') (t':=t') (d':=d') u hok hg hch
end
abbrev XK:=Value->Option Addr->Hp->Prop
abbrev St:=List (Option V)
abbrev VK:=V->Hp->Prop
abbrev TE:=St->Hp->VK->Prop
abbrev TT:=St->Hp->(Bool->Hp->Prop)->Prop
abbrev TA:=St->Hp->(List V->Hp->Prop)->Prop
structure Ends where
 nx:St->Hp->Prop
 rt:VK
 bk:St->Hp->Prop:=λ_ _=>False
 ct:St->Hp->Prop:=λ_ _=>False
abbrev TS:=Ends->St->Hp->Prop
def EP (X:Cx)(pins:List (Addr×Obj))(σ:St)(Q:VK)(u:Value)(s':Shared):Prop:=∃v H',Inv X pins σ H' s'/\RelV v u/\Q v H'
def TP (X:Cx)(pins:List (Addr×Obj))(σ:St)(Q:Bool->Hp->Prop)(b:Bool)(s':Shared):Prop:=∃H',Inv X pins σ H' s'/\Q b H'
def AP (X:Cx)(pins:List (Addr×Obj))(σ:St)(Q:List V->Hp->Prop)(us:List Value)(s':Shared):Prop:=∃vs H',Inv X pins σ H' s'/\Vals vs us/\Q vs H'
def SP (X:Cx)(pins:List (Addr×Obj))(D:Ends)(f:Flow)(s':Shared):Prop :=
 match f with
 |.next=>∃σ' H',Inv X pins σ' H' s'/\D.nx σ' H'
 |.brk=>∃σ' H',Inv X pins σ' H' s'/\D.bk σ' H'
 |.cont=>∃σ' H',Inv X pins σ' H' s'/\D.ct σ' H'
 |.ret u=>∃v σ' H',Inv X pins σ' H' s'/\RelV v u/\D.rt v H'
def PE (X:Cx)(e:Expr)(t:TE):Prop :=
 ∀(pins:List (Addr×Obj)) (s:Shared) (σ:St) (H:Hp) (Q:VK),Inv X pins σ H s->t σ H Q->wpAny #[4] X.A (eval e X.env) (EP X pins σ Q) X.xe s
def PT (X:Cx)(e:Expr)(t:TT):Prop :=
 ∀(pins:List (Addr×Obj)) (s:Shared) (σ:St) (H:Hp) (Q:Bool->Hp->Prop),Inv X pins σ H s->t σ H Q->wpAny #[4] X.A (isTrue e X.env (eval e X.env)) (TP X pins σ Q) X.xe s
def PW (X:Cx)(e:Expr)(t:TT):Prop :=
 ∀(whole:Sem Value) (pins:List (Addr×Obj)) (s:Shared) (σ:St) (H:Hp) (Q:Bool->Hp->Prop),Inv X pins σ H s->t σ H Q->wpAny #[4] X.A (isTrue e X.env whole) (TP X pins σ Q) X.xe s
theorem PW.pt {X:Cx}{e:Expr}{t:TT}(h:PW X e t):PT X e t:=h _
def PA (X:Cx)(es:List Expr)(t:TA):Prop :=
 ∀(pos:Pos) (pins:List (Addr×Obj)) (s:Shared) (σ:St) (H:Hp) (Q:List V->Hp->Prop),Inv X pins σ H s->t σ H Q->wpAny #[4] X.A (spliced #[11]) (AP X pins σ Q) X.xe s
def PS (X:Cx)(st:Stmt)(t:TS):Prop :=
 ∀(pins:List (Addr×Obj)) (s:Shared) (σ:St) (H:Hp) (D:Ends),Inv X pins σ H s->t D σ H->wpAny #[4] X.A (exec st X.env) (SP X pins D) X.xe s
def PSs (X:Cx)(st:List Stmt)(t:TS):Prop :=
 ∀(pins:List (Addr×Obj)) (s:Shared) (σ:St) (H:Hp) (D:Ends),Inv X pins σ H s->t D σ H->wpAny #[4] X.A (execs st X.env) (SP X pins D) X.xe s
theorem thn {α:Type}{t:Sem α}{Q Q':α->Shared->Prop}{M:Model}{A:Around}{E:Value->Shared->Prop}{s:Shared}(h:wpAny M A t Q E s)(hQ:∀a s,Q a s->Q' a s):wpAny M A t Q' E s:=wpAny_mono h hQ λ_ _ x=>x
section
variable {X:Cx}
def tVar (i:Nat):TE:=λσ H Q=>∃v,σ[i]?=some (some v)/\Q v H
def tC (v:V):TE:=λ_ H Q=>Q v H
theorem Je {i:Nat}{x:Str}{pos:Pos}(hN:X.N[i]?=some x)(hv:Vis X.env.scope x)(hd:#[8]=false:=by decide) (hcd:(x==("__classdict__" : Str))=false:=by decide):PE X (.Name x pos) (tVar i):=by
 intro pins s σ H Q I h
 obtain⟨v,e,h⟩:=h
 obtain⟨m,hn,hl⟩:=I.loc
 obtain⟨u,r,l⟩:=hl i x v hN e hv
 have fin:EP X pins σ Q u s:=⟨v,H,I,r,h⟩
 rcases l with⟨hk,hm⟩ | ⟨hk,c,hc,hcell⟩
 ·exact wpAny_Name (wpAny_loadName_local I.ok.kind hk hn hm fin) hd
 ·rcases hk with hk | hk
  ·exact wpAny_Name (wpAny_loadName_cell I.ok.kind hk hc hcell fin) hd
  ·exact wpAny_Name (wpAny_loadName_free I.ok.kind hk hc hcell fin hcd) hd
theorem WK {i j pos}:PE X (.Constant (.int i) j pos) (tC (.int i)):=λ_ _ _ H _ I h=>wpAny_Constant_int ⟨.int i,H,I.tok _,⟨_,rfl⟩,h⟩
theorem KD {b j pos}:PE X (.Constant (.bool b) j pos) (tC (.bl b)):=λ_ _ _ H _ I h=>Constant_bool ⟨.bl b,H,I,rfl,h⟩
theorem Kn {j pos}:PE X (.Constant .none j pos) (tC .non):=λ_ _ _ H _ I h=>Constant_none ⟨.non,H,I,rfl,h⟩
theorem ZT {x j pos}:PE X (.Constant (.str x) j pos) (tC (.str x)):=λ_ _ _ H _ I h=>Calls.Constant_str ⟨.str x,H,I.tok _,⟨_,rfl⟩,h⟩
def Gl (X:Cx)(x:Str):Prop:=X.env.kindOf x=some .globalImplicit
theorem yr {E:Value->Shared->Prop}{pins:List (Addr×Obj)}{s:Shared}{σ:St}{H:Hp}{x:Str}{u:Value}{pos:Pos}{Q:Value->Shared->Prop}(I:Inv X pins σ H s)(hg:Gl X x)(hm:X.mg x=some u)(h:Q u s)
  (hd:#[8]=false:=by decide):wpAny #[4] X.A (eval (.Name x pos) X.env) Q E s :=
 Calls.Name_function_global I.ok.kind hg (Calls.loadGlobal_global (by rw[I.ok.glob];exact I.mod.glob.keeps I.bk) hm h) hd
theorem vq {E:Value->Shared->Prop}{pins:List (Addr×Obj)}{s:Shared}{σ:St}{H:Hp}{x:Str}{u:Value}{pos:Pos}{Q:Value->Shared->Prop}(I:Inv X pins σ H s)(hg:Gl X x)(hm:X.mg x=none)(hv:bootBuiltins x=some u)(h:Q u s)
  (hn:x ≠ "__name__" := by decide) (hd:#[8]=false:=by decide):wpAny #[4] X.A (eval (.Name x pos) X.env) Q E s:=by
 obtain⟨mb,h1,h2⟩:=I.mod.blt
 exact Calls.Name_function_global I.ok.kind hg (Calls.loadGlobal_builtin (by rw[I.ok.glob];exact I.mod.glob.keeps I.bk) hm (by rw[I.ok.blt];exact h1.keeps I.bk) ((h2 x hn).trans hv) h) hd
theorem KQ {x:Str}{v:V}{u:Value}{pos:Pos}(hg:Gl X x)(hm:X.mg x=some u)(r:RelV v u)(hd:#[8]=false:=by decide):PE X (.Name x pos) (tC v) :=
 λ_ _ _ H _ I h=>yr I hg hm ⟨v,H,I,r,h⟩ hd
theorem QU {x:Str}{v:V}{u:Value}{pos:Pos}(hg:Gl X x)(hm:X.mg x=none)(hv:bootBuiltins x=some u)(r:RelV v u)(hn:x ≠ "__name__" := by decide) (hd:#[8]=false:=by decide):PE X (.Name x pos) (tC v) :=
 λ_ _ _ H _ I h=>vq I hg hm hv ⟨v,H,I,r,h⟩ hn hd
variable {a b:Expr}{ta tb:TE}{pos:Pos}
def PC (X:Cx)(op:CmpOp)(a b:Expr)(t:TE):Prop :=
 ∀(pins:List (Addr×Obj)) (s:Shared) (σ:St) (H:Hp) (Q:VK),Inv X pins σ H s->t σ H Q ->
  wpAny #[4] X.A (eval a X.env) (λv s₁=>wpAny #[4] X.A (eval b X.env) (λu s₂=>wpAny #[4] X.A (compareOp op v u) (EP X pins σ Q) X.xe s₂) X.xe s₁) X.xe s
def tB (t:TE):TT:=λσ H Q=>t σ H λx H1=>∃c,x=.bl c/\Q c H1
theorem zf7 {op:CmpOp}{t:TE}(h:PC X op a b t)(h1:behindInMarks op b=false:=by first | exact nobehind _ (by decide) (by decide) | rfl):PT X (.Compare a [op] [b] pos) (tB t):=by
 intro pins s σ H Q I hw
 refine wpAny_isTrue_Compare1 (thn (h pins s σ H _ I hw) λv s1 h1=>thn h1 λu s2 h2=>thn h2 λc s3 ⟨x,H1,I1,r1,q1⟩=>?_) h1
 obtain⟨d,rfl,q⟩:=q1
 cases r1
 exact wpAny_truthy_bool ⟨H1,I1,q⟩
variable {tA tB':TT}{rest:List Expr}
def tAnd (t u:TT):TT:=λσ H Q=>t σ H λc H1=>if c=true then u σ H1 Q else Q false H1
def tOr (t u:TT):TT:=λσ H Q=>t σ H λc H1=>if c=true then Q true H1 else u σ H1 Q
def tNot (t:TT):TT:=λσ H Q=>t σ H λc H1=>Q (!c) H1
theorem zfr (ha:PT X a tA):PW X (.BoolOp .And [a] pos) tA:=by
 intro wh pins s σ H Q I h
 refine isTrue_and (thn (ha pins s σ H Q I h) λc s1 e=>?_)
 cases c with
 |true=>exact isTrue_and_nil e
 |false=>exact e
theorem RJ (ha:PT X a tA):PW X (.BoolOp .Or [a] pos) tA:=by
 intro wh pins s σ H Q I h
 refine isTrue_or (thn (ha pins s σ H Q I h) λc s1 e=>?_)
 cases c with
 |false=>exact isTrue_or_nil e
 |true=>exact e
theorem Ud (ha:PT X a tA)(hb:PW X (.BoolOp .And (b::rest) pos) tB'):PW X (.BoolOp .And (a::b::rest) pos) (tAnd tA tB'):=by
 intro wh pins s σ H Q I h
 refine isTrue_and (thn (ha pins s σ H _ I h) λc s1 ⟨H1,I1,q1⟩=>?_)
 cases c with
 |true=>exact hb wh pins s1 σ H1 Q I1 q1
 |false=>exact⟨H1,I1,q1⟩
theorem zcw (ha:PT X a tA)(hb:PW X (.BoolOp .Or (b::rest) pos) tB'):PW X (.BoolOp .Or (a::b::rest) pos) (tOr tA tB'):=by
 intro wh pins s σ H Q I h
 refine isTrue_or (thn (ha pins s σ H _ I h) λc s1 ⟨H1,I1,q1⟩=>?_)
 cases c with
 |true=>exact⟨H1,I1,q1⟩
 |false=>exact hb wh pins s1 σ H1 Q I1 q1
theorem ze0 (ha:PT X a tA):PT X (.UnaryOp .Not a pos) (tNot tA):=by
 intro pins s σ H Q I h
 exact isTrue_not (ha pins s σ H (λc H1=>Q (!c) H1) I h)
def tAndV (ta tb:TE):TE:=λσ H Q=>ta σ H λx H1=>∃c,x=.bl c/\if c=true then tb σ H1 Q else Q (.bl false) H1
def tNotV (ta:TE):TE:=λσ H Q=>ta σ H λx H1=>∃c,x=.bl c/\Q (.bl (!c)) H1
theorem Gs {op}{t:TE}(h:PE X a t):PE X (.BoolOp op [a] pos) t:=λpins s σ H Q I hw=>BoolOp_one (h pins s σ H Q I hw)
theorem zf0 (ha:PE X a ta)(hb:PE X (.BoolOp .And (b::rest) pos) tb):PE X (.BoolOp .And (a::b::rest) pos) (tAndV ta tb):=by
 intro pins s σ H Q I h
 refine BoolOp_and (thn (ha pins s σ H _ I h) λv s1 ⟨x,H1,I1,r1,q1⟩=>?_)
 obtain⟨c,rfl,q1⟩:=q1
 cases r1
 refine wpAny_truthy_bool ?_
 cases c with
 |true=>exact hb pins s1 σ H1 Q I1 q1
 |false=>exact⟨.bl false,H1,I1,rfl,q1⟩
theorem zbv (ha:PE X a ta):PE X (.UnaryOp .Not a pos) (tNotV ta):=by
 intro pins s σ H Q I h
 refine UnaryOp_ (thn (ha pins s σ H _ I h) λv s1 ⟨x,H1,I1,r1,q1⟩=>?_)
 obtain⟨c,rfl,q1⟩:=q1
 cases r1
 exact not_of (wpAny_truthy_bool ⟨.bl (!c),H1,I1,rfl,q1⟩)
def tIf (t:TT)(ta tb:TE):TE:=λσ H Q=>t σ H λc H1=>if c=true then ta σ H1 Q else tb σ H1 Q
theorem QE {c:Expr}(hc:PT X c tA)(ha:PE X a ta)(hb:PE X b tb):PE X (.IfExp c a b pos) (tIf tA ta tb):=by
 intro pins s σ H Q I h
 refine wpAny_IfExp (thn (hc pins s σ H _ I h) λd s1 ⟨H1,I1,q1⟩=>?_)
 cases d with
 |true=>exact ha pins s1 σ H1 Q I1 q1
 |false=>exact hb pins s1 σ H1 Q I1 q1
end
def SqL (K:PySem.W.Frag)(H:Hp)(a:Addr)(xs:List V):Prop :=
 Rd H a (.lst xs) ∨
  ∃(o:Obj) (its:Array Value) (n:Nat),K.lookup a=some o/\o.cls=.type "list" /\ o.dict=none/\o.data=.seq its n/\its.size<=sizeLine/\Vals xs its.toList
def SqT (K:PySem.W.Frag)(H:Hp)(a:Addr)(xs:List V):Prop :=
 Rd H a (.tup xs) ∨
  ∃(o:Obj) (its:Array Value) (n:Nat),K.lookup a=some o/\o.cls=.type "tuple" /\ o.data=.seq its n/\its.size<=sizeLine/\Vals xs its.toList
def absV:Value->Option V
 |.none=>some .non
 |.bool b=>some (.bl b)
 |.int i _=>some (.int i)
 |.str x _=>some (.str x)
 |.bytes b _=>some (.byt b)
 |.float b _=>some (.flt b)
 |.ref a=>some (.ref a)
 |.type n=>some (.ty n)
 |_=>none
theorem RelV.abs {x:V}{u:Value}(r:RelV x u):absV u=some x:=by
 cases x with
 |non=>cases r;rfl
 |bl _=>cases r;rfl
 |int _=>obtain⟨t,rfl⟩:=r;rfl
 |str _=>obtain⟨t,rfl⟩:=r;rfl
 |byt _=>obtain⟨t,rfl⟩:=r;rfl
 |flt _=>obtain⟨t,rfl⟩:=r;rfl
 |ref _=>cases r;rfl
 |ty _=>cases r;rfl
theorem RelV.inj {x y:V}{u:Value}(r:RelV x u)(q:RelV y u):x=y:=Option.some.inj (r.abs.symm.trans q.abs)
theorem Vals.inj:∀ {xs ys:List V} {us:List Value},Vals xs us->Vals ys us->xs=ys
 |_,_,_,.nil,.nil=>rfl
 |_,_,_,.cons r t,.cons r' t'=>by rw[r.inj r',Vals.inj t t']
section
variable {X:Cx}{pins:List (Addr×Obj)}{σ:St}{H:Hp}{s:Shared}{a:Addr}{xs ys:List V}
theorem SqL.of {K:PySem.W.Frag}(h:H a=some (.lst xs)):SqL K H a xs:=.inl (.inl h)
theorem SqT.of {K:PySem.W.Frag}(h:H a=some (.tup xs)):SqT K H a xs:=.inl (.inl h)
theorem Inv.list (I:Inv X pins σ H s)(h:SqL X.K H a xs):∃its:List Value,Vals xs its/\PlainL s.heap a its.toArray/\xs.length<=sizeLine:=by
 rcases h with h | ⟨o,its,n,hk,hc,hd,hs,hz,r⟩
 ·obtain⟨z,its,n,r,e⟩:=h.ok I.hok
  exact⟨its,r,⟨_,n,e,rfl,rfl,rfl⟩,z⟩
 ·refine⟨its.toList,r,⟨o,n,I.kIn a o hk,hc,hd,by simpa using hs⟩,?_⟩
  have e:=r.length
  simp only[Array.length_toList] at e
  omega
theorem Inv.tuple (I:Inv X pins σ H s)(h:SqT X.K H a xs):∃its:List Value,Vals xs its/\IsTup s.heap a its.toArray/\xs.length<=sizeLine:=by
 rcases h with h | ⟨o,its,n,hk,hc,hs,hz,r⟩
 ·obtain⟨z,its,r,p⟩:=h.ok I.hok
  exact⟨its,r,p,z⟩
 ·refine⟨its.toList,r,⟨o,I.kIn a o hk,hc,n,by simpa using hs⟩,?_⟩
  have e:=r.length
  simp only[Array.length_toList] at e
  omega
theorem Inv.list_inj (I:Inv X pins σ H s)(h:SqL X.K H a xs)(h':SqL X.K H a ys):xs=ys:=by
 obtain⟨its,r,⟨o,n,e,_,_,d⟩,_⟩:=I.list h
 obtain⟨its',r',⟨o',n',e',_,_,d'⟩,_⟩:=I.list h'
 rw[e] at e';cases e'
 rw[d] at d'
 injection d' with d1 _
 have:its=its':=by simpa using congrArg Array.toList d1
 subst this
 exact r.inj r'
end
abbrev Cx.wish (X:Cx)(E:Value->Shared->Prop):Cx:={ X with xe:=E }
abbrev Cx.nox (X:Cx):Cx:=X.wish λ_ _=>False
theorem Cx.Ok.wish {X:Cx}(ok:X.Ok)(E:Value->Shared->Prop):(X.wish E).Ok :=
 ⟨ok.mod,ok.kind,ok.glob,ok.blt,ok.above,ok.inj,ok.has,ok.cab,ok.hd,ok.frames,ok.stk,ok.exf,ok.bs,ok.bsz,ok.noex,ok.exfs,ok.funs,ok.frf⟩
theorem Cx.Ok.unwish {X:Cx}{E:Value->Shared->Prop}(ok:(X.wish E).Ok):X.Ok :=
 ⟨ok.mod,ok.kind,ok.glob,ok.blt,ok.above,ok.inj,ok.has,ok.cab,ok.hd,ok.frames,ok.stk,ok.exf,ok.bs,ok.bsz,ok.noex,ok.exfs,ok.funs,ok.frf⟩
section
variable {X:Cx}{pins:List (Addr×Obj)}{σ:St}{H:Hp}{s:Shared}{E:Value->Shared->Prop}
theorem Inv.wish (I:Inv X pins σ H s)(E:Value->Shared->Prop):Inv (X.wish E) pins σ H s:=⟨I.ok.wish E,I.os,I.bare,I.base,I.loc,I.cell,I.free,I.freeC,I.pin,I.hok,I.len⟩
theorem Inv.unwish (I:Inv (X.wish E) pins σ H s):Inv X pins σ H s:=⟨I.ok.unwish,I.os,I.bare,I.base,I.loc,I.cell,I.free,I.freeC,I.pin,I.hok,I.len⟩
theorem SP.unwish {D:Ends}{f:Flow}{s':Shared}(h:SP (X.wish E) pins D f s'):SP X pins D f s':=by
 cases f with
 |next=>obtain⟨σ',H',I,q⟩:=h;exact⟨σ',H',I.unwish,q⟩
 |brk=>obtain⟨σ',H',I,q⟩:=h;exact⟨σ',H',I.unwish,q⟩
 |cont=>obtain⟨σ',H',I,q⟩:=h;exact⟨σ',H',I.unwish,q⟩
 |ret u=>obtain⟨v,σ',H',I,r,q⟩:=h;exact⟨v,σ',H',I.unwish,r,q⟩
theorem PE.nox {e:Expr}{t:TE}(h:PE X.nox e t):PE X e t:=λpins s σ H Q I hw=>
 wpAny_mono (h pins s σ H Q (I.wish _) hw) (λ_ _ ⟨v,H',I',r,q⟩=>⟨v,H',I'.unwish,r,q⟩) λ_ _ z=>False.elim z
theorem PT.nox {e:Expr}{t:TT}(h:PT X.nox e t):PT X e t:=λpins s σ H Q I hw=>
 wpAny_mono (h pins s σ H Q (I.wish _) hw) (λ_ _ ⟨H',I',q⟩=>⟨H',I'.unwish,q⟩) λ_ _ z=>False.elim z
theorem PSs.nox {st:List Stmt}{t:TS}(h:PSs X.nox st t):PSs X st t:=λpins s σ H D I hw=>
 wpAny_mono (h pins s σ H D (I.wish _) hw) (λ_ _ q=>q.unwish) λ_ _ z=>False.elim z
end
section
variable {X:Cx}{st:Stmt}{rest:List Stmt}{t u:TS}{e:Expr}{te:TE}{pos:Pos}
def tNext:TS:=λD σ H=>D.nx σ H
def tSeq (t u:TS):TS:=λD σ H=>t { D with nx:=u D } σ H
theorem Yx:PSs X [] tNext:=λ_ _ σ H _ I h=>wpAny_execs_nil ⟨σ,H,I,h⟩
theorem y9 (h1:PS X st t)(h2:PSs X rest u):PSs X (st::rest) (tSeq t u):=by
 intro pins s σ H D I h
 refine wpAny_execs_cons (thn (h1 pins s σ H { D with nx:=u D } I h) λf s1 q=>?_)
 cases f with
 |next=>
  obtain⟨σ',H',I',q⟩:=q
  exact h2 pins s1 σ' H' D I' q
 |ret v=>exact q
 |brk=>exact q
 |cont=>exact q
theorem JX (h1:PS X st t):PSs X [st] t:=by
 intro pins s σ H D I h
 refine wpAny_execs_cons (thn (h1 pins s σ H D I h) λf s1 q=>?_)
 cases f with
 |next=>exact wpAny_execs_nil q
 |ret v=>exact q
 |brk=>exact q
 |cont=>exact q
def tBreak:TS:=λD σ H=>D.bk σ H
theorem zes:PS X (.Break pos) tBreak:=λ_ _ σ H _ I h=>wpAny_Break ⟨σ,H,I,h⟩
theorem Inv.quiet {pins:List (Addr×Obj)}{σ:St}{H:Hp}{s:Shared}(I:Inv X pins σ H s):interactive X.env=false:=by simp[interactive,I.ok.kind]
def tDrop (te:TE):TS:=λD σ H=>te σ H λ_ H1=>D.nx σ H1
theorem xC (he:PE X e te)(hs:swapsWith e none pos.line X.env=pure false:=by rfl):PS X (.Expr e pos) (tDrop te):=by
 intro pins s σ H D I h
 exact wpAny_Expr_any (thn (he pins s σ H _ I h) λv s1 ⟨x,H1,I1,r1,q1⟩=>⟨σ,H1,I1,q1⟩) I.quiet hs
def tRet (te:TE):TS:=λD σ H=>te σ H D.rt
theorem wY (he:PE X e te):PS X (.Return (some e) pos) (tRet te):=by
 intro pins s σ H D I h
 exact wpAny_Return_some (thn (he pins s σ H _ I h) λv s1 ⟨x,H1,I1,r1,q1⟩=>⟨x,σ,H1,I1,r1,q1⟩)
def tIfS (c:TT)(t u:TS):TS:=λD σ H=>c σ H λb H1=>if b=true then t D σ H1 else u D σ H1
theorem WM {c:Expr}{a b:List Stmt}{tc:TT}(hc:PT X c tc)(ha:PSs X a t)(hb:PSs X b u):PS X (.If c a b pos) (tIfS tc t u):=by
 intro pins s σ H D I h
 refine wpAny_If (thn (hc pins s σ H _ I h) λd s1 ⟨H1,I1,q1⟩=>?_)
 cases d with
 |true=>exact ha pins s1 σ H1 D I1 q1
 |false=>exact hb pins s1 σ H1 D I1 q1
def tNever:TS:=λ_ _ _=>False
theorem Kj:PS X st tNever:=λ_ _ _ _ _ _ h=>h.elim
end
abbrev TG:=V->St->Hp->(St->Hp->Prop)->Prop
abbrev TGs:=List V->St->Hp->(St->Hp->Prop)->Prop
def PG (X:Cx)(target:Expr)(t:TG):Prop :=
 ∀(pins:List (Addr×Obj)) (s:Shared) (σ:St) (H:Hp) (v:V) (u:Value) (Q:St->Hp->Prop),Inv X pins σ H s->RelV v u->t v σ H Q ->
  wpAny #[4] X.A (assign target X.env u) (λ_ s'=>∃σ' H',Inv X pins σ' H' s'/\Q σ' H') X.xe s
def PGs (X:Cx)(ts:List Expr)(t:TGs):Prop :=
 ∀(pins:List (Addr×Obj)) (s:Shared) (σ:St) (H:Hp) (vs:List V) (us:List Value) (Q:St->Hp->Prop),Inv X pins σ H s->Vals vs us->t vs σ H Q ->
  wpAny #[4] X.A (assignInOrder ((assignEach ts X.env).map (·.2)) us) (λ_ s'=>∃σ' H',Inv X pins σ' H' s'/\Q σ' H') X.xe s
abbrev TSet:=V->V->V->Hp->(Hp->Prop)->Prop
def PSet (X:Cx)(t:TSet):Prop :=
 ∀(pins:List (Addr×Obj)) (s:Shared) (σ:St) (H:Hp) (o i v:V) (ov iv u:Value) (Q:Hp->Prop),Inv X pins σ H s->RelV o ov->RelV i iv->RelV v u->t o i v H Q ->
  wpAny #[4] X.A (setItem ov iv u) (λ_ s'=>∃H',Inv X pins σ H' s'/\Q H') X.xe s
section
variable {X:Cx}{pos:Pos}
def gName (i:Nat):TG:=λv σ H Q=>Q (σ.set i (some v)) H
theorem zk {i:Nat}{x:Str}(hN:X.N.Nodup)(hi:X.N[i]?=some x)(hx:Loc X.env.scope x)(hf:X.fn x=true∨X.env.scope.names.lookup x=some .local:=by first | exact .inl rfl | exact .inr rfl | assumption):PG X (.Name x pos) (gName i):=by
 intro pins s σ H v u Q I r h
 exact wpAny_assign_Name (uu I hN hi hx r (λs' I'=>⟨_,H,I',h⟩) hf)
def gNil:TGs:=λvs σ H Q=>vs=[]/\Q σ H
def gCons (t:TG)(u:TGs):TGs:=λvs σ H Q=>∃v r,vs=v::r/\t v σ H λσ' H'=>u r σ' H' Q
theorem zH:PGs X [] gNil:=by
 intro pins s σ H vs us Q I r h
 obtain⟨e,h⟩:=h
 subst e
 cases r
 exact assignInOrder_nil ⟨σ,H,I,h⟩
theorem zn {e:Expr}{es:List Expr}{t:TG}{u:TGs}(h1:PG X e t)(h2:PGs X es u)
  (hs:(assignEach (e::es) X.env).map (·.2)=assign e X.env::(assignEach es X.env).map (·.2):=by rfl):PGs X (e::es) (gCons t u):=by
 intro pins s σ H vs us Q I r h
 obtain⟨v,vr,e1,h⟩:=h
 subst e1
 cases r with
 |cons r rr=>
  rw[hs]
  refine assignInOrder_cons (thn (h1 pins s σ H _ _ _ I r h) λ_ s1 ⟨σ1,H1,I1,q1⟩=>?_)
  exact h2 pins s1 σ1 H1 _ _ Q I1 rr q1
def gTup (K:PySem.W.Frag)(n:Nat)(t:TGs):TG:=λv σ H Q=>∃a xs,v=.ref a/\SqT K H a xs/\xs.length=n/\t xs σ H Q
theorem zK {es:List Expr}{k:Nat}{t:TGs}{n:Nat}(hc:X.calm=true)(h:PGs X es t)
  (hn:(assignEach es X.env).length=n:=by rfl) (hst:(assignEach es X.env).findIdx? (·.1)=none:=by rfl):PG X (.Tuple es k pos) (gTup X.K n t):=by
 intro pins s σ H v u Q I r hw
 obtain⟨a,xs,e1,hq,hl,hw⟩:=hw
 subst e1
 cases r
 obtain⟨its,rv,ht,hz⟩:=I.tuple hq
 refine assign_Tuple_tuple (I.ok.hd hc) ht (by simp[hn,<-hl,rv.length]) hst λh' hx=>?_
 have I1:Inv X pins σ H { s with heap:=h' }:=I.kept (t':=s.toks) λb o e=>hx b o (Nat.ne_of_lt (Heap.lt_size e)) e
 exact h pins _ σ H xs _ Q I1 (by simpa using rv) hw
def gSub (to ti:TE)(t:TSet):TG:=λv σ H Q=>to σ H λo H1=>ti σ H1 λi H2=>t o i v H2 λH3=>Q σ H3
theorem zbs {o i:Expr}{to ti:TE}{t:TSet}(ho:PE X o to)(hi:PE X i ti)(hs:PSet X t)
  (ha:∀v,assign (.Subscript o i pos) X.env v=(do
   let ov <-holding [v] (eval o X.env)
   let iv <-holding [v,ov] (eval i X.env)
   standAt pos
   holding [v,ov,iv] (setItem ov iv v)
   release [v,ov,iv] []):=by intro _;rfl):PG X (.Subscript o i pos) (gSub to ti t):=by
 intro pins s σ H v u Q I r h
 rw[ha]
 refine wpAny_bind (wpAny_holding (thn (ho pins s σ H _ I h) λov s1 ⟨x,H1,I1,r1,q1⟩=>?_))
 refine wpAny_bind (wpAny_holding (thn (hi pins s1 σ H1 _ I1 q1) λiv s2 ⟨y,H2,I2,r2,q2⟩=>?_))
 refine wpAny_bind (wpAny_standAt (wpAny_bind (wpAny_holding (thn (hs pins s2 σ H2 x y v ov iv u _ I2 r1 r2 r q2) λ_ s3 ⟨H3,I3,q3⟩=>?_))))
 exact wpAny_release ⟨σ,H3,I3,q3⟩
def tAsg (te:TE)(g:TG):TS:=λD σ H=>te σ H λx H1=>g x σ H1 D.nx
theorem uE {tg e:Expr}{te:TE}{g:TG}(he:PE X e te)(hg:PG X tg g)(hs:swapsWithSole [tg] e pos.line X.env=pure false:=by rfl)(hw:swappedStores [tg] e X.env=pure none:=by rfl)
  (h1:(assignEach [tg] X.env).map (·.2)=[assign tg X.env]:=by rfl):PS X (.Assign [tg] e pos) (tAsg te g):=by
 intro pins s σ H D I h
 refine wpAny_Assign_stores (thn (he pins s σ H _ I h) λv s1 ⟨x,H1,I1,r1,q1⟩=>?_) hs hw
 rw[h1]
 exact thn (hg pins s1 σ H1 x v _ I1 r1 q1) λ_ s2 q=>q
theorem vC {i:Nat}{x:Str}{e:Expr}{te:TE}{pos':Pos}(hN:X.N.Nodup)(hi:X.N[i]?=some x)(hx:Loc X.env.scope x)(he:PE X e te)(hs:swapsWith e (some (.Name x pos')) pos.line X.env=pure false:=by rfl)(hf:X.fn x=true∨X.env.scope.names.lookup x=some .local:=by first | exact .inl rfl | exact .inr rfl | assumption) :
  PS X (.Assign [.Name x pos'] e pos) (tAsg te (gName i)):=by
 intro pins s σ H D I h
 refine wpAny_Assign_Name (thn (he pins s σ H _ I h) λv s1 ⟨y,H1,I1,r1,q1⟩=>?_) hs
 exact uu I1 hN hi hx r1 (λs2 I2=>⟨_,H1,I2,q1⟩) hf
end
section
variable {X:Cx}{pos:Pos}
def tWhile (c:TT)(tb:TS):TS:=λD σ H=>∃W:Nat->St->Hp->Prop,(∃m,W m σ H)/\∀m σ H,W m σ H ->
 c σ H λb H1=>if b=true then ∃N:St->Hp->Prop,(∀σ' H',N σ' H'->∃m',m' < m/\W m' σ' H')/\tb { D with nx:=N,ct:=N,bk:=D.nx } σ H1 else D.nx σ H1
theorem US {c:Expr}{body:List Stmt}{tc:TT}{tb:TS}(hp:PassesOwn #[4] X.A X.env X.xe)(hc:PT X c tc)(hb:PSs X body tb):PS X (.While c body [] pos) (tWhile tc tb):=by
 intro pins s σ H D I h
 obtain⟨W,⟨m0,w0⟩,turn⟩:=h
 refine wpAny_While (codeAny_whileLoop (λn s'=>∃σ' H',Inv X pins σ' H' s'/\W n σ' H') ?_ m0 ⟨σ,H,I,w0⟩)
 rintro n s1 ⟨σ1,H1,I1,w1⟩
 refine wpAny_passesOwn hp (thn (hc pins s1 σ1 H1 _ I1 (turn n σ1 H1 w1)) λb s2 ⟨H2,I2,q2⟩=>?_)
 cases b with
 |true=>
  obtain⟨N,hN,q2⟩:=q2
  rw[if_pos rfl]
  refine wpAny_passesOwn hp (thn (hb pins s2 σ1 H2 _ I2 q2) λf s3 q3=>?_)
  cases f with
  |next=>
   obtain⟨σ3,H3,I3,n3⟩:=q3
   obtain⟨m',hm,w3⟩:=hN σ3 H3 n3
   exact⟨m',hm,σ3,H3,I3,w3⟩
  |cont=>
   obtain⟨σ3,H3,I3,n3⟩:=q3
   obtain⟨m',hm,w3⟩:=hN σ3 H3 n3
   exact⟨m',hm,σ3,H3,I3,w3⟩
  |brk=>exact q3
  |ret v=>exact q3
 |false=>
  rw[if_neg Bool.false_ne_true]
  exact wpAny_execs_nil ⟨σ1,H2,I2,q2⟩
end
structure It where
 go:Nat->Hp->Prop
 yld:Nat->Hp->V->Hp->Prop
 stop:Nat->Hp->Prop
def FpOk (X:Cx)(pins:List (Addr×Obj))(H:Hp)(b:Addr):Prop :=
 H b=none/\b≠X.env.locals/\b∉X.fs/\(b∈X.ex∨X.s₀.heap.objs.size<=b)/\(∀x c,X.env.cells.lookup x=some c->c≠b)/\∀p∈X.pn++pins,p.1≠b
theorem Inv.fpOk {X:Cx}{pins:List (Addr×Obj)}{σ:St}{H H':Hp}{s:Shared}{b:Addr}(I:Inv X pins σ H s)(hb:s.heap.objs.size<=b)(hn:H' b=none):FpOk X pins H' b:=by
 refine⟨hn,Nat.ne_of_gt (Nat.lt_of_lt_of_le I.lt hb),I.nofs hb,.inr (Nat.le_trans I.sz hb),λx c e z=>?_,λp hp z=>?_⟩
 ·obtain⟨v,q⟩:=I.cell x c e
  exact absurd (Nat.lt_of_lt_of_le q.lt (by rw[z];exact hb)) (Nat.lt_irrefl _)
 ·exact absurd (Nat.lt_of_lt_of_le (Heap.lt_size (I.pin p hp).1) (by rw[z];exact hb)) (Nat.lt_irrefl _)
structure Turn (P:Program)(w:World)(K:PySem.W.Frag)(tg:Expr)(J:It)(fp:List Addr)(it:Addr)(tn:Nat->Heap->Prop):Prop where
 mem:it∈fp
 obj:∀i h,tn i h->∀b∈fp,∃o,h.get? b=some o/\∀v,o.data≠.cell v
 keep:∀i h h',tn i h->(∀b∈fp,∀o,h.get? b=some o->h'.get? b=some o)->tn i h'
 item:∀(X:Cx),X.prog=P->X.w=w->X.K=K->X.calm=true->∀(i:Nat) (pins:List (Addr×Obj)) (s:Shared) (σ:St) (H:Hp) (E:Value->Shared->Prop),Inv X pins σ H s->(∀b∈fp,FpOk X pins H b)->tn i s.heap->J.go i H ->
  wpAny (model P w) X.A (pyNext (.ref it)) (λr s1=>∃u,r=some u /\
   wpAny (model P w) X.A (letOwnedTupleGo tg (.ref it) u) (λ_ s2=>∃x H',Inv X pins σ H' s2/\RelV x u/\J.yld i H x H'/\tn (i+1) s2.heap/\∀b∈fp,H' b=none) E s1) E s
 done:∀(X:Cx),X.prog=P->X.w=w->X.K=K->X.calm=true->∀(i:Nat) (pins:List (Addr×Obj)) (s:Shared) (σ:St) (H:Hp) (E:Value->Shared->Prop),Inv X pins σ H s->(∀b∈fp,FpOk X pins H b)->tn i s.heap->J.stop i H ->
  wpAny (model P w) X.A (pyNext (.ref it)) (λr s1=>r=none/\Inv X pins σ H s1) E s
 self:∀(A:Around) (i:Nat) (s:Shared) (Q:Value->Shared->Prop) (E:Value->Shared->Prop),tn i s.heap->Q (.ref it) s->wpAny (model P w) A (pyIter (.ref it)) Q E s
abbrev TI:=St->Hp->(It->Hp->Prop)->Prop
def PIE (X:Cx)(pins:List (Addr×Obj))(σ:St)(tg:Expr)(R:It->Hp->Prop)(itv:Value)(s2:Shared):Prop :=
 ∃(it:Addr) (fp:List Addr) (tn:Nat->Heap->Prop) (J:It) (H':Hp),itv=.ref it/\Inv X pins σ H' s2/\Turn X.prog X.w X.K tg J fp it tn/\tn 0 s2.heap/\(∀b∈fp,FpOk X pins H' b)/\R J H'
def PI (X:Cx)(tg iter:Expr)(wi:TI):Prop :=
 ∀(pins:List (Addr×Obj)) (s:Shared) (σ:St) (H:Hp) (R:It->Hp->Prop),Inv X pins σ H s->wi σ H R ->
  wpAny #[4] X.A (eval iter X.env) (λv s1=>wpAny #[4] X.A (pyIter v) (PIE X pins σ tg R) X.xe s1) X.xe s
theorem Z2 {M:Model}{A:Around}{E:Value->Shared->Prop}{s:Shared}{tg:Expr}{it:Addr}{u:Value}{o:Obj}{n:String}{vs:Array Value}{Q:Unit->Shared->Prop}(ho:s.heap.get? it=some o)(hc:o.cls=.type n)(hd:o.data=.fields vs)
    (hn:["enumerate","zip","dict_itemiterator","dict_reverseitemiterator","odict_iterator","itertools.zip_longest","itertools.pairwise"].contains n=false) (hQ:Q () s):wpAny M A (letOwnedTupleGo tg (.ref it) u) Q E s:=by
  unfold letOwnedTupleGo
  cases tg<;>first
    |exact wpAny_pure hQ
    | (cases u<;>first
        |exact wpAny_pure hQ
        | (refine wpAny_bind (wpAny_load ho ?_)
           rw[hc,hd]
           show wpAny M A (if (["enumerate","zip","dict_itemiterator","dict_reverseitemiterator","odict_iterator","itertools.zip_longest","itertools.pairwise"].contains n&&vs[0]?==some (rawInt _))=true then _ else _) Q E s
           rw[if_neg (by intro h;rw[hn,Bool.false_and] at h;cases h)]
           exact wpAny_pure hQ))
def Itl (K:PySem.W.Frag)(a:Addr):It :=
 ⟨λi H=>∃xs x,SqL K H a xs/\xs[i]?=some x,λi H x H'=>H'=H/\∀xs,SqL K H a xs->xs[i]?=some x,λi H=>∃xs,SqL K H a xs/\xs.length<=i⟩
def Itr (lo:Int)(n:Nat):It:=⟨λi _=>i < n,λi H x H'=>H'=H/\x=.int (lo+i),λi _=>n<=i⟩
theorem Gh {P:Program}{w:World}{K:PySem.W.Frag}{tg:Expr}(a it:Addr):Turn P w K tg (Itl K a) [it] it (λi h=>h.IsListIter it a i) where
 mem:=by simp
 obj:=λi h st b hb=>by
  have e:b=it:=by simpa using hb
  subst e
  obtain⟨o,e,c,d⟩:=st
  exact⟨o,e,λv z=>by rw[d] at z;cases z⟩
 keep:=λi h h' st k=>st.at λo e=>k it (by simp) o e
 item:=by
  intro X hP hw hK hc i pins s σ H E I hf st hg
  subst hP hw hK
  obtain⟨xs,x,hq,hx⟩:=hg
  obtain⟨its,rv,p,hz⟩:=I.list hq
  obtain⟨u,hu,ru⟩:=rv.get hx
  obtain⟨f0,f1,f2,f3,f4,f5⟩:=hf it (by simp)
  refine wpAny_pyNext_list_item st p.isList (x:=u) (by simpa using hu) λh' st' sb=>?_
  have I1:Inv X pins σ H { s with heap:=h' }:=I.turned (t':=s.toks) (λb o hb e=>(sb.2 b hb).trans e) f0 f1 f3 f4 f5
  obtain⟨o,e,c,d⟩:=id st'
  exact⟨u,rfl,Z2 (s:={ s with heap:=h' }) e c d (by decide) ⟨x,H,I1,ru,⟨rfl,λys hy=>by rw[I.list_inj hy hq];exact hx⟩,st',λb hb=>(hf b hb).1⟩⟩
 done:=by
  intro X hP hw hK hc i pins s σ H E I hf st hg
  subst hP hw hK
  obtain⟨xs,hq,hx⟩:=hg
  obtain⟨its,rv,p,hz⟩:=I.list hq
  obtain⟨f0,f1,f2,f3,f4,f5⟩:=hf it (by simp)
  have hl:=rv.length
  exact wpAny_pyNext_list_end (I.ok.hd hc) st p.isList (by simp;omega) λh' eb=>⟨rfl,I.turned (t':=s.toks) (λb o hb e=>eb b o hb e) f0 f1 f3 f4 f5⟩
 self:=λ_ _ _ _ _ st h=>wpAny_pyIter_listiter st h
theorem G3 {P:Program}{w:World}{K:PySem.W.Frag}{tg:Expr}(it:Addr)(lo:Int)(n:Nat):Turn P w K tg (Itr lo n) [it] it (λi h=>IsRangeIter h it (lo+(i:Nat) * 1) ((n:Int) - (i:Nat)) 1) where
 mem:=by simp
 obj:=λi h st b hb=>by
  have e:b=it:=by simpa using hb
  subst e
  exact⟨_,st,λv z=>by
   have z':Data.fields _=Data.cell v:=z
   cases z'⟩
 keep:=λi h h' st k=>k it (by simp) _ st
 item:=by
  intro X hP hw hK hc i pins s σ H E I hf st hg
  subst hP hw hK
  obtain⟨f0,f1,f2,f3,f4,f5⟩:=hf it (by simp)
  have W:=Walks.range (prog:=X.prog) (w:=X.w) (I.ok.hd hc) it lo 1 n
  refine W.item i s _ _ hg st λv h' tk hv st' kk=>?_
  obtain⟨t,rfl⟩:=hv
  have I1:Inv X pins σ H { s with heap:=h',toks:=tk }:=I.turned (λb o hb e=>kk b o (by simpa using hb) e) f0 f1 f3 f4 f5
  refine⟨_,rfl,Z2 (s:={ s with heap:=h',toks:=tk }) (n := "range_iterator") st' rfl rfl (by decide) ⟨.int (lo+i),H,I1,⟨t,?_⟩,⟨rfl,rfl⟩,st',λb hb=>(hf b hb).1⟩⟩
  rw[Int.mul_one]
 done:=by
  intro X hP hw hK hc i pins s σ H E I hf st hg
  subst hP hw hK
  obtain⟨f0,f1,f2,f3,f4,f5⟩:=hf it (by simp)
  exact wpAny_pyNext_range_end (I.ok.hd hc) st (by have:n<=i:=hg;omega) λh' eb=>⟨rfl,I.turned (t':=s.toks) (λb o hb e=>eb b o hb e) f0 f1 f3 f4 f5⟩
 self:=λ_ _ _ _ _ st h=>wpAny_pyIter_rangeiter st h
section
variable {X:Cx}{tg:Expr}
def iList (K:PySem.W.Frag)(tl:TE):TI:=λσ H R=>tl σ H λx H1=>∃a,x=.ref a/\(∃xs,SqL K H1 a xs)/\R (Itl K a) H1
theorem K8 {l:Expr}{tl:TE}(hl:PE X l tl):PI X tg l (iList X.K tl):=by
 intro pins s σ H R I h
 refine thn (hl pins s σ H _ I h) λv s1 ⟨x,H1,I1,r1,q1⟩=>?_
 obtain⟨a,e,⟨xs,hq⟩,q⟩:=q1
 subst e
 cases r1
 obtain⟨its,rv,p,hz⟩:=I1.list hq
 refine wpAny_pyIter_list p.isList ?_
 refine⟨s1.heap.objs.size,[s1.heap.objs.size],_,_,H1,rfl,I1.kept (t':=s1.toks) λb o e=>Heap.get?_push_of_some _ e,Gh a _,⟨_,Heap.get?_push_size _ rfl,rfl,rfl⟩,λb hb=>?_,q⟩
 have e:b=s1.heap.objs.size:=by simpa using hb
 subst e
 exact I1.fpOk (Nat.le_refl _) (I1.hok.fresh (Nat.le_refl _))
theorem JE {pins:List (Addr×Obj)}{σ:St}{H:Hp}{s:Shared}{R:It->Hp->Prop}{E:Value->Shared->Prop}{lo hi:Int}{t u v:Tok}{tk:Nat}(I:Inv X pins σ H s)(h1:-(2 ^ 62)<=lo)(h2:lo < 2 ^ 62)(h3:-(2 ^ 62)<=hi)(h4:hi < 2 ^ 62)
  (q:R (Itr lo (hi - lo).toNat) H):wpAny #[4] X.A (pyIter (.ref s.heap.objs.size)) (PIE X pins σ tg R) E { s with heap:=s.heap.push { cls:=.type "range",data:=.fields #[.int lo t,.int hi u,.int 1 v] },toks:=tk }:=by
 refine wpAny_pyIter_range (IsRange.new ..) (small_one h1 h2 h3 h4) ?_
 have I1:Inv X pins σ H { s with heap:=s.heap.push { cls:=.type "range",data:=.fields #[.int lo t,.int hi u,.int 1 v] },toks:=tk }:=I.kept λb o e=>Heap.get?_push_of_some _ e
 refine⟨(s.heap.push { cls:=.type "range",data:=.fields #[.int lo t,.int hi u,.int 1 v] }).objs.size,[(s.heap.push { cls:=.type "range",data:=.fields #[.int lo t,.int hi u,.int 1 v] }).objs.size],_,_,H,rfl,
  I1.kept (t':=tk) λb o e=>Heap.get?_push_of_some _ e,G3 _ lo (hi - lo).toNat,?_,λb hb=>?_,q⟩
 ·have e1:lo+((0:Nat):Int) * 1=lo:=by simp
  have e2:(((hi - lo).toNat:Nat):Int) - ((0:Nat):Int)=Builtin.Range.rangeSize lo hi 1:=by rw[rangeSize_one];split<;>omega
  show IsRangeIter _ _ (lo+((0:Nat):Int) * 1) ((((hi - lo).toNat:Nat):Int) - ((0:Nat):Int)) 1
  rw[e1,e2]
  exact Heap.get?_push_size _ rfl
 ·have e:b=(s.heap.push { cls:=.type "range",data:=.fields #[.int lo t,.int hi u,.int 1 v] }).objs.size:=by simpa using hb
  subst e
  exact I1.fpOk (Nat.le_refl _) (I1.hok.fresh (Nat.le_refl _))
def iRng1 (ta:TA):TI:=λσ H R=>ta σ H λvs H1=>∃j:Int,vs=[.int j]/\-(2 ^ 62)<=j/\j < 2 ^ 62/\R (Itr 0 j.toNat) H1
def iRng2 (ta:TA):TI:=λσ H R=>ta σ H λvs H1=>∃i j:Int,vs=[.int i,.int j]/\(-(2 ^ 62)<=i/\i < 2 ^ 62/\-(2 ^ 62)<=j/\j < 2 ^ 62)/\R (Itr i (j - i).toNat) H1
theorem QW {a:Expr}{ta:TA}{p pos:Pos}(hg:Gl X "range") (hm:X.mg "range" = none) (ha:PA X [a] ta) (hs:starEach [a] X.env=[(false,eval a X.env)]:=by rfl):PI X tg (.Call (.Name "range" p) [a] [] pos) (iRng1 ta):=by
 intro pins s σ H R I h
 refine Call_ (vq I hg hm boot_range (PyProof.Rows.callWith_type1 (thn (ha pos pins s σ H _ I h) λus s1 ⟨vs,H1,I1,r1,q1⟩=>?_) hs rfl))
 obtain⟨j,e,q1,q2,q⟩:=q1
 subst e
 cases r1 with
 |cons r rr=>
  cases rr
  obtain⟨t,rfl⟩:=r
  exact call_range_1 (JE I1 #[1] #[1] q1 q2 (by simpa using q))
theorem GF {a b:Expr}{ta:TA}{p pos:Pos}(hg:Gl X "range") (hm:X.mg "range" = none) (ha:PA X [a,b] ta) (hs:starEach [a,b] X.env=[(false,eval a X.env),(false,eval b X.env)]:=by rfl) (hs2:starEach [b] X.env=[(false,eval b X.env)]:=by rfl) :
  PI X tg (.Call (.Name "range" p) [a,b] [] pos) (iRng2 ta):=by
 intro pins s σ H R I h
 refine Call_ (vq I hg hm boot_range (PyProof.Rows.callWith_type1 (thn (ha pos pins s σ H _ I h) λus s1 ⟨vs,H1,I1,r1,q1⟩=>?_) (by rw[hs,hs2]) (by rw[hs2];rfl)))
 obtain⟨i,j,e,⟨q1,q2,q3,q4⟩,q⟩:=q1
 subst e
 cases r1 with
 |cons r rr=>
  cases rr with
  |cons r' rr=>
   cases rr
   obtain⟨t,rfl⟩:=r
   obtain⟨t',rfl⟩:=r'
   exact call_range_2 (JE I1 q1 q2 q3 q4 q)
def tFor (wi:TI)(g:TG)(tb:TS):TS:=λD σ H=>wi σ H λJ H1=>∃W:Nat->Nat->St->Hp->Prop,(∃m,W 0 m σ H1)/\∀i m σ H,W i m σ H ->
 (J.stop i H/\D.nx σ H)∨(J.go i H/\∃N:St->Hp->Prop,(∀σ' H',N σ' H'->∃m',m' < m/\W (i+1) m' σ' H')/\∀x H',J.yld i H x H'->g x σ H' λσ2 H2=>tb { D with nx:=N,ct:=N,bk:=D.nx } σ2 H2)
def pinsAt (fp:List Addr)(h:Heap):List (Addr×Obj):=fp.filterMap λb=>(h.get? b).map λo=>(b,o)
theorem wn {fp:List Addr}{h:Heap}{b:Addr}{o:Obj}(hb:b∈fp)(e:h.get? b=some o):(b,o)∈pinsAt fp h:=List.mem_filterMap.mpr ⟨b,hb,by rw[e];rfl⟩
theorem ut {fp:List Addr}{h:Heap}{p:Addr×Obj}(hp:p∈pinsAt fp h):p.1∈fp/\h.get? p.1=some p.2:=by
 obtain⟨b,hb,e⟩:=List.mem_filterMap.mp hp
 cases q:h.get? b with
 |none=>rw[q] at e;cases e
 |some o=>
  rw[q] at e
  have e':(b,o)=p:=Option.some.inj e
  subst e'
  exact⟨hb,q⟩
theorem Inv.pinned {pins:List (Addr×Obj)}{σ:St}{H:Hp}{s:Shared}{fp:List Addr}(I:Inv X pins σ H s)(hf:∀b∈fp,FpOk X pins H b)(ho:∀b∈fp,∃o,s.heap.get? b=some o/\∀v,o.data≠.cell v):Inv X (pins++pinsAt fp s.heap) σ H s :=
 I.pins_of λp hp=>(List.mem_append.mp hp).elim (λz=>I.pin p (List.mem_append_right _ z)) λz=>by
  obtain⟨hb,e⟩:=ut z
  obtain⟨f0,f1,f2,_⟩:=hf p.1 hb
  obtain⟨o,e',d⟩:=ho p.1 hb
  rw[e] at e';cases e'
  exact⟨e,f0,f1,f2,d⟩
theorem Inv.unpinned {pins pl:List (Addr×Obj)}{σ:St}{H:Hp}{s:Shared}(I:Inv X (pins++pl) σ H s):Inv X pins σ H s:=I.pins_of λp hp=>I.pin p (List.mem_append_right _ (List.mem_append_left _ hp))
theorem zar {iter:Expr}{body:List Stmt}{wi:TI}{g:TG}{tb:TS}{pos:Pos}(hp:PassesOwn #[4] X.A X.env X.xe)(hc:X.calm=true)(hi:PI X tg iter wi)(hg:PG X tg g)(hb:PSs X body tb)
  (hs:∀x,foldedSetIterable iter X.env x=pure x:=by intro _;rfl):PS X (.For tg iter body [] pos) (tFor wi g tb):=by
 intro pins s σ H D I h
 refine wpAny_For (thn (hi pins s σ H _ I h) λv s1 h1=>thn h1 λitv s2 h2=>?_) hs
 obtain⟨it,fp,tn,J,H2,e,I2,T,st2,f2,W,⟨m0,w0⟩,turn⟩:=h2
 subst e
 have stat:∀ {H':Hp},(∀b∈fp,H' b=none)->∀b∈fp,FpOk X pins H' b:=λhn b hb=>⟨hn b hb,(f2 b hb).2⟩
 refine codeAny_forLoop_any (λn s'=>∃i σ' H',Inv X pins σ' H' s'/\tn i s'.heap/\(∀b∈fp,H' b=none)/\W i n σ' H') ?_ m0 ⟨0,σ,H2,I2,st2,λb hb=>(f2 b hb).1,w0⟩
 rintro n s3 ⟨i,σ3,H3,I3,st3,fr3,w3⟩
 rcases turn i n σ3 H3 w3 with⟨stop,qn⟩ | ⟨go,N,hN,step⟩
 ·refine wpAny_passesOwn hp (thn (T.done X rfl rfl rfl hc i pins s3 σ3 H3 X.xe I3 (stat fr3) st3 stop) λr s4 ⟨hr,I4⟩=>?_)
  subst hr
  exact wpAny_execs_nil ⟨σ3,H3,I4,qn⟩
 ·refine wpAny_passesOwn hp (thn (T.item X rfl rfl rfl hc i pins s3 σ3 H3 X.xe I3 (stat fr3) st3 go) λr s4 ⟨u,hr,h4⟩=>?_)
  subst hr
  refine wpAny_passesOwn hp (thn h4 λ_ s5 ⟨x,H5,I5,r5,y5,st5,fr5⟩=>?_)
  have I5':=I5.pinned (stat fr5) (T.obj _ _ st5)
  refine wpAny_passesOwn hp (thn (hg _ s5 σ3 H5 x u _ I5' r5 (step x H5 y5)) λ_ s6 ⟨σ6,H6,I6,q6⟩=>?_)
  refine wpAny_passesOwn hp (thn (hb _ s6 σ6 H6 _ I6 q6) λf s7 q7=>?_)
  have again:∀ {σ7:St} {H7:Hp},Inv X (pins++pinsAt fp s5.heap) σ7 H7 s7->N σ7 H7->∃m,m < n/\∃i σ' H',Inv X pins σ' H' s7/\tn i s7.heap/\(∀b∈fp,H' b=none)/\W i m σ' H':=fun {σ7 H7} I7 n7=>by
   obtain⟨m',hm,w7⟩:=hN σ7 H7 n7
   refine⟨m',hm,i+1,σ7,H7,I7.unpinned,T.keep _ _ _ st5 λb hb o e=>(I7.pin (b,o) (List.mem_append_right _ (List.mem_append_right _ (wn hb e)))).1,λb hb=>?_,w7⟩
   obtain⟨o,e,d⟩:=T.obj _ _ st5 b hb
   exact (I7.pin (b,o) (List.mem_append_right _ (List.mem_append_right _ (wn hb e)))).2.1
  cases f with
  |next=>obtain⟨σ7,H7,I7,n7⟩:=q7;exact again I7 n7
  |cont=>obtain⟨σ7,H7,I7,n7⟩:=q7;exact again I7 n7
  |brk=>obtain⟨σ7,H7,I7,q7⟩:=q7;exact⟨σ7,H7,I7.unpinned,q7⟩
  |ret v=>obtain⟨x7,σ7,H7,I7,r7,q7⟩:=q7;exact⟨x7,σ7,H7,I7.unpinned,r7,q7⟩
end
abbrev R2:=V->V->Hp->VK->Prop
def OpR (X:Cx)(f:Value->Value->Sem Value)(r:R2):Prop :=
 ∀(pins:List (Addr×Obj)) (s:Shared) (σ:St) (H:Hp) (x y:V) (v u:Value) (Q:VK),Inv X pins σ H s->RelV x v->RelV y u->r x y H Q ->
  wpAny #[4] X.A (f v u) (EP X pins σ Q) X.xe s
def UnR (X:Cx)(f:Value->Sem Value)(r:V->Hp->VK->Prop):Prop :=
 ∀(pins:List (Addr×Obj)) (s:Shared) (σ:St) (H:Hp) (x:V) (v:Value) (Q:VK),Inv X pins σ H s->RelV x v->r x H Q ->
  wpAny #[4] X.A (f v) (EP X pins σ Q) X.xe s
def CallR (X:Cx)(f:Value)(r:List V->Hp->VK->Prop):Prop :=
 ∀(pins:List (Addr×Obj)) (s:Shared) (σ:St) (H:Hp) (xs:List V) (us:List Value) (Q:VK),Inv X pins σ H s->Vals xs us->r xs H Q ->
  wpAny #[4] X.A (call f us) (EP X pins σ Q) X.xe s
def TruR (X:Cx)(r:V->Hp->(Bool->Hp->Prop)->Prop):Prop :=
 ∀(pins:List (Addr×Obj)) (s:Shared) (σ:St) (H:Hp) (x:V) (v:Value) (Q:Bool->Hp->Prop),Inv X pins σ H s->RelV x v->r x H Q ->
  wpAny #[4] X.A (truthy v) (TP X pins σ Q) X.xe s
def tOp (r:R2)(ta tb:TE):TE:=λσ H Q=>ta σ H λx H1=>tb σ H1 λy H2=>r x y H2 Q
def tUn (r:V->Hp->VK->Prop)(ta:TE):TE:=λσ H Q=>ta σ H λx H1=>r x H1 Q
def rI (C:Int->Int->Prop)(g:Int->Int->V):R2:=λx y H Q=>∃i j,x=.int i/\y=.int j/\C i j/\Q (g i j) H
def rI0 (g:Int->Int->V):R2:=λx y H Q=>∃i j,x=.int i/\y=.int j/\Q (g i j) H
def rU (g:Int->V):V->Hp->VK->Prop:=λx H Q=>∃i,x=.int i/\Q (g i) H
section
variable {X:Cx}{a b c:Expr}{ta tb tc:TE}{pos:Pos}
theorem binT (ha:PE X a ta)(hb:PE X b tb){pins:List (Addr×Obj)}{s:Shared}{σ:St}{H:Hp}{R:V->V->Hp->Prop}(I:Inv X pins σ H s)
  (h:ta σ H λx H1=>tb σ H1 λy H2=>R x y H2) {Q:Value->Shared->Prop} {f:Value->Value->Sem Value}
  (hf:∀v u s2 x y H2,Inv X pins σ H2 s2->RelV x v->RelV y u->R x y H2->wpAny #[4] X.A (f v u) Q X.xe s2) :
  wpAny #[4] X.A (eval a X.env) (λv s₁=>wpAny #[4] X.A (eval b X.env) (λu s₂=>wpAny #[4] X.A (f v u) Q X.xe s₂) X.xe s₁) X.xe s:=by
 refine thn (ha pins s σ H _ I h) λv s1 ⟨x,H1,I1,r1,q1⟩=>?_
 refine thn (hb pins s1 σ H1 _ I1 q1) λu s2 ⟨y,H2,I2,r2,q2⟩=>?_
 exact hf v u s2 x y H2 I2 r1 r2 q2
theorem Qv {op:Operator}{r:R2}(ho:OpR X (binaryOp op) r)(ha:PE X a ta)(hb:PE X b tb):PE X (.BinOp a op b pos) (tOp r ta tb):=by
 intro pins s σ H Q I h
 exact wpAny_BinOp (binT ha hb I h λv u s2 x y H2 I2 rx ry q=>ho pins s2 σ H2 x y v u Q I2 rx ry q)
theorem zcx {op:UnaryOp}{r:V->Hp->VK->Prop}(ho:UnR X (unaryOp op) r)(ha:PE X a ta):PE X (.UnaryOp op a pos) (tUn r ta):=by
 intro pins s σ H Q I h
 exact UnaryOp_ (thn (ha pins s σ H _ I h) λv s1 ⟨x,H1,I1,r1,q1⟩=>ho pins s1 σ H1 x v Q I1 r1 q1)
theorem opI {f:Value->Value->Sem Value}{C:Int->Int->Prop}{g:Int->Int->Int}
  (rule:∀(i j:Int) (t u:Tok) (s:Shared) (Q:Value->Shared->Prop) (E:Value->Shared->Prop),C i j->Q (.int (g i j) s.toks) { s with toks:=s.toks+1 }->wpAny #[4] X.A (f (.int i t) (.int j u)) Q E s) :
  OpR X f (rI C λi j=>.int (g i j)):=by
 intro pins s σ H x y v u Q I rx ry h
 obtain⟨i,j,rfl,rfl,hc,q⟩:=h
 obtain⟨t,rfl⟩:=rx
 obtain⟨t',rfl⟩:=ry
 exact rule i j t t' s _ _ hc ⟨.int (g i j),H,I.tok _,⟨_,rfl⟩,q⟩
theorem opI0 {f:Value->Value->Sem Value}{g:Int->Int->Int}
  (rule:∀(i j:Int) (t u:Tok) (s:Shared) (Q:Value->Shared->Prop) (E:Value->Shared->Prop),Q (.int (g i j) s.toks) { s with toks:=s.toks+1 }->wpAny #[4] X.A (f (.int i t) (.int j u)) Q E s) :
  OpR X f (rI0 λi j=>.int (g i j)):=by
 intro pins s σ H x y v u Q I rx ry h
 obtain⟨i,j,rfl,rfl,q⟩:=h
 obtain⟨t,rfl⟩:=rx
 obtain⟨t',rfl⟩:=ry
 exact rule i j t t' s _ _ ⟨.int (g i j),H,I.tok _,⟨_,rfl⟩,q⟩
theorem opB0 {f:Value->Value->Sem Value}{g:Int->Int->Bool}
  (rule:∀(i j:Int) (t u:Tok) (s:Shared) (Q:Value->Shared->Prop) (E:Value->Shared->Prop),Q (.bool (g i j)) s->wpAny #[4] X.A (f (.int i t) (.int j u)) Q E s) :
  OpR X f (rI0 λi j=>.bl (g i j)):=by
 intro pins s σ H x y v u Q I rx ry h
 obtain⟨i,j,rfl,rfl,q⟩:=h
 obtain⟨t,rfl⟩:=rx
 obtain⟨t',rfl⟩:=ry
 exact rule i j t t' s _ _ ⟨.bl (g i j),H,I,rfl,q⟩
def CDiv (i j:Int):Prop:=0 < j/\j < 1073741824
def CMul (i j:Int):Prop:=(-(2 ^ 64) < i/\i < 2 ^ 64)∨(-(2 ^ 64) < j/\j < 2 ^ 64)
theorem CMul.ok {i j:Int}(h:CMul i j):IntMulOk i j:=by
 rcases h with⟨h1,h2⟩ | ⟨h1,h2⟩
 ·exact .of_left (intBits_le_64 h1 h2)
 ·exact .of_right (intBits_le_64 h1 h2)
theorem Ux (k:Nat):(0:Int)<=2 ^ k:=by
 rw[two_pow_cast]
 exact Int.natCast_nonneg _
theorem op_add:OpR X (binaryOp .Add) (rI0 λi j=>.int (i+j)):=opI0 λ_ _ _ _ _ _ _ q=>add_int q
theorem Ku:OpR X (binaryOp .Sub) (rI0 λi j=>.int (i - j)):=opI0 λ_ _ _ _ _ _ _ q=>sub_int q
theorem zdf:OpR X (binaryOp .Mult) (rI CMul λi j=>.int (i * j)):=opI λ_ _ _ _ _ _ _ hc q=>mul_int q hc.ok
theorem zc5:OpR X (binaryOp .FloorDiv) (rI CDiv λi j=>.int (i / j)):=opI λi j _ _ _ _ _ hc q=>by
 have h1:(0:Int) < j:=hc.1
 have h2:j < 1073741824:=hc.2
 exact floordiv_int #[1] (by rw[Int.fdiv_eq_ediv_of_nonneg i #[1]];exact q) (.inl (PyProof.noPylong_small #[1]))
theorem Uz:OpR X (binaryOp .Mod) (rI (λ_ j=>0 < j) λi j=>.int (i % j)):=opI λi j _ _ _ _ _ hc q=>by
 have h1:(0:Int) < j:=hc
 exact mod_int' #[1] (by rw[Int.fmod_eq_emod_of_nonneg i #[1]];exact q)
theorem KU:OpR X (binaryOp .RShift) (rI (λ_ j=>0<=j) λi j=>.int (i / 2 ^ j.toNat)):=opI λi j _ _ _ _ _ hc q=>
 rshift_int hc (by rw[Int.fdiv_eq_ediv_of_nonneg i (Ux _)];exact q)
theorem GM:OpR X (binaryOp .BitAnd) (rI0 λi j=>.int (Builtin.bitAnd i j)):=opI0 λ_ _ _ _ _ _ _ q=>and_int q
theorem unI {f:Value->Sem Value}{g:Int->Int}
  (rule:∀(i:Int) (t:Tok) (s:Shared) (Q:Value->Shared->Prop) (E:Value->Shared->Prop),Q (.int (g i) s.toks) { s with toks:=s.toks+1 }->wpAny #[4] X.A (f (.int i t)) Q E s) :
  UnR X f (rU λi=>.int (g i)):=by
 intro pins s σ H x v Q I rx h
 obtain⟨i,rfl,q⟩:=h
 obtain⟨t,rfl⟩:=rx
 exact rule i t s _ _ ⟨.int (g i),H,I.tok _,⟨_,rfl⟩,q⟩
theorem zag:UnR X (unaryOp .USub) (rU λi=>.int (-i)):=unI λ_ _ _ _ _ q=>neg_int q
end
def scal:V->V->Bool
 |.non,.non=>true | .non,.int _=>true | .int _,.non=>true | .non,.bl _=>true | .bl _,.non=>true | .non,.str _=>true | .str _,.non=>true
 |.int _,.int _=>true | .bl _,.bl _=>true | .str _,.str _=>true | .byt _,.byt _=>true
 |.int _,.str _=>true | .str _,.int _=>true | .bl _,.str _=>true | .str _,.bl _=>true
 |_,_=>false
section
variable {X:Cx}{a b c:Expr}{ta tb tc:TE}{pos:Pos}
theorem YC {pins:List (Addr×Obj)}{σ:St}{H:Hp}{s:Shared}{Q:VK}{k k':Bool}(I:Inv X pins σ H s)(q:Q (.bl k) H)(e:k=k'):EP X pins σ Q (.bool k') s:=by
 subst e
 exact⟨.bl k,H,I,rfl,q⟩
theorem v2:OpR X (compareOp .Lt) (rI0 λi j=>.bl (decide (i < j))):=opB0 λ_ _ _ _ _ _ _ q=>lt_int q
theorem wE:OpR X (compareOp .LtE) (rI0 λi j=>.bl (decide (i<=j))):=opB0 λ_ _ _ _ _ _ _ q=>le_int q
theorem wJ:OpR X (compareOp .Gt) (rI0 λi j=>.bl (decide (j < i))):=opB0 λ_ _ _ _ _ _ _ q=>gt_int q
theorem Rs:OpR X (compareOp .In) (λx y H Q=>∃i j,x=.str i/\y=.str j/\Q (.bl (!(Builtin.Str.occurrences j i 0 j.length 1).isEmpty)) H):=by
 intro pins s σ H x y v u Q I rx ry h
 obtain⟨i,j,rfl,rfl,q⟩:=h
 obtain⟨t,rfl⟩:=rx
 obtain⟨t',rfl⟩:=ry
 exact in_str (YC I q rfl)
theorem VC:OpR X (compareOp .Is) (λx y H Q=>y=.non/\Q (.bl (decide (x=.non))) H):=by
 intro pins s σ H x y v u Q I rx ry h
 obtain⟨rfl,q⟩:=h
 cases ry
 refine is_none_gen (YC I q ?_)
 cases x<;>first
  | (cases rx;rfl)
  | (obtain⟨t,rfl⟩:=rx;rfl)
theorem OpR.or {f:Value->Value->Sem Value}{r r':R2}(h:OpR X f r)(h':OpR X f r'):OpR X f (λx y H Q=>r x y H Q∨r' x y H Q):=by
 intro pins s σ H x y v u Q I rx ry q
 rcases q with q | q
 ·exact h pins s σ H x y v u Q I rx ry q
 ·exact h' pins s σ H x y v u Q I rx ry q
theorem nomark (b:Expr){op:CmpOp}(h:op≠.In:=by decide)(h2:op≠.NotIn:=by decide):behindInMarks op b=false:=by
 have e1:(op==CmpOp.In)=false:=by cases op<;>first | rfl | exact absurd rfl h
 have e2:(op==CmpOp.NotIn)=false:=by cases op<;>first | rfl | exact absurd rfl h2
 cases b<;>simp[behindInMarks,e1,e2]
theorem Ua {op:CmpOp}{r:R2}(ho:OpR X (compareOp op) r)(ha:PE X a ta)(hb:PE X b tb)(hm:behindInMarks op b=false):PE X (.Compare a [op] [b] pos) (tOp r ta tb):=by
 intro pins s σ H Q I h
 exact wpAny_Compare1 (binT ha hb I h λv u s2 x y H2 I2 rx ry q=>ho pins s2 σ H2 x y v u Q I2 rx ry q) hm
def tTest (t:TE):TT:=λσ H Q=>t σ H λx H'=>∃k,x=.bl k/\Q k H'
theorem R8 {op:CmpOp}{r:R2}(ho:OpR X (compareOp op) r)(ha:PE X a ta)(hb:PE X b tb)(hm:behindInMarks op b=false):PT X (.Compare a [op] [b] pos) (tTest (tOp r ta tb)):=by
 intro pins s σ H Q I h
 refine wpAny_isTrue_Compare1 (thn (ha pins s σ H _ I h) λv s1 ⟨x,H1,I1,r1,q1⟩=>thn (hb pins s1 σ H1 _ I1 q1) λu s2 ⟨y,H2,I2,r2,q2⟩=>
  thn (ho pins s2 σ H2 x y v u _ I2 r1 r2 q2) λc s3 ⟨z,H3,I3,r3,k,e,q3⟩=>?_) hm
 subst e
 cases r3
 exact wpAny_truthy_bool ⟨H3,I3,q3⟩
def tChain (r r':R2)(ta tb tc:TE):TE:=λσ H Q=>ta σ H λx H1=>tb σ H1 λy H2=>r x y H2 λz H3=>∃k,z=.bl k /\
 (if k=true then tc σ H3 λw' H4=>r' y w' H4 Q else Q (.bl false) H3)
theorem RZ {op op':CmpOp}{r r':R2}(ho:OpR X (compareOp op) r)(ho':OpR X (compareOp op') r')(ha:PE X a ta)(hb:PE X b tb)(hc:PE X c tc)
  (hm:lastMarks [op,op'] [b,c]=false:=by with_unfolding_all rfl):PE X (.Compare a [op,op'] [b,c] pos) (tChain r r' ta tb tc):=by
 intro pins s σ H Q I h
 refine Compare_chain (thn (ha pins s σ H _ I h) λv s1 ⟨x,H1,I1,r1,q1⟩=>chain_link (thn (hb pins s1 σ H1 _ I1 q1) λu s2 ⟨y,H2,I2,r2,q2⟩=>
  thn (ho pins s2 σ H2 x y v u _ I2 r1 r2 q2) λd s3 ⟨z,H3,I3,r3,k,e,q3⟩=>?_)) hm
 subst e
 cases r3
 refine wpAny_truthy_bool ?_
 cases k with
 |false=>exact ite_ff ⟨.bl false,H3,I3,rfl,q3⟩
 |true=>exact ite_tt (chain_last (thn (hc pins s3 σ H3 _ I3 q3) λw' s4 ⟨z',H4,I4,r4,q4⟩=>ho' pins s4 σ H4 y z' u w' Q I4 r2 r4 q4))
theorem zas {op op':CmpOp}{r r':R2}(ho:OpR X (compareOp op) r)(ho':OpR X (compareOp op') r')(ha:PE X a ta)(hb:PE X b tb)(hc:PE X c tc)
  (hm:lastMarks [op,op'] [b,c]=false:=by with_unfolding_all rfl):PT X (.Compare a [op,op'] [b,c] pos) (tTest (tChain r r' ta tb tc)):=by
 intro pins s σ H Q I h
 refine isTrue_chain (thn (ha pins s σ H _ I h) λv s1 ⟨x,H1,I1,r1,q1⟩=>test_link (thn (hb pins s1 σ H1 _ I1 q1) λu s2 ⟨y,H2,I2,r2,q2⟩=>
  thn (ho pins s2 σ H2 x y v u _ I2 r1 r2 q2) λd s3 ⟨z,H3,I3,r3,k,e,q3⟩=>?_)) hm
 subst e
 cases r3
 refine wpAny_truthy_bool ?_
 cases k with
 |false=>
  obtain⟨k',e',q'⟩:=q3
  cases e'
  exact ite_ff ⟨H3,I3,q'⟩
 |true=>
  refine ite_tt (test_last (thn (hc pins s3 σ H3 _ I3 q3) λw' s4 ⟨z',H4,I4,r4,q4⟩=>thn (ho' pins s4 σ H4 y z' u w' _ I4 r2 r4 q4) λd' s5 ⟨z2,H5,I5,r5,k2,e2,q5⟩=>?_))
  subst e2
  cases r5
  exact wpAny_truthy_bool ⟨H5,I5,q5⟩
def TruV (K:PySem.W.Frag)(x:V)(H:Hp)(k:Bool):Prop :=
 match x with
 |.non=>k=false
 |.bl b=>k=b
 |.int i=>k=(i != 0)
 |.str y=>y.length<=sizeLine/\k=((y.length:Int) != 0)
 |.byt y=>y.size<=sizeLine/\k=((y.size:Int) != 0)
 |.ref p=>(∃xs,SqL K H p xs/\k=!xs.isEmpty)∨(∃xs,SqT K H p xs/\k=!xs.isEmpty)∨∃kvs,H p=some (.dK kvs)/\k=!kvs.isEmpty
 |_=>False
theorem zfe {κ:Type}{kvs:List (κ×V)}{vs:List (κ×Value)}(r:KV kvs vs):(!vs.isEmpty)=!kvs.isEmpty:=by
 cases r<;>rfl
theorem Y0 {xs:List V}{its:List Value}(r:Vals xs its):(!its.toArray.isEmpty)=!xs.isEmpty:=by
 cases r<;>simp
theorem line63:(sizeLine:Nat) < 2 ^ 63:=by rw[sizeLine_eq];decide
theorem Rb:TruR X (λx H Q=>∃k,TruV X.K x H k/\Q k H):=by
 intro pins s σ H x v Q I rx h
 obtain⟨k,e,q⟩:=h
 have hl:=line63
 have hs:sizeLine=16777216:=sizeLine_eq
 cases x with
 |non=>
  cases rx
  have e':k=false:=e
  subst e'
  exact truthy_none ⟨H,I,q⟩
 |bl b=>
  cases rx
  have e':k=b:=e
  subst e'
  exact wpAny_truthy_bool ⟨H,I,q⟩
 |int i=>
  obtain⟨t,rfl⟩:=rx
  have e':k=(i != 0):=e
  subst e'
  exact PySem.P.truthy_int ⟨H,I,q⟩
 |str y=>
  obtain⟨t,rfl⟩:=rx
  obtain⟨hy,e'⟩:y.length<=sizeLine/\k=((y.length:Int) != 0):=e
  subst e'
  exact PySem.P.truthy_str #[1] ⟨H,I.tok _,q⟩
 |byt y=>
  obtain⟨t,rfl⟩:=rx
  obtain⟨hy,e'⟩:y.size<=sizeLine/\k=((y.size:Int) != 0):=e
  subst e'
  exact PySem.W.truthy_bytes #[1] ⟨H,I.tok _,q⟩
 |ref p=>
  cases rx
  have e':(∃xs,SqL X.K H p xs/\k=!xs.isEmpty)∨(∃xs,SqT X.K H p xs/\k=!xs.isEmpty)∨∃kvs,H p=some (.dK kvs)/\k=!kvs.isEmpty:=e
  rcases e' with⟨xs,hx,e'⟩ | ⟨xs,hx,e'⟩ | ⟨kvs,hx,e'⟩
  ·subst e'
   obtain⟨its,r,pl,hz⟩:=I.list hx
   have hlen:=r.length
   exact wpAny_truthy_list pl.isList (by simp only[List.size_toArray];omega) ⟨H,I.tok _,by rw[Y0 r];exact q⟩
  ·subst e'
   obtain⟨its,r,pl,hz⟩:=I.tuple hx
   have hlen:=r.length
   exact truthy_tuple pl (by simp only[List.size_toArray];omega) ⟨H,I.tok _,by rw[Y0 r];exact q⟩
  ·subst e'
   obtain⟨hz,hS,vs,r,m⟩:kvs.length<=sizeLine/\(p==sysModules)=false/\∃vs,KV kvs vs/\s.heap.DictOf (zJ X.prog X.w) p vs:=I.hok p _ hx
   have hlen:kvs.length=vs.length:=Paired.length r
   exact wpAny_truthy_dict hS m #[1] ⟨H,I.tok _,by rw[zfe r];exact q⟩
 |_=>exact (show False from e).elim
theorem zbt (ha:PE X a ta)(he:∀whole,isTrue a X.env whole=(do let v <-whole;standAt a.pos;holding [v] (truthy v))) :
  PT X a (λσ H Q=>ta σ H λx H'=>∃k,TruV X.K x H' k/\Q k H'):=by
 intro pins s σ H Q I h
 exact isTrue_plain (thn (ha pins s σ H _ I h) λv s1 ⟨x,H1,I1,r1,q1⟩=>Rb pins s1 σ H1 x v Q I1 r1 q1) (he _)
theorem Ri:OpR X (binaryOp .Add) (λx y H Q=>∃i j,x=.str i/\y=.str j/\i.length+j.length<=sizeLine/\Q (.str (i++j)) H):=by
 intro pins s σ H x y v u Q I rx ry h
 obtain⟨i,j,rfl,rfl,hz,q⟩:=h
 obtain⟨t,rfl⟩:=rx
 obtain⟨t',rfl⟩:=ry
 exact add_str (λt' tk=>⟨.str (i++j),H,I.tok _,⟨_,rfl⟩,q⟩) hz
theorem vals1 {x:V}{us:List Value}(r:Vals [x] us):∃u,us=[u]/\RelV x u:=by
 cases r with
 |cons r1 r2=>cases r2;exact⟨_,rfl,r1⟩
theorem vals2 {x y:V}{us:List Value}(r:Vals [x,y] us):∃u w',us=[u,w']/\RelV x u/\RelV y w':=by
 cases r with
 |cons r1 r2=>
  cases r2 with
  |cons r3 r4=>cases r4;exact⟨_,_,rfl,r1,r3⟩
theorem zap (hc:X.calm=true):CallR X (.builtin "max") (λxs H Q=>∃i j,xs=[.int i,.int j]/\Q (.int (if j > i then j else i)) H):=by
 intro pins s σ H xs us Q I r h
 obtain⟨i,j,rfl,q⟩:=h
 obtain⟨u,w',rfl,⟨t,rfl⟩,⟨t',rfl⟩⟩:=vals2 r
 refine max_two_ints (I.ok.hd hc) λh' tk k=>⟨_,H,I.kept k,?_,q⟩
 by_cases hj:j > i
 ·rw[if_pos hj,if_pos hj];exact⟨_,rfl⟩
 ·rw[if_neg hj,if_neg hj];exact⟨_,rfl⟩
theorem zde (hc:X.calm=true):CallR X (.builtin "min") (λxs H Q=>∃i j,xs=[.int i,.int j]/\Q (.int (if j < i then j else i)) H):=by
 intro pins s σ H xs us Q I r h
 obtain⟨i,j,rfl,q⟩:=h
 obtain⟨u,w',rfl,⟨t,rfl⟩,⟨t',rfl⟩⟩:=vals2 r
 refine min_two_ints (I.ok.hd hc) λh' tk k=>⟨_,H,I.kept k,?_,q⟩
 by_cases hj:j < i
 ·rw[if_pos hj,if_pos hj];exact⟨_,rfl⟩
 ·rw[if_neg hj,if_neg hj];exact⟨_,rfl⟩
theorem zed:CallR X (.type "int") (λxs H Q=>(∃i,xs=[.int i]/\Q (.int i) H)∨∃k,xs=[.bl k]/\Q (.int (if k then 1 else 0)) H):=by
 intro pins s σ H xs us Q I r h
 rcases h with⟨i,rfl,q⟩ | ⟨k,rfl,q⟩
 ·obtain⟨u,rfl,t,rfl⟩:=vals1 r
  exact call_int_int ⟨.int i,H,I,⟨_,rfl⟩,q⟩
 ·obtain⟨u,rfl,r1⟩:=vals1 r
  cases r1
  exact call_int_bool ⟨.int (if k then 1 else 0),H,I.tok _,⟨_,rfl⟩,q⟩
def LenV (K:PySem.W.Frag)(x:V)(H:Hp)(n:Nat):Prop :=
 match x with
 |.str y=>y.length<=sizeLine/\n=y.length
 |.byt y=>y.size<=sizeLine/\n=y.size
 |.ref p=>(∃xs,SqL K H p xs/\n=xs.length)∨∃xs,SqT K H p xs/\n=xs.length
 |_=>False
theorem Ru:CallR X (.builtin "len") (λxs H Q=>∃x n,xs=[x]/\LenV X.K x H n/\Q (.int n) H):=by
 intro pins s σ H xs us Q I r h
 obtain⟨x,n,rfl,e,q⟩:=h
 obtain⟨u,rfl,rx⟩:=vals1 r
 have hl:=line63
 have hs:sizeLine=16777216:=sizeLine_eq
 cases x with
 |str y=>
  obtain⟨t,rfl⟩:=rx
  obtain⟨hy,e'⟩:y.length<=sizeLine/\n=y.length:=e
  subst e'
  exact len_str #[1] ⟨.int _,H,I.tok _,⟨_,rfl⟩,q⟩
 |byt y=>
  obtain⟨t,rfl⟩:=rx
  obtain⟨hy,e'⟩:y.size<=sizeLine/\n=y.size:=e
  subst e'
  exact PySem.W.len_bytes #[1] ⟨.int _,H,I.tok _,⟨_,rfl⟩,q⟩
 |ref p=>
  cases rx
  have e':(∃xs,SqL X.K H p xs/\n=xs.length)∨∃xs,SqT X.K H p xs/\n=xs.length:=e
  rcases e' with⟨xs,hx,e'⟩ | ⟨xs,hx,e'⟩
  ·subst e'
   obtain⟨its,r',pl,hz⟩:=I.list hx
   have hlen:=r'.length
   exact Calls.call_len_list pl.isList (by simp only[List.size_toArray];omega) ⟨.int xs.length,H,I.tok _,⟨_,by simp only[List.size_toArray];rw[hlen]⟩,q⟩
  ·subst e'
   obtain⟨its,r',pl,hz⟩:=I.tuple hx
   have hlen:=r'.length
   exact len_tuple pl (by simp only[List.size_toArray];omega) ⟨.int xs.length,H,I.tok _,⟨_,by simp only[List.size_toArray];rw[hlen]⟩,q⟩
 |_=>exact (show False from e).elim
end
structure ObjM (h:Heap)(x dx C:Addr)(mA:Str->Option Value):Prop where
 obj:h.get? x=some (instObj C dx)
 ns:h.Ns1 dx mA
 ne:dx≠x
theorem Kz {h:Heap}{dx:Addr}{mA:Str->Option Value}(n:h.Ns1 dx mA):∃od,h.get? dx=some od/\∀name,PySem.W.lookIn name od=some (mA name):=by
 obtain⟨o,es,ep,ho,hd,hk,_,hm⟩:=n
 refine⟨o,ho,λname=>?_⟩
 have e:=hm name
 unfold nsFind findBy at e
 rw[<-Array.find?_toList] at e
 unfold PySem.W.lookIn
 rw[hd]
 dsimp only
 split
 ·rename_i y q
  rw[q] at e
  exact congrArg some e
 ·rename_i q
  rw[q] at e
  have a:es.toList.any (·.refKey)=false:=by
   rw[List.any_eq_false]
   intro y hy
   obtain⟨z,t,hkey⟩:=hk y (Array.mem_toList_iff.mp hy)
   simp[DictEntry.refKey,hkey]
  have a':¬es.toList.any (·.refKey)=true:=by rw[a];exact Bool.false_ne_true
  rw[if_neg a']
  exact congrArg some e
theorem ObjM.look {h:Heap}{x dx C:Addr}{mA:Str->Option Value}(I:ObjM h x dx C mA):∃od,InstAt h x (instObj C dx) C (some od)/\∀name,PySem.W.lookIn name od=some (mA name) :=
 let ⟨od,ho,hl⟩:=Kz I.ns
 ⟨od,⟨I.obj,rfl,rfl,ho⟩,hl⟩
section
variable {prog:Program}{w:World}{A:Around}{E:Value->Shared->Prop}{s:Shared}{K:PySem.W.Frag}{x dx C f:Addr}{mA:Str->Option Value}{name:Str}{v:Value}
theorem zeg {expr:Bool}{Q:Value->Shared->Prop}(X:K.In s.heap)(I:ObjM s.heap x dx C mA)(hg:plainGet K C name=true)(hh:hasDictIn K C=true)
  (ha:findIn K (.ref C) name=some none) (hv:mA name=some v) (hv':PySem.W.handedIn v=true) (h:Q v { s with toks:=s.toks+1 }) :
  wpAny (model prog w) A (getAttr (.ref x) name expr) Q E s:=by
 obtain⟨od,J,hl⟩:=I.look
 exact PySem.W.get_value X J (PySem.W.plainGet_of hg).1 (PySem.W.findObj_own hh ha rfl (by rw[hl,hv])) hv' h
theorem GH {pl:Sem Bool}{Q:Value×List Value->Shared->Prop}(X:K.In s.heap)(I:ObjM s.heap x dx C mA)(hg:plainGet K C name=true)
  (hf:findIn K (.ref C) name=some (some (.ref f))) (ht:PySem.W.isFn K (.ref f)=true) (hv:mA name=none) (h:Q (.ref f,[.ref x]) s) :
  wpAny (model prog w) A (getMethod (.ref x) name pl) Q E s:=by
 obtain⟨od,J,hl⟩:=I.look
 exact PySem.W.method_fn X J (PySem.W.plainGet_of hg).1 (PySem.W.plainGet_of hg).2 hf (beq_iff_eq.mp ht) (by show (PySem.W.lookIn name od).map (·.isSome)=some false;rw[hl,hv];rfl) h
theorem zbg {ns:List Str}{Q:Unit->Shared->Prop}(X:K.In s.heap)(I:ObjM s.heap x dx C mA)
  (hs:findIn K (.ref C) "__setattr__" = some (some (.builtin "object.__setattr__"))) (hp:PySem.W.plainOver K C=true) (ht:takerIn K C name=some none) (hh:hasDictIn K C=true)
  (hw:PySem.Within mA ns) (hsz:ns.length<=sizeLine)
  (h:∀h',ObjM h' x dx C (λy=>if y=name then some v else mA y)->Heap.SameBut dx s.heap h'->Q () { s with heap:=h',toks:=s.toks+2 }) :
  wpAny (model prog w) A (setAttr (.ref x) name v) Q E s:=by
 obtain⟨od,J,hl⟩:=I.look
 refine PySem.W.set_plain X J hs (PySem.W.osa_open (s:={ s with toks:=s.toks+1 }) (r:=none) X J hp ht λb=>?_)
 obtain⟨cd,hc,hd'⟩:=PySem.W.any_some hh
 have hx:s.heap.get? x=some ⟨.ref C,some dx,.plain,#[]⟩:=I.obj
 refine wpAny_bind (wpAny_pure (wpAny_bind (wpAny_bind (wpAny_loadPart hx (wpAny_bind (PySem.W.Looks.here (s:={ s with toks:=s.toks+1 }) (PySem.W.looks_clsIn X hc) ?_))))))
 rw[hd']
 refine wpAny_pure (a:=some dx) (wpAny_bind (wpAny_pure (wpAny_bind ?_)))
 refine wpAny_nsSet1 (s:={ s with toks:=s.toks+1 }) I.ns λh' hn2 hs2=>?_
 obtain⟨oD,esD,epD,hoD,hdD,hcD⟩:=hn2.count (PySem.Within.cons name v hw)
 refine wpAny_bind (wpAny_lookBehind hoD (by rw[hdD];exact pastItsLine_dict (Nat.le_trans hcD (by rw[List.length_cons];omega))) ?_)
 exact wpAny_pure (h _ ⟨(hs2.2 _ (Ne.symm I.ne)).trans I.obj,hn2,I.ne⟩ hs2)
theorem Re {R:Result->Shared->Prop}{vs:List Value}{kw:List (Str×Value)}(X:K.In s.heap)(hm:PySem.W.makesIn K C=true)
  (hi:findIn K (.ref C) "__init__" = some (some (.ref f))) (hf:PySem.W.typeIn K (.ref f)=some (.type "function"))
  (h:codeAny (model prog w) (A.under (.builtin "type.__call__" ⟨.ref C::vs,kw⟩)) (.call (.ref f) ⟨.ref (s.heap.objs.size+1)::vs,kw⟩) (PySem.W.InitBack (s.heap.objs.size+1) R)
   { s with heap:=(s.heap.push emptyDict).push (instObj C s.heap.objs.size) }) :
  codeAny (model prog w) A (.call (.ref C) ⟨vs,kw⟩) R s:=by
 obtain⟨hh,g,d,t,os⟩:=s
 exact PySem.W.make_core (PySem.W.makes_of X hm) (looks_findIn X hi) (λself=>PySem.W.bind_fn X self hf) (.inl rfl) h
end
def putF (f:Str)(v:V):List (Str×V)->List (Str×V)
 | []=>[(f,v)]
 | (g,x)::r=>if g=f then (g,v)::r else (g,x)::putF f v r
theorem QG (f g:Str)(v:V):∀fs:List (Str×V),(putF f v fs).lookup g=if g=f then some v else fs.lookup g
 | []=>by
  show List.lookup g [(f,v)]=_
  by_cases h:g=f
  ·have hb:(g==f)=true:=beq_iff_eq.mpr h
   simp only[List.lookup,hb,if_pos h]
  ·have hb:(g==f)=false:=beq_eq_false_iff_ne.mpr h
   simp only[List.lookup,hb,if_neg h]
 | (k,x)::r=>by
  have ih:=QG f g v r
  rw[show putF f v ((k,x)::r)=(if k=f then (k,v)::r else (k,x)::putF f v r) from rfl]
  by_cases hk:k=f
  ·rw[if_pos hk]
   by_cases h:g=k
   ·have hb:(g==k)=true:=beq_iff_eq.mpr h
    simp only[List.lookup,hb,if_pos (h.trans hk)]
   ·have hb:(g==k)=false:=beq_eq_false_iff_ne.mpr h
    simp only[List.lookup,hb,if_neg (λe:g=f=>h (e.trans hk.symm))]
  ·rw[if_neg hk]
   by_cases h:g=k
   ·have hb:(g==k)=true:=beq_iff_eq.mpr h
    simp only[List.lookup,hb,if_neg (λe:g=f=>hk (h.symm.trans e))]
   ·have hb:(g==k)=false:=beq_eq_false_iff_ne.mpr h
    simp only[List.lookup,hb]
    exact ih
theorem uK (f:Str)(v:V):∀fs:List (Str×V),f∈(putF f v fs).map (·.1)/\∀g,g∈fs.map (·.1)->g∈(putF f v fs).map (·.1)
 | []=>⟨by simp[putF],λg h=>by simp at h⟩
 | (k,x)::r=>by
  obtain⟨i1,i2⟩:=uK f v r
  rw[show putF f v ((k,x)::r)=(if k=f then (k,v)::r else (k,x)::putF f v r) from rfl]
  by_cases hk:k=f
  ·rw[if_pos hk]
   subst hk
   exact⟨by simp,λg h=>by simpa using h⟩
  ·rw[if_neg hk]
   refine⟨?_,λg h=>?_⟩
   ·rw[List.map_cons]
    exact List.mem_cons_of_mem _ i1
   ·rw[List.map_cons] at h ⊢
    rcases List.mem_cons.mp h with e | e
    ·exact List.mem_cons.mpr (.inl e)
    ·exact List.mem_cons_of_mem _ (i2 g e)
theorem Yt (f:Str)(v:V):∀fs:List (Str×V),(putF f v fs).length<=fs.length+1
 | []=>by simp[putF]
 | (k,x)::r=>by
  have ih:=Yt f v r
  rw[show putF f v ((k,x)::r)=(if k=f then (k,v)::r else (k,x)::putF f v r) from rfl]
  by_cases hk:k=f
  ·rw[if_pos hk,List.length_cons,List.length_cons];omega
  ·rw[if_neg hk,List.length_cons,List.length_cons];omega
theorem RelO.some_of {v:V}{o:Option Value}(r:RelO (some v) o):∃u,o=some u/\RelV v u:=by
 cases o with
 |none=>exact (show False from r).elim
 |some u=>exact⟨u,rfl,r⟩
theorem RelO.none_of {o:Option Value}(r:RelO none o):o=none:=by
 cases o with
 |none=>rfl
 |some u=>exact (show False from r).elim
theorem Vk {v:V}{u:Value}(r:RelV v u):PySem.W.handedIn u=true:=by
 cases v with
 |non=>cases (show u=Value.none from r);rfl
 |bl b=>cases (show u=Value.bool b from r);rfl
 |int i=>obtain⟨t,e⟩:=(show ∃t,u=Value.int i t from r);cases e;rfl
 |str x=>obtain⟨t,e⟩:=(show ∃t,u=Value.str x t from r);cases e;rfl
 |byt b=>obtain⟨t,e⟩:=(show ∃t,u=Value.bytes b t from r);cases e;rfl
 |flt b=>obtain⟨t,e⟩:=(show ∃t,u=Value.float b t from r);cases e;rfl
 |ref a=>cases (show u=Value.ref a from r);rfl
 |ty n=>cases (show u=Value.type n from r);rfl
section
variable {P:Program}{w:World}{H H':Hp}{h h':Heap}{a C dx:Addr}{fs fs':List (Str×V)}
theorem jP (hok:HOk P w H h)(e:H a=some (.ins C dx fs)):∃mA,ObjM h a dx C mA/\(∀f,RelO (fs.lookup f) (mA f))/\PySem.Within mA (fs.map (·.1))/\fs.length<=1000/\H dx=some (.own a):=by
 obtain⟨d,z,ne,ob,mA,n,r,q⟩:=(show ObjOk P w H h a (.ins C dx fs) from hok a _ e)
 exact⟨mA,⟨ob,n,ne⟩,r,q,z,d⟩
end
structure Cls (K:PySem.W.Frag)(C:Addr):Prop where
 pg:plainGet K C Str.empty=true
 hd:hasDictIn K C=true
 po:PySem.W.plainOver K C=true
 sa:findIn K (.ref C) "__setattr__" = some (some (.builtin "object.__setattr__"))
theorem Cls.get {K:PySem.W.Frag}{C:Addr}(c:Cls K C)(f:Str):plainGet K C f=true:=c.pg
def NoAttr (K:PySem.W.Frag)(C:Addr)(f:Str):Prop:=findIn K (.ref C) f=some none
theorem NoAttr.taker {K:PySem.W.Frag}{C:Addr}{f:Str}(n:NoAttr K C f):takerIn K C f=some none:=by
 unfold takerIn
 rw[show findIn K (.ref C) f=some none from n]
 rfl
structure Con (K:PySem.W.Frag)(C:Addr)(f:Str)(v:V)(u:Value):Prop where
 at_:findIn K (.ref C) f=some (some u)
 rel:RelV v u
 get:PySem.W.specialIn K u "__get__" = some none
 cp:PySem.W.copiedNames.contains f=false
structure Meth (K:PySem.W.Frag)(C:Addr)(m:Str)(f:Addr):Prop where
 at_:findIn K (.ref C) m=some (some (.ref f))
 fn:PySem.W.isFn K (.ref f)=true
 kp:keepIn K (.ref f)=true
section
variable {X:Cx}{pins:List (Addr×Obj)}{σ:St}{H:Hp}{s:Shared}{a C dx:Addr}{fs:List (Str×V)}{f:Str}{v:V}{A:Around}{E:Value->Shared->Prop}
theorem Kf {b:Bool}{Q:Value->Shared->Prop}(I:Inv X pins σ H s)(e:H a=some (.ins C dx fs))(c:Cls X.K C)(n:NoAttr X.K C f)(l:fs.lookup f=some v)
  (h:∀u s',Inv X pins σ H s'->RelV v u->Q u s'):wpAny #[4] A (getAttr (.ref a) f b) Q E s:=by
 obtain⟨mA,O,r,_,_,_⟩:=jP I.hok e
 obtain⟨u,hu,ru⟩:=RelO.some_of (v:=v) (o:=mA f) (by rw[<-l];exact r f)
 exact zeg I.kIn O (c.get f) c.hd n hu (Vk ru) (h u _ (I.tok _) ru)
theorem WI {m:Str}{g:Addr}{pl:Sem Bool}{Q:Value×List Value->Shared->Prop}(I:Inv X pins σ H s)(e:H a=some (.ins C dx fs))(c:Cls X.K C)(k:Meth X.K C m g)(l:fs.lookup m=none)
  (h:Q (.ref g,[.ref a]) s):wpAny #[4] A (getMethod (.ref a) m pl) Q E s:=by
 obtain⟨mA,O,r,_,_,_⟩:=jP I.hok e
 have hn:mA m=none:=RelO.none_of (by rw[<-l];exact r m)
 exact GH I.kIn O (c.get m) k.at_ k.fn hn h
theorem zbh {y:V}{u:Value}{Q:Unit->Shared->Prop}(I:Inv X pins σ H s)(e:H a=some (.ins C dx fs))(c:Cls X.K C)(n:NoAttr X.K C f)(hl:fs.length < 1000)(ry:RelV y u)
  (h:∀s',Inv X pins σ (upd H a (.ins C dx (putF f y fs))) s'->Q () s'):wpAny #[4] A (setAttr (.ref a) f u) Q E s:=by
 obtain⟨mA,O,r,wi,_,ho⟩:=jP I.hok e
 have hz:(fs.map (·.1)).length<=sizeLine:=by rw[List.length_map,sizeLine_eq];omega
 refine zbg I.kIn O c.sa c.po n.taker c.hd wi hz λh' O' sb=>h _ ?_
 have hd:∃o,h'.get? dx=some o:=let ⟨o,_,_,e',_⟩:=O'.ns;⟨o,e'⟩
 refine I.write (x:=a) (e:=dx) (by rw[e];exact True.intro) (.inr ho) (λb q hb z=>(sb.2 b hb).trans z) hd ?_
 refine⟨by rw[zh O.ne];exact ho,?_,O.ne,O'.obj,_,O'.ns,λg=>?_,λg hg=>?_⟩
 ·have:=Yt f y fs;omega
 ·show RelO ((putF f y fs).lookup g) (if g=f then some u else mA g)
  rw[QG]
  by_cases q:g=f
  ·rw[if_pos q,if_pos q];exact ry
  ·rw[if_neg q,if_neg q];exact r g
 ·by_cases q:g=f
  ·rw[q];exact (uK f y fs).1
  ·refine (uK f y fs).2 g (wi g λz=>hg ?_)
   show (if g=f then some u else mA g)=none
   rw[if_neg q];exact z
theorem Inv.made (I:Inv X pins σ H s):Inv X pins σ (upd (upd H s.heap.objs.size (.own (s.heap.objs.size+1))) (s.heap.objs.size+1) (.ins C s.heap.objs.size []))
  { s with heap:=(s.heap.push emptyDict).push (instObj C s.heap.objs.size) }:=by
 have e1:(s.heap.push emptyDict).get? s.heap.objs.size=some emptyDict:=Heap.get?_push_size s.heap rfl
 have e2:((s.heap.push emptyDict).push (instObj C s.heap.objs.size)).get? (s.heap.objs.size+1)=some (instObj C s.heap.objs.size):=by
  have:=Heap.get?_push_size (s.heap.push emptyDict) (o:=instObj C s.heap.objs.size) rfl
  rwa [Heap.size_push] at this
 have e3:(s.heap.push emptyDict).Ns s.heap.objs.size (λ_=>none):=⟨emptyDict,#[],_,e1,rfl,(λe he=>absurd he (by simp)),λ_=>rfl⟩
 have I1:=I.laid (a:=s.heap.objs.size) (o:=.own (s.heap.objs.size+1)) (h':=s.heap.push emptyDict) (t':=s.toks) (λb u q=>Heap.get?_push_of_some _ q) (Nat.le_refl _) ⟨_,e1⟩
 refine I1.laid (a:=s.heap.objs.size+1) (o:=.ins C s.heap.objs.size []) (t':=s.toks) (λb u q=>Heap.get?_push_of_some _ q) (Nat.le_of_eq (Heap.size_push _ _)) ?_
 have ne:s.heap.objs.size≠s.heap.objs.size+1:=Nat.ne_of_lt (Nat.lt_succ_self _)
 refine⟨by rw[zh ne,zr],Nat.zero_le _,ne,e2,λ_=>none,(Heap.Ns1.of_empty e3).at λo q=>Heap.get?_push_of_some _ q,λ_=>True.intro,λy hy=>absurd rfl hy⟩
theorem Vf {prog:Program}{w:World}{env:Env}{e:Expr}{f:Str}{pos:Pos}{s:Shared}{Q:Value->Shared->Prop}(hb:attributeBase e f env (eval e env)=eval e env)
  (h:wpAny (model prog w) A (eval e env) (λo s₁=>wpAny (model prog w) A (getAttr o f true) Q E s₁) E s):wpAny (model prog w) A (eval (.Attribute e f pos) env) Q E s :=
 Attribute_any_ h (by rw[arm_eval_Attribute,hb])
end
def tFld (K:PySem.W.Frag)(ta:TE)(f:Str):TE:=λσ H Q=>ta σ H λx H1=>∃a C dx fs v,x=.ref a/\H1 a=some (.ins C dx fs)/\Cls K C/\NoAttr K C f/\fs.lookup f=some v/\Q v H1
def sFld (K:PySem.W.Frag)(ta tv:TE)(f:Str):TS:=λD σ H=>tv σ H λy H1=>ta σ H1 λx H2=>∃a C dx fs,x=.ref a/\H2 a=some (.ins C dx fs)/\Cls K C/\NoAttr K C f/\fs.length < 1000 /\
 D.nx σ (upd H2 a (.ins C dx (putF f y fs)))
section
variable {X:Cx}{o e value:Expr}{f:Str}{pos pos' tpos:Pos}{ta tv:TE}
theorem zex (he:PE X e ta)(hb:attributeBase e f X.env (eval e X.env)=eval e X.env):PE X (.Attribute e f pos) (tFld X.K ta f):=by
 intro pins s σ H Q I h
 refine Vf hb (thn (he pins s σ H _ I h) λu s1 ⟨x,H1,I1,rx,a,C,dx,fs,v,ex,ea,c,n,l,q⟩=>?_)
 subst ex
 obtain rfl:u=Value.ref a:=rx
 exact Kf I1 ea c n l λu' s2 I2 ru=>⟨v,H1,I2,ru,q⟩
theorem zai (ha:PE X o ta)(hv:PE X value tv)(hs:swapsWith value (some (.Attribute o f pos')) pos.line X.env=pure false):PS X (.Assign [.Attribute o f pos'] value pos) (sFld X.K ta tv f):=by
 intro pins s σ H D I h
 refine plainObj_wpAny_Assign_Attribute (thn (hv pins s σ H _ I h) λu s1 ⟨y,H1,I1,ry,q⟩=>thn (ha pins s1 σ H1 _ I1 q) λov s2 ⟨x,H2,I2,rx,a,C,dx,fs,ex,ea,c,n,l,q2⟩=>?_) hs
 subst ex
 obtain rfl:ov=Value.ref a:=rx
 exact zbh I2 ea c n l ry λs3 I3=>⟨σ,_,I3,q2⟩
end
section
variable {X:Cx}{pins:List (Addr×Obj)}{σ:St}{H:Hp}{s:Shared}{A:Around}{E:Value->Shared->Prop}{Q:Value->Shared->Prop}{c:Value}{b:Bool}
inductive TyOf (K:PySem.W.Frag) (H:Hp):V->Value->Prop where
 |non:TyOf K H .non (.type "NoneType")
 |bl (x:Bool):TyOf K H (.bl x) (.type "bool")
 |int (i:Int):TyOf K H (.int i) (.type "int")
 |str (x:Str):TyOf K H (.str x) (.type "str")
 |flt (x:UInt64):TyOf K H (.flt x) (.type "float")
 |lst {a:Addr} {xs:List V} (e:H a=some (.lst xs)):TyOf K H (.ref a) (.type "list")
 |frz {a:Addr} {o:Obj} {xs:List V} (e:H a=some (.frz o (.lst xs))):TyOf K H (.ref a) (.type "list")
 |tup {a:Addr} {xs:List V} (e:H a=some (.tup xs)):TyOf K H (.ref a) (.type "tuple")
 |dK {a:Addr} {kvs:List (Key×V)} (e:H a=some (.dK kvs)):TyOf K H (.ref a) (.type "dict")
 |dT {a:Addr} {kvs:List (List Key×V)} (e:H a=some (.dT kvs)):TyOf K H (.ref a) (.type "dict")
 |ins {a C dx:Addr} {fs:List (Str×V)} (e:H a=some (.ins C dx fs)) (cl:Cls K C) (ha:findIn K (.ref C) "__class__" = some (some (.builtin "object.__class__")))
   (hn:PySem.W.specialIn K (.builtin "object.__class__") "__get__" = some (some (.builtin "getset_descriptor.__get__"))) (htk:PySem.W.takesIn K (.builtin "object.__class__")=some true)
   (hm:PySem.W.mroIn K C (.type "object")=some true):TyOf K H (.ref a) (.ref C)
theorem QZ {x:V}{u t:Value}(I:Inv X pins σ H s)(rx:RelV x u)(ty:TyOf X.K H x t)(e:kitOne X.K t c=some b)(h:∀tk,Q (.bool b) { s with toks:=tk }) :
  wpAny #[4] A (call (.builtin "isinstance") [u,c]) Q E s:=by
 cases ty with
 |non=>cases (show u=Value.none from rx);exact PySem.W.kia_one PySem.W.kitx_none I.kIn True.intro e (λz=>nomatch z) h
 |bl y=>cases (show u=Value.bool y from rx);exact PySem.W.kia_one PySem.W.kitx_bool I.kIn True.intro e (λz=>nomatch z) h
 |int i=>obtain⟨t,q⟩:=(show ∃t,u=Value.int i t from rx);cases q;exact PySem.W.kia_one PySem.W.kitx_int I.kIn True.intro e (λz=>nomatch z) h
 |str y=>obtain⟨t,q⟩:=(show ∃t,u=Value.str y t from rx);cases q;exact PySem.W.kia_one PySem.W.kitx_str I.kIn True.intro e (λz=>nomatch z) h
 |flt y=>obtain⟨t,q⟩:=(show ∃t,u=Value.float y t from rx);cases q;exact PySem.W.kia_one PySem.W.kitx_float I.kIn True.intro e (λz=>nomatch z) h
 | @lst a xs ea=>
  cases (show u=Value.ref a from rx)
  obtain⟨_,_,n,_,h1⟩:=(show ObjOk X.prog X.w H s.heap a (.lst xs) from I.hok a _ ea)
  exact PySem.W.kia_one PySem.W.kitx_list I.kIn ⟨_,h1,rfl⟩ e (λz=>nomatch z) h
 | @frz a ob xs ea=>
  cases (show u=Value.ref a from rx)
  obtain⟨_,_,_,n,_,h1⟩:=(show ObjOk X.prog X.w H s.heap a (.frz ob (.lst xs)) from I.hok a _ ea)
  exact PySem.W.kia_one PySem.W.kitx_list I.kIn ⟨_,h1,rfl⟩ e (λz=>nomatch z) h
 | @tup a xs ea=>
  cases (show u=Value.ref a from rx)
  obtain⟨_,_,_,p⟩:=(show ObjOk X.prog X.w H s.heap a (.tup xs) from I.hok a _ ea)
  obtain⟨o,h1,h2,_⟩:=p
  exact PySem.W.kia_one PySem.W.kitx_tuple I.kIn ⟨o,h1,h2⟩ e (λz=>nomatch z) h
 | @dK a kvs ea=>
  cases (show u=Value.ref a from rx)
  obtain⟨_,_,vs,_,p⟩:=(show ObjOk X.prog X.w H s.heap a (.dK kvs) from I.hok a _ ea)
  obtain⟨o,es,ep,h1,h2,_⟩:=p
  exact PySem.W.kia_one PySem.W.kitx_dict I.kIn ⟨o,h1,h2.1⟩ e (λz=>nomatch z) h
 | @dT a kvs ea=>
  cases (show u=Value.ref a from rx)
  obtain⟨_,_,xs,_,o,es,ep,h1,h2,_⟩:=(show ObjOk X.prog X.w H s.heap a (.dT kvs) from I.hok a _ ea)
  exact PySem.W.kia_one PySem.W.kitx_dict I.kIn ⟨o,h1,h2.1⟩ e (λz=>nomatch z) h
 | @ins a C dx fs ea cl ha hn htk hm=>
  cases (show u=Value.ref a from rx)
  obtain⟨mA,O,_⟩:=jP I.hok ea
  obtain⟨od,J,_⟩:=O.look
  exact PySem.W.kia_one (PySem.W.kitx_own (cl.get _) cl.hd ha hn htk hm) I.kIn J e (λz=>nomatch z) h
end
structure Room (k:Nat)(A:Around):Prop where
 hd:A.handled=none
 dp:A.depth+3 * k+5 < recursionLimit
 un:A.units+16 * k+200 < cLine
theorem Room.mono {j k:Nat}{A:Around}(r:Room k A)(h:j<=k):Room j A:=⟨r.hd,by have:=r.dp;omega,by have:=r.un;omega⟩
theorem Room.deeper {k:Nat}{A:Around}(r:Room (k+1) A)(env:Env):Room k (A.deeper env) :=
 ⟨r.hd,by have:=r.dp;show A.depth+1+3 * k+5 < _;omega,by have:=r.un;show A.units+3+16 * k+200 < _;omega⟩
theorem ze8 {A:Around}{C:Addr}{us:List Value}{kw:List (Str×Value)}:(A.under (.builtin "type.__call__" ⟨.ref C::us,kw⟩)).depth=A.depth+1:=by
 first | rfl | simp[Around.under,Code.weight,Code.isCreation,Code.isGuard,Code.isCaller,Code.frames,Code.isFrame,guardIds]
theorem zfk {A:Around}{C:Addr}{us:List Value}{kw:List (Str×Value)}:(A.under (.builtin "type.__call__" ⟨.ref C::us,kw⟩)).units=A.units+1:=by
 first | rfl | simp[Around.under,Code.cUnits,Code.frames,Code.isFrame]
theorem Room.make {k:Nat}{A:Around}(r:Room (k+1) A)(C:Addr)(us:List Value)(kw:List (Str×Value)):Room k (A.under (.builtin "type.__call__" ⟨.ref C::us,kw⟩)) :=
 ⟨r.hd,by have:=r.dp;rw[ze8];omega,by have:=r.un;rw[zfk];omega⟩
theorem Room.depth {k:Nat}{A:Around}(r:Room k A):A.depth < recursionLimit:=by have:=r.dp;omega
theorem Room.units {k:Nat}{A:Around}(r:Room k A):A.units+64 < cLine:=by have:=r.un;omega
def tNil:TA:=λ_ H Q=>Q [] H
def tCons (ta:TE)(tr:TA):TA:=λσ H Q=>ta σ H λx H1=>tr σ H1 λxs H2=>Q (x::xs) H2
section
variable {X:Cx}{e:Expr}{es:List Expr}{te:TE}{t:TA}{pos:Pos}
theorem yz:PA X [] tNil:=λ_ _ _ _ H Q I h=>Calls.spliced_nil ⟨[],H,I,.nil,h⟩
theorem zO (ha:PE X e te)(hr:PA X es t)(hs:starEach (e::es) X.env=(false,eval e X.env)::starEach es X.env:=by rfl):PA X (e::es) (tCons te t):=by
 intro pos pins s σ H Q I h
 rw[hs]
 show wpAny _ _ (spliced ((false,eval e X.env)::backTo pos (starEach es X.env))) _ _ s
 refine Calls.spliced_cons (thn (ha pins s σ H _ I h) λu s1 ⟨x,H1,I1,r1,q1⟩=>?_)
 exact thn (hr pos pins s1 σ H1 _ I1 q1) λus s2 ⟨xs,H2,I2,r2,q2⟩=>⟨x::xs,H2,I2,.cons r1 r2,q2⟩
def tTup (t:TA):TE:=λσ H Q=>t σ H λxs H1=>xs.length<=sizeLine/\∀p,H1 p=none->Q (.ref p) (upd H1 p (.tup xs))
def tLst (t:TA):TE:=λσ H Q=>t σ H λxs H1=>xs.length<=sizeLine/\∀p,H1 p=none->Q (.ref p) (upd H1 p (.lst xs))
theorem YW {x1}(h:PA X es t):PE X (.Tuple es x1 pos) (tTup t):=by
 intro pins s σ H Q I hq
 refine wpAny_Tuple_spliced (thn (h pos pins s σ H _ I hq) λus s1 ⟨xs,H1,I1,r,z,q⟩=>⟨by rw[<-r.length];exact z,?_⟩)
 have hf:H1 s1.heap.objs.size=none:=I1.hok.fresh (Nat.le_refl _)
 refine⟨.ref s1.heap.objs.size,upd H1 s1.heap.objs.size (.tup xs),I1.laid (t':=s1.toks) (λb u e=>Heap.get?_push_of_some _ e) (Nat.le_refl _) ?_,rfl,q _ hf⟩
 exact⟨z,us,r,⟨_,Heap.get?_push_size _ rfl,rfl,_,rfl⟩⟩
theorem zfq (h:PA X es t):PE X (.List es pos) (tLst t):=by
 intro pins s σ H Q I hq
 refine wpAny_List_spliced (thn (h pos pins s σ H _ I hq) λus s1 ⟨xs,H1,I1,r,z,q⟩=>⟨by rw[<-r.length];exact z,?_⟩)
 have hf:H1 s1.heap.objs.size=none:=I1.hok.fresh (Nat.le_refl _)
 refine⟨.ref s1.heap.objs.size,upd H1 s1.heap.objs.size (.lst xs),I1.laid (t':=s1.toks) (λb u e=>Heap.get?_push_of_some _ e) (Nat.le_refl _) ?_,rfl,q _ hf⟩
 exact⟨z,us,0,r,Heap.get?_push_size _ rfl⟩
end
abbrev Sp:=List V->Hp->VK->XK->Prop
abbrev CXT:=List Env->Hp->Shared->XK->Value->Shared->Prop
structure Env0 (P:Program)(w:World)(K:PySem.W.Frag)(mg:Str->Option Value)(base:Heap)(A:Around)(outer:List Env)(s:Shared)(H:Hp):Prop where
 frames:A.frames=some outer
 mod:Mod K mg base
 bs:∀b o,base.get? b=some o->s.heap.get? b=some o/\H b=none
 bsz:base.objs.size<=s.heap.objs.size
 funs:s.heap.FunFrames base outer
 frf:∀b∈frs outer,H b=none
 hok:HOk P w H s.heap
 bare:AllBare s.gens
def CE (outer:List Env)(P:Program)(w:World)(H:Hp)(s:Shared)(Q:VK)(u:Value)(s':Shared):Prop :=
 ∃v H',s'.os=s.os/\AllBare s'.gens/\Un (frs outer) [] H H' s.heap s'.heap/\HOk P w H' s'.heap/\RelV v u/\Q v H'
def CR (CX:CXT)(outer:List Env)(P:Program)(w:World)(H:Hp)(s:Shared)(Q:VK)(E:XK)(r:Result)(s':Shared):Prop :=
 match r with
 |.ok (.ret u)=>CE outer P w H s Q u s'
 |.ok _=>False
 |.error e=>CX outer H s E e s'
structure FnOk (P:Program)(w:World)(K:PySem.W.Frag)(mg:Str->Option Value)(base:Heap)(CX:CXT)(k:Nat)(f:Addr)(fd:FuncData)(ps:List Str)(sp:Sp):Prop where
 len:∀vs H Q E,sp vs H Q E->vs.length=ps.length
 run:∀(A:Around) (outer:List Env) (s:Shared) (H:Hp) (args:Args) (us:List Value) (vs:List V) (Q:VK) (E:XK),Room k A->Env0 P w K mg base A outer s H->BindsTo s fd args (ps.zip us)->Vals vs us->sp vs H Q E ->
  codeAny (model P w) A (.call (.ref f) args) (CR CX outer P w H s Q E) s
theorem FnOk.imp {P:Program}{w:World}{K:PySem.W.Frag}{mg:Str->Option Value}{base:Heap}{CX:CXT}{k:Nat}{f:Addr}{fd:FuncData}{ps:List Str}{sp sp':Sp}(F:FnOk P w K mg base CX k f fd ps sp)
  (h:∀vs H Q E,sp' vs H Q E->sp vs H Q E):FnOk P w K mg base CX k f fd ps sp' :=
 ⟨λvs H Q E q=>F.len vs H Q E (h _ _ _ _ q),λA outer s H args us vs Q E hr he hb hv hs=>F.run A outer s H args us vs Q E hr he hb hv (h _ _ _ _ hs)⟩
theorem Env0.make {P:Program}{w:World}{K:PySem.W.Frag}{mg:Str->Option Value}{base:Heap}{A:Around}{outer:List Env}{s:Shared}{H:Hp}(e:Env0 P w K mg base A outer s H)(C:Addr)(us:List Value)(kw:List (Str×Value)) :
  Env0 P w K mg base (A.under (.builtin "type.__call__" ⟨.ref C::us,kw⟩)) outer s H:=⟨by first | exact e.frames | (simpa[Around.under,Code.envs,Code.isFrame,pushEnvs] using e.frames),e.mod,e.bs,e.bsz,e.funs,e.frf,e.hok,e.bare⟩
section
variable {X:Cx}{pins:List (Addr×Obj)}{σ:St}{H:Hp}{s s':Shared}
theorem Inv.env0 (I:Inv X pins σ H s):Env0 X.prog X.w X.K X.mg X.base X.A X.stack s H :=
 ⟨I.ok.frames,I.ok.mod,I.bs,Nat.le_trans I.ok.bsz I.sz,I.stack,I.stkFree,I.hok,I.bare⟩
theorem Inv.after {Q:VK}{u:Value}(I:Inv X pins σ H s)(h:CE X.stack X.prog X.w H s Q u s'):EP X pins σ Q u s':=by
 obtain⟨v,H',os,bare,un,hok,r,q⟩:=h
 obtain⟨hh,g,d,t,os'⟩:=s'
 obtain rfl:os'=s.os:=os
 exact⟨v,H',I.call (h':=hh) (g':=g) (d':=d) (t':=t) (ch:=[]) un hok bare (λb z=>absurd z (by simp)),r,q⟩
end
def tCall (sp:Sp)(dvs:List V)(E:XK)(t:TA):TE:=λσ H Q=>t σ H λvs H1=>sp (vs++dvs) H1 Q E
def tMeth (C:Addr)(m:Str)(sp:Sp)(dvs:List V)(E:XK)(ta:TE)(t:TA):TE:=λσ H Q=>ta σ H λx H1=>∃a dx fs,x=.ref a/\H1 a=some (.ins C dx fs)/\fs.lookup m=none /\
 t σ H1 λvs H2=>sp (x::(vs++dvs)) H2 Q E
def tMake (C:Addr)(sp:Sp)(dvs:List V)(E:XK)(t:TA):TE:=λσ H Q=>t σ H λvs H1=>∀x dx,H1 x=none->H1 dx=none->dx≠x ->
 sp (.ref x::(vs++dvs)) (upd (upd H1 dx (.own x)) x (.ins C dx [])) (λv H2=>v=.non/\Q (.ref x) H2) E
def Binds (K:PySem.W.Frag)(fd:FuncData)(ps:List Str)(ds:List Value):Prop :=
 ∀(s:Shared) (us:List Value),K.In s.heap->(us++ds).length=ps.length->BindsTo s fd ⟨us,[]⟩ (ps.zip (us++ds))
theorem Binds.all {K:PySem.W.Frag}{fd:FuncData}{ps:List Str}(h:∀us:List Value,us.length=ps.length->bindArgs fd ⟨us,[]⟩=pure (ps.zip us)):Binds K fd ps []:=λs us _ hl=>by
 rw[List.append_nil] at hl ⊢
 exact .of_eq (h us hl)
def Passes (CX:CXT)(X:Cx)(E:XK):Prop:=∀(pins:List (Addr×Obj)) (σ:St) (H:Hp) (s:Shared) (e:Value) (s':Shared),Inv X pins σ H s->CX X.stack H s E e s'->X.xe e s'
section
variable {X:Cx}{CX:CXT}{k:Nat}{f C:Addr}{fd:FuncData}{ps:List Str}{sp:Sp}{dvs:List V}{ds:List Value}{E:XK}{x m:Str}{p pos apos:Pos}{e o:Expr}{es:List Expr}{ta:TE}{t:TA}
theorem kt {pins:List (Addr×Obj)}{σ:St}{H:Hp}{s:Shared}{Q:VK}{us:List Value}{vs:List V}(F:FnOk X.prog X.w X.K X.mg X.base CX k f fd ps sp)(hr:Room k X.A)(hb:Binds X.K fd ps ds)(hd:Vals dvs ds)(hx:Passes CX X E)
  (I:Inv X pins σ H s) (r:Vals vs us) (h:sp (vs++dvs) H Q E):wpAny #[4] X.A (call (.ref f) us) (EP X pins σ Q) X.xe s:=by
 have r2:Vals (vs++dvs) (us++ds):=r.append hd
 have hl:(us++ds).length=ps.length:=by rw[<-r2.length];exact F.len _ _ _ _ h
 refine wpAny_call (codeAny_mono (F.run X.A X.stack s H ⟨us,[]⟩ (us++ds) (vs++dvs) Q E hr I.env0 (hb s us I.kIn hl) r2 h) λr s' hq=>?_)
 cases r with
 |error e=>exact hx pins σ H s e s' I hq
 |ok fl=>
  cases fl with
  |ret u=>exact I.after hq
  |next=>exact False.elim hq
  |brk=>exact False.elim hq
  |cont=>exact False.elim hq
theorem jv (F:FnOk X.prog X.w X.K X.mg X.base CX k f fd ps sp)(hr:Room k X.A)(hg:Gl X x)(hm:X.mg x=some (.ref f))(hk:keepIn X.K (.ref f)=true)(hb:Binds X.K fd ps ds)(hd:Vals dvs ds)(hx:Passes CX X E)
  (ha:PA X (e::es) t) (hdb:#[8]=false:=by decide) (he:starEach (e::es) X.env=(false,eval e X.env)::starEach es X.env:=by rfl) (hpl:#[11].any (·.1)=false:=by rfl) :
  PE X #[12] (tCall sp dvs E t):=by
 intro pins s σ H Q I h
 refine wpAny_Call_Name_kw (yr I hg hm ?_ hdb)
 refine PySem.W.callWith_K (h₀:=X.base) I.ok.mod.kin hk (thn (ha pos pins s σ H _ I h) λus s1 ⟨vs,H1,I1,r,q⟩=>⟨I1.kIn,?_⟩) he hpl
 exact kt F hr hb hd hx I1 r q
theorem GS {pl:Sem Bool}(he:PE X o ta)(c:Cls X.K C)(hm:Meth X.K C m f)(F:FnOk X.prog X.w X.K X.mg X.base CX k f fd ps sp)(hr:Room k X.A)(hb:Binds X.K fd ps ds)(hd:Vals dvs ds)(hx:Passes CX X E)(ha:PA X (e::es) t)
  (hst:starEach (e::es) X.env=(false,eval e X.env)::starEach es X.env:=by rfl) (hpl:#[11].any (·.1)=false:=by rfl)
  (ht:eval (.Call (.Attribute o m apos) (e::es) [] pos) X.env=(do
   let ov <-eval o X.env
   standAt apos.atName
   let (f,first) <-holding [ov] (getMethod ov m pl)
   callWith pos f first (backTo pos (starEach (e::es) X.env)) (backToKw pos (keywordEach [] X.env))):=by rfl) :
  PE X (.Call (.Attribute o m apos) (e::es) [] pos) (tMeth C m sp dvs E ta t):=by
 intro pins s σ H Q I h
 refine PySem.W.methodCall_KW (pl:=pl) (thn (he pins s σ H _ I h) λu s1 ⟨x,H1,I1,rx,a,dx,fs,ex,ea,l,q⟩=>?_) ht
 subst ex
 obtain rfl:u=Value.ref a:=rx
 refine WI I1 ea c hm l ?_
 refine PySem.W.callWith_K (first:=[.ref a]) (h₀:=X.base) I.ok.mod.kin hm.kp (thn (ha pos pins s1 σ H1 _ I1 q) λus s2 ⟨vs,H2,I2,r,q2⟩=>⟨I2.kIn,?_⟩) hst hpl
 exact kt (us:=.ref a::us) (vs:=.ref a::vs) F hr hb hd hx I2 (.cons rfl r) q2
theorem RQ {pl:Sem Bool}(he:PE X o ta)(c:Cls X.K C)(hm:Meth X.K C m f)(F:FnOk X.prog X.w X.K X.mg X.base CX k f fd ps sp)(hr:Room k X.A)(hb:Binds X.K fd ps ds)(hd:Vals dvs ds)(hx:Passes CX X E)
  (ht:eval (.Call (.Attribute o m apos) [] [] pos) X.env=(do
   let ov <-eval o X.env
   standAt apos.atName
   let (f,first) <-holding [ov] (getMethod ov m pl)
   callWith pos f first (backTo pos (starEach [] X.env)) (backToKw pos (keywordEach [] X.env))):=by rfl) :
  PE X (.Call (.Attribute o m apos) [] [] pos) (tMeth C m sp dvs E ta tNil):=by
 intro pins s σ H Q I h
 refine PySem.W.methodCall_KW (pl:=pl) (thn (he pins s σ H _ I h) λu s1 ⟨x,H1,I1,rx,a,dx,fs,ex,ea,l,q⟩=>?_) ht
 subst ex
 obtain rfl:u=Value.ref a:=rx
 refine WI I1 ea c hm l ?_
 exact PySem.W.callWith_K0 (first:=[.ref a]) I1.kIn hm.kp (kt (us:=[.ref a]) (vs:=[.ref a]) F hr hb hd hx I1 (.cons rfl .nil) q)
structure Mk (K:PySem.W.Frag)(C f:Addr):Prop where
 makes:PySem.W.makesIn K C=true
 init:findIn K (.ref C) "__init__" = some (some (.ref f))
 fn:PySem.W.isFn K (.ref f)=true
 kp:keepIn K (.ref C)=true
theorem zeh {pins:List (Addr×Obj)}{σ:St}{H:Hp}{s:Shared}{Q:VK}{us:List Value}{vs:List V}(M:Mk X.K C f)(F:FnOk X.prog X.w X.K X.mg X.base CX k f fd ps sp)(hr:Room (k+1) X.A)(hb:Binds X.K fd ps ds)(hd:Vals dvs ds)
  (hx:Passes CX X E) (I:Inv X pins σ H s) (r:Vals vs us)
  (h:∀x dx,H x=none->H dx=none->dx≠x->sp (.ref x::(vs++dvs)) (upd (upd H dx (.own x)) x (.ins C dx [])) (λv H2=>v=.non/\Q (.ref x) H2) E) :
  wpAny #[4] X.A (call (.ref C) us) (EP X pins σ Q) X.xe s:=by
 have hq:=h (s.heap.objs.size+1) s.heap.objs.size (I.hok.fresh (Nat.le_succ _)) (I.hok.fresh (Nat.le_refl _)) (Nat.ne_of_lt (Nat.lt_succ_self _))
 have I2:=Inv.made (C:=C) I
 have r2:Vals (V.ref (s.heap.objs.size+1)::(vs++dvs)) (Value.ref (s.heap.objs.size+1)::(us++ds)):=.cons rfl (r.append hd)
 have hl:(Value.ref (s.heap.objs.size+1)::us++ds).length=ps.length:=by
  have e:=r2.length
  rw[F.len _ _ _ _ hq] at e
  exact e.symm
 refine wpAny_call (Re (f:=f) I.kIn M.makes M.init (beq_iff_eq.mp M.fn) (codeAny_mono (F.run _ X.stack _ _ ⟨Value.ref (s.heap.objs.size+1)::us,[]⟩ (Value.ref (s.heap.objs.size+1)::(us++ds)) _ _ E (hr.make C us [])
  (I2.env0.make C us []) (hb _ (Value.ref (s.heap.objs.size+1)::us) I2.kIn hl) r2 hq) λr s' hq'=>?_))
 cases r with
 |error e=>exact hx pins σ _ _ e s' I2 hq'
 |ok fl=>
  cases fl with
  |ret u=>
   obtain⟨v,H',I3,rv,ev,q3⟩:=I2.after hq'
   subst ev
   exact⟨rv,⟨V.ref (s.heap.objs.size+1),H',I3,rfl,q3⟩⟩
  |next=>exact False.elim hq'
  |brk=>exact False.elim hq'
  |cont=>exact False.elim hq'
theorem zbq (M:Mk X.K C f)(F:FnOk X.prog X.w X.K X.mg X.base CX k f fd ps sp)(hr:Room (k+1) X.A)(hg:Gl X x)(hm:X.mg x=some (.ref C))(hb:Binds X.K fd ps ds)(hd:Vals dvs ds)(hx:Passes CX X E)
  (ha:PA X (e::es) t) (hdb:#[8]=false:=by decide) (he:starEach (e::es) X.env=(false,eval e X.env)::starEach es X.env:=by rfl) (hpl:#[11].any (·.1)=false:=by rfl) :
  PE X #[12] (tMake C sp dvs E t):=by
 intro pins s σ H Q I h
 refine wpAny_Call_Name_kw (yr I hg hm ?_ hdb)
 refine PySem.W.callWith_K (h₀:=X.base) I.ok.mod.kin M.kp (thn (ha pos pins s σ H _ I h) λus s1 ⟨vs,H1,I1,r,q⟩=>⟨I1.kIn,?_⟩) he hpl
 exact zeh M F hr hb hd hx I1 r q
end
section
variable {X:Cx}{CX:CXT}{k:Nat}{f C:Addr}{fd:FuncData}{ps ks:List Str}{sp:Sp}{E:XK}{x m:Str}{p pos apos kpos:Pos}{e o:Expr}{es:List Expr}{kws:List Keyword}{te ta:TE}{t tk:TA}{nm:Option Str}
structure KBinds (K:PySem.W.Frag)(fd:FuncData)(ps ks:List Str)(g:List Value->List Value->List Value)(gV:List V->List V->List V):Prop where
 to:∀(s:Shared) (us ws:List Value),K.In s.heap->(g us ws).length=ps.length->BindsTo s fd ⟨us,ks.zip ws⟩ (ps.zip (g us ws))
 rel:∀ {vs:List V} {us:List Value} {zs:List V} {ws:List Value},Vals vs us->Vals zs ws->Vals (gV vs zs) (g us ws)
variable {g:List Value->List Value->List Value}{gV:List V->List V->List V}
end
structure FnScope (N P:List Str)(sc:Scope):Prop where
 kind:sc.kind=.function
 co:sc.isCoroutine=false
 gen:sc.isGenerator=false
 nd:N.Nodup
 pre:N.take P.length=P
 par:∀x∈P,sc.names.lookup x=some .local∨sc.names.lookup x=some .cell
 nofree:∀y∈sc.names,y.2≠.free
theorem JI {kindOf:Str->Option NameKind}{x:Str}:∀ {binds:List (Str×Value)} {m:Str->Option Value},(∀v,(x,v)∉binds)->bindL kindOf binds m x=m x
 | [],_,_=>rfl
 | (n,v)::r,m,h=>by
  unfold bindL
  rw[JI λw hw=>h w (List.mem_cons_of_mem _ hw)]
  split
  ·have:x≠n:=by rintro rfl;exact h v List.mem_cons_self
   simp[this]
  ·rfl
theorem Qa {kindOf:Str->Option NameKind}{x:Str}:∀ {binds:List (Str×Value)} {m:Str->Option Value},(∀v,(x,v)∉binds)->bindC kindOf binds m x=m x
 | [],_,_=>rfl
 | (n,v)::r,m,h=>by
  unfold bindC
  rw[Qa λw hw=>h w (List.mem_cons_of_mem _ hw)]
  split
  ·rfl
  ·have:x≠n:=by rintro rfl;exact h v List.mem_cons_self
   simp[this]
theorem Qh {kindOf:Str->Option NameKind}{x:Str}{v:Value}:∀ {P:List Str} {vs:List Value} {i:Nat} {m:Str->Option Value},P.Nodup->P[i]?=some x->vs[i]?=some v->kindOf x=some .local ->
  bindL kindOf (P.zip vs) m x=some v
 | [],_,_,_,_,h,_,_=>by simp at h
 |_::_,[],_,_,_,_,h,_=>by simp at h
 |p::P,w::vs,0,m,nd,h1,h2,hk=>by
  simp at h1 h2;subst h1;subst h2
  show bindL kindOf ((p,w)::P.zip vs) m p=_
  unfold bindL
  rw[JI λv hv=>(List.nodup_cons.mp nd).1 (List.of_mem_zip hv).1,if_pos hk]
  simp
 |p::P,w::vs,i+1,m,nd,h1,h2,hk=>by
  show bindL kindOf ((p,w)::P.zip vs) m x=_
  unfold bindL
  exact Qh (i:=i) (List.nodup_cons.mp nd).2 (by simpa using h1) (by simpa using h2) hk
theorem J5 {kindOf:Str->Option NameKind}{x:Str}{v:Value}:∀ {P:List Str} {vs:List Value} {i:Nat} {m:Str->Option Value},P.Nodup->P[i]?=some x->vs[i]?=some v->kindOf x≠some .local ->
  bindC kindOf (P.zip vs) m x=some v
 | [],_,_,_,_,h,_,_=>by simp at h
 |_::_,[],_,_,_,_,h,_=>by simp at h
 |p::P,w::vs,0,m,nd,h1,h2,hk=>by
  simp at h1 h2;subst h1;subst h2
  show bindC kindOf ((p,w)::P.zip vs) m p=_
  unfold bindC
  rw[Qa λv hv=>(List.nodup_cons.mp nd).1 (List.of_mem_zip hv).1,if_neg hk]
  simp
 |p::P,w::vs,i+1,m,nd,h1,h2,hk=>by
  show bindC kindOf ((p,w)::P.zip vs) m x=_
  unfold bindC
  exact J5 (i:=i) (List.nodup_cons.mp nd).2 (by simpa using h1) (by simpa using h2) hk
def start (N:List Str)(vs:List V):St:=vs.map some++List.replicate (N.length - vs.length) none
def cxOf (CX:CXT)(P:Program)(w:World)(K:PySem.W.Frag)(mg:Str->Option Value)(base:Heap)(N:List Str)(qual:Str)(scope:Scope)(f:Addr)(cd:Value)(A:Around)(outer:List Env)(s:Shared)(H:Hp)(E:XK):Cx where
 prog:=P
 w:=w
 K:=K
 mg:=mg
 base:=base
 A:=A.deeper (envOfC qual scope s.heap.objs.size f cd)
 N:=N
 s₀:=s
 H₀:=H
 env:=envOfC qual scope s.heap.objs.size f cd
 outer:=outer
 stack:=envOfC qual scope s.heap.objs.size f cd::outer
 ex:=[]
 calm:=true
 fn:=λ_=>true
 pn:=[]
 xe:=λe s'=>wpAny (model P w) (A.deeper (envOfC qual scope s.heap.objs.size f cd)) (leaving (envOfC qual scope s.heap.objs.size f cd) e) (λ_ s''=>CX outer H s E e s'') (λe' s''=>CX outer H s E e' s'') s'
theorem WU {sc:Scope}{n:Nat}{x:Str}(h:sc.names.lookup x=some .cell):∃c,(cellsFrom n sc.names []).lookup x=some c:=by
 have q:=PySem.W.cellsFrom_some sc.names n [] (.inl h)
 exact Option.isSome_iff_exists.mp q
theorem U5 {CX:CXT}{P:Program}{w:World}{K:PySem.W.Frag}{mg:Str->Option Value}{base:Heap}{N ps:List Str}{qual:Str}{scope:Scope}{f:Addr}{cd:Value}{A:Around}{outer:List Env}{s s1:Shared}{H:Hp}{E:XK}{us:List Value}{vs:List V}
  (S:FnScope N ps scope) (hd:A.handled=none) (e0:Env0 P w K mg base A outer s H) (hl:vs.length=ps.length) (r:Vals vs us)
  (x:InCallC s s.heap.objs.size (bindL (envOfC qual scope s.heap.objs.size f cd).kindOf (ps.zip us) λ_=>none) (cellsFrom (s.heap.objs.size+1) scope.names []) (bindC (envOfC qual scope s.heap.objs.size f cd).kindOf (ps.zip us) λ_=>none) s1) :
  Inv (cxOf CX P w K mg base N qual scope f cd A outer s H E) [] (start N vs) H s1:=by
 have hpl:ps.length<=N.length:=by have:=congrArg List.length S.pre;rw[List.length_take] at this;omega
 obtain⟨h1,tk,rfl,hk⟩:=x.done
 have noA:∀b:Addr,b∉(cxOf CX P w K mg base N qual scope f cd A outer s H E).ex:=λb z=>absurd (show b∈([]:List Addr) from z) (by simp)
 refine⟨⟨e0.mod,S.kind,rfl,rfl,Nat.le_refl _,λy z c h1 h2=>?_,λy hy=>?_,λy c _ h=>?_,λ_=>hd,Around.frames_deeper e0.frames,.inr ⟨rfl,rfl⟩,λb z=>absurd z (noA b),e0.bs,e0.bsz,λb _ _=>noA b,λb z=>absurd z (noA b),e0.funs,e0.frf⟩,
  rfl,e0.bare,Un.kept hk,⟨_,x.toInCall.ns,λi y v h1 h2 h3=>?_⟩,λy c h=>⟨_,x.cell y c h⟩,e0.hok.fresh (Nat.le_refl _),λy c h=>?_,λp hp=>absurd (show p∈([]:List (Addr×Obj)) from hp) (by simp),e0.hok.kept hk,?_⟩
 ·exact name_of_addr x.apart (PySem.mem_of_lookup h1) (PySem.mem_of_lookup h2)
 ·have hy:scope.names.lookup y=some .cell∨scope.names.lookup y=some .free:=hy
  rcases hy with hy | hy
  ·exact WU hy
  ·exact absurd rfl (S.nofree _ (PySem.mem_of_lookup hy))
 ·exact Nat.le_of_lt (x.above y c (PySem.mem_of_lookup h))
 ·have hi:i < vs.length:=by
   unfold start at h2
   by_cases hi:i < vs.length
   ·exact hi
   ·rw[List.getElem?_append_right (by simpa using hi)] at h2
    rw[List.getElem?_replicate] at h2
    split at h2<;>cases h2
  have ha:vs[i]?=some v:=by
   unfold start at h2
   rw[List.getElem?_append_left (by simpa using hi),List.getElem?_map] at h2
   cases e:vs[i]? with
   |none=>rw[e] at h2;cases h2
   |some a=>rw[e] at h2;cases h2;rfl
  obtain⟨u,hu,rv⟩:=r.get ha
  have hp:ps[i]?=some y:=by
   rw[<-S.pre,List.getElem?_take_of_lt #[1]];exact h1
  have ndP:ps.Nodup:=by rw[<-S.pre];exact S.nd.sublist (List.take_sublist _ _)
  refine⟨u,rv,?_⟩
  rcases S.par y (List.mem_of_getElem? hp) with k | k
  ·exact .inl ⟨k,Qh ndP hp hu k⟩
  ·obtain⟨c,e⟩:=WU (n:=s.heap.objs.size+1) k
   refine .inr ⟨.inl k,c,e,?_⟩
   have q:=x.cell y c e
   rw[J5 ndP hp hu (by show scope.names.lookup y≠_;rw[k];decide)] at q
   exact q
 ·exact e0.hok.fresh (Nat.le_of_lt (x.above y c (PySem.mem_of_lookup h)))
 ·unfold start
  show _=N.length
  rw[List.length_append,List.length_map,List.length_replicate]
  omega
theorem Yc {CX:CXT}{P:Program}{w:World}{K:PySem.W.Frag}{mg:Str->Option Value}{base:Heap}{k:Nat}{f:Addr}{name qual:Str}{params:Arguments}{body:List Stmt}{scope:Scope}{dV kV doc pm cdv ct oc:Value}{an od:Option Addr}
  {osl:Array (Option Value)} {N ps:List Str} {sp:Sp} (lk:K.lookup f=some ⟨oc,od,.func (fnOf name qual params body scope dV kV doc pm an cdv ct),osl⟩) (hcd:codeIn K cdv qual=true) (S:FnScope N ps scope)
  (len:∀vs H Q E,sp vs H Q E->vs.length=ps.length)
  (hbody:∀(A:Around) (outer:List Env) (s:Shared) (H:Hp) (vs:List V) (Q:VK) (E:XK),Room k (A.deeper (envOfC qual scope s.heap.objs.size f cdv))->sp vs H Q E ->
   ∃t,PSs (cxOf CX P w K mg base N qual scope f cdv A outer s H E) body t/\t { nx:=λ_ H'=>Q .non H',rt:=Q } (start N vs) H) :
  FnOk P w K mg base CX (k+1) f (fnOf name qual params body scope dV kV doc pm an cdv ct) ps sp:=by
 refine⟨len,λA outer s H args us vs Q E hr e0 hb r hsp=>?_⟩
 have hl:=len _ _ _ _ hsp
 have KX:K.In s.heap:=e0.mod.kin.keeps λb o e=>(e0.bs b o e).1
 have lim:s.heap.NoLimit:=e0.mod.nolimit.keeps λb o e=>(e0.bs b o e).1
 have hkind:∀y∈ps.zip us,scope.names.lookup y.1=some .local∨(scope.names.lookup y.1=some .cell/\((cellsFrom (s.heap.objs.size+1) scope.names []).lookup y.1).isSome=true):=fun⟨n,v⟩ hy=>by
  rcases S.par n (List.of_mem_zip hy).1 with q | q
  ·exact .inl q
  ·exact .inr ⟨q,PySem.W.cellsFrom_some _ _ _ (.inl q)⟩
 refine codeAny_call_function hr.depth (KX _ _ lk) rfl S.co S.gen rfl (PySem.W.codeRec_of KX hcd) (hb _ _ _ _ ?_)
 refine wpAny_newFunctionEnv_cells S.kind hkind λenv he s1 x=>?_
 subst he
 refine⟨lim.keeps x.toInCall.keep,codeAny_func ?_⟩
 obtain⟨t,ht,hq⟩:=hbody A outer s H vs Q E (hr.deeper _) hsp
 have I:Inv (cxOf CX P w K mg base N qual scope f cdv A outer s H E) [] (start N vs) H s1:=U5 S hr.hd e0 hl r x
 refine wpAny_mono (ht [] s1 (start N vs) H _ I hq) (λfl s' hs=>?_) λe s' hs=>hs
 have fin:∀ {σ':St} {H':Hp} {v:V} {u:Value},Inv (cxOf CX P w K mg base N qual scope f cdv A outer s H E) [] σ' H' s'->RelV v u->Q v H'->CE outer P w H s Q u s' :=
  fun {σ' H' v u} J rv q=>⟨v,H',J.os,J.bare,J.base,J.hok,rv,q⟩
 cases fl with
 |ret u=>
  obtain⟨v,σ',H',J,rv,q⟩:=hs
  exact fin J rv q
 |next=>
  obtain⟨σ',H',J,q⟩:=hs
  exact fin (v:=V.non) (u:=Value.none) J rfl q
 |brk=>
  obtain⟨_,_,_,q⟩:=hs
  exact False.elim q
 |cont=>
  obtain⟨_,_,_,q⟩:=hs
  exact False.elim q
section
variable {X:Cx}{x:Str}{p pos:Pos}{e:Expr}{es:List Expr}{t:TA}{id T:String}{r:List V->Hp->VK->Prop}
def tCB (r:List V->Hp->VK->Prop)(t:TA):TE:=λσ H Q=>t σ H λvs H1=>r vs H1 Q
theorem ua (hc:CallR X (.builtin id) r)(hg:Gl X x)(hm:X.mg x=none)(hv:bootBuiltins x=some (.builtin id))(ha:PA X (e::es) t)(hn:x ≠ "__name__" := by decide) (hdb:#[8]=false:=by decide)
  (he:starEach (e::es) X.env=(false,eval e X.env)::starEach es X.env:=by rfl) (hpl:#[11].any (·.1)=false:=by rfl):PE X #[12] (tCB r t):=by
 intro pins s σ H Q I h
 refine wpAny_Call_Name_kw (vq I hg hm hv ?_ hn hdb)
 exact PyProof.Rows.callWith_builtin1 (thn (ha pos pins s σ H _ I h) λus s1 ⟨vs,H1,I1,r1,q1⟩=>hc pins s1 σ H1 vs us Q I1 r1 q1) he hpl
theorem uZ (hc:CallR X (.type T) r)(hg:Gl X x)(hm:X.mg x=none)(hv:bootBuiltins x=some (.type T))(ha:PA X (e::es) t)(hn:x ≠ "__name__" := by decide) (hdb:#[8]=false:=by decide)
  (he:starEach (e::es) X.env=(false,eval e X.env)::starEach es X.env:=by rfl) (hpl:#[11].any (·.1)=false:=by rfl):PE X #[12] (tCB r t):=by
 intro pins s σ H Q I h
 refine wpAny_Call_Name_kw (vq I hg hm hv ?_ hn hdb)
 exact PyProof.Rows.callWith_type1 (thn (ha pos pins s σ H _ I h) λus s1 ⟨vs,H1,I1,r1,q1⟩=>hc pins s1 σ H1 vs us Q I1 r1 q1) he hpl
end
end L2
namespace HT
open PySem PyProof.Rows
section
open PySem.SeqAt
open PySem.AutoSeq1 (wpAny_loadPart')
open PySem.MeetsSeq PySem.MeetsSeq2 PySem.MeetsSeq3
end
section
variable {prog:Program}{w:World}{A:Around}{E:Value->Shared->Prop}{s:Shared}
def sIx (n d:Nat):Option Int->Nat
 |none=>d
 |some v=>if v < 0 then (v+(n:Int)).toNat else min v.toNat n
theorem sIx_nat (n d k:Nat):sIx n d (some (k:Int))=min k n:=by
 show (if (k:Int) < 0 then ((k:Int)+(n:Int)).toNat else min (k:Int).toNat n)=min k n
 rw[if_neg #[1],Int.toNat_natCast]
end
end HT
namespace L2
open PySem PySem.Spec PyProof.Rows
abbrev TO:=St->Hp->(Option Int->Hp->Prop)->Prop
def PO (X:Cx)(e:Option Expr)(t:TO):Prop :=
 ∀(pins:List (Addr×Obj)) (s:Shared) (σ:St) (H:Hp) (Q:Option Int->Hp->Prop),Inv X pins σ H s->t σ H Q ->
  wpAny #[4] X.A (evalPart e X.env) (λu s'=>∃o H',Inv X pins σ H' s'/\IsPart u o/\Q o H') X.xe s
def Gc:TO:=λ_ H Q=>Q none H
def tPart (t:TE):TO:=λσ H Q=>t σ H λx H1=>∃i,x=.int i/\Q (some i) H1
section
variable {X:Cx}{e:Expr}{te:TE}{lo hi:Option Expr}{tl th:TO}{pos p2:Pos}
theorem G6:PO X none Gc:=by
 intro pins s σ H Q I h
 rw[evalPart_none]
 exact wpAny_pure ⟨none,H,I,.none,h⟩
theorem Rz (h:PE X e te):PO X (some e) (tPart te):=by
 intro pins s σ H Q I hw
 rw[evalPart_some]
 refine thn (h pins s σ H _ I hw) λu s1 ⟨x,H1,I1,r1,q1⟩=>?_
 obtain⟨i,rfl,q⟩:=q1
 obtain⟨t,rfl⟩:=r1
 exact⟨some i,H1,I1,.int i t,q⟩
def SlR (X:Cx)(r:V->Option Int->Option Int->Hp->VK->Prop):Prop :=
 ∀(pins:List (Addr×Obj)) (s:Shared) (σ:St) (H:Hp) (x:V) (v vl vu:Value) (lo hi:Option Int) (sl:Addr) (Q:VK),Inv X pins σ H s->RelV x v->s.heap.IsSliceOf sl vl vu .none->IsPart vl lo->IsPart vu hi->r x lo hi H Q ->
  ∃T id,typeLookup (.type T) "__getitem__" = pure (some (.builtin id))/\s.TypeIs v T/\wpAny #[4] X.A (getItem v (.ref sl)) (EP X pins σ Q) X.xe s
def tSl (r:V->Option Int->Option Int->Hp->VK->Prop)(te:TE)(tl th:TO):TE:=λσ H Q=>te σ H λx H1=>tl σ H1 λl H2=>th σ H2 λu H3=>r x l u H3 Q
theorem WZ {r:V->Option Int->Option Int->Hp->VK->Prop}(hr:SlR X r)(he:PE X e te)(hl:PO X lo tl)(hu:PO X hi th):PE X (.Subscript e (.Slice lo hi none p2) pos) (tSl r te tl th):=by
 intro pins s σ H Q I h
 refine Subscript_ (thn (he pins s σ H _ I h) λv s1 ⟨x,H1,I1,r1,q1⟩=>?_)
 refine wpAny_Slice (thn (hl pins s1 σ H1 _ I1 q1) λvl s2 ⟨l,H2,I2,pl,q2⟩=>thn (hu pins s2 σ H2 _ I2 q2) λvu s3 ⟨u,H3,I3,pu,q3⟩=>?_)
 rw[evalPart_none]
 refine wpAny_pure ?_
 have I4:Inv X pins σ H3 { s3 with heap:=s3.heap.push { cls:=.type "slice",data:=.fields #[vl,vu,.none] } }:=I3.kept (t':=s3.toks) λb ob q=>Heap.get?_push_of_some _ q
 obtain⟨T,id,hT,ht,hg⟩:=hr pins { s3 with heap:=s3.heap.push { cls:=.type "slice",data:=.fields #[vl,vu,.none] } } σ H3 x v vl vu l u s3.heap.objs.size Q I4 r1 (Heap.IsSliceOf.new ..) pl pu q3
 show wpAny #[4] X.A (subscriptTail e (.Slice lo hi none p2) v (.ref s3.heap.objs.size)) (EP X pins σ Q) X.xe { s3 with heap:=s3.heap.push { cls:=.type "slice",data:=.fields #[vl,vu,.none] } }
 exact tail_any (ops:=[.ref s3.heap.objs.size,v]) ht hT hg (by with_unfolding_all rfl)
def cutV (xs:List V)(lo hi:Option Int):List V:=(xs.drop (HT.sIx xs.length 0 lo)).take (HT.sIx xs.length xs.length hi - HT.sIx xs.length 0 lo)
theorem za0 (xs:List V)(lo hi:Option Int):(cutV xs lo hi).length<=xs.length:=by
 unfold cutV
 rw[List.length_take,List.length_drop]
 omega
end
def ixN (n:Nat)(i:Int):Option Nat:=if 0<=i then (if i < n then some i.toNat else none) else if -(n:Int)<=i then some (i+n).toNat else none
def atI {α:Type}(xs:List α)(i:Int):Option α:=(ixN xs.length i).bind λj=>xs[j]?
theorem VJ {n:Nat}{i:Int}{j:Nat}(h:ixN n i=some j):seqIndex? i n=some j/\j < n/\-(n:Int)<=i/\i < n:=by
 unfold ixN at h
 by_cases h0:0<=i
 ·rw[if_pos h0] at h
  by_cases h1:i < n
  ·rw[if_pos h1] at h
   have e:i.toNat=j:=Option.some.inj h
   exact⟨by rw[seqIndex_of h0 h1,e],by omega,by omega,h1⟩
  ·rw[if_neg h1] at h;cases h
 ·rw[if_neg h0] at h
  by_cases h1:-(n:Int)<=i
  ·rw[if_pos h1] at h
   have e:(i+n).toNat=j:=Option.some.inj h
   exact⟨by rw[seqIndex_neg #[1] h1,e],by omega,h1,by omega⟩
  ·rw[if_neg h1] at h;cases h
theorem ue {α:Type}{xs:List α}{i:Int}{v:α}(h:atI xs i=some v):∃j,seqIndex? i xs.length=some j/\xs[j]?=some v/\j < xs.length/\-(xs.length:Int)<=i/\i < xs.length:=by
 unfold atI at h
 cases e:ixN xs.length i with
 |none=>rw[e] at h;cases h
 |some j=>
  rw[e] at h
  obtain⟨h1,h2,h3,h4⟩:=VJ e
  exact⟨j,h1,h,h2,h3,h4⟩
theorem atI_nat {α:Type}{xs:List α}{j:Nat}{v:α}(h:xs[j]?=some v):atI xs (j:Int)=some v:=by
 have hj:j < xs.length:=(List.getElem?_eq_some_iff.mp h).1
 have e:ixN xs.length (j:Int)=some j:=by
  unfold ixN
  rw[if_pos #[1],if_pos #[1]];simp
 unfold atI;rw[e];exact h
def ZF (b:Expr):Prop:=∀o i,subscripted b false o i=operate [o,i] (getItem o i)
def IxR (X:Cx)(r:R2):Prop :=
 ∀(value slice:Expr) (pins:List (Addr×Obj)) (s:Shared) (σ:St) (H:Hp) (x y:V) (v u:Value) (Q:VK),Inv X pins σ H s->RelV x v->RelV y u->r x y H Q ->
  subscripted slice false v u=operate [v,u] (getItem v u)->wpAny #[4] X.A (subscriptTail value slice v u) (EP X pins σ Q) X.xe s
def MtR (X:Cx)(id:String)(r:V->List V->Hp->VK->Prop):Prop :=
 ∀(pins:List (Addr×Obj)) (s:Shared) (σ:St) (H:Hp) (x:V) (xs:List V) (v:Value) (us:List Value) (Q:VK),Inv X pins σ H s->RelV x v->Vals xs us->r x xs H Q ->
  wpAny #[4] X.A (call (.builtin id) (v::us)) (EP X pins σ Q) X.xe s
section
variable {X:Cx}{a b:Expr}{ta tb:TE}{pos:Pos}
theorem IxR.or {r r':R2}(h:IxR X r)(h':IxR X r'):IxR X (λx y H Q=>r x y H Q∨r' x y H Q):=by
 intro value slice pins s σ H x y v u Q I rx ry q hs
 rcases q with q | q
 ·exact h value slice pins s σ H x y v u Q I rx ry q hs
 ·exact h' value slice pins s σ H x y v u Q I rx ry q hs
theorem R7 {r:R2}(hr:IxR X r)(ha:PE X a ta)(hb:PE X b tb)(hs:ZF b):PE X (.Subscript a b pos) (tOp r ta tb):=by
 intro pins s σ H Q I h
 exact Subscript_ (binT ha hb I h λv u s2 x y H2 I2 rx ry q=>hr a b pins s2 σ H2 x y v u Q I2 rx ry q (hs _ _))
def rIxL (K:PySem.W.Frag):R2:=λx y H Q=>∃p xs i v,x=.ref p/\y=.int i/\SqL K H p xs/\atI xs i=some v/\Q v H
def rIxT (K:PySem.W.Frag):R2:=λx y H Q=>∃p xs i v,x=.ref p/\y=.int i/\SqT K H p xs/\atI xs i=some v/\Q v H
def rIxS:R2:=λx y H Q=>∃z i c,x=.str z/\y=.int i/\z.length<=sizeLine/\atI z.cps.toList i=some c/\Q (.str ⟨#[c]⟩) H
theorem ix_list:IxR X (rIxL X.K):=by
 intro value slice pins s σ H x y v u Q I rx ry h hs
 obtain⟨p,xs,i,z,rfl,rfl,hq,he,q⟩:=h
 cases rx
 obtain⟨t,rfl⟩:=ry
 obtain⟨its,r,pl,hz⟩:=I.list hq
 obtain⟨j,h1,h2,h3,h4,h5⟩:=ue he
 obtain⟨w,ew,rw'⟩:=r.get h2
 have hl:=r.length
 have hn:=line63
 have fin:EP X pins σ Q w s:=⟨z,H,I,rw',q⟩
 by_cases h0:0<=i
 ·have hj:i.toNat=j:=by
   rw[seqIndex_of h0 h5] at h1
   exact Option.some.inj h1
  exact item_listR pl.isList h0 #[1] (by rw[hj];simpa using ew) fin hs
 ·have hj:(i+(its.toArray.size:Int)).toNat=j:=by
   rw[seqIndex_neg #[1] h4] at h1
   rw[List.size_toArray,<-hl]
   exact Option.some.inj h1
  exact subscriptTail_builtinR (x:=w) pl.isList.typeIs slot_list_getitem.lookup
   (wpAny_getItem_list_neg (Q:=λr s'=>r=w/\EP X pins σ Q r s') pl.isList #[1] (by rw[List.size_toArray]<;>omega) #[1] (by rw[hj];simpa using ew) ⟨rfl,fin⟩) hs
theorem ix_tup:IxR X (rIxT X.K):=by
 intro value slice pins s σ H x y v u Q I rx ry h hs
 obtain⟨p,xs,i,z,rfl,rfl,hq,he,q⟩:=h
 cases rx
 obtain⟨t,rfl⟩:=ry
 obtain⟨its,r,pl,hz⟩:=I.tuple hq
 obtain⟨j,h1,h2,h3,h4,h5⟩:=ue he
 obtain⟨w,ew,rw'⟩:=r.get h2
 have hl:=r.length
 have hn:=line63
 have fin:EP X pins σ Q w s:=⟨z,H,I,rw',q⟩
 exact subscriptTail_builtinR (x:=w) pl.typeIs slot_tuple_getitem.lookup
  (getItem_tuple (j:=j) (Q:=λr s'=>r=w/\EP X pins σ Q r s') pl #[1] #[1] (by rw[List.size_toArray,<-hl];exact h1) (by simpa using ew) ⟨rfl,fin⟩) hs
theorem QO:IxR X rIxS:=by
 intro value slice pins s σ H x y v u Q I rx ry h hs
 obtain⟨z,i,c,rfl,rfl,hz,he,q⟩:=h
 obtain⟨t,rfl⟩:=rx
 obtain⟨t',rfl⟩:=ry
 obtain⟨j,h1,h2,h3,h4,h5⟩:=ue he
 have hl:z.cps.toList.length=z.length:=by simp[Str.length]
 rw[hl] at h1 h4 h5
 have hn:=line63
 exact tail_any (typeIs_str s z t) slot_str_getitem.lookup (getItem_str (c:=c) (by
  have e1:decide (i < -(2 ^ 63:Int))=false:=decide_eq_false #[1]
  have e2:decide (i≥2 ^ 63)=false:=decide_eq_false #[1]
  rw[e1,e2,Bool.or_false]) (by rw[h1];simpa using h2) ⟨.str ⟨#[c]⟩,H,I.tok _,⟨_,rfl⟩,q⟩) hs
def rIx (K:PySem.W.Frag):R2:=λx y H Q=>rIxL K x y H Q∨rIxT K x y H Q∨rIxS x y H Q
theorem KA:IxR X (rIx X.K):=ix_list.or (ix_tup.or QO)
theorem UG (its:List Value)(n j:Nat)(u:Value):Obj.mapSeq (·.setIfInBounds j u) { cls:=.type "list",data:=.seq its.toArray n }={ cls:=.type "list",data:=.seq (its.set j u).toArray n }:=by
 simp[Obj.mapSeq]
theorem Inv.lst {pins:List (Addr×Obj)}{σ:St}{H:Hp}{s:Shared}{p:Addr}{xs:List V}(I:Inv X pins σ H s)(h:H p=some (.lst xs)) :
  ∃(its:List Value) (n:Nat),Vals xs its/\s.heap.get? p=some { cls:=.type "list",data:=.seq its.toArray n }/\xs.length<=sizeLine:=by
 obtain⟨z,its,n,r,e⟩:=I.hok p _ h
 exact⟨its,n,r,e,z⟩
theorem Inv.lstUpd {pins:List (Addr×Obj)}{σ:St}{H:Hp}{s:Shared}{p:Addr}{xs ys:List V}{its its':List Value}{n n':Nat}{f:Obj->Obj}(I:Inv X pins σ H s)(h:H p=some (.lst xs))
  (ho:s.heap.get? p=some { cls:=.type "list",data:=.seq its.toArray n }) (hf:f { cls:=.type "list",data:=.seq its.toArray n }={ cls:=.type "list",data:=.seq its'.toArray n' }) (r:Vals ys its') (hz:ys.length<=sizeLine) (t:Nat) :
  Inv X pins σ (upd H p (.lst ys)) { s with heap:=s.heap.update p f,toks:=t }:=by
 have e:(s.heap.update p f).get? p=some { cls:=.type "list",data:=.seq its'.toArray n' }:=by
  rw[Heap.get?_update_self f ho (by rw[hf]<;>rfl),hf]
 refine I.write (x:=p) (e:=p) (by rw[h];trivial) (.inl rfl) (λb u hb q=>(Heap.get?_update_other _ _ (Ne.symm hb)).trans q) ⟨_,e⟩ ?_
 exact⟨hz,its',n',r,e⟩
def rSetL:V->V->V->Hp->(Hp->Prop)->Prop:=λo i v H Q=>∃p xs k j,o=.ref p/\i=.int k/\H p=some (.lst xs)/\ixN xs.length k=some j/\Q (upd H p (.lst (xs.set j v)))
theorem KZ:PSet X rSetL:=by
 intro pins s σ H o i v ov iv u Q I ro ri rv h
 obtain⟨p,xs,k,j,rfl,rfl,hp,hj,q⟩:=h
 cases ro
 obtain⟨t,rfl⟩:=ri
 obtain⟨its,n,r,ho,hz⟩:=I.lst hp
 obtain⟨h1,h2,h3,h4⟩:=VJ hj
 have hl:=r.length
 have hn:=line63
 have I':Inv X pins σ (upd H p (.lst (xs.set j v))) { s with heap:=s.heap.update p (Obj.mapSeq (·.setIfInBounds j u)) } :=
  I.lstUpd hp ho (UG its n j u) (r.set rv j) (by rw[List.length_set];exact hz) s.toks
 by_cases h0:0<=k
 ·have hk:k.toNat=j:=by
   rw[seqIndex_of h0 h4] at h1
   exact Option.some.inj h1
  exact PySem.W.ki_setAt ho h0 #[1] (by rw[List.size_toArray,<-hl];exact h4) (by rw[hk];exact⟨_,I',q⟩)
 ·have hk:(k+(its.toArray.size:Int)).toNat=j:=by
   rw[seqIndex_neg #[1] h3] at h1
   rw[List.size_toArray,<-hl]
   exact Option.some.inj h1
  exact PySem.W.ki_setBack ho #[1] (by rw[List.size_toArray,<-hl];exact h3) #[1] (by rw[hk];exact⟨_,I',q⟩)
theorem G2 (lo hi:Option Int)(n:Nat):(sliceBounds lo hi none n).1=((HT.sIx n 0 lo:Nat):Int)/\(sliceBounds lo hi none n).2.1=((HT.sIx n n hi:Nat):Int)/\(sliceBounds lo hi none n).2.2=1:=by
 refine⟨?_,?_,rfl⟩
 ·cases lo with
  |none=>simp[sliceBounds,HT.sIx]
  |some i=>
   simp only[sliceBounds,HT.sIx,Option.getD_none,show (1:Int) > 0 by decide,if_true]
   by_cases h:i < 0
   ·simp only[h,if_true]<;>omega
   ·simp only[h,if_false]<;>omega
 ·cases hi with
  |none=>simp[sliceBounds,HT.sIx]
  |some i=>
   simp only[sliceBounds,HT.sIx,Option.getD_none,show (1:Int) > 0 by decide,if_true]
   by_cases h:i < 0
   ·simp only[h,if_true]<;>omega
   ·simp only[h,if_false]<;>omega
theorem zf6 (its:List Value)(lo hi:Option Int):slicePick its.toArray lo hi none=((its.drop (HT.sIx its.length 0 lo)).take (HT.sIx its.length its.length hi - HT.sIx its.length 0 lo)).toArray:=by
 obtain⟨h1,h2,h3⟩:=G2 lo hi its.toArray.size
 unfold slicePick
 rw[h1,h2,h3]
 simp only[sliceRange_one,pick_run,List.size_toArray]<;>rfl
def rSlL (K:PySem.W.Frag):V->Option Int->Option Int->Hp->VK->Prop:=λx lo hi H Q=>∃a xs,x=.ref a/\SqL K H a xs/\∀p,H p=none->Q (.ref p) (upd H p (.lst (cutV xs lo hi)))
theorem Uk:SlR X (rSlL X.K):=by
 intro pins s σ H x v vl vu lo hi sl Q I rx hs pl pu h
 obtain⟨a,xs,rfl,hx,q⟩:=h
 cases rx
 obtain⟨its,r,ht,hz⟩:=I.list hx
 have hlen:=r.length
 refine⟨"list",_,slot_list_getitem.lookup,ht.isList.typeIs,?_⟩
 refine wpAny_getItem_list_slice ht.isList hs pl pu .none (by simp) ?_ (by rw[List.size_toArray]<;>omega)
 rw[zf6,<-hlen]
 refine⟨.ref s.heap.objs.size,_,I.laid (t':=s.toks) (o:=.lst (cutV xs lo hi)) (λb ob q=>Heap.get?_push_of_some _ q) (Nat.le_refl _) ?_,rfl,q _ (I.hok.fresh (Nat.le_refl _))⟩
 exact⟨Nat.le_trans (za0 xs lo hi) hz,_,0,(r.drop (HT.sIx xs.length 0 lo)).take (HT.sIx xs.length xs.length hi - HT.sIx xs.length 0 lo),Heap.get?_push_size _ rfl⟩
def flatV:V->Bool
 |.non=>true
 |.bl _=>true
 |.int _=>true
 |.str _=>true
 |_=>false
def eqV:V->V->Bool
 |.non,.non=>true
 |.bl a,.bl b=>a==b
 |.bl a,.int b=>(if a then 1 else 0)==b
 |.int a,.bl b=>a==(if b then 1 else 0)
 |.int a,.int b=>a==b
 |.str a,.str b=>a==b
 |_,_=>false
theorem RB {A:Around}{s:Shared}{y x:V}{u v:Value}(ry:RelV y u)(rx:RelV x v)(fy:flatV y=true)(fx:flatV x=true):SeqAt.EqAt A s u v (eqV y x):=by
 cases y with
 |non=>
  cases ry
  cases x with
  |non=>cases rx;exact SeqAt.EqAt.same _
  |bl b=>cases rx;exact SeqAt.EqAt.none_bool b
  |int b=>obtain⟨t,rfl⟩:=rx;exact SeqAt.EqAt.none_int b t
  |str b=>obtain⟨t,rfl⟩:=rx;exact SeqAt.EqAt.none_str b t
  |_=>exact absurd (show false=true from fx) Bool.false_ne_true
 |bl a=>
  cases ry
  cases x with
  |non=>cases rx;exact SeqAt.EqAt.bool_none a
  |bl b=>cases rx;exact SeqAt.EqAt.bool_bool a b
  |int b=>obtain⟨t,rfl⟩:=rx;exact SeqAt.EqAt.bool_int a b t
  |str b=>obtain⟨t,rfl⟩:=rx;exact SeqAt.EqAt.bool_str a b t
  |_=>exact absurd (show false=true from fx) Bool.false_ne_true
 |int a=>
  obtain⟨t',rfl⟩:=ry
  cases x with
  |non=>cases rx;exact SeqAt.EqAt.int_none a t'
  |bl b=>cases rx;exact SeqAt.EqAt.int_bool a t' b
  |int b=>obtain⟨t,rfl⟩:=rx;exact SeqAt.EqAt.int_int a t' b t
  |str b=>obtain⟨t,rfl⟩:=rx;exact SeqAt.EqAt.int_str a t' b t
  |_=>exact absurd (show false=true from fx) Bool.false_ne_true
 |str a=>
  obtain⟨t',rfl⟩:=ry
  cases x with
  |non=>cases rx;exact SeqAt.EqAt.str_none a t'
  |bl b=>cases rx;exact SeqAt.EqAt.str_bool a t' b
  |int b=>obtain⟨t,rfl⟩:=rx;exact SeqAt.EqAt.str_int a t' b t
  |str b=>obtain⟨t,rfl⟩:=rx;exact SeqAt.EqAt.str_str a t' b t
  |_=>exact absurd (show false=true from fx) Bool.false_ne_true
 |_=>exact absurd (show false=true from fy) Bool.false_ne_true
def eqU (x:V)(u:Value):Bool:=match u with
 |.none=>eqV .non x
 |.bool b=>eqV (.bl b) x
 |.int i _=>eqV (.int i) x
 |.str z _=>eqV (.str z) x
 |_=>false
theorem YY {x y:V}{u:Value}(r:RelV y u)(f:flatV y=true):eqU x u=eqV y x:=by
 cases y with
 |non=>cases r;rfl
 |bl b=>cases r;rfl
 |int i=>obtain⟨t,rfl⟩:=r;rfl
 |str z=>obtain⟨t,rfl⟩:=r;rfl
 |_=>exact absurd (show false=true from f) Bool.false_ne_true
theorem j3 {x:V}:∀ {xs:List V} {us:List Value},Vals xs us->xs.all flatV=true->us.any (eqU x)=xs.any λy=>eqV y x
 |_,_,.nil,_=>rfl
 |y::xs,u::us,.cons r t,f=>by
  rw[List.all_cons,Bool.and_eq_true] at f
  rw[List.any_cons,List.any_cons,YY r f.1,j3 t f.2]
theorem vL {A:Around}{s:Shared}{x:V}{v:Value}(rx:RelV x v)(fx:flatV x=true):∀ {xs:List V} {us:List Value},Vals xs us->xs.all flatV=true->∀u∈us,SeqAt.EqAt A s u v (eqU x u)
 |_,_,.nil,_=>λu hu=>by cases hu
 |y::xs,u::us,.cons r t,f=>λu' hu=>by
  rw[List.all_cons,Bool.and_eq_true] at f
  rcases List.mem_cons.mp hu with rfl | hu
  ·rw[YY r f.1];exact RB r rx f.1 fx
  ·exact vL rx fx t f.2 u' hu
def inV (x:V)(xs:List V):Bool:=xs.any λy=>eqV y x
def rIn (K:PySem.W.Frag)(neg:Bool):R2:=λx y H Q=>∃p xs,y=.ref p/\(SqL K H p xs∨SqT K H p xs)/\flatV x=true/\xs.all flatV=true/\Q (.bl (if neg then !inV x xs else inV x xs)) H
theorem op_in_seq:OpR X (compareOp .In) (rIn X.K false):=by
 intro pins s σ H x y v u Q I rx ry h
 obtain⟨p,xs,rfl,hq,fx,fs,q⟩:=h
 cases ry
 rcases hq with hq | hq
 ·obtain⟨its,r,pl,hz⟩:=I.list hq
  refine SeqAt.in_listAt (eqU x) pl.isList (λw hw=>vL rx fx r fs w (by simpa using hw)) ⟨.bl _,H,I,rfl,?_⟩
  rw[show its.toArray.any (eqU x)=its.any (eqU x) by simp,j3 r fs]
  exact q
 ·obtain⟨its,r,pl,hz⟩:=I.tuple hq
  refine SeqAt.in_tupleAt (eqU x) pl (λw hw=>vL rx fx r fs w (by simpa using hw)) ⟨.bl _,H,I,rfl,?_⟩
  rw[show its.toArray.any (eqU x)=its.any (eqU x) by simp,j3 r fs]
  exact q
theorem op_notIn_seq:OpR X (compareOp .NotIn) (rIn X.K true):=by
 intro pins s σ H x y v u Q I rx ry h
 obtain⟨p,xs,rfl,hq,fx,fs,q⟩:=h
 cases ry
 rcases hq with hq | hq
 ·obtain⟨its,r,pl,hz⟩:=I.list hq
  refine SeqAt.notIn_listAt (eqU x) pl.isList (λw hw=>vL rx fx r fs w (by simpa using hw)) ⟨.bl _,H,I,rfl,?_⟩
  rw[show its.toArray.any (eqU x)=its.any (eqU x) by simp,j3 r fs]
  exact q
 ·obtain⟨its,r,pl,hz⟩:=I.tuple hq
  refine SeqAt.notIn_tupleAt (eqU x) pl (λw hw=>vL rx fx r fs w (by simpa using hw)) ⟨.bl _,H,I,rfl,?_⟩
  rw[show its.toArray.any (eqU x)=its.any (eqU x) by simp,j3 r fs]
  exact q
theorem UY:OpR X (compareOp .NotIn) (λx y H Q=>∃i j,x=.str i/\y=.str j/\Q (.bl (!(!(Builtin.Str.occurrences j i 0 j.length 1).isEmpty))) H):=by
 intro pins s σ H x y v u Q I rx ry h
 obtain⟨i,j,rfl,rfl,q⟩:=h
 obtain⟨t,rfl⟩:=rx
 obtain⟨t',rfl⟩:=ry
 exact notIn_str ⟨.bl _,H,I,rfl,q⟩
def tyV (K:PySem.W.Frag)(T:String)(x:V)(H:Hp):Prop:=match x with
 |.str _=>T = "str"
 |.int _=>T = "int"
 |.ref p=>(T = "list" /\ ∃xs,SqL K H p xs)∨(T = "tuple" /\ ∃o,K.lookup p=some o/\o.cls=.type "tuple" /\ o.dict=none) ∨
   (T = "dict" /\ ((∃kvs,H p=some (.dK kvs))∨∃kvs,H p=some (.dT kvs)))∨(T = "set" /\ ∃S n,H p=some (.set S n))
 |_=>False
theorem Jk {pins:List (Addr×Obj)}{σ:St}{H:Hp}{s:Shared}{T:String}{x:V}{v:Value}(I:Inv X pins σ H s)(r:RelV x v)(ty:tyV X.K T x H) :
  s.TypeIs v T/\∀a,v=.ref a->∃ob,s.heap.get? a=some ob/\ob.dict=none:=by
 cases x with
 |str z=>
  obtain⟨t,rfl⟩:=r
  cases (show T = "str" from ty)
  exact⟨typeIs_str s z t,λ_ e=>nomatch e⟩
 |int i=>
  obtain⟨t,rfl⟩:=r
  cases (show T = "int" from ty)
  exact⟨typeIs_int s i t,λ_ e=>nomatch e⟩
 |ref p=>
  cases r
  rcases ty with⟨rfl,xs,hq⟩ | ⟨rfl,o,hk,hc,hd⟩ | ⟨rfl,hk⟩ | ⟨rfl,S,n,hk⟩
  ·obtain⟨its,_,pl,_⟩:=I.list hq
   refine⟨pl.isList.typeIs,λa e=>?_⟩
   cases e
   obtain⟨o,n,e,c,hd,_⟩:=pl
   exact⟨o,e,hd⟩
  ·refine⟨⟨o,I.kIn p o hk,hc⟩,λa e=>?_⟩
   cases e
   exact⟨o,I.kIn _ o hk,hd⟩
  ·have z:∃o,s.heap.get? p=some o/\o.ExactDict:=by
    rcases hk with⟨kvs,hk⟩ | ⟨kvs,hk⟩
    ·obtain⟨_,_,_,_,o,_,_,e,ex,_⟩:=I.hok p _ hk
     exact⟨o,e,ex⟩
    ·obtain⟨_,_,_,_,o,_,_,e,ex,_⟩:=I.hok p _ hk
     exact⟨o,e,ex⟩
   obtain⟨o,e,ex⟩:=z
   refine⟨⟨o,e,ex.1⟩,λa e2=>?_⟩
   cases e2
   exact⟨o,e,ex.2.1⟩
  ·obtain⟨o,_,_,_,e,ex,_⟩:=I.hok p _ hk
   refine⟨⟨o,e,ex.1⟩,λa e2=>?_⟩
   cases e2
   exact⟨o,e,ex.2.1⟩
 |_=>exact False.elim ty
def tBM0 (K:PySem.W.Frag)(T:String)(r:V->List V->Hp->VK->Prop)(to:TE):TE:=λσ H Q=>to σ H λx H1=>tyV K T x H1/\r x [] H1 Q
def tBM (K:PySem.W.Frag)(T:String)(r:V->List V->Hp->VK->Prop)(to:TE)(t:TA):TE:=λσ H Q=>to σ H λx H1=>tyV K T x H1/\t σ H1 λxs H2=>r x xs H2 Q
variable {o e:Expr}{es:List Expr}{to:TE}{t:TA}{name:Str}{apos cpos:Pos}{T id:String}{r:V->List V->Hp->VK->Prop}
theorem YM (pa:PlainAttrs T)(slot:Slot T name id)(hty:typeOf (.builtin id)=pure (.type "method_descriptor")) (hm:MtR X id r) (ho:PE X o to)
  (hbase:attributeBase o name X.env (eval o X.env)=eval o X.env:=by rfl) (hline:(apos.endLine==cpos.line)=true:=by rfl):PE X (.Call (.Attribute o name apos) [] [] cpos) (tBM0 X.K T r to):=by
 intro pins s σ H Q I h
 refine wpAny_Call_method0_late hbase hline (thn (ho pins s σ H _ I h) λv s1 ⟨x,H1,I1,r1,ty,q1⟩=>?_)
 obtain⟨h1,h2⟩:=Jk I1 r1 ty
 exact⟨T,id,pa,slot,hty,h1,h2,Calls.callWith_builtin rfl (PySem.evalArgs_none (hm pins s1 σ H1 x [] v [] Q I1 r1 .nil q1))⟩
theorem Vs (pa:PlainAttrs T)(slot:Slot T name id)(hty:typeOf (.builtin id)=pure (.type "method_descriptor")) (hm:MtR X id r) (ho:PE X o to) (ha:PA X (e::es) t)
  (hbase:attributeBase o name X.env (eval o X.env)=eval o X.env:=by rfl)
  (hfew:((backTo cpos (starEach (e::es) X.env)).all (λx=>!x.1)&&(backToKw cpos (keywordEach [] X.env)).all (λx=>x.1.isSome)
   && decide ((e::es).length+([]:List Keyword).length+(if ([]:List Keyword).isEmpty then 0 else 1) < 30))=true:=by rfl)
  (hline:(apos.endLine==cpos.line)=true:=by rfl) (hs:starEach (e::es) X.env=(false,eval e X.env)::starEach es X.env:=by rfl) (hplain:(backTo cpos (starEach es X.env)).any (·.1)=false:=by rfl) :
  PE X (.Call (.Attribute o name apos) (e::es) [] cpos) (tBM X.K T r to t):=by
 intro pins s σ H Q I h
 refine wpAny_Call_method_late hbase hfew hline rfl (thn (ho pins s σ H _ I h) λv s1 ⟨x,H1,I1,r1,ty,q1⟩=>?_)
 obtain⟨h1,h2⟩:=Jk I1 r1 ty
 refine⟨T,id,pa,slot,hty,h1,h2,?_⟩
 have hA:=ha cpos pins s1 σ H1 _ I1 q1
 rw[hs] at hA ⊢
 refine Calls.callWith_builtin (by show (false||(backTo cpos (starEach es X.env)).any (·.1))=false;rw[hplain]<;>rfl) (Calls.evalArgs_plain ?_)
 exact thn hA λus s2 ⟨vs,H2,I2,r2,q2⟩=>hm pins s2 σ H2 x vs v us Q I2 r1 r2 q2
end
def MtM (X:Cx)(id:String)(r:V->List V->Hp->VK->Prop):Prop :=
 ∀(pins:List (Addr×Obj)) (s:Shared) (σ:St) (H:Hp) (x:V) (xs:List V) (v:Value) (us:List Value) (Q:VK),Inv X pins σ H s->RelV x v->Vals xs us->r x xs H Q ->
  wpAny #[4] X.A (call (.builtin id) (v::us)) (EP X pins σ Q) X.xe s
theorem Vals.one:∀ {x:V} {us:List Value},Vals [x] us->∃u,us=[u]/\RelV x u
 |_,_,.cons r .nil=>⟨_,rfl,r⟩
theorem Vals.zero:∀ {us:List Value},Vals [] us->us=[]
 |_,.nil=>rfl
theorem Vals.dropLast {xs:List V}{us:List Value}(h:Vals xs us):Vals xs.dropLast us.dropLast:=by
 induction h with
 |nil=>exact .nil
 |cons r t ih=>
  cases t with
  |nil=>exact .nil
  |cons q t'=>exact .cons r ih
theorem Vals.rep {xs:List V}{us:List Value}(h:Vals xs us):∀k:Nat,Vals (List.replicate k xs).flatten (List.replicate k us).flatten
 |0=>.nil
 |k+1=>by
  rw[List.replicate_succ,List.replicate_succ,List.flatten_cons,List.flatten_cons]
  exact Vals.append h (Vals.rep h k)
theorem za3 {α:Type}(l:List α):l.eraseIdx (l.length - 1)=l.dropLast:=by
 induction l with
 |nil=>rfl
 |cons a r ih=>
  cases r with
  |nil=>rfl
  |cons b r=>
   have e:(a::b::r).length - 1=((b::r).length - 1)+1:=by
    have h1:(a::b::r).length=r.length+2:=rfl
    have h2:(b::r).length=r.length+1:=rfl
    omega
   rw[e,List.eraseIdx_cons_succ,ih]
   all_goals rfl
theorem JQ (its:List Value):∀(k:Nat) (acc:List Value),
  List.foldl (λx1 x2=>x1++x2) acc.toArray (List.replicate k its.toArray)=(acc++(List.replicate k its).flatten).toArray
 |0,acc=>by simp
 |k+1,acc=>by
  have e:acc.toArray++its.toArray=(acc++its).toArray:=by simp
  have e2:(acc++its)++(List.replicate k its).flatten=acc++(List.replicate (k+1) its).flatten:=by
   rw[List.replicate_succ,List.flatten_cons,List.append_assoc]
  rw[<-e2,<-JQ its k (acc++its),<-e,List.replicate_succ,List.foldl_cons]
section
variable {X:Cx}{pins:List (Addr×Obj)}{σ:St}{H:Hp}{s:Shared}{l b:Addr}{xs ys zs:List V}
theorem Inv.lset {its its':List Value}{n:Nat}{f:Array Value->Array Value}{t':Nat}(I:Inv X pins σ H s)(hH:H l=some (.lst xs))
  (e:s.heap.get? l=some { cls:=.type "list",data:=.seq its.toArray n }) (hf:f its.toArray=its'.toArray) (hv:Vals ys its') (hz:ys.length<=sizeLine) :
  Inv X pins σ (upd H l (.lst ys)) { s with heap:=s.heap.update l (Obj.mapSeq f),toks:=t' }:=by
 have q:=PySem.IsL.update e f
 rw[hf] at q
 refine I.write (x:=l) (e:=l) (by rw[hH];exact trivial) (.inl rfl) (λb' u hb hu=>(Heap.get?_update_other s.heap (Obj.mapSeq f) (Ne.symm hb)).trans hu) ⟨_,q⟩ ?_
 exact⟨hz,its',_,hv,q⟩
theorem Inv.lnew {its:List Value}{t':Nat}(I:Inv X pins σ H s)(hv:Vals ys its)(hz:ys.length<=sizeLine) :
  Inv X pins σ (upd H s.heap.objs.size (.lst ys)) { s with heap:=s.heap.push { cls:=.type "list",data:=.seq its.toArray },toks:=t' } :=
 I.laid (λ_ _ q=>Heap.get?_push_of_some _ q) (Nat.le_refl _) ⟨hz,its,0,hv,Heap.get?_push_size _ rfl⟩
theorem Inv.fresh (I:Inv X pins σ H s):H s.heap.objs.size=none:=I.hok.fresh (Nat.le_refl _)
theorem Inv.lstM (I:Inv X pins σ H s)(hH:H l=some (.lst xs)):xs.length<=sizeLine/\∃(its:List Value) (n:Nat),Vals xs its/\xs.length=its.length/\s.heap.get? l=some { cls:=.type "list",data:=.seq its.toArray n }:=by
 obtain⟨z,its,n,r,e⟩:=I.hok l _ hH
 exact⟨z,its,n,r,r.length,e⟩
theorem zf1 {n:Nat}(h:n<=sizeLine):Builtin.List.listTooLong n=false:=by
 unfold Builtin.List.listTooLong
 exact decide_eq_false #[1]
end
section
variable {X:Cx}
def zdl:V->List V->Hp->VK->Prop:=λx vs H Q=>∃l xs y,x=.ref l/\vs=[y]/\H l=some (.lst xs)/\xs.length < sizeLine/\Q .non (upd H l (.lst (xs++[y])))
theorem KP:MtM X "list.append" zdl:=by
 intro pins s σ H x vs v us Q I rx rv h
 obtain⟨l,xs,y,rfl,rfl,hH,hz,q⟩:=h
 cases rx
 obtain⟨u,rfl,ru⟩:=rv.one
 obtain⟨z,its,n,r,hl,e⟩:=I.lstM hH
 refine call_meets F.slot_list_append ⟨_,e,rfl⟩ F.entry_list_append (F.args_list_append_2 _ _) (PySem.list_append l its.toArray n u (by rw[List.size_toArray];omega)) ⟨e,?_⟩
 refine⟨.non,_,I.lset (its':=its++[u]) hH e (by simp) (r.append (.cons ru .nil)) ?_,rfl,q⟩
 rw[List.length_append,List.length_singleton]
 omega
def rPop:V->List V->Hp->VK->Prop:=λx vs H Q=>∃l xs y,x=.ref l/\vs=[]/\H l=some (.lst xs)/\xs[xs.length - 1]?=some y/\Q y (upd H l (.lst xs.dropLast))
theorem QY:MtM X "list.pop" rPop:=by
 intro pins s σ H x vs v us Q I rx rv h
 obtain⟨l,xs,y,rfl,rfl,hH,hy,q⟩:=h
 cases rx
 have hus:=rv.zero
 subst hus
 obtain⟨z,its,n,r,hl,e⟩:=I.lstM hH
 obtain⟨u,hu,ru⟩:=r.get hy
 have hy':its.toArray[its.toArray.size - 1]?=some u:=by
  show its.toArray[its.length - 1]?=some u
  rw[<-Array.getElem?_toList,<-hl]
  exact hu
 refine call_meets F.slot_list_pop ⟨_,e,rfl⟩ F.entry_list_pop (F.args_list_pop_1 _) (MeetsSeq.list_pop_last l its.toArray n u hy' (by rw[List.size_toArray];omega)) ⟨e,?_⟩
 refine⟨y,_,I.lset (its':=its.dropLast) hH e ?_ r.dropLast ?_,ru,q⟩
 ·show its.toArray.eraseIdxIfInBounds (its.toArray.size - 1)=its.dropLast.toArray
  rw[List.size_toArray,List.eraseIdxIfInBounds_toArray,za3]
 ·rw[List.length_dropLast]
  omega
def rClear:V->List V->Hp->VK->Prop:=λx vs H Q=>∃l xs,x=.ref l/\vs=[]/\H l=some (.lst xs)/\Q .non (upd H l (.lst []))
theorem Kl:MtM X "list.clear" rClear:=by
 intro pins s σ H x vs v us Q I rx rv h
 obtain⟨l,xs,rfl,rfl,hH,q⟩:=h
 cases rx
 have hus:=rv.zero
 subst hus
 obtain⟨z,its,n,r,hl,e⟩:=I.lstM hH
 refine call_meets F.slot_list_clear ⟨_,e,rfl⟩ F.entry_list_clear (F.args_list_clear_1 _) (AutoSeq1.list_clear_list_0 l its.toArray n (by rw[List.size_toArray];omega)) ⟨e,?_⟩
 exact⟨.non,_,I.lset (its':=[]) (ys:=[]) hH e rfl .nil (Nat.zero_le _),rfl,q⟩
def rRep:R2:=λx y H Q=>∃l k xs,x=.ref l/\y=.int k/\H l=some (.lst xs)/\-(2 ^ 63)<=k/\k < 2 ^ 63/\xs.length * k.toNat<=sizeLine /\
 ∀p,H p=none->Q (.ref p) (upd H p (.lst (List.replicate k.toNat xs).flatten))
theorem KB {α:Type}(xs:List α)(k:Nat):(List.replicate k xs).flatten.length=k * xs.length:=by
 induction k with
 |zero=>simp
 |succ k ih=>rw[List.replicate_succ,List.flatten_cons,List.length_append,ih,Nat.succ_mul,Nat.add_comm]
theorem zfi:OpR X (binaryOp .Mult) rRep:=by
 intro pins s σ H x y v u Q I rx ry h
 obtain⟨l,k,xs,rfl,rfl,hH,h1,h2,hz,q⟩:=h
 cases rx
 obtain⟨t,rfl⟩:=ry
 obtain⟨z,its,n,r,hl,e⟩:=I.lstM hH
 have hlen:its.toArray.size * k.toNat<=sizeLine:=by rw[List.size_toArray,<-hl];exact hz
 have hcap:¬its.toArray.size * k.toNat > (2 ^ 63 - 1) / 8:=by
  have:(sizeLine:Nat)<=(2 ^ 63 - 1) / 8:=by decide
  omega
 have hfit:¬(!Builtin.List.listFitsIndex k)=true:=by
  rw[fitsIndex_both h1 h2]
  exact Bool.false_ne_true
 have hlong:¬Builtin.List.listTooLong (its.toArray.size * k.toNat)=true:=by
  rw[zf1 hlen]
  exact Bool.false_ne_true
 have hnew:List.foldl (λx1 x2=>x1++x2) #[] (List.replicate (if its.toArray.isEmpty=true then 0 else k.toNat) its.toArray)=(List.replicate k.toNat its).flatten.toArray:=by
  have f0:∀m:Nat,List.foldl (λx1 x2=>x1++x2) #[] (List.replicate m its.toArray)=(List.replicate m its).flatten.toArray:=λm=>by
   have:=JQ its m []
   rw[List.nil_append] at this
   exact this
  rw[f0]
  cases its with
  |nil=>simp
  |cons a r'=>rw[if_neg (by simp)]
 refine wpAny_binaryOp_repeat_ref (T := "list") (U := "int") (by decide) ⟨_,e,rfl⟩ (λs'=>typeIs_int s' k t) noFill_list_mul F.fills_int_mul F.slot_int_rmul repeat_list F.slot_int_index.lookup
  (call_meets F.slot_int_rmul (typeIs_int s k t) F.entry_int_rmul (F.args_int_rmul_2 _ _) (int___rmul___int_list k t l its.toArray n)
   ⟨e,rfl,⟨_,e,rfl⟩,call_meets F.slot_list_mul ⟨_,e,rfl⟩ F.entry_list_mul (F.args_list_mul_2 _ _) (AutoListH.list___mul___list_int_3 l its.toArray n k t hfit hcap hlong) ⟨e,?_⟩⟩)
 rw[hnew]
 exact⟨.ref _,_,I.lnew (t':=s.toks) (r.rep k.toNat) (by rw[KB,Nat.mul_comm];exact hz),rfl,q _ I.fresh⟩
end
section
variable {prog:Program}{w:World}{A:Around}{E:Value->Shared->Prop}{s:Shared}
end
section
variable {X:Cx}
end
end L2
namespace Att
open PySem PySem.W PySem.Calls PyProof.Rows
theorem Ui {P:Params}{h:Heap}:∀(ns:List Int) (vs:List Value),WellAll P h vs (ns.map WData.int)->IntsAre vs ns:=by
 intro ns
 induction ns with
 |nil=>
  intro vs w
  rw[List.map_nil] at w
  cases w
  exact .nil
 |cons n ns ih=>
  intro vs w
  rw[List.map_cons] at w
  cases w with
  |cons a b=>
   cases a
   exact .cons _ _ (ih _ b)
theorem zbn {l:OpenLaw}{n:Nat}(hn:l.most=some n){P:Params}{h:Heap}{args:List WData}{vals:List Value}
  (hpre:l.row.toRowW.claim.pre args=true) (hwl:WellAll P h vals args) :
  ∃a vs ns,vals=[Value.ref a]/\args=[WData.list (ns.map WData.int)]/\h.get? a=some { cls:=.type "list",data:=.seq vs.toArray }/\IntsAre vs ns/\ns.length<=n:=by
 have hsh:WShape.hasAll [] args [.list .int]=true:=(pre_splitW hpre).1
 have hc:l.pre.holds [] { args:=args }=true:=(pre_splitW hpre).2
 obtain⟨d,r,rfl,h1,h2⟩:=hasAllW_cons hsh
 obtain rfl:=hasAllW_nil h2
 obtain⟨xs,rfl,h3⟩:=hasW_list h1
 obtain⟨ns,rfl⟩:=items_int h3
 have hlen:ns.length<=n:=by
  unfold OpenLaw.pre at hc
  have h4:(WTm.not (.lt (.lit (.int (n:Int))) (.len (.arg 0)))).holds [] { args:=[.list (ns.map .int)] }=true:=by
   have h4:=(holds_andW hc).1
   rw[hn] at h4
   exact h4
  have h5:=condW_of h4 (w_not (w_lt w_lit (w_len_list (w_arg rfl))))
  rw[List.length_map] at h5
  refine Nat.le_of_not_lt λq=>?_
  have q':(n:Int) < ((ns.length:Nat):Int):=by omega
  first
   | (rw[decide_eq_true q'] at h5;exact absurd h5 (by decide))
   | (simp at h5;omega)
 cases hwl with
 |cons w1 w2=>
  cases w2
  cases w1 with
  |list ho hall=>exact⟨_,_,ns,rfl,rfl,ho,Ui ns _ hall,hlen⟩
theorem Ka (l:OpenLaw)(args:List WData):l.row.toRowW.claim.post args (.bool true) args=true :=
 postW_of (r:=l.row.toRowW) (X:=(true==true))
  (show WShape.has [] (.bool true) .bool=true by first | rfl | decide | simp[WShape.has,WShape.arms,WShape.armsAll])
  (show (WTm.eq .res (.lit (.bool true))).value [] { args:=args,res:=some (.bool true),after:=args }=some (.bool (true==true)) from w_eq_bool (w_res rfl) w_lit) rfl
theorem attach_call {l:OpenLaw}{n:Nat}{q:Program}{loose:List Str}{XP:(Str->Option Value)->Heap->Prop}{YP:World->Heap->Prop}{d:DefRec}
  (hn:l.most=some n) (hdf:d.params.defaults=[])
  (call:∀(w:World) (s₀ s₁:Shared) (mg mb:Str->Option Value) (fa:Addr) (o:Obj) (pm cd doc:Value) (a:Addr) (vs:List Value) (ns:List Int),
   Ground q loose [] XP w s₀ mg mb s₁.heap->YP w s₁.heap ->
   s₁.heap.get? fa=some o->o.data=.func (docDef d.name d.params d.body d.scope pm cd doc)->s₁.heap.CodeRec cd d.name->mg d.name=some (.ref fa) ->
   s₁.heap.get? a=some { cls:=.type "list",data:=.seq vs.toArray }->IntsAre vs ns->ns.length<=n->s₁.gens=#[] ->
   codeAny (model l.prog w) callerA (.call (.ref fa) ⟨[.ref a],[]⟩) (λr s'=>r=.ok (.ret (.bool true))/\OldK s₁.heap s'.heap/\s'.os=s₁.os/\AllBare s'.gens) s₁) :
  WalkO q loose XP YP l.row.toRowW d [] (λf vs=>PySem.call f vs):=by
 intro w s₀ s₁ mg mb G Y fa o pm cd doc dV kV ho hd hcd hD hmg hg args vals as hpre hlay hrd hwl hlo
 obtain rfl:dV=.none:=Dflts.none hD hdf
 obtain rfl:kV=.none:=Dflts.noKw hD
 obtain⟨a,vs,ns,rfl,rfl,hobj,hints,hlen⟩:=zbn hn hpre hwl
 refine enter_call (codeAny_mono (call w s₀ s₁ mg mb fa o pm cd doc a vs ns G Y ho (fd_plain hd) hcd hmg hobj hints hlen hg) λr s' hq=>?_)
 obtain⟨rfl,h2,h3,h4⟩:=hq
 exact⟨.inl ⟨.bool true,.bool true,[],rfl,λ_=>rfl,.bool true,Ka l _,λ_=>⟨List.Pairwise.nil,λ_ hm=>(nomatch hm)⟩⟩,h2,h3,h4⟩
section
variable {prog:Program}{w:World}{A:Around}{E:Value->Shared->Prop}{s:Shared}{K:Frag}
def ledger (h:Heap)(L d:Addr):List (Addr×Obj):=(List.range h.objs.size).filterMap λa=>if a=L∨a=d then none else (h.get? a).map λo=>(a,o)
end
end Att
namespace L2
open PySem PySem.Spec PyProof.Rows
theorem W2:∀ {vs:List Value} {ns:List Int},IntsAre vs ns->Vals (ns.map V.int) vs
 |_,_,.nil=>.nil
 |_,_,.cons n t h=>.cons ⟨t,rfl⟩ (W2 h)
def Only (H:Hp):Prop:=∀b,H b=none∨∃o xs,H b=some (.frz o (.lst xs))
theorem zbk {P:Program}{w:World}{K:PySem.W.Frag}{mg mb:Str->Option Value}{CX:CXT}{k:Nat}{fa a:Addr}{fd:FuncData}{x:Str}{sp:Sp}{s₁:Shared}{vs:List Value}{ns:List Int}
  (KX:K.In s₁.heap) (hns:s₁.heap.Ns mainGlobals mg) (hb:s₁.heap.Ns builtinsNs mb) (hbb:∀x:Str,x ≠ "__name__" -> mb x=bootBuiltins x) (hlim:s₁.heap.NoLimit) (hg:s₁.gens=#[])
  (ha:s₁.heap.get? a=some { cls:=.type "list",data:=.seq vs.toArray }) (hi:IntsAre vs ns) (hl:ns.length<=sizeLine) (hr:Room k callerA)
  (F:∀base:Heap,K.In base->base.Ns mainGlobals mg->FnOk P w K mg base CX k fa fd [x] sp) (hbind:∀(s:Shared) (u:Value),BindsTo s fd ⟨[u],[]⟩ [(x,u)])
  (hsp:∀H:Hp,Only H->SqL K H a (ns.map V.int)->sp [.ref a] H (λv _=>v=.bl true) λ_ _ _=>False)
  (hCX:∀H e s',CX [] H s₁ (λ_ _ _=>False) e s'->False) :
  codeAny (model P w) callerA (.call (.ref fa) ⟨[.ref a],[]⟩) (λr s'=>r=.ok (.ret (.bool true))/\OldK s₁.heap s'.heap/\s'.os=s₁.os/\AllBare s'.gens) s₁:=by
 have rv:=W2 hi
 have lenV:=hi.length
 have core:∀H:Hp,Only H->SqL K H a (ns.map V.int)->HOk P w H s₁.heap->(∀b,H b≠none->b=a)->(H a≠none->K.lookup a=none) ->
   codeAny (model P w) callerA (.call (.ref fa) ⟨[.ref a],[]⟩) (λr s'=>r=.ok (.ret (.bool true))/\OldK s₁.heap s'.heap/\s'.os=s₁.os/\AllBare s'.gens) s₁:=by
  intro H hO hS hok hA hK
  have base_of:∀ {b:Addr} {o:Obj},s₁.heap.get? b=some o->H b=none->(hidT s₁.heap H).get? b=some o:=λe n=>zck e n
  have noA:∀ {b:Addr} {o:Obj} {es:Array DictEntry} {ep:Nat},s₁.heap.get? b=some o->o.data=.dict es ep->H b=none:=fun {b o es ep} e d=>by
   cases q:H b with
   |none=>rfl
   |some u=>
    have e':b=a:=hA b (by rw[q];simp)
    subst e'
    rw[ha] at e;cases e
    have d':Data.seq vs.toArray _=Data.dict es ep:=d
    cases d'
  have nsK:∀ {b:Addr} {m:Str->Option Value},s₁.heap.Ns b m->(hidT s₁.heap H).Ns b m:=fun {b m} ⟨o,es,ep,e,d,r⟩=>⟨o,es,ep,base_of e (noA e d),d,r⟩
  have hKb:K.In (hidT s₁.heap H):=λb o e=>base_of (KX b o e) (by
   cases q:H b with
   |none=>rfl
   |some u=>
    have e':b=a:=hA b (by rw[q];simp)
    subst e'
    rw[hK (by rw[q];simp)] at e;cases e)
  have hM:Mod K mg (hidT s₁.heap H):=⟨hKb,nsK hns,⟨mb,nsK hb,hbb⟩,let ⟨mc,h1,h2⟩:=hlim;⟨mc,nsK h1,h2⟩⟩
  have e0:Env0 P w K mg (hidT s₁.heap H) callerA [] s₁ H:=⟨rfl,hM,λb o e=>Rw e,Nat.le_of_eq (G4 _ _),trivial,λb hb=>absurd (show b∈([]:List Addr) from hb) (by simp),hok,.of_eq hg⟩
  refine codeAny_mono ((F _ hKb (nsK hns)).run callerA [] s₁ H ⟨[.ref a],[]⟩ [.ref a] [.ref a] _ _ hr e0 (hbind s₁ (.ref a)) (.cons rfl .nil) (hsp H hO hS)) λr s' h=>?_
  cases r with
  |error e=>exact (hCX H e s' h).elim
  |ok fl=>
   cases fl with
   |next=>exact False.elim h
   |brk=>exact False.elim h
   |cont=>exact False.elim h
   |ret u=>
    obtain⟨v,H',os,bare,un,hok',r',q⟩:=h
    have q':v=.bl true:=q
    subst q'
    obtain rfl:u=Value.bool true:=r'
    refine⟨rfl,OldK.of_keep λb o e=>?_,os,bare⟩
    cases q:H b with
    |none=>exact un.keep b o e q (by intro z;exact absurd (show b∈([]:List Addr) from z) (by simp)) (by simp)
    |some u=>
     rcases hO b with z | ⟨ob,xs,z⟩
     ·rw[q] at z;cases z
     ·have z2:=un.frzs b ob _ z
      obtain⟨e1,_⟩:=hok b _ z
      obtain⟨e2,_⟩:=hok' b _ z2
      rw[e] at e1;cases e1
      exact e2
 cases hk:K.lookup a with
 |some o=>
  have e:=KX a o hk
  rw[ha] at e
  cases e
  refine core (λ_=>none) (λ_=>.inl rfl) (.inr ⟨_,vs.toArray,_,hk,rfl,rfl,rfl,by rw[List.size_toArray,lenV];exact hl,by simpa using rv⟩) (λb u z=>by have z':(none:Option HO)=some u:=z;cases z') (λb z=>absurd rfl z) λz=>absurd rfl z
 |none=>
  refine core (λb=>if b=a then some (.frz { cls:=.type "list",data:=.seq vs.toArray } (.lst (ns.map V.int))) else none) (λb=>?_) (.inl (.inr ⟨{ cls:=.type "list",data:=.seq vs.toArray },if_pos rfl⟩)) (λb u z=>?_) (λb z=>?_) λ_=>hk
  ·by_cases hb:b=a
   ·exact .inr ⟨_,_,if_pos hb⟩
   ·exact .inl (if_neg hb)
  ·by_cases hb:b=a
   ·have z':=(if_pos hb).symm.trans z
    cases z'
    subst hb
    exact⟨ha,by rw[List.length_map];exact hl,vs,_,rv,ha⟩
   ·have z':=(if_neg hb).symm.trans z
    cases z'
  ·by_cases hb:b=a
   ·exact hb
   ·exact absurd (if_neg hb) z
abbrev KOf {K:PySem.W.Frag}{h:Heap}(_:K.In h):PySem.W.Frag:=K
theorem walk_of {l:PySem.W.OpenLaw}{n k:Nat}{q:Program}{loose:List Str}{XP:(Str->Option Value)->Heap->Prop}{YP:World->Heap->Prop}{d:DefRec}{K:Params->PySem.W.Frag}{CX:World->CXT}{sp:World->Sp}{x:Str}
  (hn:l.most=some n) (hn2:n<=sizeLine) (hdf:d.params.defaults=[]) (hr:Room k callerA)
  (hY:∀(w:World) (h:Heap),YP w h->(K w.params).In h)
  (F:∀(w:World) (mg:Str->Option Value) (fa:Addr) (h:Heap),(K w.params).In h->h.Ns mainGlobals mg->mg d.name=some (.ref fa) ->
   ∃fd:FuncData,(∀(s:Shared) (u:Value),BindsTo s fd ⟨[u],[]⟩ [(x,u)]) /\
    ∀base:Heap,(K w.params).In base->base.Ns mainGlobals mg->FnOk l.prog w (K w.params) mg base (CX w) k fa fd [x] (sp w))
  (hsp:∀(w:World) (H:Hp) (a:Addr) (ns:List Int),ns.length<=n->Only H->SqL (K w.params) H a (ns.map V.int)->sp w [.ref a] H (λv _=>v=.bl true) λ_ _ _=>False)
  (hCX:∀(w:World) (H:Hp) (s:Shared) (e:Value) (s':Shared),CX w [] H s (λ_ _ _=>False) e s'->False) :
  PySem.W.WalkO q loose XP YP l.row.toRowW d [] (λf vs=>PySem.call f vs):=by
 refine Att.attach_call hn hdf λw s₀ s₁ mg mb fa o pm cd doc a vs ns G Y ho hd hcd hmg hobj hints hlen hg=>?_
 have KX:=hY w _ Y
 obtain⟨fd,hb,hF⟩:=F w mg fa _ KX G.T.g hmg
 exact zbk KX G.T.g G.T.b G.T.builtins G.T.nolimit hg hobj hints (Nat.le_trans hlen hn2) hr hF hb (λH hO hS=>hsp w H a ns hlen hO hS) λH e s'=>hCX w H s₁ e s'
end L2
namespace L2
open PySem PySem.Spec PyProof.Rows
def yd (s:Stmt)(j:Nat):Stmt:=match s with
 |.ClassDef _ _ _ body _ _ _ _ _ _ _=>body.getD j (.Pass ⟨0,0,0,0⟩)
 |_=>.Pass ⟨0,0,0,0⟩
def zm (s:Stmt):Arguments:=match s with
 |.FunctionDef _ a _ _ _ _ _ _ _ _=>a
 |_=>{ posonlyargs:=[],args:=[],vararg:=none,kwonlyargs:=[],kw_defaults:=[],kwarg:=none,defaults:=[] }
def zl (s:Stmt):List Stmt:=match s with
 |.FunctionDef _ _ b _ _ _ _ _ _ _=>b
 |_=>[]
def zd (s:Stmt):Scope:=match s with
 |.FunctionDef _ _ _ _ _ _ sc _ _ _=>sc
 |_=>{ kind:=.function,names:=[],isGenerator:=false,isCoroutine:=false }
abbrev CX0:CXT:=λ_ _ _ _ _ _=>False
abbrev E0:XK:=λ_ _ _=>False
theorem pass0 {X:Cx}:Passes CX0 X E0:=λ_ _ _ _ _ _ _ h=>h.elim
structure Fun (K:PySem.W.Frag)(x qual:Str)(st:Stmt)(f:Addr)(fd:FuncData):Prop where
 ex:∃(oc:Value) (od:Option Addr) (kV doc pm:Value) (an:Option Addr) (cdv ct:Value) (osl:Array (Option Value)),
  fd=fnOf x qual (zm st) (zl st) (zd st) .none kV doc pm an cdv ct/\K.lookup f=some ⟨oc,od,.func fd,osl⟩/\codeIn K cdv qual=true
 kp:keepIn K (.ref f)=true
section
variable {P:Program}{w:World}{K:PySem.W.Frag}{mg:Str->Option Value}{base:Heap}
theorem Fun.ok {x qual:Str}{st:Stmt}{f:Addr}{fd:FuncData}{N ps:List Str}{k:Nat}{sp:Sp}(F:Fun K x qual st f fd)(S:FnScope N ps (zd st))(len:∀vs H Q E,sp vs H Q E->vs.length=ps.length)
  (hbody:∀(cdv:Value) (A:Around) (outer:List Env) (s:Shared) (H:Hp) (vs:List V) (Q:VK) (E:XK),Room k (A.deeper (envOfC qual (zd st) s.heap.objs.size f cdv))->sp vs H Q E ->
   ∃t,PSs (cxOf CX0 P w K mg base N qual (zd st) f cdv A outer s H E).nox (zl st) t/\t { nx:=λ_ H'=>Q .non H',rt:=Q } (start N vs) H):FnOk P w K mg base CX0 (k+1) f fd ps sp:=by
 obtain⟨oc,od,kV,doc,pm,an,cdv,ct,osl,rfl,lk,hcd⟩:=F.ex
 refine Yc lk hcd S len λA outer s H vs Q E hr hsp=>?_
 obtain⟨t,h,q⟩:=hbody cdv A outer s H vs Q E hr hsp
 exact⟨t,h.nox,q⟩
theorem Fun.binds {x qual:Str}{st:Stmt}{f:Addr}{fd:FuncData}{ps:List Str}(F:Fun K x qual st f fd)
  (h:∀(kV doc pm:Value) (an:Option Addr) (cdv ct:Value) (us:List Value),us.length=ps.length->bindArgs (fnOf x qual (zm st) (zl st) (zd st) .none kV doc pm an cdv ct) ⟨us,[]⟩=pure (ps.zip us)):Binds K fd ps []:=by
 obtain⟨oc,od,kV,doc,pm,an,cdv,ct,osl,rfl,lk,hcd⟩:=F.ex
 exact .all (h kV doc pm an cdv ct)
theorem zt {x qual:Str}{st:Stmt}{f:Addr}{oc:Value}{od an:Option Addr}{osl:Array (Option Value)}{kV doc pm cdv ct:Value}(l:K.lookup f=some ⟨oc,od,.func (fnOf x qual (zm st) (zl st) (zd st) .none kV doc pm an cdv ct),osl⟩)
  (c:codeIn K cdv qual=true) (k:keepIn K (.ref f)=true):Fun K x qual st f (fnOf x qual (zm st) (zl st) (zd st) .none kV doc pm an cdv ct):=⟨⟨oc,od,kV,doc,pm,an,cdv,ct,osl,rfl,l,c⟩,k⟩
end
section
variable {X:Cx}
theorem pv (i:Nat){x:Str}{pos:Pos}(hN:X.N[i]?=some x:=by rfl)(hv:Vis X.env.scope x:=by first | exact Or.inl rfl | exact Or.inr (Or.inl rfl) | exact Or.inr (Or.inr rfl))(hd:#[8]=false:=by decide)
  (hcd:(x==("__classdict__" : Str))=false:=by decide):PE X (.Name x pos) (tVar i):=Je hN hv hd hcd
end
theorem iteF {A B:Prop}(h:B):if false=true then A else B:=by
 rw[if_neg Bool.false_ne_true]
 exact h
theorem iteT {A B:Prop}(h:A):if true=true then A else B:=by
 rw[if_pos rfl]
 exact h
def Same (H H':Hp):Prop:=∀b o,H b=some o->H' b=some o
theorem Same.refl (H:Hp):Same H H:=λ_ _ h=>h
theorem Same.trans {H H1 H2:Hp}(a:Same H H1)(b:Same H1 H2):Same H H2:=λc o h=>b c o (a c o h)
theorem Same.free {H H':Hp}(e:Same H H'){l:Addr}(h:H' l=Option.none):H l=Option.none:=by
 cases q:H l with
 |none=>rfl
 |some o=>
  rw[e l o q] at h
  cases h
theorem Same.seq {K:PySem.W.Frag}{H H':Hp}{a:Addr}{xs:List V}(e:Same H H')(h:SqL K H a xs):SqL K H' a xs:=by
 rcases h with (h | ⟨o,h⟩) | h
 ·exact .inl (.inl (e _ _ h))
 ·exact .inl (.inr ⟨o,e _ _ h⟩)
 ·exact .inr h
end L2
namespace L3
open PySem PySem.Spec L2
open PyProof.Rows hiding St
section
variable {X:Cx}{pins:List (Addr×Obj)}{σ:St}{H H':Hp}{s:Shared}{h':Heap}
theorem qN {ch:List Addr}{t':Nat}(I:Inv X pins σ H s)(k:∀b o,b∉ch->s.heap.get? b=some o->h'.get? b=some o)(hf:∀b∈ch,FpOk X pins H b):Inv X pins σ H { s with heap:=h',toks:=t' }:=by
 have nit:∀b u,H b=some u->b∉ch:=λb u e z=>by rw[(hf b z).1] at e;cases e
 refine I.step (g':=s.gens) (d':=s.drawn) (ch:=ch) (λb hb=>?_) (λb o _ _ hc e _=>k b o hc e) (λb o _ _ hc e _=>⟨o.slots,k b o hc e⟩) (λ_ _ _ _ n=>n)
  (λb o hc e=>⟨o,k b o hc e⟩) (λ_ _ e=>e) (λ_ _ _ e=>e) (λb ps e=>⟨#[],by rw[e];simp⟩) (λm hm=>?_) (λb u e=>?_) I.bare
 ·obtain⟨_,f1,_,f3,f4,f5⟩:=hf b hb
  exact⟨f3,f1,f4,f5⟩
 ·obtain⟨o,es,ep,ho,r⟩:=hm
  exact⟨o,es,ep,k _ o (λz=>(hf _ z).2.1 rfl) ho,r⟩
 ·refine (I.hok b u e).stay (λc v hc q=>k c v ?_ q) (λ_ q=>q) λ_ _ q=>q
  rcases hc with z | z
  ·rw[z];exact nit b u e
  ·exact nit c _ z
theorem stepN {ch:List Addr}{t':Nat}{T:Addr}{o:HO}(I:Inv X pins σ H s)(k:∀b o,b∉ch->s.heap.get? b=some o->h'.get? b=some o)(hf:∀b∈ch,FpOk X pins H b)(hT:s.heap.objs.size<=T)
  (new:ObjOk X.prog X.w (upd H T o) h' T o):Inv X pins σ (upd H T o) { s with heap:=h',toks:=t' }:=by
 have nit:∀b u,H b=some u->b∉ch:=λb u e z=>by rw[(hf b z).1] at e;cases e
 have nT:H T=none:=I.hok.fresh hT
 refine I.step (g':=s.gens) (d':=s.drawn) (ch:=ch) (λb hb=>?_) (λb o _ _ hc e _=>k b o hc e) (λb o _ _ hc e _=>⟨o.slots,k b o hc e⟩) (λb u _ e n=>?_)
  (λb o hc e=>⟨o,k b o hc e⟩) (λb xs e=>by rw[zh (z8 e nT)];exact e) (λb ob u e=>by rw[zh (z8 e nT)];exact e) (λb ps e=>⟨#[],by rw[zh (z8 e nT),e];simp⟩) (λm hm=>?_) (λb u e=>?_) I.bare
 ·obtain⟨_,f1,_,f3,f4,f5⟩:=hf b hb
  exact⟨f3,f1,f4,f5⟩
 ·rw[zh (Nat.ne_of_lt (Nat.lt_of_lt_of_le (Heap.lt_size e) hT))];exact n
 ·obtain⟨o,es,ep,ho,r⟩:=hm
  exact⟨o,es,ep,k _ o (λz=>(hf _ z).2.1 rfl) ho,r⟩
 ·by_cases hb:b=T
  ·subst hb;rw[zr] at e;cases e;exact new
  ·rw[zh hb] at e
   refine (I.hok b u e).stay (λc v hc q=>k c v ?_ q) (λc q=>by rw[zh (z8 q nT)];exact q) λc xs q=>by rw[zh (z8 q nT)];exact q
   rcases hc with z | z
   ·rw[z];exact nit b u e
   ·exact nit c _ z
end
def Ite (K:PySem.W.Frag)(a:Addr):It :=
 ⟨λi H=>∃xs x,SqL K H a xs/\xs[i]?=some x,λi H x H'=>∃T v,H T=none/\x=.ref T/\H'=upd H T (.tup [.int i,v])/\∀xs,SqL K H a xs->xs[i]?=some v,λi H=>∃xs,SqL K H a xs/\xs.length<=i⟩
theorem zb2 {P:Program}{w:World}{K:PySem.W.Frag}{elts:List Expr}{k:Nat}{pos:Pos}(a e it:Addr)(hne:e≠it) :
  Turn P w K (.Tuple elts k pos) (Ite K a) [e,it] e (λi h=>(∃old,IsEnum h e it i old)/\h.IsListIter it a i) where
 mem:=by simp
 obj:=λi h st b hb=>by
  obtain⟨⟨old,he⟩,o,e1,c,d⟩:=st
  rcases List.mem_cons.mp hb with rfl | hb
  ·exact⟨_,he,λv z=>by cases z⟩
  ·rw[List.mem_singleton.mp hb]
   exact⟨o,e1,λv z=>by rw[d] at z;cases z⟩
 keep:=λi h h' st k=>⟨let ⟨old,he⟩:=st.1;⟨old,k e (by simp) _ he⟩,st.2.at λo e=>k it (by simp) o e⟩
 item:=by
  intro X hP hw hK hc i pins s σ H E I hf st hg
  subst hP hw hK
  obtain⟨⟨old,he⟩,hit⟩:=st
  obtain⟨xs,x,hq,hx⟩:=hg
  obtain⟨its,rv,p,hz⟩:=I.list hq
  obtain⟨u,hu,ru⟩:=rv.get hx
  refine wpAny_pyNext_enum_item he hit p.isList (x:=u) (by simpa using hu) hne λh' ho hit' hT hsz hk=>⟨_,rfl,?_⟩
  refine wpAny_letOwnedTupleGo_enum ho λh'' he'' hs''=>?_
  have nT:H s.heap.objs.size=none:=I.hok.fresh (Nat.le_refl _)
  have hTe:s.heap.objs.size≠e:=Nat.ne_of_gt (Heap.lt_size he)
  refine⟨.ref s.heap.objs.size,upd H s.heap.objs.size (.tup [.int i,x]),stepN (s:=s) (t':=s.toks+1) (ch:=[e,it]) I (λb o hb q=>?_) hf (Nat.le_refl _) ?_,rfl,⟨_,x,nT,rfl,rfl,λys hy=>by rw[I.list_inj hy hq];exact hx⟩,⟨⟨_,by simpa using he''⟩,hit'.extBut hs''.extBut (Ne.symm hne)⟩,λb hb=>?_⟩
  ·have h1:b≠e:=λz=>hb (by simp[z])
   have h2:b≠it:=λz=>hb (by simp[z])
   exact hs''.extBut b o h1 (hk b o h1 h2 q)
  ·exact⟨(show 2<=sizeLine by decide),[.int i s.toks,u],.cons ⟨_,rfl⟩ (.cons ru .nil),⟨_,hs''.extBut _ _ hTe hT,rfl,_,rfl⟩⟩
  ·have hb':b≠s.heap.objs.size:=by
    rcases List.mem_cons.mp hb with rfl | hb
    ·exact Ne.symm hTe
    ·rw[List.mem_singleton.mp hb]
     obtain⟨o,e1,_⟩:=hit
     exact Nat.ne_of_lt (Heap.lt_size e1)
   rw[zh hb']
   exact (hf b hb).1
 done:=by
  intro X hP hw hK hc i pins s σ H E I hf st hg
  subst hP hw hK
  obtain⟨⟨old,he⟩,hit⟩:=st
  obtain⟨xs,hq,hx⟩:=hg
  obtain⟨its,rv,p,hz⟩:=I.list hq
  have hl:=rv.length
  refine wpAny_pyNext_enum_end (I.ok.hd hc) he hit p.isList (by simp;omega) λh' eb=>⟨rfl,qN (t':=s.toks) (ch:=[e,it]) I (λb o hb q=>eb b o (λz=>hb (by simp[z])) q) hf⟩
 self:=λ_ _ _ _ _ st h=>let ⟨_,he⟩:=st.1;wpAny_pyIter_enum he h
section
variable {X:Cx}{elts:List Expr}{tk:Nat}{tpos:Pos}
def iEnum (K:PySem.W.Frag)(ta:TA):TI:=λσ H R=>ta σ H λvs H1=>∃a,vs=[.ref a]/\(∃xs,SqL K H1 a xs)/\R (Ite K a) H1
theorem UO {a:Expr}{ta:TA}{p pos:Pos}(hg:Gl X "enumerate") (hm:X.mg "enumerate" = none) (ha:PA X [a] ta) (hs:starEach [a] X.env=[(false,eval a X.env)]:=by rfl) :
  PI X (.Tuple elts tk tpos) (.Call (.Name "enumerate" p) [a] [] pos) (iEnum X.K ta):=by
 intro pins s σ H R I h
 refine Call_ (vq I hg hm (u:=.type "enumerate") #[6] (PyProof.Rows.callWith_type1 (thn (ha pos pins s σ H _ I h) λus s1 ⟨vs,H1,I1,r1,q1⟩=>?_) hs rfl))
 obtain⟨a,e,⟨xs,hq⟩,q⟩:=q1
 subst e
 obtain⟨u,rfl,ru⟩:=vals1 r1
 cases ru
 obtain⟨its,rv,pl,hz⟩:=I1.list hq
 refine call_enumerate_list pl.isList λh' he hit hsz hk=>wpAny_pyIter_enum he ?_
 have I2:Inv X pins σ H1 { s1 with heap:=h' }:=I1.kept (t':=s1.toks) hk
 refine⟨s1.heap.objs.size+1,[s1.heap.objs.size+1,s1.heap.objs.size],_,_,H1,rfl,I2,zb2 a _ _ (show ((s1.heap.objs.size+1:Nat)≠s1.heap.objs.size) by omega),⟨⟨_,he⟩,hit⟩,λb hb=>?_,q⟩
 have hb':s1.heap.objs.size<=b:=by
  rcases List.mem_cons.mp hb with rfl | hb
  ·exact Nat.le_succ _
  ·rw[List.mem_singleton.mp hb];exact Nat.le_refl _
 exact I1.fpOk hb' (I1.hok.fresh hb')
end
theorem JH {prog:Program}{w:World}{A:Around}{R:Result->Shared->Prop}{s:Shared}{elt target iter:Expr}{ifs:List Expr}{scope:Scope}{pos:Pos}{it acc:Value}{env:Env}(I:Nat->Shared->Prop)
  (turn:∀n s,I n s->wpAny (model prog w) A (pyNext it) (λr s₁=>match r with
   |none=>R (.ok .next) s₁
   |some v=>wpAny (model prog w) A (letOwnedTupleGo target it v) (λ_ s₁'=>wpAny (model prog w) A (assign target env v) (λ_ s₂=>
     wpAny (model prog w) A (forIn ifs true λc r=>if r=true then do let ok <-isTrue c env (eval c env);pure (ForInStep.yield ok) else pure (ForInStep.yield r)) (λok s₃=>
      if ok=true then wpAny (model prog w) A (eval elt env) (λx s₄=>
       wpAny (model prog w) A (call (.builtin "list.append") [acc,x]) (λ_ s₅=>∃m,m < n/\I m s₅) (λ_ _=>False) s₄) (λ_ _=>False) s₃
      else ∃m,m < n/\I m s₃) (λ_ _=>False) s₂) (λ_ _=>False) s₁') (λ_ _=>False) s₁) (λ_ _=>False) s)
  (n:Nat) (h:I n s):codeAny (model prog w) A (.compLoop (.ListComp elt [⟨target,iter,ifs,0⟩] scope pos) 0 it acc env) R s:=by
 refine codeAny_loop rfl I (λn s hI=>?_) n h
 show wpAny _ A ((compTurn (.ListComp elt [⟨target,iter,ifs,0⟩] scope pos) 0 it acc env).onRaise (λx=>do noteFrame x env;theTreesLotGoes x)) _ _ s
 refine wpAny_noted ?_
 rw[compTurn_list]
 refine wpAny_bind (wpAny_standAt (wpAny_bind (wpAny_mono (turn n s hI) (λr s₁ h₁=>?_) λ_ _ h'=>h'.elim)))
 cases r with
 |none=>exact wpAny_pure h₁
 |some v=>
  refine wpAny_bind (wpAny_mono h₁ (λ_ s₁' h₁'=>?_) λ_ _ h'=>h'.elim)
  refine wpAny_bind (wpAny_mono h₁' (λ_ s₂ h₂=>wpAny_bind (wpAny_mono h₂ (λok s₃ h₃=>?_) λ_ _ h'=>h'.elim)) λ_ _ h'=>h'.elim)
  cases ok with
  |false=>exact wpAny_pure ⟨rfl,h₃⟩
  |true=>
   exact wpAny_bind (wpAny_bind (wpAny_mono h₃ (λx s₄ h₄=>wpAny_bind (wpAny_mono h₄ (λ_ s₅ h₅=>wpAny_pure (wpAny_pure ⟨rfl,h₅⟩)) λ_ _ h'=>h'.elim)) λ_ _ h'=>h'.elim))
def clGo (cells:List (Str×Addr)):List (Str×NameKind)->List (Str×Addr)->List (Str×Addr)
 | [],cs=>cs
 | (n,k)::r,cs=>clGo cells r (if k==.free then (n,(cells.lookup n).getD 0)::cs else cs)
theorem Qj {scope:Scope}{env:Env}(h:∀x∈scope.names,x.2=.free->∃c,env.cells.lookup x.1=some c):closureFor scope env=pure (clGo env.cells scope.names []):=by
 simp only[closureFor]
 have go:∀(l:List (Str×NameKind)) (cs:List (Str×Addr)),(∀x∈l,x.2=.free->∃c,env.cells.lookup x.1=some c) ->
   (forIn l cs λ(x:Str×NameKind) (r:List (Str×Addr))=>(if (x.2==NameKind.free)=true then do let a <-cellOf env x.1;pure (ForInStep.yield ((x.1,a)::r)) else pure (ForInStep.yield r):Sem (ForInStep (List (Str×Addr)))))=pure (clGo env.cells l cs):=by
  intro l
  induction l with
  |nil=>intro cs _;rfl
  |cons x r ih=>
   intro cs hx
   obtain⟨n,k⟩:=x
   rw[List.forIn_cons]
   by_cases hk:(k==NameKind.free)=true
   ·obtain⟨c,e⟩:=hx (n,k) List.mem_cons_self (by simpa using hk)
    have e':env.cells.lookup n=some c:=e
    have ec:cellOf env n=pure c:=by unfold cellOf;rw[e']
    simp only[hk,if_true,ec,pure_bind]
    rw[ih _ λy hy=>hx y (List.mem_cons_of_mem _ hy)]
    simp only[clGo,hk,if_true,e',Option.getD_some]
   ·simp only[hk,Bool.false_eq_true,if_false,pure_bind]
    rw[ih _ λy hy=>hx y (List.mem_cons_of_mem _ hy)]
    simp only[clGo,hk,Bool.false_eq_true,if_false]
 have:=go scope.names [] h
 simpa using this
theorem kP {cells:List (Str×Addr)}:∀(l:List (Str×NameKind)) (cs:List (Str×Addr)) (x:Str) (c:Addr),(∀y∈l,y.2=.free->∃c,cells.lookup y.1=some c)->(∀x c,cs.lookup x=some c->cells.lookup x=some c) ->
  (clGo cells l cs).lookup x=some c->cells.lookup x=some c
 | [],cs,x,c,_,h,e=>h x c e
 | (n,k)::r,cs,x,c,hl,h,e=>by
  refine kP r _ x c (λy hy=>hl y (List.mem_cons_of_mem _ hy)) (λy d=>?_) e
  by_cases hk:(k==NameKind.free)=true
  ·rw[if_pos hk]
   obtain⟨c',e'⟩:=hl (n,k) List.mem_cons_self (by simpa using hk)
   have e':cells.lookup n=some c':=e'
   intro q
   by_cases hy:y=n
   ·subst hy
    rw[List.lookup_cons_self] at q
    rw[<-q,e'];rfl
   ·rw[List.lookup_cons,beq_eq_false_iff_ne.mpr hy] at q
    exact h y d q
  ·rw[if_neg hk];exact h y d
theorem Vi {cells:List (Str×Addr)}:∀(l:List (Str×NameKind)) (cs:List (Str×Addr)) (x:Str),(cs.lookup x).isSome=true->((clGo cells l cs).lookup x).isSome=true
 | [],cs,x,h=>h
 | (n,k)::r,cs,x,h=>by
  refine Vi r _ x ?_
  by_cases hk:(k==NameKind.free)=true
  ·rw[if_pos hk]
   by_cases hy:x=n
   ·subst hy;rw[List.lookup_cons_self];rfl
   ·rw[List.lookup_cons,beq_eq_false_iff_ne.mpr hy];exact h
  ·rw[if_neg hk];exact h
theorem qE {cells:List (Str×Addr)}:∀(l:List (Str×NameKind)) (cs:List (Str×Addr)) (x:Str),(x,NameKind.free)∈l->((clGo cells l cs).lookup x).isSome=true
 | [],cs,x,h=>by simp at h
 | (n,k)::r,cs,x,h=>by
  rcases List.mem_cons.mp h with e | h
  ·cases e
   exact Vi r _ _ (by rw[if_pos (show (NameKind.free==NameKind.free)=true from rfl),List.lookup_cons_self];rfl)
  ·exact qE r _ x h
def cxc (X:Cx)(scope:Scope)(C:Addr)(N:List Str)(s₀:Shared)(H₀:Hp)(fp:List Addr)(pn:List (Addr×Obj)):Cx :=
 { X with N:=N,s₀:=s₀,H₀:=H₀,env:=compEnvC scope (clGo X.env.cells scope.names []) C X.env,outer:=X.stack,stack:=X.stack,ex:=fp,fn:=λ_=>false,pn:=pn,xe:=λ_ _=>False }
structure CompScope (X:Cx)(scope:Scope)(own:List Str)(cap:List (Str×Nat)):Prop where
 kind:scope.kind=.function
 nocell:∀y∈scope.names,y.2≠.cell
 names:∀y∈scope.names,y.2=.local->scope.names.lookup y.1=some .local
 frees:∀y∈scope.names,y.2=.free->X.env.kindOf y.1=some .cell∨X.env.kindOf y.1=some .free
 caps:∀p∈cap,scope.names.lookup p.1=some .free/\X.N[p.2]?=some p.1
theorem uq {env:Env}:∀ {names:List (Str×NameKind)} {x:Str} {k':NameKind},
  (names.map λ(n,k)=>if (k==NameKind.free&&env.scope.kind==.function&&env.kindOf n==some .cell) then (n,NameKind.cell) else (n,k)).lookup x=some k'->(k'=.cell∨k'=.free)->(∀y∈names,y.2≠.cell)->(x,NameKind.free)∈names
 | [],x,k',h,_,_=>by simp at h
 | (n,k)::r,x,k',h,hk,hc=>by
  have ih:=@uq env r x k'
  rw[List.map_cons] at h
  by_cases hq:(k==NameKind.free&&env.scope.kind==.function&&env.kindOf n==some .cell)=true
  ·simp only[hq,if_true] at h
   have kf:k=NameKind.free:=by
    simp only[Bool.and_eq_true,beq_iff_eq] at hq
    exact hq.1.1
   by_cases hx:x=n
   ·subst hx;subst kf;exact List.mem_cons_self
   ·rw[List.lookup_cons,beq_eq_false_iff_ne.mpr hx] at h
    exact List.mem_cons_of_mem _ (ih h hk λy hy=>hc y (List.mem_cons_of_mem _ hy))
  ·simp only[hq,if_false] at h
   by_cases hx:x=n
   ·subst hx
    have h':some k=some k':=by
     have:=h
     simp at this
     rw[this]
    cases h'
    rcases hk with z | z
    ·exact absurd z (hc (x,k) List.mem_cons_self)
    ·subst z;exact List.mem_cons_self
   ·have h2:List.lookup x (List.map (λ(n,k)=>if (k==NameKind.free&&env.scope.kind==.function&&env.kindOf n==some .cell) then (n,NameKind.cell) else (n,k)) r)=some k':=by
     simpa[List.lookup_cons,beq_eq_false_iff_ne.mpr hx] using h
    exact List.mem_cons_of_mem _ (ih h2 hk λy hy=>hc y (List.mem_cons_of_mem _ hy))
theorem ZO {env:Env}:∀ {names:List (Str×NameKind)} {x:Str},names.lookup x=some .free ->
  (names.map λ(n,k)=>if (k==NameKind.free&&env.scope.kind==.function&&env.kindOf n==some .cell) then (n,NameKind.cell) else (n,k)).lookup x=some .cell ∨
  (names.map λ(n,k)=>if (k==NameKind.free&&env.scope.kind==.function&&env.kindOf n==some .cell) then (n,NameKind.cell) else (n,k)).lookup x=some .free
 | [],x,h=>by simp at h
 | (n,k)::r,x,h=>by
  have ih:=@ZO env r x
  rw[List.map_cons]
  by_cases hx:x=n
  ·subst hx
   rw[List.lookup_cons_self] at h
   cases h
   by_cases hq:(NameKind.free==NameKind.free&&env.scope.kind==.function&&env.kindOf x==some .cell)=true
   ·left;simp only[hq,if_true,List.lookup_cons_self]
   ·right;simp only[hq,if_false];simp
  ·rw[List.lookup_cons,beq_eq_false_iff_ne.mpr hx] at h
   by_cases hq:(k==NameKind.free&&env.scope.kind==.function&&env.kindOf n==some .cell)=true
   ·simp only[hq,if_true,List.lookup_cons,beq_eq_false_iff_ne.mpr hx];exact ih h
   ·have e:(if (k==NameKind.free&&env.scope.kind==.function&&env.kindOf n==some .cell)=true then (n,NameKind.cell) else (n,k))=(n,k):=if_neg hq
    simp only[e,List.lookup_cons,beq_eq_false_iff_ne.mpr hx];exact ih h
theorem qY {names:List (Str×NameKind)}{x:Str}{k:NameKind}(h:names.lookup x=some k):(x,k)∈names:=PySem.mem_of_lookup h
theorem Vr {X:Cx}{scope:Scope}{own:List Str}{cap:List (Str×Nat)}(S:CompScope X scope own cap){pins:List (Addr×Obj)}{σ:St}{H:Hp}{s:Shared}{C:Addr}{fp:List Addr}(I:Inv X pins σ H s)(hC:s.heap.objs.size<=C)(hf:∀b∈fp,FpOk X pins H b)(hlt:∀b∈fp,b < s.heap.objs.size){N:List Str}{pn:List (Addr×Obj)} :
  (cxc X scope C N s H fp pn).Ok:=by
 have hfr:∀y∈scope.names,y.2=.free->∃c,X.env.cells.lookup y.1=some c:=λy hy hk=>I.ok.has y.1 (S.frees y hy hk)
 have sub:∀x c,(clGo X.env.cells scope.names []).lookup x=some c->X.env.cells.lookup x=some c:=λx c=>kP _ _ x c hfr (λx c e=>by simp at e)
 refine⟨I.ok.mod,S.kind,I.ok.glob,I.ok.blt,hC,λx y c h1 h2=>I.ok.inj x y c (sub _ _ h1) (sub _ _ h2),λx hx=>?_,λx c h=>(by cases h),I.ok.hd,I.ok.frames,.inl rfl,λb hb=>⟨Nat.ne_of_lt (Nat.lt_of_lt_of_le (hlt b hb) hC),λx c e=>(hf b hb).2.2.2.2.1 x c (sub x c e)⟩,I.bs,Nat.le_trans I.ok.bsz I.sz,λb o e hb=>?_,λb hb z=>?_,I.stack,I.stkFree⟩
 ·have hx':(x,NameKind.free)∈scope.names:=by
   rcases hx with z | z
   ·exact uq (env:=X.env) z (.inl rfl) S.nocell
   ·exact uq (env:=X.env) z (.inr rfl) S.nocell
  exact Option.isSome_iff_exists.mp (qE scope.names [] x hx')
 ·rcases (hf b hb).2.2.2.1 with z | z
  ·exact I.ok.noex b o e z
  ·exact absurd (Nat.lt_of_lt_of_le (Heap.lt_size (I.ok.bs b o e).1) z) (Nat.lt_irrefl _)
 ·rcases List.mem_cons.mp (I.stkSub b z) with q | q
  ·exact (hf b hb).2.1 q
  ·exact (hf b hb).2.2.1 q
def tComp (wi:TI)(own:List Str)(cap:List (Str×Nat))(g:TG)(tc:TT)(te:TE):TE:=λσ H Q=>wi σ H λJ H1=>∃W:Nat->Nat->List V->Hp->Prop,(∃m,W 0 m [] H1)/\∀i m ys H,W i m ys H ->
 ys.length<=sizeLine/\((J.stop i H/\∀D,H D=none->Q (.ref D) (upd H D (.lst ys)))∨(J.go i H/\∃N:List V->Hp->Prop,(∀ys' H',N ys' H'->∃m',m' < m/\W (i+1) m' ys' H') /\
  ∀x H',J.yld i H x H'->∀σ1:St,σ1.length=own.length->g x (σ1++cap.map λp=>(σ[p.2]?).getD none) H' λσ2 H2=>(∃σ1':St,σ1'.length=own.length/\σ2=σ1'++cap.map λp=>(σ[p.2]?).getD none) /\
   tc σ2 H2 λb H3=>if b=true then te σ2 H3 λy H4=>N (ys++[y]) H4 else N ys H3))
def PIfs (X:Cx)(ifs:List Expr)(tc:TT):Prop :=
 ∀(pins:List (Addr×Obj)) (s:Shared) (σ:St) (H:Hp) (Q:Bool->Hp->Prop),Inv X pins σ H s->tc σ H Q ->
  wpAny #[4] X.A (forIn ifs true λc r=>if r=true then do let ok <-isTrue c X.env (eval c X.env);pure (ForInStep.yield ok) else pure (ForInStep.yield r)) (TP X pins σ Q) X.xe s
def tTrue:TT:=λ_ H Q=>Q true H
theorem GU {X:Cx}:PIfs X [] tTrue:=λpins s σ H Q I h=>wpAny_tests_nil ⟨H,I,h⟩
theorem zfd {X:Cx}{c:Expr}{tc:TT}(h:PT X c tc):PIfs X [c] tc:=λpins s σ H Q I hq=>wpAny_tests_one (h pins s σ H Q I hq)
theorem Vt {fs ex:List Addr}{H0 H:Hp}{h0 h h':Heap}{D C:Addr}{o:HO}(u:Un fs ex H0 H h0 h)(hD:h0.objs.size<=D)(hC:h0.objs.size<=C)(sb:Heap.SameBut C h h')(n:H D=none):Un fs ex H0 (upd H D o) h0 h':=by
 have ne:∀b ob,h0.get? b=some ob->b≠C:=λb ob e=>Nat.ne_of_lt (Nat.lt_of_lt_of_le (Heap.lt_size e) hC)
 have nd:∀b ob,h0.get? b=some ob->b≠D:=λb ob e=>Nat.ne_of_lt (Nat.lt_of_lt_of_le (Heap.lt_size e) hD)
 refine⟨λb ob e q hb hx=>(sb.2 b (ne b ob e)).trans (u.keep b ob e q hb hx),λb ob e q hb hx=>?_,λb ob e q hx=>?_,λb ob e hx=>?_,λb xs e=>?_,λb ob xs e=>?_,λb ps e=>?_⟩
 ·obtain⟨sl,z⟩:=u.slot b ob e q hb hx
  exact⟨sl,(sb.2 b (ne b ob e)).trans z⟩
 ·rw[zh (nd b ob e)];exact u.free b ob e q hx
 ·obtain⟨o',z⟩:=u.there b ob e hx
  exact⟨o',(sb.2 b (ne b ob e)).trans z⟩
 ·have z:=u.tups b xs e
  rw[zh (z8 z n)];exact z
 ·have z:=u.frzs b ob xs e
  rw[zh (z8 z n)];exact z
 ·obtain⟨m,z⟩:=u.tbls b ps e
  exact⟨m,by rw[zh (z8 z n)];exact z⟩
theorem JJ {X:Cx}{elt tg iter:Expr}{ifs:List Expr}{scope:Scope}{pos:Pos}{own:List Str}{cap:List (Str×Nat)}{wi:TI}{g:TG}{tc:TT}{te:TE}(hc:X.calm=true)(S:CompScope X scope own cap)(hi:PI X tg iter wi)
  (hin:∀C s₀ H₀ fp pn,PG #[13] tg g/\PIfs #[13] ifs tc/\PE #[13] elt te)
  (hs:∀x,foldedSetIterable iter X.env x=pure x:=by intro _;rfl) :
  PE X (.ListComp elt [⟨tg,iter,ifs,0⟩] scope pos) (tComp wi own cap g tc te):=by
 intro pins s σ H Q I h
 rw[eval_ListComp]
 have hfr:∀y∈scope.names,y.2=.free->∃c,X.env.cells.lookup y.1=some c:=λy hy hk=>I.ok.has y.1 (S.frees y hy hk)
 refine wpAny_comprehension_free (use:=none) rfl hs (Qj hfr) S.kind S.names (thn (hi pins s σ H _ I h) λxv s₁ h₁=>thn h₁ λit s₂ h₂=>?_)
 obtain⟨it,fp,tn,J,H2,rfl,I2,T,st2,f2,W,⟨m0,w0⟩,turn⟩:=h₂
 refine wpAny_newObj_type (wpAny_newFunctionEnv S.nocell (by intro y hy;simp at hy) (λh₁ hns₁ hsb₁=>?_) S.kind)
 dsimp only at hns₁ hsb₁ ⊢
 generalize hH3:s₂.heap.push { cls:=.type "list",dict:=none,data:=.seq ([]:List Value).toArray }=h3 at hns₁ hsb₁ ⊢
 have hC:h3.objs.size=s₂.heap.objs.size+1:=by rw[<-hH3,Heap.size_push]
 have flt:∀b∈fp,b < s₂.heap.objs.size:=λb hb=>let ⟨o,e,_⟩:=T.obj _ _ st2 b hb;Heap.lt_size e
 have old:∀b o,s₂.heap.get? b=some o->h₁.get? b=some o:=λb o e=>hsb₁.extBut b o (by rw[hC];exact Nat.ne_of_lt (Nat.lt_succ_of_lt (Heap.lt_size e))) (Heap.get?_push_of_some _ (hH3 ▸ Heap.get?_push_of_some _ e))
 have hDC:s₂.heap.objs.size≠h3.objs.size:=by rw[hC];exact Nat.ne_of_lt (Nat.lt_succ_self _)
 have hacc:h₁.get? s₂.heap.objs.size=some { cls:=.type "list",data:=.seq ([]:List Value).toArray }:=hsb₁.extBut _ _ hDC (Heap.get?_push_of_some _ (hH3 ▸ Heap.get?_push_size _ rfl))
 generalize hD:s₂.heap.objs.size=D at hacc hDC
 have hCle:s₂.heap.objs.size<=h3.objs.size:=by rw[hC];exact Nat.le_succ _
 generalize hCC:h3.objs.size=C at *
 have ok:#[10].Ok:=Vr S I2 hCle f2 flt
 have sub:∀x c,(clGo X.env.cells scope.names []).lookup x=some c->X.env.cells.lookup x=some c:=λx c=>kP _ _ x c hfr (λx c e=>by simp at e)
 obtain⟨hG,hT,hE⟩:=hin C s₂ H2 fp (X.pn++pins)
 have fl:∀ {α:Type} {t:Sem α} {Q:α->Shared->Prop} {E:Value->Shared->Prop} {s:Shared},wpAny #[4] X.A t Q (λ_ _=>False) s->wpAny #[4] X.A t Q E s:=λh=>wpAny_mono h (λ_ _ q=>q) λ_ _ f=>f.elim
 have dn:D∉frs X.stack:=λz=>by
  rcases List.mem_cons.mp (I2.stkSub D z) with q | q
  ·exact absurd I2.lt (by rw[<-q,hD];exact Nat.lt_irrefl _)
  ·exact I2.nofs (Nat.le_of_eq hD) q
 have pnl:∀p∈X.pn++pins,p.1 < s₂.heap.objs.size:=λp hp=>Heap.lt_size (I2.pin p hp).1
 have celt:∀x c,(clGo X.env.cells scope.names []).lookup x=some c->c < s₂.heap.objs.size:=λx c e=>let ⟨v,q⟩:=I2.cell x c (sub x c e);q.lt
 have hDle:s₂.heap.objs.size<=D:=Nat.le_of_eq hD
 have I0:Inv #[10] [(D,{ cls:=.type "list",data:=.seq ([]:List Value).toArray })] (List.replicate own.length none++cap.map λp=>(σ[p.2]?).getD none) H2 { s₂ with heap:=h₁,toks:=s₂.toks+([]:List (Str×Value)).length }:=by
  refine⟨ok,rfl,I2.bare,Un.kept old,⟨_,hns₁,λi x v e1 e2 e3=>?_⟩,λx c e=>?_,I2.hok.fresh hCle,λx c e=>I2.freeC x c (sub x c e),λp hp=>?_,I2.hok.kept old,?_⟩
  ·by_cases hi:i < own.length
   ·rw[List.getElem?_append_left (by simpa using hi),List.getElem?_replicate] at e2
    rw[if_pos hi] at e2
    cases e2
   ·have e1:(own++cap.map (·.1))[i]?=some x:=e1
    rw[List.getElem?_append_right #[1],List.getElem?_map] at e1
    rw[List.getElem?_append_right (by simpa using hi),List.length_replicate,List.getElem?_map] at e2
    cases q:cap[i - own.length]? with
    |none=>rw[q] at e1;cases e1
    |some p=>
     rw[q] at e1 e2
     have e1:p.1=x:=Option.some.inj e1
     have e2:(σ[p.2]?).getD none=some v:=Option.some.inj e2
     obtain⟨c1,c2⟩:=S.caps p (List.mem_of_getElem? q)
     have e2':σ[p.2]?=some (some v):=by
      cases q2:σ[p.2]? with
      |none=>rw[q2] at e2;cases e2
      |some w=>rw[q2] at e2;rw[show w=some v from e2]
     have hk:=S.frees (p.1,.free) (qY c1) rfl
     obtain⟨m,hn,hl⟩:=I2.loc
     obtain⟨u,ru,lk⟩:=hl p.2 p.1 v c2 e2' (.inr hk)
     refine⟨u,ru,.inr ?_⟩
     rcases lk with⟨k1,_⟩ | ⟨_,c,ec,hcell⟩
     ·rcases hk with z | z
      ·rw[k1] at z;cases z
      ·rw[k1] at z;cases z
     ·subst e1
      refine⟨ZO (env:=X.env) c1,?_⟩
      obtain⟨c',ec'⟩:=Option.isSome_iff_exists.mp (qE (cells:=X.env.cells) scope.names [] p.1 (qY c1))
      have z:=sub _ _ ec'
      rw[ec] at z;cases z
      obtain⟨o,ho,hd⟩:=hcell
      exact⟨c,ec',o,old c o ho,hd⟩
  ·obtain⟨v,o,ho,hd⟩:=I2.cell x c (sub x c e)
   exact⟨v,o,old c o ho,hd⟩
  ·rcases List.mem_append.mp (show p∈(X.pn++pins)++[(D,_)] from hp) with hp | hp
   ·obtain⟨q1,q2,q3,q4,q5⟩:=I2.pin p hp
    refine⟨old _ _ q1,q2,Nat.ne_of_lt (Nat.lt_of_lt_of_le (Heap.lt_size q1) hCle),λz=>?_,q5⟩
    rcases List.mem_cons.mp (I2.stkSub p.1 z) with q | q
    ·exact q3 q
    ·exact q4 q
   ·rw[List.mem_singleton.mp hp]
    exact⟨hacc,I2.hok.fresh hDle,hDC,dn,λv z=>by cases z⟩
  ·show (List.replicate own.length none++cap.map _).length=(own++cap.map _).length
   simp
 have stat:∀ {H':Hp} {pl:List (Addr×Obj)},(∀p∈pl,p.1=D∨p.1∈fp->p.1=D)->(∀b∈fp,H' b=none)->∀b∈fp,FpOk #[10] pl H' b:=by
  intro H' pl hpl hn b hb
  refine⟨hn b hb,Nat.ne_of_lt (Nat.lt_of_lt_of_le (flt b hb) hCle),λz=>?_,.inl hb,λx c e=>(f2 b hb).2.2.2.2.1 x c (sub x c e),λp hp=>?_⟩
  ·rcases List.mem_cons.mp (I2.stkSub b z) with q | q
   ·exact (f2 b hb).2.1 q
   ·exact (f2 b hb).2.2.1 q
  ·rcases List.mem_append.mp (show p∈(X.pn++pins)++pl from hp) with hp | hp
   ·exact (f2 b hb).2.2.2.2.2 p hp
   ·intro z
    have:=hpl p hp (.inr (z ▸ hb))
    rw[z] at this
    exact absurd (flt b hb) (by rw[this,hD];exact Nat.lt_irrefl _)
 have loop:∀s₃:Shared,s₃={ s₂ with heap:=h₁,toks:=s₂.toks+([]:List (Str×Value)).length } ->
   codeAny #[4] X.A (.compLoop (.ListComp elt [⟨tg,iter,ifs,0⟩] scope pos) 0 (.ref it) (.ref D) (compEnvC scope (clGo X.env.cells scope.names []) C X.env)) (compPost #[4] X.A X.xe none (EP X pins σ Q) (.ref D) C) s₃:=by
  rintro s₃ rfl
  refine JH (λn s'=>∃i ys its k σ1 H',Inv #[10] [(D,{ cls:=.type "list",data:=.seq (List.toArray its) k })] (σ1++cap.map λp=>(σ[p.2]?).getD none) H' s'/\σ1.length=own.length/\Vals ys its/\tn i s'.heap/\(∀b∈fp,H' b=none)/\W i n ys H') ?_ m0
   ⟨0,[],[],0,_,H2,I0,by simp,.nil,T.keep _ _ _ st2 λb hb o e=>old b o e,λb hb=>(f2 b hb).1,w0⟩
  rintro n s' ⟨i,ys,its,k,σ1,H',J1,hσ,rv,st1,fr1,w1⟩
  obtain⟨hsz,⟨stop,qn⟩ | ⟨go,N,hN,step⟩⟩:=turn i n ys H' w1
  ·refine thn (T.done #[10] rfl rfl rfl hc i _ s' _ H' (λ_ _=>False) J1 (stat (by intro p hp _;rw[List.mem_singleton.mp hp]) fr1) st1 stop) λr s4 ⟨hr,I4⟩=>?_
   subst hr
   obtain⟨m4,hn4,_⟩:=I4.loc
   refine⟨m4,hn4,λh' sb=>?_⟩
   obtain⟨pD1,pD2,pD3,pD4,pD5⟩:=I4.pin (D,_) (List.mem_append_right _ List.mem_cons_self)
   have u:=Vt (o:=.lst ys) I4.base hDle hCle sb pD2
   refine⟨.ref D,upd H' D (.lst ys),I2.call' (s':={ s4 with heap:=h' }) (ch:=fp) I4.os u ?_ I4.bare λb hb=>?_,rfl,qn D pD2⟩
   ·intro b ob e
    by_cases hb:b=D
    ·subst hb
     rw[zr] at e;cases e
     exact⟨hsz,its,k,rv,(sb.2 _ pD3).trans pD1⟩
    ·rw[zh hb] at e
     refine (I4.hok b ob e).stay (λc v hc' q=>(sb.2 c ?_).trans q) (λc q=>by rw[zh (z8 q pD2)];exact q) λc xs q=>by rw[zh (z8 q pD2)];exact q
     have hCn:H' C=none:=I4.free
     rcases hc' with z | z
     ·rw[z];exact z8 e hCn
     ·exact z8 z hCn
   ·obtain⟨q1,q2,q3,q4,q5,q6⟩:=f2 b hb
    exact⟨q4,q2,q5,q6⟩
  ·refine thn (T.item #[10] rfl rfl rfl hc i _ s' _ H' (λ_ _=>False) J1 (stat (by intro p hp _;rw[List.mem_singleton.mp hp]) fr1) st1 go) λr s4 ⟨u,hr,h4⟩=>?_
   subst hr
   refine thn h4 λ_ s5 ⟨x,H5,I5,r5,y5,st5,fr5⟩=>?_
   have I5':=I5.pinned (stat (by intro p hp _;rw[List.mem_singleton.mp hp]) fr5) (T.obj _ _ st5)
   refine thn (hG _ s5 _ H5 x u _ I5' r5 (step x H5 y5 σ1 hσ)) λ_ s6 ⟨σ6,H6,I6,⟨σ1',l6,e6⟩,q6⟩=>?_
   subst e6
   refine thn (hT _ s6 _ H6 _ I6 q6) λok s7 ⟨H7,I7,q7⟩=>?_
   have again:∀ {s8:Shared} {H8:Hp} {ys8:List V} {its8:List Value} {k8:Nat},Inv #[10] ([(D,{ cls:=.type "list",data:=.seq (List.toArray its8) k8 })]++pinsAt fp s5.heap) (σ1'++cap.map λp=>(σ[p.2]?).getD none) H8 s8->Vals ys8 its8->N ys8 H8 ->
     ∃m,m < n/\∃i ys its k σ1 H',Inv #[10] [(D,{ cls:=.type "list",data:=.seq (List.toArray its) k })] (σ1++cap.map λp=>(σ[p.2]?).getD none) H' s8/\σ1.length=own.length/\Vals ys its/\tn i s8.heap/\(∀b∈fp,H' b=none)/\W i m ys H':=by
    intro s8 H8 ys8 its8 k8 I8 rv8 n8
    obtain⟨m',hm,w8⟩:=hN ys8 H8 n8
    refine⟨m',hm,i+1,ys8,its8,k8,σ1',H8,I8.unpinned,l6,rv8,T.keep _ _ _ st5 λb hb o e=>(I8.pin (b,o) (List.mem_append_right _ (List.mem_append_right _ (wn hb e)))).1,λb hb=>?_,w8⟩
    obtain⟨o,e,d⟩:=T.obj _ _ st5 b hb
    exact (I8.pin (b,o) (List.mem_append_right _ (List.mem_append_right _ (wn hb e)))).2.1
   cases ok with
   |false=>exact again I7 rv q7
   |true=>
    refine thn (hE _ s7 _ H7 _ I7 q7) λy s8 ⟨v8,H8,I8,r8,q8⟩=>?_
    obtain⟨pD1,pD2,pD3,pD4,pD5⟩:=I8.pin (D,_) (List.mem_append_right _ List.mem_cons_self)
    have hsz':its.toArray.size<=sizeLine:=by rw[List.size_toArray,<-rv.length];exact hsz
    refine wpAny_list_append_plain (hsz:=hsz') (items:=its.toArray) ⟨k,pD1⟩ λh9 pl9 sb9=>?_
    obtain⟨k9,e9⟩:=pl9
    have ea:its.toArray.push y=(its++[y]).toArray:=by simp
    rw[ea] at e9
    have I8':Inv #[10] (pinsAt fp s5.heap) (σ1'++cap.map λp=>(σ[p.2]?).getD none) H8 s8:=I8.pins_of λp hp=>I8.pin p (List.mem_append_right _ (List.mem_append_right _ hp))
    have fD:FpOk #[10] (pinsAt fp s5.heap) H8 D:=by
     refine⟨pD2,pD3,pD4,.inr hDle,λx c e z=>?_,λp hp z=>?_⟩
     ·exact absurd (celt x c e) (by rw[z,hD];exact Nat.lt_irrefl _)
     ·rcases List.mem_append.mp (show p∈(X.pn++pins)++_ from hp) with hp | hp
      ·exact absurd (pnl p hp) (by rw[z,hD];exact Nat.lt_irrefl _)
      ·exact absurd (flt p.1 (ut hp).1) (by rw[z,hD];exact Nat.lt_irrefl _)
    have I9:Inv #[10] (pinsAt fp s5.heap) (σ1'++cap.map λp=>(σ[p.2]?).getD none) H8 { s8 with heap:=h9 }:=qN (t':=s8.toks) (ch:=[D]) I8' (λb o hb e=>(sb9.2 b λz=>hb (by simp[z])).trans e) λb hb=>by rw[List.mem_singleton.mp hb];exact fD
    have I10:Inv #[10] ([(D,{ cls:=.type "list",data:=.seq (its++[y]).toArray k9 })]++pinsAt fp s5.heap) (σ1'++cap.map λp=>(σ[p.2]?).getD none) H8 { s8 with heap:=h9 }:=I9.pins_of λp hp=>by
     rcases List.mem_append.mp hp with hp | hp
     ·rw[List.mem_singleton.mp hp]
      exact⟨e9,pD2,pD3,pD4,λv z=>by cases z⟩
     ·exact I9.pin p (List.mem_append_right _ hp)
    exact again (s8:={ s8 with heap:=h9 }) I10 (rv.append (.cons r8 .nil)) q8
 subst hD
 exact codeAny_compStart_list (loop _ rfl) (T.self _ 0 _ _ _ (T.keep _ _ _ st2 λb hb o e=>old b o e) (loop _ rfl))
theorem zco {X:Cx}{i:Nat}{y:Str}{py spos:Pos}{elt tg iter:Expr}{ifs:List Expr}{scope:Scope}{pos:Pos}{own:List Str}{cap:List (Str×Nat)}{wi:TI}{g:TG}{tc:TT}{te:TE}(hc:X.calm=true)(S:CompScope X scope own cap)(hi:PI X tg iter wi)
  (hin:∀C s₀ H₀ fp pn,PG #[13] tg g/\PIfs #[13] ifs tc/\PE #[13] elt te)
  (hN:X.N.Nodup) (hiy:X.N[i]?=some y) (hy:Loc X.env.scope y) (hsw:swapsWith (.ListComp elt [⟨tg,iter,ifs,0⟩] scope pos) (some (.Name y py)) spos.line X.env=pure true)
  (hs:∀x,foldedSetIterable iter X.env x=pure x:=by intro _;rfl) (hfn:X.fn y=true∨X.env.scope.names.lookup y=some .local:=by first | exact .inl rfl | exact .inr rfl | assumption) :
  PS X (.Assign [.Name y py] (.ListComp elt [⟨tg,iter,ifs,0⟩] scope pos) spos) (tAsg (tComp wi own cap g tc te) (gName i)):=by
 intro pins s σ H Dn I h
 rw[exec_Assign_Name_used _ _ _ _ hsw]
 refine wpAny_bind (wpAny_standAt (wpAny_bind ?_))
 show wpAny _ X.A (do let _ <-comprehension (.ListComp elt [⟨tg,iter,ifs,0⟩] scope pos) scope X.env _ (newList []) false (eval iter X.env) (some (assign (.Name y py) X.env))) _ _ s
 have hfr:∀y∈scope.names,y.2=.free->∃c,X.env.cells.lookup y.1=some c:=λy hy hk=>I.ok.has y.1 (S.frees y hy hk)
 refine wpAny_bind (wpAny_mono (wpAny_comprehension_free (use:=some (assign (.Name y py) X.env)) (Q:=λ_ s'=>SP X pins Dn .next s') rfl hs (Qj hfr) S.kind S.names (thn (hi pins s σ H _ I h) λxv s₁ h₁=>thn h₁ λit s₂ h₂=>?_)) (λ_ s' hq=>wpAny_pure (wpAny_pure hq)) λ_ _ e=>e)
 obtain⟨it,fp,tn,J,H2,rfl,I2,T,st2,f2,W,⟨m0,w0⟩,turn⟩:=h₂
 refine wpAny_newObj_type (wpAny_newFunctionEnv S.nocell (by intro y hy;simp at hy) (λh₁ hns₁ hsb₁=>?_) S.kind)
 dsimp only at hns₁ hsb₁ ⊢
 generalize hH3:s₂.heap.push { cls:=.type "list",dict:=none,data:=.seq ([]:List Value).toArray }=h3 at hns₁ hsb₁ ⊢
 have hC:h3.objs.size=s₂.heap.objs.size+1:=by rw[<-hH3,Heap.size_push]
 have flt:∀b∈fp,b < s₂.heap.objs.size:=λb hb=>let ⟨o,e,_⟩:=T.obj _ _ st2 b hb;Heap.lt_size e
 have old:∀b o,s₂.heap.get? b=some o->h₁.get? b=some o:=λb o e=>hsb₁.extBut b o (by rw[hC];exact Nat.ne_of_lt (Nat.lt_succ_of_lt (Heap.lt_size e))) (Heap.get?_push_of_some _ (hH3 ▸ Heap.get?_push_of_some _ e))
 have hDC:s₂.heap.objs.size≠h3.objs.size:=by rw[hC];exact Nat.ne_of_lt (Nat.lt_succ_self _)
 have hacc:h₁.get? s₂.heap.objs.size=some { cls:=.type "list",data:=.seq ([]:List Value).toArray }:=hsb₁.extBut _ _ hDC (Heap.get?_push_of_some _ (hH3 ▸ Heap.get?_push_size _ rfl))
 generalize hD:s₂.heap.objs.size=D at hacc hDC
 have hCle:s₂.heap.objs.size<=h3.objs.size:=by rw[hC];exact Nat.le_succ _
 generalize hCC:h3.objs.size=C at *
 have ok:#[10].Ok:=Vr S I2 hCle f2 flt
 have sub:∀x c,(clGo X.env.cells scope.names []).lookup x=some c->X.env.cells.lookup x=some c:=λx c=>kP _ _ x c hfr (λx c e=>by simp at e)
 obtain⟨hG,hT,hE⟩:=hin C s₂ H2 fp (X.pn++pins)
 have fl:∀ {α:Type} {t:Sem α} {Q:α->Shared->Prop} {E:Value->Shared->Prop} {s:Shared},wpAny #[4] X.A t Q (λ_ _=>False) s->wpAny #[4] X.A t Q E s:=λh=>wpAny_mono h (λ_ _ q=>q) λ_ _ f=>f.elim
 have dn:D∉frs X.stack:=λz=>by
  rcases List.mem_cons.mp (I2.stkSub D z) with q | q
  ·exact absurd I2.lt (by rw[<-q,hD];exact Nat.lt_irrefl _)
  ·exact I2.nofs (Nat.le_of_eq hD) q
 have pnl:∀p∈X.pn++pins,p.1 < s₂.heap.objs.size:=λp hp=>Heap.lt_size (I2.pin p hp).1
 have celt:∀x c,(clGo X.env.cells scope.names []).lookup x=some c->c < s₂.heap.objs.size:=λx c e=>let ⟨v,q⟩:=I2.cell x c (sub x c e);q.lt
 have hDle:s₂.heap.objs.size<=D:=Nat.le_of_eq hD
 have I0:Inv #[10] [(D,{ cls:=.type "list",data:=.seq ([]:List Value).toArray })] (List.replicate own.length none++cap.map λp=>(σ[p.2]?).getD none) H2 { s₂ with heap:=h₁,toks:=s₂.toks+([]:List (Str×Value)).length }:=by
  refine⟨ok,rfl,I2.bare,Un.kept old,⟨_,hns₁,λi x v e1 e2 e3=>?_⟩,λx c e=>?_,I2.hok.fresh hCle,λx c e=>I2.freeC x c (sub x c e),λp hp=>?_,I2.hok.kept old,?_⟩
  ·by_cases hi:i < own.length
   ·rw[List.getElem?_append_left (by simpa using hi),List.getElem?_replicate] at e2
    rw[if_pos hi] at e2
    cases e2
   ·have e1:(own++cap.map (·.1))[i]?=some x:=e1
    rw[List.getElem?_append_right #[1],List.getElem?_map] at e1
    rw[List.getElem?_append_right (by simpa using hi),List.length_replicate,List.getElem?_map] at e2
    cases q:cap[i - own.length]? with
    |none=>rw[q] at e1;cases e1
    |some p=>
     rw[q] at e1 e2
     have e1:p.1=x:=Option.some.inj e1
     have e2:(σ[p.2]?).getD none=some v:=Option.some.inj e2
     obtain⟨c1,c2⟩:=S.caps p (List.mem_of_getElem? q)
     have e2':σ[p.2]?=some (some v):=by
      cases q2:σ[p.2]? with
      |none=>rw[q2] at e2;cases e2
      |some w=>rw[q2] at e2;rw[show w=some v from e2]
     have hk:=S.frees (p.1,.free) (qY c1) rfl
     obtain⟨m,hn,hl⟩:=I2.loc
     obtain⟨u,ru,lk⟩:=hl p.2 p.1 v c2 e2' (.inr hk)
     refine⟨u,ru,.inr ?_⟩
     rcases lk with⟨k1,_⟩ | ⟨_,c,ec,hcell⟩
     ·rcases hk with z | z
      ·rw[k1] at z;cases z
      ·rw[k1] at z;cases z
     ·subst e1
      refine⟨ZO (env:=X.env) c1,?_⟩
      obtain⟨c',ec'⟩:=Option.isSome_iff_exists.mp (qE (cells:=X.env.cells) scope.names [] p.1 (qY c1))
      have z:=sub _ _ ec'
      rw[ec] at z;cases z
      obtain⟨o,ho,hd⟩:=hcell
      exact⟨c,ec',o,old c o ho,hd⟩
  ·obtain⟨v,o,ho,hd⟩:=I2.cell x c (sub x c e)
   exact⟨v,o,old c o ho,hd⟩
  ·rcases List.mem_append.mp (show p∈(X.pn++pins)++[(D,_)] from hp) with hp | hp
   ·obtain⟨q1,q2,q3,q4,q5⟩:=I2.pin p hp
    refine⟨old _ _ q1,q2,Nat.ne_of_lt (Nat.lt_of_lt_of_le (Heap.lt_size q1) hCle),λz=>?_,q5⟩
    rcases List.mem_cons.mp (I2.stkSub p.1 z) with q | q
    ·exact q3 q
    ·exact q4 q
   ·rw[List.mem_singleton.mp hp]
    exact⟨hacc,I2.hok.fresh hDle,hDC,dn,λv z=>by cases z⟩
  ·show (List.replicate own.length none++cap.map _).length=(own++cap.map _).length
   simp
 have stat:∀ {H':Hp} {pl:List (Addr×Obj)},(∀p∈pl,p.1=D∨p.1∈fp->p.1=D)->(∀b∈fp,H' b=none)->∀b∈fp,FpOk #[10] pl H' b:=by
  intro H' pl hpl hn b hb
  refine⟨hn b hb,Nat.ne_of_lt (Nat.lt_of_lt_of_le (flt b hb) hCle),λz=>?_,.inl hb,λx c e=>(f2 b hb).2.2.2.2.1 x c (sub x c e),λp hp=>?_⟩
  ·rcases List.mem_cons.mp (I2.stkSub b z) with q | q
   ·exact (f2 b hb).2.1 q
   ·exact (f2 b hb).2.2.1 q
  ·rcases List.mem_append.mp (show p∈(X.pn++pins)++pl from hp) with hp | hp
   ·exact (f2 b hb).2.2.2.2.2 p hp
   ·intro z
    have:=hpl p hp (.inr (z ▸ hb))
    rw[z] at this
    exact absurd (flt b hb) (by rw[this,hD];exact Nat.lt_irrefl _)
 have loop:∀s₃:Shared,s₃={ s₂ with heap:=h₁,toks:=s₂.toks+([]:List (Str×Value)).length } ->
   codeAny #[4] X.A (.compLoop (.ListComp elt [⟨tg,iter,ifs,0⟩] scope pos) 0 (.ref it) (.ref D) (compEnvC scope (clGo X.env.cells scope.names []) C X.env)) (compPost #[4] X.A X.xe (some (assign (.Name y py) X.env)) (λ_ s'=>SP X pins Dn .next s') (.ref D) C) s₃:=by
  rintro s₃ rfl
  refine JH (λn s'=>∃i ys its k σ1 H',Inv #[10] [(D,{ cls:=.type "list",data:=.seq (List.toArray its) k })] (σ1++cap.map λp=>(σ[p.2]?).getD none) H' s'/\σ1.length=own.length/\Vals ys its/\tn i s'.heap/\(∀b∈fp,H' b=none)/\W i n ys H') ?_ m0
   ⟨0,[],[],0,_,H2,I0,by simp,.nil,T.keep _ _ _ st2 λb hb o e=>old b o e,λb hb=>(f2 b hb).1,w0⟩
  rintro n s' ⟨i,ys,its,k,σ1,H',J1,hσ,rv,st1,fr1,w1⟩
  obtain⟨hsz,⟨stop,qn⟩ | ⟨go,N,hN,step⟩⟩:=turn i n ys H' w1
  ·refine thn (T.done #[10] rfl rfl rfl hc i _ s' _ H' (λ_ _=>False) J1 (stat (by intro p hp _;rw[List.mem_singleton.mp hp]) fr1) st1 stop) λr s4 ⟨hr,I4⟩=>?_
   subst hr
   obtain⟨m4,hn4,_⟩:=I4.loc
   obtain⟨pD1,pD2,pD3,pD4,pD5⟩:=I4.pin (D,_) (List.mem_append_right _ List.mem_cons_self)
   have u:=Vt (o:=.lst ys) I4.base hDle hCle (show Heap.SameBut C s4.heap s4.heap from⟨rfl,λ_ _=>rfl⟩) pD2
   have hCn:H' C=none:=I4.free
   have I5:Inv X pins σ (upd H' D (.lst ys)) s4:=by
    refine I2.call' (s':=s4) (ch:=fp) I4.os u ?_ I4.bare λb hb=>?_
    ·intro b ob e
     by_cases hb:b=D
     ·subst hb
      rw[zr] at e;cases e
      exact⟨hsz,its,k,rv,pD1⟩
     ·rw[zh hb] at e
      exact (I4.hok b ob e).stay (λc v hc' q=>q) (λc q=>by rw[zh (z8 q pD2)];exact q) λc xs q=>by rw[zh (z8 q pD2)];exact q
    ·obtain⟨q1,q2,q3,q4,q5,q6⟩:=f2 b hb
     exact⟨q4,q2,q5,q6⟩
   show wpAny _ X.A (assign (.Name y py) X.env (.ref D)) _ _ _
   refine wpAny_assign_Name (kS I5 hN hiy hy (v:=.ref D) rfl (λs5 I6 ⟨a5,sb5,ha5⟩=>?_) hfn)
   have hCa:C≠a5:=by
    rcases ha5 with z | z
    ·rw[z];exact Nat.ne_of_gt (Nat.lt_of_lt_of_le I2.lt hCle)
    ·intro e
     obtain⟨v,q⟩:=I2.cell _ _ z
     exact absurd (Nat.lt_of_lt_of_le q.lt (by rw[<-e];exact hCle)) (Nat.lt_irrefl _)
   refine⟨m4,hn4.sameBut sb5 hCa,λh3 sb3=>?_⟩
   have hC0:(upd H' D (.lst ys)) C=none:=by rw[zh (Ne.symm hDC)];exact hCn
   exact⟨_,_,qN (t':=s5.toks) (ch:=[C]) I6 (λb o hb q=>(sb3.2 b (λz=>hb (by simp[z]))).trans q) (λb hb=>by rw[List.mem_singleton.mp hb];exact I2.fpOk hCle hC0),qn D pD2⟩
  ·refine thn (T.item #[10] rfl rfl rfl hc i _ s' _ H' (λ_ _=>False) J1 (stat (by intro p hp _;rw[List.mem_singleton.mp hp]) fr1) st1 go) λr s4 ⟨u,hr,h4⟩=>?_
   subst hr
   refine thn h4 λ_ s5 ⟨x,H5,I5,r5,y5,st5,fr5⟩=>?_
   have I5':=I5.pinned (stat (by intro p hp _;rw[List.mem_singleton.mp hp]) fr5) (T.obj _ _ st5)
   refine thn (hG _ s5 _ H5 x u _ I5' r5 (step x H5 y5 σ1 hσ)) λ_ s6 ⟨σ6,H6,I6,⟨σ1',l6,e6⟩,q6⟩=>?_
   subst e6
   refine thn (hT _ s6 _ H6 _ I6 q6) λok s7 ⟨H7,I7,q7⟩=>?_
   have again:∀ {s8:Shared} {H8:Hp} {ys8:List V} {its8:List Value} {k8:Nat},Inv #[10] ([(D,{ cls:=.type "list",data:=.seq (List.toArray its8) k8 })]++pinsAt fp s5.heap) (σ1'++cap.map λp=>(σ[p.2]?).getD none) H8 s8->Vals ys8 its8->N ys8 H8 ->
     ∃m,m < n/\∃i ys its k σ1 H',Inv #[10] [(D,{ cls:=.type "list",data:=.seq (List.toArray its) k })] (σ1++cap.map λp=>(σ[p.2]?).getD none) H' s8/\σ1.length=own.length/\Vals ys its/\tn i s8.heap/\(∀b∈fp,H' b=none)/\W i m ys H':=by
    intro s8 H8 ys8 its8 k8 I8 rv8 n8
    obtain⟨m',hm,w8⟩:=hN ys8 H8 n8
    refine⟨m',hm,i+1,ys8,its8,k8,σ1',H8,I8.unpinned,l6,rv8,T.keep _ _ _ st5 λb hb o e=>(I8.pin (b,o) (List.mem_append_right _ (List.mem_append_right _ (wn hb e)))).1,λb hb=>?_,w8⟩
    obtain⟨o,e,d⟩:=T.obj _ _ st5 b hb
    exact (I8.pin (b,o) (List.mem_append_right _ (List.mem_append_right _ (wn hb e)))).2.1
   cases ok with
   |false=>exact again I7 rv q7
   |true=>
    refine thn (hE _ s7 _ H7 _ I7 q7) λy s8 ⟨v8,H8,I8,r8,q8⟩=>?_
    obtain⟨pD1,pD2,pD3,pD4,pD5⟩:=I8.pin (D,_) (List.mem_append_right _ List.mem_cons_self)
    have hsz':its.toArray.size<=sizeLine:=by rw[List.size_toArray,<-rv.length];exact hsz
    refine wpAny_list_append_plain (hsz:=hsz') (items:=its.toArray) ⟨k,pD1⟩ λh9 pl9 sb9=>?_
    obtain⟨k9,e9⟩:=pl9
    have ea:its.toArray.push y=(its++[y]).toArray:=by simp
    rw[ea] at e9
    have I8':Inv #[10] (pinsAt fp s5.heap) (σ1'++cap.map λp=>(σ[p.2]?).getD none) H8 s8:=I8.pins_of λp hp=>I8.pin p (List.mem_append_right _ (List.mem_append_right _ hp))
    have fD:FpOk #[10] (pinsAt fp s5.heap) H8 D:=by
     refine⟨pD2,pD3,pD4,.inr hDle,λx c e z=>?_,λp hp z=>?_⟩
     ·exact absurd (celt x c e) (by rw[z,hD];exact Nat.lt_irrefl _)
     ·rcases List.mem_append.mp (show p∈(X.pn++pins)++_ from hp) with hp | hp
      ·exact absurd (pnl p hp) (by rw[z,hD];exact Nat.lt_irrefl _)
      ·exact absurd (flt p.1 (ut hp).1) (by rw[z,hD];exact Nat.lt_irrefl _)
    have I9:Inv #[10] (pinsAt fp s5.heap) (σ1'++cap.map λp=>(σ[p.2]?).getD none) H8 { s8 with heap:=h9 }:=qN (t':=s8.toks) (ch:=[D]) I8' (λb o hb e=>(sb9.2 b λz=>hb (by simp[z])).trans e) λb hb=>by rw[List.mem_singleton.mp hb];exact fD
    have I10:Inv #[10] ([(D,{ cls:=.type "list",data:=.seq (its++[y]).toArray k9 })]++pinsAt fp s5.heap) (σ1'++cap.map λp=>(σ[p.2]?).getD none) H8 { s8 with heap:=h9 }:=I9.pins_of λp hp=>by
     rcases List.mem_append.mp hp with hp | hp
     ·rw[List.mem_singleton.mp hp]
      exact⟨e9,pD2,pD3,pD4,λv z=>by cases z⟩
     ·exact I9.pin p (List.mem_append_right _ hp)
    exact again (s8:={ s8 with heap:=h9 }) I10 (rv.append (.cons r8 .nil)) q8
 subst hD
 exact codeAny_compStart_list (loop _ rfl) (T.self _ 0 _ _ _ (T.keep _ _ _ st2 λb hb o e=>old b o e) (loop _ rfl))
end L3
namespace L2
open PySem PySem.Spec PyProof.Rows
section
variable {κ:Type} [DecidableEq κ]
def valV (kvs:List (κ×V))(k:κ):Option V:=(kvs.find? λkv=>decide (kv.1=k)).map (·.2)
def putK (kvs:List (κ×V))(k:κ)(v:V):List (κ×V) :=
 if (kvs.any λkv=>decide (kv.1=k))=true then kvs.map (λkv=>if kv.1=k then (kv.1,v) else kv) else kvs++[(k,v)]
theorem u0 {p:κ×V}{r:List (κ×V)}{k:κ}(e:p.1=k):valV (p::r) k=some p.2:=by simp[valV,List.find?_cons,e]
theorem uV {p:κ×V}{r:List (κ×V)}{k:κ}(e:¬p.1=k):valV (p::r) k=valV r k:=by simp[valV,List.find?_cons,e]
theorem VZ (kvs:List (κ×V))(k:κ)(v:V):(putK kvs k v).length<=kvs.length+1:=by
 unfold putK
 split
 ·rw[List.length_map];omega
 ·rw[List.length_append,List.length_cons,List.length_nil];omega
theorem RelO.isSome_eq {o:Option V}{u:Option Value}(r:RelO o u):o.isSome=u.isSome:=by
 cases o with
 |none=>cases u with
  |none=>rfl
  |some _=>exact (show False from r).elim
 |some _=>cases u with
  |none=>exact (show False from r).elim
  |some _=>rfl
theorem KV.val {kvs:List (κ×V)}{vs:List (κ×Value)}(r:KV kvs vs)(k:κ):RelO (valV kvs k) (valueAt vs k):=by
 unfold KV at r
 induction r with
 |nil=>exact True.intro
 | @cons p q ps qs h t ih=>
  obtain⟨h1,h2⟩:=h
  by_cases e:p.1=k
  ·have e':q.1=k:=h1.symm.trans e
   have b:valueAt (q::qs) k=some q.2:=by simp[valueAt,List.find?_cons,e']
   rw[u0 e,b];exact h2
  ·have e':¬q.1=k:=λz=>e (h1.trans z)
   have b:valueAt (q::qs) k=valueAt qs k:=by simp[valueAt,List.find?_cons,e']
   rw[uV e,b];exact ih
theorem KV.any {kvs:List (κ×V)}{vs:List (κ×Value)}(r:KV kvs vs)(k:κ):(kvs.any λkv=>decide (kv.1=k))=vs.any λkv=>decide (kv.1=k):=by
 unfold KV at r
 induction r with
 |nil=>rfl
 |cons h t ih=>rw[List.any_cons,List.any_cons,ih,h.1]
theorem KV.repl {kvs:List (κ×V)}{vs:List (κ×Value)}(r:KV kvs vs)(k:κ){y:V}{u:Value}(ry:RelV y u) :
  KV (kvs.map λkv=>if kv.1=k then (kv.1,y) else kv) (vs.map λkv=>if kv.1=k then (kv.1,u) else kv):=by
 unfold KV at r ⊢
 induction r with
 |nil=>exact .nil
 | @cons p q ps qs h t ih=>
  rw[List.map_cons,List.map_cons]
  refine .cons ?_ ih
  obtain⟨h1,h2⟩:=h
  by_cases e:p.1=k
  ·rw[if_pos e,if_pos (h1.symm.trans e)];exact⟨h1,ry⟩
  ·rw[if_neg e,if_neg (λz=>e (h1.trans z))];exact⟨h1,h2⟩
theorem KV.put {kvs:List (κ×V)}{vs:List (κ×Value)}(r:KV kvs vs)(k:κ){y:V}{u:Value}(ry:RelV y u):KV (putK kvs k y) (stored vs k u):=by
 unfold putK stored
 rw[r.any k]
 by_cases e:(vs.any λkv=>decide (kv.1=k))=true
 ·rw[if_pos e,if_pos e];exact r.repl k ry
 ·rw[if_neg e,if_neg e];exact Paired.snoc r ⟨rfl,ry⟩
theorem KV.length {kvs:List (κ×V)}{vs:List (κ×Value)}(r:KV kvs vs):kvs.length=vs.length:=Paired.length r
end
theorem kh {P:Program}{w:World}{k:Key}{u:Value}(r:RelV (kV k) u):(zJ P w).is k u=true:=by
 cases k with
 |inl i=>obtain⟨t,e⟩:=(show ∃t,u=Value.int i t from r);subst e;exact ze3 P w i t
 |inr x=>obtain⟨t,e⟩:=(show ∃t,u=Value.str x t from r);subst e;exact zfw P w x t
section
variable {P:Program}{w:World}{H:Hp}{h:Heap}{a:Addr}
theorem zd6 {u:HO}(ok:HOk P w H h)(e:Rd H a u):ObjOk P w H h a u:=e.ok ok
theorem zb6 {kvs:List (Key×V)}(ok:HOk P w H h)(e:Rd H a (.dK kvs)):kvs.length<=sizeLine/\(a==sysModules)=false/\∃vs,KV kvs vs/\h.DictOf (zJ P w) a vs :=
 show ObjOk P w H h a (.dK kvs) from zd6 ok e
theorem KN {kvs:List (Key×V)}(ok:HOk P w H h)(e:H a=some (.dK kvs)):kvs.length<=sizeLine/\(a==sysModules)=false/\∃vs,KV kvs vs/\h.DictOf (zJ P w) a vs:=zb6 ok (.inl e)
end
section
variable {X:Cx}{pins:List (Addr×Obj)}{σ:St}{H:Hp}{s:Shared}{a:Addr}{y v:V}{u r:Value}{o:Option V}{A:Around}{E:Value->Shared->Prop}
theorem Inv.big (I:Inv X pins σ H s):sysModules < s.heap.objs.size:=by
 have h:mainGlobals < s.heap.objs.size:=(I.mod.glob.keeps I.bk).lt
 exact Nat.lt_trans (by decide) h
theorem Zi {h':Heap}{t':Nat}{ob:HO}(I:Inv X pins σ H s)(mu:Mut (H a))(hs:Heap.SameBut a s.heap h')(he:∃q,h'.get? a=some q)(new:ObjOk X.prog X.w (upd H a ob) h' a ob) :
  Inv X pins σ (upd H a ob) { s with heap:=h',toks:=t' } :=
 I.write (x:=a) (e:=a) mu (.inl rfl) (λb q hb z=>(hs.2 b hb).trans z) he new
end
section
variable {X:Cx}{pins:List (Addr×Obj)}{σ:St}{H:Hp}{s:Shared}{a:Addr}{kvs:List (Key×V)}{k:Key}{u:Value}{A:Around}{E:Value->Shared->Prop}
end
def NoSl (i:Expr):Prop:=∀ov iv,subscripted i false ov iv=operate [ov,iv] (getItem ov iv)
theorem zdr {prog:Program}{w:World}{A:Around}{E:Value->Shared->Prop}{s:Shared}{env:Env}{value slice:Expr}{pos:Pos}{T id:String}{Q:Value->Shared->Prop}
  (hl:typeLookup (.type T) "__getitem__" = pure (some (.builtin id))) (hs:NoSl slice)
  (h:wpAny (model prog w) A (eval value env) (λo s₁=>wpAny (model prog w) A (eval slice env) (λi s₂=>s₂.TypeIs o T/\wpAny (model prog w) A (getItem o i) Q E s₂) E s₁) E s) :
  wpAny (model prog w) A (eval (.Subscript value slice pos) env) Q E s:=by
 refine Subscript_ (wpAny_mono h (λo s₁ h₁=>wpAny_mono h₁ (λi s₂ h₂=>?_) λ_ _ x=>x) λ_ _ x=>x)
 obtain⟨hT,h₂⟩:=h₂
 unfold subscriptTail
 refine wpAny_bind ?_
 rw[getitemInPython_of_ne hT.not_modules]
 refine wpAny_bind (wpAny_specialOf hT hl ?_)
 have fin:wpAny (model prog w) A (subscripted slice false o i) (λr s₃=>wpAny (model prog w) A (letTemporaryGo value o r >>= λ_=>pure r) Q E s₃) E s₂:=by
  rw[hs o i]
  exact wpAny_operating (wpAny_mono h₂ (λr s₃ h₃=>wpAny_bind (wpAny_letTemporaryGo (wpAny_pure h₃))) λ_ _ x=>x)
 first
  |exact wpAny_pure (wpAny_bind fin)
  |exact wpAny_bind (wpAny_pure (wpAny_bind fin))
  |exact wpAny_bind fin
section
variable {X:Cx}{o i e value:Expr}{pos pos' tpos:Pos}{td ty tv:TE}
end
theorem zd7 {P:Program}{w:World}{H:Hp}(h:Heap)(hb:sysModules < h.objs.size):ObjOk P w H (h.push { cls:=.type "dict",data:=.dict #[] }) h.objs.size (.dK []) :=
 ⟨Nat.zero_le _,beq_eq_false_iff_ne.mpr (Ne.symm (Nat.ne_of_lt hb)),[],.nil,Heap.DictOf.new h⟩
section
variable {X:Cx}{pos:Pos}
end
def tPairs:List (TE×TE)->St->Hp->(List (V×V)->Hp->Prop)->Prop
 | [],_,H,Q=>Q [] H
 | (tk,tv)::r,σ,H,Q=>tk σ H λx H1=>tv σ H1 λy H2=>tPairs r σ H2 λps H3=>Q ((x,y)::ps) H3
abbrev VV:List (V×V)->List (Value×Value)->Prop:=Paired λp q=>RelV p.1 q.1/\RelV p.2 q.2
def PPs (X:Cx)(pos:Pos)(keys:List (Option Expr))(values:List Expr)(trs:List (TE×TE)):Prop :=
 ∀(pins:List (Addr×Obj)) (s:Shared) (σ:St) (H:Hp) (Q:List (V×V)->Hp->Prop),Inv X pins σ H s->tPairs trs σ H Q ->
  wpAny #[4] X.A (evalPairs (pairTrees keys values X.env pos)) (λvs s'=>∃ps H',Inv X pins σ H' s'/\VV ps vs/\Q ps H') X.xe s
theorem zbu {X:Cx}{pos:Pos}:PPs X pos [] [] []:=λpins s σ H Q I h=>pairTrees_nil_walk ⟨[],H,I,.nil,h⟩
theorem zfp {X:Cx}{pos:Pos}{k v:Expr}{ks:List (Option Expr)}{vs:List Expr}{tk tv:TE}{trs:List (TE×TE)}(hk:PE X k tk)(hv:PE X v tv)(hr:PPs X pos ks vs trs) :
  PPs X pos (some k::ks) (v::vs) ((tk,tv)::trs):=λpins s σ H Q I h=>
 pairTrees_cons_walk (thn (hk pins s σ H _ I h) λu s1 ⟨x,H1,I1,rx,q1⟩=>thn (hv pins s1 σ H1 _ I1 q1) λw2 s2 ⟨y,H2,I2,ry,q2⟩=>
  thn (hr pins s2 σ H2 _ I2 q2) λws s3 ⟨ps,H3,I3,rel,q3⟩=>⟨(x,y)::ps,H3,I3,.cons ⟨rx,ry⟩ rel,q3⟩)
def mergeK (kvs more:List (Key×V)):List (Key×V):=more.foldl (λacc kv=>putK acc kv.1 kv.2) kvs
theorem KV.merge:∀ {more:List (Key×V)} {rs:List (Key×Value)} {kvs:List (Key×V)} {vs:List (Key×Value)},KV more rs->KV kvs vs->KV (mergeK kvs more) (merged vs rs):=by
 intro more rs kvs vs r
 unfold KV at r
 induction r generalizing kvs vs with
 |nil=>intro q;exact q
 | @cons p q ps qs h t ih=>
  intro r0
  have e:KV (putK kvs p.1 p.2) (stored vs q.1 q.2):=by
   have:=r0.put p.1 h.2
   rw[<-h.1];exact this
  exact ih e
theorem QC:∀(more kvs:List (Key×V)),(mergeK kvs more).length<=kvs.length+more.length
 | [],kvs=>by show kvs.length<=kvs.length+0;omega
 |p::r,kvs=>by
  have h1:=QC r (putK kvs p.1 p.2)
  have h2:=VZ kvs p.1 p.2
  show (mergeK (putK kvs p.1 p.2) r).length<=_
  rw[List.length_cons];omega
theorem Y6 {P:Program}{w:World}:∀ {kvs:List (Key×V)} {ws:List (Value×Value)},VV (kvs.map λkv=>(kV kv.1,kv.2)) ws->∃rs,Carries (zJ P w) ws rs/\KV kvs rs
 | [],_,r=>by rw[List.map_nil] at r;cases r;exact⟨[],True.intro,.nil⟩
 |p::kvs,_,r=>by
  rw[List.map_cons] at r
  cases r with
  | @cons a b as bs h t=>
   obtain⟨rs,c,q⟩:=Y6 (P:=P) (w:=w) t
   obtain⟨b1,b2⟩:=b
   exact⟨(p.1,b2)::rs,⟨kh h.1,rfl,c⟩,.cons ⟨rfl,h.2⟩ q⟩
structure M1 (X:Cx)(o:Expr)(m:Str)(apos:Pos)(e:Expr)(cpos:Pos):Prop where
 base:attributeBase o m X.env (eval o X.env)=eval o X.env
 few:((backTo cpos (starEach [e] X.env)).all (λx=>!x.1)&&(backToKw cpos (keywordEach [] X.env)).all (λx=>x.1.isSome)
  && decide (([e]:List Expr).length+([]:List Keyword).length+(if ([]:List Keyword).isEmpty then 0 else 1) < 30))=true
 line:(apos.endLine==cpos.line)=true
 trees:backTo cpos (starEach [e] X.env)=[(false,eval e X.env)]
structure M2 (X:Cx)(o:Expr)(m:Str)(apos:Pos)(e f:Expr)(cpos:Pos):Prop where
 base:attributeBase o m X.env (eval o X.env)=eval o X.env
 few:((backTo cpos (starEach [e,f] X.env)).all (λx=>!x.1)&&(backToKw cpos (keywordEach [] X.env)).all (λx=>x.1.isSome)
  && decide (([e,f]:List Expr).length+([]:List Keyword).length+(if ([]:List Keyword).isEmpty then 0 else 1) < 30))=true
 line:(apos.endLine==cpos.line)=true
 trees:backTo cpos (starEach [e,f] X.env)=[(false,eval e X.env),(false,eval f X.env)]
section
variable {X:Cx}{pins:List (Addr×Obj)}{σ:St}{H:Hp}{s:Shared}{a:Addr}{y d:V}{u r:Value}{o:Option V}{A:Around}{E:Value->Shared->Prop}
end
section
variable {X:Cx}{o e f:Expr}{apos cpos:Pos}{td ty tx:TE}
end
section
variable {X:Cx}{pins:List (Addr×Obj)}{σ:St}{H:Hp}{s:Shared}{a:Addr}{kvs:List (Key×V)}{A:Around}{E:Value->Shared->Prop}
end
section
variable {X:Cx}{pins:List (Addr×Obj)}{σ:St}{H:Hp}{s:Shared}{a:Addr}{y:V}{u:Value}{A:Around}{E:Value->Shared->Prop}
end
end L2
namespace L4
open PySem PySem.Spec L2 L3
open PyProof.Rows hiding St
def dxp (w:World)(a:Addr)(o:Obj)(kvs:List (Key×V)):Heap->Prop:=λh=>h.get? a=some o/\kvs.length<=sizeLine/\(a==sysModules)=false/\∃vs,KV kvs vs/\∀P,o.IsDictOf (zJ P w) vs
def DX (w:World)(a:Addr)(o:Obj)(kvs:List (Key×V)):HO:=.ext (dxp w a o kvs)
theorem pairsP {P P':Program}{w:World}:∀ {es:List DictEntry} {vs:List (Key×Value)},Pairs (zJ P w) es vs->Pairs (zJ P' w) es vs:=by
 intro es vs h
 induction h with
 |nil=>exact .nil
 |cons=>first | exact .cons ‹_› ‹_› | exact .cons ‹_› ‹_› ‹_› | (constructor<;>assumption)
theorem anyP {o:Obj}{P P':Program}{w:World}{vs:List (Key×Value)}(h:o.IsDictOf (zJ P w) vs):o.IsDictOf (zJ P' w) vs :=
 let ⟨es,ep,h1,h2,h3,h4,h5⟩:=h;⟨es,ep,h1,h2,h3,pairsP h4,h5⟩
theorem vS {P:Program}{w:World}{h:Heap}{a:Addr}{kvs:List (Key×V)}{vs:List (Key×Value)}(z:kvs.length<=sizeLine)(hd:(a==sysModules)=false)(rel:KV kvs vs)(dd:h.DictOf (zJ P w) a vs) :
  ∃o,h.get? a=some o/\∀H,ObjOk P w H h a (DX w a o kvs):=by
 obtain⟨o,ho,hi⟩:=Heap.dictOf_iff.mp dd
 exact⟨o,ho,λH=>⟨⟨ho,z,hd,vs,rel,λP=>anyP hi⟩,⟨o,ho⟩,λh1 h2 ⟨e,r⟩ k=>⟨k _ e,r⟩⟩⟩
section
variable {X:Cx}{pins:List (Addr×Obj)}{σ:St}{H:Hp}{s:Shared}{a:Addr}{ob:Obj}{kvs:List (Key×V)}{k:Key}{y v:V}{u r:Value}{A:Around}{E:Value->Shared->Prop}
theorem yL (I:Inv X pins σ H s)(e:H a=some (DX X.w a ob kvs)):s.heap.get? a=some ob/\kvs.length<=sizeLine/\(a==sysModules)=false/\∃vs,KV kvs vs/\ob.IsDictOf (zJ X.prog X.w) vs/\s.heap.DictOf (zJ X.prog X.w) a vs:=by
 obtain⟨⟨h1,h2,h3,vs,h4,h5⟩,_⟩:=(show ObjOk X.prog X.w H s.heap a (DX X.w a ob kvs) from I.hok a _ e)
 exact⟨h1,h2,h3,vs,h4,h5 _,Heap.dictOf_iff.mpr ⟨ob,h1,h5 _⟩⟩
theorem VG (I:Inv X pins σ H s)(e:H a=some (DX X.w a ob kvs)):s.TypeIs (.ref a) "dict" := by
 obtain⟨_,_,_,vs,_,_,dd⟩:=yL I e
 exact dd.typeIs
theorem UA (I:Inv X pins σ H s)(e:H a=some (DX X.w a ob kvs)):∀b,Value.ref a=.ref b->∃ob,s.heap.get? b=some ob/\ob.dict=none:=λb q=>by
 cases q
 obtain⟨h1,_,_,vs,_,⟨_,_,h2,_⟩,_⟩:=yL I e
 exact⟨ob,h1,h2.2.1⟩
theorem zci {Q:Value->Shared->Prop}(I:Inv X pins σ H s)(e:H a=some (DX X.w a ob kvs))(l:valV kvs k=some v)(ry:RelV (kV k) u)(h:∀w' s',Inv X pins σ H s'->RelV v w'->Q w' s') :
  wpAny #[4] A (getItem (.ref a) u) Q E s:=by
 obtain⟨_,z,hd,vs,rel,_,dd⟩:=yL I e
 obtain⟨w',hw,rw'⟩:=RelO.some_of (v:=v) (o:=valueAt vs k) (by rw[<-l];exact rel.val k)
 exact wpAny_getItem_of (kh ry) dd.mapOf hw (h w' _ (I.tok _) rw')
theorem Up {Q:Value->Shared->Prop}(I:Inv X pins σ H s)(e:H a=some (DX X.w a ob kvs))(ry:RelV (kV k) u)(h:∀s',Inv X pins σ H s'->Q (.bool (valV kvs k).isSome) s') :
  wpAny #[4] A (compareOp .In u (.ref a)) Q E s:=by
 obtain⟨_,z,hd,vs,rel,_,dd⟩:=yL I e
 refine wpAny_in_of (kh ry) hd dd.mapOf ?_
 rw[<-(rel.val k).isSome_eq]
 exact h _ (I.tok _)
theorem zb7 {Q:Unit->Shared->Prop}(I:Inv X pins σ H s)(e:H a=some (DX X.w a ob kvs))(l:kvs.length < sizeLine)(ry:RelV (kV k) u)(rv:RelV v r)
  (h:∀s' ob',Inv X pins σ (upd H a (DX X.w a ob' (putK kvs k v))) s'->Q () s'):wpAny #[4] A (setItem (.ref a) u r) Q E s:=by
 obtain⟨_,z,hd,vs,rel,_,dd⟩:=yL I e
 have hz:vs.length<=sizeLine:=by rw[<-rel.length];exact z
 have hl:(putK kvs k v).length<=sizeLine:=by have:=VZ kvs k v;omega
 refine wpAny_setItem_pairs (hsz:=hz) (kh ry) dd λh' dd' hs=>?_
 have he:∃q,h'.get? a=some q:=let ⟨q,_,_,hq,_⟩:=dd';⟨q,hq⟩
 obtain⟨o',ho',new⟩:=vS (P:=X.prog) (w:=X.w) (a:=a) (kvs:=putK kvs k v) hl hd (rel.put k rv) dd'
 exact h _ o' (Zi I (by rw[e];exact True.intro) hs he (new _))
end
def tXNew (P:Program)(w:World):TE:=λ_ H Q=>∀p ob,H p=none->Q (.ref p) (upd H p (DX w p ob []))
def tXGet (P:Program)(w:World)(td ty:TE):TE:=λσ H Q=>td σ H λx H1=>ty σ H1 λy H2=>∃a ob kvs k v,x=.ref a/\H2 a=some (DX w a ob kvs)/\y=kV k/\valV kvs k=some v/\Q v H2
def tXIn (P:Program)(w:World)(ty td:TE):TE:=λσ H Q=>ty σ H λy H1=>td σ H1 λx H2=>∃a ob kvs k,x=.ref a/\H2 a=some (DX w a ob kvs)/\y=kV k/\Q (.bl (valV kvs k).isSome) H2
def sXPut (P:Program)(w:World)(td ty tv:TE):TS:=λD σ H=>tv σ H λv H1=>td σ H1 λx H2=>ty σ H2 λy H3=>∃a ob kvs k,x=.ref a/\H3 a=some (DX w a ob kvs)/\y=kV k/\kvs.length < sizeLine/\∀ob',D.nx σ (upd H3 a (DX w a ob' (putK kvs k v)))
section
variable {X:Cx}{o i e f value:Expr}{pos pos' tpos apos cpos:Pos}{td ty tv tx:TE}
theorem Gx:PE X (.Dict [] [] pos) (tXNew X.prog X.w):=λpins s σ H Q I h=>by
 obtain⟨ob,ho,new⟩:=vS (P:=X.prog) (w:=X.w) (a:=s.heap.objs.size) (kvs:=[]) (Nat.zero_le _) (beq_eq_false_iff_ne.mpr (Ne.symm (Nat.ne_of_lt I.big))) .nil (Heap.DictOf.new (knd:=zJ X.prog X.w) s.heap)
 exact wpAny_Dict_empty ⟨.ref s.heap.objs.size,_,I.laid (a:=s.heap.objs.size) (o:=DX X.w s.heap.objs.size ob []) (t':=s.toks) (λ_ _ q=>Heap.get?_push_of_some _ q) (Nat.le_refl _) (new _),rfl,h _ ob (I.hok.fresh (Nat.le_refl _))⟩
theorem za1 (ho:PE X o td)(hi:PE X i ty)(hs:NoSl i):PE X (.Subscript o i pos) (tXGet X.prog X.w td ty):=by
 intro pins s σ H Q I h
 refine zdr PySem.F.slot_dict_getitem.lookup hs (thn (ho pins s σ H _ I h) λu s1 ⟨x,H1,I1,rx,q1⟩=>thn (hi pins s1 σ H1 _ I1 q1) λiv s2 ⟨y,H2,I2,ry,a,ob,kvs,k,v,ex,g,ey,l,q2⟩=>?_)
 subst ex ey
 obtain rfl:u=Value.ref a:=rx
 exact⟨VG I2 g,zci I2 g l ry λw' s3 I3 rw'=>⟨v,H2,I3,rw',q2⟩⟩
theorem zeq (hi:PE X i ty)(ho:PE X o td):PC X .In i o (tXIn X.prog X.w ty td):=by
 intro pins s σ H Q I h
 refine thn (hi pins s σ H _ I h) λiv s1 ⟨y,H1,I1,ry,q1⟩=>thn (ho pins s1 σ H1 _ I1 q1) λu s2 ⟨x,H2,I2,rx,a,ob,kvs,k,ex,g,ey,q2⟩=>?_
 subst ex ey
 obtain rfl:u=Value.ref a:=rx
 exact Up I2 g ry λs3 I3=>⟨.bl _,H2,I3,rfl,q2⟩
theorem zf5 (ho:PE X o td)(hi:PE X i ty)(hv:PE X value tv)(hs:swapsWith value (some (.Subscript o i pos')) pos.line X.env=pure false) :
  PS X (.Assign [.Subscript o i pos'] value pos) (sXPut X.prog X.w td ty tv):=by
 intro pins s σ H D I h
 refine wpAny_Assign_Subscript (thn (hv pins s σ H _ I h) λr s1 ⟨v,H1,I1,rv,q1⟩=>thn (ho pins s1 σ H1 _ I1 q1) λu s2 ⟨x,H2,I2,rx,q2⟩=>thn (hi pins s2 σ H2 _ I2 q2) λiv s3 ⟨y,H3,I3,ry,a,ob,kvs,k,ex,g,ey,l,q3⟩=>?_) hs
 subst ex ey
 obtain rfl:u=Value.ref a:=rx
 exact zb7 I3 g l ry rv λs4 ob' I4=>⟨σ,_,I4,q3 ob'⟩
end
section
variable {X:Cx}{pins:List (Addr×Obj)}{σ:St}{H:Hp}{s:Shared}{a:Addr}{ob:Obj}{kvs:List (Key×V)}
end
inductive PairsAt (P:Program) (w:World) (h:Heap):List Value->List (Key×Value)->Prop
 |nil:PairsAt P w h [] []
 |cons {a:Addr} {r:List Value} {k:Key} {kv v:Value} {kvs:List (Key×Value)}:h.IsTuple a #[kv,v]->(zJ P w).is k kv=true->PairsAt P w h r kvs->PairsAt P w h (.ref a::r) ((k,v)::kvs)
section
variable {prog:Program}{w:World}{A:Around}{s:Shared}{R:Result->Shared->Prop}
end
section
variable {prog:Program}{w:World}{A:Around}{E:Value->Shared->Prop}{s:Shared}
end
inductive PairsV (K:PySem.W.Frag) (H:Hp):List V->List (Key×V)->Prop
 |nil:PairsV K H [] []
 |cons {a:Addr} {r:List V} {k:Key} {v:V} {kvs:List (Key×V)}:SqT K H a [kV k,v]->PairsV K H r kvs->PairsV K H (.ref a::r) ((k,v)::kvs)
section
variable {X:Cx}{pins:List (Addr×Obj)}{σ:St}{H:Hp}{s:Shared}
end
section
variable {X:Cx}
end
section
variable {X:Cx}{pins:List (Addr×Obj)}{σ:St}{H:Hp}{s:Shared}{a v:Addr}{ob:Obj}{kvs:List (Key×V)}{cls:String}
end
structure M0 (X:Cx)(o:Expr)(m:Str)(apos cpos:Pos):Prop where
 base:attributeBase o m X.env (eval o X.env)=eval o X.env
 line:(apos.endLine==cpos.line)=true
section
variable {X:Cx}{o:Expr}{apos cpos:Pos}{td:TE}
end
def intsV (kis:List (Key×Int)):List (Key×V):=kis.map λp=>(p.1,.int p.2)
def lookI (kis:List (Key×Int))(k:Key):Option Int:=(kis.find? λp=>decide (p.1=k)).map (·.2)
def hitsI (kb:List (Key×Int)):List (Key×Int)->Bool
 | []=>true
 |p::r=>match lookI kb p.1 with
  |none=>false
  |some j=>decide (p.2=j)&&hitsI kb r
def eqI (ka kb:List (Key×Int)):Bool:=ka.length==kb.length&&hitsI kb ka
theorem Ws (k:Key):∀kis:List (Key×Int),valV (intsV kis) k=(lookI kis k).map V.int
 | []=>rfl
 |p::r=>by
  have ih:=Ws k r
  by_cases e:p.1=k
  ·rw[show intsV (p::r)=(p.1,V.int p.2)::intsV r from rfl,u0 e];simp[lookI,e]
  ·rw[show intsV (p::r)=(p.1,V.int p.2)::intsV r from rfl,uV e,ih];simp[lookI,e]
theorem Yu {A:Around}{s:Shared}{kb:List (Key×Int)}{vb:List (Key×Value)}(rb:KV (intsV kb) vb):∀ {ka:List (Key×Int)} {va:List (Key×Value)},KV (intsV ka) va->PySem.W.KeqHits A s vb va (hitsI kb ka)
 | [],_,r=>by cases r;exact .nil
 |p::ka,_,r=>by
  cases r with
  | @cons _ q _ qs h t=>
   obtain⟨k',u⟩:=q
   obtain⟨h1,h2⟩:=h
   have h1:p.1=k':=h1
   obtain⟨tk,h2⟩:∃tk,u=Value.int p.2 tk:=h2
   subst h1 h2
   have rv:=rb.val p.1
   rw[Ws] at rv
   have ih:=Yu (A:=A) (s:=s) rb t
   unfold hitsI
   cases hl:lookI kb p.1 with
   |none=>
    rw[hl] at rv
    exact .miss (RelO.none_of rv)
   |some j=>
    rw[hl] at rv
    obtain⟨w',hw,rw'⟩:=RelO.some_of (v:=.int j) (o:=valueAt vb p.1) rv
    obtain⟨tk',rfl⟩:=rw'
    have:=PySem.W.keq_flat (A:=A) (s:=s) (.int p.2 tk) (.int j tk')
    have e:PyData.eqv (.int p.2) (.int j)=decide (p.2=j):=by
     rw[PyData.eqv]
     by_cases h:p.2=j<;>simp[h]
    rw[e] at this
    exact .hit hw this ih
section
variable {X:Cx}{pins:List (Addr×Obj)}{σ:St}{H:Hp}{s:Shared}{a b:Addr}{oa ob:Obj}{ka kb:List (Key×Int)}{A:Around}{E:Value->Shared->Prop}
theorem U6 {Q:Value->Shared->Prop}(hu:A.units < cLine)(I:Inv X pins σ H s)(ea:H a=some (DX X.w a oa (intsV ka)))(eb:H b=some (DX X.w b ob (intsV kb)))(h:Q (.bool (!eqI ka kb)) s) :
  wpAny #[4] A (compareOp .NotEq (.ref a) (.ref b)) Q E s:=by
 obtain⟨_,_,ha,va,ra,_,da⟩:=yL I ea
 obtain⟨_,_,hb,vb,rb,_,db⟩:=yL I eb
 refine PySem.W.keq_ne ha hb da db hu (λ_=>Yu rb ra) ?_
 have h1:va.length=ka.length:=by rw[<-ra.length];simp[intsV]
 have h2:vb.length=kb.length:=by rw[<-rb.length];simp[intsV]
 rw[h1,h2]
 exact h
end
def tXEq (P:Program)(w:World)(neg:Bool)(ta tb:TE):TE:=λσ H Q=>ta σ H λx H1=>tb σ H1 λy H2=>∃a b oa ob ka kb,x=.ref a/\y=.ref b/\H2 a=some (DX w a oa (intsV ka))/\H2 b=some (DX w b ob (intsV kb))/\Q (.bl (neg ^^ eqI ka kb)) H2
section
variable {X:Cx}{i o:Expr}{ta tb:TE}
theorem Kh (hu:X.A.units < cLine)(hi:PE X i ta)(ho:PE X o tb):PC X .NotEq i o (tXEq X.prog X.w true ta tb):=by
 intro pins s σ H Q I h
 refine thn (hi pins s σ H _ I h) λiv s1 ⟨y,H1,I1,ry,q1⟩=>thn (ho pins s1 σ H1 _ I1 q1) λu s2 ⟨x,H2,I2,rx,a,b,oa,ob,ka,kb,ex,ey,ea,eb,q2⟩=>?_
 subst ex ey
 obtain rfl:iv=Value.ref a:=ry
 obtain rfl:u=Value.ref b:=rx
 refine U6 hu I2 ea eb ⟨.bl _,H2,I2,rfl,?_⟩
 simpa using q2
end
section
variable {X:Cx}{pins:List (Addr×Obj)}{σ:St}{H:Hp}{s:Shared}{a:Addr}{ob:Obj}{kvs:List (Key×V)}
end
section
variable {X:Cx}{pins:List (Addr×Obj)}{σ:St}{H H':Hp}{s:Shared}{h':Heap}
theorem many (I:Inv X pins σ H s)(k:∀b u,s.heap.get? b=some u->h'.get? b=some u)(low:∀b,b < s.heap.objs.size->H' b=H b)(hok:HOk X.prog X.w H' h')(t':Nat):Inv X pins σ H' { s with heap:=h',toks:=t' }:=by
 have hl:∀b u,H b=some u->H' b=some u:=λb u e=>by rw[low b (I.hok.lt e)];exact e
 exact I.un ⟨λb u q _ _ _=>k b u q,λb u q _ _ _=>⟨u.slots,k b u q⟩,λb u q n _=>by rw[low b (Heap.lt_size q)];exact n,λb u q _=>⟨u,k b u q⟩,λb xs q=>hl b _ q,λb u xs q=>hl b _ q,λb ps q=>⟨#[],by rw[hl b _ q];simp⟩⟩ hok
end
end L4
namespace Dv
open PySem PySem.Spec L2 L3 L4
open PyProof.Rows hiding St
structure KW where
 fr:PySem.W.Frag
 w:World
instance:Coe KW PySem.W.Frag:=⟨KW.fr⟩
abbrev _root_.L2.Cx.kw (X:Cx):KW:=⟨X.K,X.w⟩
inductive D where
 |non | bl (b:Bool) | int (i:Int) | str (x:Str) | lst (xs:List D) | tup (xs:List D) | scr (ns:List Int) | obj (C:Addr) (fs:List Str) (ds:List D)
  |emp
mutual
def Rp (K:KW)(F:Hp):D->V->Prop
 |.non,v=>v=.non
 |.bl b,v=>v=.bl b
 |.int i,v=>v=.int i
 |.str x,v=>v=.str x
 |.lst ds,v=>∃a vs,v=.ref a/\F a=some (.lst vs)/\Rps K F ds vs
 |.tup ds,v=>∃a vs,v=.ref a/\F a=some (.tup vs)/\Rps K F ds vs
 |.scr ns,v=>∃a,v=.ref a/\SqL K F a (ns.map V.int)
 |.obj C fs ds,v=>∃a dx vs,v=.ref a/\F a=some (.ins C dx (fs.zip vs))/\fs.length=vs.length/\Rps K F ds vs
 |.emp,v=>∃a,v=.ref a/\F a=some (.dK [])
def Rps (K:KW)(F:Hp):List D->List V->Prop
 | [],vs=>vs=[]
 |d::ds,vs=>∃v r,vs=v::r/\Rp K F d v/\Rps K F ds r
end
mutual
theorem Rp.mono {K:KW}{F F':Hp}(s:Same F F'):∀ {d:D} {v:V},Rp K F d v->Rp K F' d v
 |.non,_,h=>h
 |.bl _,_,h=>h
 |.int _,_,h=>h
 |.str _,_,h=>h
 |.lst _,_,⟨a,vs,e,q,r⟩=>⟨a,vs,e,s _ _ q,Rps.mono s r⟩
 |.tup _,_,⟨a,vs,e,q,r⟩=>⟨a,vs,e,s _ _ q,Rps.mono s r⟩
 |.scr _,_,⟨a,e,q⟩=>⟨a,e,s.seq q⟩
 |.obj _ _ _,_,⟨a,dx,vs,e,q,l,r⟩=>⟨a,dx,vs,e,s _ _ q,l,Rps.mono s r⟩
 |.emp,_,⟨a,e,q⟩=>⟨a,e,s _ _ q⟩
theorem Rps.mono {K:KW}{F F':Hp}(s:Same F F'):∀ {ds:List D} {vs:List V},Rps K F ds vs->Rps K F' ds vs
 | [],_,h=>h
 |_::_,_,⟨v,r,e,h,t⟩=>⟨v,r,e,Rp.mono s h,Rps.mono s t⟩
end
section
variable {K:KW}{F F' H H':Hp}
theorem Rps.length:∀ {ds:List D} {vs:List V},Rps K F ds vs->ds.length=vs.length
 | [],_,h=>by cases h;rfl
 |_::_,_,⟨_,_,e,_,t⟩=>by subst e;simp[Rps.length t]
theorem Rps.append:∀ {ds es:List D} {vs ws:List V},Rps K F ds vs->Rps K F es ws->Rps K F (ds++es) (vs++ws)
 | [],_,_,_,h,t=>by cases h;exact t
 |_::_,_,_,_,⟨v,r,e,h,t⟩,q=>by subst e;exact⟨v,_,rfl,h,Rps.append t q⟩
theorem Rps.get:∀ {ds:List D} {vs:List V} {i:Nat} {d:D},Rps K F ds vs->ds[i]?=some d->∃v,vs[i]?=some v/\Rp K F d v
 | [],_,_,_,_,e=>by simp at e
 |_::_,_,0,_,⟨v,r,e,h,t⟩,q=>by subst e;simp at q;subst q;exact⟨v,rfl,h⟩
 |_::_,_,i+1,_,⟨v,r,e,h,t⟩,q=>by
  subst e
  obtain⟨w,h1,h2⟩:=Rps.get (i:=i) t (by simpa using q)
  exact⟨w,by simpa using h1,h2⟩
theorem Rps.get':∀ {ds:List D} {vs:List V} {i:Nat} {v:V},Rps K F ds vs->vs[i]?=some v->∃d,ds[i]?=some d/\Rp K F d v:=fun {ds vs i v} r e=>by
 have hl:=r.length
 have hi:i < vs.length:=(List.getElem?_eq_some_iff.mp e).1
 have hd:ds[i]?=some ds[i]:=List.getElem?_eq_getElem #[1]
 obtain⟨w,h1,h2⟩:=r.get hd
 rw[e] at h1;cases h1
 exact⟨_,hd,h2⟩
theorem Rps.take:∀ {ds:List D} {vs:List V} (n:Nat),Rps K F ds vs->Rps K F (ds.take n) (vs.take n)
 |_,_,0,_=>rfl
 | [],_,_+1,h=>by cases h;rfl
 |_::_,_,n+1,⟨v,r,e,h,t⟩=>by subst e;exact⟨v,_,rfl,h,Rps.take n t⟩
theorem Rps.drop:∀ {ds:List D} {vs:List V} (n:Nat),Rps K F ds vs->Rps K F (ds.drop n) (vs.drop n)
 |_,_,0,r=>r
 | [],_,_+1,h=>by cases h;rfl
 |_::_,_,n+1,⟨v,r,e,h,t⟩=>by subst e;exact Rps.drop n t
theorem Rps.set {d:D}{v:V}(hd:Rp K F d v):∀ {ds:List D} {vs:List V} (n:Nat),Rps K F ds vs->Rps K F (ds.set n d) (vs.set n v)
 | [],_,_,h=>by cases h;rfl
 |_::_,_,0,⟨w,r,e,h,t⟩=>by subst e;exact⟨v,r,rfl,hd,t⟩
 |_::_,_,n+1,⟨w,r,e,h,t⟩=>by subst e;exact⟨w,_,rfl,h,Rps.set hd n t⟩
theorem Rps.snoc {ds:List D}{vs:List V}{d:D}{v:V}(r:Rps K F ds vs)(h:Rp K F d v):Rps K F (ds++[d]) (vs++[v]):=r.append ⟨v,[],rfl,h,rfl⟩
theorem Rps.ints:∀(ns:List Int),Rps K F (ns.map D.int) (ns.map V.int)
 | []=>rfl
 |_::ns=>⟨_,_,rfl,rfl,Rps.ints ns⟩
theorem zX {a:Addr}{o:HO}(n:H a=none):Same H (upd H a o):=λb u e=>by rw[zh (z8 e n)];exact e
theorem zc7 {a:Addr}{o:HO}(s:Same F H)(n:H a=none):Same F (upd H a o):=s.trans (zX n)
structure Ext (F H F' H':Hp):Prop where
 ff:Same F F'
 hh:Same H H'
 fh:Same F' H'
 nw:∀a,F' a≠none->F a≠none∨H a=none
theorem Ext.refl (s:Same F H):Ext F H F H:=⟨Same.refl _,Same.refl _,s,λ_ h=>.inl h⟩
theorem Ext.trans {F1 H1 F2 H2:Hp}(x:Ext F H F1 H1)(y:Ext F1 H1 F2 H2):Ext F H F2 H2 :=
 ⟨x.ff.trans y.ff,x.hh.trans y.hh,y.fh,λa h=>(y.nw a h).elim (x.nw a) λz=>.inr (x.hh.free z)⟩
theorem Ext.new {a:Addr}{o:HO}(s:Same F H)(n:H a=none):Ext F H F (upd H a o):=⟨Same.refl _,zX n,zc7 s n,λ_ h=>.inl h⟩
theorem Ext.newF {a:Addr}{o:HO}(s:Same F H)(n:H a=none):Ext F H (upd F a o) (upd H a o):=by
 refine⟨zX (s.free n),zX n,λb u e=>?_,λb h=>?_⟩
 ·by_cases hb:b=a
  ·subst hb;rw[zr] at e ⊢;exact e
  ·rw[zh hb] at e ⊢;exact s b u e
 ·by_cases hb:b=a
  ·subst hb;exact .inr n
  ·rw[zh hb] at h;exact .inl h
theorem Ext.freeze {a:Addr}{o:HO}(x:Ext F H F' H')(n:H a=none)(n':F' a=none)(e:H' a=some o):Ext F H (upd F' a o) H':=by
 refine⟨x.ff.trans (zX n'),x.hh,λb u q=>?_,λb h=>?_⟩
 ·by_cases hb:b=a
  ·subst hb;rw[zr] at q;cases q;exact e
  ·rw[zh hb] at q;exact x.fh b u q
 ·by_cases hb:b=a
  ·subst hb;exact .inr n
  ·rw[zh hb] at h;exact x.nw b h
def Rq (K:KW)(F H:Hp)(d:D)(v:V):Prop:=Rp K F d v∨∃a vs ds,d=.lst ds/\v=.ref a/\H a=some (.lst vs)/\Rps K F ds vs
theorem Rq.mono (f:Same F F')(h:Same H H'){d:D}{v:V}(r:Rq K F H d v):Rq K F' H' d v:=by
 rcases r with r | ⟨a,vs,ds,e1,e2,e3,e4⟩
 ·exact .inl (r.mono f)
 ·exact .inr ⟨a,vs,ds,e1,e2,h _ _ e3,e4.mono f⟩
theorem Rq.lst (s:Same F H){ds:List D}{v:V}(r:Rq K F H (.lst ds) v):∃a vs,v=.ref a/\H a=some (.lst vs)/\Rps K F ds vs:=by
 rcases r with⟨a,vs,e,q,r⟩ | ⟨a,vs,ds',e1,e2,e3,e4⟩
 ·exact⟨a,vs,e,s _ _ q,r⟩
 ·cases e1;exact⟨a,vs,e2,e3,e4⟩
theorem Rq.one {d:D}{v:V}(r:Rq K F H d v)(h:∀ds,d≠.lst ds):Rp K F d v:=by
 rcases r with r | ⟨a,vs,ds,e1,_⟩
 ·exact r
 ·exact (h ds e1).elim
theorem Rq.int {i:Int}{v:V}(r:Rq K F H (.int i) v):v=.int i:=r.one λ_ h=>by cases h
theorem Rq.bl {i:Bool}{v:V}(r:Rq K F H (.bl i) v):v=.bl i:=r.one λ_ h=>by cases h
theorem Rq.str {i:Str}{v:V}(r:Rq K F H (.str i) v):v=.str i:=r.one λ_ h=>by cases h
theorem Rq.non {v:V}(r:Rq K F H .non v):v=.non:=r.one λ_ h=>by cases h
theorem Rq.tup (s:Same F H){ds:List D}{v:V}(r:Rq K F H (.tup ds) v):∃a vs,v=.ref a/\H a=some (.tup vs)/\Rps K F ds vs:=by
 obtain⟨a,vs,e,q,r⟩:=r.one λ_ h=>by cases h
 exact⟨a,vs,e,s _ _ q,r⟩
theorem Rq.scr (s:Same F H){ns:List Int}{v:V}(r:Rq K F H (.scr ns) v):∃a,v=.ref a/\SqL K H a (ns.map V.int):=by
 obtain⟨a,e,q⟩:=r.one λ_ h=>by cases h
 exact⟨a,e,s.seq q⟩
end
inductive OT where
 |frz (d:D) | lst (ts:List OT) | tup (ts:List OT)
mutual
def RepO (K:KW)(F H:Hp):OT->V->Prop
 |.frz d,v=>Rp K F d v
 |.lst ts,v=>∃a vs,v=.ref a/\H a=some (.lst vs)/\RepOs K F H ts vs
 |.tup ts,v=>∃a vs,v=.ref a/\H a=some (.tup vs)/\RepOs K F H ts vs
def RepOs (K:KW)(F H:Hp):List OT->List V->Prop
 | [],vs=>vs=[]
 |t::ts,vs=>∃v r,vs=v::r/\RepO K F H t v/\RepOs K F H ts r
end
def itemsH (H:Hp)(a:Addr):List V:=match H a with
 |some (.lst vs)=>vs
 |some (.tup vs)=>vs
 |_=>[]
mutual
def feetO (H:Hp):OT->V->List Addr
 |.frz _,_=>[]
 |.lst ts,v=>match v with
  |.ref a=>a::feetOs H ts (itemsH H a)
  |_=>[]
 |.tup ts,v=>match v with
  |.ref a=>a::feetOs H ts (itemsH H a)
  |_=>[]
def feetOs (H:Hp):List OT->List V->List Addr
 | [],_=>[]
 |t::ts,vs=>match vs with
  |v::r=>feetO H t v++feetOs H ts r
  | []=>[]
end
mutual
def OT.erase:OT->D
 |.frz d=>d
 |.lst ts=>.lst (erases ts)
 |.tup ts=>.tup (erases ts)
def erases:List OT->List D
 | []=>[]
 |t::ts=>t.erase::erases ts
end
theorem ym {H:Hp}{a:Addr}{vs:List V}(h:H a=some (.lst vs)):itemsH H a=vs:=by unfold itemsH;rw[h]
theorem yv {H:Hp}{a:Addr}{vs:List V}(h:H a=some (.tup vs)):itemsH H a=vs:=by unfold itemsH;rw[h]
section
variable {K:KW}{F F' H H':Hp}
mutual
theorem RepO.ext (f:Same F F')(h:Same H H'):∀ {t:OT} {v:V},RepO K F H t v->RepO K F' H' t v/\feetO H' t v=feetO H t v
 |.frz _,_,r=>⟨Rp.mono f r,rfl⟩
 |.lst ts,_,⟨a,vs,e,q,r⟩=>by
  subst e
  obtain⟨r1,r2⟩:=RepOs.ext f h r
  exact⟨⟨a,vs,rfl,h _ _ q,r1⟩,by simp only[feetO,ym q,ym (h _ _ q),r2]⟩
 |.tup ts,_,⟨a,vs,e,q,r⟩=>by
  subst e
  obtain⟨r1,r2⟩:=RepOs.ext f h r
  exact⟨⟨a,vs,rfl,h _ _ q,r1⟩,by simp only[feetO,yv q,yv (h _ _ q),r2]⟩
theorem RepOs.ext (f:Same F F')(h:Same H H'):∀ {ts:List OT} {vs:List V},RepOs K F H ts vs->RepOs K F' H' ts vs/\feetOs H' ts vs=feetOs H ts vs
 | [],_,r=>⟨r,rfl⟩
 |t::ts,_,⟨v,r,e,h1,h2⟩=>by
  subst e
  obtain⟨a1,a2⟩:=RepO.ext f h h1
  obtain⟨b1,b2⟩:=RepOs.ext f h h2
  exact⟨⟨v,r,rfl,a1,b1⟩,by simp only[feetOs,a2,b2]⟩
end
mutual
theorem RepO.other {a:Addr}{o:HO}:∀ {t:OT} {v:V},RepO K F H t v->a∉feetO H t v->RepO K F (upd H a o) t v/\feetO (upd H a o) t v=feetO H t v
 |.frz _,_,r,_=>⟨r,rfl⟩
 |.lst ts,_,⟨b,vs,e,q,r⟩,hn=>by
  subst e
  simp only[feetO,ym q,List.mem_cons,not_or] at hn
  obtain⟨r1,r2⟩:=RepOs.other (o:=o) r hn.2
  have q':upd H a o b=some (.lst vs):=by rw[zh (Ne.symm hn.1)];exact q
  exact⟨⟨b,vs,rfl,q',r1⟩,by simp only[feetO,ym q,ym q',r2]⟩
 |.tup ts,_,⟨b,vs,e,q,r⟩,hn=>by
  subst e
  simp only[feetO,yv q,List.mem_cons,not_or] at hn
  obtain⟨r1,r2⟩:=RepOs.other (o:=o) r hn.2
  have q':upd H a o b=some (.tup vs):=by rw[zh (Ne.symm hn.1)];exact q
  exact⟨⟨b,vs,rfl,q',r1⟩,by simp only[feetO,yv q,yv q',r2]⟩
theorem RepOs.other {a:Addr}{o:HO}:∀ {ts:List OT} {vs:List V},RepOs K F H ts vs->a∉feetOs H ts vs->RepOs K F (upd H a o) ts vs/\feetOs (upd H a o) ts vs=feetOs H ts vs
 | [],_,r,_=>⟨r,rfl⟩
 |t::ts,_,⟨v,r,e,h1,h2⟩,hn=>by
  subst e
  simp only[feetOs,List.mem_append,not_or] at hn
  obtain⟨a1,a2⟩:=RepO.other (o:=o) h1 hn.1
  obtain⟨b1,b2⟩:=RepOs.other (o:=o) h2 hn.2
  exact⟨⟨v,r,rfl,a1,b1⟩,by simp only[feetOs,a2,b2]⟩
end
mutual
theorem RepO.feet {a:Addr}:∀ {t:OT} {v:V},RepO K F H t v->a∈feetO H t v->H a≠none
 |.frz _,_,_,h=>by simp[feetO] at h
 |.lst ts,_,⟨b,vs,e,q,r⟩,h=>by
  subst e
  simp only[feetO,ym q,List.mem_cons] at h
  rcases h with rfl | h
  ·rw[q];simp
  ·exact RepOs.feet r h
 |.tup ts,_,⟨b,vs,e,q,r⟩,h=>by
  subst e
  simp only[feetO,yv q,List.mem_cons] at h
  rcases h with rfl | h
  ·rw[q];simp
  ·exact RepOs.feet r h
theorem RepOs.feet {a:Addr}:∀ {ts:List OT} {vs:List V},RepOs K F H ts vs->a∈feetOs H ts vs->H a≠none
 | [],_,_,h=>by simp[feetOs] at h
 |t::ts,_,⟨v,r,e,h1,h2⟩,h=>by
  subst e
  simp only[feetOs,List.mem_append] at h
  rcases h with h | h
  ·exact RepO.feet h1 h
  ·exact RepOs.feet h2 h
end
mutual
theorem RepO.feet_no {a:Addr}:∀ {t:OT} {v:V},RepO K F H t v->a∈feetO H t v->∀z,H a≠some (.own z)
 |.frz _,_,_,h,_=>by simp[feetO] at h
 |.lst ts,_,⟨b,vs,e,q,r⟩,h,z=>by
  subst e
  simp only[feetO,ym q,List.mem_cons] at h
  rcases h with rfl | h
  ·rw[q];intro w;cases w
  ·exact RepOs.feet_no r h z
 |.tup ts,_,⟨b,vs,e,q,r⟩,h,z=>by
  subst e
  simp only[feetO,yv q,List.mem_cons] at h
  rcases h with rfl | h
  ·rw[q];intro w;cases w
  ·exact RepOs.feet_no r h z
theorem RepOs.feet_no {a:Addr}:∀ {ts:List OT} {vs:List V},RepOs K F H ts vs->a∈feetOs H ts vs->∀z,H a≠some (.own z)
 | [],_,_,h,_=>by simp[feetOs] at h
 |t::ts,_,⟨v,r,e,h1,h2⟩,h,z=>by
  subst e
  simp only[feetOs,List.mem_append] at h
  rcases h with h | h
  ·exact RepO.feet_no h1 h z
  ·exact RepOs.feet_no h2 h z
end
def addF (F H:Hp)(as:List Addr):Hp:=λb=>if b∈as then H b else F b
mutual
theorem RepO.fz {as:List Addr}(f:Same F (addF F H as)):∀ {t:OT} {v:V},RepO K F H t v->(∀a∈feetO H t v,a∈as)->Rp K (addF F H as) t.erase v
 |.frz _,_,r,_=>Rp.mono f r
 |.lst ts,_,⟨b,vs,e,q,r⟩,h=>by
  subst e
  simp only[feetO,ym q] at h
  exact⟨b,vs,rfl,by unfold addF;rw[if_pos (h b (by simp))];exact q,RepOs.fz f r λa ha=>h a (by simp[ha])⟩
 |.tup ts,_,⟨b,vs,e,q,r⟩,h=>by
  subst e
  simp only[feetO,yv q] at h
  exact⟨b,vs,rfl,by unfold addF;rw[if_pos (h b (by simp))];exact q,RepOs.fz f r λa ha=>h a (by simp[ha])⟩
theorem RepOs.fz {as:List Addr}(f:Same F (addF F H as)):∀ {ts:List OT} {vs:List V},RepOs K F H ts vs->(∀a∈feetOs H ts vs,a∈as)->Rps K (addF F H as) (erases ts) vs
 | [],_,r,_=>r
 |t::ts,_,⟨v,r,e,h1,h2⟩,h=>by
  subst e
  simp only[feetOs] at h
  exact⟨v,r,rfl,RepO.fz f h1 λa ha=>h a (by simp[ha]),RepOs.fz f h2 λa ha=>h a (by simp[ha])⟩
end
theorem jy {as:List Addr}(h:∀a∈as,F a=none):Same F (addF F H as):=λb u e=>by
 unfold addF
 rw[if_neg λz=>by rw[h b z] at e;cases e]
 exact e
end
def Rkv (K:KW)(F:Hp)(kvs:List (Key×D))(vs:List (Key×V)):Prop:=Paired (λp q=>p.1=q.1/\Rp K F p.2 q.2) kvs vs
theorem Rkv.mono {K:KW}{F F':Hp}(s:Same F F'){kvs:List (Key×D)}{vs:List (Key×V)}(r:Rkv K F kvs vs):Rkv K F' kvs vs:=Paired.mapP r λ_ _ h=>⟨h.1,h.2.mono s⟩
inductive En where
 |val (d:D) | acc (ds:List D) | bor (ds:List D) | oac (a dx C:Addr) (fs:List Str) (ds:List D) | tre (t:OT)
  |dct (oa:Option Addr) (kvs:List (Key×D)) | dbo (kvs:List (Key×D))
  |exn (a:Addr)
abbrev EnvD:=List (Option En)
structure Bs where
 F0:Hp
 H0:Hp
def RepE (K:KW)(B:Bs)(F H:Hp):En->V->Prop
 |.val d,v=>Rp K F d v
 |.acc ds,v=>∃a vs,v=.ref a/\H a=some (.lst vs)/\F a=none/\B.H0 a=none/\Rps K F ds vs
 |.bor ds,v=>∃a vs,v=.ref a/\B.H0 a=some (.lst vs)/\Rps K F ds vs
 |.oac a dx C fs ds,v=>∃vs,v=.ref a/\H a=some (.ins C dx (fs.zip vs))/\fs.length=vs.length/\F a=none/\B.H0 a=none/\Rps K F ds vs/\H dx=some (.own a)/\F dx=none/\B.H0 dx=none
 |.tre t,v=>RepO K F H t v/\(feetO H t v).Nodup/\∀a∈feetO H t v,F a=none/\B.H0 a=none
 |.dct oa kvs,v=>∃a ob vs,v=.ref a/\H a=some (DX K.w a ob vs)/\F a=none/\B.H0 a=none/\Rkv K F kvs vs/\∀b,oa=some b->b=a
 |.dbo kvs,v=>∃a ob vs,v=.ref a/\B.H0 a=some (DX K.w a ob vs)/\Rkv K F kvs vs
 |.exn a,v=>v=.ref a
def En.own:En->Bool
 |.acc _=>true
 |.dct _ _=>true
 |.oac _ _ _ _ _=>true
 |_=>false
def feetE (H:Hp):En->V->List Addr
 |.acc _,v=>match v with
  |.ref a=>[a]
  |_=>[]
 |.oac _ _ _ _ _,v=>match v with
  |.ref a=>[a]
  |_=>[]
 |.tre t,v=>feetO H t v
 |.dct _ _,v=>match v with
  |.ref a=>[a]
  |_=>[]
 |_,_=>[]
theorem Zj {H:Hp}{x:En}{a:Addr}(o:x.own=true):feetE H x (.ref a)=[a]:=by cases x<;>first | rfl | cases o
structure Rep (K:KW)(B:Bs)(F:Hp)(σ:St)(H:Hp)(Z:EnvD):Prop where
 ex:Ext B.F0 B.H0 F H
 len:σ.length=Z.length
 ents:∀(i:Nat) x,Z[i]?=some (some x)->∃v,σ[i]?=some (some v)/\RepE K B F H x v
 dj:∀(i j:Nat) x y v w,Z[i]?=some (some x)->Z[j]?=some (some y)->σ[i]?=some (some v)->σ[j]?=some (some w)->i≠j->∀a∈feetE H x v,a∉feetE H y w
section
variable {K:KW}{B:Bs}{F F' H H':Hp}{σ:St}{Z:EnvD}
theorem xw {a:Addr}(e:Ext F H F' H')(h:F a=none)(hh:H a≠none):F' a=none:=by
 cases q:F' a with
 |none=>rfl
 |some o=>exact ((e.nw a (by rw[q];simp)).elim (λz=>(z h).elim) λz=>(hh z).elim)
theorem RepE.ext {x:En}{v:V}(r:RepE K B F H x v)(e:Ext F H F' H'):RepE K B F' H' x v:=by
 cases x with
 |val d=>exact Rp.mono e.ff r
 |acc ds=>
  obtain⟨a,vs,e1,e2,e3,e4,e5⟩:=r
  exact⟨a,vs,e1,e.hh _ _ e2,xw e e3 (by rw[e2];simp),e4,e5.mono e.ff⟩
 |bor ds=>
  obtain⟨a,vs,e1,e2,e5⟩:=r
  exact⟨a,vs,e1,e2,e5.mono e.ff⟩
 |oac a dx C fs ds=>
  obtain⟨vs,e1,e2,el,e3,e4,e5,d1,d2,d3⟩:=r
  exact⟨vs,e1,e.hh _ _ e2,el,xw e e3 (by rw[e2];simp),e4,e5.mono e.ff,e.hh _ _ d1,xw e d2 (by rw[d1];simp),d3⟩
 |tre t=>
  obtain⟨r1,r2,r3⟩:=r
  obtain⟨s1,s2⟩:=RepO.ext e.ff e.hh r1
  refine⟨s1,by rw[s2];exact r2,λa ha=>?_⟩
  rw[s2] at ha
  exact⟨xw e (r3 a ha).1 (RepO.feet r1 ha),(r3 a ha).2⟩
 |dct oa kvs=>
  obtain⟨a,ob,vs,e1,e2,e3,e4,e5,e6⟩:=r
  exact⟨a,ob,vs,e1,e.hh _ _ e2,xw e e3 (by rw[e2];simp),e4,e5.mono e.ff,e6⟩
 |dbo kvs=>
  obtain⟨a,ob,vs,e1,e2,e5⟩:=r
  exact⟨a,ob,vs,e1,e2,e5.mono e.ff⟩
 |exn a=>exact r
theorem RepE.feet_ext {x:En}{v:V}(r:RepE K B F H x v)(e:Same H H'):feetE H' x v=feetE H x v:=by
 cases x with
 |tre t=>exact (RepO.ext (Same.refl F) e r.1).2
 |_=>rfl
theorem RepE.feet_at {x:En}{v:V}{a:Addr}(r:RepE K B F H x v)(h:a∈feetE H x v):H a≠none/\F a=none/\B.H0 a=none:=by
 cases x with
 |val d=>cases h
 |bor ds=>cases h
 |acc ds=>
  obtain⟨b,vs,rfl,e2,e3,e4,e5⟩:=r
  simp only[feetE,List.mem_singleton] at h
  subst h
  exact⟨by rw[e2];simp,e3,e4⟩
 |oac b dx C fs ds=>
  obtain⟨vs,rfl,e2,el,e3,e4,e5⟩:=r
  simp only[feetE,List.mem_singleton] at h
  subst h
  exact⟨by rw[e2];simp,e3,e4⟩
 |tre t=>exact⟨RepO.feet r.1 h,r.2.2 a h⟩
 |dct oa kvs=>
  obtain⟨b,ob,vs,rfl,e2,e3,e4,e5⟩:=r
  simp only[feetE,List.mem_singleton] at h
  subst h
  exact⟨by rw[e2];simp,e3,e4⟩
 |dbo kvs=>cases h
 |exn a=>cases h
theorem RepE.feet_no {x:En}{v:V}{a:Addr}(r:RepE K B F H x v)(h:a∈feetE H x v)(z:Addr):H a≠some (.own z):=by
 cases x with
 |val d=>cases h
 |bor ds=>cases h
 |acc ds=>
  obtain⟨b,vs,rfl,e2,_⟩:=r
  simp only[feetE,List.mem_singleton] at h
  subst h
  rw[e2];intro q;cases q
 |oac b dx C fs ds=>
  obtain⟨vs,rfl,e2,_⟩:=r
  simp only[feetE,List.mem_singleton] at h
  subst h
  rw[e2];intro q;cases q
 |tre t=>exact RepO.feet_no r.1 h z
 |dct oa kvs=>
  obtain⟨b,ob,vs,rfl,e2,_⟩:=r
  simp only[feetE,List.mem_singleton] at h
  subst h
  rw[e2];intro q;cases q
 |dbo kvs=>cases h
 |exn a=>cases h
theorem Rep.ext (r:Rep K B F σ H Z)(e:Ext F H F' H'):Rep K B F' σ H' Z:=by
 refine⟨r.ex.trans e,r.len,λi x h=>let ⟨v,h1,h2⟩:=r.ents i x h;⟨v,h1,h2.ext e⟩,λi j x y v w e1 e2 s1 s2 hne a ha hb=>?_⟩
 obtain⟨v',q1,p1⟩:=r.ents i x e1
 rw[s1] at q1;cases q1
 obtain⟨w',q2,p2⟩:=r.ents j y e2
 rw[s2] at q2;cases q2
 rw[p1.feet_ext e.hh] at ha
 rw[p2.feet_ext e.hh] at hb
 exact r.dj i j x y v w e1 e2 s1 s2 hne a ha hb
theorem Rep.fh (r:Rep K B F σ H Z):Same F H:=r.ex.fh
theorem yc {α:Type}{l:List α}{i j:Nat}{x y:α}(h:(l.set i x)[j]?=some y):(j=i/\x=y/\i < l.length)∨(j≠i/\l[j]?=some y):=by
 by_cases hj:j=i
 ·subst hj
  have hl:j < l.length:=by
   have:=(List.getElem?_eq_some_iff.mp h).1
   simpa using this
  rw[List.getElem?_set_self hl] at h
  cases h
  exact .inl ⟨rfl,rfl,hl⟩
 ·rw[List.getElem?_set_ne (Ne.symm hj)] at h
  exact .inr ⟨hj,h⟩
theorem Rep.seto (r:Rep K B F σ H Z){i:Nat}{x:En}{v:V}(h:RepE K B F H x v)(hn:∀(j:Nat) y w,Z[j]?=some (some y)->σ[j]?=some (some w)->j≠i->∀a∈feetE H x v,a∉feetE H y w):Rep K B F (σ.set i (some v)) H (Z.set i (some x)):=by
 refine⟨r.ex,by simp[r.len],λj y e=>?_,λj k y z u w e1 e2 s1 s2 hne a ha hb=>?_⟩
 ·rcases yc e with⟨rfl,q,hl⟩ | ⟨hj,e⟩
  ·cases q
   exact⟨v,List.getElem?_set_self (by rw[r.len];exact hl),h⟩
  ·obtain⟨w,h1,h2⟩:=r.ents j y e
   exact⟨w,by rw[List.getElem?_set_ne (Ne.symm hj)];exact h1,h2⟩
 ·rcases yc e1 with⟨rfl,q1,_⟩ | ⟨hj,f1⟩<;>rcases yc e2 with⟨rfl,q2,_⟩ | ⟨hk,f2⟩
  ·exact hne rfl
  ·cases q1
   rcases yc s1 with⟨_,p1,_⟩ | ⟨z,_⟩
   ·cases p1
    rw[List.getElem?_set_ne (Ne.symm hk)] at s2
    exact hn k z w f2 s2 hk a ha hb
   ·exact (z rfl).elim
  ·cases q2
   rcases yc s2 with⟨_,p2,_⟩ | ⟨z,_⟩
   ·cases p2
    rw[List.getElem?_set_ne (Ne.symm hj)] at s1
    exact hn j y u f1 s1 hj a hb ha
   ·exact (z rfl).elim
  ·rw[List.getElem?_set_ne (Ne.symm hj)] at s1
   rw[List.getElem?_set_ne (Ne.symm hk)] at s2
   exact r.dj j k y z u w f1 f2 s1 s2 hne a ha hb
theorem Rep.setv (r:Rep K B F σ H Z){i:Nat}{d:D}{v:V}(h:Rp K F d v):Rep K B F (σ.set i (some v)) H (Z.set i (some (.val d))) :=
 r.seto (x:=.val d) h λ_ _ _ _ _ _ a ha=>by cases ha
theorem RepE.other {x:En}{v:V}{a:Addr}{o:HO}(r:RepE K B F H x v)(hn:a∉feetE H x v)(h0:B.H0 a=none)(hw:∀z,H a≠some (.own z)):RepE K B F (upd H a o) x v/\feetE (upd H a o) x v=feetE H x v:=by
 cases x with
 |val d=>exact⟨r,rfl⟩
 |bor ds=>exact⟨r,rfl⟩
 |acc ds=>
  obtain⟨b,vs,rfl,q2,q3,q4,q5⟩:=r
  have hb:b≠a:=λz=>hn (by simp[feetE,z])
  exact⟨⟨b,vs,rfl,by rw[zh hb];exact q2,q3,q4,q5⟩,rfl⟩
 |oac b dx C fs ds=>
  obtain⟨vs,rfl,q2,ql,q3,q4,q5,d1,d2,d3⟩:=r
  have hb:b≠a:=λz=>hn (by simp[feetE,z])
  have hd:dx≠a:=λz=>hw b (by rw[<-z];exact d1)
  exact⟨⟨vs,rfl,by rw[zh hb];exact q2,ql,q3,q4,q5,by rw[zh hd];exact d1,d2,d3⟩,rfl⟩
 |tre t=>
  obtain⟨r1,r2,r3⟩:=r
  obtain⟨s1,s2⟩:=RepO.other (o:=o) r1 hn
  exact⟨⟨s1,by rw[s2];exact r2,λb hb=>r3 b (by rw[s2] at hb;exact hb)⟩,s2⟩
 |dct oa kvs=>
  obtain⟨b,ob,vs,rfl,q2,q3,q4,q5⟩:=r
  have hb:b≠a:=λz=>hn (by simp[feetE,z])
  exact⟨⟨b,ob,vs,rfl,by rw[zh hb];exact q2,q3,q4,q5⟩,rfl⟩
 |dbo kvs=>exact⟨r,rfl⟩
 |exn a=>exact⟨r,rfl⟩
theorem Rep.writeG (r:Rep K B F σ H Z){i:Nat}{x y:En}{v:V}{a:Addr}{o:HO}(hi:Z[i]?=some (some x))(hs:σ[i]?=some (some v))(ha:a∈feetE H x v)(hy:RepE K B F (upd H a o) y v)(hsub:∀b∈feetE (upd H a o) y v,b∈feetE H x v) :
  Rep K B F σ (upd H a o) (Z.set i (some y)):=by
 have hl:i < Z.length:=(List.getElem?_eq_some_iff.mp hi).1
 obtain⟨v',hv',rx⟩:=r.ents i x hi
 rw[hs] at hv';cases hv'
 obtain⟨_,hf,h0⟩:=rx.feet_at ha
 have oth:∀ {j:Nat} {z:En} {w:V},Z[j]?=some (some z)->σ[j]?=some (some w)->j≠i->RepE K B F (upd H a o) z w/\feetE (upd H a o) z w=feetE H z w:=fun {j z w} e s hj=>by
  obtain⟨w',hw',rz⟩:=r.ents j z e
  rw[s] at hw';cases hw'
  exact rz.other (λhz=>r.dj i j x z v w hi e hs s (Ne.symm hj) a ha hz) h0 (rx.feet_no ha)
 refine⟨⟨r.ex.ff,λb u e=>?_,λb u e=>?_,r.ex.nw⟩,by simp[r.len],λj z e=>?_,λj k z w u t e1 e2 s1 s2 hne b hb hc=>?_⟩
 ·rw[zh (z8 e h0)];exact r.ex.hh b u e
 ·rw[zh (z8 e hf)];exact r.ex.fh b u e
 ·rcases yc e with⟨rfl,q,_⟩ | ⟨hj,e⟩
  ·cases q;exact⟨v,hs,hy⟩
  ·obtain⟨w,h1,_⟩:=r.ents j z e
   exact⟨w,h1,(oth e h1 hj).1⟩
 ·rcases yc e1 with⟨rfl,q1,_⟩ | ⟨hj,f1⟩<;>rcases yc e2 with⟨rfl,q2,_⟩ | ⟨hk,f2⟩
  ·exact hne rfl
  ·cases q1
   rw[hs] at s1;cases s1
   rw[(oth f2 s2 hk).2] at hc
   exact r.dj _ k x w v t hi f2 hs s2 hne b (hsub b hb) hc
  ·cases q2
   rw[hs] at s2;cases s2
   rw[(oth f1 s1 hj).2] at hb
   exact r.dj j _ z x u v f1 hi s1 hs hne b hb (hsub b hc)
  ·rw[(oth f1 s1 hj).2] at hb
   rw[(oth f2 s2 hk).2] at hc
   exact r.dj j k z w u t f1 f2 s1 s2 hne b hb hc
theorem Rep.write (r:Rep K B F σ H Z){i:Nat}{x y:En}{a:Addr}{o:HO}(hi:Z[i]?=some (some x))(ho:x.own=true)(hs:σ[i]?=some (some (.ref a)))(hf:F a=none)(h0:B.H0 a=none)(hy:RepE K B F (upd H a o) y (.ref a))(hyo:y.own=true) :
  Rep K B F σ (upd H a o) (Z.set i (some y)) :=
 r.writeG hi hs (by rw[Zj ho];simp) hy λb hb=>by rw[Zj hyo] at hb;rw[Zj ho];exact hb
theorem Rep.frzG (r:Rep K B F σ H Z){i:Nat}{x:En}{v:V}{d:D}(hi:Z[i]?=some (some x))(hs:σ[i]?=some (some v))(hd:Rp K (addF F H (feetE H x v)) d v):Rep K B (addF F H (feetE H x v)) σ H (Z.set i (some (.val d))):=by
 obtain⟨v',hv',rx⟩:=r.ents i x hi
 rw[hs] at hv';cases hv'
 have sf:Same F (addF F H (feetE H x v)):=jy λa ha=>(rx.feet_at ha).2.1
 have non:∀ {b:Addr},F b=none->b∉feetE H x v->addF F H (feetE H x v) b=none:=fun {b} h hn=>by unfold addF;rw[if_neg hn];exact h
 refine⟨⟨r.ex.ff.trans sf,r.ex.hh,λb u e=>?_,λb e=>?_⟩,by simp[r.len],λj z e=>?_,λj k z w u t e1 e2 s1 s2 hne b hb hc=>?_⟩
 ·unfold addF at e
  split at e
  ·exact e
  ·exact r.ex.fh b u e
 ·unfold addF at e
  split at e
  ·rename_i hb;exact .inr (rx.feet_at hb).2.2
  ·exact r.ex.nw b e
 ·rcases yc e with⟨rfl,q,_⟩ | ⟨hj,e⟩
  ·cases q;exact⟨v,hs,hd⟩
  ·obtain⟨w,h1,h2⟩:=r.ents j z e
   refine⟨w,h1,?_⟩
   have hx:∀b∈feetE H z w,b∉feetE H x v:=λb hb hc=>r.dj j i z x w v e hi h1 hs hj b hb hc
   cases z with
   |val d=>exact Rp.mono sf h2
   |bor ds=>obtain⟨b,vs,q1,q2,q3⟩:=h2;exact⟨b,vs,q1,q2,q3.mono sf⟩
   |acc ds=>
    obtain⟨b,vs,rfl,q2,q3,q4,q5⟩:=h2
    exact⟨b,vs,rfl,q2,non q3 (hx b (by simp[feetE])),q4,q5.mono sf⟩
   |oac b dx C fs ds=>
    obtain⟨vs,rfl,q2,ql,q3,q4,q5,d1,d2,d3⟩:=h2
    exact⟨vs,rfl,q2,ql,non q3 (hx b (by simp[feetE])),q4,q5.mono sf,d1,non d2 (λhz=>rx.feet_no hz _ d1),d3⟩
   |tre t=>
    obtain⟨r1,r2,r3⟩:=h2
    exact⟨(RepO.ext sf (Same.refl H) r1).1,r2,λb hb=>⟨non (r3 b hb).1 (hx b hb),(r3 b hb).2⟩⟩
   |dct oa kvs=>
    obtain⟨b,ob,vs,rfl,q2,q3,q4,q5,q6⟩:=h2
    exact⟨b,ob,vs,rfl,q2,non q3 (hx b (by simp[feetE])),q4,q5.mono sf,q6⟩
   |dbo kvs=>obtain⟨b,ob,vs,q1,q2,q3⟩:=h2;exact⟨b,ob,vs,q1,q2,q3.mono sf⟩
   |exn a=>exact h2
 ·rcases yc e1 with⟨rfl,q1,_⟩ | ⟨hj,f1⟩
  ·cases q1;cases hb
  ·rcases yc e2 with⟨rfl,q2,_⟩ | ⟨hk,f2⟩
   ·cases q2;cases hc
   ·exact r.dj j k z w u t f1 f2 s1 s2 hne b hb hc
def frzE (i:Nat)(Z:EnvD):EnvD:=match Z[i]? with
 |some (some (.acc ds))=>Z.set i (some (.val (.lst ds)))
 |some (some (.oac _ _ C fs ds))=>Z.set i (some (.val (.obj C fs ds)))
 |some (some (.tre t))=>Z.set i (some (.val t.erase))
 |_=>Z
theorem Rep.frz (r:Rep K B F σ H Z)(i:Nat):∃F',Same F F'/\Rep K B F' σ H (frzE i Z):=by
 unfold frzE
 split
 ·rename_i ds hi
  obtain⟨v,hs,rx⟩:=r.ents i _ hi
  have sf:Same F (addF F H (feetE H (.acc ds) v)):=jy λa ha=>(rx.feet_at ha).2.1
  refine⟨_,sf,r.frzG hi hs ?_⟩
  obtain⟨a,vs,rfl,e2,e3,e4,e5⟩:=rx
  exact⟨a,vs,rfl,by unfold addF;rw[if_pos (by simp[feetE])];exact e2,e5.mono sf⟩
 ·rename_i a dx C fs ds hi
  obtain⟨v,hs,rx⟩:=r.ents i _ hi
  have sf:Same F (addF F H (feetE H (.oac a dx C fs ds) v)):=jy λb hb=>(rx.feet_at hb).2.1
  refine⟨_,sf,r.frzG hi hs ?_⟩
  obtain⟨vs,rfl,e2,el,e3,e4,e5,_⟩:=rx
  exact⟨a,dx,vs,rfl,by unfold addF;rw[if_pos (by simp[feetE])];exact e2,el,e5.mono sf⟩
 ·rename_i t hi
  obtain⟨v,hs,rx⟩:=r.ents i _ hi
  have sf:Same F (addF F H (feetE H (.tre t) v)):=jy λb hb=>(rx.feet_at hb).2.1
  exact⟨_,sf,r.frzG hi hs (RepO.fz sf rx.1 λa ha=>ha)⟩
 ·exact⟨F,Same.refl _,r⟩
end
abbrev Post (α:Type):=Hp->Hp->Hp->Hp->α->V->Prop
def lG {α:Type}(K:KW)(B:Bs)(post:Post α)(g:EnvD->Option α):TE:=λσ H Q=>
 ∃F Z x,Rep K B F σ H Z/\g Z=some x/\∀v F' H',Ext F H F' H'->post F H F' H' x v->Q v H'
def pE (K:KW):Post D:=λ_ _ F' _ d v=>Rp K F' d v
def pR (K:KW):Post D:=λ_ _ F' H' d v=>Rq K F' H' d v
def pA (K:KW):Post (List D):=λ_ H F' H' ds v=>∃a vs,v=.ref a/\H a=none/\H' a=some (.lst vs)/\F' a=none/\Rps K F' ds vs
def DE (X:Cx)(B:Bs)(e:Expr)(g:EnvD->Option D):Prop:=PE X e (lG X.kw B (pE X.kw) g)
def DR (X:Cx)(B:Bs)(e:Expr)(g:EnvD->Option D):Prop:=PE X e (lG X.kw B (pR X.kw) g)
def DA (X:Cx)(B:Bs)(e:Expr)(g:EnvD->Option (List D)):Prop:=PE X e (lG X.kw B (pA X.kw) g)
def lT (K:KW)(B:Bs)(g:EnvD->Option Bool):TT:=λσ H Q=>∃F Z b,Rep K B F σ H Z/\g Z=some b/\∀F' H',Ext F H F' H'->Q b H'
def DT (X:Cx)(B:Bs)(e:Expr)(g:EnvD->Option Bool):Prop:=PT X e (lT X.kw B g)
def DW (X:Cx)(B:Bs)(e:Expr)(g:EnvD->Option Bool):Prop:=PW X e (lT X.kw B g)
def lAs (K:KW)(B:Bs)(post:Post D)(g:EnvD->Option (List D)):TA:=λσ H Q=>
 ∃F Z ds,Rep K B F σ H Z/\g Z=some ds/\∀vs F' H',Ext F H F' H'->Paired (λd v=>post F H F' H' d v) ds vs->Q vs H'
def DAs (X:Cx)(B:Bs)(es:List Expr)(g:EnvD->Option (List D)):Prop:=PA X es (lAs X.kw B (pE X.kw) g)
def DRs (X:Cx)(B:Bs)(es:List Expr)(g:EnvD->Option (List D)):Prop:=PA X es (lAs X.kw B (pR X.kw) g)
section
variable {X:Cx}{B:Bs}{e a b c:Expr}{es:List Expr}{pos:Pos}
theorem zo {t t':TE}(h:PE X e t)(k:∀σ H Q,t' σ H Q->t σ H Q):PE X e t':=λpins s σ H Q I q=>h pins s σ H Q I (k σ H Q q)
theorem vK {t t':TT}(h:PT X e t)(k:∀σ H Q,t' σ H Q->t σ H Q):PT X e t':=λpins s σ H Q I q=>h pins s σ H Q I (k σ H Q q)
theorem JT {t t':TT}(h:PW X e t)(k:∀σ H Q,t' σ H Q->t σ H Q):PW X e t':=λwh pins s σ H Q I q=>h wh pins s σ H Q I (k σ H Q q)
theorem ye {t t':TA}(h:PA X es t)(k:∀σ H Q,t' σ H Q->t σ H Q):PA X es t':=λpo pins s σ H Q I q=>h po pins s σ H Q I (k σ H Q q)
theorem zC {st:Stmt}{t t':TS}(h:PS X st t)(k:∀E σ H,t' E σ H->t E σ H):PS X st t':=λpins s σ H E I q=>h pins s σ H E I (k E σ H q)
theorem y7 {st:List Stmt}{t t':TS}(h:PSs X st t)(k:∀E σ H,t' E σ H->t E σ H):PSs X st t':=λpins s σ H E I q=>h pins s σ H E I (k E σ H q)
theorem j9 {tg:Expr}{t t':TI}(h:PI X tg e t)(k:∀σ H Q,t' σ H Q->t σ H Q):PI X tg e t':=λpins s σ H Q I q=>h pins s σ H Q I (k σ H Q q)
theorem DE.read {g:EnvD->Option D}(h:DE X B e g):DR X B e g :=
 zo h λσ H Q ⟨F,Z,x,r,hg,k⟩=>⟨F,Z,x,r,hg,λv F' H' e p=>k v F' H' e (.inl p)⟩
def gFz (g:EnvD->Option (List D)):EnvD->Option D:=λZ=>(g Z).map D.lst
theorem DA.frz {g:EnvD->Option (List D)}(h:DA X B e g):DE X B e (gFz g) :=
 zo h λσ H Q ⟨F,Z,x,r,hg,k⟩=>by
  unfold gFz at hg
  cases q:g Z with
  |none=>rw[q] at hg;cases hg
  |some ds=>
   rw[q] at hg;cases hg
   refine⟨F,Z,ds,r,q,λv F' H' e p=>?_⟩
   obtain⟨a,vs,rfl,p1,p2,p3,p4⟩:=p
   exact k _ (upd F' a (.lst vs)) H' (e.freeze p1 p3 p2) ⟨a,vs,rfl,zr,p4.mono (zX p3)⟩
theorem DA.read {g:EnvD->Option (List D)}(h:DA X B e g):DR X B e (gFz g):=h.frz.read
def gv (i:Nat):EnvD->Option D:=λZ=>match Z[i]? with
 |some (some (.val d))=>some d
 |_=>none
def gr (i:Nat):EnvD->Option D:=λZ=>match Z[i]? with
 |some (some (.val d))=>some d
 |some (some (.acc ds))=>some (.lst ds)
 |some (some (.bor ds))=>some (.lst ds)
 |_=>none
theorem zg (i:Nat){x:Str}(h:PE X (.Name x pos) (tVar i)):DE X B (.Name x pos) (gv i) :=
 zo h λσ H Q ⟨F,Z,d,r,hg,k⟩=>by
  unfold gv at hg
  split at hg
  ·rename_i d' e
   cases hg
   obtain⟨v,h1,h2⟩:=r.ents i _ e
   exact⟨v,h1,k v F H (.refl r.fh) h2⟩
  ·cases hg
theorem za (i:Nat){x:Str}(h:PE X (.Name x pos) (tVar i)):DR X B (.Name x pos) (gr i) :=
 zo h λσ H Q ⟨F,Z,d,r,hg,k⟩=>by
  unfold gr at hg
  split at hg
  ·rename_i d' e
   cases hg
   obtain⟨v,h1,h2⟩:=r.ents i _ e
   exact⟨v,h1,k v F H (.refl r.fh) (.inl h2)⟩
  ·rename_i ds e
   cases hg
   obtain⟨v,h1,a,vs,e1,e2,e3,e4,e5⟩:=r.ents i _ e
   exact⟨v,h1,k v F H (.refl r.fh) (.inr ⟨a,vs,ds,rfl,e1,e2,e5⟩)⟩
  ·rename_i ds e
   cases hg
   obtain⟨v,h1,a,vs,e1,e2,e5⟩:=r.ents i _ e
   exact⟨v,h1,k v F H (.refl r.fh) (.inr ⟨a,vs,ds,rfl,e1,r.ex.hh _ _ e2,e5⟩)⟩
  ·cases hg
def gc (d:D):EnvD->Option D:=λ_=>some d
theorem kC {v:V}{d:D}(h:PE X e (tC v))(r:∀F,Rp X.kw F d v):DE X B e (gc d) :=
 zo h λσ H Q ⟨F,Z,d',rr,hg,k⟩=>by cases hg;exact k v F H (.refl rr.fh) (r F)
theorem de_int {i:Int}{j}:DE X B (.Constant (.int i) j pos) (gc (.int i)):=kC WK λ_=>rfl
theorem yq {i:Bool}{j}:DE X B (.Constant (.bool i) j pos) (gc (.bl i)):=kC KD λ_=>rfl
theorem vA {j}:DE X B (.Constant .none j pos) (gc .non):=kC Kn λ_=>rfl
theorem zW {x:Str}{j}:DE X B (.Constant (.str x) j pos) (gc (.str x)):=kC ZT λ_=>rfl
theorem xu {x:Str}{v:V}{u:Value}{d:D}(hg:Gl X x)(hm:X.mg x=some u)(r:RelV v u)(rd:∀F,Rp X.kw F d v)(hd:#[8]=false:=by decide):DE X B (.Name x pos) (gc d) :=
 zo (KQ hg hm r hd) λσ H Q ⟨F,Z,d',rr,hg,k⟩=>by cases hg;exact k v F H (.refl rr.fh) (rd F)
def g2 {γ:Type}(f:D->D->Option γ)(ga gb:EnvD->Option D):EnvD->Option γ:=λZ=>(ga Z).bind λx=>(gb Z).bind λy=>f x y
def OkR {γ:Type}(K:KW)(r:R2)(pc:Post γ)(f:D->D->Option γ):Prop :=
 ∀F H x y dx dy d Q,Same F H->Rq K F H dx x->Rq K F H dy y->f dx dy=some d->(∀v F' H',Ext F H F' H'->pc F H F' H' d v->Q v H')->r x y H Q
def Back {γ:Type}(pc:Post γ):Prop:=∀F H F1 H1 F' H' d v,Ext F H F1 H1->pc F1 H1 F' H' d v->pc F H F' H' d v
theorem wG {K:KW}:Back (pE K):=λ_ _ _ _ _ _ _ _ _ h=>h
theorem VS {K:KW}:Back (pA K):=λ_ _ _ _ _ _ _ _ e ⟨a,vs,h1,h2,h⟩=>⟨a,vs,h1,e.hh.free h2,h⟩
theorem op2 {γ:Type}{r:R2}{pc:Post γ}{f:D->D->Option γ}(hb:Back pc)(hr:OkR X.kw r pc f){ga gb:EnvD->Option D}{σ:St}{H:Hp}{Q:VK}(h:lG X.kw B pc (g2 f ga gb) σ H Q) :
  tOp r (lG X.kw B (pR X.kw) ga) (lG X.kw B (pR X.kw) gb) σ H Q:=by
 obtain⟨F,Z,d,rr,hg,k⟩:=h
 unfold g2 at hg
 cases qa:ga Z with
 |none=>rw[qa] at hg;cases hg
 |some dx=>
  cases qb:gb Z with
  |none=>rw[qa,qb] at hg;cases hg
  |some dy=>
   rw[qa,qb] at hg
   refine⟨F,Z,dx,rr,qa,λx F1 H1 e1 p1=>⟨F1,Z,dy,rr.ext e1,qb,λy F2 H2 e2 p2=>?_⟩⟩
   exact hr F2 H2 x y dx dy d Q e2.fh (p1.mono e2.ff e2.hh) p2 hg λv F' H' e p=>k v F' H' (e1.trans (e2.trans e)) (hb _ _ _ _ _ _ _ _ (e1.trans e2) p)
theorem xy {op:Operator}{r:R2}{f:D->D->Option D}{ga gb:EnvD->Option D}(ho:OpR X (binaryOp op) r)(hr:OkR X.kw r (pE X.kw) f)(ha:DR X B a ga)(hb:DR X B b gb):DE X B (.BinOp a op b pos) (g2 f ga gb) :=
 zo (Qv ho ha hb) λσ H Q h=>op2 wG hr h
theorem JM {op:Operator}{r:R2}{f:D->D->Option (List D)}{ga gb:EnvD->Option D}(ho:OpR X (binaryOp op) r)(hr:OkR X.kw r (pA X.kw) f)(ha:DR X B a ga)(hb:DR X B b gb):DA X B (.BinOp a op b pos) (g2 f ga gb) :=
 zo (Qv ho ha hb) λσ H Q h=>op2 VS hr h
theorem yQ {op:CmpOp}{r:R2}{f:D->D->Option D}{ga gb:EnvD->Option D}(ho:OpR X (compareOp op) r)(hr:OkR X.kw r (pE X.kw) f)(ha:DR X B a ga)(hb:DR X B b gb)(hm:behindInMarks op b=false):DE X B (.Compare a [op] [b] pos) (g2 f ga gb) :=
 zo (Ua ho ha hb hm) λσ H Q h=>op2 wG hr h
theorem zf9 {r:R2}{f:D->D->Option D}{ga gb:EnvD->Option D}(ho:IxR X r)(hr:OkR X.kw r (pE X.kw) f)(ha:DR X B a ga)(hb:DR X B b gb)(hs:ZF b):DE X B (.Subscript a b pos) (g2 f ga gb) :=
 zo (R7 ho ha hb hs) λσ H Q h=>op2 wG hr h
def fI (C:Int->Int->Bool)(f:Int->Int->D):D->D->Option D
 |.int i,.int j=>if C i j then some (f i j) else none
 |_,_=>none
theorem okI {K:KW}{C:Int->Int->Prop}{p:Int->Int->Bool}{f:Int->Int->D}{g:Int->Int->V}(hp:∀i j,p i j=true->C i j)(hf:∀i j F,Rp K F (f i j) (g i j)):OkR K (rI C g) (pE K) (fI p f):=by
 intro F H x y dx dy d Q s rx ry e k
 unfold fI at e
 split at e
 ·rename_i i j
  split at e
  ·rename_i hc
   cases e
   exact⟨i,j,rx.int,ry.int,hp i j hc,k _ F H (.refl s) (hf i j F)⟩
  ·cases e
 ·cases e
theorem okI0 {K:KW}{f:Int->Int->D}{g:Int->Int->V}(hf:∀i j F,Rp K F (f i j) (g i j)):OkR K (rI0 g) (pE K) (fI (λ_ _=>true) f):=by
 intro F H x y dx dy d Q s rx ry e k
 unfold fI at e
 split at e
 ·rename_i i j
  rw[if_pos rfl] at e
  cases e
  exact⟨i,j,rx.int,ry.int,k _ F H (.refl s) (hf i j F)⟩
 ·cases e
def fSub:=fI (λ_ _=>true) λi j=>.int (i - j)
def LIM:Int:=18446744073709551616
def fMul:=fI (λi j=>(decide (-LIM < i)&&decide (i < LIM))||(decide (-LIM < j)&&decide (j < LIM))) λi j=>.int (i * j)
def fDiv:=fI (λ_ j=>decide (0 < j)&&decide (j < 1073741824)) λi j=>.int (i / j)
def fMod:=fI (λ_ j=>decide (0 < j)) λi j=>.int (i % j)
def fShr:=fI (λ_ j=>decide (0<=j)) λi j=>.int (i / 2 ^ j.toNat)
def fAnd:=fI (λ_ _=>true) λi j=>.int (Builtin.bitAnd i j)
def fPow:=fI (λi j=>decide (0<=j)&&decide (j<=1000000)&&decide (i.natAbs < 18446744073709551616)) λi j=>.int (i ^ j.toNat)
variable {ga gb:EnvD->Option D}
theorem wU (ha:DR X B a ga)(hb:DR X B b gb):DE X B (.BinOp a .Sub b pos) (g2 fSub ga gb):=xy Ku (okI0 λ_ _ _=>rfl) ha hb
theorem xS (ha:DR X B a ga)(hb:DR X B b gb):DE X B (.BinOp a .Mult b pos) (g2 fMul ga gb):=xy zdf (okI (λi j h=>by
 simp only[Bool.or_eq_true,Bool.and_eq_true,decide_eq_true_eq] at h
 unfold LIM at h
 rcases h with⟨h1,h2⟩ | ⟨h1,h2⟩
 ·exact .inl ⟨by omega,by omega⟩
 ·exact .inr ⟨by omega,by omega⟩) λ_ _ _=>rfl) ha hb
theorem w9 (ha:DR X B a ga)(hb:DR X B b gb):DE X B (.BinOp a .FloorDiv b pos) (g2 fDiv ga gb):=xy zc5 (okI (λi j h=>by
 simp only[Bool.and_eq_true,decide_eq_true_eq] at h
 exact h) λ_ _ _=>rfl) ha hb
theorem zN (ha:DR X B a ga)(hb:DR X B b gb):DE X B (.BinOp a .Mod b pos) (g2 fMod ga gb):=xy Uz (okI (λi j h=>by
 simp only[decide_eq_true_eq] at h
 exact h) λ_ _ _=>rfl) ha hb
theorem zds (ha:DR X B a ga)(hb:DR X B b gb):DE X B (.BinOp a .RShift b pos) (g2 fShr ga gb):=xy KU (okI (λi j h=>by
 simp only[decide_eq_true_eq] at h
 exact h) λ_ _ _=>rfl) ha hb
theorem UF (ha:DR X B a ga)(hb:DR X B b gb):DE X B (.BinOp a .BitAnd b pos) (g2 fAnd ga gb):=xy GM (okI0 λ_ _ _=>rfl) ha hb
def fLt:=fI (λ_ _=>true) λi j=>.bl (decide (i < j))
def fLe:=fI (λ_ _=>true) λi j=>.bl (decide (i<=j))
def fGt:=fI (λ_ _=>true) λi j=>.bl (decide (j < i))
theorem wP {K:KW}:OkR K (rI0 λi j=>.bl (decide (i < j))) (pE K) fLt:=okI0 λ_ _ _=>rfl
theorem wk {K:KW}:OkR K (rI0 λi j=>.bl (decide (i<=j))) (pE K) fLe:=okI0 λ_ _ _=>rfl
theorem wI {K:KW}:OkR K (rI0 λi j=>.bl (decide (j < i))) (pE K) fGt:=okI0 λ_ _ _=>rfl
def TOP:Nat:=1000000
theorem yf {n:Nat}(h:n<=TOP):n<=sizeLine:=Nat.le_trans h (by decide)
theorem ze1 {n:Nat}(h:n<=TOP):n < sizeLine:=Nat.lt_of_le_of_lt h (by decide)
def fIx:D->D->Option D
 |.lst xs,.int i=>atI xs i
 |.tup xs,.int i=>atI xs i
 |.scr ns,.int i=>(atI ns i).map D.int
 |_,_=>none
theorem Vb {K:KW}{F:Hp}{ds:List D}{vs:List V}{i:Int}{d:D}(r:Rps K F ds vs)(h:atI ds i=some d):∃v,atI vs i=some v/\Rp K F d v:=by
 unfold atI at h ⊢
 rw[<-r.length]
 cases q:ixN ds.length i with
 |none=>rw[q] at h;cases h
 |some j=>rw[q] at h;exact r.get h
theorem Zu {K:KW}:OkR K (rIx K) (pE K) fIx:=by
 intro F H x y dx dy d Q s rx ry e k
 unfold fIx at e
 split at e
 ·rename_i xs i
  obtain⟨p,vs,rfl,h1,h2⟩:=rx.lst s
  obtain⟨v,h3,h4⟩:=Vb h2 e
  exact .inl ⟨p,vs,i,v,rfl,ry.int,.of h1,h3,k _ F H (.refl s) h4⟩
 ·rename_i xs i
  obtain⟨p,vs,rfl,h1,h2⟩:=rx.tup s
  obtain⟨v,h3,h4⟩:=Vb h2 e
  exact .inr (.inl ⟨p,vs,i,v,rfl,ry.int,.of h1,h3,k _ F H (.refl s) h4⟩)
 ·rename_i ns i
  obtain⟨p,rfl,h1⟩:=rx.scr s
  cases q:atI ns i with
  |none=>rw[q] at e;cases e
  |some n=>
   rw[q] at e
   cases e
   refine .inl ⟨p,_,i,.int n,rfl,ry.int,h1,?_,k _ F H (.refl s) rfl⟩
   unfold atI at q ⊢
   rw[List.length_map]
   cases q':ixN ns.length i with
   |none=>rw[q'] at q;cases q
   |some j=>
    rw[q'] at q
    have q:ns[j]?=some n:=q
    show (ns.map V.int)[j]?=some (.int n)
    rw[List.getElem?_map,q];rfl
 ·cases e
end
mutual
def toP:D->PyData
 |.non=>.none
 |.bl b=>.bool b
 |.int i=>.int i
 |.str x=>.str x
 |.lst ds=>.list (toPs ds)
 |.tup ds=>.tuple (toPs ds)
 |.scr ns=>.list (ns.map PyData.int)
 |.obj _ _ _=>.dict []
 |.emp=>.dict []
def toPs:List D->List PyData
 | []=>[]
 |d::ds=>toP d::toPs ds
end
section
variable {X:Cx}{pins:List (Addr×Obj)}{σ:St}{F H:Hp}{s:Shared}
theorem Wx {h:Heap}:∀(ns:List Int) {us:List Value},Vals (ns.map V.int) us->∃as,ReadsAll h us (ns.map PyData.int) as
 | [],_,.nil=>⟨_,.nil⟩
 |n::ns,_,.cons r t=>by
  obtain⟨t',rfl⟩:=r
  obtain⟨as,q⟩:=Wx ns t
  exact⟨_,.cons (.int n t') q⟩
mutual
theorem Rp.reads (I:Inv X pins σ H s)(fh:Same F H):∀(d:D) {v:V} {u:Value},(toP d).canLay0=true->Rp X.kw F d v->RelV v u->∃as,Reads s.heap u (toP d) as
 |.non,_,_,_,h,r=>by subst h;cases r;exact⟨_,.none⟩
 |.bl b,_,_,_,h,r=>by subst h;cases r;exact⟨_,.bool b⟩
 |.int i,_,_,_,h,r=>by subst h;obtain⟨t,rfl⟩:=r;exact⟨_,.int i t⟩
 |.str x,_,_,_,h,r=>by subst h;obtain⟨t,rfl⟩:=r;exact⟨_,.str x t⟩
 |.lst ds,_,_,c,⟨a,vs,e,q,h⟩,r=>by
  subst e;cases r
  obtain⟨z,its,n,rv,e⟩:=(show ObjOk X.prog X.w H s.heap a (.lst vs) from I.hok a _ (fh _ _ q))
  obtain⟨as,t⟩:=Rps.reads I fh ds (show PyData.canLayAll0 (toPs ds)=true from c) h rv
  exact⟨_,.list e rfl rfl (by simpa using t)⟩
 |.tup ds,_,_,c,⟨a,vs,e,q,h⟩,r=>by
  subst e;cases r
  obtain⟨z,its,rv,o,e,hc,n,hd⟩:=(show ObjOk X.prog X.w H s.heap a (.tup vs) from I.hok a _ (fh _ _ q))
  obtain⟨as,t⟩:=Rps.reads I fh ds (show PyData.canLayAll0 (toPs ds)=true from c) h rv
  exact⟨_,.tuple e hc hd (by simpa using t)⟩
 |.scr ns,_,_,c,⟨a,e,q⟩,r=>by
  subst e;cases r
  obtain⟨its,rv,⟨o,n,e,hc,_,hd⟩,_⟩:=I.list (fh.seq q)
  obtain⟨as,t⟩:=Wx (h:=s.heap) ns rv
  exact⟨_,.list e hc hd (by simpa using t)⟩
 |.obj _ _ _,_,_,c,_,_=>by cases c
 |.emp,_,_,c,_,_=>by cases c
theorem Rps.reads (I:Inv X pins σ H s)(fh:Same F H):∀(ds:List D) {vs:List V} {us:List Value},PyData.canLayAll0 (toPs ds)=true->Rps X.kw F ds vs->Vals vs us->∃as,ReadsAll s.heap us (toPs ds) as
 | [],_,_,_,h,r=>by subst h;cases r;exact⟨_,.nil⟩
 |d::ds,_,_,c,⟨v,w,e,h,t⟩,r=>by
  subst e
  cases r with
  |cons r rr=>
   have c':((toP d).canLay0&&PyData.canLayAll0 (toPs ds))=true:=c
   obtain⟨c1,c2⟩:=Bool.and_eq_true_iff.mp c'
   obtain⟨as,q⟩:=Rp.reads I fh d c1 h r
   obtain⟨bs,p⟩:=Rps.reads I fh ds c2 t rr
   exact⟨_,.cons q p⟩
end
theorem Rq.reads (I:Inv X pins σ H s)(fh:Same F H){d:D}{v:V}{u:Value}(c:(toP d).canLay0=true)(h:Rq X.kw F H d v)(r:RelV v u):∃as,Reads s.heap u (toP d) as:=by
 rcases h with h | ⟨a,vs,ds,rfl,rfl,e,h⟩
 ·exact h.reads I fh d c r
 ·cases r
  obtain⟨z,its,n,rv,e⟩:=(show ObjOk X.prog X.w H s.heap a (.lst vs) from I.hok a _ e)
  obtain⟨as,t⟩:=Rps.reads I fh ds (show PyData.canLayAll0 (toPs ds)=true from c) h rv
  exact⟨_,.list e rfl rfl (by simpa using t)⟩
end
def eqOk (d:D):Bool:=SeqAt.shaped (toP d)
def eqD (d d':D):Bool:=PyData.eqv (toP d) (toP d')
def rEqD (K:KW)(neg:Bool):R2:=λx y H Q=>∃F d d',Same F H/\Rq K F H d x/\Rq K F H d' y/\eqOk d=true/\eqOk d'=true/\Q (.bl (if neg then !eqD d d' else eqD d d')) H
section
variable {X:Cx}{B:Bs}{e a b c:Expr}{es:List Expr}{pos:Pos}{ga gb:EnvD->Option D}
theorem zV (hu:X.A.units+64 < cLine):OpR X (compareOp .Eq) (rEqD X.kw false):=by
 intro pins s σ H x y v u Q I rx ry ⟨F,d,d',fh,h1,h2,o1,o2,q⟩
 obtain⟨as,ra⟩:=h1.reads I fh (SeqAt.canLay_of_shaped o1) rx
 obtain⟨bs,rb⟩:=h2.reads I fh (SeqAt.canLay_of_shaped o2) ry
 exact SeqAt.compareEq_shaped ra rb o1 o2 hu ⟨.bl (eqD d d'),H,I,rfl,q⟩
theorem we (hu:X.A.units+64 < cLine):OpR X (compareOp .NotEq) (rEqD X.kw true):=by
 intro pins s σ H x y v u Q I rx ry ⟨F,d,d',fh,h1,h2,o1,o2,q⟩
 obtain⟨as,ra⟩:=h1.reads I fh (SeqAt.canLay_of_shaped o1) rx
 obtain⟨bs,rb⟩:=h2.reads I fh (SeqAt.canLay_of_shaped o2) ry
 exact SeqAt.compareNe_shaped ra rb o1 o2 hu ⟨.bl (!eqD d d'),H,I,rfl,q⟩
def fEq (neg:Bool):D->D->Option D:=λx y=>if eqOk x&&eqOk y then some (.bl (if neg then !eqD x y else eqD x y)) else none
theorem zI {K:KW}{neg:Bool}:OkR K (rEqD K neg) (pE K) (fEq neg):=by
 intro F H x y dx dy d Q s rx ry e k
 unfold fEq at e
 split at e
 ·rename_i hc
  cases e
  obtain⟨h1,h2⟩:=Bool.and_eq_true_iff.mp hc
  exact⟨F,dx,dy,s,rx,ry,h1,h2,k _ F H (.refl s) rfl⟩
 ·cases e
def isNon:D->Bool
 |.non=>true
 |_=>false
theorem zdo {K:KW}{F H:Hp}{d:D}{v:V}(r:Rq K F H d v):decide (v=.non)=isNon d:=by
 rcases r with r | ⟨a,vs,ds,rfl,rfl,_⟩
 ·cases d with
  |non=>cases r;rfl
  |bl b=>cases r;rfl
  |int b=>cases r;rfl
  |str b=>cases r;rfl
  |lst ds=>obtain⟨a,vs,rfl,_⟩:=r;rfl
  |tup ds=>obtain⟨a,vs,rfl,_⟩:=r;rfl
  |scr ds=>obtain⟨a,rfl,_⟩:=r;rfl
  |obj C f ds=>obtain⟨a,dx,vs,rfl,_⟩:=r;rfl
  |emp=>obtain⟨a,rfl,_⟩:=r;rfl
 ·rfl
def fIs (neg:Bool):D->D->Option D
 |d,.non=>some (.bl (if neg then !isNon d else isNon d))
 |_,_=>none
theorem Wj {K:KW}:OkR K (λx y H Q=>y=.non/\Q (.bl (decide (x=.non))) H) (pE K) (fIs false):=by
 intro F H x y dx dy d Q s rx ry e k
 unfold fIs at e
 split at e
 ·cases e
  refine⟨ry.non,?_⟩
  rw[zdo rx]
  exact k _ F H (.refl s) rfl
 ·cases e
def asB:D->Option Bool
 |.bl b=>some b
 |_=>none
def truD:D->Option Bool
 |.non=>some false
 |.bl b=>some b
 |.int i=>some (i != 0)
 |.str x=>if x.length<=TOP then some ((x.length:Int) != 0) else none
 |.lst ds=>some (!ds.isEmpty)
 |.tup ds=>some (!ds.isEmpty)
 |.scr ns=>some (!ns.isEmpty)
 |.obj _ _ _=>none
 |.emp=>none
theorem JL {K:KW}{F:Hp}{ds:List D}{vs:List V}(r:Rps K F ds vs):ds.isEmpty=vs.isEmpty:=by
 have:=r.length
 cases ds<;>cases vs<;>simp_all
theorem zew {K:KW}{F H:Hp}(s:Same F H){d:D}{v:V}{b:Bool}(r:Rq K F H d v)(h:truD d=some b):TruV K v H b:=by
 cases d with
 |non=>cases r.non;cases h;rfl
 |bl x=>cases r.bl;cases h;rfl
 |int x=>cases r.int;cases h;rfl
 |str x=>
  cases r.str
  have h:(if x.length<=TOP then some ((x.length:Int) != 0) else none)=some b:=h
  split at h
  ·rename_i hc;cases h;exact⟨yf hc,rfl⟩
  ·cases h
 |lst ds=>obtain⟨a,vs,rfl,q,t⟩:=r.lst s;cases h;exact .inl ⟨vs,.of q,by rw[JL t]⟩
 |tup ds=>obtain⟨a,vs,rfl,q,t⟩:=r.tup s;cases h;exact .inr (.inl ⟨vs,.of q,by rw[JL t]⟩)
 |scr ns=>obtain⟨a,rfl,q⟩:=r.scr s;cases h;exact .inl ⟨_,q,by simp⟩
 |obj C f ds=>cases h
 |emp=>cases h
def gt (g:EnvD->Option D):EnvD->Option Bool:=λZ=>(g Z).bind truD
def gb' (g:EnvD->Option D):EnvD->Option Bool:=λZ=>(g Z).bind asB
theorem yg {g:EnvD->Option D}(ha:DR X B a g)(he:∀whole,isTrue a X.env whole=(do let v <-whole;standAt a.pos;holding [v] (truthy v))):DT X B a (gt g) :=
 vK (zbt ha he) λσ H Q ⟨F,Z,b,r,hg,k⟩=>by
  unfold gt at hg
  cases q:g Z with
  |none=>rw[q] at hg;cases hg
  |some d=>
   rw[q] at hg
   exact⟨F,Z,d,r,q,λv F' H' e p=>⟨b,zew e.fh p hg,k F' H' e⟩⟩
theorem z9 {op:CmpOp}{r:R2}{f:D->D->Option D}(ho:OpR X (compareOp op) r)(hr:OkR X.kw r (pE X.kw) f)(ha:DR X B a ga)(hb:DR X B b gb)(hm:behindInMarks op b=false):DT X B (.Compare a [op] [b] pos) (gb' (g2 f ga gb)) :=
 vK (R8 ho ha hb hm) λσ H Q ⟨F,Z,c,rr,hg,k⟩=>by
  unfold gb' at hg
  cases q:g2 f ga gb Z with
  |none=>rw[q] at hg;cases hg
  |some d=>
   rw[q] at hg
   refine op2 wG hr ⟨F,Z,d,rr,q,λv F' H' e p=>?_⟩
   cases d with
   |bl y=>cases hg;exact⟨c,p,k F' H' e⟩
   |_=>cases hg
def gAnd (ga gb:EnvD->Option Bool):EnvD->Option Bool:=λZ=>(ga Z).bind λx=>if x then gb Z else some false
def gOr (ga gb:EnvD->Option Bool):EnvD->Option Bool:=λZ=>(ga Z).bind λx=>if x then some true else gb Z
def gNot (ga:EnvD->Option Bool):EnvD->Option Bool:=λZ=>(ga Z).map λx=>!x
variable {ta tb:EnvD->Option Bool}{rest:List Expr}
theorem jg (ha:DT X B a ta):DW X B (.BoolOp .And [a] pos) ta:=zfr ha
theorem wX (ha:DT X B a ta):DW X B (.BoolOp .Or [a] pos) ta:=RJ ha
theorem jD (ha:DT X B a ta)(hb:DW X B (.BoolOp .And (b::rest) pos) tb):DW X B (.BoolOp .And (a::b::rest) pos) (gAnd ta tb) :=
 JT (Ud ha hb) λσ H Q ⟨F,Z,c,r,hg,k⟩=>by
  unfold gAnd at hg
  cases q:ta Z with
  |none=>rw[q] at hg;cases hg
  |some x=>
   rw[q] at hg
   refine⟨F,Z,x,r,q,λF1 H1 e1=>?_⟩
   cases x with
   |true=>exact iteT ⟨F1,Z,c,r.ext e1,hg,λF2 H2 e2=>k F2 H2 (e1.trans e2)⟩
   |false=>cases hg;exact iteF (k F1 H1 e1)
theorem xP (ha:DT X B a ta)(hb:DW X B (.BoolOp .Or (b::rest) pos) tb):DW X B (.BoolOp .Or (a::b::rest) pos) (gOr ta tb) :=
 JT (zcw ha hb) λσ H Q ⟨F,Z,c,r,hg,k⟩=>by
  unfold gOr at hg
  cases q:ta Z with
  |none=>rw[q] at hg;cases hg
  |some x=>
   rw[q] at hg
   refine⟨F,Z,x,r,q,λF1 H1 e1=>?_⟩
   cases x with
   |true=>cases hg;exact iteT (k F1 H1 e1)
   |false=>exact iteF ⟨F1,Z,c,r.ext e1,hg,λF2 H2 e2=>k F2 H2 (e1.trans e2)⟩
theorem yy (h:DW X B a ta):DT X B a ta:=PW.pt h
theorem yK (ha:DT X B a ta):DT X B (.UnaryOp .Not a pos) (gNot ta) :=
 vK (ze0 ha) λσ H Q ⟨F,Z,c,r,hg,k⟩=>by
  unfold gNot at hg
  cases q:ta Z with
  |none=>rw[q] at hg;cases hg
  |some x=>rw[q] at hg;cases hg;exact⟨F,Z,x,r,q,λF1 H1 e1=>k F1 H1 e1⟩
def gAndV (ga gb:EnvD->Option D):EnvD->Option D:=λZ=>((ga Z).bind asB).bind λx=>if x then gb Z else some (.bl false)
def gNotV (ga:EnvD->Option D):EnvD->Option D:=λZ=>((ga Z).bind asB).map λx=>.bl (!x)
theorem Zb {d:D}{b:Bool}(h:asB d=some b):d=.bl b:=by cases d<;>cases h;rfl
theorem bindB {g:EnvD->Option D}{Z:EnvD}{α:Type}{f:Bool->Option α}{y:α}(h:((g Z).bind asB).bind f=some y):∃b,g Z=some (.bl b)/\f b=some y:=by
 cases q:g Z with
 |none=>rw[q] at h;cases h
 |some d=>
  rw[q] at h
  cases q2:asB d with
  |none=>rw[show (some d).bind asB=asB d from rfl,q2] at h;cases h
  |some b=>rw[show (some d).bind asB=asB d from rfl,q2] at h;exact⟨b,by rw[Zb q2],h⟩
theorem wT {op}(h:DE X B a ga):DE X B (.BoolOp op [a] pos) ga:=Gs h
theorem wj (ha:DE X B a ga)(hb:DE X B (.BoolOp .And (b::rest) pos) gb):DE X B (.BoolOp .And (a::b::rest) pos) (gAndV ga gb) :=
 zo (zf0 ha hb) λσ H Q ⟨F,Z,d,r,hg,k⟩=>by
  obtain⟨x,q,hg⟩:=bindB hg
  refine⟨F,Z,_,r,q,λv F1 H1 e1 p1=>⟨x,p1,?_⟩⟩
  cases x with
  |true=>exact iteT ⟨F1,Z,d,r.ext e1,hg,λv F2 H2 e2 p2=>k v F2 H2 (e1.trans e2) p2⟩
  |false=>cases hg;exact iteF (k _ F1 H1 e1 rfl)
theorem Rh (ha:DE X B a ga):DE X B (.UnaryOp .Not a pos) (gNotV ga) :=
 zo (zbv ha) λσ H Q ⟨F,Z,d,r,hg,k⟩=>by
  unfold gNotV at hg
  rw[Option.map_eq_bind] at hg
  obtain⟨x,q,hg⟩:=bindB hg
  cases hg
  exact⟨F,Z,_,r,q,λv F1 H1 e1 p1=>⟨x,p1,k _ F1 H1 e1 rfl⟩⟩
def gIf (t:EnvD->Option Bool)(ga gb:EnvD->Option D):EnvD->Option D:=λZ=>(t Z).bind λx=>if x then ga Z else gb Z
theorem zbo (ht:DT X B c ta)(ha:DE X B a ga)(hb:DE X B b gb):DE X B (.IfExp c a b pos) (gIf ta ga gb) :=
 zo (QE ht ha hb) λσ H Q ⟨F,Z,d,r,hg,k⟩=>by
  unfold gIf at hg
  cases q:ta Z with
  |none=>rw[q] at hg;cases hg
  |some x=>
   rw[q] at hg
   refine⟨F,Z,x,r,q,λF1 H1 e1=>?_⟩
   cases x with
   |true=>exact iteT ⟨F1,Z,d,r.ext e1,hg,λv F2 H2 e2 p2=>k v F2 H2 (e1.trans e2) p2⟩
   |false=>exact iteF ⟨F1,Z,d,r.ext e1,hg,λv F2 H2 e2 p2=>k v F2 H2 (e1.trans e2) p2⟩
end
section
variable {X:Cx}{B:Bs}{e a b c:Expr}{es:List Expr}{pos:Pos}{ga gb gc':EnvD->Option D}
def g3 (f f':D->D->Option D)(ga gb gc:EnvD->Option D):EnvD->Option D:=λZ=>
 (ga Z).bind λx=>(gb Z).bind λy=>((f x y).bind asB).bind λk=>if k then (gc Z).bind λz=>f' y z else some (.bl false)
theorem Jc {r r':R2}{f f':D->D->Option D}(hr:OkR X.kw r (pE X.kw) f)(hr':OkR X.kw r' (pE X.kw) f'){σ:St}{H:Hp}{Q:VK}(h:lG X.kw B (pE X.kw) (g3 f f' ga gb gc') σ H Q) :
  tChain r r' (lG X.kw B (pR X.kw) ga) (lG X.kw B (pR X.kw) gb) (lG X.kw B (pR X.kw) gc') σ H Q:=by
 obtain⟨F,Z,d,rr,hg,k⟩:=h
 unfold g3 at hg
 cases qa:ga Z with
 |none=>rw[qa] at hg;cases hg
 |some dx=>
  cases qb:gb Z with
  |none=>rw[qa,qb] at hg;cases hg
  |some dy=>
   rw[qa,qb] at hg
   have hg:((f dx dy).bind asB).bind (λk=>if k then (gc' Z).bind λz=>f' dy z else some (.bl false))=some d:=hg
   cases qf:f dx dy with
   |none=>rw[qf] at hg;cases hg
   |some z=>
    rw[qf] at hg
    cases qz:asB z with
    |none=>rw[show (some z).bind asB=asB z from rfl,qz] at hg;cases hg
    |some kk=>
     rw[show (some z).bind asB=asB z from rfl,qz] at hg
     rw[Zb qz] at qf
     refine⟨F,Z,dx,rr,qa,λx F1 H1 e1 p1=>⟨F1,Z,dy,rr.ext e1,qb,λy F2 H2 e2 p2=>?_⟩⟩
     refine hr F2 H2 x y dx dy _ _ e2.fh (p1.mono e2.ff e2.hh) p2 qf λv F3 H3 e3 p3=>⟨kk,p3,?_⟩
     have hg:(if kk=true then (gc' Z).bind λz=>f' dy z else some (.bl false))=some d:=hg
     cases kk with
     |false=>rw[if_neg (by decide)] at hg;cases hg;exact iteF (k _ F3 H3 (e1.trans (e2.trans e3)) rfl)
     |true=>
      rw[if_pos rfl] at hg
      refine iteT ?_
      cases qc:gc' Z with
      |none=>rw[qc] at hg;cases hg
      |some dz=>
       rw[qc] at hg
       refine⟨F3,Z,dz,rr.ext (e1.trans (e2.trans e3)),qc,λw F4 H4 e4 p4=>?_⟩
       exact hr' F4 H4 y w dy dz d Q e4.fh ((p2.mono e3.ff e3.hh).mono e4.ff e4.hh) p4 hg λv F5 H5 e5 p5=>k v F5 H5 (e1.trans (e2.trans (e3.trans (e4.trans e5)))) p5
theorem YN {op op':CmpOp}{r r':R2}{f f':D->D->Option D}(ho:OpR X (compareOp op) r)(ho':OpR X (compareOp op') r')(hr:OkR X.kw r (pE X.kw) f)(hr':OkR X.kw r' (pE X.kw) f')(ha:DR X B a ga)(hb:DR X B b gb)(hc:DR X B c gc')
  (hm:lastMarks [op,op'] [b,c]=false:=by with_unfolding_all rfl):DE X B (.Compare a [op,op'] [b,c] pos) (g3 f f' ga gb gc') :=
 zo (RZ ho ho' ha hb hc hm) λσ H Q h=>Jc hr hr' h
theorem zb1 {op op':CmpOp}{r r':R2}{f f':D->D->Option D}(ho:OpR X (compareOp op) r)(ho':OpR X (compareOp op') r')(hr:OkR X.kw r (pE X.kw) f)(hr':OkR X.kw r' (pE X.kw) f')(ha:DR X B a ga)(hb:DR X B b gb)(hc:DR X B c gc')
  (hm:lastMarks [op,op'] [b,c]=false:=by with_unfolding_all rfl):DT X B (.Compare a [op,op'] [b,c] pos) (gb' (g3 f f' ga gb gc')) :=
 vK (zas ho ho' ha hb hc hm) λσ H Q ⟨F,Z,c,rr,hg,k⟩=>by
  unfold gb' at hg
  cases q:g3 f f' ga gb gc' Z with
  |none=>rw[q] at hg;cases hg
  |some d=>
   rw[q] at hg
   rw[Zb (show asB d=some c from hg)] at q
   exact Jc hr hr' ⟨F,Z,_,rr,q,λv F' H' e p=>⟨c,p,k F' H' e⟩⟩
def gNil:EnvD->Option (List D):=λ_=>some []
def gCons' (g:EnvD->Option D)(gs:EnvD->Option (List D)):EnvD->Option (List D):=λZ=>(g Z).bind λd=>(gs Z).bind λds=>some (d::ds)
variable {g:EnvD->Option D}{gs:EnvD->Option (List D)}
theorem zx:DAs X B [] gNil:=ye yz λσ H Q ⟨F,Z,ds,r,hg,k⟩=>by cases hg;exact k [] F H (.refl r.fh) .nil
theorem zA:DRs X B [] gNil:=ye yz λσ H Q ⟨F,Z,ds,r,hg,k⟩=>by cases hg;exact k [] F H (.refl r.fh) .nil
theorem bind2 {α β γ:Type}{o:Option α}{p:Option β}{f:α->β->Option γ}{z:γ}(h:(o.bind λx=>p.bind λy=>f x y)=some z):∃x y,o=some x/\p=some y/\f x y=some z:=by
 cases o with
 |none=>cases h
 |some x=>
  cases p with
  |none=>cases h
  |some y=>exact⟨x,y,rfl,rfl,h⟩
theorem zj (ha:DE X B e g)(hr:DAs X B es gs)(hs:starEach (e::es) X.env=(false,eval e X.env)::starEach es X.env:=by rfl):DAs X B (e::es) (gCons' g gs) :=
 ye (zO ha hr hs) λσ H Q ⟨F,Z,ds,r,hg,k⟩=>by
  obtain⟨d,dr,q1,q2,q3⟩:=bind2 hg
  cases q3
  exact⟨F,Z,d,r,q1,λv F1 H1 e1 p1=>⟨F1,Z,dr,r.ext e1,q2,λvs F2 H2 e2 p2=>k _ F2 H2 (e1.trans e2) (.cons (Rp.mono e2.ff p1) p2)⟩⟩
theorem z6 (ha:DR X B e g)(hr:DRs X B es gs)(hs:starEach (e::es) X.env=(false,eval e X.env)::starEach es X.env:=by rfl):DRs X B (e::es) (gCons' g gs) :=
 ye (zO ha hr hs) λσ H Q ⟨F,Z,ds,r,hg,k⟩=>by
  obtain⟨d,dr,q1,q2,q3⟩:=bind2 hg
  cases q3
  exact⟨F,Z,d,r,q1,λv F1 H1 e1 p1=>⟨F1,Z,dr,r.ext e1,q2,λvs F2 H2 e2 p2=>k _ F2 H2 (e1.trans e2) (.cons (p1.mono e2.ff e2.hh) p2)⟩⟩
theorem ju {K:KW}{F:Hp}:∀ {ds:List D} {vs:List V},Paired (λd v=>Rp K F d v) ds vs->Rps K F ds vs
 |_,_,.nil=>rfl
 |_,_,.cons r t=>⟨_,_,rfl,r,ju t⟩
def gTup' (gs:EnvD->Option (List D)):EnvD->Option D:=λZ=>(gs Z).bind λds=>if ds.length<=TOP then some (.tup ds) else none
def gLst (gs:EnvD->Option (List D)):EnvD->Option (List D):=λZ=>(gs Z).bind λds=>if ds.length<=TOP then some ds else none
theorem zS {x1}(h:DAs X B es gs):DE X B (.Tuple es x1 pos) (gTup' gs) :=
 zo (YW h) λσ H Q ⟨F,Z,d,r,hg,k⟩=>by
  unfold gTup' at hg
  cases q:gs Z with
  |none=>rw[q] at hg;cases hg
  |some ds=>
   rw[q] at hg
   have hg:(if ds.length<=TOP then some (D.tup ds) else none)=some d:=hg
   split at hg
   ·rename_i hc
    cases hg
    refine⟨F,Z,ds,r,q,λvs F1 H1 e1 p1=>⟨yf (by rw[<-(ju p1).length];exact hc),λp hp=>?_⟩⟩
    exact k _ (upd F1 p (.tup vs)) _ (e1.trans (.newF e1.fh hp)) ⟨p,vs,rfl,zr,(ju p1).mono (zX (e1.fh.free hp))⟩
   ·cases hg
theorem zE (h:DAs X B es gs):DA X B (.List es pos) (gLst gs) :=
 zo (zfq h) λσ H Q ⟨F,Z,d,r,hg,k⟩=>by
  unfold gLst at hg
  cases q:gs Z with
  |none=>rw[q] at hg;cases hg
  |some ds=>
   rw[q] at hg
   have hg:(if ds.length<=TOP then some ds else none)=some d:=hg
   split at hg
   ·rename_i hc
    cases hg
    refine⟨F,Z,_,r,q,λvs F1 H1 e1 p1=>⟨yf (by rw[<-(ju p1).length];exact hc),λp hp=>?_⟩⟩
    exact k _ F1 _ (e1.trans (.new e1.fh hp)) ⟨p,vs,rfl,e1.hh.free hp,zr,e1.fh.free hp,ju p1⟩
   ·cases hg
def lO (K:KW)(B:Bs)(g:EnvD->Option (Option Int)):TO:=λσ H Q=>∃F Z i,Rep K B F σ H Z/\g Z=some i/\∀F' H',Ext F H F' H'->Q i H'
def DO (X:Cx)(B:Bs)(e:Option Expr)(g:EnvD->Option (Option Int)):Prop:=PO X e (lO X.kw B g)
theorem Jf {e:Option Expr}{t t':TO}(h:PO X e t)(k:∀σ H Q,t' σ H Q->t σ H Q):PO X e t':=λpins s σ H Q I q=>h pins s σ H Q I (k σ H Q q)
def gNone:EnvD->Option (Option Int):=λ_=>some none
theorem ya:DO X B none gNone:=Jf G6 λσ H Q ⟨F,Z,i,r,hg,k⟩=>by cases hg;exact k F H (.refl r.fh)
def asI:D->Option Int
 |.int i=>some i
 |_=>none
theorem Q6 {d:D}{i:Int}(h:asI d=some i):d=.int i:=by cases d<;>cases h;rfl
def gSome (g:EnvD->Option D):EnvD->Option (Option Int):=λZ=>(g Z).bind λd=>(asI d).map some
theorem zP (h:DR X B e g):DO X B (some e) (gSome g):=Jf (Rz h) λσ H Q ⟨F,Z,i,r,hg,k⟩=>by
 unfold gSome at hg
 cases q:g Z with
 |none=>rw[q] at hg;cases hg
 |some d=>
  rw[q] at hg
  cases q2:asI d with
  |none=>rw[show (some d).bind (λd=>(asI d).map some)=(asI d).map some from rfl,q2] at hg;cases hg
  |some j=>
   rw[show (some d).bind (λd=>(asI d).map some)=(asI d).map some from rfl,q2] at hg
   cases hg
   rw[Q6 q2] at q
   exact⟨F,Z,_,r,q,λv F1 H1 e1 p1=>⟨j,p1.int,k F1 H1 e1⟩⟩
def cutD {α:Type}(xs:List α)(lo hi:Option Int):List α:=(xs.drop (HT.sIx xs.length 0 lo)).take (HT.sIx xs.length xs.length hi - HT.sIx xs.length 0 lo)
def gSl (g:EnvD->Option D)(gl gh:EnvD->Option (Option Int)):EnvD->Option (List D):=λZ=>(g Z).bind λd=>(gl Z).bind λl=>(gh Z).bind λh=>match d with
 |.lst ds=>some (cutD ds l h)
 |_=>none
theorem yh {lo hi:Option Expr}{gl gh:EnvD->Option (Option Int)}{p2:Pos}(he:DR X B e g)(hl:DO X B lo gl)(hh:DO X B hi gh):DA X B (.Subscript e (.Slice lo hi none p2) pos) (gSl g gl gh) :=
 zo (WZ Uk he hl hh) λσ H Q ⟨F,Z,d,r,hg,k⟩=>by
  unfold gSl at hg
  cases q:g Z with
  |none=>rw[q] at hg;cases hg
  |some x=>
   cases ql:gl Z with
   |none=>rw[q,ql] at hg;cases hg
   |some l=>
    cases qh:gh Z with
    |none=>rw[q,ql,qh] at hg;cases hg
    |some h=>
     rw[q,ql,qh] at hg
     cases x with
     |lst ds=>
      cases hg
      refine⟨F,Z,_,r,q,λv F1 H1 e1 p1=>⟨F1,Z,l,r.ext e1,ql,λF2 H2 e2=>⟨F2,Z,h,r.ext (e1.trans e2),qh,λF3 H3 e3=>?_⟩⟩⟩
      have e:=e1.trans (e2.trans e3)
      obtain⟨a,vs,rfl,h1,h2⟩:=((p1.mono e2.ff e2.hh).mono e3.ff e3.hh).lst e3.fh
      refine⟨a,vs,rfl,.of h1,λp hp=>k _ F3 _ (e.trans (.new e.fh hp)) ⟨p,_,rfl,e.hh.free hp,zr,e.fh.free hp,?_⟩⟩
      unfold cutD cutV
      rw[<-h2.length]
      exact (h2.drop _).take _
     |_=>cases hg
def CallOk {γ:Type}(K:KW)(r:List V->Hp->VK->Prop)(pc:Post γ)(f:List D->Option γ):Prop :=
 ∀F H vs ds d Q,Same F H->Paired (λd v=>Rq K F H d v) ds vs->f ds=some d->(∀v F' H',Ext F H F' H'->pc F H F' H' d v->Q v H')->r vs H Q
def gB {γ:Type}(f:List D->Option γ)(gs:EnvD->Option (List D)):EnvD->Option γ:=λZ=>(gs Z).bind f
theorem callB {γ:Type}{r:List V->Hp->VK->Prop}{pc:Post γ}{f:List D->Option γ}(hb:Back pc)(hr:CallOk X.kw r pc f){σ:St}{H:Hp}{Q:VK}(h:lG X.kw B pc (gB f gs) σ H Q):tCB r (lAs X.kw B (pR X.kw) gs) σ H Q:=by
 obtain⟨F,Z,d,rr,hg,k⟩:=h
 unfold gB at hg
 cases q:gs Z with
 |none=>rw[q] at hg;cases hg
 |some ds=>
  rw[q] at hg
  exact⟨F,Z,ds,rr,q,λvs F1 H1 e1 p1=>hr F1 H1 vs ds d Q e1.fh p1 hg λv F' H' e p=>k v F' H' (e1.trans e) (hb _ _ _ _ _ _ _ _ e1 p)⟩
variable {x:Str}{p:Pos}{id T:String}
theorem qK {r:List V->Hp->VK->Prop}{f:List D->Option D}(hc:CallR X (.builtin id) r)(hr:CallOk X.kw r (pE X.kw) f)(hg:Gl X x)(hm:X.mg x=none)(hv:bootBuiltins x=some (.builtin id))(ha:DRs X B (e::es) gs)(hn:x ≠ "__name__" := by decide) (hdb:#[8]=false:=by decide)
  (he:starEach (e::es) X.env=(false,eval e X.env)::starEach es X.env:=by rfl) (hpl:#[11].any (·.1)=false:=by rfl):DE X B #[12] (gB f gs) :=
 zo (ua hc hg hm hv ha hn hdb he hpl) λσ H Q h=>callB wG hr h
theorem zcm {r:List V->Hp->VK->Prop}{f:List D->Option (List D)}(hc:CallR X (.type T) r)(hr:CallOk X.kw r (pA X.kw) f)(hg:Gl X x)(hm:X.mg x=none)(hv:bootBuiltins x=some (.type T))(ha:DRs X B (e::es) gs)(hn:x ≠ "__name__" := by decide) (hdb:#[8]=false:=by decide)
  (he:starEach (e::es) X.env=(false,eval e X.env)::starEach es X.env:=by rfl) (hpl:#[11].any (·.1)=false:=by rfl):DA X B #[12] (gB f gs) :=
 zo (uZ hc hg hm hv ha hn hdb he hpl) λσ H Q h=>callB VS hr h
theorem ze6 {r:List V->Hp->VK->Prop}{f:List D->Option D}(hc:CallR X (.type T) r)(hr:CallOk X.kw r (pE X.kw) f)(hg:Gl X x)(hm:X.mg x=none)(hv:bootBuiltins x=some (.type T))(ha:DRs X B (e::es) gs)(hn:x ≠ "__name__" := by decide) (hdb:#[8]=false:=by decide)
  (he:starEach (e::es) X.env=(false,eval e X.env)::starEach es X.env:=by rfl) (hpl:#[11].any (·.1)=false:=by rfl):DE X B #[12] (gB f gs) :=
 zo (uZ hc hg hm hv ha hn hdb he hpl) λσ H Q h=>callB wG hr h
def fLen:List D->Option D
 | [.lst ds]=>some (.int ds.length)
 | [.tup ds]=>some (.int ds.length)
 | [.scr ns]=>some (.int ns.length)
 | [.str x]=>if x.length<=TOP then some (.int x.length) else none
 |_=>none
theorem pair1 {R:D->V->Prop}{d:D}{vs:List V}(h:Paired R [d] vs):∃v,vs=[v]/\R d v:=by
 cases h with
 |cons r t=>cases t;exact⟨_,rfl,r⟩
theorem pair2 {R:D->V->Prop}{d d':D}{vs:List V}(h:Paired R [d,d'] vs):∃v v',vs=[v,v']/\R d v/\R d' v':=by
 cases h with
 |cons r t=>
  obtain⟨v',rfl,r'⟩:=pair1 t
  exact⟨_,v',rfl,r,r'⟩
theorem UE {K:KW}:CallOk K (λxs H Q=>∃x n,xs=[x]/\LenV K x H n/\Q (.int n) H) (pE K) fLen:=by
 intro F H vs ds d Q s hp e k
 unfold fLen at e
 split at e
 ·cases e
  obtain⟨v,rfl,r⟩:=pair1 hp
  obtain⟨a,ws,rfl,h1,h2⟩:=r.lst s
  exact⟨_,_,rfl,.inl ⟨ws,.of h1,h2.length⟩,k _ F H (.refl s) rfl⟩
 ·cases e
  obtain⟨v,rfl,r⟩:=pair1 hp
  obtain⟨a,ws,rfl,h1,h2⟩:=r.tup s
  exact⟨_,_,rfl,.inr ⟨ws,.of h1,h2.length⟩,k _ F H (.refl s) rfl⟩
 ·cases e
  obtain⟨v,rfl,r⟩:=pair1 hp
  obtain⟨a,rfl,h1⟩:=r.scr s
  exact⟨_,_,rfl,.inl ⟨_,h1,by simp⟩,k _ F H (.refl s) rfl⟩
 ·split at e
  ·rename_i hc
   cases e
   obtain⟨v,rfl,r⟩:=pair1 hp
   cases r.str
   exact⟨_,_,rfl,⟨yf hc,rfl⟩,k _ F H (.refl s) rfl⟩
  ·cases e
 ·cases e
def fMax:List D->Option D
 | [.int i,.int j]=>some (.int (if j > i then j else i))
 |_=>none
def fMin:List D->Option D
 | [.int i,.int j]=>some (.int (if j < i then j else i))
 |_=>none
theorem K1 {K:KW}:CallOk K (λxs H Q=>∃i j,xs=[.int i,.int j]/\Q (.int (if j > i then j else i)) H) (pE K) fMax:=by
 intro F H vs ds d Q s hp e k
 unfold fMax at e
 split at e
 ·cases e
  obtain⟨v,v',rfl,r,r'⟩:=pair2 hp
  cases r.int;cases r'.int
  exact⟨_,_,rfl,k _ F H (.refl s) rfl⟩
 ·cases e
theorem zcb {K:KW}:CallOk K (λxs H Q=>∃i j,xs=[.int i,.int j]/\Q (.int (if j < i then j else i)) H) (pE K) fMin:=by
 intro F H vs ds d Q s hp e k
 unfold fMin at e
 split at e
 ·cases e
  obtain⟨v,v',rfl,r,r'⟩:=pair2 hp
  cases r.int;cases r'.int
  exact⟨_,_,rfl,k _ F H (.refl s) rfl⟩
 ·cases e
end
section
variable {X:Cx}{B:Bs}{e a b c:Expr}{es:List Expr}{pos p p2:Pos}{g ga gb:EnvD->Option D}{gs:EnvD->Option (List D)}
def tyD:D->Option String
 |.non=>some "NoneType"
 |.bl _=>some "bool"
 |.int _=>some "int"
 |.str _=>some "str"
 |.lst _=>some "list"
 |.tup _=>some "tuple"
 |.scr _=>none
 |.obj _ _ _=>none
 |.emp=>some "dict"
def subT (t T:String):Option Bool:=if t=T then some true else if t = "bool" /\ T = "int" then some true else if (t∈["NoneType","bool","int","str","list","tuple","dict"])/\(T∈["bool","int","str","list","tuple","dict"]) then some false else none
theorem KI {K:KW}{F H:Hp}(s:Same F H){d:D}{v:V}{t:String}(r:Rq K F H d v)(h:tyD d=some t):TyOf K H v (.type t):=by
 cases d with
 |non=>cases r.non;cases h;exact .non
 |bl x=>cases r.bl;cases h;exact .bl x
 |int x=>cases r.int;cases h;exact .int x
 |str x=>cases r.str;cases h;exact .str x
 |lst ds=>obtain⟨a,vs,rfl,q,_⟩:=r.lst s;cases h;exact .lst q
 |tup ds=>obtain⟨a,vs,rfl,q,_⟩:=r.tup s;cases h;exact .tup q
 |scr ns=>cases h
 |obj C f ds=>cases h
 |emp=>obtain⟨a,rfl,q⟩:=r.one λ_ z=>(nomatch z);cases h;exact .dK (s _ _ q)
def gIs (T:String)(g:EnvD->Option D):EnvD->Option D:=λZ=>(g Z).bind λd=>(tyD d).bind λt=>(subT t T).map D.bl
theorem zbz {T:String}(hk:∀t b,subT t T=some b->kitOne X.kw (.type t) (.type T)=some b) :
  CallR X (.builtin "isinstance") (λxs H Q=>∃x t b,xs=[x,.ty T]/\TyOf X.kw H x (.type t)/\subT t T=some b/\Q (.bl b) H):=by
 intro pins s σ H vs us Q I r h
 obtain⟨x,t,b,rfl,ty,hb,q⟩:=h
 obtain⟨u,w,rfl,ru,rw'⟩:=vals2 r
 cases rw'
 exact QZ I ru ty (hk t b hb) λtk=>⟨.bl b,H,I.tok tk,rfl,q⟩
theorem vo {T:String}{x:Str}(hk:∀t b,subT t T=some b->kitOne X.kw (.type t) (.type T)=some b)(hg:Gl X "isinstance") (hm:X.mg "isinstance" = none) (hgT:Gl X x) (hmT:X.mg x=none) (hvT:bootBuiltins x=some (.type T)) (ha:DR X B a g)
  (hnT:x ≠ "__name__" := by decide) (hdT:#[8]=false:=by decide)
  (he:starEach [a,.Name x p2] X.env=(false,eval a X.env)::starEach [.Name x p2] X.env:=by rfl) (he2:starEach [.Name x p2] X.env=(false,eval (.Name x p2) X.env)::starEach [] X.env:=by rfl) (hpl:(backTo pos (starEach [.Name x p2] X.env)).any (·.1)=false:=by rfl) :
  DE X B (.Call (.Name "isinstance" p) [a,.Name x p2] [] pos) (gIs T g) :=
 zo (ua (zbz (T:=T) hk) hg hm #[6] (zO ha (zO (QU hgT hmT hvT (v:=.ty T) rfl hnT hdT) yz he2) he) (by decide) (by decide) he hpl) λσ H Q ⟨F,Z,d,r,hg,k⟩=>by
  unfold gIs at hg
  cases q:g Z with
  |none=>rw[q] at hg;cases hg
  |some x=>
   rw[q] at hg
   have hg:((tyD x).bind λt=>(subT t T).map D.bl)=some d:=hg
   cases q2:tyD x with
   |none=>rw[q2] at hg;cases hg
   |some t=>
    rw[q2] at hg
    have hg:(subT t T).map D.bl=some d:=hg
    cases q3:subT t T with
    |none=>rw[q3] at hg;cases hg
    |some y=>
     rw[q3] at hg
     cases hg
     exact⟨F,Z,x,r,q,λv F1 H1 e1 p1=>⟨v,t,y,rfl,KI e1.fh p1 q2,q3,k _ F1 H1 e1 rfl⟩⟩
theorem zaz (hc:X.calm=true):CallR X (.builtin "all") (λxs H Q=>∃(a:Addr) (bs:List Bool),xs=[.ref a]/\SqL X.kw H a (bs.map V.bl)/\Q (.bl (bs.all λx=>x)) H):=by
 intro pins s σ H vs us Q I r h
 obtain⟨a,bs,rfl,hq,q⟩:=h
 obtain⟨u,rfl,ru⟩:=vals1 r
 cases ru
 obtain⟨its,rv,pl,hz⟩:=I.list hq
 have hlt:a < s.heap.objs.size:=let ⟨o,n,e,_⟩:=pl;Heap.lt_size e
 have hl:bs.length=its.length:=by have:=rv.length;simpa using this
 refine call_all_walk (wpAny_pyIter_list pl.isList ⟨s.heap.objs.size,_,_,_,_,_,λi=>bs.getD i false,rfl,Walks.list (A:=X.A.in1) (I.ok.hd hc) s.heap.objs.size a (Nat.ne_of_lt hlt) its.toArray,⟨⟨_,Heap.get?_push_size _ rfl,rfl,rfl⟩,?_⟩,?_,λh' tk hk=>?_⟩)
 ·obtain⟨o,n,e,c1,c2,c3⟩:=pl
  exact⟨o,Heap.get?_push_of_some _ e,c1,n,c3⟩
 ·intro i v s' Q' E' hv hq'
  have hv:its[i]?=some v:=by simpa using hv
  have hi:i < bs.length:=by rw[hl];exact (List.getElem?_eq_some_iff.mp hv).1
  have hb:(bs.map V.bl)[i]?=some (.bl bs[i]):=by simp[hi]
  obtain⟨u,hu,ru⟩:=rv.get hb
  rw[hv] at hu;cases hu
  cases ru
  have e:bs.getD i false=bs[i]:=by simp[List.getD,hi]
  have hq':Q' (bs.getD i false) s':=hq'
  rw[e] at hq'
  exact wpAny_truthy_bool hq'
 ·have e:((List.range its.toArray.size).all λi=>bs.getD i false)=bs.all λx=>x:=by
   rw[List.size_toArray,<-hl,Bool.eq_iff_iff]
   simp only[List.all_eq_true,List.mem_range]
   constructor
   ·intro h x hx
    obtain⟨i,hi,e⟩:=List.mem_iff_getElem.mp hx
    have:=h i hi
    simpa[List.getD,hi,e] using this
   ·intro h i hi
    have:=h bs[i] (List.getElem_mem hi)
    simpa[List.getD,hi] using this
  rw[e]
  refine⟨.bl (bs.all λx=>x),H,I.kept (t':=tk) λb o e=>hk b o (λz=>?_) (Heap.get?_push_of_some _ e),rfl,q⟩
  have:b=s.heap.objs.size:=by simpa using z
  exact absurd (Heap.lt_size e) (by rw[this];exact Nat.lt_irrefl _)
def asBs:List D->Option (List Bool)
 | []=>some []
 |.bl b::r=>(asBs r).map (b::·)
 |_=>none
theorem VE {K:KW}{F:Hp}:∀ {ds:List D} {vs:List V} {bs:List Bool},asBs ds=some bs->Rps K F ds vs->vs=bs.map V.bl
 | [],_,_,e,h=>by cases e;cases h;rfl
 |.bl b::r,_,_,e,⟨v,w,e1,h,t⟩=>by
  subst e1;cases h
  cases q:asBs r with
  |none=>rw[show asBs (.bl b::r)=(asBs r).map (b::·) from rfl,q] at e;cases e
  |some bs=>
   rw[show asBs (.bl b::r)=(asBs r).map (b::·) from rfl,q] at e
   cases e
   rw[VE q t];rfl
 |.non::_,_,_,e,_=>by cases e
 |.int _::_,_,_,e,_=>by cases e
 |.str _::_,_,_,e,_=>by cases e
 |.lst _::_,_,_,e,_=>by cases e
 |.tup _::_,_,_,e,_=>by cases e
 |.scr _::_,_,_,e,_=>by cases e
 |.obj _ _ _::_,_,_,e,_=>by cases e
 |.emp::_,_,_,e,_=>by cases e
def fAll:List D->Option D
 | [.lst ds]=>(asBs ds).map λbs=>.bl (bs.all λx=>x)
 |_=>none
theorem QP {K:KW}:CallOk K (λxs H Q=>∃(a:Addr) (bs:List Bool),xs=[.ref a]/\SqL K H a (bs.map V.bl)/\Q (.bl (bs.all λx=>x)) H) (pE K) fAll:=by
 intro F H vs ds d Q s hp e k
 unfold fAll at e
 split at e
 ·rename_i ds
  obtain⟨v,rfl,r⟩:=pair1 hp
  obtain⟨a,ws,rfl,h1,h2⟩:=r.lst s
  cases q:asBs ds with
  |none=>rw[q] at e;cases e
  |some bs=>
   rw[q] at e
   cases e
   have:=VE q h2
   subst this
   exact⟨a,bs,rfl,.of h1,k _ F H (.refl s) rfl⟩
 ·cases e
theorem RI:CallR X (.type "list") (λxs H Q=>∃a vs,xs=[.ref a]/\(SqL X.kw H a vs∨SqT X.kw H a vs)/\∀p,H p=none->Q (.ref p) (upd H p (.lst vs))):=by
 intro pins s σ H vs us Q I r h
 obtain⟨a,ws,rfl,hq,q⟩:=h
 obtain⟨u,rfl,ru⟩:=vals1 r
 cases ru
 have fin:∀ {T:String} {o:Obj} {its:List Value} {n:Nat},(T = "list" ∨ T = "tuple")->s.heap.get? a=some o->o.cls=.type T->o.data=.seq its.toArray n->Vals ws its->ws.length<=sizeLine->wpAny #[4] X.A (call (.type "list") [.ref a]) (EP X pins σ Q) X.xe s:=by
  intro T o its n hT ho hc hd rv hz
  have hl:=rv.length
  refine call_list_seq a hT ho hc hd (λh' c' hk hn=>?_) (by rw[List.size_toArray,<-hl];exact hz)
  exact⟨.ref s.heap.objs.size,upd H s.heap.objs.size (.lst ws),I.laid (t':=s.toks) hk (Nat.le_refl _) ⟨hz,its,c',rv,hn⟩,rfl,q _ (I.hok.fresh (Nat.le_refl _))⟩
 rcases hq with hq | hq
 ·obtain⟨its,rv,⟨o,n,e,c1,c2,c3⟩,hz⟩:=I.list hq
  exact fin (.inl rfl) e c1 c3 rv hz
 ·obtain⟨its,rv,⟨o,e,c1,n,c3⟩,hz⟩:=I.tuple hq
  exact fin (.inr rfl) e c1 c3 rv hz
def fList:List D->Option (List D)
 | [.lst ds]=>some ds
 | [.tup ds]=>some ds
 | [.scr ns]=>some (ns.map D.int)
 |_=>none
theorem zen {K:KW}:CallOk K (λxs H Q=>∃a vs,xs=[.ref a]/\(SqL K H a vs∨SqT K H a vs)/\∀p,H p=none->Q (.ref p) (upd H p (.lst vs))) (pA K) fList:=by
 intro F H vs ds d Q s hp e k
 unfold fList at e
 split at e
 ·cases e
  obtain⟨v,rfl,r⟩:=pair1 hp
  obtain⟨a,ws,rfl,h1,h2⟩:=r.lst s
  exact⟨a,ws,rfl,.inl (.of h1),λp hp=>k _ F _ (.new s hp) ⟨p,ws,rfl,hp,zr,s.free hp,h2⟩⟩
 ·cases e
  obtain⟨v,rfl,r⟩:=pair1 hp
  obtain⟨a,ws,rfl,h1,h2⟩:=r.tup s
  exact⟨a,ws,rfl,.inr (.of h1),λp hp=>k _ F _ (.new s hp) ⟨p,ws,rfl,hp,zr,s.free hp,h2⟩⟩
 ·cases e
  obtain⟨v,rfl,r⟩:=pair1 hp
  obtain⟨a,rfl,h1⟩:=r.scr s
  exact⟨a,_,rfl,.inl h1,λp hp=>k _ F _ (.new s hp) ⟨p,_,rfl,hp,zr,s.free hp,Rps.ints _⟩⟩
 ·cases e
def ArgE (K:KW)(F H:Hp):En->V->Prop
 |.val d,v=>Rp K F d v
 |.bor ds,v=>∃a vs,v=.ref a/\H a=some (.lst vs)/\Rps K F ds vs
 |.dbo kvs,v=>∃a ob vs,v=.ref a/\H a=some (DX K.w a ob vs)/\Rkv K F kvs vs
 |.exn a,v=>v=.ref a
 |_,_=>False
theorem ArgE.ext {K:KW}{F H F' H':Hp}(e:Ext F H F' H'):∀ {x:En} {v:V},ArgE K F H x v->ArgE K F' H' x v
 |.val _,_,h=>Rp.mono e.ff h
 |.bor _,_,⟨a,vs,e1,e2,e3⟩=>⟨a,vs,e1,e.hh _ _ e2,e3.mono e.ff⟩
 |.acc _,_,h=>h
 |.oac _ _ _ _ _,_,h=>h
 |.tre _,_,h=>h
 |.dct _ _,_,h=>h
 |.dbo _,_,⟨a,ob,vs,e1,e2,e3⟩=>⟨a,ob,vs,e1,e.hh _ _ e2,e3.mono e.ff⟩
 |.exn _,_,h=>h
def pN (K:KW):Post En:=λ_ _ F' H' x v=>ArgE K F' H' x v
def DN (X:Cx)(B:Bs)(e:Expr)(g:EnvD->Option En):Prop:=PE X e (lG X.kw B (pN X.kw) g)
def lNs (K:KW)(B:Bs)(g:EnvD->Option (List En)):TA:=λσ H Q=>
 ∃F Z xs,Rep K B F σ H Z/\g Z=some xs/\∀vs F' H',Ext F H F' H'->Paired (λx v=>ArgE K F' H' x v) xs vs->Q vs H'
def DNs (X:Cx)(B:Bs)(es:List Expr)(g:EnvD->Option (List En)):Prop:=PA X es (lNs X.kw B g)
def gVal (g:EnvD->Option D):EnvD->Option En:=λZ=>(g Z).map En.val
theorem zq (h:DE X B e g):DN X B e (gVal g):=zo h λσ H Q ⟨F,Z,x,r,hg,k⟩=>by
 unfold gVal at hg
 cases q:g Z with
 |none=>rw[q] at hg;cases hg
 |some d=>rw[q] at hg;cases hg;exact⟨F,Z,d,r,q,λv F' H' e p=>k v F' H' e p⟩
def gn (i:Nat):EnvD->Option En:=λZ=>match Z[i]? with
 |some (some (.val d))=>some (.val d)
 |some (some (.acc ds))=>some (.bor ds)
 |some (some (.bor ds))=>some (.bor ds)
 |some (some (.dct _ kvs))=>some (.dbo kvs)
 |some (some (.dbo kvs))=>some (.dbo kvs)
 |_=>none
theorem zc (i:Nat){x:Str}(h:PE X (.Name x pos) (tVar i)):DN X B (.Name x pos) (gn i) :=
 zo h λσ H Q ⟨F,Z,d,r,hg,k⟩=>by
  unfold gn at hg
  split at hg
  ·rename_i d' e
   cases hg
   obtain⟨v,h1,h2⟩:=r.ents i _ e
   exact⟨v,h1,k v F H (.refl r.fh) h2⟩
  ·rename_i ds e
   cases hg
   obtain⟨v,h1,a,vs,e1,e2,e3,e4,e5⟩:=r.ents i _ e
   exact⟨v,h1,k v F H (.refl r.fh) ⟨a,vs,e1,e2,e5⟩⟩
  ·rename_i ds e
   cases hg
   obtain⟨v,h1,a,vs,e1,e2,e5⟩:=r.ents i _ e
   exact⟨v,h1,k v F H (.refl r.fh) ⟨a,vs,e1,r.ex.hh _ _ e2,e5⟩⟩
  ·rename_i oa kvs e
   cases hg
   obtain⟨v,h1,a,ob,vs,e1,e2,e3,e4,e5,e6⟩:=r.ents i _ e
   exact⟨v,h1,k v F H (.refl r.fh) ⟨a,ob,vs,e1,e2,e5⟩⟩
  ·rename_i kvs e
   cases hg
   obtain⟨v,h1,a,ob,vs,e1,e2,e5⟩:=r.ents i _ e
   exact⟨v,h1,k v F H (.refl r.fh) ⟨a,ob,vs,e1,r.ex.hh _ _ e2,e5⟩⟩
  ·cases hg
def nNil:EnvD->Option (List En):=λ_=>some []
def nCons (g:EnvD->Option En)(gs:EnvD->Option (List En)):EnvD->Option (List En):=λZ=>(g Z).bind λd=>(gs Z).bind λds=>some (d::ds)
variable {gx:EnvD->Option En}{gxs:EnvD->Option (List En)}
theorem zi:DNs X B [] nNil:=ye yz λσ H Q ⟨F,Z,ds,r,hg,k⟩=>by cases hg;exact k [] F H (.refl r.fh) .nil
theorem zb (ha:DN X B e gx)(hr:DNs X B es gxs)(hs:starEach (e::es) X.env=(false,eval e X.env)::starEach es X.env:=by rfl):DNs X B (e::es) (nCons gx gxs) :=
 ye (zO ha hr hs) λσ H Q ⟨F,Z,ds,r,hg,k⟩=>by
  obtain⟨d,dr,q1,q2,q3⟩:=bind2 hg
  cases q3
  exact⟨F,Z,d,r,q1,λv F1 H1 e1 p1=>⟨F1,Z,dr,r.ext e1,q2,λvs F2 H2 e2 p2=>k _ F2 H2 (e1.trans e2) (.cons (ArgE.ext e2 p1) p2)⟩⟩
def pSp (K:KW)(n:Nat)(m:List En->Option En):Sp:=λvs H Q _=>
 ∃F xs o,Same F H/\xs.length=n/\Paired (λx v=>ArgE K F H x v) xs vs/\m xs=some o/\∀v F' H',Ext F H F' H'->RepE K ⟨F,H⟩ F' H' o v->Q v H'
def frzO:En->Option D
 |.val d=>some d
 |.acc ds=>some (.lst ds)
 |.tre t=>some t.erase
 |_=>none
def accO:En->Option (List D)
 |.acc ds=>some ds
 |_=>none
theorem VO {K:KW}{F H F' H':Hp}{o:En}{d:D}{v:V}(hd:frzO o=some d)(e:Ext F H F' H')(r:RepE K ⟨F,H⟩ F' H' o v):∃F2,Ext F H F2 H'/\Rp K F2 d v:=by
 cases o with
 |val x=>cases hd;exact⟨F',e,r⟩
 |acc ds=>
  cases hd
  obtain⟨a,vs,rfl,h1,h2,h3,h4⟩:=r
  exact⟨upd F' a (.lst vs),e.freeze h3 h2 h1,⟨a,vs,rfl,zr,h4.mono (zX h2)⟩⟩
 |tre t=>
  cases hd
  obtain⟨r1,r2,r3⟩:=r
  have sf:Same F' (addF F' H' (feetO H' t v)):=jy λa ha=>(r3 a ha).1
  refine⟨addF F' H' (feetO H' t v),⟨e.ff.trans sf,e.hh,λb u q=>?_,λb q=>?_⟩,RepO.fz sf r1 λa ha=>ha⟩
  ·unfold addF at q
   split at q
   ·exact q
   ·exact e.fh b u q
  ·unfold addF at q
   split at q
   ·rename_i hb;exact .inr (r3 b hb).2
   ·exact e.nw b q
 |_=>cases hd
def gCall {α:Type}(m:List En->Option En)(f:En->Option α)(gs:EnvD->Option (List En)):EnvD->Option α:=λZ=>((gs Z).bind m).bind f
theorem bindC {α:Type}{m:List En->Option En}{f:En->Option α}{gs:EnvD->Option (List En)}{Z:EnvD}{y:α}(h:gCall m f gs Z=some y):∃xs o,gs Z=some xs/\m xs=some o/\f o=some y:=by
 unfold gCall at h
 cases q:gs Z with
 |none=>rw[q] at h;cases h
 |some xs=>
  rw[q] at h
  cases q2:m xs with
  |none=>rw[show (some xs).bind m=m xs from rfl,q2] at h;cases h
  |some o=>rw[show (some xs).bind m=m xs from rfl,q2] at h;exact⟨xs,o,rfl,q2,h⟩
theorem wB {α β:Type}{R:α->β->Prop}{l:List α}{r:List β}(h:Paired R l r):l.length=r.length:=Paired.length h
theorem KK {n:Nat}{m:List En->Option En}(hm:∀xs o,m xs=some o->xs.length=n){E:XK}{σ:St}{H:Hp}{Q:VK}(h:lG X.kw B (pE X.kw) (gCall m frzO gxs) σ H Q):tCall (pSp X.kw n m) [] E (lNs X.kw B gxs) σ H Q:=by
 obtain⟨F,Z,d,r,hg,k⟩:=h
 obtain⟨xs,o,q1,q2,q3⟩:=bindC hg
 refine⟨F,Z,xs,r,q1,λvs F1 H1 e1 p1=>?_⟩
 show pSp X.kw n m (vs++[]) H1 Q E
 rw[List.append_nil]
 refine⟨F1,xs,o,e1.fh,hm xs o q2,p1,q2,λv F2 H2 e2 p2=>?_⟩
 obtain⟨F3,e3,p3⟩:=VO q3 e2 p2
 exact k v F3 H2 (e1.trans e3) p3
theorem UK {n:Nat}{m:List En->Option En}(hm:∀xs o,m xs=some o->xs.length=n){E:XK}{σ:St}{H:Hp}{Q:VK}(h:lG X.kw B (pA X.kw) (gCall m accO gxs) σ H Q):tCall (pSp X.kw n m) [] E (lNs X.kw B gxs) σ H Q:=by
 obtain⟨F,Z,d,r,hg,k⟩:=h
 obtain⟨xs,o,q1,q2,q3⟩:=bindC hg
 refine⟨F,Z,xs,r,q1,λvs F1 H1 e1 p1=>?_⟩
 show pSp X.kw n m (vs++[]) H1 Q E
 rw[List.append_nil]
 refine⟨F1,xs,o,e1.fh,hm xs o q2,p1,q2,λv F2 H2 e2 p2=>?_⟩
 cases o with
 |acc ds=>
  cases q3
  obtain⟨a,ws,h1,h2,h3,h4,h5⟩:=p2
  exact k v F2 H2 (e1.trans e2) ⟨a,ws,h1,e1.hh.free h4,h2,h3,h5⟩
 |_=>cases q3
def len? (n:Nat)(m:List En->Option En):List En->Option En:=λxs=>if xs.length=n then m xs else none
theorem wt {n:Nat}{m:List En->Option En}:∀xs o,len? n m xs=some o->xs.length=n:=λxs o h=>by
 unfold len? at h
 split at h
 ·assumption
 ·cases h
variable {x mm:Str}{f C:Addr}{fd:FuncData}{ps:List Str}{n k:Nat}{m:List En->Option En}{apos:Pos}{o:Expr}
theorem UX (F:FnOk X.prog X.w X.kw X.mg X.base CX0 k f fd ps (pSp X.kw n (len? n m)))(hr:Room k X.A)(hg:Gl X x)(hm:X.mg x=some (.ref f))(hk:keepIn X.kw (.ref f)=true)(hb:Binds X.kw fd ps [])
  (ha:DNs X B (e::es) gxs) (hdb:#[8]=false:=by decide) (he:starEach (e::es) X.env=(false,eval e X.env)::starEach es X.env:=by rfl) (hpl:#[11].any (·.1)=false:=by rfl) :
  DE X B #[12] (gCall (len? n m) frzO gxs) :=
 zo (jv F hr hg hm hk hb .nil pass0 ha hdb he hpl) λσ H Q h=>KK wt h
theorem K5 (F:FnOk X.prog X.w X.kw X.mg X.base CX0 k f fd ps (pSp X.kw n (len? n m)))(hr:Room k X.A)(hg:Gl X x)(hm:X.mg x=some (.ref f))(hk:keepIn X.kw (.ref f)=true)(hb:Binds X.kw fd ps [])
  (ha:DNs X B (e::es) gxs) (hdb:#[8]=false:=by decide) (he:starEach (e::es) X.env=(false,eval e X.env)::starEach es X.env:=by rfl) (hpl:#[11].any (·.1)=false:=by rfl) :
  DA X B #[12] (gCall (len? n m) accO gxs) :=
 zo (jv F hr hg hm hk hb .nil pass0 ha hdb he hpl) λσ H Q h=>UK wt h
end
def lookZ {α:Type}(f:Str):List Str->List α->Option α
 |k::ks,x::xs=>if f=k then some x else lookZ f ks xs
 |_,_=>none
def putZ {α:Type}(f:Str)(a:α):List Str->List α->List Str×List α
 |k::ks,x::xs=>if k=f then (k::ks,a::xs) else (k::(putZ f a ks xs).1,x::(putZ f a ks xs).2)
 |_,_=>([f],[a])
theorem Zo {α:Type}{f:Str}:∀ {fs:List Str} {vs:List α},(fs.zip vs).lookup f=lookZ f fs vs
 | [],_=>by simp[lookZ]
 |_::_,[]=>by simp[lookZ]
 |k::ks,x::xs=>by
  rw[List.zip_cons_cons,List.lookup_cons]
  by_cases h:f=k
  ·subst h;simp[lookZ]
  ·rw[beq_eq_false_iff_ne.mpr h]
   simp only[lookZ,if_neg h]
   exact Zo
theorem Wg {K:KW}{F:Hp}{f:Str}:∀ {fs:List Str} {ds:List D} {vs:List V} {d:D},Rps K F ds vs->lookZ f fs ds=some d->∃v,lookZ f fs vs=some v/\Rp K F d v
 | [],_,_,_,_,e=>by simp[lookZ] at e
 |_::_,[],_,_,_,e=>by simp[lookZ] at e
 |k::ks,x::xs,_,d,⟨v,r,e1,h,t⟩,e=>by
  subst e1
  simp only[lookZ] at e ⊢
  by_cases hk:f=k
  ·rw[if_pos hk] at e ⊢;cases e;exact⟨v,rfl,h⟩
  ·rw[if_neg hk] at e ⊢;exact Wg t e
theorem YO {f:Str}{v:V}:∀ {fs:List Str} {vs:List V},fs.length=vs.length->putF f v (fs.zip vs)=(putZ f v fs vs).1.zip (putZ f v fs vs).2/\(putZ f v fs vs).1.length=(putZ f v fs vs).2.length
 | [],[],_=>⟨rfl,rfl⟩
 | [],_::_,h=>by simp at h
 |_::_,[],h=>by simp at h
 |k::ks,x::xs,h=>by
  obtain⟨i1,i2⟩:=YO (f:=f) (v:=v) (fs:=ks) (vs:=xs) (by simpa using h)
  rw[List.zip_cons_cons]
  simp only[putF,putZ]
  by_cases hk:k=f
  ·rw[if_pos hk,if_pos hk]
   exact⟨rfl,by simpa using h⟩
  ·rw[if_neg hk,if_neg hk]
   exact⟨by rw[i1];rfl,by simpa using i2⟩
theorem Va {K:KW}{F:Hp}{f:Str}{d:D}{v:V}(hd:Rp K F d v):∀ {fs:List Str} {ds:List D} {vs:List V},fs.length=vs.length->Rps K F ds vs->(putZ f d fs ds).1=(putZ f v fs vs).1/\Rps K F (putZ f d fs ds).2 (putZ f v fs vs).2
 | [],ds,vs,_,r=>by
  cases ds<;>cases vs<;>exact⟨rfl,_,_,rfl,hd,rfl⟩
 |k::ks,[],_,h,r=>by cases r;simp at h
 |k::ks,x::xs,_,h,⟨w,r,e,hx,t⟩=>by
  subst e
  obtain⟨i1,i2⟩:=Va hd (fs:=ks) (by simpa using h) t
  simp only[putZ]
  by_cases hk:k=f
  ·rw[if_pos hk,if_pos hk];exact⟨rfl,_,_,rfl,hd,t⟩
  ·rw[if_neg hk,if_neg hk];exact⟨by rw[i1],_,_,rfl,hx,i2⟩
section
variable {X:Cx}{B:Bs}{e a b c o:Expr}{es:List Expr}{pos p apos:Pos}{g ga gb:EnvD->Option D}{gx:EnvD->Option En}{gxs:EnvD->Option (List En)}{C f:Addr}{fl mm x:Str}{fd:FuncData}{ps:List Str}{n k:Nat}{m:List En->Option En}
def gFld (C:Addr)(fl:Str)(g:EnvD->Option D):EnvD->Option D:=λZ=>(g Z).bind λd=>match d with
 |.obj C' fs ds=>if C'=C then lookZ fl fs ds else none
 |_=>none
theorem Gd {Z:EnvD}{d:D}(h:gFld C fl g Z=some d):∃fs ds,g Z=some (.obj C fs ds)/\lookZ fl fs ds=some d:=by
 unfold gFld at h
 cases q:g Z with
 |none=>rw[q] at h;cases h
 |some x=>
  rw[q] at h
  cases x with
  |obj C' fs ds=>
   replace h:(if C'=C then lookZ fl fs ds else none)=some d:=h
   by_cases e:C'=C
   ·rw[if_pos e] at h;subst e;exact⟨fs,ds,rfl,h⟩
   ·rw[if_neg e] at h;cases h
  |_=>cases h
theorem zG (cl:Cls X.kw C)(na:NoAttr X.kw C fl)(he:DE X B e g)(hb:attributeBase e fl X.env (eval e X.env)=eval e X.env:=by rfl):DE X B (.Attribute e fl pos) (gFld C fl g) :=
 zo (zex he hb) λσ H Q ⟨F,Z,d,r,hg,k⟩=>by
  obtain⟨fs,ds,q,hl⟩:=Gd hg
  refine⟨F,Z,_,r,q,λv F1 H1 e1 p1=>?_⟩
  obtain⟨a,dx,vs,rfl,h1,h2,h3⟩:=p1
  obtain⟨w,h4,h5⟩:=Wg h3 hl
  exact⟨a,C,dx,_,w,rfl,e1.fh _ _ h1,cl,na,by rw[Zo];exact h4,k w F1 H1 e1 h5⟩
def gMeth {α:Type}(C:Addr)(mm:Str)(m:List En->Option En)(f:En->Option α)(go:EnvD->Option D)(gs:EnvD->Option (List En)):EnvD->Option α:=λZ=>(go Z).bind λd=>match d with
 |.obj C' fs ds=>if C'=C/\lookZ mm fs ds=none then ((gs Z).bind λxs=>m (.val d::xs)).bind f else none
 |_=>none
theorem R5 {α:Type}{f:En->Option α}{go:EnvD->Option D}{gs:EnvD->Option (List En)}{Z:EnvD}{y:α}(h:gMeth C mm m f go gs Z=some y) :
  ∃fs ds xs o,go Z=some (.obj C fs ds)/\lookZ mm fs ds=none/\gs Z=some xs/\m (.val (.obj C fs ds)::xs)=some o/\f o=some y:=by
 unfold gMeth at h
 cases q:go Z with
 |none=>rw[q] at h;cases h
 |some x=>
  rw[q] at h
  cases x with
  |obj C' fs ds=>
   replace h:(if C'=C/\lookZ mm fs ds=none then ((gs Z).bind λxs=>m (.val (.obj C' fs ds)::xs)).bind f else none)=some y:=h
   by_cases e:C'=C/\lookZ mm fs ds=none
   ·rw[if_pos e] at h
    obtain⟨e,hl⟩:=e
    subst e
    cases q2:gs Z with
    |none=>rw[q2] at h;cases h
    |some xs=>
     rw[q2] at h
     replace h:(m (.val (.obj C' fs ds)::xs)).bind f=some y:=h
     cases q3:m (.val (.obj C' fs ds)::xs) with
     |none=>rw[q3] at h;cases h
     |some o=>rw[q3] at h;exact⟨fs,ds,xs,o,rfl,hl,rfl,q3,h⟩
   ·rw[if_neg e] at h;cases h
  |_=>cases h
theorem WP {α β:Type}{f:Str}:∀ {fs:List Str} {ds:List α} {vs:List β},ds.length=vs.length->lookZ f fs ds=none->lookZ f fs vs=none
 | [],_,_,_,_=>by simp[lookZ]
 |_::_,[],vs,h,_=>by
  cases vs with
  |nil=>simp[lookZ]
  |cons=>simp at h
 |_::_,_::_,[],h,_=>by simp at h
 |k::ks,x::xs,v::vs,h,e=>by
  simp only[lookZ] at e ⊢
  by_cases hk:f=k
  ·rw[if_pos hk] at e;cases e
  ·rw[if_neg hk] at e ⊢;exact WP (by simpa using h) e
theorem Vl {E:XK}{σ:St}{H:Hp}{Q:VK}(h:lG X.kw B (pE X.kw) (gMeth C mm (len? n m) frzO g gxs) σ H Q):tMeth C mm (pSp X.kw n (len? n m)) [] E (lG X.kw B (pE X.kw) g) (lNs X.kw B gxs) σ H Q:=by
 obtain⟨F,Z,d,r,hg,k⟩:=h
 obtain⟨fs,ds,xs,o,q1,q2,q3,q4,q5⟩:=R5 hg
 refine⟨F,Z,_,r,q1,λv F1 H1 e1 p1=>?_⟩
 obtain⟨a,dx,vs,rfl,h1,h2,h3⟩:=id p1
 refine⟨a,dx,_,rfl,e1.fh _ _ h1,by rw[Zo];exact WP h3.length q2,F1,Z,xs,r.ext e1,q3,λws F2 H2 e2 p2=>?_⟩
 show pSp X.kw n (len? n m) (.ref a::(ws++[])) H2 Q E
 rw[List.append_nil]
 refine⟨F2,_,o,e2.fh,wt _ _ q4,.cons (Rp.mono e2.ff p1) p2,q4,λw F3 H3 e3 p3=>?_⟩
 obtain⟨F4,e4,p4⟩:=VO q5 e3 p3
 exact k w F4 H3 (e1.trans (e2.trans e4)) p4
theorem zak {pl:Sem Bool}(ho:DE X B o g)(c:Cls X.kw C)(hm:Meth X.kw C mm f)(F:FnOk X.prog X.w X.kw X.mg X.base CX0 k f fd ps (pSp X.kw n (len? n m)))(hr:Room k X.A)(hb:Binds X.kw fd ps [])(ha:DNs X B (e::es) gxs)
  (hst:starEach (e::es) X.env=(false,eval e X.env)::starEach es X.env:=by rfl) (hpl:#[11].any (·.1)=false:=by rfl)
  (ht:eval (.Call (.Attribute o mm apos) (e::es) [] pos) X.env=(do
   let ov <-eval o X.env
   standAt apos.atName
   let (f,first) <-holding [ov] (getMethod ov mm pl)
   callWith pos f first (backTo pos (starEach (e::es) X.env)) (backToKw pos (keywordEach [] X.env))):=by rfl) :
  DE X B (.Call (.Attribute o mm apos) (e::es) [] pos) (gMeth C mm (len? n m) frzO g gxs) :=
 zo (GS ho c hm F hr hb .nil pass0 ha hst hpl ht) λσ H Q h=>Vl h
theorem RP {pl:Sem Bool}(ho:DE X B o g)(c:Cls X.kw C)(hm:Meth X.kw C mm f)(F:FnOk X.prog X.w X.kw X.mg X.base CX0 k f fd ps (pSp X.kw n (len? n m)))(hr:Room k X.A)(hb:Binds X.kw fd ps [])
  (ht:eval (.Call (.Attribute o mm apos) [] [] pos) X.env=(do
   let ov <-eval o X.env
   standAt apos.atName
   let (f,first) <-holding [ov] (getMethod ov mm pl)
   callWith pos f first (backTo pos (starEach [] X.env)) (backToKw pos (keywordEach [] X.env))):=by rfl) :
  DE X B (.Call (.Attribute o mm apos) [] [] pos) (gMeth C mm (len? n m) frzO g nNil) :=
 zo (RQ ho c hm F hr hb .nil pass0 ht) λσ H Q h=>by
  obtain⟨F,Z,d,r,q,k⟩:=Vl (E:=E0) h
  refine⟨F,Z,d,r,q,λv F1 H1 e1 p1=>?_⟩
  obtain⟨a,dx,fs,h1,h2,h3,F2,Z',xs,r2,q2,k2⟩:=k v F1 H1 e1 p1
  cases q2
  exact⟨a,dx,fs,h1,h2,h3,k2 [] F2 H1 (.refl r2.fh) .nil⟩
def iSp (K:KW)(C:Addr)(n:Nat)(mi:Addr->Addr->List En->Option (List Str×List D)):Sp:=λvs H Q _=>
 ∃F H1 xs x dx vs' fs ds,vs=.ref x::vs'/\H1 x=none/\H1 dx=none/\dx≠x/\H=upd (upd H1 dx (.own x)) x (.ins C dx [])/\Same F H1/\xs.length=n/\Paired (λy v=>ArgE K F H1 y v) xs vs'/\mi x dx xs=some (fs,ds) /\
  ∀F' H' us,Ext F H1 F' H'->F' x=none->H' x=some (.ins C dx (fs.zip us))->fs.length=us.length->Rps K F' ds us->(H' dx=some (.own x)/\F' dx=none)->Q .non H'
def gMake (C:Addr)(n:Nat)(mi:List En->Option (List Str×List D))(gs:EnvD->Option (List En)):EnvD->Option D:=λZ=>(gs Z).bind λxs=>if xs.length=n then (mi xs).map λr=>.obj C r.1 r.2 else none
theorem Km {mi:List En->Option (List Str×List D)}{mi':Addr->Addr->List En->Option (List Str×List D)}(hmi:∀x dx xs,mi' x dx xs=mi xs)(M:Mk X.kw C f)(F:FnOk X.prog X.w X.kw X.mg X.base CX0 k f fd ps (iSp X.kw C n mi'))(hr:Room (k+1) X.A)(hg:Gl X x)(hm:X.mg x=some (.ref C))(hb:Binds X.kw fd ps [])
  (ha:DNs X B (e::es) gxs) (hdb:#[8]=false:=by decide) (he:starEach (e::es) X.env=(false,eval e X.env)::starEach es X.env:=by rfl) (hpl:#[11].any (·.1)=false:=by rfl) :
  DE X B #[12] (gMake C n mi gxs) :=
 zo (zbq M F hr hg hm hb .nil pass0 ha hdb he hpl) λσ H Q ⟨F,Z,d,r,hg,k⟩=>by
  unfold gMake at hg
  cases q:gxs Z with
  |none=>rw[q] at hg;cases hg
  |some xs=>
   rw[q] at hg
   have hg:(if xs.length=n then (mi xs).map (λr=>D.obj C r.1 r.2) else none)=some d:=hg
   split at hg
   ·rename_i hl
    cases q2:mi xs with
    |none=>rw[q2] at hg;cases hg
    |some fr=>
     rw[q2] at hg
     cases hg
     refine⟨F,Z,xs,r,q,λvs F1 H1 e1 p1 x dx nx ndx nex=>?_⟩
     show iSp X.kw C n mi' (.ref x::(vs++[])) _ _ _
     rw[List.append_nil]
     refine⟨F1,H1,xs,x,dx,vs,fr.1,fr.2,rfl,nx,ndx,nex,rfl,e1.fh,hl,p1,by rw[hmi];exact q2,λF2 H2 us e2 h1 h2 h3 h4 _=>⟨rfl,?_⟩⟩
     exact k _ (upd F2 x (.ins C dx (fr.1.zip us))) H2 (e1.trans (e2.freeze nx h1 h2)) ⟨x,dx,us,rfl,zr,h3,h4.mono (zX h1)⟩
   ·cases hg
end
inductive Fl where
 |next (Z:EnvD) | ret (o:En) | brk (Z:EnvD) | cont (Z:EnvD)
def Fl.ok (K:KW)(B:Bs)(F:Hp)(E:Ends):Fl->Prop
 |.next Z=>∀σ' F' H',Rep K B F' σ' H' Z->Same F F'->E.nx σ' H'
 |.brk Z=>∀σ' F' H',Rep K B F' σ' H' Z->Same F F'->E.bk σ' H'
 |.cont Z=>∀σ' F' H',Rep K B F' σ' H' Z->Same F F'->E.ct σ' H'
 |.ret o=>∀v F' H',Ext B.F0 B.H0 F' H'->RepE K B F' H' o v->E.rt v H'
abbrev SD:=EnvD->Option Fl
def lS (K:KW)(B:Bs)(g:SD):TS:=λE σ H=>∃F Z fl,Rep K B F σ H Z/\g Z=some fl/\fl.ok K B F E
def DS (X:Cx)(B:Bs)(st:Stmt)(g:SD):Prop:=PS X st (lS X.kw B g)
def DSs (X:Cx)(B:Bs)(sts:List Stmt)(g:SD):Prop:=PSs X sts (lS X.kw B g)
theorem Fl.ok.mono {K:KW}{B:Bs}{F F':Hp}{E:Ends}{fl:Fl}(s:Same F F')(h:fl.ok K B F E):fl.ok K B F' E:=by
 cases fl with
 |next Z=>exact λσ' F2 H' r s2=>h σ' F2 H' r (s.trans s2)
 |brk Z=>exact λσ' F2 H' r s2=>h σ' F2 H' r (s.trans s2)
 |cont Z=>exact λσ' F2 H' r s2=>h σ' F2 H' r (s.trans s2)
 |ret o=>exact h
section
variable {X:Cx}{B:Bs}{e a b c o:Expr}{es:List Expr}{st:Stmt}{rest:List Stmt}{pos p apos:Pos}{g ga gb:EnvD->Option D}{gl:EnvD->Option (List D)}{gs1 gs2:SD}{x:Str}
def sSeq (g1 g2:SD):SD:=λZ=>(g1 Z).bind λfl=>match fl with
 |.next Z'=>g2 Z'
 |fl=>some fl
def sNext:SD:=λZ=>some (.next Z)
theorem zF:DSs X B [] sNext:=y7 Yx λE σ H ⟨F,Z,fl,r,hg,k⟩=>by cases hg;exact k σ F H r (Same.refl _)
theorem zf (h:DS X B st gs1):DSs X B [st] gs1:=JX h
theorem ze (h1:DS X B st gs1)(h2:DSs X B rest gs2):DSs X B (st::rest) (sSeq gs1 gs2) :=
 y7 (y9 h1 h2) λE σ H ⟨F,Z,fl,r,hg,k⟩=>by
  unfold sSeq at hg
  cases q:gs1 Z with
  |none=>rw[q] at hg;cases hg
  |some f1=>
   rw[q] at hg
   refine⟨F,Z,f1,r,q,?_⟩
   cases f1 with
   |next Z'=>exact λσ' F' H' r' s'=>⟨F',Z',fl,r',hg,k.mono s'⟩
   |brk Z'=>cases hg;exact k
   |cont Z'=>cases hg;exact k
   |ret o'=>cases hg;exact k
def sFrz (i:Nat)(g:SD):SD:=λZ=>g (frzE i Z)
theorem VL (i:Nat)(h:DS X B st gs1):DS X B st (sFrz i gs1):=zC h λE σ H ⟨F,Z,fl,r,hg,k⟩=>by
 obtain⟨F',s',r'⟩:=r.frz i
 exact⟨F',_,fl,r',hg,k.mono s'⟩
def sSet (i:Nat)(g:EnvD->Option D):SD:=λZ=>(g Z).map λd=>.next (Z.set i (some (.val d)))
def sSetA (i:Nat)(g:EnvD->Option (List D)):SD:=λZ=>(g Z).map λds=>.next (Z.set i (some (.acc ds)))
theorem JO {i:Nat}{E:Ends}{σ:St}{H:Hp}(h:lS X.kw B (sSet i g) E σ H):tAsg (lG X.kw B (pE X.kw) g) (gName i) E σ H:=by
 obtain⟨F,Z,fl,r,hg,k⟩:=h
 unfold sSet at hg
 cases q:g Z with
 |none=>rw[q] at hg;cases hg
 |some d=>
  rw[q] at hg
  cases hg
  exact⟨F,Z,d,r,q,λv F1 H1 e1 p1=>k _ F1 H1 ((r.ext e1).setv p1) e1.ff⟩
theorem Rl {i:Nat}{E:Ends}{σ:St}{H:Hp}(h:lS X.kw B (sSetA i gl) E σ H):tAsg (lG X.kw B (pA X.kw) gl) (gName i) E σ H:=by
 obtain⟨F,Z,fl,r,hg,k⟩:=h
 unfold sSetA at hg
 cases q:gl Z with
 |none=>rw[q] at hg;cases hg
 |some ds=>
  rw[q] at hg
  cases hg
  refine⟨F,Z,ds,r,q,λv F1 H1 e1 p1=>k _ F1 H1 ((r.ext e1).seto ?_ ?_) e1.ff⟩
  ·obtain⟨a,vs,h1,h2,h3,h4,h5⟩:=p1
   exact⟨a,vs,h1,h3,h4,r.ex.hh.free h2,h5⟩
  ·intro j y w hj hs _ b hb hc
   obtain⟨a,vs,h1,h2,h3,h4,h5⟩:=p1
   subst h1
   simp only[feetE,List.mem_singleton] at hb
   subst hb
   obtain⟨w',hw,hr⟩:=r.ents j y hj
   rw[hs] at hw;cases hw
   rw[hr.feet_ext e1.hh] at hc
   exact (hr.feet_at hc).1 h2
theorem zp {i:Nat}{x:Str}{pos':Pos}(hN:X.N.Nodup)(hi:X.N[i]?=some x)(hx:Loc X.env.scope x)(he:DE X B e g)(hs:swapsWith e (some (.Name x pos')) pos.line X.env=pure false:=by rfl)(hf:X.fn x=true∨X.env.scope.names.lookup x=some .local:=by first | exact .inl rfl | exact .inr rfl | assumption) :
  DS X B (.Assign [.Name x pos'] e pos) (sSet i g):=zC (vC hN hi hx he hs hf) λE σ H h=>JO h
theorem yW {i:Nat}{x:Str}{pos':Pos}(hN:X.N.Nodup)(hi:X.N[i]?=some x)(hx:Loc X.env.scope x)(he:DA X B e gl)(hs:swapsWith e (some (.Name x pos')) pos.line X.env=pure false:=by rfl)(hf:X.fn x=true∨X.env.scope.names.lookup x=some .local:=by first | exact .inl rfl | exact .inr rfl | assumption) :
  DS X B (.Assign [.Name x pos'] e pos) (sSetA i gl):=zC (vC hN hi hx he hs hf) λE σ H h=>Rl h
def sRet (g:EnvD->Option D):SD:=λZ=>(g Z).map λd=>.ret (.val d)
def sRetA (g:EnvD->Option (List D)):SD:=λZ=>(g Z).map λd=>.ret (.acc d)
theorem zy (he:DE X B e g):DS X B (.Return (some e) pos) (sRet g):=zC (wY he) λE σ H ⟨F,Z,fl,r,hg,k⟩=>by
 unfold sRet at hg
 cases q:g Z with
 |none=>rw[q] at hg;cases hg
 |some d=>rw[q] at hg;cases hg;exact⟨F,Z,d,r,q,λv F1 H1 e1 p1=>k v F1 H1 (r.ex.trans e1) p1⟩
theorem jV (he:DA X B e gl):DS X B (.Return (some e) pos) (sRetA gl):=zC (wY he) λE σ H ⟨F,Z,fl,r,hg,k⟩=>by
 unfold sRetA at hg
 cases q:gl Z with
 |none=>rw[q] at hg;cases hg
 |some d=>
  rw[q] at hg;cases hg
  refine⟨F,Z,d,r,q,λv F1 H1 e1 p1=>k v F1 H1 (r.ex.trans e1) ?_⟩
  obtain⟨a,vs,h1,h2,h3,h4,h5⟩:=p1
  exact⟨a,vs,h1,h3,h4,r.ex.hh.free h2,h5⟩
def sRetV (i:Nat):SD:=λZ=>match Z[i]? with
 |some (some (.acc ds))=>some (.ret (.acc ds))
 |some (some (.val d))=>some (.ret (.val d))
 |_=>none
theorem xl (i:Nat)(h:PE X (.Name x p) (tVar i)):DS X B (.Return (some (.Name x p)) pos) (sRetV i):=zC (wY h) λE σ H ⟨F,Z,fl,r,hg,k⟩=>by
 unfold sRetV at hg
 split at hg
 ·rename_i ds q
  cases hg
  obtain⟨v,h1,h2⟩:=r.ents i _ q
  exact⟨v,h1,k v F H r.ex h2⟩
 ·rename_i d q
  cases hg
  obtain⟨v,h1,h2⟩:=r.ents i _ q
  exact⟨v,h1,k v F H r.ex h2⟩
 ·cases hg
def sIf (t:EnvD->Option Bool)(g1 g2:SD):SD:=λZ=>(t Z).bind λb=>if b then g1 Z else g2 Z
theorem zB {t:EnvD->Option Bool}{as bs:List Stmt}(hc:DT X B c t)(ha:DSs X B as gs1)(hb:DSs X B bs gs2):DS X B (.If c as bs pos) (sIf t gs1 gs2):=zC (WM hc ha hb) λE σ H ⟨F,Z,fl,r,hg,k⟩=>by
 unfold sIf at hg
 cases q:t Z with
 |none=>rw[q] at hg;cases hg
 |some b=>
  rw[q] at hg
  refine⟨F,Z,b,r,q,λF1 H1 e1=>?_⟩
  cases b with
  |true=>exact iteT ⟨F1,Z,fl,r.ext e1,hg,k.mono e1.ff⟩
  |false=>exact iteF ⟨F1,Z,fl,r.ext e1,hg,k.mono e1.ff⟩
def sNever:SD:=λ_=>none
theorem ja:DS X B st sNever:=zC Kj λE σ H ⟨F,Z,fl,r,hg,k⟩=>by cases hg
def sExpr (g:EnvD->Option D):SD:=λZ=>(g Z).map λ_=>.next Z
theorem UL (he:DE X B e g)(hs:swapsWith e none pos.line X.env=pure false:=by rfl):DS X B (.Expr e pos) (sExpr g):=zC (xC he hs) λE σ H ⟨F,Z,fl,r,hg,k⟩=>by
 unfold sExpr at hg
 cases q:g Z with
 |none=>rw[q] at hg;cases hg
 |some d=>rw[q] at hg;cases hg;exact⟨F,Z,d,r,q,λv F1 H1 e1 p1=>k σ F1 H1 (r.ext e1) e1.ff⟩
def sApp (i:Nat)(g:EnvD->Option D):SD:=λZ=>match Z[i]? with
 |some (some (.acc ds))=>(g Z).bind λd=>if ds.length<=TOP then some (.next (Z.set i (some (.acc (ds++[d]))))) else none
 |_=>none
theorem xq (i:Nat){cpos:Pos}(hx:PE X (.Name x p) (tVar i))(he:DE X B e g)
  (hbase:attributeBase (.Name x p) "append" X.env (eval (.Name x p) X.env)=eval (.Name x p) X.env:=by rfl)
  (hfew:((backTo cpos (starEach [e] X.env)).all (λx=>!x.1)&&(backToKw cpos (keywordEach [] X.env)).all (λx=>x.1.isSome)
   && decide (([e]:List Expr).length+([]:List Keyword).length+(if ([]:List Keyword).isEmpty then 0 else 1) < 30))=true:=by rfl)
  (hline:(apos.endLine==cpos.line)=true:=by rfl) (hs:starEach [e] X.env=(false,eval e X.env)::starEach [] X.env:=by rfl) (hplain:(backTo cpos (starEach [] X.env)).any (·.1)=false:=by rfl)
  (hsw:swapsWith (.Call (.Attribute (.Name x p) "append" apos) [e] [] cpos) none pos.line X.env=pure false:=by rfl) :
  DS X B (.Expr (.Call (.Attribute (.Name x p) "append" apos) [e] [] cpos) pos) (sApp i g) :=
 zC (xC (Vs PySem.F.plainAttrs_list PySem.F.slot_list_append PySem.F.type_list_append KP hx (zO he yz hs) hbase hfew hline hs hplain) hsw) λE σ H ⟨F,Z,fl,r,hg,k⟩=>by
  unfold sApp at hg
  split at hg
  ·rename_i ds q
   cases q2:g Z with
   |none=>rw[q2] at hg;cases hg
   |some d=>
    rw[q2] at hg
    have hg:(if ds.length<=TOP then some (Fl.next (Z.set i (some (.acc (ds++[d]))))) else none)=some fl:=hg
    split at hg
    ·rename_i hl
     cases hg
     obtain⟨v,hv,a,vs,rfl,h1,h2,h3,h4⟩:=r.ents i _ q
     refine⟨.ref a,hv,.inl ⟨rfl,_,.of h1⟩,F,Z,d,r,q2,λw F1 H1 e1 p1=>?_⟩
     have r1:=r.ext e1
     obtain⟨v',hv',a',vs',e',g1,g2,g3,g4⟩:=r1.ents i _ q
     rw[hv] at hv';cases hv';cases e'
     refine⟨a,vs',w,rfl,rfl,g1,ze1 (by rw[<-g4.length];exact hl),k σ F1 _ (r1.write q rfl hv g2 g3 ⟨a,_,rfl,zr,g2,g3,g4.snoc p1⟩ rfl) e1.ff⟩
    ·cases hg
  ·cases hg
def sPop (i:Nat):SD:=λZ=>match Z[i]? with
 |some (some (.acc ds))=>if ds.isEmpty then none else some (.next (Z.set i (some (.acc ds.dropLast))))
 |_=>none
theorem zej {K:KW}{F:Hp}:∀ {ds:List D} {vs:List V},Rps K F ds vs->Rps K F ds.dropLast vs.dropLast:=fun {ds vs} r=>by
 rw[List.dropLast_eq_take,List.dropLast_eq_take,<-r.length]
 exact r.take _
theorem KF (i:Nat){cpos:Pos}(hm:MtR X "list.pop" rPop) (hx:PE X (.Name x p) (tVar i))
  (hbase:attributeBase (.Name x p) "pop" X.env (eval (.Name x p) X.env)=eval (.Name x p) X.env:=by rfl) (hline:(apos.endLine==cpos.line)=true:=by rfl)
  (hsw:swapsWith (.Call (.Attribute (.Name x p) "pop" apos) [] [] cpos) none pos.line X.env=pure false:=by rfl) :
  DS X B (.Expr (.Call (.Attribute (.Name x p) "pop" apos) [] [] cpos) pos) (sPop i) :=
 zC (xC (YM PySem.F.plainAttrs_list PySem.F.slot_list_pop PySem.F.type_list_pop hm hx hbase hline) hsw) λE σ H ⟨F,Z,fl,r,hg,k⟩=>by
  unfold sPop at hg
  split at hg
  ·rename_i ds q
   split at hg
   ·cases hg
   ·rename_i hl
    cases hg
    obtain⟨v,hv,a,vs,rfl,h1,h2,h3,h4⟩:=r.ents i _ q
    have hlen:0 < vs.length:=by
     rw[<-h4.length]
     cases ds with
     |nil=>simp at hl
     |cons=>simp
    have hy:vs[vs.length - 1]?=some vs[vs.length - 1]:=List.getElem?_eq_getElem #[1]
    exact⟨.ref a,hv,.inl ⟨rfl,_,.of h1⟩,a,vs,_,rfl,rfl,h1,hy,k σ F _ (r.write q rfl hv h2 h3 ⟨a,_,rfl,zr,h2,h3,zej h4⟩ rfl) (Same.refl _)⟩
  ·cases hg
def sPut (i:Nat)(gi g:EnvD->Option D):SD:=λZ=>match Z[i]? with
 |some (some (.acc ds))=>(g Z).bind λd=>((gi Z).bind asI).bind λj=>(ixN ds.length j).map λn=>.next (Z.set i (some (.acc (ds.set n d))))
 |_=>none
theorem zdx (i:Nat){gi:EnvD->Option D}{ie:Expr}(hx:PE X (.Name x p) (tVar i))(hi:DE X B ie gi)(he:DE X B e g){tpos:Pos}
  (ha:∀v,assign (.Subscript (.Name x p) ie tpos) X.env v=(do
   let ov <-holding [v] (eval (.Name x p) X.env)
   let iv <-holding [v,ov] (eval ie X.env)
   standAt tpos
   holding [v,ov,iv] (setItem ov iv v)
   release [v,ov,iv] []):=by intro _;rfl)
  (hs:swapsWithSole [.Subscript (.Name x p) ie tpos] e pos.line X.env=pure false:=by rfl) (hw:swappedStores [.Subscript (.Name x p) ie tpos] e X.env=pure none:=by rfl)
  (h1:(assignEach [.Subscript (.Name x p) ie tpos] X.env).map (·.2)=[assign (.Subscript (.Name x p) ie tpos) X.env]:=by rfl) :
  DS X B (.Assign [.Subscript (.Name x p) ie tpos] e pos) (sPut i gi g) :=
 zC (uE he (zbs hx hi KZ ha) hs hw h1) λE σ H ⟨F,Z,fl,r,hg,k⟩=>by
  unfold sPut at hg
  split at hg
  ·rename_i ds q
   cases q2:g Z with
   |none=>rw[q2] at hg;cases hg
   |some d=>
    cases q3:gi Z with
    |none=>rw[q2,q3] at hg;cases hg
    |some di=>
     rw[q2,q3] at hg
     have hg:((asI di).bind λj=>(ixN ds.length j).map λn=>Fl.next (Z.set i (some (.acc (ds.set n d)))))=some fl:=hg
     cases q4:asI di with
     |none=>rw[q4] at hg;cases hg
     |some j=>
      rw[q4] at hg
      have hg:((ixN ds.length j).map λn=>Fl.next (Z.set i (some (.acc (ds.set n d)))))=some fl:=hg
      cases q5:ixN ds.length j with
      |none=>rw[q5] at hg;cases hg
      |some n=>
       rw[q5] at hg
       cases hg
       rw[Q6 q4] at q3
       refine⟨F,Z,d,r,q2,λw F1 H1 e1 p1=>?_⟩
       have r1:=r.ext e1
       obtain⟨v,hv,a,vs,rfl,g1,g2,g3,g4⟩:=r1.ents i _ q
       refine⟨.ref a,hv,F1,Z,_,r1,q3,λu F2 H2 e2 p2=>?_⟩
       have r2:=r1.ext e2
       obtain⟨v',hv',a',vs',e',f1,f2,f3,f4⟩:=r2.ents i _ q
       rw[hv] at hv';cases hv';cases e'
       exact⟨a,vs',j,n,rfl,p2,f1,by rw[<-f4.length];exact q5,k σ F2 _ (r2.write q rfl hv f2 f3 ⟨a,_,rfl,zr,f2,f3,Rps.set (Rp.mono e2.ff p1) n f4⟩ rfl) (e1.ff.trans e2.ff)⟩
  ·cases hg
def sFldD (i:Nat)(C:Addr)(fl:Str)(g:EnvD->Option D):SD:=λZ=>match Z[i]? with
 |some (some (.oac a dx C' fs ds))=>if C'=C/\fs.length < 900 then (g Z).map λd=>.next (Z.set i (some (.oac a dx C (putZ fl d fs ds).1 (putZ fl d fs ds).2))) else none
 |_=>none
theorem yj (i:Nat){C:Addr}{fl:Str}{pos':Pos}(cl:Cls X.kw C)(na:NoAttr X.kw C fl)(hx:PE X (.Name x p) (tVar i))(he:DE X B e g)(hs:swapsWith e (some (.Attribute (.Name x p) fl pos')) pos.line X.env=pure false:=by rfl) :
  DS X B (.Assign [.Attribute (.Name x p) fl pos'] e pos) (sFldD i C fl g) :=
 zC (zai hx he hs) λE σ H ⟨F,Z,f,r,hg,k⟩=>by
  unfold sFldD at hg
  split at hg
  ·rename_i a dx C' fs ds q
   split at hg
   ·rename_i hc
    obtain⟨rfl,hlen⟩:=hc
    cases q2:g Z with
    |none=>rw[q2] at hg;cases hg
    |some d=>
     rw[q2] at hg
     cases hg
     refine⟨F,Z,d,r,q2,λw F1 H1 e1 p1=>?_⟩
     have r1:=r.ext e1
     obtain⟨v,hv,vs,rfl,g1,g2,g3,g4,g5,d1,d2,d3⟩:=r1.ents i _ q
     obtain⟨z1,z2⟩:=YO (f:=fl) (v:=w) g2
     obtain⟨z3,z4⟩:=Va (f:=fl) p1 g2 g5
     refine⟨.ref a,hv,a,C',dx,_,rfl,g1,cl,na,?_,k σ F1 _ (r1.write q rfl hv g3 g4 ⟨_,rfl,?_,?_,g3,g4,z4,by rw[zh (jj d1 g1 (by intro z;cases z))];exact d1,d2,d3⟩ rfl) e1.ff⟩
     ·have:(fs.zip vs).length<=fs.length:=by rw[List.length_zip];exact Nat.min_le_left _ _
      omega
     ·rw[zr,z1,z3]
     ·rw[z3,z2]
   ·cases hg
  ·cases hg
end
inductive Tgt where
 |name (i:Nat) | tup (is:List Nat)
def gNames:List Nat->TGs
 | []=>L2.gNil
 |i::is=>gCons (gName i) (gNames is)
def tgT (K:KW):Tgt->TG
 |.name i=>gName i
 |.tup is=>gTup K is.length (gNames is)
def z7:List Nat->List D->EnvD->EnvD
 |i::is,d::ds,Z=>z7 is ds (Z.set i (some (.val d)))
 |_,_,Z=>Z
def asgD:Tgt->D->EnvD->Option EnvD
 |.name i,d,Z=>some (Z.set i (some (.val d)))
 |.tup is,.tup ds,Z=>if ds.length=is.length then some (z7 is ds Z) else none
 |_,_,_=>none
inductive SetOf:List Nat->St->St->Prop
 |refl {is σ}:SetOf is σ σ
 |step {is σ σ' i v}:i∈is->SetOf is (σ.set i v) σ'->SetOf is σ σ'
def Tgt.slots:Tgt->List Nat
 |.name i=>[i]
 |.tup is=>is
theorem SetOf.pre {is:List Nat}{σ σ':St}(h:SetOf is σ σ'):∀ {σ1 cv:St},σ=σ1++cv->(∀i∈is,i < σ1.length)->∃σ1',σ1'.length=σ1.length/\σ'=σ1'++cv:=by
 induction h with
 |refl=>intro σ1 cv e _;exact⟨σ1,rfl,e⟩
 | @step σ σ' i v hi _ ih=>
  intro σ1 cv e hl
  obtain⟨s,h1,h2⟩:=ih (σ1:=σ1.set i v) (cv:=cv) (by rw[e,List.set_append_left _ _ (hl i hi)]) (λj hj=>by rw[List.length_set];exact hl j hj)
  exact⟨s,by rw[h1,List.length_set],h2⟩
theorem ZD {K:KW}{B:Bs}{F H:Hp}{all:List Nat}:∀ {is:List Nat} {ds:List D} {vs:List V} {σ:St} {Z:EnvD} {Q:St->Hp->Prop},Rep K B F σ H Z->Rps K F ds vs->ds.length=is.length->(∀i∈is,i∈all) ->
  (∀σ',Rep K B F σ' H (z7 is ds Z)->SetOf all σ σ'->Q σ' H)->gNames is vs σ H Q
 | [],[],_,σ,Z,Q,r,h,_,_,k=>by cases h;exact⟨rfl,k σ r .refl⟩
 | [],_::_,_,_,_,_,_,_,hl,_,_=>by simp at hl
 |_::_,[],_,_,_,_,_,_,hl,_,_=>by simp at hl
 |i::is,d::ds,_,σ,Z,Q,r,⟨v,w,e,h,t⟩,hl,ha,k=>by
  subst e
  refine⟨v,w,rfl,?_⟩
  exact ZD (r.setv h) t (by simpa using hl) (λj hj=>ha j (List.mem_cons_of_mem _ hj)) λσ' r' s'=>k σ' r' (.step (ha i List.mem_cons_self) s')
theorem jo {K:KW}{B:Bs}{F H:Hp}{t:Tgt}{d:D}{v:V}{σ:St}{Z Z':EnvD}{Q:St->Hp->Prop}(r:Rep K B F σ H Z)(h:Rp K F d v)(e:asgD t d Z=some Z')(k:∀σ',Rep K B F σ' H Z'->SetOf t.slots σ σ'->Q σ' H):tgT K t v σ H Q:=by
 cases t with
 |name i=>cases e;exact k _ (r.setv h) (.step (List.mem_singleton.mpr rfl) .refl)
 |tup is=>
  cases d with
  |tup ds=>
   have e:(if ds.length=is.length then some (z7 is ds Z) else none)=some Z':=e
   split at e
   ·rename_i hl
    cases e
    obtain⟨a,vs,rfl,h1,h2⟩:=h
    exact⟨a,vs,rfl,.of (r.fh _ _ h1),by rw[<-h2.length];exact hl,ZD r h2 hl (λi hi=>hi) k⟩
   ·cases e
  |_=>cases e
def Jok (K:KW)(Hb:Hp)(J:It)(F:Hp)(ds:List D):Prop:=∀F2 H2,Same F F2->Same F2 H2->Same Hb H2->∀i,
 (i < ds.length->J.go i H2/\∀x H3,J.yld i H2 x H3->∃F3 d,Ext F2 H2 F3 H3/\ds[i]?=some d/\Rp K F3 d x)/\(i=ds.length->J.stop i H2)
def lI (K:KW)(B:Bs)(hb:Hp->Hp)(g:EnvD->Option (List D)):TI:=λσ H R=>∃F Z ds,Rep K B F σ H Z/\g Z=some ds/\∀J F' H',Ext F H F' H'->Jok K (hb H') J F' ds->R J H'
def DI (X:Cx)(B:Bs)(hb:Hp->Hp)(tg iter:Expr)(g:EnvD->Option (List D)):Prop:=PI X tg iter (lI X.kw B hb g)
def pQ (K:KW)(hb:Hp->Hp):Post D:=λ_ _ F' H' d v=>Rq K F' (hb H') d v
def DQ (X:Cx)(B:Bs)(hb:Hp->Hp)(e:Expr)(g:EnvD->Option D):Prop:=PE X e (lG X.kw B (pQ X.kw hb) g)
def HbOk (B:Bs)(hb:Hp->Hp):Prop:=(∀H,Same B.H0 H->Same (hb H) H)/\∀H H',Same H H'->Same (hb H) (hb H')
theorem hb0 {B:Bs}:HbOk B (λ_=>B.H0):=⟨λ_ h=>h,λ_ _ _=>Same.refl _⟩
theorem hb1 {B:Bs}:HbOk B (λH=>H):=⟨λ_ _=>Same.refl _,λ_ _ h=>h⟩
section
variable {X:Cx}{B:Bs}{hb:Hp->Hp}{e a b c tg iter:Expr}{es:List Expr}{pos p:Pos}{g ga gb:EnvD->Option D}{gi:EnvD->Option (List D)}{gs gbd:SD}{x:Str}
theorem DE.fix (h:DE X B e g):DQ X B hb e g:=zo h λσ H Q ⟨F,Z,x,r,hg,k⟩=>⟨F,Z,x,r,hg,λv F' H' e p=>k v F' H' e (.inl p)⟩
theorem DR.cur (h:DR X B e g):DQ X B (λH=>H) e g:=h
def gf (i:Nat):EnvD->Option D:=λZ=>match Z[i]? with
 |some (some (.val d))=>some d
 |some (some (.bor ds))=>some (.lst ds)
 |_=>none
theorem zY (i:Nat)(h:PE X (.Name x pos) (tVar i)):DQ X B (λ_=>B.H0) (.Name x pos) (gf i) :=
 zo h λσ H Q ⟨F,Z,d,r,hg,k⟩=>by
  unfold gf at hg
  split at hg
  ·rename_i d' e
   cases hg
   obtain⟨v,h1,h2⟩:=r.ents i _ e
   exact⟨v,h1,k v F H (.refl r.fh) (.inl h2)⟩
  ·rename_i ds e
   cases hg
   obtain⟨v,h1,a,vs,e1,e2,e5⟩:=r.ents i _ e
   exact⟨v,h1,k v F H (.refl r.fh) (.inr ⟨a,vs,ds,rfl,e1,e2,e5⟩)⟩
  ·cases hg
def itL:D->Option (List D)
 |.lst ds=>some ds
 |.scr ns=>some (ns.map D.int)
 |_=>none
theorem ki {K:KW}{F Hb:Hp}{d:D}{v:V}{ds:List D}(r:Rq K F Hb d v)(h:itL d=some ds):∃a vs,v=.ref a/\Rps K F ds vs/\∀F2 H2,Same F F2->Same F2 H2->Same Hb H2->SqL K H2 a vs:=by
 cases d with
 |lst es=>
  cases h
  rcases r with⟨a,vs,rfl,q,t⟩ | ⟨a,vs,ds',e1,rfl,q,t⟩
  ·exact⟨a,vs,rfl,t,λF2 H2 s1 s2 _=>.of (s2 _ _ (s1 _ _ q))⟩
  ·cases e1;exact⟨a,vs,rfl,t,λF2 H2 _ _ s3=>.of (s3 _ _ q)⟩
 |scr ns=>
  cases h
  obtain⟨a,rfl,q⟩:=r.one λ_ h=>by cases h
  exact⟨a,_,rfl,Rps.ints ns,λF2 H2 s1 s2 _=>s2.seq (s1.seq q)⟩
 |_=>cases h
def gIt (g:EnvD->Option D):EnvD->Option (List D):=λZ=>(g Z).bind itL
theorem zL (hbk:HbOk B hb)(h:DQ X B hb e g):DI X B hb tg e (gIt g) :=
 j9 (K8 h) λσ H R ⟨F,Z,ds,r,hg,k⟩=>by
  unfold gIt at hg
  cases q:g Z with
  |none=>rw[q] at hg;cases hg
  |some d=>
   rw[q] at hg
   refine⟨F,Z,d,r,q,λv F1 H1 e1 p1=>?_⟩
   obtain⟨a,vs,rfl,t,sq⟩:=ki p1 hg
   have r1:=r.ext e1
   refine⟨a,rfl,⟨vs,sq F1 H1 (Same.refl _) e1.fh (hbk.1 H1 r1.ex.hh)⟩,k _ F1 H1 e1 λF2 H2 s1 s2 s3 i=>⟨λhi=>?_,λhi=>?_⟩⟩
   ·have hq:=sq F2 H2 s1 s2 s3
    have hiv:i < vs.length:=by rw[<-t.length];exact hi
    have hv:vs[i]?=some vs[i]:=List.getElem?_eq_getElem hiv
    refine⟨⟨vs,_,hq,hv⟩,λx H3 hy=>?_⟩
    obtain⟨rfl,hy⟩:=hy
    obtain⟨d',hd,rd⟩:=t.get' (hy vs hq)
    exact⟨F2,d',.refl s2,hd,rd.mono s1⟩
   ·exact⟨vs,sq F2 H2 s1 s2 s3,by rw[hi,t.length];exact Nat.le_refl _⟩
def lQs (K:KW)(B:Bs)(hb:Hp->Hp)(g:EnvD->Option (List D)):TA:=λσ H Q=>
 ∃F Z ds,Rep K B F σ H Z/\g Z=some ds/\∀vs F' H',Ext F H F' H'->Paired (λd v=>Rq K F' (hb H') d v) ds vs->Q vs H'
def DQs (X:Cx)(B:Bs)(hb:Hp->Hp)(es:List Expr)(g:EnvD->Option (List D)):Prop:=PA X es (lQs X.kw B hb g)
theorem vR:DQs X B hb [] gNil:=ye yz λσ H Q ⟨F,Z,ds,r,hg,k⟩=>by cases hg;exact k [] F H (.refl r.fh) .nil
theorem vM (hbk:HbOk B hb)(ha:DQ X B hb e g)(hr:DQs X B hb es gi)(hs:starEach (e::es) X.env=(false,eval e X.env)::starEach es X.env:=by rfl):DQs X B hb (e::es) (gCons' g gi) :=
 ye (zO ha hr hs) λσ H Q ⟨F,Z,ds,r,hg,k⟩=>by
  obtain⟨d,dr,q1,q2,q3⟩:=bind2 hg
  cases q3
  exact⟨F,Z,d,r,q1,λv F1 H1 e1 p1=>⟨F1,Z,dr,r.ext e1,q2,λvs F2 H2 e2 p2=>k _ F2 H2 (e1.trans e2) (.cons (p1.mono e2.ff (hbk.2 _ _ e2.hh)) p2)⟩⟩
def enumD:Nat->List D->List D
 |_,[]=>[]
 |n,d::ds=>.tup [.int n,d]::enumD (n+1) ds
theorem uJ:∀(n:Nat) (ds:List D),(enumD n ds).length=ds.length
 |_,[]=>rfl
 |n,_::ds=>by simp[enumD,uJ (n+1) ds]
theorem Ql:∀(n:Nat) (ds:List D) (i:Nat) (d:D),ds[i]?=some d->(enumD n ds)[i]?=some (.tup [.int ((n+i:Nat):Int),d])
 |_,[],_,_,h=>by simp at h
 |n,x::ds,0,d,h=>by simp at h;subst h;simp[enumD]
 |n,x::ds,i+1,d,h=>by
  have:=Ql (n+1) ds i d (by simpa using h)
  simp only[enumD,List.getElem?_cons_succ,this]
  congr 5
  omega
def gEn (gs:EnvD->Option (List D)):EnvD->Option (List D):=λZ=>(gs Z).bind λxs=>match xs with
 | [d]=>(itL d).map (enumD 0)
 |_=>none
variable {elts:List Expr}{tk:Nat}{tpos:Pos}
theorem jB (hbk:HbOk B hb)(hg:Gl X "enumerate") (hm:X.mg "enumerate" = none) (ha:DQs X B hb [a] gi) (hs:starEach [a] X.env=[(false,eval a X.env)]:=by rfl) :
  DI X B hb (.Tuple elts tk tpos) (.Call (.Name "enumerate" p) [a] [] pos) (gEn gi) :=
 j9 (UO hg hm ha hs) λσ H R ⟨F,Z,ds,r,hg,k⟩=>by
  unfold gEn at hg
  cases q:gi Z with
  |none=>rw[q] at hg;cases hg
  |some xs=>
   rw[q] at hg
   refine⟨F,Z,xs,r,q,λvs F1 H1 e1 p1=>?_⟩
   match xs,hg,p1 with
   | [d],hg,p1=>
    obtain⟨v,rfl,rv⟩:=pair1 p1
    have hg:(itL d).map (enumD 0)=some ds:=hg
    cases q2:itL d with
    |none=>rw[q2] at hg;cases hg
    |some es=>
     rw[q2] at hg
     cases hg
     obtain⟨a,us,rfl,t,sq⟩:=ki rv q2
     have r1:=r.ext e1
     refine⟨a,rfl,⟨us,sq F1 H1 (Same.refl _) e1.fh (hbk.1 H1 r1.ex.hh)⟩,k _ F1 H1 e1 λF2 H2 s1 s2 s3 i=>⟨λhi=>?_,λhi=>?_⟩⟩
     ·rw[uJ] at hi
      have hq:=sq F2 H2 s1 s2 s3
      have hiv:i < us.length:=by rw[<-t.length];exact hi
      have hv:us[i]?=some us[i]:=List.getElem?_eq_getElem hiv
      refine⟨⟨us,_,hq,hv⟩,λx H3 hy=>?_⟩
      obtain⟨T,w,nT,rfl,rfl,hy⟩:=hy
      obtain⟨d',hd,rd⟩:=t.get' (hy us hq)
      refine⟨upd F2 T (.tup [.int i,w]),_,.newF s2 nT,Ql 0 es i d' hd,⟨T,_,rfl,zr,_,_,rfl,?_,_,_,rfl,(rd.mono s1).mono (zX (s2.free nT)),rfl⟩⟩
      show V.int i=V.int ((0+i:Nat):Int)
      rw[Nat.zero_add]
     ·exact⟨us,sq F2 H2 s1 s2 s3,by rw[hi,uJ,t.length];exact Nat.le_refl _⟩
def rngD (lo:Int):Nat->List D
 |0=>[]
 |n+1=>.int lo::rngD (lo+1) n
theorem uL:∀(lo:Int) (n:Nat),(rngD lo n).length=n
 |_,0=>rfl
 |lo,n+1=>by simp[rngD,uL (lo+1) n]
theorem V2:∀(lo:Int) (n i:Nat),i < n->(rngD lo n)[i]?=some (.int (lo+i))
 |_,0,_,h=>by omega
 |lo,n+1,0,_=>by simp[rngD]
 |lo,n+1,i+1,h=>by
  have:=V2 (lo+1) n i #[1]
  simp only[rngD,List.getElem?_cons_succ,this]
  congr 2
  omega
def BIG:Int:=1000000000000
def gR1 (gs:EnvD->Option (List D)):EnvD->Option (List D):=λZ=>(gs Z).bind λxs=>match xs with
 | [.int j]=>if -BIG<=j/\j<=BIG then some (rngD 0 j.toNat) else none
 |_=>none
def gR2 (gs:EnvD->Option (List D)):EnvD->Option (List D):=λZ=>(gs Z).bind λxs=>match xs with
 | [.int i,.int j]=>if (-BIG<=i/\i<=BIG)/\(-BIG<=j/\j<=BIG) then some (rngD i (j - i).toNat) else none
 |_=>none
theorem VA {K:KW}{Hb F:Hp}(lo:Int)(n:Nat):Jok K Hb (Itr lo n) F (rngD lo n):=λF2 H2 s1 s2 s3 i=>⟨λhi=>by
 rw[uL] at hi
 refine⟨hi,λx H3 hy=>?_⟩
 obtain⟨rfl,rfl⟩:=hy
 exact⟨F2,_,.refl s2,V2 lo n i hi,rfl⟩,λhi=>by rw[uL] at hi;exact Nat.le_of_eq hi.symm⟩
theorem QJ (hg:Gl X "range") (hm:X.mg "range" = none) (ha:DRs X B [a] gi) (hs:starEach [a] X.env=[(false,eval a X.env)]:=by rfl):DI X B hb tg (.Call (.Name "range" p) [a] [] pos) (gR1 gi) :=
 j9 (QW hg hm ha hs) λσ H R ⟨F,Z,ds,r,hg,k⟩=>by
  unfold gR1 at hg
  cases q:gi Z with
  |none=>rw[q] at hg;cases hg
  |some xs=>
   rw[q] at hg
   refine⟨F,Z,xs,r,q,λvs F1 H1 e1 p1=>?_⟩
   match xs,hg,p1 with
   | [.int j],hg,p1=>
    obtain⟨v,rfl,rv⟩:=pair1 p1
    cases rv.int
    have hg:(if -BIG<=j/\j<=BIG then some (rngD 0 j.toNat) else none)=some ds:=hg
    split at hg
    ·rename_i hc
     cases hg
     unfold BIG at hc
     exact⟨j,rfl,by omega,by omega,k _ F1 H1 e1 (VA 0 _)⟩
    ·cases hg
theorem zdt (hg:Gl X "range") (hm:X.mg "range" = none) (ha:DRs X B [a,b] gi) (hs:starEach [a,b] X.env=[(false,eval a X.env),(false,eval b X.env)]:=by rfl) (hs2:starEach [b] X.env=[(false,eval b X.env)]:=by rfl):DI X B hb tg (.Call (.Name "range" p) [a,b] [] pos) (gR2 gi) :=
 j9 (GF hg hm ha hs hs2) λσ H R ⟨F,Z,ds,r,hg,k⟩=>by
  unfold gR2 at hg
  cases q:gi Z with
  |none=>rw[q] at hg;cases hg
  |some xs=>
   rw[q] at hg
   refine⟨F,Z,xs,r,q,λvs F1 H1 e1 p1=>?_⟩
   match xs,hg,p1 with
   | [.int i,.int j],hg,p1=>
    obtain⟨v,v',rfl,rv,rv'⟩:=pair2 p1
    cases rv.int
    cases rv'.int
    have hg:(if (-BIG<=i/\i<=BIG)/\(-BIG<=j/\j<=BIG) then some (rngD i (j - i).toNat) else none)=some ds:=hg
    split at hg
    ·rename_i hc
     cases hg
     unfold BIG at hc
     exact⟨i,j,rfl,⟨by omega,by omega,by omega,by omega⟩,k _ F1 H1 e1 (VA i _)⟩
    ·cases hg
def forD (t:Tgt)(gb:SD):List D->EnvD->Option Fl
 | [],Z=>some (.next Z)
 |d::ds,Z=>(asgD t d Z).bind λZ1=>(gb Z1).bind λfl=>match fl with
  |.next Z2=>forD t gb ds Z2
  |.cont Z2=>forD t gb ds Z2
  |.brk Z2=>some (.next Z2)
  |.ret o=>some (.ret o)
def sFor (t:Tgt)(gi:EnvD->Option (List D))(gb:SD):SD:=λZ=>(gi Z).bind λds=>forD t gb ds Z
theorem zM {body:List Stmt}{t:Tgt}(hp:PassesOwn #[4] X.A X.env X.xe)(hc:X.calm=true)(hi:DI X B (λ_=>B.H0) tg iter gi)(hg:PG X tg (tgT X.kw t))(hb:DSs X B body gbd)
  (hs:∀x,foldedSetIterable iter X.env x=pure x:=by intro _;rfl):DS X B (.For tg iter body [] pos) (sFor t gi gbd) :=
 zC (zar hp hc hi hg hb hs) λE σ H ⟨F,Z,fl,r,hg,k⟩=>by
  unfold sFor at hg
  cases q:gi Z with
  |none=>rw[q] at hg;cases hg
  |some ds=>
   rw[q] at hg
   have hg:forD t gbd ds Z=some fl:=hg
   refine⟨F,Z,ds,r,q,λJ F1 H1 e1 jok=>?_⟩
   refine⟨λi m σ H=>m=ds.length - i/\i<=ds.length/\∃F2 Z2,Rep X.kw B F2 σ H Z2/\Same F1 F2/\forD t gbd (ds.drop i) Z2=some fl,⟨ds.length,rfl,Nat.zero_le _,F1,Z,r.ext e1,Same.refl _,hg⟩,?_⟩
   rintro i m σ2 H2 ⟨rfl,hi,F2,Z2,r2,s2,h2⟩
   obtain⟨j1,j2⟩:=jok F2 H2 s2 r2.fh r2.ex.hh i
   by_cases hlt:i < ds.length
   ·obtain⟨go,yl⟩:=j1 hlt
    refine .inr ⟨go,λσ' H'=>∃F3 Z3,Rep X.kw B F3 σ' H' Z3/\Same F1 F3/\forD t gbd (ds.drop (i+1)) Z3=some fl,λσ' H' ⟨F3,Z3,r3,s3,h3⟩=>⟨ds.length - (i+1),by omega,rfl,hlt,F3,Z3,r3,s3,h3⟩,λx H3 hy=>?_⟩
    obtain⟨F3,d,e3,hd,rd⟩:=yl x H3 hy
    have hdd:ds.drop i=d::ds.drop (i+1):=by
     rw[List.drop_eq_getElem_cons hlt]
     congr 1
     rw[List.getElem?_eq_getElem hlt] at hd
     exact Option.some.inj hd
    rw[hdd] at h2
    have h2:((asgD t d Z2).bind λZ1=>(gbd Z1).bind λfl=>match fl with
     |.next Z2=>forD t gbd (ds.drop (i+1)) Z2
     |.cont Z2=>forD t gbd (ds.drop (i+1)) Z2
     |.brk Z2=>some (.next Z2)
     |.ret o=>some (.ret o))=some fl:=h2
    cases q1:asgD t d Z2 with
    |none=>rw[q1] at h2;cases h2
    |some Z3=>
     rw[q1] at h2
     refine jo (r2.ext e3) rd q1 λσ' r4 _=>?_
     cases q4:gbd Z3 with
     |none=>rw[show (some Z3).bind _=(gbd Z3).bind _ from rfl,q4] at h2;cases h2
     |some f1=>
      rw[show (some Z3).bind _=(gbd Z3).bind _ from rfl,q4] at h2
      refine⟨F3,Z3,f1,r4,q4,?_⟩
      cases f1 with
      |next Z5=>exact λσ5 F5 H5 r5 s5=>⟨F5,Z5,r5,(s2.trans e3.ff).trans s5,h2⟩
      |cont Z5=>exact λσ5 F5 H5 r5 s5=>⟨F5,Z5,r5,(s2.trans e3.ff).trans s5,h2⟩
      |brk Z5=>cases h2;exact λσ5 F5 H5 r5 s5=>k σ5 F5 H5 r5 (e1.ff.trans ((s2.trans e3.ff).trans s5))
      |ret o=>cases h2;exact k
   ·have hi':i=ds.length:=by omega
    have hdd:ds.drop i=[]:=by rw[hi',List.drop_length]
    rw[hdd] at h2
    cases h2
    exact .inl ⟨j2 hi',k σ2 F2 H2 r2 (e1.ff.trans s2)⟩
def capO:Option (Option En)->Option En
 |some (some (.val d))=>some (.val d)
 |some (some (.acc ds))=>some (.bor ds)
 |some (some (.bor ds))=>some (.bor ds)
 |some (some (.dct _ kvs))=>some (.dbo kvs)
 |some (some (.dbo kvs))=>some (.dbo kvs)
 |_=>none
def capE (Z:EnvD)(cap:List (Str×Nat)):EnvD:=cap.map λp=>capO Z[p.2]?
def compD (t:Tgt)(tc:EnvD->Option Bool)(ge:EnvD->Option D)(Z0:EnvD):List D->Option (List D)
 | []=>some []
 |d::ds=>(asgD t d Z0).bind λZ1=>(tc Z1).bind λb=>if b then (ge Z1).bind λy=>(compD t tc ge Z0 ds).map (y::·) else compD t tc ge Z0 ds
def gComp (own:List Str)(cap:List (Str×Nat))(t:Tgt)(tc:EnvD->Option Bool)(ge:EnvD->Option D)(gi:EnvD->Option (List D)):EnvD->Option (List D):=λZ=>
 (gi Z).bind λds=>if ds.length<=TOP then compD t tc ge #[9] ds else none
def tYes:EnvD->Option Bool:=λ_=>some true
theorem Rk {K:KW}{B:Bs}{σ:St}{H:Hp}{Q:Bool->Hp->Prop}(h:lT K B tYes σ H Q):tTrue σ H Q:=by
 obtain⟨F,Z,b,r,hg,k⟩:=h
 cases hg
 exact k F H (.refl r.fh)
theorem GJ {X:Cx}{ifs:List Expr}{t t':TT}(h:PIfs X ifs t)(k:∀σ H Q,t' σ H Q->t σ H Q):PIfs X ifs t':=λpins s σ H Q I q=>h pins s σ H Q I (k σ H Q q)
def DIfs (X:Cx)(B:Bs)(ifs:List Expr)(g:EnvD->Option Bool):Prop:=PIfs X ifs (lT X.kw B g)
theorem x5:DIfs X B [] tYes:=GJ GU λσ H Q h=>Rk h
theorem Jo {tc:EnvD->Option Bool}(h:DT X B c tc):DIfs X B [c] tc:=zfd h
theorem Yi {K:KW}{B:Bs}{F F1 H H1:Hp}{σ σ1:St}{Z:EnvD}{own:List Str}{cap:List (Str×Nat)}(r:Rep K B F σ H Z)(e:Ext F H F1 H1){F2 H2:Hp}(e2:Ext F1 H1 F2 H2)(hl:σ1.length=own.length) :
  Rep K ⟨F1,H1⟩ F2 (σ1++cap.map λp=>(σ[p.2]?).getD none) H2 #[9]:=by
 have noown:∀i y,#[9][i]?=some (some y)->∃p,cap[i - own.length]?=some p/\own.length<=i/\((∃d,y=.val d/\Z[p.2]?=some (some (.val d)))∨(∃ds,y=.bor ds/\Z[p.2]?=some (some (.acc ds)))∨(∃ds,y=.bor ds/\Z[p.2]?=some (some (.bor ds)))∨(∃kvs,y=.dbo kvs/\∃oa,Z[p.2]?=some (some (.dct oa kvs)))∨∃kvs,y=.dbo kvs/\Z[p.2]?=some (some (.dbo kvs))):=by
  intro i y h
  by_cases hi:i < own.length
  ·rw[List.getElem?_append_left (by simpa using hi),List.getElem?_replicate,if_pos hi] at h
   cases h
  ·rw[List.getElem?_append_right (by simpa using hi),List.length_replicate] at h
   unfold capE at h
   rw[List.getElem?_map] at h
   cases q:cap[i - own.length]? with
   |none=>rw[q] at h;cases h
   |some p=>
    rw[q] at h
    replace h:capO Z[p.2]?=some y:=Option.some.inj h
    refine⟨p,rfl,by omega,?_⟩
    unfold capO at h
    split at h
    ·rename_i d q2;cases h;exact .inl ⟨d,rfl,q2⟩
    ·rename_i ds q2;cases h;exact .inr (.inl ⟨ds,rfl,q2⟩)
    ·rename_i ds q2;cases h;exact .inr (.inr (.inl ⟨ds,rfl,q2⟩))
    ·rename_i oa ds q2;cases h;exact .inr (.inr (.inr (.inl ⟨ds,rfl,oa,q2⟩)))
    ·rename_i ds q2;cases h;exact .inr (.inr (.inr (.inr ⟨ds,rfl,q2⟩)))
    ·cases h
 refine⟨e2,by simp[capE,hl],λi y h=>?_,λi j y z v w h1 h2 _ _ _ a ha _=>?_⟩
 ·obtain⟨p,hp,hi,hy⟩:=noown i y h
  have slot:∀v,σ[p.2]?=some (some v)->(σ1++cap.map λp=>(σ[p.2]?).getD none)[i]?=some (some v):=λv hv=>by
   rw[List.getElem?_append_right (by rw[hl];exact hi),hl,List.getElem?_map,hp]
   show some ((σ[p.2]?).getD none)=_
   rw[hv];rfl
  rcases hy with⟨d,rfl,q⟩ | ⟨ds,rfl,q⟩ | ⟨ds,rfl,q⟩ | ⟨ds,rfl,oa,q⟩ | ⟨ds,rfl,q⟩
  ·obtain⟨v,hv,h2⟩:=r.ents _ _ q
   exact⟨v,slot v hv,Rp.mono (e.ff.trans e2.ff) h2⟩
  ·obtain⟨v,hv,a,vs,e1,g1,g2,g3,g4⟩:=r.ents _ _ q
   exact⟨v,slot v hv,a,vs,e1,e.hh _ _ g1,g4.mono (e.ff.trans e2.ff)⟩
  ·obtain⟨v,hv,a,vs,e1,g1,g4⟩:=r.ents _ _ q
   exact⟨v,slot v hv,a,vs,e1,e.hh _ _ (r.ex.hh _ _ g1),g4.mono (e.ff.trans e2.ff)⟩
  ·obtain⟨v,hv,a,ob,vs,e1,g1,g2,g3,g4,g5⟩:=r.ents _ _ q
   exact⟨v,slot v hv,a,ob,vs,e1,e.hh _ _ g1,g4.mono (e.ff.trans e2.ff)⟩
  ·obtain⟨v,hv,a,ob,vs,e1,g1,g4⟩:=r.ents _ _ q
   exact⟨v,slot v hv,a,ob,vs,e1,e.hh _ _ (r.ex.hh _ _ g1),g4.mono (e.ff.trans e2.ff)⟩
 ·obtain⟨p,_,_,hy⟩:=noown i y h1
  rcases hy with⟨d,rfl,q⟩ | ⟨ds,rfl,q⟩ | ⟨ds,rfl,q⟩ | ⟨ds,rfl,oa,q⟩ | ⟨ds,rfl,q⟩<;>cases ha
theorem ji {elt:Expr}{ifs:List Expr}{scope:Scope}{own:List Str}{cap:List (Str×Nat)}{t:Tgt}{tc:EnvD->Option Bool}{ge:EnvD->Option D}(hc:X.calm=true)(S:CompScope X scope own cap)(hi:DI X B (λH=>H) tg iter gi)(ht:∀i∈t.slots,i < own.length)
  (hin:∀(B':Bs) C s₀ H₀ fp pn,PG #[13] tg (tgT X.kw t)/\DIfs #[13] B' ifs tc/\DE #[13] B' elt ge)
  (hs:∀x,foldedSetIterable iter X.env x=pure x:=by intro _;rfl) :
  DA X B (.ListComp elt [⟨tg,iter,ifs,0⟩] scope pos) (gComp own cap t tc ge gi):=by
 refine zo (JJ (tc:=λσ H Q=>∃B',lT X.kw B' tc σ H Q) (te:=λσ H Q=>∃B',lG X.kw B' (pE X.kw) ge σ H Q) hc S hi (λC s₀ H₀ fp pn=>⟨(hin ⟨H₀,H₀⟩ C s₀ H₀ fp pn).1,λpins s σ H Q I ⟨B',q⟩=>(hin B' C s₀ H₀ fp pn).2.1 pins s σ H Q I q,λpins s σ H Q I ⟨B',q⟩=>(hin B' C s₀ H₀ fp pn).2.2 pins s σ H Q I q⟩) hs) ?_
 intro σ H Q ⟨F,Z,out,r,hg,k⟩
 unfold gComp at hg
 cases q:gi Z with
 |none=>rw[q] at hg;cases hg
 |some ds=>
  rw[q] at hg
  have hg:(if ds.length<=TOP then compD t tc ge #[9] ds else none)=some out:=hg
  split at hg
  ·rename_i htop
   refine⟨F,Z,ds,r,q,λJ F1 H1 e1 jok=>?_⟩
   refine⟨λi m ys H2=>m=ds.length - i/\i<=ds.length/\∃F2 o1 o2,Ext F1 H1 F2 H2/\Rps X.kw F2 o1 ys/\o1.length<=i/\compD t tc ge #[9] (ds.drop i)=some o2/\out=o1++o2,
    ⟨ds.length,rfl,Nat.zero_le _,F1,[],out,.refl e1.fh,rfl,Nat.le_refl _,hg,rfl⟩,?_⟩
   rintro i m ys H2 ⟨rfl,hi,F2,o1,o2,e2,ry,hl1,h2,rfl⟩
   refine⟨yf (by rw[<-ry.length];omega),?_⟩
   obtain⟨j1,j2⟩:=jok F2 H2 e2.ff e2.fh e2.hh i
   by_cases hlt:i < ds.length
   ·obtain⟨go,yl⟩:=j1 hlt
    refine .inr ⟨go,λys' H'=>∃F3 p1 p2,Ext F1 H1 F3 H'/\Rps X.kw F3 p1 ys'/\p1.length<=i+1/\compD t tc ge #[9] (ds.drop (i+1))=some p2/\o1++o2=p1++p2,λys' H' ⟨F3,p1,p2,e3,r3,l3,h3,eo⟩=>⟨ds.length - (i+1),by omega,rfl,hlt,F3,p1,p2,e3,r3,l3,h3,eo⟩,λx H3 hy σ1 hσ=>?_⟩
    obtain⟨F3,d,e3,hd,rd⟩:=yl x H3 hy
    have hdd:ds.drop i=d::ds.drop (i+1):=by
     rw[List.drop_eq_getElem_cons hlt]
     congr 1
     rw[List.getElem?_eq_getElem hlt] at hd
     exact Option.some.inj hd
    rw[hdd] at h2
    simp only[compD] at h2
    cases q1:asgD t d #[9] with
    |none=>rw[q1] at h2;cases h2
    |some Z1=>
     rw[q1] at h2
     have e13:=e2.trans e3
     refine jo (Yi (own:=own) (cap:=cap) r e1 e13 hσ) rd q1 λσ' r4 so=>⟨?_,?_⟩
     ·obtain⟨σ1',l1,e4⟩:=so.pre (σ1:=σ1) rfl (λj hj=>by rw[hσ];exact ht j hj)
      exact⟨σ1',by rw[l1,hσ],e4⟩
     ·have h2:((tc Z1).bind λb=>if b then (ge Z1).bind λy=>(compD t tc ge #[9] (ds.drop (i+1))).map (y::·) else compD t tc ge #[9] (ds.drop (i+1)))=some o2:=h2
      cases q2:tc Z1 with
      |none=>rw[q2] at h2;cases h2
      |some bb=>
       rw[q2] at h2
       refine⟨⟨F1,H1⟩,F3,Z1,bb,r4,q2,λF5 H5 e5=>?_⟩
       cases bb with
       |false=>exact iteF ⟨F5,o1,o2,e13.trans e5,ry.mono (e3.ff.trans e5.ff),by omega,h2,rfl⟩
       |true=>
        have h2:((ge Z1).bind λy=>(compD t tc ge #[9] (ds.drop (i+1))).map (y::·))=some o2:=h2
        cases q3:ge Z1 with
        |none=>rw[q3] at h2;cases h2
        |some y=>
         rw[q3] at h2
         have h2:(compD t tc ge #[9] (ds.drop (i+1))).map (y::·)=some o2:=h2
         cases q4:compD t tc ge #[9] (ds.drop (i+1)) with
         |none=>rw[q4] at h2;cases h2
         |some p2=>
          rw[q4] at h2
          cases h2
          refine iteT ⟨⟨F1,H1⟩,F5,Z1,y,r4.ext e5,q3,λv F6 H6 e6 p6=>?_⟩
          exact⟨F6,o1++[y],p2,e13.trans (e5.trans e6),(ry.mono (e3.ff.trans (e5.ff.trans e6.ff))).snoc p6,by simp;omega,rfl,by simp⟩
   ·have hi':i=ds.length:=by omega
    have hdd:ds.drop i=[]:=by rw[hi',List.drop_length]
    rw[hdd] at h2
    cases h2
    refine .inl ⟨j2 hi',λD hD=>?_⟩
    have e:=e1.trans e2
    exact k _ F2 _ (e.trans (.new e.fh hD)) ⟨D,ys,rfl,e.hh.free hD,zr,e.fh.free hD,by simpa using ry⟩
  ·cases hg
end
def stE (N:List Str)(xs:List (Option En)):EnvD:=xs++List.replicate (N.length - xs.length) none
def outO:Option Fl->Option En
 |some (.next _)=>some (.val .non)
 |some (.ret o)=>some o
 |_=>none
def mir (N:List Str)(g:SD):List En->Option En:=λxs=>outO (g (stE N (xs.map some)))
section
variable {P:Program}{w:World}{K:PySem.W.Frag}{mg:Str->Option Value}{base:Heap}
theorem jh {α β:Type}{R:α->β->Prop}:∀ {l:List α} {r:List β} {i:Nat} {x:α},Paired R l r->l[i]?=some x->∃y,r[i]?=some y/\R x y
 |_,_,_,_,.nil,e=>by simp at e
 |_,_,0,_,.cons r _,e=>by simp at e;subst e;exact⟨_,rfl,r⟩
 |_,_,i+1,x,.cons _ t,e=>by
  obtain⟨u,h1,h2⟩:=jh (i:=i) t (by simpa using e)
  exact⟨u,by simpa using h1,h2⟩
theorem jL {F H:Hp}{N ps:List Str}{xs:List En}{vs:List V}(fh:Same F H)(hp:Paired (λx v=>ArgE ⟨K,w⟩ F H x v) xs vs):Rep ⟨K,w⟩ ⟨F,H⟩ F (L2.start N vs) H (stE N (xs.map some)):=by
 have hl:=wB hp
 have at':∀(i:Nat) y,(stE N (xs.map some))[i]?=some (some y)->xs[i]?=some y:=λi y h=>by
  unfold stE at h
  by_cases hi:i < xs.length
  ·rw[List.getElem?_append_left (by simpa using hi),List.getElem?_map] at h
   cases q:xs[i]? with
   |none=>rw[q] at h;cases h
   |some z=>rw[q] at h;cases h;rfl
  ·rw[List.getElem?_append_right (by simpa using hi),List.getElem?_replicate] at h
   split at h<;>cases h
 refine⟨.refl fh,?_,λi y h=>?_,λi j y z v w h1 h2 _ _ _ a ha _=>?_⟩
 ·unfold L2.start stE
  simp[hl]
 ·have hx:=at' i y h
  obtain⟨v,hv,r⟩:=jh hp hx
  refine⟨v,?_,?_⟩
  ·unfold L2.start
   rw[List.getElem?_append_left (by simpa using (List.getElem?_eq_some_iff.mp hv).1),List.getElem?_map,hv];rfl
  ·cases y with
   |val d=>exact r
   |bor ds=>exact r
   |acc ds=>exact r.elim
   |oac a dx C fs ds=>exact r.elim
   |tre t=>exact r.elim
   |dct oa kvs=>exact r.elim
   |dbo kvs=>exact r
   |exn a=>exact r
 ·have hx:=at' i y h1
  obtain⟨u,_,r⟩:=jh hp hx
  cases y with
  |val d=>cases ha
  |bor ds=>cases ha
  |acc ds=>exact r.elim
  |oac a dx C fs ds=>exact r.elim
  |tre t=>exact r.elim
  |dct oa kvs=>exact r.elim
  |dbo kvs=>cases ha
  |exn a=>cases ha
theorem zu {x qual:Str}{st:Stmt}{f:Addr}{fd:FuncData}{N ps:List Str}{k:Nat}{g:SD}(F:Fun K x qual st f fd)(S:FnScope N ps (zd st))
  (hb:∀(cdv:Value) (A:Around) (outer:List Env) (s:Shared) (H:Hp) (E:XK) (B:Bs),Room k (A.deeper (envOfC qual (zd st) s.heap.objs.size f cdv)) ->
   DSs (cxOf CX0 P w K mg base N qual (zd st) f cdv A outer s H E).nox B (zl st) g) :
  FnOk P w K mg base CX0 (k+1) f fd ps (pSp ⟨K,w⟩ ps.length (len? ps.length (mir N g))):=by
 refine F.ok S (λvs H Q E h=>?_) (λcdv A outer s H vs Q E hr h=>?_)
 ·obtain⟨F,xs,o,_,hl,hp,_⟩:=h
  rw[<-wB hp];exact hl
 ·obtain⟨F0,xs,o,fh,hl,hp,hm,k⟩:=h
  refine⟨_,hb cdv A outer s H E ⟨F0,H⟩ hr,?_⟩
  have hm:mir N g xs=some o:=by
   unfold len? at hm
   rw[if_pos hl] at hm
   exact hm
  unfold mir at hm
  cases q:g (stE N (xs.map some)) with
  |none=>rw[q] at hm;cases hm
  |some fl=>
   rw[q] at hm
   refine⟨F0,_,fl,jL (ps:=ps) fh hp,q,?_⟩
   cases fl with
   |next Z=>cases hm;exact λσ' F' H' r s=>k .non F' H' r.ex rfl
   |ret o'=>cases hm;exact λv F' H' e p=>k v F' H' e p
   |brk Z=>cases hm
   |cont Z=>cases hm
def outJ (x dx C:Addr):Option (Option En)->Option (List Str×List D)
 |some (some (.oac a d C' fs ds))=>if a=x/\d=dx/\C'=C then some (fs,ds) else none
 |_=>none
def outI (x dx C:Addr):Option Fl->Option (List Str×List D)
 |some (.next Z)=>outJ x dx C Z[0]?
 |_=>none
def mirI (C:Addr)(N:List Str)(g:SD)(x dx:Addr):List En->Option (List Str×List D):=λxs=>outI x dx C (g (stE N (some (.oac x dx C [] [])::xs.map some)))
theorem qS {x qual:Str}{st:Stmt}{f C:Addr}{fd:FuncData}{N ps:List Str}{k n:Nat}{g:SD}(F:Fun K x qual st f fd)(S:FnScope N ps (zd st))(hn:ps.length=n+1)
  (hb:∀(cdv:Value) (A:Around) (outer:List Env) (s:Shared) (H:Hp) (E:XK) (B:Bs),Room k (A.deeper (envOfC qual (zd st) s.heap.objs.size f cdv)) ->
   DSs (cxOf CX0 P w K mg base N qual (zd st) f cdv A outer s H E).nox B (zl st) g) :
  FnOk P w K mg base CX0 (k+1) f fd ps (iSp ⟨K,w⟩ C n (mirI C N g)):=by
 refine F.ok S (λvs H Q E h=>?_) (λcdv A outer s H vs Q E hr h=>?_)
 ·obtain⟨F,H1,xs,a,dx,vs',fs,ds,rfl,_,_,_,_,_,hl,hp,_⟩:=h
  rw[List.length_cons,<-wB hp,hl,hn]
 ·obtain⟨F0,H1,xs,a,dx,vs',fs,ds,rfl,nx,ndx,nex,rfl,fh,hl,hp,hm,k⟩:=h
  refine⟨_,hb cdv A outer s _ E ⟨F0,H1⟩ hr,?_⟩
  have hx1:(upd H1 dx (.own a)) a=none:=by rw[zh (Ne.symm nex)];exact nx
  have sH:Same H1 (upd (upd H1 dx (.own a)) a (.ins C dx [])):=(zX ndx).trans (zX hx1)
  have r0:=jL (N:=N) (ps:=ps) fh hp
  have hla:=wB hp
  have R:Rep ⟨K,w⟩ ⟨F0,H1⟩ F0 (L2.start N (.ref a::vs')) (upd (upd H1 dx (.own a)) a (.ins C dx [])) (stE N (some (.oac a dx C [] [])::xs.map some)):=by
   have sl:∀i:Nat,(L2.start N (.ref a::vs'))[i+1]?=none∨∀v,(L2.start N (.ref a::vs'))[i+1]?=some (some v)->vs'[i]?=some v:=λi=>.inr λv h=>by
    unfold L2.start at h
    by_cases hi:i < vs'.length
    ·rw[List.getElem?_append_left (by simpa using hi),List.getElem?_map,List.getElem?_cons_succ] at h
     cases q:vs'[i]? with
     |none=>rw[q] at h;cases h
     |some z=>rw[q] at h;cases h;rfl
    ·rw[List.getElem?_append_right (by simpa using hi),List.getElem?_replicate] at h
     split at h<;>cases h
   have at':∀(i:Nat) y,(stE N (some (.oac a dx C [] [])::xs.map some))[i]?=some (some y)->(i=0/\y=.oac a dx C [] [])∨∃j,i=j+1/\xs[j]?=some y:=λi y h=>by
    unfold stE at h
    cases i with
    |zero=>simp at h;exact .inl ⟨rfl,h.symm⟩
    |succ j=>
     refine .inr ⟨j,rfl,?_⟩
     by_cases hi:j < xs.length
     ·rw[List.getElem?_append_left (by simpa using hi),List.getElem?_cons_succ,List.getElem?_map] at h
      cases q:xs[j]? with
      |none=>rw[q] at h;cases h
      |some z=>rw[q] at h;cases h;rfl
     ·rw[List.getElem?_append_right (by simpa using hi),List.getElem?_replicate] at h
      split at h<;>cases h
   refine⟨⟨Same.refl _,sH,fh.trans sH,λ_ h=>.inl h⟩,?_,λi y h=>?_,λi j y z v w h1 h2 _ _ hne b hb hc=>?_⟩
   ·unfold L2.start stE
    simp[hla]
   ·rcases at' i y h with⟨rfl,rfl⟩ | ⟨j,rfl,hx⟩
    ·exact⟨.ref a,by simp[L2.start],[],rfl,zr,rfl,fh.free nx,nx,rfl,by rw[zh nex];exact zr,fh.free ndx,ndx⟩
    ·obtain⟨v,hv,r⟩:=jh hp hx
     refine⟨v,?_,?_⟩
     ·unfold L2.start
      rw[List.getElem?_append_left (by simpa using (List.getElem?_eq_some_iff.mp hv).1),List.getElem?_map,List.getElem?_cons_succ,hv];rfl
     ·cases y with
      |val d=>exact r
      |bor ds=>exact r
      |acc ds=>exact r.elim
      |oac a dx C fs ds=>exact r.elim
      |tre t=>exact r.elim
      |dct oa kvs=>exact r.elim
      |dbo kvs=>exact r
      |exn a=>exact r
   ·have own0:∀(i:Nat) y v b,(stE N (some (.oac a dx C [] [])::xs.map some))[i]?=some (some y)->b∈feetE (upd (upd H1 dx (.own a)) a (.ins C dx [])) y v->i=0:=λi y v b h o=>by
     rcases at' i y h with⟨rfl,_⟩ | ⟨j,rfl,hx⟩
     ·rfl
     ·obtain⟨u,_,r⟩:=jh hp hx
      cases y with
      |val d=>cases o
      |bor ds=>cases o
      |acc ds=>exact r.elim
      |oac a dx C fs ds=>exact r.elim
      |tre t=>exact r.elim
      |dct oa kvs=>exact r.elim
      |dbo kvs=>cases o
      |exn a=>cases o
    exact hne (by rw[own0 i y v b h1 hb,own0 j z w b h2 hc])
  unfold mirI at hm
  cases q:g (stE N (some (.oac a dx C [] [])::xs.map some)) with
  |none=>rw[q] at hm;cases hm
  |some fl=>
   rw[q] at hm
   refine⟨F0,_,fl,R,q,?_⟩
   cases fl with
   |next Z=>
    refine λσ' F' H' r s=>?_
    replace hm:outJ a dx C Z[0]?=some (fs,ds):=hm
    unfold outJ at hm
    split at hm
    ·rename_i a' d' C' fs' ds' q0
     split at hm
     ·rename_i hc
      obtain⟨rfl,rfl,rfl⟩:=hc
      cases hm
      obtain⟨v,_,vs,rfl,h1,h2,h3,_,h5,d1,d2,_⟩:=r.ents 0 _ q0
      exact k F' H' vs r.ex h3 h1 h2 h5 ⟨d1,d2⟩
     ·cases hm
    ·cases hm
   |ret o'=>cases hm
   |brk Z=>cases hm
   |cont Z=>cases hm
end
section
variable {X:Cx}{B:Bs}{e a b c o:Expr}{es:List Expr}{pos p apos:Pos}{g:EnvD->Option D}{gxs:EnvD->Option (List En)}{x mm:Str}{C:Addr}{n k:Nat}{m:List En->Option En}
def fNeg:D->Option D
 |.int i=>some (.int (-i))
 |_=>none
def gNeg (g:EnvD->Option D):EnvD->Option D:=λZ=>(g Z).bind fNeg
theorem qu (ha:DR X B a g):DE X B (.UnaryOp .USub a pos) (gNeg g) :=
 zo (zcx zag ha) λσ H Q ⟨F,Z,d,r,hg,k⟩=>by
  unfold gNeg at hg
  cases q:g Z with
  |none=>rw[q] at hg;cases hg
  |some y=>
   rw[q] at hg
   cases y with
   |int i=>cases hg;exact⟨F,Z,_,r,q,λv F1 H1 e1 p1=>⟨i,p1.int,k _ F1 H1 e1 rfl⟩⟩
   |_=>cases hg
structure Fx (P:Program)(w:World)(K:PySem.W.Frag)(mg:Str->Option Value)(base:Heap)(x:Str)(k n:Nat)(m:List En->Option En):Prop where
 ex:∃f fd ps,FnOk P w K mg base CX0 k f fd ps (pSp ⟨K,w⟩ n (len? n m))/\mg x=some (.ref f)/\keepIn K (.ref f)=true/\Binds K fd ps []
structure Mx (P:Program)(w:World)(K:PySem.W.Frag)(mg:Str->Option Value)(base:Heap)(C:Addr)(x:Str)(k n:Nat)(m:List En->Option En):Prop where
 ex:∃f fd ps,FnOk P w K mg base CX0 k f fd ps (pSp ⟨K,w⟩ n (len? n m))/\Meth K C x f/\Binds K fd ps []
structure Kx (P:Program)(w:World)(K:PySem.W.Frag)(mg:Str->Option Value)(base:Heap)(C:Addr)(x:Str)(k n:Nat)(mi:List En->Option (List Str×List D)):Prop where
 ex:∃f fd ps mi',FnOk P w K mg base CX0 k f fd ps (iSp ⟨K,w⟩ C n mi')/\Mk K C f/\mg x=some (.ref C)/\Binds K fd ps []/\∀a dx xs,mi' a dx xs=mi xs
theorem zw (h:Fx X.prog X.w X.kw X.mg X.base x k n m)(hr:Room k X.A)(hg:Gl X x)(ha:DNs X B (e::es) gxs)(hdb:#[8]=false:=by decide +kernel)
  (he:starEach (e::es) X.env=(false,eval e X.env)::starEach es X.env:=by rfl) (hpl:#[11].any (·.1)=false:=by rfl):DE X B #[12] (gCall (len? n m) frzO gxs):=by
 obtain⟨f,fd,ps,F,hm,hk,hb⟩:=h.ex
 exact UX F hr hg hm hk hb ha hdb he hpl
theorem yi (h:Fx X.prog X.w X.kw X.mg X.base x k n m)(hr:Room k X.A)(hg:Gl X x)(ha:DNs X B (e::es) gxs)(hdb:#[8]=false:=by decide +kernel)
  (he:starEach (e::es) X.env=(false,eval e X.env)::starEach es X.env:=by rfl) (hpl:#[11].any (·.1)=false:=by rfl):DA X B #[12] (gCall (len? n m) accO gxs):=by
 obtain⟨f,fd,ps,F,hm,hk,hb⟩:=h.ex
 exact K5 F hr hg hm hk hb ha hdb he hpl
theorem ZV {pl:Sem Bool}(ho:DE X B o g)(cl:Cls X.kw C)(h:Mx X.prog X.w X.kw X.mg X.base C mm k n m)(hr:Room k X.A)(ha:DNs X B (e::es) gxs)
  (hst:starEach (e::es) X.env=(false,eval e X.env)::starEach es X.env:=by rfl) (hpl:#[11].any (·.1)=false:=by rfl)
  (ht:eval (.Call (.Attribute o mm apos) (e::es) [] pos) X.env=(do
   let ov <-eval o X.env
   standAt apos.atName
   let (f,first) <-holding [ov] (getMethod ov mm pl)
   callWith pos f first (backTo pos (starEach (e::es) X.env)) (backToKw pos (keywordEach [] X.env))):=by rfl) :
  DE X B (.Call (.Attribute o mm apos) (e::es) [] pos) (gMeth C mm (len? n m) frzO g gxs):=by
 obtain⟨f,fd,ps,F,hm,hb⟩:=h.ex
 exact zak ho cl hm F hr hb ha hst hpl ht
theorem yx {pl:Sem Bool}(ho:DE X B o g)(cl:Cls X.kw C)(h:Mx X.prog X.w X.kw X.mg X.base C mm k n m)(hr:Room k X.A)
  (ht:eval (.Call (.Attribute o mm apos) [] [] pos) X.env=(do
   let ov <-eval o X.env
   standAt apos.atName
   let (f,first) <-holding [ov] (getMethod ov mm pl)
   callWith pos f first (backTo pos (starEach [] X.env)) (backToKw pos (keywordEach [] X.env))):=by rfl) :
  DE X B (.Call (.Attribute o mm apos) [] [] pos) (gMeth C mm (len? n m) frzO g nNil):=by
 obtain⟨f,fd,ps,F,hm,hb⟩:=h.ex
 exact RP ho cl hm F hr hb ht
theorem Zd {mi:List En->Option (List Str×List D)}(h:Kx X.prog X.w X.kw X.mg X.base C x k n mi)(hr:Room (k+1) X.A)(hg:Gl X x)(ha:DNs X B (e::es) gxs)(hdb:#[8]=false:=by decide +kernel)
  (he:starEach (e::es) X.env=(false,eval e X.env)::starEach es X.env:=by rfl) (hpl:#[11].any (·.1)=false:=by rfl):DE X B #[12] (gMake C n mi gxs):=by
 obtain⟨f,fd,ps,mi',F,M,hm,hb,hmi⟩:=h.ex
 exact Km hmi M F hr hg hm hb ha hdb he hpl
theorem y2 {gs:EnvD->Option (List D)}(hg:Gl X "len") (hm:X.mg "len" = none) (ha:DRs X B [a] gs) (he:starEach [a] X.env=(false,eval a X.env)::starEach [] X.env:=by rfl) (hpl:(backTo pos (starEach [] X.env)).any (·.1)=false:=by rfl) :
  DE X B (.Call (.Name "len" p) [a] [] pos) (gB fLen gs):=qK Ru UE hg hm #[6] ha (by decide) (by decide) he hpl
theorem GQ {gs:EnvD->Option (List D)}(hc:X.calm=true)(hg:Gl X "max") (hm:X.mg "max" = none) (ha:DRs X B [a,b] gs) (he:starEach [a,b] X.env=(false,eval a X.env)::starEach [b] X.env:=by rfl) (hpl:(backTo pos (starEach [b] X.env)).any (·.1)=false:=by rfl) :
  DE X B (.Call (.Name "max" p) [a,b] [] pos) (gB fMax gs):=qK (zap hc) K1 hg hm #[6] ha (by decide) (by decide) he hpl
theorem qJ {gs:EnvD->Option (List D)}(hc:X.calm=true)(hg:Gl X "min") (hm:X.mg "min" = none) (ha:DRs X B [a,b] gs) (he:starEach [a,b] X.env=(false,eval a X.env)::starEach [b] X.env:=by rfl) (hpl:(backTo pos (starEach [b] X.env)).any (·.1)=false:=by rfl) :
  DE X B (.Call (.Name "min" p) [a,b] [] pos) (gB fMin gs):=qK (zde hc) zcb hg hm #[6] ha (by decide) (by decide) he hpl
theorem VX {gs:EnvD->Option (List D)}(hc:X.calm=true)(hg:Gl X "all") (hm:X.mg "all" = none) (ha:DRs X B [a] gs) (he:starEach [a] X.env=(false,eval a X.env)::starEach [] X.env:=by rfl) (hpl:(backTo pos (starEach [] X.env)).any (·.1)=false:=by rfl) :
  DE X B (.Call (.Name "all" p) [a] [] pos) (gB fAll gs):=qK (zaz hc) QP hg hm #[6] ha (by decide) (by decide) he hpl
theorem vw {gs:EnvD->Option (List D)}(hg:Gl X "list") (hm:X.mg "list" = none) (ha:DRs X B [a] gs) (he:starEach [a] X.env=(false,eval a X.env)::starEach [] X.env:=by rfl) (hpl:(backTo pos (starEach [] X.env)).any (·.1)=false:=by rfl) :
  DA X B (.Call (.Name "list" p) [a] [] pos) (gB fList gs):=zcm RI zen hg hm #[6] ha (by decide) (by decide) he hpl
theorem kitT {K:PySem.W.Frag}(T:String)(hT:T∈["bool","int","str","list","tuple","dict"]):∀t b,subT t T=some b->kitOne K (.type t) (.type T)=some b:=by
 intro t b h
 unfold subT at h
 by_cases h1:t=T
 ·rw[if_pos h1] at h
  cases h
  subst h1
  unfold kitOne
  rw[if_pos (beq_self_eq_true _)]
 ·rw[if_neg h1] at h
  by_cases h2:t = "bool" /\ T = "int"
  ·rw[if_pos h2] at h
   cases h
   obtain⟨rfl,rfl⟩:=h2
   rfl
  ·rw[if_neg h2] at h
   by_cases h3:(t∈["NoneType","bool","int","str","list","tuple","dict"])/\(T∈["bool","int","str","list","tuple","dict"])
   ·rw[if_pos h3] at h
    cases h
    obtain⟨m1,m2⟩:=h3
    simp only[List.mem_cons,List.not_mem_nil,or_false] at m1 m2
    rcases m1 with rfl | rfl | rfl | rfl | rfl | rfl | rfl<;>rcases m2 with rfl | rfl | rfl | rfl | rfl | rfl<;>first | rfl | exact absurd rfl h1 | exact absurd ⟨rfl,rfl⟩ h2
   ·rw[if_neg h3] at h;cases h
def ckFree (sc:List (Str×NameKind))(y:Str×NameKind):Bool:=y.2 != .free||sc.lookup y.1==some .cell||sc.lookup y.1==some .free
def ckComp (names sc:List (Str×NameKind))(N:List Str)(cap:List (Str×Nat)):Bool :=
 names.all (λy=>y.2 != .cell)&&names.all (λy=>y.2 != .local||names.lookup y.1==some .local)&&names.all (ckFree sc)&&cap.all (λp=>names.lookup p.1==some .free&&N[p.2]?==some p.1)
theorem yC {scope:Scope}{own:List Str}{cap:List (Str×Nat)}{sc:List (Str×NameKind)}{N:List Str}(hk:scope.kind=.function)(h1:X.env.scope.names=sc)(h2:X.N=N)(h:ckComp scope.names sc N cap=true):CompScope X scope own cap:=by
 subst h1 h2
 unfold ckComp at h
 simp only[Bool.and_eq_true,List.all_eq_true] at h
 obtain⟨⟨⟨a1,a2⟩,a3⟩,a4⟩:=h
 refine⟨hk,λy hy e=>?_,λy hy e=>?_,λy hy e=>?_,λp hp=>?_⟩
 ·have:=a1 y hy;rw[e] at this;cases this
 ·have:=a2 y hy;rw[e] at this;simpa using this
 ·have:=a3 y hy
  unfold ckFree at this
  rw[e] at this
  have q:List.lookup y.fst X.env.scope.names=some NameKind.cell∨List.lookup y.fst X.env.scope.names=some NameKind.free:=by simpa using this
  exact q
 ·have:=a4 p hp
  simpa using this
end
def thenB (o:Option Fl)(g:SD):Option Fl:=o.bind λfl=>match fl with | .next Z'=>g Z' | fl=>some fl
def loopB (o:Option Fl)(k:EnvD->Option Fl):Option Fl:=o.bind λfl=>match fl with | .next Z2=>k Z2 | .cont Z2=>k Z2 | .brk Z2=>some (.next Z2) | .ret o=>some (.ret o)
section
variable {Z:EnvD}{i k n:Nat}{d x y:D}{ds es:List D}{a b j:Int}{α γ:Type}{ga gb gc' g:EnvD->Option D}{ta tb:EnvD->Option Bool}{gs:EnvD->Option (List D)}{s1 s2:SD}
@[simp]theorem Jm:gc d Z=some d:=rfl
@[simp]theorem zkb:gv i Z=match Z[i]? with | some (some (.val d))=>some d | _=>none:=rfl
@[simp]theorem zjf:gr i Z=match Z[i]? with | some (some (.val d))=>some d | some (some (.acc ds))=>some (.lst ds) | some (some (.bor ds))=>some (.lst ds) | _=>none:=rfl
@[simp]theorem zgs:gn i Z=match Z[i]? with | some (some (.val d))=>some (.val d) | some (some (.acc ds))=>some (.bor ds) | some (some (.bor ds))=>some (.bor ds) | some (some (.dct _ kvs))=>some (.dbo kvs) | some (some (.dbo kvs))=>some (.dbo kvs) | _=>none:=rfl
@[simp]theorem zg8:gf i Z=match Z[i]? with | some (some (.val d))=>some d | some (some (.bor ds))=>some (.lst ds) | _=>none:=rfl
@[simp]theorem zjj:gFz gs Z=(gs Z).map D.lst:=rfl
@[simp]theorem vx {f:D->D->Option γ}:g2 f ga gb Z=(ga Z).bind λx=>(gb Z).bind λy=>f x y:=rfl
@[simp]theorem zh2 {f f':D->D->Option D}:g3 f f' ga gb gc' Z=(ga Z).bind λx=>(gb Z).bind λy=>((f x y).bind asB).bind λk=>if k then (gc' Z).bind λz=>f' y z else some (.bl false):=rfl
@[simp]theorem zji:gt g Z=(g Z).bind truD:=rfl
@[simp]theorem vX:gb' g Z=(g Z).bind asB:=rfl
@[simp]theorem zhr:gAnd ta tb Z=(ta Z).bind λx=>if x then tb Z else some false:=rfl
@[simp]theorem zig:gOr ta tb Z=(ta Z).bind λx=>if x then some true else tb Z:=rfl
@[simp]theorem zg2:gNot ta Z=(ta Z).map λx=>!x:=rfl
@[simp]theorem Rr:gAndV ga gb Z=((ga Z).bind asB).bind λx=>if x then gb Z else some (.bl false):=rfl
@[simp]theorem zi8:gNotV ga Z=((ga Z).bind asB).map λx=>.bl (!x):=rfl
@[simp]theorem zin:gIf ta ga gb Z=(ta Z).bind λx=>if x then ga Z else gb Z:=rfl
@[simp]theorem zjm:gNil Z=some []:=rfl
@[simp]theorem zjh:gCons' g gs Z=(g Z).bind λd=>(gs Z).bind λds=>some (d::ds):=rfl
@[simp]theorem zkh:gTup' gs Z=(gs Z).bind λds=>if ds.length<=TOP then some (.tup ds) else none:=rfl
@[simp]theorem zgo:gLst gs Z=(gs Z).bind λds=>if ds.length<=TOP then some ds else none:=rfl
@[simp]theorem zkc {f:List D->Option γ}:gB f gs Z=(gs Z).bind f:=rfl
@[simp]theorem zj1:nNil Z=some []:=rfl
@[simp]theorem Vv {g:EnvD->Option En}{gs:EnvD->Option (List En)}:nCons g gs Z=(g Z).bind λd=>(gs Z).bind λds=>some (d::ds):=rfl
@[simp]theorem zct:gVal g Z=(g Z).map En.val:=rfl
@[simp]theorem zgn {T:String}:gIs T g Z=(g Z).bind λd=>(tyD d).bind λt=>(subT t T).map D.bl:=rfl
@[simp]theorem zhb:gNone Z=some none:=rfl
@[simp]theorem zim:gSome g Z=(g Z).bind λd=>(asI d).map some:=rfl
@[simp]theorem zhu:gNeg g Z=(g Z).bind fNeg:=rfl
@[simp]theorem zjd:gIt g Z=(g Z).bind itL:=rfl
@[simp]theorem zgw {gl gh:EnvD->Option (Option Int)}:gSl g gl gh Z=(g Z).bind λd=>(gl Z).bind λl=>(gh Z).bind λh=>match d with | .lst ds=>some (cutD ds l h) | _=>none:=rfl
@[simp]theorem zkf:fNeg (.int a)=some (.int (-a)):=rfl
@[simp]theorem zgl:itL (.lst ds)=some ds:=rfl
@[simp]theorem zg5:asI (.int a)=some a:=rfl
@[simp]theorem zke {b:Bool}:asB (.bl b)=some b:=rfl
@[simp]theorem zee {m:List En->Option En}{f:En->Option α}{gs:EnvD->Option (List En)}:gCall m f gs Z=((gs Z).bind m).bind f:=rfl
@[simp]theorem zil {m:List En->Option En}{xs:List En}:len? n m xs=if xs.length=n then m xs else none:=rfl
@[simp]theorem zj9:frzO (.val d)=some d:=rfl
@[simp]theorem zgq:frzO (.acc ds)=some (.lst ds):=rfl
@[simp]theorem zkr:frzO (.bor ds)=none:=rfl
@[simp]theorem zjg {p q C:Addr}{fs:List Str}:frzO (.oac p q C fs ds)=none:=rfl
@[simp]theorem zki {t:OT}:frzO (.tre t)=some t.erase:=rfl
@[simp]theorem zjw {t:OT}:accO (.tre t)=none:=rfl
@[simp]theorem zh1:accO (.val d)=none:=rfl
@[simp]theorem zh6:accO (.bor ds)=none:=rfl
@[simp]theorem zhx:accO (.acc ds)=some ds:=rfl
@[simp]theorem zi5:gR1 gs Z=(gs Z).bind λxs=>match xs with | [.int j]=>if -BIG<=j/\j<=BIG then some (rngD 0 j.toNat) else none | _=>none:=rfl
@[simp]theorem zgj:gR2 gs Z=(gs Z).bind λxs=>match xs with | [.int i,.int j]=>if (-BIG<=i/\i<=BIG)/\(-BIG<=j/\j<=BIG) then some (rngD i (j - i).toNat) else none | _=>none:=rfl
@[simp]theorem zi9:gEn gs Z=(gs Z).bind λxs=>match xs with | [d]=>(itL d).map (enumD 0) | _=>none:=rfl
@[simp]theorem Qi {C:Addr}{fl:Str}:gFld C fl g Z=(g Z).bind λd=>match d with | .obj C' fs ds=>if C'=C then lookZ fl fs ds else none | _=>none:=rfl
@[simp]theorem wq {C:Addr}{mm:Str}{m:List En->Option En}{f:En->Option α}{go:EnvD->Option D}{gs:EnvD->Option (List En)}:gMeth C mm m f go gs Z=(go Z).bind λd=>match d with
 |.obj C' fs ds=>if C'=C/\lookZ mm fs ds=none then ((gs Z).bind λxs=>m (.val d::xs)).bind f else none
 |_=>none:=rfl
@[simp]theorem zjb {C:Addr}{mi:List En->Option (List Str×List D)}{gs:EnvD->Option (List En)}:gMake C n mi gs Z=(gs Z).bind λxs=>if xs.length=n then (mi xs).map λr=>.obj C r.1 r.2 else none:=rfl
@[simp]theorem zga {own:List Str}{cap:List (Str×Nat)}{t:Tgt}{tc:EnvD->Option Bool}{ge:EnvD->Option D}{gi:EnvD->Option (List D)}:gComp own cap t tc ge gi Z=(gi Z).bind λds=>if ds.length<=TOP then compD t tc ge #[9] ds else none:=rfl
@[simp]theorem zia {cap:List (Str×Nat)}:capE Z cap=cap.map λp=>capO Z[p.2]?:=rfl
@[simp]theorem zcj:tYes Z=some true:=rfl
@[simp]theorem ziy:fSub (.int a) (.int b)=some (.int (a - b)):=rfl
theorem WC:fMul (.int a) (.int b)=if (decide (-LIM < a)&&decide (a < LIM))||(decide (-LIM < b)&&decide (b < LIM)) then some (.int (a * b)) else none:=rfl
theorem VU (h1:-LIM < a)(h2:a < LIM):fMul (.int a) (.int b)=some (.int (a * b)):=by rw[WC,if_pos (by simp[h1,h2])]
theorem zjy (h1:-LIM < b)(h2:b < LIM):fMul (.int a) (.int b)=some (.int (a * b)):=by rw[WC,if_pos (by simp[h1,h2])]
theorem G7:fDiv (.int a) (.int b)=if decide (0 < b)&&decide (b < 1073741824) then some (.int (a / b)) else none:=rfl
theorem za6:fMod (.int a) (.int b)=if decide (0 < b) then some (.int (a % b)) else none:=rfl
theorem xK (h1:0 < b)(h2:b < 1073741824):fDiv (.int a) (.int b)=some (.int (a / b)):=by rw[G7,if_pos (by simp[h1,h2])]
theorem zR (h1:0 < b):fMod (.int a) (.int b)=some (.int (a % b)):=by rw[za6,if_pos (by simp[h1])]
theorem W6 (h1:0<=b):fShr (.int a) (.int b)=some (.int (a / 2 ^ b.toNat)):=by show (if _ then _ else _)=_;rw[if_pos (by simp[h1])]
@[simp]theorem zhn:fAnd (.int a) (.int b)=some (.int (Builtin.bitAnd a b)):=rfl
theorem ziw:fPow (.int a) (.int b)=if decide (0<=b)&&decide (b<=1000000)&&decide (a.natAbs < 18446744073709551616) then some (.int (a ^ b.toNat)) else none:=rfl
@[simp]theorem zj8:fLt (.int a) (.int b)=some (.bl (decide (a < b))):=rfl
@[simp]theorem zir:fLe (.int a) (.int b)=some (.bl (decide (a<=b))):=rfl
@[simp]theorem zgv:fGt (.int a) (.int b)=some (.bl (decide (b < a))):=rfl
@[simp]theorem ziq:fIx (.lst ds) (.int a)=atI ds a:=rfl
@[simp]theorem zgd:fIx (.tup ds) (.int a)=atI ds a:=rfl
@[simp]theorem zj6 {ns:List Int}:fIx (.scr ns) (.int a)=(atI ns a).map D.int:=rfl
theorem Vo:eqOk (.int a)=true:=by simp[eqOk,SeqAt.shaped,toP,PyData.canLay0,PyData.depth]
@[simp]theorem zgr {neg:Bool}:fEq neg (.int a) (.int b)=some (.bl (if neg then !decide (a=b) else decide (a=b))):=by
 unfold fEq
 rw[Vo,Vo]
 have:eqD (.int a) (.int b)=decide (a=b):=by
  by_cases h:a=b
  ·subst h;simp[eqD,toP,PyData.eqv]
  ·simp[eqD,toP,PyData.eqv,h]
 rw[this];rfl
@[simp]theorem zhy {neg:Bool}:fIs neg d .non=some (.bl (if neg then !isNon d else isNon d)):=by cases d<;>rfl
@[simp]theorem zj7:isNon .non=true:=rfl
@[simp]theorem zi2:isNon (.int a)=false:=rfl
@[simp]theorem zho {b:Bool}:truD (.bl b)=some b:=rfl
@[simp]theorem zh4:truD (.lst ds)=some (!ds.isEmpty):=rfl
@[simp]theorem zj4:truD (.tup ds)=some (!ds.isEmpty):=rfl
@[simp]theorem zk1:fLen [.lst ds]=some (.int ds.length):=rfl
@[simp]theorem zhi:fLen [.tup ds]=some (.int ds.length):=rfl
@[simp]theorem zko {ns:List Int}:fLen [.scr ns]=some (.int ns.length):=rfl
@[simp]theorem zih:fMax [.int a,.int b]=some (.int (max a b)):=by
 show some (D.int (if b > a then b else a))=_
 congr 2;split<;>omega
@[simp]theorem zg6:fMin [.int a,.int b]=some (.int (min a b)):=by
 show some (D.int (if b < a then b else a))=_
 congr 2;split<;>omega
@[simp]theorem zii:fAll [.lst ds]=(asBs ds).map λbs=>.bl (bs.all λx=>x):=rfl
@[simp]theorem ziz:fList [.lst ds]=some ds:=rfl
@[simp]theorem zju:fList [.tup ds]=some ds:=rfl
@[simp]theorem zkq:tyD (.int a)=some "int" := rfl
@[simp]theorem zjo {b:Bool}:tyD (.bl b)=some "bool" := rfl
@[simp]theorem zgg:tyD .non=some "NoneType" := rfl
@[simp]theorem zk0:tyD (.lst ds)=some "list" := rfl
@[simp]theorem zkm:tyD (.tup ds)=some "tuple" := rfl
@[simp]theorem zhc {x:Str}:tyD (.str x)=some "str" := rfl
@[simp]theorem zie:subT "int" "int" = some true:=by decide
@[simp]theorem zi4:subT "int" "bool" = some false:=by decide
@[simp]theorem zks:subT "NoneType" "int" = some false:=by decide
@[simp]theorem zix:subT "list" "list" = some true:=by decide
@[simp]theorem zk6:subT "tuple" "tuple" = some true:=by decide
@[simp]theorem zhs:sSeq s1 s2 Z=thenB (s1 Z) s2:=rfl
@[simp]theorem ziv:thenB (some (.next Z)) s2=s2 Z:=rfl
@[simp]theorem zh0 {o:En}:thenB (some (.ret o)) s2=some (.ret o):=rfl
@[simp]theorem zhg:thenB none s2=none:=rfl
@[simp]theorem zhv {k:EnvD->Option Fl}:loopB (some (.next Z)) k=k Z:=rfl
@[simp]theorem zis {k:EnvD->Option Fl}{o:En}:loopB (some (.ret o)) k=some (.ret o):=rfl
@[simp]theorem zky {k:EnvD->Option Fl}:loopB none k=none:=rfl
@[simp]theorem zhd:sNext Z=some (.next Z):=rfl
@[simp]theorem zk3:sNever Z=none:=rfl
@[simp]theorem zg1:sFrz i s1 Z=s1 (frzE i Z):=rfl
@[simp]theorem zg4:frzE i Z=match Z[i]? with | some (some (.acc ds))=>Z.set i (some (.val (.lst ds))) | some (some (.oac _ _ C fs ds))=>Z.set i (some (.val (.obj C fs ds))) | some (some (.tre t))=>Z.set i (some (.val t.erase)) | _=>Z:=rfl
@[simp]theorem zjv:sSet i g Z=(g Z).map λd=>.next (Z.set i (some (.val d))):=rfl
@[simp]theorem zkp:sSetA i gs Z=(gs Z).map λds=>.next (Z.set i (some (.acc ds))):=rfl
@[simp]theorem WF:sRet g Z=(g Z).map λd=>.ret (.val d):=rfl
@[simp]theorem zkg:sRetA gs Z=(gs Z).map λd=>.ret (.acc d):=rfl
@[simp]theorem zhm:sRetV i Z=match Z[i]? with | some (some (.acc ds))=>some (.ret (.acc ds)) | some (some (.val d))=>some (.ret (.val d)) | _=>none:=rfl
@[simp]theorem Qk:sIf ta s1 s2 Z=(ta Z).bind λb=>if b then s1 Z else s2 Z:=rfl
@[simp]theorem zif:sExpr g Z=(g Z).map λ_=>.next Z:=rfl
@[simp]theorem zkn:sApp i g Z=match Z[i]? with | some (some (.acc ds))=>(g Z).bind λd=>if ds.length<=TOP then some (.next (Z.set i (some (.acc (ds++[d]))))) else none | _=>none:=rfl
@[simp]theorem zi7:sPop i Z=match Z[i]? with | some (some (.acc ds))=>if ds.isEmpty then none else some (.next (Z.set i (some (.acc ds.dropLast)))) | _=>none:=rfl
@[simp]theorem zh7 {gi:EnvD->Option D}:sPut i gi g Z=match Z[i]? with | some (some (.acc ds))=>(g Z).bind λd=>((gi Z).bind asI).bind λj=>(ixN ds.length j).map λn=>.next (Z.set i (some (.acc (ds.set n d)))) | _=>none:=rfl
@[simp]theorem zje {C:Addr}{fl:Str}:sFldD i C fl g Z=match Z[i]? with | some (some (.oac a dx C' fs ds))=>if C'=C/\fs.length < 900 then (g Z).map λd=>.next (Z.set i (some (.oac a dx C (putZ fl d fs ds).1 (putZ fl d fs ds).2))) else none | _=>none:=rfl
@[simp]theorem zhp {t:Tgt}{gi:EnvD->Option (List D)}:sFor t gi s1 Z=(gi Z).bind λds=>forD t s1 ds Z:=rfl
@[simp]theorem zao:asgD (.name i) d Z=some (Z.set i (some (.val d))):=rfl
@[simp]theorem zio {is:List Nat}:asgD (.tup is) (.tup ds) Z=if ds.length=is.length then some (z7 is ds Z) else none:=rfl
@[simp]theorem zj3 {is:List Nat}:z7 (i::is) (d::ds) Z=z7 is ds (Z.set i (some (.val d))):=rfl
@[simp]theorem zgk:z7 [] [] Z=Z:=rfl
@[simp]theorem zjn {o:En}:outO (some (.ret o))=some o:=rfl
@[simp]theorem zh9:outO (some (.next Z))=some (.val .non):=rfl
@[simp]theorem zh8 {t:Tgt}:forD t s1 [] Z=some (.next Z):=rfl
@[simp]theorem yw {t:Tgt}:forD t s1 (d::ds) Z=loopB ((asgD t d Z).bind s1) (forD t s1 ds):=by
 show ((asgD t d Z).bind λZ1=>(s1 Z1).bind λfl=>_)=_
 cases asgD t d Z with
 |none=>rfl
 |some Z1=>rfl
@[simp]theorem zg0 {t:Tgt}:compD t ta g Z []=some []:=rfl
@[simp]theorem jl {t:Tgt}:compD t ta g Z (d::ds)=(asgD t d Z).bind λZ1=>(ta Z1).bind λb=>if b then (g Z1).bind λy=>(compD t ta g Z ds).map (y::·) else compD t ta g Z ds:=rfl
@[simp]theorem zjx:capO (some (some (.val d)))=some (.val d):=rfl
@[simp]theorem zgz:capO (some (some (.acc ds)))=some (.bor ds):=rfl
@[simp]theorem zgi:capO (some (some (.bor ds)))=some (.bor ds):=rfl
@[simp]theorem ziu {oa:Option Addr}{kvs:List (Key×D)}:capO (some (some (.dct oa kvs)))=some (.dbo kvs):=rfl
@[simp]theorem zg7 {kvs:List (Key×D)}:capO (some (some (.dbo kvs)))=some (.dbo kvs):=rfl
theorem xb {xs:List α}{v:α}(n:Nat)(h:xs[n]?=some v):atI xs (n:Int)=some v:=by
 have hl:n < xs.length:=(List.getElem?_eq_some_iff.mp h).1
 unfold atI ixN
 rw[if_pos #[1],if_pos #[1]]
 simpa using h
@[simp]theorem zg9 {xs:List α}{v:α}:atI (v::xs) 0=some v:=xb 0 rfl
@[simp]theorem zhf {xs:List α}{v w:α}:atI (w::v::xs) 1=some v:=xb 1 rfl
@[simp]theorem zgt {xs:List α}{v w u:α}:atI (u::w::v::xs) 2=some v:=xb 2 rfl
@[simp]theorem uF {xs:List α}{v:α}:atI (xs++[v]) (-1)=some v:=by
 unfold atI ixN
 rw[if_neg #[1],if_pos (by simp;omega)]
 simp
 have:(-1+((xs.length:Int)+1)).toNat=xs.length:=by omega
 rw[this];simp
theorem U9 (n:Nat):ixN (n+1) (-1)=some n:=by
 unfold ixN
 rw[if_neg #[1],if_pos #[1]]
 congr 1;omega
theorem qP:∀(lo:Int) (n:Nat),rngD lo n=(List.range n).map λ(k:Nat)=>D.int (lo+k)
 |lo,0=>rfl
 |lo,n+1=>by
  rw[rngD,qP (lo+1) n,List.range_succ_eq_map]
  simp only[List.map_cons,List.map_map]
  congr 1
  ·simp
  ·apply List.map_congr_left
   intro a _
   show D.int _=D.int _
   congr 1
   show lo+1+(a:Int)=lo+((a+1:Nat):Int)
   omega
end
section
variable {X:Cx}{B:Bs}{e a b c o:Expr}{es:List Expr}{pos p apos cpos p2:Pos}{g ga gb go:EnvD->Option D}{gs:EnvD->Option (List D)}{x:Str}
def fPlus:D->D->Option D
 |.int i,.int j=>some (.int (i+j))
 |.str x,.str y=>if x.length+y.length<=TOP then some (.str (x++y)) else none
 |_,_=>none
theorem Uw {K:KW}:OkR K (λx y H Q=>rI0 (λi j=>.int (i+j)) x y H Q∨∃i j,x=.str i/\y=.str j/\i.length+j.length<=sizeLine/\Q (.str (i++j)) H) (pE K) fPlus:=by
 intro F H x y dx dy d Q s rx ry e k
 unfold fPlus at e
 split at e
 ·cases e;exact .inl ⟨_,_,rx.int,ry.int,k _ F H (.refl s) rfl⟩
 ·split at e
  ·rename_i hc
   cases e;exact .inr ⟨_,_,rx.str,ry.str,yf hc,k _ F H (.refl s) rfl⟩
  ·cases e
 ·cases e
theorem zD (ha:DR X B a ga)(hb:DR X B b gb):DE X B (.BinOp a .Add b pos) (g2 fPlus ga gb):=xy (op_add.or Ri) Uw ha hb
def fItem:D->D->Option D
 |.str z,.int i=>if z.length<=TOP then (atI z.cps.toList i).map λc=>.str ⟨#[c]⟩ else none
 |.lst xs,.int i=>atI xs i
 |.tup xs,.int i=>atI xs i
 |.scr ns,.int i=>(atI ns i).map D.int
 |_,_=>none
theorem zfs {K:KW}:OkR K (rIx K) (pE K) fItem:=by
 intro F H x y dx dy d Q s rx ry e k
 cases dx with
 |str z=>
  cases dy with
  |int i=>
   replace e:(if z.length<=TOP then (atI z.cps.toList i).map (λc=>D.str ⟨#[c]⟩) else none)=some d:=e
   split at e
   ·rename_i hc
    cases q:atI z.cps.toList i with
    |none=>rw[q] at e;cases e
    |some c=>
     rw[q] at e
     cases e
     exact .inr (.inr ⟨z,i,c,rx.str,ry.int,yf hc,q,k _ F H (.refl s) rfl⟩)
   ·cases e
  |_=>cases e
 |lst xs=>exact Zu F H x y _ dy d Q s rx ry (by cases dy<;>first | exact e | cases e) k
 |tup xs=>exact Zu F H x y _ dy d Q s rx ry (by cases dy<;>first | exact e | cases e) k
 |scr xs=>exact Zu F H x y _ dy d Q s rx ry (by cases dy<;>first | exact e | cases e) k
 |_=>cases dy<;>cases e
theorem zv (ha:DR X B a ga)(hb:DR X B b gb)(hs:ZF b):DE X B (.Subscript a b pos) (g2 fItem ga gb):=zf9 KA zfs ha hb hs
def rSlS:V->Option Int->Option Int->Hp->VK->Prop:=λx lo hi H Q=>∃z,x=.str z/\z.length<=sizeLine/\Q (.str (Txt.slice z lo hi)) H
theorem Ks:SlR X rSlS:=by
 intro pins s σ H x v vl vu lo hi sl Q I rx hs pl pu h
 obtain⟨z,rfl,hz,q⟩:=h
 obtain⟨t,rfl⟩:=rx
 refine⟨"str",_,PySem.F.slot_str_getitem.lookup,typeIs_str _ _ _,?_⟩
 cases pl with
 |none=>
  cases pu with
  |none=>exact wpAny_getItem_str_slice (l:=none) (u:=none) (st:=none) hs rfl (post_val_or_str ⟨Nat.le_trans (Txt.slice_le z none none) hz,λt' k=>⟨.str _,H,I.tok _,⟨_,rfl⟩,q⟩⟩)
  |int j tj=>exact wpAny_getItem_str_slice (l:=none) (u:=some (j,tj)) (st:=none) hs rfl (post_val_or_str ⟨Nat.le_trans (Txt.slice_le z none (some j)) hz,λt' k=>⟨.str _,H,I.tok _,⟨_,rfl⟩,q⟩⟩)
 |int i ti=>
  cases pu with
  |none=>exact wpAny_getItem_str_slice (l:=some (i,ti)) (u:=none) (st:=none) hs rfl (post_val_or_str ⟨Nat.le_trans (Txt.slice_le z (some i) none) hz,λt' k=>⟨.str _,H,I.tok _,⟨_,rfl⟩,q⟩⟩)
  |int j tj=>exact wpAny_getItem_str_slice (l:=some (i,ti)) (u:=some (j,tj)) (st:=none) hs rfl (post_val_or_str ⟨Nat.le_trans (Txt.slice_le z (some i) (some j)) hz,λt' k=>⟨.str _,H,I.tok _,⟨_,rfl⟩,q⟩⟩)
def gSlS (g:EnvD->Option D)(gl gh:EnvD->Option (Option Int)):EnvD->Option D:=λZ=>(g Z).bind λd=>(gl Z).bind λl=>(gh Z).bind λh=>match d with
 |.str z=>if z.length<=TOP then some (.str (Txt.slice z l h)) else none
 |_=>none
theorem Qr {lo hi:Option Expr}{gl gh:EnvD->Option (Option Int)}(he:DR X B e g)(hl:DO X B lo gl)(hh:DO X B hi gh):DE X B (.Subscript e (.Slice lo hi none p2) pos) (gSlS g gl gh) :=
 zo (WZ Ks he hl hh) λσ H Q ⟨F,Z,d,r,hg,k⟩=>by
  unfold gSlS at hg
  cases q:g Z with
  |none=>rw[q] at hg;cases hg
  |some x=>
   cases ql:gl Z with
   |none=>rw[q,ql] at hg;cases hg
   |some l=>
    cases qh:gh Z with
    |none=>rw[q,ql,qh] at hg;cases hg
    |some h=>
     rw[q,ql,qh] at hg
     cases x with
     |str z=>
      replace hg:(if z.length<=TOP then some (D.str (Txt.slice z l h)) else none)=some d:=hg
      split at hg
      ·rename_i hc
       cases hg
       refine⟨F,Z,_,r,q,λv F1 H1 e1 p1=>⟨F1,Z,l,r.ext e1,ql,λF2 H2 e2=>⟨F2,Z,h,r.ext (e1.trans e2),qh,λF3 H3 e3=>?_⟩⟩⟩
       exact⟨z,p1.str,yf hc,k _ F3 H3 (e1.trans (e2.trans e3)) rfl⟩
      ·cases hg
     |_=>cases hg
def asSs:List D->Option (List Str)
 | []=>some []
 |.str x::r=>(asSs r).map (x::·)
 |_=>none
theorem uY {K:KW}{F:Hp}:∀ {ds:List D} {vs:List V} {bs:List Str},asSs ds=some bs->Rps K F ds vs->vs=bs.map V.str
 | [],_,_,e,h=>by cases e;cases h;rfl
 |.str b::r,_,_,e,⟨v,w,e1,h,t⟩=>by
  subst e1;cases h
  cases q:asSs r with
  |none=>rw[show asSs (.str b::r)=(asSs r).map (b::·) from rfl,q] at e;cases e
  |some bs=>
   rw[show asSs (.str b::r)=(asSs r).map (b::·) from rfl,q] at e
   cases e
   rw[uY q t];rfl
 |.non::_,_,_,e,_=>by cases e
 |.int _::_,_,_,e,_=>by cases e
 |.bl _::_,_,_,e,_=>by cases e
 |.lst _::_,_,_,e,_=>by cases e
 |.tup _::_,_,_,e,_=>by cases e
 |.scr _::_,_,_,e,_=>by cases e
 |.obj _ _ _::_,_,_,e,_=>by cases e
 |.emp::_,_,_,e,_=>by cases e
def gSM (f:D->List D->Option D)(go:EnvD->Option D)(gs:EnvD->Option (List D)):EnvD->Option D:=λZ=>(go Z).bind λd=>(gs Z).bind λds=>f d ds
def rCatS (K:KW):R2:=λx y H Q=>∃l b xs zs,x=.ref l/\y=.ref b/\SqL K H l xs/\SqL K H b zs/\xs.length+zs.length<=sizeLine/\∀p,H p=none->Q (.ref p) (upd H p (.lst (xs++zs)))
theorem zd5:OpR X (binaryOp .Add) (rCatS X.kw):=by
 intro pins s σ H x y v u Q I rx ry h
 obtain⟨l,b,xs,zs,rfl,rfl,hH,hB,hz,q⟩:=h
 cases rx
 cases ry
 obtain⟨its,r,pl,z⟩:=I.list hH
 obtain⟨its2,r2,pl2,z2⟩:=I.list hB
 obtain⟨⟨cls,dd,data,sl⟩,n,ho,hc,hd',hd⟩:=pl
 obtain⟨⟨cls2,dd2,data2,sl2⟩,n2,ho2,hc2,hd2',hd2⟩:=pl2
 simp only at hc hd hc2 hd2
 subst hc hd hc2 hd2
 have e:its.toArray++its2.toArray=(its++its2).toArray:=by simp
 have l1:=r.length
 have l2:=r2.length
 refine concat_meets ⟨_,ho,rfl⟩ ⟨_,ho2,rfl⟩ noFill_list_add seq_list_add PySem.F.slot_list_add PySem.F.entry_list_add (PySem.F.args_list_add_2 _ _) (list_addW l b its.toArray its2.toArray n n2 dd dd2 sl sl2 (by simp;omega)) ⟨ho,ho2,?_⟩
 rw[e]
 exact⟨.ref _,_,I.lnew (t':=s.toks) (r.append r2) (by rw[List.length_append];omega),rfl,q _ I.fresh⟩
def fCatS:D->D->Option (List D):=λx y=>(itL x).bind λxs=>(itL y).bind λys=>if xs.length+ys.length<=TOP then some (xs++ys) else none
theorem KJ {K:KW}:OkR K (rCatS K) (pA K) fCatS:=by
 intro F H x y dx dy d Q s rx ry e k
 unfold fCatS at e
 obtain⟨xs,ys,q1,q2,q3⟩:=bind2 e
 split at q3
 ·rename_i hc
  cases q3
  obtain⟨l,vs,rfl,h2,h1⟩:=ki rx q1
  obtain⟨b,ws,rfl,h4,h3⟩:=ki ry q2
  refine⟨l,b,vs,ws,rfl,rfl,h1 F H (Same.refl _) s (Same.refl _),h3 F H (Same.refl _) s (Same.refl _),yf (by rw[<-h2.length,<-h4.length];exact hc),λp hp=>k _ F _ (.new s hp) ⟨p,_,rfl,hp,zr,s.free hp,h2.append h4⟩⟩
 ·cases q3
theorem y3 (ha:DR X B a ga)(hb:DR X B b gb):DA X B (.BinOp a .Add b pos) (g2 fCatS ga gb):=JM zd5 KJ ha hb
def fInt:List D->Option D
 | [.int i]=>some (.int i)
 | [.bl b]=>some (.int (if b then 1 else 0))
 |_=>none
theorem G0 {K:KW}:CallOk K (λxs H Q=>(∃i,xs=[.int i]/\Q (.int i) H)∨∃k,xs=[.bl k]/\Q (.int (if k then 1 else 0)) H) (pE K) fInt:=by
 intro F H vs ds d Q s hp e k
 unfold fInt at e
 split at e
 ·cases e
  obtain⟨v,rfl,r⟩:=pair1 hp
  cases r.int
  exact .inl ⟨_,rfl,k _ F H (.refl s) rfl⟩
 ·cases e
  obtain⟨v,rfl,r⟩:=pair1 hp
  cases r.bl
  exact .inr ⟨_,rfl,k _ F H (.refl s) rfl⟩
 ·cases e
theorem JF (hg:Gl X "int") (hm:X.mg "int" = none) (ha:DRs X B [a] gs) (he:starEach [a] X.env=(false,eval a X.env)::starEach [] X.env:=by rfl) (hpl:(backTo pos (starEach [] X.env)).any (·.1)=false:=by rfl) :
  DE X B (.Call (.Name "int" p) [a] [] pos) (gB fInt gs):=ze6 zed G0 hg hm #[6] ha (by decide) (by decide) he hpl
def sAsg (t:Tgt)(g:EnvD->Option D):SD:=λZ=>(g Z).bind λd=>(asgD t d Z).map Fl.next
theorem ZS {tg:Expr}{t:Tgt}(he:DE X B e g)(hg:PG X tg (tgT X.kw t))(hs:swapsWithSole [tg] e pos.line X.env=pure false:=by rfl)(hw:swappedStores [tg] e X.env=pure none:=by rfl)
  (h1:(assignEach [tg] X.env).map (·.2)=[assign tg X.env]:=by rfl):DS X B (.Assign [tg] e pos) (sAsg t g) :=
 zC (uE he hg hs hw h1) λE σ H ⟨F,Z,fl,r,hg,k⟩=>by
  unfold sAsg at hg
  cases q:g Z with
  |none=>rw[q] at hg;cases hg
  |some d=>
   rw[q] at hg
   replace hg:(asgD t d Z).map Fl.next=some fl:=hg
   cases q2:asgD t d Z with
   |none=>rw[q2] at hg;cases hg
   |some Z'=>
    rw[q2] at hg
    cases hg
    exact⟨F,Z,d,r,q,λv F1 H1 e1 p1=>jo (r.ext e1) p1 q2 λσ' r' _=>k σ' F1 H1 r' e1.ff⟩
def whileD (t:EnvD->Option Bool)(gb:SD):Nat->EnvD->Option Fl
 |0,_=>none
 |n+1,Z=>(t Z).bind λb=>if b then (gb Z).bind λfl=>match fl with
  |.next Z2=>whileD t gb n Z2
  |.cont Z2=>whileD t gb n Z2
  |.brk Z2=>some (.next Z2)
  |.ret o=>some (.ret o)
  else some (.next Z)
theorem Yk {t:EnvD->Option Bool}{gb:SD}:∀ {n:Nat} {Z:EnvD} {fl:Fl},whileD t gb n Z=some fl->whileD t gb (n+1) Z=some fl
 |0,_,_,h=>by cases h
 |n+1,Z,fl,h=>by
  rw[whileD] at h ⊢
  cases q:t Z with
  |none=>rw[q] at h;cases h
  |some b=>
   rw[q] at h
   cases b with
   |false=>exact h
   |true=>
    replace h:((gb Z).bind λfl=>match fl with
     |.next Z2=>whileD t gb n Z2
     |.cont Z2=>whileD t gb n Z2
     |.brk Z2=>some (.next Z2)
     |.ret o=>some (.ret o))=some fl:=h
    show ((gb Z).bind λfl=>match fl with
     |.next Z2=>whileD t gb (n+1) Z2
     |.cont Z2=>whileD t gb (n+1) Z2
     |.brk Z2=>some (.next Z2)
     |.ret o=>some (.ret o))=some fl
    cases q2:gb Z with
    |none=>rw[q2] at h;cases h
    |some f=>
     rw[q2] at h
     cases f with
     |next Z2=>exact Yk h
     |cont Z2=>exact Yk h
     |brk Z2=>exact h
     |ret o=>exact h
theorem YB {t:EnvD->Option Bool}{gb:SD}{n m:Nat}{Z:EnvD}{fl:Fl}(hm:n<=m)(h:whileD t gb n Z=some fl):whileD t gb m Z=some fl:=by
 induction hm with
 |refl=>exact h
 |step _ ih=>exact Yk ih
open Classical in
def sWhile (t:EnvD->Option Bool)(gb:SD):SD:=λZ=>if h:∃n fl,whileD t gb n Z=some fl then some (Classical.choose (Classical.choose_spec h)) else none
theorem Zg {t:EnvD->Option Bool}{gb:SD}{n:Nat}{Z:EnvD}{fl:Fl}(h:whileD t gb n Z=some fl):sWhile t gb Z=some fl:=by
 unfold sWhile
 have hx:∃n fl,whileD t gb n Z=some fl:=⟨n,fl,h⟩
 rw[dif_pos hx]
 have q:=Classical.choose_spec (Classical.choose_spec hx)
 generalize Classical.choose (Classical.choose_spec hx)=f at q
 generalize Classical.choose hx=k at q
 have a1:=YB (Nat.le_max_left n k) h
 have a2:=YB (Nat.le_max_right n k) q
 rw[a1] at a2
 exact a2.symm
theorem RW {t:EnvD->Option Bool}{gb:SD}{Z:EnvD}{fl:Fl}(h:sWhile t gb Z=some fl):∃n,whileD t gb n Z=some fl:=by
 unfold sWhile at h
 split at h
 ·rename_i hx
  cases h
  exact⟨_,Classical.choose_spec (Classical.choose_spec hx)⟩
 ·cases h
theorem ur {body:List Stmt}{t:EnvD->Option Bool}{gbd:SD}(hp:PassesOwn #[4] X.A X.env X.xe)(hc:DT X B c t)(hb:DSs X B body gbd):DS X B (.While c body [] pos) (sWhile t gbd) :=
 zC (US hp hc hb) λE σ H ⟨F,Z,fl,r,hg,k⟩=>by
  obtain⟨n,hn⟩:=RW hg
  refine⟨λm σ H=>∃F2 Z2,Rep X.kw B F2 σ H Z2/\Same F F2/\whileD t gbd m Z2=some fl,⟨n,F,Z,r,Same.refl _,hn⟩,?_⟩
  rintro m σ2 H2 ⟨F2,Z2,r2,s2,h2⟩
  cases m with
  |zero=>cases h2
  |succ m=>
   rw[whileD] at h2
   cases q:t Z2 with
   |none=>rw[q] at h2;cases h2
   |some bb=>
    rw[q] at h2
    refine⟨F2,Z2,bb,r2,q,λF3 H3 e3=>?_⟩
    cases bb with
    |false=>
     cases h2
     exact iteF (k σ2 F3 H3 (r2.ext e3) (s2.trans e3.ff))
    |true=>
     refine iteT ⟨λσ' H'=>∃F4 Z4,Rep X.kw B F4 σ' H' Z4/\Same F F4/\whileD t gbd m Z4=some fl,λσ' H' h=>⟨m,Nat.lt_succ_self _,h⟩,?_⟩
     replace h2:((gbd Z2).bind λfl=>match fl with
      |.next Z2=>whileD t gbd m Z2
      |.cont Z2=>whileD t gbd m Z2
      |.brk Z2=>some (.next Z2)
      |.ret o=>some (.ret o))=some fl:=h2
     cases q2:gbd Z2 with
     |none=>rw[q2] at h2;cases h2
     |some f1=>
      rw[q2] at h2
      refine⟨F3,Z2,f1,r2.ext e3,q2,?_⟩
      cases f1 with
      |next Z5=>exact λσ5 F5 H5 r5 s5=>⟨F5,Z5,r5,(s2.trans e3.ff).trans s5,h2⟩
      |cont Z5=>exact λσ5 F5 H5 r5 s5=>⟨F5,Z5,r5,(s2.trans e3.ff).trans s5,h2⟩
      |brk Z5=>cases h2;exact λσ5 F5 H5 r5 s5=>k σ5 F5 H5 r5 ((s2.trans e3.ff).trans s5)
      |ret o=>cases h2;exact k
def MutOk (K:KW)(r:V->List V->Hp->VK->Prop)(f:List D->List D->Option (List D)):Prop :=
 ∀F H a vs ds us es ds' Q,H a=some (.lst vs)->Rps K F ds vs->Paired (λd v=>Rp K F d v) es us->f ds es=some ds'->(∀v vs',Rps K F ds' vs'->Q v (upd H a (.lst vs')))->r (.ref a) us H Q
def sMut (i:Nat)(f:List D->List D->Option (List D))(gs:EnvD->Option (List D)):SD:=λZ=>match Z[i]? with
 |some (some (.acc ds))=>(gs Z).bind λes=>(f ds es).map λds'=>.next (Z.set i (some (.acc ds')))
 |_=>none
variable {nm:Str}{id:String}{r:V->List V->Hp->VK->Prop}{f:List D->List D->Option (List D)}
theorem Gj (i:Nat)(slot:Slot "list" nm id) (hty:typeOf (.builtin id)=pure (.type "method_descriptor")) (hm:MtR X id r) (ok:MutOk X.kw r f) (hx:PE X (.Name x p) (tVar i))
  (hbase:attributeBase (.Name x p) nm X.env (eval (.Name x p) X.env)=eval (.Name x p) X.env:=by rfl) (hline:(apos.endLine==cpos.line)=true:=by rfl)
  (hsw:swapsWith (.Call (.Attribute (.Name x p) nm apos) [] [] cpos) none pos.line X.env=pure false:=by rfl) :
  DS X B (.Expr (.Call (.Attribute (.Name x p) nm apos) [] [] cpos) pos) (sMut i f gNil) :=
 zC (xC (YM PySem.F.plainAttrs_list slot hty hm hx hbase hline) hsw) λE σ H ⟨F,Z,fl,r,hg,k⟩=>by
  unfold sMut at hg
  split at hg
  ·rename_i ds q
   replace hg:((f ds []).map λds'=>Fl.next (Z.set i (some (.acc ds'))))=some fl:=hg
   cases q3:f ds [] with
   |none=>rw[q3] at hg;cases hg
   |some ds'=>
    rw[q3] at hg
    cases hg
    obtain⟨v,hv,a,vs,rfl,h1,h2,h3,h4⟩:=r.ents i _ q
    exact⟨.ref a,hv,.inl ⟨rfl,_,.of h1⟩,ok F H a vs ds [] [] ds' _ h1 h4 .nil q3 λu vs2 h=>k σ F _ (r.write q rfl hv h2 h3 ⟨a,_,rfl,zr,h2,h3,h⟩ rfl) (Same.refl _)⟩
  ·cases hg
def mClear:List D->List D->Option (List D):=λ_ es=>if es.isEmpty then some [] else none
theorem zb5 {K:KW}:MutOk K rClear mClear:=by
 intro F H a vs ds us es ds' Q h1 h2 hp e k
 unfold mClear at e
 cases es with
 |cons=>cases e
 |nil=>
  cases hp
  cases e
  exact⟨a,vs,rfl,rfl,h1,k _ [] rfl⟩
theorem zbr {own:List Str}{cap:List (Str×Nat)}{t:Tgt}{tc:EnvD->Option Bool}{ge:EnvD->Option D}{gi:EnvD->Option (List D)}(ht:∀i∈t.slots,i < own.length) :
  ∀σ H Q,lG X.kw B (pA X.kw) (gComp own cap t tc ge gi) σ H Q->tComp (lI X.kw B (λH=>H) gi) own cap (tgT X.kw t) (λσ H Q=>∃B',lT X.kw B' tc σ H Q) (λσ H Q=>∃B',lG X.kw B' (pE X.kw) ge σ H Q) σ H Q:=by
 intro σ H Q ⟨F,Z,out,r,hg,k⟩
 unfold gComp at hg
 cases q:gi Z with
 |none=>rw[q] at hg;cases hg
 |some ds=>
  rw[q] at hg
  have hg:(if ds.length<=TOP then compD t tc ge #[9] ds else none)=some out:=hg
  split at hg
  ·rename_i htop
   refine⟨F,Z,ds,r,q,λJ F1 H1 e1 jok=>?_⟩
   refine⟨λi m ys H2=>m=ds.length - i/\i<=ds.length/\∃F2 o1 o2,Ext F1 H1 F2 H2/\Rps X.kw F2 o1 ys/\o1.length<=i/\compD t tc ge #[9] (ds.drop i)=some o2/\out=o1++o2,
    ⟨ds.length,rfl,Nat.zero_le _,F1,[],out,.refl e1.fh,rfl,Nat.le_refl _,hg,rfl⟩,?_⟩
   rintro i m ys H2 ⟨rfl,hi,F2,o1,o2,e2,ry,hl1,h2,rfl⟩
   refine⟨yf (by rw[<-ry.length];omega),?_⟩
   obtain⟨j1,j2⟩:=jok F2 H2 e2.ff e2.fh e2.hh i
   by_cases hlt:i < ds.length
   ·obtain⟨go,yl⟩:=j1 hlt
    refine .inr ⟨go,λys' H'=>∃F3 p1 p2,Ext F1 H1 F3 H'/\Rps X.kw F3 p1 ys'/\p1.length<=i+1/\compD t tc ge #[9] (ds.drop (i+1))=some p2/\o1++o2=p1++p2,λys' H' ⟨F3,p1,p2,e3,r3,l3,h3,eo⟩=>⟨ds.length - (i+1),by omega,rfl,hlt,F3,p1,p2,e3,r3,l3,h3,eo⟩,λx H3 hy σ1 hσ=>?_⟩
    obtain⟨F3,d,e3,hd,rd⟩:=yl x H3 hy
    have hdd:ds.drop i=d::ds.drop (i+1):=by
     rw[List.drop_eq_getElem_cons hlt]
     congr 1
     rw[List.getElem?_eq_getElem hlt] at hd
     exact Option.some.inj hd
    rw[hdd] at h2
    simp only[compD] at h2
    cases q1:asgD t d #[9] with
    |none=>rw[q1] at h2;cases h2
    |some Z1=>
     rw[q1] at h2
     have e13:=e2.trans e3
     refine jo (Yi (own:=own) (cap:=cap) r e1 e13 hσ) rd q1 λσ' r4 so=>⟨?_,?_⟩
     ·obtain⟨σ1',l1,e4⟩:=so.pre (σ1:=σ1) rfl (λj hj=>by rw[hσ];exact ht j hj)
      exact⟨σ1',by rw[l1,hσ],e4⟩
     ·have h2:((tc Z1).bind λb=>if b then (ge Z1).bind λy=>(compD t tc ge #[9] (ds.drop (i+1))).map (y::·) else compD t tc ge #[9] (ds.drop (i+1)))=some o2:=h2
      cases q2:tc Z1 with
      |none=>rw[q2] at h2;cases h2
      |some bb=>
       rw[q2] at h2
       refine⟨⟨F1,H1⟩,F3,Z1,bb,r4,q2,λF5 H5 e5=>?_⟩
       cases bb with
       |false=>exact iteF ⟨F5,o1,o2,e13.trans e5,ry.mono (e3.ff.trans e5.ff),by omega,h2,rfl⟩
       |true=>
        have h2:((ge Z1).bind λy=>(compD t tc ge #[9] (ds.drop (i+1))).map (y::·))=some o2:=h2
        cases q3:ge Z1 with
        |none=>rw[q3] at h2;cases h2
        |some y=>
         rw[q3] at h2
         have h2:(compD t tc ge #[9] (ds.drop (i+1))).map (y::·)=some o2:=h2
         cases q4:compD t tc ge #[9] (ds.drop (i+1)) with
         |none=>rw[q4] at h2;cases h2
         |some p2=>
          rw[q4] at h2
          cases h2
          refine iteT ⟨⟨F1,H1⟩,F5,Z1,y,r4.ext e5,q3,λv F6 H6 e6 p6=>?_⟩
          exact⟨F6,o1++[y],p2,e13.trans (e5.trans e6),(ry.mono (e3.ff.trans (e5.ff.trans e6.ff))).snoc p6,by simp;omega,rfl,by simp⟩
   ·have hi':i=ds.length:=by omega
    have hdd:ds.drop i=[]:=by rw[hi',List.drop_length]
    rw[hdd] at h2
    cases h2
    refine .inl ⟨j2 hi',λD hD=>?_⟩
    have e:=e1.trans e2
    exact k _ F2 _ (e.trans (.new e.fh hD)) ⟨D,ys,rfl,e.hh.free hD,zr,e.fh.free hD,by simpa using ry⟩
  ·cases hg
theorem zem {gl:EnvD->Option (List D)}{σ:St}{H:Hp}{Q:VK}(h:lG X.kw B (pE X.kw) (gFz gl) σ H Q):lG X.kw B (pA X.kw) gl σ H Q:=by
 obtain⟨F,Z,x,r,hg,k⟩:=h
 unfold gFz at hg
 cases q:gl Z with
 |none=>rw[q] at hg;cases hg
 |some ds=>
  rw[q] at hg;cases hg
  refine⟨F,Z,ds,r,q,λv F' H' e p=>?_⟩
  obtain⟨a,vs,rfl,p1,p2,p3,p4⟩:=p
  exact k _ (upd F' a (.lst vs)) H' (e.freeze p1 p3 p2) ⟨a,vs,rfl,zr,p4.mono (zX p3)⟩
section
variable {i:Nat}{y:Str}{py spos:Pos}{elt tg iter:Expr}{ifs:List Expr}{scope:Scope}{own:List Str}{cap:List (Str×Nat)}{t:Tgt}{tc:EnvD->Option Bool}{ge:EnvD->Option D}{gi:EnvD->Option (List D)}
theorem GK (hc:X.calm=true)(S:CompScope X scope own cap)(hi:DI X B (λH=>H) tg iter gi)
  (hin:∀(B':Bs) C s₀ H₀ fp pn,PG #[13] tg (tgT X.kw t)/\DIfs #[13] B' ifs tc/\DE #[13] B' elt ge)
  (hN:X.N.Nodup) (hiy:X.N[i]?=some y) (hy:Loc X.env.scope y) (hsw:swapsWith (.ListComp elt [⟨tg,iter,ifs,0⟩] scope pos) (some (.Name y py)) spos.line X.env=pure true)
  (hs:∀x,foldedSetIterable iter X.env x=pure x) (hfn:X.fn y=true∨X.env.scope.names.lookup y=some .local) :
  PS X (.Assign [.Name y py] (.ListComp elt [⟨tg,iter,ifs,0⟩] scope pos) spos) (tAsg (tComp (lI X.kw B (λH=>H) gi) own cap (tgT X.kw t) (λσ H Q=>∃B',lT X.kw B' tc σ H Q) (λσ H Q=>∃B',lG X.kw B' (pE X.kw) ge σ H Q)) (gName i)) :=
 zco (tc:=λσ H Q=>∃B',lT X.kw B' tc σ H Q) (te:=λσ H Q=>∃B',lG X.kw B' (pE X.kw) ge σ H Q) hc S hi (λC s₀ H₀ fp pn=>⟨(hin ⟨H₀,H₀⟩ C s₀ H₀ fp pn).1,λpins s σ H Q I ⟨B',q⟩=>(hin B' C s₀ H₀ fp pn).2.1 pins s σ H Q I q,λpins s σ H Q I ⟨B',q⟩=>(hin B' C s₀ H₀ fp pn).2.2 pins s σ H Q I q⟩) hN hiy hy hsw hs hfn
theorem uD (hc:X.calm=true)(S:CompScope X scope own cap)(hi:DI X B (λH=>H) tg iter gi)(ht:∀i∈t.slots,i < own.length)
  (hin:∀(B':Bs) C s₀ H₀ fp pn,PG #[13] tg (tgT X.kw t)/\DIfs #[13] B' ifs tc/\DE #[13] B' elt ge)
  (hN:X.N.Nodup) (hiy:X.N[i]?=some y) (hy:Loc X.env.scope y) (hsw:swapsWith (.ListComp elt [⟨tg,iter,ifs,0⟩] scope pos) (some (.Name y py)) spos.line X.env=pure true:=by rfl)
  (hs:∀x,foldedSetIterable iter X.env x=pure x:=by intro _;rfl) (hfn:X.fn y=true∨X.env.scope.names.lookup y=some .local:=by first | exact .inl rfl | exact .inr rfl | assumption) :
  DS X B (.Assign [.Name y py] (.ListComp elt [⟨tg,iter,ifs,0⟩] scope pos) spos) (sSet i (gFz (gComp own cap t tc ge gi))) :=
 zC (GK hc S hi hin hN hiy hy hsw hs hfn) λE σ H h=>zbr ht σ H _ (zem (JO h))
end
end
section
variable {X:Cx}{B:Bs}{e a b c o:Expr}{es:List Expr}{pos p p2 apos cpos:Pos}{g ga gb go:EnvD->Option D}{gs:EnvD->Option (List D)}{x:Str}
def gh (i:Nat):EnvD->Option D:=λZ=>match Z[i]? with
 |some (some (.val d))=>some d
 |some (some (.acc ds))=>some (.lst ds)
 |some (some (.bor ds))=>some (.lst ds)
 |some (some (.tre t))=>some t.erase
 |_=>none
def pT (K:KW):Post OT:=λ_ H F' H' t v=>RepO K F' H' t v/\(feetO H' t v).Nodup/\∀a∈feetO H' t v,H a=none/\F' a=none
def DTr (X:Cx)(B:Bs)(e:Expr)(g:EnvD->Option OT):Prop:=PE X e (lG X.kw B (pT X.kw) g)
def lTs (K:KW)(B:Bs)(g:EnvD->Option (List OT)):TA:=λσ H Q=>
 ∃F Z ts,Rep K B F σ H Z/\g Z=some ts/\∀vs F' H',Ext F H F' H'->RepOs K F' H' ts vs->(feetOs H' ts vs).Nodup->(∀a∈feetOs H' ts vs,H a=none/\F' a=none)->Q vs H'
def DTrs (X:Cx)(B:Bs)(es:List Expr)(g:EnvD->Option (List OT)):Prop:=PA X es (lTs X.kw B g)
def lfs (ds:List D):List OT:=ds.map OT.frz
theorem lfs_rep {K:KW}{F H:Hp}:∀ {ds:List D} {vs:List V},RepOs K F H (lfs ds) vs↔Rps K F ds vs
 | [],_=>Iff.rfl
 |d::ds,vs=>by
  constructor
  ·rintro ⟨v,r,e,h,t⟩;exact⟨v,r,e,h,lfs_rep.mp t⟩
  ·rintro ⟨v,r,e,h,t⟩;exact⟨v,r,e,h,lfs_rep.mpr t⟩
theorem Ji {H:Hp}:∀ {ds:List D} {vs:List V},feetOs H (lfs ds) vs=[]
 | [],_=>rfl
 |d::ds,vs=>by
  cases vs with
  |nil=>rfl
  |cons v r=>show feetO H (.frz d) v++feetOs H (lfs ds) r=[];rw[Ji];rfl
theorem Wf:∀(ds:List D),erases (lfs ds)=ds
 | []=>rfl
 |d::ds=>by show d::erases (lfs ds)=_;rw[Wf ds]
def gLf (g:EnvD->Option D):EnvD->Option OT:=λZ=>(g Z).map OT.frz
def gLs (g:EnvD->Option (List D)):EnvD->Option OT:=λZ=>(g Z).map λds=>OT.lst (lfs ds)
theorem DE.tree (h:DE X B e g):DTr X B e (gLf g):=zo h λσ H Q ⟨F,Z,t,r,hg,k⟩=>by
 unfold gLf at hg
 cases q:g Z with
 |none=>rw[q] at hg;cases hg
 |some d=>rw[q] at hg;cases hg;exact⟨F,Z,d,r,q,λv F' H' e p=>k v F' H' e ⟨p,List.nodup_nil,λa ha=>by cases ha⟩⟩
theorem DA.tree {gl:EnvD->Option (List D)}(h:DA X B e gl):DTr X B e (gLs gl):=zo h λσ H Q ⟨F,Z,t,r,hg,k⟩=>by
 unfold gLs at hg
 cases q:gl Z with
 |none=>rw[q] at hg;cases hg
 |some ds=>
  rw[q] at hg;cases hg
  refine⟨F,Z,ds,r,q,λv F' H' e p=>k v F' H' e ?_⟩
  obtain⟨a,vs,rfl,p1,p2,p3,p4⟩:=p
  have hf:feetO H' (.lst (lfs ds)) (.ref a)=[a]:=by simp only[feetO,ym p2,Ji]
  refine⟨⟨a,vs,rfl,p2,lfs_rep.mpr p4⟩,by rw[hf];simp,λb hb=>?_⟩
  rw[hf,List.mem_singleton] at hb
  subst hb
  exact⟨p1,p3⟩
def tNl:EnvD->Option (List OT):=λ_=>some []
def tCn (g:EnvD->Option OT)(gs:EnvD->Option (List OT)):EnvD->Option (List OT):=λZ=>(g Z).bind λd=>(gs Z).bind λds=>some (d::ds)
variable {gt':EnvD->Option OT}{gts:EnvD->Option (List OT)}
theorem ZM:DTrs X B [] tNl:=ye yz λσ H Q ⟨F,Z,ds,r,hg,k⟩=>by cases hg;exact k [] F H (.refl r.fh) rfl List.nodup_nil (λa ha=>by cases ha)
theorem yY (ha:DTr X B e gt')(hr:DTrs X B es gts)(hs:starEach (e::es) X.env=(false,eval e X.env)::starEach es X.env:=by rfl):DTrs X B (e::es) (tCn gt' gts) :=
 ye (zO ha hr hs) λσ H Q ⟨F,Z,ds,r,hg,k⟩=>by
  obtain⟨t,ts,q1,q2,q3⟩:=bind2 hg
  cases q3
  refine⟨F,Z,t,r,q1,λv F1 H1 e1 ⟨p1,p2,p3⟩=>⟨F1,Z,ts,r.ext e1,q2,λvs F2 H2 e2 s1 s2 s3=>?_⟩⟩
  obtain⟨u1,u2⟩:=RepO.ext e2.ff e2.hh p1
  have hfe:feetOs H2 (t::ts) (v::vs)=feetO H1 t v++feetOs H2 ts vs:=by rw[<-u2];rfl
  refine k _ F2 H2 (e1.trans e2) ⟨v,vs,rfl,u1,s1⟩ ?_ λa ha=>?_
  ·rw[hfe,List.nodup_append]
   refine⟨p2,s2,λa ha b hb hab=>?_⟩
   subst hab
   exact RepO.feet p1 ha (s3 a hb).1
  ·rw[hfe,List.mem_append] at ha
   rcases ha with ha | ha
   ·exact⟨(p3 a ha).1,xw e2 (p3 a ha).2 (RepO.feet p1 ha)⟩
   ·exact⟨e1.hh.free (s3 a ha).1,(s3 a ha).2⟩
def gTupT (gs:EnvD->Option (List OT)):EnvD->Option OT:=λZ=>(gs Z).bind λts=>if ts.length<=TOP then some (.tup ts) else none
theorem RepOs.length {K:KW}{F H:Hp}:∀ {ts:List OT} {vs:List V},RepOs K F H ts vs->ts.length=vs.length
 | [],_,h=>by cases h;rfl
 |_::_,_,⟨_,_,e,_,t⟩=>by subst e;simp[RepOs.length t]
theorem ZK {x1}(h:DTrs X B es gts):DTr X B (.Tuple es x1 pos) (gTupT gts) :=
 zo (YW h) λσ H Q ⟨F,Z,t,r,hg,k⟩=>by
  unfold gTupT at hg
  cases q:gts Z with
  |none=>rw[q] at hg;cases hg
  |some ts=>
   rw[q] at hg
   have hg:(if ts.length<=TOP then some (OT.tup ts) else none)=some t:=hg
   split at hg
   ·rename_i hc
    cases hg
    refine⟨F,Z,ts,r,q,λvs F1 H1 e1 p1 p2 p3=>⟨yf (by rw[<-p1.length];exact hc),λp hp=>?_⟩⟩
    have hn:p∉feetOs H1 ts vs:=λz=>RepOs.feet p1 z hp
    obtain⟨u1,u2⟩:=RepOs.other (o:=.tup vs) p1 hn
    have hf:feetO (upd H1 p (.tup vs)) (.tup ts) (.ref p)=p::feetOs H1 ts vs:=by simp only[feetO,yv zr,u2]
    refine k _ F1 _ (e1.trans (.new e1.fh hp)) ⟨⟨p,vs,rfl,zr,u1⟩,by rw[hf];exact List.nodup_cons.mpr ⟨hn,p2⟩,λa ha=>?_⟩
    rw[hf,List.mem_cons] at ha
    rcases ha with rfl | ha
    ·exact⟨e1.hh.free hp,e1.fh.free hp⟩
    ·exact p3 a ha
   ·cases hg
def treO:En->Option OT
 |.tre t=>some t
 |_=>none
variable {gxs:EnvD->Option (List En)}{n k:Nat}{m:List En->Option En}
theorem Ky {n:Nat}{m:List En->Option En}(hm:∀xs o,m xs=some o->xs.length=n){E:XK}{σ:St}{H:Hp}{Q:VK}(h:lG X.kw B (pT X.kw) (gCall m treO gxs) σ H Q):tCall (pSp X.kw n m) [] E (lNs X.kw B gxs) σ H Q:=by
 obtain⟨F,Z,d,r,hg,k⟩:=h
 obtain⟨xs,o,q1,q2,q3⟩:=bindC hg
 refine⟨F,Z,xs,r,q1,λvs F1 H1 e1 p1=>?_⟩
 show pSp X.kw n m (vs++[]) H1 Q E
 rw[List.append_nil]
 refine⟨F1,xs,o,e1.fh,hm xs o q2,p1,q2,λv F2 H2 e2 p2=>?_⟩
 cases o with
 |tre t=>
  cases q3
  obtain⟨h1,h2,h3⟩:=p2
  exact k v F2 H2 (e1.trans e2) ⟨h1,h2,λa ha=>⟨e1.hh.free (h3 a ha).2,(h3 a ha).1⟩⟩
 |_=>cases q3
theorem Ug (h:Fx X.prog X.w X.kw X.mg X.base x k n m)(hr:Room k X.A)(hg:Gl X x)(ha:DNs X B (e::es) gxs)(hdb:#[8]=false:=by decide +kernel)
  (he:starEach (e::es) X.env=(false,eval e X.env)::starEach es X.env:=by rfl) (hpl:#[11].any (·.1)=false:=by rfl):DTr X B #[12] (gCall (len? n m) treO gxs):=by
 obtain⟨f,fd,ps,F,hm,hk,hb⟩:=h.ex
 exact zo (jv F hr hg hm hk hb .nil pass0 ha hdb he hpl) λσ H Q h=>Ky wt h
def sRetT (g:EnvD->Option OT):SD:=λZ=>(g Z).map λt=>.ret (.tre t)
theorem u9 (he:DTr X B e gt'):DS X B (.Return (some e) pos) (sRetT gt'):=zC (wY he) λE σ H ⟨F,Z,fl,r,hg,k⟩=>by
 unfold sRetT at hg
 cases q:gt' Z with
 |none=>rw[q] at hg;cases hg
 |some t=>
  rw[q] at hg;cases hg
  exact⟨F,Z,t,r,q,λv F1 H1 e1 ⟨p1,p2,p3⟩=>k v F1 H1 (r.ex.trans e1) ⟨p1,p2,λa ha=>⟨(p3 a ha).2,r.ex.hh.free (p3 a ha).1⟩⟩⟩
mutual
def OT.get:OT->List Nat->Option OT
 |t,[]=>some t
 |.lst ts,k::p=>gets ts k p
 |.tup ts,k::p=>gets ts k p
 |.frz _,_::_=>none
def gets:List OT->Nat->List Nat->Option OT
 | [],_,_=>none
 |t::_,0,p=>t.get p
 |_::ts,k+1,p=>gets ts k p
end
mutual
def OT.put:OT->List Nat->OT->OT
 |_,[],u=>u
 |.lst ts,k::p,u=>.lst (puts ts k p u)
 |.tup ts,k::p,u=>.tup (puts ts k p u)
 |.frz d,_::_,_=>.frz d
def puts:List OT->Nat->List Nat->OT->List OT
 | [],_,_,_=>[]
 |t::ts,0,p,u=>t.put p u::ts
 |t::ts,k+1,p,u=>t::puts ts k p u
end
structure At (K:KW)(F H:Hp)(ft:List Addr)(ds:List D)(b:Addr)(vs:List V):Prop where
 hb:H b=some (.lst vs)
 rp:Rps K F ds vs
 mem:b∈ft
end
def OT.size:OT->Option Nat
 |.lst ts=>some ts.length
 |.tup ts=>some ts.length
 |.frz _=>none
section
variable {X:Cx}{B:Bs}{e a b c o:Expr}{es:List Expr}{pos p p2 apos cpos:Pos}{g ga gb go:EnvD->Option D}{gs:EnvD->Option (List D)}{x nm:Str}{gp:EnvD->Option (List Nat)}
variable {id:String}{r:V->List V->Hp->VK->Prop}{f:List D->List D->Option (List D)}
end
section
variable {Z:EnvD}{i:Nat}{t:OT}{ga gb:EnvD->Option D}{gs:EnvD->Option (List D)}{gp:EnvD->Option (List Nat)}{ds:List D}{gt':EnvD->Option OT}{gts:EnvD->Option (List OT)}{gl:EnvD->Option (List D)}{α:Type}
@[simp]theorem zjc:gh i Z=match Z[i]? with | some (some (.val d))=>some d | some (some (.acc ds))=>some (.lst ds) | some (some (.bor ds))=>some (.lst ds) | some (some (.tre t))=>some t.erase | _=>none:=rfl
@[simp]theorem zg3:gLf ga Z=(ga Z).map OT.frz:=rfl
@[simp]theorem zkd:gLs gl Z=(gl Z).map λds=>OT.lst (lfs ds):=rfl
@[simp]theorem zjz:tNl Z=some []:=rfl
@[simp]theorem zkk:tCn gt' gts Z=(gt' Z).bind λd=>(gts Z).bind λds=>some (d::ds):=rfl
@[simp]theorem zgu:gTupT gts Z=(gts Z).bind λts=>if ts.length<=TOP then some (.tup ts) else none:=rfl
@[simp]theorem zja:treO (.tre t)=some t:=rfl
@[simp]theorem zkz {d:D}:treO (.val d)=none:=rfl
@[simp]theorem zhj:treO (.acc ds)=none:=rfl
@[simp]theorem zij:sRetT gt' Z=(gt' Z).map λt=>.ret (.tre t):=rfl
@[simp]theorem zgh:(OT.lst (lfs ds)).erase=.lst ds:=by show D.lst (erases (lfs ds))=_;rw[Wf]
@[simp]theorem zit {d:D}:(OT.frz d).erase=d:=by simp[OT.erase]
@[simp]theorem zk2 {ts:List OT}:(OT.tup ts).erase=.tup (erases ts):=by simp[OT.erase]
@[simp]theorem zjr:erases []=[]:=by simp[erases]
@[simp]theorem zgb {ts:List OT}:erases (t::ts)=t.erase::erases ts:=by simp[erases]
end
section
variable {Z:EnvD}{i k n m:Nat}{d x y:D}{ds es:List D}{a b j:Int}{α γ:Type}{ga gb gc' g:EnvD->Option D}{ta tb:EnvD->Option Bool}{gs:EnvD->Option (List D)}{s1 s2:SD}{p q:Str}{ns:List Int}
@[simp]theorem zj0:fPlus (.int a) (.int b)=some (.int (a+b)):=rfl
@[simp]theorem zhk:fPlus (.str p) (.str q)=if p.length+q.length<=TOP then some (.str (p++q)) else none:=rfl
@[simp]theorem zj2:fItem (.lst ds) (.int a)=atI ds a:=rfl
@[simp]theorem zjs:fItem (.tup ds) (.int a)=atI ds a:=rfl
@[simp]theorem zhl:fItem (.scr ns) (.int a)=(atI ns a).map D.int:=rfl
theorem Q8:fItem (.str p) (.int a)=if p.length<=TOP then (atI p.cps.toList a).map λc=>.str ⟨#[c]⟩ else none:=rfl
@[simp]theorem zjq {gl gh:EnvD->Option (Option Int)}:gSlS g gl gh Z=(g Z).bind λd=>(gl Z).bind λl=>(gh Z).bind λh=>match d with | .str z=>if z.length<=TOP then some (.str (Txt.slice z l h)) else none | _=>none:=rfl
@[simp]theorem zi3 {f:D->List D->Option D}:gSM f ga gs Z=(ga Z).bind λd=>(gs Z).bind λds=>f d ds:=rfl
@[simp]theorem zjk:itL (.scr ns)=some (ns.map D.int):=rfl
@[simp]theorem zc0:fCatS x y=(itL x).bind λxs=>(itL y).bind λys=>if xs.length+ys.length<=TOP then some (xs++ys) else none:=rfl
@[simp]theorem zgm:fInt [.int a]=some (.int a):=rfl
@[simp]theorem zk5 {b:Bool}:fInt [.bl b]=some (.int (if b then 1 else 0)):=rfl
@[simp]theorem zgy {t:Tgt}:sAsg t g Z=(g Z).bind λd=>(asgD t d Z).map Fl.next:=rfl
@[simp]theorem zkv {f:List D->List D->Option (List D)}:sMut i f gs Z=match Z[i]? with | some (some (.acc ds))=>(gs Z).bind λes=>(f ds es).map λds'=>.next (Z.set i (some (.acc ds'))) | _=>none:=rfl
@[simp]theorem zhw:tyD (.str p)=some "str" := rfl
@[simp]theorem zk4:isNon (.lst ds)=false:=rfl
@[simp]theorem zi0:fList [.scr ns]=some (ns.map D.int):=rfl
theorem fEqB {neg u v:Bool}:fEq neg (.bl u) (.bl v)=some (.bl (if neg then !(u==v) else (u==v))):=by
 cases neg<;>cases u<;>cases v<;>rfl
theorem qk {t:EnvD->Option Bool}(h:t Z=some false):whileD t s1 (n+1) Z=some (.next Z):=by
 rw[whileD,h];rfl
theorem je {t:EnvD->Option Bool}{Z2:EnvD}(h:t Z=some true)(h2:s1 Z=some (.next Z2)):whileD t s1 (n+1) Z=whileD t s1 n Z2:=by
 rw[whileD,h]
 show ((s1 Z).bind _)=_
 rw[h2];rfl
theorem qG {xs:List α}(h:0<=a):cutD xs none (some a)=xs.take a.toNat:=by
 simp only[cutD,HT.sIx]
 rw[if_neg (show ¬a < 0 by omega)]
 simp only[Nat.sub_zero,List.drop_zero]
 by_cases h2:a.toNat<=xs.length
 ·rw[Nat.min_eq_left h2]
 ·rw[Nat.min_eq_right #[1],List.take_of_length_le (Nat.le_refl _),List.take_of_length_le #[1]]
theorem vg {xs:List α}(h:0<=a):cutD xs (some a) none=xs.drop a.toNat:=by
 simp only[cutD,HT.sIx]
 rw[if_neg (show ¬a < 0 by omega)]
 by_cases h2:a.toNat<=xs.length
 ·rw[Nat.min_eq_left h2]
  exact List.take_of_length_le (by simp)
 ·rw[Nat.min_eq_right #[1],List.drop_of_length_le (Nat.le_refl _),List.drop_of_length_le #[1]];simp
theorem zkj {β:Type}{f:α->β}{xs:List α}{l h:Option Int}:cutD (xs.map f) l h=(cutD xs l h).map f:=by
 unfold cutD;simp[List.map_drop,List.map_take]
theorem QB {xs:List α}(h1:0<=a)(h2:a < xs.length):∃v,atI xs a=some v/\xs[a.toNat]?=some v:=by
 obtain⟨n,rfl⟩:∃n:Nat,a=(n:Int):=⟨a.toNat,by omega⟩
 have hl:n < xs.length:=by omega
 exact⟨xs[n],xb n (List.getElem?_eq_getElem hl),by simp[hl]⟩
theorem zht {β:Type}{f:α->β}{xs:List α}:atI (xs.map f) a=(atI xs a).map f:=by
 unfold atI
 rw[List.length_map]
 cases ixN xs.length a with
 |none=>rfl
 |some j=>simp
theorem zkt {xs:List α}{v:α}(h:atI xs a=some v):v∈xs:=by
 unfold atI at h
 cases q:ixN xs.length a with
 |none=>rw[q] at h;cases h
 |some j=>rw[q] at h;exact List.mem_of_getElem? h
def Tx (n:Nat)(x:Str):Prop:=PyData.strOk x=true/\x.length<=n
theorem Tx.mono {x:Str}(h:Tx n x)(e:n<=m):Tx m x:=⟨h.1,Nat.le_trans h.2 e⟩
theorem Tx.app {x y:Str}(h:Tx n x)(h':Tx m y):Tx (n+m) (x++y):=by
 refine⟨?_,?_⟩
 ·show (x.cps++y.cps).all _=true
  rw[Array.all_append]
  exact Bool.and_eq_true_iff.mpr ⟨h.1,h'.1⟩
 ·show (x.cps++y.cps).size<=n+m
  rw[Array.size_append]
  have h1:=h.2
  have h2:=h'.2
  unfold Str.length at h1 h2
  omega
theorem Tx.slice {x:Str}{l u:Option Int}(h:Tx n x):Tx n (Txt.slice x l u):=by
 refine⟨?_,Nat.le_trans (Txt.slice_le x l u) h.2⟩
 unfold Txt.slice
 split
 ·exact h.1
 ·have h1:=h.1
  unfold PyData.strOk at h1 ⊢
  rw[Array.all_eq_true'] at h1
  rw[Array.all_eq_true']
  intro c hc
  simp only[List.mem_toArray,List.mem_filterMap] at hc
  obtain⟨i,_,e⟩:=hc
  exact h1 c (Array.mem_of_getElem? e)
theorem Tx.item {z:Str}(h:Tx n z)(hn:n<=TOP)(h1:0<=a)(h2:a < z.length):∃c,fItem (.str z) (.int a)=some (.str c)/\Tx 1 c:=by
 have hl:(z.cps.toList.length:Int)=z.length:=by simp[Str.length]
 obtain⟨c,e1,e2⟩:=QB (xs:=z.cps.toList) h1 #[1]
 refine⟨⟨#[c]⟩,?_,?_,Nat.le_refl _⟩
 ·rw[Q8,if_pos (Nat.le_trans h.2 hn),e1];rfl
 ·have h1:=h.1
  unfold PyData.strOk at h1
  rw[Array.all_eq_true'] at h1
  have:=h1 c (by simpa using List.mem_of_getElem? e2)
  unfold PyData.strOk
  simpa using this
theorem Qg (sep:Str)(hs:PyData.strOk sep=true):∀(rest:List Str) (acc:Array Nat),acc.all (· < 0x110000)=true->(∀y∈rest,PyData.strOk y=true)->(rest.foldl (λacc p=>acc++sep.cps++p.cps) acc).all (· < 0x110000)=true
 | [],_,h,_=>h
 |y::rest,acc,h,hy=>by
  rw[List.foldl_cons]
  refine Qg sep hs rest _ ?_ λz hz=>hy z (by simp[hz])
  rw[Array.all_append,Array.all_append]
  have h2:y.cps.all (· < 0x110000)=true:=hy y (by simp)
  have h3:sep.cps.all (· < 0x110000)=true:=hs
  rw[h,h2,h3];rfl
theorem Tx.join0 {ys:List Str}(h:∀y∈ys,Tx 1 y):Tx ys.length (Txt.join "" ys):=by
 have e0:PyData.strOk ("" : Str)=true:=by decide +kernel
 refine⟨?_,?_⟩
 ·show ((ys.drop 1).foldl (λacc p=>acc++("" : Str).cps++p.cps) (ys.headD Str.empty).cps).all (· < 0x110000)=true
  refine Qg "" e0 (ys.drop 1) _ ?_ λy hy=>(h y (List.mem_of_mem_drop hy)).1
  cases ys with
  |nil=>simp[Str.empty]
  |cons y r=>exact (h y (by simp)).1
 ·show (Builtin.Str.glued "" ys).length<=ys.length
  rw[PySem.size_glued]
  have e1:("" : Str).length=0:=by decide +kernel
  rw[e1,Nat.mul_zero,Nat.add_zero]
  have:∀l:List Str,(∀y∈l,Tx 1 y)->(l.map (·.length)).sum<=l.length:=by
   intro l
   induction l with
   |nil=>intro _;exact Nat.le_refl _
   |cons y r ih=>
    intro hh
    have h1:=(hh y (by simp)).2
    have h2:=ih λz hz=>hh z (by simp[hz])
    simp only[List.map_cons,List.sum_cons,List.length_cons]
    omega
  exact this ys h
theorem UU:∀ {l:List Str},(∀y∈l,Tx 1 y)->(l.map (·.length)).sum<=l.length
 | [],_=>Nat.le_refl _
 |y::r,hh=>by
  have h1:=(hh y (by simp)).2
  have h2:=UU λz hz=>hh z (List.mem_cons_of_mem _ hz)
  simp only[List.map_cons,List.sum_cons,List.length_cons]
  omega
theorem QD:∀(ys:List Str),asSs (ys.map D.str)=some ys
 | []=>rfl
 |y::ys=>by simp[asSs,QD ys]
end
def Its (z:Str):It:=⟨λi _=>i < z.cps.size,λi H x H'=>H'=H/\∃c,z.cps[i]?=some c/\x=.str ⟨#[c]⟩,λi _=>i=z.cps.size⟩
theorem YU {P:Program}{w:World}{K:PySem.W.Frag}{z:Str}{t:Tok}{it:Addr}{n:String}
  (W:∀A':Around,A'.handled=none->Walks P w A' it [it] [it] z.cps.size (SignAt z) (λi h=>h.IsStrIter it n z t i))
  (sf:∀(A:Around) (i:Nat) (s:Shared) (Q:Value->Shared->Prop) (E:Value->Shared->Prop),s.heap.IsStrIter it n z t i->Q (.ref it) s->wpAny (model P w) A (pyIter (.ref it)) Q E s)
  (hn:["enumerate","zip","dict_itemiterator","dict_reverseitemiterator","odict_iterator","itertools.zip_longest","itertools.pairwise"].contains n=false) {tg:Expr} :
  Turn P w K tg (Its z) [it] it (λi h=>h.IsStrIter it n z t i) where
 mem:=by simp
 obj:=λi h st b hb=>by
  have e:b=it:=by simpa using hb
  subst e
  obtain⟨o,e,c,d⟩:=st
  exact⟨o,e,λv z=>by rw[d] at z;cases z⟩
 keep:=λi h h' st k=>let ⟨o,e,r⟩:=st;⟨o,k it (by simp) o e,r⟩
 item:=by
  intro X hP hw hK hc i pins s σ H E I hf st hg
  subst hP hw hK
  obtain⟨f0,f1,f2,f3,f4,f5⟩:=hf it (by simp)
  refine (W X.A (I.ok.hd hc)).item i s _ _ hg st λv h' tk hv st' kk=>?_
  obtain⟨c,u,e,rfl⟩:=hv
  have I1:Inv X pins σ H { s with heap:=h',toks:=tk }:=I.turned (λb o hb e=>kk b o (by simpa using hb) e) f0 f1 f3 f4 f5
  obtain⟨o,e1,e2,e3⟩:=id st'
  exact⟨_,rfl,Z2 (s:={ s with heap:=h',toks:=tk }) e1 e2 e3 hn ⟨.str ⟨#[c]⟩,H,I1,⟨u,rfl⟩,⟨rfl,c,e,rfl⟩,st',λb hb=>(hf b hb).1⟩⟩
 done:=by
  intro X hP hw hK hc i pins s σ H E I hf st hg
  subst hP hw hK
  obtain⟨f0,f1,f2,f3,f4,f5⟩:=hf it (by simp)
  have hg:i=z.cps.size:=hg
  subst hg
  exact (W X.A (I.ok.hd hc)).done s _ _ st λh' tk kk=>⟨rfl,I.turned (t':=tk) (λb o hb e=>kk b o (by simpa using hb) e) f0 f1 f3 f4 f5⟩
 self:=sf
def iStr (tl:TE):TI:=λσ H R=>tl σ H λx H1=>∃z,x=.str z/\R (Its z) H1
theorem Gv {X:Cx}{tg l:Expr}{tl:TE}(hl:PE X l tl):PI X tg l (iStr tl):=by
 intro pins s σ H R I h
 refine thn (hl pins s σ H _ I h) λv s1 ⟨x,H1,I1,r1,q1⟩=>?_
 obtain⟨z,rfl,q⟩:=q1
 obtain⟨t,rfl⟩:=r1
 have fin:∀ {n:String} (o:Obj),o={ cls:=.type n,data:=.fields #[.str z t,.int 0 0] }->Turn X.prog X.w X.kw tg (Its z) [s1.heap.objs.size] s1.heap.objs.size (λi h=>h.IsStrIter s1.heap.objs.size n z t i)->PIE X pins σ tg R (.ref s1.heap.objs.size) { s1 with heap:=s1.heap.push o }:=by
  intro n o ho T
  subst ho
  refine⟨s1.heap.objs.size,[s1.heap.objs.size],_,_,H1,rfl,I1.kept (t':=s1.toks) λb o e=>Heap.get?_push_of_some _ e,T,⟨_,Heap.get?_push_size _ rfl,rfl,rfl⟩,λb hb=>?_,q⟩
  have e:b=s1.heap.objs.size:=by simpa using hb
  subst e
  exact I1.fpOk (Nat.le_refl _) (I1.hok.fresh (Nat.le_refl _))
 cases ha:z.cps.all (· < 128)
 ·exact wpAny_pyIter_wide ha (fin _ rfl (YU (λA' hA=>Walks.strWide hA _ z t) (λA i s Q E st h=>wpAny_pyIter_striter_wide st h) (by decide)))
 ·exact wpAny_pyIter_ascii ha (fin _ rfl (YU (λA' hA=>Walks.strAscii hA _ z t) (λA i s Q E st h=>wpAny_pyIter_striter_ascii st h) (by decide)))
section
variable {X:Cx}{B:Bs}{hb:Hp->Hp}{e a b c o tg:Expr}{es:List Expr}{pos p p2 apos cpos:Pos}{g ga gb go:EnvD->Option D}{gs:EnvD->Option (List D)}{x:Str}
def chD (z:Str):List D:=z.cps.toList.map λc=>D.str ⟨#[c]⟩
def gItS (g:EnvD->Option D):EnvD->Option (List D):=λZ=>(g Z).bind λd=>match d with
 |.str z=>some (chD z)
 |_=>none
theorem K6 (h:DR X B e g):DI X B hb tg e (gItS g) :=
 j9 (Gv h) λσ H R ⟨F,Z,ds,r,hg,k⟩=>by
  unfold gItS at hg
  cases q:g Z with
  |none=>rw[q] at hg;cases hg
  |some d=>
   rw[q] at hg
   cases d with
   |str z=>
    cases hg
    refine⟨F,Z,_,r,q,λv F1 H1 e1 p1=>⟨z,p1.str,k _ F1 H1 e1 λF2 H2 s1 s2 s3 i=>⟨λhi=>?_,λhi=>?_⟩⟩⟩
    ·have hl:i < z.cps.size:=by simpa[chD] using hi
     refine⟨hl,λy H3 hy=>?_⟩
     obtain⟨rfl,c,hc,rfl⟩:=hy
     refine⟨F2,.str ⟨#[c]⟩,.refl s2,?_,rfl⟩
     unfold chD
     rw[List.getElem?_map]
     have:z.cps.toList[i]?=some c:=by simpa using hc
     rw[this];rfl
    ·show i=z.cps.size
     simpa[chD] using hi
   |_=>cases hg
def toV:D->Option V
 |.non=>some .non
 |.bl b=>some (.bl b)
 |.int i=>some (.int i)
 |.str x=>some (.str x)
 |_=>none
def toVs:List D->Option (List V)
 | []=>some []
 |d::ds=>(toV d).bind λv=>(toVs ds).map (v::·)
theorem zdq {K:KW}{F:Hp}{d:D}{v w:V}(h:toV d=some v)(r:Rp K F d w):w=v/\flatV v=true:=by
 cases d<;>first | (cases h;exact⟨r,rfl⟩) | cases h
theorem VB {K:KW}{F:Hp}:∀ {ds:List D} {vs ws:List V},toVs ds=some vs->Rps K F ds ws->ws=vs/\vs.all flatV=true
 | [],_,_,h,r=>by cases h;cases r;exact⟨rfl,rfl⟩
 |d::ds,vs,ws,h,⟨w,r,e,h1,h2⟩=>by
  subst e
  cases q1:toV d with
  |none=>rw[show toVs (d::ds)=(toV d).bind λv=>(toVs ds).map (v::·) from rfl,q1] at h;cases h
  |some v=>
   cases q2:toVs ds with
   |none=>rw[show toVs (d::ds)=(toV d).bind λv=>(toVs ds).map (v::·) from rfl,q1,q2] at h;cases h
   |some us=>
    rw[show toVs (d::ds)=(toV d).bind λv=>(toVs ds).map (v::·) from rfl,q1,q2] at h
    cases h
    obtain⟨e1,f1⟩:=zdq q1 h1
    obtain⟨e2,f2⟩:=VB q2 h2
    subst e1;subst e2
    exact⟨rfl,by rw[List.all_cons,f1,f2];rfl⟩
def fIn (neg:Bool):D->D->Option D
 |.str i,.str j=>some (.bl (if neg then !(!(Builtin.Str.occurrences j i 0 j.length 1).isEmpty) else !(Builtin.Str.occurrences j i 0 j.length 1).isEmpty))
 |x,.lst ds=>(toV x).bind λv=>(toVs ds).map λvs=>.bl (if neg then !inV v vs else inV v vs)
 |x,.tup ds=>(toV x).bind λv=>(toVs ds).map λvs=>.bl (if neg then !inV v vs else inV v vs)
 |_,_=>none
def rInA (K:KW)(neg:Bool):R2:=λx y H Q=>rIn K neg x y H Q∨∃i j,x=.str i/\y=.str j/\Q (.bl (if neg then !(!(Builtin.Str.occurrences j i 0 j.length 1).isEmpty) else !(Builtin.Str.occurrences j i 0 j.length 1).isEmpty)) H
theorem Wt:OpR X (compareOp .In) (rInA X.kw false):=op_in_seq.or Rs
theorem op_ninA:OpR X (compareOp .NotIn) (rInA X.kw true):=op_notIn_seq.or UY
theorem ok_in {K:KW}{neg:Bool}:OkR K (rInA K neg) (pE K) (fIn neg):=by
 intro F H x y dx dy d Q s rx ry e k
 have seq:∀ {v:V} {ds:List D} {vs ws:List V} {a:Addr},toV dx=some v->toVs ds=some vs->Rps K F ds ws->y=.ref a->(SqL K H a ws∨SqT K H a ws)->d=.bl (if neg then !inV v vs else inV v vs)->rInA K neg x y H Q:=by
  intro v ds vs ws a h1 h2 h3 h4 h5 h6
  obtain⟨e2,f2⟩:=VB h2 h3
  have hx:x=v/\flatV v=true:=by
   cases dx with
   |non=>cases h1;exact⟨rx.non,rfl⟩
   |bl b=>cases h1;exact⟨rx.bl,rfl⟩
   |int b=>cases h1;exact⟨rx.int,rfl⟩
   |str b=>cases h1;exact⟨rx.str,rfl⟩
   |_=>cases h1
  subst e2
  subst h6
  exact .inl ⟨a,ws,h4,h5,by rw[hx.1];exact hx.2,f2,by rw[hx.1];exact k _ F H (.refl s) rfl⟩
 have two:∀ {ds:List D},((toV dx).bind λv=>(toVs ds).map λvs=>D.bl (if neg then !inV v vs else inV v vs))=some d->∃v vs,toV dx=some v/\toVs ds=some vs/\d=.bl (if neg then !inV v vs else inV v vs):=by
  intro ds h
  cases q1:toV dx with
  |none=>rw[q1] at h;cases h
  |some v=>
   cases q2:toVs ds with
   |none=>rw[q1,q2] at h;cases h
   |some vs=>rw[q1,q2] at h;cases h;exact⟨v,vs,rfl,rfl,rfl⟩
 cases dy with
 |lst ds=>
  obtain⟨v,vs,q1,q2,q3⟩:=two (ds:=ds) (by cases dx<;>exact e)
  obtain⟨a,ws,h1,h2,h3⟩:=ry.lst s
  exact seq q1 q2 h3 h1 (.inl (.of h2)) q3
 |tup ds=>
  obtain⟨v,vs,q1,q2,q3⟩:=two (ds:=ds) (by cases dx<;>exact e)
  obtain⟨a,ws,h1,h2,h3⟩:=ry.tup s
  exact seq q1 q2 h3 h1 (.inr (.of h2)) q3
 |str j=>
  cases dx with
  |str i=>cases e;exact .inr ⟨_,_,rx.str,ry.str,k _ F H (.refl s) rfl⟩
  |_=>cases e
 |_=>cases dx<;>cases e
theorem zdd:OpR X (compareOp .IsNot) (λx y H Q=>∃u v,x=.bl u/\y=.bl v/\Q (.bl (!(u==v))) H):=by
 intro pins s σ H x y v u Q I rx ry h
 obtain⟨b,c,rfl,rfl,q⟩:=h
 cases rx
 cases ry
 exact wpAny_pure ⟨.bl (!(b==c)),H,I,by cases b<;>cases c<;>rfl,q⟩
def fIsB (neg:Bool):D->D->Option D
 |.bl u,.bl v=>some (.bl (if neg then !(u==v) else u==v))
 |_,_=>none
theorem zb8 {K:KW}:OkR K (λx y H Q=>∃u v,x=.bl u/\y=.bl v/\Q (.bl (!(u==v))) H) (pE K) (fIsB true):=by
 intro F H x y dx dy d Q s rx ry e k
 unfold fIsB at e
 split at e
 ·cases e;exact⟨_,_,rx.bl,ry.bl,k _ F H (.refl s) rfl⟩
 ·cases e
end
section
variable {Z:EnvD}{g:EnvD->Option D}{ds:List D}{a:Int}{u v:Bool}{p q:Str}{neg:Bool}
@[simp]theorem zj5:gItS g Z=(g Z).bind λd=>match d with | .str z=>some (chD z) | _=>none:=rfl
@[simp]theorem zgx:fIsB neg (.bl u) (.bl v)=some (.bl (if neg then !(u==v) else u==v)):=rfl
@[simp]theorem zi1:fIn neg (.str p) (.str q)=some (.bl (if neg then !(!(Builtin.Str.occurrences q p 0 q.length 1).isEmpty) else !(Builtin.Str.occurrences q p 0 q.length 1).isEmpty)):=rfl
end
theorem u4:∀(ys:List Str),toVs (ys.map D.str)=some (ys.map V.str)
 | []=>rfl
 |y::ys=>by simp[toVs,toV,u4 ys]
theorem Jz (x:Str):∀(ys:List Str),inV (.str x) (ys.map V.str)=decide (x∈ys)
 | []=>rfl
 |y::ys=>by
  have ih:=Jz x ys
  unfold inV at ih ⊢
  rw[List.map_cons,List.any_cons,ih]
  show ((y==x)||decide (x∈ys))=_
  by_cases h:x=y
  ·subst h;simp
  ·have h':¬y=x:=λz=>h z.symm
   simp[h,h']
theorem zcu {neg:Bool}{x:Str}{ys:List Str}:fIn neg (.str x) (.lst (ys.map D.str))=some (.bl (if neg then !decide (x∈ys) else decide (x∈ys))):=by
 show ((toV (.str x)).bind λv=>(toVs (ys.map D.str)).map λvs=>D.bl (if neg then !inV v vs else inV v vs))=_
 rw[u4]
 show some (D.bl (if neg then !inV (.str x) (ys.map V.str) else inV (.str x) (ys.map V.str)))=_
 rw[Jz]
def dKey:D->Option Key
 |.int i=>some (.inl i)
 |.str x=>some (.inr x)
 |_=>none
def kD:Key->D
 |.inl i=>.int i
 |.inr x=>.str x
theorem uC {d:D}{k:Key}(h:dKey d=some k):d=kD k:=by
 cases d<;>cases h<;>rfl
theorem Rf {K:KW}{F:Hp}{k:Key}{v:V}(r:Rp K F (kD k) v):v=kV k:=by cases k<;>exact r
theorem Z5 {K:KW}{F H:Hp}{k:Key}{v:V}(r:Rq K F H (kD k) v):v=kV k:=by
 refine Rf (r.one λds h=>?_)
 cases k<;>cases h
def lookD (kvs:List (Key×D))(k:Key):Option D:=(kvs.find? λp=>decide (p.1=k)).map (·.2)
def putD (kvs:List (Key×D))(k:Key)(d:D):List (Key×D) :=
 if (kvs.any λp=>decide (p.1=k))=true then kvs.map (λp=>if p.1=k then (p.1,d) else p) else kvs++[(k,d)]
section
variable {K:KW}{F:Hp}
theorem Rkv.length {kvs:List (Key×D)}{vs:List (Key×V)}(r:Rkv K F kvs vs):kvs.length=vs.length:=Paired.length r
theorem Rkv.look {kvs:List (Key×D)}{vs:List (Key×V)}(r:Rkv K F kvs vs)(k:Key):(lookD kvs k=none/\valV vs k=none)∨∃d v,lookD kvs k=some d/\valV vs k=some v/\Rp K F d v:=by
 unfold Rkv at r
 induction r with
 |nil=>exact .inl ⟨rfl,rfl⟩
 | @cons p q ps qs h t ih=>
  by_cases e:p.1=k
  ·refine .inr ⟨p.2,q.2,by simp[lookD,e],u0 (h.1 ▸ e),h.2⟩
  ·rw[show lookD (p::ps) k=lookD ps k by simp[lookD,e],uV (λz=>e (h.1.trans z))]
   exact ih
theorem Rkv.any {kvs:List (Key×D)}{vs:List (Key×V)}(r:Rkv K F kvs vs)(k:Key):(kvs.any λp=>decide (p.1=k))=(vs.any λp=>decide (p.1=k)):=by
 unfold Rkv at r
 induction r with
 |nil=>rfl
 | @cons p q ps qs h t ih=>simp only[List.any_cons,ih,h.1]
theorem Rkv.repl {k:Key}{d:D}{v:V}(rd:Rp K F d v):∀ {kvs:List (Key×D)} {vs:List (Key×V)},Rkv K F kvs vs->Rkv K F (kvs.map λp=>if p.1=k then (p.1,d) else p) (vs.map λp=>if p.1=k then (p.1,v) else p):=by
 intro kvs vs r
 unfold Rkv at r ⊢
 induction r with
 |nil=>exact .nil
 | @cons p q ps qs h t ih=>
  refine .cons ?_ ih
  show (if p.1=k then (p.1,d) else p).1=(if q.1=k then (q.1,v) else q).1/\Rp K F (if p.1=k then (p.1,d) else p).2 (if q.1=k then (q.1,v) else q).2
  by_cases e:p.1=k
  ·rw[if_pos e,if_pos (h.1.symm.trans e)];exact⟨h.1,rd⟩
  ·rw[if_neg e,if_neg (λz=>e (h.1.trans z))];exact h
theorem Rkv.put {kvs:List (Key×D)}{vs:List (Key×V)}(r:Rkv K F kvs vs)(k:Key){d:D}{v:V}(rd:Rp K F d v):Rkv K F (putD kvs k d) (putK vs k v):=by
 unfold putD putK
 rw[r.any k]
 by_cases q:(vs.any λp=>decide (p.1=k))=true
 ·rw[if_pos q,if_pos q];exact r.repl rd
 ·rw[if_neg q,if_neg q];exact Paired.snoc r ⟨rfl,rd⟩
end
def pD (K:KW):Post (List (Key×D)):=λ_ H F' H' kvs v=>∃a ob vs,v=.ref a/\H a=none/\H' a=some (DX K.w a ob vs)/\F' a=none/\Rkv K F' kvs vs
def pK (K:KW):Post (List (Key×D)):=λ_ _ F' H' kvs v=>∃a ob vs,v=.ref a/\H' a=some (DX K.w a ob vs)/\Rkv K F' kvs vs
def DD (X:Cx)(B:Bs)(e:Expr)(g:EnvD->Option (List (Key×D))):Prop:=PE X e (lG X.kw B (pD X.kw) g)
def DK (X:Cx)(B:Bs)(e:Expr)(g:EnvD->Option (List (Key×D))):Prop:=PE X e (lG X.kw B (pK X.kw) g)
section
variable {X:Cx}{B:Bs}{e a b c o i:Expr}{es:List Expr}{pos p apos cpos pos':Pos}{g ga gi gv':EnvD->Option D}{gk gk2:EnvD->Option (List (Key×D))}{gs gxs:EnvD->Option (List D)}{x:Str}
def gk' (i:Nat):EnvD->Option (List (Key×D)):=λZ=>match Z[i]? with
 |some (some (.dct _ kvs))=>some kvs
 |some (some (.dbo kvs))=>some kvs
 |_=>none
theorem zU (i:Nat)(h:PE X (.Name x pos) (tVar i)):DK X B (.Name x pos) (gk' i) :=
 zo h λσ H Q ⟨F,Z,d,r,hg,k⟩=>by
  unfold gk' at hg
  split at hg
  ·rename_i oa kvs e
   cases hg
   obtain⟨v,h1,a,ob,vs,e1,e2,e3,e4,e5,e6⟩:=r.ents i _ e
   exact⟨v,h1,k v F H (.refl r.fh) ⟨a,ob,vs,e1,e2,e5⟩⟩
  ·rename_i kvs e
   cases hg
   obtain⟨v,h1,a,ob,vs,e1,e2,e5⟩:=r.ents i _ e
   exact⟨v,h1,k v F H (.refl r.fh) ⟨a,ob,vs,e1,r.ex.hh _ _ e2,e5⟩⟩
  ·cases hg
def gNewD:EnvD->Option (List (Key×D)):=λ_=>some []
theorem Jv:DD X B (.Dict [] [] pos) gNewD:=zo Gx λσ H Q ⟨F,Z,d,r,hg,k⟩=>by
 cases hg
 exact λq ob hn=>k _ F _ (.new r.fh hn) ⟨q,ob,[],rfl,hn,zr,r.fh.free hn,.nil⟩
def gGetD (gk:EnvD->Option (List (Key×D)))(gi:EnvD->Option D):EnvD->Option D:=λZ=>(gk Z).bind λkvs=>((gi Z).bind dKey).bind λk=>lookD kvs k
theorem y8 (ho:DK X B o gk)(hi:DR X B i gi)(hs:NoSl i:=by intro _ _;rfl):DE X B (.Subscript o i pos) (gGetD gk gi) :=
 zo (za1 ho hi hs) λσ H Q ⟨F,Z,d,r,hg,k⟩=>by
  unfold gGetD at hg
  cases q1:gk Z with
  |none=>rw[q1] at hg;cases hg
  |some kvs=>
   cases q2:gi Z with
   |none=>rw[q1,q2] at hg;cases hg
   |some di=>
    rw[q1,q2] at hg
    have hg:((dKey di).bind λk=>lookD kvs k)=some d:=hg
    cases q3:dKey di with
    |none=>rw[q3] at hg;cases hg
    |some ky=>
     rw[q3] at hg
     have hL:lookD kvs ky=some d:=hg
     clear hg
     have hd:=uC q3
     subst hd
     refine⟨F,Z,kvs,r,q1,λv F1 H1 e1 ⟨a,ob,vs,h1,h2,h3⟩=>⟨F1,Z,_,r.ext e1,q2,λu F2 H2 e2 p2=>?_⟩⟩
     have h3':=h3.mono e2.ff
     rcases h3'.look ky with⟨z,_⟩ | ⟨d',w,z1,z2,z3⟩
     ·rw[z] at hL;cases hL
     ·rw[z1] at hL;cases hL
      exact⟨a,ob,vs,ky,w,h1,e2.hh _ _ h2,Z5 p2,z2,k w F2 H2 (e1.trans e2) z3⟩
def gInD (neg:Bool)(gi:EnvD->Option D)(gk:EnvD->Option (List (Key×D))):EnvD->Option D:=λZ=>((gi Z).bind dKey).bind λk=>(gk Z).map λkvs=>.bl (neg ^^ (lookD kvs k).isSome)
theorem UR {neg:Bool}{Z:EnvD}{d:D}(hg:gInD neg gi gk Z=some d):∃ky kvs,gi Z=some (kD ky)/\gk Z=some kvs/\d=.bl (neg ^^ (lookD kvs ky).isSome):=by
 unfold gInD at hg
 cases q2:gi Z with
 |none=>rw[q2] at hg;cases hg
 |some di=>
  rw[q2] at hg
  have hg:((dKey di).bind λk=>(gk Z).map λkvs=>D.bl (neg ^^ (lookD kvs k).isSome))=some d:=hg
  cases q3:dKey di with
  |none=>rw[q3] at hg;cases hg
  |some ky=>
   rw[q3] at hg
   cases q1:gk Z with
   |none=>rw[q1] at hg;cases hg
   |some kvs=>
    rw[q1] at hg
    cases hg
    exact⟨ky,kvs,by rw[uC q3],rfl,rfl⟩
theorem RS {K:KW}{F:Hp}{kvs:List (Key×D)}{vs:List (Key×V)}(r:Rkv K F kvs vs)(k:Key):(valV vs k).isSome=(lookD kvs k).isSome:=by
 rcases r.look k with⟨z1,z2⟩ | ⟨d,w,z1,z2,_⟩<;>rw[z1,z2]<;>rfl
def sPutD (j:Nat)(gi g:EnvD->Option D):SD:=λZ=>match Z[j]? with
 |some (some (.dct oa kvs))=>(g Z).bind λd=>((gi Z).bind dKey).bind λk=>if kvs.length < sizeLine then some (.next (Z.set j (some (.dct oa (putD kvs k d))))) else none
 |_=>none
theorem qF (j:Nat)(hx:PE X (.Name x p) (tVar j))(hi:DR X B i gi)(he:DE X B e g)(hs:swapsWith e (some (.Subscript (.Name x p) i pos')) pos.line X.env=pure false:=by rfl) :
  DS X B (.Assign [.Subscript (.Name x p) i pos'] e pos) (sPutD j gi g) :=
 zC (zf5 hx hi he hs) λE σ H ⟨F,Z,fl,r,hg,k⟩=>by
  unfold sPutD at hg
  split at hg
  ·rename_i oa kvs q
   cases q2:g Z with
   |none=>rw[q2] at hg;cases hg
   |some d=>
    cases q3:gi Z with
    |none=>rw[q2,q3] at hg;cases hg
    |some di=>
     rw[q2,q3] at hg
     have hg:((dKey di).bind λk=>if kvs.length < sizeLine then some (Fl.next (Z.set j (some (.dct oa (putD kvs k d))))) else none)=some fl:=hg
     cases q4:dKey di with
     |none=>rw[q4] at hg;cases hg
     |some ky=>
      rw[q4] at hg
      have hg:(if kvs.length < sizeLine then some (Fl.next (Z.set j (some (.dct oa (putD kvs ky d))))) else none)=some fl:=hg
      split at hg
      ·rename_i hz
       cases hg
       have hd:=uC q4
       subst hd
       refine⟨F,Z,d,r,q2,λw F1 H1 e1 p1=>?_⟩
       have r1:=r.ext e1
       obtain⟨v,hv,_⟩:=r1.ents j _ q
       refine⟨v,hv,F1,Z,_,r1,q3,λu F2 H2 e2 p2=>?_⟩
       have r2:=r1.ext e2
       obtain⟨v',hv',a,ob,vs,e',f1,f2,f3,f4,f5⟩:=r2.ents j _ q
       rw[hv] at hv';cases hv';subst e'
       refine⟨a,ob,vs,ky,rfl,f1,Z5 p2,by rw[<-f4.length];exact hz,λob'=>k σ F2 _ ?_ (e1.ff.trans e2.ff)⟩
       exact r2.write q rfl hv f2 f3 ⟨a,ob',_,rfl,zr,f2,f3,f4.put ky (Rp.mono e2.ff p1),f5⟩ rfl
      ·cases hg
  ·cases hg
end
section
variable {X:Cx}{B:Bs}{e a b c o i:Expr}{es:List Expr}{pos p apos cpos pos':Pos}{g ga gi gv':EnvD->Option D}{gk gk2:EnvD->Option (List (Key×D))}{gs:EnvD->Option (List D)}{gxs:EnvD->Option (List En)}{x:Str}
def sSetD (j:Nat)(g:EnvD->Option (List (Key×D))):SD:=λZ=>(g Z).map λkvs=>.next (Z.set j (some (.dct none kvs)))
theorem Rc {K:KW}{F H:Hp}{σ:St}{Z:EnvD}{F1 H1:Hp}(r:Rep K B F σ H Z)(e:Ext F H F1 H1){a:Addr}(n:H a=none):∀(j:Nat) y w,Z[j]?=some (some y)->σ[j]?=some (some w)->a∉feetE H1 y w:=λj y w h1 h2 ha=>by
 obtain⟨w',q,ry⟩:=r.ents j y h1
 rw[h2] at q;cases q
 rw[ry.feet_ext e.hh] at ha
 exact (ry.feet_at ha).1 n
theorem yZ {j:Nat}{y:Str}{pos':Pos}(hN:X.N.Nodup)(hi:X.N[j]?=some y)(hx:Loc X.env.scope y)(he:DD X B e gk)(hs:swapsWith e (some (.Name y pos')) pos.line X.env=pure false:=by rfl)(hf:X.fn y=true∨X.env.scope.names.lookup y=some .local:=by first | exact .inl rfl | exact .inr rfl) :
  DS X B (.Assign [.Name y pos'] e pos) (sSetD j gk):=zC (vC hN hi hx he hs hf) λE σ H ⟨F,Z,fl,r,hg,k⟩=>by
 unfold sSetD at hg
 cases q:gk Z with
 |none=>rw[q] at hg;cases hg
 |some kvs=>
  rw[q] at hg
  cases hg
  refine⟨F,Z,kvs,r,q,λv F1 H1 e1 ⟨a,ob,vs,h1,h2,h3,h4,h5⟩=>k _ F1 H1 ((r.ext e1).seto (x:=.dct none kvs) ⟨a,ob,vs,h1,h3,h4,r.ex.hh.free h2,h5,λ_ z=>nomatch z⟩ λj' y w q1 q2 _ b hb=>?_) e1.ff⟩
  subst h1
  simp only[feetE,List.mem_singleton] at hb
  subst hb
  exact Rc r e1 h2 j' y w q1 q2
def sRetVD (j:Nat):SD:=λZ=>match Z[j]? with
 |some (some (.dct none kvs))=>some (.ret (.dct none kvs))
 |_=>none
theorem ZN (j:Nat)(h:PE X (.Name x p) (tVar j)):DS X B (.Return (some (.Name x p)) pos) (sRetVD j):=zC (wY h) λE σ H ⟨F,Z,fl,r,hg,k⟩=>by
 unfold sRetVD at hg
 split at hg
 ·rename_i ds q
  cases hg
  obtain⟨v,h1,h2⟩:=r.ents j _ q
  exact⟨v,h1,k v F H r.ex h2⟩
 ·cases hg
def dctO:En->Option (List (Key×D))
 |.dct _ kvs=>some kvs
 |_=>none
theorem zbf {n:Nat}{m:List En->Option En}(hm:∀xs o,m xs=some o->xs.length=n){E:XK}{σ:St}{H:Hp}{Q:VK}(h:lG X.kw B (pD X.kw) (gCall m dctO gxs) σ H Q):tCall (pSp X.kw n m) [] E (lNs X.kw B gxs) σ H Q:=by
 obtain⟨F,Z,d,r,hg,k⟩:=h
 obtain⟨xs,o,q1,q2,q3⟩:=bindC hg
 refine⟨F,Z,xs,r,q1,λvs F1 H1 e1 p1=>?_⟩
 show pSp X.kw n m (vs++[]) H1 Q E
 rw[List.append_nil]
 refine⟨F1,xs,o,e1.fh,hm xs o q2,p1,q2,λv F2 H2 e2 p2=>?_⟩
 cases o with
 |dct oa kvs=>
  cases q3
  obtain⟨a,ob,ws,h1,h2,h3,h4,h5,h6⟩:=p2
  exact k v F2 H2 (e1.trans e2) ⟨a,ob,ws,h1,e1.hh.free h4,h2,h3,h5⟩
 |_=>cases q3
variable {k n:Nat}{m:List En->Option En}
theorem jY (h:Fx X.prog X.w X.kw X.mg X.base x k n m)(hr:Room k X.A)(hg:Gl X x)(ha:DNs X B (e::es) gxs)(hdb:#[8]=false:=by decide +kernel)
  (he:starEach (e::es) X.env=(false,eval e X.env)::starEach es X.env:=by rfl) (hpl:#[11].any (·.1)=false:=by rfl):DD X B #[12] (gCall (len? n m) dctO gxs):=by
 obtain⟨f,fd,ps,F,hm,hk,hb⟩:=h.ex
 exact zo (jv F hr hg hm hk hb .nil pass0 ha hdb he hpl) λσ H Q h=>zbf wt h
end
section
variable {K:KW}{F:Hp}
end
section
variable {X:Cx}{B:Bs}{e a b c o i tg:Expr}{es:List Expr}{pos p apos cpos pos':Pos}{g ga gi gv':EnvD->Option D}{gk gk2:EnvD->Option (List (Key×D))}{gs:EnvD->Option (List D)}{x:Str}
end
section
variable {X:Cx}{B:Bs}{e a b c o i tg:Expr}{es:List Expr}{pos p apos cpos pos':Pos}{g ga gi gv':EnvD->Option D}{gk gk2:EnvD->Option (List (Key×D))}{gs:EnvD->Option (List D)}{x:Str}
theorem Qb {op:CmpOp}{t:TE}(h:PC X op a b t)(k:∀σ H Q,lG X.kw B (pE X.kw) g σ H Q->t σ H Q)(hm:behindInMarks op b=false):DT X B (.Compare a [op] [b] pos) (gb' g) :=
 vK (zf7 h hm) λσ H Q ⟨F,Z,y,r,hg,k'⟩=>by
  unfold gb' at hg
  cases q:g Z with
  |none=>rw[q] at hg;cases hg
  |some d=>
   rw[q] at hg
   have hd:d=.bl y:=by
    cases d<;>cases hg
    rfl
   subst hd
   exact k σ H _ ⟨F,Z,_,r,q,λv F' H' e p=>⟨y,p,k' F' H' e⟩⟩
theorem K7 {σ:St}{H:Hp}{Q:VK}(h:lG X.kw B (pE X.kw) (gInD false gi gk) σ H Q):tXIn X.prog X.w (lG X.kw B (pR X.kw) gi) (lG X.kw B (pK X.kw) gk) σ H Q:=by
 obtain⟨F,Z,d,r,hg,k⟩:=h
 obtain⟨ky,kvs,q1,q2,rfl⟩:=UR hg
 refine⟨F,Z,_,r,q1,λu F1 H1 e1 p1=>⟨F1,Z,kvs,r.ext e1,q2,λv F2 H2 e2 ⟨a,ob,vs,h1,h2,h3⟩=>⟨a,ob,vs,ky,h1,h2,Z5 p1,?_⟩⟩⟩
 rw[RS h3]
 exact k _ F2 H2 (e1.trans e2) (by simp;rfl)
theorem QA (hi:DR X B i gi)(ho:DK X B o gk)(hm:behindInMarks .In o=false:=by rfl):DT X B (.Compare i [.In] [o] pos) (gb' (gInD false gi gk)):=Qb (zeq hi ho) (λ_ _ _ h=>K7 h) hm
def asKI:List (Key×D)->Option (List (Key×Int))
 | []=>some []
 | (k,.int j)::r=>(asKI r).map ((k,j)::·)
 |_=>none
theorem ZP {K:KW}{F:Hp}:∀ {kvs:List (Key×D)} {vs:List (Key×V)} {kis:List (Key×Int)},Rkv K F kvs vs->asKI kvs=some kis->vs=intsV kis
 | [],_,_,r,e=>by cases e;cases r;rfl
 |p::kvs,_,kis,r,e=>by
  cases r with
  | @cons _ q _ qs h t=>
   obtain⟨k,d⟩:=p
   obtain⟨k',v⟩:=q
   unfold asKI at e
   split at e
   ·rename_i heq;cases heq
   ·rename_i k2 j r2 heq
    cases heq
    cases q2:asKI kvs with
    |none=>rw[q2] at e;cases e
    |some ks=>
     rw[q2] at e
     cases e
     have h1:k=k':=h.1
     have h2:v=.int j:=h.2
     subst h1 h2
     rw[ZP t q2]
     rfl
   ·cases e
def gEqD (neg:Bool)(ga gb:EnvD->Option (List (Key×D))):EnvD->Option D:=λZ=>(ga Z).bind λx=>(gb Z).bind λy=>(asKI x).bind λka=>(asKI y).map λkb=>.bl (neg ^^ eqI ka kb)
theorem zeo {neg:Bool}{ga gb:EnvD->Option (List (Key×D))}{Z:EnvD}{d:D}(h:gEqD neg ga gb Z=some d):∃x y ka kb,ga Z=some x/\gb Z=some y/\asKI x=some ka/\asKI y=some kb/\d=.bl (neg ^^ eqI ka kb):=by
 unfold gEqD at h
 cases q1:ga Z with
 |none=>rw[q1] at h;cases h
 |some x=>
  cases q2:gb Z with
  |none=>rw[q1,q2] at h;cases h
  |some y=>
   rw[q1,q2] at h
   have h:((asKI x).bind λka=>(asKI y).map λkb=>D.bl (neg ^^ eqI ka kb))=some d:=h
   cases q3:asKI x with
   |none=>rw[q3] at h;cases h
   |some ka=>
    rw[q3] at h
    have h:((asKI y).map λkb=>D.bl (neg ^^ eqI ka kb))=some d:=h
    cases q4:asKI y with
    |none=>rw[q4] at h;cases h
    |some kb=>
     rw[q4] at h
     cases h
     exact⟨x,y,ka,kb,rfl,rfl,q3,q4,rfl⟩
theorem zac {neg:Bool}{σ:St}{H:Hp}{Q:VK}(h:lG X.kw B (pE X.kw) (gEqD neg gk gk2) σ H Q):tXEq X.prog X.w neg (lG X.kw B (pK X.kw) gk) (lG X.kw B (pK X.kw) gk2) σ H Q:=by
 obtain⟨F,Z,d,r,hg,k⟩:=h
 obtain⟨x,y,ka,kb,q1,q2,q3,q4,rfl⟩:=zeo hg
 refine⟨F,Z,_,r,q1,λu F1 H1 e1 ⟨a,oa,va,h1,h2,h3⟩=>⟨F1,Z,_,r.ext e1,q2,λv F2 H2 e2 ⟨b,ob,vb,g1,g2,g3⟩=>?_⟩⟩
 have ea:=ZP h3 q3
 have eb:=ZP g3 q4
 subst ea eb
 exact⟨a,b,oa,ob,ka,kb,h1,g1,e2.hh _ _ h2,g2,k _ F2 H2 (e1.trans e2) rfl⟩
theorem U7 (hu:X.A.units < cLine)(ha:DK X B a gk)(hb:DK X B b gk2)(hm:behindInMarks .NotEq b=false:=by rfl):DT X B (.Compare a [.NotEq] [b] pos) (gb' (gEqD true gk gk2)):=Qb (Kh hu ha hb) (λ_ _ _ h=>zac h) hm
end
def Wc (H:Hp)(a:Addr):Hp:=λb=>if b=a then none else H b
def lSp (K:KW)(n:Nat)(m:Addr->List (Key×D)->List En->Option (List (Key×D))):Sp:=λvs H Q _=>
 ∃F kvs xs kvs' a ob ws us,vs=.ref a::us/\Same F H/\F a=none/\H a=some (DX K.w a ob ws)/\Rkv K F kvs ws/\xs.length+1=n/\Paired (λx v=>ArgE K F (Wc H a) x v) xs us/\m a kvs xs=some kvs' /\
  ∀F' H' ob' ws',Ext F (Wc H a) F' H'->H' a=some (DX K.w a ob' ws')->F' a=none->Rkv K F' kvs' ws'->Q .non H'
section
variable {P:Program}{w:World}{K:PySem.W.Frag}{mg:Str->Option Value}{base:Heap}
structure Lx (P:Program)(w:World)(K:PySem.W.Frag)(mg:Str->Option Value)(base:Heap)(x:Str)(k n:Nat)(m:List (Key×D)->List En->Option (List (Key×D))):Prop where
 ex:∃f fd ps m',FnOk P w K mg base CX0 k f fd ps (lSp ⟨K,w⟩ n m')/\mg x=some (.ref f)/\keepIn K (.ref f)=true/\Binds K fd ps []/\∀a kvs xs,xs.length+1=n->m' a kvs xs=m kvs xs
end
section
variable {X:Cx}{B:Bs}{es:List Expr}{pos p p1 cpos:Pos}{gxs:EnvD->Option (List En)}{x y:Str}{k n:Nat}{m:List (Key×D)->List En->Option (List (Key×D))}
end
def fRep:D->D->Option (List D)
 |.lst ds,.int k=>if k.natAbs<=100000/\ds.length * k.toNat<=TOP then some (List.replicate k.toNat ds).flatten else none
 |_,_=>none
theorem Rps.rep {K:KW}{F:Hp}{ds:List D}{vs:List V}(r:Rps K F ds vs):∀n,Rps K F (List.replicate n ds).flatten (List.replicate n vs).flatten
 |0=>rfl
 |n+1=>by
  rw[List.replicate_succ,List.flatten_cons,List.replicate_succ,List.flatten_cons]
  exact r.append (Rps.rep r n)
theorem zer {K:KW}:OkR K rRep (pA K) fRep:=by
 intro F H x y dx dy d Q s rx ry e k
 unfold fRep at e
 split at e
 ·rename_i ds n
  split at e
  ·rename_i hc
   cases e
   obtain⟨a,vs,rfl,h1,h2⟩:=rx.lst s
   cases ry.int
   refine⟨a,n,vs,rfl,rfl,h1,by omega,by omega,yf (by rw[<-h2.length];exact hc.2),λp hp=>k _ F _ (.new s hp) ⟨p,_,rfl,hp,zr,s.free hp,h2.rep _⟩⟩
  ·cases e
 ·cases e
section
variable {X:Cx}{B:Bs}{a b:Expr}{pos:Pos}{ga gb:EnvD->Option D}
theorem Z9 (ha:DR X B a ga)(hb:DR X B b gb):DA X B (.BinOp a .Mult b pos) (g2 fRep ga gb):=JM zfi zer ha hb
end
section
variable {Z:EnvD}{i j n:Nat}{d:D}{ds:List D}{kvs:List (Key×D)}{oa:Option Addr}{gi g:EnvD->Option D}{gk gk2:EnvD->Option (List (Key×D))}{gs:EnvD->Option (List D)}
@[simp]theorem zjt:gk' i Z=match Z[i]? with | some (some (.dct _ kvs))=>some kvs | some (some (.dbo kvs))=>some kvs | _=>none:=rfl
@[simp]theorem zh3:gNewD Z=some []:=rfl
@[simp]theorem zid:gGetD gk gi Z=(gk Z).bind λkvs=>((gi Z).bind dKey).bind λk=>lookD kvs k:=rfl
@[simp]theorem zku {neg:Bool}:gInD neg gi gk Z=((gi Z).bind dKey).bind λk=>(gk Z).map λkvs=>.bl (neg ^^ (lookD kvs k).isSome):=rfl
@[simp]theorem zhh {neg:Bool}:gEqD neg gk gk2 Z=(gk Z).bind λx=>(gk2 Z).bind λy=>(asKI x).bind λka=>(asKI y).map λkb=>.bl (neg ^^ eqI ka kb):=rfl
@[simp]theorem zge:sSetD j gk Z=(gk Z).map λkvs=>.next (Z.set j (some (.dct none kvs))):=rfl
@[simp]theorem zik:sRetVD j Z=match Z[j]? with | some (some (.dct none kvs))=>some (.ret (.dct none kvs)) | _=>none:=rfl
@[simp]theorem zi6:sPutD j gi g Z=match Z[j]? with | some (some (.dct oa kvs))=>(g Z).bind λd=>((gi Z).bind dKey).bind λk=>if kvs.length < sizeLine then some (.next (Z.set j (some (.dct oa (putD kvs k d))))) else none | _=>none:=rfl
@[simp]theorem zha:dctO (.dct oa kvs)=some kvs:=rfl
@[simp]theorem zgf {x:Str}:dKey (.str x)=some (.inr x):=rfl
@[simp]theorem zjl {k:Int}:dKey (.int k)=some (.inl k):=rfl
@[simp]theorem GI {k:Int}:fRep (.lst ds) (.int k)=if k.natAbs<=100000/\ds.length * k.toNat<=TOP then some (List.replicate k.toNat ds).flatten else none:=rfl
end
end Dv
namespace L4
open PySem PySem.Spec L2 L3
open PyProof.Rows hiding St
end L4
namespace Dv
open PySem PySem.Spec L2 L3 L4
open PyProof.Rows hiding St
def gNev:EnvD->Option D:=λ_=>none
section
variable {X:Cx}{B:Bs}{e a b c o i tg st:Expr}{es elts:List Expr}{pos p p2 apos cpos pos' tpos:Pos}{tk:Nat}{g ga gi gv':EnvD->Option D}{gk gk2:EnvD->Option (List (Key×D))}{gs:EnvD->Option (List D)}{gxs:EnvD->Option (List En)}{x:Str}
theorem QK:DE X B e gNev:=λpins s σ H Q I ⟨F,Z,d,r,hg,k⟩=>by cases hg
def mN (m:List En->Option En):List En->Option En:=λxs=>m (xs++[.val .non])
end
structure FunD (K:PySem.W.Frag)(x qual:Str)(st:Stmt)(f:Addr)(fd:FuncData):Prop where
 ex:∃(oc dV:Value) (od:Option Addr) (kV doc pm:Value) (an:Option Addr) (cdv ct:Value) (osl:Array (Option Value)),
  fd=fnOf x qual (zm st) (zl st) (zd st) dV kV doc pm an cdv ct/\K.lookup f=some ⟨oc,od,.func fd,osl⟩/\codeIn K cdv qual=true
 kp:keepIn K (.ref f)=true
section
variable {P:Program}{w:World}{K:PySem.W.Frag}{mg:Str->Option Value}{base:Heap}
theorem FunD.ok {x qual:Str}{st:Stmt}{f:Addr}{fd:FuncData}{N ps:List Str}{k:Nat}{sp:Sp}(F:FunD K x qual st f fd)(S:FnScope N ps (zd st))(len:∀vs H Q E,sp vs H Q E->vs.length=ps.length)
  (hbody:∀(cdv:Value) (A:Around) (outer:List Env) (s:Shared) (H:Hp) (vs:List V) (Q:VK) (E:XK),Room k (A.deeper (envOfC qual (zd st) s.heap.objs.size f cdv))->sp vs H Q E ->
   ∃t,PSs (cxOf CX0 P w K mg base N qual (zd st) f cdv A outer s H E).nox (zl st) t/\t { nx:=λ_ H'=>Q .non H',rt:=Q } (L2.start N vs) H):FnOk P w K mg base CX0 (k+1) f fd ps sp:=by
 obtain⟨oc,dV,od,kV,doc,pm,an,cdv,ct,osl,rfl,lk,hcd⟩:=F.ex
 refine Yc lk hcd S len λA outer s H vs Q E hr hsp=>?_
 obtain⟨t,h,q⟩:=hbody cdv A outer s H vs Q E hr hsp
 exact⟨t,h.nox,q⟩
theorem zb9 {x qual:Str}{st:Stmt}{f:Addr}{oc dV:Value}{od an:Option Addr}{osl:Array (Option Value)}{kV doc pm cdv ct:Value}(l:K.lookup f=some ⟨oc,od,.func (fnOf x qual (zm st) (zl st) (zd st) dV kV doc pm an cdv ct),osl⟩)
  (c:codeIn K cdv qual=true) (k:keepIn K (.ref f)=true):FunD K x qual st f (fnOf x qual (zm st) (zl st) (zd st) dV kV doc pm an cdv ct):=⟨⟨oc,dV,od,kV,doc,pm,an,cdv,ct,osl,rfl,l,c⟩,k⟩
theorem zdy {x qual:Str}{st:Stmt}{f:Addr}{fd:FuncData}{N ps:List Str}{k:Nat}{g:SD}(F:FunD K x qual st f fd)(S:FnScope N ps (zd st))
  (hb:∀(cdv:Value) (A:Around) (outer:List Env) (s:Shared) (H:Hp) (E:XK) (B:Bs),Room k (A.deeper (envOfC qual (zd st) s.heap.objs.size f cdv)) ->
   DSs (cxOf CX0 P w K mg base N qual (zd st) f cdv A outer s H E).nox B (zl st) g) :
  FnOk P w K mg base CX0 (k+1) f fd ps (pSp ⟨K,w⟩ ps.length (len? ps.length (mir N g))):=by
 refine F.ok S (λvs H Q E h=>?_) (λcdv A outer s H vs Q E hr h=>?_)
 ·obtain⟨F,xs,o,_,hl,hp,_⟩:=h
  rw[<-wB hp];exact hl
 ·obtain⟨F0,xs,o,fh,hl,hp,hm,k⟩:=h
  refine⟨_,hb cdv A outer s H E ⟨F0,H⟩ hr,?_⟩
  have hm:mir N g xs=some o:=by
   unfold len? at hm
   rw[if_pos hl] at hm
   exact hm
  unfold mir at hm
  cases q:g (stE N (xs.map some)) with
  |none=>rw[q] at hm;cases hm
  |some fl=>
   rw[q] at hm
   refine⟨F0,_,fl,jL (ps:=ps) fh hp,q,?_⟩
   cases fl with
   |next Z=>cases hm;exact λσ' F' H' r s=>k .non F' H' r.ex rfl
   |ret o'=>cases hm;exact λv F' H' e p=>k v F' H' e p
   |brk Z=>cases hm
   |cont Z=>cases hm
structure FxN (P:Program)(w:World)(K:PySem.W.Frag)(mg:Str->Option Value)(base:Heap)(x:Str)(k n:Nat)(m:List En->Option En):Prop where
 ex:∃f fd ps,FnOk P w K mg base CX0 k f fd ps (pSp ⟨K,w⟩ n (len? n m))/\mg x=some (.ref f)/\keepIn K (.ref f)=true/\Binds K fd ps [.none]
end
section
variable {X:Cx}{B:Bs}{e:Expr}{es:List Expr}{pos p:Pos}{gxs:EnvD->Option (List En)}{x:Str}{k n:Nat}{m:List En->Option En}
theorem zd3 {K:KW}{F H:Hp}{xs:List En}{vs:List V}(h:Paired (λx v=>ArgE K F H x v) xs vs):Paired (λx v=>ArgE K F H x v) (xs++[.val .non]) (vs++[.non]):=Paired.snoc h rfl
theorem zfm (h:FxN X.prog X.w X.kw X.mg X.base x k (n+1) m)(hr:Room k X.A)(hg:Gl X x)(ha:DNs X B (e::es) gxs)(hdb:#[8]=false:=by decide +kernel)
  (he:starEach (e::es) X.env=(false,eval e X.env)::starEach es X.env:=by rfl) (hpl:#[11].any (·.1)=false:=by rfl):DA X B #[12] (gCall (len? n (mN m)) accO gxs):=by
 obtain⟨f,fd,ps,F,hm,hk,hb⟩:=h.ex
 refine zo (jv F hr hg hm hk hb (dvs:=[.non]) (.cons rfl .nil) pass0 ha hdb he hpl) λσ H Q ⟨F,Z,d,r,hg,k⟩=>?_
 obtain⟨xs,o,q1,q2,q3⟩:=bindC hg
 refine⟨F,Z,xs,r,q1,λvs F1 H1 e1 p1=>?_⟩
 have hl:xs.length=n:=wt xs o q2
 have hm:m (xs++[.val .non])=some o:=by
  unfold len? at q2
  rw[if_pos hl] at q2
  exact q2
 refine⟨F1,xs++[.val .non],o,e1.fh,by simp[hl],zd3 p1,by unfold len?;rw[if_pos (by simp[hl])];exact hm,λv F2 H2 e2 p2=>?_⟩
 cases o with
 |acc ds=>
  cases q3
  obtain⟨a,ws,h1,h2,h3,h4,h5⟩:=p2
  exact k v F2 H2 (e1.trans e2) ⟨a,ws,h1,e1.hh.free h4,h2,h3,h5⟩
 |_=>cases q3
end
section
variable {Z:EnvD}{g gi:EnvD->Option D}{m:List En->Option En}{xs:List En}
@[simp]theorem zgc:gNev Z=none:=rfl
@[simp]theorem zjp:mN m xs=m (xs++[.val .non]):=rfl
end
section
variable {X:Cx}{B:Bs}{e c tg iter:Expr}{pos p1 p2:Pos}{ge:EnvD->Option D}{t:EnvD->Option Bool}{gi:EnvD->Option (List D)}{gbd:SD}
end
end Dv
namespace L4
open PySem PySem.Spec L2 L3
open PyProof.Rows hiding St
section
variable {prog:Program}{w:World}{A:Around}{E:Value->Shared->Prop}{s:Shared}
end
section
variable {X:Cx}{o a b:Expr}{pos p2:Pos}{to ta tb:TE}
end
end L4
namespace Dv
open PySem PySem.Spec L2 L3 L4
open PyProof.Rows hiding St
section
variable {X:Cx}{B:Bs}{e ae be:Expr}{p p2 tpos pos:Pos}{ga gb:EnvD->Option D}{gl:EnvD->Option (List D)}{x:Str}
end
section
variable {X:Cx}{B:Bs}{hb:Hp->Hp}{e a b c o tg:Expr}{es:List Expr}{pos p p2 apos cpos:Pos}{g ga gb go:EnvD->Option D}{gs:EnvD->Option (List D)}{x:Str}
end
section
variable {X:Cx}{B:Bs}{hb:Hp->Hp}{e a b c o tg:Expr}{es:List Expr}{pos p p2 apos cpos:Pos}{g ga gb go:EnvD->Option D}{gs:EnvD->Option (List D)}{x:Str}
end
end Dv
namespace L4
open PySem PySem.Spec L2 L3
open PyProof.Rows hiding St
section
variable {prog:Program}{w:World}{A:Around}{E:Value->Shared->Prop}{s:Shared}{T:String}{r d:Addr}{n:Nat}{P:Nat->Value->Prop}{OK:Heap->Prop}
end
end L4
namespace Dv
open PySem PySem.Spec L2 L3 L4
open PyProof.Rows hiding St
section
variable {X:Cx}{B:Bs}{o:Expr}{pos p:Pos}{gk:EnvD->Option (List (Key×D))}{x:Str}
end
section
variable {K:KW}{B:Bs}{F H:Hp}{σ:St}{Z:EnvD}
end
section
variable {X:Cx}{B:Bs}{tg e ck:Expr}{es:List Expr}{x y nm:Str}{pos p2 p3 p4 p5 apos cpos:Pos}{id:String}{r:V->List V->Hp->VK->Prop}{f:List D->List D->Option (List D)}{gs:EnvD->Option (List D)}{dd:List D}
end
end Dv
namespace L4
open PySem PySem.Spec L2 L3
open PyProof.Rows hiding St
section
variable {prog:Program}{w:World}{A:Around}{E:Value->Shared->Prop}{s:Shared}
end
section
variable {X:Cx}{a:Expr}{ta:TA}{p p2 pos pos2:Pos}
end
end L4
namespace Dv
open PySem PySem.Spec L2 L3 L4
open PyProof.Rows hiding St
section
variable {X:Cx}{B:Bs}{a:Expr}{p p2 pos pos2:Pos}{gs:EnvD->Option (List D)}
end
section
variable {X:Cx}{B:Bs}{e:Expr}{es:List Expr}{pos p:Pos}{g:EnvD->Option En}{gxs:EnvD->Option (List En)}{x:Str}
def scal:D->Bool
 |.int _=>true
 |.bl _=>true
 |.non=>true
 |.str _=>true
 |_=>false
variable {k n:Nat}{m:List En->Option En}
end
section
variable {K:KW}{B:Bs}{F H:Hp}{σ:St}{Z:EnvD}
end
section
variable {X:Cx}{B:Bs}{e ck ck0 ck1:Expr}{x y z:Str}{pos pos1 pos2 p p1 p2 p3 p4 p5 p6 p7 pos' apos cpos:Pos}{g:EnvD->Option D}
end
section
variable {X:Cx}{B:Bs}{e:Expr}{es:List Expr}{pos p:Pos}{gxs:EnvD->Option (List En)}{x:Str}{k n:Nat}{m:List En->Option En}
end
section
variable {X:Cx}{B:Bs}{e:Expr}{pos:Pos}{g:EnvD->Option D}
end
theorem uN {H:Hp}{t:OT}{v:V}:∀ {ts:List OT} {vs:List V},ts.length=vs.length->feetOs H (ts++[t]) (vs++[v])=feetOs H ts vs++feetO H t v
 | [],[],_=>by simp[feetOs]
 |_::_,_::_,h=>by
  simp only[List.cons_append,feetOs]
  rw[uN (by simpa using h),List.append_assoc]
theorem RepOs.snoc {K:KW}{F H:Hp}{t:OT}{v:V}(h:RepO K F H t v):∀ {ts:List OT} {vs:List V},RepOs K F H ts vs->RepOs K F H (ts++[t]) (vs++[v])
 | [],vs,r=>by have r:vs=[]:=r;subst r;exact⟨v,[],rfl,h,rfl⟩
 |_::_,_,⟨w,r,e,h1,h2⟩=>by subst e;exact⟨w,r++[v],rfl,h1,RepOs.snoc h h2⟩
section
variable {X:Cx}{B:Bs}{tg iter elt:Expr}{ifs:List Expr}{pos:Pos}{gi:EnvD->Option OT}
end
section
variable {X:Cx}{B:Bs}{o:Expr}{apos cpos pos p:Pos}{x:Str}{td:TE}
def tXClr (w:World)(td:TE):TE:=λσ H Q=>td σ H λx H1=>∃a ob kvs,x=.ref a/\H1 a=some (DX w a ob kvs)/\∀ob',Q .non (upd H1 a (DX w a ob' []))
theorem Ko (ho:PE X o td)(m:M0 X o "clear" apos cpos):PE X (.Call (.Attribute o "clear" apos) [] [] cpos) (tXClr X.w td):=by
 intro pins s σ H Q I h
 refine wpAny_Call_method (T := "dict") (id := "dict.clear") m.base rfl m.line PySem.F.plainAttrs_dict PySem.F.slot_dict_clear PySem.F.type_dict_clear (thn (ho pins s σ H _ I h) λu s1 ⟨x,H1,I1,rx,a,ob,kvs,ex,d,q1⟩=>?_)
 subst ex
 obtain rfl:u=Value.ref a:=rx
 obtain⟨_,z,hd,vs,rel,_,dd⟩:=yL I1 d
 have hz:vs.length<=sizeLine:=by rw[<-rel.length];exact z
 refine⟨VG I1 d,UA I1 d,?_⟩
 refine method_meetsIn PySem.F.slot_dict_clear PySem.F.entry_dict_clear rfl (PySem.evalArgs_none ⟨rfl,dd.typeIs,PySem.F.args_dict_clear_1 _,_,meets_dict_clear (zJ X.prog X.w) a,⟨vs,dd,hz,λh' dd' hs=>?_⟩⟩)
 have he:∃q,h'.get? a=some q:=let ⟨q,_,_,hq,_⟩:=dd';⟨q,hq⟩
 obtain⟨o',ho',new⟩:=vS (P:=X.prog) (w:=X.w) (a:=a) (kvs:=[]) (Nat.zero_le _) hd .nil dd'
 exact⟨.non,_,Zi I1 (by rw[d];exact True.intro) hs he (new _),rfl,q1 o'⟩
def sClrD (i:Nat):SD:=λZ=>match Z[i]? with
 |some (some (.dct oa _))=>some (.next (Z.set i (some (.dct oa []))))
 |_=>none
theorem za5 (i:Nat)(hx:PE X (.Name x p) (tVar i))(m:M0 X (.Name x p) "clear" apos cpos)
  (hsw:swapsWith (.Call (.Attribute (.Name x p) "clear" apos) [] [] cpos) none pos.line X.env=pure false:=by rfl) :
  DS X B (.Expr (.Call (.Attribute (.Name x p) "clear" apos) [] [] cpos) pos) (sClrD i) :=
 zC (xC (Ko hx m) hsw) λE σ H ⟨F,Z,fl,r,hg,k⟩=>by
  unfold sClrD at hg
  split at hg
  ·rename_i oa kvs q
   cases hg
   obtain⟨v,hv,a,ob,vs,rfl,h1,h2,h3,h4,h5⟩:=r.ents i _ q
   refine⟨.ref a,hv,a,ob,vs,rfl,h1,λob'=>?_⟩
   exact k σ F _ (r.write q rfl hv h2 h3 ⟨a,ob',[],rfl,zr,h2,h3,.nil,h5⟩ rfl) (Same.refl _)
  ·cases hg
end
end Dv
namespace L6
open PySem PySem.Spec L2 L3 L4
open PyProof.Rows hiding St
def tupO (vs:List Value):Obj:={ cls:=.type "tuple",data:=.seq vs.toArray }
def excO (C t:Addr):Obj:={ cls:=.ref C,data:=.fields #[.ref t,.none,.none,.none,.bool false,.none] }
def made (H:Heap)(C:Addr)(vs:List Value):Heap:=(H.push (tupO vs)).push (excO C H.objs.size)
section
variable {H:Heap}{C M:Addr}{vs:List Value}
theorem yT {a:Addr}{o:Obj}(q:H.get? a=some o):(made H C vs).get? a=some o:=Heap.get?_push_of_some _ (Heap.get?_push_of_some _ q)
theorem qB:(made H C vs).get? (H.objs.size+1)=some { cls:=.ref C,data:=.fields #[.ref H.objs.size,.none,.none,.none,.bool false,.none] }:=by unfold made excO tupO;heap_get
theorem Vj {m:Str->Option Value}(q:H.Ns M m):(made H C vs).Ns M m:=by
 obtain⟨o,x,y,z,r⟩:=q
 exact⟨o,x,y,yT z,r⟩
theorem zfc:Heap.MadeExcOf H (made H C vs) (H.objs.size+1) (.ref C) vs :=
 ⟨λ_ _ q=>yT q,Heap.get?_none_of_le (Nat.le_succ _),H.objs.size,qB,Heap.get?_none_of_le (Nat.le_refl _),Heap.get?_push_of_some _ (Heap.get?_push_at rfl rfl)⟩
end
section
variable {P:Program}{w:World}{A:Around}{E:Value->Shared->Prop}{H:Heap}{g:Array GenState}{dr:Drawn}{t:Nat}{os:OsState}{C N fI:Addr}{oI:Obj}{vs:List Value}{mN:Str->Option Value}
variable {nm q:Str}{bs bm bb:List Value}{hd:Bool}{sn:List Str}{sb:List Value}{ab:Bool}{col:Option Bool}{dl:Option Addr}{k0 k1 k2 k3 k5:Option Value}{b0 nid iid:String}
theorem Ro (F:ExcBaseFacts b0 nid iid bb)(T:OwnTail H bb bm){Q:Fin->Shared->Prop}(c:H.get? C=some (excClassObj nm q C N bs bm hd sn sb ab col dl k0 k1 k2 k3 k5 nid))(n:H.Ns N mN)(i:mN "__init__" = some (.ref fI)) (a:H.get? fI=some oI) (ac:oI.cls=.type "function")
  (k:∀h' e,H.objs.size<=e->Heap.MadeExcOf H h' e (.ref C) vs->wpAny (model P w) A (call (.ref fI) (.ref e::vs)) (λr s=>r=.none/\Q (.done (.ret (.ref e))) s) E ⟨h',g,dr,t,os⟩) (few:vs.length<=sizeLine) :
  wpAny (model P w) A (Builtin.«type.__call__» ⟨.ref C::vs,[]⟩) Q E ⟨H,g,dr,t,os⟩:=by
 have me:(Value.ref C::bm).contains (.ref C)=true:=List.contains_iff_mem.mpr (.head _)
 have c':=yT (C:=C) (vs:=vs) c
 have T':=T.keeps (h':=made H C vs) λ_ _ z=>yT z
 repeat
  first
   |with_reducible refine wpAny_loadPart_at c ?_
   |with_reducible refine wpAny_madeBy_exc c ?_
   |wp_step
 apply codeAny_call_builtin_code (Code.quiet_builtin _ F.quiet)
 apply wpAny_check_new_subT F T c
 refine codeAny_exc_new_subT F T c ?_ few
 show wpAny (model P w) A _ _ _ ⟨made H C vs,g,dr,t,os⟩
 unfold isInstance
 repeat
  first
   |with_reducible refine wpAny_loadPart_at qB ?_
   | (with_reducible refine wpAny_isSubtype_exc c' ?_;rw[me])
   |wp_step
 show wpAny (model P w) A (typeLookup (.ref C) "__init__") _ _ _
 apply wpAny_typeLookup_tail c' (Vj n) T' F.mroIs F.init.lookup
 rw[i]
 apply wpAny_holding
 apply wpAny_bind
 unfold bindSpecial
 refine wpAny_bind (wpAny_typeOf (T := "function") ⟨oI,yT a,ac⟩ ?_)
 rw[if_pos (by decide)]
 refine wpAny_pure (wpAny_bind (wpAny_mono (k _ _ (Nat.le_succ _) zfc) (λr s z=>?_) λ_ _ z=>z))
 obtain⟨rfl,z⟩:=z
 wp_walk
 exact z
theorem Um (F:ExcBaseFacts b0 nid iid bb)(T:OwnTail H bb bm){Q:Value->Shared->Prop}(c:H.get? C=some (excClassObj nm q C N bs bm hd sn sb ab col dl k0 k1 k2 k3 k5 nid))(n:H.Ns N mN)(i:mN "__init__" = some (.ref fI)) (a:H.get? fI=some oI) (ac:oI.cls=.type "function")
  (k:∀h' e,H.objs.size<=e->Heap.MadeExcOf H h' e (.ref C) vs->wpAny (model P w) (A.under (.builtin "type.__call__" ⟨.ref C::vs,[]⟩)) (call (.ref fI) (.ref e::vs)) (λr s=>r=.none/\Q (.ref e) s) E ⟨h',g,dr,t,os⟩) (few:vs.length<=sizeLine) :
  wpAny (model P w) A (call (.ref C) vs) Q E ⟨H,g,dr,t,os⟩:=by
 have ty:(⟨H,g,dr,t,os⟩:Shared).TypeIs (.ref C) "type" := ⟨_,c,rfl⟩
 have l1:=tc_lookup
 have l2:=tc_bind (.ref C)
 apply wpAny_call
 apply codeAny_of_tree
 show wpAny (model P w) _ (callAny (.ref C) ⟨vs,[]⟩) _ _ _
 repeat
  any_goals first
   |assumption
   |with_reducible refine wpAny_loadPart_at c ?_
   |wp_step
 refine⟨rfl,codeAny_call_builtin_at (Code.quiet_builtin _ #[6]) entry_typeCall (wpAny_check_type_call_sub c ?_)⟩
 exact Ro (few:=few) F T c n i a ac λh' e l m=>k h' e l m
end
def Trc (h:Heap)(e:Addr)(c:Value)(dd:Option Addr)(a0:Value)(T:Option Addr):Prop :=
 ∃oe vs,h.get? e=some oe/\oe.cls=c/\oe.dict=dd/\oe.data=.fields vs/\vs[0]?=some a0/\(T=none->vs[1]?=some .none) /\
  ∀t,T=some t->vs[1]?=some (.ref t)/\t≠e/\∃oT ts,h.get? t=some oT/\oT.data=.fields ts/\ts[3]?=some .none
def Kpt (S:List Addr)(e:Addr)(T:Option Addr)(h h':Heap):Prop :=
 ∀b o,b≠e->T≠some b->h.get? b=some o->(b∉S->h'.get? b=some o)/\∃sl,h'.get? b=some { o with slots:=sl }
theorem zez (f:Array Value->Array Value)(o:Obj):(Obj.mapFields f o).dict=o.dict:=by
 obtain⟨c,d,dt,sl⟩:=o
 cases dt<;>rfl
section
variable {M:Model}{A:Around}{E:Value->Shared->Prop}{s:Shared}
end
def CX1 (P:Program)(w:World):CXT:=λouter H s E e s'=>∃ea C dd a0 T H',e=.ref ea/\s'.os=s.os/\AllBare s'.gens/\Un (frs outer) [] H H' s.heap s'.heap/\HOk P w H' s'.heap /\
 Trc s'.heap ea C dd a0 (some T)/\s.heap.objs.size<=ea/\s.heap.objs.size<=T/\H' ea=none/\H' T=none/\E C dd H'
section
variable {P:Program}{w:World}{K:PySem.W.Frag}{mg:Str->Option Value}{base:Heap}{N:List Str}{qual:Str}{scope:Scope}{f:Addr}{cd:Value}{A:Around}{outer:List Env}{s:Shared}{H:Hp}{E:XK}
end
section
variable {prog:Program}{w:World}{A:Around}{E:Value->Shared->Prop}{s:Shared}{K:PySem.W.Frag}{x dx C f:Addr}{mA:Str->Option Value}{name:Str}{v:Value}
abbrev vB:List Value:=[.type "ValueError",.type "Exception",.type "BaseException",.type "object"]
theorem GX {h:Heap}{tl:List Value}(self:Value)(T:OwnTail h vB tl):refuseLoop self "__setattr__" tl=pure ():=by
 induction T with
 |base=>exact PySem.F.store_ValueError.passes self
 |own _ _ _ _ ih=>rw[refuseLoop_ref];exact ih
theorem zfj {R:Result->Shared->Prop}{ox:Obj}{od:Option Obj}{tk:Tok}{cd:ClassData}{bm:List Value}(X:K.In s.heap)(I:InstAt s.heap x ox C od)(hc:clsIn K C=some cd)(hmr:cd.mro=.ref C::bm)(T:OwnTail s.heap vB bm)(ht:takerIn K C name=some none)
  (h:∀b,wpAny (model prog w) A.in1 (Builtin.ObjectAttr.storeInOwnDict (.ref x) (.ref C) (.str name tk) name v b)
   (λfin s'=>match fin with | .done f=>R (.ok f) s' | .again c'=>c'.quiet=true/\codeAny (model prog w) A c' R s') (λe s'=>R (.error e) s') s) :
  codeAny (model prog w) A (.call (.builtin "object.__setattr__") ⟨[.ref x,.str name tk,v],[]⟩) R s:=by
 have SF:=PySem.F.store_object
 have cn:cd.mro.contains (.type "object")=true:=by rw[hmr,List.contains_cons,T.hasType (b:=true) (by decide),Bool.or_true]
 have sub:Looks (model prog w) s.heap (isInstance (.ref x) (.type "object")) true:=I.type.andThen (PySem.W.looks_mroIn X (by unfold PySem.W.mroIn;rw[hc,Option.bind_some,if_neg (by rw[hmr];simp),cn]))
 refine codeAny_call_builtin SF.slot.plain SF.entry (@PySem.W.check_slot (model prog w) _ _ s "object.__setattr__" "object" "__setattr__" (.ref x) [.str name tk,v] [] _ SF.kind SF.split sub (SF.args (.ref x) (.str name tk) v) ?_)
 obtain⟨attr,ha,hr⟩:=Option.bind_eq_some_iff.mp ht
 have hm:Looks (model prog w) s.heap (mroOf (.ref C)) cd.mro:=(PySem.W.looks_clsIn X hc).andThen .now
 have L3:Looks (model prog w) s.heap (Builtin.ObjectAttr.storeTaker? attr) none:=by
  cases attr with
  |none=>exact .now
  |some a=>
   obtain⟨b,hb,hb2⟩:=Option.map_eq_some_iff.mp hr
   refine (PySem.W.looks_takesIn X hb).andThen ?_
   cases b
   ·exact .now
   ·cases hb2
 rw[PySem.W.osa_eq,refuse_eq]
 refine wpAny_bind (wpAny_bind (I.type.here (wpAny_bind (hm.here ?_))))
 rw[hmr,refuseLoop_ref,GX _ T]
 refine wpAny_pure (wpAny_bind (I.type.here (wpAny_bind ((looks_findIn X ha).here (wpAny_bind (L3.here ?_))))))
 exact h _
theorem zd0 {cd0:ClassData}{bm:List Value}(hc0:clsIn K C=some cd0)(hmr:cd0.mro=.ref C::bm){ox:Obj}{fs:Array Value}{Q:Unit->Shared->Prop}(X:K.In s.heap)(ho:s.heap.get? x=some ox)(hc:ox.cls=.ref C)(hd:ox.dict=none)(hf:ox.data=.fields fs)
  (hs:findIn K (.ref C) "__setattr__" = some (some (.builtin "object.__setattr__"))) (T:OwnTail s.heap vB bm) (ht:takerIn K C name=some none) (hh:hasDictIn K C=true)
  (h:∀h',h'.get? x=some { ox with dict:=some s.heap.objs.size }->h'.Ns1 s.heap.objs.size (λy=>if y=name then some v else none)->(∀b o,b≠x->s.heap.get? b=some o->h'.get? b=some o)->Q () { s with heap:=h',toks:=s.toks+2 }) :
  wpAny (model prog w) A (setAttr (.ref x) name v) Q E s:=by
 have J:InstAt s.heap x ox C none:=⟨ho,hc,by unfold PySem.W.notCls;rw[hf],by rw[hd];trivial⟩
 refine PySem.W.set_plain X J hs (zfj (s:={ s with toks:=s.toks+1 }) X J hc0 hmr T ht λb=>?_)
 obtain⟨cd,hcd,hd'⟩:=PySem.W.any_some hh
 obtain⟨oc,odi,oda,osl⟩:=ox
 dsimp only at hc hd hf
 subst hc hd hf
 refine wpAny_bind (wpAny_pure (wpAny_bind (wpAny_bind (wpAny_loadPart ho (wpAny_bind (PySem.W.Looks.here (s:={ s with toks:=s.toks+1 }) (PySem.W.looks_clsIn X hcd) ?_))))))
 rw[hd']
 have hx1:(s.heap.push { cls:=.type "dict",data:=.dict #[] }).get? x=some ⟨.ref C,none,.fields fs,osl⟩:=Heap.get?_push_of_some _ ho
 have hxs:x≠s.heap.objs.size:=Nat.ne_of_lt (Heap.lt_size ho)
 rw[if_neg (by decide)]
 dsimp only
 rw[if_neg (by simp[typeHasDict])]
 refine wpAny_bind (wpAny_alloc' ?_)
 refine wpAny_bind (wpAny_update' hx1 ?_)
 refine wpAny_pure ?_
 have hgd:((s.heap.push { cls:=.type "dict",data:=.dict #[] }).update x λo=>{ cls:=o.cls,dict:=some s.heap.objs.size,data:=o.data,slots:=o.slots }).get? s.heap.objs.size
   = some { cls:=.type "dict",data:=.dict #[] }:=(Heap.get?_update_ne _ _ _ _ hxs.symm).trans (Heap.get?_push_at rfl rfl)
 have hnd:((s.heap.push { cls:=.type "dict",data:=.dict #[] }).update x λo=>{ cls:=o.cls,dict:=some s.heap.objs.size,data:=o.data,slots:=o.slots }).Ns s.heap.objs.size (λ_=>none) :=
  ⟨_,#[],_,hgd,rfl,λe he=>absurd he (by simp),λ_=>rfl⟩
 show wpAny _ _ (Builtin.ObjectAttr.storeInDict s.heap.objs.size (.str name s.toks) name v) _ _ _
 unfold Builtin.ObjectAttr.storeInDict Builtin.ObjectAttr.newKeyGuard
 refine wpAny_bind (wpAny_pure (wpAny_bind (wpAny_nsSet1 (Heap.Ns1.of_empty hnd) λh' hn' hs=>?_)))
 obtain⟨oD,esD,epD,hoD,hdD,hcD⟩:=hn'.count (Within.cons name v Within.nil)
 refine wpAny_bind (wpAny_lookBehind hoD (by rw[hdD];exact pastItsLine_dict (Nat.le_trans hcD (by rw[List.length_cons,List.length_nil,sizeLine_eq];omega))) ?_)
 refine wpAny_pure (h h' ?_ hn' λb o hbx hb=>?_)
 ·refine (hs.2 x hxs).trans (Heap.get?_update_self _ hx1 ?_)
  rfl
 ·exact (hs.2 b (Nat.ne_of_lt (Heap.lt_size hb))).trans ((Heap.get?_update_ne _ _ _ _ hbx).trans (Heap.get?_push_of_some _ hb))
theorem zfn {ox:Obj}{fs:Array Value}{tk:Tok}{Q:Fin->Shared->Prop}{h:Heap}{g:Array GenState}{d:Drawn}{t:Nat}{os:OsState}(X:K.In h)(ho:h.get? x=some ox)(hc:ox.cls=.ref C)(hd:ox.dict=some dx)(hf:ox.data=.fields fs)(hn:h.Ns1 dx mA)
  (ha:findIn K (.ref C) name=some none) (hh:hasDictIn K C=true) (hv:mA name=some v) (hv':PySem.W.handedIn v=true) (hq:Q (.done (.ret v)) ⟨h,g,d,t,os⟩) :
  wpAny (model prog w) A (Builtin.«object.__getattribute__» ⟨[.ref x,.str name tk],[]⟩) Q E ⟨h,g,d,t,os⟩:=by
 obtain⟨cd,hcd,hd'⟩:=PySem.W.any_some hh
 have L1:=looks_findIn (M:=model prog w) X ha
 have L2:=PySem.W.looks_clsIn (M:=model prog w) X hcd
 have hv2:handedOut v=pure v:=PySem.W.handedOut_of hv'
 obtain⟨oc,odi,oda,osl⟩:=ox
 dsimp only at hc hd hf
 subst hc hd hf
 unfold Builtin.«object.__getattribute__»
 repeat (any_goals (first | assumption | with_reducible refine wpAny_loadPart_at ho ?_ | with_reducible refine L1.at ?_ | with_reducible refine L2.at ?_ | (with_reducible refine wpAny_nsGet hn.ns ?_;rw[hv]) | rw[hv2] | wp_step))
theorem UN {ox:Obj}{fs:Array Value}{tk:Tok}{R:Result->Shared->Prop}{h:Heap}{g:Array GenState}{d:Drawn}{t:Nat}{os:OsState}(X:K.In h)(ho:h.get? x=some ox)(hc:ox.cls=.ref C)(hd:ox.dict=some dx)(hf:ox.data=.fields fs)(hn:h.Ns1 dx mA)
  (hsub:subIn K (.ref C) (.type "BaseException")=some true)
  (ha:findIn K (.ref C) name=some none) (hh:hasDictIn K C=true) (hv:mA name=some v) (hv':PySem.W.handedIn v=true) (hq:R (.ok (.ret v)) ⟨h,g,d,t,os⟩) :
  codeAny (model prog w) A (.call (.builtin "BaseException.__getattribute__") ⟨[.ref x,.str name tk],[]⟩) R ⟨h,g,d,t,os⟩:=by
 refine codeAny_call_builtin PySem.F.attrBase_ValueError.ga.plain PySem.F.entry_bexc_ga ?_
 have J:Looks (model prog w) h (typeOf (.ref x)) (.ref C):=by
  intro A' Q' E' s' k q
  unfold typeOf
  refine wpAny_bind (wpAny_loadPart (k _ _ ho) ?_)
  rw[hc]
  exact wpAny_pure q
 refine @PySem.W.check_slot (model prog w) _ _ ⟨h,g,d,t,os⟩ "BaseException.__getattribute__" "BaseException" "__getattribute__" (.ref x) [.str name tk] [] _ #[6] #[6] (J.andThen (PySem.W.looks_subIn X hsub)) (PySem.F.args_bexc_ga (.ref x) (.str name tk)) ?_
 exact zfn X ho hc hd hf hn ha hh hv hv' hq
theorem UQ {ox:Obj}{fs:Array Value}{expr:Bool}{Q:Value->Shared->Prop}(X:K.In s.heap)(ho:s.heap.get? x=some ox)(hc:ox.cls=.ref C)(hd:ox.dict=some dx)(hf:ox.data=.fields fs)(hn:s.heap.Ns1 dx mA)
  (hsub:subIn K (.ref C) (.type "BaseException")=some true) (hga:findIn K (.ref C) "__getattribute__" = some (some (.builtin "BaseException.__getattribute__"))) (hgt:findIn K (.ref C) "__getattr__" = some none)
  (ha:findIn K (.ref C) name=some none) (hh:hasDictIn K C=true) (hv:mA name=some v) (hv':PySem.W.handedIn v=true) (hq:Q v { s with toks:=s.toks+1 }) :
  wpAny (model prog w) A (getAttr (.ref x) name expr) Q E s:=by
 obtain⟨h,g,d,t,os⟩:=s
 have L1:=looks_findIn (M:=model prog w) X hga
 have L2:=looks_findIn (M:=model prog w) X hgt
 have f3:=PySem.F.attrBase_ValueError.ga.bind (.ref x)
 have hv2:handedOut v=pure v:=PySem.W.handedOut_of hv'
 have hx0:(expr&&onTheHeap (Value.builtin "BaseException.__getattribute__"))=false:=by cases expr<;>rfl
 have hx2:(Value.builtin "BaseException.__getattribute__" == Value.builtin "object.__getattribute__")=false:=by decide +kernel
 have hx1:(onTheHeap (Value.ref C)&&Value.builtin "BaseException.__getattribute__" == Value.builtin "object.__getattribute__")=false:=by rw[hx2];rfl
 unfold getAttr getAttrBy
 repeat (any_goals (first | assumption | (with_reducible refine wpAny_loadPart_at ho ?_;rw[hc]) | with_reducible refine L1.at ?_ | with_reducible refine L2.at ?_ | rw[hv2] | wp_step))
 refine UN X ho hc hd hf hn hsub ha hh hv hv' ?_
 repeat (any_goals (first | assumption | rw[hv2] | wp_step))
end
structure XC (K:PySem.W.Frag)(C HE fI:Addr)(fd:Str):Prop where
 cls:∃dd cd k0 k1 k2 k3 k5 bm,K.lookup C=some ⟨.type "type",dd,.cls cd,#[k0,k1,k2,k3,some (.builtin "ValueError.__new__"),k5]⟩/\cd.mro=.ref C::bm/\cd.hasDel=false /\
  PySem.W.tailIn K vB bm=true/\PySem.W.nsOkIn K cd.ns=true/\nsIn K cd.ns "__init__" = some (some (.ref fI))
 fn:∃o,K.lookup fI=some o/\o.cls=.type "function"
 kp:keepIn K (.ref C)=true
 sa:findIn K (.ref C) "__setattr__" = some (some (.builtin "object.__setattr__"))
 tk:takerIn K C fd=some none
 hd:hasDictIn K C=true
 sub:subIn K (.ref C) (.type "BaseException")=some true
 subH:subIn K (.ref C) (.ref HE)=some true
 ga:findIn K (.ref C) "__getattribute__" = some (some (.builtin "BaseException.__getattribute__"))
 gt:findIn K (.ref C) "__getattr__" = some none
 na:findIn K (.ref C) fd=some none
 rd:PySem.W.readsIn K HE (.type "type")=true
 fc:PySem.W.findCls K (.ref HE) (.type "type") "__init__" = some (.val (.builtin "ValueError.__init__"))
 sp:PySem.W.specialIn K (.ref HE) "__getattribute__" = some (some (.builtin "type.__getattribute__"))
section
variable {K:PySem.W.Frag}{C HE fI:Addr}{fd:Str}{h:Heap}
theorem Gr {N:Addr}{mg:Str->Option Value}{n:Str}{v:Value}(X:K.In h)(G:h.Ns N mg)(e:nsIn K N n=some (some v)):mg n=some v:=by
 obtain⟨o,es,ep,ho,hd,_,hf⟩:=G
 unfold nsIn at e
 split at e
 ·rename_i q
  have:=X _ _ q
  rw[ho] at this
  cases this
  cases hd
  split at e
  ·rename_i en he
   cases e
   rw[<-hf]
   unfold nsFind findBy
   rw[<-Array.find?_toList,he]
   rfl
  ·split at e<;>cases e
 ·cases e
theorem XC.at (x:XC K C HE fI fd)(X:K.In h):∃nm q N bs bm hdct sn sub ab col dd k0 k1 k2 k3 k5 mN,h.get? C=some (excClassObj nm q C N bs bm hdct sn sub ab col dd k0 k1 k2 k3 k5 "ValueError.__new__")/\h.Ns N mN/\mN "__init__" = some (.ref fI)/\OwnTail h vB bm:=by
 obtain⟨dd,cd,k0,k1,k2,k3,k5,bm,e,m,hdel,ht,hok,hi⟩:=x.cls
 obtain⟨nm,bs,mro,ns,qn,hd,sn,sub,ab,col,del⟩:=cd
 dsimp only at m hdel hok hi
 subst m hdel
 have G:h.Ns ns (h.nsMap ns):=.of_isNs (PySem.W.isNs_of_in X hok)
 refine⟨nm,qn,ns,bs,bm,hd,sn,sub,ab,col,dd,k0,k1,k2,k3,k5,_,X _ _ e,G,?_,PySem.W.tail_of_in X ht⟩
 exact Gr X G hi
end
section
variable {prog:Program}{w:World}{A:Around}{E:Value->Shared->Prop}{h:Heap}{g:Array GenState}{d:Drawn}{t:Nat}{os:OsState}
variable {nm q:Str}{C N:Addr}{bs bm bmB:List Value}{hdct:Bool}{sn:List Str}{sub:List Value}{ab:Bool}{col:Option Bool}{dd:Option Addr}{k0 k1 k2 k3 k5:Option Value}{B newId initId:String}
theorem Y7 (F:ExcBaseFacts B newId initId bmB)(T:OwnTail h bmB bm){e ta:Addr}{rest:List Value}{Q:Value->Shared->Prop}
  (hC:h.get? C=some (excClassObj nm q C N bs bm hdct sn sub ab col dd k0 k1 k2 k3 k5 newId)) (he:h.get? e=some { cls:=.ref C,data:=.fields #[.ref ta,.none,.none,.none,.bool false,.none] }) (hrest:rest.length<=sizeLine)
  (hq:∀h',h'.get? e=some { cls:=.ref C,data:=.fields #[.ref h.objs.size,.none,.none,.none,.bool false,.none] }->(∀b o,b≠e->h.get? b=some o->h'.get? b=some o)->Q .none ⟨h',g,d,t,os⟩) :
  wpAny (model prog w) A (call (.builtin initId) (.ref e::rest)) Q E ⟨h,g,d,t,os⟩:=by
 refine wpAny_call (codeAny_call_builtin F.init.plain F.initEntry (wpAny_check_init_subT F T hC he rfl ?_))
 wp_walk
 refine hq _ ?_ λb o hb q=>?_
 ·exact Heap.get?_update_self _ (Heap.get?_push_of_some _ he) rfl
 ·rw[Heap.get?_update_other _ _ (Ne.symm hb)]
  exact Heap.get?_push_of_some _ q
end
def ExO (e C t:Addr)(dd:Option Addr):HO:=.ext λh=>h.get? e=some { cls:=.ref C,dict:=dd,data:=.fields #[.ref t,.none,.none,.none,.bool false,.none] }
theorem qX {P:Program}{w:World}{H:Hp}{h:Heap}{e C t:Addr}{dd:Option Addr}(q:h.get? e=some { cls:=.ref C,dict:=dd,data:=.fields #[.ref t,.none,.none,.none,.bool false,.none] }):ObjOk P w H h e (ExO e C t dd) :=
 ⟨q,⟨_,q⟩,λ_ _ p k=>k _ p⟩
def xiSp (C:Addr)(fd:Str):Sp:=λvs H Q _=>∃e v t,vs=[.ref e,v]/\H e=some (ExO e C t none)/\∀t' dx,H dx=none->dx≠e->Q .non (upd (upd H e (ExO e C t' (some dx))) dx (.xd [(fd,v)]))
section
variable {X:Cx}{C HE fI:Addr}{fd x:Str}{pos p apos pa pb pos':Pos}{a b:Expr}{ta tb:TE}
def tBase (C:Addr)(t:TA):TE:=λσ H Q=>t σ H λvs H2=>∃e v t,vs=[.ref e,v]/\H2 e=some (ExO e C t none)/\∀t',Q .non (upd H2 e (ExO e C t' none))
theorem RE {pl:Sem Bool}{t:TA}(xc:XC X.K C HE fI fd)(hg:Gl X x)(hm:X.mg x=some (.ref HE))(ha:PA X [a,b] t)
  (hdb:#[8]=false:=by decide)
  (hst:starEach [a,b] X.env=(false,eval a X.env)::starEach [b] X.env:=by rfl) (hpl:(backTo pos (starEach [b] X.env)).any (·.1)=false:=by rfl)
  (ht:eval (.Call (.Attribute (.Name x p) "__init__" apos) [a,b] [] pos) X.env=(do
   let ov <-eval (.Name x p) X.env
   standAt apos.atName
   let (f,first) <-holding [ov] (getMethod ov "__init__" pl)
   callWith pos f first (backTo pos (starEach [a,b] X.env)) (backToKw pos (keywordEach [] X.env))):=by rfl) :
  PE X (.Call (.Attribute (.Name x p) "__init__" apos) [a,b] [] pos) (tBase C t):=by
 intro pins s σ H Q I h
 refine PySem.W.methodCall_KW (pl:=pl) (yr I hg hm ?_ hdb) ht
 refine PySem.W.method_cls I.kIn xc.sp (PySem.W.cls_value I.kIn xc.rd xc.fc rfl ?_)
 have I0:=I.tok (s.toks+1)
 refine callWith_method1 (first:=[]) (thn (ha pos pins _ σ H _ I0 h) λus s1 ⟨vs,H1,I1,r1,q1⟩=>?_) hst hpl
 obtain⟨e,v,t0,rfl,he,q⟩:=q1
 cases r1 with
 | @cons _ u1 _ _ ru r2=>
 cases r2 with
 | @cons _ u2 _ _ rv r3=>
 cases r3
 obtain rfl:u1=Value.ref e:=ru
 obtain⟨nm,qq,N,bs,bm,hdct,sn,sub,ab,col,dd,k0,k1,k2,k3,k5,mN,hC,hN,hi,T⟩:=xc.at I1.kIn
 have he':=(I1.hok e _ he).1
 obtain⟨hh,g,d,tk,os⟩:=s1
 refine Y7 PySem.F.excBase_ValueError T hC he' (by rw[List.length_cons,List.length_nil,sizeLine_eq];omega) λh' k1' k2'=>?_
 refine⟨.non,_,I1.write (x:=e) (e:=e) (o:=ExO e C hh.objs.size none) (h':=h') (t':=tk) (by rw[he];exact True.intro) (.inl rfl) (λb u hb z=>k2' b u hb z) ⟨_,k1'⟩ (qX k1'),rfl,q _⟩
def sFirst (C:Addr)(fd:Str)(ta tv:TE):TS:=λD σ H=>tv σ H λy H1=>ta σ H1 λx H2=>∃e t,x=.ref e/\H2 e=some (ExO e C t none)/\∀dx,H2 dx=none->dx≠e->D.nx σ (upd (upd H2 e (ExO e C t (some dx))) dx (.xd [(fd,y)]))
theorem XC.clsOf {K:PySem.W.Frag}{C HE fI:Addr}{fd:Str}{h:Heap}(x:XC K C HE fI fd)(X:K.In h):∃cd bm,clsIn K C=some cd/\cd.mro=.ref C::bm/\OwnTail h vB bm:=by
 obtain⟨dd,cd,k0,k1,k2,k3,k5,bm,e,m,hdel,ht,hok,hi⟩:=x.cls
 exact⟨cd,bm,by unfold clsIn;rw[e],m,PySem.W.tail_of_in X ht⟩
theorem zc2 {o value:Expr}{tv:TE}(xc:XC X.K C HE fI fd)(ha:PE X o ta)(hv:PE X value tv)(hs:swapsWith value (some (.Attribute o fd pos')) pos.line X.env=pure false):PS X (.Assign [.Attribute o fd pos'] value pos) (sFirst C fd ta tv):=by
 intro pins s σ H D I h
 refine plainObj_wpAny_Assign_Attribute (thn (hv pins s σ H _ I h) λu s1 ⟨y,H1,I1,ry,q⟩=>thn (ha pins s1 σ H1 _ I1 q) λov s2 ⟨x,H2,I2,rx,e,t,ex,ee,q2⟩=>?_) hs
 subst ex
 obtain rfl:ov=Value.ref e:=rx
 have he:=(I2.hok e _ ee).1
 have hn:H2 s2.heap.objs.size=none:=I2.hok.fresh (Nat.le_refl _)
 have hne:s2.heap.objs.size≠e:=λz=>by rw[z,ee] at hn;cases hn
 obtain⟨cd0,bm0,hc0,hm0,T0⟩:=xc.clsOf I2.kIn
 refine zd0 hc0 hm0 I2.kIn he rfl rfl rfl xc.sa T0 xc.tk xc.hd λh' h1 h2 h3=>⟨σ,_,?_,q2 s2.heap.objs.size hn hne⟩
 have hm:Mut (H2 e):=by rw[ee];exact True.intro
 have U:Un X.fs [] H2 (upd H2 e (ExO e C t (some s2.heap.objs.size))) s2.heap h':=Un.write hm (.inl rfl) (λb u hb q=>h3 b u hb q) ⟨_,h1⟩
 have O:HOk X.prog X.w (upd H2 e (ExO e C t (some s2.heap.objs.size))) h':=I2.hok.write hm (.inl rfl) (λb u hb q=>h3 b u hb q) ⟨_,h1⟩ (qX h1)
 have hn':upd H2 e (ExO e C t (some s2.heap.objs.size)) s2.heap.objs.size=none:=by rw[zh hne];exact hn
 refine I2.un (h':=h') (t':=s2.toks+2) ⟨U.keep,U.slot,λb o q n hx=>?_,U.there,λb xs q=>?_,λb o xs q=>?_,λb ps q=>?_⟩ λa o q=>?_
 ·rw[zh (Nat.ne_of_lt (Heap.lt_size q))];exact U.free b o q n hx
 ·rw[zh (z8 q hn)];exact U.tups b xs q
 ·rw[zh (z8 q hn)];exact U.frzs b o xs q
 ·rw[zh (z8 q hn)];exact U.tbls b ps q
 ·by_cases ha:a=s2.heap.objs.size
  ·subst ha
   rw[zr] at q
   cases q
   refine⟨_,h2,λf=>?_⟩
   by_cases hf:f=fd
   ·subst hf
    rw[if_pos rfl]
    simp only[List.lookup,beq_self_eq_true]
    exact ry
   ·rw[if_neg hf]
    have:(f==fd)=false:=by simpa using hf
    simp only[List.lookup,this]
    exact True.intro
  ·rw[zh ha] at q
   exact (O a o q).stay (λb u _ z=>z) (λb z=>by rw[zh (z8 z hn')];exact z) λb xs z=>by rw[zh (z8 z hn')];exact z
end
def del (H:Hp)(e:Addr):Hp:=λb=>if b=e then none else H b
theorem jI {H:Hp}{e b:Addr}(h:b≠e):del H e b=H b:=by unfold del;rw[if_neg h]
theorem qi {H:Hp}{e:Addr}:del H e e=none:=by unfold del;rw[if_pos rfl]
theorem Jr {X:Cx}{pins:List (Addr×Obj)}{σ:St}{H:Hp}{s:Shared}{e:Addr}{φ:Heap->Prop}(I:Inv X pins σ H s)(he:H e=some (.ext φ)):Inv X pins σ (del H e) s:=by
 have no:∀ {b:Addr},H b=none->del H e b=none:=fun {b} n=>by
  by_cases q:b=e
  ·rw[q];exact qi
  ·rw[jI q];exact n
 have ke:∀ {b:Addr} {u:HO},H b=some u->(∀φ,u≠.ext φ)->del H e b=some u:=fun {b u} n d=>by
  have:b≠e:=λz=>by rw[z,he] at n;cases n;exact d _ rfl
  rw[jI this];exact n
 have u:=I.base
 refine⟨I.ok,I.os,I.bare,⟨u.keep,u.slot,λb o q n hx=>no (u.free b o q n hx),u.there,λb xs q=>ke (u.tups b xs q) (λ_ z=>nomatch z),λb o xs q=>ke (u.frzs b o xs q) (λ_ z=>nomatch z),λb ps q=>?_⟩,I.loc,I.cell,no I.free,λx c q=>no (I.freeC x c q),λp hp=>?_,λa o q=>?_,I.len⟩
 ·obtain⟨m,z⟩:=u.tbls b ps q
  exact⟨m,ke z λ_ z=>nomatch z⟩
 ·obtain⟨a1,a2,a3⟩:=I.pin p hp
  exact⟨a1,no a2,a3⟩
 ·have hne:a≠e:=λz=>by rw[z,qi] at q;cases q
  rw[jI hne] at q
  exact (I.hok a o q).stay (λb u _ z=>z) (λb z=>ke z λ_ z=>nomatch z) λb xs z=>ke z λ_ z=>nomatch z
section
variable {M:Model}{A:Around}{E:Value->Shared->Prop}{s:Shared}{env:Env}
variable {nm q:Str}{C N:Addr}{bs bm:List Value}{hdct:Bool}{sn:List Str}{sub:List Value}{ab:Bool}{col:Option Bool}{dd:Option Addr}{k0 k1 k2 k3 k5:Option Value}{newId:String}
theorem V9 {x:Sem Value}{Q:Flow->Shared->Prop}(hbase:bm.contains (.type "BaseException")=true) (hh:A.handled=none)
  (h:wpAny M A x (λv s₁=>∃e t ed,v=.ref e/\s₁.heap.get? C=some (excClassObj nm q C N bs bm hdct sn sub ab col dd k0 k1 k2 k3 k5 newId) /\
   s₁.heap.get? e=some { cls:=.ref C,dict:=ed,data:=.fields #[.ref t,.none,.none,.none,.bool false,.none] }/\E (.ref e) s₁) E s) :
  wpAny M A (raiseStmt env (some x) none) Q E s:=by
 have hcB:(Value.ref C::bm).contains (.type "BaseException")=true:=by rw[List.contains_cons,hbase,Bool.or_true]
 unfold raiseStmt
 refine wpAny_bind (wpAny_mono h (λv s₁ h₁=>?_) λ_ _ x=>x)
 obtain⟨e,t,ed,rfl,hC,he,hE⟩:=h₁
 obtain⟨hp,g,d,tk,os⟩:=s₁
 repeat (first | with_reducible refine wpAny_loadPart_at he ?_ | with_reducible refine wpAny_loadPart_at hC ?_ | (with_reducible refine wpAny_isSubtype_exc hC ?_;rw[hcB]) | wp_step)
 exact wpAny_raiseNew_none hh hE
end
section
variable {X:Cx}{C HE fI:Addr}{fd x:Str}{pos p cpos:Pos}{a:Expr}{t:TA}{k:Nat}{f0:FuncData}{ps:List Str}
theorem K9 {pins:List (Addr×Obj)}{σ:St}{H:Hp}{s:Shared}{u:Value}{v:V}{Q:Value->Shared->Prop}(xc:XC X.K C HE fI fd)(F:FnOk X.prog X.w X.K X.mg X.base CX0 k fI f0 ps (xiSp C fd))(hr:Room (k+1) X.A)(hb:Binds X.K f0 ps [])
  (I:Inv X pins σ H s) (r:RelV v u)
  (h:∀e t dx s',Inv X pins σ (upd (upd (upd H e (ExO e C t none)) e (ExO e C t (some dx))) dx (.xd [(fd,v)])) s'->H e=none->H dx=none->dx≠e->s.heap.objs.size<=e->Q (.ref e) s') :
  wpAny #[4] X.A (call (.ref C) [u]) Q X.xe s:=by
 obtain⟨nm,qq,N,bs,bm,hdct,sn,sub,ab,col,dd,k0,k1,k2,k3,k5,mN,hC,hN,hi,T⟩:=xc.at I.kIn
 obtain⟨oI,hfI,hfc⟩:=xc.fn
 obtain⟨hh,g,d,tk,os⟩:=s
 refine Um PySem.F.excBase_ValueError T hC hN hi (I.kIn _ _ hfI) hfc (λh' e hl hm=>?_) (by rw[List.length_cons,List.length_nil,sizeLine_eq];omega)
 obtain⟨t,he,htn,ht⟩:=hm.there
 have I2:Inv X pins σ (upd H e (ExO e C t none)) ⟨h',g,d,tk,os⟩:=I.laid (a:=e) (o:=ExO e C t none) (h':=h') (t':=tk) (λb o q=>hm.keeps b o q) hl (qX he)
 have hne:H e=none:=I.hok.fresh hl
 have r2:Vals [V.ref e,v] [Value.ref e,u]:=.cons rfl (.cons r .nil)
 have hsp:xiSp C fd [V.ref e,v] (upd H e (ExO e C t none)) (λv' H2=>v'=.non/\∃t' dx,H dx=none/\dx≠e/\H2=upd (upd (upd H e (ExO e C t none)) e (ExO e C t' (some dx))) dx (.xd [(fd,v)])) E0 :=
  ⟨e,v,t,rfl,zr,λt' dx hdx hde=>⟨rfl,t',dx,by rw[zh hde] at hdx;exact hdx,hde,rfl⟩⟩
 have hl2:([Value.ref e,u]++([]:List Value)).length=ps.length:=by
  have:=F.len _ _ _ _ hsp
  simpa using this
 refine wpAny_call (codeAny_mono (F.run _ X.stack _ _ ⟨[Value.ref e,u],[]⟩ [Value.ref e,u] _ _ E0 (hr.make C [u] []) (I2.env0.make C [u] []) (by have:=hb ⟨h',g,d,tk,os⟩ [Value.ref e,u] I2.kIn hl2;simpa using this) r2 hsp) λr s' hq'=>?_)
 cases r with
 |error e=>exact False.elim hq'
 |ok fl=>
  cases fl with
  |ret u'=>
   obtain⟨v',H',I3,rv,ev,t',dx,e1,e2,e3⟩:=I2.after hq'
   subst ev e3
   refine⟨rv,h e t' dx s' ?_ hne e1 e2 hl⟩
   have:upd (upd H e (ExO e C t none)) e (ExO e C t' (some dx))=upd (upd H e (ExO e C t' none)) e (ExO e C t' (some dx)):=by rw[kl,kl]
   rw[<-this];exact I3
  |next=>exact False.elim hq'
  |brk=>exact False.elim hq'
  |cont=>exact False.elim hq'
end
section
variable {P:Program}{w:World}{K:PySem.W.Frag}{mg:Str->Option Value}{base:Heap}{N:List Str}{qual:Str}{scope:Scope}{f:Addr}{cd:Value}{A:Around}{outer:List Env}{s0:Shared}{H0:Hp}{E:XK}
variable {X:Cx}{C HE fI:Addr}{fd x:Str}{pos p cpos:Pos}{a:Expr}{t:TA}{k:Nat}{f0:FuncData}{ps:List Str}
end
theorem JS {M:Model}{h:Heap}{e C:Addr}{oe:Obj}(he:h.get? e=some oe)(hc:oe.cls=.ref C):Looks M h (typeOf (.ref e)) (.ref C):=by
 intro A' Q' E' s' k q
 unfold typeOf
 refine wpAny_bind (wpAny_loadPart (k _ _ he) ?_)
 rw[hc]
 exact wpAny_pure q
section
variable {K:PySem.W.Frag}{e C M:Addr}
structure XM (K:PySem.W.Frag)(C M:Addr):Prop where
 sub:subIn K (.ref C) (.ref M)=some true
 nt:PySem.W.instIn K (.ref M) (.type "tuple")=some false
 cls:(clsIn K M).isSome=true
 exc:subIn K (.ref M) (.type "BaseException")=some true
theorem WA {prog:Program}{w:World}{A:Around}{E:Value->Shared->Prop}{s:Shared}{Q:Bool->Shared->Prop}{oe:Obj}(xm:XM K C M)(X:K.In s.heap)(he:s.heap.get? e=some oe)(hc:oe.cls=.ref C)(h:Q true s) :
  wpAny (model prog w) A (excMatches (.ref e) (.ref M)) Q E s:=by
 obtain⟨hh,g,d,t,os⟩:=s
 have L0:=PySem.W.looks_instIn (M:=model prog w) X xm.nt
 have L1:=JS (M:=model prog w) he hc
 have L2:=PySem.W.looks_subIn (M:=model prog w) X xm.sub
 have L3:=PySem.W.looks_subIn (M:=model prog w) X xm.exc
 have L4:Looks (model prog w) hh (isType (.ref M)) true:=by
  have z0:=xm.cls
  unfold clsIn at z0
  split at z0
  ·rename_i c' d' cd' sl' ho
   intro A' Q' E' s' k q
   unfold isType loadHead
   exact wpAny_bind (wpAny_loadPart (k _ _ (X _ _ ho)) (wpAny_pure q))
  ·cases z0
 unfold excMatches isExcClass
 repeat (first | with_reducible refine L0.at ?_ | with_reducible refine L1.at ?_ | with_reducible refine L2.at ?_ | with_reducible refine L3.at ?_ | with_reducible refine L4.at ?_ | wp_step)
 all_goals first | exact h | skip
end
section
variable {X:Cx}{pins:List (Addr×Obj)}{σ:St}{H:Hp}{s:Shared}{h':Heap}{e:Addr}{T:Option Addr}
def Own (X:Cx)(pins:List (Addr×Obj))(H:Hp)(b:Addr):Prop:=X.s₀.heap.objs.size<=b/\b≠X.env.locals/\(∀x c,X.env.cells.lookup x=some c->c≠b)/\(∀p∈X.pn++pins,p.1≠b)/\H b=none/\b∉X.fs
theorem vO {s1:Shared}{H1:Hp}(I:Inv X pins σ H1 s1){b:Addr}(h:s1.heap.objs.size<=b)(n:H b=none):Own X pins H b:=by
 refine⟨Nat.le_trans I.sz h,Nat.ne_of_gt (Nat.lt_of_lt_of_le I.lt h),λx c q=>?_,λp hp=>?_,n,I.nofs h⟩
 ·obtain⟨v,o,ho,_⟩:=I.cell x c q
  exact Nat.ne_of_lt (Nat.lt_of_lt_of_le (Heap.lt_size ho) h)
 ·exact Nat.ne_of_lt (Nat.lt_of_lt_of_le (Heap.lt_size (I.pin p hp).1) h)
theorem kO (I:Inv X pins σ H s)(K:Kpt (frs X.stack) e T s.heap h')(h1:Own X pins H e)(h2:∀t,T=some t->Own X pins H t):Inv X pins σ H { s with heap:=h' }:=by
 have sub:∀b,b∈frs X.stack->b=X.env.locals∨b∈X.fs:=λb hb=>List.mem_cons.mp (I.stkSub b hb)
 have ne:∀b,b∉(e::T.toList)->b≠e/\T≠some b:=λb hb=>by
  refine⟨λz=>hb (by rw[z];exact .head _),λz=>hb ?_⟩
  rw[z];exact .tail _ (.head _)
 have tr:∀b u,H b=some u->b≠e/\T≠some b:=λb u q=>by
  constructor
  ·intro z
   rw[z,h1.2.2.2.2.1] at q
   cases q
  ·intro z
   have:=(h2 b z).2.2.2.2.1
   rw[this] at q
   cases q
 refine I.step (g':=s.gens) (t':=s.toks) (d':=s.drawn) (ch:=e::T.toList) (λb hb=>?_) (λb o hL hf hc q n=>?_) (λb o hL hf hc q n=>?_) (λb o hc q n=>n) (λb o hc q=>?_) (λ_ _ q=>q) (λ_ _ _ q=>q) (λb ps q=>⟨#[],by rw[q];simp⟩) (λm hm=>?_) (λb u q=>?_) I.bare
 ·have:Own X pins H b:=by
   rcases List.mem_cons.mp hb with rfl | z
   ·exact h1
   ·exact h2 b (by cases T with | none=>cases z | some t=>simp at z;rw[z])
  exact⟨.inr this.1,this.2.1,this.2.2.1,this.2.2.2.1⟩
 ·obtain⟨n1,n2⟩:=ne b hc
  exact (K b o n1 n2 q).1 λz=>(sub b z).elim hL hf
 ·obtain⟨n1,n2⟩:=ne b hc
  exact (K b o n1 n2 q).2
 ·obtain⟨n1,n2⟩:=ne b hc
  obtain⟨sl,z⟩:=(K b o n1 n2 q).2
  exact⟨_,z⟩
 ·obtain⟨o,es,ep,ho,r⟩:=hm
  obtain⟨sl,z⟩:=(K _ o (Ne.symm h1.2.1) (λz=>(h2 _ z).2.1 rfl) ho).2
  exact⟨_,es,ep,z,r⟩
 ·refine (I.hok b u q).stay (λc v hc z=>?_) (λ_ z=>z) λ_ _ z=>z
  have hn:∃u',H c=some u':=by
   rcases hc with rfl | z
   ·exact⟨u,q⟩
   ·exact⟨_,z⟩
  obtain⟨u',hu⟩:=hn
  obtain⟨n1,n2⟩:=tr c u' hu
  refine (K c v n1 n2 z).1 λhf=>?_
  rw[I.stkFree c hf] at hu;cases hu
theorem Jj {M:Model}{A:Around}{E:Value->Shared->Prop}{c a0:Value}{dd:Option Addr}{t:Addr}{Q:Unit->Shared->Prop}(ht:Trc s.heap e c dd a0 (some t))
  (h:∀h',Trc h' e c dd a0 (some t)->Kpt [] e (some t) s.heap h'->Q () { s with heap:=h' }):wpAny M A (setFlight (.ref e) none) Q E s:=by
 obtain⟨oe,vs,he,rfl,rfl,hd,h0,hn,hs⟩:=ht
 obtain⟨h1,hte,oT,ts,hT,hdT,h3⟩:=hs t rfl
 have sz:3 < ts.size:=(Array.getElem?_eq_some_iff.mp h3).1
 unfold setFlight
 refine wpAny_bind (wpAny_field he hd h1 ?_)
 rw[if_pos (show (Value.ref t != Value.none)=true from by simp)]
 refine wpAny_setField hT hdT sz (h _ ⟨oe,vs,?_,rfl,rfl,hd,h0,hn,λt' q=>?_⟩ λb o hb hbt q=>?_)
 ·rw[Heap.get?_update_other _ _ hte];exact he
 ·cases q
  refine⟨h1,hte,_,_,Heap.get?_update_self _ hT (Obj.isFreed_of_fields (Obj.data_mapFields hdT _)),Obj.data_mapFields hdT _,?_⟩
  rw[Array.getElem?_setIfInBounds_self_of_lt sz];rfl
 ·have:(s.heap.update t (Obj.mapFields (·.setIfInBounds 3 ((none:Option Addr).elim Value.none λf=>rawInt f)))).get? b=some o:=by
   rw[Heap.get?_update_other _ _ (λz=>hbt (by rw[z]))];exact q
  exact⟨λ_=>this,o.slots,this⟩
theorem Kpt.wide {S S':List Addr}{h h':Heap}(K:Kpt S e T h h')(hs:∀b∈S,b∈S'):Kpt S' e T h h':=λb o n1 n2 q=>⟨λhb=>(K b o n1 n2 q).1 λz=>hb (hs b z),(K b o n1 n2 q).2⟩
theorem GV {M:Model}{A:Around}{E:Value->Shared->Prop}{i:Nat}{n:Str}{pos:Pos}{Q:Unit->Shared->Prop}(I:Inv X pins σ H s)(hN:X.N.Nodup)(hi:X.N[i]?=some n)(hl:X.env.scope.names.lookup n=some .local)
  (h:∀s',Inv X pins (σ.set i none) H s'->Q () s'):wpAny M A (do bindName X.env n .none;unbindBehindTheSuite X.env n pos) Q E s:=by
 refine wpAny_bind (wpAny_bindName (uu (v:=.non) I hN hi (.inl hl) rfl (λs1 I1=>?_) (.inr hl)))
 have hiσ:i < σ.length:=by rw[I.len];exact (List.getElem?_eq_some_iff.mp hi).1
 obtain⟨m,hn,hlk⟩:=id I1.loc
 have hcls:(X.env.scope.kind==.class||(X.env.scope.kind==.module&&X.env.locals != X.env.globals))=false:=by rw[I.ok.kind];rfl
 obtain⟨u,ru,look⟩:=hlk i n .non hi (List.getElem?_set_self hiσ) (.inl hl)
 have hm:m n=some u:=by
  rcases look with⟨_,z⟩ | ⟨z,_⟩
  ·exact z
  ·have z':X.env.scope.names.lookup n=some .cell∨X.env.scope.names.lookup n=some .free:=z
   rw[hl] at z'
   rcases z' with z' | z'<;>cases z'
 unfold unbindBehindTheSuite
 refine wpAny_onRaise (wpAny_unbindName_local hl hn hm hcls λh' w hn' hs=>h _ ?_)
 obtain⟨oL,_,_,hoL,_⟩:=id hn
 have cne:=I1.cne
 refine⟨I1.ok,I1.os,I1.bare,⟨λb o e n hb hx=>?_,λb o e n hb hx=>?_,I1.base.free,λb o e hx=>?_,I1.base.tups,I1.base.frzs,I1.base.tbls⟩,⟨_,hn',λj y v' e1 e2 e3=>?_⟩,λy c e=>?_,I1.free,I1.freeC,λp hp=>?_,λb ob e=>?_,by simpa using I.len⟩
 ·exact (hs.2 b (Nat.ne_of_lt (Nat.lt_of_lt_of_le (Heap.lt_size e) I1.ok.above))).trans (I1.base.keep b o e n hb hx)
 ·obtain⟨sl,e1⟩:=I1.base.slot b o e n hb hx
  exact⟨sl,(hs.2 b (Nat.ne_of_lt (Nat.lt_of_lt_of_le (Heap.lt_size e) I1.ok.above))).trans e1⟩
 ·obtain⟨o',e1⟩:=I1.base.there b o e hx
  exact⟨o',(hs.2 b (Nat.ne_of_lt (Nat.lt_of_lt_of_le (Heap.lt_size e) I1.ok.above))).trans e1⟩
 ·by_cases hj:j=i
  ·subst hj
   rw[List.getElem?_set_self hiσ] at e2
   cases e2
  ·rw[List.getElem?_set_ne (Ne.symm hj)] at e2
   obtain⟨u',r',q⟩:=hlk j y v' e1 (by rw[List.getElem?_set_ne (Ne.symm hj)];exact e2) e3
   refine⟨u',r',?_⟩
   rcases q with⟨k,e⟩ | ⟨k,c,e,z⟩
   ·refine .inl ⟨k,?_⟩
    have:y≠n:=λe=>hj (ZU hN e1 (e ▸ hi))
    simp[this,e]
   ·exact .inr ⟨k,c,e,z.sameBut hs (cne y c e)⟩
 ·obtain⟨w',z⟩:=I1.cell y c e
  exact⟨w',z.sameBut hs (cne y c e)⟩
 ·obtain⟨e,n,ne,nf,d⟩:=I1.pin p hp
  exact⟨(hs.2 p.1 ne).trans e,n,ne,nf,d⟩
 ·refine (I1.hok b ob e).stay (λc w' hc q=>(hs.2 c ?_).trans q) (λ_ q=>q) λ_ _ q=>q
  rintro rfl
  have hf:=I1.free
  rcases hc with rfl | hc
  ·rw[hf] at e;cases e
  ·rw[hf] at hc;cases hc
end
def cxE (X:Cx)(ea:Addr)(pn:List (Addr×Obj)):Cx:={ X with A:=X.A.mark (some (.ref ea)),calm:=false,pn:=pn++X.pn,xe:=λ_ _=>False }
section
variable {X:Cx}{pins:List (Addr×Obj)}{σ:St}{H:Hp}{s:Shared}{ea:Addr}{pn:List (Addr×Obj)}
theorem ok_in (ok:X.Ok):(cxE X ea pn).Ok :=
 ⟨ok.mod,ok.kind,ok.glob,ok.blt,ok.above,ok.inj,ok.has,ok.cab,λz=>(nomatch z),ok.frames,ok.stk,ok.exf,ok.bs,ok.bsz,ok.noex,ok.exfs,ok.funs,ok.frf⟩
theorem kG (I:Inv X pins σ H s)(h:∀p∈pn,s.heap.get? p.1=some p.2/\H p.1=none/\p.1≠X.env.locals/\p.1∉X.fs/\∀v,p.2.data≠.cell v):Inv (cxE X ea pn) pins σ H s :=
 ⟨ok_in I.ok,I.os,I.bare,I.base,I.loc,I.cell,I.free,I.freeC,λp hp=>by
  have hp':p∈(pn++X.pn)++pins:=hp
  rw[List.append_assoc] at hp'
  rcases List.mem_append.mp hp' with z | z
  ·exact h p z
  ·exact I.pin p z,I.hok,I.len⟩
theorem V3 (ok:X.Ok)(I:Inv (cxE X ea pn) pins σ H s):Inv X pins σ H s :=
 ⟨ok,I.os,I.bare,I.base,I.loc,I.cell,I.free,I.freeC,λp hp=>I.pin p (by
  show p∈(pn++X.pn)++pins
  rw[List.append_assoc];exact List.mem_append_right _ hp),I.hok,I.len⟩
end
section
variable {X:Cx}{C MC:Addr}{ie:Nat}{r:St->Hp->(St->XK)->Prop}{ts:Addr->Addr->TS}{body suite:List Stmt}{b0:Stmt}{xM n:Str}{pM hpos pos:Pos}
end
section
variable {X:Cx}{C HE fI ea dx M2:Addr}{oe:Obj}{fd n x y:Str}{ie iy:Nat}{pos p p2 p3 pos2 pos3:Pos}{ta tb:TE}
def tAtE (ie:Nat)(ea dx:Addr)(fd:Str):TE:=λσ H Q=>σ[ie]?=some (some (.ref ea))/\∃v,H dx=some (.xd [(fd,v)])/\Q v H
theorem zd9 (xc:XC X.K C HE fI fd)(hpn:(ea,oe)∈X.pn)(hc:oe.cls=.ref C)(hd:oe.dict=some dx)(hf:∃fs,oe.data=.fields fs)(hv:PE X (.Name n p) (tVar ie))
  (hb:attributeBase (.Name n p) fd X.env (eval (.Name n p) X.env)=eval (.Name n p) X.env:=by rfl):PE X (.Attribute (.Name n p) fd pos) (tAtE ie ea dx fd):=by
 intro pins s σ H Q I h
 obtain⟨e1,v,e2,q⟩:=h
 obtain⟨fs,hf⟩:=hf
 refine Vf hb (thn (hv pins s σ H (λv H1=>v=.ref ea/\H1=H) I ⟨_,e1,rfl,rfl⟩) λu s1 ⟨x,H1,I1,rx,ex,eH⟩=>?_)
 subst ex eH
 obtain rfl:u=Value.ref ea:=rx
 obtain⟨mA,hn,hr⟩:=(I1.hok dx _ e2)
 have:=hr fd
 simp only[List.lookup,beq_self_eq_true] at this
 obtain⟨w,hw,rw'⟩:=RelO.some_of this
 exact UQ I1.kIn (I1.pin (ea,oe) (List.mem_append_left _ hpn)).1 hc hd hf hn xc.sub xc.ga xc.gt xc.na xc.hd hw (Vk rw') ⟨v,_,I1.tok _,rw',q⟩
end
section
variable {X:Cx}{k:Nat}{f:Addr}{f0:FuncData}{ps:List Str}{sp:Sp}{x:Str}{pos p:Pos}{e:Expr}{es:List Expr}{t:TA}{st:Stmt}{rest:List Stmt}{E:XK}
theorem PA.nox {es:List Expr}{t:TA}(h:PA X.nox es t):PA X es t:=λpos pins s σ H Q I hw=>
 wpAny_mono (h pos pins s σ H Q (I.wish _) hw) (λ_ _ ⟨v,H',I',r,q⟩=>⟨v,H',I'.unwish,r,q⟩) λ_ _ z=>False.elim z
theorem PS.nox {st:Stmt}{t:TS}(h:PS X.nox st t):PS X st t:=λpins s σ H D I hw=>
 wpAny_mono (h pins s σ H D (I.wish _) hw) (λ_ _ q=>q.unwish) λ_ _ z=>False.elim z
end
end L6
namespace Dv
open PySem PySem.Spec L2 L3 L4 L6
open PyProof.Rows hiding St
def rSp (K:KW)(C:Addr)(fd:Str)(n:Nat)(m:List En->Option D):Sp:=λvs H _ E=>
 ∃F xs d,Same F H/\xs.length=n/\Paired (λx v=>ArgE K F H x v) xs vs/\m xs=some d/\∀dx v F' H',Ext F H F' H'->H' dx=some (.xd [(fd,v)])->Rp K F' d v->E (.ref C) (some dx) H'
structure Rx (P:Program)(w:World)(K:PySem.W.Frag)(mg:Str->Option Value)(base:Heap)(x:Str)(C:Addr)(fd:Str)(k n:Nat)(m:List En->Option D):Prop where
 ex:∃f f0 ps,FnOk P w K mg base (CX1 P w) k f f0 ps (rSp ⟨K,w⟩ C fd n m)/\mg x=some (.ref f)/\keepIn K (.ref f)=true/\Binds K f0 ps []
def lB (K:KW)(B:Bs)(C:Addr)(fd:Str)(E:XK)(g:EnvD->Option D):TS:=λ_ σ H=>
 ∃F Z d,Rep K B F σ H Z/\g Z=some d/\∀dx v F' H',Ext B.F0 B.H0 F' H'->H' dx=some (.xd [(fd,v)])->Rp K F' d v->E (.ref C) (some dx) H'
section
variable {P:Program}{w:World}{K:PySem.W.Frag}{mg:Str->Option Value}{base:Heap}{N:List Str}{qual:Str}{scope:Scope}{f:Addr}{cd:Value}{A:Around}{outer:List Env}{s0:Shared}{H0:Hp}{E:XK}
variable {X:Cx}{B:Bs}{C HE fI:Addr}{fd x:Str}{pos p cpos:Pos}{a e:Expr}{es:List Expr}{st:Stmt}{rest:List Stmt}{k n:Nat}{g:EnvD->Option D}{gs:SD}{gxs:EnvD->Option (List En)}{m:List En->Option D}{f0:FuncData}{ps:List Str}
end
section
variable {X:Cx}{B:Bs}{C HE fI MC M2:Addr}{fd x:Str}{pos p cpos:Pos}{a e c:Expr}{es:List Expr}{rest sa sb:List Stmt}{k n:Nat}{g ga gb:EnvD->Option D}{gt:EnvD->Option Bool}{gxs:EnvD->Option (List En)}{m:List En->Option D}
theorem RK {K:KW}{F:Hp}{σ:St}{H:Hp}{Z:EnvD}{i:Nat}(r:Rep K B F σ H Z)(h:∀x,Z[i]?≠some (some x)):Rep K B F (σ.set i none) H Z:=by
 have ne:∀ {j:Nat} {x:En},Z[j]?=some (some x)->j≠i:=fun {j x} e z=>by subst z;exact h x e
 refine⟨r.ex,by simp[r.len],λj x e=>?_,λj l y z v w e1 e2 s1 s2 hne=>?_⟩
 ·obtain⟨v,h1,h2⟩:=r.ents j x e
  exact⟨v,by rw[List.getElem?_set_ne (Ne.symm (ne e))];exact h1,h2⟩
 ·rw[List.getElem?_set_ne (Ne.symm (ne e1))] at s1
  rw[List.getElem?_set_ne (Ne.symm (ne e2))] at s2
  exact r.dj j l y z v w e1 e2 s1 s2 hne
variable {xM y n2 xI fx:Str}{ie iy i:Nat}{pM hpos pI pN pC pA pE' pY pK pB pF apos epos:Pos}{body:List Stmt}{nm:Str}
end
structure Exc (P:Program)(w:World)(K:PySem.W.Frag)(mg:Str->Option Value)(base:Heap)(CT HE fI:Addr)(fd xT xH:Str):Prop where
 xc:XC K CT HE fI fd
 xm:XM K CT CT
 xmH:XM K CT HE
 z:kitOne K (.ref CT) (.ref HE)=some true
 zT:kitOne K (.ref CT) (.ref CT)=some true
 mT:mg xT=some (.ref CT)
 mH:mg xH=some (.ref HE)
 ini:∃f0 ps,FnOk P w K mg base CX0 1 fI f0 ps (xiSp CT fd)/\Binds K f0 ps []
section
variable {P:Program}{w:World}{K:PySem.W.Frag}{mg:Str->Option Value}{base:Heap}{N:List Str}{qual:Str}{scope:Scope}{f:Addr}{cd:Value}{A:Around}{outer:List Env}{s0:Shared}{H0:Hp}{E:XK}
variable {B:Bs}{CT HE fI:Addr}{fd xT xH:Str}{pos p cpos:Pos}{a:Expr}{rest:List Stmt}{g:EnvD->Option D}
theorem Uh {K:PySem.W.Frag}{v:Value}:kitOne K v v=some true:=by unfold kitOne;rw[if_pos (beq_self_eq_true _)]
theorem zaq {C e t:Addr}{fd:Str}{v:V}{H:Hp}{Q:VK}(q:∀t' dx,H dx=none->dx≠e->Q .non (upd (upd H e (ExO e C t' (some dx))) dx (.xd [(fd,v)])))(t' dx:Addr)(h1:upd H e (ExO e C t' none) dx=none)(h2:dx≠e) :
  Q .non (upd (upd (upd H e (ExO e C t' none)) e (ExO e C t' (some dx))) dx (.xd [(fd,v)])):=by
 rw[kl]
 rw[zh h2] at h1
 exact q t' dx h1 h2
end
section
variable {X:Cx}{B:Bs}{C HE fI MC M2:Addr}{fd x:Str}{pos p cpos:Pos}{gb:EnvD->Option D}
variable {xM y n2 xI fx:Str}{ie iy i:Nat}{pM hpos pI pN pC pA pE' pY pK pB pF apos epos:Pos}{body:List Stmt}{nm:Str}
end
section
variable {P:Program}{w:World}{K:PySem.W.Frag}{mg:Str->Option Value}{base:Heap}{N:List Str}{qual:Str}{scope:Scope}{f:Addr}{cd:Value}{A:Around}{outer:List Env}{s0:Shared}{H0:Hp}{E:XK}
variable {X:Cx}{B:Bs}{C:Addr}{fd x:Str}{pos p cpos lpos:Pos}{e elt tg:Expr}{es ifs:List Expr}{rest:List Stmt}{k n i:Nat}{gxs:EnvD->Option (List En)}{m:List En->Option D}{own:List Str}{cap:List (Str×Nat)}{scp:Scope}
end
end Dv
namespace Dv
open PySem PySem.Spec L2 L3 L4
open PyProof.Rows hiding St
section
variable {X:Cx}{B:Bs}{e o:Expr}{apos cpos:Pos}{go:EnvD->Option D}{gs:EnvD->Option (List D)}
def rIndex (K:KW):V->List V->Hp->VK->Prop:=λx vs H Q=>∃(a:Addr) (ys:List Str) (y:Str),x=.ref a/\vs=[.str y]/\y∈ys/\SqL K H a (ys.map V.str)/\Q (.int (ys.idxOf y)) H
def sameT (y:Str):Value->Bool
 |.str c _=>c==y
 |_=>false
theorem Zy:∀ {ys:List Str} {us:List Value},Vals (ys.map V.str) us->us.length=ys.length/\∀j (h1:j < us.length) (h2:j < ys.length),∃k,us[j]=.str ys[j] k
 | [],_,.nil=>⟨rfl,λj h1 _=>absurd h1 (Nat.not_lt_zero _)⟩
 |z::ys,_,.cons r t=>by
  obtain⟨k,rfl⟩:=r
  obtain⟨l,h⟩:=Zy t
  refine⟨by simp[l],λj h1 h2=>?_⟩
  cases j with
  |zero=>exact⟨k,rfl⟩
  |succ j=>exact h j (by simpa using h1) (by simpa using h2)
theorem zdu {ys:List Str}{y:Str}(h:y∈ys):ys.idxOf y < ys.length:=List.idxOf_lt_length_of_mem h
theorem zb3:MtR X "list.index" (rIndex X.kw):=by
 intro pins s σ H x vs v us Q I rx rv h
 obtain⟨a,ys,y,rfl,rfl,hin,hq,q⟩:=h
 cases rx
 obtain⟨u,rfl,ru⟩:=rv.one
 obtain⟨t,rfl⟩:=ru
 obtain⟨its,r,pl,hzz⟩:=I.list hq
 obtain⟨ob,n,e,oc,od,odt⟩:=pl
 obtain⟨cls,dict,data,slots⟩:=ob
 cases oc;cases od;cases odt
 obtain⟨hl,hat⟩:=Zy r
 have hj:=zdu hin
 have hz2:ys.length<=sizeLine:=by simpa using hzz
 rw[sizeLine_eq] at hz2
 have hj':ys.idxOf y < its.toArray.size:=by rw[List.size_toArray,hl];exact hj
 refine call_meets PySem.F.slot_list_index ⟨_,e,rfl⟩ PySem.F.entry_list_index (PySem.F.args_list_index_2 _ _)
  (PySem.SeqAt.list_indexAt a its.toArray n none slots (.str y t) (sameT y) (ys.idxOf y) hj' #[1] ?_ λm hm hlt=>?_) ⟨e,λw hw=>?_,⟨.int _,H,I.tok _,⟨_,rfl⟩,q⟩⟩
 ·obtain⟨k,hk⟩:=hat (ys.idxOf y) (by rw[hl];exact hj) hj
  show sameT y its[ys.idxOf y]=true
  rw[hk]
  show (ys[ys.idxOf y]==y)=true
  rw[List.getElem_idxOf hj]
  simp
 ·have hm':m < its.length:=by simpa using hm
  obtain⟨k,hk⟩:=hat m hm' (by rw[<-hl];exact hm')
  show sameT y its[m]=false
  rw[hk]
  show (ys[m]==y)=false
  have:=List.not_of_lt_findIdx (p:=(·==y)) (xs:=ys) (i:=m) hlt
  simpa using this
 ·have hw':w∈its:=by simpa using hw
  obtain⟨j,h1,rfl⟩:=List.getElem_of_mem hw'
  obtain⟨k,hk⟩:=hat j h1 (by rw[<-hl];exact h1)
  rw[hk]
  exact (eqGives_str _ y k t).at _ _
def fIndex:D->List D->Option D
 |.lst ds,[.str y]=>(asSs ds).bind λys=>if y∈ys then some (.int (ys.idxOf y)) else none
 |_,_=>none
theorem Qf (ho:DR X B o go)(ha:DRs X B [e] gs)
  (hbase:attributeBase o "index" X.env (eval o X.env)=eval o X.env:=by rfl)
  (hfew:((backTo cpos (starEach [e] X.env)).all (λx=>!x.1)&&(backToKw cpos (keywordEach [] X.env)).all (λx=>x.1.isSome)
   && decide (([e]:List Expr).length+([]:List Keyword).length+(if ([]:List Keyword).isEmpty then 0 else 1) < 30))=true:=by rfl)
  (hline:(apos.endLine==cpos.line)=true:=by rfl) (hs:starEach [e] X.env=(false,eval e X.env)::starEach [] X.env:=by rfl) (hplain:(backTo cpos (starEach [] X.env)).any (·.1)=false:=by rfl) :
  DE X B (.Call (.Attribute o "index" apos) [e] [] cpos) (gSM fIndex go gs) :=
 zo (Vs PySem.F.plainAttrs_list PySem.F.slot_list_index PySem.F.type_list_index zb3 ho ha hbase hfew hline hs hplain) λσ H Q ⟨F,Z,d,r,hg,k⟩=>by
  obtain⟨d1,ds,q1,q2,q3⟩:=bind2 hg
  unfold fIndex at q3
  split at q3
  ·rename_i xs y
   cases q4:asSs xs with
   |none=>rw[q4] at q3;cases q3
   |some ys=>
    rw[q4,Option.bind_some] at q3
    split at q3
    ·rename_i hin
     cases q3
     refine⟨F,Z,_,r,q1,λv F1 H1 e1 p1=>?_⟩
     obtain⟨a,us,rfl,h1,h2⟩:=p1.lst e1.fh
     have:=uY q4 h2
     subst this
     refine⟨.inl ⟨rfl,_,.of h1⟩,F1,Z,_,r.ext e1,q2,λvs F2 H2 e2 p2=>?_⟩
     obtain⟨w,rfl,rw'⟩:=pair1 p2
     cases rw'.str
     exact⟨a,ys,y,rfl,rfl,hin,.of (e2.hh _ _ h1),k _ F2 H2 (e1.trans e2) rfl⟩
    ·cases q3
  ·cases q3
end
@[simp]theorem Ue {ds:List D}{y:Str}:fIndex (.lst ds) [.str y]=(asSs ds).bind λys=>if y∈ys then some (.int (ys.idxOf y)) else none:=rfl
end Dv
namespace Dv
open PySem PySem.Spec L2 L3 L4 L6
open PyProof.Rows hiding St
def noStar:Expr->Bool
 |.Starred _ _=>false
 |_=>true
theorem y0 {e:Expr}{es:List Expr}{env:Env}(h:noStar e=true):starEach (e::es) env=(false,eval e env)::starEach es env:=by
 cases e<;>first | rfl | (cases h)
def PassS (X:Cx)(E:St->XK):Prop:=∀(pins:List (Addr×Obj)) (σ:St) (H:Hp) (s:Shared) (e:Value) (s':Shared),Inv X pins σ H s->CX1 X.prog X.w X.stack H s (E σ) e s'->X.xe e s'
abbrev Xv:=Str×Option D
def Pd (K:KW)(F H:Hp)(fd:Str)(dd:Option Addr):Option D->Prop
 |none=>dd=none
 |some d=>∃dx v,dd=some dx/\H dx=some (.xd [(fd,v)])/\Rp K F d v
def ySp (K:KW)(ca:Str->Addr)(fd:Str)(n:Nat)(m:List En->Option Xv):Sp:=λvs H _ E=>
 ∃F xs q,Same F H/\xs.length=n/\Paired (λx v=>ArgE K F H x v) xs vs/\m xs=some q/\∀dd F' H',Ext F H F' H'->Pd K F' H' fd dd q.2->E (.ref (ca q.1)) dd H'
structure Ry (P:Program)(w:World)(K:PySem.W.Frag)(mg:Str->Option Value)(base:Heap)(ca:Str->Addr)(fd:Str)(x:Str)(k n:Nat)(m:List En->Option Xv):Prop where
 ex:∃f f0 ps,FnOk P w K mg base (CX1 P w) k f f0 ps (ySp ⟨K,w⟩ ca fd n m)/\mg x=some (.ref f)/\keepIn K (.ref f)=true/\Binds K f0 ps []
def lV (K:KW)(B:Bs)(ca:Str->Addr)(fd:Str)(E:St->XK)(g:EnvD->Option Xv):St->Hp->Prop:=λσ H=>
 ∃F Z q,Rep K B F σ H Z/\g Z=some q/\∀dd F' H',Rep K B F' σ H' Z->Same F F'->Pd K F' H' fd dd q.2->E σ (.ref (ca q.1)) dd H'
def DV (X:Cx)(B:Bs)(ca:Str->Addr)(fd:Str)(E:St->XK)(e:Expr)(g:EnvD->Option Xv):Prop:=PE X e λσ H _=>lV X.kw B ca fd E g σ H
def DVa (X:Cx)(B:Bs)(ca:Str->Addr)(fd:Str)(E:St->XK)(es:List Expr)(g:EnvD->Option Xv):Prop:=PA X es λσ H _=>lV X.kw B ca fd E g σ H
def lVs (K:KW)(B:Bs)(ca:Str->Addr)(fd:Str)(E:St->XK)(g:EnvD->Option (EnvD×Xv)):St->Hp->Prop:=λσ H=>
 ∃F Z q,Rep K B F σ H Z/\g Z=some q/\∀dd σ' F' H',Rep K B F' σ' H' q.1->Same F F'->Pd K F' H' fd dd q.2.2->E σ' (.ref (ca q.2.1)) dd H'
def DVs (X:Cx)(B:Bs)(ca:Str->Addr)(fd:Str)(E:St->XK)(sts:List Stmt)(g:EnvD->Option (EnvD×Xv)):Prop:=PSs X sts λ_ σ H=>lVs X.kw B ca fd E g σ H
theorem Kw {X:Cx}{es:List Expr}:PA X es λ_ _ _=>False:=λ_ _ _ _ _ _ _ h=>h.elim
section
variable {X:Cx}{B:Bs}{ca:Str->Addr}{fd x:Str}{E:St->XK}{pos p cpos:Pos}{a b e c:Expr}{es:List Expr}{st:Stmt}{rest sa sb:List Stmt}{k n:Nat}{g ga gb:EnvD->Option Xv}{gd:EnvD->Option D}{gl:EnvD->Option (List D)}{gs:SD}{gt:EnvD->Option Bool}{gxs:EnvD->Option (List En)}{m:List En->Option Xv}{h1 h2:EnvD->Option (EnvD×Xv)}
def yCall (m:List En->Option Xv)(gxs:EnvD->Option (List En)):EnvD->Option Xv:=λZ=>(gxs Z).bind m
theorem wy (hp:PassS X E)(h:Ry X.prog X.w X.kw X.mg X.base ca fd x k n m)(hn:∀xs o,m xs=some o->xs.length=n)(hr:Room k X.A)(hg:Gl X x)(ha:DNs X.nox B (e::es) gxs)
  (hdb:#[8]=false:=by decide +kernel) (he:starEach (e::es) X.env=(false,eval e X.env)::starEach es X.env:=by rfl) (hpl:#[11].any (·.1)=false:=by rfl) :
  DV X B ca fd E #[12] (yCall m gxs):=by
 obtain⟨f,f0,ps,F,hm,hk,hb⟩:=h.ex
 intro pins s σ H Q I h
 obtain⟨F0,Z,q0,r,hgq,kk⟩:=h
 unfold yCall at hgq
 cases q1:gxs Z with
 |none=>rw[q1] at hgq;cases hgq
 |some xs=>
  rw[q1] at hgq
  have hgq:m xs=some q0:=hgq
  refine wpAny_Call_Name_kw (yr I hg hm ?_ hdb)
  refine PySem.W.callWith_K (h₀:=X.base) I.ok.mod.kin hk (wpAny_mono (ha pos pins s σ H (λvs H1=>ySp X.kw ca fd n m vs H1 (λ_ _=>False) (E σ)) (I.wish _) ⟨F0,Z,xs,r,q1,λvs F1 H1 e1 p1=>⟨F1,xs,q0,e1.fh,hn xs q0 hgq,p1,hgq,λdd F' H' e2 pd=>kk dd F' H' (r.ext (e1.trans e2)) (e1.trans e2).ff pd⟩⟩) (λus s1 ⟨vs,H1,I1,rv,q⟩=>⟨I1.kIn,?_⟩) λ_ _ z=>False.elim z) he hpl
  have I1:=I1.unwish
  have hl:(us++([]:List Value)).length=ps.length:=by rw[List.append_nil,<-rv.length];exact F.len _ _ _ _ q
  refine wpAny_call (codeAny_mono (F.run X.A X.stack s1 H1 ⟨us,[]⟩ us vs _ (E σ) hr I1.env0 (by have:=hb s1 us I1.kIn hl;rw[List.append_nil] at this;exact this) rv q) λr s' hq=>?_)
  cases r with
  |error e=>exact hp pins σ H1 s1 e s' I1 hq
  |ok fl=>
   cases fl with
   |ret u=>obtain⟨_,_,_,_,_,_,_,z⟩:=hq;exact z.elim
   |next=>exact False.elim hq
   |brk=>exact False.elim hq
   |cont=>exact False.elim hq
theorem lV.ext {K:KW}{σ:St}{H H1 F F1:Hp}{Z:EnvD}{q:Xv}(r:Rep K B F σ H Z)(e1:Ext F H F1 H1)(hg:g Z=some q)(k:∀dd F' H',Rep K B F' σ H' Z->Same F F'->Pd K F' H' fd dd q.2->E σ (.ref (ca q.1)) dd H'):lV K B ca fd E g σ H1 :=
 ⟨F1,Z,q,r.ext e1,hg,λdd F' H' r' s'=>k dd F' H' r' (e1.ff.trans s')⟩
def yAft {α:Type}(ga:EnvD->Option α)(g:EnvD->Option Xv):EnvD->Option Xv:=λZ=>(ga Z).bind λ_=>g Z
theorem Q1 {α:Type}{ga:EnvD->Option α}{Z:EnvD}{q:Xv}(h:yAft ga g Z=some q):∃y,ga Z=some y/\g Z=some q:=by
 unfold yAft at h
 cases q1:ga Z with
 |none=>rw[q1] at h;cases h
 |some y=>rw[q1] at h;exact⟨y,rfl,h⟩
theorem Zq (h:DV X B ca fd E e g)(hs:starEach (e::es) X.env=(false,eval e X.env)::starEach es X.env:=by rfl):DVa X B ca fd E (e::es) g:=ye (zO h Kw hs) λ_ _ _ q=>q
def yAlt {α:Type}(g1 g2:EnvD->Option α):EnvD->Option α:=λZ=>match g1 Z with
 |some q=>some q
 |none=>g2 Z
theorem ZB (d1:DVs X B ca fd E rest h1)(d2:DVs X B ca fd E rest h2):DVs X B ca fd E rest (yAlt h1 h2):=λpins s σ H D I ⟨F,Z,q,r,hg,k⟩=>by
 unfold yAlt at hg
 split at hg
 ·rename_i q' hq;cases hg;exact d1 pins s σ H D I ⟨F,Z,q,r,hq,k⟩
 ·exact d2 pins s σ H D I ⟨F,Z,q,r,hg,k⟩
def yE (g:EnvD->Option Xv):EnvD->Option (EnvD×Xv):=λZ=>(g Z).map λq=>(Z,q)
theorem Wh {K:KW}{σ:St}{H:Hp}(h:lVs K B ca fd E (yE g) σ H):lV K B ca fd E g σ H:=by
 obtain⟨F,Z,q,r,hg,k⟩:=h
 unfold yE at hg
 cases q1:g Z with
 |none=>rw[q1] at hg;cases hg
 |some q'=>rw[q1] at hg;cases hg;exact⟨F,Z,q',r,q1,λdd F' H' r' s' pd=>k dd σ F' H' r' s' pd⟩
theorem ug (h:DV X B ca fd E e g):DVs X B ca fd E (.Return (some e) pos::rest) (yE g) :=
 y7 (y9 (wY h) (u:=λ_ _ _=>False) λ_ _ _ _ _ _ z=>z.elim) λ_ _ _ q=>Wh q
theorem Zh {i:Nat}{y:Str}{yp:Pos}(hN:X.N.Nodup)(hi:X.N[i]?=some y)(hx:Loc X.env.scope y)(h:DV X B ca fd E e g)(hs:swapsWith e (some (.Name y yp)) pos.line X.env=pure false:=by rfl)(hf:X.fn y=true∨X.env.scope.names.lookup y=some .local:=by first | exact .inl rfl | exact .inr rfl | assumption) :
  DVs X B ca fd E (.Assign [.Name y yp] e pos::rest) (yE g) :=
 y7 (y9 (vC (i:=i) hN hi hx h hs hf) (u:=λ_ _ _=>False) λ_ _ _ _ _ _ z=>z.elim) λ_ _ _ q=>Wh q
def ySeq (gs:SD)(h:EnvD->Option (EnvD×Xv)):EnvD->Option (EnvD×Xv):=λZ=>match gs Z with
 |some (.next Z')=>h Z'
 |_=>none
theorem u8 (d1:DS X.nox B st gs)(d2:DVs X B ca fd E rest h2):DVs X B ca fd E (st::rest) (ySeq gs h2) :=
 y7 (y9 (PS.nox d1) d2) λD σ H ⟨F,Z,q,r,hg,k⟩=>by
  unfold ySeq at hg
  split at hg
  ·rename_i Z' q1
   exact⟨F,Z,_,r,q1,λσ' F' H' r' s'=>⟨F',Z',q,r',hg,λdd σ2 F2 H2 r2 s2 pd=>k dd σ2 F2 H2 r2 (s'.trans s2) pd⟩⟩
  ·cases hg
def yNo {α:Type}:EnvD->Option α:=λ_=>none
theorem Rj:DVs X B ca fd E rest yNo:=λ_ _ _ _ _ _ ⟨_,_,_,_,hg,_⟩=>by cases hg
def yIf (gt:EnvD->Option Bool)(h1 h2:EnvD->Option (EnvD×Xv)):EnvD->Option (EnvD×Xv):=λZ=>(gt Z).bind λb=>if b=true then h1 Z else h2 Z
theorem Uo (hc:DT X.nox B c gt)(d1:DVs X B ca fd E sa h1)(d2:DVs X B ca fd E sb h2):DVs X B ca fd E (.If c sa sb pos::rest) (yIf gt h1 h2) :=
 y7 (y9 (WM (PT.nox hc) d1 d2) (u:=λ_ _ _=>False) λ_ _ _ _ _ _ z=>z.elim) λD σ H ⟨F,Z,q,r,hg,k⟩=>by
  unfold yIf at hg
  cases q1:gt Z with
  |none=>rw[q1] at hg;cases hg
  |some b=>
   rw[q1] at hg
   have hg:(if b=true then h1 Z else h2 Z)=some q:=hg
   refine⟨F,Z,b,r,q1,λF1 H1 e1=>?_⟩
   cases b with
   |true=>rw[if_pos rfl] at hg;exact iteT ⟨F1,Z,q,r.ext e1,hg,λdd σ2 F2 H2 r2 s2 pd=>k dd σ2 F2 H2 r2 (e1.ff.trans s2) pd⟩
   |false=>rw[if_neg (by decide)] at hg;exact iteF ⟨F1,Z,q,r.ext e1,hg,λdd σ2 F2 H2 r2 s2 pd=>k dd σ2 F2 H2 r2 (e1.ff.trans s2) pd⟩
end
end Dv
namespace L6
open PySem PySem.Spec L2 L3 L4
open PyProof.Rows hiding St
def Trf (h:Heap)(e:Addr)(c:Value)(dd:Option Addr)(a0:Value)(T:Option Addr):Prop :=
 ∃oe vs,h.get? e=some oe/\oe.cls=c/\oe.dict=dd/\oe.data=.fields vs/\vs[0]?=some a0/\(T=none->vs[1]?=some .none) /\
  ∀t,T=some t->vs[1]?=some (.ref t)/\t≠e/\∃oT ts fl,h.get? t=some oT/\oT.data=.fields ts/\ts[3]?=some fl
theorem Trc.free {h:Heap}{e:Addr}{c:Value}{dd:Option Addr}{a0:Value}{T:Option Addr}(t:Trc h e c dd a0 T):Trf h e c dd a0 T:=by
 obtain⟨oe,vs,h1,h2,h3,h4,h5,h6,h7⟩:=t
 exact⟨oe,vs,h1,h2,h3,h4,h5,h6,λt q=>let ⟨a,b,oT,ts,c,d,e⟩:=h7 t q;⟨a,b,oT,ts,_,c,d,e⟩⟩
section
variable {M:Model}{A:Around}{E:Value->Shared->Prop}{s:Shared}
theorem YJ {base:Heap}{env:Env}{outer:List Env}{L e:Addr}{oe:Obj}{vs:Array Value}{head a0:Value}{hadNext:Bool}{Q:Unit->Shared->Prop}
  (hfr:A.frames=some (env::outer)) (hl:s.heap.FunFrames base (env::outer)) (hf:env.frame=some L)
  (he:s.heap.get? e=some oe) (hd:oe.data=.fields vs) (hsz:1 < vs.size) (h0:vs[0]?=some a0)
  (h:∀h' T,Trf h' e oe.cls oe.dict a0 (some T)->s.heap.objs.size<=T->Kpt (frs (env::outer)) e none s.heap h'->Q () { s with heap:=h' }) :
  wpAny M A (do let a <-frameOf env;let pl <-entryPlaceOf L hadNext;let b <-EntryCells.newEntry head a .none (rawInt L) .none pl;setField (.ref e) 1 b) Q E s:=by
 have hene:e∉(env::outer).filterMap (·.frame):=λhm=>by
  obtain⟨_,o,ho,hnf⟩:=hl.mem hm
  rw[he] at ho;cases ho;exact hnf vs hd
 refine wpAny_bind (wpAny_frameOf_fun hfr hl hf λh1 hs1=>?_)
 refine wpAny_bind (wpAny_entryPlaceOf λpl hpl=>?_)
 unfold EntryCells.newEntry newFields
 refine wpAny_bind (wpAny_newObj_type ?_ (hpl.sizeOk5 _ _ _ _ _))
 generalize hoT:({ cls:=.type "traceback",dict:=none,data:=.fields ([head,.ref L,.none,rawInt L,.none]++(if pl.isEmpty then List.replicate 6 Value.none else pl)).toArray }:Obj)=oT
 have dT:oT.data=.fields ([head,.ref L,.none,rawInt L,.none]++(if pl.isEmpty then List.replicate 6 Value.none else pl)).toArray:=by rw[<-hoT]
 have nfT:oT.isFreed=false:=by rw[<-hoT];rfl
 have he1:h1.get? e=some oe:=(hs1.2.1 e hene).trans he
 have he2:=Heap.get?_push_of_some (h:=h1) oT he1
 have hTe:h1.objs.size≠e:=Nat.ne_of_gt (Heap.lt_size he1)
 refine wpAny_setField he2 hd hsz ?_
 have hd3:=Obj.data_mapFields hd (·.setIfInBounds 1 (Value.ref h1.objs.size))
 have he3:=Heap.get?_update_self (Obj.mapFields (·.setIfInBounds 1 (Value.ref h1.objs.size))) he2 (Obj.isFreed_of_fields hd3)
 have hT3:=(Heap.get?_update_other (h1.push oT) (Obj.mapFields (·.setIfInBounds 1 (Value.ref h1.objs.size))) (Ne.symm hTe)).trans (Heap.get?_push_size h1 nfT)
 refine h _ h1.objs.size ⟨_,_,he3,Obj.cls_mapFields _ _,zez _ _,hd3,?_,λq=>(nomatch q),λt q=>?_⟩ (Nat.le_of_eq hs1.1.symm) ?_
 ·rw[Array.getElem?_setIfInBounds_ne (by decide)];exact h0
 ·cases q
  exact⟨by simp[hsz],hTe,_,_,rawInt L,hT3,dT,by simp⟩
 ·intro b o hbe _ hb
  have keep:∀u,h1.get? b=some u->((h1.push oT).update e (Obj.mapFields (·.setIfInBounds 1 (Value.ref h1.objs.size)))).get? b=some u:=λu hu=>by
   rw[Heap.get?_update_other _ _ (Ne.symm hbe)]
   exact Heap.get?_push_of_some _ hu
  refine⟨λhS=>keep o ((hs1.2.1 b hS).trans hb),?_⟩
  obtain⟨sl,q⟩:=hs1.2.2 b o hb
  exact⟨sl,keep _ q⟩
theorem noteF {base:Heap}{env:Env}{outer:List Env}{L e:Addr}{c a0:Value}{dd T:Option Addr}{Q:Unit->Shared->Prop}
  (hfr:A.frames=some (env::outer)) (hl:s.heap.FunFrames base (env::outer)) (hf:env.frame=some L) (ht:Trf s.heap e c dd a0 T)
  (h:∀h' T',Trf h' e c dd a0 (some T')->(s.heap.objs.size<=T'∨T=some T')->Kpt (frs (env::outer)) e T s.heap h'->Q () { s with heap:=h' }):wpAny M A (noteFrame (.ref e) env) Q E s:=by
 have ht0:=ht
 obtain⟨oe,vs,he,rfl,rfl,hd,h0,hn,hs⟩:=ht
 unfold noteFrame
 simp only[hf]
 cases T with
 |none=>
  have h1:=hn rfl
  refine wpAny_bind (wpAny_field he hd h1 ?_)
  rw[if_neg (by decide)]
  exact YJ hfr hl hf he hd (Array.getElem?_eq_some_iff.mp h1).1 h0 λh' T' a b=>h h' T' a (.inl b)
 |some t=>
  obtain⟨h1,hte,oT,ts,fl,hT,hdT,h3⟩:=hs t rfl
  refine wpAny_bind (wpAny_field he hd h1 ?_)
  rw[if_pos (show (Value.ref t != Value.none)=true from by simp)]
  refine wpAny_bind (wpAny_field hT hdT h3 ?_)
  by_cases hfl:(fl==rawInt L)=true
  ·rw[if_pos hfl]
   exact wpAny_pure (h s.heap t ht0 (.inr rfl) λb o _ _ q=>⟨λ_=>q,o.slots,q⟩)
  rw[if_neg hfl]
  refine wpAny_bind (wpAny_setField hT hdT (Array.getElem?_eq_some_iff.mp h3).1 ?_)
  have other:∀b,b≠t->(s.heap.update t (Obj.mapFields (·.setIfInBounds 3 Value.none))).get? b=s.heap.get? b:=λb hb=>Heap.get?_update_other _ _ (Ne.symm hb)
  have ne:∀b o,s.heap.get? b=some o->(∀ws,o.data≠.fields ws)->b≠t:=λb o hb hnf q=>by
   subst q;rw[hT] at hb;cases hb;exact hnf ts hdT
  refine YJ hfr (hl.of_keeps λb o hb hnf=>⟨o,(other b (ne b o hb hnf)).trans hb,rfl⟩) hf ((other e (Ne.symm hte)).trans he) hd (Array.getElem?_eq_some_iff.mp h1).1 h0 λh' T' k1 k2 k3=>h h' T' k1 (.inl ?_) ?_
  ·have:(s.heap.update t (Obj.mapFields (·.setIfInBounds 3 Value.none))).objs.size=s.heap.objs.size:=by simp[Heap.update]
   rw[<-this];exact k2
  ·exact λb o hbe hbt hb=>k3 b o hbe (by simp) ((other b λq=>hbt (by rw[q])).trans hb)
theorem JV {e t:Addr}{c a0:Value}{dd fo:Option Addr}{Q:Unit->Shared->Prop}(ht:Trf s.heap e c dd a0 (some t))
  (h:∀h',Trf h' e c dd a0 (some t)->(fo=none->Trc h' e c dd a0 (some t))->Kpt [] e (some t) s.heap h'->Q () { s with heap:=h' }):wpAny M A (setFlight (.ref e) fo) Q E s:=by
 obtain⟨oe,vs,he,rfl,rfl,hd,h0,hn,hs⟩:=ht
 obtain⟨h1,hte,oT,ts,fl,hT,hdT,h3⟩:=hs t rfl
 have sz:3 < ts.size:=(Array.getElem?_eq_some_iff.mp h3).1
 unfold setFlight
 refine wpAny_bind (wpAny_field he hd h1 ?_)
 rw[if_pos (show (Value.ref t != Value.none)=true from by simp)]
 have he':(s.heap.update t (Obj.mapFields (·.setIfInBounds 3 (fo.elim Value.none λf=>rawInt f)))).get? e=some oe:=by rw[Heap.get?_update_other _ _ hte];exact he
 have hT':=Heap.get?_update_self (Obj.mapFields (·.setIfInBounds 3 (fo.elim Value.none λf=>rawInt f))) hT (Obj.isFreed_of_fields (Obj.data_mapFields hdT _))
 have h3':(ts.setIfInBounds 3 (fo.elim Value.none λf=>rawInt f))[3]?=some (fo.elim Value.none λf=>rawInt f):=Array.getElem?_setIfInBounds_self_of_lt sz
 refine wpAny_setField hT hdT sz (h _ ⟨oe,vs,he',rfl,rfl,hd,h0,hn,λt' q=>?_⟩ (λhfo=>⟨oe,vs,he',rfl,rfl,hd,h0,hn,λt' q=>?_⟩) λb o hb hbt q=>?_)
 ·cases q
  exact⟨h1,hte,_,_,_,hT',Obj.data_mapFields hdT _,h3'⟩
 ·cases q
  subst hfo
  exact⟨h1,hte,_,_,hT',Obj.data_mapFields hdT _,h3'⟩
 ·have:(s.heap.update t (Obj.mapFields (·.setIfInBounds 3 (fo.elim Value.none λf=>rawInt f)))).get? b=some o:=by
   rw[Heap.get?_update_other _ _ (λz=>hbt (by rw[z]))];exact q
  exact⟨λ_=>this,o.slots,this⟩
end
def cxT (X:Cx)(pn:List (Addr×Obj))(W:Value->Shared->Prop):Cx:={ X with pn:=pn++X.pn,xe:=W }
section
variable {X:Cx}{pins pn:List (Addr×Obj)}{W:Value->Shared->Prop}{σ:St}{H:Hp}{s:Shared}
theorem VI (I:Inv X pn σ H s):Inv (cxT X pn W) [] σ H s :=
 ⟨⟨I.ok.mod,I.ok.kind,I.ok.glob,I.ok.blt,I.ok.above,I.ok.inj,I.ok.has,I.ok.cab,I.ok.hd,I.ok.frames,I.ok.stk,I.ok.exf,I.ok.bs,I.ok.bsz,I.ok.noex,I.ok.exfs,I.ok.funs,I.ok.frf⟩,I.os,I.bare,I.base,I.loc,I.cell,I.free,I.freeC,λp hp=>by
  have hp':p∈(pn++X.pn)++[]:=hp
  rw[List.append_nil] at hp'
  exact I.pin p ((List.mem_append.mp hp').elim (λz=>List.mem_append_right _ z) λz=>List.mem_append_left _ z),I.hok,I.len⟩
theorem okT (ok:(cxT X pn W).Ok):X.Ok:=⟨ok.mod,ok.kind,ok.glob,ok.blt,ok.above,ok.inj,ok.has,ok.cab,ok.hd,ok.frames,ok.stk,ok.exf,ok.bs,ok.bsz,ok.noex,ok.exfs,ok.funs,ok.frf⟩
theorem yM (ok:X.Ok)(I:Inv (cxT X pn W) pins σ H s):Inv X pn σ H s :=
 ⟨ok,I.os,I.bare,I.base,I.loc,I.cell,I.free,I.freeC,λp hp=>I.pin p (by
  show p∈(pn++X.pn)++pins
  exact List.mem_append_left _ ((List.mem_append.mp hp).elim (λz=>List.mem_append_right _ z) λz=>List.mem_append_left _ z)),I.hok,I.len⟩
end
def WX (X:Cx)(pins:List (Addr×Obj))(E:St->XK):Value->Shared->Prop:=λex s'=>∃σ' ea C dd a0 T H',ex=.ref ea/\Inv X pins σ' H' s'/\Trf s'.heap ea C dd a0 T/\Own X pins H' ea/\(∀t,T=some t->Own X pins H' t)/\E σ' C dd H'
section
variable {X:Cx}{pins:List (Addr×Obj)}{E:St->XK}
theorem wv:Dv.PassS (cxT X pins (WX X pins E)) E:=by
 intro pins' σ H s e s' I0 hx
 have I:Inv X pins σ H s:=yM (okT I0.ok) I0
 obtain⟨ea,C,dd,a0,T,H',rfl,hos,bare,un,hok,ht,h1,h2,h3,h4,hE⟩:=hx
 exact⟨σ,ea,C,dd,a0,some T,H',rfl,I.call' hos un hok bare λb z=>absurd z (by simp),ht.free,vO I h1 h3,λt q=>by cases q;exact vO I h2 h4,hE⟩
variable (hstk:X.stack=X.env::X.outer/\X.env.frame=some X.env.locals)
include hstk
omit hstk in
end
section
variable {X:Cx}{E:St->XK}{sts:List Stmt}{t:TS}
theorem zaw (h:∀pn,PSs (cxT X pn (WX X pn E)) sts t)(hx:∀pn e s',WX X pn E e s'->X.xe e s'):PSs X sts t:=λpins s σ H D I q=>
 wpAny_mono (h pins [] s σ H D (VI I) q) (λf s1 z=>by
  cases f with
  |next=>obtain⟨σ',H',I',q⟩:=z;exact⟨σ',H',yM I.ok I',q⟩
  |brk=>obtain⟨σ',H',I',q⟩:=z;exact⟨σ',H',yM I.ok I',q⟩
  |cont=>obtain⟨σ',H',I',q⟩:=z;exact⟨σ',H',yM I.ok I',q⟩
  |ret u=>obtain⟨v,σ',H',I',r,q⟩:=z;exact⟨v,σ',H',yM I.ok I',r,q⟩) (hx pins)
end
section
variable {P:Program}{w:World}{K:PySem.W.Frag}{mg:Str->Option Value}{base:Heap}{N:List Str}{qual:Str}{scope:Scope}{f:Addr}{cd:Value}{A:Around}{outer:List Env}{s:Shared}{H:Hp}{E:XK}
theorem Ga {X:Cx}(hX:X=cxOf (CX1 P w) P w K mg base N qual scope f cd A outer s H E)(pn:List (Addr×Obj))(e:Value)(s':Shared)(h:WX X pn (λ_=>E) e s'):X.xe e s':=by
 obtain⟨σ',ea,C,dd,a0,T,H',rfl,I,ht,o1,o2,hE⟩:=h
 have hs0:X.s₀=s:=by subst hX;rfl
 have b1:s.heap.objs.size<=ea:=by have:=o1.1;rw[hs0] at this;exact this
 have b2:∀t,T=some t->s.heap.objs.size<=t/\H' t=none:=λt q=>⟨by have:=(o2 t q).1;rw[hs0] at this;exact this,(o2 t q).2.2.2.2.1⟩
 have h3:H' ea=none:=o1.2.2.2.2.1
 subst hX
 show wpAny _ _ (leaving _ _) _ _ _
 unfold leaving
 have hl:=I.stack
 have hfree:=I.stkFree
 have hb0:=I.base
 have hok:=I.hok
 have sz:s.heap.objs.size<=s'.heap.objs.size:=I.sz
 refine wpAny_bind (noteF I.ok.frames hl rfl ht λh1 T1 t1 l1 k1=>JV (s:={ s' with heap:=h1 }) t1 λh' _ t2 k2=>?_)
 have t2:=t2 rfl
 have kT:H' T1=none/\s.heap.objs.size<=T1:=by
  rcases l1 with l | l
  ·exact⟨hok.fresh l,Nat.le_trans sz l⟩
  ·exact⟨(b2 _ l).2,(b2 _ l).1⟩
 have k3:Kpt (frs ((envOfC qual scope s.heap.objs.size f cd)::outer)) ea T s'.heap h':=λb o n1 n2 q=>by
  have n3:some T1≠some b:=λz=>by
   cases z
   rcases l1 with l | l
   ·exact absurd (Heap.lt_size q) (Nat.not_lt.mpr l)
   ·exact n2 l
  obtain⟨q1,sl,q2⟩:=k1 b o n1 n2 q
  refine⟨λhb=>((k2 b o n1 n3 (q1 hb)).1 (by simp)),?_⟩
  obtain⟨sl2,q3⟩:=(k2 b _ n1 n3 q2).2
  exact⟨sl2,q3⟩
 have fr:∀b,b < s.heap.objs.size->b∉frs outer->b∉frs ((envOfC qual scope s.heap.objs.size f cd)::outer):=λb hb hn hm=>by
  unfold frs at hm
  rw[List.filterMap_cons] at hm
  have q:(envOfC qual scope s.heap.objs.size f cd).frame=some s.heap.objs.size:=rfl
  rw[q] at hm
  rcases List.mem_cons.mp hm with z | z
  ·omega
  ·exact hn z
 have lo:∀b o,s.heap.get? b=some o->b≠ea/\T≠some b/\b < s.heap.objs.size:=λb o e=>by
  have l:=Heap.lt_size e
  refine⟨Nat.ne_of_lt (Nat.lt_of_lt_of_le l b1),λz=>?_,l⟩
  exact absurd (Nat.lt_of_lt_of_le l (b2 b z).1) (Nat.lt_irrefl _)
 refine⟨ea,C,dd,a0,T1,H',rfl,I.os,I.bare,⟨λb o e n hb hx=>?_,λb o e n hb hx=>?_,λb o e n hx=>hb0.free b o e n hx,λb o e hx=>?_,hb0.tups,hb0.frzs,hb0.tbls⟩,λa u e=>?_,t2,b1,kT.2,h3,kT.1,hE⟩
 ·obtain⟨l1,l2,l3⟩:=lo b o e
  exact (k3 b o l1 l2 (hb0.keep b o e n hb hx)).1 (fr b l3 hb)
 ·obtain⟨l1,l2,l3⟩:=lo b o e
  obtain⟨sl,q⟩:=hb0.slot b o e n hb hx
  obtain⟨sl',q'⟩:=(k3 b _ l1 l2 q).2
  exact⟨sl',q'⟩
 ·obtain⟨l1,l2,l3⟩:=lo b o e
  obtain⟨o',q⟩:=hb0.there b o e hx
  obtain⟨sl',q'⟩:=(k3 b _ l1 l2 q).2
  exact⟨_,q'⟩
 ·refine (hok a u e).stay (λb v hb q=>?_) (λ_ z=>z) λ_ _ z=>z
  have ht:H' b≠none:=by
   rcases hb with rfl | z
   ·rw[e];simp
   ·rw[z];simp
  exact (k3 b v (λz=>ht (by rw[z];exact h3)) (λz=>ht (b2 b z).2) q).1 λz=>ht (hfree b z)
end
section
variable {X:Cx}{pn:List (Addr×Obj)}{E:St->XK}{C HE fI:Addr}{fd x:Str}{pos p cpos:Pos}{a:Expr}{t:TA}{k:Nat}{f0:FuncData}{ps:List Str}
def zbl (C:Addr)(fd:Str)(E:St->XK)(t:TA):TS:=λ_ σ H=>t σ H λvs H1=>∃v,vs=[v]/\∀dx,H1 dx=none->E σ (.ref C) (some dx) (upd H1 dx (.xd [(fd,v)]))
theorem zc8 (hc:X.calm=true)(xc:XC X.K C HE fI fd)(F:FnOk X.prog X.w X.K X.mg X.base CX0 k fI f0 ps (xiSp C fd))(hr:Room (k+1) X.A)(hb:Binds X.K f0 ps [])
  (hg:Gl X x) (hm:X.mg x=some (.ref C)) (ha:PA (cxT X pn (WX X pn E)) [a] t) (hdb:#[8]=false:=by decide)
  (he:starEach [a] X.env=(false,eval a X.env)::starEach [] X.env:=by rfl) (hpl:(backTo cpos (starEach [] X.env)).any (·.1)=false:=by rfl) :
  PS (cxT X pn (WX X pn E)) (.Raise (some (.Call (.Name x p) [a] [] cpos)) none pos) (zbl C fd E t):=by
 intro pins s σ H D I h
 have hh:X.A.handled=none:=I.ok.hd hc
 obtain⟨nm,qq,N',bs,bm,hdct,sn,sub,ab,col,dd,k0,k1,k2,k3,k5,mN,hC,hN,hi,T⟩:=xc.at I.ok.mod.kin
 have hbase:bm.contains (.type "BaseException")=true:=T.hasType (by decide)
 rw[arm_exec_Raise]
 refine wpAny_bind (wpAny_standAt ?_)
 show wpAny _ _ (raiseStmt X.env (some (do let v <-eval (.Call (.Name x p) [a] [] cpos) X.env;standAt pos;pure v)) none) _ _ _
 refine V9 (nm:=nm) (q:=qq) (C:=C) (N:=N') (bs:=bs) (bm:=bm) (hdct:=hdct) (sn:=sn) (sub:=sub) (ab:=ab) (col:=col) (dd:=dd) (k0:=k0) (k1:=k1) (k2:=k2) (k3:=k3) (k5:=k5) (newId := "ValueError.__new__") hbase hh (wpAny_bind ?_)
 refine wpAny_Call_Name_kw (yr (X:=cxT X pn (WX X pn E)) I hg hm ?_ hdb)
 refine PySem.W.callWith_K (h₀:=X.base) I.ok.mod.kin xc.kp (thn (ha cpos pins s σ H _ I h) λus s1 ⟨vs,H1,I1,r1,v,ev,q⟩=>⟨I1.kIn,?_⟩) he hpl
 subst ev
 cases r1 with
 | @cons _ u _ _ ru r2=>
 cases r2
 refine K9 (X:=cxT X pn (WX X pn E)) xc F hr hb I1 ru λe t' dx s' I2 he hdx hde hl=>wpAny_bind (wpAny_standAt (wpAny_pure ?_))
 have hee:upd (upd (upd H1 e (ExO e C t' none)) e (ExO e C t' (some dx))) dx (.xd [(fd,v)]) e=some (ExO e C t' (some dx)):=by rw[zh (Ne.symm hde),zr]
 have ho:=(I2.hok e _ hee).1
 refine⟨e,t',some dx,rfl,I2.bk _ _ hC,ho,?_⟩
 have I3:=Jr I2 hee
 have eq:del (upd (upd (upd H1 e (ExO e C t' none)) e (ExO e C t' (some dx))) dx (.xd [(fd,v)])) e=upd H1 dx (.xd [(fd,v)]):=by
  funext b
  by_cases h1:b=e
  ·subst h1
   rw[qi,zh (Ne.symm hde),he]
  ·rw[jI h1]
   by_cases h2:b=dx
   ·subst h2;rw[zr,zr]
   ·rw[zh h2,zh h2,zh h1,zh h1]
 rw[eq] at I3
 exact⟨σ,e,.ref C,some dx,.ref t',none,_,rfl,yM (okT I3.ok) I3,⟨_,_,ho,rfl,rfl,rfl,rfl,λ_=>rfl,λ_ z=>(nomatch z)⟩,vO (yM (okT I1.ok) I1) hl (by rw[zh (Ne.symm hde)];exact he),λ_ z=>(nomatch z),q dx hdx⟩
end
section
variable {X:Cx}{MC:Addr}{ie:Nat}{t1:TS}{t2:(St->XK)->TS}{ts:Addr->Addr->Option Addr->TS}{body suite:List Stmt}{b0:Stmt}{xM n:Str}{pM hpos pos:Pos}
end
end L6
namespace Dv
open PySem PySem.Spec L2 L3 L4 L6
open PyProof.Rows hiding St
section
variable {P:Program}{w:World}{K:PySem.W.Frag}{mg:Str->Option Value}{base:Heap}{N:List Str}{qual:Str}{scope:Scope}{f:Addr}{cd:Value}{A:Around}{outer:List Env}{s0:Shared}{H0:Hp}
variable {X:Cx}{pn:List (Addr×Obj)}{E:St->XK}{B:Bs}{ca:Str->Addr}{C HE fI:Addr}{fd x nm:Str}{pos p cpos:Pos}{a:Expr}{rest:List Stmt}{k:Nat}{gd:EnvD->Option D}{f0:FuncData}{ps:List Str}{g:EnvD->Option (EnvD×Xv)}
def yRaise (nm:Str)(gd:EnvD->Option D):EnvD->Option (EnvD×Xv):=λZ=>(gd Z).map λd=>(Z,nm,some d)
theorem UM (hC:ca nm=C)(hc:X.calm=true)(xc:XC X.K C HE fI fd)(F:FnOk X.prog X.w X.K X.mg X.base CX0 k fI f0 ps (xiSp C fd))(hb:Binds X.K f0 ps [])(hr:Room (k+1) X.A)(hg:Gl X x)(hm:X.mg x=some (.ref C))
  (ha:DE (cxT X pn (WX X pn E)).nox B a gd) (hdb:#[8]=false:=by decide +kernel)
  (he:starEach [a] X.env=(false,eval a X.env)::starEach [] X.env:=by rfl) (hpl:(backTo cpos (starEach [] X.env)).any (·.1)=false:=by rfl) :
  DVs (cxT X pn (WX X pn E)) B ca fd E (.Raise (some (.Call (.Name x p) [a] [] cpos)) none pos::rest) (yRaise nm gd) :=
 y7 (y9 (zc8 hc xc F hr hb hg hm (PA.nox (zO ha yz he)) hdb he hpl) (u:=λ_ _ _=>False) λ_ _ _ _ _ _ z=>z.elim) λD σ H ⟨F,Z,q,r,hg,k⟩=>by
  unfold yRaise at hg
  cases q1:gd Z with
  |none=>rw[q1] at hg;cases hg
  |some d=>
   rw[q1] at hg
   cases hg
   refine⟨F,Z,d,r,q1,λv F' H' e1 p1=>⟨v,rfl,λdx hdx=>?_⟩⟩
   have e2:Ext F' H' F' (upd H' dx (.xd [(fd,v)])):=Ext.new e1.fh hdx
   have:=k (some dx) σ F' _ (r.ext (e1.trans e2)) (e1.trans e2).ff ⟨dx,v,rfl,zr,p1⟩
   rw[hC] at this
   exact this
def mirY (N:List Str)(n:Nat)(g:EnvD->Option (EnvD×Xv)):List En->Option Xv:=λxs=>if xs.length=n then (g (stE N (xs.map some))).map (·.2) else none
theorem wc {n:Nat}:∀xs o,mirY N n g xs=some o->xs.length=n:=λxs o h=>by
 unfold mirY at h
 split at h
 ·assumption
 ·cases h
theorem qr {st:Stmt}(F:Fun K x qual st f f0)(S:FnScope N ps (zd st))
  (hb:∀(cdv:Value) (A:Around) (outer:List Env) (s:Shared) (H:Hp) (E:XK) (B:Bs) (pn:List (Addr×Obj)),Room k (A.deeper (envOfC qual (zd st) s.heap.objs.size f cdv)) ->
   DVs (cxT (cxOf (CX1 P w) P w K mg base N qual (zd st) f cdv A outer s H E) pn (WX (cxOf (CX1 P w) P w K mg base N qual (zd st) f cdv A outer s H E) pn λ_=>E)) B ca fd (λ_=>E) (zl st) g) :
  FnOk P w K mg base (CX1 P w) (k+1) f f0 ps (ySp ⟨K,w⟩ ca fd ps.length (mirY N ps.length g)):=by
 obtain⟨oc,od,kV,doc,pm,an,cdv,ct,osl,rfl,lk,hcd⟩:=F.ex
 refine Yc lk hcd S (λvs H Q E h=>?_) λA outer s H vs Q E hr h=>?_
 ·obtain⟨F,xs,o,_,hl,hp,_⟩:=h
  rw[<-wB hp];exact hl
 ·obtain⟨F0,xs,q,fh,hl,hp,hm,k⟩:=h
  unfold mirY at hm
  rw[if_pos hl] at hm
  cases q1:g (stE N (xs.map some)) with
  |none=>rw[q1] at hm;cases hm
  |some q2=>
   rw[q1] at hm
   cases hm
   exact⟨λ_ σ H'=>lVs ⟨K,w⟩ ⟨F0,H⟩ ca fd (λ_=>E) g σ H',zaw (E:=λ_=>E) (λpn=>hb cdv A outer s H E ⟨F0,H⟩ pn hr) (Ga rfl),F0,_,q2,jL (ps:=ps) fh hp,q1,λdd σ' F' H' r' s' pd=>k dd F' H' r'.ex pd⟩
end
inductive It where
 |con (x:Str) | pay | isx (b:Bool)
def itD (p:Option D):It->Option D
 |.con x=>some (.str x)
 |.pay=>p
 |.isx b=>some (.bl b)
def tIt (ie:Nat)(ea:Addr)(dd:Option Addr)(fd:Str):It->TE
 |.con x=>λ_ H Q=>Q (.str x) H
 |.pay=>λσ H Q=>σ[ie]?=some (some (.ref ea))/\∃dx v,dd=some dx/\H dx=some (.xd [(fd,v)])/\Q v H
 |.isx b=>λσ H Q=>σ[ie]?=some (some (.ref ea))/\(dd=none∨∃dx v,dd=some dx/\H dx=some (.xd [(fd,v)]))/\Q (.bl b) H
def ItOk (X:Cx)(C:Addr)(ie:Nat)(fd:Str)(e:Expr)(it:It):Prop:=∀ea oe dd,oe.cls=.ref C->oe.dict=dd->(∃fs,oe.data=.fields fs)->PE (cxE X ea [(ea,oe)]) e (tIt ie ea dd fd it)
section
variable {X:Cx}{B:Bs}{C HE fI M2 MC:Addr}{ca:Str->Addr}{fd n x nm0:Str}{ie i:Nat}{pos p p2 p3 pI pC:Pos}{e:Expr}{es:List Expr}{it:It}{its:List It}
theorem za4 (xc:XC X.K C HE fI fd)(hi:X.N[ie]?=some n)(hl:X.env.scope.names.lookup n=some .local)(d3:(n==("__debug__" : Str))=false:=by decide +kernel) (d4:(n==("__classdict__" : Str))=false:=by decide +kernel)
  (hb:attributeBase (.Name n p) fd X.env (eval (.Name n p) X.env)=eval (.Name n p) X.env:=by rfl):ItOk X C ie fd (.Attribute (.Name n p) fd pos) .pay:=λea oe dd hc hd hf=>by
 cases dd with
 |none=>exact λ_ _ _ _ _ _ ⟨_,_,_,z,_⟩=>nomatch z
 |some dx=>exact zo (zd9 (X:=cxE X ea [(ea,oe)]) xc (List.mem_append_left _ (.head _)) hc hd hf (Je hi (.inl hl) d3 d4) hb) λσ H Q ⟨e1,dx',v,e2,e3,q⟩=>by cases e2;exact⟨e1,v,e3,q⟩
theorem Gi {K:KW}{F H:Hp}{ea:Addr}{dd:Option Addr}{σ:St}{q:Option D}{d:D}{Q:VK}(h1:σ[ie]?=some (some (.ref ea)))(pd:Pd K F H fd dd q)(hd:itD q it=some d)(k:∀v,Rp K F d v->Q v H):tIt ie ea dd fd it σ H Q:=by
 cases it with
 |con x=>cases hd;exact k _ rfl
 |isx b=>
  cases hd
  refine⟨h1,?_,k _ rfl⟩
  cases q with
  |none=>exact .inl pd
  |some d=>obtain⟨dx,v,e1,e2,_⟩:=pd;exact .inr ⟨dx,v,e1,e2⟩
 |pay=>
  replace hd:q=some d:=hd
  subst hd
  obtain⟨dx,v,e1,e2,e3⟩:=pd
  exact⟨h1,dx,v,e1,e2,k v e3⟩
def unset:Option (Option En)->Bool
 |some none=>true
 |_=>false
@[simp]theorem zhz:unset (some none)=true:=rfl
theorem Gm {o:Option (Option En)}(h:unset o=true):o=some none:=by
 unfold unset at h
 split at h
 ·rfl
 ·cases h
variable {gs:SD}{gx:EnvD->Option (EnvD×Xv)}{body:List Stmt}{xM fx:Str}{pM hpos pF epos lpos:Pos}
end
section
variable {X:Cx}{B:Bs}{pos:Pos}
end
section
theorem RC (b:Str)(u:Tok)(l:Addr)(c:Value)(es:Array DictEntry)(ep:Nat)(dd:Option Addr)(sl:Array (Option Value)) :
  Meets (Builtin.«str.__eq__» ⟨[.str b u,.ref l],[]⟩) (λ_ R s=>s.heap.get? l=some { cls:=c,dict:=dd,data:=.dict es ep,slots:=sl }/\R (.ok (.ret .notImplemented)) s):=by
 refine .of_wp λprog w A R s h=>?_
 obtain⟨hp,g,d,tk,os⟩:=s
 obtain⟨hl,h⟩:=h
 wp_walk using AutoSeq1.wpAny_loadPart' hl,wpAny_load hl
 exact⟨_,rfl,h⟩
theorem Kk (b:Str)(u:Tok)(l:Addr)(es:Array DictEntry)(ep:Nat)(dd:Option Addr)(sl:Array (Option Value)) :
  Meets (Builtin.«dict.__eq__» ⟨[.ref l,.str b u],[]⟩) (λ_ R s=>s.heap.get? l=some { cls:=.type "dict",dict:=dd,data:=.dict es ep,slots:=sl }/\R (.ok (.ret .notImplemented)) s):=by
 refine .of_wp λprog w A R s h=>?_
 obtain⟨hl,h⟩:=h
 have ty:s.TypeIs (.ref l) "dict" := ⟨_,hl,rfl⟩
 show wpAny _ _ (Builtin.Dict.dictSlotArgs "__eq__" ⟨[.ref l,.str b u],[]⟩ >>= _) _ _ s
 refine wpAny_bind ?_
 unfold Builtin.Dict.dictSlotArgs
 refine wpAny_bind (wpAny_notOrdered_dict ty ?_)
 show wpAny _ _ (pure (Value.ref l,Value.str b u)) _ _ s
 refine wpAny_pure ?_
 refine wpAny_bind (wpAny_isInstance (T := "str") (typeIs_str s b u) PySem.F.sub_str_dict ?_)
 simp only[Bool.not_false,if_true]
 wp_walk
 exact⟨_,rfl,h⟩
theorem K2 {A:Around}{s:Shared}{b:Str}{u:Tok}{l:Addr}{o:Obj}{es:Array DictEntry}{ep:Nat}(ho:s.heap.get? l=some o)(hc:o.cls=.type "dict") (hd:o.data=.dict es ep) (hu:A.units < cLine):SeqAt.EqAt A s (.str b u) (.ref l) false:=λprog w E Q h=>by
 obtain⟨c,dd,dt,sl⟩:=o
 dsimp only at hc hd
 subst hc hd
 unfold eqBool
 refine wpAny_holding (wpAny_ite_split (λhab=>absurd (eq_of_beq hab) nofun) λ_=>wpAny_bind ?_)
 exact SeqAt.rc_eq_decline_or (k:=false) (typeIs_str s b u) ⟨_,ho,rfl⟩ (by decide) PySem.F.sub_dict_str PySem.F.slot_str_eq PySem.F.slot_dict_eq_refl
  (λ_ hq=>call_meets PySem.F.slot_str_eq (typeIs_str s b u) PySem.F.entry_str_eq (PySem.F.args_str_eq_2 _ _) (RC b u l _ es ep dd sl) ⟨ho,hq⟩)
  (λ_ hq=>call_meets PySem.F.slot_dict_eq_refl ⟨_,ho,rfl⟩ PySem.F.entry_dict_eq (PySem.F.args_dict_eq_2 _ _) (Kk b u l es ep dd sl) ⟨ho,hq⟩)
  (λ_ hq=>wpAny_of_eq (rfl:isSame (.str b u) (.ref l)=pure false) hq) (.inr hu) (wpAny_truthy_bool h)
end
section
variable {X:Cx}{pins:List (Addr×Obj)}{σ:St}{H:Hp}{s:Shared}
def Box (H:Hp)(p:Addr):Prop:=(∃vs,H p=some (.lst vs))∨(∃vs,H p=some (.tup vs))∨H p=some (.dK [])
theorem GZ {A:Around}{p:Addr}{b:Str}{u:Tok}(I:Inv X pins σ H s)(hb:Box H p)(hu:A.units < cLine):SeqAt.EqAt A s (.str b u) (.ref p) false:=by
 rcases hb with⟨vs,q⟩ | ⟨vs,q⟩ | q
 ·obtain⟨z,its,n,rv,e⟩:=(show ObjOk X.prog X.w H s.heap p (.lst vs) from I.hok p _ q)
  exact SeqAt.EqAt.str_list b u ⟨_,e,rfl,n,rfl⟩ hu
 ·obtain⟨z,its,rv,pt⟩:=(show ObjOk X.prog X.w H s.heap p (.tup vs) from I.hok p _ q)
  obtain⟨o,e,hc,n,hd⟩:=pt
  exact SeqAt.EqAt.str_tuple b u ⟨o,e,hc,n,hd⟩ hu
 ·obtain⟨z,y,vs,kv,o,es,ep,e,ex,hd,_⟩:=(show ObjOk X.prog X.w H s.heap p (.dK []) from I.hok p _ q)
  exact K2 e ex.1 hd hu
def rInB (K:KW)(neg:Bool):R2:=λx y H Q=>∃(p a:Addr) (ys:List Str),x=.ref p/\y=.ref a/\Box H p/\SqL K H a (ys.map V.str)/\Q (.bl neg) H
theorem Uy {p:Addr}{ys:List Str}{its:List Value}{w:Value}(I:Inv X pins σ H s)(hb:Box H p)(hu:X.A.units+64 < cLine)(r:Vals (ys.map V.str) its)(hw:w∈its.toArray):SeqAt.EqAt X.A.in1 s w (.ref p) ((λ_=>false) w):=by
 obtain⟨l,hat⟩:=Zy r
 obtain⟨j,h1,rfl⟩:=List.getElem_of_mem (show w∈its by simpa using hw)
 obtain⟨k,hk⟩:=hat j h1 (by rw[<-l];exact h1)
 rw[hk]
 exact GZ I hb (by rw[Around.in1_units];omega)
theorem zda (hu:X.A.units+64 < cLine):OpR X (compareOp .NotIn) (rInB X.kw true):=by
 intro pins s σ H x y v u Q I rx ry ⟨p,a,ys,ex,ey,hb,hq,q⟩
 subst ex ey
 cases rx;cases ry
 obtain⟨its,r,pl,hz⟩:=I.list hq
 refine SeqAt.notIn_listAt (λ_=>false) pl.isList (λw hw=>Uy I hb hu r hw) ⟨.bl _,H,I,rfl,?_⟩
 rw[show (!its.toArray.any (λ_=>false))=true by simp]
 exact q
def isBox:D->Bool
 |.lst _=>true
 |.tup _=>true
 |.emp=>true
 |_=>false
def fInX (neg:Bool):D->D->Option D:=λx y=>if isBox x then (match y with
 |.lst ds=>(asSs ds).map λ_=>.bl neg
 |_=>none) else fIn neg x y
theorem UI {K:KW}{F H:Hp}(s:Same F H){d:D}{v:V}(r:Rq K F H d v)(h:isBox d=true):∃p,v=.ref p/\Box H p:=by
 cases d with
 |lst ds=>obtain⟨a,vs,rfl,q,_⟩:=r.lst s;exact⟨a,rfl,.inl ⟨vs,q⟩⟩
 |tup ds=>obtain⟨a,vs,rfl,q,_⟩:=r.tup s;exact⟨a,rfl,.inr (.inl ⟨vs,q⟩)⟩
 |emp=>obtain⟨a,rfl,q⟩:=r.one λ_ z=>(nomatch z);exact⟨a,rfl,.inr (.inr (s _ _ q))⟩
 |_=>cases h
theorem zdm {K:KW}{neg:Bool}:OkR K (λx y H Q=>rInA K neg x y H Q∨rInB K neg x y H Q) (pE K) (fInX neg):=by
 intro F H x y dx dy d Q s rx ry e k
 unfold fInX at e
 split at e
 ·rename_i hb
  split at e
  ·rename_i ds
   cases q4:asSs ds with
   |none=>rw[q4] at e;cases e
   |some ys=>
    rw[q4] at e
    cases e
    obtain⟨p,rfl,bx⟩:=UI s rx hb
    obtain⟨a,us,rfl,h1,h2⟩:=ry.lst s
    have:=uY q4 h2
    subst this
    exact .inr ⟨p,a,ys,rfl,rfl,bx,.of h1,k _ F H (.refl s) rfl⟩
  ·cases e
 ·exact .inl (ok_in F H x y dx dy d Q s rx ry e k)
theorem KG (hu:X.A.units+64 < cLine):OpR X (compareOp .NotIn) (λx y H Q=>rInA X.kw true x y H Q∨rInB X.kw true x y H Q):=op_ninA.or (zda hu)
end
section
variable {X:Cx}{B:Bs}{ca:Str->Addr}{fd:Str}{E:St->XK}{pos:Pos}{tg iter:Expr}{body rest:List Stmt}{t:Tgt}{gi:EnvD->Option (List D)}{gbd:SD}{gxb:EnvD->Option (EnvD×Xv)}
end
end Dv
namespace L6
open PySem PySem.Spec L2 L3 L4
open PyProof.Rows hiding St
structure XC0 (K:PySem.W.Frag)(C:Addr):Prop where
 cls:∃dd cd k0 k1 k2 k3 k5 bm,K.lookup C=some ⟨.type "type",dd,.cls cd,#[k0,k1,k2,k3,some (.builtin "ValueError.__new__"),k5]⟩/\cd.mro=.ref C::bm/\cd.hasDel=false /\
  PySem.W.tailIn K vB bm=true/\PySem.W.nsOkIn K cd.ns=true/\nsIn K cd.ns "__init__" = some none
 kp:keepIn K (.ref C)=true
section
variable {P:Program}{w:World}{A:Around}{E:Value->Shared->Prop}{H:Heap}{g:Array GenState}{dr:Drawn}{t:Nat}{os:OsState}{C N:Addr}{vs:List Value}{mN:Str->Option Value}
variable {nm q:Str}{bs bm bb:List Value}{hd:Bool}{sn:List Str}{sb:List Value}{ab:Bool}{col:Option Bool}{dl:Option Addr}{k0 k1 k2 k3 k5:Option Value}{b0 nid iid:String}
theorem zf4 (F:ExcBaseFacts b0 nid iid bb)(T:OwnTail H bb bm){Q:Fin->Shared->Prop}(c:H.get? C=some (excClassObj nm q C N bs bm hd sn sb ab col dl k0 k1 k2 k3 k5 nid))(n:H.Ns N mN)(i:mN "__init__" = none)
  (k:∀h' e t',H.objs.size<=e->h'.get? e=some { cls:=.ref C,data:=.fields #[.ref t',.none,.none,.none,.bool false,.none] }->(∀b o,H.get? b=some o->h'.get? b=some o)->Q (.done (.ret (.ref e))) ⟨h',g,dr,t,os⟩) (few:vs.length<=sizeLine) :
  wpAny (model P w) A (Builtin.«type.__call__» ⟨.ref C::vs,[]⟩) Q E ⟨H,g,dr,t,os⟩:=by
 have me:(Value.ref C::bm).contains (.ref C)=true:=List.contains_iff_mem.mpr (.head _)
 have c':=yT (C:=C) (vs:=vs) c
 have T':=T.keeps (h':=made H C vs) λ_ _ z=>yT z
 repeat
  first
   |with_reducible refine wpAny_loadPart_at c ?_
   |with_reducible refine wpAny_madeBy_exc c ?_
   |wp_step
 apply codeAny_call_builtin_code (Code.quiet_builtin _ F.quiet)
 apply wpAny_check_new_subT F T c
 refine codeAny_exc_new_subT F T c ?_ few
 show wpAny (model P w) A _ _ _ ⟨made H C vs,g,dr,t,os⟩
 unfold isInstance
 repeat
  first
   |with_reducible refine wpAny_loadPart_at qB ?_
   | (with_reducible refine wpAny_isSubtype_exc c' ?_;rw[me])
   |wp_step
 show wpAny (model P w) A (typeLookup (.ref C) "__init__") _ _ _
 apply wpAny_typeLookup_tail c' (Vj n) T' F.mroIs F.init.lookup
 rw[i]
 refine wpAny_holding (wpAny_bind (wpAny_of_eq (F.init.bind _) (wpAny_bind ?_)))
 refine Y7 F T' c' qB few λh' e1 e2=>?_
 wp_walk
 exact k h' _ _ (Nat.le_succ _) e1 λb o z=>e2 b o (Nat.ne_of_lt (Nat.lt_succ_of_lt (Heap.lt_size z))) (yT z)
theorem zcc (F:ExcBaseFacts b0 nid iid bb)(T:OwnTail H bb bm){Q:Value->Shared->Prop}(c:H.get? C=some (excClassObj nm q C N bs bm hd sn sb ab col dl k0 k1 k2 k3 k5 nid))(n:H.Ns N mN)(i:mN "__init__" = none)
  (k:∀h' e t',H.objs.size<=e->h'.get? e=some { cls:=.ref C,data:=.fields #[.ref t',.none,.none,.none,.bool false,.none] }->(∀b o,H.get? b=some o->h'.get? b=some o)->Q (.ref e) ⟨h',g,dr,t,os⟩) (few:vs.length<=sizeLine) :
  wpAny (model P w) A (call (.ref C) vs) Q E ⟨H,g,dr,t,os⟩:=by
 have ty:(⟨H,g,dr,t,os⟩:Shared).TypeIs (.ref C) "type" := ⟨_,c,rfl⟩
 have l1:=tc_lookup
 have l2:=tc_bind (.ref C)
 apply wpAny_call
 apply codeAny_of_tree
 show wpAny (model P w) _ (callAny (.ref C) ⟨vs,[]⟩) _ _ _
 repeat
  any_goals first
   |assumption
   |with_reducible refine wpAny_loadPart_at c ?_
   |wp_step
 refine⟨rfl,codeAny_call_builtin_at (Code.quiet_builtin _ #[6]) entry_typeCall (wpAny_check_type_call_sub c ?_)⟩
 exact zf4 (few:=few) F T c n i λh' e t' l m s=>k h' e t' l m s
end
theorem zdn {K:PySem.W.Frag}{h:Heap}{N:Addr}{mg:Str->Option Value}{n:Str}(X:K.In h)(G:h.Ns N mg)(e:nsIn K N n=some none):mg n=none:=by
 obtain⟨o,es,ep,ho,hd,_,hf⟩:=G
 unfold nsIn at e
 split at e
 ·rename_i q
  have:=X _ _ q
  rw[ho] at this
  cases this
  cases hd
  split at e
  ·cases e
  ·rename_i he
   rw[<-hf]
   unfold nsFind findBy
   rw[<-Array.find?_toList,he]
   rfl
 ·cases e
theorem XC0.at {K:PySem.W.Frag}{C:Addr}{h:Heap}(x:XC0 K C)(X:K.In h):∃nm q N bs bm hdct sn sub ab col dd k0 k1 k2 k3 k5 mN,h.get? C=some (excClassObj nm q C N bs bm hdct sn sub ab col dd k0 k1 k2 k3 k5 "ValueError.__new__")/\h.Ns N mN/\mN "__init__" = none/\OwnTail h vB bm:=by
 obtain⟨dd,cd,k0,k1,k2,k3,k5,bm,e,m,hdel,ht,hok,hi⟩:=x.cls
 obtain⟨nm,bs,mro,ns,qn,hd,sn,sub,ab,col,del⟩:=cd
 dsimp only at m hdel hok hi
 subst m hdel
 have G:h.Ns ns (h.nsMap ns):=.of_isNs (PySem.W.isNs_of_in X hok)
 refine⟨nm,qn,ns,bs,bm,hd,sn,sub,ab,col,dd,k0,k1,k2,k3,k5,_,X _ _ e,G,?_,PySem.W.tail_of_in X ht⟩
 exact zdn X G hi
section
variable {X:Cx}{pn:List (Addr×Obj)}{E:St->XK}{C:Addr}{x:Str}{pos p cpos:Pos}{a:Expr}{t:TA}
def UC (C:Addr)(E:St->XK)(t:TA):TS:=λ_ σ H=>t σ H λvs H1=>∃v,vs=[v]/\E σ (.ref C) none H1
theorem K0 (hc:X.calm=true)(xc:XC0 X.K C)(hg:Gl X x)(hm:X.mg x=some (.ref C))(ha:PA (cxT X pn (WX X pn E)) [a] t)(hdb:#[8]=false:=by decide)
  (he:starEach [a] X.env=(false,eval a X.env)::starEach [] X.env:=by rfl) (hpl:(backTo cpos (starEach [] X.env)).any (·.1)=false:=by rfl) :
  PS (cxT X pn (WX X pn E)) (.Raise (some (.Call (.Name x p) [a] [] cpos)) none pos) (UC C E t):=by
 intro pins s σ H D I h
 have hh:X.A.handled=none:=I.ok.hd hc
 obtain⟨nm,qq,N',bs,bm,hdct,sn,sub,ab,col,dd,k0,k1,k2,k3,k5,mN,hC,hN,hi,T⟩:=xc.at I.ok.mod.kin
 have hbase:bm.contains (.type "BaseException")=true:=T.hasType (by decide)
 rw[arm_exec_Raise]
 refine wpAny_bind (wpAny_standAt ?_)
 show wpAny _ _ (raiseStmt X.env (some (do let v <-eval (.Call (.Name x p) [a] [] cpos) X.env;standAt pos;pure v)) none) _ _ _
 refine V9 (nm:=nm) (q:=qq) (C:=C) (N:=N') (bs:=bs) (bm:=bm) (hdct:=hdct) (sn:=sn) (sub:=sub) (ab:=ab) (col:=col) (dd:=dd) (k0:=k0) (k1:=k1) (k2:=k2) (k3:=k3) (k5:=k5) (newId := "ValueError.__new__") hbase hh (wpAny_bind ?_)
 refine wpAny_Call_Name_kw (yr (X:=cxT X pn (WX X pn E)) I hg hm ?_ hdb)
 refine PySem.W.callWith_K (h₀:=X.base) I.ok.mod.kin xc.kp (thn (ha cpos pins s σ H _ I h) λus s1 ⟨vs,H1,I1,r1,v,ev,q⟩=>⟨I1.kIn,?_⟩) he hpl
 subst ev
 obtain⟨nm',qq',N2,bs',bm',hdct',sn',sub',ab',col',dd',k0',k1',k2',k3',k5',mN',hC',hN',hi',T'⟩:=xc.at I1.kIn
 have hl1:us.length<=sizeLine:=by rw[<-r1.length,List.length_cons,List.length_nil,sizeLine_eq];omega
 obtain⟨hh1,g,d,tk,os⟩:=s1
 refine zcc PySem.F.excBase_ValueError T' hC' hN' hi' (λh' e t' l1 l2 l3=>wpAny_bind (wpAny_standAt (wpAny_pure ?_))) hl1
 have I2:Inv (cxT X pn (WX X pn E)) pins σ (upd H1 e (ExO e C t' none)) ⟨h',g,d,tk,os⟩:=I1.laid (a:=e) (o:=ExO e C t' none) (h':=h') (t':=tk) (λb o q=>l3 b o q) l1 (qX l2)
 have hne:H1 e=none:=I1.hok.fresh l1
 have hee:upd H1 e (ExO e C t' none) e=some (ExO e C t' none):=zr
 refine⟨e,t',none,rfl,I2.bk _ _ hC,l2,?_⟩
 have I3:=Jr I2 hee
 have eq:del (upd H1 e (ExO e C t' none)) e=H1:=by
  funext b
  by_cases h1:b=e
  ·subst h1;rw[qi,hne]
  ·rw[jI h1,zh h1]
 rw[eq] at I3
 exact⟨σ,e,.ref C,none,.ref t',none,_,rfl,yM (okT I3.ok) I3,⟨_,_,l2,rfl,rfl,rfl,rfl,λ_=>rfl,λ_ z=>(nomatch z)⟩,vO (yM (okT I1.ok) I1) l1 hne,λ_ z=>(nomatch z),q⟩
end
end L6
namespace Dv
open PySem PySem.Spec L2 L3 L4 L6
open PyProof.Rows hiding St
section
variable {X:Cx}{pn:List (Addr×Obj)}{E:St->XK}{B:Bs}{ca:Str->Addr}{C:Addr}{fd x nm:Str}{pos p cpos:Pos}{a:Expr}{rest:List Stmt}{gd:EnvD->Option D}
def uj (nm:Str)(gd:EnvD->Option D):EnvD->Option (EnvD×Xv):=λZ=>(gd Z).map λ_=>(Z,nm,none)
theorem RL (hC:ca nm=C)(hc:X.calm=true)(xc:XC0 X.K C)(hg:Gl X x)(hm:X.mg x=some (.ref C))(ha:DE (cxT X pn (WX X pn E)).nox B a gd)(hdb:#[8]=false:=by decide +kernel)
  (he:starEach [a] X.env=(false,eval a X.env)::starEach [] X.env:=by rfl) (hpl:(backTo cpos (starEach [] X.env)).any (·.1)=false:=by rfl) :
  DVs (cxT X pn (WX X pn E)) B ca fd E (.Raise (some (.Call (.Name x p) [a] [] cpos)) none pos::rest) (uj nm gd) :=
 y7 (y9 (K0 hc xc hg hm (PA.nox (zO ha yz he)) hdb he hpl) (u:=λ_ _ _=>False) λ_ _ _ _ _ _ z=>z.elim) λD σ H ⟨F,Z,q,r,hg,k⟩=>by
  unfold uj at hg
  cases q1:gd Z with
  |none=>rw[q1] at hg;cases hg
  |some d=>
   rw[q1] at hg
   cases hg
   refine⟨F,Z,d,r,q1,λv F' H' e1 p1=>⟨v,rfl,?_⟩⟩
   have:=k none σ F' _ (r.ext e1) e1.ff rfl
   rw[hC] at this
   exact this
end
theorem vI {X:Cx}{B:Bs}{e:Expr}{es:List Expr}{g:EnvD->Option D}{gs:EnvD->Option (List D)}(hs:starEach (e::es) X.env=(false,eval e X.env)::starEach es X.env)(ha:DE X B e g)(hr:DAs X B es gs):DAs X B (e::es) (gCons' g gs):=zj ha hr hs
end Dv
namespace L6
open PySem PySem.Spec L2 L3 L4
open PyProof.Rows hiding St
section
variable {prog:Program}{w:World}{A:Around}{E:Value->Shared->Prop}
theorem Jw {it l:Addr}{vs:Array Value}(ne:l≠it):∀(n i:Nat) (s:Shared) (Q:List Value->Shared->Prop),s.heap.IsListIter it l i->s.heap.IsList l vs->i+n<=vs.size ->
  (∀h',h'.IsListIter it l (i+n)->Heap.SameBut it s.heap h'->Q ((vs.toList.drop i).take n) { s with heap:=h' })->wpAny (model prog w) A (draw (.ref it) n) Q E s
 |0,i,s,Q,a,_,_,k=>by
  show wpAny _ _ (pure []) Q E s
  refine wpAny_pure ?_
  have:=k s.heap a (Heap.SameBut.refl ..)
  simpa using this
 |n+1,i,s,Q,a,b,c,k=>by
  have lt:i < vs.size:=by omega
  show wpAny _ _ (pyNext (.ref it) >>= _) Q E s
  refine wpAny_bind (wpAny_pyNext_list_item a b (x:=vs[i]) (by simp[lt]) λh1 a1 s1=>wpAny_bind (wpAny_holding ?_))
  refine Jw ne n (i+1) _ _ a1 (b.extBut s1.extBut ne) #[1] λh2 a2 s2=>wpAny_pure ?_
  have e:vs.toList.drop i=vs[i]::vs.toList.drop (i+1):=by simp[List.drop_eq_getElem_cons,lt]
  have:=k h2 (by rw[show i+(n+1)=i+1+n by omega];exact a2) (s1.trans s2)
  rw[e,List.take_succ_cons] at this
  exact this
theorem RA {env:Env}{es:List Expr}{x1}{pos:Pos}{l:Addr}{vs:Array Value}{s:Shared}{Q:Unit->Shared->Prop}(hh:A.handled=none)(hl:s.heap.IsList l vs)(hn:(assignEach es env).length=vs.size)(hst:(assignEach es env).findIdx? (·.1)=none)
  (k:∀h',Heap.ExtBut s.heap.objs.size s.heap h'->wpAny (model prog w) A (assignInOrder ((assignEach es env).map (·.2)) vs.toList) Q E { s with heap:=h' }):wpAny (model prog w) A (assign (.Tuple es x1 pos) env (.ref l)) Q E s:=by
 rw[arm_assign_Tuple]
 refine wpAny_bind (wpAny_standAt ?_)
 unfold unpack
 rw[hn,hst]
 refine wpAny_bind (wpAny_holding ?_)
 have ne:l≠s.heap.objs.size:=by obtain⟨o,ho,_⟩:=hl;exact Nat.ne_of_lt (Heap.lt_size ho)
 unfold unpackItems
 refine wpAny_bind ?_
 unfold notIterableAtAll
 refine wpAny_bind (wpAny_specialOf hl.typeIs PySem.F.slot_list_iter.lookup (wpAny_pure ?_))
 simp only[Bool.false_eq_true,if_false]
 refine wpAny_bind (wpAny_holding (wpAny_pyIter_list hl (wpAny_bind (wpAny_holding ?_))))
 refine Jw ne vs.size 0 _ _ ⟨_,Heap.get?_push_size _ rfl,rfl,rfl⟩ (hl.push _) #[1] λh1 a1 s1=>?_
 rw[show List.take vs.size (List.drop 0 vs.toList)=vs.toList by rw[List.drop_zero];exact List.take_of_length_le (by simp),if_neg (by simp)]
 refine wpAny_bind (wpAny_holding (wpAny_pyNext_list_end hh a1 ((hl.push _).extBut s1.extBut ne) (by simp) λh2 e2=>?_))
 simp only[Option.isSome_none,Bool.false_eq_true,if_false]
 exact wpAny_pure (k h2 λb o hb e=>e2 b o hb (s1.extBut b o hb (Heap.get?_push_of_some _ e)))
end
def gTupL (K:PySem.W.Frag)(n:Nat)(t:TGs):TG:=λv σ H Q=>∃a xs,v=.ref a/\SqL K H a xs/\xs.length=n/\t xs σ H Q
theorem Zp {X:Cx}{es:List Expr}{k:Nat}{t:TGs}{n:Nat}{pos:Pos}(hc:X.calm=true)(h:PGs X es t)(hn:(assignEach es X.env).length=n:=by rfl)(hst:(assignEach es X.env).findIdx? (·.1)=none:=by rfl):PG X (.Tuple es k pos) (gTupL X.K n t):=by
 intro pins s σ H v u Q I r ⟨a,xs,e1,hq,hl,hw⟩
 subst e1
 cases r
 obtain⟨its,rv,pl,hz⟩:=I.list hq
 refine RA (I.ok.hd hc) pl.isList (by simp[hn,<-hl,rv.length]) hst λh' hx=>?_
 have I1:Inv X pins σ H { s with heap:=h' }:=I.kept (t':=s.toks) λb o e=>hx b o (Nat.ne_of_lt (Heap.lt_size e)) e
 exact h pins _ σ H xs _ Q I1 (by simpa using rv) hw
end L6
namespace Dv
open PySem PySem.Spec L2 L3 L4 L6
open PyProof.Rows hiding St
def sAsgL (is:List Nat)(g:EnvD->Option D):SD:=λZ=>(g Z).bind λd=>match d with
 |.lst ds=>if ds.length=is.length then some (.next (z7 is ds Z)) else none
 |_=>none
theorem Yh {X:Cx}{B:Bs}{tg e:Expr}{pos:Pos}{is:List Nat}{g:EnvD->Option D}(he:DE X B e g)(hg:PG X tg (gTupL X.kw is.length (gNames is)))(hs:swapsWithSole [tg] e pos.line X.env=pure false:=by rfl)(hw:swappedStores [tg] e X.env=pure none:=by rfl)
  (h1:(assignEach [tg] X.env).map (·.2)=[assign tg X.env]:=by rfl):DS X B (.Assign [tg] e pos) (sAsgL is g) :=
 zC (uE he hg hs hw h1) λE σ H ⟨F,Z,fl,r,hg,k⟩=>by
  unfold sAsgL at hg
  cases q:g Z with
  |none=>rw[q] at hg;cases hg
  |some d=>
   rw[q,Option.bind_some] at hg
   cases d with
   |lst ds=>
    replace hg:(if ds.length=is.length then some (Fl.next (z7 is ds Z)) else none)=some fl:=hg
    by_cases hl:ds.length=is.length
    ·rw[if_pos hl] at hg
     cases hg
     refine⟨F,Z,_,r,q,λv F1 H1 e1 p1=>?_⟩
     obtain⟨a,vs,rfl,h1,h2⟩:=p1
     exact⟨a,vs,rfl,.of (e1.fh _ _ h1),by rw[<-h2.length];exact hl,ZD (all:=is) (r.ext e1) h2 hl (λi hi=>hi) λσ' r' _=>k σ' F1 H1 r' e1.ff⟩
    ·rw[if_neg hl] at hg;cases hg
   |_=>cases hg
@[simp]theorem zkw {is:List Nat}{g:EnvD->Option D}{Z:EnvD}:sAsgL is g Z=(g Z).bind λd=>match d with
 |.lst ds=>if ds.length=is.length then some (.next (z7 is ds Z)) else none
 |_=>none:=rfl
end Dv
namespace L6
open PySem PySem.Spec L2 L3 L4
open PyProof.Rows hiding St
structure XN (K:PySem.W.Frag)(C M:Addr):Prop where
 sub:subIn K (.ref C) (.ref M)=some false
 nt:PySem.W.instIn K (.ref M) (.type "tuple")=some false
 cls:(clsIn K M).isSome=true
 exc:subIn K (.ref M) (.type "BaseException")=some true
theorem YX {K:PySem.W.Frag}{e C M:Addr}{prog:Program}{w:World}{A:Around}{E:Value->Shared->Prop}{s:Shared}{Q:Bool->Shared->Prop}{oe:Obj}(xm:XN K C M)(X:K.In s.heap)(he:s.heap.get? e=some oe)(hc:oe.cls=.ref C)(h:Q false s) :
  wpAny (model prog w) A (excMatches (.ref e) (.ref M)) Q E s:=by
 obtain⟨hh,g,d,t,os⟩:=s
 have L0:=PySem.W.looks_instIn (M:=model prog w) X xm.nt
 have L1:=JS (M:=model prog w) he hc
 have L2:=PySem.W.looks_subIn (M:=model prog w) X xm.sub
 have L3:=PySem.W.looks_subIn (M:=model prog w) X xm.exc
 have L4:Looks (model prog w) hh (isType (.ref M)) true:=by
  have z0:=xm.cls
  unfold clsIn at z0
  split at z0
  ·rename_i c' d' cd' sl' ho
   intro A' Q' E' s' k q
   unfold isType loadHead
   exact wpAny_bind (wpAny_loadPart (k _ _ (X _ _ ho)) (wpAny_pure q))
  ·cases z0
 unfold excMatches isExcClass
 repeat (first | with_reducible refine L0.at ?_ | with_reducible refine L1.at ?_ | with_reducible refine L2.at ?_ | with_reducible refine L3.at ?_ | with_reducible refine L4.at ?_ | wp_step)
 all_goals first | exact h | skip
structure Hd where
 MC:Addr
 ie:Option Nat
 ts:Addr->Addr->Option Addr->TS
def sWish (h:Hd)(D:Ends)(σ':St)(C:Addr)(dd:Option Addr)(H':Hp):Prop:=∀ea,H' ea=none->match h.ie with
 |some i=>h.ts ea C dd { nx:=λσ2 H2=>D.nx (σ2.set i none) H2,rt:=λ_ _=>False } (σ'.set i (some (.ref ea))) H'
 |none=>h.ts ea C dd { nx:=D.nx,rt:=λ_ _=>False } σ' H'
def hWish (K:PySem.W.Frag):List Hd->Ends->St->XK
 | [],_=>λ_ _ _ _=>False
 |h::hs,D=>λσ' C' dd H'=>∃C,C'=.ref C/\((XM K C h.MC/\sWish h D σ' C dd H')∨(XN K C h.MC/\hWish K hs D σ' C' dd H'))
inductive HsOk (X:Cx):List ExceptHandler->List Hd->Prop
 |nil:HsOk X [] []
 |as {xM n:Str} {MC:Addr} {ie:Nat} {ts:Addr->Addr->Option Addr->TS} {b0:Stmt} {suite:List Stmt} {rest:List ExceptHandler} {hds:List Hd} {pM hpos:Pos} (hg:Gl X xM) (hm:X.mg xM=some (.ref MC)) (hdb:(xM==("__debug__" : Str))=false)
   (hi:X.N[ie]?=some n) (hl:X.env.scope.names.lookup n=some .local) (hs:∀ea oe C dd,oe.cls=.ref C->oe.dict=dd->(∃fs,oe.data=.fields fs)->PSs (cxE X ea [(ea,oe)]) (b0::suite) (ts ea C dd)) (hr:HsOk X rest hds) :
   HsOk X (.ExceptHandler (some (.Name xM pM)) (some n) (b0::suite) hpos::rest) (⟨MC,some ie,ts⟩::hds)
 |no {xM:Str} {MC:Addr} {ts:Addr->Addr->Option Addr->TS} {b0:Stmt} {suite:List Stmt} {rest:List ExceptHandler} {hds:List Hd} {pM hpos:Pos} (hg:Gl X xM) (hm:X.mg xM=some (.ref MC)) (hdb:(xM==("__debug__" : Str))=false)
   (hs:∀ea oe C dd,oe.cls=.ref C->oe.dict=dd->(∃fs,oe.data=.fields fs)->PSs (cxE X ea [(ea,oe)]) (b0::suite) (ts ea C dd)) (hr:HsOk X rest hds) :
   HsOk X (.ExceptHandler (some (.Name xM pM)) none (b0::suite) hpos::rest) (⟨MC,none,ts⟩::hds)
section
variable {X:Cx}{pins:List (Addr×Obj)}
theorem Z8 (hN:X.N.Nodup):∀ {hs:List ExceptHandler} {hds:List Hd},HsOk X hs hds->∀ {σ':St} {H':Hp} {s:Shared} {ea T:Addr} {C' a0:Value} {dd:Option Addr} {D:Ends},Inv X pins σ' H' s->Trc s.heap ea C' dd a0 (some T)->Own X pins H' ea->Own X pins H' T ->
  hWish X.K hds D σ' C' dd H'->wpAny #[4] X.A (handleBy (.ref ea) X.env hs) (SP X pins D) X.xe s
 |_,_,.nil,_,_,_,_,_,_,_,_,_,_,_,_,_,q=>q.elim
 |_,_,@HsOk.as _ xM n MC ie ts b0 suite rest hds pM hpos hg hm hdb hi hl hs hr,σ',H',s,ea,T,C',a0,dd,D,I,t5,o1,o5,q=>by
  obtain⟨C,rfl,q⟩:=q
  have h3:H' ea=none:=o1.2.2.2.2.1
  have I':Inv (cxE X ea []) pins σ' H' s:=kG I λp hp=>nomatch hp
  obtain⟨oe5,vs5,he5,hc5,hd5,hf5,_⟩:=id t5
  refine wpAny_handleBy_cons (codeAny_handlers_test (yr (X:=cxE X ea []) I' hg hm ?_ hdb)) (by intro z;cases z)
  rcases q with⟨xm,q⟩ | ⟨xn,q⟩
  ·refine WA xm I.kIn he5 hc5 ?_
   refine codeAny_handlers_suite_as ?_
   refine Jj t5 λh6 t6 k6=>?_
   have I6:=kO I (k6.wide (S':=frs X.stack) λb z=>nomatch z) o1 λt z=>by cases z;exact o5
   refine kS (X:=X) (v:=.ref ea) I6 hN hi (.inl hl) rfl (λs7 I7 sb=>?_) (.inr hl)
   obtain⟨oe,vs,he,hc,hd,hf,_⟩:=id t6
   have he7:s7.heap.get? ea=some oe:=by
    obtain⟨a,sb1,sb2⟩:=sb
    refine (sb1.2 ea ?_).trans he
    rintro rfl
    rcases sb2 with z | z
    ·exact o1.2.1 z
    ·exact o1.2.2.1 n ea z rfl
   have I7':Inv (cxE X ea [(ea,oe)]) pins (σ'.set ie (some (.ref ea))) H' s7:=kG I7 λp hp=>by
    cases hp with
    |head=>exact⟨he7,h3,o1.2.1,o1.2.2.2.2.2,λv z=>by rw[hf] at z;cases z⟩
    |tail _ z=>cases z
   refine wpAny_mono (hs ea oe C dd hc hd ⟨vs,hf⟩ pins s7 _ H' _ I7' (q ea h3)) (λf s8 z=>?_) λ_ _ z=>False.elim z
   cases f with
   |next=>
    obtain⟨σ8,H8,I8,q8⟩:=z
    exact GV (V3 I.ok I8) hN hi hl λs9 I9=>⟨_,_,I9,q8⟩
   |ret v=>obtain⟨_,_,_,_,_,z⟩:=z;exact z.elim
   |brk=>obtain⟨_,_,_,z⟩:=z;exact z.elim
   |cont=>obtain⟨_,_,_,z⟩:=z;exact z.elim
  ·refine YX xn I.kIn he5 hc5 ?_
   exact Z8 hN hr I t5 o1 o5 q
 |_,_,@HsOk.no _ xM MC ts b0 suite rest hds pM hpos hg hm hdb hs hr,σ',H',s,ea,T,C',a0,dd,D,I,t5,o1,o5,q=>by
  obtain⟨C,rfl,q⟩:=q
  have h3:H' ea=none:=o1.2.2.2.2.1
  have I':Inv (cxE X ea []) pins σ' H' s:=kG I λp hp=>nomatch hp
  obtain⟨oe5,vs5,he5,hc5,hd5,hf5,_⟩:=id t5
  refine wpAny_handleBy_cons (codeAny_handlers_test (yr (X:=cxE X ea []) I' hg hm ?_ hdb)) (by intro z;cases z)
  rcases q with⟨xm,q⟩ | ⟨xn,q⟩
  ·refine WA xm I.kIn he5 hc5 ?_
   refine codeAny_handlers_suite ?_
   refine Jj t5 λh6 t6 k6=>?_
   have I6:=kO I (k6.wide (S':=frs X.stack) λb z=>nomatch z) o1 λt z=>by cases z;exact o5
   obtain⟨oe,vs,he,hc,hd,hf,_⟩:=id t6
   have I7':Inv (cxE X ea [(ea,oe)]) pins σ' H' { s with heap:=h6 }:=kG I6 λp hp=>by
    cases hp with
    |head=>exact⟨he,h3,o1.2.1,o1.2.2.2.2.2,λv z=>by rw[hf] at z;cases z⟩
    |tail _ z=>cases z
   refine wpAny_mono (hs ea oe C dd hc hd ⟨vs,hf⟩ pins _ _ H' _ I7' (q ea h3)) (λf s8 z=>?_) λ_ _ z=>False.elim z
   cases f with
   |next=>
    obtain⟨σ8,H8,I8,q8⟩:=z
    exact⟨_,_,V3 I.ok I8,q8⟩
   |ret v=>obtain⟨_,_,_,_,_,z⟩:=z;exact z.elim
   |brk=>obtain⟨_,_,_,z⟩:=z;exact z.elim
   |cont=>obtain⟨_,_,_,z⟩:=z;exact z.elim
  ·refine YX xn I.kIn he5 hc5 ?_
   exact Z8 hN hr I t5 o1 o5 q
end
section
variable {X:Cx}{t1:TS}{t2:(St->XK)->TS}{body:List Stmt}{h0:ExceptHandler}{hs:List ExceptHandler}{hds:List Hd}{pos:Pos}
theorem Kt (h1:PSs X.nox body t1)(h2:∀pn (E:St->XK),PSs (cxT X pn (WX X pn E)) body (t2 E))(hN:X.N.Nodup)(hstk:X.stack=X.env::X.outer/\X.env.frame=some X.env.locals)(hh:HsOk X (h0::hs) hds) :
  PS X (.Try body (h0::hs) [] [] pos) (λD σ H=>t1 D σ H∨t2 (hWish X.K hds D) { nx:=λ_ _=>False,rt:=λ_ _=>False } σ H):=by
 intro pins s σ H D I h
 rcases h with h | h
 ·refine wpAny_Try_except (wpAny_mono (h1 pins s σ H D (I.wish _) h) (λf s1 q=>?_) λ_ _ z=>False.elim z)
  have q:=SP.unwish q
  cases f with
  |next=>exact wpAny_execs_nil q
  |ret v=>exact q
  |brk=>exact q
  |cont=>exact q
 refine wpAny_Try_except (wpAny_mono (h2 pins _ [] s σ H _ (VI I) h) (λf s1 q=>?_) λex s' hx=>?_)
 ·cases f with
  |next=>obtain⟨_,_,_,z⟩:=q;exact z.elim
  |ret v=>obtain⟨_,_,_,_,_,z⟩:=q;exact z.elim
  |brk=>obtain⟨_,_,_,z⟩:=q;exact z.elim
  |cont=>obtain⟨_,_,_,z⟩:=q;exact z.elim
 obtain⟨σ',ea,C',dd,a0,T,H',rfl,I2,ht,o1,o2,q⟩:=hx
 have hfr:X.A.frames=some (X.env::X.outer):=by rw[I.ok.frames,hstk.1]
 have hff:s'.heap.FunFrames X.base (X.env::X.outer):=by have:=I2.stack;rw[hstk.1] at this;exact this
 refine noteF hfr hff hstk.2 ht λh4 T5 t4 l4 k4=>?_
 rw[<-hstk.1] at k4
 have I4:=kO I2 k4 o1 o2
 have o5:Own X pins H' T5:=by
  rcases l4 with l | l
  ·exact vO I2 l (I2.hok.fresh l)
  ·exact o2 _ l
 refine JV (s:={ s' with heap:=h4 }) t4 λh5 _ t5 k5=>?_
 have t5:=t5 rfl
 have I5:=kO (s:={ s' with heap:=h4 }) I4 (k5.wide (S':=frs X.stack) λb z=>nomatch z) o1 λt z=>by cases z;exact o5
 exact Z8 hN hh I5 t5 o1 o5 q
end
end L6
namespace Dv
open PySem PySem.Spec L2 L3 L4 L6
open PyProof.Rows hiding St
section
variable {X:Cx}{B:Bs}{ca:Str->Addr}{fd:Str}{E:St->XK}{pos:Pos}{tg iter elt:Expr}{ifs:List Expr}{scope:Scope}{own:List Str}{cap:List (Str×Nat)}{t:Tgt}{tc:EnvD->Option Bool}{α:Type}{post:Post α}{ge:EnvD->Option α}{gx:EnvD->Option Xv}{gi:EnvD->Option (List D)}
end
end Dv
namespace L6
open PySem PySem.Spec L2 L3 L4
open PyProof.Rows hiding St
structure XI (K:PySem.W.Frag)(C:Addr):Prop where
 sub:subIn K (.ref C) (.type "BaseException")=some true
 cls:(clsIn K C).isSome=true
 ga:findIn K (.ref C) "__getattribute__" = some (some (.builtin "BaseException.__getattribute__"))
 gt:findIn K (.ref C) "__getattr__" = some none
 ca:findIn K (.ref C) "__class__" = some (some (.builtin "object.__class__"))
 cg:PySem.W.specialIn K (.builtin "object.__class__") "__get__" = some (some (.builtin "getset_descriptor.__get__"))
 ct:PySem.W.takesIn K (.builtin "object.__class__")=some true
 mo:PySem.W.mroIn K C (.type "object")=some true
section
variable {prog:Program}{w:World}{A:Around}{E:Value->Shared->Prop}{K:PySem.W.Frag}{x C:Addr}
end
end L6
namespace Dv
open PySem PySem.Spec L2 L3 L4 L6
open PyProof.Rows hiding St
section
variable {X:Cx}{elts:List Expr}{tk:Nat}{tpos p pos:Pos}{a:Expr}{B:Bs}{hb:Hp->Hp}{gi:EnvD->Option (List D)}
end
structure Exc0 (K:PySem.W.Frag)(mg:Str->Option Value)(CT HE:Addr)(xT xH:Str)(oth:List (Str×Bool)):Prop where
 xc:XC0 K CT
 xi:XI K CT
 xm:XM K CT CT
 xmH:XM K CT HE
 z:kitOne K (.ref CT) (.ref HE)=some true
 zT:kitOne K (.ref CT) (.ref CT)=some true
 mT:mg xT=some (.ref CT)
 mH:mg xH=some (.ref HE)
 oth:∀q∈oth,∃M,mg q.1=some (.ref M)/\kitOne K (.ref CT) (.ref M)=some q.2
theorem GP {K:PySem.W.Frag}{C M:Addr}(h0:subIn K (.ref C) (.ref C)=some true)(h1:PySem.W.isClsIn K M=true)(h2:PySem.W.typeIn K (.ref M)=some (.type "type")) (h3:subIn K (.ref C) (.ref M)=some false):kitOne K (.ref C) (.ref M)=some false:=by
 unfold kitOne
 split
 ·rename_i q
  cases (Value.ref.inj (beq_iff_eq.mp q):C=M)
  rw[h0] at h3
  cases h3
 ·show (if ((clsIn K M).isSome&&PySem.W.typeIn K (.ref M)==some (.type "type"))=true then subIn K (.ref C) (.ref M) else none)=some false
  have h1:(clsIn K M).isSome=true:=h1
  rw[h1,h2,if_pos (by decide)]
  exact h3
section
variable {X:Cx}{B:Bs}{ca:Str->Addr}{fd:Str}{E:St->XK}{pos:Pos}{tg iter elt:Expr}{ifs:List Expr}{scope:Scope}{own:List Str}{cap:List (Str×Nat)}{t:Tgt}{tc:EnvD->Option Bool}{ge:EnvD->Option D}{gx:EnvD->Option Xv}{gi:EnvD->Option (List D)}
end
end Dv
namespace Dv
open PySem PySem.Spec L2 L3 L4
open PyProof.Rows hiding St
section
variable {X:Cx}{B:Bs}{a e o:Expr}{es:List Expr}{pos p apos cpos:Pos}{g go:EnvD->Option D}{gs:EnvD->Option (List D)}
end
section
variable {Z:EnvD}{g go:EnvD->Option D}{gs:EnvD->Option (List D)}{gj:EnvD->Option Str}
end
def compT (t:Tgt)(tc:EnvD->Option Bool)(ge:EnvD->Option OT)(Z0:EnvD):List D->Option (List OT)
 | []=>some []
 |d::ds=>(asgD t d Z0).bind λZ1=>(tc Z1).bind λb=>if b then (ge Z1).bind λy=>(compT t tc ge Z0 ds).map (y::·) else compT t tc ge Z0 ds
@[simp]theorem zic {t:Tgt}{tc:EnvD->Option Bool}{ge:EnvD->Option OT}{Z:EnvD}:compT t tc ge Z []=some []:=rfl
@[simp]theorem zdw {t:Tgt}{tc:EnvD->Option Bool}{ge:EnvD->Option OT}{Z:EnvD}{d:D}{ds:List D}:compT t tc ge Z (d::ds)=(asgD t d Z).bind λZ1=>(tc Z1).bind λb=>if b then (ge Z1).bind λy=>(compT t tc ge Z ds).map (y::·) else compT t tc ge Z ds:=rfl
def gCompT (own:List Str)(cap:List (Str×Nat))(t:Tgt)(tc:EnvD->Option Bool)(ge:EnvD->Option OT)(gi:EnvD->Option (List D)):EnvD->Option OT:=λZ=>
 (gi Z).bind λds=>if ds.length<=TOP then (compT t tc ge #[9] ds).map OT.lst else none
section
variable {X:Cx}{B:Bs}{tg iter:Expr}{pos:Pos}{gi:EnvD->Option (List D)}
theorem QT {elt:Expr}{ifs:List Expr}{scope:Scope}{own:List Str}{cap:List (Str×Nat)}{t:Tgt}{tc:EnvD->Option Bool}{ge:EnvD->Option OT}(hc:X.calm=true)(S:CompScope X scope own cap)(hi:DI X B (λH=>H) tg iter gi)(ht:∀i∈t.slots,i < own.length)
  (hin:∀(B':Bs) C s₀ H₀ fp pn,PG #[13] tg (tgT X.kw t)/\DIfs #[13] B' ifs tc/\DTr #[13] B' elt ge)
  (hs:∀x,foldedSetIterable iter X.env x=pure x:=by intro _;rfl) :
  DTr X B (.ListComp elt [⟨tg,iter,ifs,0⟩] scope pos) (gCompT own cap t tc ge gi):=by
 refine zo (JJ (tc:=λσ H Q=>∃B',lT X.kw B' tc σ H Q) (te:=λσ H Q=>∃B',lG X.kw B' (pT X.kw) ge σ H Q) hc S hi (λC s₀ H₀ fp pn=>⟨(hin ⟨H₀,H₀⟩ C s₀ H₀ fp pn).1,λpins s σ H Q I ⟨B',q⟩=>(hin B' C s₀ H₀ fp pn).2.1 pins s σ H Q I q,λpins s σ H Q I ⟨B',q⟩=>(hin B' C s₀ H₀ fp pn).2.2 pins s σ H Q I q⟩) hs) ?_
 intro σ H Q ⟨F,Z,outT,r,hg,k⟩
 unfold gCompT at hg
 cases q:gi Z with
 |none=>rw[q] at hg;cases hg
 |some ds=>
  rw[q] at hg
  have hg:(if ds.length<=TOP then (compT t tc ge #[9] ds).map OT.lst else none)=some outT:=hg
  split at hg
  ·rename_i htop
   cases qo:compT t tc ge #[9] ds with
   |none=>rw[qo] at hg;cases hg
   |some out=>
   rw[qo] at hg
   cases hg
   replace hg:=qo
   refine⟨F,Z,ds,r,q,λJ F1 H1 e1 jok=>?_⟩
   refine⟨λi m ys H2=>m=ds.length - i/\i<=ds.length/\∃F2 o1 o2,Ext F1 H1 F2 H2/\(RepOs X.kw F2 H2 o1 ys/\(feetOs H2 o1 ys).Nodup/\∀a∈feetOs H2 o1 ys,H a=none/\F2 a=none)/\o1.length<=i/\compT t tc ge #[9] (ds.drop i)=some o2/\out=o1++o2,
    ⟨ds.length,rfl,Nat.zero_le _,F1,[],out,.refl e1.fh,⟨rfl,.nil,λa ha=>nomatch ha⟩,Nat.le_refl _,hg,rfl⟩,?_⟩
   rintro i m ys H2 ⟨rfl,hi,F2,o1,o2,e2,⟨ry,nd,fr⟩,hl1,h2,rfl⟩
   refine⟨yf (by rw[<-RepOs.length ry];omega),?_⟩
   obtain⟨j1,j2⟩:=jok F2 H2 e2.ff e2.fh e2.hh i
   by_cases hlt:i < ds.length
   ·obtain⟨go,yl⟩:=j1 hlt
    refine .inr ⟨go,λys' H'=>∃F3 p1 p2,Ext F1 H1 F3 H'/\(RepOs X.kw F3 H' p1 ys'/\(feetOs H' p1 ys').Nodup/\∀a∈feetOs H' p1 ys',H a=none/\F3 a=none)/\p1.length<=i+1/\compT t tc ge #[9] (ds.drop (i+1))=some p2/\o1++o2=p1++p2,λys' H' ⟨F3,p1,p2,e3,r3,l3,h3,eo⟩=>⟨ds.length - (i+1),by omega,rfl,hlt,F3,p1,p2,e3,r3,l3,h3,eo⟩,λx H3 hy σ1 hσ=>?_⟩
    obtain⟨F3,d,e3,hd,rd⟩:=yl x H3 hy
    have hdd:ds.drop i=d::ds.drop (i+1):=by
     rw[List.drop_eq_getElem_cons hlt]
     congr 1
     rw[List.getElem?_eq_getElem hlt] at hd
     exact Option.some.inj hd
    rw[hdd] at h2
    simp only[compT] at h2
    cases q1:asgD t d #[9] with
    |none=>rw[q1] at h2;cases h2
    |some Z1=>
     rw[q1] at h2
     have e13:=e2.trans e3
     refine jo (Yi (own:=own) (cap:=cap) r e1 e13 hσ) rd q1 λσ' r4 so=>⟨?_,?_⟩
     ·obtain⟨σ1',l1,e4⟩:=so.pre (σ1:=σ1) rfl (λj hj=>by rw[hσ];exact ht j hj)
      exact⟨σ1',by rw[l1,hσ],e4⟩
     ·have h2:((tc Z1).bind λb=>if b then (ge Z1).bind λy=>(compT t tc ge #[9] (ds.drop (i+1))).map (y::·) else compT t tc ge #[9] (ds.drop (i+1)))=some o2:=h2
      cases q2:tc Z1 with
      |none=>rw[q2] at h2;cases h2
      |some bb=>
       rw[q2] at h2
       refine⟨⟨F1,H1⟩,F3,Z1,bb,r4,q2,λF5 H5 e5=>?_⟩
       cases bb with
       |false=>
        have eo:=e3.trans e5
        obtain⟨u1,u2⟩:=RepOs.ext eo.ff eo.hh ry
        exact iteF ⟨F5,o1,o2,e13.trans e5,⟨u1,by rw[u2];exact nd,λa ha=>by rw[u2] at ha;exact⟨(fr a ha).1,xw eo (fr a ha).2 (RepOs.feet ry ha)⟩⟩,by omega,h2,rfl⟩
       |true=>
        have h2:((ge Z1).bind λy=>(compT t tc ge #[9] (ds.drop (i+1))).map (y::·))=some o2:=h2
        cases q3:ge Z1 with
        |none=>rw[q3] at h2;cases h2
        |some y=>
         rw[q3] at h2
         have h2:(compT t tc ge #[9] (ds.drop (i+1))).map (y::·)=some o2:=h2
         cases q4:compT t tc ge #[9] (ds.drop (i+1)) with
         |none=>rw[q4] at h2;cases h2
         |some p2=>
          rw[q4] at h2
          cases h2
          refine iteT ⟨⟨F1,H1⟩,F5,Z1,y,r4.ext e5,q3,λv F6 H6 e6 p6=>?_⟩
          have eo:=e3.trans (e5.trans e6)
          obtain⟨u1,u2⟩:=RepOs.ext eo.ff eo.hh ry
          obtain⟨w1,w2,w3⟩:=p6
          have h5:∀a,H5 a=none->H a=none:=λa z=>e1.hh.free ((e13.trans e5).hh.free z)
          refine⟨F6,o1++[y],p2,e13.trans (e5.trans e6),⟨RepOs.snoc w1 u1,?_,?_⟩,by simp;omega,rfl,by simp⟩
          ·rw[uN (RepOs.length u1),u2,List.nodup_append]
           refine⟨nd,w2,λa ha b hb hab=>?_⟩
           subst hab
           exact RepOs.feet ry ha ((e3.trans e5).hh.free (w3 a hb).1)
          ·rw[uN (RepOs.length u1),u2]
           intro a ha
           rcases List.mem_append.mp ha with ha | ha
           ·exact⟨(fr a ha).1,xw eo (fr a ha).2 (RepOs.feet ry ha)⟩
           ·exact⟨h5 a (w3 a ha).1,(w3 a ha).2⟩
   ·have hi':i=ds.length:=by omega
    have hdd:ds.drop i=[]:=by rw[hi',List.drop_length]
    rw[hdd] at h2
    cases h2
    refine .inl ⟨j2 hi',λD hD=>?_⟩
    have e:=e1.trans e2
    obtain⟨x1,x2⟩:=RepOs.ext (Same.refl F2) (zX (o:=.lst ys) hD) ry
    have hfD:feetO (upd H2 D (.lst ys)) (.lst o1) (.ref D)=D::feetOs H2 o1 ys:=by
     simp only[feetO,ym (zr (H:=H2) (a:=D) (o:=.lst ys)),x2]
    rw[List.append_nil] at *
    refine k _ F2 _ (e.trans (.new e.fh hD)) ⟨⟨D,ys,rfl,zr,x1⟩,?_,?_⟩
    ·rw[hfD]
     exact List.nodup_cons.mpr ⟨λz=>RepOs.feet ry z hD,nd⟩
    ·rw[hfD]
     intro b hb
     rcases List.mem_cons.mp hb with rfl | hb
     ·exact⟨e.hh.free hD,e.fh.free hD⟩
     ·exact fr b hb
  ·cases hg
end
section
variable {K:KW}{B:Bs}{F H:Hp}{σ:St}{Z:EnvD}
end
section
variable {X:Cx}{B:Bs}{tg e ck c re:Expr}{es:List Expr}{x y nm:Str}{pos p2 p3 p4 p5 ip rp apos cpos:Pos}{id:String}{r:V->List V->Hp->VK->Prop}{f:List D->List D->Option (List D)}{gs:EnvD->Option (List D)}{dd:List D}{gt:EnvD->Option Bool}{ge:EnvD->Option D}
end
end Dv
namespace Dv
open PySem PySem.Spec L2 L3 L4 L6
open PyProof.Rows hiding St
section
variable {X:Cx}{B:Bs}{e a b o:Expr}{es:List Expr}{pos p cpos:Pos}{gts:EnvD->Option (List OT)}{gp:EnvD->Option (List Nat)}{ga gb:EnvD->Option D}
end
section
variable {X:Cx}{B:Bs}{ca:Str->Addr}{fd x:Str}{id:String}{E:St->XK}{pos p:Pos}{e:Expr}{es:List Expr}{k n:Nat}{g:EnvD->Option Xv}{gd:EnvD->Option D}{gx:EnvD->Option En}{m:List En->Option En}
theorem Ys (ha:DN X.nox B e gx)(h:DVa X B ca fd E es g)(hs:starEach (e::es) X.env=(false,eval e X.env)::starEach es X.env:=by rfl):DVa X B ca fd E (e::es) (yAft gx g) :=
 ye (zO (PE.nox ha) h hs) λσ H Q ⟨F,Z,q,r,hg,k⟩=>by
  obtain⟨y,q1,q2⟩:=Q1 hg
  exact⟨F,Z,y,r,q1,λv F1 H1 e1 p1=>lV.ext r e1 q2 k⟩
theorem Uq (ha:DR X.nox B e gd)(h:DVa X B ca fd E es g)(hs:starEach (e::es) X.env=(false,eval e X.env)::starEach es X.env:=by rfl):DVa X B ca fd E (e::es) (yAft gd g) :=
 ye (zO (PE.nox ha) h hs) λσ H Q ⟨F,Z,q,r,hg,k⟩=>by
  obtain⟨y,q1,q2⟩:=Q1 hg
  exact⟨F,Z,y,r,q1,λv F1 H1 e1 p1=>lV.ext r e1 q2 k⟩
theorem zfz (h:DVa X B ca fd E (e::es) g)(hg:Gl X x)(hm:X.mg x=none)(hv:bootBuiltins x=some (.builtin id))(hn:x ≠ "__name__" := by decide) (hdb:#[8]=false:=by decide)
  (he:starEach (e::es) X.env=(false,eval e X.env)::starEach es X.env:=by rfl) (hpl:#[11].any (·.1)=false:=by rfl):DV X B ca fd E #[12] g :=
 zo (ua (r:=λ_ _ _=>False) (λ_ _ _ _ _ _ _ _ _ z=>z.elim) hg hm hv h hn hdb he hpl) λ_ _ _ q=>q
theorem VN (h:Fx X.prog X.w X.kw X.mg X.base x k n m)(hg:Gl X x)(ha:DVa X B ca fd E (e::es) g)(hdb:#[8]=false:=by decide +kernel)
  (he:starEach (e::es) X.env=(false,eval e X.env)::starEach es X.env:=by rfl) (hpl:#[11].any (·.1)=false:=by rfl):DV X B ca fd E #[12] g:=by
 obtain⟨f,f0,ps,F,hm,hk,hb⟩:=h.ex
 intro pins s σ H Q I q
 refine wpAny_Call_Name_kw (yr I hg hm ?_ hdb)
 exact PySem.W.callWith_K (h₀:=X.base) I.ok.mod.kin hk (thn (ha pos pins s σ H (λ_ _=>False) I q) λus s1 ⟨vs,H1,I1,r,z⟩=>z.elim) he hpl
end
theorem xX {α:Type}{P:α->Prop}:∀q∈([]:List α),P q:=λ_ h=>nomatch h
theorem all_cons {α:Type}{P:α->Prop}{a:α}{l:List α}(h:P a)(r:∀q∈l,P q):∀q∈a::l,P q:=List.forall_mem_cons.mpr ⟨h,r⟩
theorem Pd.ext {K:KW}{F H F' H':Hp}{fd:Str}{dd:Option Addr}{q:Option D}(e:Ext F H F' H')(h:Pd K F H fd dd q):Pd K F' H' fd dd q:=by
 cases q with
 |none=>exact h
 |some d=>obtain⟨dx,v,e1,e2,e3⟩:=h;exact⟨dx,v,e1,e.hh _ _ e2,e3.mono e.ff⟩
def hasE (ie:Option Nat)(ea:Addr)(σ:St):Prop:=match ie with
 |some k=>σ[k]?=some (some (.ref ea))
 |none=>True
abbrev Jt:=Option D->Option D
def jtsD (q:Option D):List Jt->Option (List D)
 | []=>some []
 |f::r=>(f q).bind λd=>(jtsD q r).map (d::·)
def lCJ (K:KW)(ie:Option Nat)(ea:Addr)(dd:Option Addr)(fd:Str)(f:Jt):TE:=λσ H Q=>hasE ie ea σ/\∃F q d,Same F H/\Pd K F H fd dd q/\f q=some d/\∀v F' H',Ext F H F' H'->Rp K F' d v->Q v H'
def lCJs (K:KW)(ie:Option Nat)(ea:Addr)(dd:Option Addr)(fd:Str)(fs:List Jt):TA:=λσ H Q=>hasE ie ea σ/\∃F q ds,Same F H/\Pd K F H fd dd q/\jtsD q fs=some ds/\∀vs F' H',Ext F H F' H'->Rps K F' ds vs->Q vs H'
def JtOk (X:Cx)(C:Addr)(ie:Option Nat)(fd:Str)(e:Expr)(f:Jt):Prop:=∀ea oe dd,oe.cls=.ref C->oe.dict=dd->(∃fs,oe.data=.fields fs)->PE (cxE X ea [(ea,oe)]) e (lCJ X.kw ie ea dd fd f)
def JtsOk (X:Cx)(C:Addr)(ie:Option Nat)(fd:Str)(es:List Expr)(fs:List Jt):Prop:=∀ea oe dd,oe.cls=.ref C->oe.dict=dd->(∃fs,oe.data=.fields fs)->PA (cxE X ea [(ea,oe)]) es (lCJs X.kw ie ea dd fd fs)
def jCon (x:Str):Jt:=λ_=>some (.str x)
def jPay:Jt:=λq=>q
section
variable {X:Cx}{B:Bs}{C HE fI M2 MC:Addr}{ca:Str->Addr}{fd n x y:Str}{ie:Option Nat}{i k:Nat}{pos p p2 p3 pI pC pB lpos:Pos}{e:Expr}{es:List Expr}{f:Jt}{fs:List Jt}{b:Bool}
theorem VY {j}:JtOk X C ie fd (.Constant (.str x) j pos) (jCon x):=λ_ _ _ _ _ _=>zo ZT λσ H Q ⟨_,F,q,d,s,_,hf,k⟩=>by
 cases hf;exact k _ F H (.refl s) rfl
theorem zfx {it:It}(h:ItOk X C k fd e it):JtOk X C (some k) fd e (λq=>itD q it):=λea oe dd h1 h2 h3=>zo (h ea oe dd h1 h2 h3) λσ H Q ⟨h1,F,q,d,s,pd,hf,kk⟩=>Gi h1 pd hf λv hv=>kk v F H (.refl s) hv
theorem zdh (h:ItOk X C k fd e .pay):JtOk X C (some k) fd e jPay:=zfx h
end
structure Cl where
 ie:Option Nat
 its:List (Str×List Jt)
inductive CsOk (X:Cx) (ca:Str->Addr) (fd:Str) (i:Nat):List ExceptHandler->List Cl->Prop
 |nil:CsOk X ca fd i [] []
 |as {xM n fx:Str} {MC:Addr} {ie:Nat} {its:List (Str×List Jt)} {es:List Expr} {rest:List ExceptHandler} {cls:List Cl} {pM hpos pF lpos epos:Pos} (hg:Gl X xM) (hm:X.mg xM=some (.ref MC)) (hdb:(xM==("__debug__" : Str))=false)
   (hie:X.N[ie]?=some n) (hl:X.env.scope.names.lookup n=some .local) (hit:∀q∈its,JtsOk X (ca q.1) (some ie) fd es q.2) (hx:∀q∈its,XM X.K (ca q.1) MC) (hn:∀c∈cls,∀q∈c.its,XN X.K (ca q.1) MC)
   (hi:X.N[i]?=some fx) (hiL:Loc X.env.scope fx) (hif:X.fn fx=true∨X.env.scope.names.lookup fx=some .local) (hs:swapsWith (.List es lpos) (some (.Name fx pF)) epos.line X.env=pure false) (hr:CsOk X ca fd i rest cls) :
   CsOk X ca fd i (.ExceptHandler (some (.Name xM pM)) (some n) [.Assign [.Name fx pF] (.List es lpos) epos] hpos::rest) (⟨some ie,its⟩::cls)
 |no {xM fx:Str} {MC:Addr} {its:List (Str×List Jt)} {es:List Expr} {rest:List ExceptHandler} {cls:List Cl} {pM hpos pF lpos epos:Pos} (hg:Gl X xM) (hm:X.mg xM=some (.ref MC)) (hdb:(xM==("__debug__" : Str))=false)
   (hit:∀q∈its,JtsOk X (ca q.1) none fd es q.2) (hx:∀q∈its,XM X.K (ca q.1) MC) (hn:∀c∈cls,∀q∈c.its,XN X.K (ca q.1) MC)
   (hi:X.N[i]?=some fx) (hiL:Loc X.env.scope fx) (hif:X.fn fx=true∨X.env.scope.names.lookup fx=some .local) (hs:swapsWith (.List es lpos) (some (.Name fx pF)) epos.line X.env=pure false) (hr:CsOk X ca fd i rest cls) :
   CsOk X ca fd i (.ExceptHandler (some (.Name xM pM)) none [.Assign [.Name fx pF] (.List es lpos) epos] hpos::rest) (⟨none,its⟩::cls)
theorem wg {α:Type}{nm:Str}{v:α}:∀ {l:List (Str×α)},l.lookup nm=some v->(nm,v)∈l
 | [],h=>by cases h
 | (a,b)::r,h=>by
  rw[List.lookup_cons] at h
  split at h
  ·rename_i q
   cases h
   have:nm=a:=eq_of_beq q
   subst this
   exact .head _
  ·exact .tail _ (wg h)
section
variable {X:Cx}{B:Bs}{ca:Str->Addr}{fd:Str}{i:Nat}
variable {gs:SD}{gx:EnvD->Option (EnvD×Xv)}{body:List Stmt}{h0:ExceptHandler}{hs:List ExceptHandler}{cls:List Cl}{pos:Pos}
end
def ExI (P:Program)(w:World)(K:PySem.W.Frag)(mg:Str->Option Value)(base:Heap)(C HE:Addr)(fd:Str):Prop:=∃fI,XC K C HE fI fd/\∃f0 ps,FnOk P w K mg base CX0 1 fI f0 ps (xiSp C fd)/\Binds K f0 ps []
end Dv
namespace L6
open PySem PySem.Spec L2 L3 L4
open PyProof.Rows hiding St
def calmA (A:Around):Around:={ A with handled:=none }
def PinOk (outer:List Env)(s:Shared)(H:Hp)(pn:List (Addr×Obj)):Prop:=∀p∈pn,s.heap.get? p.1=some p.2/\H p.1=none/\p.1∉frs outer/\∀v,p.2.data≠.cell v
abbrev SpE:=List (Addr×Obj)->List V->Hp->VK->Prop
structure FnE (P:Program)(w:World)(K:PySem.W.Frag)(mg:Str->Option Value)(base:Heap)(k:Nat)(f:Addr)(fd:FuncData)(ps:List Str)(sp:SpE):Prop where
 len:∀pn vs H Q,sp pn vs H Q->vs.length=ps.length
 run:∀(A:Around) (outer:List Env) (s:Shared) (H:Hp) (args:Args) (us:List Value) (vs:List V) (Q:VK) (pn:List (Addr×Obj)),Room k (calmA A)->Env0 P w K mg base A outer s H->BindsTo s fd args (ps.zip us)->Vals vs us->PinOk outer s H pn->sp pn vs H Q ->
  codeAny (model P w) A (.call (.ref f) args) (CR CX0 outer P w H s Q (λ_ _ _=>False)) s
section
variable {P:Program}{w:World}{K:PySem.W.Frag}{mg:Str->Option Value}{base:Heap}{N ps:List Str}{qual name:Str}{scope:Scope}{f:Addr}{cdv:Value}{A:Around}{outer:List Env}{s s1:Shared}{H:Hp}{us:List Value}{vs:List V}{E:XK}{pn:List (Addr×Obj)}
end
section
variable {X:Cx}{k:Nat}{f:Addr}{fd:FuncData}{ps:List Str}{sp:SpE}{x:Str}{p pos:Pos}{e:Expr}{es:List Expr}{t:TA}{ea:Addr}{oe:Obj}
end
end L6
namespace Dv
open PySem PySem.Spec L2 L3 L4 L6
open PyProof.Rows hiding St
def kitF (K:PySem.W.Frag)(C:Addr)(isx:Nat->Bool):Nat->List Value->Prop
 |_,[]=>True
 |j,v::vs=>kitOne K (.ref C) v=some (isx j)/\kitF K C isx (j+1) vs
structure ExAt (K:PySem.W.Frag)(fd:Str)(ea C:Addr)(oe:Obj)(H:Hp):Prop where
 xi:XI K C
 cls:oe.cls=.ref C
 flds:∃fs,oe.data=.fields fs
 dic:oe.dict=none∨∃dx v,oe.dict=some dx/\H dx=some (.xd [(fd,v)])
def eSp (K:KW)(fd:Str)(tab:List Value)(m:Addr->(Nat->Bool)->List En->Option En):SpE:=λpn vs H Q=>
 ∃ea oe C isx F d,pn=[(ea,oe)]/\vs=[.ref ea]/\ExAt K fd ea C oe H/\kitF K C isx 0 tab/\Same F H/\m ea isx [.exn ea]=some (.val d)/\∀v F' H',Ext F H F' H'->Rp K F' d v->Q v H'
structure Ex1 (P:Program)(w:World)(K:PySem.W.Frag)(mg:Str->Option Value)(base:Heap)(fd:Str)(tab:List Value)(x:Str)(k:Nat)(m:Addr->(Nat->Bool)->List En->Option En):Prop where
 ex:∃f f0 ps,FnE P w K mg base k f f0 ps (eSp ⟨K,w⟩ fd tab m)/\mg x=some (.ref f)/\keepIn K (.ref f)=true/\Binds K f0 ps []
section
variable {P:Program}{w:World}{K:PySem.W.Frag}{mg:Str->Option Value}{base:Heap}
end
section
variable {X:Cx}{B:Bs}{C ea M2:Addr}{oe:Obj}{fd n x:Str}{i:Nat}{p2 p3 pI pC:Pos}{b:Bool}{T:String}
end
section
variable {X:Cx}{C:Addr}{fd n x:Str}{k kk:Nat}{p p2 pos:Pos}{tab:List Value}{m:Addr->(Nat->Bool)->List En->Option En}{isx:Nat->Bool}
end
section
variable {X:Cx}{B:Bs}{ca:Str->Addr}{fd:Str}{E:St->XK}{pos cpos:Pos}{a b c:Expr}{sa sb rest:List Stmt}{op:CmpOp}{g:EnvD->Option Xv}
end
inductive SuV (X:Cx) (C:Addr) (ie:Option Nat) (fd:Str):List Stmt->List (Nat×Jt)->Prop
 |nil:SuV X C ie fd [] []
 |cons {fx:Str} {e:Expr} {f:Jt} {i:Nat} {pF epos:Pos} {rest:List Stmt} {l:List (Nat×Jt)} (h:JtOk X C ie fd e f) (hi:X.N[i]?=some fx) (hiL:Loc X.env.scope fx) (hif:X.fn fx=true∨X.env.scope.names.lookup fx=some .local)
   (hs:swapsWith e (some (.Name fx pF)) epos.line X.env=pure false) (hr:SuV X C ie fd rest l):SuV X C ie fd (.Assign [.Name fx pF] e epos::rest) ((i,f)::l)
def tSu (K:KW)(ie:Option Nat)(ea:Addr)(dd:Option Addr)(fd:Str):List (Nat×Jt)->TS
 | []=>λD σ H=>D.nx σ H
 | (i,f)::l=>λD σ H=>lCJ K ie ea dd fd f σ H λv H1=>tSu K ie ea dd fd l D (σ.set i (some v)) H1
section
variable {X:Cx}{B:Bs}{C:Addr}{ie:Option Nat}{ca:Str->Addr}{fd:Str}
theorem u7 (hN:X.N.Nodup):∀ {suite:List Stmt} {l:List (Nat×Jt)},SuV X C ie fd suite l->∀ea oe dd,oe.cls=.ref C->oe.dict=dd->(∃fs,oe.data=.fields fs)->PSs (cxE X ea [(ea,oe)]) suite (tSu X.kw ie ea dd fd l)
 |_,_,.nil,_,_,_,_,_,_=>y7 Yx λ_ _ _ q=>q
 |_,_,.cons h hi hiL hif hs hr,ea,oe,dd,h1,h2,h3=>y7 (y9 (vC (X:=cxE X ea [(ea,oe)]) hN hi hiL (h ea oe dd h1 h2 h3) hs hif) (u7 hN hr ea oe dd h1 h2 h3)) λ_ _ _ q=>q
def suD (q:Option D)(ie:Option Nat):List (Nat×Jt)->EnvD->Option EnvD
 | [],Z=>some Z
 | (i,f)::l,Z=>if ie≠some i then (f q).bind λd=>suD q ie l (Z.set i (some (.val d))) else none
theorem uT {K:KW}{ea:Addr}{dd:Option Addr}{q:Option D}{D:Ends}:∀ {l:List (Nat×Jt)} {Z Z':EnvD} {σ:St} {F H:Hp},Rep K B F σ H Z->hasE ie ea σ->Pd K F H fd dd q->suD q ie l Z=some Z' ->
  (∀σ2 F2 H2,Rep K B F2 σ2 H2 Z'->Same F F2->D.nx σ2 H2)->tSu K ie ea dd fd l D σ H
 | [],Z,Z',σ,F,H,r,_,_,hs,k=>by cases hs;exact k σ F H r (Same.refl _)
 | (i,f)::l,Z,Z',σ,F,H,r,hh,pd,hs,k=>by
  unfold suD at hs
  split at hs
  ·rename_i hne
   cases q1:f q with
   |none=>rw[q1] at hs;cases hs
   |some d=>
    rw[q1,Option.bind_some] at hs
    refine⟨hh,F,q,d,r.fh,pd,q1,λv F1 H1 e1 p1=>uT ((r.ext e1).setv p1) ?_ (pd.ext e1) hs λσ2 F2 H2 r2 s2=>k σ2 F2 H2 r2 (e1.ff.trans s2)⟩
    cases ie with
    |none=>trivial
    |some kk=>
     show (σ.set i (some v))[kk]?=some (some (.ref ea))
     rw[List.getElem?_set_ne (λz=>hne (by rw[z]))]
     exact hh
  ·cases hs
theorem Yo {q:Option D}{k:Nat}:∀ {l:List (Nat×Jt)} {Z Z':EnvD},suD q (some k) l Z=some Z'->Z'[k]?=Z[k]?
 | [],Z,Z',hs=>by cases hs;rfl
 | (i,f)::l,Z,Z',hs=>by
  unfold suD at hs
  split at hs
  ·rename_i hne
   cases q1:f q with
   |none=>rw[q1] at hs;cases hs
   |some d=>
    rw[q1,Option.bind_some] at hs
    rw[Yo hs,List.getElem?_set_ne (λz=>hne (by rw[z]))]
  ·cases hs
theorem K4 {K:KW}{F:Hp}{σ:St}{H:Hp}{Z:EnvD}{i:Nat}{u:Option V}(r:Rep K B F σ H Z)(h:∀x,Z[i]?≠some (some x)):Rep K B F (σ.set i u) H Z:=by
 have ne:∀ {j:Nat} {x:En},Z[j]?=some (some x)->j≠i:=fun {j x} e z=>by subst z;exact h x e
 refine⟨r.ex,by simp[r.len],λj x e=>?_,λj l y z v w e1 e2 s1 s2 hne=>?_⟩
 ·obtain⟨v,h1,h2⟩:=r.ents j x e
  exact⟨v,by rw[List.getElem?_set_ne (Ne.symm (ne e))];exact h1,h2⟩
 ·rw[List.getElem?_set_ne (Ne.symm (ne e1))] at s1
  rw[List.getElem?_set_ne (Ne.symm (ne e2))] at s2
  exact r.dj j l y z v w e1 e2 s1 s2 hne
end
structure ClV where
 ie:Option Nat
 its:List (Str×List (Nat×Jt))
def pickV:List ClV->Str->Option (Option Nat×List (Nat×Jt))
 | [],_=>none
 |c::r,nm=>match c.its.lookup nm with
  |some l=>some (c.ie,l)
  |none=>pickV r nm
theorem uX {nm:Str}{c:Option Nat×List (Nat×Jt)}:∀ {cls:List ClV},pickV cls nm=some c->∃d∈cls,d.ie=c.1/\(nm,c.2)∈d.its
 | [],h=>by cases h
 |d::r,h=>by
  unfold pickV at h
  split at h
  ·rename_i l q
   cases h
   exact⟨d,.head _,rfl,wg q⟩
  ·obtain⟨d',h1,h2⟩:=uX h
   exact⟨d',.tail _ h1,h2⟩
inductive CvOk (X:Cx) (ca:Str->Addr) (fd:Str):List ExceptHandler->List ClV->Prop
 |nil:CvOk X ca fd [] []
 |as {xM n:Str} {MC:Addr} {ie:Nat} {its:List (Str×List (Nat×Jt))} {b0:Stmt} {suite:List Stmt} {rest:List ExceptHandler} {cls:List ClV} {pM hpos:Pos} (hg:Gl X xM) (hm:X.mg xM=some (.ref MC)) (hdb:(xM==("__debug__" : Str))=false)
   (hie:X.N[ie]?=some n) (hl:X.env.scope.names.lookup n=some .local) (hit:∀q∈its,SuV X (ca q.1) (some ie) fd (b0::suite) q.2) (hx:∀q∈its,XM X.K (ca q.1) MC) (hn:∀c∈cls,∀q∈c.its,XN X.K (ca q.1) MC) (hr:CvOk X ca fd rest cls) :
   CvOk X ca fd (.ExceptHandler (some (.Name xM pM)) (some n) (b0::suite) hpos::rest) (⟨some ie,its⟩::cls)
 |no {xM:Str} {MC:Addr} {its:List (Str×List (Nat×Jt))} {b0:Stmt} {suite:List Stmt} {rest:List ExceptHandler} {cls:List ClV} {pM hpos:Pos} (hg:Gl X xM) (hm:X.mg xM=some (.ref MC)) (hdb:(xM==("__debug__" : Str))=false)
   (hit:∀q∈its,SuV X (ca q.1) none fd (b0::suite) q.2) (hx:∀q∈its,XM X.K (ca q.1) MC) (hn:∀c∈cls,∀q∈c.its,XN X.K (ca q.1) MC) (hr:CvOk X ca fd rest cls) :
   CvOk X ca fd (.ExceptHandler (some (.Name xM pM)) none (b0::suite) hpos::rest) (⟨none,its⟩::cls)
def vWish (K:KW)(fd:Str)(c:Option Nat×List (Nat×Jt))(D:Ends)(σ':St)(dd:Option Addr)(H':Hp):Prop:=∀ea,H' ea=none->match c.1 with
 |some k=>tSu K (some k) ea dd fd c.2 { nx:=λσ2 H2=>D.nx (σ2.set k none) H2,rt:=λ_ _=>False } (σ'.set k (some (.ref ea))) H'
 |none=>tSu K none ea dd fd c.2 { nx:=D.nx,rt:=λ_ _=>False } σ' H'
section
variable {X:Cx}{B:Bs}{ca:Str->Addr}{fd:Str}
theorem Ya (hN:X.N.Nodup):∀ {hs:List ExceptHandler} {cls:List ClV},CvOk X ca fd hs cls->∃hds,HsOk X hs hds/\∀ {nm:Str} {c:Option Nat×List (Nat×Jt)} {D:Ends} {σ':St} {dd:Option Addr} {H':Hp},pickV cls nm=some c->vWish X.kw fd c D σ' dd H'->hWish X.K hds D σ' (.ref (ca nm)) dd H'
 |_,_,.nil=>⟨[],.nil,λh=>by cases h⟩
 |_,_,@CvOk.as _ _ _ xM n MC ie its b0 suite rest cls pM hpos hg hm hdb hie hl hit hx hn hr=>by
  obtain⟨hds,h1,h2⟩:=Ya hN hr
  refine⟨⟨MC,some ie,λea C dd D σ H=>∃q∈its,C=ca q.1/\tSu X.kw (some ie) ea dd fd q.2 D σ H⟩::hds,.as hg hm hdb hie hl (λea oe C dd hc hd hf=>?_) h1,fun {nm c D σ' dd H'} hp hw=>?_⟩
  ·intro pins s σ H D I ⟨q,hq,hC,h⟩
   subst hC
   exact u7 hN (hit q hq) ea oe dd hc hd hf pins s σ H D I h
  ·refine⟨ca nm,rfl,?_⟩
   unfold pickV at hp
   split at hp
   ·rename_i l q
    cases hp
    exact .inl ⟨hx (nm,l) (wg q),λea hea=>⟨(nm,l),wg q,rfl,hw ea hea⟩⟩
   ·obtain⟨d,e1,e2,e3⟩:=uX hp
    exact .inr ⟨hn d e1 (nm,c.2) e3,h2 hp hw⟩
 |_,_,@CvOk.no _ _ _ xM MC its b0 suite rest cls pM hpos hg hm hdb hit hx hn hr=>by
  obtain⟨hds,h1,h2⟩:=Ya hN hr
  refine⟨⟨MC,none,λea C dd D σ H=>∃q∈its,C=ca q.1/\tSu X.kw none ea dd fd q.2 D σ H⟩::hds,.no hg hm hdb (λea oe C dd hc hd hf=>?_) h1,fun {nm c D σ' dd H'} hp hw=>?_⟩
  ·intro pins s σ H D I ⟨q,hq,hC,h⟩
   subst hC
   exact u7 hN (hit q hq) ea oe dd hc hd hf pins s σ H D I h
  ·refine⟨ca nm,rfl,?_⟩
   unfold pickV at hp
   split at hp
   ·rename_i l q
    cases hp
    exact .inl ⟨hx (nm,l) (wg q),λea hea=>⟨(nm,l),wg q,rfl,hw ea hea⟩⟩
   ·obtain⟨d,e1,e2,e3⟩:=uX hp
    exact .inr ⟨hn d e1 (nm,c.2) e3,h2 hp hw⟩
def okV (ie:Option Nat)(Z:EnvD):Bool:=match ie with
 |none=>true
 |some k=>unset (Z[k]?)
def sTryV (cls:List ClV)(gs:SD)(gx:EnvD->Option (EnvD×Xv)):SD:=λZ=>match gs Z with
 |some fl=>some fl
 |none=>(gx Z).bind λq=>(pickV cls q.2.1).bind λc=>if okV c.1 q.1=true then (suD q.2.2 c.1 c.2 q.1).map .next else none
variable {gs:SD}{gx:EnvD->Option (EnvD×Xv)}{body:List Stmt}{h0:ExceptHandler}{hs:List ExceptHandler}{cls:List ClV}{pos:Pos}
theorem UJ (h1:DSs X.nox B body gs)(h2:∀pn (E:St->XK),DVs (cxT X pn (WX X pn E)) B ca fd E body gx)(hN:X.N.Nodup)(hstk:X.stack=X.env::X.outer/\X.env.frame=some X.env.locals)(hc:CvOk X ca fd (h0::hs) cls) :
  DS X B (.Try body (h0::hs) [] [] pos) (sTryV cls gs gx):=by
 obtain⟨hds,hh,hw⟩:=Ya hN hc
 refine zC (Kt (t1:=lS X.kw B gs) (t2:=λE _ σ H=>lVs X.kw B ca fd E gx σ H) h1 h2 hN hstk hh) λD σ H h=>?_
 obtain⟨F,Z,fl,r,hgg,k⟩:=h
 unfold sTryV at hgg
 cases q1:gs Z with
 |some f1=>
  rw[q1] at hgg
  have hgg:some f1=some fl:=hgg
  cases hgg
  exact .inl ⟨F,Z,fl,r,q1,k⟩
 |none=>
  rw[q1] at hgg
  replace hgg:((gx Z).bind λq=>(pickV cls q.2.1).bind λc=>if okV c.1 q.1=true then (suD q.2.2 c.1 c.2 q.1).map Fl.next else none)=some fl:=hgg
  obtain⟨q,q2,hgg⟩:=Option.bind_eq_some_iff.mp hgg
  obtain⟨c,q3,hgg⟩:=Option.bind_eq_some_iff.mp hgg
  split at hgg
  ·rename_i hok
   cases q4:suD q.2.2 c.1 c.2 q.1 with
   |none=>rw[q4] at hgg;cases hgg
   |some Z'=>
    rw[q4] at hgg
    cases hgg
    refine .inr ⟨F,Z,q,r,q2,λdd σ' F' H' r' s' pd=>hw q3 ?_⟩
    intro ea hea
    obtain⟨ie,fs⟩:=c
    cases ie with
    |none=>exact uT (D:={ nx:=D.nx,rt:=λ_ _=>False }) r' trivial pd q4 λσ2 F2 H2 r2 s2=>k σ2 F2 H2 r2 (s'.trans s2)
    |some kk=>
     have e4:q.1[kk]?=some none:=Gm hok
     have len:kk < σ'.length:=by rw[r'.len];exact (List.getElem?_eq_some_iff.mp e4).1
     have nx:∀x,q.1[kk]?≠some (some x):=λx z=>by rw[e4] at z;cases z
     refine uT (D:={ nx:=λσ2 H2=>D.nx (σ2.set kk none) H2,rt:=λ_ _=>False }) (K4 r' nx) (List.getElem?_set_self len) pd q4 λσ2 F2 H2 r2 s2=>?_
     refine k _ F2 H2 (RK r2 λx z=>?_) (s'.trans s2)
     rw[Yo q4,e4] at z
     cases z
  ·cases hgg
end
section
variable {X:Cx}{pins:List (Addr×Obj)}{σ:St}{H:Hp}{s:Shared}
end
section
variable {X:Cx}{B:Bs}{pos:Pos}
end
section
variable {X:Cx}{B:Bs}{e a:Expr}{x:Str}{p p2 pos apos:Pos}{C M:Addr}{g:EnvD->Option D}
theorem zch {α:Type}{post:Post α}{g1 g2:EnvD->Option α}(h1:PE X e (lG X.kw B post g1))(h2:PE X e (lG X.kw B post g2)):PE X e (lG X.kw B post (yAlt g1 g2)):=λpins s σ H Q I ⟨F,Z,d,r,hg,k⟩=>by
 unfold yAlt at hg
 split at hg
 ·rename_i q hq;cases hg;exact h1 pins s σ H Q I ⟨F,Z,d,r,hq,k⟩
 ·exact h2 pins s σ H Q I ⟨F,Z,d,r,hg,k⟩
theorem wf {g1 g2:EnvD->Option D}(h1:DE X B e g1)(h2:DE X B e g2):DE X B e (yAlt g1 g2):=zch h1 h2
variable {mm:Str}{n k:Nat}{m:List En->Option En}{gxs:EnvD->Option (List En)}{o:Expr}{es:List Expr}
structure IO (K:PySem.W.Frag)(C:Addr):Prop where
 cl:Cls K C
 ha:findIn K (.ref C) "__class__" = some (some (.builtin "object.__class__"))
 hn:PySem.W.specialIn K (.builtin "object.__class__") "__get__" = some (some (.builtin "getset_descriptor.__get__"))
 htk:PySem.W.takesIn K (.builtin "object.__class__")=some true
 hm:PySem.W.mroIn K C (.type "object")=some true
end
structure BO (K:PySem.W.Frag)(V f:Addr):Prop where
 sp:PySem.W.specialIn K (.ref V) "__getattribute__" = some (some (.builtin "type.__getattribute__"))
 rd:PySem.W.readsIn K V (.type "type")=true
 fc:PySem.W.findCls K (.ref V) (.type "type") "__init__" = some (.val (.ref f))
 hn:PySem.W.handedIn (.ref f)=true
 kp:keepIn K (.ref f)=true
def InsOk (H:Hp):Prop:=∀a C dx fs,H a=some (.ins C dx fs)->H dx=some (.own a)/\dx≠a
def tBaseO (sp:Sp)(t:TA):TE:=λσ H Q=>t σ H λvs H1=>InsOk H1->sp vs H1 Q E0
section
variable {X:Cx}{k:Nat}{f V:Addr}{fd:FuncData}{ps:List Str}{sp:Sp}{x:Str}{p pos apos:Pos}{e:Expr}{es:List Expr}{t:TA}
theorem G9 {pl:Sem Bool}(bo:BO X.K V f)(F:FnOk X.prog X.w X.K X.mg X.base CX0 k f fd ps sp)(hr:Room k X.A)(hg:Gl X x)(hm:X.mg x=some (.ref V))(hb:Binds X.K fd ps [])(ha:PA X (e::es) t)
  (hdb:#[8]=false:=by decide +kernel)
  (hst:starEach (e::es) X.env=(false,eval e X.env)::starEach es X.env:=by rfl) (hpl:#[11].any (·.1)=false:=by rfl)
  (ht:eval (.Call (.Attribute (.Name x p) "__init__" apos) (e::es) [] pos) X.env=(do
   let ov <-eval (.Name x p) X.env
   standAt apos.atName
   let (f,first) <-holding [ov] (getMethod ov "__init__" pl)
   callWith pos f first (backTo pos (starEach (e::es) X.env)) (backToKw pos (keywordEach [] X.env))):=by rfl) :
  PE X (.Call (.Attribute (.Name x p) "__init__" apos) (e::es) [] pos) (tBaseO sp t):=by
 intro pins s σ H Q I h
 refine PySem.W.methodCall_KW (pl:=pl) (yr I hg hm ?_ hdb) ht
 refine PySem.W.method_cls I.kIn bo.sp (PySem.W.cls_value I.kIn bo.rd bo.fc bo.hn ?_)
 have I0:=I.tok (s.toks+1)
 refine PySem.W.callWith_K (h₀:=X.base) (first:=[]) I.ok.mod.kin bo.kp (thn (ha pos pins _ σ H _ I0 h) λus s1 ⟨vs,H1,I1,r1,q1⟩=>⟨I1.kIn,?_⟩) hst hpl
 have io:InsOk H1:=λa C dx fs ea=>by
  obtain⟨h1,_,h2,_⟩:=(show ObjOk X.prog X.w H1 s1.heap a (.ins C dx fs) from I1.hok a _ ea)
  exact⟨h1,h2⟩
 have q:=q1 io
 exact kt (dvs:=[]) (E:=E0) F hr hb .nil pass0 I1 r1 (by rw[List.append_nil];exact q)
end
def cutO (H:Hp)(a dx:Addr):Hp:=λb=>if b=a∨b=dx then none else H b
theorem ww {H:Hp}{a dx b:Addr}(h1:b≠a)(h2:b≠dx):cutO H a dx b=H b:=by unfold cutO;rw[if_neg (by intro z;rcases z with z | z;exact h1 z;exact h2 z)]
theorem KH {H:Hp}{a dx C:Addr}{fs:List (Str×V)}(h1:H a=some (.ins C dx fs))(h2:H dx=some (.own a))(h3:dx≠a):upd (upd (cutO H a dx) dx (.own a)) a (.ins C dx fs)=H:=by
 funext b
 by_cases ha:b=a
 ·subst ha;rw[zr,h1]
 ·rw[zh ha]
  by_cases hd:b=dx
  ·subst hd;rw[zr,h2]
  ·rw[zh hd,ww ha hd]
section
variable {K:KW}{B:Bs}{F H:Hp}{a dx C:Addr}{fs0:List (Str×V)}
theorem vz {b:Addr}{o:HO}(h1:H a=some (.ins C dx fs0))(h2:H dx=some (.own a))(h:H b=some o)(n1:∀C dx fs,o≠.ins C dx fs)(n2:∀x,o≠.own x):cutO H a dx b=some o:=by
 rw[ww (jj h h1 (n1 _ _ _)) (jj h h2 (n2 _))];exact h
mutual
theorem RepO.cut (h1:H a=some (.ins C dx fs0))(h2:H dx=some (.own a)):∀ {t:OT} {v:V},RepO K F H t v->RepO K F (cutO H a dx) t v/\feetO (cutO H a dx) t v=feetO H t v
 |.frz _,_,r=>⟨r,rfl⟩
 |.lst ts,_,⟨b,vs,e,q,r⟩=>by
  subst e
  have q':cutO H a dx b=some (.lst vs):=vz h1 h2 q (by intro _ _ _ z;cases z) (by intro _ z;cases z)
  obtain⟨r1,r2⟩:=RepOs.cut h1 h2 r
  exact⟨⟨b,vs,rfl,q',r1⟩,by simp only[feetO,ym q,ym q',r2]⟩
 |.tup ts,_,⟨b,vs,e,q,r⟩=>by
  subst e
  have q':cutO H a dx b=some (.tup vs):=vz h1 h2 q (by intro _ _ _ z;cases z) (by intro _ z;cases z)
  obtain⟨r1,r2⟩:=RepOs.cut h1 h2 r
  exact⟨⟨b,vs,rfl,q',r1⟩,by simp only[feetO,yv q,yv q',r2]⟩
theorem RepOs.cut (h1:H a=some (.ins C dx fs0))(h2:H dx=some (.own a)):∀ {ts:List OT} {vs:List V},RepOs K F H ts vs->RepOs K F (cutO H a dx) ts vs/\feetOs (cutO H a dx) ts vs=feetOs H ts vs
 | [],_,r=>⟨r,rfl⟩
 |t::ts,_,⟨v,r,e,g1,g2⟩=>by
  subst e
  obtain⟨a1,a2⟩:=RepO.cut h1 h2 g1
  obtain⟨b1,b2⟩:=RepOs.cut h1 h2 g2
  exact⟨⟨v,r,rfl,a1,b1⟩,by simp only[feetOs,a2,b2]⟩
end
theorem RepE.cut {x:En}{v:V}(h1:H a=some (.ins C dx fs0))(h2:H dx=some (.own a))(r:RepE K B F H x v)(hn:a∉feetE H x v):RepE K B F (cutO H a dx) x v/\feetE (cutO H a dx) x v=feetE H x v:=by
 cases x with
 |val d=>exact⟨r,rfl⟩
 |bor ds=>exact⟨r,rfl⟩
 |acc ds=>
  obtain⟨b,vs,rfl,q2,q3,q4,q5⟩:=r
  exact⟨⟨b,vs,rfl,vz h1 h2 q2 (by intro _ _ _ z;cases z) (by intro _ z;cases z),q3,q4,q5⟩,rfl⟩
 |oac b dx' C' fs ds=>
  obtain⟨vs,rfl,q2,ql,q3,q4,q5,d1,d2,d3⟩:=r
  have hb:b≠a:=λz=>hn (by simp[feetE,z])
  have hb2:b≠dx:=jj q2 h2 (by intro z;cases z)
  have hd:dx'≠a:=jj d1 h1 (by intro z;cases z)
  have hd2:dx'≠dx:=λz=>by rw[z,h2] at d1;cases d1;exact hb rfl
  exact⟨⟨vs,rfl,by rw[ww hb hb2];exact q2,ql,q3,q4,q5,by rw[ww hd hd2];exact d1,d2,d3⟩,rfl⟩
 |tre t=>
  obtain⟨r1,r2,r3⟩:=r
  obtain⟨s1,s2⟩:=RepO.cut h1 h2 r1
  exact⟨⟨s1,by rw[s2];exact r2,λb hb=>r3 b (by rw[s2] at hb;exact hb)⟩,s2⟩
 |dct oa kvs=>
  obtain⟨b,ob,vs,rfl,q2,q3,q4,q5⟩:=r
  exact⟨⟨b,ob,vs,rfl,vz h1 h2 q2 (by intro _ _ _ z;cases z) (by intro _ z;cases z),q3,q4,q5⟩,rfl⟩
 |dbo kvs=>exact⟨r,rfl⟩
 |exn a=>exact⟨r,rfl⟩
theorem ArgE.cut {x:En}{v:V}(h1:H a=some (.ins C dx fs0))(h2:H dx=some (.own a))(r:ArgE K F H x v):ArgE K F (cutO H a dx) x v:=by
 cases x with
 |val d=>exact r
 |bor ds=>
  obtain⟨b,vs,e1,e2,e3⟩:=r
  exact⟨b,vs,e1,vz h1 h2 e2 (by intro _ _ _ z;cases z) (by intro _ z;cases z),e3⟩
 |dbo kvs=>
  obtain⟨b,ob,vs,e1,e2,e3⟩:=r
  exact⟨b,ob,vs,e1,vz h1 h2 e2 (by intro _ _ _ z;cases z) (by intro _ z;cases z),e3⟩
 |exn b=>exact r
 |acc ds=>exact r
 |oac _ _ _ _ _=>exact r
 |tre t=>exact r
 |dct oa kvs=>exact r
theorem Rep.fill {σ:St}{Z:EnvD}{i:Nat}{F' H':Hp}{fs:List Str}{ds:List D}{us:List V}(r:Rep K B F σ H Z)(hi:Z[i]?=some (some (.oac a dx C [] [])))(e:Ext F (cutO H a dx) F' H')(f1:F' a=none)(g1:H' a=some (.ins C dx (fs.zip us)))(g2:fs.length=us.length)(g3:Rps K F' ds us)(g4:H' dx=some (.own a))(g5:F' dx=none) :
  Rep K B F' σ H' (Z.set i (some (.oac a dx C fs ds))):=by
 obtain⟨v0,s0,vs0,rfl,e1,_,e3,e4,_,d1,d2,d3⟩:=r.ents i _ hi
 have h1:H a=some (.ins C dx []):=by simpa using e1
 have oth:∀ {j:Nat} {z:En} {w:V},Z[j]?=some (some z)->σ[j]?=some (some w)->j≠i->RepE K B F' H' z w/\feetE H' z w=feetE H z w:=fun {j z w} hj s hne=>by
  obtain⟨w',hw',rz⟩:=r.ents j z hj
  rw[s] at hw';cases hw'
  obtain⟨c1,c2⟩:=rz.cut h1 d1 (λhz=>r.dj i j _ z _ w hi hj s0 s (Ne.symm hne) a (by simp[feetE]) hz)
  exact⟨c1.ext e,by rw[c1.feet_ext e.hh,c2]⟩
 refine⟨⟨r.ex.ff.trans e.ff,λb u q=>?_,e.fh,λb q=>?_⟩,by simp[r.len],λj z q=>?_,λj k z w u t q1 q2 s1 s2 hne b hb hc=>?_⟩
 ·exact e.hh b u (by rw[ww (z8 q e4) (z8 q d3)];exact r.ex.hh b u q)
 ·rcases e.nw b q with z | z
  ·exact r.ex.nw b z
  ·unfold cutO at z
   split at z
   ·rename_i w
    rcases w with rfl | rfl
    ·exact .inr e4
    ·exact .inr d3
   ·exact .inr (r.ex.hh.free z)
 ·rcases yc q with⟨rfl,q1,_⟩ | ⟨hj,q⟩
  ·cases q1
   exact⟨.ref a,s0,us,rfl,g1,g2,f1,e4,g3,g4,g5,d3⟩
  ·obtain⟨w,w1,_⟩:=r.ents j z q
   exact⟨w,w1,(oth q w1 hj).1⟩
 ·have fi:∀ {y:En} {v:V},y=.oac a dx C fs ds->v=.ref a->∀b∈feetE H' y v,b=a:=fun {y v} hy hv b hb=>by subst hy hv;simpa[feetE] using hb
  rcases yc q1 with⟨rfl,p1,_⟩ | ⟨hj,f1'⟩<;>rcases yc q2 with⟨rfl,p2,_⟩ | ⟨hk,f2'⟩
  ·exact hne rfl
  ·cases p1
   rw[s0] at s1;cases s1
   obtain rfl:=fi rfl rfl b hb
   rw[(oth f2' s2 hk).2] at hc
   exact r.dj _ k _ w _ t hi f2' s0 s2 hne b (by simp[feetE]) hc
  ·cases p2
   rw[s0] at s2;cases s2
   obtain rfl:=fi rfl rfl b hc
   rw[(oth f1' s1 hj).2] at hb
   exact r.dj j _ z _ u _ f1' hi s1 s0 hne b hb (by simp[feetE])
  ·rw[(oth f1' s1 hj).2] at hb
   rw[(oth f2' s2 hk).2] at hc
   exact r.dj j k z w u t f1' f2' s1 s2 hne b hb hc
end
def sBase (i:Nat)(C:Addr)(n:Nat)(mi:Addr->Addr->List En->Option (List Str×List D))(gs:EnvD->Option (List En)):SD:=λZ=>match Z[i]? with
 |some (some (.oac a dx C' [] []))=>if C'=C then (gs Z).bind λxs=>if xs.length=n then (mi a dx xs).map λr=>.next (Z.set i (some (.oac a dx C r.1 r.2))) else none else none
 |_=>none
section
variable {X:Cx}{B:Bs}{k n:Nat}{f V C:Addr}{fd:FuncData}{ps:List Str}{x y:Str}{p p2 pos apos cpos:Pos}{es:List Expr}{gs:EnvD->Option (List En)}{mi:Addr->Addr->List En->Option (List Str×List D)}
theorem ze4 {pl:Sem Bool}(i:Nat)(bo:BO X.K V f)(F:FnOk X.prog X.w X.kw X.mg X.base CX0 k f fd ps (iSp X.kw C n mi))(hr:Room k X.A)(hg:Gl X x)(hm:X.mg x=some (.ref V))(hb:Binds X.kw fd ps [])(hv:PE X (.Name y p2) (tVar i))(ha:DNs X B es gs)
  (hdb:#[8]=false:=by decide +kernel)
  (hst:starEach (.Name y p2::es) X.env=(false,eval (.Name y p2) X.env)::starEach es X.env:=by rfl) (hpl:(backTo cpos (starEach es X.env)).any (·.1)=false:=by rfl)
  (ht:eval (.Call (.Attribute (.Name x p) "__init__" apos) (.Name y p2::es) [] cpos) X.env=(do
   let ov <-eval (.Name x p) X.env
   standAt apos.atName
   let (f,first) <-holding [ov] (getMethod ov "__init__" pl)
   callWith cpos f first (backTo cpos (starEach (.Name y p2::es) X.env)) (backToKw cpos (keywordEach [] X.env))):=by rfl)
  (hs:swapsWith (.Call (.Attribute (.Name x p) "__init__" apos) (.Name y p2::es) [] cpos) none pos.line X.env=pure false:=by rfl) :
  DS X B (.Expr (.Call (.Attribute (.Name x p) "__init__" apos) (.Name y p2::es) [] cpos) pos) (sBase i C n mi gs) :=
 zC (xC (G9 bo F hr hg hm hb (zO hv ha hst) hdb hst hpl ht) hs) λD σ H ⟨F0,Z,fl,r,hgq,kk⟩=>by
  unfold sBase at hgq
  split at hgq
  ·rename_i a dx C' q
   split at hgq
   ·rename_i hc
    subst hc
    cases q1:gs Z with
    |none=>rw[q1] at hgq;cases hgq
    |some xs=>
     rw[q1,Option.bind_some] at hgq
     split at hgq
     ·rename_i hl
      cases q2:mi a dx xs with
      |none=>rw[q2] at hgq;cases hgq
      |some fr=>
       rw[q2] at hgq
       cases hgq
       obtain⟨v0,s0,_,hv0,_⟩:=r.ents i _ q
       subst hv0
       refine⟨.ref a,s0,F0,Z,xs,r,q1,λvs F1 H1 e1 p1 io=>?_⟩
       have r1:=r.ext e1
       obtain⟨v1,s1,vs0,hv1,g1,_,g3,g4,_,d1,d2,d3⟩:=r1.ents i _ q
       have h1:H1 a=some (.ins C' dx []):=by simpa using g1
       have nex:dx≠a:=(io a C' dx [] h1).2
       refine⟨F1,cutO H1 a dx,xs,a,dx,vs,fr.1,fr.2,rfl,by unfold cutO;rw[if_pos (.inl rfl)],by unfold cutO;rw[if_pos (.inr rfl)],nex,(KH h1 d1 nex).symm,λb o hb=>?_,hl,Paired.mapP p1 λ_ _ h=>ArgE.cut h1 d1 h,q2,λF' H' us e f1 g1' g2' g3' gd=>?_⟩
       ·rw[ww (z8 hb g3) (z8 hb d2)];exact e1.fh b o hb
       ·exact kk σ F' H' (r1.fill q e f1 g1' g2' g3' gd.1 gd.2) (e1.ff.trans e.ff)
     ·cases hgq
   ·cases hgq
  ·cases hgq
structure Bo (P:Program)(w:World)(K:PySem.W.Frag)(mg:Str->Option Value)(base:Heap)(V C:Addr)(k n:Nat)(mi:Addr->Addr->List En->Option (List Str×List D)):Prop where
 ex:∃f f0 ps,BO K V f/\FnOk P w K mg base CX0 k f f0 ps (iSp ⟨K,w⟩ C n mi)/\Binds K f0 ps []
theorem zf2 {pl:Sem Bool}(i:Nat)(h:Bo X.prog X.w X.kw X.mg X.base V C k n mi)(hr:Room k X.A)(hg:Gl X x)(hm:X.mg x=some (.ref V))(hv:PE X (.Name y p2) (tVar i))(ha:DNs X B es gs)
  (hdb:#[8]=false:=by decide +kernel)
  (hst:starEach (.Name y p2::es) X.env=(false,eval (.Name y p2) X.env)::starEach es X.env:=by rfl) (hpl:(backTo cpos (starEach es X.env)).any (·.1)=false:=by rfl)
  (ht:eval (.Call (.Attribute (.Name x p) "__init__" apos) (.Name y p2::es) [] cpos) X.env=(do
   let ov <-eval (.Name x p) X.env
   standAt apos.atName
   let (f,first) <-holding [ov] (getMethod ov "__init__" pl)
   callWith cpos f first (backTo cpos (starEach (.Name y p2::es) X.env)) (backToKw cpos (keywordEach [] X.env))):=by rfl)
  (hs:swapsWith (.Call (.Attribute (.Name x p) "__init__" apos) (.Name y p2::es) [] cpos) none pos.line X.env=pure false:=by rfl) :
  DS X B (.Expr (.Call (.Attribute (.Name x p) "__init__" apos) (.Name y p2::es) [] cpos) pos) (sBase i C n mi gs):=by
 obtain⟨f,f0,ps,bo,F,hb⟩:=h.ex
 exact ze4 i bo F hr hg hm hb hv ha hdb hst hpl ht hs
end
end Dv
namespace L4
open PySem PySem.Spec L2 L3
open PyProof.Rows hiding St
def tXDisp (w:World)(trs:List (TE×TE)):TE:=λσ H Q=>∀p,H p=none->tPairs trs σ (upd H p (.dK [])) λps H2=>H2 p=some (.dK [])/\∃kvs:List (Key×V),ps=kvs.map (λkv=>(kV kv.1,kv.2))/\kvs.length<=15/\∀ob,Q (.ref p) (upd H2 p (DX w p ob (mergeK [] kvs)))
theorem zd4 {X:Cx}{pos:Pos}{keys:List (Option Expr)}{values:List Expr}{trs:List (TE×TE)}(h:PPs X pos keys values trs)(hall:keys.all (·.isSome)=true)(hl:keys.length=values.length)(h0:keys≠[])
  (h15:keys.length<=15):PE X (.Dict keys values pos) (tXDisp X.w trs):=by
 intro pins s σ H Q I q
 have hn:=I.hok.fresh (Nat.le_refl s.heap.objs.size)
 have I1:=I.laid (a:=s.heap.objs.size) (o:=.dK []) (h':=s.heap.push { cls:=.type "dict",data:=.dict #[] }) (t':=s.toks) (λ_ _ q=>Heap.get?_push_of_some _ q) (Nat.le_refl _) (zd7 s.heap I.big)
 refine wpAny_Dict_walk (knd:=zJ X.prog X.w) hall hl h0 h15 (thn (h pins _ σ _ _ I1 (q _ hn)) λws s2 ⟨ps,H2,I2,rel,e,kvs,ep,lk,q2⟩=>?_)
 subst ep
 obtain⟨rs,c,rk⟩:=Y6 (P:=X.prog) (w:=X.w) rel
 obtain⟨z,hd,vs0,r0,dd⟩:=KN I2.hok e
 cases r0
 refine⟨rs,c,dd,λh' dd' hs=>?_⟩
 have hz:(mergeK [] kvs).length<=sizeLine:=by
  have h1:=QC kvs []
  rw[List.length_nil] at h1
  rw[sizeLine_eq];omega
 obtain⟨ob,ho,new⟩:=vS (P:=X.prog) (w:=X.w) hz hd (rk.merge .nil) dd'
 exact⟨.ref s.heap.objs.size,_,Zi I2 (by rw[e];exact True.intro) hs ⟨ob,ho⟩ (new _),rfl,q2 ob⟩
end L4
namespace Dv
open PySem PySem.Spec L2 L3 L4 L6
open PyProof.Rows hiding St
section
variable {X:Cx}{B:Bs}{e:Expr}{pos p1 p2:Pos}{k:Str}{v:Int}{gk:EnvD->Option (List (Key×D))}
def gLit1 (k:Str)(v:Int):EnvD->Option (List (Key×D)):=λ_=>some [(.inr k,.int v)]
@[simp]theorem zgp {Z:EnvD}:gLit1 k v Z=some [(.inr k,.int v)]:=rfl
theorem U3 {j1 j2}:DD X B (.Dict [some (.Constant (.str k) j1 p1)] [.Constant (.int v) j2 p2] pos) (gLit1 k v) :=
 zo (zd4 (zfp ZT WK zbu) rfl rfl (by simp) (by simp)) λσ H Q ⟨F,Z,d,r,hg,kk⟩=>by
  cases hg
  intro p hp
  refine⟨zr,[(.inr k,.int v)],rfl,by simp,λob=>?_⟩
  rw[kl]
  exact kk _ F _ (.new r.fh hp) ⟨p,ob,[(.inr k,.int v)],rfl,hp,zr,r.fh.free hp,.cons ⟨rfl,rfl⟩ .nil⟩
def sBrk:SD:=λZ=>some (.brk Z)
@[simp]theorem zka {Z:EnvD}:sBrk Z=some (.brk Z):=rfl
theorem Rm:DS X B (.Break pos) sBrk:=zC zes λD σ H ⟨F,Z,fl,r,hg,kk⟩=>by
 cases hg
 exact kk σ F H r (Same.refl _)
end
section
variable {X:Cx}{B:Bs}{e a o:Expr}{es:List Expr}{g:EnvD->Option OT}{ks:List Nat}{k:Nat}{pos p apos cpos:Pos}{nm:Str}{id:String}{r:V->List V->Hp->VK->Prop}{f:List D->List D->Option (List D)}{gs:EnvD->Option (List D)}
end
section
variable {X:Cx}{B:Bs}{e:Expr}{g:EnvD->Option D}{pos p2:Pos}
end
end Dv
namespace L4
open PySem PySem.Spec L2 L3
open PyProof.Rows hiding St
section
variable {X:Cx}
theorem zbe:CallR X (.type "dict") (λxs H Q=>∃a ob kvs,xs=[V.ref a]/\H a=some (DX X.w a ob kvs)/\∀p ob',H p=none->Q (.ref p) (upd H p (DX X.w p ob' kvs))):=by
 intro pins s σ H vs us Q I r h
 obtain⟨a,ob,kvs,rfl,hq,q⟩:=h
 obtain⟨u,rfl,ru⟩:=vals1 r
 cases ru
 obtain⟨_,z,hd,vs,rel,_,dd⟩:=yL I hq
 refine kt_call_dict hd dd (by rw[<-rel.length];exact z) λh' dd' hs=>?_
 obtain⟨o',ho',new⟩:=vS (P:=X.prog) (w:=X.w) (kvs:=kvs) z (beq_eq_false_iff_ne.mpr (Ne.symm (Nat.ne_of_lt I.big))) rel dd'
 exact⟨.ref s.heap.objs.size,_,I.laid (a:=s.heap.objs.size) (o:=DX X.w s.heap.objs.size o' kvs) (t':=s.toks) (λb q hq=>(hs.2 b (Nat.ne_of_lt (Heap.lt_size hq))).trans (Heap.get?_push_of_some _ hq)) (Nat.le_refl _) (new _),rfl,q _ o' (I.hok.fresh (Nat.le_refl _))⟩
end
end L4
namespace Dv
open PySem PySem.Spec L2 L3 L4 L6
open PyProof.Rows hiding St
section
variable {X:Cx}{B:Bs}{e:Expr}{pos p:Pos}{gk:EnvD->Option (List (Key×D))}
theorem zfy (hg:Gl X "dict") (hm:X.mg "dict" = none) (h:DK X B e gk) (he:starEach [e] X.env=(false,eval e X.env)::starEach [] X.env:=by rfl):DD X B (.Call (.Name "dict" p) [e] [] pos) gk :=
 zo (uZ zbe hg hm #[6] (zO h yz he) (by decide) (by decide) he rfl) λσ H Q ⟨F,Z,d,r,hg,k⟩=>by
  refine⟨F,Z,d,r,hg,λv F' H' e1 ⟨a,ob,vs,h1,h2,h3⟩=>⟨a,ob,vs,by rw[h1],h2,λp' ob' hn=>?_⟩⟩
  exact k _ F' _ (e1.trans (.new e1.fh hn)) ⟨p',ob',vs,rfl,e1.hh.free hn,zr,e1.fh.free hn,h3⟩
end
def pB (K:KW)(B:Bs):Post En:=λ_ _ F' _ x v=>(∃d,x=.val d/\Rp K F' d v)∨∃ds a vs,x=.bor ds/\v=.ref a/\B.H0 a=some (.lst vs)/\Rps K F' ds vs
section
variable {X:Cx}{B:Bs}{e a b c:Expr}{pos pos':Pos}{x:Str}{i:Nat}{g:EnvD->Option D}{ga gb:EnvD->Option En}{ta:EnvD->Option Bool}
def DBv (X:Cx)(B:Bs)(e:Expr)(g:EnvD->Option En):Prop:=PE X e (lG X.kw B (pB X.kw B) g)
def gvb (i:Nat):EnvD->Option En:=λZ=>match Z[i]? with
 |some (some (.val d))=>some (.val d)
 |some (some (.bor ds))=>some (.bor ds)
 |_=>none
theorem zd8 (i:Nat)(h:PE X (.Name x pos) (tVar i)):DBv X B (.Name x pos) (gvb i) :=
 zo h λσ H Q ⟨F,Z,d,r,hg,k⟩=>by
  unfold gvb at hg
  split at hg
  ·rename_i d' e
   cases hg
   obtain⟨v,h1,h2⟩:=r.ents i _ e
   exact⟨v,h1,k v F H (.refl r.fh) (.inl ⟨_,rfl,h2⟩)⟩
  ·rename_i ds e
   cases hg
   obtain⟨v,h1,a,vs,e1,e2,e5⟩:=r.ents i _ e
   exact⟨v,h1,k v F H (.refl r.fh) (.inr ⟨_,a,vs,rfl,e1,e2,e5⟩)⟩
  ·cases hg
theorem zah (h:DE X B e g):DBv X B e (gVal g):=zo h λσ H Q ⟨F,Z,d,r,hg,k⟩=>by
 unfold gVal at hg
 cases q:g Z with
 |none=>rw[q] at hg;cases hg
 |some d'=>rw[q] at hg;cases hg;exact⟨F,Z,d',r,q,λv F1 H1 e1 p1=>k v F1 H1 e1 (.inl ⟨_,rfl,p1⟩)⟩
def gIfB (t:EnvD->Option Bool)(ga gb:EnvD->Option En):EnvD->Option En:=λZ=>(t Z).bind λx=>if x then ga Z else gb Z
theorem Ul (ht:DT X B c ta)(ha:DBv X B a ga)(hb:DBv X B b gb):DBv X B (.IfExp c a b pos) (gIfB ta ga gb) :=
 zo (QE ht ha hb) λσ H Q ⟨F,Z,d,r,hg,k⟩=>by
  unfold gIfB at hg
  cases q:ta Z with
  |none=>rw[q] at hg;cases hg
  |some x=>
   rw[q] at hg
   refine⟨F,Z,x,r,q,λF1 H1 e1=>?_⟩
   cases x with
   |true=>exact iteT ⟨F1,Z,d,r.ext e1,hg,λv F2 H2 e2 p2=>k v F2 H2 (e1.trans e2) p2⟩
   |false=>exact iteF ⟨F1,Z,d,r.ext e1,hg,λv F2 H2 e2 p2=>k v F2 H2 (e1.trans e2) p2⟩
def sSetB (i:Nat)(g:EnvD->Option En):SD:=λZ=>(g Z).map λx=>.next (Z.set i (some x))
theorem zfv (hN:X.N.Nodup)(hi:X.N[i]?=some x)(hx:Loc X.env.scope x)(he:DBv X B e ga)(hs:swapsWith e (some (.Name x pos')) pos.line X.env=pure false:=by rfl)(hf:X.fn x=true∨X.env.scope.names.lookup x=some .local:=by first | exact .inl rfl | exact .inr rfl | assumption) :
  DS X B (.Assign [.Name x pos'] e pos) (sSetB i ga):=zC (vC hN hi hx he hs hf) λE σ H ⟨F,Z,fl,r,hg,k⟩=>by
 unfold sSetB at hg
 cases q:ga Z with
 |none=>rw[q] at hg;cases hg
 |some y=>
  rw[q] at hg
  cases hg
  refine⟨F,Z,y,r,q,λv F1 H1 e1 p1=>?_⟩
  rcases p1 with⟨d,rfl,p⟩ | ⟨ds,a,vs,rfl,h1,h2,h3⟩
  ·exact k _ F1 H1 ((r.ext e1).setv p) e1.ff
  ·exact k _ F1 H1 ((r.ext e1).seto (x:=.bor ds) ⟨a,vs,h1,h2,h3⟩ λ_ _ _ _ _ _ b hb=>by cases hb) e1.ff
@[simp]theorem zkx {Z:EnvD}:gvb i Z=match Z[i]? with
 |some (some (.val d))=>some (.val d)
 |some (some (.bor ds))=>some (.bor ds)
 |_=>none:=rfl
@[simp]theorem zkl {Z:EnvD}:gIfB ta ga gb Z=(ta Z).bind λx=>if x then ga Z else gb Z:=rfl
@[simp]theorem zib {Z:EnvD}:sSetB i ga Z=(ga Z).map λx=>.next (Z.set i (some x)):=rfl
end
section
variable {X:Cx}{B:Bs}{o:Expr}{apos cpos pos:Pos}{i:Nat}{gp:EnvD->Option (List Nat)}
end
section
variable {K:KW}{B:Bs}{F H:Hp}
end
section
variable {X:Cx}{B:Bs}{e tg ck:Expr}{es:List Expr}{x:Str}{pos p p1 p2:Pos}{g:EnvD->Option OT}{gd:EnvD->Option D}{gs:EnvD->Option (List D)}
end
end Dv
namespace QM
variable {α:Type} [DecidableEq α]
abbrev Tk (α:Type):=α×Int
def PosQ (q:List (Tk α)):Prop:=∀t∈q,1<=t.2
def srv (m:Nat)(q:List (Tk α)):List α:=(q.take m).map (·.1)
def beh (m:Nat)(q:List (Tk α)):List (Tk α):=((q.take m).filter λt=>decide (1 < t.2)).map (λt=>(t.1,t.2 - 1))++q.drop m
theorem Yq {m:Nat}{q:List (Tk α)}(h:PosQ q):PosQ (beh m q):=by
 intro t ht
 unfold beh at ht
 rcases List.mem_append.mp ht with ht | ht
 ·obtain⟨u,hu,rfl⟩:=List.mem_map.mp ht
  have:=(List.mem_filter.mp hu).2
  simp at this
  show 1<=u.2 - 1
  omega
 ·exact h t (List.mem_of_mem_drop ht)
theorem Jx {m:Nat}{q:List (Tk α)}:(beh m q).length<=q.length:=by
 unfold beh
 rw[List.length_append,List.length_map,List.length_drop]
 have:=List.length_filter_le (λt:Tk α=>decide (1 < t.2)) (q.take m)
 rw[List.length_take] at this
 omega
theorem Yw {m:Nat}{q:List (Tk α)}(P:α->Prop)(h:∀t∈q,P t.1):∀t∈beh m q,P t.1:=by
 intro t ht
 unfold beh at ht
 rcases List.mem_append.mp ht with ht | ht
 ·obtain⟨u,hu,rfl⟩:=List.mem_map.mp ht
  exact h u (List.mem_of_mem_take (List.mem_filter.mp hu).1)
 ·exact h t (List.mem_of_mem_drop ht)
def sumQ:List (Tk α)->Nat
 | []=>0
 |t::ts=>t.2.toNat+sumQ ts
theorem Vw (p q:List (Tk α)):sumQ (p++q)=sumQ p+sumQ q:=by
 induction p with
 |nil=>simp[sumQ]
 |cons t ts ih=>simp only[List.cons_append,sumQ,ih];omega
theorem JY:∀(p:List (Tk α)),PosQ p->sumQ ((p.filter λt=>decide (1 < t.2)).map λt=>(t.1,t.2 - 1))+p.length=sumQ p
 | [],_=>rfl
 |t::ts,h=>by
  have ih:=JY ts λu hu=>h u (by simp[hu])
  have h1:1<=t.2:=h t (by simp)
  rw[List.filter_cons]
  by_cases h2:1 < t.2
  ·rw[if_pos (by simpa using h2)]
   simp only[List.map_cons,sumQ,List.length_cons]
   omega
  ·rw[if_neg (by simpa using h2)]
   simp only[sumQ,List.length_cons]
   omega
theorem J4 {m:Nat}{q:List (Tk α)}(h:PosQ q):sumQ (beh m q)+min m q.length=sumQ q:=by
 have e:sumQ q=sumQ (q.take m)+sumQ (q.drop m):=by rw[<-Vw,List.take_append_drop]
 have h1:=JY (q.take m) λt ht=>h t (List.mem_of_mem_take ht)
 rw[List.length_take] at h1
 unfold beh
 rw[Vw]
 omega
theorem zax {n:Nat}{b:Int}(q:List (Tk α))(hl:q.length<=n)(h:∀t∈q,t.2<=b):sumQ q<=n * b.toNat:=by
 have:∀q:List (Tk α),(∀t∈q,t.2<=b)->sumQ q<=q.length * b.toNat:=by
  intro q
  induction q with
  |nil=>intro _;simp[sumQ]
  |cons t ts ih=>
   intro hh
   have h1:=hh t (by simp)
   have h2:=ih λu hu=>hh u (by simp[hu])
   simp only[sumQ,List.length_cons,Nat.succ_mul]
   omega
 exact Nat.le_trans (this q h) (Nat.mul_le_mul_right _ hl)
def walk (f:Int->Int):Int->List (Tk α)->List (Int×List α)->Option (List (Tk α))
 |_,q,[]=>some q
 |due,q,r::rs=>if q=[]∨r.1≠due∨r.2≠srv (f due).toNat q then none else walk f (due+1) (beh (f due).toNat q) rs
end QM
namespace Dv
open PySem PySem.Spec L2 L3 L4 QM
open PyProof.Rows hiding St
def tkD (t:Str×Int):D:=.tup [.str t.1,.int t.2]
def rnD (r:Int×List Str):D:=.tup [.int r.1,.lst (r.2.map D.str)]
abbrev Ok (x:Str):Prop:=PyData.strOk x=true
theorem yD {α:Type}{f:α->D}:∀(l:List α),toPs (l.map f)=l.map λx=>toP (f x)
 | []=>rfl
 |x::l=>by simp[toPs,yD l]
theorem kJ {α:Type} [DecidableEq α]{f:α->PyData}(hf:∀x y,PyData.eqv (f x) (f y)=decide (x=y)):∀(xs ys:List α),PyData.eqvAll (xs.map f) (ys.map f)=decide (xs=ys)
 | [],[]=>rfl
 | [],_::_=>rfl
 |_::_,[]=>rfl
 |x::xs,y::ys=>by
  show (PyData.eqv (f x) (f y)&&PyData.eqvAll (xs.map f) (ys.map f))=_
  rw[hf,kJ hf xs ys]
  by_cases h1:x=y<;>by_cases h2:xs=ys<;>simp[h1,h2]
theorem vm (x y:Str):PyData.eqv (.str x) (.str y)=decide (x=y):=by
 show (x==y)=_
 by_cases h:x=y
 ·subst h;simp
 ·simp[h]
theorem vW (x y:Int):PyData.eqv (.int x) (.int y)=decide (x=y):=by
 show (x==y)=_
 by_cases h:x=y
 ·subst h;simp
 ·simp[h]
theorem KR (xs ys:List Str):PyData.eqv (toP (.lst (xs.map D.str))) (toP (.lst (ys.map D.str)))=decide (xs=ys):=by
 show PyData.eqvAll (toPs (xs.map D.str)) (toPs (ys.map D.str))=_
 rw[yD,yD]
 exact kJ (f:=PyData.str) vm xs ys
theorem zbb (x y:Str×Int):PyData.eqv (toP (tkD x)) (toP (tkD y))=decide (x=y):=by
 show (PyData.eqv (.str x.1) (.str y.1)&&(PyData.eqv (.int x.2) (.int y.2)&&true))=_
 rw[vm,vW]
 obtain⟨a,b⟩:=x
 obtain⟨c,d⟩:=y
 by_cases h1:a=c<;>by_cases h2:b=d<;>simp[h1,h2]
theorem zb4 (xs ys:List (Str×Int)):PyData.eqv (toP (.lst (xs.map tkD))) (toP (.lst (ys.map tkD)))=decide (xs=ys):=by
 show PyData.eqvAll (toPs (xs.map tkD)) (toPs (ys.map tkD))=_
 rw[yD,yD]
 exact kJ (f:=λx=>toP (tkD x)) zbb xs ys
theorem R0 (x y:Int×List Str):PyData.eqv (toP (rnD x)) (toP (rnD y))=decide (x=y):=by
 show (PyData.eqv (.int x.1) (.int y.1)&&(PyData.eqv (toP (.lst (x.2.map D.str))) (toP (.lst (y.2.map D.str)))&&true))=_
 rw[KR,vW]
 obtain⟨a,b⟩:=x
 obtain⟨c,d⟩:=y
 by_cases h1:a=c<;>by_cases h2:b=d<;>simp[h1,h2]
theorem KY (xs ys:List (Int×List Str)):PyData.eqv (toP (.lst (xs.map rnD))) (toP (.lst (ys.map rnD)))=decide (xs=ys):=by
 show PyData.eqvAll (toPs (xs.map rnD)) (toPs (ys.map rnD))=_
 rw[yD,yD]
 exact kJ (f:=λx=>toP (rnD x)) R0 xs ys
theorem VT {α:Type}{f:α->PyData}:∀(xs:List α),(∀x∈xs,PyData.canLay0 (f x)=true)->PyData.canLayAll0 (xs.map f)=true
 | [],_=>rfl
 |x::xs,h=>by
  show (PyData.canLay0 (f x)&&PyData.canLayAll0 (xs.map f))=true
  rw[h x (by simp),VT xs λy hy=>h y (by simp[hy])];rfl
theorem Qm {α:Type}{f:α->PyData}{n:Nat}:∀(xs:List α),(∀x∈xs,PyData.depth (f x)<=n)->PyData.depthAll (xs.map f)<=n
 | [],_=>Nat.zero_le _
 |x::xs,h=>by
  have h1:=h x (by simp)
  have h2:=Qm xs λy hy=>h y (by simp[hy])
  show max (PyData.depth (f x)) (PyData.depthAll (xs.map f))<=n
  omega
def Lay (n:Nat)(d:D):Prop:=(toP d).canLay0=true/\(toP d).depth<=n
theorem Lay.ok {n:Nat}{d:D}(h:Lay n d)(hn:n<=64):eqOk d=true:=by
 unfold eqOk SeqAt.shaped
 rw[h.1]
 simpa using Nat.le_trans h.2 hn
theorem Wl {i:Int}:Lay 0 (.int i):=⟨rfl,Nat.le_refl _⟩
theorem Zn {x:Str}(h:Ok x):Lay 0 (.str x):=⟨h,Nat.le_refl _⟩
theorem ul {α:Type}{f:α->D}{n:Nat}{xs:List α}(h:∀x∈xs,Lay n (f x)):Lay (n+1) (.lst (xs.map f)):=by
 refine⟨?_,?_⟩
 ·show PyData.canLayAll0 (toPs (xs.map f))=true
  rw[yD];exact VT xs λx hx=>(h x hx).1
 ·show PyData.depthAll (toPs (xs.map f))+1<=n+1
  rw[yD]
  exact Nat.succ_le_succ (Qm xs λx hx=>(h x hx).2)
theorem QQ {t:Str×Int}(h:Ok t.1):Lay 1 (tkD t):=by
 refine⟨?_,?_⟩
 ·show (PyData.canLay0 (.str t.1)&&(PyData.canLay0 (.int t.2)&&true))=true
  rw[show PyData.canLay0 (.str t.1)=true from h];rfl
 ·show max 0 (max 0 0)+1<=1;omega
theorem Uj {xs:List Str}(h:∀x∈xs,Ok x):Lay 1 (.lst (xs.map D.str)):=ul λx hx=>Zn (h x hx)
theorem V0 {q:List (Str×Int)}(h:∀t∈q,Ok t.1):Lay 2 (.lst #[2]):=ul λt ht=>QQ (h t ht)
theorem KT {r:Int×List Str}(h:∀x∈r.2,Ok x):Lay 2 (rnD r):=by
 obtain⟨h1,h2⟩:=Uj h
 refine⟨?_,?_⟩
 ·show (PyData.canLay0 (.int r.1)&&((toP (.lst (r.2.map D.str))).canLay0&&true))=true
  rw[h1];rfl
 ·show max 0 (max ((toP (.lst (r.2.map D.str))).depth) 0)+1<=2;omega
theorem Kg {rs:List (Int×List Str)}(h:∀r∈rs,∀x∈r.2,Ok x):Lay 3 (.lst (rs.map rnD)):=ul λr hr=>KT (h r hr)
theorem vP {neg:Bool}{x y:D}{n m:Nat}{b:Bool}(hx:Lay n x)(hy:Lay m y)(hn:n<=64)(hm:m<=64)(e:PyData.eqv (toP x) (toP y)=b):fEq neg x y=some (.bl (if neg then !b else b)):=by
 unfold fEq eqD
 rw[hx.ok hn,hy.ok hm,e];rfl
theorem jd {neg:Bool}{xs ys:List (Str×Int)}(hx:∀x∈xs,Ok x.1)(hy:∀x∈ys,Ok x.1):fEq neg (.lst (xs.map tkD)) (.lst (ys.map tkD))=some (.bl (if neg then !decide (xs=ys) else decide (xs=ys))) :=
 vP (V0 hx) (V0 hy) (by decide) (by decide) (zb4 xs ys)
theorem GL {neg:Bool}{xs:List (Str×Int)}(hx:∀x∈xs,Ok x.1):fEq neg (.lst (xs.map tkD)) (.lst [])=some (.bl (if neg then !decide (xs=[]) else decide (xs=[]))):=jd (ys:=[]) hx (by simp)
end Dv
namespace QM
variable {α:Type} [DecidableEq α]
inductive Run (f:Int->Int):Int->List (Tk α)->List (Int×List α)->Prop
 |nil (x:Int):Run f x [] []
 |cons {x:Int} {q:List (Tk α)} {rs:List (Int×List α)}:q≠[]->Run f (x+1) (beh (f x).toNat q) rs->Run f x q ((x,srv (f x).toNat q)::rs)
variable {f:Int->Int}{x:Int}{q q':List (Tk α)}{rows rows' tl:List (Int×List α)}{v:α}
def nms (q:List (Tk α)):List α:=q.map (·.1)
theorem JA:∀ {a tl:List (Int×List α)} {x:Int} {q:List (Tk α)},Run f x q (a++tl)->∃q',walk f x q a=some q'/\Run f (x+a.length) q' tl
 | [],tl,x,q,h=>⟨q,rfl,by simpa using h⟩
 |r::a,tl,x,q,h=>by
  rw[List.cons_append] at h
  cases h with
  |cons hq hr=>
   obtain⟨q',e1,e2⟩:=JA hr
   refine⟨q',?_,?_⟩
   ·simp only[walk]
    rw[if_neg (by simp[hq])]
    exact e1
   ·have:x+1+(a.length:Int)=x+((((x,srv (f x).toNat q)::a).length:Nat):Int):=by simp;omega
    rw[<-this];exact e2
theorem YQ:∀ {rows:List (Int×List α)} {x:Int} {q:List (Tk α)},Run f x q rows->∀r∈rows,x<=r.1/\r.1 < x+rows.length
 |_,x,_,.nil _,r,hr=>by cases hr
 |_,x,_,.cons (rs:=rs) hq h,r,hr=>by
  rcases List.mem_cons.mp hr with rfl | hr
  ·simp;omega
  ·have:=YQ h r hr
   simp;omega
theorem leave {m:Nat}{q:List (Tk α)}(hv:v∈nms q)(hn:v∉nms (beh m q)):v∈srv m q:=by
 obtain⟨t,ht,rfl⟩:=List.mem_map.mp hv
 rw[<-List.take_append_drop m q] at ht
 rcases List.mem_append.mp ht with ht | ht
 ·exact List.mem_map.mpr ⟨t,ht,rfl⟩
 ·exfalso
  apply hn
  unfold nms beh
  rw[List.map_append]
  exact List.mem_append.mpr (.inr (List.mem_map.mpr ⟨t,ht,rfl⟩))
theorem Y4:∀ {rows:List (Int×List α)} {x:Int} {q:List (Tk α)},Run f x q rows->v∈nms q->∃r∈rows,v∈r.2
 |_,_,_,.nil _,hv=>by cases hv
 |_,_,_,.cons (x:=x) (q:=q) hq h,hv=>by
  by_cases hn:v∈nms (beh (f x).toNat q)
  ·obtain⟨r,h1,h2⟩:=Y4 h hn
   exact⟨r,List.mem_cons_of_mem _ h1,h2⟩
  ·exact⟨_,List.mem_cons_self,leave hv hn⟩
end QM
namespace Dv
open PySem PySem.Spec L2 L3 L4 QM
open PyProof.Rows hiding St
def mk (l:List Nat):Str:=⟨l.toArray⟩
theorem WR {a b:List Nat}(h:mk a=mk b):a=b:=by
 have:a.toArray=b.toArray:=congrArg Str.cps h
 simpa using this
theorem jQ (a b:List Nat):mk a++mk b=mk (a++b):=by
 show (⟨a.toArray++b.toArray⟩:Str)=⟨(a++b).toArray⟩
 simp
theorem xp (l:List Nat):(mk l).length=l.length:=by simp[mk,Str.length]
theorem Yp {l:List Nat}{a:Int}(h:l.length<=TOP)(h1:0<=a)(h2:a < l.length):fItem (.str (mk l)) (.int a)=some (.str (mk [l.getD a.toNat 0])):=by
 rw[Q8,if_pos (by rw[xp];exact h)]
 obtain⟨v,e1,e2⟩:=QB (xs:=l) h1 h2
 have e3:l.getD a.toNat 0=v:=by rw[List.getD_eq_getElem?_getD,e2];rfl
 rw[e3,show (mk l).cps.toList=l by simp[mk],e1]
 rfl
theorem K3 {l:List Nat}{k:Int}(h1:0<=k)(h2:k<=l.length):Txt.slice (mk l) none (some k)=mk (l.take k.toNat):=by
 have e:=slice_closes_to (x:=mk l) (j:=k) ⟨h1,by simp[mk];exact h2⟩
 have e:=eq_of_beq e
 rw[e]
 simp[mk]
def SIGNS:Str := "abcdefghijklmnopqrstuvwxyz0123456789"
def S36:List Nat:=[97,98,99,100,101,102,103,104,105,106,107,108,109,110,111,112,113,114,115,116,117,118,119,120,121,122,48,49,50,51,52,53,54,55,56,57]
theorem zdk:SIGNS=mk S36:=by decide +kernel
def sg (a:Int):Nat:=S36.getD a.toNat 0
theorem Z0 {a:Int}(h1:0<=a)(h2:a < 36):fItem (.str SIGNS) (.int a)=some (.str (mk [sg a])):=by
 rw[zdk]
 have hl:(S36.length:Int)=36:=by decide
 exact Yp (by decide) h1 #[1]
theorem VR {a:Int}(h1:0<=a)(h2:a < 36):sg a∈S36:=by
 unfold sg
 have hl:S36.length=36:=by decide
 have:a.toNat < S36.length:=by omega
 rw[List.getD_eq_getElem?_getD,List.getElem?_eq_getElem this]
 exact List.getElem_mem _
theorem Qe {a:Int}(h1:0<=a)(h2:a < 26):sg a∈S36.take 26:=by
 unfold sg
 have hl:(S36.take 26).length=26:=by decide
 have h3:a.toNat < (S36.take 26).length:=by omega
 have e:S36.getD a.toNat 0=(S36.take 26)[a.toNat]:=by
  rw[List.getD_eq_getElem?_getD]
  have:S36[a.toNat]?=(S36.take 26)[a.toNat]?:=by rw[List.getElem?_take];rw[if_pos #[1]]
  rw[this,List.getElem?_eq_getElem h3];rfl
 rw[e]
 exact List.getElem_mem _
theorem zd1 {a b:Int}(h1:0<=a)(h2:a < 36)(h3:0<=b)(h4:b < 36)(e:sg a=sg b):a=b:=by
 unfold sg at e
 have hl:S36.length=36:=by decide
 have ha:a.toNat < S36.length:=by omega
 have hb:b.toNat < S36.length:=by omega
 rw[List.getD_eq_getElem?_getD,List.getD_eq_getElem?_getD,List.getElem?_eq_getElem ha,List.getElem?_eq_getElem hb] at e
 have nd:S36.Nodup:=by decide +kernel
 have:=(List.getElem_inj nd).mp e
 omega
def NameOk (x:Str):Prop:=∃c cs,x=mk (c::cs)/\c∈S36.take 26/\(∀d∈cs,d∈S36)/\cs.length<=7
theorem RT {l:List Nat}(h:∀d∈l,d∈S36):Ok (mk l):=by
 show (mk l).cps.all (· < 0x110000)=true
 rw[Array.all_eq_true']
 intro c hc
 have hc:c∈l:=by simpa[mk] using hc
 have:=h c hc
 have all:S36.all (λc=>decide (c < 0x110000))=true:=by decide
 exact List.all_eq_true.mp all c this
theorem NameOk.ok {x:Str}(h:NameOk x):Ok x:=by
 obtain⟨c,cs,rfl,h1,h2,_⟩:=h
 exact RT λd hd=>by
  rcases List.mem_cons.mp hd with rfl | hd
  ·exact List.mem_of_mem_take h1
  ·exact h2 d hd
theorem UB {c:Nat}(h:c∈S36.take 26):(Builtin.Str.occurrences ("abcdefghijklmnopqrstuvwxyz" : Str) (mk [c]) 0 ("abcdefghijklmnopqrstuvwxyz" : Str).length 1).isEmpty=false:=by
 have all:(S36.take 26).all (λc=>!(Builtin.Str.occurrences ("abcdefghijklmnopqrstuvwxyz" : Str) (mk [c]) 0 ("abcdefghijklmnopqrstuvwxyz" : Str).length 1).isEmpty)=true:=by decide +kernel
 simpa using List.all_eq_true.mp all c h
theorem zdi {c:Nat}(h:c∈S36):(Builtin.Str.occurrences (("abcdefghijklmnopqrstuvwxyz" : Str)++("0123456789" : Str)) (mk [c]) 0 (("abcdefghijklmnopqrstuvwxyz" : Str)++("0123456789" : Str)).length 1).isEmpty=false:=by
 have all:S36.all (λc=>!(Builtin.Str.occurrences (("abcdefghijklmnopqrstuvwxyz" : Str)++("0123456789" : Str)) (mk [c]) 0 (("abcdefghijklmnopqrstuvwxyz" : Str)++("0123456789" : Str)).length 1).isEmpty)=true:=by decide +kernel
 simpa using List.all_eq_true.mp all c h
theorem Ve (l:List Nat):chD (mk l)=l.map λc=>D.str (mk [c]):=by simp[chD,mk]
end Dv
namespace HM
abbrev Row:=Int×Int
def Pos (l:List Row):Prop:=∀r∈l,0 < r.1/\0<=r.2
def atR (rest:Int):List Row->Int->Int
 | [],_=>rest
 |r::rs,x=>if x < r.1 then r.2 else atR rest rs (x - r.1)
def total:List Row->Int
 | []=>0
 |r::rs=>r.1+total rs
def nextC (rest:Int):List Row->Int
 | []=>rest
 |r::_=>r.2
def kstep (acc:List Row)(r:Row):List Row:=match acc.getLast? with
 |some q=>if q.2=r.2 then acc.dropLast++[(q.1+r.1,r.2)] else acc++[r]
 |none=>acc++[r]
def kend (rest:Int)(k:List Row):List Row:=match k.getLast? with
 |some q=>if q.2=rest then k.dropLast else k
 |none=>k
def krows (rest:Int)(rs:List Row):List Row:=kend rest (rs.foldl kstep [])
def Norm (rest:Int):List Row->Prop
 | []=>True
 |r::rs=>nextC rest rs≠r.2/\Norm rest rs
theorem Pos.app {l m:List Row}:Pos (l++m)↔Pos l/\Pos m:=by
 constructor
 ·intro h;exact⟨λr hr=>h r (by simp[hr]),λr hr=>h r (by simp[hr])⟩
 ·intro ⟨h1,h2⟩ r hr
  rcases List.mem_append.mp hr with h | h
  ·exact h1 r h
  ·exact h2 r h
theorem Pos.cons {r:Row}{m:List Row}:Pos (r::m)↔(0 < r.1/\0<=r.2)/\Pos m:=by
 constructor
 ·intro h;exact⟨h r (by simp),λq hq=>h q (by simp[hq])⟩
 ·intro ⟨h1,h2⟩ q hq
  rcases List.mem_cons.mp hq with rfl | h
  ·exact h1
  ·exact h2 q h
theorem Pos.nil:Pos []:=λ_ h=>by cases h
def Inv (acc:List Row):Prop:=acc=[]∨∃pre a c,acc=pre++[(a,c)]/\Norm c pre
structure Same {α:Type}(rest:Int)(Φ:List Row->α):Prop where
 merge:∀pre a b c tl,Pos pre->Pos tl->0 < a->0 < b->Φ (pre++(a,c)::(b,c)::tl)=Φ (pre++(a+b,c)::tl)
 drop:∀pre a,Pos pre->0 < a->Φ (pre++[(a,rest)])=Φ pre
theorem vc {α:Type}{rest:Int}{Φ:List Row->α}(S:Same rest Φ):∀(rs acc:List Row),Pos acc->Pos rs->Φ (rs.foldl kstep acc)=Φ (acc++rs)/\Pos (rs.foldl kstep acc)
 | [],acc,h,_=>by simp[h]
 |r::rs,acc,h,hr=>by
  obtain⟨h1,h2⟩:=Pos.cons.mp hr
  rcases List.eq_nil_or_concat acc with rfl | ⟨pre,q,rfl⟩
  ·obtain⟨e,p⟩:=vc S rs [r] (Pos.cons.mpr ⟨h1,Pos.nil⟩) h2
   exact⟨by simpa[kstep] using e,by simpa[kstep] using p⟩
  ·rw[List.concat_eq_append] at h ⊢
   obtain⟨hp,hq⟩:=Pos.app.mp h
   have hq:=(Pos.cons.mp hq).1
   have hk:kstep (pre++[q]) r=if q.2=r.2 then pre++[(q.1+r.1,r.2)] else pre++[q]++[r]:=by
    unfold kstep;rw[List.getLast?_concat];simp only[List.dropLast_concat]
   rw[List.foldl_cons,hk]
   by_cases e:q.2=r.2
   ·rw[if_pos e]
    obtain⟨e1,p⟩:=vc S rs (pre++[(q.1+r.1,r.2)]) (Pos.app.mpr ⟨hp,Pos.cons.mpr ⟨⟨by show 0 < q.1+r.1;omega,h1.2⟩,Pos.nil⟩⟩) h2
    refine⟨?_,p⟩
    rw[e1]
    have:=S.merge pre q.1 r.1 r.2 rs hp h2 hq.1 h1.1
    have hq':q=(q.1,r.2):=by rw[<-e]
    rw[hq']
    simpa using this.symm
   ·rw[if_neg e]
    obtain⟨e1,p⟩:=vc S rs (pre++[q]++[r]) (Pos.app.mpr ⟨h,Pos.cons.mpr ⟨h1,Pos.nil⟩⟩) h2
    exact⟨by rw[e1];simp,p⟩
theorem zcy {α:Type}{rest:Int}{Φ:List Row->α}(S:Same rest Φ)(rs:List Row)(h:Pos rs):Φ (krows rest rs)=Φ rs:=by
 obtain⟨e,p⟩:=vc S rs [] Pos.nil h
 rw[List.nil_append] at e
 rw[<-e]
 unfold krows kend
 rcases List.eq_nil_or_concat (rs.foldl kstep []) with h0 | ⟨pre,q,h0⟩
 ·rw[h0];rfl
 ·rw[List.concat_eq_append] at h0
  rw[h0] at p ⊢
  rw[List.getLast?_concat]
  simp only[List.dropLast_concat]
  by_cases c:q.2=rest
  ·rw[if_pos c]
   obtain⟨hp,hq⟩:=Pos.app.mp p
   have hq':q=(q.1,rest):=by rw[<-c]
   rw[hq']
   exact (S.drop pre q.1 hp (Pos.cons.mp hq).1.1).symm
  ·rw[if_neg c]
theorem zcz (rest:Int)(rs:List Row)(h:Pos rs):Pos (krows rest rs):=by
 obtain⟨_,p⟩:=vc (rest:=rest) (Φ:=λ_=>()) ⟨λ_ _ _ _ _ _ _ _ _=>rfl,λ_ _ _ _=>rfl⟩ rs [] Pos.nil h
 unfold krows kend
 rcases List.eq_nil_or_concat (rs.foldl kstep []) with h0 | ⟨pre,q,h0⟩
 ·rw[h0];exact Pos.nil
 ·rw[List.concat_eq_append] at h0
  rw[h0] at p ⊢
  rw[List.getLast?_concat]
  simp only[List.dropLast_concat]
  by_cases c:q.2=rest
  ·rw[if_pos c];exact (Pos.app.mp p).1
  ·rw[if_neg c];exact p
theorem J8 (acc:List Row)(r:Row):(kstep acc r).length<=acc.length+1:=by
 unfold kstep
 split
 ·split
  ·simp
  ·simp
 ·simp
theorem VH:∀(rs acc:List Row),(rs.foldl kstep acc).length<=acc.length+rs.length
 | [],acc=>by simp
 |r::rs,acc=>by
  have h1:=VH rs (kstep acc r)
  have h2:=J8 acc r
  rw[List.foldl_cons];simp only[List.length_cons];omega
theorem zbx (rest:Int)(rs:List Row):(krows rest rs).length<=rs.length:=by
 have:=VH rs []
 simp only[List.length_nil,Nat.zero_add] at this
 unfold krows kend
 split
 ·split
  ·simp;omega
  ·exact this
 ·exact this
theorem Kq (rest x:Int):Same rest λl=>atR rest l x:=by
 refine⟨λpre a b c tl hp ht ha hb=>?_,λpre a hp ha=>?_⟩
 ·show atR rest _ x=atR rest _ x
  induction pre generalizing x with
  |nil=>
   simp only[List.nil_append,atR]
   by_cases h:x < a
   ·rw[if_pos h,if_pos #[1]]
   ·rw[if_neg h]
    by_cases h2:x - a < b
    ·rw[if_pos h2,if_pos #[1]]
    ·rw[if_neg h2,if_neg #[1]];congr 1;omega
  |cons r rs ih=>simp only[List.cons_append,atR];rw[ih _ (Pos.cons.mp hp).2]
 ·show atR rest _ x=atR rest _ x
  induction pre generalizing x with
  |nil=>simp only[List.nil_append,atR];split<;>rfl
  |cons r rs ih=>simp only[List.cons_append,atR];rw[ih _ (Pos.cons.mp hp).2]
theorem WN:∀ {l:List Row},Pos l->0<=total l
 | [],_=>Int.le_refl _
 |q::qs,hq=>by have:=WN (Pos.cons.mp hq).2;have:=(Pos.cons.mp hq).1.1;simp only[total];omega
theorem qj:∀(l m:List Row),total (l++m)=total l+total m
 | [],m=>by simp[total]
 |r::rs,m=>by simp only[List.cons_append,total,qj rs m];omega
end HM
namespace Dv
open PySem PySem.Spec L2 L3 L4 QM
open PyProof.Rows hiding St
abbrev SI:=List (Str×Int)
def kv (q:SI):List (Key×D):=q.map λt=>(.inr t.1,.int t.2)
def lookS (q:SI)(x:Str):Option Int:=(q.find? λt=>decide (t.1=x)).map (·.2)
def putS (q:SI)(x:Str)(v:Int):SI:=if (q.any λt=>decide (t.1=x))=true then q.map (λt=>if t.1=x then (t.1,v) else t) else q++[(x,v)]
theorem ux (q:SI):(kv q).length=q.length:=by simp[kv]
theorem xk (x:Str):∀q:SI,lookD (kv q) (.inr x)=(lookS q x).map D.int
 | []=>rfl
 |t::q=>by
  have ih:=xk x q
  unfold lookD lookS kv at ih ⊢
  by_cases h:t.1=x
  ·simp[h]
  ·simp[h] at ih ⊢;exact ih
theorem KC (x:Str)(q:SI):((kv q).any λp=>decide (p.1=.inr x))=(q.any λt=>decide (t.1=x)):=by
 induction q with
 |nil=>rfl
 |cons t q ih=>
  show (decide ((Sum.inr t.1:Key)=.inr x)||_)=_
  rw[List.any_cons]
  unfold kv at ih
  rw[ih]
  congr 1
  by_cases h:t.1=x<;>simp[h]
theorem kF (x:Str)(v:Int)(q:SI):putD (kv q) (.inr x) (.int v)=kv (putS q x v):=by
 unfold putD putS
 rw[KC]
 split
 ·unfold kv
  rw[List.map_map,List.map_map]
  refine List.map_congr_left λt _=>?_
  by_cases h:t.1=x<;>simp[h]
 ·simp[kv]
def kiS (q:SI):List (Key×Int):=q.map λt=>(.inr t.1,t.2)
theorem ui:∀q:SI,asKI (kv q)=some (kiS q)
 | []=>rfl
 |t::q=>by
  show (asKI (kv q)).map _=_
  rw[ui q];rfl
def keysS (q:SI):List Str:=q.map (·.1)
theorem zfu (x:Str)(v:Int)(q:SI):keysS (putS q x v)=if x∈keysS q then keysS q else keysS q++[x]:=by
 have ha:(q.any λt=>decide (t.1=x))=true↔x∈keysS q:=by
  simp[keysS,List.any_eq_true]
 unfold putS
 by_cases h:x∈keysS q
 ·rw[if_pos (ha.mpr h),if_pos h]
  unfold keysS
  rw[List.map_map]
  refine List.map_congr_left λt _=>?_
  by_cases e:t.1=x<;>simp[e]
 ·rw[if_neg (λz=>h (ha.mp z)),if_neg h]
  simp[keysS]
theorem Wr {x:Str}{v:Int}{q:SI}(h:(keysS q).Nodup):(keysS (putS q x v)).Nodup:=by
 rw[zfu]
 split
 ·exact h
 ·rename_i hx
  rw[List.nodup_append]
  exact⟨h,by simp,λa ha b hb=>by rw[List.mem_singleton.mp hb];exact λz=>hx (z ▸ ha)⟩
theorem j4 (x:Str)(v:Int)(q:SI):(putS q x v).length<=q.length+1:=by
 unfold putS
 split<;>simp
theorem ze9 {q:SI}{x:Str}{v:Int}(nd:(keysS q).Nodup)(h:(x,v)∈q):lookS q x=some v:=by
 induction q with
 |nil=>cases h
 |cons t q ih=>
  have nd':=List.nodup_cons.mp nd
  rcases List.mem_cons.mp h with e | h
  ·subst e;simp[lookS]
  ·have hne:t.1≠x:=λz=>nd'.1 (List.mem_map.mpr ⟨(x,v),h,z.symm⟩)
   have:=ih nd'.2 h
   unfold lookS at this ⊢
   rw[List.find?_cons]
   simp[hne]
   simpa using this
theorem VP (x:Str):∀q:SI,lookI (kiS q) (.inr x)=lookS q x
 | []=>rfl
 |t::q=>by
  have ih:=VP x q
  unfold lookI lookS kiS at ih ⊢
  by_cases h:t.1=x
  ·simp[h]
  ·simp[h] at ih ⊢;exact ih
theorem W8 {q:SI}(nd:(keysS q).Nodup):∀r:SI,(∀t∈r,t∈q)->hitsI (kiS q) (kiS r)=true
 | [],_=>rfl
 |t::r,h=>by
  show (match lookI (kiS q) (.inr t.1) with | none=>false | some j=>decide (t.2=j)&&hitsI (kiS q) (kiS r))=true
  rw[VP,ze9 nd (h t List.mem_cons_self)]
  simp[W8 nd r λu hu=>h u (List.mem_cons_of_mem _ hu)]
theorem Js {q:SI}(nd:(keysS q).Nodup):eqI (kiS q) (kiS q)=true:=by
 unfold eqI
 simp[W8 nd q λt h=>h]
theorem jA (t:Str×Int)(d:SI)(x:Str):lookS (t::d) x=if t.1=x then some t.2 else lookS d x:=by
 unfold lookS
 by_cases h:t.1=x<;>simp[h]
theorem GT {d:SI}{x:Str}{v:Int}(h:x∈keysS d):putS d x v=d.map λt=>if t.1=x then (t.1,v) else t:=by
 unfold putS
 rw[if_pos]
 simpa[keysS,List.any_eq_true] using h
theorem Uv {d:SI}{x:Str}{v:Int}(h:x∉keysS d):(d.map λt=>if t.1=x then (t.1,v) else t)=d:=by
 induction d with
 |nil=>rfl
 |cons t d ih=>
  simp[keysS] at h
  have:t.1≠x:=λz=>h.1 z.symm
  simp[this]
  have:=ih (by simpa[keysS] using h.2)
  simpa using this
end Dv
namespace QM
variable {α:Type} [DecidableEq α]
inductive Eas:List (Tk α)->List (Tk α)->Prop
 |nil:Eas [] []
 |skip {t:Tk α} {p q:List (Tk α)}:Eas p q->Eas p (t::q)
 |keep {n:α} {a b:Int} {p q:List (Tk α)}:b<=a->Eas p q->Eas ((n,b)::p) ((n,a)::q)
def val (q:List (Tk α))(n:α):Int:=((q.find? λt=>decide (t.1=n)).map (·.2)).getD 0
variable {f g:Int->Int}
end QM
namespace Dv
open PySem PySem.Spec L2 L3 L4 QM
open PyProof.Rows hiding St
theorem zc9 {d:SI}{x:Str}{v:Int}(h:x∉keysS d):putS d x v=d++[(x,v)]:=by
 unfold putS
 rw[if_neg]
 intro z
 apply h
 simpa[keysS,List.any_eq_true] using z
def endsS (d:SI)(rows:List (Int×List Str)):SI:=rows.foldl (λd r=>r.2.foldl (λd n=>putS d n r.1) d) d
theorem zfo (d:SI)(x y:Str)(v:Int):lookS (putS d x v) y=if x=y then some v else lookS d y:=by
 by_cases hx:x∈keysS d
 ·rw[GT hx]
  induction d with
  |nil=>cases hx
  |cons t d ih=>
   rw[List.map_cons,jA,jA]
   by_cases e:t.1=x
   ·rw[if_pos e]
    by_cases e2:x=y
    ·simp[e,e2]
    ·have:¬t.1=y:=λz=>e2 (e.symm.trans z)
     simp only[if_neg e2,if_neg this]
     by_cases hx':x∈keysS d
     ·rw[ih hx',if_neg e2]
     ·rw[Uv hx']
   ·rw[if_neg e]
    have hx':x∈keysS d:=by simpa[keysS,Ne.symm e] using hx
    rw[ih hx']
    by_cases e2:x=y
    ·have:¬t.1=y:=λz=>e (z.trans e2.symm)
     simp[e2,this]
    ·simp[e2]
 ·rw[zc9 hx]
  have:∀d:SI,x∉keysS d->lookS (d++[(x,v)]) y=if x=y then some v else lookS d y:=by
   intro d
   induction d with
   |nil=>intro _;simp[jA]
   |cons t d ih=>
    intro h
    have h1:¬x=t.1/\x∉keysS d:=by simpa[keysS] using h
    rw[List.cons_append,jA,jA,ih h1.2]
    by_cases e2:x=y
    ·have:¬t.1=y:=λz=>h1.1 (e2.trans z.symm)
     simp[e2,this]
    ·simp[e2]
  exact this d hx
theorem kM (v:Int)(y:Str):∀(xs:List Str) (d:SI),lookS (xs.foldl (λd n=>putS d n v) d) y=if y∈xs then some v else lookS d y
 | [],d=>by simp
 |x::xs,d=>by
  show lookS (xs.foldl (λd n=>putS d n v) (putS d x v)) y=_
  rw[kM v y xs,zfo]
  by_cases h1:y∈xs
  ·simp[h1]
  ·by_cases h2:x=y
   ·simp[h1,h2]
   ·have:¬y=x:=λz=>h2 z.symm
    simp[h1,h2,this]
theorem Ym:∀(rows:List (Int×List Str)) (d:SI) (n:Str) (L:Int),lookS (endsS d rows) n=some L->lookS d n=some L∨∃r∈rows,n∈r.2/\r.1=L
 | [],d,n,L,h=>.inl h
 |r::rows,d,n,L,h=>by
  rcases Ym rows _ n L h with h | ⟨u,h1,h2⟩
  ·rw[kM] at h
   split at h
   ·rename_i hn
    exact .inr ⟨r,List.mem_cons_self,hn,Option.some.inj h⟩
   ·exact .inl h
  ·exact .inr ⟨u,List.mem_cons_of_mem _ h1,h2⟩
theorem WH:∀(rows:List (Int×List Str)) (d:SI) (n:Str),(∃v,lookS d n=some v)->∃L,lookS (endsS d rows) n=some L
 | [],d,n,h=>h
 |r::rows,d,n,⟨v,h⟩=>by
  refine WH rows _ n ?_
  rw[kM]
  split
  ·exact⟨_,rfl⟩
  ·exact⟨v,h⟩
theorem Rv (a b:List (Int×List Str))(d:SI):endsS d (a++b)=endsS (endsS d a) b:=by unfold endsS;rw[List.foldl_append]
theorem zfa {f:Int->Int}{x:Int}{q:SI}{rows:List (Int×List Str)}(h:Run f x q rows){r:Int×List Str}(hr:r∈rows){n:Str}(hn:n∈r.2)(d:SI):∃L,lookS (endsS d rows) n=some L/\r.1<=L:=by
 obtain⟨a,b,rfl⟩:=List.append_of_mem hr
 obtain⟨q',_,h2⟩:=JA h
 have hb:∀u∈b,r.1<=u.1:=by
  intro u hu
  cases h2 with
  |cons hq h3=>
   have:=(YQ h3 u hu).1
   show x+a.length<=u.1
   omega
 rw[Rv]
 show ∃L,lookS (endsS (r.2.foldl (λd n=>putS d n r.1) (endsS d a)) b) n=some L/\r.1<=L
 have h0:lookS (r.2.foldl (λd n=>putS d n r.1) (endsS d a)) n=some r.1:=by rw[kM,if_pos hn]
 obtain⟨L,hL⟩:=WH b _ n ⟨_,h0⟩
 refine⟨L,hL,?_⟩
 rcases Ym b _ n L hL with z | ⟨u,u1,_,u3⟩
 ·rw[h0] at z;cases z;exact Int.le_refl _
 ·have:=hb u u1;omega
variable {f:Int->Int}
def ra (f:Int->Int):Int->SI->Nat->List (Int×List Str)
 |_,_,0=>[]
 |x,A,k+1=>(x,srv (f x).toNat A)::ra f (x+1) (beh (f x).toNat A) k
def hb (rows:List (Int×List Str))(n:Str)(t:Int):Nat:=(rows.filter λr=>decide (r.1<=t)&&decide (n∈r.2)).length
end Dv
namespace Dv
open PySem PySem.Spec L2 L3 L4
open PyProof.Rows hiding St
section
variable {i:Nat}{g:EnvD->Option D}{gl gi:EnvD->Option (List D)}{gk:EnvD->Option (List (Key×D))}{gb:EnvD->Option Bool}{b s1 s2:SD}{Z Z':EnvD}{d:D}{ds:List D}{kvs:List (Key×D)}{r:Option Fl}{t:Tgt}
theorem Gz (h:gi Z=some ds)(h2:forD t s1 ds Z=some (.next Z'))(k:b Z'=r):sSeq (sFor t gi s1) b Z=r:=by
 rw[<-k]
 show thenB ((gi Z).bind λds=>forD t s1 ds Z) b=_
 rw[h]
 show thenB (forD t s1 ds Z) b=_
 rw[h2];rfl
theorem ku (h:gb Z=some false)(k:b Z=r):sSeq (sIf gb s1 sNext) b Z=r:=by
 rw[<-k]
 show thenB ((gb Z).bind λc=>if c then s1 Z else sNext Z) b=_
 rw[h];rfl
end
end Dv
namespace QX
open PySem PySem.StrLaws PySem.Builtin PySem.Builtin.Str
end QX
namespace QX
end QX
namespace My
open PySem PySem.Spec L2 L3 L4 L6 Dv
open PyProof.Rows hiding St
def top (i:Nat):Stmt:=PySem.Challenge.pw_latestturn_k61_lifts.main.body.getD i (.Pass ⟨0,0,0,0⟩)
abbrev wO:Stmt:=top 13
abbrev wF:Stmt:=top 14
abbrev xD:Stmt:=top 15
abbrev vd:Stmt:=top 16
abbrev xY:Stmt:=top 17
abbrev ve:Stmt:=top 18
abbrev wl:Stmt:=top 19
abbrev wV:Stmt:=yd (top 20) 0
abbrev vf:Stmt:=yd (top 20) 4
abbrev xQ:Stmt:=top 22
abbrev xU:Stmt:=top 23
abbrev x0:Stmt:=top 24
abbrev xE:Stmt:=top 25
abbrev x3:Stmt:=top 27
abbrev yG:Stmt:=top 29
abbrev w4:Stmt:=top 30
abbrev wN:Stmt:=yd (top 33) 0
abbrev vG:Stmt:=yd (top 33) 1
abbrev wA:Stmt:=yd (top 33) 2
abbrev vn:Stmt:=yd (top 32) 0
abbrev vH:Stmt:=yd (top 32) 3
abbrev vF:Stmt:=yd (top 34) 0
abbrev wC:Stmt:=yd (top 34) 1
abbrev vi:Stmt:=yd (top 34) 2
abbrev w6:Stmt:=yd (top 34) 3
abbrev vk:Stmt:=yd (top 32) 1
abbrev wp:Stmt:=yd (top 32) 0
abbrev xF:Stmt:=top 35
abbrev wa:Stmt:=top 36
abbrev wu:Stmt:=top 37
abbrev xZ:Stmt:=top 39
abbrev wK:Stmt:=top 41
abbrev wD:Stmt:=top 42
abbrev vt:Stmt:=top 43
abbrev wL:Stmt:=top 44
abbrev wR:Stmt:=top 45
abbrev vj:Stmt:=top 46
abbrev yR:Stmt:=top 47
abbrev wb:Stmt:=top 48
abbrev v9:Stmt:=top 49
abbrev wS:Stmt:=top 50
abbrev wx:Stmt:=top 51
abbrev wm:Stmt:=top 52
abbrev xN:Stmt:=top 53
abbrev xR:Stmt:=top 54
abbrev wM:Stmt:=top 55
abbrev yO:Stmt:=top 56
def Wn:List Str:=["thing"]
def kU:SD:=(sRet (gAndV (gIs "int" (gr 0)) (gNotV (gIs "bool" (gr 0)))))
def jk:List En->Option En:=mir Wn (kU)
def qI:List Str:=["thing","low","high"]
def Zk:SD:=(sRet (gAndV (gCall (len? 1 jk) frzO (nCons (gn 0) nNil)) (g3 fLe fLe (gr 1) (gr 0) (gr 2))))
def yk:List En->Option En:=mir qI (Zk)
def qd:List Str:=["thing"]
def Z4:EnvD->Option D:=(g2 (fIn false) (gr 0) (g2 fPlus (gc (.str "abcdefghijklmnopqrstuvwxyz")) (gc (.str "0123456789"))))
def jq:SD:=(sSeq (sIf (gOr (gNot (gt (gIs "str" (gr 0)))) (gNot (gb' (g3 fLe fLe (gc (.int 1)) (gB fLen (gCons' (gr 0) gNil)) (gc (.int 8)))))) (sRet (gc (.bl false))) sNext) (sRet (gAndV (g2 (fIn false) (g2 fItem (gr 0) (gc (.int 0))) (gc (.str "abcdefghijklmnopqrstuvwxyz"))) (gB fAll (gCons' (gFz (gComp ["sign"] [] (.name 0) tYes Z4 (gItS (gr 0)))) gNil)))))
def yo:List En->Option En:=mir qd (jq)
def Jq:List Str:=["thing"]
def ZI:SD:=(sSeq (sIf (gOr (gNot (gt (gIs "tuple" (gr 0)))) (gb' (g2 (fEq true) (gB fLen (gCons' (gr 0) gNil)) (gc (.int 2))))) (sRet (gc (.bl false))) sNext) (sRet (gAndV (gCall (len? 3 yk) frzO (nCons (gVal (g2 fItem (gr 0) (gc (.int 0)))) (nCons (gVal (gc (.int 1))) (nCons (gVal (gc (.int 100))) nNil)))) (gCall (len? 3 yk) frzO (nCons (gVal (g2 fItem (gr 0) (gc (.int 1)))) (nCons (gVal (gc (.int 0))) (nCons (gVal (gc (.int 8))) nNil)))))))
def jn:List En->Option En:=mir Jq (ZI)
def vU:List Str:=["rows","rest"]
def ub:EnvD->Option D:=(gCall (len? 1 jn) frzO (nCons (gn 0) nNil))
def kR:SD:=(sSeq (sIf (gOr (gNot (gt (gIs "list" (gr 0)))) (gb' (g2 fGt (gB fLen (gCons' (gr 0) gNil)) (gc (.int 16))))) sNever sNext) (sSeq (sIf (gNot (gt (gB fAll (gCons' (gFz (gComp ["row"] [] (.name 0) tYes ub (gIt (gr 0)))) gNil)))) sNever sNext) (sIf (gNot (gt (gCall (len? 3 yk) frzO (nCons (gn 1) (nCons (gVal (gc (.int 1))) (nCons (gVal (gc (.int 8))) nNil)))))) sNever sNext)))
def jz:List En->Option En:=mir vU (kR)
def kz:List Str:=["rows","rest","kept","turns","counters"]
def jx:SD:=(sIf (gAnd (gt (gr 2)) (gb' (g2 (fEq false) (g2 fItem (g2 fItem (gr 2) (gNeg (gc (.int 1)))) (gc (.int 1))) (gr 4)))) (sPut 2 (gNeg (gc (.int 1))) (gTup' (gCons' (g2 fPlus (g2 fItem (g2 fItem (gr 2) (gNeg (gc (.int 1)))) (gc (.int 0))) (gr 3)) (gCons' (gv 4) gNil)))) (sIf (gb' (g2 fGt (gr 3) (gc (.int 0)))) (sApp 2 (gTup' (gCons' (gv 3) (gCons' (gv 4) gNil)))) sNext))
def uG:SD:=(sSeq (sSetA 2 (gLst gNil)) (sSeq (sFor (.tup [3,4]) (gIt (gf 0)) jx) (sSeq (sIf (gAnd (gt (gr 2)) (gb' (g2 (fEq false) (g2 fItem (g2 fItem (gr 2) (gNeg (gc (.int 1)))) (gc (.int 1))) (gr 1)))) (sPop 2) sNext) (sRetV 2))))
def jb:List En->Option En:=mir kz (uG)
def qU:List Str:=["rows","spans","start","turns","counters"]
def ZZ:SD:=(sSeq (sApp 1 (gTup' (gCons' (gv 2) (gCons' (g2 fPlus (gr 2) (gr 3)) (gCons' (gv 4) gNil))))) (sSet 2 (g2 fPlus (gr 2) (gr 3))))
def Zl:SD:=(sSeq (sSetA 1 (gLst gNil)) (sSeq (sSet 2 (gc (.int 0))) (sSeq (sFor (.tup [3,4]) (gIt (gf 0)) ZZ) (sRetV 1))))
def j7:List En->Option En:=mir qU (Zl)
def jr:List Str:=["self","rows","rest"]
def jJ (C:Str->Addr):SD:=(sSeq (sExpr (gCall (len? 2 jz) frzO (nCons (gn 1) (nCons (gn 2) nNil)))) (sSeq (sFldD 0 (C "Hours") "kept_rest" (gv 2)) (sFldD 0 (C "Hours") "spans" (gCall (len? 1 j7) frzO (nCons (gVal (gCall (len? 2 jb) frzO (nCons (gn 1) (nCons (gn 2) nNil)))) nNil)))))
def wH (C:Str->Addr):List En->Option (List Str×List D):=mirI (C "Hours") jr (jJ C) 0 0
def jX:List Str:=["self","turn","low","high","middle"]
def jN (C:Str->Addr):SD:=(sSeq (sSet 4 (g2 fDiv (g2 fPlus (gr 2) (gr 3)) (gc (.int 2)))) (sIf (gb' (g2 fLt (gr 1) (g2 fItem (g2 fItem (gFld (C "Hours") "spans" (gv 0)) (gr 4)) (gc (.int 1))))) (sSet 3 (gv 4)) (sSet 2 (g2 fPlus (gr 4) (gc (.int 1))))))
def Zw (C:Str->Addr):SD:=(sSeq (sSet 2 (gc (.int 0))) (sSeq (sSet 3 (gB fLen (gCons' (gFld (C "Hours") "spans" (gv 0)) gNil))) (sSeq (sWhile (gb' (g2 fLt (gr 2) (gr 3))) (jN C)) (sRet (gIf (gb' (g2 fLt (gr 2) (gB fLen (gCons' (gFld (C "Hours") "spans" (gv 0)) gNil)))) (g2 fItem (g2 fItem (gFld (C "Hours") "spans" (gv 0)) (gr 2)) (gc (.int 2))) (gFld (C "Hours") "kept_rest" (gv 0)))))))
def j0 (C:Str->Addr):List En->Option En:=mir jX (Zw C)
def Q3:List Str:=["queue"]
def u6:EnvD->Option D:=(gv 0)
def ZG:SD:=(sRetA (gComp ["name","left"] [] (.tup [0,1]) tYes u6 (gIt (gr 0))))
def jp:List En->Option En:=mir Q3 (ZG)
def y4:List Str:=["queue","name","place","ticket"]
def xB:SD:=(sIf (gb' (g2 (fEq false) (g2 fItem (gr 3) (gc (.int 0))) (gr 1))) (sRetV 2) sNext)
def jw:SD:=(sSeq (sIf (gt (gCall (len? 1 yo) frzO (nCons (gn 1) nNil))) (sFor (.tup [2,3]) (gEn (gCons' (gf 0) gNil)) xB) sNext) sNever)
def zQ:List En->Option En:=mir y4 (jw)
def YL:SD:=(sIf (gb' (g2 (fEq false) (g2 fItem (gr 3) (gc (.int 0))) (gr 1))) (sRetV 2) sNext)
def jf:EnvD->Option (EnvD×Xv):=(ySeq (sIf (gt (gCall (len? 1 yo) frzO (nCons (gn 1) nNil))) (sFor (.tup [2,3]) (gEn (gCons' (gf 0) gNil)) YL) sNext) (yRaise "NoTicket" (gv 1)))
def yt:List En->Option Xv:=mirY y4 2 jf
def vT:List Str:=["queue","name","place","own"]
def Zf:SD:=(sSeq (sSet 3 (gCall (len? 2 zQ) frzO (nCons (gn 0) (nCons (gn 1) nNil)))) (sSeq (sIf (gNot (gt (gCall (len? 3 yk) frzO (nCons (gn 2) (nCons (gVal (gc (.int 0))) (nCons (gn 3) nNil)))))) sNever sNext) (sRetA (g2 fCatS (gFz (g2 fCatS (gFz (g2 fCatS (gFz (gSl (gr 0) gNone (gSome (gr 2)))) (gFz (gLst (gCons' (g2 fItem (gr 0) (gr 3)) gNil))))) (gFz (gSl (gr 0) (gSome (gr 2)) (gSome (gr 3)))))) (gFz (gSl (gr 0) (gSome (g2 fPlus (gr 3) (gc (.int 1)))) gNone))))))
def vE:List En->Option En:=mir vT (Zf)
def Wm:EnvD->Option (EnvD×Xv):=(yAlt (yE (yCall yt (nCons (gn 0) (nCons (gn 1) nNil)))) (ySeq (sSet 3 (gCall (len? 2 zQ) frzO (nCons (gn 0) (nCons (gn 1) nNil)))) (yIf (gNot (gt (gCall (len? 3 yk) frzO (nCons (gn 2) (nCons (gVal (gc (.int 0))) (nCons (gn 3) nNil)))))) (uj "NoNumber" (gc (.str "a ticket is placed at a place from 0 to its own"))) yNo)))
def ZW:List En->Option Xv:=mirY vT 3 Wm
def yI:List Str:=["queue","name","ahead","own"]
def j8:SD:=(sSeq (sSet 3 (gCall (len? 2 zQ) frzO (nCons (gn 0) (nCons (gn 1) nNil)))) (sRetA (gCall (len? 3 vE) accO (nCons (gn 0) (nCons (gn 1) (nCons (gVal (gB fMin (gCons' (gr 3) (gCons' (gCall (len? 2 zQ) frzO (nCons (gn 0) (nCons (gn 2) nNil))) gNil)))) nNil))))))
def yu:List En->Option En:=mir yI (j8)
def qW:EnvD->Option (EnvD×Xv):=(yAlt (yE (yCall yt (nCons (gn 0) (nCons (gn 1) nNil)))) (ySeq (sSet 3 (gCall (len? 2 zQ) frzO (nCons (gn 0) (nCons (gn 1) nNil)))) (yAlt (yE (yAft (gn 0) (yAft (gn 1) (yAft (gr 3) (yCall yt (nCons (gn 0) (nCons (gn 2) nNil))))))) (yE (yCall ZW (nCons (gn 0) (nCons (gn 1) (nCons (gVal (gB fMin (gCons' (gr 3) (gCons' (gCall (len? 2 zQ) frzO (nCons (gn 0) (nCons (gn 2) nNil))) gNil)))) nNil))))))))
def yS:List En->Option Xv:=mirY yI 3 qW
def vh:List Str:=["queue","many","served","begun"]
def jO:EnvD->Option D:=(gTup' (gCons' (gv 0) (gCons' (g2 fSub (gr 1) (gc (.int 1))) gNil)))
def qD:SD:=(sSeq (sSet 2 (gFz (gSl (gr 0) gNone (gSome (gr 1))))) (sSeq (sSet 3 (gFz (gComp ["name","left"] [] (.tup [0,1]) (gb' (g2 fGt (gr 1) (gc (.int 1)))) jO (gIt (gr 2))))) (sRet (gTup' (gCons' (gFz (gCall (len? 1 jp) accO (nCons (gn 2) nNil))) (gCons' (gFz (g2 fCatS (gr 3) (gFz (gSl (gr 0) (gSome (gr 1)) gNone)))) gNil))))))
def yA:List En->Option En:=mir vh (qD)
def qR:List Str:=["queue","hours","begin","real","waiting","rows","turn","served"]
def wr (C:Str->Addr):SD:=(sSeq (sSet 6 (g2 fPlus (gr 2) (gB fLen (gCons' (gr 5) gNil)))) (sSeq (sSet 7 (gCall (len? 2 yA) frzO (nCons (gn 4) (nCons (gVal (gMeth (C "Hours") "at" (len? 2 (j0 C)) frzO (gv 1) (nCons (gn 6) nNil))) nNil)))) (sSeq (sApp 5 (gTup' (gCons' (gv 6) (gCons' (g2 fItem (gr 7) (gc (.int 0))) gNil)))) (sSet 4 (g2 fItem (gr 7) (gc (.int 1)))))))
def uU (C:Str->Addr):SD:=(sSeq (sSetB 4 (gIfB (gb' (g2 (fIs false) (gr 3) (gc .non))) (gvb 0) (gVal gNev))) (sSeq (sSetA 5 (gLst gNil)) (sSeq (sWhile (gt (gr 4)) (wr C)) (sRetV 5))))
def xW (C:Str->Addr):List En->Option En:=mir qR (uU C)
def qQ:List Str:=["rows","ends","turn","names","name"]
def uA:SD:=(sPutD 1 (gr 4) (gv 2))
def ZC:SD:=(sFor (.name 4) (gIt (gf 3)) uA)
def ZH:SD:=(sSeq (sSetD 1 gNewD) (sSeq (sFor (.tup [2,3]) (gIt (gf 0)) ZC) (sRetVD 1)))
def vN:List En->Option En:=mir qQ (ZH)
def JG:List Str:=["self"]
def kQ (C:Str->Addr):SD:=(sRet (gc (.bl true)))
def xt (C:Str->Addr):List En->Option En:=mir JG (kQ C)
def Jy:List Str:=["self"]
def kZ (C:Str->Addr):SD:=(sRet (gc (.str "granted")))
def kA (C:Str->Addr):List En->Option En:=mir Jy (kZ C)
def jt:List Str:=["self","queue","hours","begin"]
def qv (C:Str->Addr):SD:=(sSeq (sFldD 0 (C "Granted") "queue" (gFz (gB fList (gCons' (gr 1) gNil)))) (sSeq (sFldD 0 (C "Granted") "hours" (gv 2)) (sFldD 0 (C "Granted") "begin" (gv 3))))
def xA (C:Str->Addr):List En->Option (List Str×List D):=mirI (C "Granted") jt (qv C) 0 0
def Jp:List Str:=["self"]
def uz (C:Str->Addr):SD:=(sRetT (gTupT (tCn (gLf (gMeth (C "Granted") "word" (len? 1 (kA C)) frzO (gv 0) nNil)) tNl)))
def xg (C:Str->Addr):List En->Option En:=mir Jp (uz C)
def Jh:List Str:=["self"]
def Zz (C:Str->Addr):SD:=(sRet (gc (.str "late")))
def qw (C:Str->Addr):List En->Option En:=mir Jh (Zz C)
def Qc:List Str:=["self"]
def Z3 (C:Str->Addr):SD:=(sRet (gc (.bl false)))
def yX (C:Str->Addr):List En->Option En:=mir Qc (Z3 C)
def Y9:List Str:=["self","queue","hours","begin"]
def Yf (C:Str->Addr):SD:=(sSeq (sFldD 0 (C "Late") "queue" (gFz (gB fList (gCons' (gr 1) gNil)))) (sSeq (sFldD 0 (C "Late") "hours" (gv 2)) (sFldD 0 (C "Late") "begin" (gv 3))))
def xo (C:Str->Addr):Addr->Addr->List En->Option (List Str×List D):=mirI (C "Late") Y9 (Yf C)
def J6:List Str:=["rows"]
def uo:SD:=(sRetT (gCompT ["turn","names"] [] (.tup [0,1]) tYes (gTupT (tCn (gLf (gv 0)) (tCn (gLs (gB fList (gCons' (gr 1) gNil))) tNl))) (gIt (gr 0))))
def xx:List En->Option En:=mir J6 (uo)
def qC:List Str:=["self","queue","hours","begin","name","promised","turn","run"]
def kI (C:Str->Addr):SD:=(sSeq (sBase 0 (C "Late") 3 (xo C) (nCons (gn 1) (nCons (gn 2) (nCons (gn 3) nNil)))) (sSeq (sFldD 0 (C "Late") "name" (gv 4)) (sSeq (sFldD 0 (C "Late") "promised" (gv 5)) (sSeq (sFldD 0 (C "Late") "turn" (gv 6)) (sFldD 0 (C "Late") "run" (gCall (len? 1 xx) frzO (nCons (gn 7) nNil)))))))
def xV (C:Str->Addr):List En->Option (List Str×List D):=mirI (C "Late") qC (kI C) 0 0
def Vy:List Str:=["self"]
def ZR (C:Str->Addr):SD:=(sRetT (gTupT (tCn (gLf (gMeth (C "Late") "word" (len? 1 (qw C)) frzO (gv 0) nNil)) (tCn (gLf (gFld (C "Late") "name" (gv 0))) (tCn (gLf (gFld (C "Late") "promised" (gv 0))) (tCn (gLf (gFld (C "Late") "turn" (gv 0))) (tCn (gCall (len? 1 xx) treO (nCons (gVal (gFld (C "Late") "run" (gv 0))) nNil)) tNl)))))))
def yF (C:Str->Addr):List En->Option En:=mir Vy (ZR C)
def jK:List Str:=["queue","ends","promises","name","left"]
def xf:SD:=(sIf (gAnd (gb' (gInD false (gr 3) (gk' 2))) (gb' (g2 fGt (gGetD (gk' 1) (gr 3)) (gGetD (gk' 2) (gr 3))))) (sRetV 3) sNext)
def qg:SD:=(sSeq (sFor (.tup [3,4]) (gIt (gf 0)) xf) (sRet (gc .non)))
def wz:List En->Option En:=mir jK (qg)
def j5:List Str:=["queue","hours","begin","promises","run","ends","late"]
def q9 (C:Str->Addr):SD:=(sSeq (sSet 4 (gFz (gCall (len? 3 (mN (xW C))) accO (nCons (gn 0) (nCons (gn 1) (nCons (gn 2) nNil)))))) (sSeq (sSetD 5 (gCall (len? 1 vN) dctO (nCons (gn 4) nNil))) (sSeq (sSet 6 (gCall (len? 3 wz) frzO (nCons (gn 0) (nCons (gn 5) (nCons (gn 3) nNil))))) (sSeq (sIf (gb' (g2 (fIs false) (gr 6) (gc .non))) (sRet (gMake (C "Granted") 3 (xA C) (nCons (gn 0) (nCons (gn 1) (nCons (gn 2) nNil))))) sNext) (sRet (gMake (C "Late") 7 (xV C) (nCons (gn 0) (nCons (gn 1) (nCons (gn 2) (nCons (gn 6) (nCons (gVal (gGetD (gk' 3) (gr 6))) (nCons (gVal (gGetD (gk' 5) (gr 6))) (nCons (gn 4) nNil)))))))))))))
def zZ (C:Str->Addr):List En->Option En:=mir j5 (q9 C)
def xz:List Str:=["self","promises"]
def jZ (C:Str->Addr):SD:=(sRet (yAlt (gMeth (C "Granted") "granted" (len? 1 (xt C)) frzO (gCall (len? 4 (zZ C)) frzO (nCons (gVal (gFld (C "Granted") "queue" (gv 0))) (nCons (gVal (gFld (C "Granted") "hours" (gv 0))) (nCons (gVal (gFld (C "Granted") "begin" (gv 0))) (nCons (gn 1) nNil))))) nNil) (gMeth (C "Late") "granted" (len? 1 (yX C)) frzO (gCall (len? 4 (zZ C)) frzO (nCons (gVal (gFld (C "Granted") "queue" (gv 0))) (nCons (gVal (gFld (C "Granted") "hours" (gv 0))) (nCons (gVal (gFld (C "Granted") "begin" (gv 0))) (nCons (gn 1) nNil))))) nNil)))
def xJ (C:Str->Addr):List En->Option En:=mir xz (jZ C)
def ZQ:List Str:=["self","promises"]
def km (C:Str->Addr):SD:=(sRet (g2 (fEq false) (yAlt (gMeth (C "Granted") "told" (len? 1 (xg C)) frzO (gCall (len? 4 (zZ C)) frzO (nCons (gVal (gFld (C "Late") "queue" (gv 0))) (nCons (gVal (gFld (C "Late") "hours" (gv 0))) (nCons (gVal (gFld (C "Late") "begin" (gv 0))) (nCons (gn 1) nNil))))) nNil) (gMeth (C "Late") "told" (len? 1 (yF C)) frzO (gCall (len? 4 (zZ C)) frzO (nCons (gVal (gFld (C "Late") "queue" (gv 0))) (nCons (gVal (gFld (C "Late") "hours" (gv 0))) (nCons (gVal (gFld (C "Late") "begin" (gv 0))) (nCons (gn 1) nNil))))) nNil)) (gMeth (C "Late") "told" (len? 1 (yF C)) frzO (gv 0) nNil)))
def xG (C:Str->Addr):List En->Option En:=mir ZQ (km C)
def xL:List Str:=["queue","hours","begin","promises","name","ahead"]
def qx (C:Str->Addr):SD:=(sRet (gCall (len? 4 (zZ C)) frzO (nCons (gVal (gFz (gCall (len? 3 yu) accO (nCons (gn 0) (nCons (gn 4) (nCons (gn 5) nNil)))))) (nCons (gn 1) (nCons (gn 2) (nCons (gn 3) nNil))))))
def yH (C:Str->Addr):List En->Option En:=mir xL (qx C)
def Z1:EnvD->Option (EnvD×Xv):=(yE (yCall yS (nCons (gn 0) (nCons (gn 4) (nCons (gn 5) nNil)))))
def wQ:List En->Option Xv:=mirY xL 6 Z1
def vV:List Str:=["_law_script","_law_k"]
def jM:SD:=(sSeq (sIf (gb' (g2 fLt (gr 1) (gB fLen (gCons' (gr 0) gNil)))) (sRet (g2 fItem (gr 0) (gr 1))) sNext) (sRet (gc (.int 0))))
def yB:List En->Option En:=mir vV (jM)
def jS:List Str:=["_law_cell_here","_law_k","_law_number"]
def Yb:SD:=(sSeq (sSet 2 (g2 fMod (g2 fPlus (g2 fPlus (g2 fMul (g2 fMod (gr 0) (gc (.int 2147483647))) (gc (.int 48271))) (g2 fMul (gc (.int 69621)) (gr 1))) (gc (.int 7))) (gc (.int 2147483647)))) (sSeq (sSet 2 (g2 fMod (g2 fMul (gr 2) (gr 2)) (gc (.int 2147483629)))) (sRet (g2 fMod (g2 fPlus (g2 fPlus (g2 fMul (gr 2) (gr 2)) (g2 fMul (gc (.int 16807)) (gr 2))) (gc (.int 11))) (gc (.int 2147483587))))))
def jm:List En->Option En:=mir jS (Yb)
def kN:List Str:=["_law_script","_law_at_here","_law_bases","_law_cell_here","_law_found","_law_k","_law_base"]
def qt:SD:=(sIf (gb' (g2 (fEq false) (g2 fAnd (g2 fShr (gCall (len? 2 yB) frzO (nCons (gn 0) (nCons (gVal (gc (.int 0))) nNil))) (g2 fMod (gr 1) (gc (.int 8)))) (gc (.int 1))) (gc (.int 0)))) (sSeq (sApp 4 (g2 fMod (gr 3) (gr 6))) (sSet 3 (g2 fDiv (gr 3) (gr 6)))) (sApp 4 (g2 fMod (g2 fDiv (gCall (len? 2 jm) frzO (nCons (gn 3) (nCons (gn 5) nNil))) (gc (.int 8))) (gr 6))))
def uI:SD:=(sSeq (sSet 3 (gCall (len? 2 yB) frzO (nCons (gn 0) (nCons (gn 1) nNil)))) (sSeq (sSetA 4 (gLst gNil)) (sSeq (sFor (.tup [5,6]) (gEn (gCons' (gf 2) gNil)) qt) (sRetV 4))))
def yn:List En->Option En:=mir kN (uI)
def jU:List Str:=["_law_cell_here","_law_k","_law_signs","_law_size","_law_at_here","_law_left","_law_word","_law_j"]
def qT:SD:=(sSeq (sSet 6 (g2 fPlus (gr 6) (g2 fItem (gr 2) (g2 fMod (gr 5) (g2 fItem (gFz (gLst (gCons' (gc (.int 36)) (gCons' (gc (.int 26)) gNil)))) (gB fInt (gCons' (g2 (fEq false) (gr 7) (gc (.int 0))) gNil))))))) (sSet 5 (g2 fDiv (gr 5) (gc (.int 36)))))
def Yj:SD:=(sSeq (sSet 2 (gc (.str "abcdefghijklmnopqrstuvwxyz0123456789"))) (sSeq (sSet 3 (g2 fMod (gr 0) (gc (.int 8)))) (sSeq (sSet 4 (g2 fMod (g2 fDiv (gr 0) (gc (.int 8))) (g2 fPlus (gr 3) (gc (.int 1))))) (sSeq (sSet 5 (g2 fDiv (gr 0) (gc (.int 72)))) (sSeq (sSet 6 (gc (.str ""))) (sSeq (sFor (.name 7) (gR1 (gCons' (gr 3) gNil)) qT) (sRet (g2 fPlus (g2 fPlus (gSlS (gr 6) gNone (gSome (gr 4))) (g2 fItem (gr 2) (g2 fMod (g2 fPlus (gr 5) (gr 1)) (gc (.int 26))))) (gSlS (gr 6) (gSome (gr 4)) gNone)))))))))
def jC:List En->Option En:=mir jU (Yj)
def kg:List Str:=["_law_script","_law_many","_law_begin","_law_rest","_law_wide","_law_drawn","_law_rows","_law_k","_law_tickets","_law_long","_law_lefts","_law_queue","_law_left"]
def kW:SD:=(sApp 11 (gTup' (gCons' (gCall (len? 2 jC) frzO (nCons (gVal (gCall (len? 2 yB) frzO (nCons (gn 0) (nCons (gVal (gc (.int 4))) nNil)))) (nCons (gn 7) nNil))) (gCons' (g2 fPlus (gc (.int 1)) (g2 fMod (gr 12) (g2 fItem (gFz (gLst (gCons' (gc (.int 20)) (gCons' (gc (.int 5)) (gCons' (gc (.int 3)) (gCons' (gc (.int 5)) gNil)))))) (gr 9)))) gNil))))
def uh:SD:=(sApp 6 (gTup' (gCons' (g2 fPlus (gc (.int 1)) (g2 fItem (gr 5) (g2 fMul (gc (.int 2)) (gr 7)))) (gCons' (g2 fMod (g2 fItem (gr 5) (g2 fPlus (g2 fMul (gc (.int 2)) (gr 7)) (gc (.int 1)))) (g2 fItem (gFz (gLst (gCons' (gc (.int 9)) (gCons' (gc (.int 4)) (gCons' (gc (.int 3)) (gCons' (gc (.int 2)) gNil)))))) (gr 4))) gNil))))
def uO:SD:=(sSeq (sAsgL [1,2,3,4] (gFz (gCall (len? 3 yn) accO (nCons (gn 0) (nCons (gVal (gc (.int 1))) (nCons (gVal (gFz (gLst (gCons' (gc (.int 6)) (gCons' (gc (.int 21)) (gCons' (gc (.int 3)) (gCons' (gc (.int 4)) gNil))))))) nNil)))))) (sSeq (sSet 5 (gFz (gCall (len? 3 yn) accO (nCons (gn 0) (nCons (gVal (gc (.int 2))) (nCons (gVal (gFz (g2 fRep (gFz (gLst (gCons' (gc (.int 6)) (gCons' (gc (.int 36)) gNil)))) (gr 1)))) nNil)))))) (sSeq (sSetA 6 (gLst gNil)) (sSeq (sFor (.name 7) (gR1 (gCons' (gr 1) gNil)) uh) (sSeq (sAsgL [8,9] (gFz (gCall (len? 3 yn) accO (nCons (gn 0) (nCons (gVal (gc (.int 3))) (nCons (gVal (gFz (gLst (gCons' (gc (.int 9)) (gCons' (gc (.int 4)) gNil))))) nNil)))))) (sSeq (sSet 10 (gFz (gSl (gFz (gCall (len? 3 yn) accO (nCons (gn 0) (nCons (gVal (gc (.int 3))) (nCons (gVal (gFz (g2 fCatS (gFz (gLst (gCons' (gc (.int 9)) (gCons' (gc (.int 4)) gNil)))) (gFz (g2 fRep (gFz (gLst (gCons' (gc (.int 20)) gNil))) (gr 8)))))) nNil))))) (gSome (gc (.int 2))) gNone))) (sSeq (sSetA 11 (gLst gNil)) (sSeq (sFor (.tup [7,12]) (gEn (gCons' (gf 10) gNil)) kW) (sFrz 6 (sFrz 11 (sRet (gTup' (gCons' (gv 11) (gCons' (gv 6) (gCons' (g2 fPlus (gc (.int 1)) (gr 3)) (gCons' (gv 2) gNil))))))))))))))))
def jF:List En->Option En:=mir kg (uO)
def jc:List Str:=["_law_side","_law_turn","_law_rows","_law_rest","_law_first","_law_last","_law_counters","_law_left","_law_turns","_law_there"]
def qZ:SD:=(sSeq (sIf (gb' (g2 fLt (gr 7) (gr 8))) (sSeq (sSet 6 (gv 9)) sBrk) sNext) (sSet 7 (g2 fSub (gr 7) (gr 8))))
def kr:SD:=(sSeq (sAsg (.tup [2,3,4,5]) (gv 0)) (sSeq (sSet 6 (gv 3)) (sSeq (sSet 7 (gv 1)) (sSeq (sFor (.tup [8,9]) (gIt (gf 2)) qZ) (sRet (g2 fSub (gr 6) (gB fInt (gCons' (g3 fLe fLe (gr 4) (gr 1) (gr 5)) gNil))))))))
def vy:List En->Option En:=mir jc (kr)
def w5:List Str:=["_law_queue","_law_side","_law_begin","_law_some","_law_found","_law_turn","_law_many"]
def Jb:EnvD->Option D:=(gTup' (gCons' (gv 0) (gCons' (g2 fSub (gr 1) (gc (.int 1))) gNil)))
def ZE:EnvD->Option D:=(gv 0)
def kX:SD:=(sSeq (sSet 6 (gCall (len? 2 vy) frzO (nCons (gn 1) (nCons (gn 5) nNil)))) (sSeq (sApp 4 (gTup' (gCons' (gv 5) (gCons' (gFz (gComp ["_law_name_here","_law_left"] [] (.tup [0,1]) tYes ZE (gIt (gFz (gSl (gr 3) gNone (gSome (gr 6))))))) gNil)))) (sSeq (sSet 3 (gFz (g2 fCatS (gFz (gComp ["_law_name_here","_law_left"] [] (.tup [0,1]) (gb' (g2 fGt (gr 1) (gc (.int 1)))) Jb (gIt (gFz (gSl (gr 3) gNone (gSome (gr 6))))))) (gFz (gSl (gr 3) (gSome (gr 6)) gNone))))) (sSet 5 (g2 fPlus (gr 5) (gc (.int 1)))))))
def Yl:SD:=(sSeq (sSet 3 (gFz (gB fList (gCons' (gr 0) gNil)))) (sSeq (sSetA 4 (gLst gNil)) (sSeq (sSet 5 (gv 2)) (sSeq (sWhile (gb' (g2 (fEq true) (gr 3) (gFz (gLst gNil)))) kX) (sRetV 4)))))
def yV:List En->Option En:=mir w5 (Yl)
def kn:List Str:=["_law_run_here","_law_ends_here","_law_turn","_law_names","_law_name_here"]
def uS:SD:=(sPutD 1 (gr 4) (gv 2))
def Za:SD:=(sFor (.name 4) (gIt (gf 3)) uS)
def Zm:SD:=(sSeq (sSetD 1 gNewD) (sSeq (sFor (.tup [2,3]) (gIt (gf 0)) Za) (sRetVD 1)))
def xO:List En->Option En:=mir kn (Zm)
def vZ:List Str:=["_law_queue","_law_side","_law_begin","_law_promises_here","_law_run_here","_law_ends_here","_law_name_here","_law_left"]
def yP:SD:=(sIf (gAnd (gb' (gInD false (gr 6) (gk' 3))) (gb' (g2 fGt (gGetD (gk' 5) (gr 6)) (gGetD (gk' 3) (gr 6))))) (sRet (gTup' (gCons' (gc (.str "late")) (gCons' (gv 6) (gCons' (gGetD (gk' 3) (gr 6)) (gCons' (gGetD (gk' 5) (gr 6)) (gCons' (gv 4) gNil))))))) sNext)
def kK:SD:=(sSeq (sSet 4 (gFz (gCall (len? 3 yV) accO (nCons (gn 0) (nCons (gn 1) (nCons (gn 2) nNil)))))) (sSeq (sSetD 5 (gCall (len? 1 xO) dctO (nCons (gn 4) nNil))) (sSeq (sFor (.tup [6,7]) (gIt (gf 0)) yP) (sRet (gTup' (gCons' (gc (.str "granted")) gNil))))))
def vp:List En->Option En:=mir vZ (kK)
def qH:List Str:=["_law_script","_law_at_here","_law_queue","_law_side","_law_begin","_law_ends_here","_law_slack","_law_promises_here","_law_k","_law_ticket","_law_more"]
def xr:SD:=(sSeq (sSet 10 (g2 fItem (gr 6) (g2 fPlus (gr 8) (gc (.int 1))))) (sIf (gb' (g2 fLt (gr 10) (gc (.int 10)))) (sPutD 7 (g2 fItem (gr 9) (gc (.int 0))) (g2 fPlus (gGetD (gk' 5) (g2 fItem (gr 9) (gc (.int 0)))) (g2 fMod (gr 10) (gc (.int 7))))) (sIf (gAnd (gb' (g2 (fEq false) (gr 10) (gc (.int 10)))) (gb' (g2 (fEq false) (g2 fItem (gr 6) (gc (.int 0))) (gc (.int 3))))) (sPutD 7 (g2 fItem (gr 9) (gc (.int 0))) (g2 fSub (g2 fSub (gGetD (gk' 5) (g2 fItem (gr 9) (gc (.int 0)))) (gc (.int 1))) (g2 fMod (gr 8) (gc (.int 3))))) sNext)))
def uP:SD:=(sSeq (sSetD 5 (gCall (len? 1 xO) dctO (nCons (gVal (gFz (gCall (len? 3 yV) accO (nCons (gn 2) (nCons (gn 3) (nCons (gn 4) nNil)))))) nNil))) (sSeq (sSet 6 (gFz (gCall (len? 3 yn) accO (nCons (gn 0) (nCons (gn 1) (nCons (gVal (gFz (g2 fCatS (gFz (gLst (gCons' (gc (.int 4)) gNil))) (gFz (g2 fRep (gFz (gLst (gCons' (gc (.int 12)) gNil))) (gB fLen (gCons' (gr 2) gNil))))))) nNil)))))) (sSeq (sSetD 7 (gLit1 "nobody" 0)) (sSeq (sFor (.tup [8,9]) (gEn (gCons' (gf 2) gNil)) xr) (sRetVD 7)))))
def jE:List En->Option En:=mir qH (uP)
def jR:List Str:=["_law_found","_law_due"]
def uv:SD:=(sRet (gAndV (gIs "bool" (gr 0)) (g2 (fEq false) (gr 0) (gr 1))))
def jH:List En->Option En:=mir jR (uv)
def vY:List Str:=["_law_queue","_law_hours","_law_begin","_law_promises_here","_law_name_here","_law_ahead","_law_found","_law_word","_law_missing","e"]
def kB (C:Str->Addr):SD:=(sSeq (sSet 6 (gc .non)) (sSeq (sSet 7 (gc (.str "good"))) (sSeq (sSet 8 (gc .non)) (sSeq (sTryV [⟨some 9,[("NoTicket",[(7,jCon "none"),(8,jPay)])]⟩,⟨none,[("NoNumber",[(7,jCon "other")])]⟩] (sSet 6 (gCall (len? 6 (yH C)) frzO (nCons (gn 0) (nCons (gn 1) (nCons (gn 2) (nCons (gn 3) (nCons (gn 4) (nCons (gn 5) nNil)))))))) (yE (yCall wQ (nCons (gn 0) (nCons (gn 1) (nCons (gn 2) (nCons (gn 3) (nCons (gn 4) (nCons (gn 5) nNil))))))))) (sRet (gTup' (gCons' (gv 7) (gCons' (gv 8) (gCons' (gv 6) gNil)))))))))
def yN (C:Str->Addr):List En->Option En:=mir vY (kB C)
def j6:List Str:=["_law_queue","_law_name_here","_law_ahead","_law_names","_law_here","_law_place","_law_rest"]
def uw:EnvD->Option D:=(g2 fItem (gr 0) (gc (.int 0)))
def uQ:SD:=(sSeq (sSet 3 (gFz (gComp ["_law_ticket"] [] (.name 0) tYes uw (gIt (gr 0))))) (sSeq (sSet 4 (gSM fIndex (gr 3) (gCons' (gr 1) gNil))) (sSeq (sSet 5 (gB fMin (gCons' (gr 4) (gCons' (gSM fIndex (gr 3) (gCons' (gr 2) gNil)) gNil)))) (sSeq (sSet 6 (gFz (g2 fCatS (gFz (gSl (gr 0) gNone (gSome (gr 4)))) (gFz (gSl (gr 0) (gSome (g2 fPlus (gr 4) (gc (.int 1)))) gNone))))) (sRetA (g2 fCatS (gFz (g2 fCatS (gFz (gSl (gr 6) gNone (gSome (gr 5)))) (gFz (gLst (gCons' (g2 fItem (gr 0) (gr 4)) gNil))))) (gFz (gSl (gr 6) (gSome (gr 5)) gNone))))))))
def wd:List En->Option En:=mir j6 (uQ)
def qO:List Str:=["_law_queue","_law_side","_law_begin","_law_promises_here","_law_name_here","_law_ahead","_law_handed","_law_some","_law_word","_law_missing","_law_found","_law_names","_law_one","_law_lifted_one","_law_due"]
def y6:SD:=(sIf (gb' (g2 (fInX true) (gr 12) (gr 11))) (sRet (gAndV (g2 (fEq false) (gr 8) (gc (.str "none"))) (g2 (fEq false) (gr 9) (gr 12)))) sNext)
def jG:EnvD->Option D:=(g2 fItem (gr 0) (gc (.int 0)))
def xh (C:Str->Addr):SD:=(sSeq (sSetA 6 (gB fList (gCons' (gr 0) gNil))) (sSeq (sSetD 7 (gk' 3)) (sSeq (sAsg (.tup [8,9,10]) (gCall (len? 6 (yN C)) frzO (nCons (gn 6) (nCons (gVal (gMake (C "Hours") 2 (wH C) (nCons (gVal (gFz (gB fList (gCons' (g2 fItem (gr 1) (gc (.int 0))) gNil)))) (nCons (gVal (g2 fItem (gr 1) (gc (.int 1)))) nNil)))) (nCons (gn 2) (nCons (gn 7) (nCons (gn 4) (nCons (gn 5) nNil)))))))) (sSeq (sIf (gOr (gb' (g2 (fEq true) (gr 6) (gr 0))) (gb' (gEqD true (gk' 7) (gk' 3)))) (sRet (gc (.bl false))) sNext) (sSeq (sMut 6 mClear gNil) (sSeq (sClrD 7) (sSeq (sSet 11 (gFz (gComp ["_law_ticket"] [] (.name 0) tYes jG (gIt (gr 0))))) (sSeq (sFor (.name 12) (gIt (gFz (gLst (gCons' (gv 4) (gCons' (gv 5) gNil))))) y6) (sSeq (sIf (gb' (g2 (fEq true) (gr 8) (gc (.str "good")))) (sRet (gc (.bl false))) sNext) (sSeq (sSet 13 (gFz (gCall (len? 3 wd) accO (nCons (gn 0) (nCons (gn 4) (nCons (gn 5) nNil)))))) (sSeq (sSet 14 (gCall (len? 4 vp) frzO (nCons (gn 13) (nCons (gn 1) (nCons (gn 2) (nCons (gn 3) nNil)))))) (sSeq (sIf (gOr (gb' (g2 (fEq true) (yAlt (gMeth (C "Granted") "told" (len? 1 (xg C)) frzO (gv 10) nNil) (gMeth (C "Late") "told" (len? 1 (yF C)) frzO (gv 10) nNil)) (gr 14))) (gOr (gb' (g2 (fEq true) (yAlt (gFld (C "Granted") "queue" (gv 10)) (gFld (C "Late") "queue" (gv 10))) (gr 13))) (gb' (g2 (fIsB true) (yAlt (gMeth (C "Granted") "holds" (len? 2 (xJ C)) frzO (gv 10) (nCons (gn 3) nNil)) (gMeth (C "Late") "holds" (len? 2 (xG C)) frzO (gv 10) (nCons (gn 3) nNil))) (gc (.bl true)))))) (sRet (gc (.bl false))) sNext) (sRet (gCall (len? 2 jH) frzO (nCons (gVal (yAlt (gMeth (C "Granted") "granted" (len? 1 (xt C)) frzO (gv 10) nNil) (gMeth (C "Late") "granted" (len? 1 (yX C)) frzO (gv 10) nNil))) (nCons (gVal (g2 (fEq false) (g2 fItem (gr 14) (gc (.int 0))) (gc (.str "granted")))) nNil))))))))))))))))
def vJ (C:Str->Addr):List En->Option En:=mir qO (xh C)
def wW:List Str:=["_law_queue","_law_which","_law_odd"]
def vQ:SD:=(sSeq (sIf (gOr (gb' (g2 (fEq false) (gr 2) (gc (.int 3)))) (gb' (g2 (fEq false) (gr 0) (gFz (gLst gNil))))) (sRet (g2 fItem (gFz (gLst (gCons' (gc (.str "zz")) (gCons' (gc (.str "")) (gCons' (gc .non) (gCons' (gc (.int 7)) (gCons' (gc (.bl true)) (gCons' (gc (.str "nobody")) gNil)))))))) (g2 fMod (gr 1) (gc (.int 6))))) sNext) (sRet (g2 fItem (g2 fItem (gr 0) (g2 fMod (gr 1) (gB fLen (gCons' (gr 0) gNil)))) (gc (.int 0)))))
def yU:List En->Option En:=mir wW (vQ)
def kL:List Str:=["_law_script","_law_queue","_law_rows","_law_rest","_law_begin","_law_side","_law_at_here","_law_one","_law_other","_law_odd","_law_more","_law_promises_here","_law_name_here"]
def kq (C:Str->Addr):SD:=(sSeq (sAsgL [7,8,9,10] (gFz (gCall (len? 3 yn) accO (nCons (gn 0) (nCons (gn 6) (nCons (gVal (gFz (gLst (gCons' (gc (.int 24)) (gCons' (gc (.int 24)) (gCons' (gc (.int 4)) (gCons' (gc (.int 4)) gNil))))))) nNil)))))) (sSeq (sSetD 11 (gCall (len? 5 jE) dctO (nCons (gn 0) (nCons (gVal (g2 fPlus (gr 6) (gc (.int 1)))) (nCons (gn 1) (nCons (gn 5) (nCons (gn 4) nNil))))))) (sSeq (sSet 12 (gCall (len? 3 yU) frzO (nCons (gn 1) (nCons (gn 7) (nCons (gn 9) nNil))))) (sIf (gNot (gt (gCall (len? 6 (vJ C)) frzO (nCons (gn 1) (nCons (gn 5) (nCons (gn 4) (nCons (gn 11) (nCons (gn 12) (nCons (gVal (gCall (len? 3 yU) frzO (nCons (gn 1) (nCons (gn 8) (nCons (gn 10) nNil))))) nNil))))))))) (sRet (gc (.bl false))) sNext))))
def Zx (C:Str->Addr):SD:=(sSeq (sAsg (.tup [1,2,3,4]) (gCall (len? 1 jF) frzO (nCons (gn 0) nNil))) (sSeq (sSet 5 (gTup' (gCons' (gv 2) (gCons' (gv 3) (gCons' (gc (.int 1)) (gCons' (gc (.int 0)) gNil)))))) (sSeq (sFor (.name 6) (gR2 (gCons' (gc (.int 5)) (gCons' (gB fMax (gCons' (gc (.int 6)) (gCons' (gB fMin (gCons' (gB fLen (gCons' (gr 0) gNil)) (gCons' (gc (.int 39)) gNil))) gNil))) gNil))) (kq C)) (sRet (gc (.bl true))))))
def VQ (C:Str->Addr):List En->Option En:=mir kL (Zx C)
structure Txt (K:PySem.W.Frag)(mg:Str->Option Value)(C:Str->Addr):Prop where
 cl_Granted:Cls K (C "Granted")
 cl_Hours:Cls K (C "Hours")
 cl_Late:Cls K (C "Late")
 k0_Granted_Late:kitOne K (.ref (C "Granted")) (.ref (C "Late"))=some false
 mg_Verdict:mg "Verdict" = some (.ref (C "Verdict"))
 n_Granted_begin:NoAttr K (C "Granted") "begin"
 n_Granted_hours:NoAttr K (C "Granted") "hours"
 n_Granted_queue:NoAttr K (C "Granted") "queue"
 n_Hours_kept_rest:NoAttr K (C "Hours") "kept_rest"
 n_Hours_spans:NoAttr K (C "Hours") "spans"
 n_Late_begin:NoAttr K (C "Late") "begin"
 n_Late_hours:NoAttr K (C "Late") "hours"
 n_Late_name:NoAttr K (C "Late") "name"
 n_Late_promised:NoAttr K (C "Late") "promised"
 n_Late_queue:NoAttr K (C "Late") "queue"
 n_Late_run:NoAttr K (C "Late") "run"
 n_Late_turn:NoAttr K (C "Late") "turn"
 b_all:mg "all" = none
 b_bool:mg "bool" = none
 b_dict:mg "dict" = none
 b_enumerate:mg "enumerate" = none
 b_int:mg "int" = none
 b_isinstance:mg "isinstance" = none
 b_len:mg "len" = none
 b_list:mg "list" = none
 b_max:mg "max" = none
 b_min:mg "min" = none
 b_range:mg "range" = none
 b_str:mg "str" = none
 b_tuple:mg "tuple" = none
 c_FIGURES':∃t,mg "FIGURES" = some (.str "0123456789" t)
 c_LETTERS':∃t,mg "LETTERS" = some (.str "abcdefghijklmnopqrstuvwxyz" t)
 c_MOST_COUNTERS':∃t,mg "MOST_COUNTERS" = some (.int 8 t)
 c_MOST_ROWS':∃t,mg "MOST_ROWS" = some (.int 16 t)
 c_MOST_SIGNS':∃t,mg "MOST_SIGNS" = some (.int 8 t)
 c_MOST_TURNS':∃t,mg "MOST_TURNS" = some (.int 100 t)
structure Exs (P:Program)(w:World)(K:PySem.W.Frag)(mg:Str->Option Value)(base:Heap)(ca:Str->Addr):Prop where
 i_NoTicket:ExI P w K mg base (ca "NoTicket") (ca "HallError") "name"
 m_HallError:mg "HallError" = some (.ref (ca "HallError"))
 m_NoNumber:mg "NoNumber" = some (.ref (ca "NoNumber"))
 m_NoTicket:mg "NoTicket" = some (.ref (ca "NoTicket"))
 n_NoNumber_NoTicket:XN K (ca "NoNumber") (ca "NoTicket")
 x_NoNumber:XC0 K (ca "NoNumber")
 y_NoNumber_HallError:XM K (ca "NoNumber") (ca "HallError")
 y_NoTicket_NoTicket:XM K (ca "NoTicket") (ca "NoTicket")
section
variable {P:Program}{w:World}{K:PySem.W.Frag}{mg:Str->Option Value}{base:Heap}{C:Str->Addr}
theorem Ju:FnScope ["thing"] ["thing"] (zd wO):=#[5]
theorem Rt {f:Addr}{fd:FuncData}(T:Txt K mg C)(F:Fun K "is_whole" "is_whole" wO f fd):FnOk P w K mg base CX0 1 f fd ["thing"] (pSp ⟨K,w⟩ 1 (len? 1 (mir ["thing"] kU))):=by
 have sc:=Ju
 refine zu (k:=0) F Ju (λcdv A outer s H E B hr=>?_)
 exact (zf (zy (wj (vo (kitT "int" (by decide)) #[0] T.b_isinstance #[0] T.b_int #[6] (za 0 (pv 0))) (wT (Rh (vo (kitT "bool" (by decide)) #[0] T.b_isinstance #[0] T.b_bool #[6] (za 0 (pv 0))))))))
theorem JN:FnScope qI ["thing","low","high"] (zd wF):=#[5]
theorem zab {f:Addr}{fd:FuncData}(T:Txt K mg C)(F:Fun K "is_number" "is_number" wF f fd) (Hat:Fx P w K mg base "is_whole" 1 1 jk):FnOk P w K mg base CX0 2 f fd ["thing","low","high"] (pSp ⟨K,w⟩ 3 (len? 3 (mir qI Zk))):=by
 have sc:=JN
 refine zu (k:=1) F JN (λcdv A outer s H E B hr=>?_)
 exact (zf (zy (wj (zw Hat #[3] #[0] (zb (zc 0 (pv 0)) zi)) (wT (YN wE wE wk wk (za 1 (pv 1)) (za 0 (pv 0)) (za 2 (pv 2)))))))
theorem VM:FnScope ["thing"] ["thing"] (zd xD):=#[5]
theorem Gg {f:Addr}{fd:FuncData}(T:Txt K mg C)(F:Fun K "is_name" "is_name" xD f fd):FnOk P w K mg base CX0 1 f fd ["thing"] (pSp ⟨K,w⟩ 1 (len? 1 (mir ["thing"] jq))):=by
 obtain⟨tok_FIGURES,t_FIGURES⟩:=T.c_FIGURES'
 obtain⟨tok_LETTERS,t_LETTERS⟩:=T.c_LETTERS'
 obtain⟨tok_MOST_SIGNS,t_MOST_SIGNS⟩:=T.c_MOST_SIGNS'
 have sc:=VM
 refine zu (k:=0) F VM (λcdv A outer s H E B hr=>?_)
 exact (ze (zB (yy (xP (yK (yg (DE.read (vo (kitT "str" (by decide)) #[0] T.b_isinstance #[0] T.b_str #[6] (za 0 (pv 0)))) (by intro _;rfl))) (wX (yK (zb1 wE wE wk wk de_int.read (DE.read (y2 #[0] T.b_len (z6 (za 0 (pv 0)) zA))) (DE.read (xu (v:=.int 8) #[0] t_MOST_SIGNS (by exact⟨_,rfl⟩) (by intro _;rfl)))))))) (zf (zy yq)) zF) (zf (zy (wj (yQ Wt ok_in (DE.read (zv (za 0 (pv 0)) de_int.read #[7])) (DE.read (xu (v:=.str "abcdefghijklmnopqrstuvwxyz") #[0] t_LETTERS (by exact⟨_,rfl⟩) (by intro _;rfl))) #[0]) (wT (VX #[0] #[0] T.b_all (z6 (DA.read (ji (own:=["sign"]) (cap:=[]) (t:=(.name 0)) #[0] (yC (sc:=(zd xD).names) (N:=["thing"]) #[0] #[0] #[0] #[6]) (K6 (za 0 (pv 0))) (by decide) (λB' C' s₀ H₀ fp pn=>⟨(zk (i:=0) (show List.Nodup (["sign"]:List Str) from by decide +kernel) #[0] (locl #[0])),x5,(yQ Wt ok_in (za 0 (pv 0)) (DE.read (zD (DE.read (xu (v:=.str "abcdefghijklmnopqrstuvwxyz") #[0] t_LETTERS (by exact⟨_,rfl⟩) (by intro _;rfl))) (DE.read (xu (v:=.str "0123456789") #[0] t_FIGURES (by exact⟨_,rfl⟩) (by intro _;rfl))))) #[0])⟩))) zA)))))))
theorem YI:FnScope ["thing"] ["thing"] (zd vd):=#[5]
theorem U8 {f:Addr}{fd:FuncData}(T:Txt K mg C)(F:Fun K "is_row" "is_row" vd f fd) (Har:Fx P w K mg base "is_number" 2 3 yk):FnOk P w K mg base CX0 3 f fd ["thing"] (pSp ⟨K,w⟩ 1 (len? 1 (mir ["thing"] ZI))):=by
 obtain⟨tok_MOST_COUNTERS,t_MOST_COUNTERS⟩:=T.c_MOST_COUNTERS'
 obtain⟨tok_MOST_TURNS,t_MOST_TURNS⟩:=T.c_MOST_TURNS'
 have sc:=YI
 refine zu (k:=2) F YI (λcdv A outer s H E B hr=>?_)
 exact (ze (zB (yy (xP (yK (yg (DE.read (vo (kitT "tuple" (by decide)) #[0] T.b_isinstance #[0] T.b_tuple #[6] (za 0 (pv 0)))) (by intro _;rfl))) (wX (z9 (we hr.units) zI (DE.read (y2 #[0] T.b_len (z6 (za 0 (pv 0)) zA))) de_int.read (nomark _))))) (zf (zy yq)) zF) (zf (zy (wj (zw Har #[3] #[0] (zb (zq (zv (za 0 (pv 0)) de_int.read #[7])) (zb (zq de_int) (zb (zq (xu (v:=.int 100) #[0] t_MOST_TURNS (by exact⟨_,rfl⟩) (by intro _;rfl))) zi)))) (wT (zw Har #[3] #[0] (zb (zq (zv (za 0 (pv 0)) de_int.read #[7])) (zb (zq de_int) (zb (zq (xu (v:=.int 8) #[0] t_MOST_COUNTERS (by exact⟨_,rfl⟩) (by intro _;rfl))) zi)))))))))
theorem Qo:FnScope vU ["rows","rest"] (zd xY):=#[5]
theorem U0 {f:Addr}{fd:FuncData}(T:Txt K mg C)(F:Fun K "check_hours" "check_hours" xY f fd) (Har:Fx P w K mg base "is_number" 2 3 yk) (Has:Fx P w K mg base "is_row" 3 1 jn):FnOk P w K mg base CX0 4 f fd ["rows","rest"] (pSp ⟨K,w⟩ 2 (len? 2 (mir vU kR))):=by
 obtain⟨tok_MOST_COUNTERS,t_MOST_COUNTERS⟩:=T.c_MOST_COUNTERS'
 obtain⟨tok_MOST_ROWS,t_MOST_ROWS⟩:=T.c_MOST_ROWS'
 have sc:=Qo
 refine zu (k:=3) F Qo (λcdv A outer s H E B hr=>?_)
 exact (ze (zB (yy (xP (yK (yg (DE.read (vo (kitT "list" (by decide)) #[0] T.b_isinstance #[0] T.b_list #[6] (za 0 (pv 0)))) (by intro _;rfl))) (wX (z9 wJ wI (DE.read (y2 #[0] T.b_len (z6 (za 0 (pv 0)) zA))) (DE.read (xu (v:=.int 16) #[0] t_MOST_ROWS (by exact⟨_,rfl⟩) (by intro _;rfl))) (nomark _))))) (zf ja) zF) (ze (zB (yK (yg (DE.read (VX #[0] #[0] T.b_all (z6 (DA.read (ji (own:=["row"]) (cap:=[]) (t:=(.name 0)) #[0] (yC (sc:=(zd xY).names) (N:=vU) #[0] #[0] #[0] #[6]) (zL hb1 (DR.cur (za 0 (pv 0)))) (by decide) (λB' C' s₀ H₀ fp pn=>⟨(zk (i:=0) (show List.Nodup (["row"]:List Str) from by decide +kernel) #[0] (locl #[0])),x5,(zw Has #[3] #[0] (zb (zc 0 (pv 0)) zi))⟩))) zA))) (by intro _;rfl))) (zf ja) zF) (zf (zB (yK (yg (DE.read (zw Har #[3] #[0] (zb (zc 1 (pv 1)) (zb (zq de_int) (zb (zq (xu (v:=.int 8) #[0] t_MOST_COUNTERS (by exact⟨_,rfl⟩) (by intro _;rfl))) zi))))) (by intro _;rfl))) (zf ja) zF))))
theorem YV:FnScope kz ["rows","rest"] (zd ve):=#[5]
theorem UH {f:Addr}{fd:FuncData}(T:Txt K mg C)(F:Fun K "kept_rows" "kept_rows" ve f fd):FnOk P w K mg base CX0 1 f fd ["rows","rest"] (pSp ⟨K,w⟩ 2 (len? 2 (mir kz uG))):=by
 have sc:=YV
 refine zu (k:=0) F YV (λcdv A outer s H E B hr=>?_)
 exact (ze (yW (i:=2) sc.nd #[0] (locl #[0]) (zE zx)) (ze (zM (t:=(.tup [3,4])) PassesOwn.never #[0] (zL hb0 (zY 0 (pv 0))) (zK #[0] (zn (zk (i:=3) sc.nd #[0] (locl #[0])) (zn (zk (i:=4) sc.nd #[0] (locl #[0])) zH))) (zf (zB (yy (jD (yg (za 2 (pv 2)) (by intro _;rfl)) (jg (z9 (zV hr.units) zI (DE.read (zv (DE.read (zv (za 2 (pv 2)) (DE.read (qu de_int.read)) #[7])) de_int.read #[7])) (za 4 (pv 4)) (nomark _))))) (zf (zdx 2 (pv 2) (qu de_int.read) (zS (zj (zD (DE.read (zv (DE.read (zv (za 2 (pv 2)) (DE.read (qu de_int.read)) #[7])) de_int.read #[7])) (za 3 (pv 3))) (zj (zg 4 (pv 4)) zx))))) (zf (zB (z9 wJ wI (za 3 (pv 3)) de_int.read (nomark _)) (zf (xq 2 (pv 2) (zS (zj (zg 3 (pv 3)) (zj (zg 4 (pv 4)) zx))))) zF))))) (ze (zB (yy (jD (yg (za 2 (pv 2)) (by intro _;rfl)) (jg (z9 (zV hr.units) zI (DE.read (zv (DE.read (zv (za 2 (pv 2)) (DE.read (qu de_int.read)) #[7])) de_int.read #[7])) (za 1 (pv 1)) (nomark _))))) (zf (KF 2 QY (pv 2))) zF) (zf (xl 2 (pv 2))))))
theorem Qp:FnScope qU ["rows"] (zd wl):=#[5]
theorem za7 {f:Addr}{fd:FuncData}(T:Txt K mg C)(F:Fun K "spans_of" "spans_of" wl f fd):FnOk P w K mg base CX0 1 f fd ["rows"] (pSp ⟨K,w⟩ 1 (len? 1 (mir qU Zl))):=by
 have sc:=Qp
 refine zu (k:=0) F Qp (λcdv A outer s H E B hr=>?_)
 exact (ze (yW (i:=1) sc.nd #[0] (locl #[0]) (zE zx)) (ze (zp (i:=2) sc.nd #[0] (locl #[0]) de_int) (ze (zM (t:=(.tup [3,4])) PassesOwn.never #[0] (zL hb0 (zY 0 (pv 0))) (zK #[0] (zn (zk (i:=3) sc.nd #[0] (locl #[0])) (zn (zk (i:=4) sc.nd #[0] (locl #[0])) zH))) (ze (xq 1 (pv 1) (zS (zj (zg 2 (pv 2)) (zj (zD (za 2 (pv 2)) (za 3 (pv 3))) (zj (zg 4 (pv 4)) zx))))) (zf (zp (i:=2) sc.nd #[0] (locl #[0]) (zD (za 2 (pv 2)) (za 3 (pv 3))))))) (zf (xl 1 (pv 1))))))
theorem Ja:FnScope jr ["self","rows","rest"] (zd wV):=#[5]
theorem zbi {f:Addr}{fd:FuncData}(T:Txt K mg C)(F:Fun K "__init__" "Hours.__init__" wV f fd) (Hbh:Fx P w K mg base "spans_of" 1 1 j7) (Hau:Fx P w K mg base "kept_rows" 1 2 jb) (Han:Fx P w K mg base "check_hours" 4 2 jz):FnOk P w K mg base CX0 5 f fd ["self","rows","rest"] (iSp ⟨K,w⟩ (C "Hours") 2 (mirI (C "Hours") ["self","rows","rest"] (jJ C))):=by
 have sc:=Ja
 refine qS (k:=4) F Ja rfl (λcdv A outer s H E B hr=>?_)
 exact (ze (UL (zw Han #[3] #[0] (zb (zc 1 (pv 1)) (zb (zc 2 (pv 2)) zi)))) (ze (yj 0 T.cl_Hours T.n_Hours_kept_rest (pv 0) (zg 2 (pv 2))) (zf (yj 0 T.cl_Hours T.n_Hours_spans (pv 0) (zw Hbh #[3] #[0] (zb (zq (zw Hau #[3] #[0] (zb (zc 1 (pv 1)) (zb (zc 2 (pv 2)) zi)))) zi))))))
theorem W3:FnScope jX ["self","turn"] (zd vf):=#[5]
theorem RX {f:Addr}{fd:FuncData}(T:Txt K mg C)(F:Fun K "at" "Hours.at" vf f fd):FnOk P w K mg base CX0 1 f fd ["self","turn"] (pSp ⟨K,w⟩ 2 (len? 2 (mir jX (Zw C)))):=by
 have sc:=W3
 refine zu (k:=0) F W3 (λcdv A outer s H E B hr=>?_)
 exact (ze (zp (i:=2) sc.nd #[0] (locl #[0]) de_int) (ze (zp (i:=3) sc.nd #[0] (locl #[0]) (y2 #[0] T.b_len (z6 (DE.read (zG T.cl_Hours T.n_Hours_spans (zg 0 (pv 0)))) zA))) (ze (ur PassesOwn.never (z9 v2 wP (za 2 (pv 2)) (za 3 (pv 3)) (nomark _)) (ze (zp (i:=4) sc.nd #[0] (locl #[0]) (w9 (DE.read (zD (za 2 (pv 2)) (za 3 (pv 3)))) de_int.read)) (zf (zB (z9 v2 wP (za 1 (pv 1)) (DE.read (zv (DE.read (zv (DE.read (zG T.cl_Hours T.n_Hours_spans (zg 0 (pv 0)))) (za 4 (pv 4)) #[7])) de_int.read #[7])) (nomark _)) (zf (zp (i:=3) sc.nd #[0] (locl #[0]) (zg 4 (pv 4)))) (zf (zp (i:=2) sc.nd #[0] (locl #[0]) (zD (za 4 (pv 4)) de_int.read))))))) (zf (zy (zbo (z9 v2 wP (za 2 (pv 2)) (DE.read (y2 #[0] T.b_len (z6 (DE.read (zG T.cl_Hours T.n_Hours_spans (zg 0 (pv 0)))) zA))) (nomark _)) (zv (DE.read (zv (DE.read (zG T.cl_Hours T.n_Hours_spans (zg 0 (pv 0)))) (za 2 (pv 2)) #[7])) de_int.read #[7]) (zG T.cl_Hours T.n_Hours_kept_rest (zg 0 (pv 0)))))))))
theorem Vh:FnScope ["queue"] ["queue"] (zd xQ):=#[5]
theorem zcq {f:Addr}{fd:FuncData}(T:Txt K mg C)(F:Fun K "names_of" "names_of" xQ f fd):FnOk P w K mg base CX0 1 f fd ["queue"] (pSp ⟨K,w⟩ 1 (len? 1 (mir ["queue"] ZG))):=by
 have sc:=Vh
 refine zu (k:=0) F Vh (λcdv A outer s H E B hr=>?_)
 exact (zf (jV (ji (own:=["name","left"]) (cap:=[]) (t:=(.tup [0,1])) #[0] (yC (sc:=(zd xQ).names) (N:=["queue"]) #[0] #[0] #[0] #[6]) (zL hb1 (DR.cur (za 0 (pv 0)))) (by decide) (λB' C' s₀ H₀ fp pn=>⟨(zK #[0] (zn (zk (i:=0) (show List.Nodup (["name","left"]:List Str) from by decide +kernel) #[0] (locl #[0])) (zn (zk (i:=1) (show List.Nodup (["name","left"]:List Str) from by decide +kernel) #[0] (locl #[0])) zH))),x5,(zg 0 (pv 0))⟩))))
theorem qm:FnScope y4 ["queue","name"] (zd xU):=#[5]
theorem zeu {f:Addr}{fd:FuncData}(T:Txt K mg C)(F:Fun K "place_of" "place_of" xU f fd) (Haq:Fx P w K mg base "is_name" 1 1 yo):FnOk P w K mg base CX0 2 f fd ["queue","name"] (pSp ⟨K,w⟩ 2 (len? 2 (mir y4 jw))):=by
 have sc:=qm
 refine zu (k:=1) F qm (λcdv A outer s H E B hr=>?_)
 exact (ze (zB (yg (DE.read (zw Haq #[3] #[0] (zb (zc 1 (pv 1)) zi))) (by intro _;rfl)) (zf (zM (t:=(.tup [2,3])) PassesOwn.never #[0] (jB hb0 #[0] T.b_enumerate (vM hb0 (zY 0 (pv 0)) vR)) (zK #[0] (zn (zk (i:=2) sc.nd #[0] (locl #[0])) (zn (zk (i:=3) sc.nd #[0] (locl #[0])) zH))) (zf (zB (z9 (zV hr.units) zI (DE.read (zv (za 3 (pv 3)) de_int.read #[7])) (za 1 (pv 1)) (nomark _)) (zf (xl 2 (pv 2))) zF)))) zF) (zf ja))
theorem zef {f:Addr}{fd:FuncData}(T:Txt K mg C)(F:Fun K "place_of" "place_of" xU f fd) {ca:Str->Addr} (U:Exs P w K mg base ca) (Haq:Fx P w K mg base "is_name" 1 1 yo):FnOk P w K mg base (CX1 P w) 3 f fd ["queue","name"] (ySp ⟨K,w⟩ ca "name" 2 (mirY ["queue","name","place","ticket"] 2 jf)):=by
 obtain⟨fI_NoTicket,xc_NoTicket,f0_NoTicket,ps_NoTicket,FI_NoTicket,bI_NoTicket⟩:=U.i_NoTicket
 have sc:=qm
 refine qr (k:=2) F qm (λcdv A outer s H E B pn hr=>?_)
 exact (u8 (zB (yg (DE.read (zw Haq #[3] #[0] (zb (zc 1 (pv 1)) zi))) (by intro _;rfl)) (zf (zM (t:=(.tup [2,3])) PassesOwn.never #[0] (jB hb0 #[0] T.b_enumerate (vM hb0 (zY 0 (pv 0)) vR)) (zK #[0] (zn (zk (i:=2) sc.nd #[0] (locl #[0])) (zn (zk (i:=3) sc.nd #[0] (locl #[0])) zH))) (zf (zB (z9 (zV hr.units) zI (DE.read (zv (za 3 (pv 3)) de_int.read #[7])) (za 1 (pv 1)) (nomark _)) (zf (xl 2 (pv 2))) zF)))) zF) (UM (nm := "NoTicket") rfl rfl xc_NoTicket FI_NoTicket bI_NoTicket #[3] #[0] U.m_NoTicket (zg 1 (pv 1))))
theorem kx:FnScope vT ["queue","name","place"] (zd xE):=#[5]
theorem zea {f:Addr}{fd:FuncData}(T:Txt K mg C)(F:Fun K "placed" "placed" xE f fd) (Har:Fx P w K mg base "is_number" 2 3 yk) (Hbd:Fx P w K mg base "place_of" 2 2 zQ):FnOk P w K mg base CX0 3 f fd ["queue","name","place"] (pSp ⟨K,w⟩ 3 (len? 3 (mir vT Zf))):=by
 have sc:=kx
 refine zu (k:=2) F kx (λcdv A outer s H E B hr=>?_)
 exact (ze (zp (i:=3) sc.nd #[0] (locl #[0]) (zw Hbd #[3] #[0] (zb (zc 0 (pv 0)) (zb (zc 1 (pv 1)) zi)))) (ze (zB (yK (yg (DE.read (zw Har #[3] #[0] (zb (zc 2 (pv 2)) (zb (zq de_int) (zb (zc 3 (pv 3)) zi))))) (by intro _;rfl))) (zf ja) zF) (zf (jV (y3 (DA.read (y3 (DA.read (y3 (DA.read (yh (za 0 (pv 0)) ya (zP (za 2 (pv 2))))) (DA.read (zE (zj (zv (za 0 (pv 0)) (za 3 (pv 3)) #[7]) zx))))) (DA.read (yh (za 0 (pv 0)) (zP (za 2 (pv 2))) (zP (za 3 (pv 3))))))) (DA.read (yh (za 0 (pv 0)) (zP (DE.read (zD (za 3 (pv 3)) de_int.read))) ya)))))))
theorem zce {f:Addr}{fd:FuncData}(T:Txt K mg C)(F:Fun K "placed" "placed" xE f fd) {ca:Str->Addr} (U:Exs P w K mg base ca) (Har:Fx P w K mg base "is_number" 2 3 yk) (Hbd:Fx P w K mg base "place_of" 2 2 zQ) (Hbl:Ry P w K mg base ca "name" "place_of" 3 2 yt):FnOk P w K mg base (CX1 P w) 4 f fd ["queue","name","place"] (ySp ⟨K,w⟩ ca "name" 3 (mirY ["queue","name","place","own"] 3 Wm)):=by
 have sc:=kx
 refine qr (k:=3) F kx (λcdv A outer s H E B pn hr=>?_)
 exact (ZB (Zh (i:=3) sc.nd #[0] (locl #[0]) (wy wv Hbl wc #[3] #[0] (zb (zc 0 (pv 0)) (zb (zc 1 (pv 1)) zi)))) (u8 (zp (i:=3) sc.nd #[0] (locl #[0]) (zw Hbd #[3] #[0] (zb (zc 0 (pv 0)) (zb (zc 1 (pv 1)) zi)))) (Uo (yK (yg (DE.read (zw Har #[3] #[0] (zb (zc 2 (pv 2)) (zb (zq de_int) (zb (zc 3 (pv 3)) zi))))) (by intro _;rfl))) (RL (nm := "NoNumber") rfl rfl U.x_NoNumber #[0] U.m_NoNumber zW) Rj)))
theorem kc:FnScope yI ["queue","name","ahead"] (zd x0):=#[5]
theorem UV {f:Addr}{fd:FuncData}(T:Txt K mg C)(F:Fun K "lifted" "lifted" x0 f fd) (Hbe:Fx P w K mg base "placed" 3 3 vE) (Hbd:Fx P w K mg base "place_of" 2 2 zQ):FnOk P w K mg base CX0 4 f fd ["queue","name","ahead"] (pSp ⟨K,w⟩ 3 (len? 3 (mir yI j8))):=by
 have sc:=kc
 refine zu (k:=3) F kc (λcdv A outer s H E B hr=>?_)
 exact (ze (zp (i:=3) sc.nd #[0] (locl #[0]) (zw Hbd #[3] #[0] (zb (zc 0 (pv 0)) (zb (zc 1 (pv 1)) zi)))) (zf (jV (yi Hbe #[3] #[0] (zb (zc 0 (pv 0)) (zb (zc 1 (pv 1)) (zb (zq (qJ #[0] #[0] T.b_min (z6 (za 3 (pv 3)) (z6 (DE.read (zw Hbd #[3] #[0] (zb (zc 0 (pv 0)) (zb (zc 2 (pv 2)) zi)))) zA)))) zi)))))))
theorem zbc {f:Addr}{fd:FuncData}(T:Txt K mg C)(F:Fun K "lifted" "lifted" x0 f fd) {ca:Str->Addr} (U:Exs P w K mg base ca) (Hbe:Fx P w K mg base "placed" 3 3 vE) (Hbd:Fx P w K mg base "place_of" 2 2 zQ) (Hbl:Ry P w K mg base ca "name" "place_of" 3 2 yt) (Hbm:Ry P w K mg base ca "name" "placed" 4 3 ZW):FnOk P w K mg base (CX1 P w) 5 f fd ["queue","name","ahead"] (ySp ⟨K,w⟩ ca "name" 3 (mirY ["queue","name","ahead","own"] 3 qW)):=by
 have sc:=kc
 refine qr (k:=4) F kc (λcdv A outer s H E B pn hr=>?_)
 exact (ZB (Zh (i:=3) sc.nd #[0] (locl #[0]) (wy wv Hbl wc #[3] #[0] (zb (zc 0 (pv 0)) (zb (zc 1 (pv 1)) zi)))) (u8 (zp (i:=3) sc.nd #[0] (locl #[0]) (zw Hbd #[3] #[0] (zb (zc 0 (pv 0)) (zb (zc 1 (pv 1)) zi)))) (ZB (ug (VN Hbe #[0] (Ys (zc 0 (pv 0)) (Ys (zc 1 (pv 1)) (Zq (zfz (id := "min") (Uq (za 3 (pv 3)) (Zq (wy wv Hbl wc #[3] #[0] (zb (zc 0 (pv 0)) (zb (zc 2 (pv 2)) zi))))) #[0] T.b_min #[6])))))) (ug (wy wv Hbm wc #[3] #[0] (zb (zc 0 (pv 0)) (zb (zc 1 (pv 1)) (zb (zq (qJ #[0] #[0] T.b_min (z6 (za 3 (pv 3)) (z6 (DE.read (zw Hbd #[3] #[0] (zb (zc 0 (pv 0)) (zb (zc 2 (pv 2)) zi)))) zA)))) zi))))))))
theorem Vn:FnScope vh ["queue","many"] (zd x3):=#[5]
theorem GR {f:Addr}{fd:FuncData}(T:Txt K mg C)(F:Fun K "turn_served" "turn_served" x3 f fd) (Hbb:Fx P w K mg base "names_of" 1 1 jp):FnOk P w K mg base CX0 2 f fd ["queue","many"] (pSp ⟨K,w⟩ 2 (len? 2 (mir vh qD))):=by
 have sc:=Vn
 refine zu (k:=1) F Vn (λcdv A outer s H E B hr=>?_)
 exact (ze (zp (i:=2) sc.nd #[0] (locl #[0]) (DA.frz (yh (za 0 (pv 0)) ya (zP (za 1 (pv 1)))))) (ze (uD (i:=3) (own:=["name","left"]) (cap:=[]) (t:=(.tup [0,1])) #[0] (yC (sc:=(zd x3).names) (N:=vh) #[0] #[0] #[0] #[6]) (zL hb1 (DR.cur (za 2 (pv 2)))) (by decide) (λB' C' s₀ H₀ fp pn=>⟨(zK #[0] (zn (zk (i:=0) (show List.Nodup (["name","left"]:List Str) from by decide +kernel) #[0] (locl #[0])) (zn (zk (i:=1) (show List.Nodup (["name","left"]:List Str) from by decide +kernel) #[0] (locl #[0])) zH))),(Jo (z9 wJ wI (za 1 (pv 1)) de_int.read (nomark _))),(zS (zj (zg 0 (pv 0)) (zj (wU (za 1 (pv 1)) de_int.read) zx)))⟩) sc.nd #[0] (locl #[0])) (zf (zy (zS (zj (DA.frz (yi Hbb #[3] #[0] (zb (zc 2 (pv 2)) zi))) (zj (DA.frz (y3 (za 3 (pv 3)) (DA.read (yh (za 0 (pv 0)) (zP (za 1 (pv 1))) ya)))) zx)))))))
theorem Wy:FnScope qR ["queue","hours","begin","real"] (zd yG):=#[5]
theorem UD {f:Addr}{fd:FuncData}(T:Txt K mg C)(F:FunD K "run_of" "run_of" yG f fd) (Hbi:Fx P w K mg base "turn_served" 2 2 yA) (Hag:Mx P w K mg base (C "Hours") "at" 1 2 (j0 C)):FnOk P w K mg base CX0 3 f fd ["queue","hours","begin","real"] (pSp ⟨K,w⟩ 4 (len? 4 (mir qR (uU C)))):=by
 have sc:=Wy
 refine zdy (k:=2) F Wy (λcdv A outer s H E B hr=>?_)
 exact (ze (zfv (i:=4) sc.nd #[0] (locl #[0]) (Ul (z9 VC Wj (za 3 (pv 3)) (DE.read vA) (nomark _)) (zd8 0 (pv 0)) (zah QK))) (ze (yW (i:=5) sc.nd #[0] (locl #[0]) (zE zx)) (ze (ur PassesOwn.never (yg (za 4 (pv 4)) (by intro _;rfl)) (ze (zp (i:=6) sc.nd #[0] (locl #[0]) (zD (za 2 (pv 2)) (DE.read (y2 #[0] T.b_len (z6 (za 5 (pv 5)) zA))))) (ze (zp (i:=7) sc.nd #[0] (locl #[0]) (zw Hbi #[3] #[0] (zb (zc 4 (pv 4)) (zb (zq (ZV (zg 1 (pv 1)) T.cl_Hours Hag #[3] (zb (zc 6 (pv 6)) zi))) zi)))) (ze (xq 5 (pv 5) (zS (zj (zg 6 (pv 6)) (zj (zv (za 7 (pv 7)) de_int.read #[7]) zx)))) (zf (zp (i:=4) sc.nd #[0] (locl #[0]) (zv (za 7 (pv 7)) de_int.read #[7]))))))) (zf (xl 5 (pv 5))))))
theorem WQ:FnScope qQ ["rows"] (zd w4):=#[5]
theorem RU {f:Addr}{fd:FuncData}(T:Txt K mg C)(F:Fun K "ends_of" "ends_of" w4 f fd):FnOk P w K mg base CX0 1 f fd ["rows"] (pSp ⟨K,w⟩ 1 (len? 1 (mir qQ ZH))):=by
 have sc:=WQ
 refine zu (k:=0) F WQ (λcdv A outer s H E B hr=>?_)
 exact (ze (yZ (j:=1) sc.nd #[0] (locl #[0]) Jv) (ze (zM (t:=(.tup [2,3])) PassesOwn.never #[0] (zL hb0 (zY 0 (pv 0))) (zK #[0] (zn (zk (i:=2) sc.nd #[0] (locl #[0])) (zn (zk (i:=3) sc.nd #[0] (locl #[0])) zH))) (zf (zM (t:=(.name 4)) PassesOwn.never #[0] (zL hb0 (zY 3 (pv 3))) (zk (i:=4) sc.nd #[0] (locl #[0])) (zf (qF 1 (pv 1) (za 4 (pv 4)) (zg 2 (pv 2))))))) (zf (ZN 1 (pv 1)))))
theorem Wi:FnScope ["self"] ["self"] (zd wN):=#[5]
theorem RH {f:Addr}{fd:FuncData}(T:Txt K mg C)(F:Fun K "granted" "Granted.granted" wN f fd):FnOk P w K mg base CX0 1 f fd ["self"] (pSp ⟨K,w⟩ 1 (len? 1 (mir ["self"] (kQ C)))):=by
 have sc:=Wi
 refine zu (k:=0) F Wi (λcdv A outer s H E B hr=>?_)
 exact (zf (zy yq))
theorem WY:FnScope ["self"] ["self"] (zd vG):=#[5]
theorem Gq {f:Addr}{fd:FuncData}(T:Txt K mg C)(F:Fun K "word" "Granted.word" vG f fd):FnOk P w K mg base CX0 1 f fd ["self"] (pSp ⟨K,w⟩ 1 (len? 1 (mir ["self"] (kZ C)))):=by
 have sc:=WY
 refine zu (k:=0) F WY (λcdv A outer s H E B hr=>?_)
 exact (zf (zy zW))
theorem Vm:FnScope jt ["self","queue","hours","begin"] (zd vn):=#[5]
theorem zcv {f:Addr}{fd:FuncData}(T:Txt K mg C)(F:Fun K "__init__" "Verdict.__init__" vn f fd):FnOk P w K mg base CX0 1 f fd ["self","queue","hours","begin"] (iSp ⟨K,w⟩ (C "Granted") 3 (mirI (C "Granted") ["self","queue","hours","begin"] (qv C))):=by
 have sc:=Vm
 refine qS (k:=0) F Vm rfl (λcdv A outer s H E B hr=>?_)
 exact (ze (yj 0 T.cl_Granted T.n_Granted_queue (pv 0) (DA.frz (vw #[0] T.b_list (z6 (za 1 (pv 1)) zA)))) (ze (yj 0 T.cl_Granted T.n_Granted_hours (pv 0) (zg 2 (pv 2))) (zf (yj 0 T.cl_Granted T.n_Granted_begin (pv 0) (zg 3 (pv 3))))))
theorem QH:FnScope ["self"] ["self"] (zd vH):=#[5]
theorem Ki {f:Addr}{fd:FuncData}(T:Txt K mg C)(F:Fun K "told" "Verdict.told" vH f fd) (Hae:Mx P w K mg base (C "Granted") "word" 1 1 (kA C)):FnOk P w K mg base CX0 2 f fd ["self"] (pSp ⟨K,w⟩ 1 (len? 1 (mir ["self"] (uz C)))):=by
 have sc:=QH
 refine zu (k:=1) F QH (λcdv A outer s H E B hr=>?_)
 exact (zf (u9 (ZK (yY (DE.tree (yx (zg 0 (pv 0)) T.cl_Granted Hae #[3])) ZM))))
theorem WB:FnScope ["self"] ["self"] (zd wC):=#[5]
theorem zc6 {f:Addr}{fd:FuncData}(T:Txt K mg C)(F:Fun K "word" "Late.word" wC f fd):FnOk P w K mg base CX0 1 f fd ["self"] (pSp ⟨K,w⟩ 1 (len? 1 (mir ["self"] (Zz C)))):=by
 have sc:=WB
 refine zu (k:=0) F WB (λcdv A outer s H E B hr=>?_)
 exact (zf (zy zW))
theorem Wa:FnScope ["self"] ["self"] (zd vk):=#[5]
theorem RV {f:Addr}{fd:FuncData}(T:Txt K mg C)(F:Fun K "granted" "Verdict.granted" vk f fd):FnOk P w K mg base CX0 1 f fd ["self"] (pSp ⟨K,w⟩ 1 (len? 1 (mir ["self"] (Z3 C)))):=by
 have sc:=Wa
 refine zu (k:=0) F Wa (λcdv A outer s H E B hr=>?_)
 exact (zf (zy yq))
theorem Vg:FnScope jt ["self","queue","hours","begin"] (zd wp):=#[5]
theorem QL {f:Addr}{fd:FuncData}(T:Txt K mg C)(F:Fun K "__init__" "Verdict.__init__" wp f fd):FnOk P w K mg base CX0 1 f fd ["self","queue","hours","begin"] (iSp ⟨K,w⟩ (C "Late") 3 (mirI (C "Late") ["self","queue","hours","begin"] (Yf C))):=by
 have sc:=Vg
 refine qS (k:=0) F Vg rfl (λcdv A outer s H E B hr=>?_)
 exact (ze (yj 0 T.cl_Late T.n_Late_queue (pv 0) (DA.frz (vw #[0] T.b_list (z6 (za 1 (pv 1)) zA)))) (ze (yj 0 T.cl_Late T.n_Late_hours (pv 0) (zg 2 (pv 2))) (zf (yj 0 T.cl_Late T.n_Late_begin (pv 0) (zg 3 (pv 3))))))
theorem WT:FnScope ["rows"] ["rows"] (zd xF):=#[5]
theorem UZ {f:Addr}{fd:FuncData}(T:Txt K mg C)(F:Fun K "own_rows" "own_rows" xF f fd):FnOk P w K mg base CX0 1 f fd ["rows"] (pSp ⟨K,w⟩ 1 (len? 1 (mir ["rows"] uo))):=by
 have sc:=WT
 refine zu (k:=0) F WT (λcdv A outer s H E B hr=>?_)
 exact (zf (u9 (QT (own:=["turn","names"]) (cap:=[]) (t:=(.tup [0,1])) #[0] (yC (sc:=(zd xF).names) (N:=["rows"]) #[0] #[0] #[0] #[6]) (zL hb1 (DR.cur (za 0 (pv 0)))) (by decide) (λB' C' s₀ H₀ fp pn=>⟨(zK #[0] (zn (zk (i:=0) (show List.Nodup (["turn","names"]:List Str) from by decide +kernel) #[0] (locl #[0])) (zn (zk (i:=1) (show List.Nodup (["turn","names"]:List Str) from by decide +kernel) #[0] (locl #[0])) zH))),x5,(ZK (yY (DE.tree (zg 0 (pv 0))) (yY (DA.tree (vw #[0] T.b_list (z6 (za 1 (pv 1)) zA))) ZM)))⟩))))
theorem JP:FnScope qC ["self","queue","hours","begin","name","promised","turn","run"] (zd vF):=#[5]
theorem ze7 {f:Addr}{fd:FuncData}(T:Txt K mg C)(F:Fun K "__init__" "Late.__init__" vF f fd) (Hbc:Fx P w K mg base "own_rows" 1 1 xx) (b_Late_Verdict:Bo P w K mg base (C "Verdict") (C "Late") 1 3 (xo C)):FnOk P w K mg base CX0 2 f fd ["self","queue","hours","begin","name","promised","turn","run"] (iSp ⟨K,w⟩ (C "Late") 7 (mirI (C "Late") ["self","queue","hours","begin","name","promised","turn","run"] (kI C))):=by
 have sc:=JP
 refine qS (k:=1) F JP rfl (λcdv A outer s H E B hr=>?_)
 exact (ze (zf2 0 b_Late_Verdict #[3] #[0] T.mg_Verdict (pv 0) (zb (zc 1 (pv 1)) (zb (zc 2 (pv 2)) (zb (zc 3 (pv 3)) zi)))) (ze (yj 0 T.cl_Late T.n_Late_name (pv 0) (zg 4 (pv 4))) (ze (yj 0 T.cl_Late T.n_Late_promised (pv 0) (zg 5 (pv 5))) (ze (yj 0 T.cl_Late T.n_Late_turn (pv 0) (zg 6 (pv 6))) (zf (yj 0 T.cl_Late T.n_Late_run (pv 0) (zw Hbc #[3] #[0] (zb (zc 7 (pv 7)) zi))))))))
theorem QF:FnScope ["self"] ["self"] (zd vi):=#[5]
theorem Gk {f:Addr}{fd:FuncData}(T:Txt K mg C)(F:Fun K "told" "Late.told" vi f fd) (Hbc:Fx P w K mg base "own_rows" 1 1 xx) (Hal:Mx P w K mg base (C "Late") "word" 1 1 (qw C)):FnOk P w K mg base CX0 2 f fd ["self"] (pSp ⟨K,w⟩ 1 (len? 1 (mir ["self"] (ZR C)))):=by
 have sc:=QF
 refine zu (k:=1) F QF (λcdv A outer s H E B hr=>?_)
 exact (zf (u9 (ZK (yY (DE.tree (yx (zg 0 (pv 0)) T.cl_Late Hal #[3])) (yY (DE.tree (zG T.cl_Late T.n_Late_name (zg 0 (pv 0)))) (yY (DE.tree (zG T.cl_Late T.n_Late_promised (zg 0 (pv 0)))) (yY (DE.tree (zG T.cl_Late T.n_Late_turn (zg 0 (pv 0)))) (yY (Ug Hbc #[3] #[0] (zb (zq (zG T.cl_Late T.n_Late_run (zg 0 (pv 0)))) zi)) ZM))))))))
theorem JU:FnScope jK ["queue","ends","promises"] (zd wa):=#[5]
theorem zcd {f:Addr}{fd:FuncData}(T:Txt K mg C)(F:Fun K "first_late" "first_late" wa f fd):FnOk P w K mg base CX0 1 f fd ["queue","ends","promises"] (pSp ⟨K,w⟩ 3 (len? 3 (mir jK qg))):=by
 have sc:=JU
 refine zu (k:=0) F JU (λcdv A outer s H E B hr=>?_)
 exact (ze (zM (t:=(.tup [3,4])) PassesOwn.never #[0] (zL hb0 (zY 0 (pv 0))) (zK #[0] (zn (zk (i:=3) sc.nd #[0] (locl #[0])) (zn (zk (i:=4) sc.nd #[0] (locl #[0])) zH))) (zf (zB (yy (jD (QA (za 3 (pv 3)) (zU 2 (pv 2))) (jg (z9 wJ wI (DE.read (y8 (zU 1 (pv 1)) (za 3 (pv 3)))) (DE.read (y8 (zU 2 (pv 2)) (za 3 (pv 3)))) (nomark _))))) (zf (xl 3 (pv 3))) zF))) (zf (zy vA)))
theorem Wz:FnScope j5 ["queue","hours","begin","promises"] (zd wu):=#[5]
theorem zev {f:Addr}{fd:FuncData}(T:Txt K mg C)(F:Fun K "settled" "settled" wu f fd) (Hap:Fx P w K mg base "first_late" 1 3 wz) (Hao:Fx P w K mg base "ends_of" 1 1 vN) (Hbf:FxN P w K mg base "run_of" 3 4 (xW C)) (Haa:Kx P w K mg base (C "Granted") "Granted" 1 3 (xA C)) (Hah:Kx P w K mg base (C "Late") "Late" 2 7 (xV C)):FnOk P w K mg base CX0 4 f fd ["queue","hours","begin","promises"] (pSp ⟨K,w⟩ 4 (len? 4 (mir j5 (q9 C)))):=by
 have sc:=Wz
 refine zu (k:=3) F Wz (λcdv A outer s H E B hr=>?_)
 exact (ze (zp (i:=4) sc.nd #[0] (locl #[0]) (DA.frz (zfm Hbf #[3] #[0] (zb (zc 0 (pv 0)) (zb (zc 1 (pv 1)) (zb (zc 2 (pv 2)) zi)))))) (ze (yZ (j:=5) sc.nd #[0] (locl #[0]) (jY Hao #[3] #[0] (zb (zc 4 (pv 4)) zi))) (ze (zp (i:=6) sc.nd #[0] (locl #[0]) (zw Hap #[3] #[0] (zb (zc 0 (pv 0)) (zb (zc 5 (pv 5)) (zb (zc 3 (pv 3)) zi))))) (ze (zB (z9 VC Wj (za 6 (pv 6)) (DE.read vA) (nomark _)) (zf (zy (Zd Haa #[3] #[0] (zb (zc 0 (pv 0)) (zb (zc 1 (pv 1)) (zb (zc 2 (pv 2)) zi)))))) zF) (zf (zy (Zd Hah #[3] #[0] (zb (zc 0 (pv 0)) (zb (zc 1 (pv 1)) (zb (zc 2 (pv 2)) (zb (zc 6 (pv 6)) (zb (zq (y8 (zU 3 (pv 3)) (za 6 (pv 6)))) (zb (zq (y8 (zU 5 (pv 5)) (za 6 (pv 6)))) (zb (zc 4 (pv 4)) zi))))))))))))))
theorem W4:FnScope xz ["self","promises"] (zd wA):=#[5]
theorem zfl {f:Addr}{fd:FuncData}(T:Txt K mg C)(F:Fun K "holds" "Granted.holds" wA f fd) (Hbg:Fx P w K mg base "settled" 4 4 (zZ C)) (Hab:Mx P w K mg base (C "Granted") "granted" 1 1 (xt C)) (Hai:Mx P w K mg base (C "Late") "granted" 1 1 (yX C)):FnOk P w K mg base CX0 5 f fd ["self","promises"] (pSp ⟨K,w⟩ 2 (len? 2 (mir xz (jZ C)))):=by
 have sc:=W4
 refine zu (k:=4) F W4 (λcdv A outer s H E B hr=>?_)
 exact (zf (zy (wf (yx (zw Hbg #[3] #[0] (zb (zq (zG T.cl_Granted T.n_Granted_queue (zg 0 (pv 0)))) (zb (zq (zG T.cl_Granted T.n_Granted_hours (zg 0 (pv 0)))) (zb (zq (zG T.cl_Granted T.n_Granted_begin (zg 0 (pv 0)))) (zb (zc 1 (pv 1)) zi))))) T.cl_Granted Hab #[3]) (yx (zw Hbg #[3] #[0] (zb (zq (zG T.cl_Granted T.n_Granted_queue (zg 0 (pv 0)))) (zb (zq (zG T.cl_Granted T.n_Granted_hours (zg 0 (pv 0)))) (zb (zq (zG T.cl_Granted T.n_Granted_begin (zg 0 (pv 0)))) (zb (zc 1 (pv 1)) zi))))) T.cl_Late Hai #[3]))))
theorem Qy:FnScope xz ["self","promises"] (zd w6):=#[5]
theorem Uc {f:Addr}{fd:FuncData}(T:Txt K mg C)(F:Fun K "holds" "Late.holds" w6 f fd) (Hbg:Fx P w K mg base "settled" 4 4 (zZ C)) (Had:Mx P w K mg base (C "Granted") "told" 2 1 (xg C)) (Hak:Mx P w K mg base (C "Late") "told" 2 1 (yF C)):FnOk P w K mg base CX0 5 f fd ["self","promises"] (pSp ⟨K,w⟩ 2 (len? 2 (mir xz (km C)))):=by
 have sc:=Qy
 refine zu (k:=4) F Qy (λcdv A outer s H E B hr=>?_)
 exact (zf (zy (yQ (zV hr.units) zI (DE.read (wf (yx (zw Hbg #[3] #[0] (zb (zq (zG T.cl_Late T.n_Late_queue (zg 0 (pv 0)))) (zb (zq (zG T.cl_Late T.n_Late_hours (zg 0 (pv 0)))) (zb (zq (zG T.cl_Late T.n_Late_begin (zg 0 (pv 0)))) (zb (zc 1 (pv 1)) zi))))) T.cl_Granted Had #[3]) (yx (zw Hbg #[3] #[0] (zb (zq (zG T.cl_Late T.n_Late_queue (zg 0 (pv 0)))) (zb (zq (zG T.cl_Late T.n_Late_hours (zg 0 (pv 0)))) (zb (zq (zG T.cl_Late T.n_Late_begin (zg 0 (pv 0)))) (zb (zc 1 (pv 1)) zi))))) T.cl_Late Hak #[3]))) (DE.read (yx (zg 0 (pv 0)) T.cl_Late Hak #[3])) (nomark _))))
theorem qM:FnScope xL ["queue","hours","begin","promises","name","ahead"] (zd xZ):=#[5]
theorem zcg {f:Addr}{fd:FuncData}(T:Txt K mg C)(F:Fun K "ask_lift" "ask_lift" xZ f fd) (Hbg:Fx P w K mg base "settled" 4 4 (zZ C)) (Hba:Fx P w K mg base "lifted" 4 3 yu):FnOk P w K mg base CX0 5 f fd ["queue","hours","begin","promises","name","ahead"] (pSp ⟨K,w⟩ 6 (len? 6 (mir xL (qx C)))):=by
 have sc:=qM
 refine zu (k:=4) F qM (λcdv A outer s H E B hr=>?_)
 exact (zf (zy (zw Hbg #[3] #[0] (zb (zq (DA.frz (yi Hba #[3] #[0] (zb (zc 0 (pv 0)) (zb (zc 4 (pv 4)) (zb (zc 5 (pv 5)) zi)))))) (zb (zc 1 (pv 1)) (zb (zc 2 (pv 2)) (zb (zc 3 (pv 3)) zi)))))))
theorem zcl {f:Addr}{fd:FuncData}(T:Txt K mg C)(F:Fun K "ask_lift" "ask_lift" xZ f fd) {ca:Str->Addr} (U:Exs P w K mg base ca) (Hbg:Fx P w K mg base "settled" 4 4 (zZ C)) (Hbk:Ry P w K mg base ca "name" "lifted" 5 3 yS):FnOk P w K mg base (CX1 P w) 6 f fd ["queue","hours","begin","promises","name","ahead"] (ySp ⟨K,w⟩ ca "name" 6 (mirY ["queue","hours","begin","promises","name","ahead"] 6 Z1)):=by
 have sc:=qM
 refine qr (k:=5) F qM (λcdv A outer s H E B pn hr=>?_)
 exact (ug (VN Hbg #[0] (Zq (wy wv Hbk wc #[3] #[0] (zb (zc 0 (pv 0)) (zb (zc 4 (pv 4)) (zb (zc 5 (pv 5)) zi)))))))
theorem YR:FnScope vV ["_law_script","_law_k"] (zd wK):=#[5]
theorem Us {f:Addr}{fd:FuncData}(T:Txt K mg C)(F:Fun K "_law_cell" "_law_cell" wK f fd):FnOk P w K mg base CX0 1 f fd ["_law_script","_law_k"] (pSp ⟨K,w⟩ 2 (len? 2 (mir vV jM))):=by
 have sc:=YR
 refine zu (k:=0) F YR (λcdv A outer s H E B hr=>?_)
 exact (ze (zB (z9 v2 wP (za 1 (pv 1)) (DE.read (y2 #[0] T.b_len (z6 (za 0 (pv 0)) zA))) (nomark _)) (zf (zy (zv (za 0 (pv 0)) (za 1 (pv 1)) #[7]))) zF) (zf (zy de_int)))
theorem Ww:FnScope jS ["_law_cell_here","_law_k"] (zd wD):=#[5]
theorem RD {f:Addr}{fd:FuncData}(T:Txt K mg C)(F:Fun K "_law_stir" "_law_stir" wD f fd):FnOk P w K mg base CX0 1 f fd ["_law_cell_here","_law_k"] (pSp ⟨K,w⟩ 2 (len? 2 (mir jS Yb))):=by
 have sc:=Ww
 refine zu (k:=0) F Ww (λcdv A outer s H E B hr=>?_)
 exact (ze (zp (i:=2) sc.nd #[0] (locl #[0]) (zN (DE.read (zD (DE.read (zD (DE.read (xS (DE.read (zN (za 0 (pv 0)) de_int.read)) de_int.read)) (DE.read (xS de_int.read (za 1 (pv 1)))))) de_int.read)) de_int.read)) (ze (zp (i:=2) sc.nd #[0] (locl #[0]) (zN (DE.read (xS (za 2 (pv 2)) (za 2 (pv 2)))) de_int.read)) (zf (zy (zN (DE.read (zD (DE.read (zD (DE.read (xS (za 2 (pv 2)) (za 2 (pv 2)))) (DE.read (xS de_int.read (za 2 (pv 2)))))) de_int.read)) de_int.read)))))
theorem Wo:FnScope kN ["_law_script","_law_at_here","_law_bases"] (zd vt):=#[5]
theorem zft {f:Addr}{fd:FuncData}(T:Txt K mg C)(F:Fun K "_law_draw" "_law_draw" vt f fd) (Hax:Fx P w K mg base "_law_cell" 1 2 yB) (Ha6:Fx P w K mg base "_law_stir" 1 2 jm):FnOk P w K mg base CX0 2 f fd ["_law_script","_law_at_here","_law_bases"] (pSp ⟨K,w⟩ 3 (len? 3 (mir kN uI))):=by
 have sc:=Wo
 refine zu (k:=1) F Wo (λcdv A outer s H E B hr=>?_)
 exact (ze (zp (i:=3) sc.nd #[0] (locl #[0]) (zw Hax #[3] #[0] (zb (zc 0 (pv 0)) (zb (zc 1 (pv 1)) zi)))) (ze (yW (i:=4) sc.nd #[0] (locl #[0]) (zE zx)) (ze (zM (t:=(.tup [5,6])) PassesOwn.never #[0] (jB hb0 #[0] T.b_enumerate (vM hb0 (zY 2 (pv 2)) vR)) (zK #[0] (zn (zk (i:=5) sc.nd #[0] (locl #[0])) (zn (zk (i:=6) sc.nd #[0] (locl #[0])) zH))) (zf (zB (z9 (zV hr.units) zI (DE.read (UF (DE.read (zds (DE.read (zw Hax #[3] #[0] (zb (zc 0 (pv 0)) (zb (zq de_int) zi)))) (DE.read (zN (za 1 (pv 1)) de_int.read)))) de_int.read)) de_int.read (nomark _)) (ze (xq 4 (pv 4) (zN (za 3 (pv 3)) (za 6 (pv 6)))) (zf (zp (i:=3) sc.nd #[0] (locl #[0]) (w9 (za 3 (pv 3)) (za 6 (pv 6)))))) (zf (xq 4 (pv 4) (zN (DE.read (w9 (DE.read (zw Ha6 #[3] #[0] (zb (zc 3 (pv 3)) (zb (zc 5 (pv 5)) zi)))) de_int.read)) (za 6 (pv 6)))))))) (zf (xl 4 (pv 4))))))
theorem Vp:FnScope jU ["_law_cell_here","_law_k"] (zd wL):=#[5]
theorem zel {f:Addr}{fd:FuncData}(T:Txt K mg C)(F:Fun K "_law_name" "_law_name" wL f fd):FnOk P w K mg base CX0 1 f fd ["_law_cell_here","_law_k"] (pSp ⟨K,w⟩ 2 (len? 2 (mir jU Yj))):=by
 have sc:=Vp
 refine zu (k:=0) F Vp (λcdv A outer s H E B hr=>?_)
 exact (ze (zp (i:=2) sc.nd #[0] (locl #[0]) zW) (ze (zp (i:=3) sc.nd #[0] (locl #[0]) (zN (za 0 (pv 0)) de_int.read)) (ze (zp (i:=4) sc.nd #[0] (locl #[0]) (zN (DE.read (w9 (za 0 (pv 0)) de_int.read)) (DE.read (zD (za 3 (pv 3)) de_int.read)))) (ze (zp (i:=5) sc.nd #[0] (locl #[0]) (w9 (za 0 (pv 0)) de_int.read)) (ze (zp (i:=6) sc.nd #[0] (locl #[0]) zW) (ze (zM (t:=(.name 7)) PassesOwn.never #[0] (QJ #[0] T.b_range (z6 (za 3 (pv 3)) zA)) (zk (i:=7) sc.nd #[0] (locl #[0])) (ze (zp (i:=6) sc.nd #[0] (locl #[0]) (zD (za 6 (pv 6)) (DE.read (zv (za 2 (pv 2)) (DE.read (zN (za 5 (pv 5)) (DE.read (zv (DA.read (zE (zj de_int (zj de_int zx)))) (DE.read (JF #[0] T.b_int (z6 (DE.read (yQ (zV hr.units) zI (za 7 (pv 7)) de_int.read (nomark _))) zA))) #[7])))) #[7])))) (zf (zp (i:=5) sc.nd #[0] (locl #[0]) (w9 (za 5 (pv 5)) de_int.read))))) (zf (zy (zD (DE.read (zD (DE.read (Qr (za 6 (pv 6)) ya (zP (za 4 (pv 4))))) (DE.read (zv (za 2 (pv 2)) (DE.read (zN (DE.read (zD (za 5 (pv 5)) (za 1 (pv 1)))) de_int.read)) #[7])))) (DE.read (Qr (za 6 (pv 6)) (zP (za 4 (pv 4))) ya)))))))))))
theorem Yr:FnScope kg ["_law_script"] (zd wR):=#[5]
theorem RR {f:Addr}{fd:FuncData}(T:Txt K mg C)(F:Fun K "_law_world" "_law_world" wR f fd) (Ha2:Fx P w K mg base "_law_name" 1 2 jC) (Hax:Fx P w K mg base "_law_cell" 1 2 yB) (Hay:Fx P w K mg base "_law_draw" 2 3 yn):FnOk P w K mg base CX0 3 f fd ["_law_script"] (pSp ⟨K,w⟩ 1 (len? 1 (mir kg uO))):=by
 have sc:=Yr
 refine zu (k:=2) F Yr (λcdv A outer s H E B hr=>?_)
 exact (ze (Yh (is:=[1,2,3,4]) (DA.frz (yi Hay #[3] #[0] (zb (zc 0 (pv 0)) (zb (zq de_int) (zb (zq (DA.frz (zE (zj de_int (zj de_int (zj de_int (zj de_int zx))))))) zi))))) (Zp #[0] (zn (zk (i:=1) sc.nd #[0] (locl #[0])) (zn (zk (i:=2) sc.nd #[0] (locl #[0])) (zn (zk (i:=3) sc.nd #[0] (locl #[0])) (zn (zk (i:=4) sc.nd #[0] (locl #[0])) zH)))))) (ze (zp (i:=5) sc.nd #[0] (locl #[0]) (DA.frz (yi Hay #[3] #[0] (zb (zc 0 (pv 0)) (zb (zq de_int) (zb (zq (DA.frz (Z9 (DA.read (zE (zj de_int (zj de_int zx)))) (za 1 (pv 1))))) zi)))))) (ze (yW (i:=6) sc.nd #[0] (locl #[0]) (zE zx)) (ze (zM (t:=(.name 7)) PassesOwn.never #[0] (QJ #[0] T.b_range (z6 (za 1 (pv 1)) zA)) (zk (i:=7) sc.nd #[0] (locl #[0])) (zf (xq 6 (pv 6) (zS (zj (zD de_int.read (DE.read (zv (za 5 (pv 5)) (DE.read (xS de_int.read (za 7 (pv 7)))) #[7]))) (zj (zN (DE.read (zv (za 5 (pv 5)) (DE.read (zD (DE.read (xS de_int.read (za 7 (pv 7)))) de_int.read)) #[7])) (DE.read (zv (DA.read (zE (zj de_int (zj de_int (zj de_int (zj de_int zx)))))) (za 4 (pv 4)) #[7]))) zx)))))) (ze (Yh (is:=[8,9]) (DA.frz (yi Hay #[3] #[0] (zb (zc 0 (pv 0)) (zb (zq de_int) (zb (zq (DA.frz (zE (zj de_int (zj de_int zx))))) zi))))) (Zp #[0] (zn (zk (i:=8) sc.nd #[0] (locl #[0])) (zn (zk (i:=9) sc.nd #[0] (locl #[0])) zH)))) (ze (zp (i:=10) sc.nd #[0] (locl #[0]) (DA.frz (yh (DA.read (yi Hay #[3] #[0] (zb (zc 0 (pv 0)) (zb (zq de_int) (zb (zq (DA.frz (y3 (DA.read (zE (zj de_int (zj de_int zx)))) (DA.read (Z9 (DA.read (zE (zj de_int zx))) (za 8 (pv 8))))))) zi))))) (zP de_int.read) ya))) (ze (yW (i:=11) sc.nd #[0] (locl #[0]) (zE zx)) (ze (zM (t:=(.tup [7,12])) PassesOwn.never #[0] (jB hb0 #[0] T.b_enumerate (vM hb0 (zY 10 (pv 10)) vR)) (zK #[0] (zn (zk (i:=7) sc.nd #[0] (locl #[0])) (zn (zk (i:=12) sc.nd #[0] (locl #[0])) zH))) (zf (xq 11 (pv 11) (zS (zj (zw Ha2 #[3] #[0] (zb (zq (zw Hax #[3] #[0] (zb (zc 0 (pv 0)) (zb (zq de_int) zi)))) (zb (zc 7 (pv 7)) zi))) (zj (zD de_int.read (DE.read (zN (za 12 (pv 12)) (DE.read (zv (DA.read (zE (zj de_int (zj de_int (zj de_int (zj de_int zx)))))) (za 9 (pv 9)) #[7]))))) zx)))))) (zf (VL 6 (VL 11 (zy (zS (zj (zg 11 (pv 11)) (zj (zg 6 (pv 6)) (zj (zD de_int.read (za 3 (pv 3))) (zj (zg 2 (pv 2)) zx)))))))))))))))))
theorem Y3:FnScope jc ["_law_side","_law_turn"] (zd vj):=#[5]
theorem Kr {f:Addr}{fd:FuncData}(T:Txt K mg C)(F:Fun K "_law_at" "_law_at" vj f fd):FnOk P w K mg base CX0 1 f fd ["_law_side","_law_turn"] (pSp ⟨K,w⟩ 2 (len? 2 (mir jc kr))):=by
 have sc:=Y3
 refine zu (k:=0) F Y3 (λcdv A outer s H E B hr=>?_)
 exact (ze (ZS (t:=(.tup [2,3,4,5])) (zg 0 (pv 0)) (zK #[0] (zn (zk (i:=2) sc.nd #[0] (locl #[0])) (zn (zk (i:=3) sc.nd #[0] (locl #[0])) (zn (zk (i:=4) sc.nd #[0] (locl #[0])) (zn (zk (i:=5) sc.nd #[0] (locl #[0])) zH)))))) (ze (zp (i:=6) sc.nd #[0] (locl #[0]) (zg 3 (pv 3))) (ze (zp (i:=7) sc.nd #[0] (locl #[0]) (zg 1 (pv 1))) (ze (zM (t:=(.tup [8,9])) PassesOwn.never #[0] (zL hb0 (zY 2 (pv 2))) (zK #[0] (zn (zk (i:=8) sc.nd #[0] (locl #[0])) (zn (zk (i:=9) sc.nd #[0] (locl #[0])) zH))) (ze (zB (z9 v2 wP (za 7 (pv 7)) (za 8 (pv 8)) (nomark _)) (ze (zp (i:=6) sc.nd #[0] (locl #[0]) (zg 9 (pv 9))) (zf Rm)) zF) (zf (zp (i:=7) sc.nd #[0] (locl #[0]) (wU (za 7 (pv 7)) (za 8 (pv 8))))))) (zf (zy (wU (za 6 (pv 6)) (DE.read (JF #[0] T.b_int (z6 (DE.read (YN wE wE wk wk (za 4 (pv 4)) (za 1 (pv 1)) (za 5 (pv 5)))) zA))))))))))
theorem WO:FnScope w5 ["_law_queue","_law_side","_law_begin"] (zd yR):=#[5]
theorem GC {f:Addr}{fd:FuncData}(T:Txt K mg C)(F:Fun K "_law_run" "_law_run" yR f fd) (Haw:Fx P w K mg base "_law_at" 1 2 vy):FnOk P w K mg base CX0 2 f fd ["_law_queue","_law_side","_law_begin"] (pSp ⟨K,w⟩ 3 (len? 3 (mir w5 Yl))):=by
 have sc:=WO
 refine zu (k:=1) F WO (λcdv A outer s H E B hr=>?_)
 exact (ze (zp (i:=3) sc.nd #[0] (locl #[0]) (DA.frz (vw #[0] T.b_list (z6 (za 0 (pv 0)) zA)))) (ze (yW (i:=4) sc.nd #[0] (locl #[0]) (zE zx)) (ze (zp (i:=5) sc.nd #[0] (locl #[0]) (zg 2 (pv 2))) (ze (ur PassesOwn.never (z9 (we hr.units) zI (za 3 (pv 3)) (DA.read (zE zx)) (nomark _)) (ze (zp (i:=6) sc.nd #[0] (locl #[0]) (zw Haw #[3] #[0] (zb (zc 1 (pv 1)) (zb (zc 5 (pv 5)) zi)))) (ze (xq 4 (pv 4) (zS (zj (zg 5 (pv 5)) (zj (DA.frz (ji (own:=["_law_name_here","_law_left"]) (cap:=[]) (t:=(.tup [0,1])) #[0] (yC (sc:=(zd yR).names) (N:=w5) #[0] #[0] #[0] #[6]) (zL hb1 (DR.cur (DA.read (yh (za 3 (pv 3)) ya (zP (za 6 (pv 6))))))) (by decide) (λB' C' s₀ H₀ fp pn=>⟨(zK #[0] (zn (zk (i:=0) (show List.Nodup (["_law_name_here","_law_left"]:List Str) from by decide +kernel) #[0] (locl #[0])) (zn (zk (i:=1) (show List.Nodup (["_law_name_here","_law_left"]:List Str) from by decide +kernel) #[0] (locl #[0])) zH))),x5,(zg 0 (pv 0))⟩))) zx)))) (ze (zp (i:=3) sc.nd #[0] (locl #[0]) (DA.frz (y3 (DA.read (ji (own:=["_law_name_here","_law_left"]) (cap:=[]) (t:=(.tup [0,1])) #[0] (yC (sc:=(zd yR).names) (N:=w5) #[0] #[0] #[0] #[6]) (zL hb1 (DR.cur (DA.read (yh (za 3 (pv 3)) ya (zP (za 6 (pv 6))))))) (by decide) (λB' C' s₀ H₀ fp pn=>⟨(zK #[0] (zn (zk (i:=0) (show List.Nodup (["_law_name_here","_law_left"]:List Str) from by decide +kernel) #[0] (locl #[0])) (zn (zk (i:=1) (show List.Nodup (["_law_name_here","_law_left"]:List Str) from by decide +kernel) #[0] (locl #[0])) zH))),(Jo (z9 wJ wI (za 1 (pv 1)) de_int.read (nomark _))),(zS (zj (zg 0 (pv 0)) (zj (wU (za 1 (pv 1)) de_int.read) zx)))⟩))) (DA.read (yh (za 3 (pv 3)) (zP (za 6 (pv 6))) ya))))) (zf (zp (i:=5) sc.nd #[0] (locl #[0]) (zD (za 5 (pv 5)) de_int.read))))))) (zf (xl 4 (pv 4)))))))
theorem Y2:FnScope kn ["_law_run_here"] (zd wb):=#[5]
theorem RO {f:Addr}{fd:FuncData}(T:Txt K mg C)(F:Fun K "_law_ends" "_law_ends" wb f fd):FnOk P w K mg base CX0 1 f fd ["_law_run_here"] (pSp ⟨K,w⟩ 1 (len? 1 (mir kn Zm))):=by
 have sc:=Y2
 refine zu (k:=0) F Y2 (λcdv A outer s H E B hr=>?_)
 exact (ze (yZ (j:=1) sc.nd #[0] (locl #[0]) Jv) (ze (zM (t:=(.tup [2,3])) PassesOwn.never #[0] (zL hb0 (zY 0 (pv 0))) (zK #[0] (zn (zk (i:=2) sc.nd #[0] (locl #[0])) (zn (zk (i:=3) sc.nd #[0] (locl #[0])) zH))) (zf (zM (t:=(.name 4)) PassesOwn.never #[0] (zL hb0 (zY 3 (pv 3))) (zk (i:=4) sc.nd #[0] (locl #[0])) (zf (qF 1 (pv 1) (za 4 (pv 4)) (zg 2 (pv 2))))))) (zf (ZN 1 (pv 1)))))
theorem WW:FnScope vZ ["_law_queue","_law_side","_law_begin","_law_promises_here"] (zd v9):=#[5]
theorem RG {f:Addr}{fd:FuncData}(T:Txt K mg C)(F:Fun K "_law_verdict" "_law_verdict" v9 f fd) (Haz:Fx P w K mg base "_law_ends" 1 1 xO) (Ha5:Fx P w K mg base "_law_run" 2 3 yV):FnOk P w K mg base CX0 3 f fd ["_law_queue","_law_side","_law_begin","_law_promises_here"] (pSp ⟨K,w⟩ 4 (len? 4 (mir vZ kK))):=by
 have sc:=WW
 refine zu (k:=2) F WW (λcdv A outer s H E B hr=>?_)
 exact (ze (zp (i:=4) sc.nd #[0] (locl #[0]) (DA.frz (yi Ha5 #[3] #[0] (zb (zc 0 (pv 0)) (zb (zc 1 (pv 1)) (zb (zc 2 (pv 2)) zi)))))) (ze (yZ (j:=5) sc.nd #[0] (locl #[0]) (jY Haz #[3] #[0] (zb (zc 4 (pv 4)) zi))) (ze (zM (t:=(.tup [6,7])) PassesOwn.never #[0] (zL hb0 (zY 0 (pv 0))) (zK #[0] (zn (zk (i:=6) sc.nd #[0] (locl #[0])) (zn (zk (i:=7) sc.nd #[0] (locl #[0])) zH))) (zf (zB (yy (jD (QA (za 6 (pv 6)) (zU 3 (pv 3))) (jg (z9 wJ wI (DE.read (y8 (zU 5 (pv 5)) (za 6 (pv 6)))) (DE.read (y8 (zU 3 (pv 3)) (za 6 (pv 6)))) (nomark _))))) (zf (zy (zS (zj zW (zj (zg 6 (pv 6)) (zj (y8 (zU 3 (pv 3)) (za 6 (pv 6))) (zj (y8 (zU 5 (pv 5)) (za 6 (pv 6))) (zj (zg 4 (pv 4)) zx (y0 rfl)) (y0 rfl)) (y0 rfl)) (y0 rfl)) (y0 rfl))))) zF))) (zf (zy (zS (zj zW zx)))))))
theorem YZ:FnScope qH ["_law_script","_law_at_here","_law_queue","_law_side","_law_begin"] (zd wS):=#[5]
theorem zaj {f:Addr}{fd:FuncData}(T:Txt K mg C)(F:Fun K "_law_promises" "_law_promises" wS f fd) (Hay:Fx P w K mg base "_law_draw" 2 3 yn) (Haz:Fx P w K mg base "_law_ends" 1 1 xO) (Ha5:Fx P w K mg base "_law_run" 2 3 yV):FnOk P w K mg base CX0 3 f fd ["_law_script","_law_at_here","_law_queue","_law_side","_law_begin"] (pSp ⟨K,w⟩ 5 (len? 5 (mir qH uP))):=by
 have sc:=YZ
 refine zu (k:=2) F YZ (λcdv A outer s H E B hr=>?_)
 exact (ze (yZ (j:=5) sc.nd #[0] (locl #[0]) (jY Haz #[3] #[0] (zb (zq (DA.frz (yi Ha5 #[3] #[0] (zb (zc 2 (pv 2)) (zb (zc 3 (pv 3)) (zb (zc 4 (pv 4)) zi)))))) zi))) (ze (zp (i:=6) sc.nd #[0] (locl #[0]) (DA.frz (yi Hay #[3] #[0] (zb (zc 0 (pv 0)) (zb (zc 1 (pv 1)) (zb (zq (DA.frz (y3 (DA.read (zE (zj de_int zx))) (DA.read (Z9 (DA.read (zE (zj de_int zx))) (DE.read (y2 #[0] T.b_len (z6 (za 2 (pv 2)) zA)))))))) zi)))))) (ze (yZ (j:=7) sc.nd #[0] (locl #[0]) U3) (ze (zM (t:=(.tup [8,9])) PassesOwn.never #[0] (jB hb0 #[0] T.b_enumerate (vM hb0 (zY 2 (pv 2)) vR)) (zK #[0] (zn (zk (i:=8) sc.nd #[0] (locl #[0])) (zn (zk (i:=9) sc.nd #[0] (locl #[0])) zH))) (ze (zp (i:=10) sc.nd #[0] (locl #[0]) (zv (za 6 (pv 6)) (DE.read (zD (za 8 (pv 8)) de_int.read)) #[7])) (zf (zB (z9 v2 wP (za 10 (pv 10)) de_int.read (nomark _)) (zf (qF 7 (pv 7) (DE.read (zv (za 9 (pv 9)) de_int.read #[7])) (zD (DE.read (y8 (zU 5 (pv 5)) (DE.read (zv (za 9 (pv 9)) de_int.read #[7])))) (DE.read (zN (za 10 (pv 10)) de_int.read))))) (zf (zB (yy (jD (z9 (zV hr.units) zI (za 10 (pv 10)) de_int.read (nomark _)) (jg (z9 (zV hr.units) zI (DE.read (zv (za 6 (pv 6)) de_int.read #[7])) de_int.read (nomark _))))) (zf (qF 7 (pv 7) (DE.read (zv (za 9 (pv 9)) de_int.read #[7])) (wU (DE.read (wU (DE.read (y8 (zU 5 (pv 5)) (DE.read (zv (za 9 (pv 9)) de_int.read #[7])))) de_int.read)) (DE.read (zN (za 8 (pv 8)) de_int.read))))) zF)))))) (zf (ZN 7 (pv 7)))))))
theorem VD:FnScope jR ["_law_found","_law_due"] (zd wx):=#[5]
theorem Gu {f:Addr}{fd:FuncData}(T:Txt K mg C)(F:Fun K "_law_is" "_law_is" wx f fd):FnOk P w K mg base CX0 1 f fd ["_law_found","_law_due"] (pSp ⟨K,w⟩ 2 (len? 2 (mir jR uv))):=by
 have sc:=VD
 refine zu (k:=0) F VD (λcdv A outer s H E B hr=>?_)
 exact (zf (zy (wj (vo (kitT "bool" (by decide)) #[0] T.b_isinstance #[0] T.b_bool #[6] (za 0 (pv 0))) (wT (yQ (zV hr.units) zI (za 0 (pv 0)) (za 1 (pv 1)) (nomark _))))))
theorem V8:FnScope vY ["_law_queue","_law_hours","_law_begin","_law_promises_here","_law_name_here","_law_ahead"] (zd wm):=#[5]
theorem Gw {f:Addr}{fd:FuncData}(T:Txt K mg C)(F:Fun K "_law_told" "_law_told" wm f fd) {ca:Str->Addr} (U:Exs P w K mg base ca) (Ham:Fx P w K mg base "ask_lift" 5 6 (yH C)) (Hbj:Ry P w K mg base ca "name" "ask_lift" 6 6 wQ):FnOk P w K mg base CX0 7 f fd ["_law_queue","_law_hours","_law_begin","_law_promises_here","_law_name_here","_law_ahead"] (pSp ⟨K,w⟩ 6 (len? 6 (mir vY (kB C)))):=by
 obtain⟨fI_NoTicket,xc_NoTicket,f0_NoTicket,ps_NoTicket,FI_NoTicket,bI_NoTicket⟩:=U.i_NoTicket
 have sc:=V8
 refine zu (k:=6) F V8 (λcdv A outer s H E B hr=>?_)
 exact (ze (zp (i:=6) sc.nd #[0] (by first|exact .inl rfl|exact .inr rfl) vA) (ze (zp (i:=7) sc.nd #[0] (by first|exact .inl rfl|exact .inr rfl) zW) (ze (zp (i:=8) sc.nd #[0] (by first|exact .inl rfl|exact .inr rfl) vA) (ze (UJ (ca:=ca) (fd := "name") (zf (zp (i:=6) sc.nd #[0] (by first|exact .inl rfl|exact .inr rfl) (zw Ham #[3] #[0] (zb (zc 0 (pv 0)) (zb (zc 1 (pv 1)) (zb (zc 2 (pv 2)) (zb (zc 3 (pv 3)) (zb (zc 4 (pv 4)) (zb (zc 5 (pv 5)) zi))))))))) (λpn E=>(Zh (i:=6) sc.nd #[0] (by first|exact .inl rfl|exact .inr rfl) (wy wv Hbj wc #[3] #[0] (zb (zc 0 (pv 0)) (zb (zc 1 (pv 1)) (zb (zc 2 (pv 2)) (zb (zc 3 (pv 3)) (zb (zc 4 (pv 4)) (zb (zc 5 (pv 5)) zi))))))))) sc.nd ⟨rfl,rfl⟩ (.as #[0] U.m_NoTicket #[6] #[0] #[0] (all_cons (.cons VY #[0] (by first|exact .inl rfl|exact .inr rfl) (by first|exact .inl rfl|exact .inr rfl) #[0] (.cons (zdh (za4 xc_NoTicket #[0] #[0])) #[0] (by first|exact .inl rfl|exact .inr rfl) (by first|exact .inl rfl|exact .inr rfl) #[0] .nil)) xX) (all_cons U.y_NoTicket_NoTicket xX) (all_cons (all_cons U.n_NoNumber_NoTicket xX) xX) (.no #[0] U.m_HallError #[6] (all_cons (.cons VY #[0] (by first|exact .inl rfl|exact .inr rfl) (by first|exact .inl rfl|exact .inr rfl) #[0] .nil) xX) (all_cons U.y_NoNumber_HallError xX) xX .nil))) (zf (zy (zS (zj (zg 7 (pv 7)) (zj (zg 8 (pv 8)) (zj (zg 6 (pv 6)) zx))))))))))
theorem YF:FnScope j6 ["_law_queue","_law_name_here","_law_ahead"] (zd xN):=#[5]
theorem R3 {f:Addr}{fd:FuncData}(T:Txt K mg C)(F:Fun K "_law_lifted" "_law_lifted" xN f fd):FnOk P w K mg base CX0 1 f fd ["_law_queue","_law_name_here","_law_ahead"] (pSp ⟨K,w⟩ 3 (len? 3 (mir j6 uQ))):=by
 have sc:=YF
 refine zu (k:=0) F YF (λcdv A outer s H E B hr=>?_)
 exact (ze (uD (i:=3) (own:=["_law_ticket"]) (cap:=[]) (t:=(.name 0)) #[0] (yC (sc:=(zd xN).names) (N:=j6) #[0] #[0] #[0] #[6]) (zL hb1 (DR.cur (za 0 (pv 0)))) (by decide) (λB' C' s₀ H₀ fp pn=>⟨(zk (i:=0) (show List.Nodup (["_law_ticket"]:List Str) from by decide +kernel) #[0] (locl #[0])),x5,(zv (za 0 (pv 0)) de_int.read #[7])⟩) sc.nd #[0] (locl #[0])) (ze (zp (i:=4) sc.nd #[0] (locl #[0]) (Qf (za 3 (pv 3)) (z6 (za 1 (pv 1)) zA))) (ze (zp (i:=5) sc.nd #[0] (locl #[0]) (qJ #[0] #[0] T.b_min (z6 (za 4 (pv 4)) (z6 (DE.read (Qf (za 3 (pv 3)) (z6 (za 2 (pv 2)) zA))) zA)))) (ze (zp (i:=6) sc.nd #[0] (locl #[0]) (DA.frz (y3 (DA.read (yh (za 0 (pv 0)) ya (zP (za 4 (pv 4))))) (DA.read (yh (za 0 (pv 0)) (zP (DE.read (zD (za 4 (pv 4)) de_int.read))) ya))))) (zf (jV (y3 (DA.read (y3 (DA.read (yh (za 6 (pv 6)) ya (zP (za 5 (pv 5))))) (DA.read (zE (zj (zv (za 0 (pv 0)) (za 4 (pv 4)) #[7]) zx))))) (DA.read (yh (za 6 (pv 6)) (zP (za 5 (pv 5))) ya)))))))))
theorem J3:FnScope qO ["_law_queue","_law_side","_law_begin","_law_promises_here","_law_name_here","_law_ahead"] (zd xR):=#[5]
theorem Uf {f:Addr}{fd:FuncData}(T:Txt K mg C)(F:Fun K "_law_asked" "_law_asked" xR f fd) (Ha0:Fx P w K mg base "_law_is" 1 2 jH) (Hab:Mx P w K mg base (C "Granted") "granted" 1 1 (xt C)) (Hai:Mx P w K mg base (C "Late") "granted" 1 1 (yX C)) (Hac:Mx P w K mg base (C "Granted") "holds" 5 2 (xJ C)) (Haj:Mx P w K mg base (C "Late") "holds" 5 2 (xG C)) (Had:Mx P w K mg base (C "Granted") "told" 2 1 (xg C)) (Hak:Mx P w K mg base (C "Late") "told" 2 1 (yF C)) (Ha8:Fx P w K mg base "_law_verdict" 3 4 vp) (Ha1:Fx P w K mg base "_law_lifted" 1 3 wd) (Ha7:Fx P w K mg base "_law_told" 7 6 (yN C)) (Haf:Kx P w K mg base (C "Hours") "Hours" 5 2 (wH C)):FnOk P w K mg base CX0 8 f fd ["_law_queue","_law_side","_law_begin","_law_promises_here","_law_name_here","_law_ahead"] (pSp ⟨K,w⟩ 6 (len? 6 (mir qO (xh C)))):=by
 have sc:=J3
 refine zu (k:=7) F J3 (λcdv A outer s H E B hr=>?_)
 exact (ze (yW (i:=6) sc.nd #[0] (locl #[0]) (vw #[0] T.b_list (z6 (za 0 (pv 0)) zA))) (ze (yZ (j:=7) sc.nd #[0] (locl #[0]) (zfy #[0] T.b_dict (zU 3 (pv 3)))) (ze (ZS (t:=(.tup [8,9,10])) (zw Ha7 #[3] #[0] (zb (zc 6 (pv 6)) (zb (zq (Zd Haf #[3] #[0] (zb (zq (DA.frz (vw #[0] T.b_list (z6 (DE.read (zv (za 1 (pv 1)) de_int.read #[7])) zA)))) (zb (zq (zv (za 1 (pv 1)) de_int.read #[7])) zi)))) (zb (zc 2 (pv 2)) (zb (zc 7 (pv 7)) (zb (zc 4 (pv 4)) (zb (zc 5 (pv 5)) zi))))))) (zK #[0] (zn (zk (i:=8) sc.nd #[0] (locl #[0])) (zn (zk (i:=9) sc.nd #[0] (locl #[0])) (zn (zk (i:=10) sc.nd #[0] (locl #[0])) zH))))) (ze (zB (yy (xP (z9 (we hr.units) zI (za 6 (pv 6)) (za 0 (pv 0)) (nomark _)) (wX (U7 (Nat.lt_of_le_of_lt (Nat.le_add_right _ _) hr.units) (zU 7 (pv 7)) (zU 3 (pv 3)))))) (zf (zy yq)) zF) (ze (Gj 6 PySem.F.slot_list_clear PySem.F.type_list_clear Kl zb5 (pv 6)) (ze (za5 7 (pv 7) ⟨rfl,rfl⟩) (ze (uD (i:=11) (own:=["_law_ticket"]) (cap:=[]) (t:=(.name 0)) #[0] (yC (sc:=(zd xR).names) (N:=qO) #[0] #[0] #[0] #[6]) (zL hb1 (DR.cur (za 0 (pv 0)))) (by decide) (λB' C' s₀ H₀ fp pn=>⟨(zk (i:=0) (show List.Nodup (["_law_ticket"]:List Str) from by decide +kernel) #[0] (locl #[0])),x5,(zv (za 0 (pv 0)) de_int.read #[7])⟩) sc.nd #[0] (locl #[0])) (ze (zM (t:=(.name 12)) PassesOwn.never #[0] (zL hb0 (DE.fix (DA.frz (zE (zj (zg 4 (pv 4)) (zj (zg 5 (pv 5)) zx)))))) (zk (i:=12) sc.nd #[0] (locl #[0])) (zf (zB (z9 (KG hr.units) zdm (za 12 (pv 12)) (za 11 (pv 11)) #[0]) (zf (zy (wj (yQ (zV hr.units) zI (za 8 (pv 8)) (DE.read zW) (nomark _)) (wT (yQ (zV hr.units) zI (za 9 (pv 9)) (za 12 (pv 12)) (nomark _)))))) zF))) (ze (zB (z9 (we hr.units) zI (za 8 (pv 8)) (DE.read zW) (nomark _)) (zf (zy yq)) zF) (ze (zp (i:=13) sc.nd #[0] (locl #[0]) (DA.frz (yi Ha1 #[3] #[0] (zb (zc 0 (pv 0)) (zb (zc 4 (pv 4)) (zb (zc 5 (pv 5)) zi)))))) (ze (zp (i:=14) sc.nd #[0] (locl #[0]) (zw Ha8 #[3] #[0] (zb (zc 13 (pv 13)) (zb (zc 1 (pv 1)) (zb (zc 2 (pv 2)) (zb (zc 3 (pv 3)) zi)))))) (ze (zB (yy (xP (z9 (we hr.units) zI (DE.read (wf (yx (zg 10 (pv 10)) T.cl_Granted Had #[3]) (yx (zg 10 (pv 10)) T.cl_Late Hak #[3]))) (za 14 (pv 14)) (nomark _)) (xP (z9 (we hr.units) zI (DE.read (wf (zG T.cl_Granted T.n_Granted_queue (zg 10 (pv 10))) (zG T.cl_Late T.n_Late_queue (zg 10 (pv 10))))) (za 13 (pv 13)) (nomark _)) (wX (z9 zdd zb8 (DE.read (wf (ZV (zg 10 (pv 10)) T.cl_Granted Hac #[3] (zb (zc 3 (pv 3)) zi)) (ZV (zg 10 (pv 10)) T.cl_Late Haj #[3] (zb (zc 3 (pv 3)) zi)))) (DE.read yq) (nomark _)))))) (zf (zy yq)) zF) (zf (zy (zw Ha0 #[3] #[0] (zb (zq (wf (yx (zg 10 (pv 10)) T.cl_Granted Hab #[3]) (yx (zg 10 (pv 10)) T.cl_Late Hai #[3]))) (zb (zq (yQ (zV hr.units) zI (DE.read (zv (za 14 (pv 14)) de_int.read #[7])) (DE.read zW) (nomark _))) zi)))))))))))))))))
theorem JD:FnScope wW ["_law_queue","_law_which","_law_odd"] (zd wM):=#[5]
theorem zc3 {f:Addr}{fd:FuncData}(T:Txt K mg C)(F:Fun K "_law_named" "_law_named" wM f fd):FnOk P w K mg base CX0 1 f fd ["_law_queue","_law_which","_law_odd"] (pSp ⟨K,w⟩ 3 (len? 3 (mir wW vQ))):=by
 have sc:=JD
 refine zu (k:=0) F JD (λcdv A outer s H E B hr=>?_)
 exact (ze (zB (yy (xP (z9 (zV hr.units) zI (za 2 (pv 2)) de_int.read (nomark _)) (wX (z9 (zV hr.units) zI (za 0 (pv 0)) (DA.read (zE zx)) (nomark _))))) (by refine zf ?_;refine zy ?_;(refine zv ?_ ?_ ?_;(refine DA.read ?_;refine zE ?_;refine vI (y0 ?_) ?_ ?_;rfl;exact zW;refine vI (y0 ?_) ?_ ?_;rfl;exact zW;refine vI (y0 ?_) ?_ ?_;rfl;exact vA;refine vI (y0 ?_) ?_ ?_;rfl;exact de_int;refine vI (y0 ?_) ?_ ?_;rfl;exact yq;refine vI (y0 ?_) ?_ ?_;rfl;exact zW;exact zx);exact (DE.read (zN (za 1 (pv 1)) de_int.read));(intro _ _;rfl))) zF) (zf (zy (zv (DE.read (zv (za 0 (pv 0)) (DE.read (zN (za 1 (pv 1)) (DE.read (y2 #[0] T.b_len (z6 (za 0 (pv 0)) zA))))) #[7])) de_int.read #[7]))))
theorem YT:FnScope kL ["_law_script"] (zd yO):=#[5]
theorem Rg {f:Addr}{fd:FuncData}(T:Txt K mg C)(F:Fun K "law" "law" yO f fd) (Hav:Fx P w K mg base "_law_asked" 8 6 (vJ C)) (Ha3:Fx P w K mg base "_law_named" 1 3 yU) (Ha4:Fx P w K mg base "_law_promises" 3 5 jE) (Hay:Fx P w K mg base "_law_draw" 2 3 yn) (Ha9:Fx P w K mg base "_law_world" 3 1 jF):FnOk P w K mg base CX0 9 f fd ["_law_script"] (pSp ⟨K,w⟩ 1 (len? 1 (mir kL (Zx C)))):=by
 have sc:=YT
 refine zu (k:=8) F YT (λcdv A outer s H E B hr=>?_)
 exact (ze (ZS (t:=(.tup [1,2,3,4])) (zw Ha9 #[3] #[0] (zb (zc 0 (pv 0)) zi)) (zK #[0] (zn (zk (i:=1) sc.nd #[0] (locl #[0])) (zn (zk (i:=2) sc.nd #[0] (locl #[0])) (zn (zk (i:=3) sc.nd #[0] (locl #[0])) (zn (zk (i:=4) sc.nd #[0] (locl #[0])) zH)))))) (ze (zp (i:=5) sc.nd #[0] (locl #[0]) (zS (zj (zg 2 (pv 2)) (zj (zg 3 (pv 3)) (zj de_int (zj de_int zx)))))) (ze (zM (t:=(.name 6)) PassesOwn.never #[0] (zdt #[0] T.b_range (z6 de_int.read (z6 (DE.read (GQ #[0] #[0] T.b_max (z6 de_int.read (z6 (DE.read (qJ #[0] #[0] T.b_min (z6 (DE.read (y2 #[0] T.b_len (z6 (za 0 (pv 0)) zA))) (z6 de_int.read zA)))) zA)))) zA))) (zk (i:=6) sc.nd #[0] (locl #[0])) (ze (Yh (is:=[7,8,9,10]) (DA.frz (yi Hay #[3] #[0] (zb (zc 0 (pv 0)) (zb (zc 6 (pv 6)) (zb (zq (DA.frz (zE (zj de_int (zj de_int (zj de_int (zj de_int zx))))))) zi))))) (Zp #[0] (zn (zk (i:=7) sc.nd #[0] (locl #[0])) (zn (zk (i:=8) sc.nd #[0] (locl #[0])) (zn (zk (i:=9) sc.nd #[0] (locl #[0])) (zn (zk (i:=10) sc.nd #[0] (locl #[0])) zH)))))) (ze (yZ (j:=11) sc.nd #[0] (locl #[0]) (jY Ha4 #[3] #[0] (zb (zc 0 (pv 0)) (zb (zq (zD (za 6 (pv 6)) de_int.read)) (zb (zc 1 (pv 1)) (zb (zc 5 (pv 5)) (zb (zc 4 (pv 4)) zi))))))) (ze (zp (i:=12) sc.nd #[0] (locl #[0]) (zw Ha3 #[3] #[0] (zb (zc 1 (pv 1)) (zb (zc 7 (pv 7)) (zb (zc 9 (pv 9)) zi))))) (zf (zB (yK (yg (DE.read (zw Hav #[3] #[0] (zb (zc 1 (pv 1)) (zb (zc 5 (pv 5)) (zb (zc 4 (pv 4)) (zb (zc 11 (pv 11)) (zb (zc 12 (pv 12)) (zb (zq (zw Ha3 #[3] #[0] (zb (zc 1 (pv 1)) (zb (zc 8 (pv 8)) (zb (zc 10 (pv 10)) zi))))) zi)))))))) (by intro _;rfl))) (zf (zy yq)) zF)))))) (zf (zy yq)))))
abbrev wZ:Stmt:=yd (top 5) 0
theorem V7:FnScope ["self","name"] ["self","name"] (zd wZ):=#[5]
theorem Kb {f CT HE:Addr}{fd:FuncData}(F:Fun K "__init__" "NoTicket.__init__" wZ f fd) (xc:XC K CT HE f "name") (mH:mg "HallError" = some (.ref HE)):FnOk P w K mg base CX0 1 f fd ["self","name"] (xiSp CT "name"):=by
 have sc:=V7
 refine F.ok (k:=0) V7 (λvs H Q E h=>?_) (λcdv A outer s H vs Q E hr h=>?_)
 ·obtain⟨e,v,t,rfl,_⟩:=h;rfl
 ·refine⟨_,y9 (xC (RE xc #[0] mH (zO (pv 0) (zO (pv 1) yz)))) (JX (zc2 xc (pv 0) (pv 1) #[0])),?_⟩
  obtain⟨e,v,t,rfl,he,q⟩:=h
  exact⟨_,rfl,_,rfl,e,v,t,rfl,he,λt'=>⟨_,rfl,_,rfl,e,t',rfl,zr,λdx h1 h2=>zaq (t:=t) q t' dx h1 h2⟩⟩
end
end My
namespace My
open PySem PySem.Spec L2 L3 L4 L6 Dv HM QM
open PyProof.Rows hiding St
def rowD (r:HM.Row):D:=.tup [.int r.1,.int r.2]
def Good (r:HM.Row):Prop:=(1<=r.1/\r.1<=100)/\0<=r.2/\r.2<=8
theorem zf8 (a:Int):jk [.val (.int a)]=some (.val (.bl true)):=by
 simp[jk,mir,stE,Wn,kU]
theorem qV {a lo hi:Int}(h1:lo<=a)(h2:a<=hi):yk [.val (.int a),.val (.int lo),.val (.int hi)]=some (.val (.bl true)):=by
 simp[yk,mir,stE,qI,Zk,zf8,h1,h2]
theorem Gy {r:HM.Row}(h:Good r):jn [.val (rowD r)]=some (.val (.bl true)):=by
 simp[jn,mir,stE,Jq,ZI,rowD,qV h.1.1 h.1.2,qV h.2.1 h.2.2]
theorem GO {α:Type}{xs:List α}{n:Nat}(h:xs.length<=n)(hn:n<=TOP):xs.length<=TOP:=Nat.le_trans h hn
theorem t16:16<=TOP:=by decide
theorem WE:∀(rs:List HM.Row),(∀r∈rs,Good r)->compD (.name 0) tYes ub [none] (rs.map rowD)=some (rs.map λ_=>D.bl true)
 | [],_=>by simp
 |r::rs,h=>by
  have h1:=Gy (h r (by simp))
  have ih:=WE rs λq hq=>h q (by simp[hq])
  simp only[List.map_cons,jl,zao,Option.bind_some,zcj,if_true,ih,Option.map_some]
  simp[ub,h1]
theorem uH {α:Type}:∀(rs:List α),asBs (rs.map λ_=>D.bl true)=some (rs.map λ_=>true)
 | []=>rfl
 |r::rs=>by simp[asBs,uH rs]
theorem zau {rs:List HM.Row}{rest:Int}(h:∀r∈rs,Good r)(hl:rs.length<=16)(h1:1<=rest)(h2:rest<=8):jz [.val (.lst (rs.map rowD)),.val (.int rest)]=some (.val .non):=by
 have e:=WE rs h
 have e2:=uH rs
 have e3:=qV h1 h2
 have ht:rs.length<=TOP:=GO hl t16
 simp only[jz,mir,stE,vU,kR]
 have hl':¬((16:Int) < (rs.length:Int)):=by omega
 simp[e,e2,e3,ht,hl,hl']
theorem YE (R:Option En)(rest:D):∀(rs acc:List HM.Row) (x y:Option En),Pos rs->acc.length+rs.length<=1000 ->
  ∃(x' y':Option En),forD (.tup [3,4]) jx (rs.map rowD) [R,some (.val rest),some (.acc (acc.map rowD)),x,y]=some (.next [R,some (.val rest),some (.acc ((rs.foldl kstep acc).map rowD)),x',y'])
 | [],acc,x,y,_,_=>⟨x,y,by simp⟩
 |r::rs,acc,x,y,hp,hl=>by
  simp only[List.length_cons] at hl
  obtain⟨h1,h2⟩:=Pos.cons.mp hp
  have hk:=J8 acc r
  obtain⟨x',y',e⟩:=YE R rest rs (kstep acc r) (some (.val (.int r.1))) (some (.val (.int r.2))) h2 #[1]
  refine⟨x',y',?_⟩
  rw[List.foldl_cons,<-e]
  have ht:acc.length<=TOP:=by simp[TOP];omega
  rcases List.eq_nil_or_concat acc with rfl | ⟨pre,q,rfl⟩
  ·simp[jx,rowD,kstep,h1.1,TOP]
  ·rw[List.concat_eq_append] at ht ⊢
   have hk:kstep (pre++[q]) r=if q.2=r.2 then pre++[(q.1+r.1,r.2)] else pre++[q]++[r]:=by
    unfold kstep;rw[List.getLast?_concat];simp only[List.dropLast_concat]
   rw[hk]
   have ea:atI ((pre++[q]).map rowD) (-1)=some (rowD q):=by rw[List.map_append];exact uF
   have en:ixN (pre.length+1) (-1)=some pre.length:=U9 _
   have es:∀d:D,(pre.map rowD++[rowD q]).set pre.length d=pre.map rowD++[d]:=λd=>by
    rw[List.set_append_right _ _ (by simp)];simp
   have ea':atI (pre.map rowD++[rowD q]) (-1)=some (rowD q):=uF
   by_cases c:q.2=r.2
   ·rw[if_pos c]
    simp[jx,ea',en,es,rowD,c,TOP] at ht ⊢
    try simp[rowD] at ea' es
   ·rw[if_neg c]
    simp[jx,ea',rowD,c,TOP,h1.1] at ht ⊢
    simp[rowD] at ea'
    simp[ea',c,ht]
theorem Kv {rs:List HM.Row}{rest:Int}(h:Pos rs)(hl:rs.length<=500):jb [.val (.lst (rs.map rowD)),.val (.int rest)]=some (.acc ((krows rest rs).map rowD)):=by
 obtain⟨x',y',e⟩:=YE (some (.val (.lst (rs.map rowD)))) (.int rest) rs [] none none h (by simp;omega)
 simp only[jb,mir,stE,kz,uG]
 simp at e
 simp[e,TOP]
 unfold krows kend
 rcases List.eq_nil_or_concat (rs.foldl kstep []) with h0 | ⟨pre,q,h0⟩
 ·rw[h0];simp
 ·rw[List.concat_eq_append] at h0
  rw[h0]
  have ea':atI (pre.map rowD++[rowD q]) (-1)=some (rowD q):=uF
  by_cases c:q.2=rest
  ·simp[ea',rowD,c]
   try simp[rowD] at ea'
  ·simp[ea',rowD,c]
   try simp[rowD] at ea'
def spanD (p:Int×HM.Row):D:=.tup [.int p.1,.int (p.1+p.2.1),.int p.2.2]
def spans:Int->List HM.Row->List (Int×HM.Row)
 |_,[]=>[]
 |s,r::rs=>(s,r)::spans (s+r.1) rs
theorem Q4 (R:D):∀(rs:List HM.Row) (s:Int) (acc:List D) (x y:Option En),acc.length+rs.length<=1000 ->
  ∃(s':Int) (x' y':Option En),forD (.tup [3,4]) ZZ (rs.map rowD) [some (.val R),some (.acc acc),some (.val (.int s)),x,y]=some (.next [some (.val R),some (.acc (acc++(spans s rs).map spanD)),some (.val (.int s')),x',y'])
 | [],s,acc,x,y,_=>⟨s,x,y,by simp[spans]⟩
 |r::rs,s,acc,x,y,hl=>by
  simp only[List.length_cons] at hl
  obtain⟨s',x',y',e⟩:=Q4 R rs (s+r.1) (acc++[spanD (s,r)]) (some (.val (.int r.1))) (some (.val (.int r.2))) (by simp;omega)
  refine⟨s',x',y',?_⟩
  have ht:acc.length<=TOP:=by simp[TOP];omega
  rw[List.append_assoc] at e
  simp only[spans,List.map_cons]
  rw[show acc++spanD (s,r)::(spans (s+r.1) rs).map spanD=acc++([spanD (s,r)]++(spans (s+r.1) rs).map spanD) from rfl,<-e]
  have t3:3<=TOP:=by decide
  simp[ZZ,rowD,spanD,ht,t3]
theorem zei {rs:List HM.Row}(hl:rs.length<=500):j7 [.val (.lst (rs.map rowD))]=some (.acc ((spans 0 rs).map spanD)):=by
 obtain⟨s',x',y',e⟩:=Q4 (.lst (rs.map rowD)) rs 0 [] none none (by simp;omega)
 simp only[j7,mir,stE,qU,Zl]
 simp at e
 simp[e]
theorem GD:¬(("spans" : Str) = "kept_rest"):=by decide +kernel
theorem Ub:¬(("kept_rest" : Str) = "spans"):=by decide +kernel
def FS:List Str:=["kept_rest","spans"]
def hoursD (C:Addr)(rest:Int)(ks:List HM.Row):D:=.obj C FS [.int rest,.lst ((spans 0 ks).map spanD)]
theorem ze5 {a b:D}:lookZ "kept_rest" FS [a,b]=some a:=by simp[lookZ,FS]
theorem uM {a b:D}:lookZ "spans" FS [a,b]=some b:=by simp[lookZ,FS,GD]
theorem zeb (C:Str->Addr)(a dx:Addr){rs:List HM.Row}{rest:Int}(h:∀r∈rs,Good r)(hl:rs.length<=16)(h1:1<=rest)(h2:rest<=8)(hp:Pos rs) :
  mirI (C "Hours") jr (jJ C) a dx [.val (.lst (rs.map rowD)),.val (.int rest)]=some (FS,[.int rest,.lst ((spans 0 (krows rest rs)).map spanD)]):=by
 have e1:=zau h hl h1 h2
 have e2:=Kv (rest:=rest) hp #[1]
 have e3:=zei (rs:=krows rest rs) (Nat.le_trans (zbx rest rs) #[1])
 simp only[mirI,stE,jr,jJ]
 simp[e1,e2,e3,putZ,Ub,outI,outJ,FS]
theorem WG (C:Str->Addr){rs:List HM.Row}{rest:Int}(h:∀r∈rs,Good r)(hl:rs.length<=16)(h1:1<=rest)(h2:rest<=8)(hp:Pos rs) :
  wH C [.val (.lst (rs.map rowD)),.val (.int rest)]=some (FS,[.int rest,.lst ((spans 0 (krows rest rs)).map spanD)]):=zeb C 0 0 h hl h1 h2 hp
theorem Kp {g1 g2 g3:EnvD->Option D}{n1 n2:Str}(h1:∀o o' l,g1 (o::l)=g1 (o'::l))(h2:∀o o' l,g2 (o::l)=g2 (o'::l))(h3:∀o o' l,g3 (o::l)=g3 (o'::l))(C a dx:Addr)(l:EnvD) :
  outI a dx C (sSeq (sExpr g1) (sSeq (sFldD 0 C n1 g2) (sFldD 0 C n2 g3)) (some (.oac a dx C [] [])::l))=outI 0 0 C (sSeq (sExpr g1) (sSeq (sFldD 0 C n1 g2) (sFldD 0 C n2 g3)) (some (.oac 0 0 C [] [])::l)):=by
 have e1:=h1 (some (.oac a dx C [] [])) (some (.oac 0 0 C [] [])) l
 have e2:=h2 (some (.oac a dx C [] [])) (some (.oac 0 0 C [] [])) l
 cases q1:g1 (some (.oac 0 0 C [] [])::l) with
 |none=>rw[q1] at e1;simp[e1,q1,outI]
 |some d1=>
  rw[q1] at e1
  cases q2:g2 (some (.oac 0 0 C [] [])::l) with
  |none=>rw[q2] at e2;simp[e1,q1,e2,q2,outI]
  |some d2=>
   rw[q2] at e2
   simp[e1,q1,e2,q2]
   have e3:=h3 (some (.oac a dx C (putZ n1 d2 [] []).1 (putZ n1 d2 [] []).2)) (some (.oac 0 0 C (putZ n1 d2 [] []).1 (putZ n1 d2 [] []).2)) l
   cases q3:g3 (some (.oac 0 0 C (putZ n1 d2 [] []).1 (putZ n1 d2 [] []).2)::l) with
   |none=>rw[q3] at e3;simp[putZ] at e3 q3;simp[e3,q3,outI,putZ]
   |some d3=>rw[q3] at e3;simp[putZ] at e3 q3;simp[e3,q3,outI,outJ,putZ]
theorem zaf (C:Str->Addr)(a dx:Addr)(xs:List En):mirI (C "Hours") jr (jJ C) a dx xs=wH C xs:=by
 unfold wH mirI stE
 exact Kp (λo o' l=>by simp) (λo o' l=>by simp) (λo o' l=>by simp) (C "Hours") a dx _
theorem t2:2<=TOP:=by decide
theorem ZA:∀(s:Int) (ks:List HM.Row),(spans s ks).length=ks.length
 |_,[]=>rfl
 |s,r::rs=>by simp[spans,ZA (s+r.1) rs]
def stp (s:Int):List HM.Row->Nat->Int
 | [],_=>s
 |r::_,0=>s+r.1
 |r::rs,i+1=>stp (s+r.1) rs i
def cntK (rest:Int):List HM.Row->Nat->Int
 | [],_=>rest
 |r::_,0=>r.2
 |_::rs,i+1=>cntK rest rs i
theorem uk (rest:Int):∀(ks:List HM.Row) (s:Int) (i:Nat),i < ks.length->∃(a:Int) (r:HM.Row),(spans s ks)[i]?=some (a,r)/\a+r.1=stp s ks i/\r.2=cntK rest ks i
 |r::rs,s,0,_=>⟨s,r,by simp[spans],rfl,rfl⟩
 |r::rs,s,i+1,h=>by
  obtain⟨a,q,h1,h2,h3⟩:=uk rest rs (s+r.1) i (by simpa using h)
  exact⟨a,q,by simpa[spans] using h1,h2,h3⟩
theorem Qs:∀(ks:List HM.Row) (s:Int) (i:Nat),Pos ks->s<=stp s ks i
 | [],_,_,_=>Int.le_refl _
 |r::rs,s,0,h=>by have:=(Pos.cons.mp h).1.1;simp only[stp];omega
 |r::rs,s,i+1,h=>by have:=(Pos.cons.mp h).1.1;have:=Qs rs (s+r.1) i (Pos.cons.mp h).2;simp only[stp];omega
theorem V1:∀(ks:List HM.Row) (s:Int) (i j:Nat),Pos ks->i<=j->stp s ks i<=stp s ks j
 | [],_,_,_,_,_=>Int.le_refl _
 |r::rs,s,0,0,_,_=>Int.le_refl _
 |r::rs,s,0,j+1,h,_=>Qs rs (s+r.1) j (Pos.cons.mp h).2
 |r::rs,s,i+1,0,_,h=>by omega
 |r::rs,s,i+1,j+1,h,hj=>V1 rs (s+r.1) i j (Pos.cons.mp h).2 #[1]
theorem Q2 (rest x:Int):∀(ks:List HM.Row) (s:Int) (lo:Nat),(∀i,i < lo->stp s ks i<=x)->(lo < ks.length->x < stp s ks lo)->lo<=ks.length->atR rest ks (x - s)=cntK rest ks lo
 | [],_,_,_,_,_=>rfl
 |r::rs,s,0,_,h2,_=>by
  have h:=h2 (by simp)
  simp only[stp] at h
  have h':x - s < r.1:=by omega
  simp[atR,h',cntK]
 |r::rs,s,lo+1,h1,h2,h3=>by
  have h:=h1 0 #[1]
  simp only[stp] at h
  have h':¬(x - s < r.1):=by omega
  have e:x - s - r.1=x - (s+r.1):=by omega
  simp only[atR,if_neg h',e,cntK]
  exact Q2 rest x rs (s+r.1) lo (λi hi=>h1 (i+1) #[1]) (λhl=>h2 (by simpa using hl)) (by simpa using h3)
theorem atI_nat {α:Type}{xs:List α}{i:Nat}{v:α}(h:xs[i]?=some v):atI xs (i:Int)=some v:=xb i h
theorem Z7 (C:Str->Addr)(fs:List Str)(ds:List D)(rest x:Int)(ks:List HM.Row)(hp:Pos ks)(hs:lookZ "spans" fs ds=some (.lst ((spans 0 ks).map spanD))):∀(k lo hi:Nat) (m:Option En),hi - lo<=k->lo<=hi->hi<=ks.length->(∀i,i < lo->stp 0 ks i<=x)->(hi < ks.length->x < stp 0 ks hi) ->
  ∃(lo':Nat) (m':Option En),(lo'<=ks.length/\(∀i,i < lo'->stp 0 ks i<=x)/\(lo' < ks.length->x < stp 0 ks lo')) /\
   whileD (gb' (g2 fLt (gr 2) (gr 3))) (jN C) (k+1) [some (.val (.obj (C "Hours") fs ds)),some (.val (.int x)),some (.val (.int (lo:Int))),some (.val (.int (hi:Int))),m]
    = some (.next [some (.val (.obj (C "Hours") fs ds)),some (.val (.int x)),some (.val (.int (lo':Int))),some (.val (.int (lo':Int))),m'])
 |0,lo,hi,m,hk,hle,hn,h1,h2=>by
  have:lo=hi:=by omega
  subst this
  refine⟨lo,m,⟨hn,h1,h2⟩,?_⟩
  rw[qk]
  simp
 |k+1,lo,hi,m,hk,hle,hn,h1,h2=>by
  by_cases hlt:lo < hi
  ·obtain⟨mid,hm⟩:∃mid:Nat,mid=(lo+hi) / 2:=⟨_,rfl⟩
   have em:((lo:Int)+(hi:Int)) / 2=(mid:Int):=by omega
   have m1:lo<=mid:=by omega
   have m2:mid < hi:=by omega
   clear hm
   obtain⟨a,r,g1,g2',g3⟩:=uk rest ks 0 mid #[1]
   have ei:atI ((spans 0 ks).map spanD) (mid:Int)=some (spanD (a,r)):=atI_nat (by simp[g1])
   have t1:atI (α:=D) [.int a,.int (a+r.1),.int r.2] 1=some (.int (a+r.1)):=rfl
   have hl2:(lo:Int) < (hi:Int):=by omega
   by_cases hx:x < stp 0 ks mid
   ·obtain⟨lo',m',p,e⟩:=Z7 C fs ds rest x ks hp hs k lo mid (some (.val (.int (mid:Int)))) #[1] #[1] #[1] h1 (λ_=>hx)
    refine⟨lo',m',p,?_⟩
    have hx':x < a+r.1:=by rw[g2'];exact hx
    rw[je (Z2:=[some (.val (.obj (C "Hours") fs ds)),some (.val (.int x)),some (.val (.int (lo:Int))),some (.val (.int (mid:Int))),some (.val (.int (mid:Int)))]) (by simp[hl2]) (by
     simp[jN,xK,em,hs,ei,spanD,t1,hx']),e]
   ·obtain⟨lo',m',p,e⟩:=Z7 C fs ds rest x ks hp hs k (mid+1) hi (some (.val (.int (mid:Int)))) #[1] #[1] #[1] (λi hi'=>Int.le_trans (V1 ks 0 i mid hp #[1]) #[1]) h2
    refine⟨lo',m',p,?_⟩
    have hx':¬(x < a+r.1):=by rw[g2'];exact hx
    rw[je (Z2:=[some (.val (.obj (C "Hours") fs ds)),some (.val (.int x)),some (.val (.int ((mid+1:Nat):Int))),some (.val (.int (hi:Int))),some (.val (.int (mid:Int)))]) (by simp[hl2]) (by
     simp[jN,xK,em,hs,ei,spanD,t1,hx']),e]
  ·have:lo=hi:=by omega
   subst this
   refine⟨lo,m,⟨hn,h1,h2⟩,?_⟩
   rw[qk]
   simp
theorem GB (C:Str->Addr){rest x:Int}{ks:List HM.Row}(hp:Pos ks):j0 C [.val (hoursD (C "Hours") rest ks),.val (.int x)]=some (.val (.int (atR rest ks x))):=by
 obtain⟨lo,m,⟨p1,p2,p3⟩,e⟩:=Z7 C FS [.int rest,.lst ((spans 0 ks).map spanD)] rest x ks hp uM ks.length 0 ks.length none #[1] #[1] #[1] (λi hi=>by omega) (λh=>by omega)
 have ea:=Q2 rest x ks 0 lo p2 p3 p1
 rw[Int.sub_zero] at ea
 have ew:=Zg e
 simp only[j0,mir,stE,jX,Zw,hoursD]
 simp only[Int.natCast_zero] at ew
 by_cases hlt:lo < ks.length
 ·obtain⟨a,r,g1,g2',g3⟩:=uk rest ks 0 lo hlt
  have ei:atI ((spans 0 ks).map spanD) (lo:Int)=some (spanD (a,r)):=atI_nat (by simp[g1])
  have t1:atI (α:=D) [.int a,.int (a+r.1),.int r.2] 2=some (.int r.2):=rfl
  have h':(lo:Int) < (ks.length:Int):=by omega
  simp[uM,ZA,ew,ei,spanD,t1,h',ea,g3]
 ·have h':¬((lo:Int) < (ks.length:Int)):=by omega
  have e0:cntK rest ks lo=rest:=by
   have:∀(l:List HM.Row) (i:Nat),l.length<=i->cntK rest l i=rest:=by
    intro l
    induction l with
    |nil=>intro i _;rfl
    |cons q qs ih=>intro i hi;match i,hi with | i+1,hi=>exact ih i (by simpa using hi)
   exact this ks lo #[1]
  simp[uM,ZA,ew,h',ze5,ea,e0]
section
variable (C:Str->Addr){rs:List HM.Row}{rest:Int}
theorem KM {m:Str}(h1:¬(m = "kept_rest")) (h2:¬(m = "spans")) {r:Int} {x:List D}:lookZ m FS [D.int r,D.lst x]=none:=by simp[lookZ,FS,h1,h2]
theorem Wp {r:Int}{x:List D}:lookZ "at" FS [D.int r,D.lst x]=none:=KM #[6] #[6]
structure Fit (rs:List HM.Row)(rest:Int):Prop where
 good:∀r∈rs,Good r
 len:rs.length<=16
 lo:1<=rest
 hi:rest<=8
theorem Fit.pos (F:Fit rs rest):Pos rs:=λr hr=>⟨by have:=(F.good r hr).1.1;omega,(F.good r hr).2.1⟩
end
theorem ZJ {e:EnvD->Option D}(he:∀a b,e [some (.val a),some (.val b)]=some a):∀(q:List (Str×Int)),compD (.tup [0,1]) tYes e [none,none] #[2]=some ((q.map (·.1)).map D.str)
 | []=>by simp
 |t::q=>by
  have ih:=ZJ he q
  simp only[List.map_cons,jl,ih]
  simp[tkD,he]
theorem Y8 {q:List (Str×Int)}(hl:q.length<=1000):jp [.val (.lst #[2])]=some (.acc ((q.map (·.1)).map D.str)):=by
 have e:=ZJ (e:=u6) (λa b=>by simp[u6]) q
 have ht:q.length<=TOP:=by simp[TOP];omega
 simp at e
 simp[jp,mir,stE,Q3,ZG,ht,e]
theorem qe:∀(q:List (Str×Int)),compD (.tup [0,1]) (gb' (g2 fGt (gr 1) (gc (.int 1)))) jO [none,none] #[2]=some (((q.filter λt=>decide (1 < t.2)).map λt=>(t.1,t.2 - 1)).map tkD)
 | []=>by simp
 |t::q=>by
  have ih:=qe q
  simp only[List.map_cons,jl,ih]
  by_cases h:1 < t.2
  ·rw[List.filter_cons,if_pos (by simpa using h)]
   simp[tkD,jO,h,t2]
  ·rw[List.filter_cons,if_neg (by simpa using h)]
   simp[tkD,jO,h]
theorem zb0 {q A Bq:List (Str×Int)}{m:Int}(c1:cutD #[2] none (some m)=A.map tkD)(c2:cutD #[2] (some m) none=Bq.map tkD)(hA:A.length<=1000)(hB:Bq.length<=1000) :
  yA [.val (.lst #[2]),.val (.int m)]=some (.val (.tup [.lst ((A.map (·.1)).map D.str),.lst (((A.filter λt=>decide (1 < t.2)).map λt=>(t.1,t.2 - 1)).map tkD++Bq.map tkD)])):=by
 have e1:=qe A
 have e2:=Y8 hA
 have hf:=List.length_filter_le (λt:Str×Int=>decide (1 < t.2)) A
 have ht:A.length<=TOP:=by simp[TOP];omega
 have ht3:(A.filter λt=>decide (1 < t.2)).length+Bq.length<=TOP:=by simp only[TOP];omega
 simp at e1 e2
 simp[yA,mir,stE,vh,qD,c1,c2,ht,e1,e2,ht3,t2]
theorem R9 {q:List (Str×Int)}{m:Int}(hl:q.length<=1000)(hm:0<=m) :
  yA [.val (.lst #[2]),.val (.int m)]=some (.val (.tup [.lst ((srv m.toNat q).map D.str),.lst ((beh m.toNat q).map tkD)])):=by
 have c1:cutD #[2] none (some m)=(q.take m.toNat).map tkD:=by rw[qG hm,List.map_take]
 have c2:cutD #[2] (some m) none=(q.drop m.toNat).map tkD:=by rw[vg hm,List.map_drop]
 rw[zb0 c1 c2 (by rw[List.length_take];omega) (by rw[List.length_drop];omega),beh,List.map_append]
 rfl
theorem KS {q A Bq:List (Str×Int)}{m:Int}(c1:cutD #[2] none (some m)=A.map tkD)(c2:cutD #[2] (some m) none=Bq.map tkD)(hA:A.length<=1000)(hB:Bq.length<=1000) :
  yA [.bor #[2],.val (.int m)]=some (.val (.tup [.lst ((A.map (·.1)).map D.str),.lst (((A.filter λt=>decide (1 < t.2)).map λt=>(t.1,t.2 - 1)).map tkD++Bq.map tkD)])):=by
 have e1:=qe A
 have e2:=Y8 hA
 have hf:=List.length_filter_le (λt:Str×Int=>decide (1 < t.2)) A
 have ht:A.length<=TOP:=by simp[TOP];omega
 have ht3:(A.filter λt=>decide (1 < t.2)).length+Bq.length<=TOP:=by simp only[TOP];omega
 simp at e1 e2
 simp[yA,mir,stE,vh,qD,c1,c2,ht,e1,e2,ht3,t2]
theorem Gb {q:List (Str×Int)}{m:Int}(hl:q.length<=1000)(hm:0<=m) :
  yA [.bor #[2],.val (.int m)]=some (.val (.tup [.lst ((srv m.toNat q).map D.str),.lst ((beh m.toNat q).map tkD)])):=by
 have c1:cutD #[2] none (some m)=(q.take m.toNat).map tkD:=by rw[qG hm,List.map_take]
 have c2:cutD #[2] (some m) none=(q.drop m.toNat).map tkD:=by rw[vg hm,List.map_drop]
 rw[KS c1 c2 (by rw[List.length_take];omega) (by rw[List.length_drop];omega),beh,List.map_append]
 rfl
theorem V5 {rest:Int}:∀(rs:List HM.Row) (x:Int),(∀r∈rs,0<=r.2)->0<=rest->0<=atR rest rs x
 | [],_,_,h=>h
 |r::rs,x,h,hr=>by
  simp only[atR]
  split
  ·exact h r (by simp)
  ·exact V5 rs _ (λq hq=>h q (by simp[hq])) hr
theorem Yd {rest:Int}:∀(rs:List HM.Row) (x:Int),total rs<=x->Pos rs->atR rest rs x=rest
 | [],_,_,_=>rfl
 |r::rs,x,h,hp=>by
  have h1:=WN (Pos.cons.mp hp).2
  simp only[total] at h
  simp only[atR]
  rw[if_neg #[1]]
  exact Yd rs _ #[1] (Pos.cons.mp hp).2
def Lq (x:En)(ds:List D):Prop:=x=.val (.lst ds)∨x=.bor ds
structure HOk (rest:Int)(ks:List HM.Row):Prop where
 pos:Pos ks
 lo:1<=rest
 tot:total ks<=2000
theorem HOk.nn {rest:Int}{ks:List HM.Row}(h:HOk rest ks)(x:Int):0<=atR rest ks x:=V5 ks x (λr hr=>(h.pos r hr).2) (by have:=h.lo;omega)
theorem YD (C:Str->Addr){rest:Int}{ks:List HM.Row}(F:HOk rest ks)(b0:Int)(X0 X3:Option En):∀(n:Nat) (q:List (Str×Int)) (acc:List (Int×List Str)) (x4:En) (a b:Option En),Lq x4 #[2]->PosQ q->(∀t∈q,Ok t.1)->q.length<=100->sumQ q+(total ks - (b0+acc.length)).toNat<=n->acc.length+n<=5000 ->
  ∃(out:List (Int×List Str)) (v4 v6 v7:Option En),((∀r∈out,(∀y∈r.2,Ok y)/\r.2.length<=100)/\Run (atR rest ks) (b0+acc.length) q out/\out.length<=n) /\
   whileD (gt (gr 4)) (wr C) (n+1) [X0,some (.val (hoursD (C "Hours") rest ks)),some (.val (.int b0)),X3,some x4,some (.acc (acc.map rnD)),a,b]
    = some (.next [X0,some (.val (hoursD (C "Hours") rest ks)),some (.val (.int b0)),X3,v4,some (.acc ((acc++out).map rnD)),v6,v7])
 |n,q,acc,x4,a,b,hx4,hp,ho,hl,hs,ha=>by
  by_cases hq:q=[]
  ·subst hq
   refine⟨[],some x4,a,b,⟨by simp,.nil _,by simp⟩,?_⟩
   rw[qk]
   ·simp
   ·rcases hx4 with rfl | rfl<;>simp
  ·have hql:1<=q.length:=by cases q with | nil=>exact (hq rfl).elim | cons=>simp
   have hn:=F.nn (b0+acc.length)
   have e1:=GB C (rest:=rest) (x:=b0+(acc.length:Int)) (ks:=ks) F.pos
   have e2:=R9 (q:=q) (m:=atR rest ks (b0+acc.length)) #[1] hn
   have e2b:=Gb (q:=q) (m:=atR rest ks (b0+acc.length)) #[1] hn
   have hsum:=J4 (m:=(atR rest ks (b0+acc.length)).toNat) hp
   have hdec:sumQ (beh (atR rest ks (b0+acc.length)).toNat q)+(total ks - (b0+acc.length+1)).toNat+1<=n:=by
    by_cases hx:b0+acc.length < total ks
    ·omega
    ·have:=Yd (rest:=rest) ks (b0+acc.length) #[1] F.pos
     have h1:=F.lo
     rw[this] at hsum ⊢
     omega
   have hb:=Jx (m:=(atR rest ks (b0+acc.length)).toNat) (q:=q)
   match n,hs,ha,hdec with
   |n+1,hs,ha,hdec=>
    have el:b0+(((acc++[(b0+(acc.length:Int),srv (atR rest ks (b0+acc.length)).toNat q)]).length:Nat):Int)=b0+acc.length+1:=by simp;omega
    obtain⟨out,v4,v6,v7,⟨o1,o1r,o1l⟩,o2⟩:=YD C F b0 X0 X3 n (beh (atR rest ks (b0+acc.length)).toNat q) (acc++[(b0+acc.length,srv (atR rest ks (b0+acc.length)).toNat q)]) (.val (.lst ((beh (atR rest ks (b0+acc.length)).toNat q).map tkD))) (some (.val (.int (b0+acc.length)))) (some (.val (.tup [.lst ((srv (atR rest ks (b0+acc.length)).toNat q).map D.str),.lst ((beh (atR rest ks (b0+acc.length)).toNat q).map tkD)]))) (.inl rfl) (Yq hp) (Yw Ok ho) #[1] (by rw[el];omega) (by simp;omega)
    rw[el] at o1r
    refine⟨(b0+acc.length,srv (atR rest ks (b0+acc.length)).toNat q)::out,v4,v6,v7,⟨?_,.cons hq o1r,by simp;omega⟩,?_⟩
    ·intro r hr
     rcases List.mem_cons.mp hr with rfl | hr
     ·refine⟨λy hy=>?_,?_⟩
      ·obtain⟨t,ht,rfl⟩:=List.mem_map.mp hy
       exact ho t (List.mem_of_mem_take ht)
      ·show (srv (atR rest ks (b0+acc.length)).toNat q).length<=100
       unfold srv
       rw[List.length_map,List.length_take];omega
     ·exact o1 r hr
    ·have hT:acc.length<=TOP:=by simp[TOP];omega
     simp[hoursD] at e1
     rcases hx4 with rfl | rfl
     ·rw[je (Z2:=_) (by simp[hq]) (show wr C _=some (.next _) from by
       simp[wr,hoursD,Wp,e1,e2,hT,t2]
       rfl)]
      simp[hoursD,rnD] at o2 ⊢
      exact o2
     ·rw[je (Z2:=_) (by simp[hq]) (show wr C _=some (.next _) from by
       simp[wr,hoursD,Wp,e1,e2b,hT,t2]
       rfl)]
      simp[hoursD,rnD] at o2 ⊢
      exact o2
theorem Uu (C:Str->Addr){x:En}{rest:Int}{ks:List HM.Row}(F:HOk rest ks){b0:Int}(hb:0<=b0){q:SI}(hp:PosQ q)(ho:∀t∈q,Ok t.1)(hl:q.length<=60)(hs:sumQ q<=1200)(hx:Lq x #[2]) :
  ∃out:List (Int×List Str),(∀r∈out,(∀y∈r.2,Ok y)/\r.2.length<=100)/\Run (atR rest ks) b0 q out/\out.length<=5000 /\
   xW C [x,.val (hoursD (C "Hours") rest ks),.val (.int b0),.val .non]=some (.acc (out.map rnD)):=by
 have ht:=F.tot
 obtain⟨out,v4,v6,v7,⟨o1,o1r,o1l⟩,o2⟩:=YD C F b0 (some x) (some (.val .non)) (sumQ q+(total ks - b0).toNat) q [] x none none hx hp ho #[1] (by simp) (by simp;omega)
 refine⟨out,o1,by simpa using o1r,by omega,?_⟩
 have o3:=Zg o2
 simp at o3
 rcases hx with rfl | rfl<;>simp[xW,mir,stE,qR,uU,o3]
theorem J9 (X0 X3:Option En)(v:Int):∀(xs:List Str) (d:SI) (a:Option En),d.length+xs.length<=1000000->∃a':Option En,
  forD (.name 4) uA (xs.map D.str) [X0,some (.dct none (kv d)),some (.val (.int v)),X3,a]=some (.next [X0,some (.dct none (kv (xs.foldl (λd n=>putS d n v) d))),some (.val (.int v)),X3,a'])
 | [],d,a,_=>⟨a,by simp⟩
 |x::xs,d,a,hl=>by
  simp only[List.length_cons] at hl
  have hz:(kv d).length < sizeLine:=by rw[ux,sizeLine_eq];omega
  have hp:=kF x v d
  have h2:=j4 x v d
  obtain⟨a',p⟩:=J9 X0 X3 v xs (putS d x v) (some (.val (.str x))) #[1]
  refine⟨a',?_⟩
  rw[List.foldl_cons,<-p]
  simp[uA,hz,hp]
theorem uc (v:Int):∀(xs:List Str) (d:SI),(xs.foldl (λd n=>putS d n v) d).length<=d.length+xs.length
 | [],d=>by simp
 |x::xs,d=>by
  have h1:=uc v xs (putS d x v)
  have h2:=j4 x v d
  simp only[List.foldl_cons,List.length_cons]
  omega
theorem JK (X0:Option En):∀(rows:List (Int×List Str)) (d:SI) (a b c:Option En),(∀r∈rows,r.2.length<=100)->d.length+100 * rows.length<=1000000->∃a' b' c':Option En,
  forD (.tup [2,3]) ZC (rows.map rnD) [X0,some (.dct none (kv d)),a,b,c]=some (.next [X0,some (.dct none (kv (endsS d rows))),a',b',c'])
 | [],d,a,b,c,_,_=>⟨a,b,c,by simp[endsS]⟩
 |r::rows,d,a,b,c,h,hl=>by
  simp only[List.length_cons] at hl
  have hr:=h r List.mem_cons_self
  obtain⟨c1,p1⟩:=J9 X0 (some (.val (.lst (r.2.map D.str)))) r.1 r.2 d c #[1]
  have h2:=uc r.1 r.2 d
  obtain⟨a',b',c',p⟩:=JK X0 rows (r.2.foldl (λd n=>putS d n r.1) d) (some (.val (.int r.1))) (some (.val (.lst (r.2.map D.str)))) c1 (λu hu=>h u (List.mem_cons_of_mem _ hu)) #[1]
  refine⟨a',b',c',?_⟩
  rw[show endsS d (r::rows)=endsS (r.2.foldl (λd n=>putS d n r.1) d) rows from rfl,<-p]
  simp[ZC,rnD,asgD,z7,p1]
theorem RY {rows:List (Int×List Str)}(h:∀r∈rows,r.2.length<=100)(hl:rows.length<=5000):vN [.val (.lst (rows.map rnD))]=some (.dct none (kv (endsS [] rows))):=by
 obtain⟨a',b',c',p⟩:=JK (some (.val (.lst (rows.map rnD)))) rows [] none none none h (by simp;omega)
 simp[kv] at p
 simp[vN,mir,stE,qQ,ZH,p]
 rfl
theorem Zs:∀(rs:List HM.Row),(∀r∈rs,Good r)->total rs<=100 * rs.length
 | [],_=>by simp[total]
 |r::rs,h=>by
  have h1:=(h r (by simp)).1.2
  have ih:=Zs rs λq hq=>h q (by simp[hq])
  simp only[total,List.length_cons]
  omega
theorem UT (acc:List HM.Row)(r:HM.Row):total (kstep acc r)=total acc+r.1:=by
 rcases List.eq_nil_or_concat acc with rfl | ⟨pre,q,rfl⟩
 ·simp[kstep,total]
 ·rw[List.concat_eq_append]
  unfold kstep
  rw[List.getLast?_concat]
  simp only[List.dropLast_concat]
  split<;>simp[qj,total]<;>omega
theorem W9:∀(rs acc:List HM.Row),total (rs.foldl kstep acc)=total acc+total rs
 | [],acc=>by simp[total]
 |r::rs,acc=>by rw[List.foldl_cons,W9 rs,UT];simp only[total];omega
theorem Go {rest:Int}{rs:List HM.Row}(h:Pos rs):total (krows rest rs)<=total rs:=by
 have h1:=W9 rs []
 obtain⟨_,hp⟩:=vc (rest:=rest) (Φ:=λ_=>()) ⟨λ_ _ _ _ _ _ _ _ _=>rfl,λ_ _ _ _=>rfl⟩ rs [] Pos.nil h
 simp only[total,Int.zero_add] at h1
 unfold krows kend
 rcases List.eq_nil_or_concat (rs.foldl kstep []) with h0 | ⟨pre,q,h0⟩
 ·rw[h0] at h1 ⊢;simp[total] at h1 ⊢;omega
 ·rw[List.concat_eq_append] at h0
  rw[h0] at h1 hp ⊢
  rw[List.getLast?_concat]
  have hq:=(Pos.cons.mp (Pos.app.mp hp).2).1
  rw[qj] at h1
  simp only[total] at h1
  simp only[List.dropLast_concat]
  split
  ·omega
  ·rw[qj];simp only[total];omega
theorem Fit.hok {rs:List HM.Row}{rest:Int}(F:Fit rs rest):HOk rest (krows rest rs):=by
 refine⟨zcz rest rs F.pos,F.lo,?_⟩
 have h1:=Go (rest:=rest) F.pos
 have h2:=Zs rs F.good
 have h3:=F.len
 omega
theorem Fit.at {rs:List HM.Row}{rest:Int}(F:Fit rs rest)(x:Int):atR rest (krows rest rs) x=atR rest rs x:=zcy (Kq rest x) rs F.pos
theorem Zt (ns:List Int)(k:Nat):yB [.val (.scr ns),.val (.int k)]=some (.val (.int (ns.getD k 0))):=by
 by_cases h:k < ns.length
 ·have e:atI ns (k:Int)=some ns[k]:=xb k (List.getElem?_eq_getElem h)
  simp[yB,mir,stE,vV,jM,h,e]
 ·simp[yB,mir,stE,vV,jM,h]
theorem QN (a:Int)(k:Int):∃z,jm [.val (.int a),.val (.int k)]=some (.val (.int z)):=by
 have h1:∀x:Int,-LIM < x % 2147483647:=λx=>by unfold LIM;omega
 have h1':∀x:Int,x % 2147483647 < LIM:=λx=>by unfold LIM;omega
 have h2:∀x:Int,-LIM < x % 2147483629:=λx=>by unfold LIM;omega
 have h2':∀x:Int,x % 2147483629 < LIM:=λx=>by unfold LIM;omega
 have l1:-LIM < 69621:=by decide
 have l2:69621 < LIM:=by decide
 have l3:-LIM < 16807:=by decide
 have l4:16807 < LIM:=by decide
 simp[jm,mir,stE,jS,Yb,zR,VU,h1,h2,h1',h2',l1,l2,l3,l4]
def Rng:List Int->List Int->Prop
 | [],[]=>True
 |b::bs,v::vs=>(0<=v/\v < b)/\Rng bs vs
 |_,_=>False
theorem Rng.len:∀ {bs vs:List Int},Rng bs vs->vs.length=bs.length
 | [],[],_=>rfl
 |b::bs,v::vs,h=>by simp[Rng.len h.2]
 | [],_::_,h=>h.elim
 |_::_,[],h=>h.elim
theorem Q7 (ns:List Int)(at0:Nat)(X2:Option En):∀(bs:List Int) (k:Nat) (c:Int) (k0 b0:Option En) (vs:List Int),(∀b∈bs,0 < b/\b < 1073741824)->vs.length+bs.length<=1000->∃(us:List Int) (c':Int) (k' b':Option En),Rng bs us /\
  forD (.tup [5,6]) qt (enumD k (bs.map D.int)) [some (.val (.scr ns)),some (.val (.int (at0:Int))),X2,some (.val (.int c)),some (.acc (vs.map D.int)),k0,b0]
   = some (.next [some (.val (.scr ns)),some (.val (.int (at0:Int))),X2,some (.val (.int c')),some (.acc ((vs++us).map D.int)),k',b'])
 | [],k,c,k0,b0,vs,_,_=>⟨[],c,k0,b0,trivial,by simp[enumD]⟩
 |b::bs,k,c,k0,b0,vs,hb,hl=>by
  simp only[List.length_cons] at hl
  have hb1:=hb b List.mem_cons_self
  obtain⟨z,hz⟩:=QN c (k:Int)
  have e0:=Zt ns 0
  have hs:(0:Int)<=(at0:Int) % 8:=by omega
  have ht':vs.length<=TOP:=by simp[TOP];omega
  have ih:=λ(v:Int) (c2:Int)=>Q7 ns at0 X2 bs (k+1) c2 (some (.val (.int (k:Int)))) (some (.val (.int b))) (vs++[v]) (λd hd=>hb d (List.mem_cons_of_mem _ hd)) (by simp;omega)
  by_cases q:Builtin.bitAnd (ns.getD 0 0 / 2 ^ ((at0:Int) % 8).toNat) 1=0
  ·obtain⟨us,c',k',b',p1,p3⟩:=ih (c % b) (c / b)
   refine⟨(c % b)::us,c',k',b',⟨⟨Int.emod_nonneg _ #[1],Int.emod_lt_of_pos _ hb1.1⟩,p1⟩,?_⟩
   rw[show vs++(c % b)::us=(vs++[c % b])++us by simp,<-p3]
   simp at e0 q
   simp[enumD,asgD,z7,qt,e0,zR,W6 hs,q,zR hb1.1,xK hb1.1 hb1.2,ht']
  ·obtain⟨us,c',k',b',p1,p3⟩:=ih (z / 8 % b) c
   refine⟨(z / 8 % b)::us,c',k',b',⟨⟨Int.emod_nonneg _ #[1],Int.emod_lt_of_pos _ hb1.1⟩,p1⟩,?_⟩
   rw[show vs++(z / 8 % b)::us=(vs++[z / 8 % b])++us by simp,<-p3]
   simp at e0 q hz
   simp[enumD,asgD,z7,qt,e0,zR,W6 hs,q,zR hb1.1,xK,ht',hz]
theorem vv (ns:List Int)(at0:Nat)(bs:List Int)(hb:∀b∈bs,0 < b/\b < 1073741824)(hl:bs.length<=900):∃us:List Int,Rng bs us/\yn [.val (.scr ns),.val (.int at0),.val (.lst (bs.map D.int))]=some (.acc (us.map D.int)):=by
 obtain⟨us,c',k',b',p1,p3⟩:=Q7 ns at0 (some (.val (.lst (bs.map D.int)))) bs 0 (ns.getD at0 0) none none [] hb (by simp;omega)
 refine⟨us,p1,?_⟩
 have e0:=Zt ns at0
 generalize hB:bs.map D.int=BS at *
 simp only[yn,mir,stE,kN,uI]
 simp at p3
 simp[e0,p3]
theorem z5 {n:Nat}(h:n<=1000):n<=TOP:=Nat.le_trans h (by decide)
theorem Ge {l:List Nat}{k:Int}(h1:0<=k)(h2:k<=l.length):Txt.slice (mk l) (some k) none=mk (l.drop k.toNat):=by
 rw[slice_from_eq (b:=((mk l).length:Int)) h1 (by rw[xp];exact h2) rfl,xp]
 have e:(mk l).cps.toList=l:=by simp[mk]
 rw[e,List.take_of_length_le (by rw[List.length_drop];omega)]
 rfl
def wloop:List Nat->List Nat->Int->List Nat×Int
 | [],l,z=>(l,z)
 |j::js,l,z=>wloop js (l++[sg (z % (if j=0 then 26 else 36))]) (z / 36)
theorem i36a:fItem (.lst [.int 36,.int 26]) (.int 1)=some (.int 26):=rfl
theorem i36b:fItem (.lst [.int 36,.int 26]) (.int 0)=some (.int 36):=rfl
theorem VF (X0 X1 X3 X4:Option En):∀(js l:List Nat) (z:Int) (b7:Option En),l.length+js.length<=100->∃b7':Option En,
  forD (.name 7) qT (js.map λ(j:Nat)=>D.int (0+(j:Int))) [X0,X1,some (.val (.str SIGNS)),X3,X4,some (.val (.int z)),some (.val (.str (mk l))),b7]
   = some (.next [X0,X1,some (.val (.str SIGNS)),X3,X4,some (.val (.int (wloop js l z).2)),some (.val (.str (mk (wloop js l z).1))),b7'])
 | [],l,z,b7,_=>⟨b7,by simp[wloop]⟩
 |j::js,l,z,b7,hl=>by
  simp only[List.length_cons] at hl
  obtain⟨b7',p⟩:=VF X0 X1 X3 X4 js (l++[sg (z % (if j=0 then 26 else 36))]) (z / 36) (some (.val (.int (0+(j:Int))))) (by simp;omega)
  refine⟨b7',?_⟩
  rw[show wloop (j::js) l z=wloop js (l++[sg (z % (if j=0 then 26 else 36))]) (z / 36) from rfl,<-p]
  have t1:l.length+1<=TOP:=z5 #[1]
  by_cases h:j=0
  ·subst h
   have i1:=Z0 (a:=z % 26) #[1] #[1]
   simp[qT,zR,xK,t2,i36a,i1,xp,jQ,t1]
  ·have h':¬((j:Int)=0):=by omega
   have i1:=Z0 (a:=z % 36) #[1] #[1]
   simp[qT,zR,xK,h,h',t2,i36b,i1,xp,jQ,t1]
theorem Qz:∀(js l:List Nat) (z:Int),(wloop js l z).1.length=l.length+js.length
 | [],l,z=>by simp[wloop]
 |j::js,l,z=>by rw[wloop,Qz];simp;omega
theorem Qq:∀(js l:List Nat) (z:Int),(∀d∈l,d∈S36)->∀d∈(wloop js l z).1,d∈S36
 | [],l,z,h=>h
 |j::js,l,z,h=>Qq js _ _ λd hd=>by
  rcases List.mem_append.mp hd with q | q
  ·exact h d q
  ·rw[List.mem_singleton.mp q]
   split
   ·exact VR #[1] #[1]
   ·exact VR #[1] #[1]
theorem Vd:∀(js l:List Nat) (z:Int) (c:Nat),l.head?=some c->(wloop js l z).1.head?=some c
 | [],l,z,c,h=>h
 |j::js,l,z,c,h=>Vd js _ _ c (by cases l with | nil=>cases h | cons a r=>simpa using h)
def word (c:Int):List Nat:=(wloop (List.range (c % 8).toNat) [] (c / 72)).1
def wleft (c:Int):Int:=(wloop (List.range (c % 8).toNat) [] (c / 72)).2
def wat (c:Int):Nat:=(c / 8 % (c % 8+1)).toNat
def nmK (c:Int)(k:Nat):List Nat:=(word c).take (wat c)++(sg ((wleft c+k) % 26)::(word c).drop (wat c))
theorem uy (c:Int):(word c).length=(c % 8).toNat:=by unfold word;rw[Qz];simp
theorem W7 (c:Int):wat c<=(word c).length:=by
 rw[uy];unfold wat
 have h1:0<=c % 8:=by omega
 have h2:=Int.emod_lt_of_pos (c / 8) (show 0 < c % 8+1 by omega)
 have h3:=Int.emod_nonneg (c / 8) (show c % 8+1≠0 by omega)
 omega
theorem zec (c:Int)(k:Nat):NameOk (mk (nmK c k)):=by
 have hl:=uy c
 have hm:∀d∈word c,d∈S36:=Qq _ _ _ (by simp)
 have hw:=W7 c
 have s1:sg ((wleft c+k) % 26)∈S36.take 26:=Qe #[1] #[1]
 have all:∀d∈nmK c k,d∈S36:=λd hd=>by
  unfold nmK at hd
  rcases List.mem_append.mp hd with q | q
  ·exact hm d (List.mem_of_mem_take q)
  ·rcases List.mem_cons.mp q with rfl | q
   ·exact List.mem_of_mem_take s1
   ·exact hm d (List.mem_of_mem_drop q)
 have len:(nmK c k).length=(word c).length+1:=by
  unfold nmK
  rw[List.length_append,List.length_cons,List.length_take,List.length_drop]
  omega
 have hd:∃x,(nmK c k).head?=some x/\x∈S36.take 26:=by
  unfold nmK
  cases hw0:wat c with
  |zero=>exact⟨_,by simp,s1⟩
  |succ n=>
   have hne:0 < (c % 8).toNat:=by rw[hw0] at hw;omega
   obtain⟨m,hm2⟩:∃m,(c % 8).toNat=m+1:=⟨_,(Nat.succ_pred_eq_of_pos hne).symm⟩
   have e:(word c).head?=some (sg (c / 72 % 26)):=by
    unfold word
    rw[hm2,List.range_succ_eq_map]
    show (wloop _ ([]++[sg (c / 72 % (if (0:Nat)=0 then 26 else 36))]) _).1.head?=_
    exact Vd _ _ _ _ (by simp)
   refine⟨_,?_,Qe (a:=c / 72 % 26) #[1] #[1]⟩
   cases q:word c with
   |nil=>rw[q] at e;cases e
   |cons a r=>rw[q] at e;simp at e;simp[e]
 obtain⟨x,hx,hx2⟩:=hd
 cases q:nmK c k with
 |nil=>rw[q] at hx;cases hx
 |cons a r=>
  rw[q] at hx all len
  have hax:a=x:=Option.some.inj hx
  rw[<-hax] at hx2
  exact⟨a,r,rfl,hx2,λd hd=>all d (List.mem_cons_of_mem _ hd),by simp at len;omega⟩
theorem GA {c:Int}{j k:Nat}(hj:j < 26)(hk:k < 26)(e:nmK c j=nmK c k):j=k:=by
 unfold nmK at e
 have e1:=List.append_cancel_left e
 have e2:sg ((wleft c+j) % 26)=sg ((wleft c+k) % 26):=(List.cons.inj e1).1
 have e3:=zd1 #[1] #[1] #[1] #[1] e2
 omega
theorem Gp (c:Int)(k:Nat):jC [.val (.int c),.val (.int k)]=some (.val (.str (mk (nmK c k)))):=by
 have hw:=W7 c
 have hl:=uy c
 obtain⟨b7',p⟩:=VF (some (.val (.int c))) (some (.val (.int k))) (some (.val (.int (c % 8)))) (some (.val (.int (c / 8 % (c % 8+1))))) (List.range (c % 8).toNat) [] (c / 72) none (by simp;omega)
 have en:((c % 8).toNat:Int)=c % 8:=by omega
 have hB:-BIG<=c % 8/\c % 8<=BIG:=by unfold BIG;omega
 have h3:=Int.emod_nonneg (c / 8) (show c % 8+1≠0 by omega)
 have h9:(0:Int) < c % 8+1:=by omega
 have s1:=K3 (l:=word c) (k:=c / 8 % (c % 8+1)) h3 (by unfold wat at hw;omega)
 have s2:=Ge (l:=word c) (k:=c / 8 % (c % 8+1)) h3 (by unfold wat at hw;omega)
 have i1:=Z0 (a:=(wleft c+k) % 26) #[1] #[1]
 have mk0:mk []=("" : Str):=by decide +kernel
 rw[mk0] at p
 rw[show (wloop (List.range (c % 8).toNat) [] (c / 72)).1=word c from rfl,show (wloop (List.range (c % 8).toNat) [] (c / 72)).2=wleft c from rfl] at p
 have t1:(word c).length<=TOP:=z5 #[1]
 have t2:min (wat c) (word c).length+1<=TOP:=z5 #[1]
 have t3:min (wat c) (word c).length+1+((word c).length - wat c)<=TOP:=z5 #[1]
 have r1:=qP 0 (c % 8).toNat
 unfold SIGNS at p i1
 simp only[jC,mir,stE,jU,Yj]
 simp at p
 simp[zR,xK,zR h9,hB,r1,p,s1,s2,i1,xp,jQ,t1]
 unfold wat at t2 t3
 simp[nmK,wat,xp,jQ,t2,t3]
theorem Yg (xs:List Int){n:Nat}(h:xs.length * n<=1000)(hn:n<=1000):fRep (.lst (xs.map D.int)) (.int (n:Int))=some ((List.replicate n xs).flatten.map D.int):=by
 have h3:∀k:Nat,(List.replicate k (xs.map D.int)).flatten=(List.replicate k xs).flatten.map D.int:=λk=>by
  induction k with
  |zero=>rfl
  |succ k ih=>rw[List.replicate_succ,List.replicate_succ,List.flatten_cons,List.flatten_cons,List.map_append,ih]
 have h1:xs.length * n<=TOP:=z5 h
 rw[GI,if_pos ⟨by omega,by simpa using h1⟩,Int.toNat_natCast,h3]
theorem Vz:∀(n:Nat) (us:List Int),Rng (List.replicate n [6,36]).flatten us->us.length=2 * n/\∀k,k < n->∃a b,us[2 * k]?=some a/\us[2 * k+1]?=some b/\0<=a/\a < 6/\0<=b
 |0,[],_=>⟨rfl,λk h=>by omega⟩
 |0,_::_,h=>h.elim
 |n+1,[],h=>by simp[List.replicate_succ,Rng] at h
 |n+1,[_],h=>by simp[List.replicate_succ,Rng] at h
 |n+1,a::b::us,h=>by
  simp only[List.replicate_succ,List.flatten_cons,List.cons_append,List.nil_append,Rng] at h
  obtain⟨ha,hb,h⟩:=h
  obtain⟨h1,h2⟩:=Vz n us h
  refine⟨by simp[h1];omega,λk hk=>?_⟩
  match k,hk with
  |0,_=>exact⟨a,b,rfl,rfl,ha.1,ha.2,hb.1⟩
  |k+1,hk=>
   obtain⟨x,y,e1,e2,e3⟩:=h2 k #[1]
   refine⟨x,y,?_,?_,e3⟩
   ·rw[show 2 * (k+1)=2 * k+1+1 from by omega];simpa using e1
   ·rw[show 2 * (k+1)+1=2 * k+1+1+1 from by omega];simpa using e2
theorem pick4 (a b c d:Int){w:Int}(h1:0<=w)(h2:w < 4):∃v,atI [D.int a,D.int b,D.int c,D.int d] w=some (.int v)/\(v=a∨v=b∨v=c∨v=d):=by
 have:w=0∨w=1∨w=2∨w=3:=by omega
 rcases this with rfl | rfl | rfl | rfl
 ·exact⟨a,rfl,.inl rfl⟩
 ·exact⟨b,rfl,.inr (.inl rfl)⟩
 ·exact⟨c,rfl,.inr (.inr (.inl rfl))⟩
 ·exact⟨d,rfl,.inr (.inr (.inr rfl))⟩
def RowOk (r:HM.Row):Prop:=(1<=r.1/\r.1<=6)/\0<=r.2/\r.2<=8
theorem Vq (us:List Int){w:Int}(w1:0<=w)(w2:w < 4)(n:Nat)(hus:∀k,k < n->∃a b,us[2 * k]?=some a/\us[2 * k+1]?=some b/\0<=a/\a < 6/\0<=b)(X0 X1 X2 X3 X8 X9 X10 X11 X12:Option En) :
  ∀(ks:List Nat) (acc:List HM.Row) (x7:Option En),(∀k∈ks,k < n)->acc.length+ks.length<=900->∃(rs:List HM.Row) (x7':Option En),(∀r∈rs,RowOk r)/\rs.length=ks.length /\
   forD (.name 7) uh (ks.map λ(k:Nat)=>D.int (0+(k:Int))) [X0,X1,X2,X3,some (.val (.int w)),some (.val (.lst (us.map D.int))),some (.acc (acc.map rowD)),x7,X8,X9,X10,X11,X12]
    = some (.next [X0,X1,X2,X3,some (.val (.int w)),some (.val (.lst (us.map D.int))),some (.acc ((acc++rs).map rowD)),x7',X8,X9,X10,X11,X12])
 | [],acc,x7,_,_=>⟨[],x7,by simp,rfl,by simp⟩
 |k::ks,acc,x7,hk,hl=>by
  simp only[List.length_cons] at hl
  obtain⟨a,b,e1,e2,a1,a2,b1⟩:=hus k (hk k (by simp))
  obtain⟨v,ev,hv⟩:=pick4 9 4 3 2 w1 w2
  have hv0:0 < v:=by omega
  obtain⟨rs,x7',r1,r2,r3⟩:=Vq us w1 w2 n hus X0 X1 X2 X3 X8 X9 X10 X11 X12 ks (acc++[(1+a,b % v)]) (some (.val (.int (k:Int)))) (λj hj=>hk j (by simp[hj])) (by simp;omega)
  refine⟨(1+a,b % v)::rs,x7',?_,by simp[r2],?_⟩
  ·intro r hr
   rcases List.mem_cons.mp hr with rfl | hr
   ·have h1:=Int.emod_nonneg b (show v≠0 by omega)
    have h2:=Int.emod_lt_of_pos b hv0
    exact⟨⟨by omega,by omega⟩,h1,by show b % v<=8;omega⟩
   ·exact r1 r hr
  ·have i1:atI (us.map D.int) (2 * (k:Int))=some (.int a):=by
    have:=atI_nat (xs:=us.map D.int) (i:=2 * k) (v:=.int a) (by simp[e1])
    simpa using this
   have i2:atI (us.map D.int) (2 * (k:Int)+1)=some (.int b):=by
    have:=atI_nat (xs:=us.map D.int) (i:=2 * k+1) (v:=.int b) (by simp[e2])
    simpa using this
   have hT:acc.length < TOP:=by simp[TOP];omega
   have hT':acc.length<=TOP:=by omega
   have t4:4<=TOP:=by decide
   rw[List.append_assoc,List.singleton_append] at r3
   rw[<-r3]
   have m2:fMul (.int 2) (.int (k:Int))=some (.int (2 * (k:Int))):=VU (by decide) (by decide)
   simp[uh,asgD,m2,i1,i2,ev,zR,hv0,t2,t4,hT,hT',rowD]
def qL (c v:Int):Nat->List Int->SI
 |_,[]=>[]
 |k,u::us=>(mk (nmK c k),1+u % v)::qL c v (k+1) us
theorem uW (c v:Int):∀(k:Nat) (us:List Int),(qL c v k us).length=us.length
 |_,[]=>rfl
 |k,u::us=>by simp[qL,uW c v (k+1) us]
theorem Ye (c v:Int):∀(k:Nat) (us:List Int) (x:Str),x∈nms (qL c v k us)->∃j,k<=j/\j < k+us.length/\x=mk (nmK c j)
 |k,[],x,h=>by simp[qL,nms] at h
 |k,u::us,x,h=>by
  rcases List.mem_cons.mp (show x∈mk (nmK c k)::nms (qL c v (k+1) us) from h) with rfl | h
  ·exact⟨k,Nat.le_refl _,by simp,rfl⟩
  ·obtain⟨j,h1,h2,h3⟩:=Ye c v (k+1) us x h
   exact⟨j,by omega,by simp;omega,h3⟩
theorem J0 (c v:Int):∀(k:Nat) (us:List Int),k+us.length<=26->(nms (qL c v k us)).Nodup
 |k,[],_=>by simp[qL,nms]
 |k,u::us,h=>by
  simp only[List.length_cons] at h
  show (mk (nmK c k)::nms (qL c v (k+1) us)).Nodup
  refine List.nodup_cons.mpr ⟨λhm=>?_,J0 c v (k+1) us #[1]⟩
  obtain⟨j,h1,h2,h3⟩:=Ye c v (k+1) us _ hm
  have:=GA #[1] #[1] (WR h3)
  omega
theorem YA (c v:Int)(h0:0 < v)(h1:v<=20):∀(k:Nat) (us:List Int),∀t∈qL c v k us,1<=t.2/\t.2<=20
 |_,[],t,h=>by simp[qL] at h
 |k,u::us,t,h=>by
  rcases List.mem_cons.mp (show t∈(mk (nmK c k),1+u % v)::qL c v (k+1) us from h) with rfl | h
  ·have h1:=Int.emod_nonneg u (show v≠0 by omega)
   have h2:=Int.emod_lt_of_pos u h0
   exact⟨by show 1<=1+u % v;omega,by show 1+u % v<=20;omega⟩
  ·exact YA c v h0 h1 (k+1) us t h
structure Q5 (q:SI):Prop where
 nam:∀t∈q,NameOk t.1
 nd:(nms q).Nodup
 len:q.length<=8
 le:∀t∈q,1<=t.2/\t.2<=20
theorem Q5.ok {q:SI}(h:Q5 q):∀t∈q,Ok t.1:=λt ht=>(h.nam t ht).ok
theorem Q5.pos {q:SI}(h:Q5 q):PosQ q:=λt ht=>(h.le t ht).1
theorem VW (ns:List Int){w:Int}(w1:0<=w)(w2:w < 4){v:Int}(ev:atI [D.int 20,D.int 5,D.int 3,D.int 5] w=some (.int v))(hv:0 < v)(X1 X2 X3 X4 X5 X6 X8 X10:Option En) :
  ∀(us:List Int) (k:Nat) (acc:SI) (x7 x12:Option En),acc.length+us.length<=900->∃(x7' x12':Option En),
   forD (.tup [7,12]) kW (enumD k (us.map D.int)) [some (.val (.scr ns)),X1,X2,X3,X4,X5,X6,x7,X8,some (.val (.int w)),X10,some (.acc (acc.map tkD)),x12]
    = some (.next [some (.val (.scr ns)),X1,X2,X3,X4,X5,X6,x7',X8,some (.val (.int w)),X10,some (.acc ((acc++qL (ns.getD 4 0) v k us).map tkD)),x12'])
 | [],k,acc,x7,x12,_=>⟨x7,x12,by simp[enumD,qL]⟩
 |u::us,k,acc,x7,x12,hl=>by
  simp only[List.length_cons] at hl
  obtain⟨x7',x12',p⟩:=VW ns w1 w2 ev hv X1 X2 X3 X4 X5 X6 X8 X10 us (k+1) (acc++[(mk (nmK (ns.getD 4 0) k),1+u % v)]) (some (.val (.int (k:Int)))) (some (.val (.int u))) (by simp;omega)
  refine⟨x7',x12',?_⟩
  have e0:=Zt ns 4
  have e1:=Gp (ns.getD 4 0) k
  have hT:acc.length<=TOP:=z5 #[1]
  have t4:4<=TOP:=by decide
  simp only[List.map_cons,enumD,qL]
  rw[List.append_assoc,List.singleton_append] at p
  rw[<-p]
  simp at e0 e1
  simp[asgD,z7,kW,e0,e1,ev,zR,hv,tkD,t2,t4,hT]
theorem rng4 {a b c d:Int}{us:List Int}(h:Rng [a,b,c,d] us):∃x y z w,us=[x,y,z,w]/\(0<=x/\x < a)/\(0<=y/\y < b)/\(0<=z/\z < c)/\0<=w/\w < d:=by
 match us,h with
 | [x,y,z,w],h=>exact⟨x,y,z,w,rfl,h.1,h.2.1,h.2.2.1,h.2.2.2.1⟩
 | [],h=>exact h.elim
 | [_],h=>exact h.2.elim
 | [_,_],h=>exact h.2.2.elim
 | [_,_,_],h=>exact h.2.2.2.elim
 |_::_::_::_::_::_,h=>exact h.2.2.2.2.elim
theorem rng2 {a b:Int}{us:List Int}(h:Rng [a,b] us):∃x y,us=[x,y]/\(0<=x/\x < a)/\0<=y/\y < b:=by
 match us,h with
 | [x,y],h=>exact⟨x,y,rfl,h.1,h.2.1⟩
 | [],h=>exact h.elim
 | [_],h=>exact h.2.elim
 |_::_::_::_,h=>exact h.2.2.elim
theorem Ze:∀(k:Nat) (xs:List D),(enumD k xs).length=xs.length
 |_,[]=>rfl
 |k,x::xs=>by simp[enumD,Ze (k+1) xs]
theorem G5 (ns:List Int):∃(q:SI) (rs:List HM.Row) (rest b0:Int),Q5 q/\(∀r∈rs,RowOk r)/\rs.length<=5/\(1<=rest/\rest<=3)/\(0<=b0/\b0<=20) /\
  jF [.val (.scr ns)]=some (.val (.tup [.lst #[2],.lst (rs.map rowD),.int rest,.int b0])):=by
 obtain⟨us1,r1,p1⟩:=vv ns 1 [6,21,3,4] (by simp) (by simp)
 obtain⟨many,b0,rest,w,rfl,hm,hb,hr,hw⟩:=rng4 r1
 obtain⟨m,rfl⟩:∃m:Nat,many=(m:Int):=⟨many.toNat,by omega⟩
 obtain⟨us2,r2,p2⟩:=vv ns 2 (List.replicate m [6,36]).flatten (λb hb=>by
  obtain⟨l,hl,hb⟩:=List.mem_flatten.mp hb
  rw[List.eq_of_mem_replicate hl] at hb
  simp at hb
  omega) (by simp;omega)
 obtain⟨_,g2'⟩:=Vz m us2 r2
 obtain⟨us3,r3,p3⟩:=vv ns 3 [9,4] (by simp) (by simp)
 obtain⟨tk,lw,rfl,ht,hw2⟩:=rng2 r3
 obtain⟨t,rfl⟩:∃t:Nat,tk=(t:Int):=⟨tk.toNat,by omega⟩
 obtain⟨us4,r4,p4⟩:=vv ns 3 ([9,4]++(List.replicate t [20]).flatten) (λb hb=>by
  rcases List.mem_append.mp hb with hb | hb
  ·simp at hb;omega
  ·obtain⟨l,hl,hb⟩:=List.mem_flatten.mp hb
   rw[List.eq_of_mem_replicate hl] at hb
   simp at hb
   omega) (by simp;omega)
 have l4:us4.length=t+2:=by rw[r4.len];simp
 obtain⟨v,ev,hv⟩:=pick4 20 5 3 5 hw2.1 hw2.2
 obtain⟨rs,x7,q1,q2,q3⟩:=Vq us2 hw.1 hw.2 m g2' (some (.val (.scr ns))) (some (.val (.int m))) (some (.val (.int b0))) (some (.val (.int rest))) none none none none none (List.range m) [] none (λk hk=>List.mem_range.mp hk) (by simp;omega)
 obtain⟨x7',x12',q4⟩:=VW ns hw2.1 hw2.2 ev #[1] (some (.val (.int m))) (some (.val (.int b0))) (some (.val (.int rest))) (some (.val (.int w))) (some (.val (.lst (us2.map D.int)))) (some (.acc (rs.map rowD))) (some (.val (.int t))) (some (.val (.lst ((us4.drop 2).map D.int)))) (us4.drop 2) 0 [] x7 none (by simp;omega)
 refine⟨qL (ns.getD 4 0) v 0 (us4.drop 2),rs,1+rest,b0,⟨λt ht=>?_,J0 _ _ _ _ (by simp;omega),by rw[uW];simp;omega,YA _ _ #[1] #[1] _ _⟩,q1,by rw[q2];simp;omega,⟨by omega,by omega⟩,⟨by omega,by omega⟩,?_⟩
 ·obtain⟨j,_,_,e⟩:=Ye _ v 0 _ t.1 (List.mem_map_of_mem ht)
  rw[e];exact zec _ j
 ·have er1:=Yg [6,36] (n:=m) (by simp;omega) #[1]
  have er2:=Yg [20] (n:=t) (by simp;omega) #[1]
  have hcut:cutD (us4.map D.int) (some 2) none=(us4.drop 2).map D.int:=by rw[vg #[1],List.map_drop];rfl
  have hT3:t+2<=TOP:=z5 #[1]
  have hT5:us4.length<=TOP:=z5 #[1]
  have hT6:(us4.drop 2).length<=TOP:=z5 (by simp;omega)
  have hlen:((List.replicate t [(20:Int)]).flatten).length=t:=by simp
  rw[List.map_append] at p4
  have hTe:(enumD 0 ((us4.drop 2).map D.int)).length<=TOP:=by rw[Ze];simpa using hT6
  generalize hR1:(List.replicate m [(6:Int),36]).flatten.map D.int=R1 at *
  generalize hR2:(List.replicate t [(20:Int)]).flatten.map D.int=R2 at *
  have hl2:R2.length=t:=by rw[<-hR2];simpa using hlen
  have hz:m<=TOP:=z5 #[1]
  have hcat:fCatS (.lst [.int 9,.int 4]) (.lst R2)=some ([.int 9,.int 4]++R2):=by rw[zc0];simp[hl2];omega
  have hrng:rngD 0 m=(List.range m).map λ(k:Nat)=>D.int (0+(k:Int)):=qP 0 m
  have hbig:-BIG<=(m:Int)/\(m:Int)<=BIG:=by simp[BIG];omega
  have t4:4<=TOP:=by decide
  have hlr:rs.length<=TOP:=z5 (by rw[q2];simp;omega)
  have hlq:(qL (ns.getD 4 0) v 0 (us4.drop 2)).length<=TOP:=by rw[uW];exact hT6
  generalize hqq:qL (ns.getD 4 0) v 0 (us4.drop 2)=Q at *
  generalize hD:(us4.drop 2).map D.int=DD at *
  generalize hU4:us4.map D.int=U4 at *
  generalize hU2:us2.map D.int=U2 at *
  simp only[List.map_cons,List.map_nil,Int.natCast_one,Int.cast_ofNat_Int,List.nil_append,List.map_append] at p1 p2 p3 p4 er1 er2 q3 q4
  simp only[jF,mir,stE,kg,uO]
  simp only[Int.zero_add] at q3 hrng
  have t1:1<=TOP:=by decide
  have hl3:2+R2.length<=TOP:=by rw[hl2];omega
  simp only[List.cons_append,List.nil_append] at p4
  simp[p1,p2,p3,p4,er1,er2,t1,t2,t4,hbig,hrng,q3,q4,hl3,hcut,hTe,frzE]
theorem Q9 {α:Type}{f:Int->Int}:∀ {rows rows':List (Int×List α)} {x:Int} {q:List (Tk α)},Run f x q rows->Run f x q rows'->rows=rows'
 |_,_,_,_,.nil x,h=>by
  cases h with
  |nil=>rfl
  |cons h _=>exact (h rfl).elim
 |_,_,_,_,.cons h1 r,h=>by
  cases h with
  |nil=>exact (h1 rfl).elim
  |cons h2 r'=>rw[Q9 r r']
@[simp]theorem zhe {Z:EnvD}{b:SD}:thenB (some (.brk Z)) b=some (.brk Z):=rfl
@[simp]theorem zh5 {Z:EnvD}{b:SD}:loopB (some (.brk Z)) b=some (.next Z):=rfl
def sideD (rs:List HM.Row)(rest:Int):D:=.tup [.lst (rs.map rowD),.int rest,.int 1,.int 0]
theorem Qd (X0 X1 X2 X3 X4 X5:Option En)(rest:Int):∀(rs:List HM.Row) (x:Int) (a b:Option En),∃(x' a' b':Option En),
  forD (.tup [8,9]) qZ (rs.map rowD) [X0,X1,X2,X3,X4,X5,some (.val (.int rest)),some (.val (.int x)),a,b]=some (.next [X0,X1,X2,X3,X4,X5,some (.val (.int (atR rest rs x))),x',a',b'])
 | [],x,a,b=>⟨some (.val (.int x)),a,b,by simp[atR]⟩
 |r::rs,x,a,b=>by
  by_cases h:x < r.1
  ·exact⟨some (.val (.int x)),some (.val (.int r.1)),some (.val (.int r.2)),by simp[atR,h,qZ,rowD,asgD,z7]⟩
  ·obtain⟨x',a',b',p⟩:=Qd X0 X1 X2 X3 X4 X5 rest rs (x - r.1) (some (.val (.int r.1))) (some (.val (.int r.2)))
   refine⟨x',a',b',?_⟩
   rw[atR,if_neg h,<-p]
   simp[h,qZ,rowD,asgD,z7]
theorem zfh {rs:List HM.Row}{rest x:Int}:vy [.val (sideD rs rest),.val (.int x)]=some (.val (.int (atR rest rs x))):=by
 obtain⟨x',a',b',p⟩:=Qd (some (.val (sideD rs rest))) (some (.val (.int x))) (some (.val (.lst (rs.map rowD)))) (some (.val (.int rest))) (some (.val (.int 1))) (some (.val (.int 0))) rest rs x none none
 have h2:¬(x<=0/\1<=x):=by omega
 simp only[sideD] at p
 by_cases h:1<=x
 ·have h3:¬(x<=0):=by omega
  simp[vy,mir,stE,jc,kr,sideD,asgD,z7,p,h,h3]
 ·simp[vy,mir,stE,jc,kr,sideD,asgD,z7,p,h]
theorem Ut (q:List (Str×Int)):compD (.tup [0,1]) (gb' (g2 fGt (gr 1) (gc (.int 1)))) Jb [none,none] #[2]=some (((q.filter λt=>decide (1 < t.2)).map λt=>(t.1,t.2 - 1)).map tkD):=qe q
theorem Vx {rest:Int}{rs:List HM.Row}(F:HOk rest rs)(X0 X2:Option En):∀(n:Nat) (q:SI) (acc:List (Int×List Str)) (x:Int) (a:Option En),PosQ q->(∀t∈q,Ok t.1)->q.length<=100->sumQ q+(total rs - x).toNat<=n->acc.length+n<=5000 ->
  ∃(out:List (Int×List Str)) (v3 v5 v6:Option En),Run (atR rest rs) x q out /\
   whileD (gb' (g2 (fEq true) (gr 3) (gFz (gLst gNil)))) kX (n+1) [X0,some (.val (sideD rs rest)),X2,some (.val (.lst #[2])),some (.acc (acc.map rnD)),some (.val (.int x)),a]
    = some (.next [X0,some (.val (sideD rs rest)),X2,v3,some (.acc ((acc++out).map rnD)),v5,v6])
 |n,q,acc,x,a,hp,ho,hl,hs,ha=>by
  have hne:=GL (neg:=true) ho
  by_cases hq:q=[]
  ·subst hq
   refine⟨[],some (.val (.lst [])),some (.val (.int x)),a,.nil _,?_⟩
   rw[qk]
   ·simp
   ·simp at hne
    simp[hne]
  ·have hn:=F.nn x
   have e1:=zfh (rs:=rs) (rest:=rest) (x:=x)
   have hsum:=J4 (m:=(atR rest rs x).toNat) hp
   have hql:1<=q.length:=by cases q with | nil=>exact (hq rfl).elim | cons=>simp
   have hdec:sumQ (beh (atR rest rs x).toNat q)+(total rs - (x+1)).toNat+1<=n:=by
    by_cases hx:x < total rs
    ·omega
    ·have:=Yd (rest:=rest) rs x #[1] F.pos
     have h1:=F.lo
     rw[this] at hsum ⊢
     omega
   have hb:=Jx (m:=(atR rest rs x).toNat) (q:=q)
   match n,hs,ha,hdec with
   |n+1,hs,ha,hdec=>
    obtain⟨out,v3,v5,v6,o1,o2⟩:=Vx F X0 X2 n (beh (atR rest rs x).toNat q) (acc++[(x,srv (atR rest rs x).toNat q)]) (x+1) (some (.val (.int (atR rest rs x)))) (Yq hp) (Yw Ok ho) #[1] #[1] (by simp;omega)
    refine⟨(x,srv (atR rest rs x).toNat q)::out,v3,v5,v6,.cons hq o1,?_⟩
    generalize hat:atR rest rs x=m at *
    have c1:cutD #[2] none (some m)=(q.take m.toNat).map tkD:=by rw[qG hn,List.map_take]
    have c2:cutD #[2] (some m) none=(q.drop m.toNat).map tkD:=by rw[vg hn,List.map_drop]
    have e3:=Ut (q.take m.toNat)
    have e4:=ZJ (e:=ZE) (λa b=>by simp[ZE]) (q.take m.toNat)
    have lA:(q.take m.toNat).length<=q.length:=by rw[List.length_take];omega
    have lB:(q.drop m.toNat).length<=q.length:=by rw[List.length_drop];omega
    have hf:=List.length_filter_le (λt:Str×Int=>decide (1 < t.2)) (q.take m.toNat)
    generalize hA:q.take m.toNat=A at *
    generalize hB:q.drop m.toNat=Bq at *
    have tA:A.length<=TOP:=z5 #[1]
    have tB:Bq.length<=TOP:=z5 #[1]
    have tc:(A.filter λt=>decide (1 < t.2)).length+Bq.length<=TOP:=by simp only[TOP];omega
    have tf:(A.filter λt=>decide (1 < t.2)).length<=TOP:=by omega
    have hT:acc.length<=TOP:=by simp[TOP];omega
    rw[je (Z2:=[X0,some (.val (sideD rs rest)),X2,some (.val (.lst ((beh m.toNat q).map tkD))),some (.acc ((acc++[(x,srv m.toNat q)]).map rnD)),some (.val (.int (x+1))),some (.val (.int m))]) (by
     simp at hne;simp[hne,hq]) (by
     simp only[sideD] at e1
     simp at e3 e4
     simp[kX,sideD,e1,c1,c2,e3,e4,tA,tB,tc,tf,hT,t2,beh,srv,hA,hB,rnD]),o2,List.append_assoc,List.singleton_append]
structure Wd (q:SI)(rs:List HM.Row)(rest b0:Int):Prop where
 q5:Q5 q
 row:∀r∈rs,RowOk r
 len:rs.length<=5
 lo:1<=rest
 hi:rest<=3
 b0:0<=b0
section
variable {q:SI}{rs:List HM.Row}{rest b0:Int}
theorem Wd.fit (W:Wd q rs rest b0):Fit rs rest:=⟨λr hr=>⟨⟨(W.row r hr).1.1,by have:=(W.row r hr).1.2;omega⟩,(W.row r hr).2⟩,by have:=W.len;omega,W.lo,by have:=W.hi;omega⟩
theorem Wd.hok (W:Wd q rs rest b0):HOk rest rs:=by
 have h1:=Zs rs W.fit.good
 have h2:=W.len
 exact⟨W.fit.pos,W.lo,by omega⟩
theorem Wd.sum (W:Wd q rs rest b0):sumQ q<=160:=zax (n:=8) (b:=20) q W.q5.len λt ht=>(W.q5.le t ht).2
theorem KO (W:Wd q rs rest b0):∃out:List (Int×List Str),Run (atR rest rs) b0 q out /\
  yV [.val (.lst #[2]),.val (sideD rs rest),.val (.int b0)]=some (.acc (out.map rnD)):=by
 have ht:=W.hok.tot
 have hs:=W.sum
 have hl:=W.q5.len
 have hb:=W.b0
 obtain⟨out,v3,v5,v6,o1,o2⟩:=Vx W.hok (some (.val (.lst #[2]))) (some (.val (.int b0))) (sumQ q+(total rs - b0).toNat) q [] b0 none W.q5.pos W.q5.ok #[1] #[1] (by simp;omega)
 refine⟨out,o1,?_⟩
 have o3:=Zg o2
 have hT:q.length<=TOP:=z5 #[1]
 simp at o3
 simp[yV,mir,stE,w5,Yl,o3,hT]
end
theorem YH (X0 X3:Option En)(v:Int):∀(xs:List Str) (d:SI) (a:Option En),d.length+xs.length<=1000000->∃a':Option En,
  forD (.name 4) uS (xs.map D.str) [X0,some (.dct none (kv d)),some (.val (.int v)),X3,a]=some (.next [X0,some (.dct none (kv (xs.foldl (λd n=>putS d n v) d))),some (.val (.int v)),X3,a'])
 | [],d,a,_=>⟨a,by simp⟩
 |x::xs,d,a,hl=>by
  simp only[List.length_cons] at hl
  have hz:(kv d).length < sizeLine:=by rw[ux,sizeLine_eq];omega
  have hp:=kF x v d
  have h2:=j4 x v d
  obtain⟨a',p⟩:=YH X0 X3 v xs (putS d x v) (some (.val (.str x))) #[1]
  refine⟨a',?_⟩
  rw[List.foldl_cons,<-p]
  simp[uS,hz,hp]
theorem Yz (X0:Option En):∀(rows:List (Int×List Str)) (d:SI) (a b c:Option En),(∀r∈rows,r.2.length<=100)->d.length+100 * rows.length<=1000000->∃a' b' c':Option En,
  forD (.tup [2,3]) Za (rows.map rnD) [X0,some (.dct none (kv d)),a,b,c]=some (.next [X0,some (.dct none (kv (endsS d rows))),a',b',c'])
 | [],d,a,b,c,_,_=>⟨a,b,c,by simp[endsS]⟩
 |r::rows,d,a,b,c,h,hl=>by
  simp only[List.length_cons] at hl
  have hr:=h r List.mem_cons_self
  obtain⟨c1,p1⟩:=YH X0 (some (.val (.lst (r.2.map D.str)))) r.1 r.2 d c #[1]
  have h2:=uc r.1 r.2 d
  obtain⟨a',b',c',p⟩:=Yz X0 rows (r.2.foldl (λd n=>putS d n r.1) d) (some (.val (.int r.1))) (some (.val (.lst (r.2.map D.str)))) c1 (λu hu=>h u (List.mem_cons_of_mem _ hu)) #[1]
  refine⟨a',b',c',?_⟩
  rw[show endsS d (r::rows)=endsS (r.2.foldl (λd n=>putS d n r.1) d) rows from rfl,<-p]
  simp[Za,rnD,asgD,z7,p1]
theorem JB {rows:List (Int×List Str)}(h:∀r∈rows,r.2.length<=100)(hl:rows.length<=5000):xO [.val (.lst (rows.map rnD))]=some (.dct none (kv (endsS [] rows))):=by
 obtain⟨a',b',c',p⟩:=Yz (some (.val (.lst (rows.map rnD)))) rows [] none none none h (by simp;omega)
 simp[kv] at p
 simp[xO,mir,stE,kn,Zm,p]
 rfl
def late (E P:SI):SI->Option (Str×Int×Int)
 | []=>none
 |t::q=>match lookS P t.1,lookS E t.1 with
  |some p,some e=>if p < e then some (t.1,p,e) else late E P q
  |_,_=>late E P q
theorem jT {E P:SI}:∀ {q:SI} {n:Str} {p e:Int},late E P q=some (n,p,e)->lookS P n=some p/\lookS E n=some e/\n∈nms q
 | [],n,p,e,h=>by simp[late] at h
 |t::q,n,p,e,h=>by
  unfold late at h
  split at h
  ·rename_i p' e' h1 h2
   split at h
   ·cases h
    exact⟨h1,h2,by simp[nms]⟩
   ·obtain⟨a,b,c⟩:=jT h
    exact⟨a,b,by simp only[nms,List.map_cons,List.mem_cons];exact .inr c⟩
  ·obtain⟨a,b,c⟩:=jT h
   exact⟨a,b,by simp only[nms,List.map_cons,List.mem_cons];exact .inr c⟩
def dueD (o:Option (Str×Int×Int))(run:List (Int×List Str)):D:=match o with
 |none=>.tup [.str "granted"]
 |some (n,p,e)=>.tup [.str "late",.str n,.int p,.int e,.lst (run.map rnD)]
theorem YG (X0 X1 X2:Option En)(E P:SI)(run:List (Int×List Str)):∀(q:SI) (a b:Option En),(∀t∈q,∃e,lookS E t.1=some e) ->
  match late E P q with
  |none=>∃a' b',forD (.tup [6,7]) yP #[2] [X0,X1,X2,some (.dbo (kv P)),some (.val (.lst (run.map rnD))),some (.dct none (kv E)),a,b]=some (.next [X0,X1,X2,some (.dbo (kv P)),some (.val (.lst (run.map rnD))),some (.dct none (kv E)),a',b'])
  |some o=>forD (.tup [6,7]) yP #[2] [X0,X1,X2,some (.dbo (kv P)),some (.val (.lst (run.map rnD))),some (.dct none (kv E)),a,b]=some (.ret (.val (dueD (some o) run)))
 | [],a,b,_=>⟨a,b,by simp⟩
 |t::q,a,b,h=>by
  obtain⟨e,he⟩:=h t (by simp)
  have hE:=xk t.1 E
  have hP:=xk t.1 P
  rw[he] at hE
  have ih:=YG X0 X1 X2 E P run q (some (.val (.str t.1))) (some (.val (.int t.2))) λu hu=>h u (by simp[hu])
  have t5:5<=TOP:=by decide
  unfold late
  cases hp:lookS P t.1 with
  |none=>
   rw[hp] at hP
   simp only[Option.map_none] at hP
   have e1:yP [X0,X1,X2,some (.dbo (kv P)),some (.val (.lst (run.map rnD))),some (.dct none (kv E)),some (.val (.str t.1)),some (.val (.int t.2))]=some (.next [X0,X1,X2,some (.dbo (kv P)),some (.val (.lst (run.map rnD))),some (.dct none (kv E)),some (.val (.str t.1)),some (.val (.int t.2))]):=by
    simp[yP,hP]
   simp only[List.map_cons,yw,tkD,asgD,z7]
   simp[e1]
   exact ih
  |some p=>
   rw[hp] at hP
   simp only[Option.map_some] at hP hE
   rw[he]
   by_cases hlt:p < e
   ·simp only[hlt,if_true]
    simp[tkD,asgD,z7,yP,hP,hE,hlt,dueD,t5]
   ·simp only[hlt,if_false]
    have e1:yP [X0,X1,X2,some (.dbo (kv P)),some (.val (.lst (run.map rnD))),some (.dct none (kv E)),some (.val (.str t.1)),some (.val (.int t.2))]=some (.next [X0,X1,X2,some (.dbo (kv P)),some (.val (.lst (run.map rnD))),some (.dct none (kv E)),some (.val (.str t.1)),some (.val (.int t.2))]):=by
     simp[yP,hP,hE,hlt]
    simp only[List.map_cons,yw,tkD,asgD,z7]
    simp[e1]
    exact ih
def FG:List Str:=["queue","hours","begin"]
def FL:List Str:=["queue","hours","begin","name","promised","turn","run"]
section
variable {a b c d e f g:D}
theorem YS:putZ "queue" a [] []=((["queue"]:List Str),([a]:List D)):=by rfl
theorem Y5:putZ "hours" b ["queue"] [a]=((["queue","hours"]:List Str),([a,b]:List D)):=by rfl
theorem Vc:putZ "begin" c ["queue","hours"] [a,b]=((["queue","hours","begin"]:List Str),([a,b,c]:List D)):=by rfl
theorem zay:putZ "name" d ["queue","hours","begin"] [a,b,c]=((["queue","hours","begin","name"]:List Str),([a,b,c,d]:List D)):=by rfl
theorem Ur:putZ "promised" e ["queue","hours","begin","name"] [a,b,c,d]=((["queue","hours","begin","name","promised"]:List Str),([a,b,c,d,e]:List D)):=by rfl
theorem G8:putZ "turn" f ["queue","hours","begin","name","promised"] [a,b,c,d,e]=((["queue","hours","begin","name","promised","turn"]:List Str),([a,b,c,d,e,f]:List D)):=by rfl
theorem zam:putZ "run" g ["queue","hours","begin","name","promised","turn"] [a,b,c,d,e,f]=((["queue","hours","begin","name","promised","turn","run"]:List Str),([a,b,c,d,e,f,g]:List D)):=by rfl
theorem ZL:lookZ "queue" FG [a,b,c]=some a:=by rfl
theorem WD:lookZ "hours" FG [a,b,c]=some b:=by rfl
theorem Qu:lookZ "begin" FG [a,b,c]=some c:=by rfl
theorem We:lookZ "granted" FG [a,b,c]=none:=by rfl
theorem Ke:lookZ "word" FG [a,b,c]=none:=by rfl
theorem Vu:lookZ "told" FG [a,b,c]=none:=by rfl
theorem zat:lookZ "holds" FG [a,b,c]=none:=by rfl
theorem u5:lookZ "queue" FL [a,b,c,d,e,f,g]=some a:=by rfl
theorem Qw:lookZ "hours" FL [a,b,c,d,e,f,g]=some b:=by rfl
theorem W1:lookZ "begin" FL [a,b,c,d,e,f,g]=some c:=by rfl
theorem zal:lookZ "name" FL [a,b,c,d,e,f,g]=some d:=by rfl
theorem zet:lookZ "promised" FL [a,b,c,d,e,f,g]=some e:=by rfl
theorem RM:lookZ "turn" FL [a,b,c,d,e,f,g]=some f:=by rfl
theorem zdj:lookZ "run" FL [a,b,c,d,e,f,g]=some g:=by rfl
theorem WL:lookZ "granted" FL [a,b,c,d,e,f,g]=none:=by rfl
theorem RF:lookZ "word" FL [a,b,c,d,e,f,g]=none:=by rfl
theorem ZY:lookZ "told" FL [a,b,c,d,e,f,g]=none:=by rfl
theorem zca:lookZ "holds" FL [a,b,c,d,e,f,g]=none:=by rfl
end
@[simp]theorem qp {α:Type}{g1 g2:EnvD->Option α}{Z:EnvD}:yAlt g1 g2 Z=match g1 Z with | some q=>some q | none=>g2 Z:=rfl
def grD (C:Str->Addr)(q:SI)(h:D)(b0:Int):D:=.obj (C "Granted") FG [.lst #[2],h,.int b0]
def laD (C:Str->Addr)(q:SI)(h:D)(b0:Int)(n:Str)(p e:Int)(run:List (Int×List Str)):D:=.obj (C "Late") FL [.lst #[2],h,.int b0,.str n,.int p,.int e,.lst (run.map rnD)]
section
variable {x:En}{q:SI}{h:D}{b0:Int}
theorem zae (C:Str->Addr)(hx:Lq x #[2])(hl:q.length<=900):xA C [x,.val h,.val (.int b0)]=some (FG,[.lst #[2],h,.int b0]):=by
 have hT:q.length<=TOP:=z5 #[1]
 simp only[xA,mirI,stE,jt,qv]
 rcases hx with rfl | rfl<;>simp[hT,YS,Y5,Vc,outI,outJ,FG]
theorem GW (C:Str->Addr)(a dx:Addr)(hx:Lq x #[2])(hl:q.length<=900):xo C a dx [x,.val h,.val (.int b0)]=some (FG,[.lst #[2],h,.int b0]):=by
 have hT:q.length<=TOP:=z5 #[1]
 simp only[xo,mirI,stE,Y9,Yf]
 rcases hx with rfl | rfl<;>simp[hT,YS,Y5,Vc,outI,outJ,FG]
def rowT (r:Int×List Str):OT:=.tup [.frz (.int r.1),.lst (lfs (r.2.map D.str))]
theorem Wb:∀(run:List (Int×List Str)),(∀r∈run,r.2.length<=100)->compT (.tup [0,1]) tYes (gTupT (tCn (gLf (gv 0)) (tCn (gLs (gB fList (gCons' (gr 1) gNil))) tNl))) [none,none] (run.map rnD)=some (run.map rowT)
 | [],_=>by simp
 |r::run,h=>by
  have ih:=Wb run λu hu=>h u (by simp[hu])
  have hT:r.2.length<=TOP:=z5 (by have:=h r (by simp);omega)
  simp only[List.map_cons,zdw,ih]
  simp[asgD,z7,rnD,rowT,hT,t2]
theorem V4:∀(run:List (Int×List Str)),erases (run.map rowT)=run.map rnD
 | []=>by simp
 |r::run=>by simp[V4 run,rowT,rnD]
theorem Yv {run:List (Int×List Str)}(h:∀r∈run,r.2.length<=100)(hl:run.length<=5000):xx [.val (.lst (run.map rnD))]=some (.tre (.lst (run.map rowT))):=by
 have e:=Wb run h
 have hT:run.length<=TOP:=by simp[TOP];omega
 simp[xx,mir,stE,J6,uo,gCompT,e,hT]
theorem YK (run:List (Int×List Str)):(OT.lst (run.map rowT)).erase=.lst (run.map rnD):=by simp[OT.erase,V4]
theorem zc4 (C:Str->Addr)(hx:Lq x #[2])(hl:q.length<=900){n:Str}{p e:Int}{run:List (Int×List Str)}(hr:∀r∈run,r.2.length<=100)(hrl:run.length<=5000) :
  xV C [x,.val h,.val (.int b0),.val (.str n),.val (.int p),.val (.int e),.val (.lst (run.map rnD))]=some (FL,[.lst #[2],h,.int b0,.str n,.int p,.int e,.lst (run.map rnD)]):=by
 have ej:=GW C 0 0 (h:=h) (b0:=b0) hx hl
 have eo:=Yv hr hrl
 have er:=YK run
 simp only[xV,mirI,stE,qC,kI]
 rcases hx with rfl | rfl<;>simp[sBase,ej,eo,er,frzO,FG,zay,Ur,G8,zam,outI,outJ,FL]
theorem WV (C:Str->Addr):xg C [.val (grD C q h b0)]=some (.tre (.tup [.frz (.str "granted")])):=by
 have t1:1<=TOP:=by decide
 simp[xg,mir,stE,Jp,uz,grD,Ke,kA,Jy,kZ,t1]
def dueT (n:Str)(p e:Int)(run:List (Int×List Str)):OT:=.tup [.frz (.str "late"),.frz (.str n),.frz (.int p),.frz (.int e),.lst (run.map rowT)]
theorem Zv (C:Str->Addr){n:Str}{p e:Int}{run:List (Int×List Str)}(hr:∀r∈run,r.2.length<=100)(hrl:run.length<=5000):yF C [.val (laD C q h b0 n p e run)]=some (.tre (dueT n p e run)):=by
 have t5:5<=TOP:=by decide
 have eo:=Yv hr hrl
 simp[yF,mir,stE,Vy,ZR,laD,RF,zal,zet,RM,zdj,qw,Jh,Zz,t5,eo,treO,dueT]
theorem Zr (n:Str)(p e:Int)(run:List (Int×List Str)):(dueT n p e run).erase=dueD (some (n,p,e)) run:=by
 simp[dueT,dueD,YK]
end
theorem V6 (X0:Option En)(E P:SI):∀(q:SI) (a b:Option En),(∀t∈q,∃e,lookS E t.1=some e) ->
  match late E P q with
  |none=>∃a' b',forD (.tup [3,4]) xf #[2] [X0,some (.dbo (kv E)),some (.dbo (kv P)),a,b]=some (.next [X0,some (.dbo (kv E)),some (.dbo (kv P)),a',b'])
  |some o=>forD (.tup [3,4]) xf #[2] [X0,some (.dbo (kv E)),some (.dbo (kv P)),a,b]=some (.ret (.val (.str o.1)))
 | [],a,b,_=>⟨a,b,by simp⟩
 |t::q,a,b,h=>by
  obtain⟨e,he⟩:=h t (by simp)
  have hE:=xk t.1 E
  have hP:=xk t.1 P
  rw[he] at hE
  have ih:=V6 X0 E P q (some (.val (.str t.1))) (some (.val (.int t.2))) λu hu=>h u (by simp[hu])
  unfold late
  cases hp:lookS P t.1 with
  |none=>
   rw[hp] at hP
   simp only[Option.map_none] at hP
   have e1:xf [X0,some (.dbo (kv E)),some (.dbo (kv P)),some (.val (.str t.1)),some (.val (.int t.2))]=some (.next [X0,some (.dbo (kv E)),some (.dbo (kv P)),some (.val (.str t.1)),some (.val (.int t.2))]):=by
    simp[xf,hP]
   simp only[List.map_cons,yw,tkD,asgD,z7]
   simp[e1]
   exact ih
  |some p=>
   rw[hp] at hP
   simp only[Option.map_some] at hP hE
   rw[he]
   by_cases hlt:p < e
   ·simp only[hlt,if_true]
    simp[tkD,asgD,z7,xf,hP,hE,hlt]
   ·simp only[hlt,if_false]
    have e1:xf [X0,some (.dbo (kv E)),some (.dbo (kv P)),some (.val (.str t.1)),some (.val (.int t.2))]=some (.next [X0,some (.dbo (kv E)),some (.dbo (kv P)),some (.val (.str t.1)),some (.val (.int t.2))]):=by
     simp[xf,hP,hE,hlt]
    simp only[List.map_cons,yw,tkD,asgD,z7]
    simp[e1]
    exact ih
def nmO:Option (Str×Int×Int)->D
 |none=>.non
 |some o=>.str o.1
theorem zep {x:En}{q E P:SI}(hx:Lq x #[2])(h:∀t∈q,∃e,lookS E t.1=some e):wz [x,.dbo (kv E),.dbo (kv P)]=some (.val (nmO (late E P q))):=by
 have p:=V6 (some x) E P q none none h
 cases hl:late E P q with
 |none=>
  rw[hl] at p
  obtain⟨a',b',p⟩:=p
  rcases hx with rfl | rfl<;>simp[wz,mir,stE,jK,qg,p,nmO]
 |some o=>
  rw[hl] at p
  simp only at p
  rcases hx with rfl | rfl<;>simp[wz,mir,stE,jK,qg,p,nmO]
structure Rn (C:Str->Addr)(q:SI)(rs:List HM.Row)(rest b0:Int)(out:List (Int×List Str)):Prop where
 ok:∀r∈out,∀y∈r.2,Ok y
 w:∀r∈out,r.2.length<=100
 len:out.length<=5000
 run:Run (atR rest rs) b0 q out
 law:yV [.val (.lst #[2]),.val (sideD rs rest),.val (.int b0)]=some (.acc (out.map rnD))
 prog:∀x,Lq x #[2]->xW C [x,.val (hoursD (C "Hours") rest (krows rest rs)),.val (.int b0),.val .non]=some (.acc (out.map rnD))
 ends:∀t∈q,∃e,lookS (endsS [] out) t.1=some e
section
variable {C:Str->Addr}{q:SI}{rs:List HM.Row}{rest b0:Int}{out:List (Int×List Str)}{P:SI}
theorem Wd.rn (C:Str->Addr)(W:Wd q rs rest b0):∃out,Rn C q rs rest b0 out:=by
 have hs:=W.sum
 have hl:=W.q5.len
 have hf:atR rest (krows rest rs)=atR rest rs:=funext W.fit.at
 obtain⟨o,r1,e1⟩:=KO W
 have key:∀x,Lq x #[2]->(∀r∈o,(∀y∈r.2,Ok y)/\r.2.length<=100)/\o.length<=5000/\xW C [x,.val (hoursD (C "Hours") rest (krows rest rs)),.val (.int b0),.val .non]=some (.acc (o.map rnD)):=λx hx=>by
  obtain⟨o',a1,a2,a3,a4⟩:=Uu C W.fit.hok W.b0 W.q5.pos W.q5.ok #[1] #[1] hx
  rw[hf] at a2
  have:=Q9 a2 r1
  subst this
  exact⟨a1,a3,a4⟩
 obtain⟨k1,k2,_⟩:=key _ (.inl rfl)
 refine⟨o,λr hr=>(k1 r hr).1,λr hr=>(k1 r hr).2,k2,r1,e1,λx hx=>(key x hx).2.2,λt ht=>?_⟩
 obtain⟨r,hr,hn⟩:=Y4 r1 (v:=t.1) (List.mem_map_of_mem ht)
 obtain⟨L,h1,_⟩:=zfa r1 hr hn []
 exact⟨L,h1⟩
theorem zey (W:Wd q rs rest b0)(R:Rn C q rs rest b0 out):vp [.val (.lst #[2]),.val (sideD rs rest),.val (.int b0),.dbo (kv P)]=some (.val (dueD (late (endsS [] out) P q) out)):=by
 have e1:=R.law
 have e2:=JB R.w R.len
 have p:=YG (some (.val (.lst #[2]))) (some (.val (sideD rs rest))) (some (.val (.int b0))) (endsS [] out) P out q none none R.ends
 have t1:1<=TOP:=by decide
 generalize endsS [] out=E at *
 cases hl:late E P q with
 |none=>
  rw[hl] at p
  obtain⟨a',b',p⟩:=p
  simp[vp,mir,stE,vZ,kK,e1,e2,p,dueD,t1]
 |some o=>
  rw[hl] at p
  simp only at p
  simp[vp,mir,stE,vZ,kK,e1,e2,p]
def vD (C:Str->Addr)(q:SI)(h:D)(b0:Int)(run:List (Int×List Str)):Option (Str×Int×Int)->D
 |none=>grD C q h b0
 |some (n,p,e)=>laD C q h b0 n p e run
theorem Z6 (W:Wd q rs rest b0)(R:Rn C q rs rest b0 out){x:En}(hx:Lq x #[2]) :
  zZ C [x,.val (hoursD (C "Hours") rest (krows rest rs)),.val (.int b0),.dbo (kv P)]=some (.val (vD C q (hoursD (C "Hours") rest (krows rest rs)) b0 out (late (endsS [] out) P q))):=by
 have e1:=R.prog x hx
 have e2:=RY R.w R.len
 have e3:=zep (P:=P) hx R.ends
 have hl:=W.q5.len
 have e4:=zae (h:=hoursD (C "Hours") rest (krows rest rs)) (b0:=b0) C hx #[1]
 generalize hE:endsS [] out=E at *
 cases ho:late E P q with
 |none=>
  rw[ho] at e3
  rcases hx with rfl | rfl<;>simp[zZ,mir,stE,j5,q9,mN,e1,e2,e3,nmO,e4,vD,grD]
 |some o=>
  obtain⟨n,p,e⟩:=o
  rw[ho] at e3
  obtain⟨l1,l2,_⟩:=jT ho
  have k1:=xk n P
  have k2:=xk n E
  rw[l1] at k1
  rw[l2] at k2
  simp only[Option.map_some] at k1 k2
  have e5:=zc4 (h:=hoursD (C "Hours") rest (krows rest rs)) (b0:=b0) C hx #[1] (n:=n) (p:=p) (e:=e) R.w R.len
  have hnn:isNon (D.str n)=false:=rfl
  rcases hx with rfl | rfl<;>simp[zZ,mir,stE,j5,q9,mN,e1,e2,e3,nmO,e5,vD,laD,k1,k2,hnn]
end
def OkO (o:Option (Str×Int×Int)):Prop:=∀n p e,o=some (n,p,e)->Ok n
theorem Wk:Ok "late" := by decide +kernel
theorem kH:Ok "granted" := by decide +kernel
theorem zby:¬(("late" : Str) = "granted"):=by decide +kernel
theorem zhq:¬(("granted" : Str) = "late"):=by decide +kernel
section
variable {o o':Option (Str×Int×Int)}{run:List (Int×List Str)}
theorem JZ (h:OkO o)(hr:∀r∈run,∀y∈r.2,Ok y):Lay 4 (dueD o run):=by
 obtain⟨h1,h2⟩:=Kg hr
 cases o with
 |none=>
  refine⟨?_,?_⟩
  ·show (PyData.canLay0 (.str "granted")&&true)=true
   rw[show PyData.canLay0 (.str "granted")=true from kH];rfl
  ·show max 0 0+1<=4;omega
 |some o=>
  obtain⟨n,p,e⟩:=o
  have hn:=h n p e rfl
  refine⟨?_,?_⟩
  ·show (PyData.canLay0 (.str "late")&&(PyData.canLay0 (.str n)&&(PyData.canLay0 (.int p)&&(PyData.canLay0 (.int e)&&((toP (.lst (run.map rnD))).canLay0&&true)))))=true
   rw[show PyData.canLay0 (.str "late")=true from Wk,show PyData.canLay0 (.str n)=true from hn,h1];rfl
  ·show max 0 (max 0 (max 0 (max 0 (max ((toP (.lst (run.map rnD))).depth) 0))))+1<=4;omega
theorem G1:PyData.eqv (toP (dueD o run)) (toP (dueD o' run))=decide (o=o'):=by
 cases o with
 |none=>
  cases o' with
  |none=>
   show (PyData.eqv (.str "granted") (.str "granted")&&true)=_
   rw[vm];simp
  |some o'=>
   obtain⟨n,p,e⟩:=o'
   show (PyData.eqv (.str "granted") (.str "late")&&false)=_
   simp
 |some o=>
  obtain⟨n,p,e⟩:=o
  cases o' with
  |none=>
   show (PyData.eqv (.str "late") (.str "granted")&&false)=_
   simp
  |some o'=>
   obtain⟨n',p',e'⟩:=o'
   show (PyData.eqv (.str "late") (.str "late")&&(PyData.eqv (.str n) (.str n')&&(PyData.eqv (.int p) (.int p')&&(PyData.eqv (.int e) (.int e')&&(PyData.eqv (toP (.lst (run.map rnD))) (toP (.lst (run.map rnD)))&&true)))))=_
   rw[vm,vm,vW,vW,KY]
   by_cases h1:n=n'<;>by_cases h2:p=p'<;>by_cases h3:e=e'<;>simp[h1,h2,h3]
theorem JC {neg:Bool}(h:OkO o)(h':OkO o')(hr:∀r∈run,∀y∈r.2,Ok y):fEq neg (dueD o run) (dueD o' run)=some (.bl (if neg then !decide (o=o') else decide (o=o'))) :=
 vP (JZ h hr) (JZ h' hr) (by decide) (by decide) G1
end
section
variable {C:Str->Addr}{q:SI}{rs:List HM.Row}{rest b0:Int}{out:List (Int×List Str)}{P:SI}
theorem Wq (W:Wd q rs rest b0){E P:SI}:OkO (late E P q):=λn p e h=>by
 obtain⟨_,_,hm⟩:=jT h
 obtain⟨t,ht,rfl⟩:=List.mem_map.mp hm
 exact W.q5.ok t ht
theorem W5 {h:D}:xt C [.val (grD C q h b0)]=some (.val (.bl true)):=by simp[xt,mir,stE,JG,kQ]
theorem WS {h:D}{n:Str}{p e:Int}:yX C [.val (laD C q h b0 n p e out)]=some (.val (.bl false)):=by simp[yX,mir,stE,Qc,Z3]
theorem za2 (hC:C "Granted" ≠ C "Late") (W:Wd q rs rest b0) (R:Rn C q rs rest b0 out):xJ C [.val (grD C q (hoursD (C "Hours") rest (krows rest rs)) b0),.dbo (kv P)]=some (.val (.bl (late (endsS [] out) P q).isNone)):=by
 have e1:=Z6 (P:=P) W R (.inl rfl)
 have hC':=Ne.symm hC
 generalize hoursD (C "Hours") rest (krows rest rs)=h at *
 cases ho:late (endsS [] out) P q with
 |none=>
  rw[ho] at e1
  have e2:=W5 (C:=C) (q:=q) (h:=h) (b0:=b0)
  simp only[vD,grD] at e1 e2
  simp[xJ,mir,stE,xz,jZ,grD,ZL,WD,Qu,e1,e2,We]
 |some o=>
  obtain⟨n,p,e⟩:=o
  rw[ho] at e1
  have e2:=WS (C:=C) (q:=q) (h:=h) (b0:=b0) (n:=n) (p:=p) (e:=e) (out:=out)
  simp only[vD,laD] at e1 e2
  simp[xJ,mir,stE,xz,jZ,grD,ZL,WD,Qu,e1,e2,WL,hC']
theorem Jg:(OT.tup [.frz (.str "granted")]).erase=dueD none out:=by simp[dueD]
theorem zdb (hC:C "Granted" ≠ C "Late") (W:Wd q rs rest b0) (R:Rn C q rs rest b0 out) {n:Str} {p e:Int} (hn:Ok n):xG C [.val (laD C q (hoursD (C "Hours") rest (krows rest rs)) b0 n p e out),.dbo (kv P)]=some (.val (.bl (decide (late (endsS [] out) P q=some (n,p,e))))):=by
 have e1:=Z6 (P:=P) W R (.inl rfl)
 have hC':=Ne.symm hC
 generalize hoursD (C "Hours") rest (krows rest rs)=h at *
 have e3:=Zv (q:=q) (h:=h) (b0:=b0) (n:=n) (p:=p) (e:=e) C R.w R.len
 have r3:=Zr n p e out
 have k:=JC (neg:=false) (o:=late (endsS [] out) P q) (o':=some (n,p,e)) (run:=out) (Wq W) (λn' p' e' hh=>by cases hh;exact hn) R.ok
 cases ho:late (endsS [] out) P q with
 |none=>
  rw[ho] at e1 k
  have e2:=WV (q:=q) (h:=h) (b0:=b0) C
  have r2:=Jg (out:=out)
  simp only[vD,grD,laD] at e1 e2 e3
  simp only[dueD] at k r2 r3
  simp[xG,mir,stE,ZQ,km,laD,u5,Qw,W1,e1,e2,e3,Vu,ZY,frzO,r3,k]
 |some o=>
  obtain⟨n',p',e'⟩:=o
  rw[ho] at e1 k
  have e2:=Zv (q:=q) (h:=h) (b0:=b0) (n:=n') (p:=p') (e:=e') C R.w R.len
  have r2:=Zr n' p' e' out
  simp only[vD,laD] at e1 e2 e3
  simp only[dueD] at k r2 r3
  simp[xG,mir,stE,ZQ,km,laD,u5,Qw,W1,e1,e2,e3,ZY,frzO,r2,r3,k,hC']
end
theorem yb {s b:SD}{Z Z':EnvD}{r:Option Fl}(h:s Z=some (.next Z'))(k:b Z'=r):sSeq s b Z=r:=by
 rw[<-k]
 show thenB (s Z) b=_
 rw[h];rfl
theorem line9 {n:Nat}(h:n<=1000):n < sizeLine:=by rw[sizeLine_eq];omega
theorem Y1 (X0 X1 X2 X3 X4:Option En)(E:SI)(us:List Int):∀(ts:SI) (k:Nat) (P:SI) (a b c:Option En),(∀t∈ts,∃e,lookS E t.1=some e)->k+ts.length < us.length->(keysS P).Nodup->P.length+ts.length<=100 ->
  ∃(P':SI) (a' b' c':Option En),(keysS P').Nodup/\P'.length<=P.length+ts.length /\
   forD (.tup [8,9]) xr (enumD k (ts.map tkD)) [X0,X1,X2,X3,X4,some (.dct none (kv E)),some (.val (.lst (us.map D.int))),some (.dct none (kv P)),a,b,c]
    = some (.next [X0,X1,X2,X3,X4,some (.dct none (kv E)),some (.val (.lst (us.map D.int))),some (.dct none (kv P')),a',b',c'])
 | [],k,P,a,b,c,_,_,nd,_=>⟨P,a,b,c,nd,by simp,by simp[enumD]⟩
 |t::ts,k,P,a,b,c,hE,hl,nd,hP=>by
  simp only[List.length_cons] at hl hP
  obtain⟨e,he⟩:=hE t (by simp)
  have kE:=xk t.1 E
  rw[he] at kE
  simp only[Option.map_some] at kE
  obtain⟨m,hm⟩:∃m,us[k+1]?=some m:=⟨us[k+1],List.getElem?_eq_getElem #[1]⟩
  obtain⟨s,hs⟩:∃s,us[0]?=some s:=⟨us[0],List.getElem?_eq_getElem #[1]⟩
  have i1:atI (us.map D.int) ((k:Int)+1)=some (.int m):=by
   have:=atI_nat (xs:=us.map D.int) (i:=k+1) (v:=.int m) (by simp[hm])
   simpa using this
  have i0:atI (us.map D.int) 0=some (.int s):=by
   have:=atI_nat (xs:=us.map D.int) (i:=0) (v:=.int s) (by simp[hs])
   simpa using this
  have h0:atI (α:=D) [.str t.1,.int t.2] 0=some (.str t.1):=rfl
  have hz:(kv P).length < sizeLine:=by rw[ux];exact line9 #[1]
  have key:∀P1:SI,(keysS P1).Nodup->P1.length<=P.length+1->xr [X0,X1,X2,X3,X4,some (.dct none (kv E)),some (.val (.lst (us.map D.int))),some (.dct none (kv P)),some (.val (.int (k:Int))),some (.val (tkD t)),c]
    = some (.next [X0,X1,X2,X3,X4,some (.dct none (kv E)),some (.val (.lst (us.map D.int))),some (.dct none (kv P1)),some (.val (.int (k:Int))),some (.val (tkD t)),some (.val (.int m))]) ->
   ∃(P':SI) (a' b' c':Option En),(keysS P').Nodup/\P'.length<=P.length+(ts.length+1) /\
   forD (.tup [8,9]) xr (enumD k ((t::ts).map tkD)) [X0,X1,X2,X3,X4,some (.dct none (kv E)),some (.val (.lst (us.map D.int))),some (.dct none (kv P)),a,b,c]
    = some (.next [X0,X1,X2,X3,X4,some (.dct none (kv E)),some (.val (.lst (us.map D.int))),some (.dct none (kv P')),a',b',c']):=λP1 n1 l1 e1=>by
   obtain⟨P',a',b',c',g1,g2',g3⟩:=Y1 X0 X1 X2 X3 X4 E us ts (k+1) P1 (some (.val (.int (k:Int)))) (some (.val (tkD t))) (some (.val (.int m))) (λu hu=>hE u (by simp[hu])) #[1] n1 #[1]
   refine⟨P',a',b',c',g1,by omega,?_⟩
   rw[<-g3]
   simp only[List.map_cons,enumD,yw,asgD,z7]
   simp[e1]
  by_cases c1:m < 10
  ·refine key (putS P t.1 (e+m % 7)) (Wr nd) (by have:=j4 t.1 (e+m % 7) P;omega) ?_
   have hp:=kF t.1 (e+m % 7) P
   simp[xr,i1,c1,tkD,h0,kE,zR,hz,hp]
  ·by_cases c2:m=10/\s=3
   ·refine key (putS P t.1 (e - 1 - (k:Int) % 3)) (Wr nd) (by have:=j4 t.1 (e - 1 - (k:Int) % 3) P;omega) ?_
    have hp:=kF t.1 (e - 1 - (k:Int) % 3) P
    simp[xr,i1,i0,c1,c2.1,c2.2,tkD,h0,kE,zR,hz,hp]
   ·refine key P nd #[1] ?_
    by_cases c3:m=10
    ·have c4:¬(s=3):=λh=>c2 ⟨c3,h⟩
     simp[xr,i1,i0,c3,c4]
    ·simp[xr,i1,c1,c3]
section
variable {C:Str->Addr}{q:SI}{rs:List HM.Row}{rest b0:Int}{out:List (Int×List Str)}
theorem QV (ns:List Int)(at0:Nat)(W:Wd q rs rest b0)(R:Rn C q rs rest b0 out):∃P:SI,(keysS P).Nodup/\P.length<=50 /\
  jE [.val (.scr ns),.val (.int at0),.val (.lst #[2]),.val (sideD rs rest),.val (.int b0)]=some (.dct none (kv P)):=by
 have hl:=W.q5.len
 obtain⟨us,r1,p1⟩:=vv ns at0 ([4]++(List.replicate q.length [12]).flatten) (λb hb=>by
  rcases List.mem_append.mp hb with hb | hb
  ·simp at hb;omega
  ·obtain⟨l,hl,hb⟩:=List.mem_flatten.mp hb
   rw[List.eq_of_mem_replicate hl] at hb
   simp at hb
   omega) (by simp;omega)
 have l1:us.length=q.length+1:=by rw[r1.len];simp
 obtain⟨P',a',b',c',g1,g2',g3⟩:=Y1 (some (.val (.scr ns))) (some (.val (.int at0))) (some (.val (.lst #[2]))) (some (.val (sideD rs rest))) (some (.val (.int b0))) (endsS [] out) us q 0 [("nobody",0)] none none none R.ends #[1] (by simp[keysS]) (by simp;omega)
 refine⟨P',g1,by simp at g2';omega,?_⟩
 have e1:=R.law
 have e2:=JB R.w R.len
 have er:=Yg [12] (n:=q.length) (by simp;omega) #[1]
 rw[List.map_append] at p1
 have hT:q.length<=TOP:=z5 #[1]
 have hTe:(enumD 0 #[2]).length<=TOP:=by rw[Ze];simpa using hT
 have hlen:((List.replicate q.length [(12:Int)]).flatten).length=q.length:=by simp
 have t1:1<=TOP:=by decide
 generalize hR2:(List.replicate q.length [(12:Int)]).flatten.map D.int=R2 at *
 have hl2:R2.length=q.length:=by rw[<-hR2];simpa using hlen
 have hl3:1+R2.length<=TOP:=z5 #[1]
 generalize endsS [] out=E at *
 generalize us.map D.int=U at *
 have hK:kv [("nobody",0)]=[(.inr "nobody",.int 0)]:=rfl
 rw[hK] at g3
 simp only[List.map_cons,List.map_nil,List.cons_append,List.nil_append] at p1 er
 simp[jE,mir,stE,qH,uP,e1,e2,p1,er,t1,hT,hl3,hTe,g3]
end
theorem R4:("abcdefghijklmnopqrstuvwxyz" : Str).length+("0123456789" : Str).length<=TOP:=by decide +kernel
theorem QI:∀(l:List Nat),(∀d∈l,d∈S36)->compD (.name 0) tYes Z4 [none] (l.map λc=>D.str (mk [c]))=some (l.map λ_=>D.bl true)
 | [],_=>by simp
 |c::l,h=>by
  have ih:=QI l λd hd=>h d (by simp[hd])
  have e:=zdi (h c (by simp))
  simp only[List.map_cons,jl,ih]
  simp[Z4,R4,e]
theorem ss:subT "str" "str" = some true:=by decide
theorem qA {x:Str}(h:NameOk x):yo [.val (.str x)]=some (.val (.bl true)):=by
 obtain⟨c,cs,rfl,h1,h2,h3⟩:=h
 have e1:=QI (c::cs) (λd hd=>by
  rcases List.mem_cons.mp hd with rfl | hd
  ·exact List.mem_of_mem_take h1
  ·exact h2 d hd)
 have e2:=uH (c::cs)
 have e3:=Yp (l:=c::cs) (a:=0) (z5 (by simp only[List.length_cons];omega)) #[1] (by simp only[List.length_cons];omega)
 have e3:fItem (.str (mk (c::cs))) (.int 0)=some (.str (mk [c])):=by simpa using e3
 have e4:=UB h1
 have l1:fLen [.str (mk (c::cs))]=some (.int ((cs.length+1:Nat):Int)):=by
  show (if (mk (c::cs)).length<=TOP then some (D.int (mk (c::cs)).length) else none)=_
  rw[xp,if_pos (z5 (by simp;omega))];rfl
 have l4:cs.length+1<=TOP:=z5 #[1]
 rw[<-Ve] at e1
 generalize hz:mk (c::cs)=z at *
 have lch:(chD z).length=cs.length+1:=by rw[<-hz,Ve];simp
 simp only[List.map_cons] at e1 e2
 have ha:asBs (D.bl true::cs.map λ_=>D.bl true)=some (true::cs.map λ_=>true):=e2
 have l5:(1:Int)<=(cs.length:Int)+1:=by omega
 have l6:(cs.length:Int)+1<=8:=by omega
 simp[yo,mir,stE,qd,jq,ss,l1,e3,e4,lch,l4,l5,l6,e1,ha]
theorem Gf:yo [.val (.str "")]=some (.val (.bl false)):=by
 have l0:(("" : Str)).length=0:=by decide +kernel
 have l1:fLen [.str ""]=some (.int 0):=by
  show (if (("" : Str)).length<=TOP then some (D.int (("" : Str)).length) else none)=some (D.int 0)
  rw[l0,if_pos (by decide)];rfl
 simp[yo,mir,stE,qd,jq,ss,l1]
theorem uR {d:D}{t:String}(h:tyD d=some t)(h2:subT t "str" = some false):yo [.val d]=some (.val (.bl false)):=by
 simp[yo,mir,stE,qd,jq,h,h2]
theorem xa {neg:Bool}{x y:Str}(hx:Ok x)(hy:Ok y):fEq neg (.str x) (.str y)=some (.bl (if neg then !decide (x=y) else decide (x=y))) :=
 vP (Zn hx) (Zn hy) (by decide) (by decide) (vm x y)
theorem uB {n:Str}(hn:Ok n)(X0:Option En):∀(q:SI) (k:Nat) (a b:Option En),(∀t∈q,Ok t.1)->n∈nms q ->
  forD (.tup [2,3]) xB (enumD k #[2]) [X0,some (.val (.str n)),a,b]=some (.ret (.val (.int ((k+(nms q).idxOf n:Nat):Int))))
 | [],_,_,_,_,h=>by simp[nms] at h
 |t::q,k,a,b,ho,h=>by
  have i0:fItem (tkD t) (.int 0)=some (.str t.1):=by simp[tkD]
  have e:=xa (neg:=false) (ho t (by simp)) hn
  by_cases c:t.1=n
  ·simp[c] at e
   simp[enumD,xB,asgD,z7,i0,e,c,nms]
  ·have p:=uB hn X0 q (k+1) (some (.val (.int k))) (some (.val (tkD t))) (λu hu=>ho u (by simp[hu])) (by
    have:=h
    simp[nms] at this ⊢
    rcases this with z | z
    ·exact (c z.symm).elim
    ·exact z)
   have ei:(nms (t::q)).idxOf n=(nms q).idxOf n+1:=by
    show (t.1::nms q).idxOf n=_
    have cb:(t.1==n)=false:=by simpa using c
    rw[List.idxOf_cons,cb];rfl
   rw[ei,show k+((nms q).idxOf n+1)=k+1+(nms q).idxOf n by omega,<-p]
   simp[c] at e
   simp[enumD,xB,asgD,z7,i0,e]
theorem ZX {n:Str}(hn:Ok n)(X0:Option En):∀(q:SI) (k:Nat) (a b:Option En),(∀t∈q,Ok t.1)->n∉nms q->∃a' b':Option En,
  forD (.tup [2,3]) xB (enumD k #[2]) [X0,some (.val (.str n)),a,b]=some (.next [X0,some (.val (.str n)),a',b'])
 | [],_,a,b,_,_=>⟨a,b,by simp[enumD]⟩
 |t::q,k,a,b,ho,h=>by
  have i0:fItem (tkD t) (.int 0)=some (.str t.1):=by simp[tkD]
  have e:=xa (neg:=false) (ho t (by simp)) hn
  have c:¬t.1=n:=λz=>h (by simp[nms,z])
  obtain⟨a',b',p⟩:=ZX hn X0 q (k+1) (some (.val (.int k))) (some (.val (tkD t))) (λu hu=>ho u (by simp[hu])) (λz=>h (by
   simp[nms] at z ⊢
   exact .inr z))
  refine⟨a',b',?_⟩
  rw[<-p]
  simp[c] at e
  simp[enumD,xB,asgD,z7,i0,e]
theorem Qx:YL=xB:=rfl
def Miss (q:SI)(d:D):Prop:=(∃n,d=.str n/\NameOk n/\n∉nms q)∨yo [.val d]=some (.val (.bl false))
section
variable {q:SI}{n:Str}{d:D}
theorem kj (ho:∀t∈q,Ok t.1)(hn:NameOk n)(h:n∈nms q):zQ [.bor #[2],.val (.str n)]=some (.val (.int ((nms q).idxOf n:Nat))):=by
 have p:=uB hn.ok (some (.bor #[2])) q 0 none none ho h
 have e:=qA hn
 try simp at p
 simp[zQ,mir,stE,y4,jw,e,p]
theorem Jn (ho:∀t∈q,Ok t.1)(h:Miss q d):zQ [.bor #[2],.val d]=none:=by
 rcases h with⟨n,rfl,hn,h⟩ | h
 ·obtain⟨a',b',p⟩:=ZX hn.ok (some (.bor #[2])) q 0 none none ho h
  have e:=qA hn
  try simp at p
  simp[zQ,mir,stE,y4,jw,e,p,sNever,outO]
 ·simp[zQ,mir,stE,y4,jw,h,sNever,outO]
theorem W0 (ho:∀t∈q,Ok t.1)(h:Miss q d):yt [.bor #[2],.val d]=some (("NoTicket" : Str),some d):=by
 rcases h with⟨n,rfl,hn,h⟩ | h
 ·obtain⟨a',b',p⟩:=ZX hn.ok (some (.bor #[2])) q 0 none none ho h
  have e:=qA hn
  try simp at p
  simp[yt,mirY,stE,y4,jf,ySeq,yRaise,Qx,e,p]
 ·simp[yt,mirY,stE,y4,jf,ySeq,yRaise,h]
theorem zaa (ho:∀t∈q,Ok t.1)(hn:NameOk n)(h:n∈nms q):yt [.bor #[2],.val (.str n)]=none:=by
 have p:=uB hn.ok (some (.bor #[2])) q 0 none none ho h
 have e:=qA hn
 try simp at p
 simp[yt,mirY,stE,y4,jf,ySeq,yRaise,Qx,e,p]
end
theorem Ra {α:Type}{xs:List α}{p i:Nat}(h:p<=i):Dv.cutD xs (some (p:Int)) (some (i:Int))=(xs.drop p).take (i - p):=by
 simp only[Dv.cutD,HT.sIx_nat]
 by_cases h1:i<=xs.length
 ·rw[Nat.min_eq_left h1,Nat.min_eq_left (Nat.le_trans h h1)]
 ·rw[Nat.min_eq_right #[1]]
  by_cases h2:p<=xs.length
  ·rw[Nat.min_eq_left h2,List.take_of_length_le (by simp),List.take_of_length_le (by simp;omega)]
  ·rw[Nat.min_eq_right #[1],List.drop_of_length_le (Nat.le_refl _),List.drop_of_length_le #[1]];simp
theorem uf {α:Type}{xs:List α}{i:Nat}:Dv.cutD xs none (some (i:Int))=xs.take i:=by rw[qG #[1]];simp
theorem Wu {α:Type}{xs:List α}{i:Nat}:Dv.cutD xs (some ((i:Int)+1)) none=xs.drop (i+1):=by rw[vg #[1]];congr 1
def pl (q:SI)(p i:Nat)(t:Str×Int):SI:=q.take p++[t]++(q.drop p).take (i - p)++q.drop (i+1)
section
variable {q:SI}{n:Str}{d o m:D}{i:Nat}{k:Int}{t:Str×Int}
theorem ud (h:n∈nms q):(nms q).idxOf n < q.length:=by have:=List.idxOf_lt_length_of_mem h;simpa[nms] using this
theorem R6 (h:n∈nms q):∃t,atI #[2] (((nms q).idxOf n:Nat):Int)=some (tkD t)/\q[(nms q).idxOf n]?=some t/\t.1=n:=by
 have hl:=ud h
 refine⟨q[(nms q).idxOf n],xb _ (by rw[List.getElem?_map,List.getElem?_eq_getElem hl];rfl),List.getElem?_eq_getElem hl,?_⟩
 have e:=List.getElem_idxOf (xs:=nms q) (x:=n) (List.idxOf_lt_length_of_mem h)
 have e2:(nms q)[(nms q).idxOf n]'(List.idxOf_lt_length_of_mem h)=(q[(nms q).idxOf n]).1:=List.getElem_map ..
 exact e2.symm.trans e
theorem zbj (ho:∀t∈q,Ok t.1)(hl:q.length<=100)(hn:NameOk n)(h:n∈nms q)(ht:atI #[2] (((nms q).idxOf n:Nat):Int)=some (tkD t)){p:Nat}(hp:p<=(nms q).idxOf n):vE [.bor #[2],.val (.str n),.val (.int (p:Int))]=some (.acc ((pl q p ((nms q).idxOf n) t).map tkD)):=by
 have e1:=kj ho hn h
 have e3:=qV (a:=(p:Int)) (lo:=0) (hi:=(((nms q).idxOf n:Nat):Int)) #[1] #[1]
 have hi:=ud h
 have c1:=Ra (xs:=q.map tkD) hp
 have c2:=uf (xs:=q.map tkD) (i:=p)
 have c3:=Wu (xs:=q.map tkD) (i:=(nms q).idxOf n)
 generalize hI:(nms q).idxOf n=I at *
 have l1:min p q.length+1<=TOP:=z5 #[1]
 have l2:min p q.length+1+min (I - p) (q.length - p)<=TOP:=z5 #[1]
 have l3:min p q.length+1+min (I - p) (q.length - p)+(q.length - (I+1))<=TOP:=z5 #[1]
 have l4:min p q.length+(min (I - p) (q.length - p)+1)+(q.length - (I+1))<=TOP:=z5 #[1]
 have l5:min p q.length+(min (I - p) (q.length - p)+1)<=TOP:=z5 #[1]
 have t1:1<=TOP:=by decide
 simp[vE,mir,stE,vT,Zf,e1,e3,ht,c1,c2,c3,pl,l1,l2,l3,l4,l5,t1,List.map_take,List.map_drop]
theorem zcn (ho:∀t∈q,Ok t.1)(h:Miss q d):yu [.bor #[2],.val d,.val o]=none/\yS [.bor #[2],.val d,.val o]=some (("NoTicket" : Str),some d):=by
 have e1:=Jn ho h
 have e2:=W0 ho h
 exact⟨by simp[yu,mir,stE,yI,j8,e1,outO],by simp[yS,mirY,stE,yI,qW,yAlt,yE,yCall,e2]⟩
theorem zbw (ho:∀t∈q,Ok t.1)(hn:NameOk n)(h:n∈nms q)(h2:Miss q o):yu [.bor #[2],.val (.str n),.val o]=none/\yS [.bor #[2],.val (.str n),.val o]=some (("NoTicket" : Str),some o):=by
 have e1:=kj ho hn h
 have e2:=zaa ho hn h
 have e3:=Jn ho h2
 have e4:=W0 ho h2
 exact⟨by simp[yu,mir,stE,yI,j8,e1,e3,outO],by simp[yS,mirY,stE,yI,qW,yAlt,yE,yAft,yCall,ySeq,e1,e2,e4]⟩
theorem zba (ho:∀t∈q,Ok t.1)(hl:q.length<=100)(hn:NameOk n)(h:n∈nms q)(ht:atI #[2] (((nms q).idxOf n:Nat):Int)=some (tkD t)){n2:Str}(hn2:NameOk n2)(h2:n2∈nms q) :
  yu [.bor #[2],.val (.str n),.val (.str n2)]=some (.acc ((pl q (min ((nms q).idxOf n) ((nms q).idxOf n2)) ((nms q).idxOf n) t).map tkD)):=by
 have e1:=kj ho hn h
 have e2:=kj ho hn2 h2
 have e3:=zbj ho hl hn h ht (p:=min ((nms q).idxOf n) ((nms q).idxOf n2)) (Nat.min_le_left _ _)
 have em:((min ((nms q).idxOf n) ((nms q).idxOf n2):Nat):Int)=min ((nms q).idxOf n:Int) ((nms q).idxOf n2:Int):=by omega
 rw[em] at e3
 simp[yu,mir,stE,yI,j8,e1,e2,e3]
end
theorem Zc {neg:Bool}{a b:Int}:fEq neg (.int a) (.int b)=some (.bl (if neg then !decide (a=b) else decide (a=b))):=vP Wl Wl (by decide) (by decide) (vW a b)
theorem UP {x y:Bool}(h:x=y):jH [.val (.bl x),.val (.bl y)]=some (.val (.bl true)):=by
 subst h
 have:fEq false (.bl x) (.bl x)=some (.bl true):=by
  have hl:Lay 0 (.bl x):=⟨rfl,Nat.le_refl _⟩
  exact vP (neg:=false) hl hl (by decide) (by decide) (b:=true) (by cases x<;>rfl)
 have hb:subT "bool" "bool" = some true:=by decide +kernel
 simp[jH,mir,stE,jR,uv,this,hb]
theorem Wv {v:V}(h:∀x:Str,eqV (.str x) v=false):∀xs:List Str,inV v (xs.map V.str)=false
 | []=>rfl
 |x::xs=>by
  show (eqV (.str x) v||inV v (xs.map V.str))=false
  rw[h x,Wv h xs];rfl
theorem U1 {neg:Bool}{d:D}{v:V}(hv:toV d=some v)(h:∀x:Str,eqV (.str x) v=false)(hs:∀x,d≠.str x)(xs:List Str):fIn neg d (.lst (xs.map D.str))=some (.bl neg):=by
 have e:fIn neg d (.lst (xs.map D.str))=((toV d).bind λv=>(toVs (xs.map D.str)).map λvs=>D.bl (if neg then !inV v vs else inV v vs)):=by
  cases d<;>rfl
 rw[e,hv,u4]
 show some (D.bl (if neg then !inV v (xs.map V.str) else inV v (xs.map V.str)))=_
 rw[Wv h xs]
 cases neg<;>rfl
theorem kY {d:D}{v:V}(hb:isBox d=false)(hv:toV d=some v)(h:∀x:Str,eqV (.str x) v=false)(hs:∀x,d≠.str x)(xs:List Str):fInX true d (.lst (xs.map D.str))=some (.bl true):=by
 unfold fInX
 rw[if_neg (by rw[hb];decide)]
 exact U1 hv h hs xs
theorem J7 {x:Str}{xs:List Str}:fInX true (.str x) (.lst (xs.map D.str))=some (.bl (!decide (x∈xs))):=by
 show fIn true (.str x) (.lst (xs.map D.str))=_
 rw[zcu];rfl
theorem s0:("" : Str)=mk []:=by decide +kernel
theorem szz:("zz" : Str)=mk [122,122]:=by decide +kernel
theorem zdv:("nobody" : Str)=mk [110,111,98,111,100,121]:=by decide +kernel
theorem zfg:NameOk "zz" := ⟨122,[122],szz,by decide +kernel,by decide +kernel,by decide⟩
theorem za8:NameOk "nobody" := ⟨110,[111,98,111,100,121],zdv,by decide +kernel,by decide +kernel,by decide⟩
def Kd (d:D):Prop:=(∃n,d=.str n/\NameOk n)∨d=.str "" ∨ d=.non∨d=.int 7∨d=.bl true
section
variable {q:SI}{n n2:Str}{d:D}{t:Str×Int}
structure Hit (q:SI)(n:Str):Prop where
 nm:NameOk n
 mem:n∈nms q
structure Mis (q:SI)(d:D):Prop where
 ms:Miss q d
 ni:fInX true d (.lst ((nms q).map D.str))=some (.bl true)
 eq:fEq false d d=some (.bl true)
theorem zan (hm:n∈nms q):fInX true (.str n) (.lst ((nms q).map D.str))=some (.bl false):=by rw[J7,decide_eq_true hm];rfl
theorem Qn (hm:n∉nms q):fInX true (.str n) (.lst ((nms q).map D.str))=some (.bl true):=by rw[J7,decide_eq_false hm];rfl
theorem JR (hm:n∈nms q):fIndex (.lst ((nms q).map D.str)) [.str n]=some (.int ((nms q).idxOf n:Nat)):=by
 rw[Ue,QD,Option.bind_some,if_pos hm]
theorem Yn:Ok "" := by decide +kernel
theorem Jd (Q:Q5 q)(h:Kd d):(∃n,d=.str n/\Hit q n)∨Mis q d:=by
 rcases h with⟨n,rfl,hn⟩ | rfl | rfl | rfl | rfl
 ·by_cases hm:n∈nms q
  ·exact .inl ⟨n,rfl,hn,hm⟩
  ·exact .inr ⟨.inl ⟨n,rfl,hn,hm⟩,Qn hm,by rw[xa hn.ok hn.ok];simp⟩
 ·refine .inr ⟨.inr Gf,Qn λz=>?_,by rw[xa Yn Yn];simp⟩
  obtain⟨t,ht,e⟩:=List.mem_map.mp z
  obtain⟨c,cs,h1,_⟩:=Q.nam t ht
  rw[h1,s0] at e
  cases WR e
 ·exact .inr ⟨.inr (uR (t := "NoneType") rfl (by decide)),kY (v:=.non) rfl rfl (λ_=>rfl) (λ_=>by simp) _,rfl⟩
 ·exact .inr ⟨.inr (uR (t := "int") rfl (by decide)),kY (v:=.int 7) rfl rfl (λ_=>rfl) (λ_=>by simp) _,rfl⟩
 ·exact .inr ⟨.inr (uR (t := "bool") rfl (by decide)),kY (v:=.bl true) rfl rfl (λ_=>rfl) (λ_=>by simp) _,rfl⟩
theorem Qt (Q:Q5 q){w o:Int}(hw:0<=w):∃d,Kd d/\yU [.val (.lst #[2]),.val (.int w),.val (.int o)]=some (.val d):=by
 have t6:6<=TOP:=by decide
 have hT:q.length<=TOP:=z5 (by have:=Q.len;omega)
 have t0:0<=TOP:=by decide
 have odd:∃d,Kd d/\atI (α:=D) [.str "zz",.str "",.non,.int 7,.bl true,.str "nobody"] (w % 6)=some d:=by
  have h1:0<=w % 6:=Int.emod_nonneg _ #[1]
  have h2:w % 6 < 6:=Int.emod_lt_of_pos _ #[1]
  generalize w % 6=z at *
  have:z=0∨z=1∨z=2∨z=3∨z=4∨z=5:=by omega
  rcases this with rfl | rfl | rfl | rfl | rfl | rfl
  ·exact⟨_,.inl ⟨_,rfl,zfg⟩,rfl⟩
  ·exact⟨_,.inr (.inl rfl),rfl⟩
  ·exact⟨_,.inr (.inr (.inl rfl)),rfl⟩
  ·exact⟨_,.inr (.inr (.inr (.inl rfl))),rfl⟩
  ·exact⟨_,.inr (.inr (.inr (.inr rfl))),rfl⟩
  ·exact⟨_,.inl ⟨_,rfl,za8⟩,rfl⟩
 by_cases ho:o=3
 ·subst ho
  obtain⟨d,k,e⟩:=odd
  exact⟨d,k,by simp[yU,mir,stE,wW,vQ,Zc,zR,t6,e]⟩
 ·have e0:=jd (neg:=false) (xs:=q) (ys:=[]) Q.ok (by simp)
  simp only[List.map_nil] at e0
  by_cases hq:q=[]
  ·obtain⟨d,k,e⟩:=odd
   simp[hq] at e0
   exact⟨d,k,by simp[hq,yU,mir,stE,wW,vQ,Zc,zR,t6,e,ho,e0,t0]⟩
  ·have hp:0 < q.length:=List.length_pos_iff.mpr hq
   have h1:0<=w % (q.length:Int):=Int.emod_nonneg _ #[1]
   have h2:w % (q.length:Int) < q.length:=Int.emod_lt_of_pos _ #[1]
   obtain⟨j,hj⟩:∃j:Nat,w % (q.length:Int)=j:=⟨(w % (q.length:Int)).toNat,by omega⟩
   have hjl:j < q.length:=by omega
   have ea:atI #[2] (j:Int)=some (tkD q[j]):=xb _ (by rw[List.getElem?_map,List.getElem?_eq_getElem hjl];rfl)
   simp[hq] at e0
   have hm:=zR (a:=w) (b:=(q.length:Int)) #[1]
   rw[hj] at hm
   have i0:fItem (tkD q[j]) (.int 0)=some (.str q[j].1):=by simp[tkD]
   refine⟨.str q[j].1,.inl ⟨_,rfl,Q.nam _ (List.getElem_mem hjl)⟩,?_⟩
   simp[yU,mir,stE,wW,vQ,Zc,ho,e0,t0,hT,hm,ea,i0]
def wo (q:SI)(i:Nat):SI:=q.take i++q.drop (i+1)
theorem zcf (i:Nat):(wo q i).map tkD=#[2].take i++#[2].drop (i+1):=by simp[wo,List.map_take,List.map_drop]
theorem GG {p i:Nat}(hp:p<=i)(hi:i<=q.length):(wo q i).take p++t::(wo q i).drop p=pl q p i t:=by
 unfold wo pl
 have hl:p<=(q.take i).length:=by simp;omega
 rw[List.take_append_of_le_length hl,List.drop_append_of_le_length hl,List.take_take,Nat.min_eq_left hp,List.drop_take]
 simp
theorem UW {i p:Nat}(hp:p<=i)(hi:i<=q.length):((wo q i).map tkD).take p++tkD t::((wo q i).map tkD).drop p=(pl q p i t).map tkD:=by
 rw[<-GG hp hi];simp[List.map_take,List.map_drop]
theorem qy {e:EnvD->Option D}(he:∀t:Str×Int,e [some (.val (tkD t))]=some (.str t.1)):∀q:SI,compD (.name 0) tYes e [none] #[2]=some ((nms q).map D.str)
 | []=>by simp[nms]
 |t::q=>by
  have ih:=qy he q
  simp only[List.map_cons,jl,ih]
  simp[he,nms]
theorem tk0 (t:Str×Int):fItem (tkD t) (.int 0)=some (.str t.1):=by simp[tkD]
theorem KL (hl:q.length<=60)(hm:n∈nms q)(ht:atI #[2] (((nms q).idxOf n:Nat):Int)=some (tkD t))(hm2:n2∈nms q) :
  wd [.val (.lst #[2]),.val (.str n),.val (.str n2)]=some (.acc ((pl q (min ((nms q).idxOf n) ((nms q).idxOf n2)) ((nms q).idxOf n) t).map tkD)):=by
 have c:=qy (e:=uw) (λt=>by simp[uw,tk0]) q
 have f2:=JR hm
 have g2:=JR hm2
 have t1:1<=TOP:=by decide
 have hi:=ud hm
 rw[<-UW (Nat.min_le_left _ _) (Nat.le_of_lt hi),zcf]
 generalize (nms q).idxOf n2=J2 at *
 generalize (nms q).map D.str=NS at *
 generalize (nms q).idxOf n=J at *
 generalize hQ:q.map tkD=QS at *
 have hQn:QS.length=q.length:=by rw[<-hQ];simp
 have hQl:QS.length<=TOP:=by rw[hQn];exact z5 #[1]
 have em:min (J:Int) (J2:Int)=((min J J2:Nat):Int):=by omega
 have tl:min J QS.length+(QS.length - (J+1))<=TOP:=z5 #[1]
 have k1:=uf (xs:=QS) (i:=J)
 have k2:=Wu (xs:=QS) (i:=J)
 have k3:=uf (xs:=QS.take J++QS.drop (J+1)) (i:=min J J2)
 have k4:Dv.cutD (QS.take J++QS.drop (J+1)) (some ((min J J2:Nat):Int)) none=(QS.take J++QS.drop (J+1)).drop (min J J2):=by rw[vg #[1]];congr 1
 generalize hM:min J J2=M at *
 generalize hR:QS.take J++QS.drop (J+1)=R at *
 have hRl:R.length<=60:=by rw[<-hR];simp;omega
 have l1:min M R.length+1<=TOP:=z5 #[1]
 have l2:min M R.length+1+(R.length - M)<=TOP:=z5 #[1]
 simp[wd,mir,stE,j6,uQ,c,hQl,f2,g2,em,k1,k2,k3,k4,ht,t1,tl,hR,l1,l2]
end
section
variable {q q':SI}{n n2:Str}{d o:D}{t:Str×Int}{i p:Nat}{C:Str->Addr}{rs:List HM.Row}{rest b0:Int}{out:List (Int×List Str)}{P:SI}{H:D}
theorem zbm (h:q[i]?=some t):q=q.take i++t::q.drop (i+1):=by
 obtain⟨hl,rfl⟩:=List.getElem?_eq_some_iff.mp h
 rw[List.getElem_cons_drop,List.take_append_drop]
theorem GY (h:q[i]?=some t)(hp:p<=i):(pl q p i t).Perm q:=by
 have e:=zbm h
 have e2:q.take i=q.take p++(q.drop p).take (i - p):=by
  have:q.take i=(q.take i).take p++(q.take i).drop p:=(List.take_append_drop ..).symm
  rw[List.take_take,Nat.min_eq_left hp,List.drop_take] at this
  exact this
 have e3:q=q.take p++((q.drop p).take (i - p)++t::q.drop (i+1)):=by
  exact e.trans (by rw[e2];simp)
 refine List.Perm.trans ?_ (List.Perm.of_eq e3.symm)
 unfold pl
 rw[List.append_assoc,List.append_assoc]
 refine List.Perm.append_left _ ?_
 show (t::((q.drop p).take (i - p)++q.drop (i+1))).Perm _
 exact List.perm_middle.symm
theorem Wd.perm (W:Wd q rs rest b0)(s:q'.Perm q):Wd q' rs rest b0 :=
 ⟨⟨λt ht=>W.q5.nam t (s.subset ht),((s.map (λt:Str×Int=>t.1)).nodup_iff).mpr W.q5.nd,by rw[s.length_eq];exact W.q5.len,λt ht=>W.q5.le t (s.subset ht)⟩,W.row,W.len,W.lo,W.hi,W.b0⟩
theorem Kc {L:List D}(h1:yu [.bor #[2],.val d,.val o]=some (.acc L)){v:D}(h2:zZ C [.val (.lst L),.val H,.val (.int b0),.dbo (kv P)]=some (.val v)) :
  yH C [.bor #[2],.val H,.val (.int b0),.dbo (kv P),.val d,.val o]=some (.val v):=by
 simp[yH,mir,stE,xL,qx,h1,h2]
theorem JW {x:Xv}(h:yu [.bor #[2],.val d,.val o]=none/\yS [.bor #[2],.val d,.val o]=some x) :
  yH C [.bor #[2],.val H,.val (.int b0),.dbo (kv P),.val d,.val o]=none/\wQ [.bor #[2],.val H,.val (.int b0),.dbo (kv P),.val d,.val o]=some x:=by
 obtain⟨h1,h2⟩:=h
 exact⟨by simp[yH,mir,stE,xL,qx,h1,outO],by simp[wQ,mirY,stE,xL,Z1,yE,yCall,h2]⟩
theorem t3:3<=TOP:=by decide
theorem zdp {v:D}(h:yH C [.bor #[2],.val H,.val (.int b0),.dbo (kv P),.val d,.val o]=some (.val v)) :
  yN C [.bor #[2],.val H,.val (.int b0),.dbo (kv P),.val d,.val o]=some (.val (.tup [.str "good",.non,v])):=by
 simp[yN,mir,stE,vY,kB,sTryV,h,t3]
theorem Jl {x:D}(h:yH C [.bor #[2],.val H,.val (.int b0),.dbo (kv P),.val d,.val o]=none/\wQ [.bor #[2],.val H,.val (.int b0),.dbo (kv P),.val d,.val o]=some (("NoTicket" : Str),some x)) :
  yN C [.bor #[2],.val H,.val (.int b0),.dbo (kv P),.val d,.val o]=some (.val (.tup [.str "none",x,.non])):=by
 obtain⟨h1,h2⟩:=h
 simp[yN,mir,stE,vY,kB,sTryV,yE,yCall,h1,h2,pickV,List.lookup,okV,suD,jCon,jPay,t3]
end
section
variable {C:Str->Addr}{q:SI}{rs:List HM.Row}{rest b0:Int}{out:List (Int×List Str)}{o:Option (Str×Int×Int)}{Z:EnvD}{h:D}{P:SI}{k k':Nat}
theorem QR (hC:C "Granted" ≠ C "Late") (hw:∀r∈out,r.2.length<=100) (hl:out.length<=5000) (h7:gv k Z=some (vD C q h b0 out o)) :
  yAlt (gMeth (C "Granted") "told" (len? 1 (xg C)) frzO (gv k) nNil) (gMeth (C "Late") "told" (len? 1 (yF C)) frzO (gv k) nNil) Z=some (dueD o out):=by
 have hC':=Ne.symm hC
 rw[qp,wq,wq,h7]
 cases o with
 |none=>
  have e:=WV (q:=q) (h:=h) (b0:=b0) C
  have er:=Jg (out:=out)
  simp only[grD] at e
  simp[vD,grD,Vu,e,frzO,er,dueD]
 |some o=>
  obtain⟨n,p,e'⟩:=o
  have e:=Zv (q:=q) (h:=h) (b0:=b0) (n:=n) (p:=p) (e:=e') C hw hl
  have er:=Zr n p e' out
  simp only[laD] at e
  simp[vD,laD,ZY,e,frzO,er,hC']
theorem zdc (hC:C "Granted" ≠ C "Late") (W:Wd q rs rest b0) (R:Rn C q rs rest b0 out) (ho:OkO o) (h7:gv k Z=some (vD C q (hoursD (C "Hours") rest (krows rest rs)) b0 out o)) (hk:gn k' Z=some (.dbo (kv P))) :
  yAlt (gMeth (C "Granted") "holds" (len? 2 (xJ C)) frzO (gv k) (nCons (gn k') nNil)) (gMeth (C "Late") "holds" (len? 2 (xG C)) frzO (gv k) (nCons (gn k') nNil)) Z=some (.bl (decide (late (endsS [] out) P q=o))):=by
 have hC':=Ne.symm hC
 rw[qp,wq,wq,h7,Vv,hk]
 cases o with
 |none=>
  have e:=za2 (P:=P) hC W R
  simp only[grD] at e
  simp[vD,grD,zat,e]
  cases late (endsS [] out) P q<;>simp
 |some o=>
  obtain⟨n,p,e'⟩:=o
  have e:=zdb (P:=P) hC W R (n:=n) (p:=p) (e:=e') (ho n p e' rfl)
  simp only[laD] at e
  simp[vD,laD,zca,e,hC']
theorem zcr (hC:C "Granted" ≠ C "Late") (h7:gv k Z=some (vD C q h b0 out o)) :
  yAlt (gMeth (C "Granted") "granted" (len? 1 (xt C)) frzO (gv k) nNil) (gMeth (C "Late") "granted" (len? 1 (yX C)) frzO (gv k) nNil) Z=some (.bl o.isNone):=by
 have hC':=Ne.symm hC
 rw[qp,wq,wq,h7]
 cases o with
 |none=>
  have e:=W5 (C:=C) (q:=q) (h:=h) (b0:=b0)
  simp only[grD] at e
  simp[vD,grD,We,e]
 |some o=>
  obtain⟨n,p,e'⟩:=o
  have e:=WS (C:=C) (q:=q) (h:=h) (b0:=b0) (n:=n) (p:=p) (e:=e') (out:=out)
  simp only[laD] at e
  simp[vD,laD,WL,e,hC']
theorem zbp (hC:C "Granted" ≠ C "Late") (h7:gv k Z=some (vD C q h b0 out o)) :
  yAlt (gFld (C "Granted") "queue" (gv k)) (gFld (C "Late") "queue" (gv k)) Z=some (.lst #[2]):=by
 have hC':=Ne.symm hC
 rw[qp,Qi,Qi,h7]
 cases o with
 |none=>simp[vD,grD,ZL]
 |some o=>
  obtain⟨n,p,e'⟩:=o
  simp[vD,laD,u5,hC']
theorem due0:fItem (dueD o out) (.int 0)=some (.str (if o.isNone=true then "granted" else "late")):=by
 cases o with
 |none=>rfl
 |some o=>obtain⟨n,p,e⟩:=o;rfl
def aE (q:SI)(rs:List HM.Row)(rest b0:Int)(P:SI)(d o:D)(x6 x7 x8 x9 x10 x11 x12 x13 x14:Option En):EnvD:=[some (.val (.lst #[2])),some (.val (sideD rs rest)),some (.val (.int b0)),some (.dbo (kv P)),some (.val d),some (.val o),x6,x7,x8,x9,x10,x11,x12,x13,x14]
theorem jW {a b:EnvD->Option Bool}(h1:a Z=some false)(h2:b Z=some false):gOr a b Z=some false:=by simp[h1,h2]
end
theorem zf3 {t:Tgt}{gi:EnvD->Option (List D)}{ds:List D}{s1 b:SD}{Z:EnvD}{v:En}(h:gi Z=some ds)(h2:forD t s1 ds Z=some (.ret v)):sSeq (sFor t gi s1) b Z=some (.ret v):=by
 show thenB (sFor t gi s1 Z) b=_
 have:sFor t gi s1 Z=some (.ret v):=by
  show ((gi Z).bind λds=>forD t s1 ds Z)=_
  rw[h];exact h2
 rw[this];rfl
section
variable {C:Str->Addr}{q:SI}{rs:List HM.Row}{rest b0:Int}{out:List (Int×List Str)}{P:SI}{d o:D}
theorem zek:fEq false (.str "none") (.str "none")=some (.bl true):=by
 have hk:Ok "none" := by decide +kernel
 rw[xa hk hk];simp
theorem GE:fEq true (.str "good") (.str "good")=some (.bl false):=by
 have hk:Ok "good" := by decide +kernel
 rw[xa hk hk];simp
theorem Yy {Z:EnvD}{d x9:D}(h12:gr 12 Z=some d)(h11:gr 11 Z=some (.lst ((nms q).map D.str)))(h8:gr 8 Z=some (.str "none")) (h9:gr 9 Z=some d) (m:Mis q d):y6 Z=some (.ret (.val (.bl true))):=by
 have e1:=m.ni
 have e2:=m.eq
 simp only[y6,Qk,vX,vx,h12,h11,h8,h9,Jm,WF,Rr]
 simp[e1,e2,zek]
theorem um {Z:EnvD}{n:Str}(h12:gr 12 Z=some (.str n))(h11:gr 11 Z=some (.lst ((nms q).map D.str)))(m:Hit q n):y6 Z=some (.next Z):=by
 have e1:=zan m.mem
 simp only[y6,Qk,vX,vx,h12,h11]
 simp[e1]
theorem WJ (W:Wd q rs rest b0)(nd:(keysS P).Nodup){x:D}(ht:yN C [.bor #[2],.val (hoursD (C "Hours") rest (krows rest rs)),.val (.int b0),.dbo (kv P),.val d,.val o]=some (.val (.tup [.str "none",x,.non])))
  (m:(d=x/\Mis q d)∨(∃n,d=.str n/\Hit q n)/\o=x/\Mis q o) :
  vJ C [.val (.lst #[2]),.val (sideD rs rest),.val (.int b0),.dbo (kv P),.val d,.val o]=some (.val (.bl true)):=by
 obtain⟨w,hw⟩:∃w:Str,w = "none" := ⟨_,rfl⟩
 obtain⟨x9,hx9⟩:∃x9:D,x9=x:=⟨_,rfl⟩
 obtain⟨x10,hx10⟩:∃x10:D,x10=.non:=⟨_,rfl⟩
 rw[<-hw,<-hx9,<-hx10] at ht
 have t2:2<=TOP:=by decide
 have hl:=W.q5.len
 have hT:q.length<=TOP:=z5 #[1]
 have hTr:rs.length<=TOP:=z5 (by have:=W.len;omega)
 have ei:=WG C (rs:=rs) (rest:=rest) W.fit.good W.fit.len W.fit.lo W.fit.hi W.fit.pos
 have eqq:=jd (neg:=true) (xs:=q) (ys:=q) W.q5.ok W.q5.ok
 have eqd:=Js nd
 have ak:=ui P
 have c:=qy (e:=jG) (λt=>by simp[jG,tk0]) q
 show outO (xh C (aE q rs rest b0 P d o none none none none none none none none none))=_
 suffices hs:xh C (aE q rs rest b0 P d o none none none none none none none none none)=some (.ret (.val (.bl true))) by rw[hs];rfl
 unfold xh
 refine yb (Z':=aE q rs rest b0 P d o (some (.acc #[2])) none none none none none none none none) (by simp[aE,hT]) ?_
 refine yb (Z':=aE q rs rest b0 P d o (some (.acc #[2])) (some (.dct none (kv P))) none none none none none none none) (by simp[aE]) ?_
 refine yb (Z':=aE q rs rest b0 P d o (some (.acc #[2])) (some (.dct none (kv P))) (some (.val (.str w))) (some (.val x9)) (some (.val x10)) none none none none) (by
  simp only[hoursD] at ht ⊢
  simp[aE,sideD,hTr,ei,ht,asgD,z7]) ?_
 refine ku (jW (by simp[aE,eqq]) (by simp[aE,ak,eqd])) ?_
 refine yb (Z':=aE q rs rest b0 P d o (some (.acc [])) (some (.dct none (kv P))) (some (.val (.str w))) (some (.val x9)) (some (.val x10)) none none none none) (by simp[aE,mClear]) ?_
 refine yb (Z':=aE q rs rest b0 P d o (some (.acc [])) (some (.dct none [])) (some (.val (.str w))) (some (.val x9)) (some (.val x10)) none none none none) (by simp[aE,sClrD]) ?_
 refine yb (Z':=aE q rs rest b0 P d o (some (.acc [])) (some (.dct none [])) (some (.val (.str w))) (some (.val x9)) (some (.val x10)) #[14] none none none) (by simp[aE,hT,c]) ?_
 refine zf3 (ds:=[d,o]) (by simp[aE,t2]) ?_
 rcases m with⟨rfl,m⟩ | ⟨⟨n,rfl,hn⟩,rfl,m⟩
 ·rw[yw]
  show (y6 (aE q rs rest b0 P d o (some (.acc [])) (some (.dct none [])) (some (.val (.str w))) (some (.val x9)) (some (.val x10)) #[14] (some (.val d)) none none)).bind _=_
  rw[Yy (q:=q) (d:=d) (x9:=d) rfl rfl (by rw[hw];rfl) (by rw[hx9];rfl) m];rfl
 ·rw[yw]
  show (y6 (aE q rs rest b0 P (.str n) o (some (.acc [])) (some (.dct none [])) (some (.val (.str w))) (some (.val x9)) (some (.val x10)) #[14] (some (.val (.str n))) none none)).bind _=_
  rw[um (q:=q) (n:=n) rfl rfl hn]
  simp only[Option.bind_some]
  rw[yw]
  show (y6 (aE q rs rest b0 P (.str n) o (some (.acc [])) (some (.dct none [])) (some (.val (.str w))) (some (.val x9)) (some (.val x10)) #[14] (some (.val o)) none none)).bind _=_
  rw[Yy (q:=q) (d:=o) (x9:=o) rfl rfl (by rw[hw];rfl) (by rw[hx9];rfl) m];rfl
end
section
variable {C:Str->Addr}{q q':SI}{rs:List HM.Row}{rest b0:Int}{out:List (Int×List Str)}{P:SI}{d o:D}
theorem ze2 (hC:C "Granted" ≠ C "Late") (W:Wd q rs rest b0) (nd:(keysS P).Nodup) {n n2:Str} (hn:Hit q n) (hn2:Hit q n2) (W':Wd q' rs rest b0) (R:Rn C q' rs rest b0 out)
  (el:wd [.val (.lst #[2]),.val (.str n),.val (.str n2)]=some (.acc (q'.map tkD)))
  (ht:yN C [.bor #[2],.val (hoursD (C "Hours") rest (krows rest rs)),.val (.int b0),.dbo (kv P),.val (.str n),.val (.str n2)]=some (.val (.tup [.str "good",.non,vD C q' (hoursD (C "Hours") rest (krows rest rs)) b0 out (late (endsS [] out) P q')]))) :
  vJ C [.val (.lst #[2]),.val (sideD rs rest),.val (.int b0),.dbo (kv P),.val (.str n),.val (.str n2)]=some (.val (.bl true)):=by
 obtain⟨d,hd⟩:∃d:D,d=.str n:=⟨_,rfl⟩
 obtain⟨o,ho⟩:∃o:D,o=.str n2:=⟨_,rfl⟩
 obtain⟨w,hw⟩:∃w:Str,w = "good" := ⟨_,rfl⟩
 obtain⟨x9,hx9⟩:∃x9:D,x9=.non:=⟨_,rfl⟩
 obtain⟨x10,hx10⟩:∃x10:D,x10=vD C q' (hoursD (C "Hours") rest (krows rest rs)) b0 out (late (endsS [] out) P q'):=⟨_,rfl⟩
 rw[<-hw,<-hx9,<-hx10,<-hd,<-ho] at ht
 rw[<-hd,<-ho] at el ⊢
 have t2:2<=TOP:=by decide
 have ev:=zey (P:=P) W' R
 have hoo:OkO (late (endsS [] out) P q'):=Wq W'
 have eq1:=JC (neg:=true) hoo hoo R.ok
 have eq2:=jd (neg:=true) (xs:=q') (ys:=q') W'.q5.ok W'.q5.ok
 have hl:=W.q5.len
 have hT:q.length<=TOP:=z5 #[1]
 have hTr:rs.length<=TOP:=z5 (by have:=W.len;omega)
 have ei:=WG C (rs:=rs) (rest:=rest) W.fit.good W.fit.len W.fit.lo W.fit.hi W.fit.pos
 have eqq:=jd (neg:=true) (xs:=q) (ys:=q) W.q5.ok W.q5.ok
 have eqd:=Js nd
 have ak:=ui P
 have c:=qy (e:=jG) (λt=>by simp[jG,tk0]) q
 show outO (xh C (aE q rs rest b0 P d o none none none none none none none none none))=_
 suffices hs:xh C (aE q rs rest b0 P d o none none none none none none none none none)=some (.ret (.val (.bl true))) by rw[hs];rfl
 unfold xh
 refine yb (Z':=aE q rs rest b0 P d o (some (.acc #[2])) none none none none none none none none) (by simp[aE,hT]) ?_
 refine yb (Z':=aE q rs rest b0 P d o (some (.acc #[2])) (some (.dct none (kv P))) none none none none none none none) (by simp[aE]) ?_
 refine yb (Z':=aE q rs rest b0 P d o (some (.acc #[2])) (some (.dct none (kv P))) (some (.val (.str w))) (some (.val x9)) (some (.val x10)) none none none none) (by
  simp only[hoursD] at ht ⊢
  simp[aE,sideD,hTr,ei,ht,asgD,z7]) ?_
 refine ku (jW (by simp[aE,eqq]) (by simp[aE,ak,eqd])) ?_
 refine yb (Z':=aE q rs rest b0 P d o (some (.acc [])) (some (.dct none (kv P))) (some (.val (.str w))) (some (.val x9)) (some (.val x10)) none none none none) (by simp[aE,mClear]) ?_
 refine yb (Z':=aE q rs rest b0 P d o (some (.acc [])) (some (.dct none [])) (some (.val (.str w))) (some (.val x9)) (some (.val x10)) none none none none) (by simp[aE,sClrD]) ?_
 refine yb (Z':=aE q rs rest b0 P d o (some (.acc [])) (some (.dct none [])) (some (.val (.str w))) (some (.val x9)) (some (.val x10)) #[14] none none none) (by simp[aE,hT,c]) ?_
 refine Gz (Z':=aE q rs rest b0 P d o (some (.acc [])) (some (.dct none [])) (some (.val (.str w))) (some (.val x9)) (some (.val x10)) #[14] (some (.val o)) none none) (ds:=[d,o]) (by simp[aE,t2]) ?_ ?_
 ·rw[yw]
  show (y6 (aE q rs rest b0 P d o (some (.acc [])) (some (.dct none [])) (some (.val (.str w))) (some (.val x9)) (some (.val x10)) #[14] (some (.val d)) none none)).bind _=_
  rw[um (q:=q) (n:=n) (by rw[hd];rfl) rfl hn]
  simp only[Option.bind_some]
  rw[yw]
  show (y6 (aE q rs rest b0 P d o (some (.acc [])) (some (.dct none [])) (some (.val (.str w))) (some (.val x9)) (some (.val x10)) #[14] (some (.val o)) none none)).bind _=_
  rw[um (q:=q) (n:=n2) (by rw[ho];rfl) rfl hn2]
  rfl
 refine ku (by rw[hw];simp[aE,GE]) ?_
 refine yb (Z':=aE q rs rest b0 P d o (some (.acc [])) (some (.dct none [])) (some (.val (.str w))) (some (.val x9)) (some (.val x10)) #[14] (some (.val o)) (some (.val (.lst (q'.map tkD)))) none) (by simp[aE,el]) ?_
 refine yb (Z':=aE q rs rest b0 P d o (some (.acc [])) (some (.dct none [])) (some (.val (.str w))) (some (.val x9)) (some (.val x10)) #[14] (some (.val o)) (some (.val (.lst (q'.map tkD)))) (some (.val (dueD (late (endsS [] out) P q') out)))) (by simp[aE,ev]) ?_
 have hh:=zdc (Z:=aE q rs rest b0 P d o (some (.acc [])) (some (.dct none [])) (some (.val (.str w))) (some (.val x9)) (some (.val x10)) #[14] (some (.val o)) (some (.val (.lst (q'.map tkD)))) (some (.val (dueD (late (endsS [] out) P q') out)))) (k:=10) (k':=3) (P:=P) hC W' R hoo (by rw[hx10];rfl) rfl
 have hto:=QR (Z:=aE q rs rest b0 P d o (some (.acc [])) (some (.dct none [])) (some (.val (.str w))) (some (.val x9)) (some (.val x10)) #[14] (some (.val o)) (some (.val (.lst (q'.map tkD)))) (some (.val (dueD (late (endsS [] out) P q') out)))) (k:=10) (q:=q') (b0:=b0) (o:=late (endsS [] out) P q') hC R.w R.len (by rw[hx10];rfl)
 have hg:=zcr (Z:=aE q rs rest b0 P d o (some (.acc [])) (some (.dct none [])) (some (.val (.str w))) (some (.val x9)) (some (.val x10)) #[14] (some (.val o)) (some (.val (.lst (q'.map tkD)))) (some (.val (dueD (late (endsS [] out) P q') out)))) (k:=10) (q:=q') (b0:=b0) (out:=out) (o:=late (endsS [] out) P q') hC (by rw[hx10];rfl)
 have hq:=zbp (Z:=aE q rs rest b0 P d o (some (.acc [])) (some (.dct none [])) (some (.val (.str w))) (some (.val x9)) (some (.val x10)) #[14] (some (.val o)) (some (.val (.lst (q'.map tkD)))) (some (.val (dueD (late (endsS [] out) P q') out)))) (k:=10) (q:=q') (b0:=b0) (out:=out) (o:=late (endsS [] out) P q') hC (by rw[hx10];rfl)
 have h0:=due0 (o:=late (endsS [] out) P q') (out:=out)
 have h13:gr 13 (aE q rs rest b0 P d o (some (.acc [])) (some (.dct none [])) (some (.val (.str w))) (some (.val x9)) (some (.val x10)) #[14] (some (.val o)) (some (.val (.lst (q'.map tkD)))) (some (.val (dueD (late (endsS [] out) P q') out))))=some (.lst (q'.map tkD)):=rfl
 have h14:gr 14 (aE q rs rest b0 P d o (some (.acc [])) (some (.dct none [])) (some (.val (.str w))) (some (.val x9)) (some (.val x10)) #[14] (some (.val o)) (some (.val (.lst (q'.map tkD)))) (some (.val (dueD (late (endsS [] out) P q') out))))=some (dueD (late (endsS [] out) P q') out):=rfl
 generalize aE q rs rest b0 P d o (some (.acc [])) (some (.dct none [])) (some (.val (.str w))) (some (.val x9)) (some (.val x10)) #[14] (some (.val o)) (some (.val (.lst (q'.map tkD)))) (some (.val (dueD (late (endsS [] out) P q') out)))=Z at *
 generalize late (endsS [] out) P q'=oo at *
 refine ku (jW ?_ (jW ?_ ?_)) ?_
 ·rw[vX,vx,hto,h14];simp[eq1]
 ·rw[vX,vx,hq,h13];simp[eq2]
 ·rw[vX,vx,hh];simp
 ·have b1:fEq false (.str (if oo.isNone=true then "granted" else "late")) (.str "granted")=some (.bl oo.isNone):=by
   cases oo with
   |none=>rw[show (if (none:Option (Str×Int×Int)).isNone=true then ("granted" : Str) else "late") = "granted" from rfl,xa kH kH];simp
   |some oo=>rw[show (if (some oo).isNone=true then ("granted" : Str) else "late") = "late" from rfl,xa Wk kH];simp[zby]
  have i1:=UP (x:=oo.isNone) (y:=oo.isNone) rfl
  simp only[WF,zee,Vv,zct,hg,vx,h14,Jm]
  simp only[Option.bind_some,h0,b1]
  simp[i1]
theorem GN (hC:C "Granted" ≠ C "Late") (W:Wd q rs rest b0) (nd:(keysS P).Nodup) (kd:Kd d) (ko:Kd o) :
  vJ C [.val (.lst #[2]),.val (sideD rs rest),.val (.int b0),.dbo (kv P),.val d,.val o]=some (.val (.bl true)):=by
 have hl:=W.q5.len
 rcases Jd W.q5 kd with⟨n,rfl,hn⟩ | m
 ·rcases Jd W.q5 ko with⟨n2,rfl,hn2⟩ | m
  ·obtain⟨t,h1,h2,h3⟩:=R6 hn.mem
   have W':=W.perm (GY h2 (Nat.min_le_left ((nms q).idxOf n) ((nms q).idxOf n2)))
   obtain⟨out,R⟩:=W'.rn C
   exact ze2 hC W nd hn hn2 W' R (KL #[1] hn.mem h1 hn2.mem) (zdp (Kc (zba W.q5.ok #[1] hn.nm hn.mem h1 hn2.nm hn2.mem) (Z6 W' R (.inl rfl))))
  ·exact WJ W nd (Jl (JW (zbw W.q5.ok hn.nm hn.mem m.ms))) (.inr ⟨⟨n,rfl,hn⟩,rfl,m⟩)
 ·exact WJ W nd (Jl (JW (zcn W.q5.ok m.ms))) (.inl ⟨rfl,m⟩)
theorem Q0 (hC:C "Granted" ≠ C "Late") (W:Wd q rs rest b0) (R:Rn C q rs rest b0 out) (ns:List Int) (X2 X3:Option En):∀(ks:List Nat) (a b c d e f g:Option En),∃a' b' c' d' e' f' g':Option En,
  forD (.name 6) (kq C) (ks.map λ(k:Nat)=>D.int (5+(k:Int))) [some (.val (.scr ns)),some (.val (.lst #[2])),X2,X3,some (.val (.int b0)),some (.val (sideD rs rest)),a,b,c,d,e,f,g]
   = some (.next [some (.val (.scr ns)),some (.val (.lst #[2])),X2,X3,some (.val (.int b0)),some (.val (sideD rs rest)),a',b',c',d',e',f',g'])
 | [],a,b,c,d,e,f,g=>⟨a,b,c,d,e,f,g,by simp⟩
 |k::ks,a,b,c,d,e,f,g=>by
  obtain⟨us,r1,p1⟩:=vv ns (5+k) [24,24,4,4] (by simp) (by simp)
  obtain⟨one,other,odd,more,rfl,h1,h2,h3,h4⟩:=rng4 r1
  obtain⟨P,nd,hl,eP⟩:=QV ns (5+k+1) W R
  obtain⟨n1,k1,e1⟩:=Qt (w:=one) (o:=odd) W.q5 h1.1
  obtain⟨n2,k2,e2⟩:=Qt (w:=other) (o:=more) W.q5 h2.1
  have ea:=GN hC W nd k1 k2
  obtain⟨a',b',c',d',e',f',g',p⟩:=Q0 hC W R ns X2 X3 ks (some (.val (.int (5+(k:Int))))) (some (.val (.int one))) (some (.val (.int other))) (some (.val (.int odd))) (some (.val (.int more))) (some (.dct none (kv P))) (some (.val n1))
  refine⟨a',b',c',d',e',f',g',?_⟩
  have hk:((5+k:Nat):Int)=5+(k:Int):=by omega
  have hk1:((5+k+1:Nat):Int)=5+(k:Int)+1:=by omega
  rw[hk] at p1
  rw[hk1] at eP
  have t4:4<=TOP:=by decide
  simp only[List.map_cons,List.map_nil] at p1
  have e0:kq C [some (.val (.scr ns)),some (.val (.lst #[2])),X2,X3,some (.val (.int b0)),some (.val (sideD rs rest)),some (.val (.int (5+(k:Int)))),b,c,d,e,f,g]=some (.next [some (.val (.scr ns)),some (.val (.lst #[2])),X2,X3,some (.val (.int b0)),some (.val (sideD rs rest)),some (.val (.int (5+(k:Int)))),some (.val (.int one)),some (.val (.int other)),some (.val (.int odd)),some (.val (.int more)),some (.dct none (kv P)),some (.val n1)]):=by
   simp[kq,p1,eP,ea,e1,e2,dctO,t4,z7]
  rw[<-p]
  simp only[List.map_cons,yw,asgD]
  simp[e0]
end
theorem zbd (C:Str->Addr)(hC:C "Granted" ≠ C "Late") (ns:List Int) (hl:ns.length<=63):VQ C [.val (.scr ns)]=some (.val (.bl true)):=by
 obtain⟨q,rs,rest,b0,h1,h2,h3,h4,h5,ew⟩:=G5 ns
 have W:Wd q rs rest b0:=⟨h1,h2,h3,h4.1,h4.2,h5.1⟩
 obtain⟨out,R⟩:=W.rn C
 obtain⟨n,hn⟩:∃n:Nat,(max 6 (min (ns.length:Int) 39) - 5).toNat=n:=⟨_,rfl⟩
 obtain⟨a',b',c',d',e',f',g',p⟩:=Q0 hC W R ns (some (.val (.lst (rs.map rowD)))) (some (.val (.int rest))) (List.range n) none none none none none none none
 have hb:(-BIG<=(5:Int)/\(5:Int)<=BIG)/\-BIG<=max 6 (min (ns.length:Int) 39)/\max 6 (min (ns.length:Int) 39)<=BIG:=by simp only[BIG];omega
 have hr:rngD 5 n=(List.range n).map λ(k:Nat)=>D.int (5+(k:Int)):=qP 5 n
 have t4:4<=TOP:=by decide
 rw[<-hr] at p
 simp only[sideD] at p
 simp[VQ,mir,stE,kL,Zx,ew,asgD,z7,t4,hb,hn,p]
inductive Sim (a dx C:Addr):Option Fl->Option Fl->Prop
 |none:Sim a dx C none none
 |next (fs:List Str) (ds:List D) (l:EnvD):Sim a dx C (some (.next (some (.oac a dx C fs ds)::l))) (some (.next (some (.oac 0 0 C fs ds)::l)))
section
variable {a dx C:Addr}{s t:SD}{g:EnvD->Option D}{f:Str}
def Alike (a dx C:Addr)(s:SD):Prop:=∀fs ds l,Sim a dx C (s (some (.oac a dx C fs ds)::l)) (s (some (.oac 0 0 C fs ds)::l))
theorem y1 (hg:∀o o' l,g (o::l)=g (o'::l)):Alike a dx C (sFldD 0 C f g):=λfs ds l=>by
 have e:=hg (some (.oac a dx C fs ds)) (some (.oac 0 0 C fs ds)) l
 unfold sFldD
 simp only[List.getElem?_cons_zero,e]
 cases g (some (.oac 0 0 C fs ds)::l) with
 |none=>simp;exact .none
 |some d=>
  by_cases h:fs.length < 900
  ·simp[h];exact .next _ _ _
  ·simp[h];exact .none
theorem xj (h1:Alike a dx C s)(h2:Alike a dx C t):Alike a dx C (sSeq s t):=λfs ds l=>by
 have e:=h1 fs ds l
 show Sim a dx C (thenB (s _) t) (thenB (s _) t)
 generalize s (some (.oac a dx C fs ds)::l)=u at *
 generalize s (some (.oac 0 0 C fs ds)::l)=v at *
 cases e with
 |none=>exact .none
 |next fs' ds' l'=>exact h2 fs' ds' l'
theorem zfb {n:Nat}{mi:Addr->Addr->List En->Option (List Str×List D)}{gs:EnvD->Option (List En)}(hm:∀xs,mi a dx xs=mi 0 0 xs)(hg:∀o o' l,gs (o::l)=gs (o'::l)):Alike a dx C (sBase 0 C n mi gs):=λfs ds l=>by
 have e:=hg (some (.oac a dx C fs ds)) (some (.oac 0 0 C fs ds)) l
 unfold sBase
 simp only[List.getElem?_cons_zero,e]
 cases fs with
 |cons=>exact .none
 |nil=>
  cases ds with
  |cons=>exact .none
  |nil=>
   simp only[if_true]
   cases gs (some (.oac 0 0 C [] [])::l) with
   |none=>exact .none
   |some xs=>
    simp only[Option.bind_some,hm]
    by_cases h:xs.length=n
    ·simp only[h,if_true]
     cases mi 0 0 xs with
     |none=>exact .none
     |some r=>exact .next _ _ _
    ·simp only[h,if_false];exact .none
theorem up (h:Alike a dx C s)(l:EnvD):outI a dx C (s (some (.oac a dx C [] [])::l))=outI 0 0 C (s (some (.oac 0 0 C [] [])::l)):=by
 have e:=h [] [] l
 generalize s (some (.oac a dx C [] [])::l)=u at *
 generalize s (some (.oac 0 0 C [] [])::l)=v at *
 cases e with
 |none=>rfl
 |next fs ds l'=>simp[outI,outJ]
end
theorem zad (C:Str->Addr)(a dx:Addr)(xs:List En):mirI (C "Granted") jt (qv C) a dx xs=xA C xs:=by
 unfold xA mirI stE
 exact up (xj (y1 λo o' l=>by simp) (xj (y1 λo o' l=>by simp) (y1 λo o' l=>by simp))) _
theorem zdz (C:Str->Addr)(a dx:Addr)(xs:List En):xo C a dx xs=xo C 0 0 xs:=by
 unfold xo mirI stE
 exact up (xj (y1 λo o' l=>by simp) (xj (y1 λo o' l=>by simp) (y1 λo o' l=>by simp))) _
theorem zav (C:Str->Addr)(a dx:Addr)(xs:List En):mirI (C "Late") qC (kI C) a dx xs=xV C xs:=by
 unfold xV mirI stE
 exact up (xj (zfb (zdz C a dx) λo o' l=>by simp) (xj (y1 λo o' l=>by simp) (xj (y1 λo o' l=>by simp) (xj (y1 λo o' l=>by simp) (y1 λo o' l=>by simp))))) _
end My
namespace My
open PySem PySem.Spec L2 L3 L4 L6 Dv
open PyProof.Rows hiding St
def spOut (K:PySem.W.Frag):Sp:=λvs H Q _=>∃(a:Addr) (ns:List Int),vs=[.ref a]/\SqL K H a (ns.map V.int)/\ns.length<=63/\∀H',Q (.bl true) H'
theorem zd2 {P:Program}{w:World}{K:PySem.W.Frag}{mg:Str->Option Value}{base:Heap}{k:Nat}{f:Addr}{fd:FuncData}{ps:List Str}{m:List En->Option En}(h:FnOk P w K mg base CX0 k f fd ps (pSp ⟨K,w⟩ 1 (len? 1 m)))
  (hm:∀ns:List Int,ns.length<=63->m [.val (.scr ns)]=some (.val (.bl true))):FnOk P w K mg base CX0 k f fd ps (spOut K) :=
 h.imp λvs H Q E ⟨a,ns,e,hs,hl,q⟩=>⟨H,[.val (.scr ns)],.val (.bl true),Same.refl _,rfl,by subst e;exact .cons ⟨a,rfl,hs⟩ .nil,hm ns hl,λv F' H' _ r=>by cases r;exact q H'⟩
theorem bd1 {fd:FuncData}{ps:List Str}(h:∀a0,bindArgs fd ⟨[a0],[]⟩=pure (ps.zip [a0])):∀us:List Value,us.length=1->bindArgs fd ⟨us,[]⟩=pure (ps.zip us)
 | [a0],_=>h a0
theorem bd2 {fd:FuncData}{ps:List Str}(h:∀a0 a1,bindArgs fd ⟨[a0,a1],[]⟩=pure (ps.zip [a0,a1])):∀us:List Value,us.length=2->bindArgs fd ⟨us,[]⟩=pure (ps.zip us)
 | [a0,a1],_=>h a0 a1
theorem bd3 {fd:FuncData}{ps:List Str}(h:∀a0 a1 a2,bindArgs fd ⟨[a0,a1,a2],[]⟩=pure (ps.zip [a0,a1,a2])):∀us:List Value,us.length=3->bindArgs fd ⟨us,[]⟩=pure (ps.zip us)
 | [a0,a1,a2],_=>h a0 a1 a2
theorem bd4 {fd:FuncData}{ps:List Str}(h:∀a0 a1 a2 a3,bindArgs fd ⟨[a0,a1,a2,a3],[]⟩=pure (ps.zip [a0,a1,a2,a3])):∀us:List Value,us.length=4->bindArgs fd ⟨us,[]⟩=pure (ps.zip us)
 | [a0,a1,a2,a3],_=>h a0 a1 a2 a3
theorem bd5 {fd:FuncData}{ps:List Str}(h:∀a0 a1 a2 a3 a4,bindArgs fd ⟨[a0,a1,a2,a3,a4],[]⟩=pure (ps.zip [a0,a1,a2,a3,a4])):∀us:List Value,us.length=5->bindArgs fd ⟨us,[]⟩=pure (ps.zip us)
 | [a0,a1,a2,a3,a4],_=>h a0 a1 a2 a3 a4
theorem bd6 {fd:FuncData}{ps:List Str}(h:∀a0 a1 a2 a3 a4 a5,bindArgs fd ⟨[a0,a1,a2,a3,a4,a5],[]⟩=pure (ps.zip [a0,a1,a2,a3,a4,a5])):∀us:List Value,us.length=6->bindArgs fd ⟨us,[]⟩=pure (ps.zip us)
 | [a0,a1,a2,a3,a4,a5],_=>h a0 a1 a2 a3 a4 a5
theorem bd8 {fd:FuncData}{ps:List Str}(h:∀a0 a1 a2 a3 a4 a5 a6 a7,bindArgs fd ⟨[a0,a1,a2,a3,a4,a5,a6,a7],[]⟩=pure (ps.zip [a0,a1,a2,a3,a4,a5,a6,a7])):∀us:List Value,us.length=8->bindArgs fd ⟨us,[]⟩=pure (ps.zip us)
 | [a0,a1,a2,a3,a4,a5,a6,a7],_=>h a0 a1 a2 a3 a4 a5 a6 a7
theorem RN {K:PySem.W.Frag}{a b:Addr}(h:kitOne K (.ref a) (.ref b)=some false):a≠b:=λe=>by subst e;rw[Uh] at h;cases h
set_option maxHeartbeats 0 in
theorem all_mk {l:PySem.W.OpenLaw}{w:World}{K:PySem.W.Frag}{h:Heap}{mg:Str->Option Value}{fa:Addr}(X:K.In h)(G:h.Ns mainGlobals mg)(hfa:mg "law" = some (.ref fa))
  {C_Hours C_Granted C_Late C_Verdict:Addr}
  {f0:Addr} {od0 an0:Option Addr} {sl0:Array (Option Value)} {oc0 kV0 dc0 pm0 cd0 ct0:Value}
  {f1:Addr} {od1 an1:Option Addr} {sl1:Array (Option Value)} {oc1 kV1 dc1 pm1 cd1 ct1:Value}
  {f2:Addr} {od2 an2:Option Addr} {sl2:Array (Option Value)} {oc2 kV2 dc2 pm2 cd2 ct2:Value}
  {f3:Addr} {od3 an3:Option Addr} {sl3:Array (Option Value)} {oc3 kV3 dc3 pm3 cd3 ct3:Value}
  {f4:Addr} {od4 an4:Option Addr} {sl4:Array (Option Value)} {oc4 kV4 dc4 pm4 cd4 ct4:Value}
  {f5:Addr} {od5 an5:Option Addr} {sl5:Array (Option Value)} {oc5 kV5 dc5 pm5 cd5 ct5:Value}
  {f6:Addr} {od6 an6:Option Addr} {sl6:Array (Option Value)} {oc6 kV6 dc6 pm6 cd6 ct6:Value}
  {f7:Addr} {od7 an7:Option Addr} {sl7:Array (Option Value)} {oc7 kV7 dc7 pm7 cd7 ct7:Value}
  {f8:Addr} {od8 an8:Option Addr} {sl8:Array (Option Value)} {oc8 kV8 dc8 pm8 cd8 ct8:Value}
  {f9:Addr} {od9 an9:Option Addr} {sl9:Array (Option Value)} {oc9 kV9 dc9 pm9 cd9 ct9:Value}
  {f10:Addr} {od10 an10:Option Addr} {sl10:Array (Option Value)} {oc10 kV10 dc10 pm10 cd10 ct10:Value}
  {f11:Addr} {od11 an11:Option Addr} {sl11:Array (Option Value)} {oc11 kV11 dc11 pm11 cd11 ct11:Value}
  {f12:Addr} {od12 an12:Option Addr} {sl12:Array (Option Value)} {oc12 kV12 dc12 pm12 cd12 ct12:Value}
  {f13:Addr} {od13 an13:Option Addr} {sl13:Array (Option Value)} {oc13 kV13 dc13 pm13 cd13 ct13:Value}
  {f14:Addr} {od14 an14:Option Addr} {sl14:Array (Option Value)} {oc14 kV14 dc14 pm14 cd14 ct14:Value}
  {td14:Addr} {ot14:Value} {ou14:Option Addr} {ow14:Array (Option Value)} {on14:Nat}
  {f15:Addr} {od15 an15:Option Addr} {sl15:Array (Option Value)} {oc15 kV15 dc15 pm15 cd15 ct15:Value}
  {f16:Addr} {od16 an16:Option Addr} {sl16:Array (Option Value)} {oc16 kV16 dc16 pm16 cd16 ct16:Value}
  {f17:Addr} {od17 an17:Option Addr} {sl17:Array (Option Value)} {oc17 kV17 dc17 pm17 cd17 ct17:Value}
  {f18:Addr} {od18 an18:Option Addr} {sl18:Array (Option Value)} {oc18 kV18 dc18 pm18 cd18 ct18:Value}
  {f19:Addr} {od19 an19:Option Addr} {sl19:Array (Option Value)} {oc19 kV19 dc19 pm19 cd19 ct19:Value}
  {f20:Addr} {od20 an20:Option Addr} {sl20:Array (Option Value)} {oc20 kV20 dc20 pm20 cd20 ct20:Value}
  {f21:Addr} {od21 an21:Option Addr} {sl21:Array (Option Value)} {oc21 kV21 dc21 pm21 cd21 ct21:Value}
  {f22:Addr} {od22 an22:Option Addr} {sl22:Array (Option Value)} {oc22 kV22 dc22 pm22 cd22 ct22:Value}
  {f23:Addr} {od23 an23:Option Addr} {sl23:Array (Option Value)} {oc23 kV23 dc23 pm23 cd23 ct23:Value}
  {f24:Addr} {od24 an24:Option Addr} {sl24:Array (Option Value)} {oc24 kV24 dc24 pm24 cd24 ct24:Value}
  {f25:Addr} {od25 an25:Option Addr} {sl25:Array (Option Value)} {oc25 kV25 dc25 pm25 cd25 ct25:Value}
  {f26:Addr} {od26 an26:Option Addr} {sl26:Array (Option Value)} {oc26 kV26 dc26 pm26 cd26 ct26:Value}
  {f27:Addr} {od27 an27:Option Addr} {sl27:Array (Option Value)} {oc27 kV27 dc27 pm27 cd27 ct27:Value}
  {f28:Addr} {od28 an28:Option Addr} {sl28:Array (Option Value)} {oc28 kV28 dc28 pm28 cd28 ct28:Value}
  {f29:Addr} {od29 an29:Option Addr} {sl29:Array (Option Value)} {oc29 kV29 dc29 pm29 cd29 ct29:Value}
  {f30:Addr} {od30 an30:Option Addr} {sl30:Array (Option Value)} {oc30 kV30 dc30 pm30 cd30 ct30:Value}
  {f31:Addr} {od31 an31:Option Addr} {sl31:Array (Option Value)} {oc31 kV31 dc31 pm31 cd31 ct31:Value}
  {f32:Addr} {od32 an32:Option Addr} {sl32:Array (Option Value)} {oc32 kV32 dc32 pm32 cd32 ct32:Value}
  {f33:Addr} {od33 an33:Option Addr} {sl33:Array (Option Value)} {oc33 kV33 dc33 pm33 cd33 ct33:Value}
  {f34:Addr} {od34 an34:Option Addr} {sl34:Array (Option Value)} {oc34 kV34 dc34 pm34 cd34 ct34:Value}
  {f35:Addr} {od35 an35:Option Addr} {sl35:Array (Option Value)} {oc35 kV35 dc35 pm35 cd35 ct35:Value}
  {f36:Addr} {od36 an36:Option Addr} {sl36:Array (Option Value)} {oc36 kV36 dc36 pm36 cd36 ct36:Value}
  {f37:Addr} {od37 an37:Option Addr} {sl37:Array (Option Value)} {oc37 kV37 dc37 pm37 cd37 ct37:Value}
  {f38:Addr} {od38 an38:Option Addr} {sl38:Array (Option Value)} {oc38 kV38 dc38 pm38 cd38 ct38:Value}
  {f39:Addr} {od39 an39:Option Addr} {sl39:Array (Option Value)} {oc39 kV39 dc39 pm39 cd39 ct39:Value}
  {f40:Addr} {od40 an40:Option Addr} {sl40:Array (Option Value)} {oc40 kV40 dc40 pm40 cd40 ct40:Value}
  {f41:Addr} {od41 an41:Option Addr} {sl41:Array (Option Value)} {oc41 kV41 dc41 pm41 cd41 ct41:Value}
  {f42:Addr} {od42 an42:Option Addr} {sl42:Array (Option Value)} {oc42 kV42 dc42 pm42 cd42 ct42:Value}
  {f43:Addr} {od43 an43:Option Addr} {sl43:Array (Option Value)} {oc43 kV43 dc43 pm43 cd43 ct43:Value}
  {f44:Addr} {od44 an44:Option Addr} {sl44:Array (Option Value)} {oc44 kV44 dc44 pm44 cd44 ct44:Value}
  {f45:Addr} {od45 an45:Option Addr} {sl45:Array (Option Value)} {oc45 kV45 dc45 pm45 cd45 ct45:Value}
  {f46:Addr} {od46 an46:Option Addr} {sl46:Array (Option Value)} {oc46 kV46 dc46 pm46 cd46 ct46:Value}
  {C_NoTicket C_NoNumber C_HallError:Addr}
  {fI_NoTicket:Addr} {odI_NoTicket anI_NoTicket:Option Addr} {slI_NoTicket:Array (Option Value)} {kVI_NoTicket dcI_NoTicket pmI_NoTicket cdI_NoTicket ctI_NoTicket:Value}
  {dd_NoTicket:Option Addr} {cd_NoTicket:ClassData} {k0_NoTicket k1_NoTicket k2_NoTicket k3_NoTicket k5_NoTicket:Option Value} {bm_NoTicket:List Value}
  {dd_NoNumber:Option Addr} {cd_NoNumber:ClassData} {k0_NoNumber k1_NoNumber k2_NoNumber k3_NoNumber k5_NoNumber:Option Value} {bm_NoNumber:List Value}
  {t_FIGURES:Tok}
  {t_LETTERS:Tok}
  {t_MOST_COUNTERS:Tok}
  {t_MOST_ROWS:Tok}
  {t_MOST_SIGNS:Tok}
  {t_MOST_TURNS:Tok}
  (tt_Hours:nsIn K mainGlobals "Hours" = some (some (.ref C_Hours)))
  (tt_Granted:nsIn K mainGlobals "Granted" = some (some (.ref C_Granted)))
  (tt_Late:nsIn K mainGlobals "Late" = some (some (.ref C_Late)))
  (tt_Verdict:nsIn K mainGlobals "Verdict" = some (some (.ref C_Verdict)))
  (a0:nsIn K mainGlobals "is_whole" = some (some (.ref f0)))
  (l0:K.lookup f0=some ⟨oc0,od0,.func (fnOf "is_whole" "is_whole" (zm wO) (zl wO) (zd wO) .none kV0 dc0 pm0 an0 cd0 ct0),sl0⟩)
  (c0:codeIn K cd0 "is_whole" = true)
  (k0:keepIn K (.ref f0)=true)
  (a1:nsIn K mainGlobals "is_number" = some (some (.ref f1)))
  (l1:K.lookup f1=some ⟨oc1,od1,.func (fnOf "is_number" "is_number" (zm wF) (zl wF) (zd wF) .none kV1 dc1 pm1 an1 cd1 ct1),sl1⟩)
  (c1:codeIn K cd1 "is_number" = true)
  (k1:keepIn K (.ref f1)=true)
  (a2:nsIn K mainGlobals "is_name" = some (some (.ref f2)))
  (l2:K.lookup f2=some ⟨oc2,od2,.func (fnOf "is_name" "is_name" (zm xD) (zl xD) (zd xD) .none kV2 dc2 pm2 an2 cd2 ct2),sl2⟩)
  (c2:codeIn K cd2 "is_name" = true)
  (k2:keepIn K (.ref f2)=true)
  (a3:nsIn K mainGlobals "is_row" = some (some (.ref f3)))
  (l3:K.lookup f3=some ⟨oc3,od3,.func (fnOf "is_row" "is_row" (zm vd) (zl vd) (zd vd) .none kV3 dc3 pm3 an3 cd3 ct3),sl3⟩)
  (c3:codeIn K cd3 "is_row" = true)
  (k3:keepIn K (.ref f3)=true)
  (a4:nsIn K mainGlobals "check_hours" = some (some (.ref f4)))
  (l4:K.lookup f4=some ⟨oc4,od4,.func (fnOf "check_hours" "check_hours" (zm xY) (zl xY) (zd xY) .none kV4 dc4 pm4 an4 cd4 ct4),sl4⟩)
  (c4:codeIn K cd4 "check_hours" = true)
  (k4:keepIn K (.ref f4)=true)
  (a5:nsIn K mainGlobals "kept_rows" = some (some (.ref f5)))
  (l5:K.lookup f5=some ⟨oc5,od5,.func (fnOf "kept_rows" "kept_rows" (zm ve) (zl ve) (zd ve) .none kV5 dc5 pm5 an5 cd5 ct5),sl5⟩)
  (c5:codeIn K cd5 "kept_rows" = true)
  (k5:keepIn K (.ref f5)=true)
  (a6:nsIn K mainGlobals "spans_of" = some (some (.ref f6)))
  (l6:K.lookup f6=some ⟨oc6,od6,.func (fnOf "spans_of" "spans_of" (zm wl) (zl wl) (zd wl) .none kV6 dc6 pm6 an6 cd6 ct6),sl6⟩)
  (c6:codeIn K cd6 "spans_of" = true)
  (k6:keepIn K (.ref f6)=true)
  (a7:findIn K (.ref C_Hours) "__init__" = some (some (.ref f7)))
  (i7:PySem.W.isFn K (.ref f7)=true)
  (l7:K.lookup f7=some ⟨oc7,od7,.func (fnOf "__init__" "Hours.__init__" (zm wV) (zl wV) (zd wV) .none kV7 dc7 pm7 an7 cd7 ct7),sl7⟩)
  (c7:codeIn K cd7 "Hours.__init__" = true)
  (k7:keepIn K (.ref f7)=true)
  (a8:findIn K (.ref C_Hours) "at" = some (some (.ref f8)))
  (i8:PySem.W.isFn K (.ref f8)=true)
  (l8:K.lookup f8=some ⟨oc8,od8,.func (fnOf "at" "Hours.at" (zm vf) (zl vf) (zd vf) .none kV8 dc8 pm8 an8 cd8 ct8),sl8⟩)
  (c8:codeIn K cd8 "Hours.at" = true)
  (k8:keepIn K (.ref f8)=true)
  (a9:nsIn K mainGlobals "names_of" = some (some (.ref f9)))
  (l9:K.lookup f9=some ⟨oc9,od9,.func (fnOf "names_of" "names_of" (zm xQ) (zl xQ) (zd xQ) .none kV9 dc9 pm9 an9 cd9 ct9),sl9⟩)
  (c9:codeIn K cd9 "names_of" = true)
  (k9:keepIn K (.ref f9)=true)
  (a10:nsIn K mainGlobals "place_of" = some (some (.ref f10)))
  (l10:K.lookup f10=some ⟨oc10,od10,.func (fnOf "place_of" "place_of" (zm xU) (zl xU) (zd xU) .none kV10 dc10 pm10 an10 cd10 ct10),sl10⟩)
  (c10:codeIn K cd10 "place_of" = true)
  (k10:keepIn K (.ref f10)=true)
  (a11:nsIn K mainGlobals "placed" = some (some (.ref f11)))
  (l11:K.lookup f11=some ⟨oc11,od11,.func (fnOf "placed" "placed" (zm xE) (zl xE) (zd xE) .none kV11 dc11 pm11 an11 cd11 ct11),sl11⟩)
  (c11:codeIn K cd11 "placed" = true)
  (k11:keepIn K (.ref f11)=true)
  (a12:nsIn K mainGlobals "lifted" = some (some (.ref f12)))
  (l12:K.lookup f12=some ⟨oc12,od12,.func (fnOf "lifted" "lifted" (zm x0) (zl x0) (zd x0) .none kV12 dc12 pm12 an12 cd12 ct12),sl12⟩)
  (c12:codeIn K cd12 "lifted" = true)
  (k12:keepIn K (.ref f12)=true)
  (a13:nsIn K mainGlobals "turn_served" = some (some (.ref f13)))
  (l13:K.lookup f13=some ⟨oc13,od13,.func (fnOf "turn_served" "turn_served" (zm x3) (zl x3) (zd x3) .none kV13 dc13 pm13 an13 cd13 ct13),sl13⟩)
  (c13:codeIn K cd13 "turn_served" = true)
  (k13:keepIn K (.ref f13)=true)
  (a14:nsIn K mainGlobals "run_of" = some (some (.ref f14)))
  (l14:K.lookup f14=some ⟨oc14,od14,.func (fnOf "run_of" "run_of" (zm yG) (zl yG) (zd yG) (.ref td14) kV14 dc14 pm14 an14 cd14 ct14),sl14⟩)
  (t14:K.lookup td14=some ⟨ot14,ou14,.seq #[.none] on14,ow14⟩)
  (c14:codeIn K cd14 "run_of" = true)
  (k14:keepIn K (.ref f14)=true)
  (a15:nsIn K mainGlobals "ends_of" = some (some (.ref f15)))
  (l15:K.lookup f15=some ⟨oc15,od15,.func (fnOf "ends_of" "ends_of" (zm w4) (zl w4) (zd w4) .none kV15 dc15 pm15 an15 cd15 ct15),sl15⟩)
  (c15:codeIn K cd15 "ends_of" = true)
  (k15:keepIn K (.ref f15)=true)
  (a16:findIn K (.ref C_Granted) "granted" = some (some (.ref f16)))
  (i16:PySem.W.isFn K (.ref f16)=true)
  (l16:K.lookup f16=some ⟨oc16,od16,.func (fnOf "granted" "Granted.granted" (zm wN) (zl wN) (zd wN) .none kV16 dc16 pm16 an16 cd16 ct16),sl16⟩)
  (c16:codeIn K cd16 "Granted.granted" = true)
  (k16:keepIn K (.ref f16)=true)
  (a17:findIn K (.ref C_Granted) "word" = some (some (.ref f17)))
  (i17:PySem.W.isFn K (.ref f17)=true)
  (l17:K.lookup f17=some ⟨oc17,od17,.func (fnOf "word" "Granted.word" (zm vG) (zl vG) (zd vG) .none kV17 dc17 pm17 an17 cd17 ct17),sl17⟩)
  (c17:codeIn K cd17 "Granted.word" = true)
  (k17:keepIn K (.ref f17)=true)
  (a18:findIn K (.ref C_Granted) "__init__" = some (some (.ref f18)))
  (i18:PySem.W.isFn K (.ref f18)=true)
  (l18:K.lookup f18=some ⟨oc18,od18,.func (fnOf "__init__" "Verdict.__init__" (zm vn) (zl vn) (zd vn) .none kV18 dc18 pm18 an18 cd18 ct18),sl18⟩)
  (c18:codeIn K cd18 "Verdict.__init__" = true)
  (k18:keepIn K (.ref f18)=true)
  (a19:findIn K (.ref C_Granted) "told" = some (some (.ref f19)))
  (i19:PySem.W.isFn K (.ref f19)=true)
  (l19:K.lookup f19=some ⟨oc19,od19,.func (fnOf "told" "Verdict.told" (zm vH) (zl vH) (zd vH) .none kV19 dc19 pm19 an19 cd19 ct19),sl19⟩)
  (c19:codeIn K cd19 "Verdict.told" = true)
  (k19:keepIn K (.ref f19)=true)
  (a20:findIn K (.ref C_Late) "word" = some (some (.ref f20)))
  (i20:PySem.W.isFn K (.ref f20)=true)
  (l20:K.lookup f20=some ⟨oc20,od20,.func (fnOf "word" "Late.word" (zm wC) (zl wC) (zd wC) .none kV20 dc20 pm20 an20 cd20 ct20),sl20⟩)
  (c20:codeIn K cd20 "Late.word" = true)
  (k20:keepIn K (.ref f20)=true)
  (a21:findIn K (.ref C_Late) "granted" = some (some (.ref f21)))
  (i21:PySem.W.isFn K (.ref f21)=true)
  (l21:K.lookup f21=some ⟨oc21,od21,.func (fnOf "granted" "Verdict.granted" (zm vk) (zl vk) (zd vk) .none kV21 dc21 pm21 an21 cd21 ct21),sl21⟩)
  (c21:codeIn K cd21 "Verdict.granted" = true)
  (k21:keepIn K (.ref f21)=true)
  (bs22:PySem.W.specialIn K (.ref C_Verdict) "__getattribute__" = some (some (.builtin "type.__getattribute__")))
  (br22:PySem.W.readsIn K C_Verdict (.type "type")=true)
  (bf22:PySem.W.findCls K (.ref C_Verdict) (.type "type") "__init__" = some (.val (.ref f22)))
  (l22:K.lookup f22=some ⟨oc22,od22,.func (fnOf "__init__" "Verdict.__init__" (zm wp) (zl wp) (zd wp) .none kV22 dc22 pm22 an22 cd22 ct22),sl22⟩)
  (c22:codeIn K cd22 "Verdict.__init__" = true)
  (k22:keepIn K (.ref f22)=true)
  (a23:nsIn K mainGlobals "own_rows" = some (some (.ref f23)))
  (l23:K.lookup f23=some ⟨oc23,od23,.func (fnOf "own_rows" "own_rows" (zm xF) (zl xF) (zd xF) .none kV23 dc23 pm23 an23 cd23 ct23),sl23⟩)
  (c23:codeIn K cd23 "own_rows" = true)
  (k23:keepIn K (.ref f23)=true)
  (a24:findIn K (.ref C_Late) "__init__" = some (some (.ref f24)))
  (i24:PySem.W.isFn K (.ref f24)=true)
  (l24:K.lookup f24=some ⟨oc24,od24,.func (fnOf "__init__" "Late.__init__" (zm vF) (zl vF) (zd vF) .none kV24 dc24 pm24 an24 cd24 ct24),sl24⟩)
  (c24:codeIn K cd24 "Late.__init__" = true)
  (k24:keepIn K (.ref f24)=true)
  (a25:findIn K (.ref C_Late) "told" = some (some (.ref f25)))
  (i25:PySem.W.isFn K (.ref f25)=true)
  (l25:K.lookup f25=some ⟨oc25,od25,.func (fnOf "told" "Late.told" (zm vi) (zl vi) (zd vi) .none kV25 dc25 pm25 an25 cd25 ct25),sl25⟩)
  (c25:codeIn K cd25 "Late.told" = true)
  (k25:keepIn K (.ref f25)=true)
  (a26:nsIn K mainGlobals "first_late" = some (some (.ref f26)))
  (l26:K.lookup f26=some ⟨oc26,od26,.func (fnOf "first_late" "first_late" (zm wa) (zl wa) (zd wa) .none kV26 dc26 pm26 an26 cd26 ct26),sl26⟩)
  (c26:codeIn K cd26 "first_late" = true)
  (k26:keepIn K (.ref f26)=true)
  (a27:nsIn K mainGlobals "settled" = some (some (.ref f27)))
  (l27:K.lookup f27=some ⟨oc27,od27,.func (fnOf "settled" "settled" (zm wu) (zl wu) (zd wu) .none kV27 dc27 pm27 an27 cd27 ct27),sl27⟩)
  (c27:codeIn K cd27 "settled" = true)
  (k27:keepIn K (.ref f27)=true)
  (a28:findIn K (.ref C_Granted) "holds" = some (some (.ref f28)))
  (i28:PySem.W.isFn K (.ref f28)=true)
  (l28:K.lookup f28=some ⟨oc28,od28,.func (fnOf "holds" "Granted.holds" (zm wA) (zl wA) (zd wA) .none kV28 dc28 pm28 an28 cd28 ct28),sl28⟩)
  (c28:codeIn K cd28 "Granted.holds" = true)
  (k28:keepIn K (.ref f28)=true)
  (a29:findIn K (.ref C_Late) "holds" = some (some (.ref f29)))
  (i29:PySem.W.isFn K (.ref f29)=true)
  (l29:K.lookup f29=some ⟨oc29,od29,.func (fnOf "holds" "Late.holds" (zm w6) (zl w6) (zd w6) .none kV29 dc29 pm29 an29 cd29 ct29),sl29⟩)
  (c29:codeIn K cd29 "Late.holds" = true)
  (k29:keepIn K (.ref f29)=true)
  (a30:nsIn K mainGlobals "ask_lift" = some (some (.ref f30)))
  (l30:K.lookup f30=some ⟨oc30,od30,.func (fnOf "ask_lift" "ask_lift" (zm xZ) (zl xZ) (zd xZ) .none kV30 dc30 pm30 an30 cd30 ct30),sl30⟩)
  (c30:codeIn K cd30 "ask_lift" = true)
  (k30:keepIn K (.ref f30)=true)
  (a31:nsIn K mainGlobals "_law_cell" = some (some (.ref f31)))
  (l31:K.lookup f31=some ⟨oc31,od31,.func (fnOf "_law_cell" "_law_cell" (zm wK) (zl wK) (zd wK) .none kV31 dc31 pm31 an31 cd31 ct31),sl31⟩)
  (c31:codeIn K cd31 "_law_cell" = true)
  (k31:keepIn K (.ref f31)=true)
  (a32:nsIn K mainGlobals "_law_stir" = some (some (.ref f32)))
  (l32:K.lookup f32=some ⟨oc32,od32,.func (fnOf "_law_stir" "_law_stir" (zm wD) (zl wD) (zd wD) .none kV32 dc32 pm32 an32 cd32 ct32),sl32⟩)
  (c32:codeIn K cd32 "_law_stir" = true)
  (k32:keepIn K (.ref f32)=true)
  (a33:nsIn K mainGlobals "_law_draw" = some (some (.ref f33)))
  (l33:K.lookup f33=some ⟨oc33,od33,.func (fnOf "_law_draw" "_law_draw" (zm vt) (zl vt) (zd vt) .none kV33 dc33 pm33 an33 cd33 ct33),sl33⟩)
  (c33:codeIn K cd33 "_law_draw" = true)
  (k33:keepIn K (.ref f33)=true)
  (a34:nsIn K mainGlobals "_law_name" = some (some (.ref f34)))
  (l34:K.lookup f34=some ⟨oc34,od34,.func (fnOf "_law_name" "_law_name" (zm wL) (zl wL) (zd wL) .none kV34 dc34 pm34 an34 cd34 ct34),sl34⟩)
  (c34:codeIn K cd34 "_law_name" = true)
  (k34:keepIn K (.ref f34)=true)
  (a35:nsIn K mainGlobals "_law_world" = some (some (.ref f35)))
  (l35:K.lookup f35=some ⟨oc35,od35,.func (fnOf "_law_world" "_law_world" (zm wR) (zl wR) (zd wR) .none kV35 dc35 pm35 an35 cd35 ct35),sl35⟩)
  (c35:codeIn K cd35 "_law_world" = true)
  (k35:keepIn K (.ref f35)=true)
  (a36:nsIn K mainGlobals "_law_at" = some (some (.ref f36)))
  (l36:K.lookup f36=some ⟨oc36,od36,.func (fnOf "_law_at" "_law_at" (zm vj) (zl vj) (zd vj) .none kV36 dc36 pm36 an36 cd36 ct36),sl36⟩)
  (c36:codeIn K cd36 "_law_at" = true)
  (k36:keepIn K (.ref f36)=true)
  (a37:nsIn K mainGlobals "_law_run" = some (some (.ref f37)))
  (l37:K.lookup f37=some ⟨oc37,od37,.func (fnOf "_law_run" "_law_run" (zm yR) (zl yR) (zd yR) .none kV37 dc37 pm37 an37 cd37 ct37),sl37⟩)
  (c37:codeIn K cd37 "_law_run" = true)
  (k37:keepIn K (.ref f37)=true)
  (a38:nsIn K mainGlobals "_law_ends" = some (some (.ref f38)))
  (l38:K.lookup f38=some ⟨oc38,od38,.func (fnOf "_law_ends" "_law_ends" (zm wb) (zl wb) (zd wb) .none kV38 dc38 pm38 an38 cd38 ct38),sl38⟩)
  (c38:codeIn K cd38 "_law_ends" = true)
  (k38:keepIn K (.ref f38)=true)
  (a39:nsIn K mainGlobals "_law_verdict" = some (some (.ref f39)))
  (l39:K.lookup f39=some ⟨oc39,od39,.func (fnOf "_law_verdict" "_law_verdict" (zm v9) (zl v9) (zd v9) .none kV39 dc39 pm39 an39 cd39 ct39),sl39⟩)
  (c39:codeIn K cd39 "_law_verdict" = true)
  (k39:keepIn K (.ref f39)=true)
  (a40:nsIn K mainGlobals "_law_promises" = some (some (.ref f40)))
  (l40:K.lookup f40=some ⟨oc40,od40,.func (fnOf "_law_promises" "_law_promises" (zm wS) (zl wS) (zd wS) .none kV40 dc40 pm40 an40 cd40 ct40),sl40⟩)
  (c40:codeIn K cd40 "_law_promises" = true)
  (k40:keepIn K (.ref f40)=true)
  (a41:nsIn K mainGlobals "_law_is" = some (some (.ref f41)))
  (l41:K.lookup f41=some ⟨oc41,od41,.func (fnOf "_law_is" "_law_is" (zm wx) (zl wx) (zd wx) .none kV41 dc41 pm41 an41 cd41 ct41),sl41⟩)
  (c41:codeIn K cd41 "_law_is" = true)
  (k41:keepIn K (.ref f41)=true)
  (a42:nsIn K mainGlobals "_law_told" = some (some (.ref f42)))
  (l42:K.lookup f42=some ⟨oc42,od42,.func (fnOf "_law_told" "_law_told" (zm wm) (zl wm) (zd wm) .none kV42 dc42 pm42 an42 cd42 ct42),sl42⟩)
  (c42:codeIn K cd42 "_law_told" = true)
  (k42:keepIn K (.ref f42)=true)
  (a43:nsIn K mainGlobals "_law_lifted" = some (some (.ref f43)))
  (l43:K.lookup f43=some ⟨oc43,od43,.func (fnOf "_law_lifted" "_law_lifted" (zm xN) (zl xN) (zd xN) .none kV43 dc43 pm43 an43 cd43 ct43),sl43⟩)
  (c43:codeIn K cd43 "_law_lifted" = true)
  (k43:keepIn K (.ref f43)=true)
  (a44:nsIn K mainGlobals "_law_asked" = some (some (.ref f44)))
  (l44:K.lookup f44=some ⟨oc44,od44,.func (fnOf "_law_asked" "_law_asked" (zm xR) (zl xR) (zd xR) .none kV44 dc44 pm44 an44 cd44 ct44),sl44⟩)
  (c44:codeIn K cd44 "_law_asked" = true)
  (k44:keepIn K (.ref f44)=true)
  (a45:nsIn K mainGlobals "_law_named" = some (some (.ref f45)))
  (l45:K.lookup f45=some ⟨oc45,od45,.func (fnOf "_law_named" "_law_named" (zm wM) (zl wM) (zd wM) .none kV45 dc45 pm45 an45 cd45 ct45),sl45⟩)
  (c45:codeIn K cd45 "_law_named" = true)
  (k45:keepIn K (.ref f45)=true)
  (a46:nsIn K mainGlobals "law" = some (some (.ref f46)))
  (l46:K.lookup f46=some ⟨oc46,od46,.func (fnOf "law" "law" (zm yO) (zl yO) (zd yO) .none kV46 dc46 pm46 an46 cd46 ct46),sl46⟩)
  (c46:codeIn K cd46 "law" = true)
  (k46:keepIn K (.ref f46)=true)
  (pg_Hours:plainGet K C_Hours Str.empty=true)
  (hd_Hours:hasDictIn K C_Hours=true)
  (po_Hours:PySem.W.plainOver K C_Hours=true)
  (sa_Hours:findIn K (.ref C_Hours) "__setattr__" = some (some (.builtin "object.__setattr__")))
  (mk_Hours:PySem.W.makesIn K C_Hours=true)
  (kc_Hours:keepIn K (.ref C_Hours)=true)
  (pg_Granted:plainGet K C_Granted Str.empty=true)
  (hd_Granted:hasDictIn K C_Granted=true)
  (po_Granted:PySem.W.plainOver K C_Granted=true)
  (sa_Granted:findIn K (.ref C_Granted) "__setattr__" = some (some (.builtin "object.__setattr__")))
  (mk_Granted:PySem.W.makesIn K C_Granted=true)
  (kc_Granted:keepIn K (.ref C_Granted)=true)
  (pg_Late:plainGet K C_Late Str.empty=true)
  (hd_Late:hasDictIn K C_Late=true)
  (po_Late:PySem.W.plainOver K C_Late=true)
  (sa_Late:findIn K (.ref C_Late) "__setattr__" = some (some (.builtin "object.__setattr__")))
  (mk_Late:PySem.W.makesIn K C_Late=true)
  (kc_Late:keepIn K (.ref C_Late)=true)
  (tt_NoTicket:nsIn K mainGlobals "NoTicket" = some (some (.ref C_NoTicket)))
  (tt_NoNumber:nsIn K mainGlobals "NoNumber" = some (some (.ref C_NoNumber)))
  (tt_HallError:nsIn K mainGlobals "HallError" = some (some (.ref C_HallError)))
  (xl_NoTicket:K.lookup C_NoTicket=some ⟨.type "type",dd_NoTicket,.cls cd_NoTicket,#[k0_NoTicket,k1_NoTicket,k2_NoTicket,k3_NoTicket,some (.builtin "ValueError.__new__"),k5_NoTicket]⟩)
  (xmr_NoTicket:cd_NoTicket.mro=.ref C_NoTicket::bm_NoTicket)
  (xdl_NoTicket:cd_NoTicket.hasDel=false)
  (xtl_NoTicket:PySem.W.tailIn K vB bm_NoTicket=true)
  (xok_NoTicket:PySem.W.nsOkIn K cd_NoTicket.ns=true)
  (xin_NoTicket:nsIn K cd_NoTicket.ns "__init__" = some (some (.ref fI_NoTicket)))
  (xkp_NoTicket:keepIn K (.ref C_NoTicket)=true)
  (xli_NoTicket:K.lookup fI_NoTicket=some ⟨.type "function",odI_NoTicket,.func (fnOf "__init__" "NoTicket.__init__" (zm wZ) (zl wZ) (zd wZ) .none kVI_NoTicket dcI_NoTicket pmI_NoTicket anI_NoTicket cdI_NoTicket ctI_NoTicket),slI_NoTicket⟩)
  (xci_NoTicket:codeIn K cdI_NoTicket "NoTicket.__init__" = true)
  (xki_NoTicket:keepIn K (.ref fI_NoTicket)=true)
  (sa_NoTicket:findIn K (.ref C_NoTicket) "__setattr__" = some (some (.builtin "object.__setattr__")))
  (xtk_NoTicket:takerIn K C_NoTicket "name" = some none)
  (xhd_NoTicket:hasDictIn K C_NoTicket=true)
  (be_NoTicket:subIn K (.ref C_NoTicket) (.type "BaseException")=some true)
  (sb_NoTicket_HallError:subIn K (.ref C_NoTicket) (.ref C_HallError)=some true)
  (ga_NoTicket:findIn K (.ref C_NoTicket) "__getattribute__" = some (some (.builtin "BaseException.__getattribute__")))
  (gt_NoTicket:findIn K (.ref C_NoTicket) "__getattr__" = some none)
  (na_NoTicket:findIn K (.ref C_NoTicket) "name" = some none)
  (xrd:PySem.W.readsIn K C_HallError (.type "type")=true)
  (xfc:PySem.W.findCls K (.ref C_HallError) (.type "type") "__init__" = some (.val (.builtin "ValueError.__init__")))
  (xsp:PySem.W.specialIn K (.ref C_HallError) "__getattribute__" = some (some (.builtin "type.__getattribute__")))
  (sb_NoNumber_NoTicket:subIn K (.ref C_NoNumber) (.ref C_NoTicket)=some false)
  (nt_NoTicket:PySem.W.instIn K (.ref C_NoTicket) (.type "tuple")=some false)
  (cl_NoTicket:PySem.W.isClsIn K C_NoTicket=true)
  (xl_NoNumber:K.lookup C_NoNumber=some ⟨.type "type",dd_NoNumber,.cls cd_NoNumber,#[k0_NoNumber,k1_NoNumber,k2_NoNumber,k3_NoNumber,some (.builtin "ValueError.__new__"),k5_NoNumber]⟩)
  (xmr_NoNumber:cd_NoNumber.mro=.ref C_NoNumber::bm_NoNumber)
  (xdl_NoNumber:cd_NoNumber.hasDel=false)
  (xtl_NoNumber:PySem.W.tailIn K vB bm_NoNumber=true)
  (xok_NoNumber:PySem.W.nsOkIn K cd_NoNumber.ns=true)
  (xin_NoNumber:nsIn K cd_NoNumber.ns "__init__" = some none)
  (xkp_NoNumber:keepIn K (.ref C_NoNumber)=true)
  (sb_NoNumber_HallError:subIn K (.ref C_NoNumber) (.ref C_HallError)=some true)
  (nt_HallError:PySem.W.instIn K (.ref C_HallError) (.type "tuple")=some false)
  (cl_HallError:PySem.W.isClsIn K C_HallError=true)
  (be_HallError:subIn K (.ref C_HallError) (.type "BaseException")=some true)
  (sb_NoTicket_NoTicket:subIn K (.ref C_NoTicket) (.ref C_NoTicket)=some true)
  (sb_Granted_Granted:subIn K (.ref C_Granted) (.ref C_Granted)=some true)
  (cl_Late:PySem.W.isClsIn K C_Late=true)
  (ty_Late:PySem.W.typeIn K (.ref C_Late)=some (.type "type"))
  (sb_Granted_Late:subIn K (.ref C_Granted) (.ref C_Late)=some false)
  (n_Granted_begin:findIn K (.ref C_Granted) "begin" = some none)
  (n_Granted_hours:findIn K (.ref C_Granted) "hours" = some none)
  (n_Granted_queue:findIn K (.ref C_Granted) "queue" = some none)
  (n_Hours_kept_rest:findIn K (.ref C_Hours) "kept_rest" = some none)
  (n_Hours_spans:findIn K (.ref C_Hours) "spans" = some none)
  (n_Late_begin:findIn K (.ref C_Late) "begin" = some none)
  (n_Late_hours:findIn K (.ref C_Late) "hours" = some none)
  (n_Late_name:findIn K (.ref C_Late) "name" = some none)
  (n_Late_promised:findIn K (.ref C_Late) "promised" = some none)
  (n_Late_queue:findIn K (.ref C_Late) "queue" = some none)
  (n_Late_run:findIn K (.ref C_Late) "run" = some none)
  (n_Late_turn:findIn K (.ref C_Late) "turn" = some none)
  (b_all:nsIn K mainGlobals "all" = some none)
  (b_bool:nsIn K mainGlobals "bool" = some none)
  (b_dict:nsIn K mainGlobals "dict" = some none)
  (b_enumerate:nsIn K mainGlobals "enumerate" = some none)
  (b_int:nsIn K mainGlobals "int" = some none)
  (b_isinstance:nsIn K mainGlobals "isinstance" = some none)
  (b_len:nsIn K mainGlobals "len" = some none)
  (b_list:nsIn K mainGlobals "list" = some none)
  (b_max:nsIn K mainGlobals "max" = some none)
  (b_min:nsIn K mainGlobals "min" = some none)
  (b_range:nsIn K mainGlobals "range" = some none)
  (b_str:nsIn K mainGlobals "str" = some none)
  (b_tuple:nsIn K mainGlobals "tuple" = some none)
  (c_FIGURES:nsIn K mainGlobals "FIGURES" = some (some (.str "0123456789" t_FIGURES)))
  (c_LETTERS:nsIn K mainGlobals "LETTERS" = some (some (.str "abcdefghijklmnopqrstuvwxyz" t_LETTERS)))
  (c_MOST_COUNTERS:nsIn K mainGlobals "MOST_COUNTERS" = some (some (.int 8 t_MOST_COUNTERS)))
  (c_MOST_ROWS:nsIn K mainGlobals "MOST_ROWS" = some (some (.int 16 t_MOST_ROWS)))
  (c_MOST_SIGNS:nsIn K mainGlobals "MOST_SIGNS" = some (some (.int 8 t_MOST_SIGNS)))
  (c_MOST_TURNS:nsIn K mainGlobals "MOST_TURNS" = some (some (.int 100 t_MOST_TURNS)))
  : ∃fd:FuncData,(∀(s:Shared) (v:Value),BindsTo s fd ⟨[v],[]⟩ [("_law_script",v)])/\∀base:Heap,K.In base->base.Ns mainGlobals mg->FnOk l.prog w K mg base CX0 9 fa fd ["_law_script"] (spOut K):=by
 have e:=hfa.symm.trans (mg_of X G a46)
 cases e
 obtain⟨C,eC_Hours,eC_Granted,eC_Late,eC_Verdict⟩:∃C:Str->Addr,C "Hours" = C_Hours/\C "Granted" = C_Granted/\C "Late" = C_Late/\C "Verdict" = C_Verdict:=⟨λs=>if s = "Hours" then C_Hours else if s = "Granted" then C_Granted else if s = "Late" then C_Late else if s = "Verdict" then C_Verdict else 0,if_pos rfl,(if_neg #[6]).trans <| if_pos rfl,(if_neg #[6]).trans <| (if_neg #[6]).trans <| if_pos rfl,(if_neg #[6]).trans <| (if_neg #[6]).trans <| (if_neg #[6]).trans <| if_pos rfl⟩
 subst eC_Hours
 subst eC_Granted
 subst eC_Late
 subst eC_Verdict
 have T:Txt K mg C:=⟨⟨pg_Granted,hd_Granted,po_Granted,sa_Granted⟩,⟨pg_Hours,hd_Hours,po_Hours,sa_Hours⟩,⟨pg_Late,hd_Late,po_Late,sa_Late⟩,GP sb_Granted_Granted cl_Late ty_Late sb_Granted_Late,mg_of X G tt_Verdict,n_Granted_begin,n_Granted_hours,n_Granted_queue,n_Hours_kept_rest,n_Hours_spans,n_Late_begin,n_Late_hours,n_Late_name,n_Late_promised,n_Late_queue,n_Late_run,n_Late_turn,PySem.W.mg_none_of X G b_all,PySem.W.mg_none_of X G b_bool,PySem.W.mg_none_of X G b_dict,PySem.W.mg_none_of X G b_enumerate,PySem.W.mg_none_of X G b_int,PySem.W.mg_none_of X G b_isinstance,PySem.W.mg_none_of X G b_len,PySem.W.mg_none_of X G b_list,PySem.W.mg_none_of X G b_max,PySem.W.mg_none_of X G b_min,PySem.W.mg_none_of X G b_range,PySem.W.mg_none_of X G b_str,PySem.W.mg_none_of X G b_tuple,⟨_,mg_of X G c_FIGURES⟩,⟨_,mg_of X G c_LETTERS⟩,⟨_,mg_of X G c_MOST_COUNTERS⟩,⟨_,mg_of X G c_MOST_ROWS⟩,⟨_,mg_of X G c_MOST_SIGNS⟩,⟨_,mg_of X G c_MOST_TURNS⟩⟩
 have F0:=zt (st:=wO) l0 c0 k0
 have bb0:=F0.binds (ps:=["thing"]) λ_ _ _ _ _ _=>bd1 λ_=>rfl
 have F1:=zt (st:=wF) l1 c1 k1
 have bb1:=F1.binds (ps:=["thing","low","high"]) λ_ _ _ _ _ _=>bd3 λ_ _ _=>rfl
 have F2:=zt (st:=xD) l2 c2 k2
 have bb2:=F2.binds (ps:=["thing"]) λ_ _ _ _ _ _=>bd1 λ_=>rfl
 have F3:=zt (st:=vd) l3 c3 k3
 have bb3:=F3.binds (ps:=["thing"]) λ_ _ _ _ _ _=>bd1 λ_=>rfl
 have F4:=zt (st:=xY) l4 c4 k4
 have bb4:=F4.binds (ps:=["rows","rest"]) λ_ _ _ _ _ _=>bd2 λ_ _=>rfl
 have F5:=zt (st:=ve) l5 c5 k5
 have bb5:=F5.binds (ps:=["rows","rest"]) λ_ _ _ _ _ _=>bd2 λ_ _=>rfl
 have F6:=zt (st:=wl) l6 c6 k6
 have bb6:=F6.binds (ps:=["rows"]) λ_ _ _ _ _ _=>bd1 λ_=>rfl
 have F7:=zt (st:=wV) l7 c7 k7
 have bb7:=F7.binds (ps:=["self","rows","rest"]) λ_ _ _ _ _ _=>bd3 λ_ _ _=>rfl
 have F8:=zt (st:=vf) l8 c8 k8
 have bb8:=F8.binds (ps:=["self","turn"]) λ_ _ _ _ _ _=>bd2 λ_ _=>rfl
 have F9:=zt (st:=xQ) l9 c9 k9
 have bb9:=F9.binds (ps:=["queue"]) λ_ _ _ _ _ _=>bd1 λ_=>rfl
 have F10:=zt (st:=xU) l10 c10 k10
 have bb10:=F10.binds (ps:=["queue","name"]) λ_ _ _ _ _ _=>bd2 λ_ _=>rfl
 have F11:=zt (st:=xE) l11 c11 k11
 have bb11:=F11.binds (ps:=["queue","name","place"]) λ_ _ _ _ _ _=>bd3 λ_ _ _=>rfl
 have F12:=zt (st:=x0) l12 c12 k12
 have bb12:=F12.binds (ps:=["queue","name","ahead"]) λ_ _ _ _ _ _=>bd3 λ_ _ _=>rfl
 have F13:=zt (st:=x3) l13 c13 k13
 have bb13:=F13.binds (ps:=["queue","many"]) λ_ _ _ _ _ _=>bd2 λ_ _=>rfl
 have F14:=zb9 (st:=yG) l14 c14 k14
 have bb14:Binds K (fnOf "run_of" "run_of" (zm yG) (zl yG) (zd yG) (.ref td14) kV14 dc14 pm14 an14 cd14 ct14) ["queue","hours","begin","real"] [.none]:=λs us hK hl=>have hl':us.length=3:=(by simpa using hl);match us,hl' with | [_,_,_],_=>BindsTo.of_defaults rfl (hK _ _ t14) rfl rfl rfl
 have F15:=zt (st:=w4) l15 c15 k15
 have bb15:=F15.binds (ps:=["rows"]) λ_ _ _ _ _ _=>bd1 λ_=>rfl
 have F16:=zt (st:=wN) l16 c16 k16
 have bb16:=F16.binds (ps:=["self"]) λ_ _ _ _ _ _=>bd1 λ_=>rfl
 have F17:=zt (st:=vG) l17 c17 k17
 have bb17:=F17.binds (ps:=["self"]) λ_ _ _ _ _ _=>bd1 λ_=>rfl
 have F18:=zt (st:=vn) l18 c18 k18
 have bb18:=F18.binds (ps:=["self","queue","hours","begin"]) λ_ _ _ _ _ _=>bd4 λ_ _ _ _=>rfl
 have F19:=zt (st:=vH) l19 c19 k19
 have bb19:=F19.binds (ps:=["self"]) λ_ _ _ _ _ _=>bd1 λ_=>rfl
 have F20:=zt (st:=wC) l20 c20 k20
 have bb20:=F20.binds (ps:=["self"]) λ_ _ _ _ _ _=>bd1 λ_=>rfl
 have F21:=zt (st:=vk) l21 c21 k21
 have bb21:=F21.binds (ps:=["self"]) λ_ _ _ _ _ _=>bd1 λ_=>rfl
 have F22:=zt (st:=wp) l22 c22 k22
 have bb22:=F22.binds (ps:=["self","queue","hours","begin"]) λ_ _ _ _ _ _=>bd4 λ_ _ _ _=>rfl
 have F23:=zt (st:=xF) l23 c23 k23
 have bb23:=F23.binds (ps:=["rows"]) λ_ _ _ _ _ _=>bd1 λ_=>rfl
 have F24:=zt (st:=vF) l24 c24 k24
 have bb24:=F24.binds (ps:=["self","queue","hours","begin","name","promised","turn","run"]) λ_ _ _ _ _ _=>bd8 λ_ _ _ _ _ _ _ _=>rfl
 have F25:=zt (st:=vi) l25 c25 k25
 have bb25:=F25.binds (ps:=["self"]) λ_ _ _ _ _ _=>bd1 λ_=>rfl
 have F26:=zt (st:=wa) l26 c26 k26
 have bb26:=F26.binds (ps:=["queue","ends","promises"]) λ_ _ _ _ _ _=>bd3 λ_ _ _=>rfl
 have F27:=zt (st:=wu) l27 c27 k27
 have bb27:=F27.binds (ps:=["queue","hours","begin","promises"]) λ_ _ _ _ _ _=>bd4 λ_ _ _ _=>rfl
 have F28:=zt (st:=wA) l28 c28 k28
 have bb28:=F28.binds (ps:=["self","promises"]) λ_ _ _ _ _ _=>bd2 λ_ _=>rfl
 have F29:=zt (st:=w6) l29 c29 k29
 have bb29:=F29.binds (ps:=["self","promises"]) λ_ _ _ _ _ _=>bd2 λ_ _=>rfl
 have F30:=zt (st:=xZ) l30 c30 k30
 have bb30:=F30.binds (ps:=["queue","hours","begin","promises","name","ahead"]) λ_ _ _ _ _ _=>bd6 λ_ _ _ _ _ _=>rfl
 have F31:=zt (st:=wK) l31 c31 k31
 have bb31:=F31.binds (ps:=["_law_script","_law_k"]) λ_ _ _ _ _ _=>bd2 λ_ _=>rfl
 have F32:=zt (st:=wD) l32 c32 k32
 have bb32:=F32.binds (ps:=["_law_cell_here","_law_k"]) λ_ _ _ _ _ _=>bd2 λ_ _=>rfl
 have F33:=zt (st:=vt) l33 c33 k33
 have bb33:=F33.binds (ps:=["_law_script","_law_at_here","_law_bases"]) λ_ _ _ _ _ _=>bd3 λ_ _ _=>rfl
 have F34:=zt (st:=wL) l34 c34 k34
 have bb34:=F34.binds (ps:=["_law_cell_here","_law_k"]) λ_ _ _ _ _ _=>bd2 λ_ _=>rfl
 have F35:=zt (st:=wR) l35 c35 k35
 have bb35:=F35.binds (ps:=["_law_script"]) λ_ _ _ _ _ _=>bd1 λ_=>rfl
 have F36:=zt (st:=vj) l36 c36 k36
 have bb36:=F36.binds (ps:=["_law_side","_law_turn"]) λ_ _ _ _ _ _=>bd2 λ_ _=>rfl
 have F37:=zt (st:=yR) l37 c37 k37
 have bb37:=F37.binds (ps:=["_law_queue","_law_side","_law_begin"]) λ_ _ _ _ _ _=>bd3 λ_ _ _=>rfl
 have F38:=zt (st:=wb) l38 c38 k38
 have bb38:=F38.binds (ps:=["_law_run_here"]) λ_ _ _ _ _ _=>bd1 λ_=>rfl
 have F39:=zt (st:=v9) l39 c39 k39
 have bb39:=F39.binds (ps:=["_law_queue","_law_side","_law_begin","_law_promises_here"]) λ_ _ _ _ _ _=>bd4 λ_ _ _ _=>rfl
 have F40:=zt (st:=wS) l40 c40 k40
 have bb40:=F40.binds (ps:=["_law_script","_law_at_here","_law_queue","_law_side","_law_begin"]) λ_ _ _ _ _ _=>bd5 λ_ _ _ _ _=>rfl
 have F41:=zt (st:=wx) l41 c41 k41
 have bb41:=F41.binds (ps:=["_law_found","_law_due"]) λ_ _ _ _ _ _=>bd2 λ_ _=>rfl
 have F42:=zt (st:=wm) l42 c42 k42
 have bb42:=F42.binds (ps:=["_law_queue","_law_hours","_law_begin","_law_promises_here","_law_name_here","_law_ahead"]) λ_ _ _ _ _ _=>bd6 λ_ _ _ _ _ _=>rfl
 have F43:=zt (st:=xN) l43 c43 k43
 have bb43:=F43.binds (ps:=["_law_queue","_law_name_here","_law_ahead"]) λ_ _ _ _ _ _=>bd3 λ_ _ _=>rfl
 have F44:=zt (st:=xR) l44 c44 k44
 have bb44:=F44.binds (ps:=["_law_queue","_law_side","_law_begin","_law_promises_here","_law_name_here","_law_ahead"]) λ_ _ _ _ _ _=>bd6 λ_ _ _ _ _ _=>rfl
 have F45:=zt (st:=wM) l45 c45 k45
 have bb45:=F45.binds (ps:=["_law_queue","_law_which","_law_odd"]) λ_ _ _ _ _ _=>bd3 λ_ _ _=>rfl
 have F46:=zt (st:=yO) l46 c46 k46
 obtain⟨ca,e_NoTicket,e_NoNumber,e_HallError⟩:∃ca:Str->Addr,ca "NoTicket" = C_NoTicket/\ca "NoNumber" = C_NoNumber/\ca "HallError" = C_HallError:=⟨λs=>if s = "NoTicket" then C_NoTicket else if s = "NoNumber" then C_NoNumber else if s = "HallError" then C_HallError else 0,if_pos rfl,(if_neg #[6]).trans <| if_pos rfl,(if_neg #[6]).trans <| (if_neg #[6]).trans <| if_pos rfl⟩
 subst e_NoTicket
 subst e_NoNumber
 subst e_HallError
 have FI_NoTicket:=zt (st:=wZ) xli_NoTicket xci_NoTicket xki_NoTicket
 have bbI_NoTicket:=FI_NoTicket.binds (ps:=["self","name"]) λ_ _ _ _ _ _=>bd2 λ_ _=>rfl
 have xc_NoTicket:XC K (ca "NoTicket") (ca "HallError") fI_NoTicket "name" := ⟨⟨dd_NoTicket,cd_NoTicket,k0_NoTicket,k1_NoTicket,k2_NoTicket,k3_NoTicket,k5_NoTicket,bm_NoTicket,xl_NoTicket,xmr_NoTicket,xdl_NoTicket,xtl_NoTicket,xok_NoTicket,xin_NoTicket⟩,⟨_,xli_NoTicket,rfl⟩,xkp_NoTicket,sa_NoTicket,xtk_NoTicket,xhd_NoTicket,be_NoTicket,sb_NoTicket_HallError,ga_NoTicket,gt_NoTicket,na_NoTicket,xrd,xfc,xsp⟩
 refine⟨fnOf "law" "law" (zm yO) (zl yO) (zd yO) .none kV46 dc46 pm46 an46 cd46 ct46,λs v=>.of_eq rfl,λbase _ _=>?_⟩
 have U:Exs l.prog w K mg base ca:=⟨⟨fI_NoTicket,xc_NoTicket,_,_,Kb (P:=l.prog) (w:=w) (base:=base) FI_NoTicket xc_NoTicket (mg_of X G tt_HallError),bbI_NoTicket⟩,mg_of X G tt_HallError,mg_of X G tt_NoNumber,mg_of X G tt_NoTicket,⟨sb_NoNumber_NoTicket,nt_NoTicket,cl_NoTicket,be_NoTicket⟩,⟨⟨dd_NoNumber,cd_NoNumber,k0_NoNumber,k1_NoNumber,k2_NoNumber,k3_NoNumber,k5_NoNumber,bm_NoNumber,xl_NoNumber,xmr_NoNumber,xdl_NoNumber,xtl_NoNumber,xok_NoNumber,xin_NoNumber⟩,xkp_NoNumber⟩,⟨sb_NoNumber_HallError,nt_HallError,cl_HallError,be_HallError⟩,⟨sb_NoTicket_NoTicket,nt_NoTicket,cl_NoTicket,be_NoTicket⟩⟩
 have Hat:Fx l.prog w K mg base "is_whole" 1 1 jk:=⟨f0,_,_,Rt (P:=l.prog) (w:=w) (base:=base) T F0,mg_of X G a0,k0,bb0⟩
 have Har:Fx l.prog w K mg base "is_number" 2 3 yk:=⟨f1,_,_,zab (P:=l.prog) (w:=w) (base:=base) T F1 Hat,mg_of X G a1,k1,bb1⟩
 have Haq:Fx l.prog w K mg base "is_name" 1 1 yo:=⟨f2,_,_,Gg (P:=l.prog) (w:=w) (base:=base) T F2,mg_of X G a2,k2,bb2⟩
 have Has:Fx l.prog w K mg base "is_row" 3 1 jn:=⟨f3,_,_,U8 (P:=l.prog) (w:=w) (base:=base) T F3 Har,mg_of X G a3,k3,bb3⟩
 have Han:Fx l.prog w K mg base "check_hours" 4 2 jz:=⟨f4,_,_,U0 (P:=l.prog) (w:=w) (base:=base) T F4 Har Has,mg_of X G a4,k4,bb4⟩
 have Hau:Fx l.prog w K mg base "kept_rows" 1 2 jb:=⟨f5,_,_,UH (P:=l.prog) (w:=w) (base:=base) T F5,mg_of X G a5,k5,bb5⟩
 have Hbh:Fx l.prog w K mg base "spans_of" 1 1 j7:=⟨f6,_,_,za7 (P:=l.prog) (w:=w) (base:=base) T F6,mg_of X G a6,k6,bb6⟩
 have Haf:Kx l.prog w K mg base (C "Hours") "Hours" 5 2 (wH C):=⟨f7,_,_,_,zbi (P:=l.prog) (w:=w) (base:=base) T F7 Hbh Hau Han,⟨mk_Hours,a7,i7,kc_Hours⟩,mg_of X G tt_Hours,bb7,λa dx xs=>zaf C a dx xs⟩
 have Hag:Mx l.prog w K mg base (C "Hours") "at" 1 2 (j0 C):=⟨f8,_,_,RX (P:=l.prog) (w:=w) (base:=base) T F8,⟨a8,i8,k8⟩,bb8⟩
 have Hbb:Fx l.prog w K mg base "names_of" 1 1 jp:=⟨f9,_,_,zcq (P:=l.prog) (w:=w) (base:=base) T F9,mg_of X G a9,k9,bb9⟩
 have Hbl:Ry l.prog w K mg base ca "name" "place_of" 3 2 yt:=⟨f10,_,_,zef (P:=l.prog) (w:=w) (base:=base) T F10 U Haq,mg_of X G a10,k10,bb10⟩
 have Hbd:Fx l.prog w K mg base "place_of" 2 2 zQ:=⟨f10,_,_,zeu (P:=l.prog) (w:=w) (base:=base) T F10 Haq,mg_of X G a10,k10,bb10⟩
 have Hbm:Ry l.prog w K mg base ca "name" "placed" 4 3 ZW:=⟨f11,_,_,zce (P:=l.prog) (w:=w) (base:=base) T F11 U Har Hbd Hbl,mg_of X G a11,k11,bb11⟩
 have Hbe:Fx l.prog w K mg base "placed" 3 3 vE:=⟨f11,_,_,zea (P:=l.prog) (w:=w) (base:=base) T F11 Har Hbd,mg_of X G a11,k11,bb11⟩
 have Hbk:Ry l.prog w K mg base ca "name" "lifted" 5 3 yS:=⟨f12,_,_,zbc (P:=l.prog) (w:=w) (base:=base) T F12 U Hbe Hbd Hbl Hbm,mg_of X G a12,k12,bb12⟩
 have Hba:Fx l.prog w K mg base "lifted" 4 3 yu:=⟨f12,_,_,UV (P:=l.prog) (w:=w) (base:=base) T F12 Hbe Hbd,mg_of X G a12,k12,bb12⟩
 have Hbi:Fx l.prog w K mg base "turn_served" 2 2 yA:=⟨f13,_,_,GR (P:=l.prog) (w:=w) (base:=base) T F13 Hbb,mg_of X G a13,k13,bb13⟩
 have Hbf:FxN l.prog w K mg base "run_of" 3 4 (xW C):=⟨f14,_,_,UD (P:=l.prog) (w:=w) (base:=base) T F14 Hbi Hag,mg_of X G a14,k14,bb14⟩
 have Hao:Fx l.prog w K mg base "ends_of" 1 1 vN:=⟨f15,_,_,RU (P:=l.prog) (w:=w) (base:=base) T F15,mg_of X G a15,k15,bb15⟩
 have Hab:Mx l.prog w K mg base (C "Granted") "granted" 1 1 (xt C):=⟨f16,_,_,RH (P:=l.prog) (w:=w) (base:=base) T F16,⟨a16,i16,k16⟩,bb16⟩
 have Hae:Mx l.prog w K mg base (C "Granted") "word" 1 1 (kA C):=⟨f17,_,_,Gq (P:=l.prog) (w:=w) (base:=base) T F17,⟨a17,i17,k17⟩,bb17⟩
 have Haa:Kx l.prog w K mg base (C "Granted") "Granted" 1 3 (xA C):=⟨f18,_,_,_,zcv (P:=l.prog) (w:=w) (base:=base) T F18,⟨mk_Granted,a18,i18,kc_Granted⟩,mg_of X G tt_Granted,bb18,λa dx xs=>zad C a dx xs⟩
 have Had:Mx l.prog w K mg base (C "Granted") "told" 2 1 (xg C):=⟨f19,_,_,Ki (P:=l.prog) (w:=w) (base:=base) T F19 Hae,⟨a19,i19,k19⟩,bb19⟩
 have Hal:Mx l.prog w K mg base (C "Late") "word" 1 1 (qw C):=⟨f20,_,_,zc6 (P:=l.prog) (w:=w) (base:=base) T F20,⟨a20,i20,k20⟩,bb20⟩
 have Hai:Mx l.prog w K mg base (C "Late") "granted" 1 1 (yX C):=⟨f21,_,_,RV (P:=l.prog) (w:=w) (base:=base) T F21,⟨a21,i21,k21⟩,bb21⟩
 have b_Late_Verdict:Bo l.prog w K mg base (C "Verdict") (C "Late") 1 3 (xo C):=⟨f22,_,_,⟨bs22,br22,bf22,rfl,k22⟩,QL (P:=l.prog) (w:=w) (base:=base) T F22,bb22⟩
 have Hbc:Fx l.prog w K mg base "own_rows" 1 1 xx:=⟨f23,_,_,UZ (P:=l.prog) (w:=w) (base:=base) T F23,mg_of X G a23,k23,bb23⟩
 have Hah:Kx l.prog w K mg base (C "Late") "Late" 2 7 (xV C):=⟨f24,_,_,_,ze7 (P:=l.prog) (w:=w) (base:=base) T F24 Hbc b_Late_Verdict,⟨mk_Late,a24,i24,kc_Late⟩,mg_of X G tt_Late,bb24,λa dx xs=>zav C a dx xs⟩
 have Hak:Mx l.prog w K mg base (C "Late") "told" 2 1 (yF C):=⟨f25,_,_,Gk (P:=l.prog) (w:=w) (base:=base) T F25 Hbc Hal,⟨a25,i25,k25⟩,bb25⟩
 have Hap:Fx l.prog w K mg base "first_late" 1 3 wz:=⟨f26,_,_,zcd (P:=l.prog) (w:=w) (base:=base) T F26,mg_of X G a26,k26,bb26⟩
 have Hbg:Fx l.prog w K mg base "settled" 4 4 (zZ C):=⟨f27,_,_,zev (P:=l.prog) (w:=w) (base:=base) T F27 Hap Hao Hbf Haa Hah,mg_of X G a27,k27,bb27⟩
 have Hac:Mx l.prog w K mg base (C "Granted") "holds" 5 2 (xJ C):=⟨f28,_,_,zfl (P:=l.prog) (w:=w) (base:=base) T F28 Hbg Hab Hai,⟨a28,i28,k28⟩,bb28⟩
 have Haj:Mx l.prog w K mg base (C "Late") "holds" 5 2 (xG C):=⟨f29,_,_,Uc (P:=l.prog) (w:=w) (base:=base) T F29 Hbg Had Hak,⟨a29,i29,k29⟩,bb29⟩
 have Hbj:Ry l.prog w K mg base ca "name" "ask_lift" 6 6 wQ:=⟨f30,_,_,zcl (P:=l.prog) (w:=w) (base:=base) T F30 U Hbg Hbk,mg_of X G a30,k30,bb30⟩
 have Ham:Fx l.prog w K mg base "ask_lift" 5 6 (yH C):=⟨f30,_,_,zcg (P:=l.prog) (w:=w) (base:=base) T F30 Hbg Hba,mg_of X G a30,k30,bb30⟩
 have Hax:Fx l.prog w K mg base "_law_cell" 1 2 yB:=⟨f31,_,_,Us (P:=l.prog) (w:=w) (base:=base) T F31,mg_of X G a31,k31,bb31⟩
 have Ha6:Fx l.prog w K mg base "_law_stir" 1 2 jm:=⟨f32,_,_,RD (P:=l.prog) (w:=w) (base:=base) T F32,mg_of X G a32,k32,bb32⟩
 have Hay:Fx l.prog w K mg base "_law_draw" 2 3 yn:=⟨f33,_,_,zft (P:=l.prog) (w:=w) (base:=base) T F33 Hax Ha6,mg_of X G a33,k33,bb33⟩
 have Ha2:Fx l.prog w K mg base "_law_name" 1 2 jC:=⟨f34,_,_,zel (P:=l.prog) (w:=w) (base:=base) T F34,mg_of X G a34,k34,bb34⟩
 have Ha9:Fx l.prog w K mg base "_law_world" 3 1 jF:=⟨f35,_,_,RR (P:=l.prog) (w:=w) (base:=base) T F35 Ha2 Hax Hay,mg_of X G a35,k35,bb35⟩
 have Haw:Fx l.prog w K mg base "_law_at" 1 2 vy:=⟨f36,_,_,Kr (P:=l.prog) (w:=w) (base:=base) T F36,mg_of X G a36,k36,bb36⟩
 have Ha5:Fx l.prog w K mg base "_law_run" 2 3 yV:=⟨f37,_,_,GC (P:=l.prog) (w:=w) (base:=base) T F37 Haw,mg_of X G a37,k37,bb37⟩
 have Haz:Fx l.prog w K mg base "_law_ends" 1 1 xO:=⟨f38,_,_,RO (P:=l.prog) (w:=w) (base:=base) T F38,mg_of X G a38,k38,bb38⟩
 have Ha8:Fx l.prog w K mg base "_law_verdict" 3 4 vp:=⟨f39,_,_,RG (P:=l.prog) (w:=w) (base:=base) T F39 Haz Ha5,mg_of X G a39,k39,bb39⟩
 have Ha4:Fx l.prog w K mg base "_law_promises" 3 5 jE:=⟨f40,_,_,zaj (P:=l.prog) (w:=w) (base:=base) T F40 Hay Haz Ha5,mg_of X G a40,k40,bb40⟩
 have Ha0:Fx l.prog w K mg base "_law_is" 1 2 jH:=⟨f41,_,_,Gu (P:=l.prog) (w:=w) (base:=base) T F41,mg_of X G a41,k41,bb41⟩
 have Ha7:Fx l.prog w K mg base "_law_told" 7 6 (yN C):=⟨f42,_,_,Gw (P:=l.prog) (w:=w) (base:=base) T F42 U Ham Hbj,mg_of X G a42,k42,bb42⟩
 have Ha1:Fx l.prog w K mg base "_law_lifted" 1 3 wd:=⟨f43,_,_,R3 (P:=l.prog) (w:=w) (base:=base) T F43,mg_of X G a43,k43,bb43⟩
 have Hav:Fx l.prog w K mg base "_law_asked" 8 6 (vJ C):=⟨f44,_,_,Uf (P:=l.prog) (w:=w) (base:=base) T F44 Ha0 Hab Hai Hac Haj Had Hak Ha8 Ha1 Ha7 Haf,mg_of X G a44,k44,bb44⟩
 have Ha3:Fx l.prog w K mg base "_law_named" 1 3 yU:=⟨f45,_,_,zc3 (P:=l.prog) (w:=w) (base:=base) T F45,mg_of X G a45,k45,bb45⟩
 exact zd2 (Rg (P:=l.prog) (w:=w) (base:=base) T F46 Hav Ha3 Ha4 Hay Ha9) (λns hl=>zbd C (RN T.k0_Granted_Late) ns hl)
theorem walk {l:PySem.W.OpenLaw}{q:Program}{loose:List Str}{XP:(Str->Option Value)->Heap->Prop}{YP:World->Heap->Prop}{d:DefRec}{K:Params->PySem.W.Frag}(hn:l.most=some 63)(hdf:d.params.defaults=[])
  (hY:∀(w:World) (h:Heap),YP w h->(K w.params).In h)
  (F:∀(w:World) (mg:Str->Option Value) (fa:Addr) (h:Heap),(K w.params).In h->h.Ns mainGlobals mg->mg d.name=some (.ref fa) ->
   ∃fd:FuncData,(∀(s:Shared) (u:Value),BindsTo s fd ⟨[u],[]⟩ [("_law_script",u)])/\∀base:Heap,(K w.params).In base->base.Ns mainGlobals mg->FnOk l.prog w (K w.params) mg base CX0 9 fa fd ["_law_script"] (spOut (K w.params))) :
  PySem.W.WalkO q loose XP YP l.row.toRowW d [] (λf vs=>PySem.call f vs) :=
 L2.walk_of (n:=63) (k:=9) (x := "_law_script") (CX:=λ_=>CX0) (sp:=λw=>spOut (K w.params)) hn (by decide) hdf ⟨rfl,by decide,by decide⟩ hY F (λ_ _ a ns hl _ hS=>⟨a,ns,rfl,hS,hl,λ_=>rfl⟩) λ_ _ _ _ _ z=>z
end My
namespace PySem.W.Fast
def tw14888457646321318336:=()
def tw3332729707102109536:=()
def tw10245939935800822018:=()
def tw16496966527663799462:=()
def tw16153197372394080198:=()
def tw4745106080911958759:=()
def tw6681166921522802058:=()
def tw11153439022948930506:=()
def tw13136701531643054507:=()
def tw13754485661925968909:=()
def tw11904916828362435982:=()
def tw11431528273298652846:=()
def tw417696410400742159:=()
def tw3144879258184048944:=()
def tw8351304772327272561:=()
def tw13261686938434970578:=()
def tw8013041622001290419:=()
def tw16905378515015137267:=()
def tw7298304689500060372:=()
def tw1668959233130823572:=()
def tw11811837475202054583:=()
def tw18263423659265989400:=()
def tw12653402973593188120:=()
def tw2416687242967610521:=()
def tw17597785697756371514:=()
def tw6472293740183996508:=()
def tw14258333090362165148:=()
def tw538718407821055293:=()
def tw12641633763276710014:=()
def tw1279704476957350518:=()
def tw4414537374824409220:=()
def tw15559625049240204748:=()
def tw13537297805103929710:=()
def tw9012771937432039318:=()
def tw3255821342558236689:=()
def tw17351114833347222126:=()
def tw5785202593251300447:=()
def tw7746442096475460562:=()
def tw17847343703454059059:=()
def tw3462459439445063786:=()
def tw991521282567511756:=()
def tw6453416677833687130:=()
def tw2529321499655077368:=()
def tw15039496301838184823:=()
def tw4316444169098726258:=()
def tw3076012039300284450:=()
def tw5019390922195498570:=()
def tw14026225180981452388:=()
def tw3128720131502826116:=()
def tw41197227149950580:=()
def tw12718975469590453980:=()
def tw6886721143201633191:=()
def tw9944671329352935623:=()
def tw10442389184273434778:=()
def tw13995320979785678724:=()
def tw11814390698089868908:=()
def tw10644110657087531557:=()
def tw2040021639267978488:=()
def tw8487303931739605134:=()
def tw1972336147228528838:=()
def tw13457843097761002278:=()
def tw14656084064906524908:=()
def tw13399534160951641535:=()
def tw16573677444018725198:=()
def tw14914282927900912715:=()
def tw5645154780798926350:=()
def tw7742198341416856936:=()
def tw4523628729815651691:=()
def tw15251641034551069317:=()
def tw3460641840813055717:=()
def tw7789780372989653450:=()
def tw209422081167539498:=()
def tw3987907976574828520:=()
def tw4056708610682051952:=()
def tw15197061849309340654:=()
def tw17537956111472853914:=()
def tw7805103962089615325:=()
def tw1925367080962596073:=()
def tw14884079039625580974:=()
def tw4212393841980873593:=()
def tw9527276686301506130:=()
end PySem.W.Fast
open PySem PySem.W PyProof.Rows
set_option maxRecDepth 100000 in
set_option maxHeartbeats 0 in
theorem PySem.Challenge.cw_latestturn_k61_lifts_holds : PySem.Challenge.rw_latestturn_k61_lifts.Holds := by
 w_on;o_law;k_head;(case hw=>w_witness2)
 k_fill
 refine My.walk (l:=PySem.Challenge.rw_latestturn_k61_lifts) rfl rfl (λw h Y=>PySem.W.kIn_of Y) ?F
 case F=>
  intro w mg fa h KX G hmg
  refine' My.all_mk KX G hmg ?tt_Hours ?tt_Granted ?tt_Late ?tt_Verdict ?a0 ?l0 ?c0 ?k0 ?a1 ?l1 ?c1 ?k1 ?a2 ?l2 ?c2 ?k2 ?a3 ?l3 ?c3 ?k3 ?a4 ?l4 ?c4 ?k4 ?a5 ?l5 ?c5 ?k5 ?a6 ?l6 ?c6 ?k6 ?a7 ?i7 ?l7 ?c7 ?k7 ?a8 ?i8 ?l8 ?c8 ?k8 ?a9 ?l9 ?c9 ?k9 ?a10 ?l10 ?c10 ?k10 ?a11 ?l11 ?c11 ?k11 ?a12 ?l12 ?c12 ?k12 ?a13 ?l13 ?c13 ?k13 ?a14 ?l14 ?t14 ?c14 ?k14 ?a15 ?l15 ?c15 ?k15 ?a16 ?i16 ?l16 ?c16 ?k16 ?a17 ?i17 ?l17 ?c17 ?k17 ?a18 ?i18 ?l18 ?c18 ?k18 ?a19 ?i19 ?l19 ?c19 ?k19 ?a20 ?i20 ?l20 ?c20 ?k20 ?a21 ?i21 ?l21 ?c21 ?k21 ?bs22 ?br22 ?bf22 ?l22 ?c22 ?k22 ?a23 ?l23 ?c23 ?k23 ?a24 ?i24 ?l24 ?c24 ?k24 ?a25 ?i25 ?l25 ?c25 ?k25 ?a26 ?l26 ?c26 ?k26 ?a27 ?l27 ?c27 ?k27 ?a28 ?i28 ?l28 ?c28 ?k28 ?a29 ?i29 ?l29 ?c29 ?k29 ?a30 ?l30 ?c30 ?k30 ?a31 ?l31 ?c31 ?k31 ?a32 ?l32 ?c32 ?k32 ?a33 ?l33 ?c33 ?k33 ?a34 ?l34 ?c34 ?k34 ?a35 ?l35 ?c35 ?k35 ?a36 ?l36 ?c36 ?k36 ?a37 ?l37 ?c37 ?k37 ?a38 ?l38 ?c38 ?k38 ?a39 ?l39 ?c39 ?k39 ?a40 ?l40 ?c40 ?k40 ?a41 ?l41 ?c41 ?k41 ?a42 ?l42 ?c42 ?k42 ?a43 ?l43 ?c43 ?k43 ?a44 ?l44 ?c44 ?k44 ?a45 ?l45 ?c45 ?k45 ?a46 ?l46 ?c46 ?k46 ?pg_Hours ?hd_Hours ?po_Hours ?sa_Hours ?mk_Hours ?kc_Hours ?pg_Granted ?hd_Granted ?po_Granted ?sa_Granted ?mk_Granted ?kc_Granted ?pg_Late ?hd_Late ?po_Late ?sa_Late ?mk_Late ?kc_Late ?tt_NoTicket ?tt_NoNumber ?tt_HallError ?xl_NoTicket ?xmr_NoTicket ?xdl_NoTicket ?xtl_NoTicket ?xok_NoTicket ?xin_NoTicket ?xkp_NoTicket ?xli_NoTicket ?xci_NoTicket ?xki_NoTicket ?sa_NoTicket ?xtk_NoTicket ?xhd_NoTicket ?be_NoTicket ?sb_NoTicket_HallError ?ga_NoTicket ?gt_NoTicket ?na_NoTicket ?xrd ?xfc ?xsp ?sb_NoNumber_NoTicket ?nt_NoTicket ?cl_NoTicket ?xl_NoNumber ?xmr_NoNumber ?xdl_NoNumber ?xtl_NoNumber ?xok_NoNumber ?xin_NoNumber ?xkp_NoNumber ?sb_NoNumber_HallError ?nt_HallError ?cl_HallError ?be_HallError ?sb_NoTicket_NoTicket ?sb_Granted_Granted ?cl_Late ?ty_Late ?sb_Granted_Late ?n_Granted_begin ?n_Granted_hours ?n_Granted_queue ?n_Hours_kept_rest ?n_Hours_spans ?n_Late_begin ?n_Late_hours ?n_Late_name ?n_Late_promised ?n_Late_queue ?n_Late_run ?n_Late_turn ?b_all ?b_bool ?b_dict ?b_enumerate ?b_int ?b_isinstance ?b_len ?b_list ?b_max ?b_min ?b_range ?b_str ?b_tuple ?c_FIGURES ?c_LETTERS ?c_MOST_COUNTERS ?c_MOST_ROWS ?c_MOST_SIGNS ?c_MOST_TURNS
  (case tt_Hours=>k_is)
  (case tt_Granted=>k_is)
  (case tt_Late=>k_is)
  (case tt_Verdict=>k_is)
  (case a0=>k_is)
  (case l0=>k_is)
  (case c0=>k_is)
  (case k0=>k_is)
  (case a1=>k_is)
  (case l1=>k_is)
  (case c1=>k_is)
  (case k1=>k_is)
  (case a2=>k_is)
  (case l2=>k_is)
  (case c2=>k_is)
  (case k2=>k_is)
  (case a3=>k_is)
  (case l3=>k_is)
  (case c3=>k_is)
  (case k3=>k_is)
  (case a4=>k_is)
  (case l4=>k_is)
  (case c4=>k_is)
  (case k4=>k_is)
  (case a5=>k_is)
  (case l5=>k_is)
  (case c5=>k_is)
  (case k5=>k_is)
  (case a6=>k_is)
  (case l6=>k_is)
  (case c6=>k_is)
  (case k6=>k_is)
  (case a7=>k_is)
  (case i7=>k_is)
  (case l7=>k_is)
  (case c7=>k_is)
  (case k7=>k_is)
  (case a8=>k_is)
  (case i8=>k_is)
  (case l8=>k_is)
  (case c8=>k_is)
  (case k8=>k_is)
  (case a9=>k_is)
  (case l9=>k_is)
  (case c9=>k_is)
  (case k9=>k_is)
  (case a10=>k_is)
  (case l10=>k_is)
  (case c10=>k_is)
  (case k10=>k_is)
  (case a11=>k_is)
  (case l11=>k_is)
  (case c11=>k_is)
  (case k11=>k_is)
  (case a12=>k_is)
  (case l12=>k_is)
  (case c12=>k_is)
  (case k12=>k_is)
  (case a13=>k_is)
  (case l13=>k_is)
  (case c13=>k_is)
  (case k13=>k_is)
  (case a14=>k_is)
  (case l14=>k_is)
  (case t14=>k_is)
  (case c14=>k_is)
  (case k14=>k_is)
  (case a15=>k_is)
  (case l15=>k_is)
  (case c15=>k_is)
  (case k15=>k_is)
  (case a16=>k_is)
  (case i16=>k_is)
  (case l16=>k_is)
  (case c16=>k_is)
  (case k16=>k_is)
  (case a17=>k_is)
  (case i17=>k_is)
  (case l17=>k_is)
  (case c17=>k_is)
  (case k17=>k_is)
  (case a18=>k_is)
  (case i18=>k_is)
  (case l18=>k_is)
  (case c18=>k_is)
  (case k18=>k_is)
  (case a19=>k_is)
  (case i19=>k_is)
  (case l19=>k_is)
  (case c19=>k_is)
  (case k19=>k_is)
  (case a20=>k_is)
  (case i20=>k_is)
  (case l20=>k_is)
  (case c20=>k_is)
  (case k20=>k_is)
  (case a21=>k_is)
  (case i21=>k_is)
  (case l21=>k_is)
  (case c21=>k_is)
  (case k21=>k_is)
  (case bs22=>k_is)
  (case br22=>k_is)
  (case bf22=>k_is)
  (case l22=>k_is)
  (case c22=>k_is)
  (case k22=>k_is)
  (case a23=>k_is)
  (case l23=>k_is)
  (case c23=>k_is)
  (case k23=>k_is)
  (case a24=>k_is)
  (case i24=>k_is)
  (case l24=>k_is)
  (case c24=>k_is)
  (case k24=>k_is)
  (case a25=>k_is)
  (case i25=>k_is)
  (case l25=>k_is)
  (case c25=>k_is)
  (case k25=>k_is)
  (case a26=>k_is)
  (case l26=>k_is)
  (case c26=>k_is)
  (case k26=>k_is)
  (case a27=>k_is)
  (case l27=>k_is)
  (case c27=>k_is)
  (case k27=>k_is)
  (case a28=>k_is)
  (case i28=>k_is)
  (case l28=>k_is)
  (case c28=>k_is)
  (case k28=>k_is)
  (case a29=>k_is)
  (case i29=>k_is)
  (case l29=>k_is)
  (case c29=>k_is)
  (case k29=>k_is)
  (case a30=>k_is)
  (case l30=>k_is)
  (case c30=>k_is)
  (case k30=>k_is)
  (case a31=>k_is)
  (case l31=>k_is)
  (case c31=>k_is)
  (case k31=>k_is)
  (case a32=>k_is)
  (case l32=>k_is)
  (case c32=>k_is)
  (case k32=>k_is)
  (case a33=>k_is)
  (case l33=>k_is)
  (case c33=>k_is)
  (case k33=>k_is)
  (case a34=>k_is)
  (case l34=>k_is)
  (case c34=>k_is)
  (case k34=>k_is)
  (case a35=>k_is)
  (case l35=>k_is)
  (case c35=>k_is)
  (case k35=>k_is)
  (case a36=>k_is)
  (case l36=>k_is)
  (case c36=>k_is)
  (case k36=>k_is)
  (case a37=>k_is)
  (case l37=>k_is)
  (case c37=>k_is)
  (case k37=>k_is)
  (case a38=>k_is)
  (case l38=>k_is)
  (case c38=>k_is)
  (case k38=>k_is)
  (case a39=>k_is)
  (case l39=>k_is)
  (case c39=>k_is)
  (case k39=>k_is)
  (case a40=>k_is)
  (case l40=>k_is)
  (case c40=>k_is)
  (case k40=>k_is)
  (case a41=>k_is)
  (case l41=>k_is)
  (case c41=>k_is)
  (case k41=>k_is)
  (case a42=>k_is)
  (case l42=>k_is)
  (case c42=>k_is)
  (case k42=>k_is)
  (case a43=>k_is)
  (case l43=>k_is)
  (case c43=>k_is)
  (case k43=>k_is)
  (case a44=>k_is)
  (case l44=>k_is)
  (case c44=>k_is)
  (case k44=>k_is)
  (case a45=>k_is)
  (case l45=>k_is)
  (case c45=>k_is)
  (case k45=>k_is)
  (case a46=>k_is)
  (case l46=>k_is)
  (case c46=>k_is)
  (case k46=>k_is)
  (case pg_Hours=>k_is)
  (case hd_Hours=>k_is)
  (case po_Hours=>k_is)
  (case sa_Hours=>k_is)
  (case mk_Hours=>k_is)
  (case kc_Hours=>k_is)
  (case pg_Granted=>k_is)
  (case hd_Granted=>k_is)
  (case po_Granted=>k_is)
  (case sa_Granted=>k_is)
  (case mk_Granted=>k_is)
  (case kc_Granted=>k_is)
  (case pg_Late=>k_is)
  (case hd_Late=>k_is)
  (case po_Late=>k_is)
  (case sa_Late=>k_is)
  (case mk_Late=>k_is)
  (case kc_Late=>k_is)
  (case tt_NoTicket=>k_is)
  (case tt_NoNumber=>k_is)
  (case tt_HallError=>k_is)
  (case xl_NoTicket=>k_is)
  (case xmr_NoTicket=>rfl)
  (case xdl_NoTicket=>rfl)
  (case xtl_NoTicket=>kernel_rfl)
  (case xok_NoTicket=>kernel_rfl)
  (case xin_NoTicket=>k_is)
  (case xkp_NoTicket=>k_is)
  (case xli_NoTicket=>k_is)
  (case xci_NoTicket=>k_is)
  (case xki_NoTicket=>k_is)
  (case sa_NoTicket=>k_is)
  (case xtk_NoTicket=>k_is)
  (case xhd_NoTicket=>k_is)
  (case be_NoTicket=>k_is)
  (case sb_NoTicket_HallError=>k_is)
  (case ga_NoTicket=>k_is)
  (case gt_NoTicket=>k_is)
  (case na_NoTicket=>k_is)
  (case xrd=>k_is)
  (case xfc=>k_is)
  (case xsp=>k_is)
  (case sb_NoNumber_NoTicket=>k_is)
  (case nt_NoTicket=>k_is)
  (case cl_NoTicket=>k_is)
  (case xl_NoNumber=>k_is)
  (case xmr_NoNumber=>rfl)
  (case xdl_NoNumber=>rfl)
  (case xtl_NoNumber=>kernel_rfl)
  (case xok_NoNumber=>kernel_rfl)
  (case xin_NoNumber=>k_is)
  (case xkp_NoNumber=>k_is)
  (case sb_NoNumber_HallError=>k_is)
  (case nt_HallError=>k_is)
  (case cl_HallError=>k_is)
  (case be_HallError=>k_is)
  (case sb_NoTicket_NoTicket=>k_is)
  (case sb_Granted_Granted=>k_is)
  (case cl_Late=>k_is)
  (case ty_Late=>k_is)
  (case sb_Granted_Late=>k_is)
  (case n_Granted_begin=>k_is)
  (case n_Granted_hours=>k_is)
  (case n_Granted_queue=>k_is)
  (case n_Hours_kept_rest=>k_is)
  (case n_Hours_spans=>k_is)
  (case n_Late_begin=>k_is)
  (case n_Late_hours=>k_is)
  (case n_Late_name=>k_is)
  (case n_Late_promised=>k_is)
  (case n_Late_queue=>k_is)
  (case n_Late_run=>k_is)
  (case n_Late_turn=>k_is)
  (case b_all=>k_is)
  (case b_bool=>k_is)
  (case b_dict=>k_is)
  (case b_enumerate=>k_is)
  (case b_int=>k_is)
  (case b_isinstance=>k_is)
  (case b_len=>k_is)
  (case b_list=>k_is)
  (case b_max=>k_is)
  (case b_min=>k_is)
  (case b_range=>k_is)
  (case b_str=>k_is)
  (case b_tuple=>k_is)
  (case c_FIGURES=>k_is)
  (case c_LETTERS=>k_is)
  (case c_MOST_COUNTERS=>k_is)
  (case c_MOST_ROWS=>k_is)
  (case c_MOST_SIGNS=>k_is)
  (case c_MOST_TURNS=>k_is)
#print axioms PySem.Challenge.cw_latestturn_k61_lifts_holds
end

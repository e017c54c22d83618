import PyProof.Rows.All
import Wide.All
import OpenK.AllK
import Wide.FinOn
import Lean
import PyProof.EqAt
import PyProof.EqKinds
import PyProof.TupleCall
import KE.KPairComp
import PyProof.SumWalkG
import PyProof.WalkInts
import PyProof.Rows.SortStr
import PyProof.Rows.SortWalk
import PyProof.NeKinds
import KE.KIntText
import PyProof.Rows.FStr
import PyProof.Rows.StrNews2
import PyProof.CallStr
import PyProof.StrLawsChain
import PySem.Challenge.RW_latestturn_k51_settled
set_option Elab.async false
set_option linter.all false
set_option maxRecDepth 100000
set_option maxHeartbeats 4000000
noncomputable section
set_option maxHeartbeats 4000000
namespace L2
open PySem PySem.Spec PyProof.Rows
abbrev Key:=Sum Int Str
def keyIs:Key->Value->Bool
 |.inl k,v=>Value.isInt k v
 |.inr x,v=>Value.isStrOf x v
def keyH (w:World):Key->Int
 |.inl k=>hashInt k
 |.inr x=>hashStr w x
theorem y7:∀ {k:Key} {v:Value},keyIs k v=true->(∃i t,k=Sum.inl i/\v=Value.int i t)∨(∃x t,k=Sum.inr x/\v=Value.str x t)
 |.inl i,v,h=>by
  obtain⟨t,e⟩:=Value.isInt_shape (k:=i) (v:=v) h
  exact .inl ⟨i,t,rfl,e⟩
 |.inr x,v,h=>by
  obtain⟨t,e⟩:=Value.isStrOf_shape (x:=x) (v:=v) h
  exact .inr ⟨x,t,rfl,e⟩
theorem Q9 (i:Int)(t:Tok):keyIs (.inl i) (.int i t)=true:=by simp[keyIs,Value.isInt]
theorem JH (x:Str)(t:Tok):keyIs (.inr x) (.str x t)=true:=by simp[keyIs,Value.isStrOf]
theorem RG (a b:Int):decide ((Sum.inl a:Key)=Sum.inl b)=(a==b):=by
 by_cases e:a=b
 ·subst e;simp
 ·have h:¬(Sum.inl a:Key)=Sum.inl b:=λq=>e (Sum.inl.inj q)
  rw[decide_eq_false h]
  exact (beq_eq_false_iff_ne.mpr e).symm
theorem GT (a b:Str):decide ((Sum.inr a:Key)=Sum.inr b)=decide (a=b):=by
 by_cases e:a=b
 ·subst e;simp
 ·have h:¬(Sum.inr a:Key)=Sum.inr b:=λq=>e (Sum.inr.inj q)
  rw[decide_eq_false h,decide_eq_false e]
theorem Go (a:Int)(b:Str):decide ((Sum.inl a:Key)=Sum.inr b)=false:=decide_eq_false (λq=>nomatch q)
theorem zar (a:Str)(b:Int):decide ((Sum.inr a:Key)=Sum.inl b)=false:=decide_eq_false (λq=>nomatch q)
def zG (prog:Program)(w:World):PySem.KeyKind prog w Key where
 is:=keyIs
 hash:=keyH w
 inj:=λv a b ha hb=>by
  rcases y7 ha with⟨i,t,rfl,rfl⟩ | ⟨x,t,rfl,rfl⟩
  ·rcases y7 hb with⟨j,u,rfl,e⟩ | ⟨y,u,rfl,e⟩
   ·injection e with e1 _;rw[e1]
   ·exact nomatch e
  ·rcases y7 hb with⟨j,u,rfl,e⟩ | ⟨y,u,rfl,e⟩
   ·exact nomatch e
   ·injection e with e1 _;rw[e1]
 byValue:=λk v h=>by
  rcases y7 h with⟨i,t,rfl,rfl⟩ | ⟨x,t,rfl,rfl⟩<;>rfl
 pyHash:=λhv h=>by
  rcases y7 hv with⟨i,t,rfl,rfl⟩ | ⟨x,t,rfl,rfl⟩
  ·exact wpAny_pyHash_int h
  ·exact wpAny_pyHash_str h
 eqBool:=λhu hv h=>by
  rcases y7 hu with⟨i,t,rfl,rfl⟩ | ⟨x,t,rfl,rfl⟩
  ·rcases y7 hv with⟨j,u,rfl,rfl⟩ | ⟨y,u,rfl,rfl⟩
   ·rw[RG] at h;exact wpAny_eqBool_int h
   ·rw[Go] at h;exact SeqAt.EqAt.int_str i t y u _ _ _ _ h
  ·rcases y7 hv with⟨j,u,rfl,rfl⟩ | ⟨y,u,rfl,rfl⟩
   ·rw[zar] at h;exact SeqAt.EqAt.str_int x t j u _ _ _ _ h
   ·rw[GT] at h;exact wpAny_eqBool_str h
 «strs»:=λk x t v h=>by
  rcases y7 h with⟨i,u,rfl,e⟩ | ⟨y,u,rfl,e⟩
  ·exact nomatch e
  ·injection e with e1 _
   subst e1
   cases v<;>rfl
theorem Ke (prog:Program)(w:World)(i:Int)(t:Tok):(zG prog w).is (.inl i) (.int i t)=true:=Q9 i t
theorem K8 (prog:Program)(w:World)(x:Str)(t:Tok):(zG prog w).is (.inr x) (.str x t)=true:=JH x t
inductive V where
 |non | bl (b:Bool) | int (i:Int) | str (x:Str) | byt (b:Array UInt8) | flt (b:UInt64) | ref (a:Addr) | ty (n:String)
 deriving DecidableEq
def RelV:V->Value->Prop
 |.non,u=>u=Value.none
 |.bl b,u=>u=Value.bool b
 |.int i,u=>∃t,u=Value.int i t
 |.str x,u=>∃t,u=Value.str x t
 |.byt b,u=>∃t,u=Value.bytes b t
 |.flt b,u=>∃t,u=Value.float b t
 |.ref a,u=>u=Value.ref a
 |.ty n,u=>u=Value.type n
abbrev Vals:List V->List Value->Prop:=Paired RelV
theorem Vals.length {xs:List V}{us:List Value}(r:Vals xs us):xs.length=us.length:=Paired.length r
theorem Vals.get:∀ {xs:List V} {us:List Value} {i:Nat} {x:V},Vals xs us->xs[i]?=some x->∃u,us[i]?=some u/\RelV x u
 |_,_,_,_,.nil,e=>by simp at e
 |_,_,0,_,.cons r _,e=>by simp at e;subst e;exact⟨_,rfl,r⟩
 |_,_,i+1,x,.cons _ t,e=>by
  obtain⟨u,h1,h2⟩:=Vals.get (i:=i) (x:=x) t (by simpa using e)
  exact⟨u,by simpa using h1,h2⟩
theorem Vals.set {x:V}{u:Value}(r:RelV x u):∀ {xs:List V} {us:List Value} (i:Nat),Vals xs us->Vals (xs.set i x) (us.set i u)
 |_,_,_,.nil=>.nil
 |_,_,0,.cons _ t=>.cons r t
 |_,_,i+1,.cons q t=>.cons q (Vals.set r i t)
theorem Vals.append:∀ {xs ys:List V} {us ws:List Value},Vals xs us->Vals ys ws->Vals (xs++ys) (us++ws)
 |_,_,_,_,.nil,s=>s
 |_,_,_,_,.cons r t,s=>.cons r (Vals.append t s)
theorem Vals.take:∀ {xs:List V} {us:List Value} (n:Nat),Vals xs us->Vals (xs.take n) (us.take n)
 |_,_,0,_=>.nil
 |_,_,_+1,.nil=>.nil
 |_,_,n+1,.cons r t=>.cons r (Vals.take n t)
theorem Vals.drop:∀ {xs:List V} {us:List Value} (n:Nat),Vals xs us->Vals (xs.drop n) (us.drop n)
 |_,_,0,r=>r
 |_,_,_+1,.nil=>.nil
 |_,_,n+1,.cons _ t=>Vals.drop n t
def RelO:Option V->Option Value->Prop
 |some v,some u=>RelV v u
 |none,none=>True
 |_,_=>False
def KV {κ:Type}:List (κ×V)->List (κ×Value)->Prop:=Paired λ(p:κ×V) (q:κ×Value)=>p.1=q.1/\RelV p.2 q.2
def kV:Key->V
 |.inl i=>.int i
 |.inr x=>.str x
inductive HO where
  |lst (xs:List V)
  |tup (xs:List V)
  |dK (kvs:List (Key×V)) | dT (kvs:List (List Key×V))
  |set (S:Int->Bool) (n:Nat)
  |ins (C dx:Addr) (fs:List (Str×V))
  |own (x:Addr)
  |xd (fs:List (Str×V))
  |met (f x:Addr)
  |rng (lo hi:Int)
  |frz (o:Obj) (u:HO)
  |tbl (ps:Array Value)
  |ext (φ:Heap->Prop)
abbrev Hp:=Addr->Option HO
def upd (H:Hp)(a:Addr)(o:HO):Hp:=λb=>if b=a then some o else H b
theorem zq {H:Hp}{a:Addr}{o:HO}:upd H a o a=some o:=by unfold upd;rw[if_pos rfl]
theorem zk {H:Hp}{a b:Addr}{o:HO}(h:b≠a):upd H a o b=H b:=by unfold upd;rw[if_neg h]
theorem GS {H:Hp}{a:Addr}{o u:HO}:upd (upd H a o) a u=upd H a u:=by
 funext b;unfold upd;split<;>rfl
theorem vq {H:Hp}{a b:Addr}{o u:HO}(h:H a=some o)(h':H b=some u)(d:o≠u):a≠b:=by
 intro e;subst e;rw[h] at h';exact d (Option.some.inj h')
theorem z8 {H:Hp}{a b:Addr}{o:HO}(h:H a=some o)(h':H b=none):a≠b:=by
 intro e;subst e;rw[h] at h';cases h'
section
variable (P:Program)(w:World)
def ObjOk (H:Hp)(h:Heap)(a:Addr):HO->Prop
 |.lst xs=>xs.length<=sizeLine/\∃(its:List Value) (n:Nat),Vals xs its/\h.get? a=some { cls:=.type "list",data:=.seq its.toArray n }
 |.tup xs=>xs.length<=sizeLine/\∃its:List Value,Vals xs its/\IsTup h a its.toArray
 |.dK kvs=>kvs.length<=sizeLine/\(a==sysModules)=false/\∃vs,KV kvs vs/\h.DictOf (zG P w) a vs
 |.dT kvs=>kvs.length<=sizeLine/\(a==sysModules)=false/\∃xs:List (List Key×Addr×Value),
   Paired (λ(p:List Key×V) (q:List Key×Addr×Value)=>p.1=q.1/\H q.2.1=some (.tup (p.1.map kV))/\RelV p.2 q.2.2) kvs xs /\
   ∃o es ep,h.get? a=some o/\o.ExactDict/\o.data=.dict es ep/\es.toList=xs.map (entryOfKey (tupleKind (zG P w)))/\(xs.map (·.1)).Nodup
 |.set S n=>h.SetOf (intKind P w) a S n
 |.ins C dx fs=>H dx=some (.own a)/\fs.length<=1000/\dx≠a/\h.get? a=some (PySem.W.instObj C dx) /\
   ∃mA,h.Ns1 dx mA/\(∀f,RelO (fs.lookup f) (mA f))/\PySem.Within mA (fs.map (·.1))
 |.own _=>∃o,h.get? a=some o
 |.xd fs=>∃mA,h.Ns1 a mA/\∀f,RelO (fs.lookup f) (mA f)
 |.rng lo hi=>∃t u v,h.get? a=some { cls:=.type "range",data:=.fields #[.int lo t,.int hi u,.int 1 v] }
 |.frz o u=>h.get? a=some o/\ObjOk H h a u
 |.tbl ps=>h.get? a=some { cls:=.none,data:=.fields ps }
 |.met f x=>h.get? a=some (PySem.W.methodObj (.ref f) (.ref x))
 |.ext φ=>φ h/\(∃o,h.get? a=some o)/\∀h1 h2:Heap,φ h1->(∀o,h1.get? a=some o->h2.get? a=some o)->φ h2
def HOk (H:Hp)(h:Heap):Prop:=∀a o,H a=some o->ObjOk P w H h a o
end
section
variable {P:Program}{w:World}{H H':Hp}{h h':Heap}{a:Addr}{o:HO}
theorem ObjOk.lt (x:ObjOk P w H h a o):a < h.objs.size:=by
 cases o with
 |lst xs=>obtain⟨_,_,_,_,e⟩:=x;exact Heap.lt_size e
 |tup xs=>obtain⟨_,_,_,p⟩:=x;exact p.lt
 |dK kvs=>obtain⟨_,_,_,_,o,_,_,e,_⟩:=x;exact Heap.lt_size e
 |dT kvs=>obtain⟨_,_,_,_,o,_,_,e,_⟩:=x;exact Heap.lt_size e
 |set S n=>obtain⟨o,_,_,_,e,_⟩:=x;exact Heap.lt_size e
 |ins C dx fs=>obtain⟨_,_,_,e,_⟩:=x;exact Heap.lt_size e
 |own y=>obtain⟨_,e⟩:=x;exact Heap.lt_size e
 |xd fs=>obtain⟨_,⟨_,_,_,e,_⟩,_⟩:=x;exact Heap.lt_size e
 |rng lo hi=>obtain⟨_,_,_,e⟩:=x;exact Heap.lt_size e
 |frz ob u=>obtain⟨e,_⟩:=x;exact Heap.lt_size e
 |tbl ps=>exact Heap.lt_size (show h.get? a=some _ from x)
 |met f y=>exact Heap.lt_size (show h.get? a=some _ from x)
 |ext φ=>obtain⟨_,⟨_,e⟩,_⟩:=x;exact Heap.lt_size e
theorem Paired.mapP {α β:Type}{F G:α->β->Prop}:∀ {l₁:List α} {l₂:List β},Paired F l₁ l₂->(∀a b,F a b->G a b)->Paired G l₁ l₂
 |_,_,.nil,_=>.nil
 |_,_,.cons r t,f=>.cons (f _ _ r) (Paired.mapP t f)
theorem ObjOk.stay (x:ObjOk P w H h a o)(k:∀b u,(b=a∨H b=some (.own a))->h.get? b=some u->h'.get? b=some u)
  (ho:∀b,H b=some (.own a)->H' b=some (.own a)) (ht:∀b xs,H b=some (.tup xs)->H' b=some (.tup xs)):ObjOk P w H' h' a o:=by
 induction o with
 |lst xs=>obtain⟨z,its,n,r,e⟩:=x;exact⟨z,its,n,r,k _ _ (.inl rfl) e⟩
 |tup xs=>obtain⟨z,its,r,ob,e,c⟩:=x;exact⟨z,its,r,ob,k _ _ (.inl rfl) e,c⟩
 |dK kvs=>obtain⟨z,y,vs,r,ob,es,ep,e,c⟩:=x;exact⟨z,y,vs,r,ob,es,ep,k _ _ (.inl rfl) e,c⟩
 |dT kvs=>
  obtain⟨z,y,xs,r,ob,es,ep,e,c⟩:=x
  exact⟨z,y,xs,Paired.mapP r λp q z=>⟨z.1,ht _ _ z.2.1,z.2.2⟩,ob,es,ep,k _ _ (.inl rfl) e,c⟩
 |set S n=>obtain⟨ob,es,ep,t,e,c⟩:=x;exact⟨ob,es,ep,t,k _ _ (.inl rfl) e,c⟩
 |ins C dx fs=>
  obtain⟨d,z,ne,e,mA,⟨od,es,ep,e2,c⟩,r⟩:=x
  exact⟨ho _ d,z,ne,k _ _ (.inl rfl) e,mA,⟨od,es,ep,k _ _ (.inr d) e2,c⟩,r⟩
 |own y=>obtain⟨ob,e⟩:=x;exact⟨ob,k _ _ (.inl rfl) e⟩
 |xd fs=>obtain⟨mA,⟨od,es,ep,e,c⟩,r⟩:=x;exact⟨mA,⟨od,es,ep,k _ _ (.inl rfl) e,c⟩,r⟩
 |rng lo hi=>obtain⟨t,u,v,e⟩:=x;exact⟨t,u,v,k _ _ (.inl rfl) e⟩
 |frz ob u ih=>obtain⟨e,q⟩:=x;exact⟨k _ _ (.inl rfl) e,ih q⟩
 |tbl ps=>
  have e:h.get? a=some { cls:=.none,data:=.fields ps }:=x
  show h'.get? a=some { cls:=.none,data:=.fields ps }
  exact k a _ (.inl rfl) e
 |met f y=>
  have e:h.get? a=some (PySem.W.methodObj (.ref f) (.ref y)):=x
  show h'.get? a=some (PySem.W.methodObj (.ref f) (.ref y))
  exact k a _ (.inl rfl) e
 |ext φ=>obtain⟨p,⟨o,e⟩,st⟩:=x;exact⟨st _ _ p λo q=>k _ _ (.inl rfl) q,⟨o,k _ _ (.inl rfl) e⟩,st⟩
theorem HOk.lt (x:HOk P w H h)(e:H a=some o):a < h.objs.size:=(x a o e).lt
theorem HOk.fresh (x:HOk P w H h)(e:h.objs.size<=a):H a=none:=by
 cases q:H a with
 |none=>rfl
 |some u=>exact absurd (Nat.lt_of_lt_of_le (x.lt q) e) (Nat.lt_irrefl _)
theorem HOk.kept (x:HOk P w H h)(k:∀b u,h.get? b=some u->h'.get? b=some u):HOk P w H h':=λa o e=>
 (x a o e).stay (λb u _ q=>k b u q) (λ_ q=>q) λ_ _ q=>q
theorem HOk.laid (x:HOk P w H h)(k:∀b u,h.get? b=some u->h'.get? b=some u)(hp:h.objs.size<=a)(new:ObjOk P w (upd H a o) h' a o):HOk P w (upd H a o) h':=λb u e=>by
 have hn:=x.fresh hp
 by_cases hb:b=a
 ·subst hb;rw[zq] at e;cases e;exact new
 ·rw[zk hb] at e
  exact (x b u e).stay (λc v _ q=>k c v q) (λc q=>by rw[zk (z8 q hn)];exact q) λc xs q=>by rw[zk (z8 q hn)];exact q
end
def Rd (H:Hp)(a:Addr)(u:HO):Prop:=H a=some u∨∃o,H a=some (.frz o u)
theorem Rd.ok {P:Program}{w:World}{H:Hp}{h:Heap}{a:Addr}{u:HO}(r:Rd H a u)(x:HOk P w H h):ObjOk P w H h a u:=by
 rcases r with r | ⟨o,r⟩
 ·exact x a u r
 ·obtain⟨_,q⟩:=x a _ r
  exact q
def Mut:Option HO->Prop
 |some (.lst _)=>True
 |some (.dK _)=>True
 |some (.dT _)=>True
 |some (.set _ _)=>True
 |some (.ins _ _ _)=>True
 |some (.ext _)=>True
 |_=>False
section
variable {P:Program}{w:World}{H:Hp}{h h':Heap}{x e:Addr}{o':HO}
theorem HOk.write (ok:HOk P w H h)(mu:Mut (H x))(he:e=x∨H e=some (.own x))(k:∀b u,b≠e->h.get? b=some u->h'.get? b=some u)(heo:∃u,h'.get? e=some u)
  (new:ObjOk P w (upd H x o') h' x o'):HOk P w (upd H x o') h':=λb u q=>by
 have nown:∀c y,H c=some (.own y)->c≠x:=λc y r z=>by subst z;rw[r] at mu;exact mu
 have ntup:∀c xs,H c=some (.tup xs)->c≠x:=λc xs r z=>by subst z;rw[r] at mu;exact mu
 by_cases hb:b=x
 ·subst hb;rw[zq] at q;cases q;exact new
 ·rw[zk hb] at q
  by_cases hbe:b=e
  ·have q':H b=some (.own x):=by
    rcases he with z | z
    ·exact absurd (hbe.trans z) hb
    ·rw[hbe];exact z
   rw[q] at q';cases q'
   obtain⟨v,hv⟩:=heo
   exact⟨v,by rw[hbe];exact hv⟩
  ·refine (ok b u q).stay (λc v hc r=>k c v ?_ r) (λc r=>by rw[zk (nown c b r)];exact r) λc xs r=>by rw[zk (ntup c xs r)];exact r
   rcases hc with rfl | hc
   ·exact hbe
   ·rintro rfl
    rcases he with z | z
    ·exact nown c b hc z
    ·rw[hc] at z;cases z;exact hb rfl
end
structure Un (fs ex:List Addr)(H H':Hp)(h h':Heap):Prop where
 keep:∀b o,h.get? b=some o->H b=none->b∉fs->b∉ex->h'.get? b=some o
 slot:∀b o,h.get? b=some o->H b=none->b∈fs->b∉ex->∃sl,h'.get? b=some { o with slots:=sl }
 free:∀b o,h.get? b=some o->H b=none->b∉ex->H' b=none
 there:∀b o,h.get? b=some o->b∉ex->∃o',h'.get? b=some o'
 tups:∀b xs,H b=some (.tup xs)->H' b=some (.tup xs)
 frzs:∀b o u,H b=some (.frz o u)->H' b=some (.frz o u)
 tbls:∀b ps,H b=some (.tbl ps)->∃more,H' b=some (.tbl (ps++more))
section
variable {fs fs' ex ex':List Addr}{H H1 H2:Hp}{h h1 h2 h':Heap}{a x e:Addr}{o:HO}
theorem Un.any (u:Un fs ex H H1 h h1){b:Addr}{ob:Obj}(q:h.get? b=some ob)(n:H b=none)(hx:b∉ex):∃sl,h1.get? b=some { ob with slots:=sl }:=by
 by_cases hb:b∈fs
 ·exact u.slot b ob q n hb hx
 ·exact⟨ob.slots,u.keep b ob q n hb hx⟩
theorem Un.kept (k:∀b u,h.get? b=some u->h'.get? b=some u):Un fs ex H H h h' :=
 ⟨λb ob q _ _ _=>k b ob q,λb ob q _ _ _=>⟨ob.slots,k b ob q⟩,λ_ _ _ n _=>n,λb ob q _=>⟨ob,k b ob q⟩,λ_ _ q=>q,λ_ _ _ q=>q,λ_ ps q=>⟨#[],by rw[q];simp⟩⟩
theorem Un.refl:Un fs ex H H h h:=Un.kept λ_ _ q=>q
theorem Un.laid (k:∀b u,h.get? b=some u->h'.get? b=some u)(hp:h.objs.size<=a)(hn:H a=none):Un fs ex H (upd H a o) h h' where
 keep:=λb u q _ _ _=>k b u q
 slot:=λb u q _ _ _=>⟨u.slots,k b u q⟩
 free:=λb u q n _=>by rw[zk (Nat.ne_of_lt (Nat.lt_of_lt_of_le (Heap.lt_size q) hp))];exact n
 there:=λb u q _=>⟨u,k b u q⟩
 tups:=λb xs q=>by rw[zk (z8 q hn)];exact q
 frzs:=λb u xs q=>by rw[zk (z8 q hn)];exact q
 tbls:=λb ps q=>⟨#[],by rw[zk (z8 q hn),q];simp⟩
theorem Un.write (mu:Mut (H x))(he:e=x∨H e=some (.own x))(k:∀b u,b≠e->h.get? b=some u->h'.get? b=some u)(heo:∃u,h'.get? e=some u):Un fs ex H (upd H x o) h h':=by
 have hx:∀b,H b=none->b≠x:=λb n z=>by subst z;rw[n] at mu;exact mu
 have hb:∀b,H b=none->b≠e:=λb n z=>by
  subst z
  rcases he with r | r
  ·exact hx b n r
  ·rw[n] at r;cases r
 have hm:∀b u,H b=some u->¬Mut (some u)->b≠x:=λb u q nm z=>by subst z;rw[q] at mu;exact nm mu
 refine⟨λb u q n _ _=>k b u (hb b n) q,λb u q n _ _=>⟨u.slots,k b u (hb b n) q⟩,λb u q n _=>by rw[zk (hx b n)];exact n,λb u q _=>?_,
  λb xs q=>by rw[zk (hm b _ q λz=>z)];exact q,λb u xs q=>by rw[zk (hm b _ q λz=>z)];exact q,λb ps q=>⟨#[],by rw[zk (hm b _ q λz=>z),q];simp⟩⟩
 by_cases hbe:b=e
 ·subst hbe;exact heo
 ·exact⟨u,k b u hbe q⟩
end
def trk (h:Heap)(H:Hp):List Addr:=(List.range h.objs.size).filter λa=>(H a).isSome
def hidT (h:Heap)(H:Hp):Heap:=PySem.W.hideAll h (trk h H)
theorem Jf (h:Heap)(H:Hp):(hidT h H).objs.size=h.objs.size:=PySem.W.hideAll_size _ _
theorem G5 {h:Heap}{H:Hp}{b:Addr}{o:Obj}(e:h.get? b=some o)(n:H b=none):(hidT h H).get? b=some o :=
 PySem.W.hideAll_get _ e λhm=>by
  have q:(H b).isSome=true:=(List.mem_filter.mp hm).2
  rw[n] at q;simp at q
theorem UQ {h:Heap}{H:Hp}{b:Addr}{o:Obj}(e:(hidT h H).get? b=some o):h.get? b=some o/\H b=none:=by
 have e':h.get? b=some o:=PySem.W.of_hideAll (trk h H) e
 refine⟨e',?_⟩
 cases q:H b with
 |none=>rfl
 |some x=>
  have hm:b∈trk h H:=List.mem_filter.mpr ⟨List.mem_range.mpr (Heap.lt_size e'),by simp[q]⟩
  have z:(hidT h H).get? b=none:=PySem.W.hideAll_none (trk h H) hm
  rw[z] at e;cases e
def Jx (g h:Heap)(L:Addr):List (Addr×Obj):=(List.range h.objs.size).filterMap λa=>if a=L∨(g.get? a).isSome=true then none else (h.get? a).map λo=>(a,o)
def rest (g h:Heap)(L d:Addr):List (Addr×Obj):=(Jx g h L).filter λp=>decide (p.1≠d)
structure Mod (K:PySem.W.Frag)(mg:Str->Option Value)(base:Heap):Prop where
 kin:K.In base
 glob:base.Ns mainGlobals mg
 blt:∃mb,base.Ns builtinsNs mb/\∀x:Str,x ≠ "__name__" -> mb x=bootBuiltins x
 nolimit:base.NoLimit
structure Cx where
 prog:Program
 w:World
 K:PySem.W.Frag
 mg:Str->Option Value
 base:Heap
 A:Around
 N:List Str
 s₀:Shared
 H₀:Hp
 env:Env
 outer:List Env
 stack:List Env
 ex:List Addr
 fn:Str->Bool
 calm:Bool
 pn:List (Addr×Obj)
 xe:Value->Shared->Prop
def frs (l:List Env):List Addr:=l.filterMap (·.frame)
abbrev Cx.fs (X:Cx):List Addr:=frs X.outer
def Vis (sc:Scope)(x:Str):Prop:=sc.names.lookup x=some .local∨sc.names.lookup x=some .cell∨sc.names.lookup x=some .free
def Loc (sc:Scope)(x:Str):Prop:=sc.names.lookup x=some .local∨sc.names.lookup x=some .cell
def Look (env:Env)(h:Heap)(m:Str->Option Value)(x:Str)(u:Value):Prop :=
 (env.kindOf x=some .local/\m x=some u)∨((env.kindOf x=some .cell∨env.kindOf x=some .free)/\∃c,env.cells.lookup x=some c/\h.IsCell c (some u))
structure Cx.Ok (X:Cx):Prop where
 mod:Mod X.K X.mg X.base
 kind:X.env.scope.kind=.function
 glob:X.env.globals=mainGlobals
 blt:X.env.builtins=builtinsNs
 above:X.s₀.heap.objs.size<=X.env.locals
 inj:∀x y c,X.env.cells.lookup x=some c->X.env.cells.lookup y=some c->x=y
 has:∀x,(X.env.kindOf x=some .cell∨X.env.kindOf x=some .free)->∃c,X.env.cells.lookup x=some c
 cab:∀x c,X.fn x=true->X.env.cells.lookup x=some c->X.s₀.heap.objs.size<=c
 hd:X.calm=true->X.A.handled=none
 frames:X.A.frames=some X.stack
 stk:X.stack=X.outer∨(X.stack=X.env::X.outer/\X.env.frame=some X.env.locals)
 exf:∀b∈X.ex,b≠X.env.locals/\∀x c,X.env.cells.lookup x=some c->c≠b
 bs:∀b o,X.base.get? b=some o->X.s₀.heap.get? b=some o/\X.H₀ b=none
 bsz:X.base.objs.size<=X.s₀.heap.objs.size
 noex:∀b o,X.base.get? b=some o->b∉X.ex
 exfs:∀b∈X.ex,b∉X.fs
 funs:X.s₀.heap.FunFrames X.base X.outer
 frf:∀b∈X.fs,X.H₀ b=none
structure Inv (X:Cx)(pins:List (Addr×Obj))(σ:List (Option V))(H:Hp)(s:Shared):Prop where
 ok:X.Ok
 os:s.os=X.s₀.os
 bare:AllBare s.gens
 base:Un X.fs X.ex X.H₀ H X.s₀.heap s.heap
 loc:∃m,s.heap.Ns X.env.locals m/\∀(i:Nat) (x:Str) (v:V),X.N[i]?=some x->σ[i]?=some (some v)->Vis X.env.scope x->∃u,RelV v u/\Look X.env s.heap m x u
 cell:∀x c,X.env.cells.lookup x=some c->∃v,s.heap.IsCell c v
 free:H X.env.locals=none
 freeC:∀x c,X.env.cells.lookup x=some c->H c=none
 pin:∀p∈X.pn++pins,s.heap.get? p.1=some p.2/\H p.1=none/\p.1≠X.env.locals/\p.1∉X.fs/\∀v,p.2.data≠.cell v
 hok:HOk X.prog X.w H s.heap
 len:σ.length=X.N.length
section
variable {X:Cx}{pins:List (Addr×Obj)}{σ:List (Option V)}{H H':Hp}{s:Shared}{h':Heap}
theorem Cx.Ok.nofr (ok:X.Ok){b:Addr}{o:Obj}(e:X.base.get? b=some o):b∉X.fs:=λhb=>by
 have:=(ok.funs.mem hb).1
 rw[e] at this;cases this
theorem Inv.bs (I:Inv X pins σ H s):∀b o,X.base.get? b=some o->s.heap.get? b=some o/\H b=none:=λb o e=>
 ⟨I.base.keep b o (I.ok.bs b o e).1 (I.ok.bs b o e).2 (I.ok.nofr e) (I.ok.noex b o e),I.base.free b o (I.ok.bs b o e).1 (I.ok.bs b o e).2 (I.ok.noex b o e)⟩
theorem Inv.bk (I:Inv X pins σ H s):∀b o,X.base.get? b=some o->s.heap.get? b=some o:=λb o e=>(I.bs b o e).1
theorem Inv.mod (I:Inv X pins σ H s):Mod X.K X.mg X.base:=I.ok.mod
theorem Inv.kIn (I:Inv X pins σ H s):X.K.In s.heap:=I.ok.mod.kin.keeps I.bk
theorem Inv.lt (I:Inv X pins σ H s):X.env.locals < s.heap.objs.size:=let ⟨_,hn,_⟩:=I.loc;hn.lt
theorem Inv.sz (I:Inv X pins σ H s):X.s₀.heap.objs.size<=s.heap.objs.size:=Nat.le_trans I.ok.above (Nat.le_of_lt I.lt)
theorem Inv.nofs (I:Inv X pins σ H s){a:Addr}(h:s.heap.objs.size<=a):a∉X.fs:=λhb=>by
 obtain⟨_,o,ho,_⟩:=I.ok.funs.mem hb
 exact absurd (Nat.lt_of_lt_of_le (Heap.lt_size ho) (Nat.le_trans I.sz h)) (Nat.lt_irrefl _)
theorem Inv.cne (I:Inv X pins σ H s):∀x c,X.env.cells.lookup x=some c->c≠X.env.locals:=λx c e z=>by
 obtain⟨v,o,ho,hd⟩:=I.cell x c e
 obtain⟨m,⟨o',es,ep,ho',hd',_⟩,_⟩:=I.loc
 rw[z,ho'] at ho;cases ho;rw[hd'] at hd;cases hd
theorem Inv.funs (I:Inv X pins σ H s):s.heap.FunFrames X.base X.outer:=by
 have all:∀(l:List Env),(∀b∈frs l,b∈X.fs)->X.s₀.heap.FunFrames X.base l->s.heap.FunFrames X.base l:=by
  intro l
  induction l with
  |nil=>intro _ _;trivial
  |cons env r ih=>
   intro hs hl
   obtain⟨hk,⟨L,o,hf,hn,ho,hd⟩,hr⟩:=hl
   have hL:L∈X.fs:=hs L (by unfold frs;rw[List.filterMap_cons,hf];exact List.mem_cons_self)
   obtain⟨sl,e⟩:=I.base.slot L o ho (I.ok.frf L hL) hL λz=>I.ok.exfs L z hL
   exact⟨hk,⟨L,_,hf,hn,e,hd⟩,ih (λb hb=>hs b (by unfold frs;rw[List.filterMap_cons,hf];exact List.mem_cons_of_mem _ hb)) hr⟩
 exact all X.outer (λ_ hb=>hb) I.ok.funs
theorem Inv.stack (I:Inv X pins σ H s):s.heap.FunFrames X.base X.stack:=by
 rcases I.ok.stk with e | ⟨e,hf⟩
 ·rw[e];exact I.funs
 ·rw[e]
  obtain⟨m,hn,_⟩:=I.loc
  refine .cons (by rw[I.ok.kind];decide) hf hn ?_ I.funs
  exact Heap.get?_none_of_le (Nat.le_trans I.ok.bsz I.ok.above)
theorem Inv.stkSub (I:Inv X pins σ H s):∀b∈frs X.stack,b∈X.env.locals::X.fs:=λb hb=>by
 rcases I.ok.stk with e | ⟨e,hf⟩
 ·rw[e] at hb;exact List.mem_cons_of_mem _ hb
 ·rw[e] at hb
  unfold frs at hb
  rw[List.filterMap_cons,hf] at hb
  exact hb
theorem Inv.stkFree (I:Inv X pins σ H s):∀b∈frs X.stack,H b=none:=λb hb=>by
 rcases List.mem_cons.mp (I.stkSub b hb) with e | hb
 ·rw[e];exact I.free
 ·obtain⟨_,o,ho,_⟩:=I.ok.funs.mem hb
  exact I.base.free b o ho (I.ok.frf b hb) λz=>I.ok.exfs b z hb
theorem Inv.step {g':Array GenState}{t':Nat}{d':Drawn}{ch:List Addr}(I:Inv X pins σ H s)
  (hch:∀b∈ch,(b∈X.ex∨X.s₀.heap.objs.size<=b)/\b≠X.env.locals/\(∀x c,X.env.cells.lookup x=some c->c≠b)/\∀p∈X.pn++pins,p.1≠b)
  (keep:∀b o,b≠X.env.locals->b∉X.fs->b∉ch->s.heap.get? b=some o->H b=none->h'.get? b=some o)
  (slot:∀b o,b≠X.env.locals->b∈X.fs->b∉ch->s.heap.get? b=some o->H b=none->∃sl,h'.get? b=some { o with slots:=sl }) (free:∀b o,b∉ch->s.heap.get? b=some o->H b=none->H' b=none)
  (there:∀b o,b∉ch->s.heap.get? b=some o->∃o',h'.get? b=some o')
  (tups:∀b xs,H b=some (.tup xs)->H' b=some (.tup xs)) (frzs:∀b o u,H b=some (.frz o u)->H' b=some (.frz o u)) (tbls:∀b ps,H b=some (.tbl ps)->∃more,H' b=some (.tbl (ps++more)))
  (ns:∀m,s.heap.Ns X.env.locals m->h'.Ns X.env.locals m) (hok:HOk X.prog X.w H' h') (hg:AllBare g') :
  Inv X pins σ H' { s with heap:=h',gens:=g',drawn:=d',toks:=t' }:=by
 have neL:∀b o,X.s₀.heap.get? b=some o->b≠X.env.locals:=λb o e=>Nat.ne_of_lt (Nat.lt_of_lt_of_le (Heap.lt_size e) I.ok.above)
 have neC:∀b o,X.s₀.heap.get? b=some o->b∉X.ex->b∉ch:=λb o e hx hb=>by
  rcases (hch b hb).1 with z | z
  ·exact hx z
  ·exact absurd (Nat.lt_of_lt_of_le (Heap.lt_size e) z) (Nat.lt_irrefl _)
 have cellK:∀x c,X.env.cells.lookup x=some c->∀v,s.heap.IsCell c v->h'.IsCell c v:=λx c e v ⟨o,ho,hd⟩=>by
  have nch:c∉ch:=λz=>(hch c z).2.2.1 x c e rfl
  by_cases hc:c∈X.fs
  ·obtain⟨sl,q⟩:=slot c o (I.cne x c e) hc nch ho (I.freeC x c e)
   exact⟨_,q,hd⟩
  ·exact⟨o,keep c o (I.cne x c e) hc nch ho (I.freeC x c e),hd⟩
 refine⟨I.ok,I.os,hg,⟨λb o e n hb hx=>?_,λb o e n hb hx=>?_,λb o e n hx=>?_,λb o e hx=>?_,λb xs e=>tups b xs (I.base.tups b xs e),λb o xs e=>frzs b o xs (I.base.frzs b o xs e),λb ps e=>?_⟩,?_,λx c e=>?_,?_,λx c e=>?_,λp hp=>?_,hok,I.len⟩
 ·exact keep b o (neL b o e) hb (neC b o e hx) (I.base.keep b o e n hb hx) (I.base.free b o e n hx)
 ·obtain⟨sl,e1⟩:=I.base.slot b o e n hb hx
  obtain⟨sl',e2⟩:=slot b _ (neL b o e) hb (neC b o e hx) e1 (I.base.free b o e n hx)
  exact⟨sl',e2⟩
 ·obtain⟨o',e1⟩:=I.base.there b o e hx
  exact free b o' (neC b o e hx) e1 (I.base.free b o e n hx)
 ·obtain⟨o',e1⟩:=I.base.there b o e hx
  exact there b o' (neC b o e hx) e1
 ·obtain⟨m1,e1⟩:=I.base.tbls b ps e
  obtain⟨m2,e2⟩:=tbls b _ e1
  exact⟨m1++m2,by rw[e2,Array.append_assoc]⟩
 ·obtain⟨m,hn,hl⟩:=I.loc
  refine⟨m,ns m hn,λi x v e1 e2 e3=>?_⟩
  obtain⟨u,r,l⟩:=hl i x v e1 e2 e3
  refine⟨u,r,?_⟩
  rcases l with l | ⟨k,c,e,z⟩
  ·exact .inl l
  ·exact .inr ⟨k,c,e,cellK x c e _ z⟩
 ·obtain⟨v,z⟩:=I.cell x c e
  exact⟨v,cellK x c e v z⟩
 ·obtain⟨m,⟨o,_,_,ho,_⟩,_⟩:=I.loc
  exact free _ o (λz=>(hch _ z).2.1 rfl) ho I.free
 ·obtain⟨v,o,ho,hd⟩:=I.cell x c e
  exact free c o (λz=>(hch c z).2.2.1 x c e rfl) ho (I.freeC x c e)
 ·obtain⟨e,n,ne,nf,d⟩:=I.pin p hp
  have nch:p.1∉ch:=λz=>(hch p.1 z).2.2.2 p hp rfl
  exact⟨keep p.1 p.2 ne nf nch e n,free p.1 p.2 nch e n,ne,nf,d⟩
theorem Inv.un {t':Nat}(I:Inv X pins σ H s)(u:Un X.fs [] H H' s.heap h')(hok:HOk X.prog X.w H' h'):Inv X pins σ H' { s with heap:=h',toks:=t' }:=by
 obtain⟨m,⟨o,es,ep,ho,r⟩,_⟩:=id I.loc
 obtain⟨sl,hL⟩:=u.any ho I.free (by simp)
 exact I.step (g':=s.gens) (d':=s.drawn) (ch:=[]) (λ_ z=>nomatch z) (λb o _ hb _ e n=>u.keep b o e n hb (by simp)) (λb o _ hb _ e n=>u.slot b o e n hb (by simp)) (λb o _ e n=>u.free b o e n (by simp)) (λb o _ e=>u.there b o e (by simp)) u.tups u.frzs u.tbls (λm' hm=>by
  obtain⟨o',es',ep',ho',r'⟩:=hm
  rw[ho] at ho';cases ho'
  exact⟨_,es',ep',hL,r'⟩) hok I.bare
theorem Inv.call {g':Array GenState}{t':Nat}{d':Drawn}{ch:List Addr}(I:Inv X pins σ H s)(u:Un (frs X.stack) ch H H' s.heap h')(hok:HOk X.prog X.w H' h')(hg:AllBare g')
  (hch:∀b∈ch,(b∈X.ex∨X.s₀.heap.objs.size<=b)/\b≠X.env.locals/\(∀x c,X.env.cells.lookup x=some c->c≠b)/\∀p∈X.pn++pins,p.1≠b) :
  Inv X pins σ H' { s with heap:=h',gens:=g',drawn:=d',toks:=t' }:=by
 obtain⟨m,⟨o,es,ep,ho,r⟩,_⟩:=id I.loc
 obtain⟨sl,hL⟩:=u.any ho I.free λz=>(hch _ z).2.1 rfl
 exact I.step (ch:=ch) hch (λb o hL hb hc e n=>u.keep b o e n (λz=>(List.mem_cons.mp (I.stkSub b z)).elim hL hb) hc) (λb o _ _ hc e n=>u.any e n hc) (λb o hc e n=>u.free b o e n hc) (λb o hc e=>u.there b o e hc) u.tups u.frzs u.tbls (λm' hm=>by
  obtain⟨o',es',ep',ho',r'⟩:=hm
  rw[ho] at ho';cases ho'
  exact⟨_,es',ep',hL,r'⟩) hok hg
theorem Inv.turned {t':Nat}{it:Addr}(I:Inv X pins σ H s)(k:∀b o,b≠it->s.heap.get? b=some o->h'.get? b=some o)(hn:H it=none)(hL:it≠X.env.locals)
  (h1:it∈X.ex∨X.s₀.heap.objs.size<=it) (h2:∀x c,X.env.cells.lookup x=some c->c≠it) (h3:∀p∈X.pn++pins,p.1≠it):Inv X pins σ H { s with heap:=h',toks:=t' }:=by
 have nit:∀b u,H b=some u->b≠it:=λb u e z=>by rw[z,hn] at e;cases e
 refine I.step (g':=s.gens) (d':=s.drawn) (ch:=[it]) (λb hb=>?_) (λb o _ _ hc e _=>k b o (λz=>hc (by simp[z])) e) (λb o _ _ hc e _=>⟨o.slots,k b o (λz=>hc (by simp[z])) e⟩) (λ_ _ _ _ n=>n)
  (λb o hc e=>⟨o,k b o (λz=>hc (by simp[z])) e⟩) (λ_ _ e=>e) (λ_ _ _ e=>e) (λb ps e=>⟨#[],by rw[e];simp⟩) (λm hm=>?_) (λb u e=>?_) I.bare
 ·have e:b=it:=by simpa using hb
  subst e
  exact⟨h1,hL,h2,h3⟩
 ·obtain⟨o,es,ep,ho,r⟩:=hm
  exact⟨o,es,ep,k _ o (Ne.symm hL) ho,r⟩
 ·refine (I.hok b u e).stay (λc v hc q=>k c v ?_ q) (λ_ q=>q) λ_ _ q=>q
  rcases hc with z | z
  ·rw[z];exact nit b u e
  ·exact nit c _ z
theorem Inv.tok (I:Inv X pins σ H s)(t:Nat):Inv X pins σ H { s with toks:=t }:=I.un (h':=s.heap) (t':=t) Un.refl I.hok
theorem Inv.kept {t':Nat}(I:Inv X pins σ H s)(k:∀b u,s.heap.get? b=some u->h'.get? b=some u):Inv X pins σ H { s with heap:=h',toks:=t' }:=I.un (Un.kept k) (I.hok.kept k)
theorem Inv.laid {a:Addr}{o:HO}{t':Nat}(I:Inv X pins σ H s)(k:∀b u,s.heap.get? b=some u->h'.get? b=some u)(hp:s.heap.objs.size<=a)(new:ObjOk X.prog X.w (upd H a o) h' a o) :
  Inv X pins σ (upd H a o) { s with heap:=h',toks:=t' }:=I.un (Un.laid k hp (I.hok.fresh hp)) (I.hok.laid k hp new)
theorem Inv.write {x e:Addr}{o:HO}{t':Nat}(I:Inv X pins σ H s)(mu:Mut (H x))(he:e=x∨H e=some (.own x))(k:∀b u,b≠e->s.heap.get? b=some u->h'.get? b=some u)(heo:∃u,h'.get? e=some u)
  (new:ObjOk X.prog X.w (upd H x o) h' x o):Inv X pins σ (upd H x o) { s with heap:=h',toks:=t' }:=I.un (Un.write mu he k heo) (I.hok.write mu he k heo new)
theorem Inv.pins_of {pins':List (Addr×Obj)}(I:Inv X pins σ H s)(h:∀p∈pins',s.heap.get? p.1=some p.2/\H p.1=none/\p.1≠X.env.locals/\p.1∉X.fs/\∀v,p.2.data≠.cell v):Inv X pins' σ H s :=
 ⟨I.ok,I.os,I.bare,I.base,I.loc,I.cell,I.free,I.freeC,λp hp=>(List.mem_append.mp hp).elim (λz=>I.pin p (List.mem_append_left _ z)) (h p),I.hok,I.len⟩
theorem Vx {N:List Str}(hN:N.Nodup){i j:Nat}{x:Str}(a:N[i]?=some x)(b:N[j]?=some x):i=j:=by
 obtain⟨h1,e1⟩:=List.getElem?_eq_some_iff.mp a
 obtain⟨h2,e2⟩:=List.getElem?_eq_some_iff.mp b
 exact (List.getElem_inj hN).mp (e1.trans e2.symm)
theorem Wh {M:Model}{A:Around}{E:Value->Shared->Prop}{i:Nat}{x:Str}{v:V}{u:Value}{Q:Unit->Shared->Prop}(I:Inv X pins σ H s)(hN:X.N.Nodup)(hi:X.N[i]?=some x)(hx:Loc X.env.scope x)(r:RelV v u)
  (h:∀s',Inv X pins (σ.set i (some v)) H s'->(∃a,Heap.SameBut a s.heap s'.heap/\(a=X.env.locals∨X.env.cells.lookup x=some a))->Q () s') (hf:X.fn x=true∨X.env.scope.names.lookup x=some .local:=by first | exact .inl rfl | exact .inr rfl | assumption):wpAny M A (storeName X.env x u) Q E s:=by
 obtain⟨m,hn,hl⟩:=id I.loc
 have hcls:(X.env.scope.kind==.class||(X.env.scope.kind==.module&&X.env.locals != X.env.globals))=false:=by rw[I.ok.kind];rfl
 have hiσ:i < σ.length:=by rw[I.len];exact (List.getElem?_eq_some_iff.mp hi).1
 have cne:=I.cne
 have tracked:∀ {a:Addr} {h':Heap},(∃o,s.heap.get? a=some o/\H a=none)->Heap.SameBut a s.heap h'->HOk X.prog X.w H h':=fun {a h'} ha hs b ob e=>by
  obtain⟨_,_,hfree⟩:=ha
  refine (I.hok b ob e).stay (λc w' hc q=>(hs.2 c ?_).trans q) (λ_ q=>q) λ_ _ q=>q
  rintro rfl
  rcases hc with rfl | hc
  ·rw[hfree] at e;cases e
  ·rw[hfree] at hc;cases hc
 rcases hx with hk | hk
 ·refine wpAny_storeName_local hk hn (λh' hn' hs=>?_) hcls
  obtain⟨oL,_,_,hoL,_⟩:=id hn
  refine h _ ⟨I.ok,I.os,I.bare,⟨λb o e n hb hx=>?_,λb o e n hb hx=>?_,I.base.free,λb o e hx=>?_,I.base.tups,I.base.frzs,I.base.tbls⟩,⟨_,hn',λj y v' e1 e2 e3=>?_⟩,λy c e=>?_,I.free,I.freeC,λp hp=>?_,tracked ⟨oL,hoL,I.free⟩ hs,by simpa using I.len⟩ ⟨_,hs,.inl rfl⟩
  ·exact (hs.2 b (Nat.ne_of_lt (Nat.lt_of_lt_of_le (Heap.lt_size e) I.ok.above))).trans (I.base.keep b o e n hb hx)
  ·obtain⟨sl,e1⟩:=I.base.slot b o e n hb hx
   exact⟨sl,(hs.2 b (Nat.ne_of_lt (Nat.lt_of_lt_of_le (Heap.lt_size e) I.ok.above))).trans e1⟩
  ·obtain⟨o',e1⟩:=I.base.there b o e hx
   exact⟨o',(hs.2 b (Nat.ne_of_lt (Nat.lt_of_lt_of_le (Heap.lt_size e) I.ok.above))).trans e1⟩
  ·by_cases hj:j=i
   ·subst hj
    rw[hi] at e1;cases e1
    rw[List.getElem?_set_self hiσ] at e2
    cases e2
    exact⟨u,r,.inl ⟨hk,by simp⟩⟩
   ·rw[List.getElem?_set_ne (Ne.symm hj)] at e2
    obtain⟨u',r',q⟩:=hl j y v' e1 e2 e3
    refine⟨u',r',?_⟩
    rcases q with⟨k,e⟩ | ⟨k,c,e,z⟩
    ·refine .inl ⟨k,?_⟩
     have:y≠x:=λe=>hj (Vx hN e1 (e ▸ hi))
     simp[this,e]
    ·exact .inr ⟨k,c,e,z.sameBut hs (cne y c e)⟩
  ·obtain⟨w',z⟩:=I.cell y c e
   exact⟨w',z.sameBut hs (cne y c e)⟩
  ·obtain⟨e,n,ne,nf,d⟩:=I.pin p hp
   exact⟨(hs.2 p.1 ne).trans e,n,ne,nf,d⟩
 ·have hfn:X.fn x=true:=by
   rcases hf with z | z
   ·exact z
   ·rw[z] at hk;cases hk
  obtain⟨c,hc⟩:=I.ok.has x (.inl hk)
  obtain⟨w',z⟩:=I.cell x c hc
  refine wpAny_storeName_cell I.ok.kind hk hc z (λh' hc' hs=>?_)
  obtain⟨oc,hoc,hocd⟩:=id z
  refine h { s with heap:=h' } ⟨I.ok,I.os,I.bare,⟨λb o e n hb hx=>?_,λb o e n hb hx=>?_,I.base.free,λb o e hx=>?_,I.base.tups,I.base.frzs,I.base.tbls⟩,⟨m,hn.sameBut hs (Ne.symm (cne x c hc)),λj y v' e1 e2 e3=>?_⟩,λy c' e=>?_,I.free,I.freeC,λp hp=>?_,tracked ⟨oc,hoc,I.freeC x c hc⟩ hs,by simpa using I.len⟩ ⟨c,hs,.inr hc⟩
  ·exact (hs.2 b (Nat.ne_of_lt (Nat.lt_of_lt_of_le (Heap.lt_size e) (I.ok.cab x c hfn hc)))).trans (I.base.keep b o e n hb hx)
  ·obtain⟨sl,e1⟩:=I.base.slot b o e n hb hx
   exact⟨sl,(hs.2 b (Nat.ne_of_lt (Nat.lt_of_lt_of_le (Heap.lt_size e) (I.ok.cab x c hfn hc)))).trans e1⟩
  ·obtain⟨o',e1⟩:=I.base.there b o e hx
   exact⟨o',(hs.2 b (Nat.ne_of_lt (Nat.lt_of_lt_of_le (Heap.lt_size e) (I.ok.cab x c hfn hc)))).trans e1⟩
  ·by_cases hj:j=i
   ·subst hj
    rw[hi] at e1;cases e1
    rw[List.getElem?_set_self hiσ] at e2
    cases e2
    exact⟨u,r,.inr ⟨.inl hk,c,hc,hc'⟩⟩
   ·rw[List.getElem?_set_ne (Ne.symm hj)] at e2
    obtain⟨u',r',q⟩:=hl j y v' e1 e2 e3
    refine⟨u',r',?_⟩
    rcases q with q | ⟨k,c',e,z'⟩
    ·exact .inl q
    ·refine .inr ⟨k,c',e,z'.sameBut hs ?_⟩
     rintro rfl
     exact hj (Vx hN e1 (I.ok.inj _ _ _ e hc ▸ hi))
  ·by_cases hcc:c'=c
   ·subst hcc;exact⟨_,hc'⟩
   ·obtain⟨w2,z2⟩:=I.cell y c' e
    exact⟨w2,z2.sameBut hs hcc⟩
  ·obtain⟨e,n,ne,nf,d⟩:=I.pin p hp
   refine⟨(hs.2 p.1 ?_).trans e,n,ne,nf,d⟩
   intro q
   rw[q,hoc] at e
   have q':oc=p.2:=Option.some.inj e
   exact d w' (by rw[<-q'];exact hocd)
theorem Vc {M:Model}{A:Around}{E:Value->Shared->Prop}{i:Nat}{x:Str}{v:V}{u:Value}{Q:Unit->Shared->Prop}(I:Inv X pins σ H s)(hN:X.N.Nodup)(hi:X.N[i]?=some x)(hx:Loc X.env.scope x)(r:RelV v u)
  (h:∀s',Inv X pins (σ.set i (some v)) H s'->Q () s') (hf:X.fn x=true∨X.env.scope.names.lookup x=some .local:=by first | exact .inl rfl | exact .inr rfl | assumption):wpAny M A (storeName X.env x u) Q E s :=
 Wh I hN hi hx r (λs' I' _=>h s' I') hf
theorem Inv.call' {s':Shared}{ch:List Addr}(I:Inv X pins σ H s)(ho:s'.os=s.os)(u:Un (frs X.stack) ch H H' s.heap s'.heap)(hok:HOk X.prog X.w H' s'.heap)(hg:AllBare s'.gens)
  (hch:∀b∈ch,(b∈X.ex∨X.s₀.heap.objs.size<=b)/\b≠X.env.locals/\(∀x c,X.env.cells.lookup x=some c->c≠b)/\∀p∈X.pn++pins,p.1≠b):Inv X pins σ H' s':=by
 obtain⟨h',g',d',t',o'⟩:=s'
 have e:o'=s.os:=ho
 subst e
 exact I.call (g':=g') (t':=t') (d':=d') u hok hg hch
end
abbrev XK:=Value->Option Addr->Hp->Prop
abbrev St:=List (Option V)
abbrev VK:=V->Hp->Prop
abbrev TE:=St->Hp->VK->Prop
abbrev TT:=St->Hp->(Bool->Hp->Prop)->Prop
abbrev TA:=St->Hp->(List V->Hp->Prop)->Prop
structure Ends where
 nx:St->Hp->Prop
 rt:VK
 bk:St->Hp->Prop:=λ_ _=>False
 ct:St->Hp->Prop:=λ_ _=>False
abbrev TS:=Ends->St->Hp->Prop
def EP (X:Cx)(pins:List (Addr×Obj))(σ:St)(Q:VK)(u:Value)(s':Shared):Prop:=∃v H',Inv X pins σ H' s'/\RelV v u/\Q v H'
def TP (X:Cx)(pins:List (Addr×Obj))(σ:St)(Q:Bool->Hp->Prop)(b:Bool)(s':Shared):Prop:=∃H',Inv X pins σ H' s'/\Q b H'
def AP (X:Cx)(pins:List (Addr×Obj))(σ:St)(Q:List V->Hp->Prop)(us:List Value)(s':Shared):Prop:=∃vs H',Inv X pins σ H' s'/\Vals vs us/\Q vs H'
def SP (X:Cx)(pins:List (Addr×Obj))(D:Ends)(f:Flow)(s':Shared):Prop :=
 match f with
 |.next=>∃σ' H',Inv X pins σ' H' s'/\D.nx σ' H'
 |.brk=>∃σ' H',Inv X pins σ' H' s'/\D.bk σ' H'
 |.cont=>∃σ' H',Inv X pins σ' H' s'/\D.ct σ' H'
 |.ret u=>∃v σ' H',Inv X pins σ' H' s'/\RelV v u/\D.rt v H'
def PE (X:Cx)(e:Expr)(t:TE):Prop :=
 ∀(pins:List (Addr×Obj)) (s:Shared) (σ:St) (H:Hp) (Q:VK),Inv X pins σ H s->t σ H Q->wpAny (model X.prog X.w) X.A (eval e X.env) (EP X pins σ Q) X.xe s
def PT (X:Cx)(e:Expr)(t:TT):Prop :=
 ∀(pins:List (Addr×Obj)) (s:Shared) (σ:St) (H:Hp) (Q:Bool->Hp->Prop),Inv X pins σ H s->t σ H Q->wpAny (model X.prog X.w) X.A (isTrue e X.env (eval e X.env)) (TP X pins σ Q) X.xe s
def PW (X:Cx)(e:Expr)(t:TT):Prop :=
 ∀(whole:Sem Value) (pins:List (Addr×Obj)) (s:Shared) (σ:St) (H:Hp) (Q:Bool->Hp->Prop),Inv X pins σ H s->t σ H Q->wpAny (model X.prog X.w) X.A (isTrue e X.env whole) (TP X pins σ Q) X.xe s
theorem PW.pt {X:Cx}{e:Expr}{t:TT}(h:PW X e t):PT X e t:=h _
def PA (X:Cx)(es:List Expr)(t:TA):Prop :=
 ∀(pos:Pos) (pins:List (Addr×Obj)) (s:Shared) (σ:St) (H:Hp) (Q:List V->Hp->Prop),Inv X pins σ H s->t σ H Q->wpAny (model X.prog X.w) X.A (spliced (backTo pos (starEach es X.env))) (AP X pins σ Q) X.xe s
def PS (X:Cx)(st:Stmt)(t:TS):Prop :=
 ∀(pins:List (Addr×Obj)) (s:Shared) (σ:St) (H:Hp) (D:Ends),Inv X pins σ H s->t D σ H->wpAny (model X.prog X.w) X.A (exec st X.env) (SP X pins D) X.xe s
def PSs (X:Cx)(st:List Stmt)(t:TS):Prop :=
 ∀(pins:List (Addr×Obj)) (s:Shared) (σ:St) (H:Hp) (D:Ends),Inv X pins σ H s->t D σ H->wpAny (model X.prog X.w) X.A (execs st X.env) (SP X pins D) X.xe s
theorem thn {α:Type}{t:Sem α}{Q Q':α->Shared->Prop}{M:Model}{A:Around}{E:Value->Shared->Prop}{s:Shared}(h:wpAny M A t Q E s)(hQ:∀a s,Q a s->Q' a s):wpAny M A t Q' E s:=wpAny_mono h hQ λ_ _ x=>x
section
variable {X:Cx}
def tVar (i:Nat):TE:=λσ H Q=>∃v,σ[i]?=some (some v)/\Q v H
def tC (v:V):TE:=λ_ H Q=>Q v H
theorem GD {i:Nat}{x:Str}{pos:Pos}(hN:X.N[i]?=some x)(hv:Vis X.env.scope x)(hd:(x==("__debug__" : Str))=false:=by decide) (hcd:(x==("__classdict__" : Str))=false:=by decide):PE X (.Name x pos) (tVar i):=by
 intro pins s σ H Q I h
 obtain⟨v,e,h⟩:=h
 obtain⟨m,hn,hl⟩:=I.loc
 obtain⟨u,r,l⟩:=hl i x v hN e hv
 have fin:EP X pins σ Q u s:=⟨v,H,I,r,h⟩
 rcases l with⟨hk,hm⟩ | ⟨hk,c,hc,hcell⟩
 ·exact wpAny_Name (wpAny_loadName_local I.ok.kind hk hn hm fin) hd
 ·rcases hk with hk | hk
  ·exact wpAny_Name (wpAny_loadName_cell I.ok.kind hk hc hcell fin) hd
  ·exact wpAny_Name (wpAny_loadName_free I.ok.kind hk hc hcell fin hcd) hd
theorem ur {i j pos}:PE X (.Constant (.int i) j pos) (tC (.int i)):=λ_ _ _ H _ I h=>wpAny_Constant_int ⟨.int i,H,I.tok _,⟨_,rfl⟩,h⟩
theorem Qn {b j pos}:PE X (.Constant (.bool b) j pos) (tC (.bl b)):=λ_ _ _ H _ I h=>Constant_bool ⟨.bl b,H,I,rfl,h⟩
theorem JI {j pos}:PE X (.Constant .none j pos) (tC .non):=λ_ _ _ H _ I h=>Constant_none ⟨.non,H,I,rfl,h⟩
theorem Y2 {x j pos}:PE X (.Constant (.str x) j pos) (tC (.str x)):=λ_ _ _ H _ I h=>Calls.Constant_str ⟨.str x,H,I.tok _,⟨_,rfl⟩,h⟩
def Gl (X:Cx)(x:Str):Prop:=X.env.kindOf x=some .globalImplicit
theorem jh {E:Value->Shared->Prop}{pins:List (Addr×Obj)}{s:Shared}{σ:St}{H:Hp}{x:Str}{u:Value}{pos:Pos}{Q:Value->Shared->Prop}(I:Inv X pins σ H s)(hg:Gl X x)(hm:X.mg x=some u)(h:Q u s)
  (hd:(x==("__debug__" : Str))=false:=by decide):wpAny (model X.prog X.w) X.A (eval (.Name x pos) X.env) Q E s :=
 Calls.Name_function_global I.ok.kind hg (Calls.loadGlobal_global (by rw[I.ok.glob];exact I.mod.glob.keeps I.bk) hm h) hd
theorem wK {E:Value->Shared->Prop}{pins:List (Addr×Obj)}{s:Shared}{σ:St}{H:Hp}{x:Str}{u:Value}{pos:Pos}{Q:Value->Shared->Prop}(I:Inv X pins σ H s)(hg:Gl X x)(hm:X.mg x=none)(hv:bootBuiltins x=some u)(h:Q u s)
  (hn:x ≠ "__name__" := by decide) (hd:(x==("__debug__" : Str))=false:=by decide):wpAny (model X.prog X.w) X.A (eval (.Name x pos) X.env) Q E s:=by
 obtain⟨mb,h1,h2⟩:=I.mod.blt
 exact Calls.Name_function_global I.ok.kind hg (Calls.loadGlobal_builtin (by rw[I.ok.glob];exact I.mod.glob.keeps I.bk) hm (by rw[I.ok.blt];exact h1.keeps I.bk) ((h2 x hn).trans hv) h) hd
theorem WQ {x:Str}{v:V}{u:Value}{pos:Pos}(hg:Gl X x)(hm:X.mg x=some u)(r:RelV v u)(hd:(x==("__debug__" : Str))=false:=by decide):PE X (.Name x pos) (tC v) :=
 λ_ _ _ H _ I h=>jh I hg hm ⟨v,H,I,r,h⟩ hd
theorem VX {x:Str}{v:V}{u:Value}{pos:Pos}(hg:Gl X x)(hm:X.mg x=none)(hv:bootBuiltins x=some u)(r:RelV v u)(hn:x ≠ "__name__" := by decide) (hd:(x==("__debug__" : Str))=false:=by decide):PE X (.Name x pos) (tC v) :=
 λ_ _ _ H _ I h=>wK I hg hm hv ⟨v,H,I,r,h⟩ hn hd
variable {a b:Expr}{ta tb:TE}{pos:Pos}
def PC (X:Cx)(op:CmpOp)(a b:Expr)(t:TE):Prop :=
 ∀(pins:List (Addr×Obj)) (s:Shared) (σ:St) (H:Hp) (Q:VK),Inv X pins σ H s->t σ H Q ->
  wpAny (model X.prog X.w) X.A (eval a X.env) (λv s₁=>wpAny (model X.prog X.w) X.A (eval b X.env) (λu s₂=>wpAny (model X.prog X.w) X.A (compareOp op v u) (EP X pins σ Q) X.xe s₂) X.xe s₁) X.xe s
def tB (t:TE):TT:=λσ H Q=>t σ H λx H1=>∃c,x=.bl c/\Q c H1
theorem KO {op:CmpOp}{t:TE}(h:PC X op a b t)(h1:behindInMarks op b=false:=by first | exact nobehind _ (by decide) (by decide) | rfl):PT X (.Compare a [op] [b] pos) (tB t):=by
 intro pins s σ H Q I hw
 refine wpAny_isTrue_Compare1 (thn (h pins s σ H _ I hw) λv s1 h1=>thn h1 λu s2 h2=>thn h2 λc s3 ⟨x,H1,I1,r1,q1⟩=>?_) h1
 obtain⟨d,rfl,q⟩:=q1
 cases r1
 exact wpAny_truthy_bool ⟨H1,I1,q⟩
variable {tA tB':TT}{rest:List Expr}
def tAnd (t u:TT):TT:=λσ H Q=>t σ H λc H1=>if c=true then u σ H1 Q else Q false H1
def tOr (t u:TT):TT:=λσ H Q=>t σ H λc H1=>if c=true then Q true H1 else u σ H1 Q
def tNot (t:TT):TT:=λσ H Q=>t σ H λc H1=>Q (!c) H1
theorem U1 (ha:PT X a tA):PW X (.BoolOp .And [a] pos) tA:=by
 intro wh pins s σ H Q I h
 refine isTrue_and (thn (ha pins s σ H Q I h) λc s1 e=>?_)
 cases c with
 |true=>exact isTrue_and_nil e
 |false=>exact e
theorem KT (ha:PT X a tA):PW X (.BoolOp .Or [a] pos) tA:=by
 intro wh pins s σ H Q I h
 refine isTrue_or (thn (ha pins s σ H Q I h) λc s1 e=>?_)
 cases c with
 |false=>exact isTrue_or_nil e
 |true=>exact e
theorem Gd (ha:PT X a tA)(hb:PW X (.BoolOp .And (b::rest) pos) tB'):PW X (.BoolOp .And (a::b::rest) pos) (tAnd tA tB'):=by
 intro wh pins s σ H Q I h
 refine isTrue_and (thn (ha pins s σ H _ I h) λc s1 ⟨H1,I1,q1⟩=>?_)
 cases c with
 |true=>exact hb wh pins s1 σ H1 Q I1 q1
 |false=>exact⟨H1,I1,q1⟩
theorem Rc (ha:PT X a tA)(hb:PW X (.BoolOp .Or (b::rest) pos) tB'):PW X (.BoolOp .Or (a::b::rest) pos) (tOr tA tB'):=by
 intro wh pins s σ H Q I h
 refine isTrue_or (thn (ha pins s σ H _ I h) λc s1 ⟨H1,I1,q1⟩=>?_)
 cases c with
 |true=>exact⟨H1,I1,q1⟩
 |false=>exact hb wh pins s1 σ H1 Q I1 q1
theorem Ub (ha:PT X a tA):PT X (.UnaryOp .Not a pos) (tNot tA):=by
 intro pins s σ H Q I h
 exact isTrue_not (ha pins s σ H (λc H1=>Q (!c) H1) I h)
def tAndV (ta tb:TE):TE:=λσ H Q=>ta σ H λx H1=>∃c,x=.bl c/\if c=true then tb σ H1 Q else Q (.bl false) H1
def tNotV (ta:TE):TE:=λσ H Q=>ta σ H λx H1=>∃c,x=.bl c/\Q (.bl (!c)) H1
theorem R7 {op}{t:TE}(h:PE X a t):PE X (.BoolOp op [a] pos) t:=λpins s σ H Q I hw=>BoolOp_one (h pins s σ H Q I hw)
theorem UD (ha:PE X a ta)(hb:PE X (.BoolOp .And (b::rest) pos) tb):PE X (.BoolOp .And (a::b::rest) pos) (tAndV ta tb):=by
 intro pins s σ H Q I h
 refine BoolOp_and (thn (ha pins s σ H _ I h) λv s1 ⟨x,H1,I1,r1,q1⟩=>?_)
 obtain⟨c,rfl,q1⟩:=q1
 cases r1
 refine wpAny_truthy_bool ?_
 cases c with
 |true=>exact hb pins s1 σ H1 Q I1 q1
 |false=>exact⟨.bl false,H1,I1,rfl,q1⟩
theorem UJ (ha:PE X a ta):PE X (.UnaryOp .Not a pos) (tNotV ta):=by
 intro pins s σ H Q I h
 refine UnaryOp_ (thn (ha pins s σ H _ I h) λv s1 ⟨x,H1,I1,r1,q1⟩=>?_)
 obtain⟨c,rfl,q1⟩:=q1
 cases r1
 exact not_of (wpAny_truthy_bool ⟨.bl (!c),H1,I1,rfl,q1⟩)
def tIf (t:TT)(ta tb:TE):TE:=λσ H Q=>t σ H λc H1=>if c=true then ta σ H1 Q else tb σ H1 Q
theorem W1 {c:Expr}(hc:PT X c tA)(ha:PE X a ta)(hb:PE X b tb):PE X (.IfExp c a b pos) (tIf tA ta tb):=by
 intro pins s σ H Q I h
 refine wpAny_IfExp (thn (hc pins s σ H _ I h) λd s1 ⟨H1,I1,q1⟩=>?_)
 cases d with
 |true=>exact ha pins s1 σ H1 Q I1 q1
 |false=>exact hb pins s1 σ H1 Q I1 q1
end
def SqL (K:PySem.W.Frag)(H:Hp)(a:Addr)(xs:List V):Prop :=
 Rd H a (.lst xs) ∨
  ∃(o:Obj) (its:Array Value) (n:Nat),K.lookup a=some o/\o.cls=.type "list" /\ o.dict=none/\o.data=.seq its n/\its.size<=sizeLine/\Vals xs its.toList
def SqT (K:PySem.W.Frag)(H:Hp)(a:Addr)(xs:List V):Prop :=
 Rd H a (.tup xs) ∨
  ∃(o:Obj) (its:Array Value) (n:Nat),K.lookup a=some o/\o.cls=.type "tuple" /\ o.data=.seq its n/\its.size<=sizeLine/\Vals xs its.toList
def absV:Value->Option V
 |.none=>some .non
 |.bool b=>some (.bl b)
 |.int i _=>some (.int i)
 |.str x _=>some (.str x)
 |.bytes b _=>some (.byt b)
 |.float b _=>some (.flt b)
 |.ref a=>some (.ref a)
 |.type n=>some (.ty n)
 |_=>none
theorem RelV.abs {x:V}{u:Value}(r:RelV x u):absV u=some x:=by
 cases x with
 |non=>cases r;rfl
 |bl _=>cases r;rfl
 |int _=>obtain⟨t,rfl⟩:=r;rfl
 |str _=>obtain⟨t,rfl⟩:=r;rfl
 |byt _=>obtain⟨t,rfl⟩:=r;rfl
 |flt _=>obtain⟨t,rfl⟩:=r;rfl
 |ref _=>cases r;rfl
 |ty _=>cases r;rfl
theorem RelV.inj {x y:V}{u:Value}(r:RelV x u)(q:RelV y u):x=y:=Option.some.inj (r.abs.symm.trans q.abs)
theorem Vals.inj:∀ {xs ys:List V} {us:List Value},Vals xs us->Vals ys us->xs=ys
 |_,_,_,.nil,.nil=>rfl
 |_,_,_,.cons r t,.cons r' t'=>by rw[r.inj r',Vals.inj t t']
section
variable {X:Cx}{pins:List (Addr×Obj)}{σ:St}{H:Hp}{s:Shared}{a:Addr}{xs ys:List V}
theorem SqL.of {K:PySem.W.Frag}(h:H a=some (.lst xs)):SqL K H a xs:=.inl (.inl h)
theorem SqT.of {K:PySem.W.Frag}(h:H a=some (.tup xs)):SqT K H a xs:=.inl (.inl h)
theorem Inv.list (I:Inv X pins σ H s)(h:SqL X.K H a xs):∃its:List Value,Vals xs its/\PlainL s.heap a its.toArray/\xs.length<=sizeLine:=by
 rcases h with h | ⟨o,its,n,hk,hc,hd,hs,hz,r⟩
 ·obtain⟨z,its,n,r,e⟩:=h.ok I.hok
  exact⟨its,r,⟨_,n,e,rfl,rfl,rfl⟩,z⟩
 ·refine⟨its.toList,r,⟨o,n,I.kIn a o hk,hc,hd,by simpa using hs⟩,?_⟩
  have e:=r.length
  simp only[Array.length_toList] at e
  omega
theorem Inv.tuple (I:Inv X pins σ H s)(h:SqT X.K H a xs):∃its:List Value,Vals xs its/\IsTup s.heap a its.toArray/\xs.length<=sizeLine:=by
 rcases h with h | ⟨o,its,n,hk,hc,hs,hz,r⟩
 ·obtain⟨z,its,r,p⟩:=h.ok I.hok
  exact⟨its,r,p,z⟩
 ·refine⟨its.toList,r,⟨o,I.kIn a o hk,hc,n,by simpa using hs⟩,?_⟩
  have e:=r.length
  simp only[Array.length_toList] at e
  omega
theorem Inv.list_inj (I:Inv X pins σ H s)(h:SqL X.K H a xs)(h':SqL X.K H a ys):xs=ys:=by
 obtain⟨its,r,⟨o,n,e,_,_,d⟩,_⟩:=I.list h
 obtain⟨its',r',⟨o',n',e',_,_,d'⟩,_⟩:=I.list h'
 rw[e] at e';cases e'
 rw[d] at d'
 injection d' with d1 _
 have:its=its':=by simpa using congrArg Array.toList d1
 subst this
 exact r.inj r'
end
abbrev Cx.wish (X:Cx)(E:Value->Shared->Prop):Cx:={ X with xe:=E }
abbrev Cx.nox (X:Cx):Cx:=X.wish λ_ _=>False
theorem Cx.Ok.wish {X:Cx}(ok:X.Ok)(E:Value->Shared->Prop):(X.wish E).Ok :=
 ⟨ok.mod,ok.kind,ok.glob,ok.blt,ok.above,ok.inj,ok.has,ok.cab,ok.hd,ok.frames,ok.stk,ok.exf,ok.bs,ok.bsz,ok.noex,ok.exfs,ok.funs,ok.frf⟩
theorem Cx.Ok.unwish {X:Cx}{E:Value->Shared->Prop}(ok:(X.wish E).Ok):X.Ok :=
 ⟨ok.mod,ok.kind,ok.glob,ok.blt,ok.above,ok.inj,ok.has,ok.cab,ok.hd,ok.frames,ok.stk,ok.exf,ok.bs,ok.bsz,ok.noex,ok.exfs,ok.funs,ok.frf⟩
section
variable {X:Cx}{pins:List (Addr×Obj)}{σ:St}{H:Hp}{s:Shared}{E:Value->Shared->Prop}
theorem Inv.wish (I:Inv X pins σ H s)(E:Value->Shared->Prop):Inv (X.wish E) pins σ H s:=⟨I.ok.wish E,I.os,I.bare,I.base,I.loc,I.cell,I.free,I.freeC,I.pin,I.hok,I.len⟩
theorem Inv.unwish (I:Inv (X.wish E) pins σ H s):Inv X pins σ H s:=⟨I.ok.unwish,I.os,I.bare,I.base,I.loc,I.cell,I.free,I.freeC,I.pin,I.hok,I.len⟩
theorem SP.unwish {D:Ends}{f:Flow}{s':Shared}(h:SP (X.wish E) pins D f s'):SP X pins D f s':=by
 cases f with
 |next=>obtain⟨σ',H',I,q⟩:=h;exact⟨σ',H',I.unwish,q⟩
 |brk=>obtain⟨σ',H',I,q⟩:=h;exact⟨σ',H',I.unwish,q⟩
 |cont=>obtain⟨σ',H',I,q⟩:=h;exact⟨σ',H',I.unwish,q⟩
 |ret u=>obtain⟨v,σ',H',I,r,q⟩:=h;exact⟨v,σ',H',I.unwish,r,q⟩
theorem PSs.nox {st:List Stmt}{t:TS}(h:PSs X.nox st t):PSs X st t:=λpins s σ H D I hw=>
 wpAny_mono (h pins s σ H D (I.wish _) hw) (λ_ _ q=>q.unwish) λ_ _ z=>False.elim z
end
section
variable {X:Cx}{st:Stmt}{rest:List Stmt}{t u:TS}{e:Expr}{te:TE}{pos:Pos}
def tNext:TS:=λD σ H=>D.nx σ H
def tSeq (t u:TS):TS:=λD σ H=>t { D with nx:=u D } σ H
theorem zaa:PSs X [] tNext:=λ_ _ σ H _ I h=>wpAny_execs_nil ⟨σ,H,I,h⟩
theorem QU (h1:PS X st t)(h2:PSs X rest u):PSs X (st::rest) (tSeq t u):=by
 intro pins s σ H D I h
 refine wpAny_execs_cons (thn (h1 pins s σ H { D with nx:=u D } I h) λf s1 q=>?_)
 cases f with
 |next=>
  obtain⟨σ',H',I',q⟩:=q
  exact h2 pins s1 σ' H' D I' q
 |ret v=>exact q
 |brk=>exact q
 |cont=>exact q
theorem QA (h1:PS X st t):PSs X [st] t:=by
 intro pins s σ H D I h
 refine wpAny_execs_cons (thn (h1 pins s σ H D I h) λf s1 q=>?_)
 cases f with
 |next=>exact wpAny_execs_nil q
 |ret v=>exact q
 |brk=>exact q
 |cont=>exact q
def tBreak:TS:=λD σ H=>D.bk σ H
theorem GY:PS X (.Break pos) tBreak:=λ_ _ σ H _ I h=>wpAny_Break ⟨σ,H,I,h⟩
theorem Inv.quiet {pins:List (Addr×Obj)}{σ:St}{H:Hp}{s:Shared}(I:Inv X pins σ H s):interactive X.env=false:=by simp[interactive,I.ok.kind]
def tDrop (te:TE):TS:=λD σ H=>te σ H λ_ H1=>D.nx σ H1
theorem x3 (he:PE X e te)(hs:swapsWith e none pos.line X.env=pure false:=by rfl):PS X (.Expr e pos) (tDrop te):=by
 intro pins s σ H D I h
 exact wpAny_Expr_any (thn (he pins s σ H _ I h) λv s1 ⟨x,H1,I1,r1,q1⟩=>⟨σ,H1,I1,q1⟩) I.quiet hs
def tRet (te:TE):TS:=λD σ H=>te σ H D.rt
theorem vm (he:PE X e te):PS X (.Return (some e) pos) (tRet te):=by
 intro pins s σ H D I h
 exact wpAny_Return_some (thn (he pins s σ H _ I h) λv s1 ⟨x,H1,I1,r1,q1⟩=>⟨x,σ,H1,I1,r1,q1⟩)
def tIfS (c:TT)(t u:TS):TS:=λD σ H=>c σ H λb H1=>if b=true then t D σ H1 else u D σ H1
theorem R3 {c:Expr}{a b:List Stmt}{tc:TT}(hc:PT X c tc)(ha:PSs X a t)(hb:PSs X b u):PS X (.If c a b pos) (tIfS tc t u):=by
 intro pins s σ H D I h
 refine wpAny_If (thn (hc pins s σ H _ I h) λd s1 ⟨H1,I1,q1⟩=>?_)
 cases d with
 |true=>exact ha pins s1 σ H1 D I1 q1
 |false=>exact hb pins s1 σ H1 D I1 q1
def tNever:TS:=λ_ _ _=>False
theorem RD:PS X st tNever:=λ_ _ _ _ _ _ h=>h.elim
end
abbrev TG:=V->St->Hp->(St->Hp->Prop)->Prop
abbrev TGs:=List V->St->Hp->(St->Hp->Prop)->Prop
def PG (X:Cx)(target:Expr)(t:TG):Prop :=
 ∀(pins:List (Addr×Obj)) (s:Shared) (σ:St) (H:Hp) (v:V) (u:Value) (Q:St->Hp->Prop),Inv X pins σ H s->RelV v u->t v σ H Q ->
  wpAny (model X.prog X.w) X.A (assign target X.env u) (λ_ s'=>∃σ' H',Inv X pins σ' H' s'/\Q σ' H') X.xe s
def PGs (X:Cx)(ts:List Expr)(t:TGs):Prop :=
 ∀(pins:List (Addr×Obj)) (s:Shared) (σ:St) (H:Hp) (vs:List V) (us:List Value) (Q:St->Hp->Prop),Inv X pins σ H s->Vals vs us->t vs σ H Q ->
  wpAny (model X.prog X.w) X.A (assignInOrder ((assignEach ts X.env).map (·.2)) us) (λ_ s'=>∃σ' H',Inv X pins σ' H' s'/\Q σ' H') X.xe s
abbrev TSet:=V->V->V->Hp->(Hp->Prop)->Prop
def PSet (X:Cx)(t:TSet):Prop :=
 ∀(pins:List (Addr×Obj)) (s:Shared) (σ:St) (H:Hp) (o i v:V) (ov iv u:Value) (Q:Hp->Prop),Inv X pins σ H s->RelV o ov->RelV i iv->RelV v u->t o i v H Q ->
  wpAny (model X.prog X.w) X.A (setItem ov iv u) (λ_ s'=>∃H',Inv X pins σ H' s'/\Q H') X.xe s
section
variable {X:Cx}{pos:Pos}
def gName (i:Nat):TG:=λv σ H Q=>Q (σ.set i (some v)) H
theorem zm {i:Nat}{x:Str}(hN:X.N.Nodup)(hi:X.N[i]?=some x)(hx:Loc X.env.scope x)(hf:X.fn x=true∨X.env.scope.names.lookup x=some .local:=by first | exact .inl rfl | exact .inr rfl | assumption):PG X (.Name x pos) (gName i):=by
 intro pins s σ H v u Q I r h
 exact wpAny_assign_Name (Vc I hN hi hx r (λs' I'=>⟨_,H,I',h⟩) hf)
def gNil:TGs:=λvs σ H Q=>vs=[]/\Q σ H
def gCons (t:TG)(u:TGs):TGs:=λvs σ H Q=>∃v r,vs=v::r/\t v σ H λσ' H'=>u r σ' H' Q
theorem zH:PGs X [] gNil:=by
 intro pins s σ H vs us Q I r h
 obtain⟨e,h⟩:=h
 subst e
 cases r
 exact assignInOrder_nil ⟨σ,H,I,h⟩
theorem zo {e:Expr}{es:List Expr}{t:TG}{u:TGs}(h1:PG X e t)(h2:PGs X es u)
  (hs:(assignEach (e::es) X.env).map (·.2)=assign e X.env::(assignEach es X.env).map (·.2):=by rfl):PGs X (e::es) (gCons t u):=by
 intro pins s σ H vs us Q I r h
 obtain⟨v,vr,e1,h⟩:=h
 subst e1
 cases r with
 |cons r rr=>
  rw[hs]
  refine assignInOrder_cons (thn (h1 pins s σ H _ _ _ I r h) λ_ s1 ⟨σ1,H1,I1,q1⟩=>?_)
  exact h2 pins s1 σ1 H1 _ _ Q I1 rr q1
def gTup (K:PySem.W.Frag)(n:Nat)(t:TGs):TG:=λv σ H Q=>∃a xs,v=.ref a/\SqT K H a xs/\xs.length=n/\t xs σ H Q
theorem zJ {es:List Expr}{k:Nat}{t:TGs}{n:Nat}(hc:X.calm=true)(h:PGs X es t)
  (hn:(assignEach es X.env).length=n:=by rfl) (hst:(assignEach es X.env).findIdx? (·.1)=none:=by rfl):PG X (.Tuple es k pos) (gTup X.K n t):=by
 intro pins s σ H v u Q I r hw
 obtain⟨a,xs,e1,hq,hl,hw⟩:=hw
 subst e1
 cases r
 obtain⟨its,rv,ht,hz⟩:=I.tuple hq
 refine assign_Tuple_tuple (I.ok.hd hc) ht (by simp[hn,<-hl,rv.length]) hst λh' hx=>?_
 have I1:Inv X pins σ H { s with heap:=h' }:=I.kept (t':=s.toks) λb o e=>hx b o (Nat.ne_of_lt (Heap.lt_size e)) e
 exact h pins _ σ H xs _ Q I1 (by simpa using rv) hw
def gSub (to ti:TE)(t:TSet):TG:=λv σ H Q=>to σ H λo H1=>ti σ H1 λi H2=>t o i v H2 λH3=>Q σ H3
theorem J9 {o i:Expr}{to ti:TE}{t:TSet}(ho:PE X o to)(hi:PE X i ti)(hs:PSet X t)
  (ha:∀v,assign (.Subscript o i pos) X.env v=(do
   let ov <-holding [v] (eval o X.env)
   let iv <-holding [v,ov] (eval i X.env)
   standAt pos
   holding [v,ov,iv] (setItem ov iv v)
   release [v,ov,iv] []):=by intro _;rfl):PG X (.Subscript o i pos) (gSub to ti t):=by
 intro pins s σ H v u Q I r h
 rw[ha]
 refine wpAny_bind (wpAny_holding (thn (ho pins s σ H _ I h) λov s1 ⟨x,H1,I1,r1,q1⟩=>?_))
 refine wpAny_bind (wpAny_holding (thn (hi pins s1 σ H1 _ I1 q1) λiv s2 ⟨y,H2,I2,r2,q2⟩=>?_))
 refine wpAny_bind (wpAny_standAt (wpAny_bind (wpAny_holding (thn (hs pins s2 σ H2 x y v ov iv u _ I2 r1 r2 r q2) λ_ s3 ⟨H3,I3,q3⟩=>?_))))
 exact wpAny_release ⟨σ,H3,I3,q3⟩
def tAsg (te:TE)(g:TG):TS:=λD σ H=>te σ H λx H1=>g x σ H1 D.nx
theorem u5 {tg e:Expr}{te:TE}{g:TG}(he:PE X e te)(hg:PG X tg g)(hs:swapsWithSole [tg] e pos.line X.env=pure false:=by rfl)(hw:swappedStores [tg] e X.env=pure none:=by rfl)
  (h1:(assignEach [tg] X.env).map (·.2)=[assign tg X.env]:=by rfl):PS X (.Assign [tg] e pos) (tAsg te g):=by
 intro pins s σ H D I h
 refine wpAny_Assign_stores (thn (he pins s σ H _ I h) λv s1 ⟨x,H1,I1,r1,q1⟩=>?_) hs hw
 rw[h1]
 exact thn (hg pins s1 σ H1 x v _ I1 r1 q1) λ_ s2 q=>q
theorem ve {i:Nat}{x:Str}{e:Expr}{te:TE}{pos':Pos}(hN:X.N.Nodup)(hi:X.N[i]?=some x)(hx:Loc X.env.scope x)(he:PE X e te)(hs:swapsWith e (some (.Name x pos')) pos.line X.env=pure false:=by rfl)(hf:X.fn x=true∨X.env.scope.names.lookup x=some .local:=by first | exact .inl rfl | exact .inr rfl | assumption) :
  PS X (.Assign [.Name x pos'] e pos) (tAsg te (gName i)):=by
 intro pins s σ H D I h
 refine wpAny_Assign_Name (thn (he pins s σ H _ I h) λv s1 ⟨y,H1,I1,r1,q1⟩=>?_) hs
 exact Vc I1 hN hi hx r1 (λs2 I2=>⟨_,H1,I2,q1⟩) hf
end
section
variable {X:Cx}{pos:Pos}
def tWhile (c:TT)(tb:TS):TS:=λD σ H=>∃W:Nat->St->Hp->Prop,(∃m,W m σ H)/\∀m σ H,W m σ H ->
 c σ H λb H1=>if b=true then ∃N:St->Hp->Prop,(∀σ' H',N σ' H'->∃m',m' < m/\W m' σ' H')/\tb { D with nx:=N,ct:=N,bk:=D.nx } σ H1 else D.nx σ H1
theorem K1 {c:Expr}{body:List Stmt}{tc:TT}{tb:TS}(hp:PassesOwn (model X.prog X.w) X.A X.env X.xe)(hc:PT X c tc)(hb:PSs X body tb):PS X (.While c body [] pos) (tWhile tc tb):=by
 intro pins s σ H D I h
 obtain⟨W,⟨m0,w0⟩,turn⟩:=h
 refine wpAny_While (codeAny_whileLoop (λn s'=>∃σ' H',Inv X pins σ' H' s'/\W n σ' H') ?_ m0 ⟨σ,H,I,w0⟩)
 rintro n s1 ⟨σ1,H1,I1,w1⟩
 refine wpAny_passesOwn hp (thn (hc pins s1 σ1 H1 _ I1 (turn n σ1 H1 w1)) λb s2 ⟨H2,I2,q2⟩=>?_)
 cases b with
 |true=>
  obtain⟨N,hN,q2⟩:=q2
  rw[if_pos rfl]
  refine wpAny_passesOwn hp (thn (hb pins s2 σ1 H2 _ I2 q2) λf s3 q3=>?_)
  cases f with
  |next=>
   obtain⟨σ3,H3,I3,n3⟩:=q3
   obtain⟨m',hm,w3⟩:=hN σ3 H3 n3
   exact⟨m',hm,σ3,H3,I3,w3⟩
  |cont=>
   obtain⟨σ3,H3,I3,n3⟩:=q3
   obtain⟨m',hm,w3⟩:=hN σ3 H3 n3
   exact⟨m',hm,σ3,H3,I3,w3⟩
  |brk=>exact q3
  |ret v=>exact q3
 |false=>
  rw[if_neg Bool.false_ne_true]
  exact wpAny_execs_nil ⟨σ1,H2,I2,q2⟩
end
structure It where
 go:Nat->Hp->Prop
 yld:Nat->Hp->V->Hp->Prop
 stop:Nat->Hp->Prop
def FpOk (X:Cx)(pins:List (Addr×Obj))(H:Hp)(b:Addr):Prop :=
 H b=none/\b≠X.env.locals/\b∉X.fs/\(b∈X.ex∨X.s₀.heap.objs.size<=b)/\(∀x c,X.env.cells.lookup x=some c->c≠b)/\∀p∈X.pn++pins,p.1≠b
theorem Inv.fpOk {X:Cx}{pins:List (Addr×Obj)}{σ:St}{H H':Hp}{s:Shared}{b:Addr}(I:Inv X pins σ H s)(hb:s.heap.objs.size<=b)(hn:H' b=none):FpOk X pins H' b:=by
 refine⟨hn,Nat.ne_of_gt (Nat.lt_of_lt_of_le I.lt hb),I.nofs hb,.inr (Nat.le_trans I.sz hb),λx c e z=>?_,λp hp z=>?_⟩
 ·obtain⟨v,q⟩:=I.cell x c e
  exact absurd (Nat.lt_of_lt_of_le q.lt (by rw[z];exact hb)) (Nat.lt_irrefl _)
 ·exact absurd (Nat.lt_of_lt_of_le (Heap.lt_size (I.pin p hp).1) (by rw[z];exact hb)) (Nat.lt_irrefl _)
structure Turn (P:Program)(w:World)(K:PySem.W.Frag)(tg:Expr)(J:It)(fp:List Addr)(it:Addr)(tn:Nat->Heap->Prop):Prop where
 mem:it∈fp
 obj:∀i h,tn i h->∀b∈fp,∃o,h.get? b=some o/\∀v,o.data≠.cell v
 keep:∀i h h',tn i h->(∀b∈fp,∀o,h.get? b=some o->h'.get? b=some o)->tn i h'
 item:∀(X:Cx),X.prog=P->X.w=w->X.K=K->X.calm=true->∀(i:Nat) (pins:List (Addr×Obj)) (s:Shared) (σ:St) (H:Hp) (E:Value->Shared->Prop),Inv X pins σ H s->(∀b∈fp,FpOk X pins H b)->tn i s.heap->J.go i H ->
  wpAny (model P w) X.A (pyNext (.ref it)) (λr s1=>∃u,r=some u /\
   wpAny (model P w) X.A (letOwnedTupleGo tg (.ref it) u) (λ_ s2=>∃x H',Inv X pins σ H' s2/\RelV x u/\J.yld i H x H'/\tn (i+1) s2.heap/\∀b∈fp,H' b=none) E s1) E s
 done:∀(X:Cx),X.prog=P->X.w=w->X.K=K->X.calm=true->∀(i:Nat) (pins:List (Addr×Obj)) (s:Shared) (σ:St) (H:Hp) (E:Value->Shared->Prop),Inv X pins σ H s->(∀b∈fp,FpOk X pins H b)->tn i s.heap->J.stop i H ->
  wpAny (model P w) X.A (pyNext (.ref it)) (λr s1=>r=none/\Inv X pins σ H s1) E s
 self:∀(A:Around) (i:Nat) (s:Shared) (Q:Value->Shared->Prop) (E:Value->Shared->Prop),tn i s.heap->Q (.ref it) s->wpAny (model P w) A (pyIter (.ref it)) Q E s
abbrev TI:=St->Hp->(It->Hp->Prop)->Prop
def PIE (X:Cx)(pins:List (Addr×Obj))(σ:St)(tg:Expr)(R:It->Hp->Prop)(itv:Value)(s2:Shared):Prop :=
 ∃(it:Addr) (fp:List Addr) (tn:Nat->Heap->Prop) (J:It) (H':Hp),itv=.ref it/\Inv X pins σ H' s2/\Turn X.prog X.w X.K tg J fp it tn/\tn 0 s2.heap/\(∀b∈fp,FpOk X pins H' b)/\R J H'
def PI (X:Cx)(tg iter:Expr)(wi:TI):Prop :=
 ∀(pins:List (Addr×Obj)) (s:Shared) (σ:St) (H:Hp) (R:It->Hp->Prop),Inv X pins σ H s->wi σ H R ->
  wpAny (model X.prog X.w) X.A (eval iter X.env) (λv s1=>wpAny (model X.prog X.w) X.A (pyIter v) (PIE X pins σ tg R) X.xe s1) X.xe s
theorem Wg {M:Model}{A:Around}{E:Value->Shared->Prop}{s:Shared}{tg:Expr}{it:Addr}{u:Value}{o:Obj}{n:String}{vs:Array Value}{Q:Unit->Shared->Prop}(ho:s.heap.get? it=some o)(hc:o.cls=.type n)(hd:o.data=.fields vs)
    (hn:["enumerate","zip","dict_itemiterator","dict_reverseitemiterator","odict_iterator","itertools.zip_longest","itertools.pairwise"].contains n=false) (hQ:Q () s):wpAny M A (letOwnedTupleGo tg (.ref it) u) Q E s:=by
  unfold letOwnedTupleGo
  cases tg<;>first
    |exact wpAny_pure hQ
    | (cases u<;>first
        |exact wpAny_pure hQ
        | (refine wpAny_bind (wpAny_load ho ?_)
           rw[hc,hd]
           show wpAny M A (if (["enumerate","zip","dict_itemiterator","dict_reverseitemiterator","odict_iterator","itertools.zip_longest","itertools.pairwise"].contains n&&vs[0]?==some (rawInt _))=true then _ else _) Q E s
           rw[if_neg (by intro h;rw[hn,Bool.false_and] at h;cases h)]
           exact wpAny_pure hQ))
def Itl (K:PySem.W.Frag)(a:Addr):It :=
 ⟨λi H=>∃xs x,SqL K H a xs/\xs[i]?=some x,λi H x H'=>H'=H/\∀xs,SqL K H a xs->xs[i]?=some x,λi H=>∃xs,SqL K H a xs/\xs.length<=i⟩
def Itr (lo:Int)(n:Nat):It:=⟨λi _=>i < n,λi H x H'=>H'=H/\x=.int (lo+i),λi _=>n<=i⟩
theorem JM {P:Program}{w:World}{K:PySem.W.Frag}{tg:Expr}(a it:Addr):Turn P w K tg (Itl K a) [it] it (λi h=>h.IsListIter it a i) where
 mem:=by simp
 obj:=λi h st b hb=>by
  have e:b=it:=by simpa using hb
  subst e
  obtain⟨o,e,c,d⟩:=st
  exact⟨o,e,λv z=>by rw[d] at z;cases z⟩
 keep:=λi h h' st k=>st.at λo e=>k it (by simp) o e
 item:=by
  intro X hP hw hK hc i pins s σ H E I hf st hg
  subst hP hw hK
  obtain⟨xs,x,hq,hx⟩:=hg
  obtain⟨its,rv,p,hz⟩:=I.list hq
  obtain⟨u,hu,ru⟩:=rv.get hx
  obtain⟨f0,f1,f2,f3,f4,f5⟩:=hf it (by simp)
  refine wpAny_pyNext_list_item st p.isList (x:=u) (by simpa using hu) λh' st' sb=>?_
  have I1:Inv X pins σ H { s with heap:=h' }:=I.turned (t':=s.toks) (λb o hb e=>(sb.2 b hb).trans e) f0 f1 f3 f4 f5
  obtain⟨o,e,c,d⟩:=id st'
  exact⟨u,rfl,Wg (s:={ s with heap:=h' }) e c d (by decide) ⟨x,H,I1,ru,⟨rfl,λys hy=>by rw[I.list_inj hy hq];exact hx⟩,st',λb hb=>(hf b hb).1⟩⟩
 done:=by
  intro X hP hw hK hc i pins s σ H E I hf st hg
  subst hP hw hK
  obtain⟨xs,hq,hx⟩:=hg
  obtain⟨its,rv,p,hz⟩:=I.list hq
  obtain⟨f0,f1,f2,f3,f4,f5⟩:=hf it (by simp)
  have hl:=rv.length
  exact wpAny_pyNext_list_end (I.ok.hd hc) st p.isList (by simp;omega) λh' eb=>⟨rfl,I.turned (t':=s.toks) (λb o hb e=>eb b o hb e) f0 f1 f3 f4 f5⟩
 self:=λ_ _ _ _ _ st h=>wpAny_pyIter_listiter st h
theorem KB {P:Program}{w:World}{K:PySem.W.Frag}{tg:Expr}(it:Addr)(lo:Int)(n:Nat):Turn P w K tg (Itr lo n) [it] it (λi h=>IsRangeIter h it (lo+(i:Nat) * 1) ((n:Int) - (i:Nat)) 1) where
 mem:=by simp
 obj:=λi h st b hb=>by
  have e:b=it:=by simpa using hb
  subst e
  exact⟨_,st,λv z=>by
   have z':Data.fields _=Data.cell v:=z
   cases z'⟩
 keep:=λi h h' st k=>k it (by simp) _ st
 item:=by
  intro X hP hw hK hc i pins s σ H E I hf st hg
  subst hP hw hK
  obtain⟨f0,f1,f2,f3,f4,f5⟩:=hf it (by simp)
  have W:=Walks.range (prog:=X.prog) (w:=X.w) (I.ok.hd hc) it lo 1 n
  refine W.item i s _ _ hg st λv h' tk hv st' kk=>?_
  obtain⟨t,rfl⟩:=hv
  have I1:Inv X pins σ H { s with heap:=h',toks:=tk }:=I.turned (λb o hb e=>kk b o (by simpa using hb) e) f0 f1 f3 f4 f5
  refine⟨_,rfl,Wg (s:={ s with heap:=h',toks:=tk }) (n := "range_iterator") st' rfl rfl (by decide) ⟨.int (lo+i),H,I1,⟨t,?_⟩,⟨rfl,rfl⟩,st',λb hb=>(hf b hb).1⟩⟩
  rw[Int.mul_one]
 done:=by
  intro X hP hw hK hc i pins s σ H E I hf st hg
  subst hP hw hK
  obtain⟨f0,f1,f2,f3,f4,f5⟩:=hf it (by simp)
  exact wpAny_pyNext_range_end (I.ok.hd hc) st (by have:n<=i:=hg;omega) λh' eb=>⟨rfl,I.turned (t':=s.toks) (λb o hb e=>eb b o hb e) f0 f1 f3 f4 f5⟩
 self:=λ_ _ _ _ _ st h=>wpAny_pyIter_rangeiter st h
section
variable {X:Cx}{tg:Expr}
def iList (K:PySem.W.Frag)(tl:TE):TI:=λσ H R=>tl σ H λx H1=>∃a,x=.ref a/\(∃xs,SqL K H1 a xs)/\R (Itl K a) H1
theorem Jg {l:Expr}{tl:TE}(hl:PE X l tl):PI X tg l (iList X.K tl):=by
 intro pins s σ H R I h
 refine thn (hl pins s σ H _ I h) λv s1 ⟨x,H1,I1,r1,q1⟩=>?_
 obtain⟨a,e,⟨xs,hq⟩,q⟩:=q1
 subst e
 cases r1
 obtain⟨its,rv,p,hz⟩:=I1.list hq
 refine wpAny_pyIter_list p.isList ?_
 refine⟨s1.heap.objs.size,[s1.heap.objs.size],_,_,H1,rfl,I1.kept (t':=s1.toks) λb o e=>Heap.get?_push_of_some _ e,JM a _,⟨_,Heap.get?_push_size _ rfl,rfl,rfl⟩,λb hb=>?_,q⟩
 have e:b=s1.heap.objs.size:=by simpa using hb
 subst e
 exact I1.fpOk (Nat.le_refl _) (I1.hok.fresh (Nat.le_refl _))
theorem YY {pins:List (Addr×Obj)}{σ:St}{H:Hp}{s:Shared}{R:It->Hp->Prop}{E:Value->Shared->Prop}{lo hi:Int}{t u v:Tok}{tk:Nat}(I:Inv X pins σ H s)(h1:-(2 ^ 62)<=lo)(h2:lo < 2 ^ 62)(h3:-(2 ^ 62)<=hi)(h4:hi < 2 ^ 62)
  (q:R (Itr lo (hi - lo).toNat) H):wpAny (model X.prog X.w) X.A (pyIter (.ref s.heap.objs.size)) (PIE X pins σ tg R) E { s with heap:=s.heap.push { cls:=.type "range",data:=.fields #[.int lo t,.int hi u,.int 1 v] },toks:=tk }:=by
 refine wpAny_pyIter_range (IsRange.new ..) (small_one h1 h2 h3 h4) ?_
 have I1:Inv X pins σ H { s with heap:=s.heap.push { cls:=.type "range",data:=.fields #[.int lo t,.int hi u,.int 1 v] },toks:=tk }:=I.kept λb o e=>Heap.get?_push_of_some _ e
 refine⟨(s.heap.push { cls:=.type "range",data:=.fields #[.int lo t,.int hi u,.int 1 v] }).objs.size,[(s.heap.push { cls:=.type "range",data:=.fields #[.int lo t,.int hi u,.int 1 v] }).objs.size],_,_,H,rfl,
  I1.kept (t':=tk) λb o e=>Heap.get?_push_of_some _ e,KB _ lo (hi - lo).toNat,?_,λb hb=>?_,q⟩
 ·have e1:lo+((0:Nat):Int) * 1=lo:=by simp
  have e2:(((hi - lo).toNat:Nat):Int) - ((0:Nat):Int)=Builtin.Range.rangeSize lo hi 1:=by rw[rangeSize_one];split<;>omega
  show IsRangeIter _ _ (lo+((0:Nat):Int) * 1) ((((hi - lo).toNat:Nat):Int) - ((0:Nat):Int)) 1
  rw[e1,e2]
  exact Heap.get?_push_size _ rfl
 ·have e:b=(s.heap.push { cls:=.type "range",data:=.fields #[.int lo t,.int hi u,.int 1 v] }).objs.size:=by simpa using hb
  subst e
  exact I1.fpOk (Nat.le_refl _) (I1.hok.fresh (Nat.le_refl _))
def iRng1 (ta:TA):TI:=λσ H R=>ta σ H λvs H1=>∃j:Int,vs=[.int j]/\-(2 ^ 62)<=j/\j < 2 ^ 62/\R (Itr 0 j.toNat) H1
def iRng2 (ta:TA):TI:=λσ H R=>ta σ H λvs H1=>∃i j:Int,vs=[.int i,.int j]/\(-(2 ^ 62)<=i/\i < 2 ^ 62/\-(2 ^ 62)<=j/\j < 2 ^ 62)/\R (Itr i (j - i).toNat) H1
theorem Qs {a:Expr}{ta:TA}{p pos:Pos}(hg:Gl X "range") (hm:X.mg "range" = none) (ha:PA X [a] ta) (hs:starEach [a] X.env=[(false,eval a X.env)]:=by rfl):PI X tg (.Call (.Name "range" p) [a] [] pos) (iRng1 ta):=by
 intro pins s σ H R I h
 refine Call_ (wK I hg hm boot_range (PyProof.Rows.callWith_type1 (thn (ha pos pins s σ H _ I h) λus s1 ⟨vs,H1,I1,r1,q1⟩=>?_) hs rfl))
 obtain⟨j,e,q1,q2,q⟩:=q1
 subst e
 cases r1 with
 |cons r rr=>
  cases rr
  obtain⟨t,rfl⟩:=r
  exact call_range_1 (YY I1 (by omega) (by omega) q1 q2 (by simpa using q))
theorem GA {a b:Expr}{ta:TA}{p pos:Pos}(hg:Gl X "range") (hm:X.mg "range" = none) (ha:PA X [a,b] ta) (hs:starEach [a,b] X.env=[(false,eval a X.env),(false,eval b X.env)]:=by rfl) (hs2:starEach [b] X.env=[(false,eval b X.env)]:=by rfl) :
  PI X tg (.Call (.Name "range" p) [a,b] [] pos) (iRng2 ta):=by
 intro pins s σ H R I h
 refine Call_ (wK I hg hm boot_range (PyProof.Rows.callWith_type1 (thn (ha pos pins s σ H _ I h) λus s1 ⟨vs,H1,I1,r1,q1⟩=>?_) (by rw[hs,hs2]) (by rw[hs2];rfl)))
 obtain⟨i,j,e,⟨q1,q2,q3,q4⟩,q⟩:=q1
 subst e
 cases r1 with
 |cons r rr=>
  cases rr with
  |cons r' rr=>
   cases rr
   obtain⟨t,rfl⟩:=r
   obtain⟨t',rfl⟩:=r'
   exact call_range_2 (YY I1 q1 q2 q3 q4 q)
def tFor (wi:TI)(g:TG)(tb:TS):TS:=λD σ H=>wi σ H λJ H1=>∃W:Nat->Nat->St->Hp->Prop,(∃m,W 0 m σ H1)/\∀i m σ H,W i m σ H ->
 (J.stop i H/\D.nx σ H)∨(J.go i H/\∃N:St->Hp->Prop,(∀σ' H',N σ' H'->∃m',m' < m/\W (i+1) m' σ' H')/\∀x H',J.yld i H x H'->g x σ H' λσ2 H2=>tb { D with nx:=N,ct:=N,bk:=D.nx } σ2 H2)
def pinsAt (fp:List Addr)(h:Heap):List (Addr×Obj):=fp.filterMap λb=>(h.get? b).map λo=>(b,o)
theorem wv {fp:List Addr}{h:Heap}{b:Addr}{o:Obj}(hb:b∈fp)(e:h.get? b=some o):(b,o)∈pinsAt fp h:=List.mem_filterMap.mpr ⟨b,hb,by rw[e];rfl⟩
theorem kA {fp:List Addr}{h:Heap}{p:Addr×Obj}(hp:p∈pinsAt fp h):p.1∈fp/\h.get? p.1=some p.2:=by
 obtain⟨b,hb,e⟩:=List.mem_filterMap.mp hp
 cases q:h.get? b with
 |none=>rw[q] at e;cases e
 |some o=>
  rw[q] at e
  have e':(b,o)=p:=Option.some.inj e
  subst e'
  exact⟨hb,q⟩
theorem Inv.pinned {pins:List (Addr×Obj)}{σ:St}{H:Hp}{s:Shared}{fp:List Addr}(I:Inv X pins σ H s)(hf:∀b∈fp,FpOk X pins H b)(ho:∀b∈fp,∃o,s.heap.get? b=some o/\∀v,o.data≠.cell v):Inv X (pins++pinsAt fp s.heap) σ H s :=
 I.pins_of λp hp=>(List.mem_append.mp hp).elim (λz=>I.pin p (List.mem_append_right _ z)) λz=>by
  obtain⟨hb,e⟩:=kA z
  obtain⟨f0,f1,f2,_⟩:=hf p.1 hb
  obtain⟨o,e',d⟩:=ho p.1 hb
  rw[e] at e';cases e'
  exact⟨e,f0,f1,f2,d⟩
theorem Inv.unpinned {pins pl:List (Addr×Obj)}{σ:St}{H:Hp}{s:Shared}(I:Inv X (pins++pl) σ H s):Inv X pins σ H s:=I.pins_of λp hp=>I.pin p (List.mem_append_right _ (List.mem_append_left _ hp))
theorem JS {iter:Expr}{body:List Stmt}{wi:TI}{g:TG}{tb:TS}{pos:Pos}(hp:PassesOwn (model X.prog X.w) X.A X.env X.xe)(hc:X.calm=true)(hi:PI X tg iter wi)(hg:PG X tg g)(hb:PSs X body tb)
  (hs:∀x,foldedSetIterable iter X.env x=pure x:=by intro _;rfl):PS X (.For tg iter body [] pos) (tFor wi g tb):=by
 intro pins s σ H D I h
 refine wpAny_For (thn (hi pins s σ H _ I h) λv s1 h1=>thn h1 λitv s2 h2=>?_) hs
 obtain⟨it,fp,tn,J,H2,e,I2,T,st2,f2,W,⟨m0,w0⟩,turn⟩:=h2
 subst e
 have stat:∀ {H':Hp},(∀b∈fp,H' b=none)->∀b∈fp,FpOk X pins H' b:=λhn b hb=>⟨hn b hb,(f2 b hb).2⟩
 refine codeAny_forLoop_any (λn s'=>∃i σ' H',Inv X pins σ' H' s'/\tn i s'.heap/\(∀b∈fp,H' b=none)/\W i n σ' H') ?_ m0 ⟨0,σ,H2,I2,st2,λb hb=>(f2 b hb).1,w0⟩
 rintro n s3 ⟨i,σ3,H3,I3,st3,fr3,w3⟩
 rcases turn i n σ3 H3 w3 with⟨stop,qn⟩ | ⟨go,N,hN,step⟩
 ·refine wpAny_passesOwn hp (thn (T.done X rfl rfl rfl hc i pins s3 σ3 H3 X.xe I3 (stat fr3) st3 stop) λr s4 ⟨hr,I4⟩=>?_)
  subst hr
  exact wpAny_execs_nil ⟨σ3,H3,I4,qn⟩
 ·refine wpAny_passesOwn hp (thn (T.item X rfl rfl rfl hc i pins s3 σ3 H3 X.xe I3 (stat fr3) st3 go) λr s4 ⟨u,hr,h4⟩=>?_)
  subst hr
  refine wpAny_passesOwn hp (thn h4 λ_ s5 ⟨x,H5,I5,r5,y5,st5,fr5⟩=>?_)
  have I5':=I5.pinned (stat fr5) (T.obj _ _ st5)
  refine wpAny_passesOwn hp (thn (hg _ s5 σ3 H5 x u _ I5' r5 (step x H5 y5)) λ_ s6 ⟨σ6,H6,I6,q6⟩=>?_)
  refine wpAny_passesOwn hp (thn (hb _ s6 σ6 H6 _ I6 q6) λf s7 q7=>?_)
  have again:∀ {σ7:St} {H7:Hp},Inv X (pins++pinsAt fp s5.heap) σ7 H7 s7->N σ7 H7->∃m,m < n/\∃i σ' H',Inv X pins σ' H' s7/\tn i s7.heap/\(∀b∈fp,H' b=none)/\W i m σ' H':=fun {σ7 H7} I7 n7=>by
   obtain⟨m',hm,w7⟩:=hN σ7 H7 n7
   refine⟨m',hm,i+1,σ7,H7,I7.unpinned,T.keep _ _ _ st5 λb hb o e=>(I7.pin (b,o) (List.mem_append_right _ (List.mem_append_right _ (wv hb e)))).1,λb hb=>?_,w7⟩
   obtain⟨o,e,d⟩:=T.obj _ _ st5 b hb
   exact (I7.pin (b,o) (List.mem_append_right _ (List.mem_append_right _ (wv hb e)))).2.1
  cases f with
  |next=>obtain⟨σ7,H7,I7,n7⟩:=q7;exact again I7 n7
  |cont=>obtain⟨σ7,H7,I7,n7⟩:=q7;exact again I7 n7
  |brk=>obtain⟨σ7,H7,I7,q7⟩:=q7;exact⟨σ7,H7,I7.unpinned,q7⟩
  |ret v=>obtain⟨x7,σ7,H7,I7,r7,q7⟩:=q7;exact⟨x7,σ7,H7,I7.unpinned,r7,q7⟩
end
abbrev R2:=V->V->Hp->VK->Prop
def OpR (X:Cx)(f:Value->Value->Sem Value)(r:R2):Prop :=
 ∀(pins:List (Addr×Obj)) (s:Shared) (σ:St) (H:Hp) (x y:V) (v u:Value) (Q:VK),Inv X pins σ H s->RelV x v->RelV y u->r x y H Q ->
  wpAny (model X.prog X.w) X.A (f v u) (EP X pins σ Q) X.xe s
def UnR (X:Cx)(f:Value->Sem Value)(r:V->Hp->VK->Prop):Prop :=
 ∀(pins:List (Addr×Obj)) (s:Shared) (σ:St) (H:Hp) (x:V) (v:Value) (Q:VK),Inv X pins σ H s->RelV x v->r x H Q ->
  wpAny (model X.prog X.w) X.A (f v) (EP X pins σ Q) X.xe s
def CallR (X:Cx)(f:Value)(r:List V->Hp->VK->Prop):Prop :=
 ∀(pins:List (Addr×Obj)) (s:Shared) (σ:St) (H:Hp) (xs:List V) (us:List Value) (Q:VK),Inv X pins σ H s->Vals xs us->r xs H Q ->
  wpAny (model X.prog X.w) X.A (call f us) (EP X pins σ Q) X.xe s
def TruR (X:Cx)(r:V->Hp->(Bool->Hp->Prop)->Prop):Prop :=
 ∀(pins:List (Addr×Obj)) (s:Shared) (σ:St) (H:Hp) (x:V) (v:Value) (Q:Bool->Hp->Prop),Inv X pins σ H s->RelV x v->r x H Q ->
  wpAny (model X.prog X.w) X.A (truthy v) (TP X pins σ Q) X.xe s
def tOp (r:R2)(ta tb:TE):TE:=λσ H Q=>ta σ H λx H1=>tb σ H1 λy H2=>r x y H2 Q
def tUn (r:V->Hp->VK->Prop)(ta:TE):TE:=λσ H Q=>ta σ H λx H1=>r x H1 Q
def rI (C:Int->Int->Prop)(g:Int->Int->V):R2:=λx y H Q=>∃i j,x=.int i/\y=.int j/\C i j/\Q (g i j) H
def rI0 (g:Int->Int->V):R2:=λx y H Q=>∃i j,x=.int i/\y=.int j/\Q (g i j) H
def rU (g:Int->V):V->Hp->VK->Prop:=λx H Q=>∃i,x=.int i/\Q (g i) H
section
variable {X:Cx}{a b c:Expr}{ta tb tc:TE}{pos:Pos}
theorem binT (ha:PE X a ta)(hb:PE X b tb){pins:List (Addr×Obj)}{s:Shared}{σ:St}{H:Hp}{R:V->V->Hp->Prop}(I:Inv X pins σ H s)
  (h:ta σ H λx H1=>tb σ H1 λy H2=>R x y H2) {Q:Value->Shared->Prop} {f:Value->Value->Sem Value}
  (hf:∀v u s2 x y H2,Inv X pins σ H2 s2->RelV x v->RelV y u->R x y H2->wpAny (model X.prog X.w) X.A (f v u) Q X.xe s2) :
  wpAny (model X.prog X.w) X.A (eval a X.env) (λv s₁=>wpAny (model X.prog X.w) X.A (eval b X.env) (λu s₂=>wpAny (model X.prog X.w) X.A (f v u) Q X.xe s₂) X.xe s₁) X.xe s:=by
 refine thn (ha pins s σ H _ I h) λv s1 ⟨x,H1,I1,r1,q1⟩=>?_
 refine thn (hb pins s1 σ H1 _ I1 q1) λu s2 ⟨y,H2,I2,r2,q2⟩=>?_
 exact hf v u s2 x y H2 I2 r1 r2 q2
theorem ZG {op:Operator}{r:R2}(ho:OpR X (binaryOp op) r)(ha:PE X a ta)(hb:PE X b tb):PE X (.BinOp a op b pos) (tOp r ta tb):=by
 intro pins s σ H Q I h
 exact wpAny_BinOp (binT ha hb I h λv u s2 x y H2 I2 rx ry q=>ho pins s2 σ H2 x y v u Q I2 rx ry q)
theorem Jd {op:UnaryOp}{r:V->Hp->VK->Prop}(ho:UnR X (unaryOp op) r)(ha:PE X a ta):PE X (.UnaryOp op a pos) (tUn r ta):=by
 intro pins s σ H Q I h
 exact UnaryOp_ (thn (ha pins s σ H _ I h) λv s1 ⟨x,H1,I1,r1,q1⟩=>ho pins s1 σ H1 x v Q I1 r1 q1)
theorem opI {f:Value->Value->Sem Value}{C:Int->Int->Prop}{g:Int->Int->Int}
  (rule:∀(i j:Int) (t u:Tok) (s:Shared) (Q:Value->Shared->Prop) (E:Value->Shared->Prop),C i j->Q (.int (g i j) s.toks) { s with toks:=s.toks+1 }->wpAny (model X.prog X.w) X.A (f (.int i t) (.int j u)) Q E s) :
  OpR X f (rI C λi j=>.int (g i j)):=by
 intro pins s σ H x y v u Q I rx ry h
 obtain⟨i,j,rfl,rfl,hc,q⟩:=h
 obtain⟨t,rfl⟩:=rx
 obtain⟨t',rfl⟩:=ry
 exact rule i j t t' s _ _ hc ⟨.int (g i j),H,I.tok _,⟨_,rfl⟩,q⟩
theorem opI0 {f:Value->Value->Sem Value}{g:Int->Int->Int}
  (rule:∀(i j:Int) (t u:Tok) (s:Shared) (Q:Value->Shared->Prop) (E:Value->Shared->Prop),Q (.int (g i j) s.toks) { s with toks:=s.toks+1 }->wpAny (model X.prog X.w) X.A (f (.int i t) (.int j u)) Q E s) :
  OpR X f (rI0 λi j=>.int (g i j)):=by
 intro pins s σ H x y v u Q I rx ry h
 obtain⟨i,j,rfl,rfl,q⟩:=h
 obtain⟨t,rfl⟩:=rx
 obtain⟨t',rfl⟩:=ry
 exact rule i j t t' s _ _ ⟨.int (g i j),H,I.tok _,⟨_,rfl⟩,q⟩
theorem opB0 {f:Value->Value->Sem Value}{g:Int->Int->Bool}
  (rule:∀(i j:Int) (t u:Tok) (s:Shared) (Q:Value->Shared->Prop) (E:Value->Shared->Prop),Q (.bool (g i j)) s->wpAny (model X.prog X.w) X.A (f (.int i t) (.int j u)) Q E s) :
  OpR X f (rI0 λi j=>.bl (g i j)):=by
 intro pins s σ H x y v u Q I rx ry h
 obtain⟨i,j,rfl,rfl,q⟩:=h
 obtain⟨t,rfl⟩:=rx
 obtain⟨t',rfl⟩:=ry
 exact rule i j t t' s _ _ ⟨.bl (g i j),H,I,rfl,q⟩
def CDiv (i j:Int):Prop:=0 < j/\j < 1073741824
def CMul (i j:Int):Prop:=(-(2 ^ 64) < i/\i < 2 ^ 64)∨(-(2 ^ 64) < j/\j < 2 ^ 64)
theorem CMul.ok {i j:Int}(h:CMul i j):IntMulOk i j:=by
 rcases h with⟨h1,h2⟩ | ⟨h1,h2⟩
 ·exact .of_left (intBits_le_64 h1 h2)
 ·exact .of_right (intBits_le_64 h1 h2)
theorem Q0 (k:Nat):(0:Int)<=2 ^ k:=by
 rw[two_pow_cast]
 exact Int.natCast_nonneg _
theorem op_add:OpR X (binaryOp .Add) (rI0 λi j=>.int (i+j)):=opI0 λ_ _ _ _ _ _ _ q=>add_int q
theorem RI:OpR X (binaryOp .Sub) (rI0 λi j=>.int (i - j)):=opI0 λ_ _ _ _ _ _ _ q=>sub_int q
theorem Kn:OpR X (binaryOp .Mult) (rI CMul λi j=>.int (i * j)):=opI λ_ _ _ _ _ _ _ hc q=>mul_int q hc.ok
theorem UZ:OpR X (binaryOp .FloorDiv) (rI CDiv λi j=>.int (i / j)):=opI λi j _ _ _ _ _ hc q=>by
 have h1:(0:Int) < j:=hc.1
 have h2:j < 1073741824:=hc.2
 exact floordiv_int (by omega) (by rw[Int.fdiv_eq_ediv_of_nonneg i (by omega)];exact q) (.inl (PyProof.noPylong_small (by omega)))
theorem Jm:OpR X (binaryOp .Mod) (rI (λ_ j=>0 < j) λi j=>.int (i % j)):=opI λi j _ _ _ _ _ hc q=>by
 have h1:(0:Int) < j:=hc
 exact mod_int' (by omega) (by rw[Int.fmod_eq_emod_of_nonneg i (by omega)];exact q)
theorem JQ:OpR X (binaryOp .RShift) (rI (λ_ j=>0<=j) λi j=>.int (i / 2 ^ j.toNat)):=opI λi j _ _ _ _ _ hc q=>
 rshift_int hc (by rw[Int.fdiv_eq_ediv_of_nonneg i (Q0 _)];exact q)
theorem Qd:OpR X (binaryOp .BitAnd) (rI0 λi j=>.int (Builtin.bitAnd i j)):=opI0 λ_ _ _ _ _ _ _ q=>and_int q
theorem unI {f:Value->Sem Value}{g:Int->Int}
  (rule:∀(i:Int) (t:Tok) (s:Shared) (Q:Value->Shared->Prop) (E:Value->Shared->Prop),Q (.int (g i) s.toks) { s with toks:=s.toks+1 }->wpAny (model X.prog X.w) X.A (f (.int i t)) Q E s) :
  UnR X f (rU λi=>.int (g i)):=by
 intro pins s σ H x v Q I rx h
 obtain⟨i,rfl,q⟩:=h
 obtain⟨t,rfl⟩:=rx
 exact rule i t s _ _ ⟨.int (g i),H,I.tok _,⟨_,rfl⟩,q⟩
theorem Qj:UnR X (unaryOp .USub) (rU λi=>.int (-i)):=unI λ_ _ _ _ _ q=>neg_int q
end
def scal:V->V->Bool
 |.non,.non=>true | .non,.int _=>true | .int _,.non=>true | .non,.bl _=>true | .bl _,.non=>true | .non,.str _=>true | .str _,.non=>true
 |.int _,.int _=>true | .bl _,.bl _=>true | .str _,.str _=>true | .byt _,.byt _=>true
 |.int _,.str _=>true | .str _,.int _=>true | .bl _,.str _=>true | .str _,.bl _=>true
 |_,_=>false
section
variable {X:Cx}{a b c:Expr}{ta tb tc:TE}{pos:Pos}
theorem UL {pins:List (Addr×Obj)}{σ:St}{H:Hp}{s:Shared}{Q:VK}{k k':Bool}(I:Inv X pins σ H s)(q:Q (.bl k) H)(e:k=k'):EP X pins σ Q (.bool k') s:=by
 subst e
 exact⟨.bl k,H,I,rfl,q⟩
theorem w9:OpR X (compareOp .Lt) (rI0 λi j=>.bl (decide (i < j))):=opB0 λ_ _ _ _ _ _ _ q=>lt_int q
theorem jM:OpR X (compareOp .LtE) (rI0 λi j=>.bl (decide (i<=j))):=opB0 λ_ _ _ _ _ _ _ q=>le_int q
theorem wk:OpR X (compareOp .Gt) (rI0 λi j=>.bl (decide (j < i))):=opB0 λ_ _ _ _ _ _ _ q=>gt_int q
theorem Vv:OpR X (compareOp .Is) (λx y H Q=>y=.non/\Q (.bl (decide (x=.non))) H):=by
 intro pins s σ H x y v u Q I rx ry h
 obtain⟨rfl,q⟩:=h
 cases ry
 refine is_none_gen (UL I q ?_)
 cases x<;>first
  | (cases rx;rfl)
  | (obtain⟨t,rfl⟩:=rx;rfl)
theorem OpR.or {f:Value->Value->Sem Value}{r r':R2}(h:OpR X f r)(h':OpR X f r'):OpR X f (λx y H Q=>r x y H Q∨r' x y H Q):=by
 intro pins s σ H x y v u Q I rx ry q
 rcases q with q | q
 ·exact h pins s σ H x y v u Q I rx ry q
 ·exact h' pins s σ H x y v u Q I rx ry q
theorem nomark (b:Expr){op:CmpOp}(h:op≠.In:=by decide)(h2:op≠.NotIn:=by decide):behindInMarks op b=false:=by
 have e1:(op==CmpOp.In)=false:=by cases op<;>first | rfl | exact absurd rfl h
 have e2:(op==CmpOp.NotIn)=false:=by cases op<;>first | rfl | exact absurd rfl h2
 cases b<;>simp[behindInMarks,e1,e2]
theorem RR {op:CmpOp}{r:R2}(ho:OpR X (compareOp op) r)(ha:PE X a ta)(hb:PE X b tb)(hm:behindInMarks op b=false):PE X (.Compare a [op] [b] pos) (tOp r ta tb):=by
 intro pins s σ H Q I h
 exact wpAny_Compare1 (binT ha hb I h λv u s2 x y H2 I2 rx ry q=>ho pins s2 σ H2 x y v u Q I2 rx ry q) hm
def tTest (t:TE):TT:=λσ H Q=>t σ H λx H'=>∃k,x=.bl k/\Q k H'
theorem YT {op:CmpOp}{r:R2}(ho:OpR X (compareOp op) r)(ha:PE X a ta)(hb:PE X b tb)(hm:behindInMarks op b=false):PT X (.Compare a [op] [b] pos) (tTest (tOp r ta tb)):=by
 intro pins s σ H Q I h
 refine wpAny_isTrue_Compare1 (thn (ha pins s σ H _ I h) λv s1 ⟨x,H1,I1,r1,q1⟩=>thn (hb pins s1 σ H1 _ I1 q1) λu s2 ⟨y,H2,I2,r2,q2⟩=>
  thn (ho pins s2 σ H2 x y v u _ I2 r1 r2 q2) λc s3 ⟨z,H3,I3,r3,k,e,q3⟩=>?_) hm
 subst e
 cases r3
 exact wpAny_truthy_bool ⟨H3,I3,q3⟩
def tChain (r r':R2)(ta tb tc:TE):TE:=λσ H Q=>ta σ H λx H1=>tb σ H1 λy H2=>r x y H2 λz H3=>∃k,z=.bl k /\
 (if k=true then tc σ H3 λw' H4=>r' y w' H4 Q else Q (.bl false) H3)
theorem Jq {op op':CmpOp}{r r':R2}(ho:OpR X (compareOp op) r)(ho':OpR X (compareOp op') r')(ha:PE X a ta)(hb:PE X b tb)(hc:PE X c tc)
  (hm:lastMarks [op,op'] [b,c]=false:=by with_unfolding_all rfl):PE X (.Compare a [op,op'] [b,c] pos) (tChain r r' ta tb tc):=by
 intro pins s σ H Q I h
 refine Compare_chain (thn (ha pins s σ H _ I h) λv s1 ⟨x,H1,I1,r1,q1⟩=>chain_link (thn (hb pins s1 σ H1 _ I1 q1) λu s2 ⟨y,H2,I2,r2,q2⟩=>
  thn (ho pins s2 σ H2 x y v u _ I2 r1 r2 q2) λd s3 ⟨z,H3,I3,r3,k,e,q3⟩=>?_)) hm
 subst e
 cases r3
 refine wpAny_truthy_bool ?_
 cases k with
 |false=>exact ite_ff ⟨.bl false,H3,I3,rfl,q3⟩
 |true=>exact ite_tt (chain_last (thn (hc pins s3 σ H3 _ I3 q3) λw' s4 ⟨z',H4,I4,r4,q4⟩=>ho' pins s4 σ H4 y z' u w' Q I4 r2 r4 q4))
def TruV (K:PySem.W.Frag)(x:V)(H:Hp)(k:Bool):Prop :=
 match x with
 |.non=>k=false
 |.bl b=>k=b
 |.int i=>k=(i != 0)
 |.str y=>y.length<=sizeLine/\k=((y.length:Int) != 0)
 |.byt y=>y.size<=sizeLine/\k=((y.size:Int) != 0)
 |.ref p=>(∃xs,SqL K H p xs/\k=!xs.isEmpty)∨(∃xs,SqT K H p xs/\k=!xs.isEmpty)∨∃kvs,H p=some (.dK kvs)/\k=!kvs.isEmpty
 |_=>False
theorem UF {κ:Type}{kvs:List (κ×V)}{vs:List (κ×Value)}(r:KV kvs vs):(!vs.isEmpty)=!kvs.isEmpty:=by
 cases r<;>rfl
theorem WV {xs:List V}{its:List Value}(r:Vals xs its):(!its.toArray.isEmpty)=!xs.isEmpty:=by
 cases r<;>simp
theorem line63:(sizeLine:Nat) < 2 ^ 63:=by rw[sizeLine_eq];decide
theorem zak:TruR X (λx H Q=>∃k,TruV X.K x H k/\Q k H):=by
 intro pins s σ H x v Q I rx h
 obtain⟨k,e,q⟩:=h
 have hl:=line63
 have hs:sizeLine=16777216:=sizeLine_eq
 cases x with
 |non=>
  cases rx
  have e':k=false:=e
  subst e'
  exact truthy_none ⟨H,I,q⟩
 |bl b=>
  cases rx
  have e':k=b:=e
  subst e'
  exact wpAny_truthy_bool ⟨H,I,q⟩
 |int i=>
  obtain⟨t,rfl⟩:=rx
  have e':k=(i != 0):=e
  subst e'
  exact PySem.P.truthy_int ⟨H,I,q⟩
 |str y=>
  obtain⟨t,rfl⟩:=rx
  obtain⟨hy,e'⟩:y.length<=sizeLine/\k=((y.length:Int) != 0):=e
  subst e'
  exact PySem.P.truthy_str (by omega) ⟨H,I.tok _,q⟩
 |byt y=>
  obtain⟨t,rfl⟩:=rx
  obtain⟨hy,e'⟩:y.size<=sizeLine/\k=((y.size:Int) != 0):=e
  subst e'
  exact PySem.W.truthy_bytes (by omega) ⟨H,I.tok _,q⟩
 |ref p=>
  cases rx
  have e':(∃xs,SqL X.K H p xs/\k=!xs.isEmpty)∨(∃xs,SqT X.K H p xs/\k=!xs.isEmpty)∨∃kvs,H p=some (.dK kvs)/\k=!kvs.isEmpty:=e
  rcases e' with⟨xs,hx,e'⟩ | ⟨xs,hx,e'⟩ | ⟨kvs,hx,e'⟩
  ·subst e'
   obtain⟨its,r,pl,hz⟩:=I.list hx
   have hlen:=r.length
   exact wpAny_truthy_list pl.isList (by simp only[List.size_toArray];omega) ⟨H,I.tok _,by rw[WV r];exact q⟩
  ·subst e'
   obtain⟨its,r,pl,hz⟩:=I.tuple hx
   have hlen:=r.length
   exact truthy_tuple pl (by simp only[List.size_toArray];omega) ⟨H,I.tok _,by rw[WV r];exact q⟩
  ·subst e'
   obtain⟨hz,hS,vs,r,m⟩:kvs.length<=sizeLine/\(p==sysModules)=false/\∃vs,KV kvs vs/\s.heap.DictOf (zG X.prog X.w) p vs:=I.hok p _ hx
   have hlen:kvs.length=vs.length:=Paired.length r
   exact wpAny_truthy_dict hS m (by omega) ⟨H,I.tok _,by rw[UF r];exact q⟩
 |_=>exact (show False from e).elim
theorem Kz (ha:PE X a ta)(he:∀whole,isTrue a X.env whole=(do let v <-whole;standAt a.pos;holding [v] (truthy v))) :
  PT X a (λσ H Q=>ta σ H λx H'=>∃k,TruV X.K x H' k/\Q k H'):=by
 intro pins s σ H Q I h
 exact isTrue_plain (thn (ha pins s σ H _ I h) λv s1 ⟨x,H1,I1,r1,q1⟩=>zak pins s1 σ H1 x v Q I1 r1 q1) (he _)
theorem JO:OpR X (binaryOp .Add) (λx y H Q=>∃i j,x=.str i/\y=.str j/\i.length+j.length<=sizeLine/\Q (.str (i++j)) H):=by
 intro pins s σ H x y v u Q I rx ry h
 obtain⟨i,j,rfl,rfl,hz,q⟩:=h
 obtain⟨t,rfl⟩:=rx
 obtain⟨t',rfl⟩:=ry
 exact add_str (λt' tk=>⟨.str (i++j),H,I.tok _,⟨_,rfl⟩,q⟩) hz
theorem vals1 {x:V}{us:List Value}(r:Vals [x] us):∃u,us=[u]/\RelV x u:=by
 cases r with
 |cons r1 r2=>cases r2;exact⟨_,rfl,r1⟩
theorem vals2 {x y:V}{us:List Value}(r:Vals [x,y] us):∃u w',us=[u,w']/\RelV x u/\RelV y w':=by
 cases r with
 |cons r1 r2=>
  cases r2 with
  |cons r3 r4=>cases r4;exact⟨_,_,rfl,r1,r3⟩
theorem Kl (hc:X.calm=true):CallR X (.builtin "max") (λxs H Q=>∃i j,xs=[.int i,.int j]/\Q (.int (if j > i then j else i)) H):=by
 intro pins s σ H xs us Q I r h
 obtain⟨i,j,rfl,q⟩:=h
 obtain⟨u,w',rfl,⟨t,rfl⟩,⟨t',rfl⟩⟩:=vals2 r
 refine max_two_ints (I.ok.hd hc) λh' tk k=>⟨_,H,I.kept k,?_,q⟩
 by_cases hj:j > i
 ·rw[if_pos hj,if_pos hj];exact⟨_,rfl⟩
 ·rw[if_neg hj,if_neg hj];exact⟨_,rfl⟩
theorem Jj (hc:X.calm=true):CallR X (.builtin "min") (λxs H Q=>∃i j,xs=[.int i,.int j]/\Q (.int (if j < i then j else i)) H):=by
 intro pins s σ H xs us Q I r h
 obtain⟨i,j,rfl,q⟩:=h
 obtain⟨u,w',rfl,⟨t,rfl⟩,⟨t',rfl⟩⟩:=vals2 r
 refine min_two_ints (I.ok.hd hc) λh' tk k=>⟨_,H,I.kept k,?_,q⟩
 by_cases hj:j < i
 ·rw[if_pos hj,if_pos hj];exact⟨_,rfl⟩
 ·rw[if_neg hj,if_neg hj];exact⟨_,rfl⟩
theorem KI:CallR X (.type "int") (λxs H Q=>(∃i,xs=[.int i]/\Q (.int i) H)∨∃k,xs=[.bl k]/\Q (.int (if k then 1 else 0)) H):=by
 intro pins s σ H xs us Q I r h
 rcases h with⟨i,rfl,q⟩ | ⟨k,rfl,q⟩
 ·obtain⟨u,rfl,t,rfl⟩:=vals1 r
  exact call_int_int ⟨.int i,H,I,⟨_,rfl⟩,q⟩
 ·obtain⟨u,rfl,r1⟩:=vals1 r
  cases r1
  exact call_int_bool ⟨.int (if k then 1 else 0),H,I.tok _,⟨_,rfl⟩,q⟩
def LenV (K:PySem.W.Frag)(x:V)(H:Hp)(n:Nat):Prop :=
 match x with
 |.str y=>y.length<=sizeLine/\n=y.length
 |.byt y=>y.size<=sizeLine/\n=y.size
 |.ref p=>(∃xs,SqL K H p xs/\n=xs.length)∨∃xs,SqT K H p xs/\n=xs.length
 |_=>False
theorem Kc:CallR X (.builtin "len") (λxs H Q=>∃x n,xs=[x]/\LenV X.K x H n/\Q (.int n) H):=by
 intro pins s σ H xs us Q I r h
 obtain⟨x,n,rfl,e,q⟩:=h
 obtain⟨u,rfl,rx⟩:=vals1 r
 have hl:=line63
 have hs:sizeLine=16777216:=sizeLine_eq
 cases x with
 |str y=>
  obtain⟨t,rfl⟩:=rx
  obtain⟨hy,e'⟩:y.length<=sizeLine/\n=y.length:=e
  subst e'
  exact len_str (by omega) ⟨.int _,H,I.tok _,⟨_,rfl⟩,q⟩
 |byt y=>
  obtain⟨t,rfl⟩:=rx
  obtain⟨hy,e'⟩:y.size<=sizeLine/\n=y.size:=e
  subst e'
  exact PySem.W.len_bytes (by omega) ⟨.int _,H,I.tok _,⟨_,rfl⟩,q⟩
 |ref p=>
  cases rx
  have e':(∃xs,SqL X.K H p xs/\n=xs.length)∨∃xs,SqT X.K H p xs/\n=xs.length:=e
  rcases e' with⟨xs,hx,e'⟩ | ⟨xs,hx,e'⟩
  ·subst e'
   obtain⟨its,r',pl,hz⟩:=I.list hx
   have hlen:=r'.length
   exact Calls.call_len_list pl.isList (by simp only[List.size_toArray];omega) ⟨.int xs.length,H,I.tok _,⟨_,by simp only[List.size_toArray];rw[hlen]⟩,q⟩
  ·subst e'
   obtain⟨its,r',pl,hz⟩:=I.tuple hx
   have hlen:=r'.length
   exact len_tuple pl (by simp only[List.size_toArray];omega) ⟨.int xs.length,H,I.tok _,⟨_,by simp only[List.size_toArray];rw[hlen]⟩,q⟩
 |_=>exact (show False from e).elim
end
structure ObjM (h:Heap)(x dx C:Addr)(mA:Str->Option Value):Prop where
 obj:h.get? x=some (PySem.W.instObj C dx)
 ns:h.Ns1 dx mA
 ne:dx≠x
theorem KD {h:Heap}{dx:Addr}{mA:Str->Option Value}(n:h.Ns1 dx mA):∃od,h.get? dx=some od/\∀name,PySem.W.lookIn name od=some (mA name):=by
 obtain⟨o,es,ep,ho,hd,hk,_,hm⟩:=n
 refine⟨o,ho,λname=>?_⟩
 have e:=hm name
 unfold nsFind findBy at e
 rw[<-Array.find?_toList] at e
 unfold PySem.W.lookIn
 rw[hd]
 dsimp only
 split
 ·rename_i y q
  rw[q] at e
  exact congrArg some e
 ·rename_i q
  rw[q] at e
  have a:es.toList.any (·.refKey)=false:=by
   rw[List.any_eq_false]
   intro y hy
   obtain⟨z,t,hkey⟩:=hk y (Array.mem_toList_iff.mp hy)
   simp[DictEntry.refKey,hkey]
  have a':¬es.toList.any (·.refKey)=true:=by rw[a];exact Bool.false_ne_true
  rw[if_neg a']
  exact congrArg some e
theorem ObjM.look {h:Heap}{x dx C:Addr}{mA:Str->Option Value}(I:ObjM h x dx C mA):∃od,PySem.W.InstAt h x (PySem.W.instObj C dx) C (some od)/\∀name,PySem.W.lookIn name od=some (mA name) :=
 let ⟨od,ho,hl⟩:=KD I.ns
 ⟨od,⟨I.obj,rfl,rfl,ho⟩,hl⟩
section
variable {prog:Program}{w:World}{A:Around}{E:Value->Shared->Prop}{s:Shared}{K:PySem.W.Frag}{x dx C f:Addr}{mA:Str->Option Value}{name:Str}{v:Value}
theorem K7 {expr:Bool}{Q:Value->Shared->Prop}(X:K.In s.heap)(I:ObjM s.heap x dx C mA)(hg:PySem.W.plainGet K C name=true)(hh:PySem.W.hasDictIn K C=true)
  (ha:PySem.W.findIn K (.ref C) name=some none) (hv:mA name=some v) (hv':PySem.W.handedIn v=true) (h:Q v { s with toks:=s.toks+1 }) :
  wpAny (model prog w) A (getAttr (.ref x) name expr) Q E s:=by
 obtain⟨od,J,hl⟩:=I.look
 exact PySem.W.get_value X J (PySem.W.plainGet_of hg).1 (PySem.W.findObj_own hh ha rfl (by rw[hl,hv])) hv' h
theorem Uw {pl:Sem Bool}{Q:Value×List Value->Shared->Prop}(X:K.In s.heap)(I:ObjM s.heap x dx C mA)(hg:PySem.W.plainGet K C name=true)
  (hf:PySem.W.findIn K (.ref C) name=some (some (.ref f))) (ht:PySem.W.isFn K (.ref f)=true) (hv:mA name=none) (h:Q (.ref f,[.ref x]) s) :
  wpAny (model prog w) A (getMethod (.ref x) name pl) Q E s:=by
 obtain⟨od,J,hl⟩:=I.look
 exact PySem.W.method_fn X J (PySem.W.plainGet_of hg).1 (PySem.W.plainGet_of hg).2 hf (beq_iff_eq.mp ht) (by show (PySem.W.lookIn name od).map (·.isSome)=some false;rw[hl,hv];rfl) h
theorem UV {ns:List Str}{Q:Unit->Shared->Prop}(X:K.In s.heap)(I:ObjM s.heap x dx C mA)
  (hs:PySem.W.findIn K (.ref C) "__setattr__" = some (some (.builtin "object.__setattr__"))) (hp:PySem.W.plainOver K C=true) (ht:PySem.W.takerIn K C name=some none) (hh:PySem.W.hasDictIn K C=true)
  (hw:PySem.Within mA ns) (hsz:ns.length<=sizeLine)
  (h:∀h',ObjM h' x dx C (λy=>if y=name then some v else mA y)->Heap.SameBut dx s.heap h'->Q () { s with heap:=h',toks:=s.toks+2 }) :
  wpAny (model prog w) A (setAttr (.ref x) name v) Q E s:=by
 obtain⟨od,J,hl⟩:=I.look
 refine PySem.W.set_plain X J hs (PySem.W.osa_open (s:={ s with toks:=s.toks+1 }) (r:=none) X J hp ht λb=>?_)
 obtain⟨cd,hc,hd'⟩:=PySem.W.any_some hh
 have hx:s.heap.get? x=some ⟨.ref C,some dx,.plain,#[]⟩:=I.obj
 refine wpAny_bind (wpAny_pure (wpAny_bind (wpAny_bind (wpAny_loadPart hx (wpAny_bind (PySem.W.Looks.here (s:={ s with toks:=s.toks+1 }) (PySem.W.looks_clsIn X hc) ?_))))))
 rw[hd']
 refine wpAny_pure (a:=some dx) (wpAny_bind (wpAny_pure (wpAny_bind ?_)))
 refine wpAny_nsSet1 (s:={ s with toks:=s.toks+1 }) I.ns λh' hn2 hs2=>?_
 obtain⟨oD,esD,epD,hoD,hdD,hcD⟩:=hn2.count (PySem.Within.cons name v hw)
 refine wpAny_bind (wpAny_lookBehind hoD (by rw[hdD];exact pastItsLine_dict (Nat.le_trans hcD (by rw[List.length_cons];omega))) ?_)
 exact wpAny_pure (h _ ⟨(hs2.2 _ (Ne.symm I.ne)).trans I.obj,hn2,I.ne⟩ hs2)
theorem Kh {R:Result->Shared->Prop}{vs:List Value}{kw:List (Str×Value)}(X:K.In s.heap)(hm:PySem.W.makesIn K C=true)
  (hi:PySem.W.findIn K (.ref C) "__init__" = some (some (.ref f))) (hf:PySem.W.typeIn K (.ref f)=some (.type "function"))
  (h:codeAny (model prog w) (A.under (.builtin "type.__call__" ⟨.ref C::vs,kw⟩)) (.call (.ref f) ⟨.ref (s.heap.objs.size+1)::vs,kw⟩) (PySem.W.InitBack (s.heap.objs.size+1) R)
   { s with heap:=(s.heap.push PySem.W.emptyDict).push (PySem.W.instObj C s.heap.objs.size) }) :
  codeAny (model prog w) A (.call (.ref C) ⟨vs,kw⟩) R s:=by
 obtain⟨hh,g,d,t,os⟩:=s
 exact PySem.W.make_core (PySem.W.makes_of X hm) (PySem.W.looks_findIn X hi) (λself=>PySem.W.bind_fn X self hf) (.inl rfl) h
end
def putF (f:Str)(v:V):List (Str×V)->List (Str×V)
 | []=>[(f,v)]
 | (g,x)::r=>if g=f then (g,v)::r else (g,x)::putF f v r
theorem Vm (f g:Str)(v:V):∀fs:List (Str×V),(putF f v fs).lookup g=if g=f then some v else fs.lookup g
 | []=>by
  show List.lookup g [(f,v)]=_
  by_cases h:g=f
  ·have hb:(g==f)=true:=beq_iff_eq.mpr h
   simp only[List.lookup,hb,if_pos h]
  ·have hb:(g==f)=false:=beq_eq_false_iff_ne.mpr h
   simp only[List.lookup,hb,if_neg h]
 | (k,x)::r=>by
  have ih:=Vm f g v r
  rw[show putF f v ((k,x)::r)=(if k=f then (k,v)::r else (k,x)::putF f v r) from rfl]
  by_cases hk:k=f
  ·rw[if_pos hk]
   by_cases h:g=k
   ·have hb:(g==k)=true:=beq_iff_eq.mpr h
    simp only[List.lookup,hb,if_pos (h.trans hk)]
   ·have hb:(g==k)=false:=beq_eq_false_iff_ne.mpr h
    simp only[List.lookup,hb,if_neg (λe:g=f=>h (e.trans hk.symm))]
  ·rw[if_neg hk]
   by_cases h:g=k
   ·have hb:(g==k)=true:=beq_iff_eq.mpr h
    simp only[List.lookup,hb,if_neg (λe:g=f=>hk (h.symm.trans e))]
   ·have hb:(g==k)=false:=beq_eq_false_iff_ne.mpr h
    simp only[List.lookup,hb]
    exact ih
theorem uA (f:Str)(v:V):∀fs:List (Str×V),f∈(putF f v fs).map (·.1)/\∀g,g∈fs.map (·.1)->g∈(putF f v fs).map (·.1)
 | []=>⟨by simp[putF],λg h=>by simp at h⟩
 | (k,x)::r=>by
  obtain⟨i1,i2⟩:=uA f v r
  rw[show putF f v ((k,x)::r)=(if k=f then (k,v)::r else (k,x)::putF f v r) from rfl]
  by_cases hk:k=f
  ·rw[if_pos hk]
   subst hk
   exact⟨by simp,λg h=>by simpa using h⟩
  ·rw[if_neg hk]
   refine⟨?_,λg h=>?_⟩
   ·rw[List.map_cons]
    exact List.mem_cons_of_mem _ i1
   ·rw[List.map_cons] at h ⊢
    rcases List.mem_cons.mp h with e | e
    ·exact List.mem_cons.mpr (.inl e)
    ·exact List.mem_cons_of_mem _ (i2 g e)
theorem Y3 (f:Str)(v:V):∀fs:List (Str×V),(putF f v fs).length<=fs.length+1
 | []=>by simp[putF]
 | (k,x)::r=>by
  have ih:=Y3 f v r
  rw[show putF f v ((k,x)::r)=(if k=f then (k,v)::r else (k,x)::putF f v r) from rfl]
  by_cases hk:k=f
  ·rw[if_pos hk,List.length_cons,List.length_cons];omega
  ·rw[if_neg hk,List.length_cons,List.length_cons];omega
theorem RelO.some_of {v:V}{o:Option Value}(r:RelO (some v) o):∃u,o=some u/\RelV v u:=by
 cases o with
 |none=>exact (show False from r).elim
 |some u=>exact⟨u,rfl,r⟩
theorem RelO.none_of {o:Option Value}(r:RelO none o):o=none:=by
 cases o with
 |none=>rfl
 |some u=>exact (show False from r).elim
theorem Jz {v:V}{u:Value}(r:RelV v u):PySem.W.handedIn u=true:=by
 cases v with
 |non=>cases (show u=Value.none from r);rfl
 |bl b=>cases (show u=Value.bool b from r);rfl
 |int i=>obtain⟨t,e⟩:=(show ∃t,u=Value.int i t from r);cases e;rfl
 |str x=>obtain⟨t,e⟩:=(show ∃t,u=Value.str x t from r);cases e;rfl
 |byt b=>obtain⟨t,e⟩:=(show ∃t,u=Value.bytes b t from r);cases e;rfl
 |flt b=>obtain⟨t,e⟩:=(show ∃t,u=Value.float b t from r);cases e;rfl
 |ref a=>cases (show u=Value.ref a from r);rfl
 |ty n=>cases (show u=Value.type n from r);rfl
section
variable {P:Program}{w:World}{H H':Hp}{h h':Heap}{a C dx:Addr}{fs fs':List (Str×V)}
theorem qg (hok:HOk P w H h)(e:H a=some (.ins C dx fs)):∃mA,ObjM h a dx C mA/\(∀f,RelO (fs.lookup f) (mA f))/\PySem.Within mA (fs.map (·.1))/\fs.length<=1000/\H dx=some (.own a):=by
 obtain⟨d,z,ne,ob,mA,n,r,q⟩:=(show ObjOk P w H h a (.ins C dx fs) from hok a _ e)
 exact⟨mA,⟨ob,n,ne⟩,r,q,z,d⟩
end
structure Cls (K:PySem.W.Frag)(C:Addr):Prop where
 pg:PySem.W.plainGet K C Str.empty=true
 hd:PySem.W.hasDictIn K C=true
 po:PySem.W.plainOver K C=true
 sa:PySem.W.findIn K (.ref C) "__setattr__" = some (some (.builtin "object.__setattr__"))
theorem Cls.get {K:PySem.W.Frag}{C:Addr}(c:Cls K C)(f:Str):PySem.W.plainGet K C f=true:=c.pg
def NoAttr (K:PySem.W.Frag)(C:Addr)(f:Str):Prop:=PySem.W.findIn K (.ref C) f=some none
theorem NoAttr.taker {K:PySem.W.Frag}{C:Addr}{f:Str}(n:NoAttr K C f):PySem.W.takerIn K C f=some none:=by
 unfold PySem.W.takerIn
 rw[show PySem.W.findIn K (.ref C) f=some none from n]
 rfl
structure Con (K:PySem.W.Frag)(C:Addr)(f:Str)(v:V)(u:Value):Prop where
 at_:PySem.W.findIn K (.ref C) f=some (some u)
 rel:RelV v u
 get:PySem.W.specialIn K u "__get__" = some none
 cp:PySem.W.copiedNames.contains f=false
structure Meth (K:PySem.W.Frag)(C:Addr)(m:Str)(f:Addr):Prop where
 at_:PySem.W.findIn K (.ref C) m=some (some (.ref f))
 fn:PySem.W.isFn K (.ref f)=true
 kp:PySem.W.keepIn K (.ref f)=true
section
variable {X:Cx}{pins:List (Addr×Obj)}{σ:St}{H:Hp}{s:Shared}{a C dx:Addr}{fs:List (Str×V)}{f:Str}{v:V}{A:Around}{E:Value->Shared->Prop}
theorem JV {b:Bool}{Q:Value->Shared->Prop}(I:Inv X pins σ H s)(e:H a=some (.ins C dx fs))(c:Cls X.K C)(n:NoAttr X.K C f)(l:fs.lookup f=some v)
  (h:∀u s',Inv X pins σ H s'->RelV v u->Q u s'):wpAny (model X.prog X.w) A (getAttr (.ref a) f b) Q E s:=by
 obtain⟨mA,O,r,_,_,_⟩:=qg I.hok e
 obtain⟨u,hu,ru⟩:=RelO.some_of (v:=v) (o:=mA f) (by rw[<-l];exact r f)
 exact K7 I.kIn O (c.get f) c.hd n hu (Jz ru) (h u _ (I.tok _) ru)
theorem YM {m:Str}{g:Addr}{pl:Sem Bool}{Q:Value×List Value->Shared->Prop}(I:Inv X pins σ H s)(e:H a=some (.ins C dx fs))(c:Cls X.K C)(k:Meth X.K C m g)(l:fs.lookup m=none)
  (h:Q (.ref g,[.ref a]) s):wpAny (model X.prog X.w) A (getMethod (.ref a) m pl) Q E s:=by
 obtain⟨mA,O,r,_,_,_⟩:=qg I.hok e
 have hn:mA m=none:=RelO.none_of (by rw[<-l];exact r m)
 exact Uw I.kIn O (c.get m) k.at_ k.fn hn h
theorem K5 {y:V}{u:Value}{Q:Unit->Shared->Prop}(I:Inv X pins σ H s)(e:H a=some (.ins C dx fs))(c:Cls X.K C)(n:NoAttr X.K C f)(hl:fs.length < 1000)(ry:RelV y u)
  (h:∀s',Inv X pins σ (upd H a (.ins C dx (putF f y fs))) s'->Q () s'):wpAny (model X.prog X.w) A (setAttr (.ref a) f u) Q E s:=by
 obtain⟨mA,O,r,wi,_,ho⟩:=qg I.hok e
 have hz:(fs.map (·.1)).length<=sizeLine:=by rw[List.length_map,sizeLine_eq];omega
 refine UV I.kIn O c.sa c.po n.taker c.hd wi hz λh' O' sb=>h _ ?_
 have hd:∃o,h'.get? dx=some o:=let ⟨o,_,_,e',_⟩:=O'.ns;⟨o,e'⟩
 refine I.write (x:=a) (e:=dx) (by rw[e];exact True.intro) (.inr ho) (λb q hb z=>(sb.2 b hb).trans z) hd ?_
 refine⟨by rw[zk O.ne];exact ho,?_,O.ne,O'.obj,_,O'.ns,λg=>?_,λg hg=>?_⟩
 ·have:=Y3 f y fs;omega
 ·show RelO ((putF f y fs).lookup g) (if g=f then some u else mA g)
  rw[Vm]
  by_cases q:g=f
  ·rw[if_pos q,if_pos q];exact ry
  ·rw[if_neg q,if_neg q];exact r g
 ·by_cases q:g=f
  ·rw[q];exact (uA f y fs).1
  ·refine (uA f y fs).2 g (wi g λz=>hg ?_)
   show (if g=f then some u else mA g)=none
   rw[if_neg q];exact z
theorem Inv.made (I:Inv X pins σ H s):Inv X pins σ (upd (upd H s.heap.objs.size (.own (s.heap.objs.size+1))) (s.heap.objs.size+1) (.ins C s.heap.objs.size []))
  { s with heap:=(s.heap.push PySem.W.emptyDict).push (PySem.W.instObj C s.heap.objs.size) }:=by
 have e1:(s.heap.push PySem.W.emptyDict).get? s.heap.objs.size=some PySem.W.emptyDict:=Heap.get?_push_size s.heap rfl
 have e2:((s.heap.push PySem.W.emptyDict).push (PySem.W.instObj C s.heap.objs.size)).get? (s.heap.objs.size+1)=some (PySem.W.instObj C s.heap.objs.size):=by
  have:=Heap.get?_push_size (s.heap.push PySem.W.emptyDict) (o:=PySem.W.instObj C s.heap.objs.size) rfl
  rwa [Heap.size_push] at this
 have e3:(s.heap.push PySem.W.emptyDict).Ns s.heap.objs.size (λ_=>none):=⟨PySem.W.emptyDict,#[],_,e1,rfl,(λe he=>absurd he (by simp)),λ_=>rfl⟩
 have I1:=I.laid (a:=s.heap.objs.size) (o:=.own (s.heap.objs.size+1)) (h':=s.heap.push PySem.W.emptyDict) (t':=s.toks) (λb u q=>Heap.get?_push_of_some _ q) (Nat.le_refl _) ⟨_,e1⟩
 refine I1.laid (a:=s.heap.objs.size+1) (o:=.ins C s.heap.objs.size []) (t':=s.toks) (λb u q=>Heap.get?_push_of_some _ q) (Nat.le_of_eq (Heap.size_push _ _)) ?_
 have ne:s.heap.objs.size≠s.heap.objs.size+1:=Nat.ne_of_lt (Nat.lt_succ_self _)
 refine⟨by rw[zk ne,zq],Nat.zero_le _,ne,e2,λ_=>none,(Heap.Ns1.of_empty e3).at λo q=>Heap.get?_push_of_some _ q,λ_=>True.intro,λy hy=>absurd rfl hy⟩
theorem RF {prog:Program}{w:World}{env:Env}{e:Expr}{f:Str}{pos:Pos}{s:Shared}{Q:Value->Shared->Prop}(hb:attributeBase e f env (eval e env)=eval e env)
  (h:wpAny (model prog w) A (eval e env) (λo s₁=>wpAny (model prog w) A (getAttr o f true) Q E s₁) E s):wpAny (model prog w) A (eval (.Attribute e f pos) env) Q E s :=
 Attribute_any_ h (by rw[arm_eval_Attribute,hb])
end
def tFld (K:PySem.W.Frag)(ta:TE)(f:Str):TE:=λσ H Q=>ta σ H λx H1=>∃a C dx fs v,x=.ref a/\H1 a=some (.ins C dx fs)/\Cls K C/\NoAttr K C f/\fs.lookup f=some v/\Q v H1
def sFld (K:PySem.W.Frag)(ta tv:TE)(f:Str):TS:=λD σ H=>tv σ H λy H1=>ta σ H1 λx H2=>∃a C dx fs,x=.ref a/\H2 a=some (.ins C dx fs)/\Cls K C/\NoAttr K C f/\fs.length < 1000 /\
 D.nx σ (upd H2 a (.ins C dx (putF f y fs)))
section
variable {X:Cx}{o e value:Expr}{f:Str}{pos pos' tpos:Pos}{ta tv:TE}
theorem Qx (he:PE X e ta)(hb:attributeBase e f X.env (eval e X.env)=eval e X.env):PE X (.Attribute e f pos) (tFld X.K ta f):=by
 intro pins s σ H Q I h
 refine RF hb (thn (he pins s σ H _ I h) λu s1 ⟨x,H1,I1,rx,a,C,dx,fs,v,ex,ea,c,n,l,q⟩=>?_)
 subst ex
 obtain rfl:u=Value.ref a:=rx
 exact JV I1 ea c n l λu' s2 I2 ru=>⟨v,H1,I2,ru,q⟩
theorem KL (ha:PE X o ta)(hv:PE X value tv)(hs:swapsWith value (some (.Attribute o f pos')) pos.line X.env=pure false):PS X (.Assign [.Attribute o f pos'] value pos) (sFld X.K ta tv f):=by
 intro pins s σ H D I h
 refine plainObj_wpAny_Assign_Attribute (thn (hv pins s σ H _ I h) λu s1 ⟨y,H1,I1,ry,q⟩=>thn (ha pins s1 σ H1 _ I1 q) λov s2 ⟨x,H2,I2,rx,a,C,dx,fs,ex,ea,c,n,l,q2⟩=>?_) hs
 subst ex
 obtain rfl:ov=Value.ref a:=rx
 exact K5 I2 ea c n l ry λs3 I3=>⟨σ,_,I3,q2⟩
end
section
variable {X:Cx}{pins:List (Addr×Obj)}{σ:St}{H:Hp}{s:Shared}{A:Around}{E:Value->Shared->Prop}{Q:Value->Shared->Prop}{c:Value}{b:Bool}
inductive TyOf (K:PySem.W.Frag) (H:Hp):V->Value->Prop where
 |non:TyOf K H .non (.type "NoneType")
 |bl (x:Bool):TyOf K H (.bl x) (.type "bool")
 |int (i:Int):TyOf K H (.int i) (.type "int")
 |str (x:Str):TyOf K H (.str x) (.type "str")
 |flt (x:UInt64):TyOf K H (.flt x) (.type "float")
 |lst {a:Addr} {xs:List V} (e:H a=some (.lst xs)):TyOf K H (.ref a) (.type "list")
 |frz {a:Addr} {o:Obj} {xs:List V} (e:H a=some (.frz o (.lst xs))):TyOf K H (.ref a) (.type "list")
 |tup {a:Addr} {xs:List V} (e:H a=some (.tup xs)):TyOf K H (.ref a) (.type "tuple")
 |dK {a:Addr} {kvs:List (Key×V)} (e:H a=some (.dK kvs)):TyOf K H (.ref a) (.type "dict")
 |dT {a:Addr} {kvs:List (List Key×V)} (e:H a=some (.dT kvs)):TyOf K H (.ref a) (.type "dict")
 |ins {a C dx:Addr} {fs:List (Str×V)} (e:H a=some (.ins C dx fs)) (cl:Cls K C) (ha:PySem.W.findIn K (.ref C) "__class__" = some (some (.builtin "object.__class__")))
   (hn:PySem.W.specialIn K (.builtin "object.__class__") "__get__" = some (some (.builtin "getset_descriptor.__get__"))) (htk:PySem.W.takesIn K (.builtin "object.__class__")=some true)
   (hm:PySem.W.mroIn K C (.type "object")=some true):TyOf K H (.ref a) (.ref C)
theorem VG {x:V}{u t:Value}(I:Inv X pins σ H s)(rx:RelV x u)(ty:TyOf X.K H x t)(e:PySem.W.kitOne X.K t c=some b)(h:∀tk,Q (.bool b) { s with toks:=tk }) :
  wpAny (model X.prog X.w) A (call (.builtin "isinstance") [u,c]) Q E s:=by
 cases ty with
 |non=>cases (show u=Value.none from rx);exact PySem.W.kia_one PySem.W.kitx_none I.kIn True.intro e (λz=>nomatch z) h
 |bl y=>cases (show u=Value.bool y from rx);exact PySem.W.kia_one PySem.W.kitx_bool I.kIn True.intro e (λz=>nomatch z) h
 |int i=>obtain⟨t,q⟩:=(show ∃t,u=Value.int i t from rx);cases q;exact PySem.W.kia_one PySem.W.kitx_int I.kIn True.intro e (λz=>nomatch z) h
 |str y=>obtain⟨t,q⟩:=(show ∃t,u=Value.str y t from rx);cases q;exact PySem.W.kia_one PySem.W.kitx_str I.kIn True.intro e (λz=>nomatch z) h
 |flt y=>obtain⟨t,q⟩:=(show ∃t,u=Value.float y t from rx);cases q;exact PySem.W.kia_one PySem.W.kitx_float I.kIn True.intro e (λz=>nomatch z) h
 | @lst a xs ea=>
  cases (show u=Value.ref a from rx)
  obtain⟨_,_,n,_,h1⟩:=(show ObjOk X.prog X.w H s.heap a (.lst xs) from I.hok a _ ea)
  exact PySem.W.kia_one PySem.W.kitx_list I.kIn ⟨_,h1,rfl⟩ e (λz=>nomatch z) h
 | @frz a ob xs ea=>
  cases (show u=Value.ref a from rx)
  obtain⟨_,_,_,n,_,h1⟩:=(show ObjOk X.prog X.w H s.heap a (.frz ob (.lst xs)) from I.hok a _ ea)
  exact PySem.W.kia_one PySem.W.kitx_list I.kIn ⟨_,h1,rfl⟩ e (λz=>nomatch z) h
 | @tup a xs ea=>
  cases (show u=Value.ref a from rx)
  obtain⟨_,_,_,p⟩:=(show ObjOk X.prog X.w H s.heap a (.tup xs) from I.hok a _ ea)
  obtain⟨o,h1,h2,_⟩:=p
  exact PySem.W.kia_one PySem.W.kitx_tuple I.kIn ⟨o,h1,h2⟩ e (λz=>nomatch z) h
 | @dK a kvs ea=>
  cases (show u=Value.ref a from rx)
  obtain⟨_,_,vs,_,p⟩:=(show ObjOk X.prog X.w H s.heap a (.dK kvs) from I.hok a _ ea)
  obtain⟨o,es,ep,h1,h2,_⟩:=p
  exact PySem.W.kia_one PySem.W.kitx_dict I.kIn ⟨o,h1,h2.1⟩ e (λz=>nomatch z) h
 | @dT a kvs ea=>
  cases (show u=Value.ref a from rx)
  obtain⟨_,_,xs,_,o,es,ep,h1,h2,_⟩:=(show ObjOk X.prog X.w H s.heap a (.dT kvs) from I.hok a _ ea)
  exact PySem.W.kia_one PySem.W.kitx_dict I.kIn ⟨o,h1,h2.1⟩ e (λz=>nomatch z) h
 | @ins a C dx fs ea cl ha hn htk hm=>
  cases (show u=Value.ref a from rx)
  obtain⟨mA,O,_⟩:=qg I.hok ea
  obtain⟨od,J,_⟩:=O.look
  exact PySem.W.kia_one (PySem.W.kitx_own (cl.get _) cl.hd ha hn htk hm) I.kIn J e (λz=>nomatch z) h
end
structure Room (k:Nat)(A:Around):Prop where
 hd:A.handled=none
 dp:A.depth+3 * k+5 < recursionLimit
 un:A.units+16 * k+200 < cLine
theorem Room.mono {j k:Nat}{A:Around}(r:Room k A)(h:j<=k):Room j A:=⟨r.hd,by have:=r.dp;omega,by have:=r.un;omega⟩
theorem Room.deeper {k:Nat}{A:Around}(r:Room (k+1) A)(env:Env):Room k (A.deeper env) :=
 ⟨r.hd,by have:=r.dp;show A.depth+1+3 * k+5 < _;omega,by have:=r.un;show A.units+3+16 * k+200 < _;omega⟩
theorem U9 {A:Around}{C:Addr}{us:List Value}{kw:List (Str×Value)}:(A.under (.builtin "type.__call__" ⟨.ref C::us,kw⟩)).depth=A.depth+1:=by
 first | rfl | simp[Around.under,Code.weight,Code.isCreation,Code.isGuard,Code.isCaller,Code.frames,Code.isFrame,guardIds]
theorem R0 {A:Around}{C:Addr}{us:List Value}{kw:List (Str×Value)}:(A.under (.builtin "type.__call__" ⟨.ref C::us,kw⟩)).units=A.units+1:=by
 first | rfl | simp[Around.under,Code.cUnits,Code.frames,Code.isFrame]
theorem Room.make {k:Nat}{A:Around}(r:Room (k+1) A)(C:Addr)(us:List Value)(kw:List (Str×Value)):Room k (A.under (.builtin "type.__call__" ⟨.ref C::us,kw⟩)) :=
 ⟨r.hd,by have:=r.dp;rw[U9];omega,by have:=r.un;rw[R0];omega⟩
theorem Room.depth {k:Nat}{A:Around}(r:Room k A):A.depth < recursionLimit:=by have:=r.dp;omega
theorem Room.units {k:Nat}{A:Around}(r:Room k A):A.units+64 < cLine:=by have:=r.un;omega
def tNil:TA:=λ_ H Q=>Q [] H
def tCons (ta:TE)(tr:TA):TA:=λσ H Q=>ta σ H λx H1=>tr σ H1 λxs H2=>Q (x::xs) H2
section
variable {X:Cx}{e:Expr}{es:List Expr}{te:TE}{t:TA}{pos:Pos}
theorem yr:PA X [] tNil:=λ_ _ _ _ H Q I h=>Calls.spliced_nil ⟨[],H,I,.nil,h⟩
theorem zZ (ha:PE X e te)(hr:PA X es t)(hs:starEach (e::es) X.env=(false,eval e X.env)::starEach es X.env:=by rfl):PA X (e::es) (tCons te t):=by
 intro pos pins s σ H Q I h
 rw[hs]
 show wpAny _ _ (spliced ((false,eval e X.env)::backTo pos (starEach es X.env))) _ _ s
 refine Calls.spliced_cons (thn (ha pins s σ H _ I h) λu s1 ⟨x,H1,I1,r1,q1⟩=>?_)
 exact thn (hr pos pins s1 σ H1 _ I1 q1) λus s2 ⟨xs,H2,I2,r2,q2⟩=>⟨x::xs,H2,I2,.cons r1 r2,q2⟩
def tTup (t:TA):TE:=λσ H Q=>t σ H λxs H1=>xs.length<=sizeLine/\∀p,H1 p=none->Q (.ref p) (upd H1 p (.tup xs))
def tLst (t:TA):TE:=λσ H Q=>t σ H λxs H1=>xs.length<=sizeLine/\∀p,H1 p=none->Q (.ref p) (upd H1 p (.lst xs))
theorem Yj {x1}(h:PA X es t):PE X (.Tuple es x1 pos) (tTup t):=by
 intro pins s σ H Q I hq
 refine wpAny_Tuple_spliced (thn (h pos pins s σ H _ I hq) λus s1 ⟨xs,H1,I1,r,z,q⟩=>⟨by rw[<-r.length];exact z,?_⟩)
 have hf:H1 s1.heap.objs.size=none:=I1.hok.fresh (Nat.le_refl _)
 refine⟨.ref s1.heap.objs.size,upd H1 s1.heap.objs.size (.tup xs),I1.laid (t':=s1.toks) (λb u e=>Heap.get?_push_of_some _ e) (Nat.le_refl _) ?_,rfl,q _ hf⟩
 exact⟨z,us,r,⟨_,Heap.get?_push_size _ rfl,rfl,_,rfl⟩⟩
theorem Uz (h:PA X es t):PE X (.List es pos) (tLst t):=by
 intro pins s σ H Q I hq
 refine wpAny_List_spliced (thn (h pos pins s σ H _ I hq) λus s1 ⟨xs,H1,I1,r,z,q⟩=>⟨by rw[<-r.length];exact z,?_⟩)
 have hf:H1 s1.heap.objs.size=none:=I1.hok.fresh (Nat.le_refl _)
 refine⟨.ref s1.heap.objs.size,upd H1 s1.heap.objs.size (.lst xs),I1.laid (t':=s1.toks) (λb u e=>Heap.get?_push_of_some _ e) (Nat.le_refl _) ?_,rfl,q _ hf⟩
 exact⟨z,us,0,r,Heap.get?_push_size _ rfl⟩
end
abbrev Sp:=List V->Hp->VK->XK->Prop
abbrev CXT:=List Env->Hp->Shared->XK->Value->Shared->Prop
structure Env0 (P:Program)(w:World)(K:PySem.W.Frag)(mg:Str->Option Value)(base:Heap)(A:Around)(outer:List Env)(s:Shared)(H:Hp):Prop where
 frames:A.frames=some outer
 mod:Mod K mg base
 bs:∀b o,base.get? b=some o->s.heap.get? b=some o/\H b=none
 bsz:base.objs.size<=s.heap.objs.size
 funs:s.heap.FunFrames base outer
 frf:∀b∈frs outer,H b=none
 hok:HOk P w H s.heap
 bare:AllBare s.gens
def CE (outer:List Env)(P:Program)(w:World)(H:Hp)(s:Shared)(Q:VK)(u:Value)(s':Shared):Prop :=
 ∃v H',s'.os=s.os/\AllBare s'.gens/\Un (frs outer) [] H H' s.heap s'.heap/\HOk P w H' s'.heap/\RelV v u/\Q v H'
def CR (CX:CXT)(outer:List Env)(P:Program)(w:World)(H:Hp)(s:Shared)(Q:VK)(E:XK)(r:Result)(s':Shared):Prop :=
 match r with
 |.ok (.ret u)=>CE outer P w H s Q u s'
 |.ok _=>False
 |.error e=>CX outer H s E e s'
structure FnOk (P:Program)(w:World)(K:PySem.W.Frag)(mg:Str->Option Value)(base:Heap)(CX:CXT)(k:Nat)(f:Addr)(fd:FuncData)(ps:List Str)(sp:Sp):Prop where
 len:∀vs H Q E,sp vs H Q E->vs.length=ps.length
 run:∀(A:Around) (outer:List Env) (s:Shared) (H:Hp) (args:Args) (us:List Value) (vs:List V) (Q:VK) (E:XK),Room k A->Env0 P w K mg base A outer s H->BindsTo s fd args (ps.zip us)->Vals vs us->sp vs H Q E ->
  codeAny (model P w) A (.call (.ref f) args) (CR CX outer P w H s Q E) s
theorem FnOk.imp {P:Program}{w:World}{K:PySem.W.Frag}{mg:Str->Option Value}{base:Heap}{CX:CXT}{k:Nat}{f:Addr}{fd:FuncData}{ps:List Str}{sp sp':Sp}(F:FnOk P w K mg base CX k f fd ps sp)
  (h:∀vs H Q E,sp' vs H Q E->sp vs H Q E):FnOk P w K mg base CX k f fd ps sp' :=
 ⟨λvs H Q E q=>F.len vs H Q E (h _ _ _ _ q),λA outer s H args us vs Q E hr he hb hv hs=>F.run A outer s H args us vs Q E hr he hb hv (h _ _ _ _ hs)⟩
theorem Env0.make {P:Program}{w:World}{K:PySem.W.Frag}{mg:Str->Option Value}{base:Heap}{A:Around}{outer:List Env}{s:Shared}{H:Hp}(e:Env0 P w K mg base A outer s H)(C:Addr)(us:List Value)(kw:List (Str×Value)) :
  Env0 P w K mg base (A.under (.builtin "type.__call__" ⟨.ref C::us,kw⟩)) outer s H:=⟨by first | exact e.frames | (simpa[Around.under,Code.envs,Code.isFrame,pushEnvs] using e.frames),e.mod,e.bs,e.bsz,e.funs,e.frf,e.hok,e.bare⟩
section
variable {X:Cx}{pins:List (Addr×Obj)}{σ:St}{H:Hp}{s s':Shared}
theorem Inv.env0 (I:Inv X pins σ H s):Env0 X.prog X.w X.K X.mg X.base X.A X.stack s H :=
 ⟨I.ok.frames,I.ok.mod,I.bs,Nat.le_trans I.ok.bsz I.sz,I.stack,I.stkFree,I.hok,I.bare⟩
theorem Inv.after {Q:VK}{u:Value}(I:Inv X pins σ H s)(h:CE X.stack X.prog X.w H s Q u s'):EP X pins σ Q u s':=by
 obtain⟨v,H',os,bare,un,hok,r,q⟩:=h
 obtain⟨hh,g,d,t,os'⟩:=s'
 obtain rfl:os'=s.os:=os
 exact⟨v,H',I.call (h':=hh) (g':=g) (d':=d) (t':=t) (ch:=[]) un hok bare (λb z=>absurd z (by simp)),r,q⟩
end
def tCall (sp:Sp)(dvs:List V)(E:XK)(t:TA):TE:=λσ H Q=>t σ H λvs H1=>sp (vs++dvs) H1 Q E
def tMeth (C:Addr)(m:Str)(sp:Sp)(dvs:List V)(E:XK)(ta:TE)(t:TA):TE:=λσ H Q=>ta σ H λx H1=>∃a dx fs,x=.ref a/\H1 a=some (.ins C dx fs)/\fs.lookup m=none /\
 t σ H1 λvs H2=>sp (x::(vs++dvs)) H2 Q E
def tMake (C:Addr)(sp:Sp)(dvs:List V)(E:XK)(t:TA):TE:=λσ H Q=>t σ H λvs H1=>∀x dx,H1 x=none->H1 dx=none->dx≠x ->
 sp (.ref x::(vs++dvs)) (upd (upd H1 dx (.own x)) x (.ins C dx [])) (λv H2=>v=.non/\Q (.ref x) H2) E
def Binds (K:PySem.W.Frag)(fd:FuncData)(ps:List Str)(ds:List Value):Prop :=
 ∀(s:Shared) (us:List Value),K.In s.heap->(us++ds).length=ps.length->BindsTo s fd ⟨us,[]⟩ (ps.zip (us++ds))
theorem Binds.all {K:PySem.W.Frag}{fd:FuncData}{ps:List Str}(h:∀us:List Value,us.length=ps.length->bindArgs fd ⟨us,[]⟩=pure (ps.zip us)):Binds K fd ps []:=λs us _ hl=>by
 rw[List.append_nil] at hl ⊢
 exact .of_eq (h us hl)
def Passes (CX:CXT)(X:Cx)(E:XK):Prop:=∀(pins:List (Addr×Obj)) (σ:St) (H:Hp) (s:Shared) (e:Value) (s':Shared),Inv X pins σ H s->CX X.stack H s E e s'->X.xe e s'
section
variable {X:Cx}{CX:CXT}{k:Nat}{f C:Addr}{fd:FuncData}{ps:List Str}{sp:Sp}{dvs:List V}{ds:List Value}{E:XK}{x m:Str}{p pos apos:Pos}{e o:Expr}{es:List Expr}{ta:TE}{t:TA}
theorem jl {pins:List (Addr×Obj)}{σ:St}{H:Hp}{s:Shared}{Q:VK}{us:List Value}{vs:List V}(F:FnOk X.prog X.w X.K X.mg X.base CX k f fd ps sp)(hr:Room k X.A)(hb:Binds X.K fd ps ds)(hd:Vals dvs ds)(hx:Passes CX X E)
  (I:Inv X pins σ H s) (r:Vals vs us) (h:sp (vs++dvs) H Q E):wpAny (model X.prog X.w) X.A (call (.ref f) us) (EP X pins σ Q) X.xe s:=by
 have r2:Vals (vs++dvs) (us++ds):=r.append hd
 have hl:(us++ds).length=ps.length:=by rw[<-r2.length];exact F.len _ _ _ _ h
 refine wpAny_call (codeAny_mono (F.run X.A X.stack s H ⟨us,[]⟩ (us++ds) (vs++dvs) Q E hr I.env0 (hb s us I.kIn hl) r2 h) λr s' hq=>?_)
 cases r with
 |error e=>exact hx pins σ H s e s' I hq
 |ok fl=>
  cases fl with
  |ret u=>exact I.after hq
  |next=>exact False.elim hq
  |brk=>exact False.elim hq
  |cont=>exact False.elim hq
theorem wZ (F:FnOk X.prog X.w X.K X.mg X.base CX k f fd ps sp)(hr:Room k X.A)(hg:Gl X x)(hm:X.mg x=some (.ref f))(hk:PySem.W.keepIn X.K (.ref f)=true)(hb:Binds X.K fd ps ds)(hd:Vals dvs ds)(hx:Passes CX X E)
  (ha:PA X (e::es) t) (hdb:(x==("__debug__" : Str))=false:=by decide) (he:starEach (e::es) X.env=(false,eval e X.env)::starEach es X.env:=by rfl) (hpl:(backTo pos (starEach es X.env)).any (·.1)=false:=by rfl) :
  PE X (.Call (.Name x p) (e::es) [] pos) (tCall sp dvs E t):=by
 intro pins s σ H Q I h
 refine wpAny_Call_Name_kw (jh I hg hm ?_ hdb)
 refine PySem.W.callWith_K (h₀:=X.base) I.ok.mod.kin hk (thn (ha pos pins s σ H _ I h) λus s1 ⟨vs,H1,I1,r,q⟩=>⟨I1.kIn,?_⟩) he hpl
 exact jl F hr hb hd hx I1 r q
theorem Rl {pl:Sem Bool}(he:PE X o ta)(c:Cls X.K C)(hm:Meth X.K C m f)(F:FnOk X.prog X.w X.K X.mg X.base CX k f fd ps sp)(hr:Room k X.A)(hb:Binds X.K fd ps ds)(hd:Vals dvs ds)(hx:Passes CX X E)(ha:PA X (e::es) t)
  (hst:starEach (e::es) X.env=(false,eval e X.env)::starEach es X.env:=by rfl) (hpl:(backTo pos (starEach es X.env)).any (·.1)=false:=by rfl)
  (ht:eval (.Call (.Attribute o m apos) (e::es) [] pos) X.env=(do
   let ov <-eval o X.env
   standAt apos.atName
   let (f,first) <-holding [ov] (getMethod ov m pl)
   callWith pos f first (backTo pos (starEach (e::es) X.env)) (backToKw pos (keywordEach [] X.env))):=by rfl) :
  PE X (.Call (.Attribute o m apos) (e::es) [] pos) (tMeth C m sp dvs E ta t):=by
 intro pins s σ H Q I h
 refine PySem.W.methodCall_KW (pl:=pl) (thn (he pins s σ H _ I h) λu s1 ⟨x,H1,I1,rx,a,dx,fs,ex,ea,l,q⟩=>?_) ht
 subst ex
 obtain rfl:u=Value.ref a:=rx
 refine YM I1 ea c hm l ?_
 refine PySem.W.callWith_K (first:=[.ref a]) (h₀:=X.base) I.ok.mod.kin hm.kp (thn (ha pos pins s1 σ H1 _ I1 q) λus s2 ⟨vs,H2,I2,r,q2⟩=>⟨I2.kIn,?_⟩) hst hpl
 exact jl (us:=.ref a::us) (vs:=.ref a::vs) F hr hb hd hx I2 (.cons rfl r) q2
theorem W7 {pl:Sem Bool}(he:PE X o ta)(c:Cls X.K C)(hm:Meth X.K C m f)(F:FnOk X.prog X.w X.K X.mg X.base CX k f fd ps sp)(hr:Room k X.A)(hb:Binds X.K fd ps ds)(hd:Vals dvs ds)(hx:Passes CX X E)
  (ht:eval (.Call (.Attribute o m apos) [] [] pos) X.env=(do
   let ov <-eval o X.env
   standAt apos.atName
   let (f,first) <-holding [ov] (getMethod ov m pl)
   callWith pos f first (backTo pos (starEach [] X.env)) (backToKw pos (keywordEach [] X.env))):=by rfl) :
  PE X (.Call (.Attribute o m apos) [] [] pos) (tMeth C m sp dvs E ta tNil):=by
 intro pins s σ H Q I h
 refine PySem.W.methodCall_KW (pl:=pl) (thn (he pins s σ H _ I h) λu s1 ⟨x,H1,I1,rx,a,dx,fs,ex,ea,l,q⟩=>?_) ht
 subst ex
 obtain rfl:u=Value.ref a:=rx
 refine YM I1 ea c hm l ?_
 exact PySem.W.callWith_K0 (first:=[.ref a]) I1.kIn hm.kp (jl (us:=[.ref a]) (vs:=[.ref a]) F hr hb hd hx I1 (.cons rfl .nil) q)
structure Mk (K:PySem.W.Frag)(C f:Addr):Prop where
 makes:PySem.W.makesIn K C=true
 init:PySem.W.findIn K (.ref C) "__init__" = some (some (.ref f))
 fn:PySem.W.isFn K (.ref f)=true
 kp:PySem.W.keepIn K (.ref C)=true
theorem U6 {pins:List (Addr×Obj)}{σ:St}{H:Hp}{s:Shared}{Q:VK}{us:List Value}{vs:List V}(M:Mk X.K C f)(F:FnOk X.prog X.w X.K X.mg X.base CX k f fd ps sp)(hr:Room (k+1) X.A)(hb:Binds X.K fd ps ds)(hd:Vals dvs ds)
  (hx:Passes CX X E) (I:Inv X pins σ H s) (r:Vals vs us)
  (h:∀x dx,H x=none->H dx=none->dx≠x->sp (.ref x::(vs++dvs)) (upd (upd H dx (.own x)) x (.ins C dx [])) (λv H2=>v=.non/\Q (.ref x) H2) E) :
  wpAny (model X.prog X.w) X.A (call (.ref C) us) (EP X pins σ Q) X.xe s:=by
 have hq:=h (s.heap.objs.size+1) s.heap.objs.size (I.hok.fresh (Nat.le_succ _)) (I.hok.fresh (Nat.le_refl _)) (Nat.ne_of_lt (Nat.lt_succ_self _))
 have I2:=Inv.made (C:=C) I
 have r2:Vals (V.ref (s.heap.objs.size+1)::(vs++dvs)) (Value.ref (s.heap.objs.size+1)::(us++ds)):=.cons rfl (r.append hd)
 have hl:(Value.ref (s.heap.objs.size+1)::us++ds).length=ps.length:=by
  have e:=r2.length
  rw[F.len _ _ _ _ hq] at e
  exact e.symm
 refine wpAny_call (Kh (f:=f) I.kIn M.makes M.init (beq_iff_eq.mp M.fn) (codeAny_mono (F.run _ X.stack _ _ ⟨Value.ref (s.heap.objs.size+1)::us,[]⟩ (Value.ref (s.heap.objs.size+1)::(us++ds)) _ _ E (hr.make C us [])
  (I2.env0.make C us []) (hb _ (Value.ref (s.heap.objs.size+1)::us) I2.kIn hl) r2 hq) λr s' hq'=>?_))
 cases r with
 |error e=>exact hx pins σ _ _ e s' I2 hq'
 |ok fl=>
  cases fl with
  |ret u=>
   obtain⟨v,H',I3,rv,ev,q3⟩:=I2.after hq'
   subst ev
   exact⟨rv,⟨V.ref (s.heap.objs.size+1),H',I3,rfl,q3⟩⟩
  |next=>exact False.elim hq'
  |brk=>exact False.elim hq'
  |cont=>exact False.elim hq'
theorem GX (M:Mk X.K C f)(F:FnOk X.prog X.w X.K X.mg X.base CX k f fd ps sp)(hr:Room (k+1) X.A)(hg:Gl X x)(hm:X.mg x=some (.ref C))(hb:Binds X.K fd ps ds)(hd:Vals dvs ds)(hx:Passes CX X E)
  (ha:PA X (e::es) t) (hdb:(x==("__debug__" : Str))=false:=by decide) (he:starEach (e::es) X.env=(false,eval e X.env)::starEach es X.env:=by rfl) (hpl:(backTo pos (starEach es X.env)).any (·.1)=false:=by rfl) :
  PE X (.Call (.Name x p) (e::es) [] pos) (tMake C sp dvs E t):=by
 intro pins s σ H Q I h
 refine wpAny_Call_Name_kw (jh I hg hm ?_ hdb)
 refine PySem.W.callWith_K (h₀:=X.base) I.ok.mod.kin M.kp (thn (ha pos pins s σ H _ I h) λus s1 ⟨vs,H1,I1,r,q⟩=>⟨I1.kIn,?_⟩) he hpl
 exact U6 M F hr hb hd hx I1 r q
end
section
variable {X:Cx}{CX:CXT}{k:Nat}{f C:Addr}{fd:FuncData}{ps ks:List Str}{sp:Sp}{E:XK}{x m:Str}{p pos apos kpos:Pos}{e o:Expr}{es:List Expr}{kws:List Keyword}{te ta:TE}{t tk:TA}{nm:Option Str}
structure KBinds (K:PySem.W.Frag)(fd:FuncData)(ps ks:List Str)(g:List Value->List Value->List Value)(gV:List V->List V->List V):Prop where
 to:∀(s:Shared) (us ws:List Value),K.In s.heap->(g us ws).length=ps.length->BindsTo s fd ⟨us,ks.zip ws⟩ (ps.zip (g us ws))
 rel:∀ {vs:List V} {us:List Value} {zs:List V} {ws:List Value},Vals vs us->Vals zs ws->Vals (gV vs zs) (g us ws)
variable {g:List Value->List Value->List Value}{gV:List V->List V->List V}
end
structure FnScope (N P:List Str)(sc:Scope):Prop where
 kind:sc.kind=.function
 co:sc.isCoroutine=false
 gen:sc.isGenerator=false
 nd:N.Nodup
 pre:N.take P.length=P
 par:∀x∈P,sc.names.lookup x=some .local∨sc.names.lookup x=some .cell
 nofree:∀y∈sc.names,y.2≠.free
theorem WP {kindOf:Str->Option NameKind}{x:Str}:∀ {binds:List (Str×Value)} {m:Str->Option Value},(∀v,(x,v)∉binds)->bindL kindOf binds m x=m x
 | [],_,_=>rfl
 | (n,v)::r,m,h=>by
  unfold bindL
  rw[WP λw hw=>h w (List.mem_cons_of_mem _ hw)]
  split
  ·have:x≠n:=by rintro rfl;exact h v List.mem_cons_self
   simp[this]
  ·rfl
theorem Ws {kindOf:Str->Option NameKind}{x:Str}:∀ {binds:List (Str×Value)} {m:Str->Option Value},(∀v,(x,v)∉binds)->bindC kindOf binds m x=m x
 | [],_,_=>rfl
 | (n,v)::r,m,h=>by
  unfold bindC
  rw[Ws λw hw=>h w (List.mem_cons_of_mem _ hw)]
  split
  ·rfl
  ·have:x≠n:=by rintro rfl;exact h v List.mem_cons_self
   simp[this]
theorem VM {kindOf:Str->Option NameKind}{x:Str}{v:Value}:∀ {P:List Str} {vs:List Value} {i:Nat} {m:Str->Option Value},P.Nodup->P[i]?=some x->vs[i]?=some v->kindOf x=some .local ->
  bindL kindOf (P.zip vs) m x=some v
 | [],_,_,_,_,h,_,_=>by simp at h
 |_::_,[],_,_,_,_,h,_=>by simp at h
 |p::P,w::vs,0,m,nd,h1,h2,hk=>by
  simp at h1 h2;subst h1;subst h2
  show bindL kindOf ((p,w)::P.zip vs) m p=_
  unfold bindL
  rw[WP λv hv=>(List.nodup_cons.mp nd).1 (List.of_mem_zip hv).1,if_pos hk]
  simp
 |p::P,w::vs,i+1,m,nd,h1,h2,hk=>by
  show bindL kindOf ((p,w)::P.zip vs) m x=_
  unfold bindL
  exact VM (i:=i) (List.nodup_cons.mp nd).2 (by simpa using h1) (by simpa using h2) hk
theorem ZV {kindOf:Str->Option NameKind}{x:Str}{v:Value}:∀ {P:List Str} {vs:List Value} {i:Nat} {m:Str->Option Value},P.Nodup->P[i]?=some x->vs[i]?=some v->kindOf x≠some .local ->
  bindC kindOf (P.zip vs) m x=some v
 | [],_,_,_,_,h,_,_=>by simp at h
 |_::_,[],_,_,_,_,h,_=>by simp at h
 |p::P,w::vs,0,m,nd,h1,h2,hk=>by
  simp at h1 h2;subst h1;subst h2
  show bindC kindOf ((p,w)::P.zip vs) m p=_
  unfold bindC
  rw[Ws λv hv=>(List.nodup_cons.mp nd).1 (List.of_mem_zip hv).1,if_neg hk]
  simp
 |p::P,w::vs,i+1,m,nd,h1,h2,hk=>by
  show bindC kindOf ((p,w)::P.zip vs) m x=_
  unfold bindC
  exact ZV (i:=i) (List.nodup_cons.mp nd).2 (by simpa using h1) (by simpa using h2) hk
def start (N:List Str)(vs:List V):St:=vs.map some++List.replicate (N.length - vs.length) none
def cxOf (CX:CXT)(P:Program)(w:World)(K:PySem.W.Frag)(mg:Str->Option Value)(base:Heap)(N:List Str)(qual:Str)(scope:Scope)(f:Addr)(cd:Value)(A:Around)(outer:List Env)(s:Shared)(H:Hp)(E:XK):Cx where
 prog:=P
 w:=w
 K:=K
 mg:=mg
 base:=base
 A:=A.deeper (envOfC qual scope s.heap.objs.size f cd)
 N:=N
 s₀:=s
 H₀:=H
 env:=envOfC qual scope s.heap.objs.size f cd
 outer:=outer
 stack:=envOfC qual scope s.heap.objs.size f cd::outer
 ex:=[]
 calm:=true
 fn:=λ_=>true
 pn:=[]
 xe:=λe s'=>wpAny (model P w) (A.deeper (envOfC qual scope s.heap.objs.size f cd)) (leaving (envOfC qual scope s.heap.objs.size f cd) e) (λ_ s''=>CX outer H s E e s'') (λe' s''=>CX outer H s E e' s'') s'
theorem ZS {sc:Scope}{n:Nat}{x:Str}(h:sc.names.lookup x=some .cell):∃c,(cellsFrom n sc.names []).lookup x=some c:=by
 have q:=PySem.W.cellsFrom_some sc.names n [] (.inl h)
 exact Option.isSome_iff_exists.mp q
theorem U7 {CX:CXT}{P:Program}{w:World}{K:PySem.W.Frag}{mg:Str->Option Value}{base:Heap}{N ps:List Str}{qual:Str}{scope:Scope}{f:Addr}{cd:Value}{A:Around}{outer:List Env}{s s1:Shared}{H:Hp}{E:XK}{us:List Value}{vs:List V}
  (S:FnScope N ps scope) (hd:A.handled=none) (e0:Env0 P w K mg base A outer s H) (hl:vs.length=ps.length) (r:Vals vs us)
  (x:InCallC s s.heap.objs.size (bindL (envOfC qual scope s.heap.objs.size f cd).kindOf (ps.zip us) λ_=>none) (cellsFrom (s.heap.objs.size+1) scope.names []) (bindC (envOfC qual scope s.heap.objs.size f cd).kindOf (ps.zip us) λ_=>none) s1) :
  Inv (cxOf CX P w K mg base N qual scope f cd A outer s H E) [] (start N vs) H s1:=by
 have hpl:ps.length<=N.length:=by have:=congrArg List.length S.pre;rw[List.length_take] at this;omega
 obtain⟨h1,tk,rfl,hk⟩:=x.done
 have noA:∀b:Addr,b∉(cxOf CX P w K mg base N qual scope f cd A outer s H E).ex:=λb z=>absurd (show b∈([]:List Addr) from z) (by simp)
 refine⟨⟨e0.mod,S.kind,rfl,rfl,Nat.le_refl _,λy z c h1 h2=>?_,λy hy=>?_,λy c _ h=>?_,λ_=>hd,Around.frames_deeper e0.frames,.inr ⟨rfl,rfl⟩,λb z=>absurd z (noA b),e0.bs,e0.bsz,λb _ _=>noA b,λb z=>absurd z (noA b),e0.funs,e0.frf⟩,
  rfl,e0.bare,Un.kept hk,⟨_,x.toInCall.ns,λi y v h1 h2 h3=>?_⟩,λy c h=>⟨_,x.cell y c h⟩,e0.hok.fresh (Nat.le_refl _),λy c h=>?_,λp hp=>absurd (show p∈([]:List (Addr×Obj)) from hp) (by simp),e0.hok.kept hk,?_⟩
 ·exact name_of_addr x.apart (PySem.mem_of_lookup h1) (PySem.mem_of_lookup h2)
 ·have hy:scope.names.lookup y=some .cell∨scope.names.lookup y=some .free:=hy
  rcases hy with hy | hy
  ·exact ZS hy
  ·exact absurd rfl (S.nofree _ (PySem.mem_of_lookup hy))
 ·exact Nat.le_of_lt (x.above y c (PySem.mem_of_lookup h))
 ·have hi:i < vs.length:=by
   unfold start at h2
   by_cases hi:i < vs.length
   ·exact hi
   ·rw[List.getElem?_append_right (by simpa using hi)] at h2
    rw[List.getElem?_replicate] at h2
    split at h2<;>cases h2
  have ha:vs[i]?=some v:=by
   unfold start at h2
   rw[List.getElem?_append_left (by simpa using hi),List.getElem?_map] at h2
   cases e:vs[i]? with
   |none=>rw[e] at h2;cases h2
   |some a=>rw[e] at h2;cases h2;rfl
  obtain⟨u,hu,rv⟩:=r.get ha
  have hp:ps[i]?=some y:=by
   rw[<-S.pre,List.getElem?_take_of_lt (by omega)];exact h1
  have ndP:ps.Nodup:=by rw[<-S.pre];exact S.nd.sublist (List.take_sublist _ _)
  refine⟨u,rv,?_⟩
  rcases S.par y (List.mem_of_getElem? hp) with k | k
  ·exact .inl ⟨k,VM ndP hp hu k⟩
  ·obtain⟨c,e⟩:=ZS (n:=s.heap.objs.size+1) k
   refine .inr ⟨.inl k,c,e,?_⟩
   have q:=x.cell y c e
   rw[ZV ndP hp hu (by show scope.names.lookup y≠_;rw[k];decide)] at q
   exact q
 ·exact e0.hok.fresh (Nat.le_of_lt (x.above y c (PySem.mem_of_lookup h)))
 ·unfold start
  show _=N.length
  rw[List.length_append,List.length_map,List.length_replicate]
  omega
theorem ZY {CX:CXT}{P:Program}{w:World}{K:PySem.W.Frag}{mg:Str->Option Value}{base:Heap}{k:Nat}{f:Addr}{name qual:Str}{params:Arguments}{body:List Stmt}{scope:Scope}{dV kV doc pm cdv ct oc:Value}{an od:Option Addr}
  {osl:Array (Option Value)} {N ps:List Str} {sp:Sp} (lk:K.lookup f=some ⟨oc,od,.func (PySem.W.fnOf name qual params body scope dV kV doc pm an cdv ct),osl⟩) (hcd:PySem.W.codeIn K cdv qual=true) (S:FnScope N ps scope)
  (len:∀vs H Q E,sp vs H Q E->vs.length=ps.length)
  (hbody:∀(A:Around) (outer:List Env) (s:Shared) (H:Hp) (vs:List V) (Q:VK) (E:XK),Room k (A.deeper (envOfC qual scope s.heap.objs.size f cdv))->sp vs H Q E ->
   ∃t,PSs (cxOf CX P w K mg base N qual scope f cdv A outer s H E) body t/\t { nx:=λ_ H'=>Q .non H',rt:=Q } (start N vs) H) :
  FnOk P w K mg base CX (k+1) f (PySem.W.fnOf name qual params body scope dV kV doc pm an cdv ct) ps sp:=by
 refine⟨len,λA outer s H args us vs Q E hr e0 hb r hsp=>?_⟩
 have hl:=len _ _ _ _ hsp
 have KX:K.In s.heap:=e0.mod.kin.keeps λb o e=>(e0.bs b o e).1
 have lim:s.heap.NoLimit:=e0.mod.nolimit.keeps λb o e=>(e0.bs b o e).1
 have hkind:∀y∈ps.zip us,scope.names.lookup y.1=some .local∨(scope.names.lookup y.1=some .cell/\((cellsFrom (s.heap.objs.size+1) scope.names []).lookup y.1).isSome=true):=fun⟨n,v⟩ hy=>by
  rcases S.par n (List.of_mem_zip hy).1 with q | q
  ·exact .inl q
  ·exact .inr ⟨q,PySem.W.cellsFrom_some _ _ _ (.inl q)⟩
 refine codeAny_call_function hr.depth (KX _ _ lk) rfl S.co S.gen rfl (PySem.W.codeRec_of KX hcd) (hb _ _ _ _ ?_)
 refine wpAny_newFunctionEnv_cells S.kind hkind λenv he s1 x=>?_
 subst he
 refine⟨lim.keeps x.toInCall.keep,codeAny_func ?_⟩
 obtain⟨t,ht,hq⟩:=hbody A outer s H vs Q E (hr.deeper _) hsp
 have I:Inv (cxOf CX P w K mg base N qual scope f cdv A outer s H E) [] (start N vs) H s1:=U7 S hr.hd e0 hl r x
 refine wpAny_mono (ht [] s1 (start N vs) H _ I hq) (λfl s' hs=>?_) λe s' hs=>hs
 have fin:∀ {σ':St} {H':Hp} {v:V} {u:Value},Inv (cxOf CX P w K mg base N qual scope f cdv A outer s H E) [] σ' H' s'->RelV v u->Q v H'->CE outer P w H s Q u s' :=
  fun {σ' H' v u} J rv q=>⟨v,H',J.os,J.bare,J.base,J.hok,rv,q⟩
 cases fl with
 |ret u=>
  obtain⟨v,σ',H',J,rv,q⟩:=hs
  exact fin J rv q
 |next=>
  obtain⟨σ',H',J,q⟩:=hs
  exact fin (v:=V.non) (u:=Value.none) J rfl q
 |brk=>
  obtain⟨_,_,_,q⟩:=hs
  exact False.elim q
 |cont=>
  obtain⟨_,_,_,q⟩:=hs
  exact False.elim q
section
variable {X:Cx}{x:Str}{p pos:Pos}{e:Expr}{es:List Expr}{t:TA}{id T:String}{r:List V->Hp->VK->Prop}
def tCB (r:List V->Hp->VK->Prop)(t:TA):TE:=λσ H Q=>t σ H λvs H1=>r vs H1 Q
theorem vW (hc:CallR X (.builtin id) r)(hg:Gl X x)(hm:X.mg x=none)(hv:bootBuiltins x=some (.builtin id))(ha:PA X (e::es) t)(hn:x ≠ "__name__" := by decide) (hdb:(x==("__debug__" : Str))=false:=by decide)
  (he:starEach (e::es) X.env=(false,eval e X.env)::starEach es X.env:=by rfl) (hpl:(backTo pos (starEach es X.env)).any (·.1)=false:=by rfl):PE X (.Call (.Name x p) (e::es) [] pos) (tCB r t):=by
 intro pins s σ H Q I h
 refine wpAny_Call_Name_kw (wK I hg hm hv ?_ hn hdb)
 exact PyProof.Rows.callWith_builtin1 (thn (ha pos pins s σ H _ I h) λus s1 ⟨vs,H1,I1,r1,q1⟩=>hc pins s1 σ H1 vs us Q I1 r1 q1) he hpl
theorem kI (hc:CallR X (.type T) r)(hg:Gl X x)(hm:X.mg x=none)(hv:bootBuiltins x=some (.type T))(ha:PA X (e::es) t)(hn:x ≠ "__name__" := by decide) (hdb:(x==("__debug__" : Str))=false:=by decide)
  (he:starEach (e::es) X.env=(false,eval e X.env)::starEach es X.env:=by rfl) (hpl:(backTo pos (starEach es X.env)).any (·.1)=false:=by rfl):PE X (.Call (.Name x p) (e::es) [] pos) (tCB r t):=by
 intro pins s σ H Q I h
 refine wpAny_Call_Name_kw (wK I hg hm hv ?_ hn hdb)
 exact PyProof.Rows.callWith_type1 (thn (ha pos pins s σ H _ I h) λus s1 ⟨vs,H1,I1,r1,q1⟩=>hc pins s1 σ H1 vs us Q I1 r1 q1) he hpl
end
end L2
namespace HT
open PySem PyProof.Rows
section
open PySem.SeqAt
open PySem.AutoSeq1 (wpAny_loadPart')
open PySem.MeetsSeq PySem.MeetsSeq2 PySem.MeetsSeq3
end
section
variable {prog:Program}{w:World}{A:Around}{E:Value->Shared->Prop}{s:Shared}
def sIx (n d:Nat):Option Int->Nat
 |none=>d
 |some v=>if v < 0 then (v+(n:Int)).toNat else min v.toNat n
theorem RE (n d:Nat)(hd:d<=n)(o:Option Int):sIx n d o<=n:=by
 cases o with
 |none=>exact hd
 |some v=>
  show (if v < 0 then (v+(n:Int)).toNat else min v.toNat n)<=n
  by_cases hv:v < 0
  ·rw[if_pos hv];omega
  ·rw[if_neg hv];exact Nat.min_le_right _ _
theorem WO (v:Int)(n d:Nat):(if v < 0 then max (v+(n:Int)) 0 else min v (n:Int))=((sIx n d (some v):Nat):Int):=by
 show (if v < 0 then max (v+(n:Int)) 0 else min v (n:Int))=(((if v < 0 then (v+(n:Int)).toNat else min v.toNat n):Nat):Int)
 by_cases hv:v < 0
 ·simp only[if_pos hv];omega
 ·simp only[if_neg hv];omega
theorem Jh (lo hi:Option Int)(n:Nat):Builtin.Slice.sliceAdjust lo hi 1 (n:Int)=(((sIx n 0 lo:Nat):Int),((sIx n n hi:Nat):Int)):=by
 have h1:¬((1:Int) < 0):=by omega
 unfold Builtin.Slice.sliceAdjust
 simp only[h1,if_false]
 refine Prod.ext ?_ ?_
 ·cases lo with
  |none=>rfl
  |some v=>exact WO v n 0
 ·cases hi with
  |none=>rfl
  |some v=>exact WO v n n
theorem K0 (i j:Nat):Builtin.Slice.slicePlaces (i:Int) (j:Int) 1=j - i:=by
 unfold Builtin.Slice.slicePlaces
 have h1:(1:Int) > 0:=by omega
 simp only[h1,if_true,Int.ediv_one]
 split<;>omega
theorem YU {v:Value}{o:Option Int}{Q:Option Int->Shared->Prop}(p:IsPart v o)(h:Q o s):wpAny (model prog w) A (Builtin.Slice.slicePartIndex v) Q E s:=by
 cases p with
 |none=>exact slicePart_none h
 |int i t=>exact slicePart_int h
theorem Ut {sl:Addr}{vl vu:Value}{lo hi:Option Int}{n:Nat}{Q:Int×Int×Nat->Shared->Prop}(hs:s.heap.IsSliceOf sl vl vu .none)(pl:IsPart vl lo)(pu:IsPart vu hi)
  (h:Q (((sIx n 0 lo:Nat):Int),1,sIx n n hi - sIx n 0 lo) s):wpAny (model prog w) A (Builtin.Slice.sliceApplied (.ref sl) (pure (n:Int))) Q E s:=by
 obtain⟨os,hos,hcs,hds⟩:=id hs
 unfold Builtin.Slice.sliceApplied Builtin.Slice.sliceFields
 refine wpAny_bind (wpAny_bind (wpAny_field hos hds (x:=vl) rfl (wpAny_bind (wpAny_field hos hds (x:=vu) rfl (wpAny_bind (wpAny_field hos hds (x:=.none) rfl (wpAny_pure ?_)))))))
 refine wpAny_bind (slicePart_none ?_)
 show wpAny _ _ (if ((1:Int)==0)=true then _ else _) _ _ s
 rw[if_neg (by decide)]
 refine wpAny_bind (YU pl (wpAny_bind (YU pu (wpAny_bind (wpAny_pure ?_)))))
 show wpAny _ _ (match Builtin.Slice.sliceAdjust lo hi 1 (n:Int) with | (lo,hi)=>pure (lo,(1:Int),Builtin.Slice.slicePlaces lo hi 1)) _ _ s
 rw[Jh lo hi n]
 show wpAny _ _ (pure (((sIx n 0 lo:Nat):Int),(1:Int),Builtin.Slice.slicePlaces ((sIx n 0 lo:Nat):Int) ((sIx n n hi:Nat):Int) 1)) _ _ s
 rw[K0]
 exact wpAny_pure h
theorem K4 (xs:Array Value)(i k:Nat):((List.range k).filterMap λ(m:Nat)=>xs[((i:Int)+(m:Int) * 1).toNat]?).toArray=((xs.toList.drop i).take k).toArray:=by
 have e:(λ(m:Nat)=>xs[((i:Int)+(m:Int) * 1).toNat]?)=λm=>xs[i+m]?:=by
  funext m
  have:((i:Int)+(m:Int) * 1).toNat=i+m:=by omega
  rw[this]
 rw[e]
 have:=pick_run xs i k
 rw[List.filterMap_map] at this
 have e2:((λx=>xs[x]?) ∘ λx=>i+x)=λm=>xs[i+m]?:=rfl
 rw[e2] at this
 rw[this]
theorem getItem_tuple_cut {t sl:Addr}{items:Array Value}{vl vu:Value}{lo hi:Option Int}{Q:Value->Shared->Prop}(ht:IsTup s.heap t items)(hs:s.heap.IsSliceOf sl vl vu .none)(pl:IsPart vl lo)(pu:IsPart vu hi)
  (hw:¬(sIx items.size 0 lo=0/\sIx items.size items.size hi=items.size))
  (h:Q (.ref s.heap.objs.size) { s with heap:=s.heap.push { cls:=.type "tuple",data:=.seq ((items.toList.drop (sIx items.size 0 lo)).take (sIx items.size items.size hi - sIx items.size 0 lo)).toArray } })
  (hsz:items.size<=sizeLine):wpAny (model prog w) A (getItem (.ref t) (.ref sl)) Q E s:=by
 have htake:sizeOk (.seq ((items.toList.drop (sIx items.size 0 lo)).take (sIx items.size items.size hi - sIx items.size 0 lo)).toArray):=by
  show ((items.toList.drop (sIx items.size 0 lo)).take (sIx items.size items.size hi - sIx items.size 0 lo)).toArray.size<=sizeLine
  rw[List.size_toArray,List.length_take,List.length_drop,Array.length_toList]
  omega
 have hj:sIx items.size items.size hi<=items.size:=RE _ _ (Nat.le_refl _) hi
 obtain⟨os,hos,hcs,hds⟩:=id hs
 have hTs:s.TypeIs (.ref sl) "slice" := ⟨os,hos,hcs⟩
 unfold getItem
 try with_reducible refine wpAny_holding ?_
 first | refine wpAny_bind (wpAny_pure ?_) | skip
 refine wpAny_bind (wpAny_sequenceKey ht.typeIs (by decide) ?_)
 refine wpAny_bind (wpAny_callSpecial?_slot (name:=Str.ofString "__getitem__") ht.typeIs PyProof.Rows.slot_tuple_getitem
  (wpAny_call_entry PyProof.Rows.slot_tuple_getitem ht.typeIs entry_tuple_getitem ?_ (args_tuple_getitem _ _)))
 show wpAny _ _ (Builtin.Tuple.tupleItemsOf (.ref t) >>= _) _ _ s
 refine wpAny_bind (tupleItemsOf_ ht ?_)
 refine wpAny_bind (wpAny_typeOf hTs ?_)
 rw[if_pos (by decide)]
 refine wpAny_bind (Ut hs pl pu ?_)
 have hno:¬((((sIx items.size 0 lo:Nat):Int)==0&&(1:Int)==1&&(sIx items.size items.size hi - sIx items.size 0 lo)==items.size)=true):=by
  intro q
  rw[Bool.and_eq_true,Bool.and_eq_true] at q
  have q1:((sIx items.size 0 lo:Nat):Int)=0:=eq_of_beq q.1.1
  have q2:sIx items.size items.size hi - sIx items.size 0 lo=items.size:=eq_of_beq q.2
  exact hw ⟨by omega,by omega⟩
 show wpAny _ _ (if (((sIx items.size 0 lo:Nat):Int)==0&&(1:Int)==1&&(sIx items.size items.size hi - sIx items.size 0 lo)==items.size)=true then _ else _) _ _ s
 rw[if_neg hno,K4]
 first
  |exact wpAny_bind (m:=Builtin.Tuple.tupleExact _) (wpAny_newObj_type (wpAny_pure ⟨_,rfl,wpAny_pure h⟩) htake)
  |exact wpAny_bind (m:=Builtin.Tuple.tupleExact _) (wpAny_newObj_type (wpAny_bind (wpAny_pure (wpAny_pure ⟨_,rfl,wpAny_pure h⟩))) htake)
  |exact wpAny_bind (wpAny_bind (m:=Builtin.Tuple.tupleExact _) (wpAny_newObj_type (wpAny_pure (wpAny_pure ⟨_,rfl,wpAny_pure h⟩)) htake))
  |exact wpAny_bind (wpAny_bind (m:=Builtin.Tuple.tupleExact _) (wpAny_newObj_type (wpAny_pure ⟨_,rfl,wpAny_pure h⟩) htake))
end
end HT
namespace L2
open PySem PySem.Spec PyProof.Rows
abbrev TO:=St->Hp->(Option Int->Hp->Prop)->Prop
def PO (X:Cx)(e:Option Expr)(t:TO):Prop :=
 ∀(pins:List (Addr×Obj)) (s:Shared) (σ:St) (H:Hp) (Q:Option Int->Hp->Prop),Inv X pins σ H s->t σ H Q ->
  wpAny (model X.prog X.w) X.A (evalPart e X.env) (λu s'=>∃o H',Inv X pins σ H' s'/\IsPart u o/\Q o H') X.xe s
def Ra:TO:=λ_ H Q=>Q none H
def tPart (t:TE):TO:=λσ H Q=>t σ H λx H1=>∃i,x=.int i/\Q (some i) H1
section
variable {X:Cx}{e:Expr}{te:TE}{lo hi:Option Expr}{tl th:TO}{pos p2:Pos}
theorem Rt:PO X none Ra:=by
 intro pins s σ H Q I h
 rw[evalPart_none]
 exact wpAny_pure ⟨none,H,I,.none,h⟩
theorem GK (h:PE X e te):PO X (some e) (tPart te):=by
 intro pins s σ H Q I hw
 rw[evalPart_some]
 refine thn (h pins s σ H _ I hw) λu s1 ⟨x,H1,I1,r1,q1⟩=>?_
 obtain⟨i,rfl,q⟩:=q1
 obtain⟨t,rfl⟩:=r1
 exact⟨some i,H1,I1,.int i t,q⟩
def SlR (X:Cx)(r:V->Option Int->Option Int->Hp->VK->Prop):Prop :=
 ∀(pins:List (Addr×Obj)) (s:Shared) (σ:St) (H:Hp) (x:V) (v vl vu:Value) (lo hi:Option Int) (sl:Addr) (Q:VK),Inv X pins σ H s->RelV x v->s.heap.IsSliceOf sl vl vu .none->IsPart vl lo->IsPart vu hi->r x lo hi H Q ->
  ∃T id,typeLookup (.type T) "__getitem__" = pure (some (.builtin id))/\s.TypeIs v T/\wpAny (model X.prog X.w) X.A (getItem v (.ref sl)) (EP X pins σ Q) X.xe s
def tSl (r:V->Option Int->Option Int->Hp->VK->Prop)(te:TE)(tl th:TO):TE:=λσ H Q=>te σ H λx H1=>tl σ H1 λl H2=>th σ H2 λu H3=>r x l u H3 Q
theorem u0 {r:V->Option Int->Option Int->Hp->VK->Prop}(hr:SlR X r)(he:PE X e te)(hl:PO X lo tl)(hu:PO X hi th):PE X (.Subscript e (.Slice lo hi none p2) pos) (tSl r te tl th):=by
 intro pins s σ H Q I h
 refine Subscript_ (thn (he pins s σ H _ I h) λv s1 ⟨x,H1,I1,r1,q1⟩=>?_)
 refine wpAny_Slice (thn (hl pins s1 σ H1 _ I1 q1) λvl s2 ⟨l,H2,I2,pl,q2⟩=>thn (hu pins s2 σ H2 _ I2 q2) λvu s3 ⟨u,H3,I3,pu,q3⟩=>?_)
 rw[evalPart_none]
 refine wpAny_pure ?_
 have I4:Inv X pins σ H3 { s3 with heap:=s3.heap.push { cls:=.type "slice",data:=.fields #[vl,vu,.none] } }:=I3.kept (t':=s3.toks) λb ob q=>Heap.get?_push_of_some _ q
 obtain⟨T,id,hT,ht,hg⟩:=hr pins { s3 with heap:=s3.heap.push { cls:=.type "slice",data:=.fields #[vl,vu,.none] } } σ H3 x v vl vu l u s3.heap.objs.size Q I4 r1 (Heap.IsSliceOf.new ..) pl pu q3
 show wpAny (model X.prog X.w) X.A (subscriptTail e (.Slice lo hi none p2) v (.ref s3.heap.objs.size)) (EP X pins σ Q) X.xe { s3 with heap:=s3.heap.push { cls:=.type "slice",data:=.fields #[vl,vu,.none] } }
 exact tail_any (ops:=[.ref s3.heap.objs.size,v]) ht hT hg (by with_unfolding_all rfl)
def cutV (xs:List V)(lo hi:Option Int):List V:=(xs.drop (HT.sIx xs.length 0 lo)).take (HT.sIx xs.length xs.length hi - HT.sIx xs.length 0 lo)
theorem We (xs:List V)(lo hi:Option Int):(cutV xs lo hi).length<=xs.length:=by
 unfold cutV
 rw[List.length_take,List.length_drop]
 omega
def rSlT (K:PySem.W.Frag):V->Option Int->Option Int->Hp->VK->Prop:=λx lo hi H Q=>∃a xs,x=.ref a/\SqT K H a xs /\
 ¬(HT.sIx xs.length 0 lo=0/\HT.sIx xs.length xs.length hi=xs.length)/\∀p,H p=none->Q (.ref p) (upd H p (.tup (cutV xs lo hi)))
theorem UK:SlR X (rSlT X.K):=by
 intro pins s σ H x v vl vu lo hi sl Q I rx hs pl pu h
 obtain⟨a,xs,rfl,hx,hw,q⟩:=h
 cases rx
 obtain⟨its,r,ht,hz⟩:=I.tuple hx
 have hlen:its.toArray.size=xs.length:=by rw[List.size_toArray];exact r.length.symm
 refine⟨"tuple",_,PyProof.Rows.slot_tuple_getitem.lookup,ht.typeIs,?_⟩
 refine HT.getItem_tuple_cut ht hs pl pu (by rw[hlen];exact hw) ?_ (by rw[hlen];exact hz)
 rw[hlen]
 refine⟨.ref s.heap.objs.size,_,I.laid (t':=s.toks) (o:=.tup (cutV xs lo hi)) (λb ob q=>Heap.get?_push_of_some _ q) (Nat.le_refl _) ?_,rfl,q _ (I.hok.fresh (Nat.le_refl _))⟩
 exact⟨Nat.le_trans (We xs lo hi) hz,_,(r.drop (HT.sIx xs.length 0 lo)).take (HT.sIx xs.length xs.length hi - HT.sIx xs.length 0 lo),IsTup.new _ _⟩
end
def ixN (n:Nat)(i:Int):Option Nat:=if 0<=i then (if i < n then some i.toNat else none) else if -(n:Int)<=i then some (i+n).toNat else none
def atI {α:Type}(xs:List α)(i:Int):Option α:=(ixN xs.length i).bind λj=>xs[j]?
theorem vY {n:Nat}{i:Int}{j:Nat}(h:ixN n i=some j):seqIndex? i n=some j/\j < n/\-(n:Int)<=i/\i < n:=by
 unfold ixN at h
 by_cases h0:0<=i
 ·rw[if_pos h0] at h
  by_cases h1:i < n
  ·rw[if_pos h1] at h
   have e:i.toNat=j:=Option.some.inj h
   exact⟨by rw[seqIndex_of h0 h1,e],by omega,by omega,h1⟩
  ·rw[if_neg h1] at h;cases h
 ·rw[if_neg h0] at h
  by_cases h1:-(n:Int)<=i
  ·rw[if_pos h1] at h
   have e:(i+n).toNat=j:=Option.some.inj h
   exact⟨by rw[seqIndex_neg (by omega) h1,e],by omega,h1,by omega⟩
  ·rw[if_neg h1] at h;cases h
theorem uS {α:Type}{xs:List α}{i:Int}{v:α}(h:atI xs i=some v):∃j,seqIndex? i xs.length=some j/\xs[j]?=some v/\j < xs.length/\-(xs.length:Int)<=i/\i < xs.length:=by
 unfold atI at h
 cases e:ixN xs.length i with
 |none=>rw[e] at h;cases h
 |some j=>
  rw[e] at h
  obtain⟨h1,h2,h3,h4⟩:=vY e
  exact⟨j,h1,h,h2,h3,h4⟩
theorem atI_nat {α:Type}{xs:List α}{j:Nat}{v:α}(h:xs[j]?=some v):atI xs (j:Int)=some v:=by
 have hj:j < xs.length:=(List.getElem?_eq_some_iff.mp h).1
 have e:ixN xs.length (j:Int)=some j:=by
  unfold ixN
  rw[if_pos (by omega),if_pos (by omega)];simp
 unfold atI;rw[e];exact h
def vF (b:Expr):Prop:=∀o i,subscripted b false o i=operate [o,i] (getItem o i)
def IxR (X:Cx)(r:R2):Prop :=
 ∀(value slice:Expr) (pins:List (Addr×Obj)) (s:Shared) (σ:St) (H:Hp) (x y:V) (v u:Value) (Q:VK),Inv X pins σ H s->RelV x v->RelV y u->r x y H Q ->
  subscripted slice false v u=operate [v,u] (getItem v u)->wpAny (model X.prog X.w) X.A (subscriptTail value slice v u) (EP X pins σ Q) X.xe s
def MtR (X:Cx)(id:String)(r:V->List V->Hp->VK->Prop):Prop :=
 ∀(pins:List (Addr×Obj)) (s:Shared) (σ:St) (H:Hp) (x:V) (xs:List V) (v:Value) (us:List Value) (Q:VK),Inv X pins σ H s->RelV x v->Vals xs us->r x xs H Q ->
  wpAny (model X.prog X.w) X.A (call (.builtin id) (v::us)) (EP X pins σ Q) X.xe s
section
variable {X:Cx}{a b:Expr}{ta tb:TE}{pos:Pos}
theorem IxR.or {r r':R2}(h:IxR X r)(h':IxR X r'):IxR X (λx y H Q=>r x y H Q∨r' x y H Q):=by
 intro value slice pins s σ H x y v u Q I rx ry q hs
 rcases q with q | q
 ·exact h value slice pins s σ H x y v u Q I rx ry q hs
 ·exact h' value slice pins s σ H x y v u Q I rx ry q hs
theorem uJ {r:R2}(hr:IxR X r)(ha:PE X a ta)(hb:PE X b tb)(hs:vF b):PE X (.Subscript a b pos) (tOp r ta tb):=by
 intro pins s σ H Q I h
 exact Subscript_ (binT ha hb I h λv u s2 x y H2 I2 rx ry q=>hr a b pins s2 σ H2 x y v u Q I2 rx ry q (hs _ _))
def rIxL (K:PySem.W.Frag):R2:=λx y H Q=>∃p xs i v,x=.ref p/\y=.int i/\SqL K H p xs/\atI xs i=some v/\Q v H
def rIxT (K:PySem.W.Frag):R2:=λx y H Q=>∃p xs i v,x=.ref p/\y=.int i/\SqT K H p xs/\atI xs i=some v/\Q v H
def rIxS:R2:=λx y H Q=>∃z i c,x=.str z/\y=.int i/\z.length<=sizeLine/\atI z.cps.toList i=some c/\Q (.str ⟨#[c]⟩) H
theorem ix_list:IxR X (rIxL X.K):=by
 intro value slice pins s σ H x y v u Q I rx ry h hs
 obtain⟨p,xs,i,z,rfl,rfl,hq,he,q⟩:=h
 cases rx
 obtain⟨t,rfl⟩:=ry
 obtain⟨its,r,pl,hz⟩:=I.list hq
 obtain⟨j,h1,h2,h3,h4,h5⟩:=uS he
 obtain⟨w,ew,rw'⟩:=r.get h2
 have hl:=r.length
 have hn:=line63
 have fin:EP X pins σ Q w s:=⟨z,H,I,rw',q⟩
 by_cases h0:0<=i
 ·have hj:i.toNat=j:=by
   rw[seqIndex_of h0 h5] at h1
   exact Option.some.inj h1
  exact item_listR pl.isList h0 (by omega) (by rw[hj];simpa using ew) fin hs
 ·have hj:(i+(its.toArray.size:Int)).toNat=j:=by
   rw[seqIndex_neg (by omega) h4] at h1
   rw[List.size_toArray,<-hl]
   exact Option.some.inj h1
  exact subscriptTail_builtinR (x:=w) pl.isList.typeIs slot_list_getitem.lookup
   (wpAny_getItem_list_neg (Q:=λr s'=>r=w/\EP X pins σ Q r s') pl.isList (by omega) (by rw[List.size_toArray]<;>omega) (by omega) (by rw[hj];simpa using ew) ⟨rfl,fin⟩) hs
theorem ix_tup:IxR X (rIxT X.K):=by
 intro value slice pins s σ H x y v u Q I rx ry h hs
 obtain⟨p,xs,i,z,rfl,rfl,hq,he,q⟩:=h
 cases rx
 obtain⟨t,rfl⟩:=ry
 obtain⟨its,r,pl,hz⟩:=I.tuple hq
 obtain⟨j,h1,h2,h3,h4,h5⟩:=uS he
 obtain⟨w,ew,rw'⟩:=r.get h2
 have hl:=r.length
 have hn:=line63
 have fin:EP X pins σ Q w s:=⟨z,H,I,rw',q⟩
 exact subscriptTail_builtinR (x:=w) pl.typeIs slot_tuple_getitem.lookup
  (getItem_tuple (j:=j) (Q:=λr s'=>r=w/\EP X pins σ Q r s') pl (by omega) (by omega) (by rw[List.size_toArray,<-hl];exact h1) (by simpa using ew) ⟨rfl,fin⟩) hs
theorem KM:IxR X rIxS:=by
 intro value slice pins s σ H x y v u Q I rx ry h hs
 obtain⟨z,i,c,rfl,rfl,hz,he,q⟩:=h
 obtain⟨t,rfl⟩:=rx
 obtain⟨t',rfl⟩:=ry
 obtain⟨j,h1,h2,h3,h4,h5⟩:=uS he
 have hl:z.cps.toList.length=z.length:=by simp[Str.length]
 rw[hl] at h1 h4 h5
 have hn:=line63
 exact tail_any (typeIs_str s z t) slot_str_getitem.lookup (getItem_str (c:=c) (by
  have e1:decide (i < -(2 ^ 63:Int))=false:=decide_eq_false (by omega)
  have e2:decide (i≥2 ^ 63)=false:=decide_eq_false (by omega)
  rw[e1,e2,Bool.or_false]) (by rw[h1];simpa using h2) ⟨.str ⟨#[c]⟩,H,I.tok _,⟨_,rfl⟩,q⟩) hs
def rIx (K:PySem.W.Frag):R2:=λx y H Q=>rIxL K x y H Q∨rIxT K x y H Q∨rIxS x y H Q
theorem uc:IxR X (rIx X.K):=ix_list.or (ix_tup.or KM)
theorem UG (its:List Value)(n j:Nat)(u:Value):Obj.mapSeq (·.setIfInBounds j u) { cls:=.type "list",data:=.seq its.toArray n }={ cls:=.type "list",data:=.seq (its.set j u).toArray n }:=by
 simp[Obj.mapSeq]
theorem Inv.lst {pins:List (Addr×Obj)}{σ:St}{H:Hp}{s:Shared}{p:Addr}{xs:List V}(I:Inv X pins σ H s)(h:H p=some (.lst xs)) :
  ∃(its:List Value) (n:Nat),Vals xs its/\s.heap.get? p=some { cls:=.type "list",data:=.seq its.toArray n }/\xs.length<=sizeLine:=by
 obtain⟨z,its,n,r,e⟩:=I.hok p _ h
 exact⟨its,n,r,e,z⟩
theorem Inv.lstUpd {pins:List (Addr×Obj)}{σ:St}{H:Hp}{s:Shared}{p:Addr}{xs ys:List V}{its its':List Value}{n n':Nat}{f:Obj->Obj}(I:Inv X pins σ H s)(h:H p=some (.lst xs))
  (ho:s.heap.get? p=some { cls:=.type "list",data:=.seq its.toArray n }) (hf:f { cls:=.type "list",data:=.seq its.toArray n }={ cls:=.type "list",data:=.seq its'.toArray n' }) (r:Vals ys its') (hz:ys.length<=sizeLine) (t:Nat) :
  Inv X pins σ (upd H p (.lst ys)) { s with heap:=s.heap.update p f,toks:=t }:=by
 have e:(s.heap.update p f).get? p=some { cls:=.type "list",data:=.seq its'.toArray n' }:=by
  rw[Heap.get?_update_self f ho (by rw[hf]<;>rfl),hf]
 refine I.write (x:=p) (e:=p) (by rw[h];trivial) (.inl rfl) (λb u hb q=>(Heap.get?_update_other _ _ (Ne.symm hb)).trans q) ⟨_,e⟩ ?_
 exact⟨hz,its',n',r,e⟩
def rSetL:V->V->V->Hp->(Hp->Prop)->Prop:=λo i v H Q=>∃p xs k j,o=.ref p/\i=.int k/\H p=some (.lst xs)/\ixN xs.length k=some j/\Q (upd H p (.lst (xs.set j v)))
theorem UT:PSet X rSetL:=by
 intro pins s σ H o i v ov iv u Q I ro ri rv h
 obtain⟨p,xs,k,j,rfl,rfl,hp,hj,q⟩:=h
 cases ro
 obtain⟨t,rfl⟩:=ri
 obtain⟨its,n,r,ho,hz⟩:=I.lst hp
 obtain⟨h1,h2,h3,h4⟩:=vY hj
 have hl:=r.length
 have hn:=line63
 have I':Inv X pins σ (upd H p (.lst (xs.set j v))) { s with heap:=s.heap.update p (Obj.mapSeq (·.setIfInBounds j u)) } :=
  I.lstUpd hp ho (UG its n j u) (r.set rv j) (by rw[List.length_set];exact hz) s.toks
 by_cases h0:0<=k
 ·have hk:k.toNat=j:=by
   rw[seqIndex_of h0 h4] at h1
   exact Option.some.inj h1
  exact PySem.W.ki_setAt ho h0 (by omega) (by rw[List.size_toArray,<-hl];exact h4) (by rw[hk];exact⟨_,I',q⟩)
 ·have hk:(k+(its.toArray.size:Int)).toNat=j:=by
   rw[seqIndex_neg (by omega) h3] at h1
   rw[List.size_toArray,<-hl]
   exact Option.some.inj h1
  exact PySem.W.ki_setBack ho (by omega) (by rw[List.size_toArray,<-hl];exact h3) (by omega) (by rw[hk];exact⟨_,I',q⟩)
theorem Ks (lo hi:Option Int)(n:Nat):(sliceBounds lo hi none n).1=((HT.sIx n 0 lo:Nat):Int)/\(sliceBounds lo hi none n).2.1=((HT.sIx n n hi:Nat):Int)/\(sliceBounds lo hi none n).2.2=1:=by
 refine⟨?_,?_,rfl⟩
 ·cases lo with
  |none=>simp[sliceBounds,HT.sIx]
  |some i=>
   simp only[sliceBounds,HT.sIx,Option.getD_none,show (1:Int) > 0 by decide,if_true]
   by_cases h:i < 0
   ·simp only[h,if_true]<;>omega
   ·simp only[h,if_false]<;>omega
 ·cases hi with
  |none=>simp[sliceBounds,HT.sIx]
  |some i=>
   simp only[sliceBounds,HT.sIx,Option.getD_none,show (1:Int) > 0 by decide,if_true]
   by_cases h:i < 0
   ·simp only[h,if_true]<;>omega
   ·simp only[h,if_false]<;>omega
theorem RQ (its:List Value)(lo hi:Option Int):slicePick its.toArray lo hi none=((its.drop (HT.sIx its.length 0 lo)).take (HT.sIx its.length its.length hi - HT.sIx its.length 0 lo)).toArray:=by
 obtain⟨h1,h2,h3⟩:=Ks lo hi its.toArray.size
 unfold slicePick
 rw[h1,h2,h3]
 simp only[sliceRange_one,pick_run,List.size_toArray]<;>rfl
def rSlL (K:PySem.W.Frag):V->Option Int->Option Int->Hp->VK->Prop:=λx lo hi H Q=>∃a xs,x=.ref a/\SqL K H a xs/\∀p,H p=none->Q (.ref p) (upd H p (.lst (cutV xs lo hi)))
theorem Ro:SlR X (rSlL X.K):=by
 intro pins s σ H x v vl vu lo hi sl Q I rx hs pl pu h
 obtain⟨a,xs,rfl,hx,q⟩:=h
 cases rx
 obtain⟨its,r,ht,hz⟩:=I.list hx
 have hlen:=r.length
 refine⟨"list",_,slot_list_getitem.lookup,ht.isList.typeIs,?_⟩
 refine wpAny_getItem_list_slice ht.isList hs pl pu .none (by simp) ?_ (by rw[List.size_toArray]<;>omega)
 rw[RQ,<-hlen]
 refine⟨.ref s.heap.objs.size,_,I.laid (t':=s.toks) (o:=.lst (cutV xs lo hi)) (λb ob q=>Heap.get?_push_of_some _ q) (Nat.le_refl _) ?_,rfl,q _ (I.hok.fresh (Nat.le_refl _))⟩
 exact⟨Nat.le_trans (We xs lo hi) hz,_,0,(r.drop (HT.sIx xs.length 0 lo)).take (HT.sIx xs.length xs.length hi - HT.sIx xs.length 0 lo),Heap.get?_push_size _ rfl⟩
def tyV (K:PySem.W.Frag)(T:String)(x:V)(H:Hp):Prop:=match x with
 |.str _=>T = "str"
 |.int _=>T = "int"
 |.ref p=>(T = "list" /\ ∃xs,SqL K H p xs)∨(T = "tuple" /\ ∃o,K.lookup p=some o/\o.cls=.type "tuple" /\ o.dict=none) ∨
   (T = "dict" /\ ((∃kvs,H p=some (.dK kvs))∨∃kvs,H p=some (.dT kvs)))∨(T = "set" /\ ∃S n,H p=some (.set S n))
 |_=>False
theorem Wj {pins:List (Addr×Obj)}{σ:St}{H:Hp}{s:Shared}{T:String}{x:V}{v:Value}(I:Inv X pins σ H s)(r:RelV x v)(ty:tyV X.K T x H) :
  s.TypeIs v T/\∀a,v=.ref a->∃ob,s.heap.get? a=some ob/\ob.dict=none:=by
 cases x with
 |str z=>
  obtain⟨t,rfl⟩:=r
  cases (show T = "str" from ty)
  exact⟨typeIs_str s z t,λ_ e=>nomatch e⟩
 |int i=>
  obtain⟨t,rfl⟩:=r
  cases (show T = "int" from ty)
  exact⟨typeIs_int s i t,λ_ e=>nomatch e⟩
 |ref p=>
  cases r
  rcases ty with⟨rfl,xs,hq⟩ | ⟨rfl,o,hk,hc,hd⟩ | ⟨rfl,hk⟩ | ⟨rfl,S,n,hk⟩
  ·obtain⟨its,_,pl,_⟩:=I.list hq
   refine⟨pl.isList.typeIs,λa e=>?_⟩
   cases e
   obtain⟨o,n,e,c,hd,_⟩:=pl
   exact⟨o,e,hd⟩
  ·refine⟨⟨o,I.kIn p o hk,hc⟩,λa e=>?_⟩
   cases e
   exact⟨o,I.kIn _ o hk,hd⟩
  ·have z:∃o,s.heap.get? p=some o/\o.ExactDict:=by
    rcases hk with⟨kvs,hk⟩ | ⟨kvs,hk⟩
    ·obtain⟨_,_,_,_,o,_,_,e,ex,_⟩:=I.hok p _ hk
     exact⟨o,e,ex⟩
    ·obtain⟨_,_,_,_,o,_,_,e,ex,_⟩:=I.hok p _ hk
     exact⟨o,e,ex⟩
   obtain⟨o,e,ex⟩:=z
   refine⟨⟨o,e,ex.1⟩,λa e2=>?_⟩
   cases e2
   exact⟨o,e,ex.2.1⟩
  ·obtain⟨o,_,_,_,e,ex,_⟩:=I.hok p _ hk
   refine⟨⟨o,e,ex.1⟩,λa e2=>?_⟩
   cases e2
   exact⟨o,e,ex.2.1⟩
 |_=>exact False.elim ty
def tBM0 (K:PySem.W.Frag)(T:String)(r:V->List V->Hp->VK->Prop)(to:TE):TE:=λσ H Q=>to σ H λx H1=>tyV K T x H1/\r x [] H1 Q
def tBM (K:PySem.W.Frag)(T:String)(r:V->List V->Hp->VK->Prop)(to:TE)(t:TA):TE:=λσ H Q=>to σ H λx H1=>tyV K T x H1/\t σ H1 λxs H2=>r x xs H2 Q
variable {o e:Expr}{es:List Expr}{to:TE}{t:TA}{name:Str}{apos cpos:Pos}{T id:String}{r:V->List V->Hp->VK->Prop}
theorem kO (pa:PlainAttrs T)(slot:Slot T name id)(hty:typeOf (.builtin id)=pure (.type "method_descriptor")) (hm:MtR X id r) (ho:PE X o to)
  (hbase:attributeBase o name X.env (eval o X.env)=eval o X.env:=by rfl) (hline:(apos.endLine==cpos.line)=true:=by rfl):PE X (.Call (.Attribute o name apos) [] [] cpos) (tBM0 X.K T r to):=by
 intro pins s σ H Q I h
 refine wpAny_Call_method0_late hbase hline (thn (ho pins s σ H _ I h) λv s1 ⟨x,H1,I1,r1,ty,q1⟩=>?_)
 obtain⟨h1,h2⟩:=Wj I1 r1 ty
 exact⟨T,id,pa,slot,hty,h1,h2,Calls.callWith_builtin rfl (PySem.evalArgs_none (hm pins s1 σ H1 x [] v [] Q I1 r1 .nil q1))⟩
theorem VF (pa:PlainAttrs T)(slot:Slot T name id)(hty:typeOf (.builtin id)=pure (.type "method_descriptor")) (hm:MtR X id r) (ho:PE X o to) (ha:PA X (e::es) t)
  (hbase:attributeBase o name X.env (eval o X.env)=eval o X.env:=by rfl)
  (hfew:((backTo cpos (starEach (e::es) X.env)).all (λx=>!x.1)&&(backToKw cpos (keywordEach [] X.env)).all (λx=>x.1.isSome)
   && decide ((e::es).length+([]:List Keyword).length+(if ([]:List Keyword).isEmpty then 0 else 1) < 30))=true:=by rfl)
  (hline:(apos.endLine==cpos.line)=true:=by rfl) (hs:starEach (e::es) X.env=(false,eval e X.env)::starEach es X.env:=by rfl) (hplain:(backTo cpos (starEach es X.env)).any (·.1)=false:=by rfl) :
  PE X (.Call (.Attribute o name apos) (e::es) [] cpos) (tBM X.K T r to t):=by
 intro pins s σ H Q I h
 refine wpAny_Call_method_late hbase hfew hline rfl (thn (ho pins s σ H _ I h) λv s1 ⟨x,H1,I1,r1,ty,q1⟩=>?_)
 obtain⟨h1,h2⟩:=Wj I1 r1 ty
 refine⟨T,id,pa,slot,hty,h1,h2,?_⟩
 have hA:=ha cpos pins s1 σ H1 _ I1 q1
 rw[hs] at hA ⊢
 refine Calls.callWith_builtin (by show (false||(backTo cpos (starEach es X.env)).any (·.1))=false;rw[hplain]<;>rfl) (Calls.evalArgs_plain ?_)
 exact thn hA λus s2 ⟨vs,H2,I2,r2,q2⟩=>hm pins s2 σ H2 x vs v us Q I2 r1 r2 q2
/- xs.append(e),list.index on a module's tuple .. are MtR facts of 06m -/
end
def MtM (X:Cx)(id:String)(r:V->List V->Hp->VK->Prop):Prop :=
 ∀(pins:List (Addr×Obj)) (s:Shared) (σ:St) (H:Hp) (x:V) (xs:List V) (v:Value) (us:List Value) (Q:VK),Inv X pins σ H s->RelV x v->Vals xs us->r x xs H Q ->
  wpAny (model X.prog X.w) X.A (call (.builtin id) (v::us)) (EP X pins σ Q) X.xe s
theorem Vals.one:∀ {x:V} {us:List Value},Vals [x] us->∃u,us=[u]/\RelV x u
 |_,_,.cons r .nil=>⟨_,rfl,r⟩
theorem Vals.zero:∀ {us:List Value},Vals [] us->us=[]
 |_,.nil=>rfl
theorem Vals.dropLast {xs:List V}{us:List Value}(h:Vals xs us):Vals xs.dropLast us.dropLast:=by
 induction h with
 |nil=>exact .nil
 |cons r t ih=>
  cases t with
  |nil=>exact .nil
  |cons q t'=>exact .cons r ih
theorem Vals.rep {xs:List V}{us:List Value}(h:Vals xs us):∀k:Nat,Vals (List.replicate k xs).flatten (List.replicate k us).flatten
 |0=>.nil
 |k+1=>by
  rw[List.replicate_succ,List.replicate_succ,List.flatten_cons,List.flatten_cons]
  exact Vals.append h (Vals.rep h k)
theorem Ui {α:Type}(l:List α):l.eraseIdx (l.length - 1)=l.dropLast:=by
 induction l with
 |nil=>rfl
 |cons a r ih=>
  cases r with
  |nil=>rfl
  |cons b r=>
   have e:(a::b::r).length - 1=((b::r).length - 1)+1:=by
    have h1:(a::b::r).length=r.length+2:=rfl
    have h2:(b::r).length=r.length+1:=rfl
    omega
   rw[e,List.eraseIdx_cons_succ,ih]
   all_goals rfl
theorem W9 (its:List Value):∀(k:Nat) (acc:List Value),
  List.foldl (λx1 x2=>x1++x2) acc.toArray (List.replicate k its.toArray)=(acc++(List.replicate k its).flatten).toArray
 |0,acc=>by simp
 |k+1,acc=>by
  have e:acc.toArray++its.toArray=(acc++its).toArray:=by simp
  have e2:(acc++its)++(List.replicate k its).flatten=acc++(List.replicate (k+1) its).flatten:=by
   rw[List.replicate_succ,List.flatten_cons,List.append_assoc]
  rw[<-e2,<-W9 its k (acc++its),<-e,List.replicate_succ,List.foldl_cons]
section
variable {X:Cx}{pins:List (Addr×Obj)}{σ:St}{H:Hp}{s:Shared}{l b:Addr}{xs ys zs:List V}
theorem Inv.lset {its its':List Value}{n:Nat}{f:Array Value->Array Value}{t':Nat}(I:Inv X pins σ H s)(hH:H l=some (.lst xs))
  (e:s.heap.get? l=some { cls:=.type "list",data:=.seq its.toArray n }) (hf:f its.toArray=its'.toArray) (hv:Vals ys its') (hz:ys.length<=sizeLine) :
  Inv X pins σ (upd H l (.lst ys)) { s with heap:=s.heap.update l (Obj.mapSeq f),toks:=t' }:=by
 have q:=PySem.IsL.update e f
 rw[hf] at q
 refine I.write (x:=l) (e:=l) (by rw[hH];exact trivial) (.inl rfl) (λb' u hb hu=>(Heap.get?_update_other s.heap (Obj.mapSeq f) (Ne.symm hb)).trans hu) ⟨_,q⟩ ?_
 exact⟨hz,its',_,hv,q⟩
theorem Inv.lnew {its:List Value}{t':Nat}(I:Inv X pins σ H s)(hv:Vals ys its)(hz:ys.length<=sizeLine) :
  Inv X pins σ (upd H s.heap.objs.size (.lst ys)) { s with heap:=s.heap.push { cls:=.type "list",data:=.seq its.toArray },toks:=t' } :=
 I.laid (λ_ _ q=>Heap.get?_push_of_some _ q) (Nat.le_refl _) ⟨hz,its,0,hv,Heap.get?_push_size _ rfl⟩
theorem Inv.fresh (I:Inv X pins σ H s):H s.heap.objs.size=none:=I.hok.fresh (Nat.le_refl _)
theorem Inv.lstM (I:Inv X pins σ H s)(hH:H l=some (.lst xs)):xs.length<=sizeLine/\∃(its:List Value) (n:Nat),Vals xs its/\xs.length=its.length/\s.heap.get? l=some { cls:=.type "list",data:=.seq its.toArray n }:=by
 obtain⟨z,its,n,r,e⟩:=I.hok l _ hH
 exact⟨z,its,n,r,r.length,e⟩
theorem RM {n:Nat}(h:n<=sizeLine):Builtin.List.listTooLong n=false:=by
 unfold Builtin.List.listTooLong
 exact decide_eq_false (by omega)
end
section
variable {X:Cx}
def ZM:V->List V->Hp->VK->Prop:=λx vs H Q=>∃l xs y,x=.ref l/\vs=[y]/\H l=some (.lst xs)/\xs.length < sizeLine/\Q .non (upd H l (.lst (xs++[y])))
theorem Vs:MtM X "list.append" ZM:=by
 intro pins s σ H x vs v us Q I rx rv h
 obtain⟨l,xs,y,rfl,rfl,hH,hz,q⟩:=h
 cases rx
 obtain⟨u,rfl,ru⟩:=rv.one
 obtain⟨z,its,n,r,hl,e⟩:=I.lstM hH
 refine call_meets F.slot_list_append ⟨_,e,rfl⟩ F.entry_list_append (F.args_list_append_2 _ _) (PySem.list_append l its.toArray n u (by rw[List.size_toArray];omega)) ⟨e,?_⟩
 refine⟨.non,_,I.lset (its':=its++[u]) hH e (by simp) (r.append (.cons ru .nil)) ?_,rfl,q⟩
 rw[List.length_append,List.length_singleton]
 omega
def rPop:V->List V->Hp->VK->Prop:=λx vs H Q=>∃l xs y,x=.ref l/\vs=[]/\H l=some (.lst xs)/\xs[xs.length - 1]?=some y/\Q y (upd H l (.lst xs.dropLast))
theorem QP:MtM X "list.pop" rPop:=by
 intro pins s σ H x vs v us Q I rx rv h
 obtain⟨l,xs,y,rfl,rfl,hH,hy,q⟩:=h
 cases rx
 have hus:=rv.zero
 subst hus
 obtain⟨z,its,n,r,hl,e⟩:=I.lstM hH
 obtain⟨u,hu,ru⟩:=r.get hy
 have hy':its.toArray[its.toArray.size - 1]?=some u:=by
  show its.toArray[its.length - 1]?=some u
  rw[<-Array.getElem?_toList,<-hl]
  exact hu
 refine call_meets F.slot_list_pop ⟨_,e,rfl⟩ F.entry_list_pop (F.args_list_pop_1 _) (MeetsSeq.list_pop_last l its.toArray n u hy' (by rw[List.size_toArray];omega)) ⟨e,?_⟩
 refine⟨y,_,I.lset (its':=its.dropLast) hH e ?_ r.dropLast ?_,ru,q⟩
 ·show its.toArray.eraseIdxIfInBounds (its.toArray.size - 1)=its.dropLast.toArray
  rw[List.size_toArray,List.eraseIdxIfInBounds_toArray,Ui]
 ·rw[List.length_dropLast]
  omega
def rClear:V->List V->Hp->VK->Prop:=λx vs H Q=>∃l xs,x=.ref l/\vs=[]/\H l=some (.lst xs)/\Q .non (upd H l (.lst []))
theorem Zu:MtM X "list.clear" rClear:=by
 intro pins s σ H x vs v us Q I rx rv h
 obtain⟨l,xs,rfl,rfl,hH,q⟩:=h
 cases rx
 have hus:=rv.zero
 subst hus
 obtain⟨z,its,n,r,hl,e⟩:=I.lstM hH
 refine call_meets F.slot_list_clear ⟨_,e,rfl⟩ F.entry_list_clear (F.args_list_clear_1 _) (AutoSeq1.list_clear_list_0 l its.toArray n (by rw[List.size_toArray];omega)) ⟨e,?_⟩
 exact⟨.non,_,I.lset (its':=[]) (ys:=[]) hH e rfl .nil (Nat.zero_le _),rfl,q⟩
def rRep:R2:=λx y H Q=>∃l k xs,x=.ref l/\y=.int k/\H l=some (.lst xs)/\-(2 ^ 63)<=k/\k < 2 ^ 63/\xs.length * k.toNat<=sizeLine /\
 ∀p,H p=none->Q (.ref p) (upd H p (.lst (List.replicate k.toNat xs).flatten))
theorem QL {α:Type}(xs:List α)(k:Nat):(List.replicate k xs).flatten.length=k * xs.length:=by
 induction k with
 |zero=>simp
 |succ k ih=>rw[List.replicate_succ,List.flatten_cons,List.length_append,ih,Nat.succ_mul,Nat.add_comm]
theorem Kp:OpR X (binaryOp .Mult) rRep:=by
 intro pins s σ H x y v u Q I rx ry h
 obtain⟨l,k,xs,rfl,rfl,hH,h1,h2,hz,q⟩:=h
 cases rx
 obtain⟨t,rfl⟩:=ry
 obtain⟨z,its,n,r,hl,e⟩:=I.lstM hH
 have hlen:its.toArray.size * k.toNat<=sizeLine:=by rw[List.size_toArray,<-hl];exact hz
 have hcap:¬its.toArray.size * k.toNat > (2 ^ 63 - 1) / 8:=by
  have:(sizeLine:Nat)<=(2 ^ 63 - 1) / 8:=by decide
  omega
 have hfit:¬(!Builtin.List.listFitsIndex k)=true:=by
  rw[fitsIndex_both h1 h2]
  exact Bool.false_ne_true
 have hlong:¬Builtin.List.listTooLong (its.toArray.size * k.toNat)=true:=by
  rw[RM hlen]
  exact Bool.false_ne_true
 have hnew:List.foldl (λx1 x2=>x1++x2) #[] (List.replicate (if its.toArray.isEmpty=true then 0 else k.toNat) its.toArray)=(List.replicate k.toNat its).flatten.toArray:=by
  have f0:∀m:Nat,List.foldl (λx1 x2=>x1++x2) #[] (List.replicate m its.toArray)=(List.replicate m its).flatten.toArray:=λm=>by
   have:=W9 its m []
   rw[List.nil_append] at this
   exact this
  rw[f0]
  cases its with
  |nil=>simp
  |cons a r'=>rw[if_neg (by simp)]
 refine wpAny_binaryOp_repeat_ref (T := "list") (U := "int") (by decide) ⟨_,e,rfl⟩ (λs'=>typeIs_int s' k t) noFill_list_mul F.fills_int_mul F.slot_int_rmul repeat_list F.slot_int_index.lookup
  (call_meets F.slot_int_rmul (typeIs_int s k t) F.entry_int_rmul (F.args_int_rmul_2 _ _) (int___rmul___int_list k t l its.toArray n)
   ⟨e,rfl,⟨_,e,rfl⟩,call_meets F.slot_list_mul ⟨_,e,rfl⟩ F.entry_list_mul (F.args_list_mul_2 _ _) (AutoListH.list___mul___list_int_3 l its.toArray n k t hfit hcap hlong) ⟨e,?_⟩⟩)
 rw[hnew]
 exact⟨.ref _,_,I.lnew (t':=s.toks) (r.rep k.toNat) (by rw[QL,Nat.mul_comm];exact hz),rfl,q _ I.fresh⟩
end
section
variable {prog:Program}{w:World}{A:Around}{E:Value->Shared->Prop}{s:Shared}
end
section
variable {X:Cx}
end
end L2
namespace Att
open PySem PySem.W PySem.Calls PyProof.Rows
theorem Gc {P:Params}{h:Heap}:∀(ns:List Int) (vs:List Value),WellAll P h vs (ns.map WData.int)->IntsAre vs ns:=by
 intro ns
 induction ns with
 |nil=>
  intro vs w
  rw[List.map_nil] at w
  cases w
  exact .nil
 |cons n ns ih=>
  intro vs w
  rw[List.map_cons] at w
  cases w with
  |cons a b=>
   cases a
   exact .cons _ _ (ih _ b)
theorem J0 {l:OpenLaw}{n:Nat}(hn:l.most=some n){P:Params}{h:Heap}{args:List WData}{vals:List Value}
  (hpre:l.row.toRowW.claim.pre args=true) (hwl:WellAll P h vals args) :
  ∃a vs ns,vals=[Value.ref a]/\args=[WData.list (ns.map WData.int)]/\h.get? a=some { cls:=.type "list",data:=.seq vs.toArray }/\IntsAre vs ns/\ns.length<=n:=by
 have hsh:WShape.hasAll [] args [.list .int]=true:=(pre_splitW hpre).1
 have hc:l.pre.holds [] { args:=args }=true:=(pre_splitW hpre).2
 obtain⟨d,r,rfl,h1,h2⟩:=hasAllW_cons hsh
 obtain rfl:=hasAllW_nil h2
 obtain⟨xs,rfl,h3⟩:=hasW_list h1
 obtain⟨ns,rfl⟩:=items_int h3
 have hlen:ns.length<=n:=by
  unfold OpenLaw.pre at hc
  have h4:(WTm.not (.lt (.lit (.int (n:Int))) (.len (.arg 0)))).holds [] { args:=[.list (ns.map .int)] }=true:=by
   have h4:=(holds_andW hc).1
   rw[hn] at h4
   exact h4
  have h5:=condW_of h4 (w_not (w_lt w_lit (w_len_list (w_arg rfl))))
  rw[List.length_map] at h5
  refine Nat.le_of_not_lt λq=>?_
  have q':(n:Int) < ((ns.length:Nat):Int):=by omega
  first
   | (rw[decide_eq_true q'] at h5;exact absurd h5 (by decide))
   | (simp at h5;omega)
 cases hwl with
 |cons w1 w2=>
  cases w2
  cases w1 with
  |list ho hall=>exact⟨_,_,ns,rfl,rfl,ho,Gc ns _ hall,hlen⟩
theorem Q4 (l:OpenLaw)(args:List WData):l.row.toRowW.claim.post args (.bool true) args=true :=
 postW_of (r:=l.row.toRowW) (X:=(true==true))
  (show WShape.has [] (.bool true) .bool=true by first | rfl | decide | simp[WShape.has,WShape.arms,WShape.armsAll])
  (show (WTm.eq .res (.lit (.bool true))).value [] { args:=args,res:=some (.bool true),after:=args }=some (.bool (true==true)) from w_eq_bool (w_res rfl) w_lit) rfl
theorem attach_call {l:OpenLaw}{n:Nat}{q:Program}{loose:List Str}{XP:(Str->Option Value)->Heap->Prop}{YP:World->Heap->Prop}{d:DefRec}
  (hn:l.most=some n) (hdf:d.params.defaults=[])
  (call:∀(w:World) (s₀ s₁:Shared) (mg mb:Str->Option Value) (fa:Addr) (o:Obj) (pm cd doc:Value) (a:Addr) (vs:List Value) (ns:List Int),
   Ground q loose [] XP w s₀ mg mb s₁.heap->YP w s₁.heap ->
   s₁.heap.get? fa=some o->o.data=.func (docDef d.name d.params d.body d.scope pm cd doc)->s₁.heap.CodeRec cd d.name->mg d.name=some (.ref fa) ->
   s₁.heap.get? a=some { cls:=.type "list",data:=.seq vs.toArray }->IntsAre vs ns->ns.length<=n->s₁.gens=#[] ->
   codeAny (model l.prog w) callerA (.call (.ref fa) ⟨[.ref a],[]⟩) (λr s'=>r=.ok (.ret (.bool true))/\OldK s₁.heap s'.heap/\s'.os=s₁.os/\AllBare s'.gens) s₁) :
  WalkO q loose XP YP l.row.toRowW d [] (λf vs=>PySem.call f vs):=by
 intro w s₀ s₁ mg mb G Y fa o pm cd doc dV kV ho hd hcd hD hmg hg args vals as hpre hlay hrd hwl hlo
 obtain rfl:dV=.none:=Dflts.none hD hdf
 obtain rfl:kV=.none:=Dflts.noKw hD
 obtain⟨a,vs,ns,rfl,rfl,hobj,hints,hlen⟩:=J0 hn hpre hwl
 refine enter_call (codeAny_mono (call w s₀ s₁ mg mb fa o pm cd doc a vs ns G Y ho (fd_plain hd) hcd hmg hobj hints hlen hg) λr s' hq=>?_)
 obtain⟨rfl,h2,h3,h4⟩:=hq
 exact⟨.inl ⟨.bool true,.bool true,[],rfl,λ_=>rfl,.bool true,Q4 l _,λ_=>⟨List.Pairwise.nil,λ_ hm=>(nomatch hm)⟩⟩,h2,h3,h4⟩
section
variable {prog:Program}{w:World}{A:Around}{E:Value->Shared->Prop}{s:Shared}{K:Frag}
def ledger (h:Heap)(L d:Addr):List (Addr×Obj):=(List.range h.objs.size).filterMap λa=>if a=L∨a=d then none else (h.get? a).map λo=>(a,o)
end
end Att
namespace L2
open PySem PySem.Spec PyProof.Rows
theorem VR:∀ {vs:List Value} {ns:List Int},IntsAre vs ns->Vals (ns.map V.int) vs
 |_,_,.nil=>.nil
 |_,_,.cons n t h=>.cons ⟨t,rfl⟩ (VR h)
def Only (H:Hp):Prop:=∀b,H b=none∨∃o xs,H b=some (.frz o (.lst xs))
theorem JD {P:Program}{w:World}{K:PySem.W.Frag}{mg mb:Str->Option Value}{CX:CXT}{k:Nat}{fa a:Addr}{fd:FuncData}{x:Str}{sp:Sp}{s₁:Shared}{vs:List Value}{ns:List Int}
  (KX:K.In s₁.heap) (hns:s₁.heap.Ns mainGlobals mg) (hb:s₁.heap.Ns builtinsNs mb) (hbb:∀x:Str,x ≠ "__name__" -> mb x=bootBuiltins x) (hlim:s₁.heap.NoLimit) (hg:s₁.gens=#[])
  (ha:s₁.heap.get? a=some { cls:=.type "list",data:=.seq vs.toArray }) (hi:IntsAre vs ns) (hl:ns.length<=sizeLine) (hr:Room k callerA)
  (F:∀base:Heap,K.In base->base.Ns mainGlobals mg->FnOk P w K mg base CX k fa fd [x] sp) (hbind:∀(s:Shared) (u:Value),BindsTo s fd ⟨[u],[]⟩ [(x,u)])
  (hsp:∀H:Hp,Only H->SqL K H a (ns.map V.int)->sp [.ref a] H (λv _=>v=.bl true) λ_ _ _=>False)
  (hCX:∀H e s',CX [] H s₁ (λ_ _ _=>False) e s'->False) :
  codeAny (model P w) callerA (.call (.ref fa) ⟨[.ref a],[]⟩) (λr s'=>r=.ok (.ret (.bool true))/\OldK s₁.heap s'.heap/\s'.os=s₁.os/\AllBare s'.gens) s₁:=by
 have rv:=VR hi
 have lenV:=hi.length
 have core:∀H:Hp,Only H->SqL K H a (ns.map V.int)->HOk P w H s₁.heap->(∀b,H b≠none->b=a)->(H a≠none->K.lookup a=none) ->
   codeAny (model P w) callerA (.call (.ref fa) ⟨[.ref a],[]⟩) (λr s'=>r=.ok (.ret (.bool true))/\OldK s₁.heap s'.heap/\s'.os=s₁.os/\AllBare s'.gens) s₁:=by
  intro H hO hS hok hA hK
  have base_of:∀ {b:Addr} {o:Obj},s₁.heap.get? b=some o->H b=none->(hidT s₁.heap H).get? b=some o:=λe n=>G5 e n
  have noA:∀ {b:Addr} {o:Obj} {es:Array DictEntry} {ep:Nat},s₁.heap.get? b=some o->o.data=.dict es ep->H b=none:=fun {b o es ep} e d=>by
   cases q:H b with
   |none=>rfl
   |some u=>
    have e':b=a:=hA b (by rw[q];simp)
    subst e'
    rw[ha] at e;cases e
    have d':Data.seq vs.toArray _=Data.dict es ep:=d
    cases d'
  have nsK:∀ {b:Addr} {m:Str->Option Value},s₁.heap.Ns b m->(hidT s₁.heap H).Ns b m:=fun {b m} ⟨o,es,ep,e,d,r⟩=>⟨o,es,ep,base_of e (noA e d),d,r⟩
  have hKb:K.In (hidT s₁.heap H):=λb o e=>base_of (KX b o e) (by
   cases q:H b with
   |none=>rfl
   |some u=>
    have e':b=a:=hA b (by rw[q];simp)
    subst e'
    rw[hK (by rw[q];simp)] at e;cases e)
  have hM:Mod K mg (hidT s₁.heap H):=⟨hKb,nsK hns,⟨mb,nsK hb,hbb⟩,let ⟨mc,h1,h2⟩:=hlim;⟨mc,nsK h1,h2⟩⟩
  have e0:Env0 P w K mg (hidT s₁.heap H) callerA [] s₁ H:=⟨rfl,hM,λb o e=>UQ e,Nat.le_of_eq (Jf _ _),trivial,λb hb=>absurd (show b∈([]:List Addr) from hb) (by simp),hok,.of_eq hg⟩
  refine codeAny_mono ((F _ hKb (nsK hns)).run callerA [] s₁ H ⟨[.ref a],[]⟩ [.ref a] [.ref a] _ _ hr e0 (hbind s₁ (.ref a)) (.cons rfl .nil) (hsp H hO hS)) λr s' h=>?_
  cases r with
  |error e=>exact (hCX H e s' h).elim
  |ok fl=>
   cases fl with
   |next=>exact False.elim h
   |brk=>exact False.elim h
   |cont=>exact False.elim h
   |ret u=>
    obtain⟨v,H',os,bare,un,hok',r',q⟩:=h
    have q':v=.bl true:=q
    subst q'
    obtain rfl:u=Value.bool true:=r'
    refine⟨rfl,OldK.of_keep λb o e=>?_,os,bare⟩
    cases q:H b with
    |none=>exact un.keep b o e q (by intro z;exact absurd (show b∈([]:List Addr) from z) (by simp)) (by simp)
    |some u=>
     rcases hO b with z | ⟨ob,xs,z⟩
     ·rw[q] at z;cases z
     ·have z2:=un.frzs b ob _ z
      obtain⟨e1,_⟩:=hok b _ z
      obtain⟨e2,_⟩:=hok' b _ z2
      rw[e] at e1;cases e1
      exact e2
 cases hk:K.lookup a with
 |some o=>
  have e:=KX a o hk
  rw[ha] at e
  cases e
  refine core (λ_=>none) (λ_=>.inl rfl) (.inr ⟨_,vs.toArray,_,hk,rfl,rfl,rfl,by rw[List.size_toArray,lenV];exact hl,by simpa using rv⟩) (λb u z=>by have z':(none:Option HO)=some u:=z;cases z') (λb z=>absurd rfl z) λz=>absurd rfl z
 |none=>
  refine core (λb=>if b=a then some (.frz { cls:=.type "list",data:=.seq vs.toArray } (.lst (ns.map V.int))) else none) (λb=>?_) (.inl (.inr ⟨{ cls:=.type "list",data:=.seq vs.toArray },if_pos rfl⟩)) (λb u z=>?_) (λb z=>?_) λ_=>hk
  ·by_cases hb:b=a
   ·exact .inr ⟨_,_,if_pos hb⟩
   ·exact .inl (if_neg hb)
  ·by_cases hb:b=a
   ·have z':=(if_pos hb).symm.trans z
    cases z'
    subst hb
    exact⟨ha,by rw[List.length_map];exact hl,vs,_,rv,ha⟩
   ·have z':=(if_neg hb).symm.trans z
    cases z'
  ·by_cases hb:b=a
   ·exact hb
   ·exact absurd (if_neg hb) z
abbrev KOf {K:PySem.W.Frag}{h:Heap}(_:K.In h):PySem.W.Frag:=K
theorem walk_of {l:PySem.W.OpenLaw}{n k:Nat}{q:Program}{loose:List Str}{XP:(Str->Option Value)->Heap->Prop}{YP:World->Heap->Prop}{d:DefRec}{K:Params->PySem.W.Frag}{CX:World->CXT}{sp:World->Sp}{x:Str}
  (hn:l.most=some n) (hn2:n<=sizeLine) (hdf:d.params.defaults=[]) (hr:Room k callerA)
  (hY:∀(w:World) (h:Heap),YP w h->(K w.params).In h)
  (F:∀(w:World) (mg:Str->Option Value) (fa:Addr) (h:Heap),(K w.params).In h->h.Ns mainGlobals mg->mg d.name=some (.ref fa) ->
   ∃fd:FuncData,(∀(s:Shared) (u:Value),BindsTo s fd ⟨[u],[]⟩ [(x,u)]) /\
    ∀base:Heap,(K w.params).In base->base.Ns mainGlobals mg->FnOk l.prog w (K w.params) mg base (CX w) k fa fd [x] (sp w))
  (hsp:∀(w:World) (H:Hp) (a:Addr) (ns:List Int),ns.length<=n->Only H->SqL (K w.params) H a (ns.map V.int)->sp w [.ref a] H (λv _=>v=.bl true) λ_ _ _=>False)
  (hCX:∀(w:World) (H:Hp) (s:Shared) (e:Value) (s':Shared),CX w [] H s (λ_ _ _=>False) e s'->False) :
  PySem.W.WalkO q loose XP YP l.row.toRowW d [] (λf vs=>PySem.call f vs):=by
 refine Att.attach_call hn hdf λw s₀ s₁ mg mb fa o pm cd doc a vs ns G Y ho hd hcd hmg hobj hints hlen hg=>?_
 have KX:=hY w _ Y
 obtain⟨fd,hb,hF⟩:=F w mg fa _ KX G.T.g hmg
 exact JD KX G.T.g G.T.b G.T.builtins G.T.nolimit hg hobj hints (Nat.le_trans hlen hn2) hr hF hb (λH hO hS=>hsp w H a ns hlen hO hS) λH e s'=>hCX w H s₁ e s'
end L2
/- THE LAST THEOREM (shape;LID,My.* are yours):
   My.Adr: a structure of the addresses that your layer names (classes,functions);My.Txt K t: a structure (Prop) of the equations over K;
   My.txt_mk:{K} {implicit addresses ..} (e1:nsIn K mainGlobals "law" = some (some (.ref f))) (e2:K.lookup f=some ⟨oc,od,.func (fnOf "law" "law" params body scope dV kV doc pm an cdv ct),sl⟩) (e3:codeIn K cdv "law" = true) .. : ∃t,My.Txt K t
set_option maxRecDepth 100000 in
set_option maxHeartbeats 0 in
theorem PySem.Challenge.cw_LID_holds : PySem.Challenge.rw_LID.Holds := by
 w_on;o_law;k_head;(case hw=>w_witness2)
 k_fill
 refine L2.walk_of (l:=PySem.Challenge.rw_LID) (n:=63) (k:=40) (x := "script") (CX:=λw=>..) (sp:=λ_=>My.sp_law) rfl (by decide) rfl ⟨rfl,by decide,by decide⟩ (λw h Y=>PySem.W.kIn_of Y) ?F ?S ?C
 case F=>
  intro w mg fa h KX G hmg
  have T:∃t,My.Txt (L2.KOf KX) t:=by
   dsimp only[L2.KOf]                          -- K must stand as «<heap const> w.params» for k_is
   refine' My.txt_mk ?e1 ?e2 ?e3 ..
   (case e1=>PySem.W.k_is)                    -- in the order: a name->its address->its object->its parts
   (case e2=>PySem.W.k_is)
   ..
  obtain⟨t,T⟩:=T
  have e0:=hmg.symm.trans (PySem.W.mg_of KX G T.law)
  cases e0                                       -- fa is the law's own address
  exact⟨_,λs u=>.of_eq rfl,λbase kb nb=>My.law_fn T kb nb⟩     -- if «.of_eq rfl» comes too early: refine' ⟨_,?b,λbase kb nb=>My.law_fn T kb nb⟩;exact λs u=>.of_eq rfl
 case S=>exact λw H a ns hl hO hS=>..
 case C=>exact ..
(the tactic k_is has no namespace: write k_is) -/
namespace L2
open PySem PySem.Spec PyProof.Rows
def yd (s:Stmt)(j:Nat):Stmt:=match s with
 |.ClassDef _ _ _ body _ _ _ _ _ _ _=>body.getD j (.Pass ⟨0,0,0,0⟩)
 |_=>.Pass ⟨0,0,0,0⟩
def zn (s:Stmt):Arguments:=match s with
 |.FunctionDef _ a _ _ _ _ _ _ _ _=>a
 |_=>{ posonlyargs:=[],args:=[],vararg:=none,kwonlyargs:=[],kw_defaults:=[],kwarg:=none,defaults:=[] }
def zl (s:Stmt):List Stmt:=match s with
 |.FunctionDef _ _ b _ _ _ _ _ _ _=>b
 |_=>[]
def zc (s:Stmt):Scope:=match s with
 |.FunctionDef _ _ _ _ _ _ sc _ _ _=>sc
 |_=>{ kind:=.function,names:=[],isGenerator:=false,isCoroutine:=false }
abbrev CX0:CXT:=λ_ _ _ _ _ _=>False
abbrev E0:XK:=λ_ _ _=>False
theorem pass0 {X:Cx}:Passes CX0 X E0:=λ_ _ _ _ _ _ _ h=>h.elim
structure Fun (K:PySem.W.Frag)(x qual:Str)(st:Stmt)(f:Addr)(fd:FuncData):Prop where
 ex:∃(oc:Value) (od:Option Addr) (kV doc pm:Value) (an:Option Addr) (cdv ct:Value) (osl:Array (Option Value)),
  fd=PySem.W.fnOf x qual (zn st) (zl st) (zc st) .none kV doc pm an cdv ct/\K.lookup f=some ⟨oc,od,.func fd,osl⟩/\PySem.W.codeIn K cdv qual=true
 kp:PySem.W.keepIn K (.ref f)=true
section
variable {P:Program}{w:World}{K:PySem.W.Frag}{mg:Str->Option Value}{base:Heap}
theorem Fun.ok {x qual:Str}{st:Stmt}{f:Addr}{fd:FuncData}{N ps:List Str}{k:Nat}{sp:Sp}(F:Fun K x qual st f fd)(S:FnScope N ps (zc st))(len:∀vs H Q E,sp vs H Q E->vs.length=ps.length)
  (hbody:∀(cdv:Value) (A:Around) (outer:List Env) (s:Shared) (H:Hp) (vs:List V) (Q:VK) (E:XK),Room k (A.deeper (envOfC qual (zc st) s.heap.objs.size f cdv))->sp vs H Q E ->
   ∃t,PSs (cxOf CX0 P w K mg base N qual (zc st) f cdv A outer s H E).nox (zl st) t/\t { nx:=λ_ H'=>Q .non H',rt:=Q } (start N vs) H):FnOk P w K mg base CX0 (k+1) f fd ps sp:=by
 obtain⟨oc,od,kV,doc,pm,an,cdv,ct,osl,rfl,lk,hcd⟩:=F.ex
 refine ZY lk hcd S len λA outer s H vs Q E hr hsp=>?_
 obtain⟨t,h,q⟩:=hbody cdv A outer s H vs Q E hr hsp
 exact⟨t,h.nox,q⟩
theorem Fun.binds {x qual:Str}{st:Stmt}{f:Addr}{fd:FuncData}{ps:List Str}(F:Fun K x qual st f fd)
  (h:∀(kV doc pm:Value) (an:Option Addr) (cdv ct:Value) (us:List Value),us.length=ps.length->bindArgs (PySem.W.fnOf x qual (zn st) (zl st) (zc st) .none kV doc pm an cdv ct) ⟨us,[]⟩=pure (ps.zip us)):Binds K fd ps []:=by
 obtain⟨oc,od,kV,doc,pm,an,cdv,ct,osl,rfl,lk,hcd⟩:=F.ex
 exact .all (h kV doc pm an cdv ct)
theorem zt {x qual:Str}{st:Stmt}{f:Addr}{oc:Value}{od an:Option Addr}{osl:Array (Option Value)}{kV doc pm cdv ct:Value}(l:K.lookup f=some ⟨oc,od,.func (PySem.W.fnOf x qual (zn st) (zl st) (zc st) .none kV doc pm an cdv ct),osl⟩)
  (c:PySem.W.codeIn K cdv qual=true) (k:PySem.W.keepIn K (.ref f)=true):Fun K x qual st f (PySem.W.fnOf x qual (zn st) (zl st) (zc st) .none kV doc pm an cdv ct):=⟨⟨oc,od,kV,doc,pm,an,cdv,ct,osl,rfl,l,c⟩,k⟩
end
section
variable {X:Cx}
theorem pv (i:Nat){x:Str}{pos:Pos}(hN:X.N[i]?=some x:=by rfl)(hv:Vis X.env.scope x:=by first | exact Or.inl rfl | exact Or.inr (Or.inl rfl) | exact Or.inr (Or.inr rfl))(hd:(x==("__debug__" : Str))=false:=by decide)
  (hcd:(x==("__classdict__" : Str))=false:=by decide):PE X (.Name x pos) (tVar i):=GD hN hv hd hcd
end
theorem iteF {A B:Prop}(h:B):if false=true then A else B:=by
 rw[if_neg Bool.false_ne_true]
 exact h
theorem iteT {A B:Prop}(h:A):if true=true then A else B:=by
 rw[if_pos rfl]
 exact h
def Same (H H':Hp):Prop:=∀b o,H b=some o->H' b=some o
theorem Same.refl (H:Hp):Same H H:=λ_ _ h=>h
theorem Same.trans {H H1 H2:Hp}(a:Same H H1)(b:Same H1 H2):Same H H2:=λc o h=>b c o (a c o h)
theorem Same.free {H H':Hp}(e:Same H H'){l:Addr}(h:H' l=Option.none):H l=Option.none:=by
 cases q:H l with
 |none=>rfl
 |some o=>
  rw[e l o q] at h
  cases h
theorem Same.seq {K:PySem.W.Frag}{H H':Hp}{a:Addr}{xs:List V}(e:Same H H')(h:SqL K H a xs):SqL K H' a xs:=by
 rcases h with (h | ⟨o,h⟩) | h
 ·exact .inl (.inl (e _ _ h))
 ·exact .inl (.inr ⟨o,e _ _ h⟩)
 ·exact .inr h
end L2
namespace L3
open PySem PySem.Spec L2
open PyProof.Rows hiding St
section
variable {X:Cx}{pins:List (Addr×Obj)}{σ:St}{H H':Hp}{s:Shared}{h':Heap}
theorem qp {ch:List Addr}{t':Nat}(I:Inv X pins σ H s)(k:∀b o,b∉ch->s.heap.get? b=some o->h'.get? b=some o)(hf:∀b∈ch,FpOk X pins H b):Inv X pins σ H { s with heap:=h',toks:=t' }:=by
 have nit:∀b u,H b=some u->b∉ch:=λb u e z=>by rw[(hf b z).1] at e;cases e
 refine I.step (g':=s.gens) (d':=s.drawn) (ch:=ch) (λb hb=>?_) (λb o _ _ hc e _=>k b o hc e) (λb o _ _ hc e _=>⟨o.slots,k b o hc e⟩) (λ_ _ _ _ n=>n)
  (λb o hc e=>⟨o,k b o hc e⟩) (λ_ _ e=>e) (λ_ _ _ e=>e) (λb ps e=>⟨#[],by rw[e];simp⟩) (λm hm=>?_) (λb u e=>?_) I.bare
 ·obtain⟨_,f1,_,f3,f4,f5⟩:=hf b hb
  exact⟨f3,f1,f4,f5⟩
 ·obtain⟨o,es,ep,ho,r⟩:=hm
  exact⟨o,es,ep,k _ o (λz=>(hf _ z).2.1 rfl) ho,r⟩
 ·refine (I.hok b u e).stay (λc v hc q=>k c v ?_ q) (λ_ q=>q) λ_ _ q=>q
  rcases hc with z | z
  ·rw[z];exact nit b u e
  ·exact nit c _ z
theorem stepN {ch:List Addr}{t':Nat}{T:Addr}{o:HO}(I:Inv X pins σ H s)(k:∀b o,b∉ch->s.heap.get? b=some o->h'.get? b=some o)(hf:∀b∈ch,FpOk X pins H b)(hT:s.heap.objs.size<=T)
  (new:ObjOk X.prog X.w (upd H T o) h' T o):Inv X pins σ (upd H T o) { s with heap:=h',toks:=t' }:=by
 have nit:∀b u,H b=some u->b∉ch:=λb u e z=>by rw[(hf b z).1] at e;cases e
 have nT:H T=none:=I.hok.fresh hT
 refine I.step (g':=s.gens) (d':=s.drawn) (ch:=ch) (λb hb=>?_) (λb o _ _ hc e _=>k b o hc e) (λb o _ _ hc e _=>⟨o.slots,k b o hc e⟩) (λb u _ e n=>?_)
  (λb o hc e=>⟨o,k b o hc e⟩) (λb xs e=>by rw[zk (z8 e nT)];exact e) (λb ob u e=>by rw[zk (z8 e nT)];exact e) (λb ps e=>⟨#[],by rw[zk (z8 e nT),e];simp⟩) (λm hm=>?_) (λb u e=>?_) I.bare
 ·obtain⟨_,f1,_,f3,f4,f5⟩:=hf b hb
  exact⟨f3,f1,f4,f5⟩
 ·rw[zk (Nat.ne_of_lt (Nat.lt_of_lt_of_le (Heap.lt_size e) hT))];exact n
 ·obtain⟨o,es,ep,ho,r⟩:=hm
  exact⟨o,es,ep,k _ o (λz=>(hf _ z).2.1 rfl) ho,r⟩
 ·by_cases hb:b=T
  ·subst hb;rw[zq] at e;cases e;exact new
  ·rw[zk hb] at e
   refine (I.hok b u e).stay (λc v hc q=>k c v ?_ q) (λc q=>by rw[zk (z8 q nT)];exact q) λc xs q=>by rw[zk (z8 q nT)];exact q
   rcases hc with z | z
   ·rw[z];exact nit b u e
   ·exact nit c _ z
end
def Ite (K:PySem.W.Frag)(a:Addr):It :=
 ⟨λi H=>∃xs x,SqL K H a xs/\xs[i]?=some x,λi H x H'=>∃T v,H T=none/\x=.ref T/\H'=upd H T (.tup [.int i,v])/\∀xs,SqL K H a xs->xs[i]?=some v,λi H=>∃xs,SqL K H a xs/\xs.length<=i⟩
theorem UM {P:Program}{w:World}{K:PySem.W.Frag}{elts:List Expr}{k:Nat}{pos:Pos}(a e it:Addr)(hne:e≠it) :
  Turn P w K (.Tuple elts k pos) (Ite K a) [e,it] e (λi h=>(∃old,IsEnum h e it i old)/\h.IsListIter it a i) where
 mem:=by simp
 obj:=λi h st b hb=>by
  obtain⟨⟨old,he⟩,o,e1,c,d⟩:=st
  rcases List.mem_cons.mp hb with rfl | hb
  ·exact⟨_,he,λv z=>by cases z⟩
  ·rw[List.mem_singleton.mp hb]
   exact⟨o,e1,λv z=>by rw[d] at z;cases z⟩
 keep:=λi h h' st k=>⟨let ⟨old,he⟩:=st.1;⟨old,k e (by simp) _ he⟩,st.2.at λo e=>k it (by simp) o e⟩
 item:=by
  intro X hP hw hK hc i pins s σ H E I hf st hg
  subst hP hw hK
  obtain⟨⟨old,he⟩,hit⟩:=st
  obtain⟨xs,x,hq,hx⟩:=hg
  obtain⟨its,rv,p,hz⟩:=I.list hq
  obtain⟨u,hu,ru⟩:=rv.get hx
  refine wpAny_pyNext_enum_item he hit p.isList (x:=u) (by simpa using hu) hne λh' ho hit' hT hsz hk=>⟨_,rfl,?_⟩
  refine wpAny_letOwnedTupleGo_enum ho λh'' he'' hs''=>?_
  have nT:H s.heap.objs.size=none:=I.hok.fresh (Nat.le_refl _)
  have hTe:s.heap.objs.size≠e:=Nat.ne_of_gt (Heap.lt_size he)
  refine⟨.ref s.heap.objs.size,upd H s.heap.objs.size (.tup [.int i,x]),stepN (s:=s) (t':=s.toks+1) (ch:=[e,it]) I (λb o hb q=>?_) hf (Nat.le_refl _) ?_,rfl,⟨_,x,nT,rfl,rfl,λys hy=>by rw[I.list_inj hy hq];exact hx⟩,⟨⟨_,by simpa using he''⟩,hit'.extBut hs''.extBut (Ne.symm hne)⟩,λb hb=>?_⟩
  ·have h1:b≠e:=λz=>hb (by simp[z])
   have h2:b≠it:=λz=>hb (by simp[z])
   exact hs''.extBut b o h1 (hk b o h1 h2 q)
  ·exact⟨(show 2<=sizeLine by decide),[.int i s.toks,u],.cons ⟨_,rfl⟩ (.cons ru .nil),⟨_,hs''.extBut _ _ hTe hT,rfl,_,rfl⟩⟩
  ·have hb':b≠s.heap.objs.size:=by
    rcases List.mem_cons.mp hb with rfl | hb
    ·exact Ne.symm hTe
    ·rw[List.mem_singleton.mp hb]
     obtain⟨o,e1,_⟩:=hit
     exact Nat.ne_of_lt (Heap.lt_size e1)
   rw[zk hb']
   exact (hf b hb).1
 done:=by
  intro X hP hw hK hc i pins s σ H E I hf st hg
  subst hP hw hK
  obtain⟨⟨old,he⟩,hit⟩:=st
  obtain⟨xs,hq,hx⟩:=hg
  obtain⟨its,rv,p,hz⟩:=I.list hq
  have hl:=rv.length
  refine wpAny_pyNext_enum_end (I.ok.hd hc) he hit p.isList (by simp;omega) λh' eb=>⟨rfl,qp (t':=s.toks) (ch:=[e,it]) I (λb o hb q=>eb b o (λz=>hb (by simp[z])) q) hf⟩
 self:=λ_ _ _ _ _ st h=>let ⟨_,he⟩:=st.1;wpAny_pyIter_enum he h
section
variable {X:Cx}{elts:List Expr}{tk:Nat}{tpos:Pos}
def iEnum (K:PySem.W.Frag)(ta:TA):TI:=λσ H R=>ta σ H λvs H1=>∃a,vs=[.ref a]/\(∃xs,SqL K H1 a xs)/\R (Ite K a) H1
theorem UN {a:Expr}{ta:TA}{p pos:Pos}(hg:Gl X "enumerate") (hm:X.mg "enumerate" = none) (ha:PA X [a] ta) (hs:starEach [a] X.env=[(false,eval a X.env)]:=by rfl) :
  PI X (.Tuple elts tk tpos) (.Call (.Name "enumerate" p) [a] [] pos) (iEnum X.K ta):=by
 intro pins s σ H R I h
 refine Call_ (wK I hg hm (u:=.type "enumerate") (by decide +kernel) (PyProof.Rows.callWith_type1 (thn (ha pos pins s σ H _ I h) λus s1 ⟨vs,H1,I1,r1,q1⟩=>?_) hs rfl))
 obtain⟨a,e,⟨xs,hq⟩,q⟩:=q1
 subst e
 obtain⟨u,rfl,ru⟩:=vals1 r1
 cases ru
 obtain⟨its,rv,pl,hz⟩:=I1.list hq
 refine call_enumerate_list pl.isList λh' he hit hsz hk=>wpAny_pyIter_enum he ?_
 have I2:Inv X pins σ H1 { s1 with heap:=h' }:=I1.kept (t':=s1.toks) hk
 refine⟨s1.heap.objs.size+1,[s1.heap.objs.size+1,s1.heap.objs.size],_,_,H1,rfl,I2,UM a _ _ (show ((s1.heap.objs.size+1:Nat)≠s1.heap.objs.size) by omega),⟨⟨_,he⟩,hit⟩,λb hb=>?_,q⟩
 have hb':s1.heap.objs.size<=b:=by
  rcases List.mem_cons.mp hb with rfl | hb
  ·exact Nat.le_succ _
  ·rw[List.mem_singleton.mp hb];exact Nat.le_refl _
 exact I1.fpOk hb' (I1.hok.fresh hb')
end
theorem Zq {prog:Program}{w:World}{A:Around}{R:Result->Shared->Prop}{s:Shared}{elt target iter:Expr}{ifs:List Expr}{scope:Scope}{pos:Pos}{it acc:Value}{env:Env}(I:Nat->Shared->Prop)
  (turn:∀n s,I n s->wpAny (model prog w) A (pyNext it) (λr s₁=>match r with
   |none=>R (.ok .next) s₁
   |some v=>wpAny (model prog w) A (letOwnedTupleGo target it v) (λ_ s₁'=>wpAny (model prog w) A (assign target env v) (λ_ s₂=>
     wpAny (model prog w) A (forIn ifs true λc r=>if r=true then do let ok <-isTrue c env (eval c env);pure (ForInStep.yield ok) else pure (ForInStep.yield r)) (λok s₃=>
      if ok=true then wpAny (model prog w) A (eval elt env) (λx s₄=>
       wpAny (model prog w) A (call (.builtin "list.append") [acc,x]) (λ_ s₅=>∃m,m < n/\I m s₅) (λ_ _=>False) s₄) (λ_ _=>False) s₃
      else ∃m,m < n/\I m s₃) (λ_ _=>False) s₂) (λ_ _=>False) s₁') (λ_ _=>False) s₁) (λ_ _=>False) s)
  (n:Nat) (h:I n s):codeAny (model prog w) A (.compLoop (.ListComp elt [⟨target,iter,ifs,0⟩] scope pos) 0 it acc env) R s:=by
 refine codeAny_loop rfl I (λn s hI=>?_) n h
 show wpAny _ A ((compTurn (.ListComp elt [⟨target,iter,ifs,0⟩] scope pos) 0 it acc env).onRaise (λx=>do noteFrame x env;theTreesLotGoes x)) _ _ s
 refine wpAny_noted ?_
 rw[compTurn_list]
 refine wpAny_bind (wpAny_standAt (wpAny_bind (wpAny_mono (turn n s hI) (λr s₁ h₁=>?_) λ_ _ h'=>h'.elim)))
 cases r with
 |none=>exact wpAny_pure h₁
 |some v=>
  refine wpAny_bind (wpAny_mono h₁ (λ_ s₁' h₁'=>?_) λ_ _ h'=>h'.elim)
  refine wpAny_bind (wpAny_mono h₁' (λ_ s₂ h₂=>wpAny_bind (wpAny_mono h₂ (λok s₃ h₃=>?_) λ_ _ h'=>h'.elim)) λ_ _ h'=>h'.elim)
  cases ok with
  |false=>exact wpAny_pure ⟨rfl,h₃⟩
  |true=>
   exact wpAny_bind (wpAny_bind (wpAny_mono h₃ (λx s₄ h₄=>wpAny_bind (wpAny_mono h₄ (λ_ s₅ h₅=>wpAny_pure (wpAny_pure ⟨rfl,h₅⟩)) λ_ _ h'=>h'.elim)) λ_ _ h'=>h'.elim))
def clGo (cells:List (Str×Addr)):List (Str×NameKind)->List (Str×Addr)->List (Str×Addr)
 | [],cs=>cs
 | (n,k)::r,cs=>clGo cells r (if k==.free then (n,(cells.lookup n).getD 0)::cs else cs)
theorem ZJ {scope:Scope}{env:Env}(h:∀x∈scope.names,x.2=.free->∃c,env.cells.lookup x.1=some c):closureFor scope env=pure (clGo env.cells scope.names []):=by
 simp only[closureFor]
 have go:∀(l:List (Str×NameKind)) (cs:List (Str×Addr)),(∀x∈l,x.2=.free->∃c,env.cells.lookup x.1=some c) ->
   (forIn l cs λ(x:Str×NameKind) (r:List (Str×Addr))=>(if (x.2==NameKind.free)=true then do let a <-cellOf env x.1;pure (ForInStep.yield ((x.1,a)::r)) else pure (ForInStep.yield r):Sem (ForInStep (List (Str×Addr)))))=pure (clGo env.cells l cs):=by
  intro l
  induction l with
  |nil=>intro cs _;rfl
  |cons x r ih=>
   intro cs hx
   obtain⟨n,k⟩:=x
   rw[List.forIn_cons]
   by_cases hk:(k==NameKind.free)=true
   ·obtain⟨c,e⟩:=hx (n,k) List.mem_cons_self (by simpa using hk)
    have e':env.cells.lookup n=some c:=e
    have ec:cellOf env n=pure c:=by unfold cellOf;rw[e']
    simp only[hk,if_true,ec,pure_bind]
    rw[ih _ λy hy=>hx y (List.mem_cons_of_mem _ hy)]
    simp only[clGo,hk,if_true,e',Option.getD_some]
   ·simp only[hk,Bool.false_eq_true,if_false,pure_bind]
    rw[ih _ λy hy=>hx y (List.mem_cons_of_mem _ hy)]
    simp only[clGo,hk,Bool.false_eq_true,if_false]
 have:=go scope.names [] h
 simpa using this
theorem qr {cells:List (Str×Addr)}:∀(l:List (Str×NameKind)) (cs:List (Str×Addr)) (x:Str) (c:Addr),(∀y∈l,y.2=.free->∃c,cells.lookup y.1=some c)->(∀x c,cs.lookup x=some c->cells.lookup x=some c) ->
  (clGo cells l cs).lookup x=some c->cells.lookup x=some c
 | [],cs,x,c,_,h,e=>h x c e
 | (n,k)::r,cs,x,c,hl,h,e=>by
  refine qr r _ x c (λy hy=>hl y (List.mem_cons_of_mem _ hy)) (λy d=>?_) e
  by_cases hk:(k==NameKind.free)=true
  ·rw[if_pos hk]
   obtain⟨c',e'⟩:=hl (n,k) List.mem_cons_self (by simpa using hk)
   have e':cells.lookup n=some c':=e'
   intro q
   by_cases hy:y=n
   ·subst hy
    rw[List.lookup_cons_self] at q
    rw[<-q,e'];rfl
   ·rw[List.lookup_cons,beq_eq_false_iff_ne.mpr hy] at q
    exact h y d q
  ·rw[if_neg hk];exact h y d
theorem W5 {cells:List (Str×Addr)}:∀(l:List (Str×NameKind)) (cs:List (Str×Addr)) (x:Str),(cs.lookup x).isSome=true->((clGo cells l cs).lookup x).isSome=true
 | [],cs,x,h=>h
 | (n,k)::r,cs,x,h=>by
  refine W5 r _ x ?_
  by_cases hk:(k==NameKind.free)=true
  ·rw[if_pos hk]
   by_cases hy:x=n
   ·subst hy;rw[List.lookup_cons_self];rfl
   ·rw[List.lookup_cons,beq_eq_false_iff_ne.mpr hy];exact h
  ·rw[if_neg hk];exact h
theorem jA {cells:List (Str×Addr)}:∀(l:List (Str×NameKind)) (cs:List (Str×Addr)) (x:Str),(x,NameKind.free)∈l->((clGo cells l cs).lookup x).isSome=true
 | [],cs,x,h=>by simp at h
 | (n,k)::r,cs,x,h=>by
  rcases List.mem_cons.mp h with e | h
  ·cases e
   exact W5 r _ _ (by rw[if_pos (show (NameKind.free==NameKind.free)=true from rfl),List.lookup_cons_self];rfl)
  ·exact jA r _ x h
def cxc (X:Cx)(scope:Scope)(C:Addr)(N:List Str)(s₀:Shared)(H₀:Hp)(fp:List Addr)(pn:List (Addr×Obj)):Cx :=
 { X with N:=N,s₀:=s₀,H₀:=H₀,env:=compEnvC scope (clGo X.env.cells scope.names []) C X.env,outer:=X.stack,stack:=X.stack,ex:=fp,fn:=λ_=>false,pn:=pn,xe:=λ_ _=>False }
structure CompScope (X:Cx)(scope:Scope)(own:List Str)(cap:List (Str×Nat)):Prop where
 kind:scope.kind=.function
 nocell:∀y∈scope.names,y.2≠.cell
 names:∀y∈scope.names,y.2=.local->scope.names.lookup y.1=some .local
 frees:∀y∈scope.names,y.2=.free->X.env.kindOf y.1=some .cell∨X.env.kindOf y.1=some .free
 caps:∀p∈cap,scope.names.lookup p.1=some .free/\X.N[p.2]?=some p.1
theorem ub {env:Env}:∀ {names:List (Str×NameKind)} {x:Str} {k':NameKind},
  (names.map λ(n,k)=>if (k==NameKind.free&&env.scope.kind==.function&&env.kindOf n==some .cell) then (n,NameKind.cell) else (n,k)).lookup x=some k'->(k'=.cell∨k'=.free)->(∀y∈names,y.2≠.cell)->(x,NameKind.free)∈names
 | [],x,k',h,_,_=>by simp at h
 | (n,k)::r,x,k',h,hk,hc=>by
  have ih:=@ub env r x k'
  rw[List.map_cons] at h
  by_cases hq:(k==NameKind.free&&env.scope.kind==.function&&env.kindOf n==some .cell)=true
  ·simp only[hq,if_true] at h
   have kf:k=NameKind.free:=by
    simp only[Bool.and_eq_true,beq_iff_eq] at hq
    exact hq.1.1
   by_cases hx:x=n
   ·subst hx;subst kf;exact List.mem_cons_self
   ·rw[List.lookup_cons,beq_eq_false_iff_ne.mpr hx] at h
    exact List.mem_cons_of_mem _ (ih h hk λy hy=>hc y (List.mem_cons_of_mem _ hy))
  ·simp only[hq,if_false] at h
   by_cases hx:x=n
   ·subst hx
    have h':some k=some k':=by
     have:=h
     simp at this
     rw[this]
    cases h'
    rcases hk with z | z
    ·exact absurd z (hc (x,k) List.mem_cons_self)
    ·subst z;exact List.mem_cons_self
   ·have h2:List.lookup x (List.map (λ(n,k)=>if (k==NameKind.free&&env.scope.kind==.function&&env.kindOf n==some .cell) then (n,NameKind.cell) else (n,k)) r)=some k':=by
     simpa[List.lookup_cons,beq_eq_false_iff_ne.mpr hx] using h
    exact List.mem_cons_of_mem _ (ih h2 hk λy hy=>hc y (List.mem_cons_of_mem _ hy))
theorem uP {env:Env}:∀ {names:List (Str×NameKind)} {x:Str},names.lookup x=some .free ->
  (names.map λ(n,k)=>if (k==NameKind.free&&env.scope.kind==.function&&env.kindOf n==some .cell) then (n,NameKind.cell) else (n,k)).lookup x=some .cell ∨
  (names.map λ(n,k)=>if (k==NameKind.free&&env.scope.kind==.function&&env.kindOf n==some .cell) then (n,NameKind.cell) else (n,k)).lookup x=some .free
 | [],x,h=>by simp at h
 | (n,k)::r,x,h=>by
  have ih:=@uP env r x
  rw[List.map_cons]
  by_cases hx:x=n
  ·subst hx
   rw[List.lookup_cons_self] at h
   cases h
   by_cases hq:(NameKind.free==NameKind.free&&env.scope.kind==.function&&env.kindOf x==some .cell)=true
   ·left;simp only[hq,if_true,List.lookup_cons_self]
   ·right;simp only[hq,if_false];simp
  ·rw[List.lookup_cons,beq_eq_false_iff_ne.mpr hx] at h
   by_cases hq:(k==NameKind.free&&env.scope.kind==.function&&env.kindOf n==some .cell)=true
   ·simp only[hq,if_true,List.lookup_cons,beq_eq_false_iff_ne.mpr hx];exact ih h
   ·have e:(if (k==NameKind.free&&env.scope.kind==.function&&env.kindOf n==some .cell)=true then (n,NameKind.cell) else (n,k))=(n,k):=if_neg hq
    simp only[e,List.lookup_cons,beq_eq_false_iff_ne.mpr hx];exact ih h
theorem jD {names:List (Str×NameKind)}{x:Str}{k:NameKind}(h:names.lookup x=some k):(x,k)∈names:=PySem.mem_of_lookup h
theorem ZC {X:Cx}{scope:Scope}{own:List Str}{cap:List (Str×Nat)}(S:CompScope X scope own cap){pins:List (Addr×Obj)}{σ:St}{H:Hp}{s:Shared}{C:Addr}{fp:List Addr}(I:Inv X pins σ H s)(hC:s.heap.objs.size<=C)(hf:∀b∈fp,FpOk X pins H b)(hlt:∀b∈fp,b < s.heap.objs.size){N:List Str}{pn:List (Addr×Obj)} :
  (cxc X scope C N s H fp pn).Ok:=by
 have hfr:∀y∈scope.names,y.2=.free->∃c,X.env.cells.lookup y.1=some c:=λy hy hk=>I.ok.has y.1 (S.frees y hy hk)
 have sub:∀x c,(clGo X.env.cells scope.names []).lookup x=some c->X.env.cells.lookup x=some c:=λx c=>qr _ _ x c hfr (λx c e=>by simp at e)
 refine⟨I.ok.mod,S.kind,I.ok.glob,I.ok.blt,hC,λx y c h1 h2=>I.ok.inj x y c (sub _ _ h1) (sub _ _ h2),λx hx=>?_,λx c h=>(by cases h),I.ok.hd,I.ok.frames,.inl rfl,λb hb=>⟨Nat.ne_of_lt (Nat.lt_of_lt_of_le (hlt b hb) hC),λx c e=>(hf b hb).2.2.2.2.1 x c (sub x c e)⟩,I.bs,Nat.le_trans I.ok.bsz I.sz,λb o e hb=>?_,λb hb z=>?_,I.stack,I.stkFree⟩
 ·have hx':(x,NameKind.free)∈scope.names:=by
   rcases hx with z | z
   ·exact ub (env:=X.env) z (.inl rfl) S.nocell
   ·exact ub (env:=X.env) z (.inr rfl) S.nocell
  exact Option.isSome_iff_exists.mp (jA scope.names [] x hx')
 ·rcases (hf b hb).2.2.2.1 with z | z
  ·exact I.ok.noex b o e z
  ·exact absurd (Nat.lt_of_lt_of_le (Heap.lt_size (I.ok.bs b o e).1) z) (Nat.lt_irrefl _)
 ·rcases List.mem_cons.mp (I.stkSub b z) with q | q
  ·exact (hf b hb).2.1 q
  ·exact (hf b hb).2.2.1 q
def tComp (wi:TI)(own:List Str)(cap:List (Str×Nat))(g:TG)(tc:TT)(te:TE):TE:=λσ H Q=>wi σ H λJ H1=>∃W:Nat->Nat->List V->Hp->Prop,(∃m,W 0 m [] H1)/\∀i m ys H,W i m ys H ->
 ys.length<=sizeLine/\((J.stop i H/\∀D,H D=none->Q (.ref D) (upd H D (.lst ys)))∨(J.go i H/\∃N:List V->Hp->Prop,(∀ys' H',N ys' H'->∃m',m' < m/\W (i+1) m' ys' H') /\
  ∀x H',J.yld i H x H'->∀σ1:St,σ1.length=own.length->g x (σ1++cap.map λp=>(σ[p.2]?).getD none) H' λσ2 H2=>(∃σ1':St,σ1'.length=own.length/\σ2=σ1'++cap.map λp=>(σ[p.2]?).getD none) /\
   tc σ2 H2 λb H3=>if b=true then te σ2 H3 λy H4=>N (ys++[y]) H4 else N ys H3))
def PIfs (X:Cx)(ifs:List Expr)(tc:TT):Prop :=
 ∀(pins:List (Addr×Obj)) (s:Shared) (σ:St) (H:Hp) (Q:Bool->Hp->Prop),Inv X pins σ H s->tc σ H Q ->
  wpAny (model X.prog X.w) X.A (forIn ifs true λc r=>if r=true then do let ok <-isTrue c X.env (eval c X.env);pure (ForInStep.yield ok) else pure (ForInStep.yield r)) (TP X pins σ Q) X.xe s
def tTrue:TT:=λ_ H Q=>Q true H
theorem Ji {X:Cx}:PIfs X [] tTrue:=λpins s σ H Q I h=>wpAny_tests_nil ⟨H,I,h⟩
theorem Ga {X:Cx}{c:Expr}{tc:TT}(h:PT X c tc):PIfs X [c] tc:=λpins s σ H Q I hq=>wpAny_tests_one (h pins s σ H Q I hq)
theorem WD {fs ex:List Addr}{H0 H:Hp}{h0 h h':Heap}{D C:Addr}{o:HO}(u:Un fs ex H0 H h0 h)(hD:h0.objs.size<=D)(hC:h0.objs.size<=C)(sb:Heap.SameBut C h h')(n:H D=none):Un fs ex H0 (upd H D o) h0 h':=by
 have ne:∀b ob,h0.get? b=some ob->b≠C:=λb ob e=>Nat.ne_of_lt (Nat.lt_of_lt_of_le (Heap.lt_size e) hC)
 have nd:∀b ob,h0.get? b=some ob->b≠D:=λb ob e=>Nat.ne_of_lt (Nat.lt_of_lt_of_le (Heap.lt_size e) hD)
 refine⟨λb ob e q hb hx=>(sb.2 b (ne b ob e)).trans (u.keep b ob e q hb hx),λb ob e q hb hx=>?_,λb ob e q hx=>?_,λb ob e hx=>?_,λb xs e=>?_,λb ob xs e=>?_,λb ps e=>?_⟩
 ·obtain⟨sl,z⟩:=u.slot b ob e q hb hx
  exact⟨sl,(sb.2 b (ne b ob e)).trans z⟩
 ·rw[zk (nd b ob e)];exact u.free b ob e q hx
 ·obtain⟨o',z⟩:=u.there b ob e hx
  exact⟨o',(sb.2 b (ne b ob e)).trans z⟩
 ·have z:=u.tups b xs e
  rw[zk (z8 z n)];exact z
 ·have z:=u.frzs b ob xs e
  rw[zk (z8 z n)];exact z
 ·obtain⟨m,z⟩:=u.tbls b ps e
  exact⟨m,by rw[zk (z8 z n)];exact z⟩
theorem Vd {X:Cx}{elt tg iter:Expr}{ifs:List Expr}{scope:Scope}{pos:Pos}{own:List Str}{cap:List (Str×Nat)}{wi:TI}{g:TG}{tc:TT}{te:TE}(hc:X.calm=true)(S:CompScope X scope own cap)(hi:PI X tg iter wi)
  (hin:∀C s₀ H₀ fp pn,PG (cxc X scope C (own++cap.map (·.1)) s₀ H₀ fp pn) tg g/\PIfs (cxc X scope C (own++cap.map (·.1)) s₀ H₀ fp pn) ifs tc/\PE (cxc X scope C (own++cap.map (·.1)) s₀ H₀ fp pn) elt te)
  (hs:∀x,foldedSetIterable iter X.env x=pure x:=by intro _;rfl) :
  PE X (.ListComp elt [⟨tg,iter,ifs,0⟩] scope pos) (tComp wi own cap g tc te):=by
 intro pins s σ H Q I h
 rw[eval_ListComp]
 have hfr:∀y∈scope.names,y.2=.free->∃c,X.env.cells.lookup y.1=some c:=λy hy hk=>I.ok.has y.1 (S.frees y hy hk)
 refine wpAny_comprehension_free (use:=none) rfl hs (ZJ hfr) S.kind S.names (thn (hi pins s σ H _ I h) λxv s₁ h₁=>thn h₁ λit s₂ h₂=>?_)
 obtain⟨it,fp,tn,J,H2,rfl,I2,T,st2,f2,W,⟨m0,w0⟩,turn⟩:=h₂
 refine wpAny_newObj_type (wpAny_newFunctionEnv S.nocell (by intro y hy;simp at hy) (λh₁ hns₁ hsb₁=>?_) S.kind)
 dsimp only at hns₁ hsb₁ ⊢
 generalize hH3:s₂.heap.push { cls:=.type "list",dict:=none,data:=.seq ([]:List Value).toArray }=h3 at hns₁ hsb₁ ⊢
 have hC:h3.objs.size=s₂.heap.objs.size+1:=by rw[<-hH3,Heap.size_push]
 have flt:∀b∈fp,b < s₂.heap.objs.size:=λb hb=>let ⟨o,e,_⟩:=T.obj _ _ st2 b hb;Heap.lt_size e
 have old:∀b o,s₂.heap.get? b=some o->h₁.get? b=some o:=λb o e=>hsb₁.extBut b o (by rw[hC];exact Nat.ne_of_lt (Nat.lt_succ_of_lt (Heap.lt_size e))) (Heap.get?_push_of_some _ (hH3 ▸ Heap.get?_push_of_some _ e))
 have hDC:s₂.heap.objs.size≠h3.objs.size:=by rw[hC];exact Nat.ne_of_lt (Nat.lt_succ_self _)
 have hacc:h₁.get? s₂.heap.objs.size=some { cls:=.type "list",data:=.seq ([]:List Value).toArray }:=hsb₁.extBut _ _ hDC (Heap.get?_push_of_some _ (hH3 ▸ Heap.get?_push_size _ rfl))
 generalize hD:s₂.heap.objs.size=D at hacc hDC
 have hCle:s₂.heap.objs.size<=h3.objs.size:=by rw[hC];exact Nat.le_succ _
 generalize hCC:h3.objs.size=C at *
 have ok:(cxc X scope C (own++cap.map (·.1)) s₂ H2 fp (X.pn++pins)).Ok:=ZC S I2 hCle f2 flt
 have sub:∀x c,(clGo X.env.cells scope.names []).lookup x=some c->X.env.cells.lookup x=some c:=λx c=>qr _ _ x c hfr (λx c e=>by simp at e)
 obtain⟨hG,hT,hE⟩:=hin C s₂ H2 fp (X.pn++pins)
 have fl:∀ {α:Type} {t:Sem α} {Q:α->Shared->Prop} {E:Value->Shared->Prop} {s:Shared},wpAny (model X.prog X.w) X.A t Q (λ_ _=>False) s->wpAny (model X.prog X.w) X.A t Q E s:=λh=>wpAny_mono h (λ_ _ q=>q) λ_ _ f=>f.elim
 have dn:D∉frs X.stack:=λz=>by
  rcases List.mem_cons.mp (I2.stkSub D z) with q | q
  ·exact absurd I2.lt (by rw[<-q,hD];exact Nat.lt_irrefl _)
  ·exact I2.nofs (Nat.le_of_eq hD) q
 have pnl:∀p∈X.pn++pins,p.1 < s₂.heap.objs.size:=λp hp=>Heap.lt_size (I2.pin p hp).1
 have celt:∀x c,(clGo X.env.cells scope.names []).lookup x=some c->c < s₂.heap.objs.size:=λx c e=>let ⟨v,q⟩:=I2.cell x c (sub x c e);q.lt
 have hDle:s₂.heap.objs.size<=D:=Nat.le_of_eq hD
 have I0:Inv (cxc X scope C (own++cap.map (·.1)) s₂ H2 fp (X.pn++pins)) [(D,{ cls:=.type "list",data:=.seq ([]:List Value).toArray })] (List.replicate own.length none++cap.map λp=>(σ[p.2]?).getD none) H2 { s₂ with heap:=h₁,toks:=s₂.toks+([]:List (Str×Value)).length }:=by
  refine⟨ok,rfl,I2.bare,Un.kept old,⟨_,hns₁,λi x v e1 e2 e3=>?_⟩,λx c e=>?_,I2.hok.fresh hCle,λx c e=>I2.freeC x c (sub x c e),λp hp=>?_,I2.hok.kept old,?_⟩
  ·by_cases hi:i < own.length
   ·rw[List.getElem?_append_left (by simpa using hi),List.getElem?_replicate] at e2
    rw[if_pos hi] at e2
    cases e2
   ·have e1:(own++cap.map (·.1))[i]?=some x:=e1
    rw[List.getElem?_append_right (by omega),List.getElem?_map] at e1
    rw[List.getElem?_append_right (by simpa using hi),List.length_replicate,List.getElem?_map] at e2
    cases q:cap[i - own.length]? with
    |none=>rw[q] at e1;cases e1
    |some p=>
     rw[q] at e1 e2
     have e1:p.1=x:=Option.some.inj e1
     have e2:(σ[p.2]?).getD none=some v:=Option.some.inj e2
     obtain⟨c1,c2⟩:=S.caps p (List.mem_of_getElem? q)
     have e2':σ[p.2]?=some (some v):=by
      cases q2:σ[p.2]? with
      |none=>rw[q2] at e2;cases e2
      |some w=>rw[q2] at e2;rw[show w=some v from e2]
     have hk:=S.frees (p.1,.free) (jD c1) rfl
     obtain⟨m,hn,hl⟩:=I2.loc
     obtain⟨u,ru,lk⟩:=hl p.2 p.1 v c2 e2' (.inr hk)
     refine⟨u,ru,.inr ?_⟩
     rcases lk with⟨k1,_⟩ | ⟨_,c,ec,hcell⟩
     ·rcases hk with z | z
      ·rw[k1] at z;cases z
      ·rw[k1] at z;cases z
     ·subst e1
      refine⟨uP (env:=X.env) c1,?_⟩
      obtain⟨c',ec'⟩:=Option.isSome_iff_exists.mp (jA (cells:=X.env.cells) scope.names [] p.1 (jD c1))
      have z:=sub _ _ ec'
      rw[ec] at z;cases z
      obtain⟨o,ho,hd⟩:=hcell
      exact⟨c,ec',o,old c o ho,hd⟩
  ·obtain⟨v,o,ho,hd⟩:=I2.cell x c (sub x c e)
   exact⟨v,o,old c o ho,hd⟩
  ·rcases List.mem_append.mp (show p∈(X.pn++pins)++[(D,_)] from hp) with hp | hp
   ·obtain⟨q1,q2,q3,q4,q5⟩:=I2.pin p hp
    refine⟨old _ _ q1,q2,Nat.ne_of_lt (Nat.lt_of_lt_of_le (Heap.lt_size q1) hCle),λz=>?_,q5⟩
    rcases List.mem_cons.mp (I2.stkSub p.1 z) with q | q
    ·exact q3 q
    ·exact q4 q
   ·rw[List.mem_singleton.mp hp]
    exact⟨hacc,I2.hok.fresh hDle,hDC,dn,λv z=>by cases z⟩
  ·show (List.replicate own.length none++cap.map _).length=(own++cap.map _).length
   simp
 have stat:∀ {H':Hp} {pl:List (Addr×Obj)},(∀p∈pl,p.1=D∨p.1∈fp->p.1=D)->(∀b∈fp,H' b=none)->∀b∈fp,FpOk (cxc X scope C (own++cap.map (·.1)) s₂ H2 fp (X.pn++pins)) pl H' b:=by
  intro H' pl hpl hn b hb
  refine⟨hn b hb,Nat.ne_of_lt (Nat.lt_of_lt_of_le (flt b hb) hCle),λz=>?_,.inl hb,λx c e=>(f2 b hb).2.2.2.2.1 x c (sub x c e),λp hp=>?_⟩
  ·rcases List.mem_cons.mp (I2.stkSub b z) with q | q
   ·exact (f2 b hb).2.1 q
   ·exact (f2 b hb).2.2.1 q
  ·rcases List.mem_append.mp (show p∈(X.pn++pins)++pl from hp) with hp | hp
   ·exact (f2 b hb).2.2.2.2.2 p hp
   ·intro z
    have:=hpl p hp (.inr (z ▸ hb))
    rw[z] at this
    exact absurd (flt b hb) (by rw[this,hD];exact Nat.lt_irrefl _)
 have loop:∀s₃:Shared,s₃={ s₂ with heap:=h₁,toks:=s₂.toks+([]:List (Str×Value)).length } ->
   codeAny (model X.prog X.w) X.A (.compLoop (.ListComp elt [⟨tg,iter,ifs,0⟩] scope pos) 0 (.ref it) (.ref D) (compEnvC scope (clGo X.env.cells scope.names []) C X.env)) (compPost (model X.prog X.w) X.A X.xe none (EP X pins σ Q) (.ref D) C) s₃:=by
  rintro s₃ rfl
  refine Zq (λn s'=>∃i ys its k σ1 H',Inv (cxc X scope C (own++cap.map (·.1)) s₂ H2 fp (X.pn++pins)) [(D,{ cls:=.type "list",data:=.seq (List.toArray its) k })] (σ1++cap.map λp=>(σ[p.2]?).getD none) H' s'/\σ1.length=own.length/\Vals ys its/\tn i s'.heap/\(∀b∈fp,H' b=none)/\W i n ys H') ?_ m0
   ⟨0,[],[],0,_,H2,I0,by simp,.nil,T.keep _ _ _ st2 λb hb o e=>old b o e,λb hb=>(f2 b hb).1,w0⟩
  rintro n s' ⟨i,ys,its,k,σ1,H',J1,hσ,rv,st1,fr1,w1⟩
  obtain⟨hsz,⟨stop,qn⟩ | ⟨go,N,hN,step⟩⟩:=turn i n ys H' w1
  ·refine thn (T.done (cxc X scope C (own++cap.map (·.1)) s₂ H2 fp (X.pn++pins)) rfl rfl rfl hc i _ s' _ H' (λ_ _=>False) J1 (stat (by intro p hp _;rw[List.mem_singleton.mp hp]) fr1) st1 stop) λr s4 ⟨hr,I4⟩=>?_
   subst hr
   obtain⟨m4,hn4,_⟩:=I4.loc
   refine⟨m4,hn4,λh' sb=>?_⟩
   obtain⟨pD1,pD2,pD3,pD4,pD5⟩:=I4.pin (D,_) (List.mem_append_right _ List.mem_cons_self)
   have u:=WD (o:=.lst ys) I4.base hDle hCle sb pD2
   refine⟨.ref D,upd H' D (.lst ys),I2.call' (s':={ s4 with heap:=h' }) (ch:=fp) I4.os u ?_ I4.bare λb hb=>?_,rfl,qn D pD2⟩
   ·intro b ob e
    by_cases hb:b=D
    ·subst hb
     rw[zq] at e;cases e
     exact⟨hsz,its,k,rv,(sb.2 _ pD3).trans pD1⟩
    ·rw[zk hb] at e
     refine (I4.hok b ob e).stay (λc v hc' q=>(sb.2 c ?_).trans q) (λc q=>by rw[zk (z8 q pD2)];exact q) λc xs q=>by rw[zk (z8 q pD2)];exact q
     have hCn:H' C=none:=I4.free
     rcases hc' with z | z
     ·rw[z];exact z8 e hCn
     ·exact z8 z hCn
   ·obtain⟨q1,q2,q3,q4,q5,q6⟩:=f2 b hb
    exact⟨q4,q2,q5,q6⟩
  ·refine thn (T.item (cxc X scope C (own++cap.map (·.1)) s₂ H2 fp (X.pn++pins)) rfl rfl rfl hc i _ s' _ H' (λ_ _=>False) J1 (stat (by intro p hp _;rw[List.mem_singleton.mp hp]) fr1) st1 go) λr s4 ⟨u,hr,h4⟩=>?_
   subst hr
   refine thn h4 λ_ s5 ⟨x,H5,I5,r5,y5,st5,fr5⟩=>?_
   have I5':=I5.pinned (stat (by intro p hp _;rw[List.mem_singleton.mp hp]) fr5) (T.obj _ _ st5)
   refine thn (hG _ s5 _ H5 x u _ I5' r5 (step x H5 y5 σ1 hσ)) λ_ s6 ⟨σ6,H6,I6,⟨σ1',l6,e6⟩,q6⟩=>?_
   subst e6
   refine thn (hT _ s6 _ H6 _ I6 q6) λok s7 ⟨H7,I7,q7⟩=>?_
   have again:∀ {s8:Shared} {H8:Hp} {ys8:List V} {its8:List Value} {k8:Nat},Inv (cxc X scope C (own++cap.map (·.1)) s₂ H2 fp (X.pn++pins)) ([(D,{ cls:=.type "list",data:=.seq (List.toArray its8) k8 })]++pinsAt fp s5.heap) (σ1'++cap.map λp=>(σ[p.2]?).getD none) H8 s8->Vals ys8 its8->N ys8 H8 ->
     ∃m,m < n/\∃i ys its k σ1 H',Inv (cxc X scope C (own++cap.map (·.1)) s₂ H2 fp (X.pn++pins)) [(D,{ cls:=.type "list",data:=.seq (List.toArray its) k })] (σ1++cap.map λp=>(σ[p.2]?).getD none) H' s8/\σ1.length=own.length/\Vals ys its/\tn i s8.heap/\(∀b∈fp,H' b=none)/\W i m ys H':=by
    intro s8 H8 ys8 its8 k8 I8 rv8 n8
    obtain⟨m',hm,w8⟩:=hN ys8 H8 n8
    refine⟨m',hm,i+1,ys8,its8,k8,σ1',H8,I8.unpinned,l6,rv8,T.keep _ _ _ st5 λb hb o e=>(I8.pin (b,o) (List.mem_append_right _ (List.mem_append_right _ (wv hb e)))).1,λb hb=>?_,w8⟩
    obtain⟨o,e,d⟩:=T.obj _ _ st5 b hb
    exact (I8.pin (b,o) (List.mem_append_right _ (List.mem_append_right _ (wv hb e)))).2.1
   cases ok with
   |false=>exact again I7 rv q7
   |true=>
    refine thn (hE _ s7 _ H7 _ I7 q7) λy s8 ⟨v8,H8,I8,r8,q8⟩=>?_
    obtain⟨pD1,pD2,pD3,pD4,pD5⟩:=I8.pin (D,_) (List.mem_append_right _ List.mem_cons_self)
    have hsz':its.toArray.size<=sizeLine:=by rw[List.size_toArray,<-rv.length];exact hsz
    refine wpAny_list_append_plain (hsz:=hsz') (items:=its.toArray) ⟨k,pD1⟩ λh9 pl9 sb9=>?_
    obtain⟨k9,e9⟩:=pl9
    have ea:its.toArray.push y=(its++[y]).toArray:=by simp
    rw[ea] at e9
    have I8':Inv (cxc X scope C (own++cap.map (·.1)) s₂ H2 fp (X.pn++pins)) (pinsAt fp s5.heap) (σ1'++cap.map λp=>(σ[p.2]?).getD none) H8 s8:=I8.pins_of λp hp=>I8.pin p (List.mem_append_right _ (List.mem_append_right _ hp))
    have fD:FpOk (cxc X scope C (own++cap.map (·.1)) s₂ H2 fp (X.pn++pins)) (pinsAt fp s5.heap) H8 D:=by
     refine⟨pD2,pD3,pD4,.inr hDle,λx c e z=>?_,λp hp z=>?_⟩
     ·exact absurd (celt x c e) (by rw[z,hD];exact Nat.lt_irrefl _)
     ·rcases List.mem_append.mp (show p∈(X.pn++pins)++_ from hp) with hp | hp
      ·exact absurd (pnl p hp) (by rw[z,hD];exact Nat.lt_irrefl _)
      ·exact absurd (flt p.1 (kA hp).1) (by rw[z,hD];exact Nat.lt_irrefl _)
    have I9:Inv (cxc X scope C (own++cap.map (·.1)) s₂ H2 fp (X.pn++pins)) (pinsAt fp s5.heap) (σ1'++cap.map λp=>(σ[p.2]?).getD none) H8 { s8 with heap:=h9 }:=qp (t':=s8.toks) (ch:=[D]) I8' (λb o hb e=>(sb9.2 b λz=>hb (by simp[z])).trans e) λb hb=>by rw[List.mem_singleton.mp hb];exact fD
    have I10:Inv (cxc X scope C (own++cap.map (·.1)) s₂ H2 fp (X.pn++pins)) ([(D,{ cls:=.type "list",data:=.seq (its++[y]).toArray k9 })]++pinsAt fp s5.heap) (σ1'++cap.map λp=>(σ[p.2]?).getD none) H8 { s8 with heap:=h9 }:=I9.pins_of λp hp=>by
     rcases List.mem_append.mp hp with hp | hp
     ·rw[List.mem_singleton.mp hp]
      exact⟨e9,pD2,pD3,pD4,λv z=>by cases z⟩
     ·exact I9.pin p (List.mem_append_right _ hp)
    exact again (s8:={ s8 with heap:=h9 }) I10 (rv.append (.cons r8 .nil)) q8
 subst hD
 exact codeAny_compStart_list (loop _ rfl) (T.self _ 0 _ _ _ (T.keep _ _ _ st2 λb hb o e=>old b o e) (loop _ rfl))
theorem J4 {X:Cx}{i:Nat}{y:Str}{py spos:Pos}{elt tg iter:Expr}{ifs:List Expr}{scope:Scope}{pos:Pos}{own:List Str}{cap:List (Str×Nat)}{wi:TI}{g:TG}{tc:TT}{te:TE}(hc:X.calm=true)(S:CompScope X scope own cap)(hi:PI X tg iter wi)
  (hin:∀C s₀ H₀ fp pn,PG (cxc X scope C (own++cap.map (·.1)) s₀ H₀ fp pn) tg g/\PIfs (cxc X scope C (own++cap.map (·.1)) s₀ H₀ fp pn) ifs tc/\PE (cxc X scope C (own++cap.map (·.1)) s₀ H₀ fp pn) elt te)
  (hN:X.N.Nodup) (hiy:X.N[i]?=some y) (hy:Loc X.env.scope y) (hsw:swapsWith (.ListComp elt [⟨tg,iter,ifs,0⟩] scope pos) (some (.Name y py)) spos.line X.env=pure true)
  (hs:∀x,foldedSetIterable iter X.env x=pure x:=by intro _;rfl) (hfn:X.fn y=true∨X.env.scope.names.lookup y=some .local:=by first | exact .inl rfl | exact .inr rfl | assumption) :
  PS X (.Assign [.Name y py] (.ListComp elt [⟨tg,iter,ifs,0⟩] scope pos) spos) (tAsg (tComp wi own cap g tc te) (gName i)):=by
 intro pins s σ H Dn I h
 rw[exec_Assign_Name_used _ _ _ _ hsw]
 refine wpAny_bind (wpAny_standAt (wpAny_bind ?_))
 show wpAny _ X.A (do let _ <-comprehension (.ListComp elt [⟨tg,iter,ifs,0⟩] scope pos) scope X.env _ (newList []) false (eval iter X.env) (some (assign (.Name y py) X.env))) _ _ s
 have hfr:∀y∈scope.names,y.2=.free->∃c,X.env.cells.lookup y.1=some c:=λy hy hk=>I.ok.has y.1 (S.frees y hy hk)
 refine wpAny_bind (wpAny_mono (wpAny_comprehension_free (use:=some (assign (.Name y py) X.env)) (Q:=λ_ s'=>SP X pins Dn .next s') rfl hs (ZJ hfr) S.kind S.names (thn (hi pins s σ H _ I h) λxv s₁ h₁=>thn h₁ λit s₂ h₂=>?_)) (λ_ s' hq=>wpAny_pure (wpAny_pure hq)) λ_ _ e=>e)
 obtain⟨it,fp,tn,J,H2,rfl,I2,T,st2,f2,W,⟨m0,w0⟩,turn⟩:=h₂
 refine wpAny_newObj_type (wpAny_newFunctionEnv S.nocell (by intro y hy;simp at hy) (λh₁ hns₁ hsb₁=>?_) S.kind)
 dsimp only at hns₁ hsb₁ ⊢
 generalize hH3:s₂.heap.push { cls:=.type "list",dict:=none,data:=.seq ([]:List Value).toArray }=h3 at hns₁ hsb₁ ⊢
 have hC:h3.objs.size=s₂.heap.objs.size+1:=by rw[<-hH3,Heap.size_push]
 have flt:∀b∈fp,b < s₂.heap.objs.size:=λb hb=>let ⟨o,e,_⟩:=T.obj _ _ st2 b hb;Heap.lt_size e
 have old:∀b o,s₂.heap.get? b=some o->h₁.get? b=some o:=λb o e=>hsb₁.extBut b o (by rw[hC];exact Nat.ne_of_lt (Nat.lt_succ_of_lt (Heap.lt_size e))) (Heap.get?_push_of_some _ (hH3 ▸ Heap.get?_push_of_some _ e))
 have hDC:s₂.heap.objs.size≠h3.objs.size:=by rw[hC];exact Nat.ne_of_lt (Nat.lt_succ_self _)
 have hacc:h₁.get? s₂.heap.objs.size=some { cls:=.type "list",data:=.seq ([]:List Value).toArray }:=hsb₁.extBut _ _ hDC (Heap.get?_push_of_some _ (hH3 ▸ Heap.get?_push_size _ rfl))
 generalize hD:s₂.heap.objs.size=D at hacc hDC
 have hCle:s₂.heap.objs.size<=h3.objs.size:=by rw[hC];exact Nat.le_succ _
 generalize hCC:h3.objs.size=C at *
 have ok:(cxc X scope C (own++cap.map (·.1)) s₂ H2 fp (X.pn++pins)).Ok:=ZC S I2 hCle f2 flt
 have sub:∀x c,(clGo X.env.cells scope.names []).lookup x=some c->X.env.cells.lookup x=some c:=λx c=>qr _ _ x c hfr (λx c e=>by simp at e)
 obtain⟨hG,hT,hE⟩:=hin C s₂ H2 fp (X.pn++pins)
 have fl:∀ {α:Type} {t:Sem α} {Q:α->Shared->Prop} {E:Value->Shared->Prop} {s:Shared},wpAny (model X.prog X.w) X.A t Q (λ_ _=>False) s->wpAny (model X.prog X.w) X.A t Q E s:=λh=>wpAny_mono h (λ_ _ q=>q) λ_ _ f=>f.elim
 have dn:D∉frs X.stack:=λz=>by
  rcases List.mem_cons.mp (I2.stkSub D z) with q | q
  ·exact absurd I2.lt (by rw[<-q,hD];exact Nat.lt_irrefl _)
  ·exact I2.nofs (Nat.le_of_eq hD) q
 have pnl:∀p∈X.pn++pins,p.1 < s₂.heap.objs.size:=λp hp=>Heap.lt_size (I2.pin p hp).1
 have celt:∀x c,(clGo X.env.cells scope.names []).lookup x=some c->c < s₂.heap.objs.size:=λx c e=>let ⟨v,q⟩:=I2.cell x c (sub x c e);q.lt
 have hDle:s₂.heap.objs.size<=D:=Nat.le_of_eq hD
 have I0:Inv (cxc X scope C (own++cap.map (·.1)) s₂ H2 fp (X.pn++pins)) [(D,{ cls:=.type "list",data:=.seq ([]:List Value).toArray })] (List.replicate own.length none++cap.map λp=>(σ[p.2]?).getD none) H2 { s₂ with heap:=h₁,toks:=s₂.toks+([]:List (Str×Value)).length }:=by
  refine⟨ok,rfl,I2.bare,Un.kept old,⟨_,hns₁,λi x v e1 e2 e3=>?_⟩,λx c e=>?_,I2.hok.fresh hCle,λx c e=>I2.freeC x c (sub x c e),λp hp=>?_,I2.hok.kept old,?_⟩
  ·by_cases hi:i < own.length
   ·rw[List.getElem?_append_left (by simpa using hi),List.getElem?_replicate] at e2
    rw[if_pos hi] at e2
    cases e2
   ·have e1:(own++cap.map (·.1))[i]?=some x:=e1
    rw[List.getElem?_append_right (by omega),List.getElem?_map] at e1
    rw[List.getElem?_append_right (by simpa using hi),List.length_replicate,List.getElem?_map] at e2
    cases q:cap[i - own.length]? with
    |none=>rw[q] at e1;cases e1
    |some p=>
     rw[q] at e1 e2
     have e1:p.1=x:=Option.some.inj e1
     have e2:(σ[p.2]?).getD none=some v:=Option.some.inj e2
     obtain⟨c1,c2⟩:=S.caps p (List.mem_of_getElem? q)
     have e2':σ[p.2]?=some (some v):=by
      cases q2:σ[p.2]? with
      |none=>rw[q2] at e2;cases e2
      |some w=>rw[q2] at e2;rw[show w=some v from e2]
     have hk:=S.frees (p.1,.free) (jD c1) rfl
     obtain⟨m,hn,hl⟩:=I2.loc
     obtain⟨u,ru,lk⟩:=hl p.2 p.1 v c2 e2' (.inr hk)
     refine⟨u,ru,.inr ?_⟩
     rcases lk with⟨k1,_⟩ | ⟨_,c,ec,hcell⟩
     ·rcases hk with z | z
      ·rw[k1] at z;cases z
      ·rw[k1] at z;cases z
     ·subst e1
      refine⟨uP (env:=X.env) c1,?_⟩
      obtain⟨c',ec'⟩:=Option.isSome_iff_exists.mp (jA (cells:=X.env.cells) scope.names [] p.1 (jD c1))
      have z:=sub _ _ ec'
      rw[ec] at z;cases z
      obtain⟨o,ho,hd⟩:=hcell
      exact⟨c,ec',o,old c o ho,hd⟩
  ·obtain⟨v,o,ho,hd⟩:=I2.cell x c (sub x c e)
   exact⟨v,o,old c o ho,hd⟩
  ·rcases List.mem_append.mp (show p∈(X.pn++pins)++[(D,_)] from hp) with hp | hp
   ·obtain⟨q1,q2,q3,q4,q5⟩:=I2.pin p hp
    refine⟨old _ _ q1,q2,Nat.ne_of_lt (Nat.lt_of_lt_of_le (Heap.lt_size q1) hCle),λz=>?_,q5⟩
    rcases List.mem_cons.mp (I2.stkSub p.1 z) with q | q
    ·exact q3 q
    ·exact q4 q
   ·rw[List.mem_singleton.mp hp]
    exact⟨hacc,I2.hok.fresh hDle,hDC,dn,λv z=>by cases z⟩
  ·show (List.replicate own.length none++cap.map _).length=(own++cap.map _).length
   simp
 have stat:∀ {H':Hp} {pl:List (Addr×Obj)},(∀p∈pl,p.1=D∨p.1∈fp->p.1=D)->(∀b∈fp,H' b=none)->∀b∈fp,FpOk (cxc X scope C (own++cap.map (·.1)) s₂ H2 fp (X.pn++pins)) pl H' b:=by
  intro H' pl hpl hn b hb
  refine⟨hn b hb,Nat.ne_of_lt (Nat.lt_of_lt_of_le (flt b hb) hCle),λz=>?_,.inl hb,λx c e=>(f2 b hb).2.2.2.2.1 x c (sub x c e),λp hp=>?_⟩
  ·rcases List.mem_cons.mp (I2.stkSub b z) with q | q
   ·exact (f2 b hb).2.1 q
   ·exact (f2 b hb).2.2.1 q
  ·rcases List.mem_append.mp (show p∈(X.pn++pins)++pl from hp) with hp | hp
   ·exact (f2 b hb).2.2.2.2.2 p hp
   ·intro z
    have:=hpl p hp (.inr (z ▸ hb))
    rw[z] at this
    exact absurd (flt b hb) (by rw[this,hD];exact Nat.lt_irrefl _)
 have loop:∀s₃:Shared,s₃={ s₂ with heap:=h₁,toks:=s₂.toks+([]:List (Str×Value)).length } ->
   codeAny (model X.prog X.w) X.A (.compLoop (.ListComp elt [⟨tg,iter,ifs,0⟩] scope pos) 0 (.ref it) (.ref D) (compEnvC scope (clGo X.env.cells scope.names []) C X.env)) (compPost (model X.prog X.w) X.A X.xe (some (assign (.Name y py) X.env)) (λ_ s'=>SP X pins Dn .next s') (.ref D) C) s₃:=by
  rintro s₃ rfl
  refine Zq (λn s'=>∃i ys its k σ1 H',Inv (cxc X scope C (own++cap.map (·.1)) s₂ H2 fp (X.pn++pins)) [(D,{ cls:=.type "list",data:=.seq (List.toArray its) k })] (σ1++cap.map λp=>(σ[p.2]?).getD none) H' s'/\σ1.length=own.length/\Vals ys its/\tn i s'.heap/\(∀b∈fp,H' b=none)/\W i n ys H') ?_ m0
   ⟨0,[],[],0,_,H2,I0,by simp,.nil,T.keep _ _ _ st2 λb hb o e=>old b o e,λb hb=>(f2 b hb).1,w0⟩
  rintro n s' ⟨i,ys,its,k,σ1,H',J1,hσ,rv,st1,fr1,w1⟩
  obtain⟨hsz,⟨stop,qn⟩ | ⟨go,N,hN,step⟩⟩:=turn i n ys H' w1
  ·refine thn (T.done (cxc X scope C (own++cap.map (·.1)) s₂ H2 fp (X.pn++pins)) rfl rfl rfl hc i _ s' _ H' (λ_ _=>False) J1 (stat (by intro p hp _;rw[List.mem_singleton.mp hp]) fr1) st1 stop) λr s4 ⟨hr,I4⟩=>?_
   subst hr
   obtain⟨m4,hn4,_⟩:=I4.loc
   obtain⟨pD1,pD2,pD3,pD4,pD5⟩:=I4.pin (D,_) (List.mem_append_right _ List.mem_cons_self)
   have u:=WD (o:=.lst ys) I4.base hDle hCle (show Heap.SameBut C s4.heap s4.heap from⟨rfl,λ_ _=>rfl⟩) pD2
   have hCn:H' C=none:=I4.free
   have I5:Inv X pins σ (upd H' D (.lst ys)) s4:=by
    refine I2.call' (s':=s4) (ch:=fp) I4.os u ?_ I4.bare λb hb=>?_
    ·intro b ob e
     by_cases hb:b=D
     ·subst hb
      rw[zq] at e;cases e
      exact⟨hsz,its,k,rv,pD1⟩
     ·rw[zk hb] at e
      exact (I4.hok b ob e).stay (λc v hc' q=>q) (λc q=>by rw[zk (z8 q pD2)];exact q) λc xs q=>by rw[zk (z8 q pD2)];exact q
    ·obtain⟨q1,q2,q3,q4,q5,q6⟩:=f2 b hb
     exact⟨q4,q2,q5,q6⟩
   show wpAny _ X.A (assign (.Name y py) X.env (.ref D)) _ _ _
   refine wpAny_assign_Name (Wh I5 hN hiy hy (v:=.ref D) rfl (λs5 I6 ⟨a5,sb5,ha5⟩=>?_) hfn)
   have hCa:C≠a5:=by
    rcases ha5 with z | z
    ·rw[z];exact Nat.ne_of_gt (Nat.lt_of_lt_of_le I2.lt hCle)
    ·intro e
     obtain⟨v,q⟩:=I2.cell _ _ z
     exact absurd (Nat.lt_of_lt_of_le q.lt (by rw[<-e];exact hCle)) (Nat.lt_irrefl _)
   refine⟨m4,hn4.sameBut sb5 hCa,λh3 sb3=>?_⟩
   have hC0:(upd H' D (.lst ys)) C=none:=by rw[zk (Ne.symm hDC)];exact hCn
   exact⟨_,_,qp (t':=s5.toks) (ch:=[C]) I6 (λb o hb q=>(sb3.2 b (λz=>hb (by simp[z]))).trans q) (λb hb=>by rw[List.mem_singleton.mp hb];exact I2.fpOk hCle hC0),qn D pD2⟩
  ·refine thn (T.item (cxc X scope C (own++cap.map (·.1)) s₂ H2 fp (X.pn++pins)) rfl rfl rfl hc i _ s' _ H' (λ_ _=>False) J1 (stat (by intro p hp _;rw[List.mem_singleton.mp hp]) fr1) st1 go) λr s4 ⟨u,hr,h4⟩=>?_
   subst hr
   refine thn h4 λ_ s5 ⟨x,H5,I5,r5,y5,st5,fr5⟩=>?_
   have I5':=I5.pinned (stat (by intro p hp _;rw[List.mem_singleton.mp hp]) fr5) (T.obj _ _ st5)
   refine thn (hG _ s5 _ H5 x u _ I5' r5 (step x H5 y5 σ1 hσ)) λ_ s6 ⟨σ6,H6,I6,⟨σ1',l6,e6⟩,q6⟩=>?_
   subst e6
   refine thn (hT _ s6 _ H6 _ I6 q6) λok s7 ⟨H7,I7,q7⟩=>?_
   have again:∀ {s8:Shared} {H8:Hp} {ys8:List V} {its8:List Value} {k8:Nat},Inv (cxc X scope C (own++cap.map (·.1)) s₂ H2 fp (X.pn++pins)) ([(D,{ cls:=.type "list",data:=.seq (List.toArray its8) k8 })]++pinsAt fp s5.heap) (σ1'++cap.map λp=>(σ[p.2]?).getD none) H8 s8->Vals ys8 its8->N ys8 H8 ->
     ∃m,m < n/\∃i ys its k σ1 H',Inv (cxc X scope C (own++cap.map (·.1)) s₂ H2 fp (X.pn++pins)) [(D,{ cls:=.type "list",data:=.seq (List.toArray its) k })] (σ1++cap.map λp=>(σ[p.2]?).getD none) H' s8/\σ1.length=own.length/\Vals ys its/\tn i s8.heap/\(∀b∈fp,H' b=none)/\W i m ys H':=by
    intro s8 H8 ys8 its8 k8 I8 rv8 n8
    obtain⟨m',hm,w8⟩:=hN ys8 H8 n8
    refine⟨m',hm,i+1,ys8,its8,k8,σ1',H8,I8.unpinned,l6,rv8,T.keep _ _ _ st5 λb hb o e=>(I8.pin (b,o) (List.mem_append_right _ (List.mem_append_right _ (wv hb e)))).1,λb hb=>?_,w8⟩
    obtain⟨o,e,d⟩:=T.obj _ _ st5 b hb
    exact (I8.pin (b,o) (List.mem_append_right _ (List.mem_append_right _ (wv hb e)))).2.1
   cases ok with
   |false=>exact again I7 rv q7
   |true=>
    refine thn (hE _ s7 _ H7 _ I7 q7) λy s8 ⟨v8,H8,I8,r8,q8⟩=>?_
    obtain⟨pD1,pD2,pD3,pD4,pD5⟩:=I8.pin (D,_) (List.mem_append_right _ List.mem_cons_self)
    have hsz':its.toArray.size<=sizeLine:=by rw[List.size_toArray,<-rv.length];exact hsz
    refine wpAny_list_append_plain (hsz:=hsz') (items:=its.toArray) ⟨k,pD1⟩ λh9 pl9 sb9=>?_
    obtain⟨k9,e9⟩:=pl9
    have ea:its.toArray.push y=(its++[y]).toArray:=by simp
    rw[ea] at e9
    have I8':Inv (cxc X scope C (own++cap.map (·.1)) s₂ H2 fp (X.pn++pins)) (pinsAt fp s5.heap) (σ1'++cap.map λp=>(σ[p.2]?).getD none) H8 s8:=I8.pins_of λp hp=>I8.pin p (List.mem_append_right _ (List.mem_append_right _ hp))
    have fD:FpOk (cxc X scope C (own++cap.map (·.1)) s₂ H2 fp (X.pn++pins)) (pinsAt fp s5.heap) H8 D:=by
     refine⟨pD2,pD3,pD4,.inr hDle,λx c e z=>?_,λp hp z=>?_⟩
     ·exact absurd (celt x c e) (by rw[z,hD];exact Nat.lt_irrefl _)
     ·rcases List.mem_append.mp (show p∈(X.pn++pins)++_ from hp) with hp | hp
      ·exact absurd (pnl p hp) (by rw[z,hD];exact Nat.lt_irrefl _)
      ·exact absurd (flt p.1 (kA hp).1) (by rw[z,hD];exact Nat.lt_irrefl _)
    have I9:Inv (cxc X scope C (own++cap.map (·.1)) s₂ H2 fp (X.pn++pins)) (pinsAt fp s5.heap) (σ1'++cap.map λp=>(σ[p.2]?).getD none) H8 { s8 with heap:=h9 }:=qp (t':=s8.toks) (ch:=[D]) I8' (λb o hb e=>(sb9.2 b λz=>hb (by simp[z])).trans e) λb hb=>by rw[List.mem_singleton.mp hb];exact fD
    have I10:Inv (cxc X scope C (own++cap.map (·.1)) s₂ H2 fp (X.pn++pins)) ([(D,{ cls:=.type "list",data:=.seq (its++[y]).toArray k9 })]++pinsAt fp s5.heap) (σ1'++cap.map λp=>(σ[p.2]?).getD none) H8 { s8 with heap:=h9 }:=I9.pins_of λp hp=>by
     rcases List.mem_append.mp hp with hp | hp
     ·rw[List.mem_singleton.mp hp]
      exact⟨e9,pD2,pD3,pD4,λv z=>by cases z⟩
     ·exact I9.pin p (List.mem_append_right _ hp)
    exact again (s8:={ s8 with heap:=h9 }) I10 (rv.append (.cons r8 .nil)) q8
 subst hD
 exact codeAny_compStart_list (loop _ rfl) (T.self _ 0 _ _ _ (T.keep _ _ _ st2 λb hb o e=>old b o e) (loop _ rfl))
end L3
namespace L2
open PySem PySem.Spec PyProof.Rows
section
variable {κ:Type} [DecidableEq κ]
def valV (kvs:List (κ×V))(k:κ):Option V:=(kvs.find? λkv=>decide (kv.1=k)).map (·.2)
def putK (kvs:List (κ×V))(k:κ)(v:V):List (κ×V) :=
 if (kvs.any λkv=>decide (kv.1=k))=true then kvs.map (λkv=>if kv.1=k then (kv.1,v) else kv) else kvs++[(k,v)]
theorem qA {p:κ×V}{r:List (κ×V)}{k:κ}(e:p.1=k):valV (p::r) k=some p.2:=by simp[valV,List.find?_cons,e]
theorem qy {p:κ×V}{r:List (κ×V)}{k:κ}(e:¬p.1=k):valV (p::r) k=valV r k:=by simp[valV,List.find?_cons,e]
theorem Wc (kvs:List (κ×V))(k:κ)(v:V):(putK kvs k v).length<=kvs.length+1:=by
 unfold putK
 split
 ·rw[List.length_map];omega
 ·rw[List.length_append,List.length_cons,List.length_nil];omega
theorem RelO.isSome_eq {o:Option V}{u:Option Value}(r:RelO o u):o.isSome=u.isSome:=by
 cases o with
 |none=>cases u with
  |none=>rfl
  |some _=>exact (show False from r).elim
 |some _=>cases u with
  |none=>exact (show False from r).elim
  |some _=>rfl
theorem RelO.getD {o:Option V}{u:Option Value}{d:V}{d':Value}(r:RelO o u)(rd:RelV d d'):RelV (o.getD d) (u.getD d'):=by
 cases o with
 |none=>cases u with
  |none=>exact rd
  |some _=>exact (show False from r).elim
 |some _=>cases u with
  |none=>exact (show False from r).elim
  |some _=>exact r
theorem KV.val {kvs:List (κ×V)}{vs:List (κ×Value)}(r:KV kvs vs)(k:κ):RelO (valV kvs k) (valueAt vs k):=by
 unfold KV at r
 induction r with
 |nil=>exact True.intro
 | @cons p q ps qs h t ih=>
  obtain⟨h1,h2⟩:=h
  by_cases e:p.1=k
  ·have e':q.1=k:=h1.symm.trans e
   have b:valueAt (q::qs) k=some q.2:=by simp[valueAt,List.find?_cons,e']
   rw[qA e,b];exact h2
  ·have e':¬q.1=k:=λz=>e (h1.trans z)
   have b:valueAt (q::qs) k=valueAt qs k:=by simp[valueAt,List.find?_cons,e']
   rw[qy e,b];exact ih
theorem KV.any {kvs:List (κ×V)}{vs:List (κ×Value)}(r:KV kvs vs)(k:κ):(kvs.any λkv=>decide (kv.1=k))=vs.any λkv=>decide (kv.1=k):=by
 unfold KV at r
 induction r with
 |nil=>rfl
 |cons h t ih=>rw[List.any_cons,List.any_cons,ih,h.1]
theorem KV.repl {kvs:List (κ×V)}{vs:List (κ×Value)}(r:KV kvs vs)(k:κ){y:V}{u:Value}(ry:RelV y u) :
  KV (kvs.map λkv=>if kv.1=k then (kv.1,y) else kv) (vs.map λkv=>if kv.1=k then (kv.1,u) else kv):=by
 unfold KV at r ⊢
 induction r with
 |nil=>exact .nil
 | @cons p q ps qs h t ih=>
  rw[List.map_cons,List.map_cons]
  refine .cons ?_ ih
  obtain⟨h1,h2⟩:=h
  by_cases e:p.1=k
  ·rw[if_pos e,if_pos (h1.symm.trans e)];exact⟨h1,ry⟩
  ·rw[if_neg e,if_neg (λz=>e (h1.trans z))];exact⟨h1,h2⟩
theorem KV.put {kvs:List (κ×V)}{vs:List (κ×Value)}(r:KV kvs vs)(k:κ){y:V}{u:Value}(ry:RelV y u):KV (putK kvs k y) (stored vs k u):=by
 unfold putK stored
 rw[r.any k]
 by_cases e:(vs.any λkv=>decide (kv.1=k))=true
 ·rw[if_pos e,if_pos e];exact r.repl k ry
 ·rw[if_neg e,if_neg e];exact Paired.snoc r ⟨rfl,ry⟩
theorem KV.length {kvs:List (κ×V)}{vs:List (κ×Value)}(r:KV kvs vs):kvs.length=vs.length:=Paired.length r
end
theorem vE {P:Program}{w:World}{k:Key}{u:Value}(r:RelV (kV k) u):(zG P w).is k u=true:=by
 cases k with
 |inl i=>obtain⟨t,e⟩:=(show ∃t,u=Value.int i t from r);subst e;exact Ke P w i t
 |inr x=>obtain⟨t,e⟩:=(show ∃t,u=Value.str x t from r);subst e;exact K8 P w x t
section
variable {P:Program}{w:World}{H:Hp}{h:Heap}{a:Addr}
theorem RC {u:HO}(ok:HOk P w H h)(e:Rd H a u):ObjOk P w H h a u:=e.ok ok
theorem RT {kvs:List (Key×V)}(ok:HOk P w H h)(e:Rd H a (.dK kvs)):kvs.length<=sizeLine/\(a==sysModules)=false/\∃vs,KV kvs vs/\h.DictOf (zG P w) a vs :=
 show ObjOk P w H h a (.dK kvs) from RC ok e
theorem Jo {kvs:List (Key×V)}(ok:HOk P w H h)(e:H a=some (.dK kvs)):kvs.length<=sizeLine/\(a==sysModules)=false/\∃vs,KV kvs vs/\h.DictOf (zG P w) a vs:=RT ok (.inl e)
end
section
variable {X:Cx}{pins:List (Addr×Obj)}{σ:St}{H:Hp}{s:Shared}{a:Addr}{y v:V}{u r:Value}{o:Option V}{A:Around}{E:Value->Shared->Prop}
theorem Inv.big (I:Inv X pins σ H s):sysModules < s.heap.objs.size:=by
 have h:mainGlobals < s.heap.objs.size:=(I.mod.glob.keeps I.bk).lt
 exact Nat.lt_trans (by decide) h
theorem Wr {h':Heap}{t':Nat}{ob:HO}(I:Inv X pins σ H s)(mu:Mut (H a))(hs:Heap.SameBut a s.heap h')(he:∃q,h'.get? a=some q)(new:ObjOk X.prog X.w (upd H a ob) h' a ob) :
  Inv X pins σ (upd H a ob) { s with heap:=h',toks:=t' } :=
 I.write (x:=a) (e:=a) mu (.inl rfl) (λb q hb z=>(hs.2 b hb).trans z) he new
end
section
variable {X:Cx}{pins:List (Addr×Obj)}{σ:St}{H:Hp}{s:Shared}{a:Addr}{kvs:List (Key×V)}{k:Key}{u:Value}{A:Around}{E:Value->Shared->Prop}
end
def NoSl (i:Expr):Prop:=∀ov iv,subscripted i false ov iv=operate [ov,iv] (getItem ov iv)
theorem UY {prog:Program}{w:World}{A:Around}{E:Value->Shared->Prop}{s:Shared}{env:Env}{value slice:Expr}{pos:Pos}{T id:String}{Q:Value->Shared->Prop}
  (hl:typeLookup (.type T) "__getitem__" = pure (some (.builtin id))) (hs:NoSl slice)
  (h:wpAny (model prog w) A (eval value env) (λo s₁=>wpAny (model prog w) A (eval slice env) (λi s₂=>s₂.TypeIs o T/\wpAny (model prog w) A (getItem o i) Q E s₂) E s₁) E s) :
  wpAny (model prog w) A (eval (.Subscript value slice pos) env) Q E s:=by
 refine Subscript_ (wpAny_mono h (λo s₁ h₁=>wpAny_mono h₁ (λi s₂ h₂=>?_) λ_ _ x=>x) λ_ _ x=>x)
 obtain⟨hT,h₂⟩:=h₂
 unfold subscriptTail
 refine wpAny_bind ?_
 rw[getitemInPython_of_ne hT.not_modules]
 refine wpAny_bind (wpAny_specialOf hT hl ?_)
 have fin:wpAny (model prog w) A (subscripted slice false o i) (λr s₃=>wpAny (model prog w) A (letTemporaryGo value o r >>= λ_=>pure r) Q E s₃) E s₂:=by
  rw[hs o i]
  exact wpAny_operating (wpAny_mono h₂ (λr s₃ h₃=>wpAny_bind (wpAny_letTemporaryGo (wpAny_pure h₃))) λ_ _ x=>x)
 first
  |exact wpAny_pure (wpAny_bind fin)
  |exact wpAny_bind (wpAny_pure (wpAny_bind fin))
  |exact wpAny_bind fin
section
variable {X:Cx}{o i e value:Expr}{pos pos' tpos:Pos}{td ty tv:TE}
end
theorem RO {P:Program}{w:World}{H:Hp}(h:Heap)(hb:sysModules < h.objs.size):ObjOk P w H (h.push { cls:=.type "dict",data:=.dict #[] }) h.objs.size (.dK []) :=
 ⟨Nat.zero_le _,beq_eq_false_iff_ne.mpr (Ne.symm (Nat.ne_of_lt hb)),[],.nil,Heap.DictOf.new h⟩
section
variable {X:Cx}{pos:Pos}
end
def tPairs:List (TE×TE)->St->Hp->(List (V×V)->Hp->Prop)->Prop
 | [],_,H,Q=>Q [] H
 | (tk,tv)::r,σ,H,Q=>tk σ H λx H1=>tv σ H1 λy H2=>tPairs r σ H2 λps H3=>Q ((x,y)::ps) H3
abbrev VV:List (V×V)->List (Value×Value)->Prop:=Paired λp q=>RelV p.1 q.1/\RelV p.2 q.2
def PPs (X:Cx)(pos:Pos)(keys:List (Option Expr))(values:List Expr)(trs:List (TE×TE)):Prop :=
 ∀(pins:List (Addr×Obj)) (s:Shared) (σ:St) (H:Hp) (Q:List (V×V)->Hp->Prop),Inv X pins σ H s->tPairs trs σ H Q ->
  wpAny (model X.prog X.w) X.A (evalPairs (pairTrees keys values X.env pos)) (λvs s'=>∃ps H',Inv X pins σ H' s'/\VV ps vs/\Q ps H') X.xe s
theorem Ko {X:Cx}{pos:Pos}:PPs X pos [] [] []:=λpins s σ H Q I h=>pairTrees_nil_walk ⟨[],H,I,.nil,h⟩
theorem JB {X:Cx}{pos:Pos}{k v:Expr}{ks:List (Option Expr)}{vs:List Expr}{tk tv:TE}{trs:List (TE×TE)}(hk:PE X k tk)(hv:PE X v tv)(hr:PPs X pos ks vs trs) :
  PPs X pos (some k::ks) (v::vs) ((tk,tv)::trs):=λpins s σ H Q I h=>
 pairTrees_cons_walk (thn (hk pins s σ H _ I h) λu s1 ⟨x,H1,I1,rx,q1⟩=>thn (hv pins s1 σ H1 _ I1 q1) λw2 s2 ⟨y,H2,I2,ry,q2⟩=>
  thn (hr pins s2 σ H2 _ I2 q2) λws s3 ⟨ps,H3,I3,rel,q3⟩=>⟨(x,y)::ps,H3,I3,.cons ⟨rx,ry⟩ rel,q3⟩)
def mergeK (kvs more:List (Key×V)):List (Key×V):=more.foldl (λacc kv=>putK acc kv.1 kv.2) kvs
theorem KV.merge:∀ {more:List (Key×V)} {rs:List (Key×Value)} {kvs:List (Key×V)} {vs:List (Key×Value)},KV more rs->KV kvs vs->KV (mergeK kvs more) (merged vs rs):=by
 intro more rs kvs vs r
 unfold KV at r
 induction r generalizing kvs vs with
 |nil=>intro q;exact q
 | @cons p q ps qs h t ih=>
  intro r0
  have e:KV (putK kvs p.1 p.2) (stored vs q.1 q.2):=by
   have:=r0.put p.1 h.2
   rw[<-h.1];exact this
  exact ih e
theorem Zo:∀(more kvs:List (Key×V)),(mergeK kvs more).length<=kvs.length+more.length
 | [],kvs=>by show kvs.length<=kvs.length+0;omega
 |p::r,kvs=>by
  have h1:=Zo r (putK kvs p.1 p.2)
  have h2:=Wc kvs p.1 p.2
  show (mergeK (putK kvs p.1 p.2) r).length<=_
  rw[List.length_cons];omega
theorem YC {P:Program}{w:World}:∀ {kvs:List (Key×V)} {ws:List (Value×Value)},VV (kvs.map λkv=>(kV kv.1,kv.2)) ws->∃rs,Carries (zG P w) ws rs/\KV kvs rs
 | [],_,r=>by rw[List.map_nil] at r;cases r;exact⟨[],True.intro,.nil⟩
 |p::kvs,_,r=>by
  rw[List.map_cons] at r
  cases r with
  | @cons a b as bs h t=>
   obtain⟨rs,c,q⟩:=YC (P:=P) (w:=w) t
   obtain⟨b1,b2⟩:=b
   exact⟨(p.1,b2)::rs,⟨vE h.1,rfl,c⟩,.cons ⟨rfl,h.2⟩ q⟩
structure M1 (X:Cx)(o:Expr)(m:Str)(apos:Pos)(e:Expr)(cpos:Pos):Prop where
 base:attributeBase o m X.env (eval o X.env)=eval o X.env
 few:((backTo cpos (starEach [e] X.env)).all (λx=>!x.1)&&(backToKw cpos (keywordEach [] X.env)).all (λx=>x.1.isSome)
  && decide (([e]:List Expr).length+([]:List Keyword).length+(if ([]:List Keyword).isEmpty then 0 else 1) < 30))=true
 line:(apos.endLine==cpos.line)=true
 trees:backTo cpos (starEach [e] X.env)=[(false,eval e X.env)]
structure M2 (X:Cx)(o:Expr)(m:Str)(apos:Pos)(e f:Expr)(cpos:Pos):Prop where
 base:attributeBase o m X.env (eval o X.env)=eval o X.env
 few:((backTo cpos (starEach [e,f] X.env)).all (λx=>!x.1)&&(backToKw cpos (keywordEach [] X.env)).all (λx=>x.1.isSome)
  && decide (([e,f]:List Expr).length+([]:List Keyword).length+(if ([]:List Keyword).isEmpty then 0 else 1) < 30))=true
 line:(apos.endLine==cpos.line)=true
 trees:backTo cpos (starEach [e,f] X.env)=[(false,eval e X.env),(false,eval f X.env)]
section
variable {X:Cx}{pins:List (Addr×Obj)}{σ:St}{H:Hp}{s:Shared}{a:Addr}{y d:V}{u r:Value}{o:Option V}{A:Around}{E:Value->Shared->Prop}
end
section
variable {X:Cx}{o e f:Expr}{apos cpos:Pos}{td ty tx:TE}
end
section
variable {X:Cx}{pins:List (Addr×Obj)}{σ:St}{H:Hp}{s:Shared}{a:Addr}{kvs:List (Key×V)}{A:Around}{E:Value->Shared->Prop}
end
section
variable {X:Cx}{pins:List (Addr×Obj)}{σ:St}{H:Hp}{s:Shared}{a:Addr}{y:V}{u:Value}{A:Around}{E:Value->Shared->Prop}
end
end L2
namespace L4
open PySem PySem.Spec L2 L3
open PyProof.Rows hiding St
def dxp (w:World)(a:Addr)(o:Obj)(kvs:List (Key×V)):Heap->Prop:=λh=>h.get? a=some o/\kvs.length<=sizeLine/\(a==sysModules)=false/\∃vs,KV kvs vs/\∀P,o.IsDictOf (zG P w) vs
def DX (w:World)(a:Addr)(o:Obj)(kvs:List (Key×V)):HO:=.ext (dxp w a o kvs)
theorem pairsP {P P':Program}{w:World}:∀ {es:List DictEntry} {vs:List (Key×Value)},Pairs (zG P w) es vs->Pairs (zG P' w) es vs:=by
 intro es vs h
 induction h with
 |nil=>exact .nil
 |cons=>first | exact .cons ‹_› ‹_› | exact .cons ‹_› ‹_› ‹_› | (constructor<;>assumption)
theorem anyP {o:Obj}{P P':Program}{w:World}{vs:List (Key×Value)}(h:o.IsDictOf (zG P w) vs):o.IsDictOf (zG P' w) vs :=
 let ⟨es,ep,h1,h2,h3,h4,h5⟩:=h;⟨es,ep,h1,h2,h3,pairsP h4,h5⟩
theorem jF {P:Program}{w:World}{h:Heap}{a:Addr}{kvs:List (Key×V)}{vs:List (Key×Value)}(z:kvs.length<=sizeLine)(hd:(a==sysModules)=false)(rel:KV kvs vs)(dd:h.DictOf (zG P w) a vs) :
  ∃o,h.get? a=some o/\∀H,ObjOk P w H h a (DX w a o kvs):=by
 obtain⟨o,ho,hi⟩:=Heap.dictOf_iff.mp dd
 exact⟨o,ho,λH=>⟨⟨ho,z,hd,vs,rel,λP=>anyP hi⟩,⟨o,ho⟩,λh1 h2 ⟨e,r⟩ k=>⟨k _ e,r⟩⟩⟩
section
variable {X:Cx}{pins:List (Addr×Obj)}{σ:St}{H:Hp}{s:Shared}{a:Addr}{ob:Obj}{kvs:List (Key×V)}{k:Key}{y v:V}{u r:Value}{A:Around}{E:Value->Shared->Prop}
theorem y0 (I:Inv X pins σ H s)(e:H a=some (DX X.w a ob kvs)):s.heap.get? a=some ob/\kvs.length<=sizeLine/\(a==sysModules)=false/\∃vs,KV kvs vs/\ob.IsDictOf (zG X.prog X.w) vs/\s.heap.DictOf (zG X.prog X.w) a vs:=by
 obtain⟨⟨h1,h2,h3,vs,h4,h5⟩,_⟩:=(show ObjOk X.prog X.w H s.heap a (DX X.w a ob kvs) from I.hok a _ e)
 exact⟨h1,h2,h3,vs,h4,h5 _,Heap.dictOf_iff.mpr ⟨ob,h1,h5 _⟩⟩
theorem Zb (I:Inv X pins σ H s)(e:H a=some (DX X.w a ob kvs)):s.TypeIs (.ref a) "dict" := by
 obtain⟨_,_,_,vs,_,_,dd⟩:=y0 I e
 exact dd.typeIs
theorem Kj (I:Inv X pins σ H s)(e:H a=some (DX X.w a ob kvs)):∀b,Value.ref a=.ref b->∃ob,s.heap.get? b=some ob/\ob.dict=none:=λb q=>by
 cases q
 obtain⟨h1,_,_,vs,_,⟨_,_,h2,_⟩,_⟩:=y0 I e
 exact⟨ob,h1,h2.2.1⟩
theorem QI {Q:Value->Shared->Prop}(I:Inv X pins σ H s)(e:H a=some (DX X.w a ob kvs))(l:valV kvs k=some v)(ry:RelV (kV k) u)(h:∀w' s',Inv X pins σ H s'->RelV v w'->Q w' s') :
  wpAny (model X.prog X.w) A (getItem (.ref a) u) Q E s:=by
 obtain⟨_,z,hd,vs,rel,_,dd⟩:=y0 I e
 obtain⟨w',hw,rw'⟩:=RelO.some_of (v:=v) (o:=valueAt vs k) (by rw[<-l];exact rel.val k)
 exact wpAny_getItem_of (vE ry) dd.mapOf hw (h w' _ (I.tok _) rw')
theorem QR {Q:Value->Shared->Prop}(I:Inv X pins σ H s)(e:H a=some (DX X.w a ob kvs))(ry:RelV (kV k) u)(h:∀s',Inv X pins σ H s'->Q (.bool (valV kvs k).isSome) s') :
  wpAny (model X.prog X.w) A (compareOp .In u (.ref a)) Q E s:=by
 obtain⟨_,z,hd,vs,rel,_,dd⟩:=y0 I e
 refine wpAny_in_of (vE ry) hd dd.mapOf ?_
 rw[<-(rel.val k).isSome_eq]
 exact h _ (I.tok _)
theorem Kr {Q:Unit->Shared->Prop}(I:Inv X pins σ H s)(e:H a=some (DX X.w a ob kvs))(l:kvs.length < sizeLine)(ry:RelV (kV k) u)(rv:RelV v r)
  (h:∀s' ob',Inv X pins σ (upd H a (DX X.w a ob' (putK kvs k v))) s'->Q () s'):wpAny (model X.prog X.w) A (setItem (.ref a) u r) Q E s:=by
 obtain⟨_,z,hd,vs,rel,_,dd⟩:=y0 I e
 have hz:vs.length<=sizeLine:=by rw[<-rel.length];exact z
 have hl:(putK kvs k v).length<=sizeLine:=by have:=Wc kvs k v;omega
 refine wpAny_setItem_pairs (hsz:=hz) (vE ry) dd λh' dd' hs=>?_
 have he:∃q,h'.get? a=some q:=let ⟨q,_,_,hq,_⟩:=dd';⟨q,hq⟩
 obtain⟨o',ho',new⟩:=jF (P:=X.prog) (w:=X.w) (a:=a) (kvs:=putK kvs k v) hl hd (rel.put k rv) dd'
 exact h _ o' (Wr I (by rw[e];exact True.intro) hs he (new _))
theorem KU {d:V}{Q:Value->Shared->Prop}(I:Inv X pins σ H s)(e:H a=some (DX X.w a ob kvs))(ry:RelV (kV k) u)(rd:RelV d r)(h:∀w' s',Inv X pins σ H s'->RelV ((valV kvs k).getD d) w'->Q w' s') :
  wpAny (model X.prog X.w) A (call (.builtin "dict.get") [.ref a,u,r]) Q E s:=by
 obtain⟨_,z,hd,vs,rel,_,dd⟩:=y0 I e
 exact call_meetsIn PySem.F.slot_dict_get dd.typeIs PySem.F.entry_dict_get (PySem.F.args_dict_get_3 _ _ _) (meets_dict_get_default (zG X.prog X.w) a (vE ry) hd r) ⟨_,dd.mapOf,h _ _ (I.tok _) ((rel.val k).getD rd)⟩
end
def tXNew (P:Program)(w:World):TE:=λ_ H Q=>∀p ob,H p=none->Q (.ref p) (upd H p (DX w p ob []))
def tXGet (P:Program)(w:World)(td ty:TE):TE:=λσ H Q=>td σ H λx H1=>ty σ H1 λy H2=>∃a ob kvs k v,x=.ref a/\H2 a=some (DX w a ob kvs)/\y=kV k/\valV kvs k=some v/\Q v H2
def tXIn (P:Program)(w:World)(ty td:TE):TE:=λσ H Q=>ty σ H λy H1=>td σ H1 λx H2=>∃a ob kvs k,x=.ref a/\H2 a=some (DX w a ob kvs)/\y=kV k/\Q (.bl (valV kvs k).isSome) H2
def sXPut (P:Program)(w:World)(td ty tv:TE):TS:=λD σ H=>tv σ H λv H1=>td σ H1 λx H2=>ty σ H2 λy H3=>∃a ob kvs k,x=.ref a/\H3 a=some (DX w a ob kvs)/\y=kV k/\kvs.length < sizeLine/\∀ob',D.nx σ (upd H3 a (DX w a ob' (putK kvs k v)))
def tXGet2 (P:Program)(w:World)(td ty tx:TE):TE:=λσ H Q=>td σ H λx H1=>∃a ob kvs,x=.ref a/\H1 a=some (DX w a ob kvs)/\ty σ H1 λy H2=>tx σ H2 λz H3=>∃ob' kvs' k,H3 a=some (DX w a ob' kvs')/\y=kV k/\Q ((valV kvs' k).getD z) H3
section
variable {X:Cx}{o i e f value:Expr}{pos pos' tpos apos cpos:Pos}{td ty tv tx:TE}
theorem KN:PE X (.Dict [] [] pos) (tXNew X.prog X.w):=λpins s σ H Q I h=>by
 obtain⟨ob,ho,new⟩:=jF (P:=X.prog) (w:=X.w) (a:=s.heap.objs.size) (kvs:=[]) (Nat.zero_le _) (beq_eq_false_iff_ne.mpr (Ne.symm (Nat.ne_of_lt I.big))) .nil (Heap.DictOf.new (knd:=zG X.prog X.w) s.heap)
 exact wpAny_Dict_empty ⟨.ref s.heap.objs.size,_,I.laid (a:=s.heap.objs.size) (o:=DX X.w s.heap.objs.size ob []) (t':=s.toks) (λ_ _ q=>Heap.get?_push_of_some _ q) (Nat.le_refl _) (new _),rfl,h _ ob (I.hok.fresh (Nat.le_refl _))⟩
theorem RJ (ho:PE X o td)(hi:PE X i ty)(hs:NoSl i):PE X (.Subscript o i pos) (tXGet X.prog X.w td ty):=by
 intro pins s σ H Q I h
 refine UY PySem.F.slot_dict_getitem.lookup hs (thn (ho pins s σ H _ I h) λu s1 ⟨x,H1,I1,rx,q1⟩=>thn (hi pins s1 σ H1 _ I1 q1) λiv s2 ⟨y,H2,I2,ry,a,ob,kvs,k,v,ex,g,ey,l,q2⟩=>?_)
 subst ex ey
 obtain rfl:u=Value.ref a:=rx
 exact⟨Zb I2 g,QI I2 g l ry λw' s3 I3 rw'=>⟨v,H2,I3,rw',q2⟩⟩
theorem Jl (hi:PE X i ty)(ho:PE X o td):PC X .In i o (tXIn X.prog X.w ty td):=by
 intro pins s σ H Q I h
 refine thn (hi pins s σ H _ I h) λiv s1 ⟨y,H1,I1,ry,q1⟩=>thn (ho pins s1 σ H1 _ I1 q1) λu s2 ⟨x,H2,I2,rx,a,ob,kvs,k,ex,g,ey,q2⟩=>?_
 subst ex ey
 obtain rfl:u=Value.ref a:=rx
 exact QR I2 g ry λs3 I3=>⟨.bl _,H2,I3,rfl,q2⟩
theorem RA (ho:PE X o td)(hi:PE X i ty)(hv:PE X value tv)(hs:swapsWith value (some (.Subscript o i pos')) pos.line X.env=pure false) :
  PS X (.Assign [.Subscript o i pos'] value pos) (sXPut X.prog X.w td ty tv):=by
 intro pins s σ H D I h
 refine wpAny_Assign_Subscript (thn (hv pins s σ H _ I h) λr s1 ⟨v,H1,I1,rv,q1⟩=>thn (ho pins s1 σ H1 _ I1 q1) λu s2 ⟨x,H2,I2,rx,q2⟩=>thn (hi pins s2 σ H2 _ I2 q2) λiv s3 ⟨y,H3,I3,ry,a,ob,kvs,k,ex,g,ey,l,q3⟩=>?_) hs
 subst ex ey
 obtain rfl:u=Value.ref a:=rx
 exact Kr I3 g l ry rv λs4 ob' I4=>⟨σ,_,I4,q3 ob'⟩
theorem Je (ho:PE X o td)(he:PE X e ty)(hf:PE X f tx)(m:M2 X o "get" apos e f cpos):PE X (.Call (.Attribute o "get" apos) [e,f] [] cpos) (tXGet2 X.prog X.w td ty tx):=by
 intro pins s σ H Q I h
 refine wpAny_Call_method m.base m.few m.line PySem.F.plainAttrs_dict PySem.F.slot_dict_get PySem.F.type_dict_get (thn (ho pins s σ H _ I h) λu s1 ⟨x,H1,I1,rx,a,ob,kvs,ex,d,q1⟩=>?_)
 subst ex
 obtain rfl:u=Value.ref a:=rx
 refine⟨Zb I1 d,Kj I1 d,?_⟩
 rw[m.trees]
 refine Calls.callWith_builtin rfl (Calls.evalArgs_plain (Calls.spliced_cons (thn (he pins s1 σ H1 _ I1 q1) λiv s2 ⟨y,H2,I2,ry,q2⟩=>
  Calls.spliced_cons (thn (hf pins s2 σ H2 _ I2 q2) λfv s3 ⟨z,H3,I3,rz,ob',kvs',k,g,ey,q3⟩=>Calls.spliced_nil ?_))))
 subst ey
 exact KU I3 g ry rz λw' s4 I4 rw'=>⟨_,H3,I4,rw',q3⟩
end
section
variable {X:Cx}{pins:List (Addr×Obj)}{σ:St}{H:Hp}{s:Shared}{a:Addr}{ob:Obj}{kvs:List (Key×V)}
end
inductive PairsAt (P:Program) (w:World) (h:Heap):List Value->List (Key×Value)->Prop
 |nil:PairsAt P w h [] []
 |cons {a:Addr} {r:List Value} {k:Key} {kv v:Value} {kvs:List (Key×Value)}:h.IsTuple a #[kv,v]->(zG P w).is k kv=true->PairsAt P w h r kvs->PairsAt P w h (.ref a::r) ((k,v)::kvs)
section
variable {prog:Program}{w:World}{A:Around}{s:Shared}{R:Result->Shared->Prop}
end
section
variable {prog:Program}{w:World}{A:Around}{E:Value->Shared->Prop}{s:Shared}
end
inductive PairsV (K:PySem.W.Frag) (H:Hp):List V->List (Key×V)->Prop
 |nil:PairsV K H [] []
 |cons {a:Addr} {r:List V} {k:Key} {v:V} {kvs:List (Key×V)}:SqT K H a [kV k,v]->PairsV K H r kvs->PairsV K H (.ref a::r) ((k,v)::kvs)
section
variable {X:Cx}{pins:List (Addr×Obj)}{σ:St}{H:Hp}{s:Shared}
end
section
variable {X:Cx}
end
section
variable {X:Cx}{pins:List (Addr×Obj)}{σ:St}{H:Hp}{s:Shared}{a v:Addr}{ob:Obj}{kvs:List (Key×V)}{cls:String}
end
structure M0 (X:Cx)(o:Expr)(m:Str)(apos cpos:Pos):Prop where
 base:attributeBase o m X.env (eval o X.env)=eval o X.env
 line:(apos.endLine==cpos.line)=true
section
variable {X:Cx}{o:Expr}{apos cpos:Pos}{td:TE}
end
def intsV (kis:List (Key×Int)):List (Key×V):=kis.map λp=>(p.1,.int p.2)
def lookI (kis:List (Key×Int))(k:Key):Option Int:=(kis.find? λp=>decide (p.1=k)).map (·.2)
def hitsI (kb:List (Key×Int)):List (Key×Int)->Bool
 | []=>true
 |p::r=>match lookI kb p.1 with
  |none=>false
  |some j=>decide (p.2=j)&&hitsI kb r
def eqI (ka kb:List (Key×Int)):Bool:=ka.length==kb.length&&hitsI kb ka
theorem Y4 (k:Key):∀kis:List (Key×Int),valV (intsV kis) k=(lookI kis k).map V.int
 | []=>rfl
 |p::r=>by
  have ih:=Y4 k r
  by_cases e:p.1=k
  ·rw[show intsV (p::r)=(p.1,V.int p.2)::intsV r from rfl,qA e];simp[lookI,e]
  ·rw[show intsV (p::r)=(p.1,V.int p.2)::intsV r from rfl,qy e,ih];simp[lookI,e]
theorem ZP {A:Around}{s:Shared}{kb:List (Key×Int)}{vb:List (Key×Value)}(rb:KV (intsV kb) vb):∀ {ka:List (Key×Int)} {va:List (Key×Value)},KV (intsV ka) va->PySem.W.KeqHits A s vb va (hitsI kb ka)
 | [],_,r=>by cases r;exact .nil
 |p::ka,_,r=>by
  cases r with
  | @cons _ q _ qs h t=>
   obtain⟨k',u⟩:=q
   obtain⟨h1,h2⟩:=h
   have h1:p.1=k':=h1
   obtain⟨tk,h2⟩:∃tk,u=Value.int p.2 tk:=h2
   subst h1 h2
   have rv:=rb.val p.1
   rw[Y4] at rv
   have ih:=ZP (A:=A) (s:=s) rb t
   unfold hitsI
   cases hl:lookI kb p.1 with
   |none=>
    rw[hl] at rv
    exact .miss (RelO.none_of rv)
   |some j=>
    rw[hl] at rv
    obtain⟨w',hw,rw'⟩:=RelO.some_of (v:=.int j) (o:=valueAt vb p.1) rv
    obtain⟨tk',rfl⟩:=rw'
    have:=PySem.W.keq_flat (A:=A) (s:=s) (.int p.2 tk) (.int j tk')
    have e:PyData.eqv (.int p.2) (.int j)=decide (p.2=j):=by
     rw[PyData.eqv]
     by_cases h:p.2=j<;>simp[h]
    rw[e] at this
    exact .hit hw this ih
section
variable {X:Cx}{pins:List (Addr×Obj)}{σ:St}{H:Hp}{s:Shared}{a b:Addr}{oa ob:Obj}{ka kb:List (Key×Int)}{A:Around}{E:Value->Shared->Prop}
theorem QN {Q:Value->Shared->Prop}(hu:A.units < cLine)(I:Inv X pins σ H s)(ea:H a=some (DX X.w a oa (intsV ka)))(eb:H b=some (DX X.w b ob (intsV kb)))(h:Q (.bool (!eqI ka kb)) s) :
  wpAny (model X.prog X.w) A (compareOp .NotEq (.ref a) (.ref b)) Q E s:=by
 obtain⟨_,_,ha,va,ra,_,da⟩:=y0 I ea
 obtain⟨_,_,hb,vb,rb,_,db⟩:=y0 I eb
 refine PySem.W.keq_ne ha hb da db hu (λ_=>ZP rb ra) ?_
 have h1:va.length=ka.length:=by rw[<-ra.length];simp[intsV]
 have h2:vb.length=kb.length:=by rw[<-rb.length];simp[intsV]
 rw[h1,h2]
 exact h
end
def tXEq (P:Program)(w:World)(neg:Bool)(ta tb:TE):TE:=λσ H Q=>ta σ H λx H1=>tb σ H1 λy H2=>∃a b oa ob ka kb,x=.ref a/\y=.ref b/\H2 a=some (DX w a oa (intsV ka))/\H2 b=some (DX w b ob (intsV kb))/\Q (.bl (neg ^^ eqI ka kb)) H2
section
variable {X:Cx}{i o:Expr}{ta tb:TE}
theorem Qo (hu:X.A.units < cLine)(hi:PE X i ta)(ho:PE X o tb):PC X .NotEq i o (tXEq X.prog X.w true ta tb):=by
 intro pins s σ H Q I h
 refine thn (hi pins s σ H _ I h) λiv s1 ⟨y,H1,I1,ry,q1⟩=>thn (ho pins s1 σ H1 _ I1 q1) λu s2 ⟨x,H2,I2,rx,a,b,oa,ob,ka,kb,ex,ey,ea,eb,q2⟩=>?_
 subst ex ey
 obtain rfl:iv=Value.ref a:=ry
 obtain rfl:u=Value.ref b:=rx
 refine QN hu I2 ea eb ⟨.bl _,H2,I2,rfl,?_⟩
 simpa using q2
end
section
variable {X:Cx}{pins:List (Addr×Obj)}{σ:St}{H:Hp}{s:Shared}{a:Addr}{ob:Obj}{kvs:List (Key×V)}
end
section
variable {X:Cx}{pins:List (Addr×Obj)}{σ:St}{H H':Hp}{s:Shared}{h':Heap}
theorem many (I:Inv X pins σ H s)(k:∀b u,s.heap.get? b=some u->h'.get? b=some u)(low:∀b,b < s.heap.objs.size->H' b=H b)(hok:HOk X.prog X.w H' h')(t':Nat):Inv X pins σ H' { s with heap:=h',toks:=t' }:=by
 have hl:∀b u,H b=some u->H' b=some u:=λb u e=>by rw[low b (I.hok.lt e)];exact e
 exact I.un ⟨λb u q _ _ _=>k b u q,λb u q _ _ _=>⟨u.slots,k b u q⟩,λb u q n _=>by rw[low b (Heap.lt_size q)];exact n,λb u q _=>⟨u,k b u q⟩,λb xs q=>hl b _ q,λb u xs q=>hl b _ q,λb ps q=>⟨#[],by rw[hl b _ q];simp⟩⟩ hok
end
end L4
namespace Dv
open PySem PySem.Spec L2 L3 L4
open PyProof.Rows hiding St
structure KW where
 fr:PySem.W.Frag
 w:World
instance:Coe KW PySem.W.Frag:=⟨KW.fr⟩
abbrev _root_.L2.Cx.kw (X:Cx):KW:=⟨X.K,X.w⟩
inductive D where
 |non | bl (b:Bool) | int (i:Int) | str (x:Str) | lst (xs:List D) | tup (xs:List D) | scr (ns:List Int) | obj (C:Addr) (fs:List Str) (ds:List D)
  |emp
mutual
def Rp (K:KW)(F:Hp):D->V->Prop
 |.non,v=>v=.non
 |.bl b,v=>v=.bl b
 |.int i,v=>v=.int i
 |.str x,v=>v=.str x
 |.lst ds,v=>∃a vs,v=.ref a/\F a=some (.lst vs)/\Rps K F ds vs
 |.tup ds,v=>∃a vs,v=.ref a/\F a=some (.tup vs)/\Rps K F ds vs
 |.scr ns,v=>∃a,v=.ref a/\SqL K F a (ns.map V.int)
 |.obj C fs ds,v=>∃a dx vs,v=.ref a/\F a=some (.ins C dx (fs.zip vs))/\fs.length=vs.length/\Rps K F ds vs
 |.emp,v=>∃a,v=.ref a/\F a=some (.dK [])
def Rps (K:KW)(F:Hp):List D->List V->Prop
 | [],vs=>vs=[]
 |d::ds,vs=>∃v r,vs=v::r/\Rp K F d v/\Rps K F ds r
end
mutual
theorem Rp.mono {K:KW}{F F':Hp}(s:Same F F'):∀ {d:D} {v:V},Rp K F d v->Rp K F' d v
 |.non,_,h=>h
 |.bl _,_,h=>h
 |.int _,_,h=>h
 |.str _,_,h=>h
 |.lst _,_,⟨a,vs,e,q,r⟩=>⟨a,vs,e,s _ _ q,Rps.mono s r⟩
 |.tup _,_,⟨a,vs,e,q,r⟩=>⟨a,vs,e,s _ _ q,Rps.mono s r⟩
 |.scr _,_,⟨a,e,q⟩=>⟨a,e,s.seq q⟩
 |.obj _ _ _,_,⟨a,dx,vs,e,q,l,r⟩=>⟨a,dx,vs,e,s _ _ q,l,Rps.mono s r⟩
 |.emp,_,⟨a,e,q⟩=>⟨a,e,s _ _ q⟩
theorem Rps.mono {K:KW}{F F':Hp}(s:Same F F'):∀ {ds:List D} {vs:List V},Rps K F ds vs->Rps K F' ds vs
 | [],_,h=>h
 |_::_,_,⟨v,r,e,h,t⟩=>⟨v,r,e,Rp.mono s h,Rps.mono s t⟩
end
section
variable {K:KW}{F F' H H':Hp}
theorem Rps.length:∀ {ds:List D} {vs:List V},Rps K F ds vs->ds.length=vs.length
 | [],_,h=>by cases h;rfl
 |_::_,_,⟨_,_,e,_,t⟩=>by subst e;simp[Rps.length t]
theorem Rps.append:∀ {ds es:List D} {vs ws:List V},Rps K F ds vs->Rps K F es ws->Rps K F (ds++es) (vs++ws)
 | [],_,_,_,h,t=>by cases h;exact t
 |_::_,_,_,_,⟨v,r,e,h,t⟩,q=>by subst e;exact⟨v,_,rfl,h,Rps.append t q⟩
theorem Rps.get:∀ {ds:List D} {vs:List V} {i:Nat} {d:D},Rps K F ds vs->ds[i]?=some d->∃v,vs[i]?=some v/\Rp K F d v
 | [],_,_,_,_,e=>by simp at e
 |_::_,_,0,_,⟨v,r,e,h,t⟩,q=>by subst e;simp at q;subst q;exact⟨v,rfl,h⟩
 |_::_,_,i+1,_,⟨v,r,e,h,t⟩,q=>by
  subst e
  obtain⟨w,h1,h2⟩:=Rps.get (i:=i) t (by simpa using q)
  exact⟨w,by simpa using h1,h2⟩
theorem Rps.get':∀ {ds:List D} {vs:List V} {i:Nat} {v:V},Rps K F ds vs->vs[i]?=some v->∃d,ds[i]?=some d/\Rp K F d v:=fun {ds vs i v} r e=>by
 have hl:=r.length
 have hi:i < vs.length:=(List.getElem?_eq_some_iff.mp e).1
 have hd:ds[i]?=some ds[i]:=List.getElem?_eq_getElem (by omega)
 obtain⟨w,h1,h2⟩:=r.get hd
 rw[e] at h1;cases h1
 exact⟨_,hd,h2⟩
theorem Rps.take:∀ {ds:List D} {vs:List V} (n:Nat),Rps K F ds vs->Rps K F (ds.take n) (vs.take n)
 |_,_,0,_=>rfl
 | [],_,_+1,h=>by cases h;rfl
 |_::_,_,n+1,⟨v,r,e,h,t⟩=>by subst e;exact⟨v,_,rfl,h,Rps.take n t⟩
theorem Rps.drop:∀ {ds:List D} {vs:List V} (n:Nat),Rps K F ds vs->Rps K F (ds.drop n) (vs.drop n)
 |_,_,0,r=>r
 | [],_,_+1,h=>by cases h;rfl
 |_::_,_,n+1,⟨v,r,e,h,t⟩=>by subst e;exact Rps.drop n t
theorem Rps.set {d:D}{v:V}(hd:Rp K F d v):∀ {ds:List D} {vs:List V} (n:Nat),Rps K F ds vs->Rps K F (ds.set n d) (vs.set n v)
 | [],_,_,h=>by cases h;rfl
 |_::_,_,0,⟨w,r,e,h,t⟩=>by subst e;exact⟨v,r,rfl,hd,t⟩
 |_::_,_,n+1,⟨w,r,e,h,t⟩=>by subst e;exact⟨w,_,rfl,h,Rps.set hd n t⟩
theorem Rps.snoc {ds:List D}{vs:List V}{d:D}{v:V}(r:Rps K F ds vs)(h:Rp K F d v):Rps K F (ds++[d]) (vs++[v]):=r.append ⟨v,[],rfl,h,rfl⟩
theorem Rps.ints:∀(ns:List Int),Rps K F (ns.map D.int) (ns.map V.int)
 | []=>rfl
 |_::ns=>⟨_,_,rfl,rfl,Rps.ints ns⟩
theorem zW {a:Addr}{o:HO}(n:H a=none):Same H (upd H a o):=λb u e=>by rw[zk (z8 e n)];exact e
theorem J2 {a:Addr}{o:HO}(s:Same F H)(n:H a=none):Same F (upd H a o):=s.trans (zW n)
structure Ext (F H F' H':Hp):Prop where
 ff:Same F F'
 hh:Same H H'
 fh:Same F' H'
 nw:∀a,F' a≠none->F a≠none∨H a=none
theorem Ext.refl (s:Same F H):Ext F H F H:=⟨Same.refl _,Same.refl _,s,λ_ h=>.inl h⟩
theorem Ext.trans {F1 H1 F2 H2:Hp}(x:Ext F H F1 H1)(y:Ext F1 H1 F2 H2):Ext F H F2 H2 :=
 ⟨x.ff.trans y.ff,x.hh.trans y.hh,y.fh,λa h=>(y.nw a h).elim (x.nw a) λz=>.inr (x.hh.free z)⟩
theorem Ext.new {a:Addr}{o:HO}(s:Same F H)(n:H a=none):Ext F H F (upd H a o):=⟨Same.refl _,zW n,J2 s n,λ_ h=>.inl h⟩
theorem Ext.newF {a:Addr}{o:HO}(s:Same F H)(n:H a=none):Ext F H (upd F a o) (upd H a o):=by
 refine⟨zW (s.free n),zW n,λb u e=>?_,λb h=>?_⟩
 ·by_cases hb:b=a
  ·subst hb;rw[zq] at e ⊢;exact e
  ·rw[zk hb] at e ⊢;exact s b u e
 ·by_cases hb:b=a
  ·subst hb;exact .inr n
  ·rw[zk hb] at h;exact .inl h
theorem Ext.freeze {a:Addr}{o:HO}(x:Ext F H F' H')(n:H a=none)(n':F' a=none)(e:H' a=some o):Ext F H (upd F' a o) H':=by
 refine⟨x.ff.trans (zW n'),x.hh,λb u q=>?_,λb h=>?_⟩
 ·by_cases hb:b=a
  ·subst hb;rw[zq] at q;cases q;exact e
  ·rw[zk hb] at q;exact x.fh b u q
 ·by_cases hb:b=a
  ·subst hb;exact .inr n
  ·rw[zk hb] at h;exact x.nw b h
def Rq (K:KW)(F H:Hp)(d:D)(v:V):Prop:=Rp K F d v∨∃a vs ds,d=.lst ds/\v=.ref a/\H a=some (.lst vs)/\Rps K F ds vs
theorem Rq.mono (f:Same F F')(h:Same H H'){d:D}{v:V}(r:Rq K F H d v):Rq K F' H' d v:=by
 rcases r with r | ⟨a,vs,ds,e1,e2,e3,e4⟩
 ·exact .inl (r.mono f)
 ·exact .inr ⟨a,vs,ds,e1,e2,h _ _ e3,e4.mono f⟩
theorem Rq.lst (s:Same F H){ds:List D}{v:V}(r:Rq K F H (.lst ds) v):∃a vs,v=.ref a/\H a=some (.lst vs)/\Rps K F ds vs:=by
 rcases r with⟨a,vs,e,q,r⟩ | ⟨a,vs,ds',e1,e2,e3,e4⟩
 ·exact⟨a,vs,e,s _ _ q,r⟩
 ·cases e1;exact⟨a,vs,e2,e3,e4⟩
theorem Rq.one {d:D}{v:V}(r:Rq K F H d v)(h:∀ds,d≠.lst ds):Rp K F d v:=by
 rcases r with r | ⟨a,vs,ds,e1,_⟩
 ·exact r
 ·exact (h ds e1).elim
theorem Rq.int {i:Int}{v:V}(r:Rq K F H (.int i) v):v=.int i:=r.one λ_ h=>by cases h
theorem Rq.bl {i:Bool}{v:V}(r:Rq K F H (.bl i) v):v=.bl i:=r.one λ_ h=>by cases h
theorem Rq.str {i:Str}{v:V}(r:Rq K F H (.str i) v):v=.str i:=r.one λ_ h=>by cases h
theorem Rq.non {v:V}(r:Rq K F H .non v):v=.non:=r.one λ_ h=>by cases h
theorem Rq.tup (s:Same F H){ds:List D}{v:V}(r:Rq K F H (.tup ds) v):∃a vs,v=.ref a/\H a=some (.tup vs)/\Rps K F ds vs:=by
 obtain⟨a,vs,e,q,r⟩:=r.one λ_ h=>by cases h
 exact⟨a,vs,e,s _ _ q,r⟩
theorem Rq.scr (s:Same F H){ns:List Int}{v:V}(r:Rq K F H (.scr ns) v):∃a,v=.ref a/\SqL K H a (ns.map V.int):=by
 obtain⟨a,e,q⟩:=r.one λ_ h=>by cases h
 exact⟨a,e,s.seq q⟩
end
inductive OT where
 |frz (d:D) | lst (ts:List OT) | tup (ts:List OT)
mutual
def RepO (K:KW)(F H:Hp):OT->V->Prop
 |.frz d,v=>Rp K F d v
 |.lst ts,v=>∃a vs,v=.ref a/\H a=some (.lst vs)/\RepOs K F H ts vs
 |.tup ts,v=>∃a vs,v=.ref a/\H a=some (.tup vs)/\RepOs K F H ts vs
def RepOs (K:KW)(F H:Hp):List OT->List V->Prop
 | [],vs=>vs=[]
 |t::ts,vs=>∃v r,vs=v::r/\RepO K F H t v/\RepOs K F H ts r
end
def itemsH (H:Hp)(a:Addr):List V:=match H a with
 |some (.lst vs)=>vs
 |some (.tup vs)=>vs
 |_=>[]
mutual
def feetO (H:Hp):OT->V->List Addr
 |.frz _,_=>[]
 |.lst ts,v=>match v with
  |.ref a=>a::feetOs H ts (itemsH H a)
  |_=>[]
 |.tup ts,v=>match v with
  |.ref a=>a::feetOs H ts (itemsH H a)
  |_=>[]
def feetOs (H:Hp):List OT->List V->List Addr
 | [],_=>[]
 |t::ts,vs=>match vs with
  |v::r=>feetO H t v++feetOs H ts r
  | []=>[]
end
mutual
def OT.erase:OT->D
 |.frz d=>d
 |.lst ts=>.lst (erases ts)
 |.tup ts=>.tup (erases ts)
def erases:List OT->List D
 | []=>[]
 |t::ts=>t.erase::erases ts
end
theorem zM {H:Hp}{a:Addr}{vs:List V}(h:H a=some (.lst vs)):itemsH H a=vs:=by unfold itemsH;rw[h]
theorem zO {H:Hp}{a:Addr}{vs:List V}(h:H a=some (.tup vs)):itemsH H a=vs:=by unfold itemsH;rw[h]
section
variable {K:KW}{F F' H H':Hp}
mutual
theorem RepO.ext (f:Same F F')(h:Same H H'):∀ {t:OT} {v:V},RepO K F H t v->RepO K F' H' t v/\feetO H' t v=feetO H t v
 |.frz _,_,r=>⟨Rp.mono f r,rfl⟩
 |.lst ts,_,⟨a,vs,e,q,r⟩=>by
  subst e
  obtain⟨r1,r2⟩:=RepOs.ext f h r
  exact⟨⟨a,vs,rfl,h _ _ q,r1⟩,by simp only[feetO,zM q,zM (h _ _ q),r2]⟩
 |.tup ts,_,⟨a,vs,e,q,r⟩=>by
  subst e
  obtain⟨r1,r2⟩:=RepOs.ext f h r
  exact⟨⟨a,vs,rfl,h _ _ q,r1⟩,by simp only[feetO,zO q,zO (h _ _ q),r2]⟩
theorem RepOs.ext (f:Same F F')(h:Same H H'):∀ {ts:List OT} {vs:List V},RepOs K F H ts vs->RepOs K F' H' ts vs/\feetOs H' ts vs=feetOs H ts vs
 | [],_,r=>⟨r,rfl⟩
 |t::ts,_,⟨v,r,e,h1,h2⟩=>by
  subst e
  obtain⟨a1,a2⟩:=RepO.ext f h h1
  obtain⟨b1,b2⟩:=RepOs.ext f h h2
  exact⟨⟨v,r,rfl,a1,b1⟩,by simp only[feetOs,a2,b2]⟩
end
mutual
theorem RepO.other {a:Addr}{o:HO}:∀ {t:OT} {v:V},RepO K F H t v->a∉feetO H t v->RepO K F (upd H a o) t v/\feetO (upd H a o) t v=feetO H t v
 |.frz _,_,r,_=>⟨r,rfl⟩
 |.lst ts,_,⟨b,vs,e,q,r⟩,hn=>by
  subst e
  simp only[feetO,zM q,List.mem_cons,not_or] at hn
  obtain⟨r1,r2⟩:=RepOs.other (o:=o) r hn.2
  have q':upd H a o b=some (.lst vs):=by rw[zk (Ne.symm hn.1)];exact q
  exact⟨⟨b,vs,rfl,q',r1⟩,by simp only[feetO,zM q,zM q',r2]⟩
 |.tup ts,_,⟨b,vs,e,q,r⟩,hn=>by
  subst e
  simp only[feetO,zO q,List.mem_cons,not_or] at hn
  obtain⟨r1,r2⟩:=RepOs.other (o:=o) r hn.2
  have q':upd H a o b=some (.tup vs):=by rw[zk (Ne.symm hn.1)];exact q
  exact⟨⟨b,vs,rfl,q',r1⟩,by simp only[feetO,zO q,zO q',r2]⟩
theorem RepOs.other {a:Addr}{o:HO}:∀ {ts:List OT} {vs:List V},RepOs K F H ts vs->a∉feetOs H ts vs->RepOs K F (upd H a o) ts vs/\feetOs (upd H a o) ts vs=feetOs H ts vs
 | [],_,r,_=>⟨r,rfl⟩
 |t::ts,_,⟨v,r,e,h1,h2⟩,hn=>by
  subst e
  simp only[feetOs,List.mem_append,not_or] at hn
  obtain⟨a1,a2⟩:=RepO.other (o:=o) h1 hn.1
  obtain⟨b1,b2⟩:=RepOs.other (o:=o) h2 hn.2
  exact⟨⟨v,r,rfl,a1,b1⟩,by simp only[feetOs,a2,b2]⟩
end
mutual
theorem RepO.feet {a:Addr}:∀ {t:OT} {v:V},RepO K F H t v->a∈feetO H t v->H a≠none
 |.frz _,_,_,h=>by simp[feetO] at h
 |.lst ts,_,⟨b,vs,e,q,r⟩,h=>by
  subst e
  simp only[feetO,zM q,List.mem_cons] at h
  rcases h with rfl | h
  ·rw[q];simp
  ·exact RepOs.feet r h
 |.tup ts,_,⟨b,vs,e,q,r⟩,h=>by
  subst e
  simp only[feetO,zO q,List.mem_cons] at h
  rcases h with rfl | h
  ·rw[q];simp
  ·exact RepOs.feet r h
theorem RepOs.feet {a:Addr}:∀ {ts:List OT} {vs:List V},RepOs K F H ts vs->a∈feetOs H ts vs->H a≠none
 | [],_,_,h=>by simp[feetOs] at h
 |t::ts,_,⟨v,r,e,h1,h2⟩,h=>by
  subst e
  simp only[feetOs,List.mem_append] at h
  rcases h with h | h
  ·exact RepO.feet h1 h
  ·exact RepOs.feet h2 h
end
mutual
theorem RepO.feet_no {a:Addr}:∀ {t:OT} {v:V},RepO K F H t v->a∈feetO H t v->∀z,H a≠some (.own z)
 |.frz _,_,_,h,_=>by simp[feetO] at h
 |.lst ts,_,⟨b,vs,e,q,r⟩,h,z=>by
  subst e
  simp only[feetO,zM q,List.mem_cons] at h
  rcases h with rfl | h
  ·rw[q];intro w;cases w
  ·exact RepOs.feet_no r h z
 |.tup ts,_,⟨b,vs,e,q,r⟩,h,z=>by
  subst e
  simp only[feetO,zO q,List.mem_cons] at h
  rcases h with rfl | h
  ·rw[q];intro w;cases w
  ·exact RepOs.feet_no r h z
theorem RepOs.feet_no {a:Addr}:∀ {ts:List OT} {vs:List V},RepOs K F H ts vs->a∈feetOs H ts vs->∀z,H a≠some (.own z)
 | [],_,_,h,_=>by simp[feetOs] at h
 |t::ts,_,⟨v,r,e,h1,h2⟩,h,z=>by
  subst e
  simp only[feetOs,List.mem_append] at h
  rcases h with h | h
  ·exact RepO.feet_no h1 h z
  ·exact RepOs.feet_no h2 h z
end
mutual
theorem RepO.read (s:Same F H):∀ {t:OT} {v:V},RepO K F H t v->Rp K H t.erase v
 |.frz _,_,r=>Rp.mono s r
 |.lst ts,_,⟨b,vs,e,q,r⟩=>⟨b,vs,e,q,RepOs.read s r⟩
 |.tup ts,_,⟨b,vs,e,q,r⟩=>⟨b,vs,e,q,RepOs.read s r⟩
theorem RepOs.read (s:Same F H):∀ {ts:List OT} {vs:List V},RepOs K F H ts vs->Rps K H (erases ts) vs
 | [],_,r=>r
 |t::ts,_,⟨v,r,e,h1,h2⟩=>⟨v,r,e,RepO.read s h1,RepOs.read s h2⟩
end
def addF (F H:Hp)(as:List Addr):Hp:=λb=>if b∈as then H b else F b
mutual
theorem RepO.fz {as:List Addr}(f:Same F (addF F H as)):∀ {t:OT} {v:V},RepO K F H t v->(∀a∈feetO H t v,a∈as)->Rp K (addF F H as) t.erase v
 |.frz _,_,r,_=>Rp.mono f r
 |.lst ts,_,⟨b,vs,e,q,r⟩,h=>by
  subst e
  simp only[feetO,zM q] at h
  exact⟨b,vs,rfl,by unfold addF;rw[if_pos (h b (by simp))];exact q,RepOs.fz f r λa ha=>h a (by simp[ha])⟩
 |.tup ts,_,⟨b,vs,e,q,r⟩,h=>by
  subst e
  simp only[feetO,zO q] at h
  exact⟨b,vs,rfl,by unfold addF;rw[if_pos (h b (by simp))];exact q,RepOs.fz f r λa ha=>h a (by simp[ha])⟩
theorem RepOs.fz {as:List Addr}(f:Same F (addF F H as)):∀ {ts:List OT} {vs:List V},RepOs K F H ts vs->(∀a∈feetOs H ts vs,a∈as)->Rps K (addF F H as) (erases ts) vs
 | [],_,r,_=>r
 |t::ts,_,⟨v,r,e,h1,h2⟩,h=>by
  subst e
  simp only[feetOs] at h
  exact⟨v,r,rfl,RepO.fz f h1 λa ha=>h a (by simp[ha]),RepOs.fz f h2 λa ha=>h a (by simp[ha])⟩
end
theorem vi {as:List Addr}(h:∀a∈as,F a=none):Same F (addF F H as):=λb u e=>by
 unfold addF
 rw[if_neg λz=>by rw[h b z] at e;cases e]
 exact e
end
def Rkv (K:KW)(F:Hp)(kvs:List (Key×D))(vs:List (Key×V)):Prop:=Paired (λp q=>p.1=q.1/\Rp K F p.2 q.2) kvs vs
theorem Rkv.mono {K:KW}{F F':Hp}(s:Same F F'){kvs:List (Key×D)}{vs:List (Key×V)}(r:Rkv K F kvs vs):Rkv K F' kvs vs:=Paired.mapP r λ_ _ h=>⟨h.1,h.2.mono s⟩
inductive En where
 |val (d:D) | acc (ds:List D) | bor (ds:List D) | oac (a dx C:Addr) (fs:List Str) (ds:List D) | tre (t:OT)
  |dct (oa:Option Addr) (kvs:List (Key×D)) | dbo (kvs:List (Key×D))
  |exn (a:Addr)
abbrev EnvD:=List (Option En)
structure Bs where
 F0:Hp
 H0:Hp
def RepE (K:KW)(B:Bs)(F H:Hp):En->V->Prop
 |.val d,v=>Rp K F d v
 |.acc ds,v=>∃a vs,v=.ref a/\H a=some (.lst vs)/\F a=none/\B.H0 a=none/\Rps K F ds vs
 |.bor ds,v=>∃a vs,v=.ref a/\B.H0 a=some (.lst vs)/\Rps K F ds vs
 |.oac a dx C fs ds,v=>∃vs,v=.ref a/\H a=some (.ins C dx (fs.zip vs))/\fs.length=vs.length/\F a=none/\B.H0 a=none/\Rps K F ds vs/\H dx=some (.own a)/\F dx=none/\B.H0 dx=none
 |.tre t,v=>RepO K F H t v/\(feetO H t v).Nodup/\∀a∈feetO H t v,F a=none/\B.H0 a=none
 |.dct oa kvs,v=>∃a ob vs,v=.ref a/\H a=some (DX K.w a ob vs)/\F a=none/\B.H0 a=none/\Rkv K F kvs vs/\∀b,oa=some b->b=a
 |.dbo kvs,v=>∃a ob vs,v=.ref a/\B.H0 a=some (DX K.w a ob vs)/\Rkv K F kvs vs
 |.exn a,v=>v=.ref a
def En.own:En->Bool
 |.acc _=>true
 |.dct _ _=>true
 |.oac _ _ _ _ _=>true
 |_=>false
def feetE (H:Hp):En->V->List Addr
 |.acc _,v=>match v with
  |.ref a=>[a]
  |_=>[]
 |.oac _ _ _ _ _,v=>match v with
  |.ref a=>[a]
  |_=>[]
 |.tre t,v=>feetO H t v
 |.dct _ _,v=>match v with
  |.ref a=>[a]
  |_=>[]
 |_,_=>[]
theorem uo {H:Hp}{x:En}{a:Addr}(o:x.own=true):feetE H x (.ref a)=[a]:=by cases x<;>first | rfl | cases o
structure Rep (K:KW)(B:Bs)(F:Hp)(σ:St)(H:Hp)(ρ:EnvD):Prop where
 ex:Ext B.F0 B.H0 F H
 len:σ.length=ρ.length
 ents:∀(i:Nat) x,ρ[i]?=some (some x)->∃v,σ[i]?=some (some v)/\RepE K B F H x v
 dj:∀(i j:Nat) x y v w,ρ[i]?=some (some x)->ρ[j]?=some (some y)->σ[i]?=some (some v)->σ[j]?=some (some w)->i≠j->∀a∈feetE H x v,a∉feetE H y w
section
variable {K:KW}{B:Bs}{F F' H H':Hp}{σ:St}{ρ:EnvD}
theorem y1 {a:Addr}(e:Ext F H F' H')(h:F a=none)(hh:H a≠none):F' a=none:=by
 cases q:F' a with
 |none=>rfl
 |some o=>exact ((e.nw a (by rw[q];simp)).elim (λz=>(z h).elim) λz=>(hh z).elim)
theorem RepE.ext {x:En}{v:V}(r:RepE K B F H x v)(e:Ext F H F' H'):RepE K B F' H' x v:=by
 cases x with
 |val d=>exact Rp.mono e.ff r
 |acc ds=>
  obtain⟨a,vs,e1,e2,e3,e4,e5⟩:=r
  exact⟨a,vs,e1,e.hh _ _ e2,y1 e e3 (by rw[e2];simp),e4,e5.mono e.ff⟩
 |bor ds=>
  obtain⟨a,vs,e1,e2,e5⟩:=r
  exact⟨a,vs,e1,e2,e5.mono e.ff⟩
 |oac a dx C fs ds=>
  obtain⟨vs,e1,e2,el,e3,e4,e5,d1,d2,d3⟩:=r
  exact⟨vs,e1,e.hh _ _ e2,el,y1 e e3 (by rw[e2];simp),e4,e5.mono e.ff,e.hh _ _ d1,y1 e d2 (by rw[d1];simp),d3⟩
 |tre t=>
  obtain⟨r1,r2,r3⟩:=r
  obtain⟨s1,s2⟩:=RepO.ext e.ff e.hh r1
  refine⟨s1,by rw[s2];exact r2,λa ha=>?_⟩
  rw[s2] at ha
  exact⟨y1 e (r3 a ha).1 (RepO.feet r1 ha),(r3 a ha).2⟩
 |dct oa kvs=>
  obtain⟨a,ob,vs,e1,e2,e3,e4,e5,e6⟩:=r
  exact⟨a,ob,vs,e1,e.hh _ _ e2,y1 e e3 (by rw[e2];simp),e4,e5.mono e.ff,e6⟩
 |dbo kvs=>
  obtain⟨a,ob,vs,e1,e2,e5⟩:=r
  exact⟨a,ob,vs,e1,e2,e5.mono e.ff⟩
 |exn a=>exact r
theorem RepE.feet_ext {x:En}{v:V}(r:RepE K B F H x v)(e:Same H H'):feetE H' x v=feetE H x v:=by
 cases x with
 |tre t=>exact (RepO.ext (Same.refl F) e r.1).2
 |_=>rfl
theorem RepE.feet_at {x:En}{v:V}{a:Addr}(r:RepE K B F H x v)(h:a∈feetE H x v):H a≠none/\F a=none/\B.H0 a=none:=by
 cases x with
 |val d=>cases h
 |bor ds=>cases h
 |acc ds=>
  obtain⟨b,vs,rfl,e2,e3,e4,e5⟩:=r
  simp only[feetE,List.mem_singleton] at h
  subst h
  exact⟨by rw[e2];simp,e3,e4⟩
 |oac b dx C fs ds=>
  obtain⟨vs,rfl,e2,el,e3,e4,e5⟩:=r
  simp only[feetE,List.mem_singleton] at h
  subst h
  exact⟨by rw[e2];simp,e3,e4⟩
 |tre t=>exact⟨RepO.feet r.1 h,r.2.2 a h⟩
 |dct oa kvs=>
  obtain⟨b,ob,vs,rfl,e2,e3,e4,e5⟩:=r
  simp only[feetE,List.mem_singleton] at h
  subst h
  exact⟨by rw[e2];simp,e3,e4⟩
 |dbo kvs=>cases h
 |exn a=>cases h
theorem RepE.feet_no {x:En}{v:V}{a:Addr}(r:RepE K B F H x v)(h:a∈feetE H x v)(z:Addr):H a≠some (.own z):=by
 cases x with
 |val d=>cases h
 |bor ds=>cases h
 |acc ds=>
  obtain⟨b,vs,rfl,e2,_⟩:=r
  simp only[feetE,List.mem_singleton] at h
  subst h
  rw[e2];intro q;cases q
 |oac b dx C fs ds=>
  obtain⟨vs,rfl,e2,_⟩:=r
  simp only[feetE,List.mem_singleton] at h
  subst h
  rw[e2];intro q;cases q
 |tre t=>exact RepO.feet_no r.1 h z
 |dct oa kvs=>
  obtain⟨b,ob,vs,rfl,e2,_⟩:=r
  simp only[feetE,List.mem_singleton] at h
  subst h
  rw[e2];intro q;cases q
 |dbo kvs=>cases h
 |exn a=>cases h
theorem Rep.ext (r:Rep K B F σ H ρ)(e:Ext F H F' H'):Rep K B F' σ H' ρ:=by
 refine⟨r.ex.trans e,r.len,λi x h=>let ⟨v,h1,h2⟩:=r.ents i x h;⟨v,h1,h2.ext e⟩,λi j x y v w e1 e2 s1 s2 hne a ha hb=>?_⟩
 obtain⟨v',q1,p1⟩:=r.ents i x e1
 rw[s1] at q1;cases q1
 obtain⟨w',q2,p2⟩:=r.ents j y e2
 rw[s2] at q2;cases q2
 rw[p1.feet_ext e.hh] at ha
 rw[p2.feet_ext e.hh] at hb
 exact r.dj i j x y v w e1 e2 s1 s2 hne a ha hb
theorem Rep.fh (r:Rep K B F σ H ρ):Same F H:=r.ex.fh
theorem zQ {α:Type}{l:List α}{i j:Nat}{x y:α}(h:(l.set i x)[j]?=some y):(j=i/\x=y/\i < l.length)∨(j≠i/\l[j]?=some y):=by
 by_cases hj:j=i
 ·subst hj
  have hl:j < l.length:=by
   have:=(List.getElem?_eq_some_iff.mp h).1
   simpa using this
  rw[List.getElem?_set_self hl] at h
  cases h
  exact .inl ⟨rfl,rfl,hl⟩
 ·rw[List.getElem?_set_ne (Ne.symm hj)] at h
  exact .inr ⟨hj,h⟩
theorem Rep.seto (r:Rep K B F σ H ρ){i:Nat}{x:En}{v:V}(h:RepE K B F H x v)(hn:∀(j:Nat) y w,ρ[j]?=some (some y)->σ[j]?=some (some w)->j≠i->∀a∈feetE H x v,a∉feetE H y w):Rep K B F (σ.set i (some v)) H (ρ.set i (some x)):=by
 refine⟨r.ex,by simp[r.len],λj y e=>?_,λj k y z u w e1 e2 s1 s2 hne a ha hb=>?_⟩
 ·rcases zQ e with⟨rfl,q,hl⟩ | ⟨hj,e⟩
  ·cases q
   exact⟨v,List.getElem?_set_self (by rw[r.len];exact hl),h⟩
  ·obtain⟨w,h1,h2⟩:=r.ents j y e
   exact⟨w,by rw[List.getElem?_set_ne (Ne.symm hj)];exact h1,h2⟩
 ·rcases zQ e1 with⟨rfl,q1,_⟩ | ⟨hj,f1⟩<;>rcases zQ e2 with⟨rfl,q2,_⟩ | ⟨hk,f2⟩
  ·exact hne rfl
  ·cases q1
   rcases zQ s1 with⟨_,p1,_⟩ | ⟨z,_⟩
   ·cases p1
    rw[List.getElem?_set_ne (Ne.symm hk)] at s2
    exact hn k z w f2 s2 hk a ha hb
   ·exact (z rfl).elim
  ·cases q2
   rcases zQ s2 with⟨_,p2,_⟩ | ⟨z,_⟩
   ·cases p2
    rw[List.getElem?_set_ne (Ne.symm hj)] at s1
    exact hn j y u f1 s1 hj a hb ha
   ·exact (z rfl).elim
  ·rw[List.getElem?_set_ne (Ne.symm hj)] at s1
   rw[List.getElem?_set_ne (Ne.symm hk)] at s2
   exact r.dj j k y z u w f1 f2 s1 s2 hne a ha hb
theorem Rep.setv (r:Rep K B F σ H ρ){i:Nat}{d:D}{v:V}(h:Rp K F d v):Rep K B F (σ.set i (some v)) H (ρ.set i (some (.val d))) :=
 r.seto (x:=.val d) h λ_ _ _ _ _ _ a ha=>by cases ha
theorem RepE.other {x:En}{v:V}{a:Addr}{o:HO}(r:RepE K B F H x v)(hn:a∉feetE H x v)(h0:B.H0 a=none)(hw:∀z,H a≠some (.own z)):RepE K B F (upd H a o) x v/\feetE (upd H a o) x v=feetE H x v:=by
 cases x with
 |val d=>exact⟨r,rfl⟩
 |bor ds=>exact⟨r,rfl⟩
 |acc ds=>
  obtain⟨b,vs,rfl,q2,q3,q4,q5⟩:=r
  have hb:b≠a:=λz=>hn (by simp[feetE,z])
  exact⟨⟨b,vs,rfl,by rw[zk hb];exact q2,q3,q4,q5⟩,rfl⟩
 |oac b dx C fs ds=>
  obtain⟨vs,rfl,q2,ql,q3,q4,q5,d1,d2,d3⟩:=r
  have hb:b≠a:=λz=>hn (by simp[feetE,z])
  have hd:dx≠a:=λz=>hw b (by rw[<-z];exact d1)
  exact⟨⟨vs,rfl,by rw[zk hb];exact q2,ql,q3,q4,q5,by rw[zk hd];exact d1,d2,d3⟩,rfl⟩
 |tre t=>
  obtain⟨r1,r2,r3⟩:=r
  obtain⟨s1,s2⟩:=RepO.other (o:=o) r1 hn
  exact⟨⟨s1,by rw[s2];exact r2,λb hb=>r3 b (by rw[s2] at hb;exact hb)⟩,s2⟩
 |dct oa kvs=>
  obtain⟨b,ob,vs,rfl,q2,q3,q4,q5⟩:=r
  have hb:b≠a:=λz=>hn (by simp[feetE,z])
  exact⟨⟨b,ob,vs,rfl,by rw[zk hb];exact q2,q3,q4,q5⟩,rfl⟩
 |dbo kvs=>exact⟨r,rfl⟩
 |exn a=>exact⟨r,rfl⟩
theorem Rep.writeG (r:Rep K B F σ H ρ){i:Nat}{x y:En}{v:V}{a:Addr}{o:HO}(hi:ρ[i]?=some (some x))(hs:σ[i]?=some (some v))(ha:a∈feetE H x v)(hy:RepE K B F (upd H a o) y v)(hsub:∀b∈feetE (upd H a o) y v,b∈feetE H x v) :
  Rep K B F σ (upd H a o) (ρ.set i (some y)):=by
 have hl:i < ρ.length:=(List.getElem?_eq_some_iff.mp hi).1
 obtain⟨v',hv',rx⟩:=r.ents i x hi
 rw[hs] at hv';cases hv'
 obtain⟨_,hf,h0⟩:=rx.feet_at ha
 have oth:∀ {j:Nat} {z:En} {w:V},ρ[j]?=some (some z)->σ[j]?=some (some w)->j≠i->RepE K B F (upd H a o) z w/\feetE (upd H a o) z w=feetE H z w:=fun {j z w} e s hj=>by
  obtain⟨w',hw',rz⟩:=r.ents j z e
  rw[s] at hw';cases hw'
  exact rz.other (λhz=>r.dj i j x z v w hi e hs s (Ne.symm hj) a ha hz) h0 (rx.feet_no ha)
 refine⟨⟨r.ex.ff,λb u e=>?_,λb u e=>?_,r.ex.nw⟩,by simp[r.len],λj z e=>?_,λj k z w u t e1 e2 s1 s2 hne b hb hc=>?_⟩
 ·rw[zk (z8 e h0)];exact r.ex.hh b u e
 ·rw[zk (z8 e hf)];exact r.ex.fh b u e
 ·rcases zQ e with⟨rfl,q,_⟩ | ⟨hj,e⟩
  ·cases q;exact⟨v,hs,hy⟩
  ·obtain⟨w,h1,_⟩:=r.ents j z e
   exact⟨w,h1,(oth e h1 hj).1⟩
 ·rcases zQ e1 with⟨rfl,q1,_⟩ | ⟨hj,f1⟩<;>rcases zQ e2 with⟨rfl,q2,_⟩ | ⟨hk,f2⟩
  ·exact hne rfl
  ·cases q1
   rw[hs] at s1;cases s1
   rw[(oth f2 s2 hk).2] at hc
   exact r.dj _ k x w v t hi f2 hs s2 hne b (hsub b hb) hc
  ·cases q2
   rw[hs] at s2;cases s2
   rw[(oth f1 s1 hj).2] at hb
   exact r.dj j _ z x u v f1 hi s1 hs hne b hb (hsub b hc)
  ·rw[(oth f1 s1 hj).2] at hb
   rw[(oth f2 s2 hk).2] at hc
   exact r.dj j k z w u t f1 f2 s1 s2 hne b hb hc
theorem Rep.write (r:Rep K B F σ H ρ){i:Nat}{x y:En}{a:Addr}{o:HO}(hi:ρ[i]?=some (some x))(ho:x.own=true)(hs:σ[i]?=some (some (.ref a)))(hf:F a=none)(h0:B.H0 a=none)(hy:RepE K B F (upd H a o) y (.ref a))(hyo:y.own=true) :
  Rep K B F σ (upd H a o) (ρ.set i (some y)) :=
 r.writeG hi hs (by rw[uo ho];simp) hy λb hb=>by rw[uo hyo] at hb;rw[uo ho];exact hb
theorem Rep.frzG (r:Rep K B F σ H ρ){i:Nat}{x:En}{v:V}{d:D}(hi:ρ[i]?=some (some x))(hs:σ[i]?=some (some v))(hd:Rp K (addF F H (feetE H x v)) d v):Rep K B (addF F H (feetE H x v)) σ H (ρ.set i (some (.val d))):=by
 obtain⟨v',hv',rx⟩:=r.ents i x hi
 rw[hs] at hv';cases hv'
 have sf:Same F (addF F H (feetE H x v)):=vi λa ha=>(rx.feet_at ha).2.1
 have non:∀ {b:Addr},F b=none->b∉feetE H x v->addF F H (feetE H x v) b=none:=fun {b} h hn=>by unfold addF;rw[if_neg hn];exact h
 refine⟨⟨r.ex.ff.trans sf,r.ex.hh,λb u e=>?_,λb e=>?_⟩,by simp[r.len],λj z e=>?_,λj k z w u t e1 e2 s1 s2 hne b hb hc=>?_⟩
 ·unfold addF at e
  split at e
  ·exact e
  ·exact r.ex.fh b u e
 ·unfold addF at e
  split at e
  ·rename_i hb;exact .inr (rx.feet_at hb).2.2
  ·exact r.ex.nw b e
 ·rcases zQ e with⟨rfl,q,_⟩ | ⟨hj,e⟩
  ·cases q;exact⟨v,hs,hd⟩
  ·obtain⟨w,h1,h2⟩:=r.ents j z e
   refine⟨w,h1,?_⟩
   have hx:∀b∈feetE H z w,b∉feetE H x v:=λb hb hc=>r.dj j i z x w v e hi h1 hs hj b hb hc
   cases z with
   |val d=>exact Rp.mono sf h2
   |bor ds=>obtain⟨b,vs,q1,q2,q3⟩:=h2;exact⟨b,vs,q1,q2,q3.mono sf⟩
   |acc ds=>
    obtain⟨b,vs,rfl,q2,q3,q4,q5⟩:=h2
    exact⟨b,vs,rfl,q2,non q3 (hx b (by simp[feetE])),q4,q5.mono sf⟩
   |oac b dx C fs ds=>
    obtain⟨vs,rfl,q2,ql,q3,q4,q5,d1,d2,d3⟩:=h2
    exact⟨vs,rfl,q2,ql,non q3 (hx b (by simp[feetE])),q4,q5.mono sf,d1,non d2 (λhz=>rx.feet_no hz _ d1),d3⟩
   |tre t=>
    obtain⟨r1,r2,r3⟩:=h2
    exact⟨(RepO.ext sf (Same.refl H) r1).1,r2,λb hb=>⟨non (r3 b hb).1 (hx b hb),(r3 b hb).2⟩⟩
   |dct oa kvs=>
    obtain⟨b,ob,vs,rfl,q2,q3,q4,q5,q6⟩:=h2
    exact⟨b,ob,vs,rfl,q2,non q3 (hx b (by simp[feetE])),q4,q5.mono sf,q6⟩
   |dbo kvs=>obtain⟨b,ob,vs,q1,q2,q3⟩:=h2;exact⟨b,ob,vs,q1,q2,q3.mono sf⟩
   |exn a=>exact h2
 ·rcases zQ e1 with⟨rfl,q1,_⟩ | ⟨hj,f1⟩
  ·cases q1;cases hb
  ·rcases zQ e2 with⟨rfl,q2,_⟩ | ⟨hk,f2⟩
   ·cases q2;cases hc
   ·exact r.dj j k z w u t f1 f2 s1 s2 hne b hb hc
def frzE (i:Nat)(ρ:EnvD):EnvD:=match ρ[i]? with
 |some (some (.acc ds))=>ρ.set i (some (.val (.lst ds)))
 |some (some (.oac _ _ C fs ds))=>ρ.set i (some (.val (.obj C fs ds)))
 |some (some (.tre t))=>ρ.set i (some (.val t.erase))
 |_=>ρ
theorem Rep.frz (r:Rep K B F σ H ρ)(i:Nat):∃F',Same F F'/\Rep K B F' σ H (frzE i ρ):=by
 unfold frzE
 split
 ·rename_i ds hi
  obtain⟨v,hs,rx⟩:=r.ents i _ hi
  have sf:Same F (addF F H (feetE H (.acc ds) v)):=vi λa ha=>(rx.feet_at ha).2.1
  refine⟨_,sf,r.frzG hi hs ?_⟩
  obtain⟨a,vs,rfl,e2,e3,e4,e5⟩:=rx
  exact⟨a,vs,rfl,by unfold addF;rw[if_pos (by simp[feetE])];exact e2,e5.mono sf⟩
 ·rename_i a dx C fs ds hi
  obtain⟨v,hs,rx⟩:=r.ents i _ hi
  have sf:Same F (addF F H (feetE H (.oac a dx C fs ds) v)):=vi λb hb=>(rx.feet_at hb).2.1
  refine⟨_,sf,r.frzG hi hs ?_⟩
  obtain⟨vs,rfl,e2,el,e3,e4,e5,_⟩:=rx
  exact⟨a,dx,vs,rfl,by unfold addF;rw[if_pos (by simp[feetE])];exact e2,el,e5.mono sf⟩
 ·rename_i t hi
  obtain⟨v,hs,rx⟩:=r.ents i _ hi
  have sf:Same F (addF F H (feetE H (.tre t) v)):=vi λb hb=>(rx.feet_at hb).2.1
  exact⟨_,sf,r.frzG hi hs (RepO.fz sf rx.1 λa ha=>ha)⟩
 ·exact⟨F,Same.refl _,r⟩
end
abbrev Post (α:Type):=Hp->Hp->Hp->Hp->α->V->Prop
def lG {α:Type}(K:KW)(B:Bs)(post:Post α)(g:EnvD->Option α):TE:=λσ H Q=>
 ∃F ρ x,Rep K B F σ H ρ/\g ρ=some x/\∀v F' H',Ext F H F' H'->post F H F' H' x v->Q v H'
def pE (K:KW):Post D:=λ_ _ F' _ d v=>Rp K F' d v
def pR (K:KW):Post D:=λ_ _ F' H' d v=>Rq K F' H' d v
def pA (K:KW):Post (List D):=λ_ H F' H' ds v=>∃a vs,v=.ref a/\H a=none/\H' a=some (.lst vs)/\F' a=none/\Rps K F' ds vs
def DE (X:Cx)(B:Bs)(e:Expr)(g:EnvD->Option D):Prop:=PE X e (lG X.kw B (pE X.kw) g)
def DR (X:Cx)(B:Bs)(e:Expr)(g:EnvD->Option D):Prop:=PE X e (lG X.kw B (pR X.kw) g)
def DA (X:Cx)(B:Bs)(e:Expr)(g:EnvD->Option (List D)):Prop:=PE X e (lG X.kw B (pA X.kw) g)
def lT (K:KW)(B:Bs)(g:EnvD->Option Bool):TT:=λσ H Q=>∃F ρ b,Rep K B F σ H ρ/\g ρ=some b/\∀F' H',Ext F H F' H'->Q b H'
def DT (X:Cx)(B:Bs)(e:Expr)(g:EnvD->Option Bool):Prop:=PT X e (lT X.kw B g)
def DW (X:Cx)(B:Bs)(e:Expr)(g:EnvD->Option Bool):Prop:=PW X e (lT X.kw B g)
def lAs (K:KW)(B:Bs)(post:Post D)(g:EnvD->Option (List D)):TA:=λσ H Q=>
 ∃F ρ ds,Rep K B F σ H ρ/\g ρ=some ds/\∀vs F' H',Ext F H F' H'->Paired (λd v=>post F H F' H' d v) ds vs->Q vs H'
def DAs (X:Cx)(B:Bs)(es:List Expr)(g:EnvD->Option (List D)):Prop:=PA X es (lAs X.kw B (pE X.kw) g)
def DRs (X:Cx)(B:Bs)(es:List Expr)(g:EnvD->Option (List D)):Prop:=PA X es (lAs X.kw B (pR X.kw) g)
section
variable {X:Cx}{B:Bs}{e a b c:Expr}{es:List Expr}{pos:Pos}
theorem zi {t t':TE}(h:PE X e t)(k:∀σ H Q,t' σ H Q->t σ H Q):PE X e t':=λpins s σ H Q I q=>h pins s σ H Q I (k σ H Q q)
theorem vN {t t':TT}(h:PT X e t)(k:∀σ H Q,t' σ H Q->t σ H Q):PT X e t':=λpins s σ H Q I q=>h pins s σ H Q I (k σ H Q q)
theorem Zg {t t':TT}(h:PW X e t)(k:∀σ H Q,t' σ H Q->t σ H Q):PW X e t':=λwh pins s σ H Q I q=>h wh pins s σ H Q I (k σ H Q q)
theorem yo {t t':TA}(h:PA X es t)(k:∀σ H Q,t' σ H Q->t σ H Q):PA X es t':=λpo pins s σ H Q I q=>h po pins s σ H Q I (k σ H Q q)
theorem z7 {st:Stmt}{t t':TS}(h:PS X st t)(k:∀E σ H,t' E σ H->t E σ H):PS X st t':=λpins s σ H E I q=>h pins s σ H E I (k E σ H q)
theorem W4 {st:List Stmt}{t t':TS}(h:PSs X st t)(k:∀E σ H,t' E σ H->t E σ H):PSs X st t':=λpins s σ H E I q=>h pins s σ H E I (k E σ H q)
theorem je {tg:Expr}{t t':TI}(h:PI X tg e t)(k:∀σ H Q,t' σ H Q->t σ H Q):PI X tg e t':=λpins s σ H Q I q=>h pins s σ H Q I (k σ H Q q)
theorem DE.read {g:EnvD->Option D}(h:DE X B e g):DR X B e g :=
 zi h λσ H Q ⟨F,ρ,x,r,hg,k⟩=>⟨F,ρ,x,r,hg,λv F' H' e p=>k v F' H' e (.inl p)⟩
def gFz (g:EnvD->Option (List D)):EnvD->Option D:=λρ=>(g ρ).map D.lst
theorem DA.frz {g:EnvD->Option (List D)}(h:DA X B e g):DE X B e (gFz g) :=
 zi h λσ H Q ⟨F,ρ,x,r,hg,k⟩=>by
  unfold gFz at hg
  cases q:g ρ with
  |none=>rw[q] at hg;cases hg
  |some ds=>
   rw[q] at hg;cases hg
   refine⟨F,ρ,ds,r,q,λv F' H' e p=>?_⟩
   obtain⟨a,vs,rfl,p1,p2,p3,p4⟩:=p
   exact k _ (upd F' a (.lst vs)) H' (e.freeze p1 p3 p2) ⟨a,vs,rfl,zq,p4.mono (zW p3)⟩
theorem DA.read {g:EnvD->Option (List D)}(h:DA X B e g):DR X B e (gFz g):=h.frz.read
def gv (i:Nat):EnvD->Option D:=λρ=>match ρ[i]? with
 |some (some (.val d))=>some d
 |_=>none
def gr (i:Nat):EnvD->Option D:=λρ=>match ρ[i]? with
 |some (some (.val d))=>some d
 |some (some (.acc ds))=>some (.lst ds)
 |some (some (.bor ds))=>some (.lst ds)
 |_=>none
theorem ze (i:Nat){x:Str}(h:PE X (.Name x pos) (tVar i)):DE X B (.Name x pos) (gv i) :=
 zi h λσ H Q ⟨F,ρ,d,r,hg,k⟩=>by
  unfold gv at hg
  split at hg
  ·rename_i d' e
   cases hg
   obtain⟨v,h1,h2⟩:=r.ents i _ e
   exact⟨v,h1,k v F H (.refl r.fh) h2⟩
  ·cases hg
theorem za (i:Nat){x:Str}(h:PE X (.Name x pos) (tVar i)):DR X B (.Name x pos) (gr i) :=
 zi h λσ H Q ⟨F,ρ,d,r,hg,k⟩=>by
  unfold gr at hg
  split at hg
  ·rename_i d' e
   cases hg
   obtain⟨v,h1,h2⟩:=r.ents i _ e
   exact⟨v,h1,k v F H (.refl r.fh) (.inl h2)⟩
  ·rename_i ds e
   cases hg
   obtain⟨v,h1,a,vs,e1,e2,e3,e4,e5⟩:=r.ents i _ e
   exact⟨v,h1,k v F H (.refl r.fh) (.inr ⟨a,vs,ds,rfl,e1,e2,e5⟩)⟩
  ·rename_i ds e
   cases hg
   obtain⟨v,h1,a,vs,e1,e2,e5⟩:=r.ents i _ e
   exact⟨v,h1,k v F H (.refl r.fh) (.inr ⟨a,vs,ds,rfl,e1,r.ex.hh _ _ e2,e5⟩)⟩
  ·cases hg
def gc (d:D):EnvD->Option D:=λ_=>some d
theorem jQ {v:V}{d:D}(h:PE X e (tC v))(r:∀F,Rp X.kw F d v):DE X B e (gc d) :=
 zi h λσ H Q ⟨F,ρ,d',rr,hg,k⟩=>by cases hg;exact k v F H (.refl rr.fh) (r F)
theorem de_int {i:Int}{j}:DE X B (.Constant (.int i) j pos) (gc (.int i)):=jQ ur λ_=>rfl
theorem zY {i:Bool}{j}:DE X B (.Constant (.bool i) j pos) (gc (.bl i)):=jQ Qn λ_=>rfl
theorem qV {j}:DE X B (.Constant .none j pos) (gc .non):=jQ JI λ_=>rfl
theorem yu {x:Str}{j}:DE X B (.Constant (.str x) j pos) (gc (.str x)):=jQ Y2 λ_=>rfl
theorem vT {x:Str}{v:V}{u:Value}{d:D}(hg:Gl X x)(hm:X.mg x=some u)(r:RelV v u)(rd:∀F,Rp X.kw F d v)(hd:(x==("__debug__" : Str))=false:=by decide):DE X B (.Name x pos) (gc d) :=
 zi (WQ hg hm r hd) λσ H Q ⟨F,ρ,d',rr,hg,k⟩=>by cases hg;exact k v F H (.refl rr.fh) (rd F)
def g2 {γ:Type}(f:D->D->Option γ)(ga gb:EnvD->Option D):EnvD->Option γ:=λρ=>(ga ρ).bind λx=>(gb ρ).bind λy=>f x y
def OkR {γ:Type}(K:KW)(r:R2)(pc:Post γ)(f:D->D->Option γ):Prop :=
 ∀F H x y dx dy d Q,Same F H->Rq K F H dx x->Rq K F H dy y->f dx dy=some d->(∀v F' H',Ext F H F' H'->pc F H F' H' d v->Q v H')->r x y H Q
def Back {γ:Type}(pc:Post γ):Prop:=∀F H F1 H1 F' H' d v,Ext F H F1 H1->pc F1 H1 F' H' d v->pc F H F' H' d v
theorem wE {K:KW}:Back (pE K):=λ_ _ _ _ _ _ _ _ _ h=>h
theorem YX {K:KW}:Back (pA K):=λ_ _ _ _ _ _ _ _ e ⟨a,vs,h1,h2,h⟩=>⟨a,vs,h1,e.hh.free h2,h⟩
theorem op2 {γ:Type}{r:R2}{pc:Post γ}{f:D->D->Option γ}(hb:Back pc)(hr:OkR X.kw r pc f){ga gb:EnvD->Option D}{σ:St}{H:Hp}{Q:VK}(h:lG X.kw B pc (g2 f ga gb) σ H Q) :
  tOp r (lG X.kw B (pR X.kw) ga) (lG X.kw B (pR X.kw) gb) σ H Q:=by
 obtain⟨F,ρ,d,rr,hg,k⟩:=h
 unfold g2 at hg
 cases qa:ga ρ with
 |none=>rw[qa] at hg;cases hg
 |some dx=>
  cases qb:gb ρ with
  |none=>rw[qa,qb] at hg;cases hg
  |some dy=>
   rw[qa,qb] at hg
   refine⟨F,ρ,dx,rr,qa,λx F1 H1 e1 p1=>⟨F1,ρ,dy,rr.ext e1,qb,λy F2 H2 e2 p2=>?_⟩⟩
   exact hr F2 H2 x y dx dy d Q e2.fh (p1.mono e2.ff e2.hh) p2 hg λv F' H' e p=>k v F' H' (e1.trans (e2.trans e)) (hb _ _ _ _ _ _ _ _ (e1.trans e2) p)
theorem yZ {op:Operator}{r:R2}{f:D->D->Option D}{ga gb:EnvD->Option D}(ho:OpR X (binaryOp op) r)(hr:OkR X.kw r (pE X.kw) f)(ha:DR X B a ga)(hb:DR X B b gb):DE X B (.BinOp a op b pos) (g2 f ga gb) :=
 zi (ZG ho ha hb) λσ H Q h=>op2 wE hr h
theorem Wx {op:Operator}{r:R2}{f:D->D->Option (List D)}{ga gb:EnvD->Option D}(ho:OpR X (binaryOp op) r)(hr:OkR X.kw r (pA X.kw) f)(ha:DR X B a ga)(hb:DR X B b gb):DA X B (.BinOp a op b pos) (g2 f ga gb) :=
 zi (ZG ho ha hb) λσ H Q h=>op2 YX hr h
theorem yS {op:CmpOp}{r:R2}{f:D->D->Option D}{ga gb:EnvD->Option D}(ho:OpR X (compareOp op) r)(hr:OkR X.kw r (pE X.kw) f)(ha:DR X B a ga)(hb:DR X B b gb)(hm:behindInMarks op b=false):DE X B (.Compare a [op] [b] pos) (g2 f ga gb) :=
 zi (RR ho ha hb hm) λσ H Q h=>op2 wE hr h
theorem Kf {r:R2}{f:D->D->Option D}{ga gb:EnvD->Option D}(ho:IxR X r)(hr:OkR X.kw r (pE X.kw) f)(ha:DR X B a ga)(hb:DR X B b gb)(hs:vF b):DE X B (.Subscript a b pos) (g2 f ga gb) :=
 zi (uJ ho ha hb hs) λσ H Q h=>op2 wE hr h
def fI (C:Int->Int->Bool)(f:Int->Int->D):D->D->Option D
 |.int i,.int j=>if C i j then some (f i j) else none
 |_,_=>none
theorem okI {K:KW}{C:Int->Int->Prop}{p:Int->Int->Bool}{f:Int->Int->D}{g:Int->Int->V}(hp:∀i j,p i j=true->C i j)(hf:∀i j F,Rp K F (f i j) (g i j)):OkR K (rI C g) (pE K) (fI p f):=by
 intro F H x y dx dy d Q s rx ry e k
 unfold fI at e
 split at e
 ·rename_i i j
  split at e
  ·rename_i hc
   cases e
   exact⟨i,j,rx.int,ry.int,hp i j hc,k _ F H (.refl s) (hf i j F)⟩
  ·cases e
 ·cases e
theorem okI0 {K:KW}{f:Int->Int->D}{g:Int->Int->V}(hf:∀i j F,Rp K F (f i j) (g i j)):OkR K (rI0 g) (pE K) (fI (λ_ _=>true) f):=by
 intro F H x y dx dy d Q s rx ry e k
 unfold fI at e
 split at e
 ·rename_i i j
  rw[if_pos rfl] at e
  cases e
  exact⟨i,j,rx.int,ry.int,k _ F H (.refl s) (hf i j F)⟩
 ·cases e
def fSub:=fI (λ_ _=>true) λi j=>.int (i - j)
def LIM:Int:=18446744073709551616
def fMul:=fI (λi j=>(decide (-LIM < i)&&decide (i < LIM))||(decide (-LIM < j)&&decide (j < LIM))) λi j=>.int (i * j)
def fDiv:=fI (λ_ j=>decide (0 < j)&&decide (j < 1073741824)) λi j=>.int (i / j)
def fMod:=fI (λ_ j=>decide (0 < j)) λi j=>.int (i % j)
def fShr:=fI (λ_ j=>decide (0<=j)) λi j=>.int (i / 2 ^ j.toNat)
def fAnd:=fI (λ_ _=>true) λi j=>.int (Builtin.bitAnd i j)
def fPow:=fI (λi j=>decide (0<=j)&&decide (j<=1000000)&&decide (i.natAbs < 18446744073709551616)) λi j=>.int (i ^ j.toNat)
variable {ga gb:EnvD->Option D}
theorem xf (ha:DR X B a ga)(hb:DR X B b gb):DE X B (.BinOp a .Sub b pos) (g2 fSub ga gb):=yZ RI (okI0 λ_ _ _=>rfl) ha hb
theorem xw (ha:DR X B a ga)(hb:DR X B b gb):DE X B (.BinOp a .Mult b pos) (g2 fMul ga gb):=yZ Kn (okI (λi j h=>by
 simp only[Bool.or_eq_true,Bool.and_eq_true,decide_eq_true_eq] at h
 unfold LIM at h
 rcases h with⟨h1,h2⟩ | ⟨h1,h2⟩
 ·exact .inl ⟨by omega,by omega⟩
 ·exact .inr ⟨by omega,by omega⟩) λ_ _ _=>rfl) ha hb
theorem xJ (ha:DR X B a ga)(hb:DR X B b gb):DE X B (.BinOp a .FloorDiv b pos) (g2 fDiv ga gb):=yZ UZ (okI (λi j h=>by
 simp only[Bool.and_eq_true,decide_eq_true_eq] at h
 exact h) λ_ _ _=>rfl) ha hb
theorem zP (ha:DR X B a ga)(hb:DR X B b gb):DE X B (.BinOp a .Mod b pos) (g2 fMod ga gb):=yZ Jm (okI (λi j h=>by
 simp only[decide_eq_true_eq] at h
 exact h) λ_ _ _=>rfl) ha hb
theorem GJ (ha:DR X B a ga)(hb:DR X B b gb):DE X B (.BinOp a .RShift b pos) (g2 fShr ga gb):=yZ JQ (okI (λi j h=>by
 simp only[decide_eq_true_eq] at h
 exact h) λ_ _ _=>rfl) ha hb
theorem zai (ha:DR X B a ga)(hb:DR X B b gb):DE X B (.BinOp a .BitAnd b pos) (g2 fAnd ga gb):=yZ Qd (okI0 λ_ _ _=>rfl) ha hb
def fLt:=fI (λ_ _=>true) λi j=>.bl (decide (i < j))
def fLe:=fI (λ_ _=>true) λi j=>.bl (decide (i<=j))
def fGt:=fI (λ_ _=>true) λi j=>.bl (decide (j < i))
theorem wF {K:KW}:OkR K (rI0 λi j=>.bl (decide (i < j))) (pE K) fLt:=okI0 λ_ _ _=>rfl
theorem jg {K:KW}:OkR K (rI0 λi j=>.bl (decide (i<=j))) (pE K) fLe:=okI0 λ_ _ _=>rfl
theorem wt {K:KW}:OkR K (rI0 λi j=>.bl (decide (j < i))) (pE K) fGt:=okI0 λ_ _ _=>rfl
def TOP:Nat:=1000000
theorem ya {n:Nat}(h:n<=TOP):n<=sizeLine:=Nat.le_trans h (by decide)
theorem QJ {n:Nat}(h:n<=TOP):n < sizeLine:=Nat.lt_of_le_of_lt h (by decide)
def fIx:D->D->Option D
 |.lst xs,.int i=>atI xs i
 |.tup xs,.int i=>atI xs i
 |.scr ns,.int i=>(atI ns i).map D.int
 |_,_=>none
theorem Yg {K:KW}{F:Hp}{ds:List D}{vs:List V}{i:Int}{d:D}(r:Rps K F ds vs)(h:atI ds i=some d):∃v,atI vs i=some v/\Rp K F d v:=by
 unfold atI at h ⊢
 rw[<-r.length]
 cases q:ixN ds.length i with
 |none=>rw[q] at h;cases h
 |some j=>rw[q] at h;exact r.get h
theorem kc {K:KW}:OkR K (rIx K) (pE K) fIx:=by
 intro F H x y dx dy d Q s rx ry e k
 unfold fIx at e
 split at e
 ·rename_i xs i
  obtain⟨p,vs,rfl,h1,h2⟩:=rx.lst s
  obtain⟨v,h3,h4⟩:=Yg h2 e
  exact .inl ⟨p,vs,i,v,rfl,ry.int,.of h1,h3,k _ F H (.refl s) h4⟩
 ·rename_i xs i
  obtain⟨p,vs,rfl,h1,h2⟩:=rx.tup s
  obtain⟨v,h3,h4⟩:=Yg h2 e
  exact .inr (.inl ⟨p,vs,i,v,rfl,ry.int,.of h1,h3,k _ F H (.refl s) h4⟩)
 ·rename_i ns i
  obtain⟨p,rfl,h1⟩:=rx.scr s
  cases q:atI ns i with
  |none=>rw[q] at e;cases e
  |some n=>
   rw[q] at e
   cases e
   refine .inl ⟨p,_,i,.int n,rfl,ry.int,h1,?_,k _ F H (.refl s) rfl⟩
   unfold atI at q ⊢
   rw[List.length_map]
   cases q':ixN ns.length i with
   |none=>rw[q'] at q;cases q
   |some j=>
    rw[q'] at q
    have q:ns[j]?=some n:=q
    show (ns.map V.int)[j]?=some (.int n)
    rw[List.getElem?_map,q];rfl
 ·cases e
end
mutual
def toP:D->PyData
 |.non=>.none
 |.bl b=>.bool b
 |.int i=>.int i
 |.str x=>.str x
 |.lst ds=>.list (toPs ds)
 |.tup ds=>.tuple (toPs ds)
 |.scr ns=>.list (ns.map PyData.int)
 |.obj _ _ _=>.dict []
 |.emp=>.dict []
def toPs:List D->List PyData
 | []=>[]
 |d::ds=>toP d::toPs ds
end
section
variable {X:Cx}{pins:List (Addr×Obj)}{σ:St}{F H:Hp}{s:Shared}
theorem Vw {h:Heap}:∀(ns:List Int) {us:List Value},Vals (ns.map V.int) us->∃as,ReadsAll h us (ns.map PyData.int) as
 | [],_,.nil=>⟨_,.nil⟩
 |n::ns,_,.cons r t=>by
  obtain⟨t',rfl⟩:=r
  obtain⟨as,q⟩:=Vw ns t
  exact⟨_,.cons (.int n t') q⟩
mutual
theorem Rp.reads (I:Inv X pins σ H s)(fh:Same F H):∀(d:D) {v:V} {u:Value},(toP d).canLay0=true->Rp X.kw F d v->RelV v u->∃as,Reads s.heap u (toP d) as
 |.non,_,_,_,h,r=>by subst h;cases r;exact⟨_,.none⟩
 |.bl b,_,_,_,h,r=>by subst h;cases r;exact⟨_,.bool b⟩
 |.int i,_,_,_,h,r=>by subst h;obtain⟨t,rfl⟩:=r;exact⟨_,.int i t⟩
 |.str x,_,_,_,h,r=>by subst h;obtain⟨t,rfl⟩:=r;exact⟨_,.str x t⟩
 |.lst ds,_,_,c,⟨a,vs,e,q,h⟩,r=>by
  subst e;cases r
  obtain⟨z,its,n,rv,e⟩:=(show ObjOk X.prog X.w H s.heap a (.lst vs) from I.hok a _ (fh _ _ q))
  obtain⟨as,t⟩:=Rps.reads I fh ds (show PyData.canLayAll0 (toPs ds)=true from c) h rv
  exact⟨_,.list e rfl rfl (by simpa using t)⟩
 |.tup ds,_,_,c,⟨a,vs,e,q,h⟩,r=>by
  subst e;cases r
  obtain⟨z,its,rv,o,e,hc,n,hd⟩:=(show ObjOk X.prog X.w H s.heap a (.tup vs) from I.hok a _ (fh _ _ q))
  obtain⟨as,t⟩:=Rps.reads I fh ds (show PyData.canLayAll0 (toPs ds)=true from c) h rv
  exact⟨_,.tuple e hc hd (by simpa using t)⟩
 |.scr ns,_,_,c,⟨a,e,q⟩,r=>by
  subst e;cases r
  obtain⟨its,rv,⟨o,n,e,hc,_,hd⟩,_⟩:=I.list (fh.seq q)
  obtain⟨as,t⟩:=Vw (h:=s.heap) ns rv
  exact⟨_,.list e hc hd (by simpa using t)⟩
 |.obj _ _ _,_,_,c,_,_=>by cases c
 |.emp,_,_,c,_,_=>by cases c
theorem Rps.reads (I:Inv X pins σ H s)(fh:Same F H):∀(ds:List D) {vs:List V} {us:List Value},PyData.canLayAll0 (toPs ds)=true->Rps X.kw F ds vs->Vals vs us->∃as,ReadsAll s.heap us (toPs ds) as
 | [],_,_,_,h,r=>by subst h;cases r;exact⟨_,.nil⟩
 |d::ds,_,_,c,⟨v,w,e,h,t⟩,r=>by
  subst e
  cases r with
  |cons r rr=>
   have c':((toP d).canLay0&&PyData.canLayAll0 (toPs ds))=true:=c
   obtain⟨c1,c2⟩:=Bool.and_eq_true_iff.mp c'
   obtain⟨as,q⟩:=Rp.reads I fh d c1 h r
   obtain⟨bs,p⟩:=Rps.reads I fh ds c2 t rr
   exact⟨_,.cons q p⟩
end
theorem Rq.reads (I:Inv X pins σ H s)(fh:Same F H){d:D}{v:V}{u:Value}(c:(toP d).canLay0=true)(h:Rq X.kw F H d v)(r:RelV v u):∃as,Reads s.heap u (toP d) as:=by
 rcases h with h | ⟨a,vs,ds,rfl,rfl,e,h⟩
 ·exact h.reads I fh d c r
 ·cases r
  obtain⟨z,its,n,rv,e⟩:=(show ObjOk X.prog X.w H s.heap a (.lst vs) from I.hok a _ e)
  obtain⟨as,t⟩:=Rps.reads I fh ds (show PyData.canLayAll0 (toPs ds)=true from c) h rv
  exact⟨_,.list e rfl rfl (by simpa using t)⟩
end
def eqOk (d:D):Bool:=SeqAt.shaped (toP d)
def eqD (d d':D):Bool:=PyData.eqv (toP d) (toP d')
def rEqD (K:KW)(neg:Bool):R2:=λx y H Q=>∃F d d',Same F H/\Rq K F H d x/\Rq K F H d' y/\eqOk d=true/\eqOk d'=true/\Q (.bl (if neg then !eqD d d' else eqD d d')) H
section
variable {X:Cx}{B:Bs}{e a b c:Expr}{es:List Expr}{pos:Pos}{ga gb:EnvD->Option D}
theorem zS (hu:X.A.units+64 < cLine):OpR X (compareOp .Eq) (rEqD X.kw false):=by
 intro pins s σ H x y v u Q I rx ry ⟨F,d,d',fh,h1,h2,o1,o2,q⟩
 obtain⟨as,ra⟩:=h1.reads I fh (SeqAt.canLay_of_shaped o1) rx
 obtain⟨bs,rb⟩:=h2.reads I fh (SeqAt.canLay_of_shaped o2) ry
 exact SeqAt.compareEq_shaped ra rb o1 o2 hu ⟨.bl (eqD d d'),H,I,rfl,q⟩
theorem yw (hu:X.A.units+64 < cLine):OpR X (compareOp .NotEq) (rEqD X.kw true):=by
 intro pins s σ H x y v u Q I rx ry ⟨F,d,d',fh,h1,h2,o1,o2,q⟩
 obtain⟨as,ra⟩:=h1.reads I fh (SeqAt.canLay_of_shaped o1) rx
 obtain⟨bs,rb⟩:=h2.reads I fh (SeqAt.canLay_of_shaped o2) ry
 exact SeqAt.compareNe_shaped ra rb o1 o2 hu ⟨.bl (!eqD d d'),H,I,rfl,q⟩
def fEq (neg:Bool):D->D->Option D:=λx y=>if eqOk x&&eqOk y then some (.bl (if neg then !eqD x y else eqD x y)) else none
theorem zB {K:KW}{neg:Bool}:OkR K (rEqD K neg) (pE K) (fEq neg):=by
 intro F H x y dx dy d Q s rx ry e k
 unfold fEq at e
 split at e
 ·rename_i hc
  cases e
  obtain⟨h1,h2⟩:=Bool.and_eq_true_iff.mp hc
  exact⟨F,dx,dy,s,rx,ry,h1,h2,k _ F H (.refl s) rfl⟩
 ·cases e
def isNon:D->Bool
 |.non=>true
 |_=>false
theorem KS {K:KW}{F H:Hp}{d:D}{v:V}(r:Rq K F H d v):decide (v=.non)=isNon d:=by
 rcases r with r | ⟨a,vs,ds,rfl,rfl,_⟩
 ·cases d with
  |non=>cases r;rfl
  |bl b=>cases r;rfl
  |int b=>cases r;rfl
  |str b=>cases r;rfl
  |lst ds=>obtain⟨a,vs,rfl,_⟩:=r;rfl
  |tup ds=>obtain⟨a,vs,rfl,_⟩:=r;rfl
  |scr ds=>obtain⟨a,rfl,_⟩:=r;rfl
  |obj C f ds=>obtain⟨a,dx,vs,rfl,_⟩:=r;rfl
  |emp=>obtain⟨a,rfl,_⟩:=r;rfl
 ·rfl
def fIs (neg:Bool):D->D->Option D
 |d,.non=>some (.bl (if neg then !isNon d else isNon d))
 |_,_=>none
theorem ZX {K:KW}:OkR K (λx y H Q=>y=.non/\Q (.bl (decide (x=.non))) H) (pE K) (fIs false):=by
 intro F H x y dx dy d Q s rx ry e k
 unfold fIs at e
 split at e
 ·cases e
  refine⟨ry.non,?_⟩
  rw[KS rx]
  exact k _ F H (.refl s) rfl
 ·cases e
def asB:D->Option Bool
 |.bl b=>some b
 |_=>none
def truD:D->Option Bool
 |.non=>some false
 |.bl b=>some b
 |.int i=>some (i != 0)
 |.str x=>if x.length<=TOP then some ((x.length:Int) != 0) else none
 |.lst ds=>some (!ds.isEmpty)
 |.tup ds=>some (!ds.isEmpty)
 |.scr ns=>some (!ns.isEmpty)
 |.obj _ _ _=>none
 |.emp=>none
theorem YA {K:KW}{F:Hp}{ds:List D}{vs:List V}(r:Rps K F ds vs):ds.isEmpty=vs.isEmpty:=by
 have:=r.length
 cases ds<;>cases vs<;>simp_all
theorem Rw {K:KW}{F H:Hp}(s:Same F H){d:D}{v:V}{b:Bool}(r:Rq K F H d v)(h:truD d=some b):TruV K v H b:=by
 cases d with
 |non=>cases r.non;cases h;rfl
 |bl x=>cases r.bl;cases h;rfl
 |int x=>cases r.int;cases h;rfl
 |str x=>
  cases r.str
  have h:(if x.length<=TOP then some ((x.length:Int) != 0) else none)=some b:=h
  split at h
  ·rename_i hc;cases h;exact⟨ya hc,rfl⟩
  ·cases h
 |lst ds=>obtain⟨a,vs,rfl,q,t⟩:=r.lst s;cases h;exact .inl ⟨vs,.of q,by rw[YA t]⟩
 |tup ds=>obtain⟨a,vs,rfl,q,t⟩:=r.tup s;cases h;exact .inr (.inl ⟨vs,.of q,by rw[YA t]⟩)
 |scr ns=>obtain⟨a,rfl,q⟩:=r.scr s;cases h;exact .inl ⟨_,q,by simp⟩
 |obj C f ds=>cases h
 |emp=>cases h
def gt (g:EnvD->Option D):EnvD->Option Bool:=λρ=>(g ρ).bind truD
def gb' (g:EnvD->Option D):EnvD->Option Bool:=λρ=>(g ρ).bind asB
theorem yc {g:EnvD->Option D}(ha:DR X B a g)(he:∀whole,isTrue a X.env whole=(do let v <-whole;standAt a.pos;holding [v] (truthy v))):DT X B a (gt g) :=
 vN (Kz ha he) λσ H Q ⟨F,ρ,b,r,hg,k⟩=>by
  unfold gt at hg
  cases q:g ρ with
  |none=>rw[q] at hg;cases hg
  |some d=>
   rw[q] at hg
   exact⟨F,ρ,d,r,q,λv F' H' e p=>⟨b,Rw e.fh p hg,k F' H' e⟩⟩
theorem z5 {op:CmpOp}{r:R2}{f:D->D->Option D}(ho:OpR X (compareOp op) r)(hr:OkR X.kw r (pE X.kw) f)(ha:DR X B a ga)(hb:DR X B b gb)(hm:behindInMarks op b=false):DT X B (.Compare a [op] [b] pos) (gb' (g2 f ga gb)) :=
 vN (YT ho ha hb hm) λσ H Q ⟨F,ρ,c,rr,hg,k⟩=>by
  unfold gb' at hg
  cases q:g2 f ga gb ρ with
  |none=>rw[q] at hg;cases hg
  |some d=>
   rw[q] at hg
   refine op2 wE hr ⟨F,ρ,d,rr,q,λv F' H' e p=>?_⟩
   cases d with
   |bl y=>cases hg;exact⟨c,p,k F' H' e⟩
   |_=>cases hg
def gAnd (ga gb:EnvD->Option Bool):EnvD->Option Bool:=λρ=>(ga ρ).bind λx=>if x then gb ρ else some false
def gOr (ga gb:EnvD->Option Bool):EnvD->Option Bool:=λρ=>(ga ρ).bind λx=>if x then some true else gb ρ
def gNot (ga:EnvD->Option Bool):EnvD->Option Bool:=λρ=>(ga ρ).map λx=>!x
variable {ta tb:EnvD->Option Bool}{rest:List Expr}
theorem wY (ha:DT X B a ta):DW X B (.BoolOp .And [a] pos) ta:=U1 ha
theorem xg (ha:DT X B a ta):DW X B (.BoolOp .Or [a] pos) ta:=KT ha
theorem wU (ha:DT X B a ta)(hb:DW X B (.BoolOp .And (b::rest) pos) tb):DW X B (.BoolOp .And (a::b::rest) pos) (gAnd ta tb) :=
 Zg (Gd ha hb) λσ H Q ⟨F,ρ,c,r,hg,k⟩=>by
  unfold gAnd at hg
  cases q:ta ρ with
  |none=>rw[q] at hg;cases hg
  |some x=>
   rw[q] at hg
   refine⟨F,ρ,x,r,q,λF1 H1 e1=>?_⟩
   cases x with
   |true=>exact iteT ⟨F1,ρ,c,r.ext e1,hg,λF2 H2 e2=>k F2 H2 (e1.trans e2)⟩
   |false=>cases hg;exact iteF (k F1 H1 e1)
theorem yp (ha:DT X B a ta)(hb:DW X B (.BoolOp .Or (b::rest) pos) tb):DW X B (.BoolOp .Or (a::b::rest) pos) (gOr ta tb) :=
 Zg (Rc ha hb) λσ H Q ⟨F,ρ,c,r,hg,k⟩=>by
  unfold gOr at hg
  cases q:ta ρ with
  |none=>rw[q] at hg;cases hg
  |some x=>
   rw[q] at hg
   refine⟨F,ρ,x,r,q,λF1 H1 e1=>?_⟩
   cases x with
   |true=>cases hg;exact iteT (k F1 H1 e1)
   |false=>exact iteF ⟨F1,ρ,c,r.ext e1,hg,λF2 H2 e2=>k F2 H2 (e1.trans e2)⟩
theorem yf (h:DW X B a ta):DT X B a ta:=PW.pt h
theorem yt (ha:DT X B a ta):DT X B (.UnaryOp .Not a pos) (gNot ta) :=
 vN (Ub ha) λσ H Q ⟨F,ρ,c,r,hg,k⟩=>by
  unfold gNot at hg
  cases q:ta ρ with
  |none=>rw[q] at hg;cases hg
  |some x=>rw[q] at hg;cases hg;exact⟨F,ρ,x,r,q,λF1 H1 e1=>k F1 H1 e1⟩
def gAndV (ga gb:EnvD->Option D):EnvD->Option D:=λρ=>((ga ρ).bind asB).bind λx=>if x then gb ρ else some (.bl false)
def gNotV (ga:EnvD->Option D):EnvD->Option D:=λρ=>((ga ρ).bind asB).map λx=>.bl (!x)
theorem kt {d:D}{b:Bool}(h:asB d=some b):d=.bl b:=by cases d<;>cases h;rfl
theorem bindB {g:EnvD->Option D}{ρ:EnvD}{α:Type}{f:Bool->Option α}{y:α}(h:((g ρ).bind asB).bind f=some y):∃b,g ρ=some (.bl b)/\f b=some y:=by
 cases q:g ρ with
 |none=>rw[q] at h;cases h
 |some d=>
  rw[q] at h
  cases q2:asB d with
  |none=>rw[show (some d).bind asB=asB d from rfl,q2] at h;cases h
  |some b=>rw[show (some d).bind asB=asB d from rfl,q2] at h;exact⟨b,by rw[kt q2],h⟩
theorem vA {op}(h:DE X B a ga):DE X B (.BoolOp op [a] pos) ga:=R7 h
theorem vM (ha:DE X B a ga)(hb:DE X B (.BoolOp .And (b::rest) pos) gb):DE X B (.BoolOp .And (a::b::rest) pos) (gAndV ga gb) :=
 zi (UD ha hb) λσ H Q ⟨F,ρ,d,r,hg,k⟩=>by
  obtain⟨x,q,hg⟩:=bindB hg
  refine⟨F,ρ,_,r,q,λv F1 H1 e1 p1=>⟨x,p1,?_⟩⟩
  cases x with
  |true=>exact iteT ⟨F1,ρ,d,r.ext e1,hg,λv F2 H2 e2 p2=>k v F2 H2 (e1.trans e2) p2⟩
  |false=>cases hg;exact iteF (k _ F1 H1 e1 rfl)
theorem Qp (ha:DE X B a ga):DE X B (.UnaryOp .Not a pos) (gNotV ga) :=
 zi (UJ ha) λσ H Q ⟨F,ρ,d,r,hg,k⟩=>by
  unfold gNotV at hg
  rw[Option.map_eq_bind] at hg
  obtain⟨x,q,hg⟩:=bindB hg
  cases hg
  exact⟨F,ρ,_,r,q,λv F1 H1 e1 p1=>⟨x,p1,k _ F1 H1 e1 rfl⟩⟩
def gIf (t:EnvD->Option Bool)(ga gb:EnvD->Option D):EnvD->Option D:=λρ=>(t ρ).bind λx=>if x then ga ρ else gb ρ
theorem RW (ht:DT X B c ta)(ha:DE X B a ga)(hb:DE X B b gb):DE X B (.IfExp c a b pos) (gIf ta ga gb) :=
 zi (W1 ht ha hb) λσ H Q ⟨F,ρ,d,r,hg,k⟩=>by
  unfold gIf at hg
  cases q:ta ρ with
  |none=>rw[q] at hg;cases hg
  |some x=>
   rw[q] at hg
   refine⟨F,ρ,x,r,q,λF1 H1 e1=>?_⟩
   cases x with
   |true=>exact iteT ⟨F1,ρ,d,r.ext e1,hg,λv F2 H2 e2 p2=>k v F2 H2 (e1.trans e2) p2⟩
   |false=>exact iteF ⟨F1,ρ,d,r.ext e1,hg,λv F2 H2 e2 p2=>k v F2 H2 (e1.trans e2) p2⟩
end
section
variable {X:Cx}{B:Bs}{e a b c:Expr}{es:List Expr}{pos:Pos}{ga gb gc':EnvD->Option D}
def g3 (f f':D->D->Option D)(ga gb gc:EnvD->Option D):EnvD->Option D:=λρ=>
 (ga ρ).bind λx=>(gb ρ).bind λy=>((f x y).bind asB).bind λk=>if k then (gc ρ).bind λz=>f' y z else some (.bl false)
theorem Qa {r r':R2}{f f':D->D->Option D}(hr:OkR X.kw r (pE X.kw) f)(hr':OkR X.kw r' (pE X.kw) f'){σ:St}{H:Hp}{Q:VK}(h:lG X.kw B (pE X.kw) (g3 f f' ga gb gc') σ H Q) :
  tChain r r' (lG X.kw B (pR X.kw) ga) (lG X.kw B (pR X.kw) gb) (lG X.kw B (pR X.kw) gc') σ H Q:=by
 obtain⟨F,ρ,d,rr,hg,k⟩:=h
 unfold g3 at hg
 cases qa:ga ρ with
 |none=>rw[qa] at hg;cases hg
 |some dx=>
  cases qb:gb ρ with
  |none=>rw[qa,qb] at hg;cases hg
  |some dy=>
   rw[qa,qb] at hg
   have hg:((f dx dy).bind asB).bind (λk=>if k then (gc' ρ).bind λz=>f' dy z else some (.bl false))=some d:=hg
   cases qf:f dx dy with
   |none=>rw[qf] at hg;cases hg
   |some z=>
    rw[qf] at hg
    cases qz:asB z with
    |none=>rw[show (some z).bind asB=asB z from rfl,qz] at hg;cases hg
    |some kk=>
     rw[show (some z).bind asB=asB z from rfl,qz] at hg
     rw[kt qz] at qf
     refine⟨F,ρ,dx,rr,qa,λx F1 H1 e1 p1=>⟨F1,ρ,dy,rr.ext e1,qb,λy F2 H2 e2 p2=>?_⟩⟩
     refine hr F2 H2 x y dx dy _ _ e2.fh (p1.mono e2.ff e2.hh) p2 qf λv F3 H3 e3 p3=>⟨kk,p3,?_⟩
     have hg:(if kk=true then (gc' ρ).bind λz=>f' dy z else some (.bl false))=some d:=hg
     cases kk with
     |false=>rw[if_neg (by decide)] at hg;cases hg;exact iteF (k _ F3 H3 (e1.trans (e2.trans e3)) rfl)
     |true=>
      rw[if_pos rfl] at hg
      refine iteT ?_
      cases qc:gc' ρ with
      |none=>rw[qc] at hg;cases hg
      |some dz=>
       rw[qc] at hg
       refine⟨F3,ρ,dz,rr.ext (e1.trans (e2.trans e3)),qc,λw F4 H4 e4 p4=>?_⟩
       exact hr' F4 H4 y w dy dz d Q e4.fh ((p2.mono e3.ff e3.hh).mono e4.ff e4.hh) p4 hg λv F5 H5 e5 p5=>k v F5 H5 (e1.trans (e2.trans (e3.trans (e4.trans e5)))) p5
theorem YF {op op':CmpOp}{r r':R2}{f f':D->D->Option D}(ho:OpR X (compareOp op) r)(ho':OpR X (compareOp op') r')(hr:OkR X.kw r (pE X.kw) f)(hr':OkR X.kw r' (pE X.kw) f')(ha:DR X B a ga)(hb:DR X B b gb)(hc:DR X B c gc')
  (hm:lastMarks [op,op'] [b,c]=false:=by with_unfolding_all rfl):DE X B (.Compare a [op,op'] [b,c] pos) (g3 f f' ga gb gc') :=
 zi (Jq ho ho' ha hb hc hm) λσ H Q h=>Qa hr hr' h
def gNil:EnvD->Option (List D):=λ_=>some []
def gCons' (g:EnvD->Option D)(gs:EnvD->Option (List D)):EnvD->Option (List D):=λρ=>(g ρ).bind λd=>(gs ρ).bind λds=>some (d::ds)
variable {g:EnvD->Option D}{gs:EnvD->Option (List D)}
theorem zw:DAs X B [] gNil:=yo yr λσ H Q ⟨F,ρ,ds,r,hg,k⟩=>by cases hg;exact k [] F H (.refl r.fh) .nil
theorem zE:DRs X B [] gNil:=yo yr λσ H Q ⟨F,ρ,ds,r,hg,k⟩=>by cases hg;exact k [] F H (.refl r.fh) .nil
theorem bind2 {α β γ:Type}{o:Option α}{p:Option β}{f:α->β->Option γ}{z:γ}(h:(o.bind λx=>p.bind λy=>f x y)=some z):∃x y,o=some x/\p=some y/\f x y=some z:=by
 cases o with
 |none=>cases h
 |some x=>
  cases p with
  |none=>cases h
  |some y=>exact⟨x,y,rfl,rfl,h⟩
theorem zh (ha:DE X B e g)(hr:DAs X B es gs)(hs:starEach (e::es) X.env=(false,eval e X.env)::starEach es X.env:=by rfl):DAs X B (e::es) (gCons' g gs) :=
 yo (zZ ha hr hs) λσ H Q ⟨F,ρ,ds,r,hg,k⟩=>by
  obtain⟨d,dr,q1,q2,q3⟩:=bind2 hg
  cases q3
  exact⟨F,ρ,d,r,q1,λv F1 H1 e1 p1=>⟨F1,ρ,dr,r.ext e1,q2,λvs F2 H2 e2 p2=>k _ F2 H2 (e1.trans e2) (.cons (Rp.mono e2.ff p1) p2)⟩⟩
theorem zA (ha:DR X B e g)(hr:DRs X B es gs)(hs:starEach (e::es) X.env=(false,eval e X.env)::starEach es X.env:=by rfl):DRs X B (e::es) (gCons' g gs) :=
 yo (zZ ha hr hs) λσ H Q ⟨F,ρ,ds,r,hg,k⟩=>by
  obtain⟨d,dr,q1,q2,q3⟩:=bind2 hg
  cases q3
  exact⟨F,ρ,d,r,q1,λv F1 H1 e1 p1=>⟨F1,ρ,dr,r.ext e1,q2,λvs F2 H2 e2 p2=>k _ F2 H2 (e1.trans e2) (.cons (p1.mono e2.ff e2.hh) p2)⟩⟩
theorem vH {K:KW}{F:Hp}:∀ {ds:List D} {vs:List V},Paired (λd v=>Rp K F d v) ds vs->Rps K F ds vs
 |_,_,.nil=>rfl
 |_,_,.cons r t=>⟨_,_,rfl,r,vH t⟩
def gTup' (gs:EnvD->Option (List D)):EnvD->Option D:=λρ=>(gs ρ).bind λds=>if ds.length<=TOP then some (.tup ds) else none
def gLst (gs:EnvD->Option (List D)):EnvD->Option (List D):=λρ=>(gs ρ).bind λds=>if ds.length<=TOP then some ds else none
theorem zU {x1}(h:DAs X B es gs):DE X B (.Tuple es x1 pos) (gTup' gs) :=
 zi (Yj h) λσ H Q ⟨F,ρ,d,r,hg,k⟩=>by
  unfold gTup' at hg
  cases q:gs ρ with
  |none=>rw[q] at hg;cases hg
  |some ds=>
   rw[q] at hg
   have hg:(if ds.length<=TOP then some (D.tup ds) else none)=some d:=hg
   split at hg
   ·rename_i hc
    cases hg
    refine⟨F,ρ,ds,r,q,λvs F1 H1 e1 p1=>⟨ya (by rw[<-(vH p1).length];exact hc),λp hp=>?_⟩⟩
    exact k _ (upd F1 p (.tup vs)) _ (e1.trans (.newF e1.fh hp)) ⟨p,vs,rfl,zq,(vH p1).mono (zW (e1.fh.free hp))⟩
   ·cases hg
theorem zI (h:DAs X B es gs):DA X B (.List es pos) (gLst gs) :=
 zi (Uz h) λσ H Q ⟨F,ρ,d,r,hg,k⟩=>by
  unfold gLst at hg
  cases q:gs ρ with
  |none=>rw[q] at hg;cases hg
  |some ds=>
   rw[q] at hg
   have hg:(if ds.length<=TOP then some ds else none)=some d:=hg
   split at hg
   ·rename_i hc
    cases hg
    refine⟨F,ρ,_,r,q,λvs F1 H1 e1 p1=>⟨ya (by rw[<-(vH p1).length];exact hc),λp hp=>?_⟩⟩
    exact k _ F1 _ (e1.trans (.new e1.fh hp)) ⟨p,vs,rfl,e1.hh.free hp,zq,e1.fh.free hp,vH p1⟩
   ·cases hg
def lO (K:KW)(B:Bs)(g:EnvD->Option (Option Int)):TO:=λσ H Q=>∃F ρ i,Rep K B F σ H ρ/\g ρ=some i/\∀F' H',Ext F H F' H'->Q i H'
def DO (X:Cx)(B:Bs)(e:Option Expr)(g:EnvD->Option (Option Int)):Prop:=PO X e (lO X.kw B g)
theorem WI {e:Option Expr}{t t':TO}(h:PO X e t)(k:∀σ H Q,t' σ H Q->t σ H Q):PO X e t':=λpins s σ H Q I q=>h pins s σ H Q I (k σ H Q q)
def gNone:EnvD->Option (Option Int):=λ_=>some none
theorem yn:DO X B none gNone:=WI Rt λσ H Q ⟨F,ρ,i,r,hg,k⟩=>by cases hg;exact k F H (.refl r.fh)
def asI:D->Option Int
 |.int i=>some i
 |_=>none
theorem km {d:D}{i:Int}(h:asI d=some i):d=.int i:=by cases d<;>cases h;rfl
def gSome (g:EnvD->Option D):EnvD->Option (Option Int):=λρ=>(g ρ).bind λd=>(asI d).map some
theorem yk (h:DR X B e g):DO X B (some e) (gSome g):=WI (GK h) λσ H Q ⟨F,ρ,i,r,hg,k⟩=>by
 unfold gSome at hg
 cases q:g ρ with
 |none=>rw[q] at hg;cases hg
 |some d=>
  rw[q] at hg
  cases q2:asI d with
  |none=>rw[show (some d).bind (λd=>(asI d).map some)=(asI d).map some from rfl,q2] at hg;cases hg
  |some j=>
   rw[show (some d).bind (λd=>(asI d).map some)=(asI d).map some from rfl,q2] at hg
   cases hg
   rw[km q2] at q
   exact⟨F,ρ,_,r,q,λv F1 H1 e1 p1=>⟨j,p1.int,k F1 H1 e1⟩⟩
def cutD {α:Type}(xs:List α)(lo hi:Option Int):List α:=(xs.drop (HT.sIx xs.length 0 lo)).take (HT.sIx xs.length xs.length hi - HT.sIx xs.length 0 lo)
def gSl (g:EnvD->Option D)(gl gh:EnvD->Option (Option Int)):EnvD->Option (List D):=λρ=>(g ρ).bind λd=>(gl ρ).bind λl=>(gh ρ).bind λh=>match d with
 |.lst ds=>some (cutD ds l h)
 |_=>none
theorem xk {lo hi:Option Expr}{gl gh:EnvD->Option (Option Int)}{p2:Pos}(he:DR X B e g)(hl:DO X B lo gl)(hh:DO X B hi gh):DA X B (.Subscript e (.Slice lo hi none p2) pos) (gSl g gl gh) :=
 zi (u0 Ro he hl hh) λσ H Q ⟨F,ρ,d,r,hg,k⟩=>by
  unfold gSl at hg
  cases q:g ρ with
  |none=>rw[q] at hg;cases hg
  |some x=>
   cases ql:gl ρ with
   |none=>rw[q,ql] at hg;cases hg
   |some l=>
    cases qh:gh ρ with
    |none=>rw[q,ql,qh] at hg;cases hg
    |some h=>
     rw[q,ql,qh] at hg
     cases x with
     |lst ds=>
      cases hg
      refine⟨F,ρ,_,r,q,λv F1 H1 e1 p1=>⟨F1,ρ,l,r.ext e1,ql,λF2 H2 e2=>⟨F2,ρ,h,r.ext (e1.trans e2),qh,λF3 H3 e3=>?_⟩⟩⟩
      have e:=e1.trans (e2.trans e3)
      obtain⟨a,vs,rfl,h1,h2⟩:=((p1.mono e2.ff e2.hh).mono e3.ff e3.hh).lst e3.fh
      refine⟨a,vs,rfl,.of h1,λp hp=>k _ F3 _ (e.trans (.new e.fh hp)) ⟨p,_,rfl,e.hh.free hp,zq,e.fh.free hp,?_⟩⟩
      unfold cutD cutV
      rw[<-h2.length]
      exact (h2.drop _).take _
     |_=>cases hg
def CallOk {γ:Type}(K:KW)(r:List V->Hp->VK->Prop)(pc:Post γ)(f:List D->Option γ):Prop :=
 ∀F H vs ds d Q,Same F H->Paired (λd v=>Rq K F H d v) ds vs->f ds=some d->(∀v F' H',Ext F H F' H'->pc F H F' H' d v->Q v H')->r vs H Q
def gB {γ:Type}(f:List D->Option γ)(gs:EnvD->Option (List D)):EnvD->Option γ:=λρ=>(gs ρ).bind f
theorem callB {γ:Type}{r:List V->Hp->VK->Prop}{pc:Post γ}{f:List D->Option γ}(hb:Back pc)(hr:CallOk X.kw r pc f){σ:St}{H:Hp}{Q:VK}(h:lG X.kw B pc (gB f gs) σ H Q):tCB r (lAs X.kw B (pR X.kw) gs) σ H Q:=by
 obtain⟨F,ρ,d,rr,hg,k⟩:=h
 unfold gB at hg
 cases q:gs ρ with
 |none=>rw[q] at hg;cases hg
 |some ds=>
  rw[q] at hg
  exact⟨F,ρ,ds,rr,q,λvs F1 H1 e1 p1=>hr F1 H1 vs ds d Q e1.fh p1 hg λv F' H' e p=>k v F' H' (e1.trans e) (hb _ _ _ _ _ _ _ _ e1 p)⟩
variable {x:Str}{p:Pos}{id T:String}
theorem qj {r:List V->Hp->VK->Prop}{f:List D->Option D}(hc:CallR X (.builtin id) r)(hr:CallOk X.kw r (pE X.kw) f)(hg:Gl X x)(hm:X.mg x=none)(hv:bootBuiltins x=some (.builtin id))(ha:DRs X B (e::es) gs)(hn:x ≠ "__name__" := by decide) (hdb:(x==("__debug__" : Str))=false:=by decide)
  (he:starEach (e::es) X.env=(false,eval e X.env)::starEach es X.env:=by rfl) (hpl:(backTo pos (starEach es X.env)).any (·.1)=false:=by rfl):DE X B (.Call (.Name x p) (e::es) [] pos) (gB f gs) :=
 zi (vW hc hg hm hv ha hn hdb he hpl) λσ H Q h=>callB wE hr h
theorem R8 {r:List V->Hp->VK->Prop}{f:List D->Option (List D)}(hc:CallR X (.type T) r)(hr:CallOk X.kw r (pA X.kw) f)(hg:Gl X x)(hm:X.mg x=none)(hv:bootBuiltins x=some (.type T))(ha:DRs X B (e::es) gs)(hn:x ≠ "__name__" := by decide) (hdb:(x==("__debug__" : Str))=false:=by decide)
  (he:starEach (e::es) X.env=(false,eval e X.env)::starEach es X.env:=by rfl) (hpl:(backTo pos (starEach es X.env)).any (·.1)=false:=by rfl):DA X B (.Call (.Name x p) (e::es) [] pos) (gB f gs) :=
 zi (kI hc hg hm hv ha hn hdb he hpl) λσ H Q h=>callB YX hr h
theorem RX {r:List V->Hp->VK->Prop}{f:List D->Option D}(hc:CallR X (.type T) r)(hr:CallOk X.kw r (pE X.kw) f)(hg:Gl X x)(hm:X.mg x=none)(hv:bootBuiltins x=some (.type T))(ha:DRs X B (e::es) gs)(hn:x ≠ "__name__" := by decide) (hdb:(x==("__debug__" : Str))=false:=by decide)
  (he:starEach (e::es) X.env=(false,eval e X.env)::starEach es X.env:=by rfl) (hpl:(backTo pos (starEach es X.env)).any (·.1)=false:=by rfl):DE X B (.Call (.Name x p) (e::es) [] pos) (gB f gs) :=
 zi (kI hc hg hm hv ha hn hdb he hpl) λσ H Q h=>callB wE hr h
def fLen:List D->Option D
 | [.lst ds]=>some (.int ds.length)
 | [.tup ds]=>some (.int ds.length)
 | [.scr ns]=>some (.int ns.length)
 | [.str x]=>if x.length<=TOP then some (.int x.length) else none
 |_=>none
theorem pair1 {R:D->V->Prop}{d:D}{vs:List V}(h:Paired R [d] vs):∃v,vs=[v]/\R d v:=by
 cases h with
 |cons r t=>cases t;exact⟨_,rfl,r⟩
theorem pair2 {R:D->V->Prop}{d d':D}{vs:List V}(h:Paired R [d,d'] vs):∃v v',vs=[v,v']/\R d v/\R d' v':=by
 cases h with
 |cons r t=>
  obtain⟨v',rfl,r'⟩:=pair1 t
  exact⟨_,v',rfl,r,r'⟩
theorem GR {K:KW}:CallOk K (λxs H Q=>∃x n,xs=[x]/\LenV K x H n/\Q (.int n) H) (pE K) fLen:=by
 intro F H vs ds d Q s hp e k
 unfold fLen at e
 split at e
 ·cases e
  obtain⟨v,rfl,r⟩:=pair1 hp
  obtain⟨a,ws,rfl,h1,h2⟩:=r.lst s
  exact⟨_,_,rfl,.inl ⟨ws,.of h1,h2.length⟩,k _ F H (.refl s) rfl⟩
 ·cases e
  obtain⟨v,rfl,r⟩:=pair1 hp
  obtain⟨a,ws,rfl,h1,h2⟩:=r.tup s
  exact⟨_,_,rfl,.inr ⟨ws,.of h1,h2.length⟩,k _ F H (.refl s) rfl⟩
 ·cases e
  obtain⟨v,rfl,r⟩:=pair1 hp
  obtain⟨a,rfl,h1⟩:=r.scr s
  exact⟨_,_,rfl,.inl ⟨_,h1,by simp⟩,k _ F H (.refl s) rfl⟩
 ·split at e
  ·rename_i hc
   cases e
   obtain⟨v,rfl,r⟩:=pair1 hp
   cases r.str
   exact⟨_,_,rfl,⟨ya hc,rfl⟩,k _ F H (.refl s) rfl⟩
  ·cases e
 ·cases e
def fMax:List D->Option D
 | [.int i,.int j]=>some (.int (if j > i then j else i))
 |_=>none
def fMin:List D->Option D
 | [.int i,.int j]=>some (.int (if j < i then j else i))
 |_=>none
theorem Ki {K:KW}:CallOk K (λxs H Q=>∃i j,xs=[.int i,.int j]/\Q (.int (if j > i then j else i)) H) (pE K) fMax:=by
 intro F H vs ds d Q s hp e k
 unfold fMax at e
 split at e
 ·cases e
  obtain⟨v,v',rfl,r,r'⟩:=pair2 hp
  cases r.int;cases r'.int
  exact⟨_,_,rfl,k _ F H (.refl s) rfl⟩
 ·cases e
theorem Re {K:KW}:CallOk K (λxs H Q=>∃i j,xs=[.int i,.int j]/\Q (.int (if j < i then j else i)) H) (pE K) fMin:=by
 intro F H vs ds d Q s hp e k
 unfold fMin at e
 split at e
 ·cases e
  obtain⟨v,v',rfl,r,r'⟩:=pair2 hp
  cases r.int;cases r'.int
  exact⟨_,_,rfl,k _ F H (.refl s) rfl⟩
 ·cases e
end
section
variable {X:Cx}{B:Bs}{e a b c:Expr}{es:List Expr}{pos p p2:Pos}{g ga gb:EnvD->Option D}{gs:EnvD->Option (List D)}
def tyD:D->Option String
 |.non=>some "NoneType"
 |.bl _=>some "bool"
 |.int _=>some "int"
 |.str _=>some "str"
 |.lst _=>some "list"
 |.tup _=>some "tuple"
 |.scr _=>none
 |.obj _ _ _=>none
 |.emp=>some "dict"
def subT (t T:String):Option Bool:=if t=T then some true else if t = "bool" /\ T = "int" then some true else if (t∈["NoneType","bool","int","str","list","tuple","dict"])/\(T∈["bool","int","str","list","tuple","dict"]) then some false else none
theorem ZO {K:KW}{F H:Hp}(s:Same F H){d:D}{v:V}{t:String}(r:Rq K F H d v)(h:tyD d=some t):TyOf K H v (.type t):=by
 cases d with
 |non=>cases r.non;cases h;exact .non
 |bl x=>cases r.bl;cases h;exact .bl x
 |int x=>cases r.int;cases h;exact .int x
 |str x=>cases r.str;cases h;exact .str x
 |lst ds=>obtain⟨a,vs,rfl,q,_⟩:=r.lst s;cases h;exact .lst q
 |tup ds=>obtain⟨a,vs,rfl,q,_⟩:=r.tup s;cases h;exact .tup q
 |scr ns=>cases h
 |obj C f ds=>cases h
 |emp=>obtain⟨a,rfl,q⟩:=r.one λ_ z=>(nomatch z);cases h;exact .dK (s _ _ q)
def gIs (T:String)(g:EnvD->Option D):EnvD->Option D:=λρ=>(g ρ).bind λd=>(tyD d).bind λt=>(subT t T).map D.bl
theorem Z3 {T:String}(hk:∀t b,subT t T=some b->PySem.W.kitOne X.kw (.type t) (.type T)=some b) :
  CallR X (.builtin "isinstance") (λxs H Q=>∃x t b,xs=[x,.ty T]/\TyOf X.kw H x (.type t)/\subT t T=some b/\Q (.bl b) H):=by
 intro pins s σ H vs us Q I r h
 obtain⟨x,t,b,rfl,ty,hb,q⟩:=h
 obtain⟨u,w,rfl,ru,rw'⟩:=vals2 r
 cases rw'
 exact VG I ru ty (hk t b hb) λtk=>⟨.bl b,H,I.tok tk,rfl,q⟩
theorem wO {T:String}{x:Str}(hk:∀t b,subT t T=some b->PySem.W.kitOne X.kw (.type t) (.type T)=some b)(hg:Gl X "isinstance") (hm:X.mg "isinstance" = none) (hgT:Gl X x) (hmT:X.mg x=none) (hvT:bootBuiltins x=some (.type T)) (ha:DR X B a g)
  (hnT:x ≠ "__name__" := by decide) (hdT:(x==("__debug__" : Str))=false:=by decide)
  (he:starEach [a,.Name x p2] X.env=(false,eval a X.env)::starEach [.Name x p2] X.env:=by rfl) (he2:starEach [.Name x p2] X.env=(false,eval (.Name x p2) X.env)::starEach [] X.env:=by rfl) (hpl:(backTo pos (starEach [.Name x p2] X.env)).any (·.1)=false:=by rfl) :
  DE X B (.Call (.Name "isinstance" p) [a,.Name x p2] [] pos) (gIs T g) :=
 zi (vW (Z3 (T:=T) hk) hg hm (by decide +kernel) (zZ ha (zZ (VX hgT hmT hvT (v:=.ty T) rfl hnT hdT) yr he2) he) (by decide) (by decide) he hpl) λσ H Q ⟨F,ρ,d,r,hg,k⟩=>by
  unfold gIs at hg
  cases q:g ρ with
  |none=>rw[q] at hg;cases hg
  |some x=>
   rw[q] at hg
   have hg:((tyD x).bind λt=>(subT t T).map D.bl)=some d:=hg
   cases q2:tyD x with
   |none=>rw[q2] at hg;cases hg
   |some t=>
    rw[q2] at hg
    have hg:(subT t T).map D.bl=some d:=hg
    cases q3:subT t T with
    |none=>rw[q3] at hg;cases hg
    |some y=>
     rw[q3] at hg
     cases hg
     exact⟨F,ρ,x,r,q,λv F1 H1 e1 p1=>⟨v,t,y,rfl,ZO e1.fh p1 q2,q3,k _ F1 H1 e1 rfl⟩⟩
theorem Ua (hc:X.calm=true):CallR X (.builtin "all") (λxs H Q=>∃(a:Addr) (bs:List Bool),xs=[.ref a]/\SqL X.kw H a (bs.map V.bl)/\Q (.bl (bs.all λx=>x)) H):=by
 intro pins s σ H vs us Q I r h
 obtain⟨a,bs,rfl,hq,q⟩:=h
 obtain⟨u,rfl,ru⟩:=vals1 r
 cases ru
 obtain⟨its,rv,pl,hz⟩:=I.list hq
 have hlt:a < s.heap.objs.size:=let ⟨o,n,e,_⟩:=pl;Heap.lt_size e
 have hl:bs.length=its.length:=by have:=rv.length;simpa using this
 refine call_all_walk (wpAny_pyIter_list pl.isList ⟨s.heap.objs.size,_,_,_,_,_,λi=>bs.getD i false,rfl,Walks.list (A:=X.A.in1) (I.ok.hd hc) s.heap.objs.size a (Nat.ne_of_lt hlt) its.toArray,⟨⟨_,Heap.get?_push_size _ rfl,rfl,rfl⟩,?_⟩,?_,λh' tk hk=>?_⟩)
 ·obtain⟨o,n,e,c1,c2,c3⟩:=pl
  exact⟨o,Heap.get?_push_of_some _ e,c1,n,c3⟩
 ·intro i v s' Q' E' hv hq'
  have hv:its[i]?=some v:=by simpa using hv
  have hi:i < bs.length:=by rw[hl];exact (List.getElem?_eq_some_iff.mp hv).1
  have hb:(bs.map V.bl)[i]?=some (.bl bs[i]):=by simp[hi]
  obtain⟨u,hu,ru⟩:=rv.get hb
  rw[hv] at hu;cases hu
  cases ru
  have e:bs.getD i false=bs[i]:=by simp[List.getD,hi]
  have hq':Q' (bs.getD i false) s':=hq'
  rw[e] at hq'
  exact wpAny_truthy_bool hq'
 ·have e:((List.range its.toArray.size).all λi=>bs.getD i false)=bs.all λx=>x:=by
   rw[List.size_toArray,<-hl,Bool.eq_iff_iff]
   simp only[List.all_eq_true,List.mem_range]
   constructor
   ·intro h x hx
    obtain⟨i,hi,e⟩:=List.mem_iff_getElem.mp hx
    have:=h i hi
    simpa[List.getD,hi,e] using this
   ·intro h i hi
    have:=h bs[i] (List.getElem_mem hi)
    simpa[List.getD,hi] using this
  rw[e]
  refine⟨.bl (bs.all λx=>x),H,I.kept (t':=tk) λb o e=>hk b o (λz=>?_) (Heap.get?_push_of_some _ e),rfl,q⟩
  have:b=s.heap.objs.size:=by simpa using z
  exact absurd (Heap.lt_size e) (by rw[this];exact Nat.lt_irrefl _)
def asBs:List D->Option (List Bool)
 | []=>some []
 |.bl b::r=>(asBs r).map (b::·)
 |_=>none
theorem Zp {K:KW}{F:Hp}:∀ {ds:List D} {vs:List V} {bs:List Bool},asBs ds=some bs->Rps K F ds vs->vs=bs.map V.bl
 | [],_,_,e,h=>by cases e;cases h;rfl
 |.bl b::r,_,_,e,⟨v,w,e1,h,t⟩=>by
  subst e1;cases h
  cases q:asBs r with
  |none=>rw[show asBs (.bl b::r)=(asBs r).map (b::·) from rfl,q] at e;cases e
  |some bs=>
   rw[show asBs (.bl b::r)=(asBs r).map (b::·) from rfl,q] at e
   cases e
   rw[Zp q t];rfl
 |.non::_,_,_,e,_=>by cases e
 |.int _::_,_,_,e,_=>by cases e
 |.str _::_,_,_,e,_=>by cases e
 |.lst _::_,_,_,e,_=>by cases e
 |.tup _::_,_,_,e,_=>by cases e
 |.scr _::_,_,_,e,_=>by cases e
 |.obj _ _ _::_,_,_,e,_=>by cases e
 |.emp::_,_,_,e,_=>by cases e
def fAll:List D->Option D
 | [.lst ds]=>(asBs ds).map λbs=>.bl (bs.all λx=>x)
 |_=>none
theorem GH {K:KW}:CallOk K (λxs H Q=>∃(a:Addr) (bs:List Bool),xs=[.ref a]/\SqL K H a (bs.map V.bl)/\Q (.bl (bs.all λx=>x)) H) (pE K) fAll:=by
 intro F H vs ds d Q s hp e k
 unfold fAll at e
 split at e
 ·rename_i ds
  obtain⟨v,rfl,r⟩:=pair1 hp
  obtain⟨a,ws,rfl,h1,h2⟩:=r.lst s
  cases q:asBs ds with
  |none=>rw[q] at e;cases e
  |some bs=>
   rw[q] at e
   cases e
   have:=Zp q h2
   subst this
   exact⟨a,bs,rfl,.of h1,k _ F H (.refl s) rfl⟩
 ·cases e
theorem zaw:CallR X (.type "list") (λxs H Q=>∃a vs,xs=[.ref a]/\(SqL X.kw H a vs∨SqT X.kw H a vs)/\∀p,H p=none->Q (.ref p) (upd H p (.lst vs))):=by
 intro pins s σ H vs us Q I r h
 obtain⟨a,ws,rfl,hq,q⟩:=h
 obtain⟨u,rfl,ru⟩:=vals1 r
 cases ru
 have fin:∀ {T:String} {o:Obj} {its:List Value} {n:Nat},(T = "list" ∨ T = "tuple")->s.heap.get? a=some o->o.cls=.type T->o.data=.seq its.toArray n->Vals ws its->ws.length<=sizeLine->wpAny (model X.prog X.w) X.A (call (.type "list") [.ref a]) (EP X pins σ Q) X.xe s:=by
  intro T o its n hT ho hc hd rv hz
  have hl:=rv.length
  refine call_list_seq a hT ho hc hd (λh' c' hk hn=>?_) (by rw[List.size_toArray,<-hl];exact hz)
  exact⟨.ref s.heap.objs.size,upd H s.heap.objs.size (.lst ws),I.laid (t':=s.toks) hk (Nat.le_refl _) ⟨hz,its,c',rv,hn⟩,rfl,q _ (I.hok.fresh (Nat.le_refl _))⟩
 rcases hq with hq | hq
 ·obtain⟨its,rv,⟨o,n,e,c1,c2,c3⟩,hz⟩:=I.list hq
  exact fin (.inl rfl) e c1 c3 rv hz
 ·obtain⟨its,rv,⟨o,e,c1,n,c3⟩,hz⟩:=I.tuple hq
  exact fin (.inr rfl) e c1 c3 rv hz
def fList:List D->Option (List D)
 | [.lst ds]=>some ds
 | [.tup ds]=>some ds
 | [.scr ns]=>some (ns.map D.int)
 |_=>none
theorem UC {K:KW}:CallOk K (λxs H Q=>∃a vs,xs=[.ref a]/\(SqL K H a vs∨SqT K H a vs)/\∀p,H p=none->Q (.ref p) (upd H p (.lst vs))) (pA K) fList:=by
 intro F H vs ds d Q s hp e k
 unfold fList at e
 split at e
 ·cases e
  obtain⟨v,rfl,r⟩:=pair1 hp
  obtain⟨a,ws,rfl,h1,h2⟩:=r.lst s
  exact⟨a,ws,rfl,.inl (.of h1),λp hp=>k _ F _ (.new s hp) ⟨p,ws,rfl,hp,zq,s.free hp,h2⟩⟩
 ·cases e
  obtain⟨v,rfl,r⟩:=pair1 hp
  obtain⟨a,ws,rfl,h1,h2⟩:=r.tup s
  exact⟨a,ws,rfl,.inr (.of h1),λp hp=>k _ F _ (.new s hp) ⟨p,ws,rfl,hp,zq,s.free hp,h2⟩⟩
 ·cases e
  obtain⟨v,rfl,r⟩:=pair1 hp
  obtain⟨a,rfl,h1⟩:=r.scr s
  exact⟨a,_,rfl,.inl h1,λp hp=>k _ F _ (.new s hp) ⟨p,_,rfl,hp,zq,s.free hp,Rps.ints _⟩⟩
 ·cases e
def ArgE (K:KW)(F H:Hp):En->V->Prop
 |.val d,v=>Rp K F d v
 |.bor ds,v=>∃a vs,v=.ref a/\H a=some (.lst vs)/\Rps K F ds vs
 |.dbo kvs,v=>∃a ob vs,v=.ref a/\H a=some (DX K.w a ob vs)/\Rkv K F kvs vs
 |.exn a,v=>v=.ref a
 |_,_=>False
theorem ArgE.ext {K:KW}{F H F' H':Hp}(e:Ext F H F' H'):∀ {x:En} {v:V},ArgE K F H x v->ArgE K F' H' x v
 |.val _,_,h=>Rp.mono e.ff h
 |.bor _,_,⟨a,vs,e1,e2,e3⟩=>⟨a,vs,e1,e.hh _ _ e2,e3.mono e.ff⟩
 |.acc _,_,h=>h
 |.oac _ _ _ _ _,_,h=>h
 |.tre _,_,h=>h
 |.dct _ _,_,h=>h
 |.dbo _,_,⟨a,ob,vs,e1,e2,e3⟩=>⟨a,ob,vs,e1,e.hh _ _ e2,e3.mono e.ff⟩
 |.exn _,_,h=>h
def pN (K:KW):Post En:=λ_ _ F' H' x v=>ArgE K F' H' x v
def DN (X:Cx)(B:Bs)(e:Expr)(g:EnvD->Option En):Prop:=PE X e (lG X.kw B (pN X.kw) g)
def lNs (K:KW)(B:Bs)(g:EnvD->Option (List En)):TA:=λσ H Q=>
 ∃F ρ xs,Rep K B F σ H ρ/\g ρ=some xs/\∀vs F' H',Ext F H F' H'->Paired (λx v=>ArgE K F' H' x v) xs vs->Q vs H'
def DNs (X:Cx)(B:Bs)(es:List Expr)(g:EnvD->Option (List En)):Prop:=PA X es (lNs X.kw B g)
def gVal (g:EnvD->Option D):EnvD->Option En:=λρ=>(g ρ).map En.val
theorem zp (h:DE X B e g):DN X B e (gVal g):=zi h λσ H Q ⟨F,ρ,x,r,hg,k⟩=>by
 unfold gVal at hg
 cases q:g ρ with
 |none=>rw[q] at hg;cases hg
 |some d=>rw[q] at hg;cases hg;exact⟨F,ρ,d,r,q,λv F' H' e p=>k v F' H' e p⟩
def gn (i:Nat):EnvD->Option En:=λρ=>match ρ[i]? with
 |some (some (.val d))=>some (.val d)
 |some (some (.acc ds))=>some (.bor ds)
 |some (some (.bor ds))=>some (.bor ds)
 |some (some (.dct _ kvs))=>some (.dbo kvs)
 |some (some (.dbo kvs))=>some (.dbo kvs)
 |_=>none
theorem zf (i:Nat){x:Str}(h:PE X (.Name x pos) (tVar i)):DN X B (.Name x pos) (gn i) :=
 zi h λσ H Q ⟨F,ρ,d,r,hg,k⟩=>by
  unfold gn at hg
  split at hg
  ·rename_i d' e
   cases hg
   obtain⟨v,h1,h2⟩:=r.ents i _ e
   exact⟨v,h1,k v F H (.refl r.fh) h2⟩
  ·rename_i ds e
   cases hg
   obtain⟨v,h1,a,vs,e1,e2,e3,e4,e5⟩:=r.ents i _ e
   exact⟨v,h1,k v F H (.refl r.fh) ⟨a,vs,e1,e2,e5⟩⟩
  ·rename_i ds e
   cases hg
   obtain⟨v,h1,a,vs,e1,e2,e5⟩:=r.ents i _ e
   exact⟨v,h1,k v F H (.refl r.fh) ⟨a,vs,e1,r.ex.hh _ _ e2,e5⟩⟩
  ·rename_i oa kvs e
   cases hg
   obtain⟨v,h1,a,ob,vs,e1,e2,e3,e4,e5,e6⟩:=r.ents i _ e
   exact⟨v,h1,k v F H (.refl r.fh) ⟨a,ob,vs,e1,e2,e5⟩⟩
  ·rename_i kvs e
   cases hg
   obtain⟨v,h1,a,ob,vs,e1,e2,e5⟩:=r.ents i _ e
   exact⟨v,h1,k v F H (.refl r.fh) ⟨a,ob,vs,e1,r.ex.hh _ _ e2,e5⟩⟩
  ·cases hg
def nNil:EnvD->Option (List En):=λ_=>some []
def nCons (g:EnvD->Option En)(gs:EnvD->Option (List En)):EnvD->Option (List En):=λρ=>(g ρ).bind λd=>(gs ρ).bind λds=>some (d::ds)
variable {gx:EnvD->Option En}{gxs:EnvD->Option (List En)}
theorem zj:DNs X B [] nNil:=yo yr λσ H Q ⟨F,ρ,ds,r,hg,k⟩=>by cases hg;exact k [] F H (.refl r.fh) .nil
theorem zb (ha:DN X B e gx)(hr:DNs X B es gxs)(hs:starEach (e::es) X.env=(false,eval e X.env)::starEach es X.env:=by rfl):DNs X B (e::es) (nCons gx gxs) :=
 yo (zZ ha hr hs) λσ H Q ⟨F,ρ,ds,r,hg,k⟩=>by
  obtain⟨d,dr,q1,q2,q3⟩:=bind2 hg
  cases q3
  exact⟨F,ρ,d,r,q1,λv F1 H1 e1 p1=>⟨F1,ρ,dr,r.ext e1,q2,λvs F2 H2 e2 p2=>k _ F2 H2 (e1.trans e2) (.cons (ArgE.ext e2 p1) p2)⟩⟩
def pSp (K:KW)(n:Nat)(m:List En->Option En):Sp:=λvs H Q _=>
 ∃F xs o,Same F H/\xs.length=n/\Paired (λx v=>ArgE K F H x v) xs vs/\m xs=some o/\∀v F' H',Ext F H F' H'->RepE K ⟨F,H⟩ F' H' o v->Q v H'
def frzO:En->Option D
 |.val d=>some d
 |.acc ds=>some (.lst ds)
 |.tre t=>some t.erase
 |_=>none
def accO:En->Option (List D)
 |.acc ds=>some ds
 |_=>none
theorem Ys {K:KW}{F H F' H':Hp}{o:En}{d:D}{v:V}(hd:frzO o=some d)(e:Ext F H F' H')(r:RepE K ⟨F,H⟩ F' H' o v):∃F2,Ext F H F2 H'/\Rp K F2 d v:=by
 cases o with
 |val x=>cases hd;exact⟨F',e,r⟩
 |acc ds=>
  cases hd
  obtain⟨a,vs,rfl,h1,h2,h3,h4⟩:=r
  exact⟨upd F' a (.lst vs),e.freeze h3 h2 h1,⟨a,vs,rfl,zq,h4.mono (zW h2)⟩⟩
 |tre t=>
  cases hd
  obtain⟨r1,r2,r3⟩:=r
  have sf:Same F' (addF F' H' (feetO H' t v)):=vi λa ha=>(r3 a ha).1
  refine⟨addF F' H' (feetO H' t v),⟨e.ff.trans sf,e.hh,λb u q=>?_,λb q=>?_⟩,RepO.fz sf r1 λa ha=>ha⟩
  ·unfold addF at q
   split at q
   ·exact q
   ·exact e.fh b u q
  ·unfold addF at q
   split at q
   ·rename_i hb;exact .inr (r3 b hb).2
   ·exact e.nw b q
 |_=>cases hd
def gCall {α:Type}(m:List En->Option En)(f:En->Option α)(gs:EnvD->Option (List En)):EnvD->Option α:=λρ=>((gs ρ).bind m).bind f
theorem bindC {α:Type}{m:List En->Option En}{f:En->Option α}{gs:EnvD->Option (List En)}{ρ:EnvD}{y:α}(h:gCall m f gs ρ=some y):∃xs o,gs ρ=some xs/\m xs=some o/\f o=some y:=by
 unfold gCall at h
 cases q:gs ρ with
 |none=>rw[q] at h;cases h
 |some xs=>
  rw[q] at h
  cases q2:m xs with
  |none=>rw[show (some xs).bind m=m xs from rfl,q2] at h;cases h
  |some o=>rw[show (some xs).bind m=m xs from rfl,q2] at h;exact⟨xs,o,rfl,q2,h⟩
theorem vx {α β:Type}{R:α->β->Prop}{l:List α}{r:List β}(h:Paired R l r):l.length=r.length:=Paired.length h
theorem Ka {n:Nat}{m:List En->Option En}(hm:∀xs o,m xs=some o->xs.length=n){E:XK}{σ:St}{H:Hp}{Q:VK}(h:lG X.kw B (pE X.kw) (gCall m frzO gxs) σ H Q):tCall (pSp X.kw n m) [] E (lNs X.kw B gxs) σ H Q:=by
 obtain⟨F,ρ,d,r,hg,k⟩:=h
 obtain⟨xs,o,q1,q2,q3⟩:=bindC hg
 refine⟨F,ρ,xs,r,q1,λvs F1 H1 e1 p1=>?_⟩
 show pSp X.kw n m (vs++[]) H1 Q E
 rw[List.append_nil]
 refine⟨F1,xs,o,e1.fh,hm xs o q2,p1,q2,λv F2 H2 e2 p2=>?_⟩
 obtain⟨F3,e3,p3⟩:=Ys q3 e2 p2
 exact k v F3 H2 (e1.trans e3) p3
theorem Jy {n:Nat}{m:List En->Option En}(hm:∀xs o,m xs=some o->xs.length=n){E:XK}{σ:St}{H:Hp}{Q:VK}(h:lG X.kw B (pA X.kw) (gCall m accO gxs) σ H Q):tCall (pSp X.kw n m) [] E (lNs X.kw B gxs) σ H Q:=by
 obtain⟨F,ρ,d,r,hg,k⟩:=h
 obtain⟨xs,o,q1,q2,q3⟩:=bindC hg
 refine⟨F,ρ,xs,r,q1,λvs F1 H1 e1 p1=>?_⟩
 show pSp X.kw n m (vs++[]) H1 Q E
 rw[List.append_nil]
 refine⟨F1,xs,o,e1.fh,hm xs o q2,p1,q2,λv F2 H2 e2 p2=>?_⟩
 cases o with
 |acc ds=>
  cases q3
  obtain⟨a,ws,h1,h2,h3,h4,h5⟩:=p2
  exact k v F2 H2 (e1.trans e2) ⟨a,ws,h1,e1.hh.free h4,h2,h3,h5⟩
 |_=>cases q3
def len? (n:Nat)(m:List En->Option En):List En->Option En:=λxs=>if xs.length=n then m xs else none
theorem xl {n:Nat}{m:List En->Option En}:∀xs o,len? n m xs=some o->xs.length=n:=λxs o h=>by
 unfold len? at h
 split at h
 ·assumption
 ·cases h
variable {x mm:Str}{f C:Addr}{fd:FuncData}{ps:List Str}{n k:Nat}{m:List En->Option En}{apos:Pos}{o:Expr}
theorem VY (F:FnOk X.prog X.w X.kw X.mg X.base CX0 k f fd ps (pSp X.kw n (len? n m)))(hr:Room k X.A)(hg:Gl X x)(hm:X.mg x=some (.ref f))(hk:PySem.W.keepIn X.kw (.ref f)=true)(hb:Binds X.kw fd ps [])
  (ha:DNs X B (e::es) gxs) (hdb:(x==("__debug__" : Str))=false:=by decide) (he:starEach (e::es) X.env=(false,eval e X.env)::starEach es X.env:=by rfl) (hpl:(backTo pos (starEach es X.env)).any (·.1)=false:=by rfl) :
  DE X B (.Call (.Name x p) (e::es) [] pos) (gCall (len? n m) frzO gxs) :=
 zi (wZ F hr hg hm hk hb .nil pass0 ha hdb he hpl) λσ H Q h=>Ka xl h
theorem Uo (F:FnOk X.prog X.w X.kw X.mg X.base CX0 k f fd ps (pSp X.kw n (len? n m)))(hr:Room k X.A)(hg:Gl X x)(hm:X.mg x=some (.ref f))(hk:PySem.W.keepIn X.kw (.ref f)=true)(hb:Binds X.kw fd ps [])
  (ha:DNs X B (e::es) gxs) (hdb:(x==("__debug__" : Str))=false:=by decide) (he:starEach (e::es) X.env=(false,eval e X.env)::starEach es X.env:=by rfl) (hpl:(backTo pos (starEach es X.env)).any (·.1)=false:=by rfl) :
  DA X B (.Call (.Name x p) (e::es) [] pos) (gCall (len? n m) accO gxs) :=
 zi (wZ F hr hg hm hk hb .nil pass0 ha hdb he hpl) λσ H Q h=>Jy xl h
end
def lookZ {α:Type}(f:Str):List Str->List α->Option α
 |k::ks,x::xs=>if f=k then some x else lookZ f ks xs
 |_,_=>none
def putZ {α:Type}(f:Str)(a:α):List Str->List α->List Str×List α
 |k::ks,x::xs=>if k=f then (k::ks,a::xs) else (k::(putZ f a ks xs).1,x::(putZ f a ks xs).2)
 |_,_=>([f],[a])
theorem qm {α:Type}{f:Str}:∀ {fs:List Str} {vs:List α},(fs.zip vs).lookup f=lookZ f fs vs
 | [],_=>by simp[lookZ]
 |_::_,[]=>by simp[lookZ]
 |k::ks,x::xs=>by
  rw[List.zip_cons_cons,List.lookup_cons]
  by_cases h:f=k
  ·subst h;simp[lookZ]
  ·rw[beq_eq_false_iff_ne.mpr h]
   simp only[lookZ,if_neg h]
   exact qm
theorem W0 {K:KW}{F:Hp}{f:Str}:∀ {fs:List Str} {ds:List D} {vs:List V} {d:D},Rps K F ds vs->lookZ f fs ds=some d->∃v,lookZ f fs vs=some v/\Rp K F d v
 | [],_,_,_,_,e=>by simp[lookZ] at e
 |_::_,[],_,_,_,e=>by simp[lookZ] at e
 |k::ks,x::xs,_,d,⟨v,r,e1,h,t⟩,e=>by
  subst e1
  simp only[lookZ] at e ⊢
  by_cases hk:f=k
  ·rw[if_pos hk] at e ⊢;cases e;exact⟨v,rfl,h⟩
  ·rw[if_neg hk] at e ⊢;exact W0 t e
theorem Y1 {f:Str}{v:V}:∀ {fs:List Str} {vs:List V},fs.length=vs.length->putF f v (fs.zip vs)=(putZ f v fs vs).1.zip (putZ f v fs vs).2/\(putZ f v fs vs).1.length=(putZ f v fs vs).2.length
 | [],[],_=>⟨rfl,rfl⟩
 | [],_::_,h=>by simp at h
 |_::_,[],h=>by simp at h
 |k::ks,x::xs,h=>by
  obtain⟨i1,i2⟩:=Y1 (f:=f) (v:=v) (fs:=ks) (vs:=xs) (by simpa using h)
  rw[List.zip_cons_cons]
  simp only[putF,putZ]
  by_cases hk:k=f
  ·rw[if_pos hk,if_pos hk]
   exact⟨rfl,by simpa using h⟩
  ·rw[if_neg hk,if_neg hk]
   exact⟨by rw[i1];rfl,by simpa using i2⟩
theorem Y0 {K:KW}{F:Hp}{f:Str}{d:D}{v:V}(hd:Rp K F d v):∀ {fs:List Str} {ds:List D} {vs:List V},fs.length=vs.length->Rps K F ds vs->(putZ f d fs ds).1=(putZ f v fs vs).1/\Rps K F (putZ f d fs ds).2 (putZ f v fs vs).2
 | [],ds,vs,_,r=>by
  cases ds<;>cases vs<;>exact⟨rfl,_,_,rfl,hd,rfl⟩
 |k::ks,[],_,h,r=>by cases r;simp at h
 |k::ks,x::xs,_,h,⟨w,r,e,hx,t⟩=>by
  subst e
  obtain⟨i1,i2⟩:=Y0 hd (fs:=ks) (by simpa using h) t
  simp only[putZ]
  by_cases hk:k=f
  ·rw[if_pos hk,if_pos hk];exact⟨rfl,_,_,rfl,hd,t⟩
  ·rw[if_neg hk,if_neg hk];exact⟨by rw[i1],_,_,rfl,hx,i2⟩
section
variable {X:Cx}{B:Bs}{e a b c o:Expr}{es:List Expr}{pos p apos:Pos}{g ga gb:EnvD->Option D}{gx:EnvD->Option En}{gxs:EnvD->Option (List En)}{C f:Addr}{fl mm x:Str}{fd:FuncData}{ps:List Str}{n k:Nat}{m:List En->Option En}
def gFld (C:Addr)(fl:Str)(g:EnvD->Option D):EnvD->Option D:=λρ=>(g ρ).bind λd=>match d with
 |.obj C' fs ds=>if C'=C then lookZ fl fs ds else none
 |_=>none
theorem Jc {ρ:EnvD}{d:D}(h:gFld C fl g ρ=some d):∃fs ds,g ρ=some (.obj C fs ds)/\lookZ fl fs ds=some d:=by
 unfold gFld at h
 cases q:g ρ with
 |none=>rw[q] at h;cases h
 |some x=>
  rw[q] at h
  cases x with
  |obj C' fs ds=>
   replace h:(if C'=C then lookZ fl fs ds else none)=some d:=h
   by_cases e:C'=C
   ·rw[if_pos e] at h;subst e;exact⟨fs,ds,rfl,h⟩
   ·rw[if_neg e] at h;cases h
  |_=>cases h
theorem z0 (cl:Cls X.kw C)(na:NoAttr X.kw C fl)(he:DE X B e g)(hb:attributeBase e fl X.env (eval e X.env)=eval e X.env:=by rfl):DE X B (.Attribute e fl pos) (gFld C fl g) :=
 zi (Qx he hb) λσ H Q ⟨F,ρ,d,r,hg,k⟩=>by
  obtain⟨fs,ds,q,hl⟩:=Jc hg
  refine⟨F,ρ,_,r,q,λv F1 H1 e1 p1=>?_⟩
  obtain⟨a,dx,vs,rfl,h1,h2,h3⟩:=p1
  obtain⟨w,h4,h5⟩:=W0 h3 hl
  exact⟨a,C,dx,_,w,rfl,e1.fh _ _ h1,cl,na,by rw[qm];exact h4,k w F1 H1 e1 h5⟩
def gMeth {α:Type}(C:Addr)(mm:Str)(m:List En->Option En)(f:En->Option α)(go:EnvD->Option D)(gs:EnvD->Option (List En)):EnvD->Option α:=λρ=>(go ρ).bind λd=>match d with
 |.obj C' fs ds=>if C'=C/\lookZ mm fs ds=none then ((gs ρ).bind λxs=>m (.val d::xs)).bind f else none
 |_=>none
theorem YG {α:Type}{f:En->Option α}{go:EnvD->Option D}{gs:EnvD->Option (List En)}{ρ:EnvD}{y:α}(h:gMeth C mm m f go gs ρ=some y) :
  ∃fs ds xs o,go ρ=some (.obj C fs ds)/\lookZ mm fs ds=none/\gs ρ=some xs/\m (.val (.obj C fs ds)::xs)=some o/\f o=some y:=by
 unfold gMeth at h
 cases q:go ρ with
 |none=>rw[q] at h;cases h
 |some x=>
  rw[q] at h
  cases x with
  |obj C' fs ds=>
   replace h:(if C'=C/\lookZ mm fs ds=none then ((gs ρ).bind λxs=>m (.val (.obj C' fs ds)::xs)).bind f else none)=some y:=h
   by_cases e:C'=C/\lookZ mm fs ds=none
   ·rw[if_pos e] at h
    obtain⟨e,hl⟩:=e
    subst e
    cases q2:gs ρ with
    |none=>rw[q2] at h;cases h
    |some xs=>
     rw[q2] at h
     replace h:(m (.val (.obj C' fs ds)::xs)).bind f=some y:=h
     cases q3:m (.val (.obj C' fs ds)::xs) with
     |none=>rw[q3] at h;cases h
     |some o=>rw[q3] at h;exact⟨fs,ds,xs,o,rfl,hl,rfl,q3,h⟩
   ·rw[if_neg e] at h;cases h
  |_=>cases h
theorem ki {α β:Type}{f:Str}:∀ {fs:List Str} {ds:List α} {vs:List β},ds.length=vs.length->lookZ f fs ds=none->lookZ f fs vs=none
 | [],_,_,_,_=>by simp[lookZ]
 |_::_,[],vs,h,_=>by
  cases vs with
  |nil=>simp[lookZ]
  |cons=>simp at h
 |_::_,_::_,[],h,_=>by simp at h
 |k::ks,x::xs,v::vs,h,e=>by
  simp only[lookZ] at e ⊢
  by_cases hk:f=k
  ·rw[if_pos hk] at e;cases e
  ·rw[if_neg hk] at e ⊢;exact ki (by simpa using h) e
theorem ZL {E:XK}{σ:St}{H:Hp}{Q:VK}(h:lG X.kw B (pE X.kw) (gMeth C mm (len? n m) frzO g gxs) σ H Q):tMeth C mm (pSp X.kw n (len? n m)) [] E (lG X.kw B (pE X.kw) g) (lNs X.kw B gxs) σ H Q:=by
 obtain⟨F,ρ,d,r,hg,k⟩:=h
 obtain⟨fs,ds,xs,o,q1,q2,q3,q4,q5⟩:=YG hg
 refine⟨F,ρ,_,r,q1,λv F1 H1 e1 p1=>?_⟩
 obtain⟨a,dx,vs,rfl,h1,h2,h3⟩:=id p1
 refine⟨a,dx,_,rfl,e1.fh _ _ h1,by rw[qm];exact ki h3.length q2,F1,ρ,xs,r.ext e1,q3,λws F2 H2 e2 p2=>?_⟩
 show pSp X.kw n (len? n m) (.ref a::(ws++[])) H2 Q E
 rw[List.append_nil]
 refine⟨F2,_,o,e2.fh,xl _ _ q4,.cons (Rp.mono e2.ff p1) p2,q4,λw F3 H3 e3 p3=>?_⟩
 obtain⟨F4,e4,p4⟩:=Ys q5 e3 p3
 exact k w F4 H3 (e1.trans (e2.trans e4)) p4
theorem QC {pl:Sem Bool}(ho:DE X B o g)(c:Cls X.kw C)(hm:Meth X.kw C mm f)(F:FnOk X.prog X.w X.kw X.mg X.base CX0 k f fd ps (pSp X.kw n (len? n m)))(hr:Room k X.A)(hb:Binds X.kw fd ps [])(ha:DNs X B (e::es) gxs)
  (hst:starEach (e::es) X.env=(false,eval e X.env)::starEach es X.env:=by rfl) (hpl:(backTo pos (starEach es X.env)).any (·.1)=false:=by rfl)
  (ht:eval (.Call (.Attribute o mm apos) (e::es) [] pos) X.env=(do
   let ov <-eval o X.env
   standAt apos.atName
   let (f,first) <-holding [ov] (getMethod ov mm pl)
   callWith pos f first (backTo pos (starEach (e::es) X.env)) (backToKw pos (keywordEach [] X.env))):=by rfl) :
  DE X B (.Call (.Attribute o mm apos) (e::es) [] pos) (gMeth C mm (len? n m) frzO g gxs) :=
 zi (Rl ho c hm F hr hb .nil pass0 ha hst hpl ht) λσ H Q h=>ZL h
theorem KG {pl:Sem Bool}(ho:DE X B o g)(c:Cls X.kw C)(hm:Meth X.kw C mm f)(F:FnOk X.prog X.w X.kw X.mg X.base CX0 k f fd ps (pSp X.kw n (len? n m)))(hr:Room k X.A)(hb:Binds X.kw fd ps [])
  (ht:eval (.Call (.Attribute o mm apos) [] [] pos) X.env=(do
   let ov <-eval o X.env
   standAt apos.atName
   let (f,first) <-holding [ov] (getMethod ov mm pl)
   callWith pos f first (backTo pos (starEach [] X.env)) (backToKw pos (keywordEach [] X.env))):=by rfl) :
  DE X B (.Call (.Attribute o mm apos) [] [] pos) (gMeth C mm (len? n m) frzO g nNil) :=
 zi (W7 ho c hm F hr hb .nil pass0 ht) λσ H Q h=>by
  obtain⟨F,ρ,d,r,q,k⟩:=ZL (E:=E0) h
  refine⟨F,ρ,d,r,q,λv F1 H1 e1 p1=>?_⟩
  obtain⟨a,dx,fs,h1,h2,h3,F2,ρ',xs,r2,q2,k2⟩:=k v F1 H1 e1 p1
  cases q2
  exact⟨a,dx,fs,h1,h2,h3,k2 [] F2 H1 (.refl r2.fh) .nil⟩
def iSp (K:KW)(C:Addr)(n:Nat)(mi:Addr->Addr->List En->Option (List Str×List D)):Sp:=λvs H Q _=>
 ∃F H1 xs x dx vs' fs ds,vs=.ref x::vs'/\H1 x=none/\H1 dx=none/\dx≠x/\H=upd (upd H1 dx (.own x)) x (.ins C dx [])/\Same F H1/\xs.length=n/\Paired (λy v=>ArgE K F H1 y v) xs vs'/\mi x dx xs=some (fs,ds) /\
  ∀F' H' us,Ext F H1 F' H'->F' x=none->H' x=some (.ins C dx (fs.zip us))->fs.length=us.length->Rps K F' ds us->(H' dx=some (.own x)/\F' dx=none)->Q .non H'
def gMake (C:Addr)(n:Nat)(mi:List En->Option (List Str×List D))(gs:EnvD->Option (List En)):EnvD->Option D:=λρ=>(gs ρ).bind λxs=>if xs.length=n then (mi xs).map λr=>.obj C r.1 r.2 else none
theorem Kd {mi:List En->Option (List Str×List D)}{mi':Addr->Addr->List En->Option (List Str×List D)}(hmi:∀x dx xs,mi' x dx xs=mi xs)(M:Mk X.kw C f)(F:FnOk X.prog X.w X.kw X.mg X.base CX0 k f fd ps (iSp X.kw C n mi'))(hr:Room (k+1) X.A)(hg:Gl X x)(hm:X.mg x=some (.ref C))(hb:Binds X.kw fd ps [])
  (ha:DNs X B (e::es) gxs) (hdb:(x==("__debug__" : Str))=false:=by decide) (he:starEach (e::es) X.env=(false,eval e X.env)::starEach es X.env:=by rfl) (hpl:(backTo pos (starEach es X.env)).any (·.1)=false:=by rfl) :
  DE X B (.Call (.Name x p) (e::es) [] pos) (gMake C n mi gxs) :=
 zi (GX M F hr hg hm hb .nil pass0 ha hdb he hpl) λσ H Q ⟨F,ρ,d,r,hg,k⟩=>by
  unfold gMake at hg
  cases q:gxs ρ with
  |none=>rw[q] at hg;cases hg
  |some xs=>
   rw[q] at hg
   have hg:(if xs.length=n then (mi xs).map (λr=>D.obj C r.1 r.2) else none)=some d:=hg
   split at hg
   ·rename_i hl
    cases q2:mi xs with
    |none=>rw[q2] at hg;cases hg
    |some fr=>
     rw[q2] at hg
     cases hg
     refine⟨F,ρ,xs,r,q,λvs F1 H1 e1 p1 x dx nx ndx nex=>?_⟩
     show iSp X.kw C n mi' (.ref x::(vs++[])) _ _ _
     rw[List.append_nil]
     refine⟨F1,H1,xs,x,dx,vs,fr.1,fr.2,rfl,nx,ndx,nex,rfl,e1.fh,hl,p1,by rw[hmi];exact q2,λF2 H2 us e2 h1 h2 h3 h4 _=>⟨rfl,?_⟩⟩
     exact k _ (upd F2 x (.ins C dx (fr.1.zip us))) H2 (e1.trans (e2.freeze nx h1 h2)) ⟨x,dx,us,rfl,zq,h3,h4.mono (zW h1)⟩
   ·cases hg
end
inductive Fl where
 |next (ρ:EnvD) | ret (o:En) | brk (ρ:EnvD) | cont (ρ:EnvD)
def Fl.ok (K:KW)(B:Bs)(F:Hp)(E:Ends):Fl->Prop
 |.next ρ=>∀σ' F' H',Rep K B F' σ' H' ρ->Same F F'->E.nx σ' H'
 |.brk ρ=>∀σ' F' H',Rep K B F' σ' H' ρ->Same F F'->E.bk σ' H'
 |.cont ρ=>∀σ' F' H',Rep K B F' σ' H' ρ->Same F F'->E.ct σ' H'
 |.ret o=>∀v F' H',Ext B.F0 B.H0 F' H'->RepE K B F' H' o v->E.rt v H'
abbrev SD:=EnvD->Option Fl
def lS (K:KW)(B:Bs)(g:SD):TS:=λE σ H=>∃F ρ fl,Rep K B F σ H ρ/\g ρ=some fl/\fl.ok K B F E
def DS (X:Cx)(B:Bs)(st:Stmt)(g:SD):Prop:=PS X st (lS X.kw B g)
def DSs (X:Cx)(B:Bs)(sts:List Stmt)(g:SD):Prop:=PSs X sts (lS X.kw B g)
theorem Fl.ok.mono {K:KW}{B:Bs}{F F':Hp}{E:Ends}{fl:Fl}(s:Same F F')(h:fl.ok K B F E):fl.ok K B F' E:=by
 cases fl with
 |next ρ=>exact λσ' F2 H' r s2=>h σ' F2 H' r (s.trans s2)
 |brk ρ=>exact λσ' F2 H' r s2=>h σ' F2 H' r (s.trans s2)
 |cont ρ=>exact λσ' F2 H' r s2=>h σ' F2 H' r (s.trans s2)
 |ret o=>exact h
section
variable {X:Cx}{B:Bs}{e a b c o:Expr}{es:List Expr}{st:Stmt}{rest:List Stmt}{pos p apos:Pos}{g ga gb:EnvD->Option D}{gl:EnvD->Option (List D)}{gs1 gs2:SD}{x:Str}
def sSeq (g1 g2:SD):SD:=λρ=>(g1 ρ).bind λfl=>match fl with
 |.next ρ'=>g2 ρ'
 |fl=>some fl
def sNext:SD:=λρ=>some (.next ρ)
theorem zD:DSs X B [] sNext:=W4 zaa λE σ H ⟨F,ρ,fl,r,hg,k⟩=>by cases hg;exact k σ F H r (Same.refl _)
theorem zg (h:DS X B st gs1):DSs X B [st] gs1:=QA h
theorem zd (h1:DS X B st gs1)(h2:DSs X B rest gs2):DSs X B (st::rest) (sSeq gs1 gs2) :=
 W4 (QU h1 h2) λE σ H ⟨F,ρ,fl,r,hg,k⟩=>by
  unfold sSeq at hg
  cases q:gs1 ρ with
  |none=>rw[q] at hg;cases hg
  |some f1=>
   rw[q] at hg
   refine⟨F,ρ,f1,r,q,?_⟩
   cases f1 with
   |next ρ'=>exact λσ' F' H' r' s'=>⟨F',ρ',fl,r',hg,k.mono s'⟩
   |brk ρ'=>cases hg;exact k
   |cont ρ'=>cases hg;exact k
   |ret o'=>cases hg;exact k
def sFrz (i:Nat)(g:SD):SD:=λρ=>g (frzE i ρ)
theorem Y7 (i:Nat)(h:DS X B st gs1):DS X B st (sFrz i gs1):=z7 h λE σ H ⟨F,ρ,fl,r,hg,k⟩=>by
 obtain⟨F',s',r'⟩:=r.frz i
 exact⟨F',_,fl,r',hg,k.mono s'⟩
def sSet (i:Nat)(g:EnvD->Option D):SD:=λρ=>(g ρ).map λd=>.next (ρ.set i (some (.val d)))
def sSetA (i:Nat)(g:EnvD->Option (List D)):SD:=λρ=>(g ρ).map λds=>.next (ρ.set i (some (.acc ds)))
theorem WX {i:Nat}{E:Ends}{σ:St}{H:Hp}(h:lS X.kw B (sSet i g) E σ H):tAsg (lG X.kw B (pE X.kw) g) (gName i) E σ H:=by
 obtain⟨F,ρ,fl,r,hg,k⟩:=h
 unfold sSet at hg
 cases q:g ρ with
 |none=>rw[q] at hg;cases hg
 |some d=>
  rw[q] at hg
  cases hg
  exact⟨F,ρ,d,r,q,λv F1 H1 e1 p1=>k _ F1 H1 ((r.ext e1).setv p1) e1.ff⟩
theorem zat {i:Nat}{E:Ends}{σ:St}{H:Hp}(h:lS X.kw B (sSetA i gl) E σ H):tAsg (lG X.kw B (pA X.kw) gl) (gName i) E σ H:=by
 obtain⟨F,ρ,fl,r,hg,k⟩:=h
 unfold sSetA at hg
 cases q:gl ρ with
 |none=>rw[q] at hg;cases hg
 |some ds=>
  rw[q] at hg
  cases hg
  refine⟨F,ρ,ds,r,q,λv F1 H1 e1 p1=>k _ F1 H1 ((r.ext e1).seto ?_ ?_) e1.ff⟩
  ·obtain⟨a,vs,h1,h2,h3,h4,h5⟩:=p1
   exact⟨a,vs,h1,h3,h4,r.ex.hh.free h2,h5⟩
  ·intro j y w hj hs _ b hb hc
   obtain⟨a,vs,h1,h2,h3,h4,h5⟩:=p1
   subst h1
   simp only[feetE,List.mem_singleton] at hb
   subst hb
   obtain⟨w',hw,hr⟩:=r.ents j y hj
   rw[hs] at hw;cases hw
   rw[hr.feet_ext e1.hh] at hc
   exact (hr.feet_at hc).1 h2
theorem zr {i:Nat}{x:Str}{pos':Pos}(hN:X.N.Nodup)(hi:X.N[i]?=some x)(hx:Loc X.env.scope x)(he:DE X B e g)(hs:swapsWith e (some (.Name x pos')) pos.line X.env=pure false:=by rfl)(hf:X.fn x=true∨X.env.scope.names.lookup x=some .local:=by first | exact .inl rfl | exact .inr rfl | assumption) :
  DS X B (.Assign [.Name x pos'] e pos) (sSet i g):=z7 (ve hN hi hx he hs hf) λE σ H h=>WX h
theorem yQ {i:Nat}{x:Str}{pos':Pos}(hN:X.N.Nodup)(hi:X.N[i]?=some x)(hx:Loc X.env.scope x)(he:DA X B e gl)(hs:swapsWith e (some (.Name x pos')) pos.line X.env=pure false:=by rfl)(hf:X.fn x=true∨X.env.scope.names.lookup x=some .local:=by first | exact .inl rfl | exact .inr rfl | assumption) :
  DS X B (.Assign [.Name x pos'] e pos) (sSetA i gl):=z7 (ve hN hi hx he hs hf) λE σ H h=>zat h
def sRet (g:EnvD->Option D):SD:=λρ=>(g ρ).map λd=>.ret (.val d)
def sRetA (g:EnvD->Option (List D)):SD:=λρ=>(g ρ).map λd=>.ret (.acc d)
theorem zu (he:DE X B e g):DS X B (.Return (some e) pos) (sRet g):=z7 (vm he) λE σ H ⟨F,ρ,fl,r,hg,k⟩=>by
 unfold sRet at hg
 cases q:g ρ with
 |none=>rw[q] at hg;cases hg
 |some d=>rw[q] at hg;cases hg;exact⟨F,ρ,d,r,q,λv F1 H1 e1 p1=>k v F1 H1 (r.ex.trans e1) p1⟩
theorem Ru (he:DA X B e gl):DS X B (.Return (some e) pos) (sRetA gl):=z7 (vm he) λE σ H ⟨F,ρ,fl,r,hg,k⟩=>by
 unfold sRetA at hg
 cases q:gl ρ with
 |none=>rw[q] at hg;cases hg
 |some d=>
  rw[q] at hg;cases hg
  refine⟨F,ρ,d,r,q,λv F1 H1 e1 p1=>k v F1 H1 (r.ex.trans e1) ?_⟩
  obtain⟨a,vs,h1,h2,h3,h4,h5⟩:=p1
  exact⟨a,vs,h1,h3,h4,r.ex.hh.free h2,h5⟩
def sRetV (i:Nat):SD:=λρ=>match ρ[i]? with
 |some (some (.acc ds))=>some (.ret (.acc ds))
 |some (some (.val d))=>some (.ret (.val d))
 |_=>none
theorem wB (i:Nat)(h:PE X (.Name x p) (tVar i)):DS X B (.Return (some (.Name x p)) pos) (sRetV i):=z7 (vm h) λE σ H ⟨F,ρ,fl,r,hg,k⟩=>by
 unfold sRetV at hg
 split at hg
 ·rename_i ds q
  cases hg
  obtain⟨v,h1,h2⟩:=r.ents i _ q
  exact⟨v,h1,k v F H r.ex h2⟩
 ·rename_i d q
  cases hg
  obtain⟨v,h1,h2⟩:=r.ents i _ q
  exact⟨v,h1,k v F H r.ex h2⟩
 ·cases hg
def sIf (t:EnvD->Option Bool)(g1 g2:SD):SD:=λρ=>(t ρ).bind λb=>if b then g1 ρ else g2 ρ
theorem z9 {t:EnvD->Option Bool}{as bs:List Stmt}(hc:DT X B c t)(ha:DSs X B as gs1)(hb:DSs X B bs gs2):DS X B (.If c as bs pos) (sIf t gs1 gs2):=z7 (R3 hc ha hb) λE σ H ⟨F,ρ,fl,r,hg,k⟩=>by
 unfold sIf at hg
 cases q:t ρ with
 |none=>rw[q] at hg;cases hg
 |some b=>
  rw[q] at hg
  refine⟨F,ρ,b,r,q,λF1 H1 e1=>?_⟩
  cases b with
  |true=>exact iteT ⟨F1,ρ,fl,r.ext e1,hg,k.mono e1.ff⟩
  |false=>exact iteF ⟨F1,ρ,fl,r.ext e1,hg,k.mono e1.ff⟩
def sNever:SD:=λ_=>none
theorem ud:DS X B st sNever:=z7 RD λE σ H ⟨F,ρ,fl,r,hg,k⟩=>by cases hg
def sExpr (g:EnvD->Option D):SD:=λρ=>(g ρ).map λ_=>.next ρ
theorem Uv (he:DE X B e g)(hs:swapsWith e none pos.line X.env=pure false:=by rfl):DS X B (.Expr e pos) (sExpr g):=z7 (x3 he hs) λE σ H ⟨F,ρ,fl,r,hg,k⟩=>by
 unfold sExpr at hg
 cases q:g ρ with
 |none=>rw[q] at hg;cases hg
 |some d=>rw[q] at hg;cases hg;exact⟨F,ρ,d,r,q,λv F1 H1 e1 p1=>k σ F1 H1 (r.ext e1) e1.ff⟩
def sApp (i:Nat)(g:EnvD->Option D):SD:=λρ=>match ρ[i]? with
 |some (some (.acc ds))=>(g ρ).bind λd=>if ds.length<=TOP then some (.next (ρ.set i (some (.acc (ds++[d]))))) else none
 |_=>none
theorem yN (i:Nat){cpos:Pos}(hx:PE X (.Name x p) (tVar i))(he:DE X B e g)
  (hbase:attributeBase (.Name x p) "append" X.env (eval (.Name x p) X.env)=eval (.Name x p) X.env:=by rfl)
  (hfew:((backTo cpos (starEach [e] X.env)).all (λx=>!x.1)&&(backToKw cpos (keywordEach [] X.env)).all (λx=>x.1.isSome)
   && decide (([e]:List Expr).length+([]:List Keyword).length+(if ([]:List Keyword).isEmpty then 0 else 1) < 30))=true:=by rfl)
  (hline:(apos.endLine==cpos.line)=true:=by rfl) (hs:starEach [e] X.env=(false,eval e X.env)::starEach [] X.env:=by rfl) (hplain:(backTo cpos (starEach [] X.env)).any (·.1)=false:=by rfl)
  (hsw:swapsWith (.Call (.Attribute (.Name x p) "append" apos) [e] [] cpos) none pos.line X.env=pure false:=by rfl) :
  DS X B (.Expr (.Call (.Attribute (.Name x p) "append" apos) [e] [] cpos) pos) (sApp i g) :=
 z7 (x3 (VF PySem.F.plainAttrs_list PySem.F.slot_list_append PySem.F.type_list_append Vs hx (zZ he yr hs) hbase hfew hline hs hplain) hsw) λE σ H ⟨F,ρ,fl,r,hg,k⟩=>by
  unfold sApp at hg
  split at hg
  ·rename_i ds q
   cases q2:g ρ with
   |none=>rw[q2] at hg;cases hg
   |some d=>
    rw[q2] at hg
    have hg:(if ds.length<=TOP then some (Fl.next (ρ.set i (some (.acc (ds++[d]))))) else none)=some fl:=hg
    split at hg
    ·rename_i hl
     cases hg
     obtain⟨v,hv,a,vs,rfl,h1,h2,h3,h4⟩:=r.ents i _ q
     refine⟨.ref a,hv,.inl ⟨rfl,_,.of h1⟩,F,ρ,d,r,q2,λw F1 H1 e1 p1=>?_⟩
     have r1:=r.ext e1
     obtain⟨v',hv',a',vs',e',g1,g2,g3,g4⟩:=r1.ents i _ q
     rw[hv] at hv';cases hv';cases e'
     refine⟨a,vs',w,rfl,rfl,g1,QJ (by rw[<-g4.length];exact hl),k σ F1 _ (r1.write q rfl hv g2 g3 ⟨a,_,rfl,zq,g2,g3,g4.snoc p1⟩ rfl) e1.ff⟩
    ·cases hg
  ·cases hg
def sPop (i:Nat):SD:=λρ=>match ρ[i]? with
 |some (some (.acc ds))=>if ds.isEmpty then none else some (.next (ρ.set i (some (.acc ds.dropLast))))
 |_=>none
theorem Kw {K:KW}{F:Hp}:∀ {ds:List D} {vs:List V},Rps K F ds vs->Rps K F ds.dropLast vs.dropLast:=fun {ds vs} r=>by
 rw[List.dropLast_eq_take,List.dropLast_eq_take,<-r.length]
 exact r.take _
theorem zad (i:Nat){cpos:Pos}(hm:MtR X "list.pop" rPop) (hx:PE X (.Name x p) (tVar i))
  (hbase:attributeBase (.Name x p) "pop" X.env (eval (.Name x p) X.env)=eval (.Name x p) X.env:=by rfl) (hline:(apos.endLine==cpos.line)=true:=by rfl)
  (hsw:swapsWith (.Call (.Attribute (.Name x p) "pop" apos) [] [] cpos) none pos.line X.env=pure false:=by rfl) :
  DS X B (.Expr (.Call (.Attribute (.Name x p) "pop" apos) [] [] cpos) pos) (sPop i) :=
 z7 (x3 (kO PySem.F.plainAttrs_list PySem.F.slot_list_pop PySem.F.type_list_pop hm hx hbase hline) hsw) λE σ H ⟨F,ρ,fl,r,hg,k⟩=>by
  unfold sPop at hg
  split at hg
  ·rename_i ds q
   split at hg
   ·cases hg
   ·rename_i hl
    cases hg
    obtain⟨v,hv,a,vs,rfl,h1,h2,h3,h4⟩:=r.ents i _ q
    have hlen:0 < vs.length:=by
     rw[<-h4.length]
     cases ds with
     |nil=>simp at hl
     |cons=>simp
    have hy:vs[vs.length - 1]?=some vs[vs.length - 1]:=List.getElem?_eq_getElem (by omega)
    exact⟨.ref a,hv,.inl ⟨rfl,_,.of h1⟩,a,vs,_,rfl,rfl,h1,hy,k σ F _ (r.write q rfl hv h2 h3 ⟨a,_,rfl,zq,h2,h3,Kw h4⟩ rfl) (Same.refl _)⟩
  ·cases hg
def sPut (i:Nat)(gi g:EnvD->Option D):SD:=λρ=>match ρ[i]? with
 |some (some (.acc ds))=>(g ρ).bind λd=>((gi ρ).bind asI).bind λj=>(ixN ds.length j).map λn=>.next (ρ.set i (some (.acc (ds.set n d))))
 |_=>none
theorem QE (i:Nat){gi:EnvD->Option D}{ie:Expr}(hx:PE X (.Name x p) (tVar i))(hi:DE X B ie gi)(he:DE X B e g){tpos:Pos}
  (ha:∀v,assign (.Subscript (.Name x p) ie tpos) X.env v=(do
   let ov <-holding [v] (eval (.Name x p) X.env)
   let iv <-holding [v,ov] (eval ie X.env)
   standAt tpos
   holding [v,ov,iv] (setItem ov iv v)
   release [v,ov,iv] []):=by intro _;rfl)
  (hs:swapsWithSole [.Subscript (.Name x p) ie tpos] e pos.line X.env=pure false:=by rfl) (hw:swappedStores [.Subscript (.Name x p) ie tpos] e X.env=pure none:=by rfl)
  (h1:(assignEach [.Subscript (.Name x p) ie tpos] X.env).map (·.2)=[assign (.Subscript (.Name x p) ie tpos) X.env]:=by rfl) :
  DS X B (.Assign [.Subscript (.Name x p) ie tpos] e pos) (sPut i gi g) :=
 z7 (u5 he (J9 hx hi UT ha) hs hw h1) λE σ H ⟨F,ρ,fl,r,hg,k⟩=>by
  unfold sPut at hg
  split at hg
  ·rename_i ds q
   cases q2:g ρ with
   |none=>rw[q2] at hg;cases hg
   |some d=>
    cases q3:gi ρ with
    |none=>rw[q2,q3] at hg;cases hg
    |some di=>
     rw[q2,q3] at hg
     have hg:((asI di).bind λj=>(ixN ds.length j).map λn=>Fl.next (ρ.set i (some (.acc (ds.set n d)))))=some fl:=hg
     cases q4:asI di with
     |none=>rw[q4] at hg;cases hg
     |some j=>
      rw[q4] at hg
      have hg:((ixN ds.length j).map λn=>Fl.next (ρ.set i (some (.acc (ds.set n d)))))=some fl:=hg
      cases q5:ixN ds.length j with
      |none=>rw[q5] at hg;cases hg
      |some n=>
       rw[q5] at hg
       cases hg
       rw[km q4] at q3
       refine⟨F,ρ,d,r,q2,λw F1 H1 e1 p1=>?_⟩
       have r1:=r.ext e1
       obtain⟨v,hv,a,vs,rfl,g1,g2,g3,g4⟩:=r1.ents i _ q
       refine⟨.ref a,hv,F1,ρ,_,r1,q3,λu F2 H2 e2 p2=>?_⟩
       have r2:=r1.ext e2
       obtain⟨v',hv',a',vs',e',f1,f2,f3,f4⟩:=r2.ents i _ q
       rw[hv] at hv';cases hv';cases e'
       exact⟨a,vs',j,n,rfl,p2,f1,by rw[<-f4.length];exact q5,k σ F2 _ (r2.write q rfl hv f2 f3 ⟨a,_,rfl,zq,f2,f3,Rps.set (Rp.mono e2.ff p1) n f4⟩ rfl) (e1.ff.trans e2.ff)⟩
  ·cases hg
def sFldD (i:Nat)(C:Addr)(fl:Str)(g:EnvD->Option D):SD:=λρ=>match ρ[i]? with
 |some (some (.oac a dx C' fs ds))=>if C'=C/\fs.length < 900 then (g ρ).map λd=>.next (ρ.set i (some (.oac a dx C (putZ fl d fs ds).1 (putZ fl d fs ds).2))) else none
 |_=>none
theorem yi (i:Nat){C:Addr}{fl:Str}{pos':Pos}(cl:Cls X.kw C)(na:NoAttr X.kw C fl)(hx:PE X (.Name x p) (tVar i))(he:DE X B e g)(hs:swapsWith e (some (.Attribute (.Name x p) fl pos')) pos.line X.env=pure false:=by rfl) :
  DS X B (.Assign [.Attribute (.Name x p) fl pos'] e pos) (sFldD i C fl g) :=
 z7 (KL hx he hs) λE σ H ⟨F,ρ,f,r,hg,k⟩=>by
  unfold sFldD at hg
  split at hg
  ·rename_i a dx C' fs ds q
   split at hg
   ·rename_i hc
    obtain⟨rfl,hlen⟩:=hc
    cases q2:g ρ with
    |none=>rw[q2] at hg;cases hg
    |some d=>
     rw[q2] at hg
     cases hg
     refine⟨F,ρ,d,r,q2,λw F1 H1 e1 p1=>?_⟩
     have r1:=r.ext e1
     obtain⟨v,hv,vs,rfl,g1,g2,g3,g4,g5,d1,d2,d3⟩:=r1.ents i _ q
     obtain⟨z1,z2⟩:=Y1 (f:=fl) (v:=w) g2
     obtain⟨z3,z4⟩:=Y0 (f:=fl) p1 g2 g5
     refine⟨.ref a,hv,a,C',dx,_,rfl,g1,cl,na,?_,k σ F1 _ (r1.write q rfl hv g3 g4 ⟨_,rfl,?_,?_,g3,g4,z4,by rw[zk (vq d1 g1 (by intro z;cases z))];exact d1,d2,d3⟩ rfl) e1.ff⟩
     ·have:(fs.zip vs).length<=fs.length:=by rw[List.length_zip];exact Nat.min_le_left _ _
      omega
     ·rw[zq,z1,z3]
     ·rw[z3,z2]
   ·cases hg
  ·cases hg
end
inductive Tgt where
 |name (i:Nat) | tup (is:List Nat)
def gNames:List Nat->TGs
 | []=>L2.gNil
 |i::is=>gCons (gName i) (gNames is)
def tgT (K:KW):Tgt->TG
 |.name i=>gName i
 |.tup is=>gTup K is.length (gNames is)
def z6:List Nat->List D->EnvD->EnvD
 |i::is,d::ds,ρ=>z6 is ds (ρ.set i (some (.val d)))
 |_,_,ρ=>ρ
def asgD:Tgt->D->EnvD->Option EnvD
 |.name i,d,ρ=>some (ρ.set i (some (.val d)))
 |.tup is,.tup ds,ρ=>if ds.length=is.length then some (z6 is ds ρ) else none
 |_,_,_=>none
inductive SetOf:List Nat->St->St->Prop
 |refl {is σ}:SetOf is σ σ
 |step {is σ σ' i v}:i∈is->SetOf is (σ.set i v) σ'->SetOf is σ σ'
def Tgt.slots:Tgt->List Nat
 |.name i=>[i]
 |.tup is=>is
theorem SetOf.pre {is:List Nat}{σ σ':St}(h:SetOf is σ σ'):∀ {σ1 cv:St},σ=σ1++cv->(∀i∈is,i < σ1.length)->∃σ1',σ1'.length=σ1.length/\σ'=σ1'++cv:=by
 induction h with
 |refl=>intro σ1 cv e _;exact⟨σ1,rfl,e⟩
 | @step σ σ' i v hi _ ih=>
  intro σ1 cv e hl
  obtain⟨s,h1,h2⟩:=ih (σ1:=σ1.set i v) (cv:=cv) (by rw[e,List.set_append_left _ _ (hl i hi)]) (λj hj=>by rw[List.length_set];exact hl j hj)
  exact⟨s,by rw[h1,List.length_set],h2⟩
theorem kn {K:KW}{B:Bs}{F H:Hp}{all:List Nat}:∀ {is:List Nat} {ds:List D} {vs:List V} {σ:St} {ρ:EnvD} {Q:St->Hp->Prop},Rep K B F σ H ρ->Rps K F ds vs->ds.length=is.length->(∀i∈is,i∈all) ->
  (∀σ',Rep K B F σ' H (z6 is ds ρ)->SetOf all σ σ'->Q σ' H)->gNames is vs σ H Q
 | [],[],_,σ,ρ,Q,r,h,_,_,k=>by cases h;exact⟨rfl,k σ r .refl⟩
 | [],_::_,_,_,_,_,_,_,hl,_,_=>by simp at hl
 |_::_,[],_,_,_,_,_,_,hl,_,_=>by simp at hl
 |i::is,d::ds,_,σ,ρ,Q,r,⟨v,w,e,h,t⟩,hl,ha,k=>by
  subst e
  refine⟨v,w,rfl,?_⟩
  exact kn (r.setv h) t (by simpa using hl) (λj hj=>ha j (List.mem_cons_of_mem _ hj)) λσ' r' s'=>k σ' r' (.step (ha i List.mem_cons_self) s')
theorem vz {K:KW}{B:Bs}{F H:Hp}{t:Tgt}{d:D}{v:V}{σ:St}{ρ ρ':EnvD}{Q:St->Hp->Prop}(r:Rep K B F σ H ρ)(h:Rp K F d v)(e:asgD t d ρ=some ρ')(k:∀σ',Rep K B F σ' H ρ'->SetOf t.slots σ σ'->Q σ' H):tgT K t v σ H Q:=by
 cases t with
 |name i=>cases e;exact k _ (r.setv h) (.step (List.mem_singleton.mpr rfl) .refl)
 |tup is=>
  cases d with
  |tup ds=>
   have e:(if ds.length=is.length then some (z6 is ds ρ) else none)=some ρ':=e
   split at e
   ·rename_i hl
    cases e
    obtain⟨a,vs,rfl,h1,h2⟩:=h
    exact⟨a,vs,rfl,.of (r.fh _ _ h1),by rw[<-h2.length];exact hl,kn r h2 hl (λi hi=>hi) k⟩
   ·cases e
  |_=>cases e
def Jok (K:KW)(Hb:Hp)(J:It)(F:Hp)(ds:List D):Prop:=∀F2 H2,Same F F2->Same F2 H2->Same Hb H2->∀i,
 (i < ds.length->J.go i H2/\∀x H3,J.yld i H2 x H3->∃F3 d,Ext F2 H2 F3 H3/\ds[i]?=some d/\Rp K F3 d x)/\(i=ds.length->J.stop i H2)
def lI (K:KW)(B:Bs)(hb:Hp->Hp)(g:EnvD->Option (List D)):TI:=λσ H R=>∃F ρ ds,Rep K B F σ H ρ/\g ρ=some ds/\∀J F' H',Ext F H F' H'->Jok K (hb H') J F' ds->R J H'
def DI (X:Cx)(B:Bs)(hb:Hp->Hp)(tg iter:Expr)(g:EnvD->Option (List D)):Prop:=PI X tg iter (lI X.kw B hb g)
def pQ (K:KW)(hb:Hp->Hp):Post D:=λ_ _ F' H' d v=>Rq K F' (hb H') d v
def DQ (X:Cx)(B:Bs)(hb:Hp->Hp)(e:Expr)(g:EnvD->Option D):Prop:=PE X e (lG X.kw B (pQ X.kw hb) g)
def HbOk (B:Bs)(hb:Hp->Hp):Prop:=(∀H,Same B.H0 H->Same (hb H) H)/\∀H H',Same H H'->Same (hb H) (hb H')
theorem hb0 {B:Bs}:HbOk B (λ_=>B.H0):=⟨λ_ h=>h,λ_ _ _=>Same.refl _⟩
theorem hb1 {B:Bs}:HbOk B (λH=>H):=⟨λ_ _=>Same.refl _,λ_ _ h=>h⟩
section
variable {X:Cx}{B:Bs}{hb:Hp->Hp}{e a b c tg iter:Expr}{es:List Expr}{pos p:Pos}{g ga gb:EnvD->Option D}{gi:EnvD->Option (List D)}{gs gbd:SD}{x:Str}
theorem DE.fix (h:DE X B e g):DQ X B hb e g:=zi h λσ H Q ⟨F,ρ,x,r,hg,k⟩=>⟨F,ρ,x,r,hg,λv F' H' e p=>k v F' H' e (.inl p)⟩
theorem DR.cur (h:DR X B e g):DQ X B (λH=>H) e g:=h
def gf (i:Nat):EnvD->Option D:=λρ=>match ρ[i]? with
 |some (some (.val d))=>some d
 |some (some (.bor ds))=>some (.lst ds)
 |_=>none
theorem ye (i:Nat)(h:PE X (.Name x pos) (tVar i)):DQ X B (λ_=>B.H0) (.Name x pos) (gf i) :=
 zi h λσ H Q ⟨F,ρ,d,r,hg,k⟩=>by
  unfold gf at hg
  split at hg
  ·rename_i d' e
   cases hg
   obtain⟨v,h1,h2⟩:=r.ents i _ e
   exact⟨v,h1,k v F H (.refl r.fh) (.inl h2)⟩
  ·rename_i ds e
   cases hg
   obtain⟨v,h1,a,vs,e1,e2,e5⟩:=r.ents i _ e
   exact⟨v,h1,k v F H (.refl r.fh) (.inr ⟨a,vs,ds,rfl,e1,e2,e5⟩)⟩
  ·cases hg
def itL:D->Option (List D)
 |.lst ds=>some ds
 |.scr ns=>some (ns.map D.int)
 |_=>none
theorem qt {K:KW}{F Hb:Hp}{d:D}{v:V}{ds:List D}(r:Rq K F Hb d v)(h:itL d=some ds):∃a vs,v=.ref a/\Rps K F ds vs/\∀F2 H2,Same F F2->Same F2 H2->Same Hb H2->SqL K H2 a vs:=by
 cases d with
 |lst es=>
  cases h
  rcases r with⟨a,vs,rfl,q,t⟩ | ⟨a,vs,ds',e1,rfl,q,t⟩
  ·exact⟨a,vs,rfl,t,λF2 H2 s1 s2 _=>.of (s2 _ _ (s1 _ _ q))⟩
  ·cases e1;exact⟨a,vs,rfl,t,λF2 H2 _ _ s3=>.of (s3 _ _ q)⟩
 |scr ns=>
  cases h
  obtain⟨a,rfl,q⟩:=r.one λ_ h=>by cases h
  exact⟨a,_,rfl,Rps.ints ns,λF2 H2 s1 s2 _=>s2.seq (s1.seq q)⟩
 |_=>cases h
def gIt (g:EnvD->Option D):EnvD->Option (List D):=λρ=>(g ρ).bind itL
theorem zL (hbk:HbOk B hb)(h:DQ X B hb e g):DI X B hb tg e (gIt g) :=
 je (Jg h) λσ H R ⟨F,ρ,ds,r,hg,k⟩=>by
  unfold gIt at hg
  cases q:g ρ with
  |none=>rw[q] at hg;cases hg
  |some d=>
   rw[q] at hg
   refine⟨F,ρ,d,r,q,λv F1 H1 e1 p1=>?_⟩
   obtain⟨a,vs,rfl,t,sq⟩:=qt p1 hg
   have r1:=r.ext e1
   refine⟨a,rfl,⟨vs,sq F1 H1 (Same.refl _) e1.fh (hbk.1 H1 r1.ex.hh)⟩,k _ F1 H1 e1 λF2 H2 s1 s2 s3 i=>⟨λhi=>?_,λhi=>?_⟩⟩
   ·have hq:=sq F2 H2 s1 s2 s3
    have hiv:i < vs.length:=by rw[<-t.length];exact hi
    have hv:vs[i]?=some vs[i]:=List.getElem?_eq_getElem hiv
    refine⟨⟨vs,_,hq,hv⟩,λx H3 hy=>?_⟩
    obtain⟨rfl,hy⟩:=hy
    obtain⟨d',hd,rd⟩:=t.get' (hy vs hq)
    exact⟨F2,d',.refl s2,hd,rd.mono s1⟩
   ·exact⟨vs,sq F2 H2 s1 s2 s3,by rw[hi,t.length];exact Nat.le_refl _⟩
def lQs (K:KW)(B:Bs)(hb:Hp->Hp)(g:EnvD->Option (List D)):TA:=λσ H Q=>
 ∃F ρ ds,Rep K B F σ H ρ/\g ρ=some ds/\∀vs F' H',Ext F H F' H'->Paired (λd v=>Rq K F' (hb H') d v) ds vs->Q vs H'
def DQs (X:Cx)(B:Bs)(hb:Hp->Hp)(es:List Expr)(g:EnvD->Option (List D)):Prop:=PA X es (lQs X.kw B hb g)
theorem q9:DQs X B hb [] gNil:=yo yr λσ H Q ⟨F,ρ,ds,r,hg,k⟩=>by cases hg;exact k [] F H (.refl r.fh) .nil
theorem ui (hbk:HbOk B hb)(ha:DQ X B hb e g)(hr:DQs X B hb es gi)(hs:starEach (e::es) X.env=(false,eval e X.env)::starEach es X.env:=by rfl):DQs X B hb (e::es) (gCons' g gi) :=
 yo (zZ ha hr hs) λσ H Q ⟨F,ρ,ds,r,hg,k⟩=>by
  obtain⟨d,dr,q1,q2,q3⟩:=bind2 hg
  cases q3
  exact⟨F,ρ,d,r,q1,λv F1 H1 e1 p1=>⟨F1,ρ,dr,r.ext e1,q2,λvs F2 H2 e2 p2=>k _ F2 H2 (e1.trans e2) (.cons (p1.mono e2.ff (hbk.2 _ _ e2.hh)) p2)⟩⟩
def enumD:Nat->List D->List D
 |_,[]=>[]
 |n,d::ds=>.tup [.int n,d]::enumD (n+1) ds
theorem kY:∀(n:Nat) (ds:List D),(enumD n ds).length=ds.length
 |_,[]=>rfl
 |n,_::ds=>by simp[enumD,kY (n+1) ds]
theorem Yd:∀(n:Nat) (ds:List D) (i:Nat) (d:D),ds[i]?=some d->(enumD n ds)[i]?=some (.tup [.int ((n+i:Nat):Int),d])
 |_,[],_,_,h=>by simp at h
 |n,x::ds,0,d,h=>by simp at h;subst h;simp[enumD]
 |n,x::ds,i+1,d,h=>by
  have:=Yd (n+1) ds i d (by simpa using h)
  simp only[enumD,List.getElem?_cons_succ,this]
  congr 5
  omega
def gEn (gs:EnvD->Option (List D)):EnvD->Option (List D):=λρ=>(gs ρ).bind λxs=>match xs with
 | [d]=>(itL d).map (enumD 0)
 |_=>none
variable {elts:List Expr}{tk:Nat}{tpos:Pos}
theorem qP (hbk:HbOk B hb)(hg:Gl X "enumerate") (hm:X.mg "enumerate" = none) (ha:DQs X B hb [a] gi) (hs:starEach [a] X.env=[(false,eval a X.env)]:=by rfl) :
  DI X B hb (.Tuple elts tk tpos) (.Call (.Name "enumerate" p) [a] [] pos) (gEn gi) :=
 je (UN hg hm ha hs) λσ H R ⟨F,ρ,ds,r,hg,k⟩=>by
  unfold gEn at hg
  cases q:gi ρ with
  |none=>rw[q] at hg;cases hg
  |some xs=>
   rw[q] at hg
   refine⟨F,ρ,xs,r,q,λvs F1 H1 e1 p1=>?_⟩
   match xs,hg,p1 with
   | [d],hg,p1=>
    obtain⟨v,rfl,rv⟩:=pair1 p1
    have hg:(itL d).map (enumD 0)=some ds:=hg
    cases q2:itL d with
    |none=>rw[q2] at hg;cases hg
    |some es=>
     rw[q2] at hg
     cases hg
     obtain⟨a,us,rfl,t,sq⟩:=qt rv q2
     have r1:=r.ext e1
     refine⟨a,rfl,⟨us,sq F1 H1 (Same.refl _) e1.fh (hbk.1 H1 r1.ex.hh)⟩,k _ F1 H1 e1 λF2 H2 s1 s2 s3 i=>⟨λhi=>?_,λhi=>?_⟩⟩
     ·rw[kY] at hi
      have hq:=sq F2 H2 s1 s2 s3
      have hiv:i < us.length:=by rw[<-t.length];exact hi
      have hv:us[i]?=some us[i]:=List.getElem?_eq_getElem hiv
      refine⟨⟨us,_,hq,hv⟩,λx H3 hy=>?_⟩
      obtain⟨T,w,nT,rfl,rfl,hy⟩:=hy
      obtain⟨d',hd,rd⟩:=t.get' (hy us hq)
      refine⟨upd F2 T (.tup [.int i,w]),_,.newF s2 nT,Yd 0 es i d' hd,⟨T,_,rfl,zq,_,_,rfl,?_,_,_,rfl,(rd.mono s1).mono (zW (s2.free nT)),rfl⟩⟩
      show V.int i=V.int ((0+i:Nat):Int)
      rw[Nat.zero_add]
     ·exact⟨us,sq F2 H2 s1 s2 s3,by rw[hi,kY,t.length];exact Nat.le_refl _⟩
def rngD (lo:Int):Nat->List D
 |0=>[]
 |n+1=>.int lo::rngD (lo+1) n
theorem uh:∀(lo:Int) (n:Nat),(rngD lo n).length=n
 |_,0=>rfl
 |lo,n+1=>by simp[rngD,uh (lo+1) n]
theorem Vy:∀(lo:Int) (n i:Nat),i < n->(rngD lo n)[i]?=some (.int (lo+i))
 |_,0,_,h=>by omega
 |lo,n+1,0,_=>by simp[rngD]
 |lo,n+1,i+1,h=>by
  have:=Vy (lo+1) n i (by omega)
  simp only[rngD,List.getElem?_cons_succ,this]
  congr 2
  omega
def BIG:Int:=1000000000000
def gR1 (gs:EnvD->Option (List D)):EnvD->Option (List D):=λρ=>(gs ρ).bind λxs=>match xs with
 | [.int j]=>if -BIG<=j/\j<=BIG then some (rngD 0 j.toNat) else none
 |_=>none
def gR2 (gs:EnvD->Option (List D)):EnvD->Option (List D):=λρ=>(gs ρ).bind λxs=>match xs with
 | [.int i,.int j]=>if (-BIG<=i/\i<=BIG)/\(-BIG<=j/\j<=BIG) then some (rngD i (j - i).toNat) else none
 |_=>none
theorem Yl {K:KW}{Hb F:Hp}(lo:Int)(n:Nat):Jok K Hb (Itr lo n) F (rngD lo n):=λF2 H2 s1 s2 s3 i=>⟨λhi=>by
 rw[uh] at hi
 refine⟨hi,λx H3 hy=>?_⟩
 obtain⟨rfl,rfl⟩:=hy
 exact⟨F2,_,.refl s2,Vy lo n i hi,rfl⟩,λhi=>by rw[uh] at hi;exact Nat.le_of_eq hi.symm⟩
theorem YB (hg:Gl X "range") (hm:X.mg "range" = none) (ha:DRs X B [a] gi) (hs:starEach [a] X.env=[(false,eval a X.env)]:=by rfl):DI X B hb tg (.Call (.Name "range" p) [a] [] pos) (gR1 gi) :=
 je (Qs hg hm ha hs) λσ H R ⟨F,ρ,ds,r,hg,k⟩=>by
  unfold gR1 at hg
  cases q:gi ρ with
  |none=>rw[q] at hg;cases hg
  |some xs=>
   rw[q] at hg
   refine⟨F,ρ,xs,r,q,λvs F1 H1 e1 p1=>?_⟩
   match xs,hg,p1 with
   | [.int j],hg,p1=>
    obtain⟨v,rfl,rv⟩:=pair1 p1
    cases rv.int
    have hg:(if -BIG<=j/\j<=BIG then some (rngD 0 j.toNat) else none)=some ds:=hg
    split at hg
    ·rename_i hc
     cases hg
     unfold BIG at hc
     exact⟨j,rfl,by omega,by omega,k _ F1 H1 e1 (Yl 0 _)⟩
    ·cases hg
theorem KR (hg:Gl X "range") (hm:X.mg "range" = none) (ha:DRs X B [a,b] gi) (hs:starEach [a,b] X.env=[(false,eval a X.env),(false,eval b X.env)]:=by rfl) (hs2:starEach [b] X.env=[(false,eval b X.env)]:=by rfl):DI X B hb tg (.Call (.Name "range" p) [a,b] [] pos) (gR2 gi) :=
 je (GA hg hm ha hs hs2) λσ H R ⟨F,ρ,ds,r,hg,k⟩=>by
  unfold gR2 at hg
  cases q:gi ρ with
  |none=>rw[q] at hg;cases hg
  |some xs=>
   rw[q] at hg
   refine⟨F,ρ,xs,r,q,λvs F1 H1 e1 p1=>?_⟩
   match xs,hg,p1 with
   | [.int i,.int j],hg,p1=>
    obtain⟨v,v',rfl,rv,rv'⟩:=pair2 p1
    cases rv.int
    cases rv'.int
    have hg:(if (-BIG<=i/\i<=BIG)/\(-BIG<=j/\j<=BIG) then some (rngD i (j - i).toNat) else none)=some ds:=hg
    split at hg
    ·rename_i hc
     cases hg
     unfold BIG at hc
     exact⟨i,j,rfl,⟨by omega,by omega,by omega,by omega⟩,k _ F1 H1 e1 (Yl i _)⟩
    ·cases hg
def forD (t:Tgt)(gb:SD):List D->EnvD->Option Fl
 | [],ρ=>some (.next ρ)
 |d::ds,ρ=>(asgD t d ρ).bind λρ1=>(gb ρ1).bind λfl=>match fl with
  |.next ρ2=>forD t gb ds ρ2
  |.cont ρ2=>forD t gb ds ρ2
  |.brk ρ2=>some (.next ρ2)
  |.ret o=>some (.ret o)
def sFor (t:Tgt)(gi:EnvD->Option (List D))(gb:SD):SD:=λρ=>(gi ρ).bind λds=>forD t gb ds ρ
theorem zK {body:List Stmt}{t:Tgt}(hp:PassesOwn (model X.prog X.w) X.A X.env X.xe)(hc:X.calm=true)(hi:DI X B (λ_=>B.H0) tg iter gi)(hg:PG X tg (tgT X.kw t))(hb:DSs X B body gbd)
  (hs:∀x,foldedSetIterable iter X.env x=pure x:=by intro _;rfl):DS X B (.For tg iter body [] pos) (sFor t gi gbd) :=
 z7 (JS hp hc hi hg hb hs) λE σ H ⟨F,ρ,fl,r,hg,k⟩=>by
  unfold sFor at hg
  cases q:gi ρ with
  |none=>rw[q] at hg;cases hg
  |some ds=>
   rw[q] at hg
   have hg:forD t gbd ds ρ=some fl:=hg
   refine⟨F,ρ,ds,r,q,λJ F1 H1 e1 jok=>?_⟩
   refine⟨λi m σ H=>m=ds.length - i/\i<=ds.length/\∃F2 ρ2,Rep X.kw B F2 σ H ρ2/\Same F1 F2/\forD t gbd (ds.drop i) ρ2=some fl,⟨ds.length,rfl,Nat.zero_le _,F1,ρ,r.ext e1,Same.refl _,hg⟩,?_⟩
   rintro i m σ2 H2 ⟨rfl,hi,F2,ρ2,r2,s2,h2⟩
   obtain⟨j1,j2⟩:=jok F2 H2 s2 r2.fh r2.ex.hh i
   by_cases hlt:i < ds.length
   ·obtain⟨go,yl⟩:=j1 hlt
    refine .inr ⟨go,λσ' H'=>∃F3 ρ3,Rep X.kw B F3 σ' H' ρ3/\Same F1 F3/\forD t gbd (ds.drop (i+1)) ρ3=some fl,λσ' H' ⟨F3,ρ3,r3,s3,h3⟩=>⟨ds.length - (i+1),by omega,rfl,hlt,F3,ρ3,r3,s3,h3⟩,λx H3 hy=>?_⟩
    obtain⟨F3,d,e3,hd,rd⟩:=yl x H3 hy
    have hdd:ds.drop i=d::ds.drop (i+1):=by
     rw[List.drop_eq_getElem_cons hlt]
     congr 1
     rw[List.getElem?_eq_getElem hlt] at hd
     exact Option.some.inj hd
    rw[hdd] at h2
    have h2:((asgD t d ρ2).bind λρ1=>(gbd ρ1).bind λfl=>match fl with
     |.next ρ2=>forD t gbd (ds.drop (i+1)) ρ2
     |.cont ρ2=>forD t gbd (ds.drop (i+1)) ρ2
     |.brk ρ2=>some (.next ρ2)
     |.ret o=>some (.ret o))=some fl:=h2
    cases q1:asgD t d ρ2 with
    |none=>rw[q1] at h2;cases h2
    |some ρ3=>
     rw[q1] at h2
     refine vz (r2.ext e3) rd q1 λσ' r4 _=>?_
     cases q4:gbd ρ3 with
     |none=>rw[show (some ρ3).bind _=(gbd ρ3).bind _ from rfl,q4] at h2;cases h2
     |some f1=>
      rw[show (some ρ3).bind _=(gbd ρ3).bind _ from rfl,q4] at h2
      refine⟨F3,ρ3,f1,r4,q4,?_⟩
      cases f1 with
      |next ρ5=>exact λσ5 F5 H5 r5 s5=>⟨F5,ρ5,r5,(s2.trans e3.ff).trans s5,h2⟩
      |cont ρ5=>exact λσ5 F5 H5 r5 s5=>⟨F5,ρ5,r5,(s2.trans e3.ff).trans s5,h2⟩
      |brk ρ5=>cases h2;exact λσ5 F5 H5 r5 s5=>k σ5 F5 H5 r5 (e1.ff.trans ((s2.trans e3.ff).trans s5))
      |ret o=>cases h2;exact k
   ·have hi':i=ds.length:=by omega
    have hdd:ds.drop i=[]:=by rw[hi',List.drop_length]
    rw[hdd] at h2
    cases h2
    exact .inl ⟨j2 hi',k σ2 F2 H2 r2 (e1.ff.trans s2)⟩
def capO:Option (Option En)->Option En
 |some (some (.val d))=>some (.val d)
 |some (some (.acc ds))=>some (.bor ds)
 |some (some (.bor ds))=>some (.bor ds)
 |some (some (.dct _ kvs))=>some (.dbo kvs)
 |some (some (.dbo kvs))=>some (.dbo kvs)
 |_=>none
def capE (ρ:EnvD)(cap:List (Str×Nat)):EnvD:=cap.map λp=>capO ρ[p.2]?
def compD (t:Tgt)(tc:EnvD->Option Bool)(ge:EnvD->Option D)(ρ0:EnvD):List D->Option (List D)
 | []=>some []
 |d::ds=>(asgD t d ρ0).bind λρ1=>(tc ρ1).bind λb=>if b then (ge ρ1).bind λy=>(compD t tc ge ρ0 ds).map (y::·) else compD t tc ge ρ0 ds
def gComp (own:List Str)(cap:List (Str×Nat))(t:Tgt)(tc:EnvD->Option Bool)(ge:EnvD->Option D)(gi:EnvD->Option (List D)):EnvD->Option (List D):=λρ=>
 (gi ρ).bind λds=>if ds.length<=TOP then compD t tc ge (List.replicate own.length none++capE ρ cap) ds else none
def tYes:EnvD->Option Bool:=λ_=>some true
theorem Um {K:KW}{B:Bs}{σ:St}{H:Hp}{Q:Bool->Hp->Prop}(h:lT K B tYes σ H Q):tTrue σ H Q:=by
 obtain⟨F,ρ,b,r,hg,k⟩:=h
 cases hg
 exact k F H (.refl r.fh)
theorem JG {X:Cx}{ifs:List Expr}{t t':TT}(h:PIfs X ifs t)(k:∀σ H Q,t' σ H Q->t σ H Q):PIfs X ifs t':=λpins s σ H Q I q=>h pins s σ H Q I (k σ H Q q)
def DIfs (X:Cx)(B:Bs)(ifs:List Expr)(g:EnvD->Option Bool):Prop:=PIfs X ifs (lT X.kw B g)
theorem jE:DIfs X B [] tYes:=JG Ji λσ H Q h=>Um h
theorem WA {tc:EnvD->Option Bool}(h:DT X B c tc):DIfs X B [c] tc:=Ga h
theorem u4 {K:KW}{B:Bs}{F F1 H H1:Hp}{σ σ1:St}{ρ:EnvD}{own:List Str}{cap:List (Str×Nat)}(r:Rep K B F σ H ρ)(e:Ext F H F1 H1){F2 H2:Hp}(e2:Ext F1 H1 F2 H2)(hl:σ1.length=own.length) :
  Rep K ⟨F1,H1⟩ F2 (σ1++cap.map λp=>(σ[p.2]?).getD none) H2 (List.replicate own.length none++capE ρ cap):=by
 have noown:∀i y,(List.replicate own.length none++capE ρ cap)[i]?=some (some y)->∃p,cap[i - own.length]?=some p/\own.length<=i/\((∃d,y=.val d/\ρ[p.2]?=some (some (.val d)))∨(∃ds,y=.bor ds/\ρ[p.2]?=some (some (.acc ds)))∨(∃ds,y=.bor ds/\ρ[p.2]?=some (some (.bor ds)))∨(∃kvs,y=.dbo kvs/\∃oa,ρ[p.2]?=some (some (.dct oa kvs)))∨∃kvs,y=.dbo kvs/\ρ[p.2]?=some (some (.dbo kvs))):=by
  intro i y h
  by_cases hi:i < own.length
  ·rw[List.getElem?_append_left (by simpa using hi),List.getElem?_replicate,if_pos hi] at h
   cases h
  ·rw[List.getElem?_append_right (by simpa using hi),List.length_replicate] at h
   unfold capE at h
   rw[List.getElem?_map] at h
   cases q:cap[i - own.length]? with
   |none=>rw[q] at h;cases h
   |some p=>
    rw[q] at h
    replace h:capO ρ[p.2]?=some y:=Option.some.inj h
    refine⟨p,rfl,by omega,?_⟩
    unfold capO at h
    split at h
    ·rename_i d q2;cases h;exact .inl ⟨d,rfl,q2⟩
    ·rename_i ds q2;cases h;exact .inr (.inl ⟨ds,rfl,q2⟩)
    ·rename_i ds q2;cases h;exact .inr (.inr (.inl ⟨ds,rfl,q2⟩))
    ·rename_i oa ds q2;cases h;exact .inr (.inr (.inr (.inl ⟨ds,rfl,oa,q2⟩)))
    ·rename_i ds q2;cases h;exact .inr (.inr (.inr (.inr ⟨ds,rfl,q2⟩)))
    ·cases h
 refine⟨e2,by simp[capE,hl],λi y h=>?_,λi j y z v w h1 h2 _ _ _ a ha _=>?_⟩
 ·obtain⟨p,hp,hi,hy⟩:=noown i y h
  have slot:∀v,σ[p.2]?=some (some v)->(σ1++cap.map λp=>(σ[p.2]?).getD none)[i]?=some (some v):=λv hv=>by
   rw[List.getElem?_append_right (by rw[hl];exact hi),hl,List.getElem?_map,hp]
   show some ((σ[p.2]?).getD none)=_
   rw[hv];rfl
  rcases hy with⟨d,rfl,q⟩ | ⟨ds,rfl,q⟩ | ⟨ds,rfl,q⟩ | ⟨ds,rfl,oa,q⟩ | ⟨ds,rfl,q⟩
  ·obtain⟨v,hv,h2⟩:=r.ents _ _ q
   exact⟨v,slot v hv,Rp.mono (e.ff.trans e2.ff) h2⟩
  ·obtain⟨v,hv,a,vs,e1,g1,g2,g3,g4⟩:=r.ents _ _ q
   exact⟨v,slot v hv,a,vs,e1,e.hh _ _ g1,g4.mono (e.ff.trans e2.ff)⟩
  ·obtain⟨v,hv,a,vs,e1,g1,g4⟩:=r.ents _ _ q
   exact⟨v,slot v hv,a,vs,e1,e.hh _ _ (r.ex.hh _ _ g1),g4.mono (e.ff.trans e2.ff)⟩
  ·obtain⟨v,hv,a,ob,vs,e1,g1,g2,g3,g4,g5⟩:=r.ents _ _ q
   exact⟨v,slot v hv,a,ob,vs,e1,e.hh _ _ g1,g4.mono (e.ff.trans e2.ff)⟩
  ·obtain⟨v,hv,a,ob,vs,e1,g1,g4⟩:=r.ents _ _ q
   exact⟨v,slot v hv,a,ob,vs,e1,e.hh _ _ (r.ex.hh _ _ g1),g4.mono (e.ff.trans e2.ff)⟩
 ·obtain⟨p,_,_,hy⟩:=noown i y h1
  rcases hy with⟨d,rfl,q⟩ | ⟨ds,rfl,q⟩ | ⟨ds,rfl,q⟩ | ⟨ds,rfl,oa,q⟩ | ⟨ds,rfl,q⟩<;>cases ha
theorem jr {elt:Expr}{ifs:List Expr}{scope:Scope}{own:List Str}{cap:List (Str×Nat)}{t:Tgt}{tc:EnvD->Option Bool}{ge:EnvD->Option D}(hc:X.calm=true)(S:CompScope X scope own cap)(hi:DI X B (λH=>H) tg iter gi)(ht:∀i∈t.slots,i < own.length)
  (hin:∀(B':Bs) C s₀ H₀ fp pn,PG (cxc X scope C (own++cap.map (·.1)) s₀ H₀ fp pn) tg (tgT X.kw t)/\DIfs (cxc X scope C (own++cap.map (·.1)) s₀ H₀ fp pn) B' ifs tc/\DE (cxc X scope C (own++cap.map (·.1)) s₀ H₀ fp pn) B' elt ge)
  (hs:∀x,foldedSetIterable iter X.env x=pure x:=by intro _;rfl) :
  DA X B (.ListComp elt [⟨tg,iter,ifs,0⟩] scope pos) (gComp own cap t tc ge gi):=by
 refine zi (Vd (tc:=λσ H Q=>∃B',lT X.kw B' tc σ H Q) (te:=λσ H Q=>∃B',lG X.kw B' (pE X.kw) ge σ H Q) hc S hi (λC s₀ H₀ fp pn=>⟨(hin ⟨H₀,H₀⟩ C s₀ H₀ fp pn).1,λpins s σ H Q I ⟨B',q⟩=>(hin B' C s₀ H₀ fp pn).2.1 pins s σ H Q I q,λpins s σ H Q I ⟨B',q⟩=>(hin B' C s₀ H₀ fp pn).2.2 pins s σ H Q I q⟩) hs) ?_
 intro σ H Q ⟨F,ρ,out,r,hg,k⟩
 unfold gComp at hg
 cases q:gi ρ with
 |none=>rw[q] at hg;cases hg
 |some ds=>
  rw[q] at hg
  have hg:(if ds.length<=TOP then compD t tc ge (List.replicate own.length none++capE ρ cap) ds else none)=some out:=hg
  split at hg
  ·rename_i htop
   refine⟨F,ρ,ds,r,q,λJ F1 H1 e1 jok=>?_⟩
   refine⟨λi m ys H2=>m=ds.length - i/\i<=ds.length/\∃F2 o1 o2,Ext F1 H1 F2 H2/\Rps X.kw F2 o1 ys/\o1.length<=i/\compD t tc ge (List.replicate own.length none++capE ρ cap) (ds.drop i)=some o2/\out=o1++o2,
    ⟨ds.length,rfl,Nat.zero_le _,F1,[],out,.refl e1.fh,rfl,Nat.le_refl _,hg,rfl⟩,?_⟩
   rintro i m ys H2 ⟨rfl,hi,F2,o1,o2,e2,ry,hl1,h2,rfl⟩
   refine⟨ya (by rw[<-ry.length];omega),?_⟩
   obtain⟨j1,j2⟩:=jok F2 H2 e2.ff e2.fh e2.hh i
   by_cases hlt:i < ds.length
   ·obtain⟨go,yl⟩:=j1 hlt
    refine .inr ⟨go,λys' H'=>∃F3 p1 p2,Ext F1 H1 F3 H'/\Rps X.kw F3 p1 ys'/\p1.length<=i+1/\compD t tc ge (List.replicate own.length none++capE ρ cap) (ds.drop (i+1))=some p2/\o1++o2=p1++p2,λys' H' ⟨F3,p1,p2,e3,r3,l3,h3,eo⟩=>⟨ds.length - (i+1),by omega,rfl,hlt,F3,p1,p2,e3,r3,l3,h3,eo⟩,λx H3 hy σ1 hσ=>?_⟩
    obtain⟨F3,d,e3,hd,rd⟩:=yl x H3 hy
    have hdd:ds.drop i=d::ds.drop (i+1):=by
     rw[List.drop_eq_getElem_cons hlt]
     congr 1
     rw[List.getElem?_eq_getElem hlt] at hd
     exact Option.some.inj hd
    rw[hdd] at h2
    simp only[compD] at h2
    cases q1:asgD t d (List.replicate own.length none++capE ρ cap) with
    |none=>rw[q1] at h2;cases h2
    |some ρ1=>
     rw[q1] at h2
     have e13:=e2.trans e3
     refine vz (u4 (own:=own) (cap:=cap) r e1 e13 hσ) rd q1 λσ' r4 so=>⟨?_,?_⟩
     ·obtain⟨σ1',l1,e4⟩:=so.pre (σ1:=σ1) rfl (λj hj=>by rw[hσ];exact ht j hj)
      exact⟨σ1',by rw[l1,hσ],e4⟩
     ·have h2:((tc ρ1).bind λb=>if b then (ge ρ1).bind λy=>(compD t tc ge (List.replicate own.length none++capE ρ cap) (ds.drop (i+1))).map (y::·) else compD t tc ge (List.replicate own.length none++capE ρ cap) (ds.drop (i+1)))=some o2:=h2
      cases q2:tc ρ1 with
      |none=>rw[q2] at h2;cases h2
      |some bb=>
       rw[q2] at h2
       refine⟨⟨F1,H1⟩,F3,ρ1,bb,r4,q2,λF5 H5 e5=>?_⟩
       cases bb with
       |false=>exact iteF ⟨F5,o1,o2,e13.trans e5,ry.mono (e3.ff.trans e5.ff),by omega,h2,rfl⟩
       |true=>
        have h2:((ge ρ1).bind λy=>(compD t tc ge (List.replicate own.length none++capE ρ cap) (ds.drop (i+1))).map (y::·))=some o2:=h2
        cases q3:ge ρ1 with
        |none=>rw[q3] at h2;cases h2
        |some y=>
         rw[q3] at h2
         have h2:(compD t tc ge (List.replicate own.length none++capE ρ cap) (ds.drop (i+1))).map (y::·)=some o2:=h2
         cases q4:compD t tc ge (List.replicate own.length none++capE ρ cap) (ds.drop (i+1)) with
         |none=>rw[q4] at h2;cases h2
         |some p2=>
          rw[q4] at h2
          cases h2
          refine iteT ⟨⟨F1,H1⟩,F5,ρ1,y,r4.ext e5,q3,λv F6 H6 e6 p6=>?_⟩
          exact⟨F6,o1++[y],p2,e13.trans (e5.trans e6),(ry.mono (e3.ff.trans (e5.ff.trans e6.ff))).snoc p6,by simp;omega,rfl,by simp⟩
   ·have hi':i=ds.length:=by omega
    have hdd:ds.drop i=[]:=by rw[hi',List.drop_length]
    rw[hdd] at h2
    cases h2
    refine .inl ⟨j2 hi',λD hD=>?_⟩
    have e:=e1.trans e2
    exact k _ F2 _ (e.trans (.new e.fh hD)) ⟨D,ys,rfl,e.hh.free hD,zq,e.fh.free hD,by simpa using ry⟩
  ·cases hg
end
def stE (N:List Str)(xs:List (Option En)):EnvD:=xs++List.replicate (N.length - xs.length) none
def outO:Option Fl->Option En
 |some (.next _)=>some (.val .non)
 |some (.ret o)=>some o
 |_=>none
def mir (N:List Str)(g:SD):List En->Option En:=λxs=>outO (g (stE N (xs.map some)))
section
variable {P:Program}{w:World}{K:PySem.W.Frag}{mg:Str->Option Value}{base:Heap}
theorem vI {α β:Type}{R:α->β->Prop}:∀ {l:List α} {r:List β} {i:Nat} {x:α},Paired R l r->l[i]?=some x->∃y,r[i]?=some y/\R x y
 |_,_,_,_,.nil,e=>by simp at e
 |_,_,0,_,.cons r _,e=>by simp at e;subst e;exact⟨_,rfl,r⟩
 |_,_,i+1,x,.cons _ t,e=>by
  obtain⟨u,h1,h2⟩:=vI (i:=i) t (by simpa using e)
  exact⟨u,by simpa using h1,h2⟩
theorem uD {F H:Hp}{N ps:List Str}{xs:List En}{vs:List V}(fh:Same F H)(hp:Paired (λx v=>ArgE ⟨K,w⟩ F H x v) xs vs):Rep ⟨K,w⟩ ⟨F,H⟩ F (L2.start N vs) H (stE N (xs.map some)):=by
 have hl:=vx hp
 have at':∀(i:Nat) y,(stE N (xs.map some))[i]?=some (some y)->xs[i]?=some y:=λi y h=>by
  unfold stE at h
  by_cases hi:i < xs.length
  ·rw[List.getElem?_append_left (by simpa using hi),List.getElem?_map] at h
   cases q:xs[i]? with
   |none=>rw[q] at h;cases h
   |some z=>rw[q] at h;cases h;rfl
  ·rw[List.getElem?_append_right (by simpa using hi),List.getElem?_replicate] at h
   split at h<;>cases h
 refine⟨.refl fh,?_,λi y h=>?_,λi j y z v w h1 h2 _ _ _ a ha _=>?_⟩
 ·unfold L2.start stE
  simp[hl]
 ·have hx:=at' i y h
  obtain⟨v,hv,r⟩:=vI hp hx
  refine⟨v,?_,?_⟩
  ·unfold L2.start
   rw[List.getElem?_append_left (by simpa using (List.getElem?_eq_some_iff.mp hv).1),List.getElem?_map,hv];rfl
  ·cases y with
   |val d=>exact r
   |bor ds=>exact r
   |acc ds=>exact r.elim
   |oac a dx C fs ds=>exact r.elim
   |tre t=>exact r.elim
   |dct oa kvs=>exact r.elim
   |dbo kvs=>exact r
   |exn a=>exact r
 ·have hx:=at' i y h1
  obtain⟨u,_,r⟩:=vI hp hx
  cases y with
  |val d=>cases ha
  |bor ds=>cases ha
  |acc ds=>exact r.elim
  |oac a dx C fs ds=>exact r.elim
  |tre t=>exact r.elim
  |dct oa kvs=>exact r.elim
  |dbo kvs=>cases ha
  |exn a=>cases ha
theorem zv {x qual:Str}{st:Stmt}{f:Addr}{fd:FuncData}{N ps:List Str}{k:Nat}{g:SD}(F:Fun K x qual st f fd)(S:FnScope N ps (zc st))
  (hb:∀(cdv:Value) (A:Around) (outer:List Env) (s:Shared) (H:Hp) (E:XK) (B:Bs),Room k (A.deeper (envOfC qual (zc st) s.heap.objs.size f cdv)) ->
   DSs (cxOf CX0 P w K mg base N qual (zc st) f cdv A outer s H E).nox B (zl st) g) :
  FnOk P w K mg base CX0 (k+1) f fd ps (pSp ⟨K,w⟩ ps.length (len? ps.length (mir N g))):=by
 refine F.ok S (λvs H Q E h=>?_) (λcdv A outer s H vs Q E hr h=>?_)
 ·obtain⟨F,xs,o,_,hl,hp,_⟩:=h
  rw[<-vx hp];exact hl
 ·obtain⟨F0,xs,o,fh,hl,hp,hm,k⟩:=h
  refine⟨_,hb cdv A outer s H E ⟨F0,H⟩ hr,?_⟩
  have hm:mir N g xs=some o:=by
   unfold len? at hm
   rw[if_pos hl] at hm
   exact hm
  unfold mir at hm
  cases q:g (stE N (xs.map some)) with
  |none=>rw[q] at hm;cases hm
  |some fl=>
   rw[q] at hm
   refine⟨F0,_,fl,uD (ps:=ps) fh hp,q,?_⟩
   cases fl with
   |next ρ=>cases hm;exact λσ' F' H' r s=>k .non F' H' r.ex rfl
   |ret o'=>cases hm;exact λv F' H' e p=>k v F' H' e p
   |brk ρ=>cases hm
   |cont ρ=>cases hm
def outJ (x dx C:Addr):Option (Option En)->Option (List Str×List D)
 |some (some (.oac a d C' fs ds))=>if a=x/\d=dx/\C'=C then some (fs,ds) else none
 |_=>none
def outI (x dx C:Addr):Option Fl->Option (List Str×List D)
 |some (.next ρ)=>outJ x dx C ρ[0]?
 |_=>none
def mirI (C:Addr)(N:List Str)(g:SD)(x dx:Addr):List En->Option (List Str×List D):=λxs=>outI x dx C (g (stE N (some (.oac x dx C [] [])::xs.map some)))
theorem jv {x qual:Str}{st:Stmt}{f C:Addr}{fd:FuncData}{N ps:List Str}{k n:Nat}{g:SD}(F:Fun K x qual st f fd)(S:FnScope N ps (zc st))(hn:ps.length=n+1)
  (hb:∀(cdv:Value) (A:Around) (outer:List Env) (s:Shared) (H:Hp) (E:XK) (B:Bs),Room k (A.deeper (envOfC qual (zc st) s.heap.objs.size f cdv)) ->
   DSs (cxOf CX0 P w K mg base N qual (zc st) f cdv A outer s H E).nox B (zl st) g) :
  FnOk P w K mg base CX0 (k+1) f fd ps (iSp ⟨K,w⟩ C n (mirI C N g)):=by
 refine F.ok S (λvs H Q E h=>?_) (λcdv A outer s H vs Q E hr h=>?_)
 ·obtain⟨F,H1,xs,a,dx,vs',fs,ds,rfl,_,_,_,_,_,hl,hp,_⟩:=h
  rw[List.length_cons,<-vx hp,hl,hn]
 ·obtain⟨F0,H1,xs,a,dx,vs',fs,ds,rfl,nx,ndx,nex,rfl,fh,hl,hp,hm,k⟩:=h
  refine⟨_,hb cdv A outer s _ E ⟨F0,H1⟩ hr,?_⟩
  have hx1:(upd H1 dx (.own a)) a=none:=by rw[zk (Ne.symm nex)];exact nx
  have sH:Same H1 (upd (upd H1 dx (.own a)) a (.ins C dx [])):=(zW ndx).trans (zW hx1)
  have r0:=uD (N:=N) (ps:=ps) fh hp
  have hla:=vx hp
  have R:Rep ⟨K,w⟩ ⟨F0,H1⟩ F0 (L2.start N (.ref a::vs')) (upd (upd H1 dx (.own a)) a (.ins C dx [])) (stE N (some (.oac a dx C [] [])::xs.map some)):=by
   have sl:∀i:Nat,(L2.start N (.ref a::vs'))[i+1]?=none∨∀v,(L2.start N (.ref a::vs'))[i+1]?=some (some v)->vs'[i]?=some v:=λi=>.inr λv h=>by
    unfold L2.start at h
    by_cases hi:i < vs'.length
    ·rw[List.getElem?_append_left (by simpa using hi),List.getElem?_map,List.getElem?_cons_succ] at h
     cases q:vs'[i]? with
     |none=>rw[q] at h;cases h
     |some z=>rw[q] at h;cases h;rfl
    ·rw[List.getElem?_append_right (by simpa using hi),List.getElem?_replicate] at h
     split at h<;>cases h
   have at':∀(i:Nat) y,(stE N (some (.oac a dx C [] [])::xs.map some))[i]?=some (some y)->(i=0/\y=.oac a dx C [] [])∨∃j,i=j+1/\xs[j]?=some y:=λi y h=>by
    unfold stE at h
    cases i with
    |zero=>simp at h;exact .inl ⟨rfl,h.symm⟩
    |succ j=>
     refine .inr ⟨j,rfl,?_⟩
     by_cases hi:j < xs.length
     ·rw[List.getElem?_append_left (by simpa using hi),List.getElem?_cons_succ,List.getElem?_map] at h
      cases q:xs[j]? with
      |none=>rw[q] at h;cases h
      |some z=>rw[q] at h;cases h;rfl
     ·rw[List.getElem?_append_right (by simpa using hi),List.getElem?_replicate] at h
      split at h<;>cases h
   refine⟨⟨Same.refl _,sH,fh.trans sH,λ_ h=>.inl h⟩,?_,λi y h=>?_,λi j y z v w h1 h2 _ _ hne b hb hc=>?_⟩
   ·unfold L2.start stE
    simp[hla]
   ·rcases at' i y h with⟨rfl,rfl⟩ | ⟨j,rfl,hx⟩
    ·exact⟨.ref a,by simp[L2.start],[],rfl,zq,rfl,fh.free nx,nx,rfl,by rw[zk nex];exact zq,fh.free ndx,ndx⟩
    ·obtain⟨v,hv,r⟩:=vI hp hx
     refine⟨v,?_,?_⟩
     ·unfold L2.start
      rw[List.getElem?_append_left (by simpa using (List.getElem?_eq_some_iff.mp hv).1),List.getElem?_map,List.getElem?_cons_succ,hv];rfl
     ·cases y with
      |val d=>exact r
      |bor ds=>exact r
      |acc ds=>exact r.elim
      |oac a dx C fs ds=>exact r.elim
      |tre t=>exact r.elim
      |dct oa kvs=>exact r.elim
      |dbo kvs=>exact r
      |exn a=>exact r
   ·have own0:∀(i:Nat) y v b,(stE N (some (.oac a dx C [] [])::xs.map some))[i]?=some (some y)->b∈feetE (upd (upd H1 dx (.own a)) a (.ins C dx [])) y v->i=0:=λi y v b h o=>by
     rcases at' i y h with⟨rfl,_⟩ | ⟨j,rfl,hx⟩
     ·rfl
     ·obtain⟨u,_,r⟩:=vI hp hx
      cases y with
      |val d=>cases o
      |bor ds=>cases o
      |acc ds=>exact r.elim
      |oac a dx C fs ds=>exact r.elim
      |tre t=>exact r.elim
      |dct oa kvs=>exact r.elim
      |dbo kvs=>cases o
      |exn a=>cases o
    exact hne (by rw[own0 i y v b h1 hb,own0 j z w b h2 hc])
  unfold mirI at hm
  cases q:g (stE N (some (.oac a dx C [] [])::xs.map some)) with
  |none=>rw[q] at hm;cases hm
  |some fl=>
   rw[q] at hm
   refine⟨F0,_,fl,R,q,?_⟩
   cases fl with
   |next ρ=>
    refine λσ' F' H' r s=>?_
    replace hm:outJ a dx C ρ[0]?=some (fs,ds):=hm
    unfold outJ at hm
    split at hm
    ·rename_i a' d' C' fs' ds' q0
     split at hm
     ·rename_i hc
      obtain⟨rfl,rfl,rfl⟩:=hc
      cases hm
      obtain⟨v,_,vs,rfl,h1,h2,h3,_,h5,d1,d2,_⟩:=r.ents 0 _ q0
      exact k F' H' vs r.ex h3 h1 h2 h5 ⟨d1,d2⟩
     ·cases hm
    ·cases hm
   |ret o'=>cases hm
   |brk ρ=>cases hm
   |cont ρ=>cases hm
end
section
variable {X:Cx}{B:Bs}{e a b c o:Expr}{es:List Expr}{pos p apos:Pos}{g:EnvD->Option D}{gxs:EnvD->Option (List En)}{x mm:Str}{C:Addr}{n k:Nat}{m:List En->Option En}
def fNeg:D->Option D
 |.int i=>some (.int (-i))
 |_=>none
def gNeg (g:EnvD->Option D):EnvD->Option D:=λρ=>(g ρ).bind fNeg
theorem jT (ha:DR X B a g):DE X B (.UnaryOp .USub a pos) (gNeg g) :=
 zi (Jd Qj ha) λσ H Q ⟨F,ρ,d,r,hg,k⟩=>by
  unfold gNeg at hg
  cases q:g ρ with
  |none=>rw[q] at hg;cases hg
  |some y=>
   rw[q] at hg
   cases y with
   |int i=>cases hg;exact⟨F,ρ,_,r,q,λv F1 H1 e1 p1=>⟨i,p1.int,k _ F1 H1 e1 rfl⟩⟩
   |_=>cases hg
structure Fx (P:Program)(w:World)(K:PySem.W.Frag)(mg:Str->Option Value)(base:Heap)(x:Str)(k n:Nat)(m:List En->Option En):Prop where
 ex:∃f fd ps,FnOk P w K mg base CX0 k f fd ps (pSp ⟨K,w⟩ n (len? n m))/\mg x=some (.ref f)/\PySem.W.keepIn K (.ref f)=true/\Binds K fd ps []
structure Mx (P:Program)(w:World)(K:PySem.W.Frag)(mg:Str->Option Value)(base:Heap)(C:Addr)(x:Str)(k n:Nat)(m:List En->Option En):Prop where
 ex:∃f fd ps,FnOk P w K mg base CX0 k f fd ps (pSp ⟨K,w⟩ n (len? n m))/\Meth K C x f/\Binds K fd ps []
structure Kx (P:Program)(w:World)(K:PySem.W.Frag)(mg:Str->Option Value)(base:Heap)(C:Addr)(x:Str)(k n:Nat)(mi:List En->Option (List Str×List D)):Prop where
 ex:∃f fd ps mi',FnOk P w K mg base CX0 k f fd ps (iSp ⟨K,w⟩ C n mi')/\Mk K C f/\mg x=some (.ref C)/\Binds K fd ps []/\∀a dx xs,mi' a dx xs=mi xs
theorem zy (h:Fx X.prog X.w X.kw X.mg X.base x k n m)(hr:Room k X.A)(hg:Gl X x)(ha:DNs X B (e::es) gxs)(hdb:(x==("__debug__" : Str))=false:=by decide +kernel)
  (he:starEach (e::es) X.env=(false,eval e X.env)::starEach es X.env:=by rfl) (hpl:(backTo pos (starEach es X.env)).any (·.1)=false:=by rfl):DE X B (.Call (.Name x p) (e::es) [] pos) (gCall (len? n m) frzO gxs):=by
 obtain⟨f,fd,ps,F,hm,hk,hb⟩:=h.ex
 exact VY F hr hg hm hk hb ha hdb he hpl
theorem y9 (h:Fx X.prog X.w X.kw X.mg X.base x k n m)(hr:Room k X.A)(hg:Gl X x)(ha:DNs X B (e::es) gxs)(hdb:(x==("__debug__" : Str))=false:=by decide +kernel)
  (he:starEach (e::es) X.env=(false,eval e X.env)::starEach es X.env:=by rfl) (hpl:(backTo pos (starEach es X.env)).any (·.1)=false:=by rfl):DA X B (.Call (.Name x p) (e::es) [] pos) (gCall (len? n m) accO gxs):=by
 obtain⟨f,fd,ps,F,hm,hk,hb⟩:=h.ex
 exact Uo F hr hg hm hk hb ha hdb he hpl
theorem yP {pl:Sem Bool}(ho:DE X B o g)(cl:Cls X.kw C)(h:Mx X.prog X.w X.kw X.mg X.base C mm k n m)(hr:Room k X.A)(ha:DNs X B (e::es) gxs)
  (hst:starEach (e::es) X.env=(false,eval e X.env)::starEach es X.env:=by rfl) (hpl:(backTo pos (starEach es X.env)).any (·.1)=false:=by rfl)
  (ht:eval (.Call (.Attribute o mm apos) (e::es) [] pos) X.env=(do
   let ov <-eval o X.env
   standAt apos.atName
   let (f,first) <-holding [ov] (getMethod ov mm pl)
   callWith pos f first (backTo pos (starEach (e::es) X.env)) (backToKw pos (keywordEach [] X.env))):=by rfl) :
  DE X B (.Call (.Attribute o mm apos) (e::es) [] pos) (gMeth C mm (len? n m) frzO g gxs):=by
 obtain⟨f,fd,ps,F,hm,hb⟩:=h.ex
 exact QC ho cl hm F hr hb ha hst hpl ht
theorem zV {pl:Sem Bool}(ho:DE X B o g)(cl:Cls X.kw C)(h:Mx X.prog X.w X.kw X.mg X.base C mm k n m)(hr:Room k X.A)
  (ht:eval (.Call (.Attribute o mm apos) [] [] pos) X.env=(do
   let ov <-eval o X.env
   standAt apos.atName
   let (f,first) <-holding [ov] (getMethod ov mm pl)
   callWith pos f first (backTo pos (starEach [] X.env)) (backToKw pos (keywordEach [] X.env))):=by rfl) :
  DE X B (.Call (.Attribute o mm apos) [] [] pos) (gMeth C mm (len? n m) frzO g nNil):=by
 obtain⟨f,fd,ps,F,hm,hb⟩:=h.ex
 exact KG ho cl hm F hr hb ht
theorem uY {mi:List En->Option (List Str×List D)}(h:Kx X.prog X.w X.kw X.mg X.base C x k n mi)(hr:Room (k+1) X.A)(hg:Gl X x)(ha:DNs X B (e::es) gxs)(hdb:(x==("__debug__" : Str))=false:=by decide +kernel)
  (he:starEach (e::es) X.env=(false,eval e X.env)::starEach es X.env:=by rfl) (hpl:(backTo pos (starEach es X.env)).any (·.1)=false:=by rfl):DE X B (.Call (.Name x p) (e::es) [] pos) (gMake C n mi gxs):=by
 obtain⟨f,fd,ps,mi',F,M,hm,hb,hmi⟩:=h.ex
 exact Kd hmi M F hr hg hm hb ha hdb he hpl
theorem yO {gs:EnvD->Option (List D)}(hg:Gl X "len") (hm:X.mg "len" = none) (ha:DRs X B [a] gs) (he:starEach [a] X.env=(false,eval a X.env)::starEach [] X.env:=by rfl) (hpl:(backTo pos (starEach [] X.env)).any (·.1)=false:=by rfl) :
  DE X B (.Call (.Name "len" p) [a] [] pos) (gB fLen gs):=qj Kc GR hg hm (by decide +kernel) ha (by decide) (by decide) he hpl
theorem zap {gs:EnvD->Option (List D)}(hc:X.calm=true)(hg:Gl X "max") (hm:X.mg "max" = none) (ha:DRs X B [a,b] gs) (he:starEach [a,b] X.env=(false,eval a X.env)::starEach [b] X.env:=by rfl) (hpl:(backTo pos (starEach [b] X.env)).any (·.1)=false:=by rfl) :
  DE X B (.Call (.Name "max" p) [a,b] [] pos) (gB fMax gs):=qj (Kl hc) Ki hg hm (by decide +kernel) ha (by decide) (by decide) he hpl
theorem Ug {gs:EnvD->Option (List D)}(hc:X.calm=true)(hg:Gl X "min") (hm:X.mg "min" = none) (ha:DRs X B [a,b] gs) (he:starEach [a,b] X.env=(false,eval a X.env)::starEach [b] X.env:=by rfl) (hpl:(backTo pos (starEach [b] X.env)).any (·.1)=false:=by rfl) :
  DE X B (.Call (.Name "min" p) [a,b] [] pos) (gB fMin gs):=qj (Jj hc) Re hg hm (by decide +kernel) ha (by decide) (by decide) he hpl
theorem RH {gs:EnvD->Option (List D)}(hc:X.calm=true)(hg:Gl X "all") (hm:X.mg "all" = none) (ha:DRs X B [a] gs) (he:starEach [a] X.env=(false,eval a X.env)::starEach [] X.env:=by rfl) (hpl:(backTo pos (starEach [] X.env)).any (·.1)=false:=by rfl) :
  DE X B (.Call (.Name "all" p) [a] [] pos) (gB fAll gs):=qj (Ua hc) GH hg hm (by decide +kernel) ha (by decide) (by decide) he hpl
theorem xC {gs:EnvD->Option (List D)}(hg:Gl X "list") (hm:X.mg "list" = none) (ha:DRs X B [a] gs) (he:starEach [a] X.env=(false,eval a X.env)::starEach [] X.env:=by rfl) (hpl:(backTo pos (starEach [] X.env)).any (·.1)=false:=by rfl) :
  DA X B (.Call (.Name "list" p) [a] [] pos) (gB fList gs):=R8 zaw UC hg hm (by decide +kernel) ha (by decide) (by decide) he hpl
theorem kitT {K:PySem.W.Frag}(T:String)(hT:T∈["bool","int","str","list","tuple","dict"]):∀t b,subT t T=some b->PySem.W.kitOne K (.type t) (.type T)=some b:=by
 intro t b h
 unfold subT at h
 by_cases h1:t=T
 ·rw[if_pos h1] at h
  cases h
  subst h1
  unfold PySem.W.kitOne
  rw[if_pos (beq_self_eq_true _)]
 ·rw[if_neg h1] at h
  by_cases h2:t = "bool" /\ T = "int"
  ·rw[if_pos h2] at h
   cases h
   obtain⟨rfl,rfl⟩:=h2
   rfl
  ·rw[if_neg h2] at h
   by_cases h3:(t∈["NoneType","bool","int","str","list","tuple","dict"])/\(T∈["bool","int","str","list","tuple","dict"])
   ·rw[if_pos h3] at h
    cases h
    obtain⟨m1,m2⟩:=h3
    simp only[List.mem_cons,List.not_mem_nil,or_false] at m1 m2
    rcases m1 with rfl | rfl | rfl | rfl | rfl | rfl | rfl<;>rcases m2 with rfl | rfl | rfl | rfl | rfl | rfl<;>first | rfl | exact absurd rfl h1 | exact absurd ⟨rfl,rfl⟩ h2
   ·rw[if_neg h3] at h;cases h
def ckFree (sc:List (Str×NameKind))(y:Str×NameKind):Bool:=y.2 != .free||sc.lookup y.1==some .cell||sc.lookup y.1==some .free
def ckComp (names sc:List (Str×NameKind))(N:List Str)(cap:List (Str×Nat)):Bool :=
 names.all (λy=>y.2 != .cell)&&names.all (λy=>y.2 != .local||names.lookup y.1==some .local)&&names.all (ckFree sc)&&cap.all (λp=>names.lookup p.1==some .free&&N[p.2]?==some p.1)
theorem wG {scope:Scope}{own:List Str}{cap:List (Str×Nat)}{sc:List (Str×NameKind)}{N:List Str}(hk:scope.kind=.function)(h1:X.env.scope.names=sc)(h2:X.N=N)(h:ckComp scope.names sc N cap=true):CompScope X scope own cap:=by
 subst h1 h2
 unfold ckComp at h
 simp only[Bool.and_eq_true,List.all_eq_true] at h
 obtain⟨⟨⟨a1,a2⟩,a3⟩,a4⟩:=h
 refine⟨hk,λy hy e=>?_,λy hy e=>?_,λy hy e=>?_,λp hp=>?_⟩
 ·have:=a1 y hy;rw[e] at this;cases this
 ·have:=a2 y hy;rw[e] at this;simpa using this
 ·have:=a3 y hy
  unfold ckFree at this
  rw[e] at this
  have q:List.lookup y.fst X.env.scope.names=some NameKind.cell∨List.lookup y.fst X.env.scope.names=some NameKind.free:=by simpa using this
  exact q
 ·have:=a4 p hp
  simpa using this
end
def thenB (o:Option Fl)(g:SD):Option Fl:=o.bind λfl=>match fl with | .next ρ'=>g ρ' | fl=>some fl
def loopB (o:Option Fl)(k:EnvD->Option Fl):Option Fl:=o.bind λfl=>match fl with | .next ρ2=>k ρ2 | .cont ρ2=>k ρ2 | .brk ρ2=>some (.next ρ2) | .ret o=>some (.ret o)
section
variable {ρ:EnvD}{i k n:Nat}{d x y:D}{ds es:List D}{a b j:Int}{α γ:Type}{ga gb gc' g:EnvD->Option D}{ta tb:EnvD->Option Bool}{gs:EnvD->Option (List D)}{s1 s2:SD}
@[simp]theorem QV:gc d ρ=some d:=rfl
@[simp]theorem ze2:gv i ρ=match ρ[i]? with | some (some (.val d))=>some d | _=>none:=rfl
@[simp]theorem zeg:gr i ρ=match ρ[i]? with | some (some (.val d))=>some d | some (some (.acc ds))=>some (.lst ds) | some (some (.bor ds))=>some (.lst ds) | _=>none:=rfl
@[simp]theorem zfg:gn i ρ=match ρ[i]? with | some (some (.val d))=>some (.val d) | some (some (.acc ds))=>some (.bor ds) | some (some (.bor ds))=>some (.bor ds) | some (some (.dct _ kvs))=>some (.dbo kvs) | some (some (.dbo kvs))=>some (.dbo kvs) | _=>none:=rfl
@[simp]theorem zdg:gf i ρ=match ρ[i]? with | some (some (.val d))=>some d | some (some (.bor ds))=>some (.lst ds) | _=>none:=rfl
@[simp]theorem zcl:gFz gs ρ=(gs ρ).map D.lst:=rfl
@[simp]theorem ux {f:D->D->Option γ}:g2 f ga gb ρ=(ga ρ).bind λx=>(gb ρ).bind λy=>f x y:=rfl
@[simp]theorem zd0 {f f':D->D->Option D}:g3 f f' ga gb gc' ρ=(ga ρ).bind λx=>(gb ρ).bind λy=>((f x y).bind asB).bind λk=>if k then (gc' ρ).bind λz=>f' y z else some (.bl false):=rfl
@[simp]theorem Rv:gt g ρ=(g ρ).bind truD:=rfl
@[simp]theorem zdx:gb' g ρ=(g ρ).bind asB:=rfl
@[simp]theorem zfd:gAnd ta tb ρ=(ta ρ).bind λx=>if x then tb ρ else some false:=rfl
@[simp]theorem zdl:gOr ta tb ρ=(ta ρ).bind λx=>if x then some true else tb ρ:=rfl
@[simp]theorem Gx:gNot ta ρ=(ta ρ).map λx=>!x:=rfl
@[simp]theorem J6:gAndV ga gb ρ=((ga ρ).bind asB).bind λx=>if x then gb ρ else some (.bl false):=rfl
@[simp]theorem za8:gNotV ga ρ=((ga ρ).bind asB).map λx=>.bl (!x):=rfl
@[simp]theorem zeo:gIf ta ga gb ρ=(ta ρ).bind λx=>if x then ga ρ else gb ρ:=rfl
@[simp]theorem zel:gNil ρ=some []:=rfl
@[simp]theorem zd2:gCons' g gs ρ=(g ρ).bind λd=>(gs ρ).bind λds=>some (d::ds):=rfl
@[simp]theorem zbf:gTup' gs ρ=(gs ρ).bind λds=>if ds.length<=TOP then some (.tup ds) else none:=rfl
@[simp]theorem zep:gLst gs ρ=(gs ρ).bind λds=>if ds.length<=TOP then some ds else none:=rfl
@[simp]theorem zck {f:List D->Option γ}:gB f gs ρ=(gs ρ).bind f:=rfl
@[simp]theorem zbq:nNil ρ=some []:=rfl
@[simp]theorem um {g:EnvD->Option En}{gs:EnvD->Option (List En)}:nCons g gs ρ=(g ρ).bind λd=>(gs ρ).bind λds=>some (d::ds):=rfl
@[simp]theorem QG:gVal g ρ=(g ρ).map En.val:=rfl
@[simp]theorem zbp {T:String}:gIs T g ρ=(g ρ).bind λd=>(tyD d).bind λt=>(subT t T).map D.bl:=rfl
@[simp]theorem ze3:gNone ρ=some none:=rfl
@[simp]theorem zci:gSome g ρ=(g ρ).bind λd=>(asI d).map some:=rfl
@[simp]theorem zbc:gNeg g ρ=(g ρ).bind fNeg:=rfl
@[simp]theorem zdn:gIt g ρ=(g ρ).bind itL:=rfl
@[simp]theorem za3 {gl gh:EnvD->Option (Option Int)}:gSl g gl gh ρ=(g ρ).bind λd=>(gl ρ).bind λl=>(gh ρ).bind λh=>match d with | .lst ds=>some (cutD ds l h) | _=>none:=rfl
@[simp]theorem zb6:fNeg (.int a)=some (.int (-a)):=rfl
@[simp]theorem zff:itL (.lst ds)=some ds:=rfl
@[simp]theorem zc2:asI (.int a)=some a:=rfl
@[simp]theorem zbr {b:Bool}:asB (.bl b)=some b:=rfl
@[simp]theorem ZI {m:List En->Option En}{f:En->Option α}{gs:EnvD->Option (List En)}:gCall m f gs ρ=((gs ρ).bind m).bind f:=rfl
@[simp]theorem zcw {m:List En->Option En}{xs:List En}:len? n m xs=if xs.length=n then m xs else none:=rfl
@[simp]theorem zfq:frzO (.val d)=some d:=rfl
@[simp]theorem zbw:frzO (.acc ds)=some (.lst ds):=rfl
@[simp]theorem zbu:frzO (.bor ds)=none:=rfl
@[simp]theorem zdd {p q C:Addr}{fs:List Str}:frzO (.oac p q C fs ds)=none:=rfl
@[simp]theorem zb5 {t:OT}:frzO (.tre t)=some t.erase:=rfl
@[simp]theorem zbm {t:OT}:accO (.tre t)=none:=rfl
@[simp]theorem zcr:accO (.val d)=none:=rfl
@[simp]theorem zct:accO (.bor ds)=none:=rfl
@[simp]theorem zdf:accO (.acc ds)=some ds:=rfl
@[simp]theorem zfs:gR1 gs ρ=(gs ρ).bind λxs=>match xs with | [.int j]=>if -BIG<=j/\j<=BIG then some (rngD 0 j.toNat) else none | _=>none:=rfl
@[simp]theorem zd9:gR2 gs ρ=(gs ρ).bind λxs=>match xs with | [.int i,.int j]=>if (-BIG<=i/\i<=BIG)/\(-BIG<=j/\j<=BIG) then some (rngD i (j - i).toNat) else none | _=>none:=rfl
@[simp]theorem zc5:gEn gs ρ=(gs ρ).bind λxs=>match xs with | [d]=>(itL d).map (enumD 0) | _=>none:=rfl
@[simp]theorem zed {C:Addr}{fl:Str}:gFld C fl g ρ=(g ρ).bind λd=>match d with | .obj C' fs ds=>if C'=C then lookZ fl fs ds else none | _=>none:=rfl
@[simp]theorem wJ {C:Addr}{mm:Str}{m:List En->Option En}{f:En->Option α}{go:EnvD->Option D}{gs:EnvD->Option (List En)}:gMeth C mm m f go gs ρ=(go ρ).bind λd=>match d with
 |.obj C' fs ds=>if C'=C/\lookZ mm fs ds=none then ((gs ρ).bind λxs=>m (.val d::xs)).bind f else none
 |_=>none:=rfl
@[simp]theorem za9 {C:Addr}{mi:List En->Option (List Str×List D)}{gs:EnvD->Option (List En)}:gMake C n mi gs ρ=(gs ρ).bind λxs=>if xs.length=n then (mi xs).map λr=>.obj C r.1 r.2 else none:=rfl
@[simp]theorem zc6 {own:List Str}{cap:List (Str×Nat)}{t:Tgt}{tc:EnvD->Option Bool}{ge:EnvD->Option D}{gi:EnvD->Option (List D)}:gComp own cap t tc ge gi ρ=(gi ρ).bind λds=>if ds.length<=TOP then compD t tc ge (List.replicate own.length none++capE ρ cap) ds else none:=rfl
@[simp]theorem zd8 {cap:List (Str×Nat)}:capE ρ cap=cap.map λp=>capO ρ[p.2]?:=rfl
@[simp]theorem Qe:tYes ρ=some true:=rfl
@[simp]theorem zbg:fSub (.int a) (.int b)=some (.int (a - b)):=rfl
theorem Zn:fMul (.int a) (.int b)=if (decide (-LIM < a)&&decide (a < LIM))||(decide (-LIM < b)&&decide (b < LIM)) then some (.int (a * b)) else none:=rfl
theorem Yy (h1:-LIM < a)(h2:a < LIM):fMul (.int a) (.int b)=some (.int (a * b)):=by rw[Zn,if_pos (by simp[h1,h2])]
theorem ze7 (h1:-LIM < b)(h2:b < LIM):fMul (.int a) (.int b)=some (.int (a * b)):=by rw[Zn,if_pos (by simp[h1,h2])]
theorem K2:fDiv (.int a) (.int b)=if decide (0 < b)&&decide (b < 1073741824) then some (.int (a / b)) else none:=rfl
theorem KH:fMod (.int a) (.int b)=if decide (0 < b) then some (.int (a % b)) else none:=rfl
theorem xo (h1:0 < b)(h2:b < 1073741824):fDiv (.int a) (.int b)=some (.int (a / b)):=by rw[K2,if_pos (by simp[h1,h2])]
theorem zR (h1:0 < b):fMod (.int a) (.int b)=some (.int (a % b)):=by rw[KH,if_pos (by simp[h1])]
theorem Z9 (h1:0<=b):fShr (.int a) (.int b)=some (.int (a / 2 ^ b.toNat)):=by show (if _ then _ else _)=_;rw[if_pos (by simp[h1])]
@[simp]theorem zef:fAnd (.int a) (.int b)=some (.int (Builtin.bitAnd a b)):=rfl
theorem ze0:fPow (.int a) (.int b)=if decide (0<=b)&&decide (b<=1000000)&&decide (a.natAbs < 18446744073709551616) then some (.int (a ^ b.toNat)) else none:=rfl
@[simp]theorem zcz:fLt (.int a) (.int b)=some (.bl (decide (a < b))):=rfl
@[simp]theorem zb3:fLe (.int a) (.int b)=some (.bl (decide (a<=b))):=rfl
@[simp]theorem zdy:fGt (.int a) (.int b)=some (.bl (decide (b < a))):=rfl
@[simp]theorem zbk:fIx (.lst ds) (.int a)=atI ds a:=rfl
@[simp]theorem zcf:fIx (.tup ds) (.int a)=atI ds a:=rfl
@[simp]theorem zbd {ns:List Int}:fIx (.scr ns) (.int a)=(atI ns a).map D.int:=rfl
theorem WJ:eqOk (.int a)=true:=by simp[eqOk,SeqAt.shaped,toP,PyData.canLay0,PyData.depth]
@[simp]theorem zcb {neg:Bool}:fEq neg (.int a) (.int b)=some (.bl (if neg then !decide (a=b) else decide (a=b))):=by
 unfold fEq
 rw[WJ,WJ]
 have:eqD (.int a) (.int b)=decide (a=b):=by
  by_cases h:a=b
  ·subst h;simp[eqD,toP,PyData.eqv]
  ·simp[eqD,toP,PyData.eqv,h]
 rw[this];rfl
@[simp]theorem zfk {neg:Bool}:fIs neg d .non=some (.bl (if neg then !isNon d else isNon d)):=by cases d<;>rfl
@[simp]theorem zdc:isNon .non=true:=rfl
@[simp]theorem zc3:isNon (.int a)=false:=rfl
@[simp]theorem zd5 {b:Bool}:truD (.bl b)=some b:=rfl
@[simp]theorem zfr:truD (.lst ds)=some (!ds.isEmpty):=rfl
@[simp]theorem zez:truD (.tup ds)=some (!ds.isEmpty):=rfl
@[simp]theorem zc8:fLen [.lst ds]=some (.int ds.length):=rfl
@[simp]theorem zdb:fLen [.tup ds]=some (.int ds.length):=rfl
@[simp]theorem ze6 {ns:List Int}:fLen [.scr ns]=some (.int ns.length):=rfl
@[simp]theorem zem:fMax [.int a,.int b]=some (.int (max a b)):=by
 show some (D.int (if b > a then b else a))=_
 congr 2;split<;>omega
@[simp]theorem zby:fMin [.int a,.int b]=some (.int (min a b)):=by
 show some (D.int (if b < a then b else a))=_
 congr 2;split<;>omega
@[simp]theorem zcp:fAll [.lst ds]=(asBs ds).map λbs=>.bl (bs.all λx=>x):=rfl
@[simp]theorem zbi:fList [.lst ds]=some ds:=rfl
@[simp]theorem ze5:fList [.tup ds]=some ds:=rfl
@[simp]theorem zdq:tyD (.int a)=some "int" := rfl
@[simp]theorem zde {b:Bool}:tyD (.bl b)=some "bool" := rfl
@[simp]theorem zes:tyD .non=some "NoneType" := rfl
@[simp]theorem zdo:tyD (.lst ds)=some "list" := rfl
@[simp]theorem zev:tyD (.tup ds)=some "tuple" := rfl
@[simp]theorem za4 {x:Str}:tyD (.str x)=some "str" := rfl
@[simp]theorem zce:subT "int" "int" = some true:=by decide
@[simp]theorem zcd:subT "int" "bool" = some false:=by decide
@[simp]theorem ze9:subT "NoneType" "int" = some false:=by decide
@[simp]theorem za6:subT "list" "list" = some true:=by decide
@[simp]theorem zec:subT "tuple" "tuple" = some true:=by decide
@[simp]theorem zbb:sSeq s1 s2 ρ=thenB (s1 ρ) s2:=rfl
@[simp]theorem zc4:thenB (some (.next ρ)) s2=s2 ρ:=rfl
@[simp]theorem zc7 {o:En}:thenB (some (.ret o)) s2=some (.ret o):=rfl
@[simp]theorem zc9:thenB none s2=none:=rfl
@[simp]theorem zfu {k:EnvD->Option Fl}:loopB (some (.next ρ)) k=k ρ:=rfl
@[simp]theorem zcx {k:EnvD->Option Fl}{o:En}:loopB (some (.ret o)) k=some (.ret o):=rfl
@[simp]theorem zd4 {k:EnvD->Option Fl}:loopB none k=none:=rfl
@[simp]theorem zba:sNext ρ=some (.next ρ):=rfl
@[simp]theorem zbo:sNever ρ=none:=rfl
@[simp]theorem zaz:sFrz i s1 ρ=s1 (frzE i ρ):=rfl
@[simp]theorem zdm:frzE i ρ=match ρ[i]? with | some (some (.acc ds))=>ρ.set i (some (.val (.lst ds))) | some (some (.oac _ _ C fs ds))=>ρ.set i (some (.val (.obj C fs ds))) | some (some (.tre t))=>ρ.set i (some (.val t.erase)) | _=>ρ:=rfl
@[simp]theorem za7:sSet i g ρ=(g ρ).map λd=>.next (ρ.set i (some (.val d))):=rfl
@[simp]theorem zbz:sSetA i gs ρ=(gs ρ).map λds=>.next (ρ.set i (some (.acc ds))):=rfl
@[simp]theorem Kg:sRet g ρ=(g ρ).map λd=>.ret (.val d):=rfl
@[simp]theorem zer:sRetA gs ρ=(gs ρ).map λd=>.ret (.acc d):=rfl
@[simp]theorem zcy:sRetV i ρ=match ρ[i]? with | some (some (.acc ds))=>some (.ret (.acc ds)) | some (some (.val d))=>some (.ret (.val d)) | _=>none:=rfl
@[simp]theorem KC:sIf ta s1 s2 ρ=(ta ρ).bind λb=>if b then s1 ρ else s2 ρ:=rfl
@[simp]theorem zb0:sExpr g ρ=(g ρ).map λ_=>.next ρ:=rfl
@[simp]theorem zfp:sApp i g ρ=match ρ[i]? with | some (some (.acc ds))=>(g ρ).bind λd=>if ds.length<=TOP then some (.next (ρ.set i (some (.acc (ds++[d]))))) else none | _=>none:=rfl
@[simp]theorem zdv:sPop i ρ=match ρ[i]? with | some (some (.acc ds))=>if ds.isEmpty then none else some (.next (ρ.set i (some (.acc ds.dropLast)))) | _=>none:=rfl
@[simp]theorem zbv {gi:EnvD->Option D}:sPut i gi g ρ=match ρ[i]? with | some (some (.acc ds))=>(g ρ).bind λd=>((gi ρ).bind asI).bind λj=>(ixN ds.length j).map λn=>.next (ρ.set i (some (.acc (ds.set n d)))) | _=>none:=rfl
@[simp]theorem zdh {C:Addr}{fl:Str}:sFldD i C fl g ρ=match ρ[i]? with | some (some (.oac a dx C' fs ds))=>if C'=C/\fs.length < 900 then (g ρ).map λd=>.next (ρ.set i (some (.oac a dx C (putZ fl d fs ds).1 (putZ fl d fs ds).2))) else none | _=>none:=rfl
@[simp]theorem zen {t:Tgt}{gi:EnvD->Option (List D)}:sFor t gi s1 ρ=(gi ρ).bind λds=>forD t s1 ds ρ:=rfl
@[simp]theorem zam:asgD (.name i) d ρ=some (ρ.set i (some (.val d))):=rfl
@[simp]theorem zd3 {is:List Nat}:asgD (.tup is) (.tup ds) ρ=if ds.length=is.length then some (z6 is ds ρ) else none:=rfl
@[simp]theorem zbl {is:List Nat}:z6 (i::is) (d::ds) ρ=z6 is ds (ρ.set i (some (.val d))):=rfl
@[simp]theorem zda:z6 [] [] ρ=ρ:=rfl
@[simp]theorem zfi {o:En}:outO (some (.ret o))=some o:=rfl
@[simp]theorem zdw:outO (some (.next ρ))=some (.val .non):=rfl
@[simp]theorem zfm {t:Tgt}:forD t s1 [] ρ=some (.next ρ):=rfl
@[simp]theorem yE {t:Tgt}:forD t s1 (d::ds) ρ=loopB ((asgD t d ρ).bind s1) (forD t s1 ds):=by
 show ((asgD t d ρ).bind λρ1=>(s1 ρ1).bind λfl=>_)=_
 cases asgD t d ρ with
 |none=>rfl
 |some ρ1=>rfl
@[simp]theorem zbn {t:Tgt}:compD t ta g ρ []=some []:=rfl
@[simp]theorem qK {t:Tgt}:compD t ta g ρ (d::ds)=(asgD t d ρ).bind λρ1=>(ta ρ1).bind λb=>if b then (g ρ1).bind λy=>(compD t ta g ρ ds).map (y::·) else compD t ta g ρ ds:=rfl
@[simp]theorem zco:capO (some (some (.val d)))=some (.val d):=rfl
@[simp]theorem zbt:capO (some (some (.acc ds)))=some (.bor ds):=rfl
@[simp]theorem zd6:capO (some (some (.bor ds)))=some (.bor ds):=rfl
@[simp]theorem zdu {oa:Option Addr}{kvs:List (Key×D)}:capO (some (some (.dct oa kvs)))=some (.dbo kvs):=rfl
@[simp]theorem zbh {kvs:List (Key×D)}:capO (some (some (.dbo kvs)))=some (.dbo kvs):=rfl
theorem yM {xs:List α}{v:α}(n:Nat)(h:xs[n]?=some v):atI xs (n:Int)=some v:=by
 have hl:n < xs.length:=(List.getElem?_eq_some_iff.mp h).1
 unfold atI ixN
 rw[if_pos (by omega),if_pos (by omega)]
 simpa using h
@[simp]theorem zdz {xs:List α}{v:α}:atI (v::xs) 0=some v:=yM 0 rfl
@[simp]theorem zbs {xs:List α}{v w:α}:atI (w::v::xs) 1=some v:=yM 1 rfl
@[simp]theorem zei {xs:List α}{v w u:α}:atI (u::w::v::xs) 2=some v:=yM 2 rfl
@[simp]theorem ku {xs:List α}{v:α}:atI (xs++[v]) (-1)=some v:=by
 unfold atI ixN
 rw[if_neg (by omega),if_pos (by simp;omega)]
 simp
 have:(-1+((xs.length:Int)+1)).toNat=xs.length:=by omega
 rw[this];simp
theorem Ri (n:Nat):ixN (n+1) (-1)=some n:=by
 unfold ixN
 rw[if_neg (by omega),if_pos (by omega)]
 congr 1;omega
theorem vQ:∀(lo:Int) (n:Nat),rngD lo n=(List.range n).map λ(k:Nat)=>D.int (lo+k)
 |lo,0=>rfl
 |lo,n+1=>by
  rw[rngD,vQ (lo+1) n,List.range_succ_eq_map]
  simp only[List.map_cons,List.map_map]
  congr 1
  ·simp
  ·apply List.map_congr_left
   intro a _
   show D.int _=D.int _
   congr 1
   show lo+1+(a:Int)=lo+((a+1:Nat):Int)
   omega
end
section
variable {X:Cx}{B:Bs}{e a b c o:Expr}{es:List Expr}{pos p apos cpos p2:Pos}{g ga gb go:EnvD->Option D}{gs:EnvD->Option (List D)}{x:Str}
def fPlus:D->D->Option D
 |.int i,.int j=>some (.int (i+j))
 |.str x,.str y=>if x.length+y.length<=TOP then some (.str (x++y)) else none
 |_,_=>none
theorem R4 {K:KW}:OkR K (λx y H Q=>rI0 (λi j=>.int (i+j)) x y H Q∨∃i j,x=.str i/\y=.str j/\i.length+j.length<=sizeLine/\Q (.str (i++j)) H) (pE K) fPlus:=by
 intro F H x y dx dy d Q s rx ry e k
 unfold fPlus at e
 split at e
 ·cases e;exact .inl ⟨_,_,rx.int,ry.int,k _ F H (.refl s) rfl⟩
 ·split at e
  ·rename_i hc
   cases e;exact .inr ⟨_,_,rx.str,ry.str,ya hc,k _ F H (.refl s) rfl⟩
  ·cases e
 ·cases e
theorem zC (ha:DR X B a ga)(hb:DR X B b gb):DE X B (.BinOp a .Add b pos) (g2 fPlus ga gb):=yZ (op_add.or JO) R4 ha hb
def fItem:D->D->Option D
 |.str z,.int i=>if z.length<=TOP then (atI z.cps.toList i).map λc=>.str ⟨#[c]⟩ else none
 |.lst xs,.int i=>atI xs i
 |.tup xs,.int i=>atI xs i
 |.scr ns,.int i=>(atI ns i).map D.int
 |_,_=>none
theorem KK {K:KW}:OkR K (rIx K) (pE K) fItem:=by
 intro F H x y dx dy d Q s rx ry e k
 cases dx with
 |str z=>
  cases dy with
  |int i=>
   replace e:(if z.length<=TOP then (atI z.cps.toList i).map (λc=>D.str ⟨#[c]⟩) else none)=some d:=e
   split at e
   ·rename_i hc
    cases q:atI z.cps.toList i with
    |none=>rw[q] at e;cases e
    |some c=>
     rw[q] at e
     cases e
     exact .inr (.inr ⟨z,i,c,rx.str,ry.int,ya hc,q,k _ F H (.refl s) rfl⟩)
   ·cases e
  |_=>cases e
 |lst xs=>exact kc F H x y _ dy d Q s rx ry (by cases dy<;>first | exact e | cases e) k
 |tup xs=>exact kc F H x y _ dy d Q s rx ry (by cases dy<;>first | exact e | cases e) k
 |scr xs=>exact kc F H x y _ dy d Q s rx ry (by cases dy<;>first | exact e | cases e) k
 |_=>cases dy<;>cases e
theorem zx (ha:DR X B a ga)(hb:DR X B b gb)(hs:vF b):DE X B (.Subscript a b pos) (g2 fItem ga gb):=Kf uc KK ha hb hs
def rSlS:V->Option Int->Option Int->Hp->VK->Prop:=λx lo hi H Q=>∃z,x=.str z/\z.length<=sizeLine/\Q (.str (Txt.slice z lo hi)) H
theorem R6:SlR X rSlS:=by
 intro pins s σ H x v vl vu lo hi sl Q I rx hs pl pu h
 obtain⟨z,rfl,hz,q⟩:=h
 obtain⟨t,rfl⟩:=rx
 refine⟨"str",_,PySem.F.slot_str_getitem.lookup,typeIs_str _ _ _,?_⟩
 cases pl with
 |none=>
  cases pu with
  |none=>exact wpAny_getItem_str_slice (l:=none) (u:=none) (st:=none) hs rfl (post_val_or_str ⟨Nat.le_trans (Txt.slice_le z none none) hz,λt' k=>⟨.str _,H,I.tok _,⟨_,rfl⟩,q⟩⟩)
  |int j tj=>exact wpAny_getItem_str_slice (l:=none) (u:=some (j,tj)) (st:=none) hs rfl (post_val_or_str ⟨Nat.le_trans (Txt.slice_le z none (some j)) hz,λt' k=>⟨.str _,H,I.tok _,⟨_,rfl⟩,q⟩⟩)
 |int i ti=>
  cases pu with
  |none=>exact wpAny_getItem_str_slice (l:=some (i,ti)) (u:=none) (st:=none) hs rfl (post_val_or_str ⟨Nat.le_trans (Txt.slice_le z (some i) none) hz,λt' k=>⟨.str _,H,I.tok _,⟨_,rfl⟩,q⟩⟩)
  |int j tj=>exact wpAny_getItem_str_slice (l:=some (i,ti)) (u:=some (j,tj)) (st:=none) hs rfl (post_val_or_str ⟨Nat.le_trans (Txt.slice_le z (some i) (some j)) hz,λt' k=>⟨.str _,H,I.tok _,⟨_,rfl⟩,q⟩⟩)
def gSlS (g:EnvD->Option D)(gl gh:EnvD->Option (Option Int)):EnvD->Option D:=λρ=>(g ρ).bind λd=>(gl ρ).bind λl=>(gh ρ).bind λh=>match d with
 |.str z=>if z.length<=TOP then some (.str (Txt.slice z l h)) else none
 |_=>none
theorem VI {lo hi:Option Expr}{gl gh:EnvD->Option (Option Int)}(he:DR X B e g)(hl:DO X B lo gl)(hh:DO X B hi gh):DE X B (.Subscript e (.Slice lo hi none p2) pos) (gSlS g gl gh) :=
 zi (u0 R6 he hl hh) λσ H Q ⟨F,ρ,d,r,hg,k⟩=>by
  unfold gSlS at hg
  cases q:g ρ with
  |none=>rw[q] at hg;cases hg
  |some x=>
   cases ql:gl ρ with
   |none=>rw[q,ql] at hg;cases hg
   |some l=>
    cases qh:gh ρ with
    |none=>rw[q,ql,qh] at hg;cases hg
    |some h=>
     rw[q,ql,qh] at hg
     cases x with
     |str z=>
      replace hg:(if z.length<=TOP then some (D.str (Txt.slice z l h)) else none)=some d:=hg
      split at hg
      ·rename_i hc
       cases hg
       refine⟨F,ρ,_,r,q,λv F1 H1 e1 p1=>⟨F1,ρ,l,r.ext e1,ql,λF2 H2 e2=>⟨F2,ρ,h,r.ext (e1.trans e2),qh,λF3 H3 e3=>?_⟩⟩⟩
       exact⟨z,p1.str,ya hc,k _ F3 H3 (e1.trans (e2.trans e3)) rfl⟩
      ·cases hg
     |_=>cases hg
def asSs:List D->Option (List Str)
 | []=>some []
 |.str x::r=>(asSs r).map (x::·)
 |_=>none
def rCatS (K:KW):R2:=λx y H Q=>∃l b xs zs,x=.ref l/\y=.ref b/\SqL K H l xs/\SqL K H b zs/\xs.length+zs.length<=sizeLine/\∀p,H p=none->Q (.ref p) (upd H p (.lst (xs++zs)))
theorem UR:OpR X (binaryOp .Add) (rCatS X.kw):=by
 intro pins s σ H x y v u Q I rx ry h
 obtain⟨l,b,xs,zs,rfl,rfl,hH,hB,hz,q⟩:=h
 cases rx
 cases ry
 obtain⟨its,r,pl,z⟩:=I.list hH
 obtain⟨its2,r2,pl2,z2⟩:=I.list hB
 obtain⟨⟨cls,dd,data,sl⟩,n,ho,hc,hd',hd⟩:=pl
 obtain⟨⟨cls2,dd2,data2,sl2⟩,n2,ho2,hc2,hd2',hd2⟩:=pl2
 simp only at hc hd hc2 hd2
 subst hc hd hc2 hd2
 have e:its.toArray++its2.toArray=(its++its2).toArray:=by simp
 have l1:=r.length
 have l2:=r2.length
 refine concat_meets ⟨_,ho,rfl⟩ ⟨_,ho2,rfl⟩ noFill_list_add seq_list_add PySem.F.slot_list_add PySem.F.entry_list_add (PySem.F.args_list_add_2 _ _) (list_addW l b its.toArray its2.toArray n n2 dd dd2 sl sl2 (by simp;omega)) ⟨ho,ho2,?_⟩
 rw[e]
 exact⟨.ref _,_,I.lnew (t':=s.toks) (r.append r2) (by rw[List.length_append];omega),rfl,q _ I.fresh⟩
def fCatS:D->D->Option (List D):=λx y=>(itL x).bind λxs=>(itL y).bind λys=>if xs.length+ys.length<=TOP then some (xs++ys) else none
theorem UE {K:KW}:OkR K (rCatS K) (pA K) fCatS:=by
 intro F H x y dx dy d Q s rx ry e k
 unfold fCatS at e
 obtain⟨xs,ys,q1,q2,q3⟩:=bind2 e
 split at q3
 ·rename_i hc
  cases q3
  obtain⟨l,vs,rfl,h2,h1⟩:=qt rx q1
  obtain⟨b,ws,rfl,h4,h3⟩:=qt ry q2
  refine⟨l,b,vs,ws,rfl,rfl,h1 F H (Same.refl _) s (Same.refl _),h3 F H (Same.refl _) s (Same.refl _),ya (by rw[<-h2.length,<-h4.length];exact hc),λp hp=>k _ F _ (.new s hp) ⟨p,_,rfl,hp,zq,s.free hp,h2.append h4⟩⟩
 ·cases q3
theorem jV (ha:DR X B a ga)(hb:DR X B b gb):DA X B (.BinOp a .Add b pos) (g2 fCatS ga gb):=Wx UR UE ha hb
def fInt:List D->Option D
 | [.int i]=>some (.int i)
 | [.bl b]=>some (.int (if b then 1 else 0))
 |_=>none
theorem JX {K:KW}:CallOk K (λxs H Q=>(∃i,xs=[.int i]/\Q (.int i) H)∨∃k,xs=[.bl k]/\Q (.int (if k then 1 else 0)) H) (pE K) fInt:=by
 intro F H vs ds d Q s hp e k
 unfold fInt at e
 split at e
 ·cases e
  obtain⟨v,rfl,r⟩:=pair1 hp
  cases r.int
  exact .inl ⟨_,rfl,k _ F H (.refl s) rfl⟩
 ·cases e
  obtain⟨v,rfl,r⟩:=pair1 hp
  cases r.bl
  exact .inr ⟨_,rfl,k _ F H (.refl s) rfl⟩
 ·cases e
theorem ZZ (hg:Gl X "int") (hm:X.mg "int" = none) (ha:DRs X B [a] gs) (he:starEach [a] X.env=(false,eval a X.env)::starEach [] X.env:=by rfl) (hpl:(backTo pos (starEach [] X.env)).any (·.1)=false:=by rfl) :
  DE X B (.Call (.Name "int" p) [a] [] pos) (gB fInt gs):=RX KI JX hg hm (by decide +kernel) ha (by decide) (by decide) he hpl
def sAsg (t:Tgt)(g:EnvD->Option D):SD:=λρ=>(g ρ).bind λd=>(asgD t d ρ).map Fl.next
theorem Vq {tg:Expr}{t:Tgt}(he:DE X B e g)(hg:PG X tg (tgT X.kw t))(hs:swapsWithSole [tg] e pos.line X.env=pure false:=by rfl)(hw:swappedStores [tg] e X.env=pure none:=by rfl)
  (h1:(assignEach [tg] X.env).map (·.2)=[assign tg X.env]:=by rfl):DS X B (.Assign [tg] e pos) (sAsg t g) :=
 z7 (u5 he hg hs hw h1) λE σ H ⟨F,ρ,fl,r,hg,k⟩=>by
  unfold sAsg at hg
  cases q:g ρ with
  |none=>rw[q] at hg;cases hg
  |some d=>
   rw[q] at hg
   replace hg:(asgD t d ρ).map Fl.next=some fl:=hg
   cases q2:asgD t d ρ with
   |none=>rw[q2] at hg;cases hg
   |some ρ'=>
    rw[q2] at hg
    cases hg
    exact⟨F,ρ,d,r,q,λv F1 H1 e1 p1=>vz (r.ext e1) p1 q2 λσ' r' _=>k σ' F1 H1 r' e1.ff⟩
def whileD (t:EnvD->Option Bool)(gb:SD):Nat->EnvD->Option Fl
 |0,_=>none
 |n+1,ρ=>(t ρ).bind λb=>if b then (gb ρ).bind λfl=>match fl with
  |.next ρ2=>whileD t gb n ρ2
  |.cont ρ2=>whileD t gb n ρ2
  |.brk ρ2=>some (.next ρ2)
  |.ret o=>some (.ret o)
  else some (.next ρ)
theorem qX {t:EnvD->Option Bool}{gb:SD}:∀ {n:Nat} {ρ:EnvD} {fl:Fl},whileD t gb n ρ=some fl->whileD t gb (n+1) ρ=some fl
 |0,_,_,h=>by cases h
 |n+1,ρ,fl,h=>by
  rw[whileD] at h ⊢
  cases q:t ρ with
  |none=>rw[q] at h;cases h
  |some b=>
   rw[q] at h
   cases b with
   |false=>exact h
   |true=>
    replace h:((gb ρ).bind λfl=>match fl with
     |.next ρ2=>whileD t gb n ρ2
     |.cont ρ2=>whileD t gb n ρ2
     |.brk ρ2=>some (.next ρ2)
     |.ret o=>some (.ret o))=some fl:=h
    show ((gb ρ).bind λfl=>match fl with
     |.next ρ2=>whileD t gb (n+1) ρ2
     |.cont ρ2=>whileD t gb (n+1) ρ2
     |.brk ρ2=>some (.next ρ2)
     |.ret o=>some (.ret o))=some fl
    cases q2:gb ρ with
    |none=>rw[q2] at h;cases h
    |some f=>
     rw[q2] at h
     cases f with
     |next ρ2=>exact qX h
     |cont ρ2=>exact qX h
     |brk ρ2=>exact h
     |ret o=>exact h
theorem Zr {t:EnvD->Option Bool}{gb:SD}{n m:Nat}{ρ:EnvD}{fl:Fl}(hm:n<=m)(h:whileD t gb n ρ=some fl):whileD t gb m ρ=some fl:=by
 induction hm with
 |refl=>exact h
 |step _ ih=>exact qX ih
open Classical in
def sWhile (t:EnvD->Option Bool)(gb:SD):SD:=λρ=>if h:∃n fl,whileD t gb n ρ=some fl then some (Classical.choose (Classical.choose_spec h)) else none
theorem kr {t:EnvD->Option Bool}{gb:SD}{n:Nat}{ρ:EnvD}{fl:Fl}(h:whileD t gb n ρ=some fl):sWhile t gb ρ=some fl:=by
 unfold sWhile
 have hx:∃n fl,whileD t gb n ρ=some fl:=⟨n,fl,h⟩
 rw[dif_pos hx]
 have q:=Classical.choose_spec (Classical.choose_spec hx)
 generalize Classical.choose (Classical.choose_spec hx)=f at q
 generalize Classical.choose hx=k at q
 have a1:=Zr (Nat.le_max_left n k) h
 have a2:=Zr (Nat.le_max_right n k) q
 rw[a1] at a2
 exact a2.symm
theorem G2 {t:EnvD->Option Bool}{gb:SD}{ρ:EnvD}{fl:Fl}(h:sWhile t gb ρ=some fl):∃n,whileD t gb n ρ=some fl:=by
 unfold sWhile at h
 split at h
 ·rename_i hx
  cases h
  exact⟨_,Classical.choose_spec (Classical.choose_spec hx)⟩
 ·cases h
theorem kT {body:List Stmt}{t:EnvD->Option Bool}{gbd:SD}(hp:PassesOwn (model X.prog X.w) X.A X.env X.xe)(hc:DT X B c t)(hb:DSs X B body gbd):DS X B (.While c body [] pos) (sWhile t gbd) :=
 z7 (K1 hp hc hb) λE σ H ⟨F,ρ,fl,r,hg,k⟩=>by
  obtain⟨n,hn⟩:=G2 hg
  refine⟨λm σ H=>∃F2 ρ2,Rep X.kw B F2 σ H ρ2/\Same F F2/\whileD t gbd m ρ2=some fl,⟨n,F,ρ,r,Same.refl _,hn⟩,?_⟩
  rintro m σ2 H2 ⟨F2,ρ2,r2,s2,h2⟩
  cases m with
  |zero=>cases h2
  |succ m=>
   rw[whileD] at h2
   cases q:t ρ2 with
   |none=>rw[q] at h2;cases h2
   |some bb=>
    rw[q] at h2
    refine⟨F2,ρ2,bb,r2,q,λF3 H3 e3=>?_⟩
    cases bb with
    |false=>
     cases h2
     exact iteF (k σ2 F3 H3 (r2.ext e3) (s2.trans e3.ff))
    |true=>
     refine iteT ⟨λσ' H'=>∃F4 ρ4,Rep X.kw B F4 σ' H' ρ4/\Same F F4/\whileD t gbd m ρ4=some fl,λσ' H' h=>⟨m,Nat.lt_succ_self _,h⟩,?_⟩
     replace h2:((gbd ρ2).bind λfl=>match fl with
      |.next ρ2=>whileD t gbd m ρ2
      |.cont ρ2=>whileD t gbd m ρ2
      |.brk ρ2=>some (.next ρ2)
      |.ret o=>some (.ret o))=some fl:=h2
     cases q2:gbd ρ2 with
     |none=>rw[q2] at h2;cases h2
     |some f1=>
      rw[q2] at h2
      refine⟨F3,ρ2,f1,r2.ext e3,q2,?_⟩
      cases f1 with
      |next ρ5=>exact λσ5 F5 H5 r5 s5=>⟨F5,ρ5,r5,(s2.trans e3.ff).trans s5,h2⟩
      |cont ρ5=>exact λσ5 F5 H5 r5 s5=>⟨F5,ρ5,r5,(s2.trans e3.ff).trans s5,h2⟩
      |brk ρ5=>cases h2;exact λσ5 F5 H5 r5 s5=>k σ5 F5 H5 r5 ((s2.trans e3.ff).trans s5)
      |ret o=>cases h2;exact k
def MutOk (K:KW)(r:V->List V->Hp->VK->Prop)(f:List D->List D->Option (List D)):Prop :=
 ∀F H a vs ds us es ds' Q,H a=some (.lst vs)->Rps K F ds vs->Paired (λd v=>Rp K F d v) es us->f ds es=some ds'->(∀v vs',Rps K F ds' vs'->Q v (upd H a (.lst vs')))->r (.ref a) us H Q
def sMut (i:Nat)(f:List D->List D->Option (List D))(gs:EnvD->Option (List D)):SD:=λρ=>match ρ[i]? with
 |some (some (.acc ds))=>(gs ρ).bind λes=>(f ds es).map λds'=>.next (ρ.set i (some (.acc ds')))
 |_=>none
variable {nm:Str}{id:String}{r:V->List V->Hp->VK->Prop}{f:List D->List D->Option (List D)}
theorem Q2 (i:Nat)(slot:Slot "list" nm id) (hty:typeOf (.builtin id)=pure (.type "method_descriptor")) (hm:MtR X id r) (ok:MutOk X.kw r f) (hx:PE X (.Name x p) (tVar i))
  (hbase:attributeBase (.Name x p) nm X.env (eval (.Name x p) X.env)=eval (.Name x p) X.env:=by rfl) (hline:(apos.endLine==cpos.line)=true:=by rfl)
  (hsw:swapsWith (.Call (.Attribute (.Name x p) nm apos) [] [] cpos) none pos.line X.env=pure false:=by rfl) :
  DS X B (.Expr (.Call (.Attribute (.Name x p) nm apos) [] [] cpos) pos) (sMut i f gNil) :=
 z7 (x3 (kO PySem.F.plainAttrs_list slot hty hm hx hbase hline) hsw) λE σ H ⟨F,ρ,fl,r,hg,k⟩=>by
  unfold sMut at hg
  split at hg
  ·rename_i ds q
   replace hg:((f ds []).map λds'=>Fl.next (ρ.set i (some (.acc ds'))))=some fl:=hg
   cases q3:f ds [] with
   |none=>rw[q3] at hg;cases hg
   |some ds'=>
    rw[q3] at hg
    cases hg
    obtain⟨v,hv,a,vs,rfl,h1,h2,h3,h4⟩:=r.ents i _ q
    exact⟨.ref a,hv,.inl ⟨rfl,_,.of h1⟩,ok F H a vs ds [] [] ds' _ h1 h4 .nil q3 λu vs2 h=>k σ F _ (r.write q rfl hv h2 h3 ⟨a,_,rfl,zq,h2,h3,h⟩ rfl) (Same.refl _)⟩
  ·cases hg
def mClear:List D->List D->Option (List D):=λ_ es=>if es.isEmpty then some [] else none
theorem Ge {K:KW}:MutOk K rClear mClear:=by
 intro F H a vs ds us es ds' Q h1 h2 hp e k
 unfold mClear at e
 cases es with
 |cons=>cases e
 |nil=>
  cases hp
  cases e
  exact⟨a,vs,rfl,rfl,h1,k _ [] rfl⟩
theorem Gs {own:List Str}{cap:List (Str×Nat)}{t:Tgt}{tc:EnvD->Option Bool}{ge:EnvD->Option D}{gi:EnvD->Option (List D)}(ht:∀i∈t.slots,i < own.length) :
  ∀σ H Q,lG X.kw B (pA X.kw) (gComp own cap t tc ge gi) σ H Q->tComp (lI X.kw B (λH=>H) gi) own cap (tgT X.kw t) (λσ H Q=>∃B',lT X.kw B' tc σ H Q) (λσ H Q=>∃B',lG X.kw B' (pE X.kw) ge σ H Q) σ H Q:=by
 intro σ H Q ⟨F,ρ,out,r,hg,k⟩
 unfold gComp at hg
 cases q:gi ρ with
 |none=>rw[q] at hg;cases hg
 |some ds=>
  rw[q] at hg
  have hg:(if ds.length<=TOP then compD t tc ge (List.replicate own.length none++capE ρ cap) ds else none)=some out:=hg
  split at hg
  ·rename_i htop
   refine⟨F,ρ,ds,r,q,λJ F1 H1 e1 jok=>?_⟩
   refine⟨λi m ys H2=>m=ds.length - i/\i<=ds.length/\∃F2 o1 o2,Ext F1 H1 F2 H2/\Rps X.kw F2 o1 ys/\o1.length<=i/\compD t tc ge (List.replicate own.length none++capE ρ cap) (ds.drop i)=some o2/\out=o1++o2,
    ⟨ds.length,rfl,Nat.zero_le _,F1,[],out,.refl e1.fh,rfl,Nat.le_refl _,hg,rfl⟩,?_⟩
   rintro i m ys H2 ⟨rfl,hi,F2,o1,o2,e2,ry,hl1,h2,rfl⟩
   refine⟨ya (by rw[<-ry.length];omega),?_⟩
   obtain⟨j1,j2⟩:=jok F2 H2 e2.ff e2.fh e2.hh i
   by_cases hlt:i < ds.length
   ·obtain⟨go,yl⟩:=j1 hlt
    refine .inr ⟨go,λys' H'=>∃F3 p1 p2,Ext F1 H1 F3 H'/\Rps X.kw F3 p1 ys'/\p1.length<=i+1/\compD t tc ge (List.replicate own.length none++capE ρ cap) (ds.drop (i+1))=some p2/\o1++o2=p1++p2,λys' H' ⟨F3,p1,p2,e3,r3,l3,h3,eo⟩=>⟨ds.length - (i+1),by omega,rfl,hlt,F3,p1,p2,e3,r3,l3,h3,eo⟩,λx H3 hy σ1 hσ=>?_⟩
    obtain⟨F3,d,e3,hd,rd⟩:=yl x H3 hy
    have hdd:ds.drop i=d::ds.drop (i+1):=by
     rw[List.drop_eq_getElem_cons hlt]
     congr 1
     rw[List.getElem?_eq_getElem hlt] at hd
     exact Option.some.inj hd
    rw[hdd] at h2
    simp only[compD] at h2
    cases q1:asgD t d (List.replicate own.length none++capE ρ cap) with
    |none=>rw[q1] at h2;cases h2
    |some ρ1=>
     rw[q1] at h2
     have e13:=e2.trans e3
     refine vz (u4 (own:=own) (cap:=cap) r e1 e13 hσ) rd q1 λσ' r4 so=>⟨?_,?_⟩
     ·obtain⟨σ1',l1,e4⟩:=so.pre (σ1:=σ1) rfl (λj hj=>by rw[hσ];exact ht j hj)
      exact⟨σ1',by rw[l1,hσ],e4⟩
     ·have h2:((tc ρ1).bind λb=>if b then (ge ρ1).bind λy=>(compD t tc ge (List.replicate own.length none++capE ρ cap) (ds.drop (i+1))).map (y::·) else compD t tc ge (List.replicate own.length none++capE ρ cap) (ds.drop (i+1)))=some o2:=h2
      cases q2:tc ρ1 with
      |none=>rw[q2] at h2;cases h2
      |some bb=>
       rw[q2] at h2
       refine⟨⟨F1,H1⟩,F3,ρ1,bb,r4,q2,λF5 H5 e5=>?_⟩
       cases bb with
       |false=>exact iteF ⟨F5,o1,o2,e13.trans e5,ry.mono (e3.ff.trans e5.ff),by omega,h2,rfl⟩
       |true=>
        have h2:((ge ρ1).bind λy=>(compD t tc ge (List.replicate own.length none++capE ρ cap) (ds.drop (i+1))).map (y::·))=some o2:=h2
        cases q3:ge ρ1 with
        |none=>rw[q3] at h2;cases h2
        |some y=>
         rw[q3] at h2
         have h2:(compD t tc ge (List.replicate own.length none++capE ρ cap) (ds.drop (i+1))).map (y::·)=some o2:=h2
         cases q4:compD t tc ge (List.replicate own.length none++capE ρ cap) (ds.drop (i+1)) with
         |none=>rw[q4] at h2;cases h2
         |some p2=>
          rw[q4] at h2
          cases h2
          refine iteT ⟨⟨F1,H1⟩,F5,ρ1,y,r4.ext e5,q3,λv F6 H6 e6 p6=>?_⟩
          exact⟨F6,o1++[y],p2,e13.trans (e5.trans e6),(ry.mono (e3.ff.trans (e5.ff.trans e6.ff))).snoc p6,by simp;omega,rfl,by simp⟩
   ·have hi':i=ds.length:=by omega
    have hdd:ds.drop i=[]:=by rw[hi',List.drop_length]
    rw[hdd] at h2
    cases h2
    refine .inl ⟨j2 hi',λD hD=>?_⟩
    have e:=e1.trans e2
    exact k _ F2 _ (e.trans (.new e.fh hD)) ⟨D,ys,rfl,e.hh.free hD,zq,e.fh.free hD,by simpa using ry⟩
  ·cases hg
theorem JE {gl:EnvD->Option (List D)}{σ:St}{H:Hp}{Q:VK}(h:lG X.kw B (pE X.kw) (gFz gl) σ H Q):lG X.kw B (pA X.kw) gl σ H Q:=by
 obtain⟨F,ρ,x,r,hg,k⟩:=h
 unfold gFz at hg
 cases q:gl ρ with
 |none=>rw[q] at hg;cases hg
 |some ds=>
  rw[q] at hg;cases hg
  refine⟨F,ρ,ds,r,q,λv F' H' e p=>?_⟩
  obtain⟨a,vs,rfl,p1,p2,p3,p4⟩:=p
  exact k _ (upd F' a (.lst vs)) H' (e.freeze p1 p3 p2) ⟨a,vs,rfl,zq,p4.mono (zW p3)⟩
section
variable {i:Nat}{y:Str}{py spos:Pos}{elt tg iter:Expr}{ifs:List Expr}{scope:Scope}{own:List Str}{cap:List (Str×Nat)}{t:Tgt}{tc:EnvD->Option Bool}{ge:EnvD->Option D}{gi:EnvD->Option (List D)}
theorem R9 (hc:X.calm=true)(S:CompScope X scope own cap)(hi:DI X B (λH=>H) tg iter gi)
  (hin:∀(B':Bs) C s₀ H₀ fp pn,PG (cxc X scope C (own++cap.map (·.1)) s₀ H₀ fp pn) tg (tgT X.kw t)/\DIfs (cxc X scope C (own++cap.map (·.1)) s₀ H₀ fp pn) B' ifs tc/\DE (cxc X scope C (own++cap.map (·.1)) s₀ H₀ fp pn) B' elt ge)
  (hN:X.N.Nodup) (hiy:X.N[i]?=some y) (hy:Loc X.env.scope y) (hsw:swapsWith (.ListComp elt [⟨tg,iter,ifs,0⟩] scope pos) (some (.Name y py)) spos.line X.env=pure true)
  (hs:∀x,foldedSetIterable iter X.env x=pure x) (hfn:X.fn y=true∨X.env.scope.names.lookup y=some .local) :
  PS X (.Assign [.Name y py] (.ListComp elt [⟨tg,iter,ifs,0⟩] scope pos) spos) (tAsg (tComp (lI X.kw B (λH=>H) gi) own cap (tgT X.kw t) (λσ H Q=>∃B',lT X.kw B' tc σ H Q) (λσ H Q=>∃B',lG X.kw B' (pE X.kw) ge σ H Q)) (gName i)) :=
 J4 (tc:=λσ H Q=>∃B',lT X.kw B' tc σ H Q) (te:=λσ H Q=>∃B',lG X.kw B' (pE X.kw) ge σ H Q) hc S hi (λC s₀ H₀ fp pn=>⟨(hin ⟨H₀,H₀⟩ C s₀ H₀ fp pn).1,λpins s σ H Q I ⟨B',q⟩=>(hin B' C s₀ H₀ fp pn).2.1 pins s σ H Q I q,λpins s σ H Q I ⟨B',q⟩=>(hin B' C s₀ H₀ fp pn).2.2 pins s σ H Q I q⟩) hN hiy hy hsw hs hfn
theorem UX (hc:X.calm=true)(S:CompScope X scope own cap)(hi:DI X B (λH=>H) tg iter gi)(ht:∀i∈t.slots,i < own.length)
  (hin:∀(B':Bs) C s₀ H₀ fp pn,PG (cxc X scope C (own++cap.map (·.1)) s₀ H₀ fp pn) tg (tgT X.kw t)/\DIfs (cxc X scope C (own++cap.map (·.1)) s₀ H₀ fp pn) B' ifs tc/\DE (cxc X scope C (own++cap.map (·.1)) s₀ H₀ fp pn) B' elt ge)
  (hN:X.N.Nodup) (hiy:X.N[i]?=some y) (hy:Loc X.env.scope y) (hsw:swapsWith (.ListComp elt [⟨tg,iter,ifs,0⟩] scope pos) (some (.Name y py)) spos.line X.env=pure true:=by rfl)
  (hs:∀x,foldedSetIterable iter X.env x=pure x:=by intro _;rfl) (hfn:X.fn y=true∨X.env.scope.names.lookup y=some .local:=by first | exact .inl rfl | exact .inr rfl | assumption) :
  DS X B (.Assign [.Name y py] (.ListComp elt [⟨tg,iter,ifs,0⟩] scope pos) spos) (sSet i (gFz (gComp own cap t tc ge gi))) :=
 z7 (R9 hc S hi hin hN hiy hy hsw hs hfn) λE σ H h=>Gs ht σ H _ (JE (WX h))
end
end
def pH (K:KW):Post D:=λ_ _ _ H' d v=>Rp K H' d v
def DH (X:Cx)(B:Bs)(e:Expr)(g:EnvD->Option D):Prop:=PE X e (lG X.kw B (pH X.kw) g)
section
variable {X:Cx}{B:Bs}{e a b c o:Expr}{es:List Expr}{pos p p2 apos cpos:Pos}{g ga gb go:EnvD->Option D}{gs:EnvD->Option (List D)}{x:Str}
theorem Rq.heap {K:KW}{F H:Hp}(s:Same F H){d:D}{v:V}(r:Rq K F H d v):Rp K H d v:=by
 rcases r with r | ⟨a,vs,ds,rfl,rfl,e3,e4⟩
 ·exact r.mono s
 ·exact⟨a,vs,rfl,e3,e4.mono s⟩
theorem DR.heap (h:DR X B e g):DH X B e g:=zi h λσ H Q ⟨F,ρ,x,r,hg,k⟩=>⟨F,ρ,x,r,hg,λv F' H' e p=>k v F' H' e (p.heap e.fh)⟩
def gh (i:Nat):EnvD->Option D:=λρ=>match ρ[i]? with
 |some (some (.val d))=>some d
 |some (some (.acc ds))=>some (.lst ds)
 |some (some (.bor ds))=>some (.lst ds)
 |some (some (.tre t))=>some t.erase
 |_=>none
theorem Ve (i:Nat)(h:PE X (.Name x pos) (tVar i)):DH X B (.Name x pos) (gh i) :=
 zi h λσ H Q ⟨F,ρ,d,r,hg,k⟩=>by
  unfold gh at hg
  split at hg
  ·rename_i d' e
   cases hg
   obtain⟨v,h1,h2⟩:=r.ents i _ e
   exact⟨v,h1,k v F H (.refl r.fh) (Rp.mono r.fh h2)⟩
  ·rename_i ds e
   cases hg
   obtain⟨v,h1,a,vs,e1,e2,e3,e4,e5⟩:=r.ents i _ e
   exact⟨v,h1,k v F H (.refl r.fh) ⟨a,vs,e1,e2,e5.mono r.fh⟩⟩
  ·rename_i ds e
   cases hg
   obtain⟨v,h1,a,vs,e1,e2,e5⟩:=r.ents i _ e
   exact⟨v,h1,k v F H (.refl r.fh) ⟨a,vs,e1,r.ex.hh _ _ e2,e5.mono r.fh⟩⟩
  ·rename_i t e
   cases hg
   obtain⟨v,h1,h2,_⟩:=r.ents i _ e
   exact⟨v,h1,k v F H (.refl r.fh) (RepO.read r.fh h2)⟩
  ·cases hg
theorem OkR.heap {K:KW}{r:R2}{f:D->D->Option D}(hr:OkR K r (pE K) f){H:Hp}{x y:V}{dx dy d:D}{Q:VK}(rx:Rp K H dx x)(ry:Rp K H dy y)(e:f dx dy=some d)(k:∀v H',Same H H'->Rp K H' d v->Q v H'):r x y H Q :=
 hr H H x y dx dy d Q (Same.refl H) (.inl rx) (.inl ry) e λv F' H' ex p=>k v H' ex.hh (Rp.mono ex.fh p)
theorem Gj {F H H':Hp}(s:Same F H)(h:Same H H'):Ext F H F H':=⟨Same.refl _,h,s.trans h,λ_ q=>.inl q⟩
theorem opH {r:R2}{f:D->D->Option D}(hr:OkR X.kw r (pE X.kw) f){σ:St}{H:Hp}{Q:VK}(h:lG X.kw B (pH X.kw) (g2 f ga gb) σ H Q):tOp r (lG X.kw B (pH X.kw) ga) (lG X.kw B (pH X.kw) gb) σ H Q:=by
 obtain⟨F,ρ,d,rr,hg,k⟩:=h
 obtain⟨dx,dy,qa,qb,qf⟩:=bind2 hg
 refine⟨F,ρ,dx,rr,qa,λx F1 H1 e1 p1=>⟨F1,ρ,dy,rr.ext e1,qb,λy F2 H2 e2 p2=>?_⟩⟩
 exact hr.heap (Rp.mono e2.hh p1) p2 qf λv H' s p=>k v F2 H' (e1.trans (e2.trans (Gj e2.fh s))) p
theorem zau {op:CmpOp}{r:R2}{neg:Bool}(ho:OpR X (compareOp op) r)(hr:OkR X.kw r (pE X.kw) (fEq neg))(ha:DH X B a ga)(hb:DH X B b gb)(hm:behindInMarks op b=false):DT X B (.Compare a [op] [b] pos) (gb' (g2 (fEq neg) ga gb)) :=
 vN (YT ho ha hb hm) λσ H Q ⟨F,ρ,c,rr,hg,k⟩=>by
  unfold gb' at hg
  cases q:g2 (fEq neg) ga gb ρ with
  |none=>rw[q] at hg;cases hg
  |some d=>
   rw[q] at hg
   have hd:d=.bl c:=kt hg
   subst hd
   exact opH hr ⟨F,ρ,_,rr,q,λv F' H' e p=>⟨c,p,k F' H' e⟩⟩
theorem VZ {T:String}{y:Str}(hk:∀t b,subT t T=some b->PySem.W.kitOne X.kw (.type t) (.type T)=some b)(hg:Gl X "isinstance") (hm:X.mg "isinstance" = none) (hgT:Gl X y) (hmT:X.mg y=none) (hvT:bootBuiltins y=some (.type T)) (ha:DH X B a g)
  (hnT:y ≠ "__name__" := by decide) (hdT:(y==("__debug__" : Str))=false:=by decide)
  (he:starEach [a,.Name y p2] X.env=(false,eval a X.env)::starEach [.Name y p2] X.env:=by rfl) (he2:starEach [.Name y p2] X.env=(false,eval (.Name y p2) X.env)::starEach [] X.env:=by rfl) (hpl:(backTo pos (starEach [.Name y p2] X.env)).any (·.1)=false:=by rfl) :
  DE X B (.Call (.Name "isinstance" p) [a,.Name y p2] [] pos) (gIs T g) :=
 zi (vW (Z3 (T:=T) hk) hg hm (by decide +kernel) (zZ ha (zZ (VX hgT hmT hvT (v:=.ty T) rfl hnT hdT) yr he2) he) (by decide) (by decide) he hpl) λσ H Q ⟨F,ρ,d,r,hg,k⟩=>by
  unfold gIs at hg
  cases q:g ρ with
  |none=>rw[q] at hg;cases hg
  |some x=>
   rw[q] at hg
   have hg:((tyD x).bind λt=>(subT t T).map D.bl)=some d:=hg
   cases q2:tyD x with
   |none=>rw[q2] at hg;cases hg
   |some t=>
    rw[q2] at hg
    have hg:(subT t T).map D.bl=some d:=hg
    cases q3:subT t T with
    |none=>rw[q3] at hg;cases hg
    |some y=>
     rw[q3] at hg
     cases hg
     exact⟨F,ρ,x,r,q,λv F1 H1 e1 p1=>⟨v,t,y,rfl,ZO (Same.refl H1) (.inl p1) q2,q3,k _ F1 H1 e1 rfl⟩⟩
def pT (K:KW):Post OT:=λ_ H F' H' t v=>RepO K F' H' t v/\(feetO H' t v).Nodup/\∀a∈feetO H' t v,H a=none/\F' a=none
def DTr (X:Cx)(B:Bs)(e:Expr)(g:EnvD->Option OT):Prop:=PE X e (lG X.kw B (pT X.kw) g)
def lTs (K:KW)(B:Bs)(g:EnvD->Option (List OT)):TA:=λσ H Q=>
 ∃F ρ ts,Rep K B F σ H ρ/\g ρ=some ts/\∀vs F' H',Ext F H F' H'->RepOs K F' H' ts vs->(feetOs H' ts vs).Nodup->(∀a∈feetOs H' ts vs,H a=none/\F' a=none)->Q vs H'
def DTrs (X:Cx)(B:Bs)(es:List Expr)(g:EnvD->Option (List OT)):Prop:=PA X es (lTs X.kw B g)
def lfs (ds:List D):List OT:=ds.map OT.frz
theorem lfs_rep {K:KW}{F H:Hp}:∀ {ds:List D} {vs:List V},RepOs K F H (lfs ds) vs↔Rps K F ds vs
 | [],_=>Iff.rfl
 |d::ds,vs=>by
  constructor
  ·rintro ⟨v,r,e,h,t⟩;exact⟨v,r,e,h,lfs_rep.mp t⟩
  ·rintro ⟨v,r,e,h,t⟩;exact⟨v,r,e,h,lfs_rep.mpr t⟩
theorem VJ {H:Hp}:∀ {ds:List D} {vs:List V},feetOs H (lfs ds) vs=[]
 | [],_=>rfl
 |d::ds,vs=>by
  cases vs with
  |nil=>rfl
  |cons v r=>show feetO H (.frz d) v++feetOs H (lfs ds) r=[];rw[VJ];rfl
theorem Yr:∀(ds:List D),erases (lfs ds)=ds
 | []=>rfl
 |d::ds=>by show d::erases (lfs ds)=_;rw[Yr ds]
def gLf (g:EnvD->Option D):EnvD->Option OT:=λρ=>(g ρ).map OT.frz
def gLs (g:EnvD->Option (List D)):EnvD->Option OT:=λρ=>(g ρ).map λds=>OT.lst (lfs ds)
theorem DE.tree (h:DE X B e g):DTr X B e (gLf g):=zi h λσ H Q ⟨F,ρ,t,r,hg,k⟩=>by
 unfold gLf at hg
 cases q:g ρ with
 |none=>rw[q] at hg;cases hg
 |some d=>rw[q] at hg;cases hg;exact⟨F,ρ,d,r,q,λv F' H' e p=>k v F' H' e ⟨p,List.nodup_nil,λa ha=>by cases ha⟩⟩
theorem DA.tree {gl:EnvD->Option (List D)}(h:DA X B e gl):DTr X B e (gLs gl):=zi h λσ H Q ⟨F,ρ,t,r,hg,k⟩=>by
 unfold gLs at hg
 cases q:gl ρ with
 |none=>rw[q] at hg;cases hg
 |some ds=>
  rw[q] at hg;cases hg
  refine⟨F,ρ,ds,r,q,λv F' H' e p=>k v F' H' e ?_⟩
  obtain⟨a,vs,rfl,p1,p2,p3,p4⟩:=p
  have hf:feetO H' (.lst (lfs ds)) (.ref a)=[a]:=by simp only[feetO,zM p2,VJ]
  refine⟨⟨a,vs,rfl,p2,lfs_rep.mpr p4⟩,by rw[hf];simp,λb hb=>?_⟩
  rw[hf,List.mem_singleton] at hb
  subst hb
  exact⟨p1,p3⟩
def tNl:EnvD->Option (List OT):=λ_=>some []
def tCn (g:EnvD->Option OT)(gs:EnvD->Option (List OT)):EnvD->Option (List OT):=λρ=>(g ρ).bind λd=>(gs ρ).bind λds=>some (d::ds)
variable {gt':EnvD->Option OT}{gts:EnvD->Option (List OT)}
theorem qU:DTrs X B [] tNl:=yo yr λσ H Q ⟨F,ρ,ds,r,hg,k⟩=>by cases hg;exact k [] F H (.refl r.fh) rfl List.nodup_nil (λa ha=>by cases ha)
theorem yF (ha:DTr X B e gt')(hr:DTrs X B es gts)(hs:starEach (e::es) X.env=(false,eval e X.env)::starEach es X.env:=by rfl):DTrs X B (e::es) (tCn gt' gts) :=
 yo (zZ ha hr hs) λσ H Q ⟨F,ρ,ds,r,hg,k⟩=>by
  obtain⟨t,ts,q1,q2,q3⟩:=bind2 hg
  cases q3
  refine⟨F,ρ,t,r,q1,λv F1 H1 e1 ⟨p1,p2,p3⟩=>⟨F1,ρ,ts,r.ext e1,q2,λvs F2 H2 e2 s1 s2 s3=>?_⟩⟩
  obtain⟨u1,u2⟩:=RepO.ext e2.ff e2.hh p1
  have hfe:feetOs H2 (t::ts) (v::vs)=feetO H1 t v++feetOs H2 ts vs:=by rw[<-u2];rfl
  refine k _ F2 H2 (e1.trans e2) ⟨v,vs,rfl,u1,s1⟩ ?_ λa ha=>?_
  ·rw[hfe,List.nodup_append]
   refine⟨p2,s2,λa ha b hb hab=>?_⟩
   subst hab
   exact RepO.feet p1 ha (s3 a hb).1
  ·rw[hfe,List.mem_append] at ha
   rcases ha with ha | ha
   ·exact⟨(p3 a ha).1,y1 e2 (p3 a ha).2 (RepO.feet p1 ha)⟩
   ·exact⟨e1.hh.free (s3 a ha).1,(s3 a ha).2⟩
def gTupT (gs:EnvD->Option (List OT)):EnvD->Option OT:=λρ=>(gs ρ).bind λts=>if ts.length<=TOP then some (.tup ts) else none
theorem RepOs.length {K:KW}{F H:Hp}:∀ {ts:List OT} {vs:List V},RepOs K F H ts vs->ts.length=vs.length
 | [],_,h=>by cases h;rfl
 |_::_,_,⟨_,_,e,_,t⟩=>by subst e;simp[RepOs.length t]
theorem kh {x1}(h:DTrs X B es gts):DTr X B (.Tuple es x1 pos) (gTupT gts) :=
 zi (Yj h) λσ H Q ⟨F,ρ,t,r,hg,k⟩=>by
  unfold gTupT at hg
  cases q:gts ρ with
  |none=>rw[q] at hg;cases hg
  |some ts=>
   rw[q] at hg
   have hg:(if ts.length<=TOP then some (OT.tup ts) else none)=some t:=hg
   split at hg
   ·rename_i hc
    cases hg
    refine⟨F,ρ,ts,r,q,λvs F1 H1 e1 p1 p2 p3=>⟨ya (by rw[<-p1.length];exact hc),λp hp=>?_⟩⟩
    have hn:p∉feetOs H1 ts vs:=λz=>RepOs.feet p1 z hp
    obtain⟨u1,u2⟩:=RepOs.other (o:=.tup vs) p1 hn
    have hf:feetO (upd H1 p (.tup vs)) (.tup ts) (.ref p)=p::feetOs H1 ts vs:=by simp only[feetO,zO zq,u2]
    refine k _ F1 _ (e1.trans (.new e1.fh hp)) ⟨⟨p,vs,rfl,zq,u1⟩,by rw[hf];exact List.nodup_cons.mpr ⟨hn,p2⟩,λa ha=>?_⟩
    rw[hf,List.mem_cons] at ha
    rcases ha with rfl | ha
    ·exact⟨e1.hh.free hp,e1.fh.free hp⟩
    ·exact p3 a ha
   ·cases hg
def treO:En->Option OT
 |.tre t=>some t
 |_=>none
variable {gxs:EnvD->Option (List En)}{n k:Nat}{m:List En->Option En}
theorem JK {n:Nat}{m:List En->Option En}(hm:∀xs o,m xs=some o->xs.length=n){E:XK}{σ:St}{H:Hp}{Q:VK}(h:lG X.kw B (pT X.kw) (gCall m treO gxs) σ H Q):tCall (pSp X.kw n m) [] E (lNs X.kw B gxs) σ H Q:=by
 obtain⟨F,ρ,d,r,hg,k⟩:=h
 obtain⟨xs,o,q1,q2,q3⟩:=bindC hg
 refine⟨F,ρ,xs,r,q1,λvs F1 H1 e1 p1=>?_⟩
 show pSp X.kw n m (vs++[]) H1 Q E
 rw[List.append_nil]
 refine⟨F1,xs,o,e1.fh,hm xs o q2,p1,q2,λv F2 H2 e2 p2=>?_⟩
 cases o with
 |tre t=>
  cases q3
  obtain⟨h1,h2,h3⟩:=p2
  exact k v F2 H2 (e1.trans e2) ⟨h1,h2,λa ha=>⟨e1.hh.free (h3 a ha).2,(h3 a ha).1⟩⟩
 |_=>cases q3
theorem Kk (h:Fx X.prog X.w X.kw X.mg X.base x k n m)(hr:Room k X.A)(hg:Gl X x)(ha:DNs X B (e::es) gxs)(hdb:(x==("__debug__" : Str))=false:=by decide +kernel)
  (he:starEach (e::es) X.env=(false,eval e X.env)::starEach es X.env:=by rfl) (hpl:(backTo pos (starEach es X.env)).any (·.1)=false:=by rfl):DTr X B (.Call (.Name x p) (e::es) [] pos) (gCall (len? n m) treO gxs):=by
 obtain⟨f,fd,ps,F,hm,hk,hb⟩:=h.ex
 exact zi (wZ F hr hg hm hk hb .nil pass0 ha hdb he hpl) λσ H Q h=>JK xl h
def sRetT (g:EnvD->Option OT):SD:=λρ=>(g ρ).map λt=>.ret (.tre t)
theorem uV (he:DTr X B e gt'):DS X B (.Return (some e) pos) (sRetT gt'):=z7 (vm he) λE σ H ⟨F,ρ,fl,r,hg,k⟩=>by
 unfold sRetT at hg
 cases q:gt' ρ with
 |none=>rw[q] at hg;cases hg
 |some t=>
  rw[q] at hg;cases hg
  exact⟨F,ρ,t,r,q,λv F1 H1 e1 ⟨p1,p2,p3⟩=>k v F1 H1 (r.ex.trans e1) ⟨p1,p2,λa ha=>⟨(p3 a ha).2,r.ex.hh.free (p3 a ha).1⟩⟩⟩
def sSetT (i:Nat)(g:EnvD->Option OT):SD:=λρ=>(g ρ).map λt=>.next (ρ.set i (some (.tre t)))
theorem Ky {i:Nat}{y:Str}{pos':Pos}(hN:X.N.Nodup)(hi:X.N[i]?=some y)(hx:Loc X.env.scope y)(he:DTr X B e gt')(hs:swapsWith e (some (.Name y pos')) pos.line X.env=pure false:=by rfl)(hf:X.fn y=true∨X.env.scope.names.lookup y=some .local:=by first | exact .inl rfl | exact .inr rfl | assumption) :
  DS X B (.Assign [.Name y pos'] e pos) (sSetT i gt'):=z7 (ve hN hi hx he hs hf) λE σ H ⟨F,ρ,fl,r,hg,k⟩=>by
 unfold sSetT at hg
 cases q:gt' ρ with
 |none=>rw[q] at hg;cases hg
 |some t=>
  rw[q] at hg;cases hg
  refine⟨F,ρ,t,r,q,λv F1 H1 e1 ⟨p1,p2,p3⟩=>k _ F1 H1 ((r.ext e1).seto (x:=.tre t) ⟨p1,p2,λa ha=>⟨(p3 a ha).2,r.ex.hh.free (p3 a ha).1⟩⟩ ?_) e1.ff⟩
  intro j z w hj hs _ a ha hc
  obtain⟨w',hw,hr⟩:=r.ents j z hj
  rw[hs] at hw;cases hw
  rw[hr.feet_ext e1.hh] at hc
  exact (hr.feet_at hc).1 (p3 a ha).1
mutual
def OT.get:OT->List Nat->Option OT
 |t,[]=>some t
 |.lst ts,k::p=>gets ts k p
 |.tup ts,k::p=>gets ts k p
 |.frz _,_::_=>none
def gets:List OT->Nat->List Nat->Option OT
 | [],_,_=>none
 |t::_,0,p=>t.get p
 |_::ts,k+1,p=>gets ts k p
end
mutual
def OT.put:OT->List Nat->OT->OT
 |_,[],u=>u
 |.lst ts,k::p,u=>.lst (puts ts k p u)
 |.tup ts,k::p,u=>.tup (puts ts k p u)
 |.frz d,_::_,_=>.frz d
def puts:List OT->Nat->List Nat->OT->List OT
 | [],_,_,_=>[]
 |t::ts,0,p,u=>t.put p u::ts
 |t::ts,k+1,p,u=>t::puts ts k p u
end
def valAt (H:Hp):V->List Nat->Option V
 |v,[]=>some v
 |.ref a,k::p=>((itemsH H a)[k]?).bind λw=>valAt H w p
 |_,_::_=>none
def valsAt (H:Hp)(vs:List V)(k:Nat)(p:List Nat):Option V:=(vs[k]?).bind λw=>valAt H w p
structure At (K:KW)(F H:Hp)(ft:List Addr)(ds:List D)(b:Addr)(vs:List V):Prop where
 hb:H b=some (.lst vs)
 rp:Rps K F ds vs
 mem:b∈ft
end
mutual
theorem RepO.getp {K:KW}{F H:Hp}:∀ {t:OT} {v:V} {p:List Nat} {u:OT},RepO K F H t v->t.get p=some u->∃w,valAt H v p=some w/\RepO K F H u w
 |t,v,[],u,r,e=>by
  have e:t=u:=by cases t<;>(simp[OT.get] at e;exact e)
  subst e
  exact⟨v,rfl,r⟩
 |.frz _,v,_::_,u,r,e=>by simp[OT.get] at e
 |.lst ts,_,k::p,u,⟨a,us,e1,q,r⟩,e=>by
  subst e1
  simp only[OT.get] at e
  obtain⟨w,h1,h2⟩:=RepOs.getp r e
  exact⟨w,by simp only[valAt,zM q];exact h1,h2⟩
 |.tup ts,_,k::p,u,⟨a,us,e1,q,r⟩,e=>by
  subst e1
  simp only[OT.get] at e
  obtain⟨w,h1,h2⟩:=RepOs.getp r e
  exact⟨w,by simp only[valAt,zO q];exact h1,h2⟩
theorem RepOs.getp {K:KW}{F H:Hp}:∀ {ts:List OT} {us:List V} {k:Nat} {p:List Nat} {u:OT},RepOs K F H ts us->gets ts k p=some u->∃w,valsAt H us k p=some w/\RepO K F H u w
 | [],_,_,_,_,_,e=>by simp[gets] at e
 |t::ts,_,0,p,u,⟨v,r,e1,h1,h2⟩,e=>by
  subst e1
  simp only[gets] at e
  obtain⟨w,g1,g2⟩:=RepO.getp h1 e
  exact⟨w,by simpa[valsAt] using g1,g2⟩
 |t::ts,_,k+1,p,u,⟨v,r,e1,h1,h2⟩,e=>by
  subst e1
  simp only[gets] at e
  obtain⟨w,g1,g2⟩:=RepOs.getp h2 e
  exact⟨w,by simpa[valsAt] using g1,g2⟩
end
theorem qD {H:Hp}{n:Nat}{c:Addr}:∀ {p:List Nat} {v:V},valAt H v p=some (.ref c)->valAt H v (p++[n])=(itemsH H c)[n]?
 | [],v,e=>by
  cases e
  simp only[List.nil_append,valAt]
  cases (itemsH H c)[n]?<;>rfl
 |k::p,v,e=>by
  cases v with
  |ref a=>
   simp only[valAt,List.cons_append] at e ⊢
   cases q:(itemsH H a)[k]? with
   |none=>rw[q] at e;cases e
   |some w=>rw[q] at e;exact qD e
  |_=>simp[valAt] at e
def OT.size:OT->Option Nat
 |.lst ts=>some ts.length
 |.tup ts=>some ts.length
 |.frz _=>none
def unLfs:List OT->Option (List D)
 | []=>some []
 |.frz d::ts=>(unLfs ts).map (d::·)
 |_::_=>none
theorem Yc:∀ {ts:List OT} {ds:List D},unLfs ts=some ds->ts=lfs ds
 | [],_,e=>by cases e;rfl
 |.frz d::ts,ds,e=>by
  cases q:unLfs ts with
  |none=>rw[show unLfs (.frz d::ts)=(unLfs ts).map (d::·) from rfl,q] at e;cases e
  |some ds'=>
   rw[show unLfs (.frz d::ts)=(unLfs ts).map (d::·) from rfl,q] at e
   cases e
   rw[Yc q];rfl
 |.lst _::_,_,e=>by cases e
 |.tup _::_,_,e=>by cases e
theorem kZ:∀(ds:List D),unLfs (lfs ds)=some ds
 | []=>rfl
 |d::ds=>by show (unLfs (lfs ds)).map (d::·)=_;rw[kZ ds];rfl
def OT.leaf:OT->Option (List D)
 |.lst ts=>unLfs ts
 |_=>none
theorem RB {u:OT}{ds:List D}(h:u.leaf=some ds):u=.lst (lfs ds):=by
 cases u with
 |lst ts=>rw[Yc (show unLfs ts=some ds from h)]
 |_=>cases h
def lP (K:KW)(B:Bs)(i:Nat)(gp:EnvD->Option (List Nat)):TE:=λσ H Q=>
 ∃F ρ t p,Rep K B F σ H ρ/\ρ[i]?=some (some (.tre t))/\gp ρ=some p/\∀v0 v F' H',Ext F H F' H'->σ[i]?=some (some v0)->valAt H' v0 p=some v->Q v H'
def DP (X:Cx)(B:Bs)(e:Expr)(i:Nat)(gp:EnvD->Option (List Nat)):Prop:=PE X e (lP X.kw B i gp)
section
variable {X:Cx}{B:Bs}{e a b c o:Expr}{es:List Expr}{pos p p2 apos cpos:Pos}{g ga gb go:EnvD->Option D}{gs:EnvD->Option (List D)}{x nm:Str}{gp:EnvD->Option (List Nat)}
def pRoot:EnvD->Option (List Nat):=λ_=>some []
theorem K9 (i:Nat)(h:PE X (.Name x pos) (tVar i)):DP X B (.Name x pos) i pRoot:=zi h λσ H Q ⟨F,ρ,t,p,r,hi,hg,k⟩=>by
 cases hg
 obtain⟨v,h1,_⟩:=r.ents i _ hi
 exact⟨v,h1,k v v F H (.refl r.fh) h1 rfl⟩
def pIx (i:Nat)(gp:EnvD->Option (List Nat))(gb:EnvD->Option D):EnvD->Option (List Nat):=λρ=>match ρ[i]? with
 |some (some (.tre t))=>(gp ρ).bind λp=>((t.get p).bind OT.size).bind λL=>((gb ρ).bind asI).bind λj=>(ixN L j).map λn=>p++[n]
 |_=>none
theorem Ur (i:Nat)(ha:DP X B a i gp)(hb:DR X B b gb)(hs:vF b):DP X B (.Subscript a b pos) i (pIx i gp gb) :=
 zi (uJ uc ha hb hs) λσ H Q ⟨F,ρ,t,pp,r,hi,hg,k⟩=>by
  unfold pIx at hg
  rw[hi] at hg
  replace hg:((gp ρ).bind λp=>((t.get p).bind OT.size).bind λL=>((gb ρ).bind asI).bind λj=>(ixN L j).map λn=>p++[n])=some pp:=hg
  cases q1:gp ρ with
  |none=>rw[q1] at hg;cases hg
  |some p=>
   rw[q1] at hg
   replace hg:(((t.get p).bind OT.size).bind λL=>((gb ρ).bind asI).bind λj=>(ixN L j).map λn=>p++[n])=some pp:=hg
   cases q2:t.get p with
   |none=>rw[q2] at hg;cases hg
   |some u=>
    rw[q2] at hg
    replace hg:((OT.size u).bind λL=>((gb ρ).bind asI).bind λj=>(ixN L j).map λn=>p++[n])=some pp:=hg
    cases q3:OT.size u with
    |none=>rw[q3] at hg;cases hg
    |some L=>
     rw[q3] at hg
     replace hg:(((gb ρ).bind asI).bind λj=>(ixN L j).map λn=>p++[n])=some pp:=hg
     cases q4:gb ρ with
     |none=>rw[q4] at hg;cases hg
     |some dj=>
      rw[q4] at hg
      replace hg:((asI dj).bind λj=>(ixN L j).map λn=>p++[n])=some pp:=hg
      cases q5:asI dj with
      |none=>rw[q5] at hg;cases hg
      |some j=>
       rw[q5] at hg
       replace hg:((ixN L j).map λn=>p++[n])=some pp:=hg
       cases q6:ixN L j with
       |none=>rw[q6] at hg;cases hg
       |some n=>
        rw[q6] at hg
        cases hg
        rw[km q5] at q4
        refine⟨F,ρ,t,p,r,hi,q1,λv0 v F1 H1 e1 h0 hv=>⟨F1,ρ,_,r.ext e1,q4,λy F2 H2 e2 p2=>?_⟩⟩
        have r2:=r.ext (e1.trans e2)
        obtain⟨v0',h0',ro,_⟩:=r2.ents i _ hi
        rw[h0] at h0';cases h0'
        have r1:=r.ext e1
        obtain⟨v0',h0',ro1,_⟩:=r1.ents i _ hi
        rw[h0] at h0';cases h0'
        obtain⟨w,hw1,hw2⟩:=RepO.getp ro q2
        obtain⟨w',hw1',hw2'⟩:=RepO.getp ro1 q2
        rw[hv] at hw1';cases hw1'
        cases u with
        |frz d=>cases q3
        |lst ts=>
         cases q3
         obtain⟨a1,us1,rfl,s1,s2⟩:=hw2'
         obtain⟨a2,us2,rfl,t1,t2⟩:=hw2
         have hsame:valAt H2 v0 p=some (.ref a1):=by
          have:∀ {q:List Nat} {v:V} {z:V},valAt H1 v q=some z->valAt H2 v q=some z:=by
           intro q
           induction q with
           |nil=>intro v z h;exact h
           |cons k q ih=>
            intro v z h
            cases v with
            |ref c=>
             simp only[valAt] at h ⊢
             have hc:itemsH H1 c≠[]->itemsH H2 c=itemsH H1 c:=by
              intro hne
              unfold itemsH at hne ⊢
              cases qq:H1 c with
              |none=>rw[qq] at hne;exact (hne rfl).elim
              |some o=>
               rw[e2.hh _ _ qq]
             cases q7:(itemsH H1 c)[k]? with
             |none=>rw[q7] at h;cases h
             |some y=>
              rw[q7] at h
              rw[hc (by intro z;rw[z] at q7;simp at q7),q7]
              exact ih h
            |_=>simp[valAt] at h
          exact this hv
         rw[hsame] at hw1
         cases hw1
         have hl:n < us2.length:=by
          rw[<-RepOs.length t2]
          exact (vY q6).2.1
         refine .inl ⟨a1,us2,j,us2[n],rfl,p2.int,.of t1,?_,k v0 _ F2 H2 (e1.trans e2) h0 ?_⟩
         ·unfold atI
          rw[<-RepOs.length t2,q6]
          exact List.getElem?_eq_getElem hl
         ·rw[qD hsame,zM t1]
          exact List.getElem?_eq_getElem hl
        |tup ts=>
         cases q3
         obtain⟨a1,us1,rfl,s1,s2⟩:=hw2'
         obtain⟨a2,us2,rfl,t1,t2⟩:=hw2
         have hsame:valAt H2 v0 p=some (.ref a1):=by
          have:∀ {q:List Nat} {v:V} {z:V},valAt H1 v q=some z->valAt H2 v q=some z:=by
           intro q
           induction q with
           |nil=>intro v z h;exact h
           |cons k q ih=>
            intro v z h
            cases v with
            |ref c=>
             simp only[valAt] at h ⊢
             have hc:itemsH H1 c≠[]->itemsH H2 c=itemsH H1 c:=by
              intro hne
              unfold itemsH at hne ⊢
              cases qq:H1 c with
              |none=>rw[qq] at hne;exact (hne rfl).elim
              |some o=>
               rw[e2.hh _ _ qq]
             cases q7:(itemsH H1 c)[k]? with
             |none=>rw[q7] at h;cases h
             |some y=>
              rw[q7] at h
              rw[hc (by intro z;rw[z] at q7;simp at q7),q7]
              exact ih h
            |_=>simp[valAt] at h
          exact this hv
         rw[hsame] at hw1
         cases hw1
         have hl:n < us2.length:=by
          rw[<-RepOs.length t2]
          exact (vY q6).2.1
         refine .inr (.inl ⟨a1,us2,j,us2[n],rfl,p2.int,.of t1,?_,k v0 _ F2 H2 (e1.trans e2) h0 ?_⟩)
         ·unfold atI
          rw[<-RepOs.length t2,q6]
          exact List.getElem?_eq_getElem hl
         ·rw[qD hsame,zO t1]
          exact List.getElem?_eq_getElem hl
variable {id:String}{r:V->List V->Hp->VK->Prop}{f:List D->List D->Option (List D)}
end
section
variable {ρ:EnvD}{i:Nat}{t:OT}{ga gb:EnvD->Option D}{gs:EnvD->Option (List D)}{gp:EnvD->Option (List Nat)}{ds:List D}{gt':EnvD->Option OT}{gts:EnvD->Option (List OT)}{gl:EnvD->Option (List D)}{α:Type}
@[simp]theorem zc1:gh i ρ=match ρ[i]? with | some (some (.val d))=>some d | some (some (.acc ds))=>some (.lst ds) | some (some (.bor ds))=>some (.lst ds) | some (some (.tre t))=>some t.erase | _=>none:=rfl
@[simp]theorem zc0:gLf ga ρ=(ga ρ).map OT.frz:=rfl
@[simp]theorem zfw:gLs gl ρ=(gl ρ).map λds=>OT.lst (lfs ds):=rfl
@[simp]theorem zds:tNl ρ=some []:=rfl
@[simp]theorem zex:tCn gt' gts ρ=(gt' ρ).bind λd=>(gts ρ).bind λds=>some (d::ds):=rfl
@[simp]theorem zcg:gTupT gts ρ=(gts ρ).bind λts=>if ts.length<=TOP then some (.tup ts) else none:=rfl
@[simp]theorem zeq:treO (.tre t)=some t:=rfl
@[simp]theorem za1 {d:D}:treO (.val d)=none:=rfl
@[simp]theorem zeh:treO (.acc ds)=none:=rfl
@[simp]theorem za0:sRetT gt' ρ=(gt' ρ).map λt=>.ret (.tre t):=rfl
@[simp]theorem KZ:sSetT i gt' ρ=(gt' ρ).map λt=>.next (ρ.set i (some (.tre t))):=rfl
@[simp]theorem ze8:pRoot ρ=some []:=rfl
@[simp]theorem zd7:pIx i gp gb ρ=match ρ[i]? with | some (some (.tre t))=>(gp ρ).bind λp=>((t.get p).bind OT.size).bind λL=>((gb ρ).bind asI).bind λj=>(ixN L j).map λn=>p++[n] | _=>none:=rfl
@[simp]theorem ze1:OT.leaf (.lst (lfs ds))=some ds:=kZ ds
@[simp]theorem zfx:(OT.lst (lfs ds)).erase=.lst ds:=by show D.lst (erases (lfs ds))=_;rw[Yr]
@[simp]theorem zb4 {d:D}:(OT.frz d).erase=d:=by simp[OT.erase]
@[simp]theorem zfc {ts:List OT}:(OT.tup ts).erase=.tup (erases ts):=by simp[OT.erase]
@[simp]theorem zek:erases []=[]:=by simp[erases]
@[simp]theorem zdr {ts:List OT}:erases (t::ts)=t.erase::erases ts:=by simp[erases]
end
section
variable {ρ:EnvD}{i k n m:Nat}{d x y:D}{ds es:List D}{a b j:Int}{α γ:Type}{ga gb gc' g:EnvD->Option D}{ta tb:EnvD->Option Bool}{gs:EnvD->Option (List D)}{s1 s2:SD}{p q:Str}{ns:List Int}
@[simp]theorem zet:fPlus (.int a) (.int b)=some (.int (a+b)):=rfl
@[simp]theorem zdp:fPlus (.str p) (.str q)=if p.length+q.length<=TOP then some (.str (p++q)) else none:=rfl
@[simp]theorem zfo:fItem (.lst ds) (.int a)=atI ds a:=rfl
@[simp]theorem zb8:fItem (.tup ds) (.int a)=atI ds a:=rfl
@[simp]theorem zfa:fItem (.scr ns) (.int a)=(atI ns a).map D.int:=rfl
theorem Yf:fItem (.str p) (.int a)=if p.length<=TOP then (atI p.cps.toList a).map λc=>.str ⟨#[c]⟩ else none:=rfl
@[simp]theorem zft {gl gh:EnvD->Option (Option Int)}:gSlS g gl gh ρ=(g ρ).bind λd=>(gl ρ).bind λl=>(gh ρ).bind λh=>match d with | .str z=>if z.length<=TOP then some (.str (Txt.slice z l h)) else none | _=>none:=rfl
@[simp]theorem zcn:itL (.scr ns)=some (ns.map D.int):=rfl
@[simp]theorem KF:fCatS x y=(itL x).bind λxs=>(itL y).bind λys=>if xs.length+ys.length<=TOP then some (xs++ys) else none:=rfl
@[simp]theorem zfb:fInt [.int a]=some (.int a):=rfl
@[simp]theorem zcj {b:Bool}:fInt [.bl b]=some (.int (if b then 1 else 0)):=rfl
@[simp]theorem zbx {t:Tgt}:sAsg t g ρ=(g ρ).bind λd=>(asgD t d ρ).map Fl.next:=rfl
@[simp]theorem zcu {f:List D->List D->Option (List D)}:sMut i f gs ρ=match ρ[i]? with | some (some (.acc ds))=>(gs ρ).bind λes=>(f ds es).map λds'=>.next (ρ.set i (some (.acc ds'))) | _=>none:=rfl
@[simp]theorem zfe:tyD (.str p)=some "str" := rfl
@[simp]theorem zfj:isNon (.lst ds)=false:=rfl
@[simp]theorem zdt:fList [.scr ns]=some (ns.map D.int):=rfl
theorem fEqB {neg u v:Bool}:fEq neg (.bl u) (.bl v)=some (.bl (if neg then !(u==v) else (u==v))):=by
 cases neg<;>cases u<;>cases v<;>rfl
theorem j6 {t:EnvD->Option Bool}(h:t ρ=some false):whileD t s1 (n+1) ρ=some (.next ρ):=by
 rw[whileD,h];rfl
theorem vg {t:EnvD->Option Bool}{ρ2:EnvD}(h:t ρ=some true)(h2:s1 ρ=some (.next ρ2)):whileD t s1 (n+1) ρ=whileD t s1 n ρ2:=by
 rw[whileD,h]
 show ((s1 ρ).bind _)=_
 rw[h2];rfl
theorem qF {xs:List α}(h:0<=a):cutD xs none (some a)=xs.take a.toNat:=by
 simp only[cutD,HT.sIx]
 rw[if_neg (show ¬a < 0 by omega)]
 simp only[Nat.sub_zero,List.drop_zero]
 by_cases h2:a.toNat<=xs.length
 ·rw[Nat.min_eq_left h2]
 ·rw[Nat.min_eq_right (by omega),List.take_of_length_le (Nat.le_refl _),List.take_of_length_le (by omega)]
theorem wp {xs:List α}(h:0<=a):cutD xs (some a) none=xs.drop a.toNat:=by
 simp only[cutD,HT.sIx]
 rw[if_neg (show ¬a < 0 by omega)]
 by_cases h2:a.toNat<=xs.length
 ·rw[Nat.min_eq_left h2]
  exact List.take_of_length_le (by simp)
 ·rw[Nat.min_eq_right (by omega),List.drop_of_length_le (Nat.le_refl _),List.drop_of_length_le (by omega)];simp
theorem zcc {β:Type}{f:α->β}{xs:List α}{l h:Option Int}:cutD (xs.map f) l h=(cutD xs l h).map f:=by
 unfold cutD;simp[List.map_drop,List.map_take]
theorem Ze {xs:List α}(h1:0<=a)(h2:a < xs.length):∃v,atI xs a=some v/\xs[a.toNat]?=some v:=by
 obtain⟨n,rfl⟩:∃n:Nat,a=(n:Int):=⟨a.toNat,by omega⟩
 have hl:n < xs.length:=by omega
 exact⟨xs[n],yM n (List.getElem?_eq_getElem hl),by simp[hl]⟩
theorem zfh {β:Type}{f:α->β}{xs:List α}:atI (xs.map f) a=(atI xs a).map f:=by
 unfold atI
 rw[List.length_map]
 cases ixN xs.length a with
 |none=>rfl
 |some j=>simp
theorem zfn {xs:List α}{v:α}(h:atI xs a=some v):v∈xs:=by
 unfold atI at h
 cases q:ixN xs.length a with
 |none=>rw[q] at h;cases h
 |some j=>rw[q] at h;exact List.mem_of_getElem? h
def Tx (n:Nat)(x:Str):Prop:=PyData.strOk x=true/\x.length<=n
theorem Tx.mono {x:Str}(h:Tx n x)(e:n<=m):Tx m x:=⟨h.1,Nat.le_trans h.2 e⟩
theorem Tx.app {x y:Str}(h:Tx n x)(h':Tx m y):Tx (n+m) (x++y):=by
 refine⟨?_,?_⟩
 ·show (x.cps++y.cps).all _=true
  rw[Array.all_append]
  exact Bool.and_eq_true_iff.mpr ⟨h.1,h'.1⟩
 ·show (x.cps++y.cps).size<=n+m
  rw[Array.size_append]
  have h1:=h.2
  have h2:=h'.2
  unfold Str.length at h1 h2
  omega
theorem Tx.slice {x:Str}{l u:Option Int}(h:Tx n x):Tx n (Txt.slice x l u):=by
 refine⟨?_,Nat.le_trans (Txt.slice_le x l u) h.2⟩
 unfold Txt.slice
 split
 ·exact h.1
 ·have h1:=h.1
  unfold PyData.strOk at h1 ⊢
  rw[Array.all_eq_true'] at h1
  rw[Array.all_eq_true']
  intro c hc
  simp only[List.mem_toArray,List.mem_filterMap] at hc
  obtain⟨i,_,e⟩:=hc
  exact h1 c (Array.mem_of_getElem? e)
theorem Tx.item {z:Str}(h:Tx n z)(hn:n<=TOP)(h1:0<=a)(h2:a < z.length):∃c,fItem (.str z) (.int a)=some (.str c)/\Tx 1 c:=by
 have hl:(z.cps.toList.length:Int)=z.length:=by simp[Str.length]
 obtain⟨c,e1,e2⟩:=Ze (xs:=z.cps.toList) h1 (by omega)
 refine⟨⟨#[c]⟩,?_,?_,Nat.le_refl _⟩
 ·rw[Yf,if_pos (Nat.le_trans h.2 hn),e1];rfl
 ·have h1:=h.1
  unfold PyData.strOk at h1
  rw[Array.all_eq_true'] at h1
  have:=h1 c (by simpa using List.mem_of_getElem? e2)
  unfold PyData.strOk
  simpa using this
theorem ZQ (sep:Str)(hs:PyData.strOk sep=true):∀(rest:List Str) (acc:Array Nat),acc.all (· < 0x110000)=true->(∀y∈rest,PyData.strOk y=true)->(rest.foldl (λacc p=>acc++sep.cps++p.cps) acc).all (· < 0x110000)=true
 | [],_,h,_=>h
 |y::rest,acc,h,hy=>by
  rw[List.foldl_cons]
  refine ZQ sep hs rest _ ?_ λz hz=>hy z (by simp[hz])
  rw[Array.all_append,Array.all_append]
  have h2:y.cps.all (· < 0x110000)=true:=hy y (by simp)
  have h3:sep.cps.all (· < 0x110000)=true:=hs
  rw[h,h2,h3];rfl
theorem Tx.join0 {ys:List Str}(h:∀y∈ys,Tx 1 y):Tx ys.length (Txt.join "" ys):=by
 have e0:PyData.strOk ("" : Str)=true:=by decide +kernel
 refine⟨?_,?_⟩
 ·show ((ys.drop 1).foldl (λacc p=>acc++("" : Str).cps++p.cps) (ys.headD Str.empty).cps).all (· < 0x110000)=true
  refine ZQ "" e0 (ys.drop 1) _ ?_ λy hy=>(h y (List.mem_of_mem_drop hy)).1
  cases ys with
  |nil=>simp[Str.empty]
  |cons y r=>exact (h y (by simp)).1
 ·show (Builtin.Str.glued "" ys).length<=ys.length
  rw[PySem.size_glued]
  have e1:("" : Str).length=0:=by decide +kernel
  rw[e1,Nat.mul_zero,Nat.add_zero]
  have:∀l:List Str,(∀y∈l,Tx 1 y)->(l.map (·.length)).sum<=l.length:=by
   intro l
   induction l with
   |nil=>intro _;exact Nat.le_refl _
   |cons y r ih=>
    intro hh
    have h1:=(hh y (by simp)).2
    have h2:=ih λz hz=>hh z (by simp[hz])
    simp only[List.map_cons,List.sum_cons,List.length_cons]
    omega
  exact this ys h
theorem Rr:∀ {l:List Str},(∀y∈l,Tx 1 y)->(l.map (·.length)).sum<=l.length
 | [],_=>Nat.le_refl _
 |y::r,hh=>by
  have h1:=(hh y (by simp)).2
  have h2:=Rr λz hz=>hh z (List.mem_cons_of_mem _ hz)
  simp only[List.map_cons,List.sum_cons,List.length_cons]
  omega
theorem G0:∀(ys:List Str),asSs (ys.map D.str)=some ys
 | []=>rfl
 |y::ys=>by simp[asSs,G0 ys]
end
section
variable {X:Cx}{B:Bs}{hb:Hp->Hp}{e a b c o tg:Expr}{es:List Expr}{pos p p2 apos cpos:Pos}{g ga gb go:EnvD->Option D}{gs:EnvD->Option (List D)}{x:Str}
theorem GB:OpR X (compareOp .Is) (λx y H Q=>∃u v,x=.bl u/\y=.bl v/\Q (.bl (u==v)) H):=by
 intro pins s σ H x y v u Q I rx ry h
 obtain⟨b,c,rfl,rfl,q⟩:=h
 cases rx
 cases ry
 exact wpAny_pure ⟨.bl (b==c),H,I,by cases b<;>cases c<;>rfl,q⟩
theorem Jp:OpR X (compareOp .IsNot) (λx y H Q=>∃u v,x=.bl u/\y=.bl v/\Q (.bl (!(u==v))) H):=by
 intro pins s σ H x y v u Q I rx ry h
 obtain⟨b,c,rfl,rfl,q⟩:=h
 cases rx
 cases ry
 exact wpAny_pure ⟨.bl (!(b==c)),H,I,by cases b<;>cases c<;>rfl,q⟩
def fIsB (neg:Bool):D->D->Option D
 |.bl u,.bl v=>some (.bl (if neg then !(u==v) else u==v))
 |_,_=>none
theorem QT {K:KW}:OkR K (λx y H Q=>∃u v,x=.bl u/\y=.bl v/\Q (.bl (u==v)) H) (pE K) (fIsB false):=by
 intro F H x y dx dy d Q s rx ry e k
 unfold fIsB at e
 split at e
 ·cases e;exact⟨_,_,rx.bl,ry.bl,k _ F H (.refl s) rfl⟩
 ·cases e
theorem JA {K:KW}:OkR K (λx y H Q=>∃u v,x=.bl u/\y=.bl v/\Q (.bl (!(u==v))) H) (pE K) (fIsB true):=by
 intro F H x y dx dy d Q s rx ry e k
 unfold fIsB at e
 split at e
 ·cases e;exact⟨_,_,rx.bl,ry.bl,k _ F H (.refl s) rfl⟩
 ·cases e
end
section
variable {ρ:EnvD}{g:EnvD->Option D}{ds:List D}{a:Int}{u v:Bool}{p q:Str}{neg:Bool}
@[simp]theorem zcs:fIsB neg (.bl u) (.bl v)=some (.bl (if neg then !(u==v) else u==v)):=rfl
end
def dKey:D->Option Key
 |.int i=>some (.inl i)
 |.str x=>some (.inr x)
 |_=>none
def kD:Key->D
 |.inl i=>.int i
 |.inr x=>.str x
theorem jZ {d:D}{k:Key}(h:dKey d=some k):d=kD k:=by
 cases d<;>cases h<;>rfl
theorem JW {K:KW}{F:Hp}{k:Key}{v:V}(r:Rp K F (kD k) v):v=kV k:=by cases k<;>exact r
theorem j4 {K:KW}{F H:Hp}{k:Key}{v:V}(r:Rq K F H (kD k) v):v=kV k:=by
 refine JW (r.one λds h=>?_)
 cases k<;>cases h
def lookD (kvs:List (Key×D))(k:Key):Option D:=(kvs.find? λp=>decide (p.1=k)).map (·.2)
def putD (kvs:List (Key×D))(k:Key)(d:D):List (Key×D) :=
 if (kvs.any λp=>decide (p.1=k))=true then kvs.map (λp=>if p.1=k then (p.1,d) else p) else kvs++[(k,d)]
section
variable {K:KW}{F:Hp}
theorem Rkv.length {kvs:List (Key×D)}{vs:List (Key×V)}(r:Rkv K F kvs vs):kvs.length=vs.length:=Paired.length r
theorem Rkv.look {kvs:List (Key×D)}{vs:List (Key×V)}(r:Rkv K F kvs vs)(k:Key):(lookD kvs k=none/\valV vs k=none)∨∃d v,lookD kvs k=some d/\valV vs k=some v/\Rp K F d v:=by
 unfold Rkv at r
 induction r with
 |nil=>exact .inl ⟨rfl,rfl⟩
 | @cons p q ps qs h t ih=>
  by_cases e:p.1=k
  ·refine .inr ⟨p.2,q.2,by simp[lookD,e],qA (h.1 ▸ e),h.2⟩
  ·rw[show lookD (p::ps) k=lookD ps k by simp[lookD,e],qy (λz=>e (h.1.trans z))]
   exact ih
theorem Rkv.any {kvs:List (Key×D)}{vs:List (Key×V)}(r:Rkv K F kvs vs)(k:Key):(kvs.any λp=>decide (p.1=k))=(vs.any λp=>decide (p.1=k)):=by
 unfold Rkv at r
 induction r with
 |nil=>rfl
 | @cons p q ps qs h t ih=>simp only[List.any_cons,ih,h.1]
theorem Rkv.repl {k:Key}{d:D}{v:V}(rd:Rp K F d v):∀ {kvs:List (Key×D)} {vs:List (Key×V)},Rkv K F kvs vs->Rkv K F (kvs.map λp=>if p.1=k then (p.1,d) else p) (vs.map λp=>if p.1=k then (p.1,v) else p):=by
 intro kvs vs r
 unfold Rkv at r ⊢
 induction r with
 |nil=>exact .nil
 | @cons p q ps qs h t ih=>
  refine .cons ?_ ih
  show (if p.1=k then (p.1,d) else p).1=(if q.1=k then (q.1,v) else q).1/\Rp K F (if p.1=k then (p.1,d) else p).2 (if q.1=k then (q.1,v) else q).2
  by_cases e:p.1=k
  ·rw[if_pos e,if_pos (h.1.symm.trans e)];exact⟨h.1,rd⟩
  ·rw[if_neg e,if_neg (λz=>e (h.1.trans z))];exact h
theorem Rkv.put {kvs:List (Key×D)}{vs:List (Key×V)}(r:Rkv K F kvs vs)(k:Key){d:D}{v:V}(rd:Rp K F d v):Rkv K F (putD kvs k d) (putK vs k v):=by
 unfold putD putK
 rw[r.any k]
 by_cases q:(vs.any λp=>decide (p.1=k))=true
 ·rw[if_pos q,if_pos q];exact r.repl rd
 ·rw[if_neg q,if_neg q];exact Paired.snoc r ⟨rfl,rd⟩
end
def pD (K:KW):Post (List (Key×D)):=λ_ H F' H' kvs v=>∃a ob vs,v=.ref a/\H a=none/\H' a=some (DX K.w a ob vs)/\F' a=none/\Rkv K F' kvs vs
def pK (K:KW):Post (List (Key×D)):=λ_ _ F' H' kvs v=>∃a ob vs,v=.ref a/\H' a=some (DX K.w a ob vs)/\Rkv K F' kvs vs
def DD (X:Cx)(B:Bs)(e:Expr)(g:EnvD->Option (List (Key×D))):Prop:=PE X e (lG X.kw B (pD X.kw) g)
def DK (X:Cx)(B:Bs)(e:Expr)(g:EnvD->Option (List (Key×D))):Prop:=PE X e (lG X.kw B (pK X.kw) g)
section
variable {X:Cx}{B:Bs}{e a b c o i:Expr}{es:List Expr}{pos p apos cpos pos':Pos}{g ga gi gv':EnvD->Option D}{gk gk2:EnvD->Option (List (Key×D))}{gs gxs:EnvD->Option (List D)}{x:Str}
def gk' (i:Nat):EnvD->Option (List (Key×D)):=λρ=>match ρ[i]? with
 |some (some (.dct _ kvs))=>some kvs
 |some (some (.dbo kvs))=>some kvs
 |_=>none
theorem zN (i:Nat)(h:PE X (.Name x pos) (tVar i)):DK X B (.Name x pos) (gk' i) :=
 zi h λσ H Q ⟨F,ρ,d,r,hg,k⟩=>by
  unfold gk' at hg
  split at hg
  ·rename_i oa kvs e
   cases hg
   obtain⟨v,h1,a,ob,vs,e1,e2,e3,e4,e5,e6⟩:=r.ents i _ e
   exact⟨v,h1,k v F H (.refl r.fh) ⟨a,ob,vs,e1,e2,e5⟩⟩
  ·rename_i kvs e
   cases hg
   obtain⟨v,h1,a,ob,vs,e1,e2,e5⟩:=r.ents i _ e
   exact⟨v,h1,k v F H (.refl r.fh) ⟨a,ob,vs,e1,r.ex.hh _ _ e2,e5⟩⟩
  ·cases hg
def gNewD:EnvD->Option (List (Key×D)):=λ_=>some []
theorem kS:DD X B (.Dict [] [] pos) gNewD:=zi KN λσ H Q ⟨F,ρ,d,r,hg,k⟩=>by
 cases hg
 exact λq ob hn=>k _ F _ (.new r.fh hn) ⟨q,ob,[],rfl,hn,zq,r.fh.free hn,.nil⟩
def gGetD (gk:EnvD->Option (List (Key×D)))(gi:EnvD->Option D):EnvD->Option D:=λρ=>(gk ρ).bind λkvs=>((gi ρ).bind dKey).bind λk=>lookD kvs k
theorem yj (ho:DK X B o gk)(hi:DR X B i gi)(hs:NoSl i:=by intro _ _;rfl):DE X B (.Subscript o i pos) (gGetD gk gi) :=
 zi (RJ ho hi hs) λσ H Q ⟨F,ρ,d,r,hg,k⟩=>by
  unfold gGetD at hg
  cases q1:gk ρ with
  |none=>rw[q1] at hg;cases hg
  |some kvs=>
   cases q2:gi ρ with
   |none=>rw[q1,q2] at hg;cases hg
   |some di=>
    rw[q1,q2] at hg
    have hg:((dKey di).bind λk=>lookD kvs k)=some d:=hg
    cases q3:dKey di with
    |none=>rw[q3] at hg;cases hg
    |some ky=>
     rw[q3] at hg
     have hL:lookD kvs ky=some d:=hg
     clear hg
     have hd:=jZ q3
     subst hd
     refine⟨F,ρ,kvs,r,q1,λv F1 H1 e1 ⟨a,ob,vs,h1,h2,h3⟩=>⟨F1,ρ,_,r.ext e1,q2,λu F2 H2 e2 p2=>?_⟩⟩
     have h3':=h3.mono e2.ff
     rcases h3'.look ky with⟨z,_⟩ | ⟨d',w,z1,z2,z3⟩
     ·rw[z] at hL;cases hL
     ·rw[z1] at hL;cases hL
      exact⟨a,ob,vs,ky,w,h1,e2.hh _ _ h2,j4 p2,z2,k w F2 H2 (e1.trans e2) z3⟩
def gInD (neg:Bool)(gi:EnvD->Option D)(gk:EnvD->Option (List (Key×D))):EnvD->Option D:=λρ=>((gi ρ).bind dKey).bind λk=>(gk ρ).map λkvs=>.bl (neg ^^ (lookD kvs k).isSome)
theorem QO {neg:Bool}{ρ:EnvD}{d:D}(hg:gInD neg gi gk ρ=some d):∃ky kvs,gi ρ=some (kD ky)/\gk ρ=some kvs/\d=.bl (neg ^^ (lookD kvs ky).isSome):=by
 unfold gInD at hg
 cases q2:gi ρ with
 |none=>rw[q2] at hg;cases hg
 |some di=>
  rw[q2] at hg
  have hg:((dKey di).bind λk=>(gk ρ).map λkvs=>D.bl (neg ^^ (lookD kvs k).isSome))=some d:=hg
  cases q3:dKey di with
  |none=>rw[q3] at hg;cases hg
  |some ky=>
   rw[q3] at hg
   cases q1:gk ρ with
   |none=>rw[q1] at hg;cases hg
   |some kvs=>
    rw[q1] at hg
    cases hg
    exact⟨ky,kvs,by rw[jZ q3],rfl,rfl⟩
theorem J5 {K:KW}{F:Hp}{kvs:List (Key×D)}{vs:List (Key×V)}(r:Rkv K F kvs vs)(k:Key):(valV vs k).isSome=(lookD kvs k).isSome:=by
 rcases r.look k with⟨z1,z2⟩ | ⟨d,w,z1,z2,_⟩<;>rw[z1,z2]<;>rfl
def sPutD (j:Nat)(gi g:EnvD->Option D):SD:=λρ=>match ρ[j]? with
 |some (some (.dct oa kvs))=>(g ρ).bind λd=>((gi ρ).bind dKey).bind λk=>if kvs.length < sizeLine then some (.next (ρ.set j (some (.dct oa (putD kvs k d))))) else none
 |_=>none
theorem wT (j:Nat)(hx:PE X (.Name x p) (tVar j))(hi:DR X B i gi)(he:DE X B e g)(hs:swapsWith e (some (.Subscript (.Name x p) i pos')) pos.line X.env=pure false:=by rfl) :
  DS X B (.Assign [.Subscript (.Name x p) i pos'] e pos) (sPutD j gi g) :=
 z7 (RA hx hi he hs) λE σ H ⟨F,ρ,fl,r,hg,k⟩=>by
  unfold sPutD at hg
  split at hg
  ·rename_i oa kvs q
   cases q2:g ρ with
   |none=>rw[q2] at hg;cases hg
   |some d=>
    cases q3:gi ρ with
    |none=>rw[q2,q3] at hg;cases hg
    |some di=>
     rw[q2,q3] at hg
     have hg:((dKey di).bind λk=>if kvs.length < sizeLine then some (Fl.next (ρ.set j (some (.dct oa (putD kvs k d))))) else none)=some fl:=hg
     cases q4:dKey di with
     |none=>rw[q4] at hg;cases hg
     |some ky=>
      rw[q4] at hg
      have hg:(if kvs.length < sizeLine then some (Fl.next (ρ.set j (some (.dct oa (putD kvs ky d))))) else none)=some fl:=hg
      split at hg
      ·rename_i hz
       cases hg
       have hd:=jZ q4
       subst hd
       refine⟨F,ρ,d,r,q2,λw F1 H1 e1 p1=>?_⟩
       have r1:=r.ext e1
       obtain⟨v,hv,_⟩:=r1.ents j _ q
       refine⟨v,hv,F1,ρ,_,r1,q3,λu F2 H2 e2 p2=>?_⟩
       have r2:=r1.ext e2
       obtain⟨v',hv',a,ob,vs,e',f1,f2,f3,f4,f5⟩:=r2.ents j _ q
       rw[hv] at hv';cases hv';subst e'
       refine⟨a,ob,vs,ky,rfl,f1,j4 p2,by rw[<-f4.length];exact hz,λob'=>k σ F2 _ ?_ (e1.ff.trans e2.ff)⟩
       exact r2.write q rfl hv f2 f3 ⟨a,ob',_,rfl,zq,f2,f3,f4.put ky (Rp.mono e2.ff p1),f5⟩ rfl
      ·cases hg
  ·cases hg
end
section
variable {X:Cx}{B:Bs}{e a b c o i:Expr}{es:List Expr}{pos p apos cpos pos':Pos}{g ga gi gv':EnvD->Option D}{gk gk2:EnvD->Option (List (Key×D))}{gs:EnvD->Option (List D)}{gxs:EnvD->Option (List En)}{x:Str}
def sSetD (j:Nat)(g:EnvD->Option (List (Key×D))):SD:=λρ=>(g ρ).map λkvs=>.next (ρ.set j (some (.dct none kvs)))
theorem Qi {K:KW}{F H:Hp}{σ:St}{ρ:EnvD}{F1 H1:Hp}(r:Rep K B F σ H ρ)(e:Ext F H F1 H1){a:Addr}(n:H a=none):∀(j:Nat) y w,ρ[j]?=some (some y)->σ[j]?=some (some w)->a∉feetE H1 y w:=λj y w h1 h2 ha=>by
 obtain⟨w',q,ry⟩:=r.ents j y h1
 rw[h2] at q;cases q
 rw[ry.feet_ext e.hh] at ha
 exact (ry.feet_at ha).1 n
theorem yT {j:Nat}{y:Str}{pos':Pos}(hN:X.N.Nodup)(hi:X.N[j]?=some y)(hx:Loc X.env.scope y)(he:DD X B e gk)(hs:swapsWith e (some (.Name y pos')) pos.line X.env=pure false:=by rfl)(hf:X.fn y=true∨X.env.scope.names.lookup y=some .local:=by first | exact .inl rfl | exact .inr rfl) :
  DS X B (.Assign [.Name y pos'] e pos) (sSetD j gk):=z7 (ve hN hi hx he hs hf) λE σ H ⟨F,ρ,fl,r,hg,k⟩=>by
 unfold sSetD at hg
 cases q:gk ρ with
 |none=>rw[q] at hg;cases hg
 |some kvs=>
  rw[q] at hg
  cases hg
  refine⟨F,ρ,kvs,r,q,λv F1 H1 e1 ⟨a,ob,vs,h1,h2,h3,h4,h5⟩=>k _ F1 H1 ((r.ext e1).seto (x:=.dct none kvs) ⟨a,ob,vs,h1,h3,h4,r.ex.hh.free h2,h5,λ_ z=>nomatch z⟩ λj' y w q1 q2 _ b hb=>?_) e1.ff⟩
  subst h1
  simp only[feetE,List.mem_singleton] at hb
  subst hb
  exact Qi r e1 h2 j' y w q1 q2
def sRetVD (j:Nat):SD:=λρ=>match ρ[j]? with
 |some (some (.dct none kvs))=>some (.ret (.dct none kvs))
 |_=>none
theorem kJ (j:Nat)(h:PE X (.Name x p) (tVar j)):DS X B (.Return (some (.Name x p)) pos) (sRetVD j):=z7 (vm h) λE σ H ⟨F,ρ,fl,r,hg,k⟩=>by
 unfold sRetVD at hg
 split at hg
 ·rename_i ds q
  cases hg
  obtain⟨v,h1,h2⟩:=r.ents j _ q
  exact⟨v,h1,k v F H r.ex h2⟩
 ·cases hg
def dctO:En->Option (List (Key×D))
 |.dct _ kvs=>some kvs
 |_=>none
theorem Js {n:Nat}{m:List En->Option En}(hm:∀xs o,m xs=some o->xs.length=n){E:XK}{σ:St}{H:Hp}{Q:VK}(h:lG X.kw B (pD X.kw) (gCall m dctO gxs) σ H Q):tCall (pSp X.kw n m) [] E (lNs X.kw B gxs) σ H Q:=by
 obtain⟨F,ρ,d,r,hg,k⟩:=h
 obtain⟨xs,o,q1,q2,q3⟩:=bindC hg
 refine⟨F,ρ,xs,r,q1,λvs F1 H1 e1 p1=>?_⟩
 show pSp X.kw n m (vs++[]) H1 Q E
 rw[List.append_nil]
 refine⟨F1,xs,o,e1.fh,hm xs o q2,p1,q2,λv F2 H2 e2 p2=>?_⟩
 cases o with
 |dct oa kvs=>
  cases q3
  obtain⟨a,ob,ws,h1,h2,h3,h4,h5,h6⟩:=p2
  exact k v F2 H2 (e1.trans e2) ⟨a,ob,ws,h1,e1.hh.free h4,h2,h3,h5⟩
 |_=>cases q3
variable {k n:Nat}{m:List En->Option En}
theorem jj (h:Fx X.prog X.w X.kw X.mg X.base x k n m)(hr:Room k X.A)(hg:Gl X x)(ha:DNs X B (e::es) gxs)(hdb:(x==("__debug__" : Str))=false:=by decide +kernel)
  (he:starEach (e::es) X.env=(false,eval e X.env)::starEach es X.env:=by rfl) (hpl:(backTo pos (starEach es X.env)).any (·.1)=false:=by rfl):DD X B (.Call (.Name x p) (e::es) [] pos) (gCall (len? n m) dctO gxs):=by
 obtain⟨f,fd,ps,F,hm,hk,hb⟩:=h.ex
 exact zi (wZ F hr hg hm hk hb .nil pass0 ha hdb he hpl) λσ H Q h=>Js xl h
def gGet2D (gk:EnvD->Option (List (Key×D)))(gi g:EnvD->Option D):EnvD->Option D:=λρ=>(gk ρ).bind λkvs=>((gi ρ).bind dKey).bind λk=>(g ρ).map λd=>(lookD kvs k).getD d
theorem zao {f:Expr}(ho:DK X B o gk)(he:DR X B e gi)(hf:DE X B f g)(m:L2.M2 X o "get" apos e f cpos):DE X B (.Call (.Attribute o "get" apos) [e,f] [] cpos) (gGet2D gk gi g) :=
 zi (Je ho he hf m) λσ H Q ⟨F,ρ,d,r,hg,k⟩=>by
  unfold gGet2D at hg
  cases q1:gk ρ with
  |none=>rw[q1] at hg;cases hg
  |some kvs=>
   cases q2:gi ρ with
   |none=>rw[q1,q2] at hg;cases hg
   |some di=>
    rw[q1,q2] at hg
    have hg:((dKey di).bind λk=>(g ρ).map λd=>(lookD kvs k).getD d)=some d:=hg
    cases q3:dKey di with
    |none=>rw[q3] at hg;cases hg
    |some ky=>
     rw[q3] at hg
     have hL:((g ρ).map λd=>(lookD kvs ky).getD d)=some d:=hg
     clear hg
     have hd:=jZ q3
     subst hd
     cases q4:g ρ with
     |none=>rw[q4] at hL;cases hL
     |some dz=>
      rw[q4] at hL
      cases hL
      refine⟨F,ρ,kvs,r,q1,λv F1 H1 e1 ⟨a,ob,vs,h1,h2,h3⟩=>⟨a,ob,vs,h1,h2,F1,ρ,_,r.ext e1,q2,λu F2 H2 e2 p2=>⟨F2,ρ,dz,r.ext (e1.trans e2),q4,λz F3 H3 e3 p3=>?_⟩⟩⟩
      have e:=e1.trans (e2.trans e3)
      refine⟨ob,vs,ky,e3.hh _ _ (e2.hh _ _ h2),j4 p2,k _ F3 H3 e ?_⟩
      rcases (h3.mono (e2.ff.trans e3.ff)).look ky with⟨z1,z2⟩ | ⟨d',w,z1,z2,z3⟩
      ·rw[z1,z2];exact p3
      ·rw[z1,z2];exact z3
end
section
variable {K:KW}{F:Hp}
end
section
variable {X:Cx}{B:Bs}{e a b c o i tg:Expr}{es:List Expr}{pos p apos cpos pos':Pos}{g ga gi gv':EnvD->Option D}{gk gk2:EnvD->Option (List (Key×D))}{gs:EnvD->Option (List D)}{x:Str}
end
section
variable {X:Cx}{B:Bs}{e a b c o i tg:Expr}{es:List Expr}{pos p apos cpos pos':Pos}{g ga gi gv':EnvD->Option D}{gk gk2:EnvD->Option (List (Key×D))}{gs:EnvD->Option (List D)}{x:Str}
theorem VH {op:CmpOp}{t:TE}(h:PC X op a b t)(k:∀σ H Q,lG X.kw B (pE X.kw) g σ H Q->t σ H Q)(hm:behindInMarks op b=false):DT X B (.Compare a [op] [b] pos) (gb' g) :=
 vN (KO h hm) λσ H Q ⟨F,ρ,y,r,hg,k'⟩=>by
  unfold gb' at hg
  cases q:g ρ with
  |none=>rw[q] at hg;cases hg
  |some d=>
   rw[q] at hg
   have hd:d=.bl y:=by
    cases d<;>cases hg
    rfl
   subst hd
   exact k σ H _ ⟨F,ρ,_,r,q,λv F' H' e p=>⟨y,p,k' F' H' e⟩⟩
theorem Ju {σ:St}{H:Hp}{Q:VK}(h:lG X.kw B (pE X.kw) (gInD false gi gk) σ H Q):tXIn X.prog X.w (lG X.kw B (pR X.kw) gi) (lG X.kw B (pK X.kw) gk) σ H Q:=by
 obtain⟨F,ρ,d,r,hg,k⟩:=h
 obtain⟨ky,kvs,q1,q2,rfl⟩:=QO hg
 refine⟨F,ρ,_,r,q1,λu F1 H1 e1 p1=>⟨F1,ρ,kvs,r.ext e1,q2,λv F2 H2 e2 ⟨a,ob,vs,h1,h2,h3⟩=>⟨a,ob,vs,ky,h1,h2,j4 p1,?_⟩⟩⟩
 rw[J5 h3]
 exact k _ F2 H2 (e1.trans e2) (by simp;rfl)
theorem V5 (hi:DR X B i gi)(ho:DK X B o gk)(hm:behindInMarks .In o=false:=by rfl):DT X B (.Compare i [.In] [o] pos) (gb' (gInD false gi gk)):=VH (Jl hi ho) (λ_ _ _ h=>Ju h) hm
def asKI:List (Key×D)->Option (List (Key×Int))
 | []=>some []
 | (k,.int j)::r=>(asKI r).map ((k,j)::·)
 |_=>none
theorem uu {K:KW}{F:Hp}:∀ {kvs:List (Key×D)} {vs:List (Key×V)} {kis:List (Key×Int)},Rkv K F kvs vs->asKI kvs=some kis->vs=intsV kis
 | [],_,_,r,e=>by cases e;cases r;rfl
 |p::kvs,_,kis,r,e=>by
  cases r with
  | @cons _ q _ qs h t=>
   obtain⟨k,d⟩:=p
   obtain⟨k',v⟩:=q
   unfold asKI at e
   split at e
   ·rename_i heq;cases heq
   ·rename_i k2 j r2 heq
    cases heq
    cases q2:asKI kvs with
    |none=>rw[q2] at e;cases e
    |some ks=>
     rw[q2] at e
     cases e
     have h1:k=k':=h.1
     have h2:v=.int j:=h.2
     subst h1 h2
     rw[uu t q2]
     rfl
   ·cases e
def gEqD (neg:Bool)(ga gb:EnvD->Option (List (Key×D))):EnvD->Option D:=λρ=>(ga ρ).bind λx=>(gb ρ).bind λy=>(asKI x).bind λka=>(asKI y).map λkb=>.bl (neg ^^ eqI ka kb)
theorem Uy {neg:Bool}{ga gb:EnvD->Option (List (Key×D))}{ρ:EnvD}{d:D}(h:gEqD neg ga gb ρ=some d):∃x y ka kb,ga ρ=some x/\gb ρ=some y/\asKI x=some ka/\asKI y=some kb/\d=.bl (neg ^^ eqI ka kb):=by
 unfold gEqD at h
 cases q1:ga ρ with
 |none=>rw[q1] at h;cases h
 |some x=>
  cases q2:gb ρ with
  |none=>rw[q1,q2] at h;cases h
  |some y=>
   rw[q1,q2] at h
   have h:((asKI x).bind λka=>(asKI y).map λkb=>D.bl (neg ^^ eqI ka kb))=some d:=h
   cases q3:asKI x with
   |none=>rw[q3] at h;cases h
   |some ka=>
    rw[q3] at h
    have h:((asKI y).map λkb=>D.bl (neg ^^ eqI ka kb))=some d:=h
    cases q4:asKI y with
    |none=>rw[q4] at h;cases h
    |some kb=>
     rw[q4] at h
     cases h
     exact⟨x,y,ka,kb,rfl,rfl,q3,q4,rfl⟩
theorem GZ {neg:Bool}{σ:St}{H:Hp}{Q:VK}(h:lG X.kw B (pE X.kw) (gEqD neg gk gk2) σ H Q):tXEq X.prog X.w neg (lG X.kw B (pK X.kw) gk) (lG X.kw B (pK X.kw) gk2) σ H Q:=by
 obtain⟨F,ρ,d,r,hg,k⟩:=h
 obtain⟨x,y,ka,kb,q1,q2,q3,q4,rfl⟩:=Uy hg
 refine⟨F,ρ,_,r,q1,λu F1 H1 e1 ⟨a,oa,va,h1,h2,h3⟩=>⟨F1,ρ,_,r.ext e1,q2,λv F2 H2 e2 ⟨b,ob,vb,g1,g2,g3⟩=>?_⟩⟩
 have ea:=uu h3 q3
 have eb:=uu g3 q4
 subst ea eb
 exact⟨a,b,oa,ob,ka,kb,h1,g1,e2.hh _ _ h2,g2,k _ F2 H2 (e1.trans e2) rfl⟩
theorem Us (hu:X.A.units < cLine)(ha:DK X B a gk)(hb:DK X B b gk2)(hm:behindInMarks .NotEq b=false:=by rfl):DT X B (.Compare a [.NotEq] [b] pos) (gb' (gEqD true gk gk2)):=VH (Qo hu ha hb) (λ_ _ _ h=>GZ h) hm
end
def Yp (H:Hp)(a:Addr):Hp:=λb=>if b=a then none else H b
def lSp (K:KW)(n:Nat)(m:Addr->List (Key×D)->List En->Option (List (Key×D))):Sp:=λvs H Q _=>
 ∃F kvs xs kvs' a ob ws us,vs=.ref a::us/\Same F H/\F a=none/\H a=some (DX K.w a ob ws)/\Rkv K F kvs ws/\xs.length+1=n/\Paired (λx v=>ArgE K F (Yp H a) x v) xs us/\m a kvs xs=some kvs' /\
  ∀F' H' ob' ws',Ext F (Yp H a) F' H'->H' a=some (DX K.w a ob' ws')->F' a=none->Rkv K F' kvs' ws'->Q .non H'
section
variable {P:Program}{w:World}{K:PySem.W.Frag}{mg:Str->Option Value}{base:Heap}
structure Lx (P:Program)(w:World)(K:PySem.W.Frag)(mg:Str->Option Value)(base:Heap)(x:Str)(k n:Nat)(m:List (Key×D)->List En->Option (List (Key×D))):Prop where
 ex:∃f fd ps m',FnOk P w K mg base CX0 k f fd ps (lSp ⟨K,w⟩ n m')/\mg x=some (.ref f)/\PySem.W.keepIn K (.ref f)=true/\Binds K fd ps []/\∀a kvs xs,xs.length+1=n->m' a kvs xs=m kvs xs
end
section
variable {X:Cx}{B:Bs}{es:List Expr}{pos p p1 cpos:Pos}{gxs:EnvD->Option (List En)}{x y:Str}{k n:Nat}{m:List (Key×D)->List En->Option (List (Key×D))}
end
def fRep:D->D->Option (List D)
 |.lst ds,.int k=>if k.natAbs<=100000/\ds.length * k.toNat<=TOP then some (List.replicate k.toNat ds).flatten else none
 |_,_=>none
theorem Rps.rep {K:KW}{F:Hp}{ds:List D}{vs:List V}(r:Rps K F ds vs):∀n,Rps K F (List.replicate n ds).flatten (List.replicate n vs).flatten
 |0=>rfl
 |n+1=>by
  rw[List.replicate_succ,List.flatten_cons,List.replicate_succ,List.flatten_cons]
  exact r.append (Rps.rep r n)
theorem UP {K:KW}:OkR K rRep (pA K) fRep:=by
 intro F H x y dx dy d Q s rx ry e k
 unfold fRep at e
 split at e
 ·rename_i ds n
  split at e
  ·rename_i hc
   cases e
   obtain⟨a,vs,rfl,h1,h2⟩:=rx.lst s
   cases ry.int
   refine⟨a,n,vs,rfl,rfl,h1,by omega,by omega,ya (by rw[<-h2.length];exact hc.2),λp hp=>k _ F _ (.new s hp) ⟨p,_,rfl,hp,zq,s.free hp,h2.rep _⟩⟩
  ·cases e
 ·cases e
section
variable {X:Cx}{B:Bs}{a b:Expr}{pos:Pos}{ga gb:EnvD->Option D}
theorem qE (ha:DR X B a ga)(hb:DR X B b gb):DA X B (.BinOp a .Mult b pos) (g2 fRep ga gb):=Wx Kp UP ha hb
end
section
variable {ρ:EnvD}{i j n:Nat}{d:D}{ds:List D}{kvs:List (Key×D)}{oa:Option Addr}{gi g:EnvD->Option D}{gk gk2:EnvD->Option (List (Key×D))}{gs:EnvD->Option (List D)}
@[simp]theorem zb7:gk' i ρ=match ρ[i]? with | some (some (.dct _ kvs))=>some kvs | some (some (.dbo kvs))=>some kvs | _=>none:=rfl
@[simp]theorem zeb:gNewD ρ=some []:=rfl
@[simp]theorem za5:gGetD gk gi ρ=(gk ρ).bind λkvs=>((gi ρ).bind dKey).bind λk=>lookD kvs k:=rfl
@[simp]theorem zdk:gGet2D gk gi g ρ=(gk ρ).bind λkvs=>((gi ρ).bind dKey).bind λk=>(g ρ).map λd=>(lookD kvs k).getD d:=rfl
@[simp]theorem zch {neg:Bool}:gInD neg gi gk ρ=((gi ρ).bind dKey).bind λk=>(gk ρ).map λkvs=>.bl (neg ^^ (lookD kvs k).isSome):=rfl
@[simp]theorem zee {neg:Bool}:gEqD neg gk gk2 ρ=(gk ρ).bind λx=>(gk2 ρ).bind λy=>(asKI x).bind λka=>(asKI y).map λkb=>.bl (neg ^^ eqI ka kb):=rfl
@[simp]theorem zdj:sSetD j gk ρ=(gk ρ).map λkvs=>.next (ρ.set j (some (.dct none kvs))):=rfl
@[simp]theorem zfy:sRetVD j ρ=match ρ[j]? with | some (some (.dct none kvs))=>some (.ret (.dct none kvs)) | _=>none:=rfl
@[simp]theorem zfl:sPutD j gi g ρ=match ρ[j]? with | some (some (.dct oa kvs))=>(g ρ).bind λd=>((gi ρ).bind dKey).bind λk=>if kvs.length < sizeLine then some (.next (ρ.set j (some (.dct oa (putD kvs k d))))) else none | _=>none:=rfl
@[simp]theorem zcv:dctO (.dct oa kvs)=some kvs:=rfl
@[simp]theorem za2 {x:Str}:dKey (.str x)=some (.inr x):=rfl
@[simp]theorem zdi {k:Int}:dKey (.int k)=some (.inl k):=rfl
@[simp]theorem Qb {k:Int}:fRep (.lst ds) (.int k)=if k.natAbs<=100000/\ds.length * k.toNat<=TOP then some (List.replicate k.toNat ds).flatten else none:=rfl
end
end Dv
namespace L4
open PySem PySem.Spec L2 L3
open PyProof.Rows hiding St
end L4
namespace Dv
open PySem PySem.Spec L2 L3 L4
open PyProof.Rows hiding St
def gNev:EnvD->Option D:=λ_=>none
section
variable {X:Cx}{B:Bs}{e a b c o i tg st:Expr}{es elts:List Expr}{pos p p2 apos cpos pos' tpos:Pos}{tk:Nat}{g ga gi gv':EnvD->Option D}{gk gk2:EnvD->Option (List (Key×D))}{gs:EnvD->Option (List D)}{gxs:EnvD->Option (List En)}{x:Str}
theorem Uj:DE X B e gNev:=λpins s σ H Q I ⟨F,ρ,d,r,hg,k⟩=>by cases hg
def mN (m:List En->Option En):List En->Option En:=λxs=>m (xs++[.val .non])
end
structure FunD (K:PySem.W.Frag)(x qual:Str)(st:Stmt)(f:Addr)(fd:FuncData):Prop where
 ex:∃(oc dV:Value) (od:Option Addr) (kV doc pm:Value) (an:Option Addr) (cdv ct:Value) (osl:Array (Option Value)),
  fd=PySem.W.fnOf x qual (zn st) (zl st) (zc st) dV kV doc pm an cdv ct/\K.lookup f=some ⟨oc,od,.func fd,osl⟩/\PySem.W.codeIn K cdv qual=true
 kp:PySem.W.keepIn K (.ref f)=true
section
variable {P:Program}{w:World}{K:PySem.W.Frag}{mg:Str->Option Value}{base:Heap}
theorem FunD.ok {x qual:Str}{st:Stmt}{f:Addr}{fd:FuncData}{N ps:List Str}{k:Nat}{sp:Sp}(F:FunD K x qual st f fd)(S:FnScope N ps (zc st))(len:∀vs H Q E,sp vs H Q E->vs.length=ps.length)
  (hbody:∀(cdv:Value) (A:Around) (outer:List Env) (s:Shared) (H:Hp) (vs:List V) (Q:VK) (E:XK),Room k (A.deeper (envOfC qual (zc st) s.heap.objs.size f cdv))->sp vs H Q E ->
   ∃t,PSs (cxOf CX0 P w K mg base N qual (zc st) f cdv A outer s H E).nox (zl st) t/\t { nx:=λ_ H'=>Q .non H',rt:=Q } (L2.start N vs) H):FnOk P w K mg base CX0 (k+1) f fd ps sp:=by
 obtain⟨oc,dV,od,kV,doc,pm,an,cdv,ct,osl,rfl,lk,hcd⟩:=F.ex
 refine ZY lk hcd S len λA outer s H vs Q E hr hsp=>?_
 obtain⟨t,h,q⟩:=hbody cdv A outer s H vs Q E hr hsp
 exact⟨t,h.nox,q⟩
theorem Qt {x qual:Str}{st:Stmt}{f:Addr}{oc dV:Value}{od an:Option Addr}{osl:Array (Option Value)}{kV doc pm cdv ct:Value}(l:K.lookup f=some ⟨oc,od,.func (PySem.W.fnOf x qual (zn st) (zl st) (zc st) dV kV doc pm an cdv ct),osl⟩)
  (c:PySem.W.codeIn K cdv qual=true) (k:PySem.W.keepIn K (.ref f)=true):FunD K x qual st f (PySem.W.fnOf x qual (zn st) (zl st) (zc st) dV kV doc pm an cdv ct):=⟨⟨oc,dV,od,kV,doc,pm,an,cdv,ct,osl,rfl,l,c⟩,k⟩
theorem Gu {x qual:Str}{st:Stmt}{f:Addr}{fd:FuncData}{N ps:List Str}{k:Nat}{g:SD}(F:FunD K x qual st f fd)(S:FnScope N ps (zc st))
  (hb:∀(cdv:Value) (A:Around) (outer:List Env) (s:Shared) (H:Hp) (E:XK) (B:Bs),Room k (A.deeper (envOfC qual (zc st) s.heap.objs.size f cdv)) ->
   DSs (cxOf CX0 P w K mg base N qual (zc st) f cdv A outer s H E).nox B (zl st) g) :
  FnOk P w K mg base CX0 (k+1) f fd ps (pSp ⟨K,w⟩ ps.length (len? ps.length (mir N g))):=by
 refine F.ok S (λvs H Q E h=>?_) (λcdv A outer s H vs Q E hr h=>?_)
 ·obtain⟨F,xs,o,_,hl,hp,_⟩:=h
  rw[<-vx hp];exact hl
 ·obtain⟨F0,xs,o,fh,hl,hp,hm,k⟩:=h
  refine⟨_,hb cdv A outer s H E ⟨F0,H⟩ hr,?_⟩
  have hm:mir N g xs=some o:=by
   unfold len? at hm
   rw[if_pos hl] at hm
   exact hm
  unfold mir at hm
  cases q:g (stE N (xs.map some)) with
  |none=>rw[q] at hm;cases hm
  |some fl=>
   rw[q] at hm
   refine⟨F0,_,fl,uD (ps:=ps) fh hp,q,?_⟩
   cases fl with
   |next ρ=>cases hm;exact λσ' F' H' r s=>k .non F' H' r.ex rfl
   |ret o'=>cases hm;exact λv F' H' e p=>k v F' H' e p
   |brk ρ=>cases hm
   |cont ρ=>cases hm
structure FxN (P:Program)(w:World)(K:PySem.W.Frag)(mg:Str->Option Value)(base:Heap)(x:Str)(k n:Nat)(m:List En->Option En):Prop where
 ex:∃f fd ps,FnOk P w K mg base CX0 k f fd ps (pSp ⟨K,w⟩ n (len? n m))/\mg x=some (.ref f)/\PySem.W.keepIn K (.ref f)=true/\Binds K fd ps [.none]
end
section
variable {X:Cx}{B:Bs}{e:Expr}{es:List Expr}{pos p:Pos}{gxs:EnvD->Option (List En)}{x:Str}{k n:Nat}{m:List En->Option En}
theorem Rh {K:KW}{F H:Hp}{xs:List En}{vs:List V}(h:Paired (λx v=>ArgE K F H x v) xs vs):Paired (λx v=>ArgE K F H x v) (xs++[.val .non]) (vs++[.non]):=Paired.snoc h rfl
theorem RZ (h:FxN X.prog X.w X.kw X.mg X.base x k (n+1) m)(hr:Room k X.A)(hg:Gl X x)(ha:DNs X B (e::es) gxs)(hdb:(x==("__debug__" : Str))=false:=by decide +kernel)
  (he:starEach (e::es) X.env=(false,eval e X.env)::starEach es X.env:=by rfl) (hpl:(backTo pos (starEach es X.env)).any (·.1)=false:=by rfl):DA X B (.Call (.Name x p) (e::es) [] pos) (gCall (len? n (mN m)) accO gxs):=by
 obtain⟨f,fd,ps,F,hm,hk,hb⟩:=h.ex
 refine zi (wZ F hr hg hm hk hb (dvs:=[.non]) (.cons rfl .nil) pass0 ha hdb he hpl) λσ H Q ⟨F,ρ,d,r,hg,k⟩=>?_
 obtain⟨xs,o,q1,q2,q3⟩:=bindC hg
 refine⟨F,ρ,xs,r,q1,λvs F1 H1 e1 p1=>?_⟩
 have hl:xs.length=n:=xl xs o q2
 have hm:m (xs++[.val .non])=some o:=by
  unfold len? at q2
  rw[if_pos hl] at q2
  exact q2
 refine⟨F1,xs++[.val .non],o,e1.fh,by simp[hl],Rh p1,by unfold len?;rw[if_pos (by simp[hl])];exact hm,λv F2 H2 e2 p2=>?_⟩
 cases o with
 |acc ds=>
  cases q3
  obtain⟨a,ws,h1,h2,h3,h4,h5⟩:=p2
  exact k v F2 H2 (e1.trans e2) ⟨a,ws,h1,e1.hh.free h4,h2,h3,h5⟩
 |_=>cases q3
end
section
variable {ρ:EnvD}{g gi:EnvD->Option D}{m:List En->Option En}{xs:List En}
@[simp]theorem ze4:gNev ρ=none:=rfl
@[simp]theorem zey:mN m xs=m (xs++[.val .non]):=rfl
end
section
variable {X:Cx}{B:Bs}{e c tg iter:Expr}{pos p1 p2:Pos}{ge:EnvD->Option D}{t:EnvD->Option Bool}{gi:EnvD->Option (List D)}{gbd:SD}
end
end Dv
namespace L4
open PySem PySem.Spec L2 L3
open PyProof.Rows hiding St
section
variable {prog:Program}{w:World}{A:Around}{E:Value->Shared->Prop}{s:Shared}
end
section
variable {X:Cx}{o a b:Expr}{pos p2:Pos}{to ta tb:TE}
end
end L4
namespace Dv
open PySem PySem.Spec L2 L3 L4
open PyProof.Rows hiding St
section
variable {X:Cx}{B:Bs}{e ae be:Expr}{p p2 tpos pos:Pos}{ga gb:EnvD->Option D}{gl:EnvD->Option (List D)}{x:Str}
end
section
variable {X:Cx}{B:Bs}{hb:Hp->Hp}{e a b c o tg:Expr}{es:List Expr}{pos p p2 apos cpos:Pos}{g ga gb go:EnvD->Option D}{gs:EnvD->Option (List D)}{x:Str}
end
section
variable {X:Cx}{B:Bs}{hb:Hp->Hp}{e a b c o tg:Expr}{es:List Expr}{pos p p2 apos cpos:Pos}{g ga gb go:EnvD->Option D}{gs:EnvD->Option (List D)}{x:Str}
end
end Dv
namespace L4
open PySem PySem.Spec L2 L3
open PyProof.Rows hiding St
section
variable {prog:Program}{w:World}{A:Around}{E:Value->Shared->Prop}{s:Shared}{T:String}{r d:Addr}{n:Nat}{P:Nat->Value->Prop}{OK:Heap->Prop}
end
end L4
namespace Dv
open PySem PySem.Spec L2 L3 L4
open PyProof.Rows hiding St
section
variable {X:Cx}{B:Bs}{o:Expr}{pos p:Pos}{gk:EnvD->Option (List (Key×D))}{x:Str}
end
section
variable {K:KW}{B:Bs}{F H:Hp}{σ:St}{ρ:EnvD}
theorem kg {j i:Nat}{x:En}(h:(ρ.set j none)[i]?=some (some x)):i≠j/\ρ[i]?=some (some x):=by
 rcases zQ h with⟨rfl,q,_⟩ | ⟨hj,f⟩
 ·cases q
 ·exact⟨hj,f⟩
theorem Rep.forget (r:Rep K B F σ H ρ)(j:Nat):Rep K B F σ H (ρ.set j none) where
 ex:=r.ex
 len:=by simp[r.len]
 ents:=λi x h=>r.ents i x (kg h).2
 dj:=λi k x y v w h1 h2 s1 s2 hne=>r.dj i k x y v w (kg h1).2 (kg h2).2 s1 s2 hne
end
section
variable {X:Cx}{B:Bs}{tg e ck:Expr}{es:List Expr}{x y nm:Str}{pos p2 p3 p4 p5 apos cpos:Pos}{id:String}{r:V->List V->Hp->VK->Prop}{f:List D->List D->Option (List D)}{gs:EnvD->Option (List D)}{dd:List D}
end
end Dv
namespace L4
open PySem PySem.Spec L2 L3
open PyProof.Rows hiding St
section
variable {prog:Program}{w:World}{A:Around}{E:Value->Shared->Prop}{s:Shared}
end
section
variable {X:Cx}{a:Expr}{ta:TA}{p p2 pos pos2:Pos}
end
end L4
namespace Dv
open PySem PySem.Spec L2 L3 L4
open PyProof.Rows hiding St
section
variable {X:Cx}{B:Bs}{a:Expr}{p p2 pos pos2:Pos}{gs:EnvD->Option (List D)}
end
section
variable {X:Cx}{B:Bs}{e:Expr}{es:List Expr}{pos p:Pos}{g:EnvD->Option En}{gxs:EnvD->Option (List En)}{x:Str}
def scal:D->Bool
 |.int _=>true
 |.bl _=>true
 |.non=>true
 |.str _=>true
 |_=>false
variable {k n:Nat}{m:List En->Option En}
end
section
variable {K:KW}{B:Bs}{F H:Hp}{σ:St}{ρ:EnvD}
end
section
variable {X:Cx}{B:Bs}{e ck ck0 ck1:Expr}{x y z:Str}{pos pos1 pos2 p p1 p2 p3 p4 p5 p6 p7 pos' apos cpos:Pos}{g:EnvD->Option D}
end
section
variable {X:Cx}{B:Bs}{e:Expr}{es:List Expr}{pos p:Pos}{gxs:EnvD->Option (List En)}{x:Str}{k n:Nat}{m:List En->Option En}
end
section
variable {X:Cx}{B:Bs}{e:Expr}{pos:Pos}{g:EnvD->Option D}
end
def xW:List D->List D->Option (List D)
 |ds,[d]=>if ds.length<=TOP then some (ds++[d]) else none
 |_,_=>none
theorem K6 {K:KW}:MutOk K ZM xW:=by
 intro F H a vs ds us es ds' Q hH hr hp hf k
 match es,hp,hf with
 | [d],hp,hf=>
  obtain⟨v,rfl,rv⟩:=pair1 hp
  have hf:(if ds.length<=TOP then some (ds++[d]) else none)=some ds':=hf
  split at hf
  ·rename_i hl
   cases hf
   exact⟨a,vs,v,rfl,rfl,hH,by rw[<-hr.length];exact Nat.lt_of_le_of_lt hl (by rw[sizeLine_eq];decide),k _ _ (hr.snoc rv)⟩
  ·cases hf
 | [],_,hf=>cases hf
 |_::_::_,_,hf=>cases hf
@[simp]theorem zej {ds:List D}{d:D}:xW ds [d]=if ds.length<=TOP then some (ds++[d]) else none:=rfl
theorem uZ {H:Hp}{t:OT}{v:V}:∀ {ts:List OT} {vs:List V},ts.length=vs.length->feetOs H (ts++[t]) (vs++[v])=feetOs H ts vs++feetO H t v
 | [],[],_=>by simp[feetOs]
 |_::_,_::_,h=>by
  simp only[List.cons_append,feetOs]
  rw[uZ (by simpa using h),List.append_assoc]
theorem RepOs.snoc {K:KW}{F H:Hp}{t:OT}{v:V}(h:RepO K F H t v):∀ {ts:List OT} {vs:List V},RepOs K F H ts vs->RepOs K F H (ts++[t]) (vs++[v])
 | [],vs,r=>by have r:vs=[]:=r;subst r;exact⟨v,[],rfl,h,rfl⟩
 |_::_,_,⟨w,r,e,h1,h2⟩=>by subst e;exact⟨w,r++[v],rfl,h1,RepOs.snoc h h2⟩
section
variable {X:Cx}{B:Bs}{tg iter elt:Expr}{ifs:List Expr}{pos:Pos}{gi:EnvD->Option OT}
end
section
variable {X:Cx}{B:Bs}{o:Expr}{apos cpos pos p:Pos}{x:Str}{td:TE}
end
end Dv
namespace L6
open PySem PySem.Spec L2 L3 L4
open PyProof.Rows hiding St
def tupO (vs:List Value):Obj:={ cls:=.type "tuple",data:=.seq vs.toArray }
def excO (C t:Addr):Obj:={ cls:=.ref C,data:=.fields #[.ref t,.none,.none,.none,.bool false,.none] }
def made (H:Heap)(C:Addr)(vs:List Value):Heap:=(H.push (tupO vs)).push (excO C H.objs.size)
section
variable {H:Heap}{C M:Addr}{vs:List Value}
end
section
variable {P:Program}{w:World}{A:Around}{E:Value->Shared->Prop}{H:Heap}{g:Array GenState}{dr:Drawn}{t:Nat}{os:OsState}{C N fI:Addr}{oI:Obj}{vs:List Value}{mN:Str->Option Value}
variable {nm q:Str}{bs bm bb:List Value}{hd:Bool}{sn:List Str}{sb:List Value}{ab:Bool}{col:Option Bool}{dl:Option Addr}{k0 k1 k2 k3 k5:Option Value}{b0 nid iid:String}
end
def Trc (h:Heap)(e:Addr)(c:Value)(dd:Option Addr)(a0:Value)(T:Option Addr):Prop :=
 ∃oe vs,h.get? e=some oe/\oe.cls=c/\oe.dict=dd/\oe.data=.fields vs/\vs[0]?=some a0/\(T=none->vs[1]?=some .none) /\
  ∀t,T=some t->vs[1]?=some (.ref t)/\t≠e/\∃oT ts,h.get? t=some oT/\oT.data=.fields ts/\ts[3]?=some .none
section
variable {M:Model}{A:Around}{E:Value->Shared->Prop}{s:Shared}
end
def CX1 (P:Program)(w:World):CXT:=λouter H s E e s'=>∃ea C dd a0 T H',e=.ref ea/\s'.os=s.os/\AllBare s'.gens/\Un (frs outer) [] H H' s.heap s'.heap/\HOk P w H' s'.heap /\
 Trc s'.heap ea C dd a0 (some T)/\s.heap.objs.size<=ea/\s.heap.objs.size<=T/\H' ea=none/\H' T=none/\E C dd H'
section
variable {P:Program}{w:World}{K:PySem.W.Frag}{mg:Str->Option Value}{base:Heap}{N:List Str}{qual:Str}{scope:Scope}{f:Addr}{cd:Value}{A:Around}{outer:List Env}{s:Shared}{H:Hp}{E:XK}
end
section
variable {prog:Program}{w:World}{A:Around}{E:Value->Shared->Prop}{s:Shared}{K:PySem.W.Frag}{x dx C f:Addr}{mA:Str->Option Value}{name:Str}{v:Value}
abbrev vB:List Value:=[.type "ValueError",.type "Exception",.type "BaseException",.type "object"]
end
structure XC (K:PySem.W.Frag)(C HE fI:Addr)(fd:Str):Prop where
 cls:∃dd cd k0 k1 k2 k3 k5 bm,K.lookup C=some ⟨.type "type",dd,.cls cd,#[k0,k1,k2,k3,some (.builtin "ValueError.__new__"),k5]⟩/\cd.mro=.ref C::bm/\cd.hasDel=false /\
  PySem.W.tailIn K vB bm=true/\PySem.W.nsOkIn K cd.ns=true/\PySem.W.nsIn K cd.ns "__init__" = some (some (.ref fI))
 fn:∃o,K.lookup fI=some o/\o.cls=.type "function"
 kp:PySem.W.keepIn K (.ref C)=true
 sa:PySem.W.findIn K (.ref C) "__setattr__" = some (some (.builtin "object.__setattr__"))
 tk:PySem.W.takerIn K C fd=some none
 hd:PySem.W.hasDictIn K C=true
 sub:PySem.W.subIn K (.ref C) (.type "BaseException")=some true
 subH:PySem.W.subIn K (.ref C) (.ref HE)=some true
 ga:PySem.W.findIn K (.ref C) "__getattribute__" = some (some (.builtin "BaseException.__getattribute__"))
 gt:PySem.W.findIn K (.ref C) "__getattr__" = some none
 na:PySem.W.findIn K (.ref C) fd=some none
 rd:PySem.W.readsIn K HE (.type "type")=true
 fc:PySem.W.findCls K (.ref HE) (.type "type") "__init__" = some (.val (.builtin "ValueError.__init__"))
 sp:PySem.W.specialIn K (.ref HE) "__getattribute__" = some (some (.builtin "type.__getattribute__"))
section
variable {K:PySem.W.Frag}{C HE fI:Addr}{fd:Str}{h:Heap}
end
section
variable {prog:Program}{w:World}{A:Around}{E:Value->Shared->Prop}{h:Heap}{g:Array GenState}{d:Drawn}{t:Nat}{os:OsState}
variable {nm q:Str}{C N:Addr}{bs bm bmB:List Value}{hdct:Bool}{sn:List Str}{sub:List Value}{ab:Bool}{col:Option Bool}{dd:Option Addr}{k0 k1 k2 k3 k5:Option Value}{B newId initId:String}
end
def ExO (e C t:Addr)(dd:Option Addr):HO:=.ext λh=>h.get? e=some { cls:=.ref C,dict:=dd,data:=.fields #[.ref t,.none,.none,.none,.bool false,.none] }
def xiSp (C:Addr)(fd:Str):Sp:=λvs H Q _=>∃e v t,vs=[.ref e,v]/\H e=some (ExO e C t none)/\∀t' dx,H dx=none->dx≠e->Q .non (upd (upd H e (ExO e C t' (some dx))) dx (.xd [(fd,v)]))
section
variable {X:Cx}{C HE fI:Addr}{fd x:Str}{pos p apos pa pb pos':Pos}{a b:Expr}{ta tb:TE}
end
def del (H:Hp)(e:Addr):Hp:=λb=>if b=e then none else H b
section
variable {M:Model}{A:Around}{E:Value->Shared->Prop}{s:Shared}{env:Env}
variable {nm q:Str}{C N:Addr}{bs bm:List Value}{hdct:Bool}{sn:List Str}{sub:List Value}{ab:Bool}{col:Option Bool}{dd:Option Addr}{k0 k1 k2 k3 k5:Option Value}{newId:String}
end
section
variable {X:Cx}{C HE fI:Addr}{fd x:Str}{pos p cpos:Pos}{a:Expr}{t:TA}{k:Nat}{f0:FuncData}{ps:List Str}
end
section
variable {P:Program}{w:World}{K:PySem.W.Frag}{mg:Str->Option Value}{base:Heap}{N:List Str}{qual:Str}{scope:Scope}{f:Addr}{cd:Value}{A:Around}{outer:List Env}{s0:Shared}{H0:Hp}{E:XK}
variable {X:Cx}{C HE fI:Addr}{fd x:Str}{pos p cpos:Pos}{a:Expr}{t:TA}{k:Nat}{f0:FuncData}{ps:List Str}
end
section
variable {K:PySem.W.Frag}{e C M:Addr}
structure XM (K:PySem.W.Frag)(C M:Addr):Prop where
 sub:PySem.W.subIn K (.ref C) (.ref M)=some true
 nt:PySem.W.instIn K (.ref M) (.type "tuple")=some false
 cls:(PySem.W.clsIn K M).isSome=true
 exc:PySem.W.subIn K (.ref M) (.type "BaseException")=some true
end
section
variable {X:Cx}{pins:List (Addr×Obj)}{σ:St}{H:Hp}{s:Shared}{h':Heap}{e:Addr}{T:Option Addr}
end
def cxE (X:Cx)(ea:Addr)(pn:List (Addr×Obj)):Cx:={ X with A:=X.A.mark (some (.ref ea)),calm:=false,pn:=pn++X.pn,xe:=λ_ _=>False }
section
variable {X:Cx}{pins:List (Addr×Obj)}{σ:St}{H:Hp}{s:Shared}{ea:Addr}{pn:List (Addr×Obj)}
end
section
variable {X:Cx}{C MC:Addr}{ie:Nat}{r:St->Hp->(St->XK)->Prop}{ts:Addr->Addr->TS}{body suite:List Stmt}{b0:Stmt}{xM n:Str}{pM hpos pos:Pos}
end
section
variable {X:Cx}{C HE fI ea dx M2:Addr}{oe:Obj}{fd n x y:Str}{ie iy:Nat}{pos p p2 p3 pos2 pos3:Pos}{ta tb:TE}
end
section
variable {X:Cx}{k:Nat}{f:Addr}{f0:FuncData}{ps:List Str}{sp:Sp}{x:Str}{pos p:Pos}{e:Expr}{es:List Expr}{t:TA}{st:Stmt}{rest:List Stmt}{E:XK}
end
end L6
namespace Dv
open PySem PySem.Spec L2 L3 L4 L6
open PyProof.Rows hiding St
def rSp (K:KW)(C:Addr)(fd:Str)(n:Nat)(m:List En->Option D):Sp:=λvs H _ E=>
 ∃F xs d,Same F H/\xs.length=n/\Paired (λx v=>ArgE K F H x v) xs vs/\m xs=some d/\∀dx v F' H',Ext F H F' H'->H' dx=some (.xd [(fd,v)])->Rp K F' d v->E (.ref C) (some dx) H'
structure Rx (P:Program)(w:World)(K:PySem.W.Frag)(mg:Str->Option Value)(base:Heap)(x:Str)(C:Addr)(fd:Str)(k n:Nat)(m:List En->Option D):Prop where
 ex:∃f f0 ps,FnOk P w K mg base (CX1 P w) k f f0 ps (rSp ⟨K,w⟩ C fd n m)/\mg x=some (.ref f)/\PySem.W.keepIn K (.ref f)=true/\Binds K f0 ps []
def lB (K:KW)(B:Bs)(C:Addr)(fd:Str)(E:XK)(g:EnvD->Option D):TS:=λ_ σ H=>
 ∃F ρ d,Rep K B F σ H ρ/\g ρ=some d/\∀dx v F' H',Ext B.F0 B.H0 F' H'->H' dx=some (.xd [(fd,v)])->Rp K F' d v->E (.ref C) (some dx) H'
section
variable {P:Program}{w:World}{K:PySem.W.Frag}{mg:Str->Option Value}{base:Heap}{N:List Str}{qual:Str}{scope:Scope}{f:Addr}{cd:Value}{A:Around}{outer:List Env}{s0:Shared}{H0:Hp}{E:XK}
variable {X:Cx}{B:Bs}{C HE fI:Addr}{fd x:Str}{pos p cpos:Pos}{a e:Expr}{es:List Expr}{st:Stmt}{rest:List Stmt}{k n:Nat}{g:EnvD->Option D}{gs:SD}{gxs:EnvD->Option (List En)}{m:List En->Option D}{f0:FuncData}{ps:List Str}
end
section
variable {X:Cx}{B:Bs}{C HE fI MC M2:Addr}{fd x:Str}{pos p cpos:Pos}{a e c:Expr}{es:List Expr}{rest sa sb:List Stmt}{k n:Nat}{g ga gb:EnvD->Option D}{gt:EnvD->Option Bool}{gxs:EnvD->Option (List En)}{m:List En->Option D}
variable {xM y n2 xI fx:Str}{ie iy i:Nat}{pM hpos pI pN pC pA pE' pY pK pB pF apos epos:Pos}{body:List Stmt}{nm:Str}
end
structure Exc (P:Program)(w:World)(K:PySem.W.Frag)(mg:Str->Option Value)(base:Heap)(CT HE fI:Addr)(fd xT xH:Str):Prop where
 xc:XC K CT HE fI fd
 xm:XM K CT CT
 xmH:XM K CT HE
 z:PySem.W.kitOne K (.ref CT) (.ref HE)=some true
 zT:PySem.W.kitOne K (.ref CT) (.ref CT)=some true
 mT:mg xT=some (.ref CT)
 mH:mg xH=some (.ref HE)
 ini:∃f0 ps,FnOk P w K mg base CX0 1 fI f0 ps (xiSp CT fd)/\Binds K f0 ps []
section
variable {P:Program}{w:World}{K:PySem.W.Frag}{mg:Str->Option Value}{base:Heap}{N:List Str}{qual:Str}{scope:Scope}{f:Addr}{cd:Value}{A:Around}{outer:List Env}{s0:Shared}{H0:Hp}{E:XK}
variable {B:Bs}{CT HE fI:Addr}{fd xT xH:Str}{pos p cpos:Pos}{a:Expr}{rest:List Stmt}{g:EnvD->Option D}
theorem ut {K:PySem.W.Frag}{v:Value}:PySem.W.kitOne K v v=some true:=by unfold PySem.W.kitOne;rw[if_pos (beq_self_eq_true _)]
theorem Zz {K:PySem.W.Frag}{C M:Addr}(h1:PySem.W.isClsIn K M=true)(h2:PySem.W.typeIn K (.ref M)=some (.type "type")) (h3:PySem.W.subIn K (.ref C) (.ref M)=some true):PySem.W.kitOne K (.ref C) (.ref M)=some true:=by
 unfold PySem.W.kitOne
 split
 ·rfl
 ·show (if ((PySem.W.clsIn K M).isSome&&PySem.W.typeIn K (.ref M)==some (.type "type"))=true then PySem.W.subIn K (.ref C) (.ref M) else none)=some true
  have h1:(PySem.W.clsIn K M).isSome=true:=h1
  rw[h1,h2,if_pos (by decide)]
  exact h3
end
section
variable {X:Cx}{B:Bs}{C HE fI MC M2:Addr}{fd x:Str}{pos p cpos:Pos}{gb:EnvD->Option D}
variable {xM y n2 xI fx:Str}{ie iy i:Nat}{pM hpos pI pN pC pA pE' pY pK pB pF apos epos:Pos}{body:List Stmt}{nm:Str}
end
section
variable {P:Program}{w:World}{K:PySem.W.Frag}{mg:Str->Option Value}{base:Heap}{N:List Str}{qual:Str}{scope:Scope}{f:Addr}{cd:Value}{A:Around}{outer:List Env}{s0:Shared}{H0:Hp}{E:XK}
variable {X:Cx}{B:Bs}{C:Addr}{fd x:Str}{pos p cpos lpos:Pos}{e elt tg:Expr}{es ifs:List Expr}{rest:List Stmt}{k n i:Nat}{gxs:EnvD->Option (List En)}{m:List En->Option D}{own:List Str}{cap:List (Str×Nat)}{scp:Scope}
end
end Dv
namespace Dv
open PySem PySem.Spec L2 L3 L4
open PyProof.Rows hiding St
section
variable {X:Cx}{B:Bs}{e o:Expr}{apos cpos:Pos}{go:EnvD->Option D}{gs:EnvD->Option (List D)}
end
end Dv
namespace Dv
open PySem PySem.Spec L2 L3 L4 L6
open PyProof.Rows hiding St
abbrev Xv:=Str×Option D
def Pd (K:KW)(F H:Hp)(fd:Str)(dd:Option Addr):Option D->Prop
 |none=>dd=none
 |some d=>∃dx v,dd=some dx/\H dx=some (.xd [(fd,v)])/\Rp K F d v
def ySp (K:KW)(ca:Str->Addr)(fd:Str)(n:Nat)(m:List En->Option Xv):Sp:=λvs H _ E=>
 ∃F xs q,Same F H/\xs.length=n/\Paired (λx v=>ArgE K F H x v) xs vs/\m xs=some q/\∀dd F' H',Ext F H F' H'->Pd K F' H' fd dd q.2->E (.ref (ca q.1)) dd H'
structure Ry (P:Program)(w:World)(K:PySem.W.Frag)(mg:Str->Option Value)(base:Heap)(ca:Str->Addr)(fd:Str)(x:Str)(k n:Nat)(m:List En->Option Xv):Prop where
 ex:∃f f0 ps,FnOk P w K mg base (CX1 P w) k f f0 ps (ySp ⟨K,w⟩ ca fd n m)/\mg x=some (.ref f)/\PySem.W.keepIn K (.ref f)=true/\Binds K f0 ps []
section
variable {X:Cx}{B:Bs}{ca:Str->Addr}{fd x:Str}{E:St->XK}{pos p cpos:Pos}{a b e c:Expr}{es:List Expr}{st:Stmt}{rest sa sb:List Stmt}{k n:Nat}{g ga gb:EnvD->Option Xv}{gd:EnvD->Option D}{gl:EnvD->Option (List D)}{gs:SD}{gt:EnvD->Option Bool}{gxs:EnvD->Option (List En)}{m:List En->Option Xv}{h1 h2:EnvD->Option (EnvD×Xv)}
def yAlt {α:Type}(g1 g2:EnvD->Option α):EnvD->Option α:=λρ=>match g1 ρ with
 |some q=>some q
 |none=>g2 ρ
end
end Dv
namespace L6
open PySem PySem.Spec L2 L3 L4
open PyProof.Rows hiding St
section
variable {M:Model}{A:Around}{E:Value->Shared->Prop}{s:Shared}
end
section
variable {X:Cx}{pins pn:List (Addr×Obj)}{W:Value->Shared->Prop}{σ:St}{H:Hp}{s:Shared}
end
section
variable {X:Cx}{pins:List (Addr×Obj)}{E:St->XK}
variable (hstk:X.stack=X.env::X.outer/\X.env.frame=some X.env.locals)
include hstk
omit hstk in
end
section
variable {X:Cx}{E:St->XK}{sts:List Stmt}{t:TS}
end
section
variable {P:Program}{w:World}{K:PySem.W.Frag}{mg:Str->Option Value}{base:Heap}{N:List Str}{qual:Str}{scope:Scope}{f:Addr}{cd:Value}{A:Around}{outer:List Env}{s:Shared}{H:Hp}{E:XK}
end
section
variable {X:Cx}{pn:List (Addr×Obj)}{E:St->XK}{C HE fI:Addr}{fd x:Str}{pos p cpos:Pos}{a:Expr}{t:TA}{k:Nat}{f0:FuncData}{ps:List Str}
end
section
variable {X:Cx}{MC:Addr}{ie:Nat}{t1:TS}{t2:(St->XK)->TS}{ts:Addr->Addr->Option Addr->TS}{body suite:List Stmt}{b0:Stmt}{xM n:Str}{pM hpos pos:Pos}
end
end L6
namespace Dv
open PySem PySem.Spec L2 L3 L4 L6
open PyProof.Rows hiding St
section
variable {P:Program}{w:World}{K:PySem.W.Frag}{mg:Str->Option Value}{base:Heap}{N:List Str}{qual:Str}{scope:Scope}{f:Addr}{cd:Value}{A:Around}{outer:List Env}{s0:Shared}{H0:Hp}
variable {X:Cx}{pn:List (Addr×Obj)}{E:St->XK}{B:Bs}{ca:Str->Addr}{C HE fI:Addr}{fd x nm:Str}{pos p cpos:Pos}{a:Expr}{rest:List Stmt}{k:Nat}{gd:EnvD->Option D}{f0:FuncData}{ps:List Str}{g:EnvD->Option (EnvD×Xv)}
end
inductive It where
 |con (x:Str) | pay | isx (b:Bool)
section
variable {X:Cx}{B:Bs}{C HE fI M2 MC:Addr}{ca:Str->Addr}{fd n x nm0:Str}{ie i:Nat}{pos p p2 p3 pI pC:Pos}{e:Expr}{es:List Expr}{it:It}{its:List It}
variable {gs:SD}{gx:EnvD->Option (EnvD×Xv)}{body:List Stmt}{xM fx:Str}{pM hpos pF epos lpos:Pos}
end
section
variable {X:Cx}{B:Bs}{pos:Pos}
end
section
end
section
variable {X:Cx}{pins:List (Addr×Obj)}{σ:St}{H:Hp}{s:Shared}
end
section
variable {X:Cx}{B:Bs}{ca:Str->Addr}{fd:Str}{E:St->XK}{pos:Pos}{tg iter:Expr}{body rest:List Stmt}{t:Tgt}{gi:EnvD->Option (List D)}{gbd:SD}{gxb:EnvD->Option (EnvD×Xv)}
end
end Dv
namespace L6
open PySem PySem.Spec L2 L3 L4
open PyProof.Rows hiding St
structure XC0 (K:PySem.W.Frag)(C:Addr):Prop where
 cls:∃dd cd k0 k1 k2 k3 k5 bm,K.lookup C=some ⟨.type "type",dd,.cls cd,#[k0,k1,k2,k3,some (.builtin "ValueError.__new__"),k5]⟩/\cd.mro=.ref C::bm/\cd.hasDel=false /\
  PySem.W.tailIn K vB bm=true/\PySem.W.nsOkIn K cd.ns=true/\PySem.W.nsIn K cd.ns "__init__" = some none
 kp:PySem.W.keepIn K (.ref C)=true
section
variable {P:Program}{w:World}{A:Around}{E:Value->Shared->Prop}{H:Heap}{g:Array GenState}{dr:Drawn}{t:Nat}{os:OsState}{C N:Addr}{vs:List Value}{mN:Str->Option Value}
variable {nm q:Str}{bs bm bb:List Value}{hd:Bool}{sn:List Str}{sb:List Value}{ab:Bool}{col:Option Bool}{dl:Option Addr}{k0 k1 k2 k3 k5:Option Value}{b0 nid iid:String}
end
section
variable {X:Cx}{pn:List (Addr×Obj)}{E:St->XK}{C:Addr}{x:Str}{pos p cpos:Pos}{a:Expr}{t:TA}
end
end L6
namespace Dv
open PySem PySem.Spec L2 L3 L4 L6
open PyProof.Rows hiding St
section
variable {X:Cx}{pn:List (Addr×Obj)}{E:St->XK}{B:Bs}{ca:Str->Addr}{C:Addr}{fd x nm:Str}{pos p cpos:Pos}{a:Expr}{rest:List Stmt}{gd:EnvD->Option D}
end
end Dv
namespace L6
open PySem PySem.Spec L2 L3 L4
open PyProof.Rows hiding St
section
variable {prog:Program}{w:World}{A:Around}{E:Value->Shared->Prop}
theorem Wq {it l:Addr}{vs:Array Value}(ne:l≠it):∀(n i:Nat) (s:Shared) (Q:List Value->Shared->Prop),s.heap.IsListIter it l i->s.heap.IsList l vs->i+n<=vs.size ->
  (∀h',h'.IsListIter it l (i+n)->Heap.SameBut it s.heap h'->Q ((vs.toList.drop i).take n) { s with heap:=h' })->wpAny (model prog w) A (draw (.ref it) n) Q E s
 |0,i,s,Q,a,_,_,k=>by
  show wpAny _ _ (pure []) Q E s
  refine wpAny_pure ?_
  have:=k s.heap a (Heap.SameBut.refl ..)
  simpa using this
 |n+1,i,s,Q,a,b,c,k=>by
  have lt:i < vs.size:=by omega
  show wpAny _ _ (pyNext (.ref it) >>= _) Q E s
  refine wpAny_bind (wpAny_pyNext_list_item a b (x:=vs[i]) (by simp[lt]) λh1 a1 s1=>wpAny_bind (wpAny_holding ?_))
  refine Wq ne n (i+1) _ _ a1 (b.extBut s1.extBut ne) (by omega) λh2 a2 s2=>wpAny_pure ?_
  have e:vs.toList.drop i=vs[i]::vs.toList.drop (i+1):=by simp[List.drop_eq_getElem_cons,lt]
  have:=k h2 (by rw[show i+(n+1)=i+1+n by omega];exact a2) (s1.trans s2)
  rw[e,List.take_succ_cons] at this
  exact this
theorem RS {env:Env}{es:List Expr}{x1}{pos:Pos}{l:Addr}{vs:Array Value}{s:Shared}{Q:Unit->Shared->Prop}(hh:A.handled=none)(hl:s.heap.IsList l vs)(hn:(assignEach es env).length=vs.size)(hst:(assignEach es env).findIdx? (·.1)=none)
  (k:∀h',Heap.ExtBut s.heap.objs.size s.heap h'->wpAny (model prog w) A (assignInOrder ((assignEach es env).map (·.2)) vs.toList) Q E { s with heap:=h' }):wpAny (model prog w) A (assign (.Tuple es x1 pos) env (.ref l)) Q E s:=by
 rw[arm_assign_Tuple]
 refine wpAny_bind (wpAny_standAt ?_)
 unfold unpack
 rw[hn,hst]
 refine wpAny_bind (wpAny_holding ?_)
 have ne:l≠s.heap.objs.size:=by obtain⟨o,ho,_⟩:=hl;exact Nat.ne_of_lt (Heap.lt_size ho)
 unfold unpackItems
 refine wpAny_bind ?_
 unfold notIterableAtAll
 refine wpAny_bind (wpAny_specialOf hl.typeIs PySem.F.slot_list_iter.lookup (wpAny_pure ?_))
 simp only[Bool.false_eq_true,if_false]
 refine wpAny_bind (wpAny_holding (wpAny_pyIter_list hl (wpAny_bind (wpAny_holding ?_))))
 refine Wq ne vs.size 0 _ _ ⟨_,Heap.get?_push_size _ rfl,rfl,rfl⟩ (hl.push _) (by omega) λh1 a1 s1=>?_
 rw[show List.take vs.size (List.drop 0 vs.toList)=vs.toList by rw[List.drop_zero];exact List.take_of_length_le (by simp),if_neg (by simp)]
 refine wpAny_bind (wpAny_holding (wpAny_pyNext_list_end hh a1 ((hl.push _).extBut s1.extBut ne) (by simp) λh2 e2=>?_))
 simp only[Option.isSome_none,Bool.false_eq_true,if_false]
 exact wpAny_pure (k h2 λb o hb e=>e2 b o hb (s1.extBut b o hb (Heap.get?_push_of_some _ e)))
end
def gTupL (K:PySem.W.Frag)(n:Nat)(t:TGs):TG:=λv σ H Q=>∃a xs,v=.ref a/\SqL K H a xs/\xs.length=n/\t xs σ H Q
theorem ZH {X:Cx}{es:List Expr}{k:Nat}{t:TGs}{n:Nat}{pos:Pos}(hc:X.calm=true)(h:PGs X es t)(hn:(assignEach es X.env).length=n:=by rfl)(hst:(assignEach es X.env).findIdx? (·.1)=none:=by rfl):PG X (.Tuple es k pos) (gTupL X.K n t):=by
 intro pins s σ H v u Q I r ⟨a,xs,e1,hq,hl,hw⟩
 subst e1
 cases r
 obtain⟨its,rv,pl,hz⟩:=I.list hq
 refine RS (I.ok.hd hc) pl.isList (by simp[hn,<-hl,rv.length]) hst λh' hx=>?_
 have I1:Inv X pins σ H { s with heap:=h' }:=I.kept (t':=s.toks) λb o e=>hx b o (Nat.ne_of_lt (Heap.lt_size e)) e
 exact h pins _ σ H xs _ Q I1 (by simpa using rv) hw
end L6
namespace Dv
open PySem PySem.Spec L2 L3 L4 L6
open PyProof.Rows hiding St
def sAsgL (is:List Nat)(g:EnvD->Option D):SD:=λρ=>(g ρ).bind λd=>match d with
 |.lst ds=>if ds.length=is.length then some (.next (z6 is ds ρ)) else none
 |_=>none
theorem Wl {X:Cx}{B:Bs}{tg e:Expr}{pos:Pos}{is:List Nat}{g:EnvD->Option D}(he:DE X B e g)(hg:PG X tg (gTupL X.kw is.length (gNames is)))(hs:swapsWithSole [tg] e pos.line X.env=pure false:=by rfl)(hw:swappedStores [tg] e X.env=pure none:=by rfl)
  (h1:(assignEach [tg] X.env).map (·.2)=[assign tg X.env]:=by rfl):DS X B (.Assign [tg] e pos) (sAsgL is g) :=
 z7 (u5 he hg hs hw h1) λE σ H ⟨F,ρ,fl,r,hg,k⟩=>by
  unfold sAsgL at hg
  cases q:g ρ with
  |none=>rw[q] at hg;cases hg
  |some d=>
   rw[q,Option.bind_some] at hg
   cases d with
   |lst ds=>
    replace hg:(if ds.length=is.length then some (Fl.next (z6 is ds ρ)) else none)=some fl:=hg
    by_cases hl:ds.length=is.length
    ·rw[if_pos hl] at hg
     cases hg
     refine⟨F,ρ,_,r,q,λv F1 H1 e1 p1=>?_⟩
     obtain⟨a,vs,rfl,h1,h2⟩:=p1
     exact⟨a,vs,rfl,.of (e1.fh _ _ h1),by rw[<-h2.length];exact hl,kn (all:=is) (r.ext e1) h2 hl (λi hi=>hi) λσ' r' _=>k σ' F1 H1 r' e1.ff⟩
    ·rw[if_neg hl] at hg;cases hg
   |_=>cases hg
@[simp]theorem zcm {is:List Nat}{g:EnvD->Option D}{ρ:EnvD}:sAsgL is g ρ=(g ρ).bind λd=>match d with
 |.lst ds=>if ds.length=is.length then some (.next (z6 is ds ρ)) else none
 |_=>none:=rfl
end Dv
namespace L6
open PySem PySem.Spec L2 L3 L4
open PyProof.Rows hiding St
structure XN (K:PySem.W.Frag)(C M:Addr):Prop where
 sub:PySem.W.subIn K (.ref C) (.ref M)=some false
 nt:PySem.W.instIn K (.ref M) (.type "tuple")=some false
 cls:(PySem.W.clsIn K M).isSome=true
 exc:PySem.W.subIn K (.ref M) (.type "BaseException")=some true
structure Hd where
 MC:Addr
 ie:Option Nat
 ts:Addr->Addr->Option Addr->TS
inductive HsOk (X:Cx):List ExceptHandler->List Hd->Prop
 |nil:HsOk X [] []
 |as {xM n:Str} {MC:Addr} {ie:Nat} {ts:Addr->Addr->Option Addr->TS} {b0:Stmt} {suite:List Stmt} {rest:List ExceptHandler} {hds:List Hd} {pM hpos:Pos} (hg:Gl X xM) (hm:X.mg xM=some (.ref MC)) (hdb:(xM==("__debug__" : Str))=false)
   (hi:X.N[ie]?=some n) (hl:X.env.scope.names.lookup n=some .local) (hs:∀ea oe C dd,oe.cls=.ref C->oe.dict=dd->(∃fs,oe.data=.fields fs)->PSs (cxE X ea [(ea,oe)]) (b0::suite) (ts ea C dd)) (hr:HsOk X rest hds) :
   HsOk X (.ExceptHandler (some (.Name xM pM)) (some n) (b0::suite) hpos::rest) (⟨MC,some ie,ts⟩::hds)
 |no {xM:Str} {MC:Addr} {ts:Addr->Addr->Option Addr->TS} {b0:Stmt} {suite:List Stmt} {rest:List ExceptHandler} {hds:List Hd} {pM hpos:Pos} (hg:Gl X xM) (hm:X.mg xM=some (.ref MC)) (hdb:(xM==("__debug__" : Str))=false)
   (hs:∀ea oe C dd,oe.cls=.ref C->oe.dict=dd->(∃fs,oe.data=.fields fs)->PSs (cxE X ea [(ea,oe)]) (b0::suite) (ts ea C dd)) (hr:HsOk X rest hds) :
   HsOk X (.ExceptHandler (some (.Name xM pM)) none (b0::suite) hpos::rest) (⟨MC,none,ts⟩::hds)
section
variable {X:Cx}{pins:List (Addr×Obj)}
end
section
variable {X:Cx}{t1:TS}{t2:(St->XK)->TS}{body:List Stmt}{h0:ExceptHandler}{hs:List ExceptHandler}{hds:List Hd}{pos:Pos}
end
end L6
namespace Dv
open PySem PySem.Spec L2 L3 L4 L6
open PyProof.Rows hiding St
section
variable {X:Cx}{B:Bs}{ca:Str->Addr}{fd:Str}{E:St->XK}{pos:Pos}{tg iter elt:Expr}{ifs:List Expr}{scope:Scope}{own:List Str}{cap:List (Str×Nat)}{t:Tgt}{tc:EnvD->Option Bool}{α:Type}{post:Post α}{ge:EnvD->Option α}{gx:EnvD->Option Xv}{gi:EnvD->Option (List D)}
end
end Dv
namespace L6
open PySem PySem.Spec L2 L3 L4
open PyProof.Rows hiding St
structure XI (K:PySem.W.Frag)(C:Addr):Prop where
 sub:PySem.W.subIn K (.ref C) (.type "BaseException")=some true
 cls:(PySem.W.clsIn K C).isSome=true
 ga:PySem.W.findIn K (.ref C) "__getattribute__" = some (some (.builtin "BaseException.__getattribute__"))
 gt:PySem.W.findIn K (.ref C) "__getattr__" = some none
 ca:PySem.W.findIn K (.ref C) "__class__" = some (some (.builtin "object.__class__"))
 cg:PySem.W.specialIn K (.builtin "object.__class__") "__get__" = some (some (.builtin "getset_descriptor.__get__"))
 ct:PySem.W.takesIn K (.builtin "object.__class__")=some true
 mo:PySem.W.mroIn K C (.type "object")=some true
section
variable {prog:Program}{w:World}{A:Around}{E:Value->Shared->Prop}{K:PySem.W.Frag}{x C:Addr}
end
end L6
namespace Dv
open PySem PySem.Spec L2 L3 L4 L6
open PyProof.Rows hiding St
section
variable {X:Cx}{elts:List Expr}{tk:Nat}{tpos p pos:Pos}{a:Expr}{B:Bs}{hb:Hp->Hp}{gi:EnvD->Option (List D)}
end
structure Exc0 (K:PySem.W.Frag)(mg:Str->Option Value)(CT HE:Addr)(xT xH:Str)(oth:List (Str×Bool)):Prop where
 xc:XC0 K CT
 xi:XI K CT
 xm:XM K CT CT
 xmH:XM K CT HE
 z:PySem.W.kitOne K (.ref CT) (.ref HE)=some true
 zT:PySem.W.kitOne K (.ref CT) (.ref CT)=some true
 mT:mg xT=some (.ref CT)
 mH:mg xH=some (.ref HE)
 oth:∀q∈oth,∃M,mg q.1=some (.ref M)/\PySem.W.kitOne K (.ref CT) (.ref M)=some q.2
theorem Zx {K:PySem.W.Frag}{C M:Addr}(h0:PySem.W.subIn K (.ref C) (.ref C)=some true)(h1:PySem.W.isClsIn K M=true)(h2:PySem.W.typeIn K (.ref M)=some (.type "type")) (h3:PySem.W.subIn K (.ref C) (.ref M)=some false):PySem.W.kitOne K (.ref C) (.ref M)=some false:=by
 unfold PySem.W.kitOne
 split
 ·rename_i q
  cases (Value.ref.inj (beq_iff_eq.mp q):C=M)
  rw[h0] at h3
  cases h3
 ·show (if ((PySem.W.clsIn K M).isSome&&PySem.W.typeIn K (.ref M)==some (.type "type"))=true then PySem.W.subIn K (.ref C) (.ref M) else none)=some false
  have h1:(PySem.W.clsIn K M).isSome=true:=h1
  rw[h1,h2,if_pos (by decide)]
  exact h3
section
variable {X:Cx}{B:Bs}{ca:Str->Addr}{fd:Str}{E:St->XK}{pos:Pos}{tg iter elt:Expr}{ifs:List Expr}{scope:Scope}{own:List Str}{cap:List (Str×Nat)}{t:Tgt}{tc:EnvD->Option Bool}{ge:EnvD->Option D}{gx:EnvD->Option Xv}{gi:EnvD->Option (List D)}
end
end Dv
namespace Dv
open PySem PySem.Spec L2 L3 L4
open PyProof.Rows hiding St
section
variable {X:Cx}{B:Bs}{a e o:Expr}{es:List Expr}{pos p apos cpos:Pos}{g go:EnvD->Option D}{gs:EnvD->Option (List D)}
end
section
variable {ρ:EnvD}{g go:EnvD->Option D}{gs:EnvD->Option (List D)}{gj:EnvD->Option Str}
end
def compT (t:Tgt)(tc:EnvD->Option Bool)(ge:EnvD->Option OT)(ρ0:EnvD):List D->Option (List OT)
 | []=>some []
 |d::ds=>(asgD t d ρ0).bind λρ1=>(tc ρ1).bind λb=>if b then (ge ρ1).bind λy=>(compT t tc ge ρ0 ds).map (y::·) else compT t tc ge ρ0 ds
@[simp]theorem zb1 {t:Tgt}{tc:EnvD->Option Bool}{ge:EnvD->Option OT}{ρ:EnvD}:compT t tc ge ρ []=some []:=rfl
@[simp]theorem RK {t:Tgt}{tc:EnvD->Option Bool}{ge:EnvD->Option OT}{ρ:EnvD}{d:D}{ds:List D}:compT t tc ge ρ (d::ds)=(asgD t d ρ).bind λρ1=>(tc ρ1).bind λb=>if b then (ge ρ1).bind λy=>(compT t tc ge ρ ds).map (y::·) else compT t tc ge ρ ds:=rfl
def gCompT (own:List Str)(cap:List (Str×Nat))(t:Tgt)(tc:EnvD->Option Bool)(ge:EnvD->Option OT)(gi:EnvD->Option (List D)):EnvD->Option OT:=λρ=>
 (gi ρ).bind λds=>if ds.length<=TOP then (compT t tc ge (List.replicate own.length none++capE ρ cap) ds).map OT.lst else none
section
variable {X:Cx}{B:Bs}{tg iter:Expr}{pos:Pos}{gi:EnvD->Option (List D)}
theorem Gn {elt:Expr}{ifs:List Expr}{scope:Scope}{own:List Str}{cap:List (Str×Nat)}{t:Tgt}{tc:EnvD->Option Bool}{ge:EnvD->Option OT}(hc:X.calm=true)(S:CompScope X scope own cap)(hi:DI X B (λH=>H) tg iter gi)(ht:∀i∈t.slots,i < own.length)
  (hin:∀(B':Bs) C s₀ H₀ fp pn,PG (cxc X scope C (own++cap.map (·.1)) s₀ H₀ fp pn) tg (tgT X.kw t)/\DIfs (cxc X scope C (own++cap.map (·.1)) s₀ H₀ fp pn) B' ifs tc/\DTr (cxc X scope C (own++cap.map (·.1)) s₀ H₀ fp pn) B' elt ge)
  (hs:∀x,foldedSetIterable iter X.env x=pure x:=by intro _;rfl) :
  DTr X B (.ListComp elt [⟨tg,iter,ifs,0⟩] scope pos) (gCompT own cap t tc ge gi):=by
 refine zi (Vd (tc:=λσ H Q=>∃B',lT X.kw B' tc σ H Q) (te:=λσ H Q=>∃B',lG X.kw B' (pT X.kw) ge σ H Q) hc S hi (λC s₀ H₀ fp pn=>⟨(hin ⟨H₀,H₀⟩ C s₀ H₀ fp pn).1,λpins s σ H Q I ⟨B',q⟩=>(hin B' C s₀ H₀ fp pn).2.1 pins s σ H Q I q,λpins s σ H Q I ⟨B',q⟩=>(hin B' C s₀ H₀ fp pn).2.2 pins s σ H Q I q⟩) hs) ?_
 intro σ H Q ⟨F,ρ,outT,r,hg,k⟩
 unfold gCompT at hg
 cases q:gi ρ with
 |none=>rw[q] at hg;cases hg
 |some ds=>
  rw[q] at hg
  have hg:(if ds.length<=TOP then (compT t tc ge (List.replicate own.length none++capE ρ cap) ds).map OT.lst else none)=some outT:=hg
  split at hg
  ·rename_i htop
   cases qo:compT t tc ge (List.replicate own.length none++capE ρ cap) ds with
   |none=>rw[qo] at hg;cases hg
   |some out=>
   rw[qo] at hg
   cases hg
   replace hg:=qo
   refine⟨F,ρ,ds,r,q,λJ F1 H1 e1 jok=>?_⟩
   refine⟨λi m ys H2=>m=ds.length - i/\i<=ds.length/\∃F2 o1 o2,Ext F1 H1 F2 H2/\(RepOs X.kw F2 H2 o1 ys/\(feetOs H2 o1 ys).Nodup/\∀a∈feetOs H2 o1 ys,H a=none/\F2 a=none)/\o1.length<=i/\compT t tc ge (List.replicate own.length none++capE ρ cap) (ds.drop i)=some o2/\out=o1++o2,
    ⟨ds.length,rfl,Nat.zero_le _,F1,[],out,.refl e1.fh,⟨rfl,.nil,λa ha=>nomatch ha⟩,Nat.le_refl _,hg,rfl⟩,?_⟩
   rintro i m ys H2 ⟨rfl,hi,F2,o1,o2,e2,⟨ry,nd,fr⟩,hl1,h2,rfl⟩
   refine⟨ya (by rw[<-RepOs.length ry];omega),?_⟩
   obtain⟨j1,j2⟩:=jok F2 H2 e2.ff e2.fh e2.hh i
   by_cases hlt:i < ds.length
   ·obtain⟨go,yl⟩:=j1 hlt
    refine .inr ⟨go,λys' H'=>∃F3 p1 p2,Ext F1 H1 F3 H'/\(RepOs X.kw F3 H' p1 ys'/\(feetOs H' p1 ys').Nodup/\∀a∈feetOs H' p1 ys',H a=none/\F3 a=none)/\p1.length<=i+1/\compT t tc ge (List.replicate own.length none++capE ρ cap) (ds.drop (i+1))=some p2/\o1++o2=p1++p2,λys' H' ⟨F3,p1,p2,e3,r3,l3,h3,eo⟩=>⟨ds.length - (i+1),by omega,rfl,hlt,F3,p1,p2,e3,r3,l3,h3,eo⟩,λx H3 hy σ1 hσ=>?_⟩
    obtain⟨F3,d,e3,hd,rd⟩:=yl x H3 hy
    have hdd:ds.drop i=d::ds.drop (i+1):=by
     rw[List.drop_eq_getElem_cons hlt]
     congr 1
     rw[List.getElem?_eq_getElem hlt] at hd
     exact Option.some.inj hd
    rw[hdd] at h2
    simp only[compT] at h2
    cases q1:asgD t d (List.replicate own.length none++capE ρ cap) with
    |none=>rw[q1] at h2;cases h2
    |some ρ1=>
     rw[q1] at h2
     have e13:=e2.trans e3
     refine vz (u4 (own:=own) (cap:=cap) r e1 e13 hσ) rd q1 λσ' r4 so=>⟨?_,?_⟩
     ·obtain⟨σ1',l1,e4⟩:=so.pre (σ1:=σ1) rfl (λj hj=>by rw[hσ];exact ht j hj)
      exact⟨σ1',by rw[l1,hσ],e4⟩
     ·have h2:((tc ρ1).bind λb=>if b then (ge ρ1).bind λy=>(compT t tc ge (List.replicate own.length none++capE ρ cap) (ds.drop (i+1))).map (y::·) else compT t tc ge (List.replicate own.length none++capE ρ cap) (ds.drop (i+1)))=some o2:=h2
      cases q2:tc ρ1 with
      |none=>rw[q2] at h2;cases h2
      |some bb=>
       rw[q2] at h2
       refine⟨⟨F1,H1⟩,F3,ρ1,bb,r4,q2,λF5 H5 e5=>?_⟩
       cases bb with
       |false=>
        have eo:=e3.trans e5
        obtain⟨u1,u2⟩:=RepOs.ext eo.ff eo.hh ry
        exact iteF ⟨F5,o1,o2,e13.trans e5,⟨u1,by rw[u2];exact nd,λa ha=>by rw[u2] at ha;exact⟨(fr a ha).1,y1 eo (fr a ha).2 (RepOs.feet ry ha)⟩⟩,by omega,h2,rfl⟩
       |true=>
        have h2:((ge ρ1).bind λy=>(compT t tc ge (List.replicate own.length none++capE ρ cap) (ds.drop (i+1))).map (y::·))=some o2:=h2
        cases q3:ge ρ1 with
        |none=>rw[q3] at h2;cases h2
        |some y=>
         rw[q3] at h2
         have h2:(compT t tc ge (List.replicate own.length none++capE ρ cap) (ds.drop (i+1))).map (y::·)=some o2:=h2
         cases q4:compT t tc ge (List.replicate own.length none++capE ρ cap) (ds.drop (i+1)) with
         |none=>rw[q4] at h2;cases h2
         |some p2=>
          rw[q4] at h2
          cases h2
          refine iteT ⟨⟨F1,H1⟩,F5,ρ1,y,r4.ext e5,q3,λv F6 H6 e6 p6=>?_⟩
          have eo:=e3.trans (e5.trans e6)
          obtain⟨u1,u2⟩:=RepOs.ext eo.ff eo.hh ry
          obtain⟨w1,w2,w3⟩:=p6
          have h5:∀a,H5 a=none->H a=none:=λa z=>e1.hh.free ((e13.trans e5).hh.free z)
          refine⟨F6,o1++[y],p2,e13.trans (e5.trans e6),⟨RepOs.snoc w1 u1,?_,?_⟩,by simp;omega,rfl,by simp⟩
          ·rw[uZ (RepOs.length u1),u2,List.nodup_append]
           refine⟨nd,w2,λa ha b hb hab=>?_⟩
           subst hab
           exact RepOs.feet ry ha ((e3.trans e5).hh.free (w3 a hb).1)
          ·rw[uZ (RepOs.length u1),u2]
           intro a ha
           rcases List.mem_append.mp ha with ha | ha
           ·exact⟨(fr a ha).1,y1 eo (fr a ha).2 (RepOs.feet ry ha)⟩
           ·exact⟨h5 a (w3 a ha).1,(w3 a ha).2⟩
   ·have hi':i=ds.length:=by omega
    have hdd:ds.drop i=[]:=by rw[hi',List.drop_length]
    rw[hdd] at h2
    cases h2
    refine .inl ⟨j2 hi',λD hD=>?_⟩
    have e:=e1.trans e2
    obtain⟨x1,x2⟩:=RepOs.ext (Same.refl F2) (zW (o:=.lst ys) hD) ry
    have hfD:feetO (upd H2 D (.lst ys)) (.lst o1) (.ref D)=D::feetOs H2 o1 ys:=by
     simp only[feetO,zM (zq (H:=H2) (a:=D) (o:=.lst ys)),x2]
    rw[List.append_nil] at *
    refine k _ F2 _ (e.trans (.new e.fh hD)) ⟨⟨D,ys,rfl,zq,x1⟩,?_,?_⟩
    ·rw[hfD]
     exact List.nodup_cons.mpr ⟨λz=>RepOs.feet ry z hD,nd⟩
    ·rw[hfD]
     intro b hb
     rcases List.mem_cons.mp hb with rfl | hb
     ·exact⟨e.hh.free hD,e.fh.free hD⟩
     ·exact fr b hb
  ·cases hg
end
section
variable {K:KW}{B:Bs}{F H:Hp}{σ:St}{ρ:EnvD}
end
section
variable {X:Cx}{B:Bs}{tg e ck c re:Expr}{es:List Expr}{x y nm:Str}{pos p2 p3 p4 p5 ip rp apos cpos:Pos}{id:String}{r:V->List V->Hp->VK->Prop}{f:List D->List D->Option (List D)}{gs:EnvD->Option (List D)}{dd:List D}{gt:EnvD->Option Bool}{ge:EnvD->Option D}
end
end Dv
namespace Dv
open PySem PySem.Spec L2 L3 L4 L6
open PyProof.Rows hiding St
section
variable {X:Cx}{B:Bs}{e a b o:Expr}{es:List Expr}{pos p cpos:Pos}{gts:EnvD->Option (List OT)}{gp:EnvD->Option (List Nat)}{ga gb:EnvD->Option D}
end
section
variable {X:Cx}{B:Bs}{ca:Str->Addr}{fd x:Str}{id:String}{E:St->XK}{pos p:Pos}{e:Expr}{es:List Expr}{k n:Nat}{g:EnvD->Option Xv}{gd:EnvD->Option D}{gx:EnvD->Option En}{m:List En->Option En}
end
theorem jW {α:Type}{P:α->Prop}:∀q∈([]:List α),P q:=λ_ h=>nomatch h
theorem yB {α:Type}{P:α->Prop}{a:α}{l:List α}(h:P a)(r:∀q∈l,P q):∀q∈a::l,P q:=List.forall_mem_cons.mpr ⟨h,r⟩
def hasE (ie:Option Nat)(ea:Addr)(σ:St):Prop:=match ie with
 |some k=>σ[k]?=some (some (.ref ea))
 |none=>True
abbrev Jt:=Option D->Option D
def jtsD (q:Option D):List Jt->Option (List D)
 | []=>some []
 |f::r=>(f q).bind λd=>(jtsD q r).map (d::·)
def lCJ (K:KW)(ie:Option Nat)(ea:Addr)(dd:Option Addr)(fd:Str)(f:Jt):TE:=λσ H Q=>hasE ie ea σ/\∃F q d,Same F H/\Pd K F H fd dd q/\f q=some d/\∀v F' H',Ext F H F' H'->Rp K F' d v->Q v H'
def lCJs (K:KW)(ie:Option Nat)(ea:Addr)(dd:Option Addr)(fd:Str)(fs:List Jt):TA:=λσ H Q=>hasE ie ea σ/\∃F q ds,Same F H/\Pd K F H fd dd q/\jtsD q fs=some ds/\∀vs F' H',Ext F H F' H'->Rps K F' ds vs->Q vs H'
def JtOk (X:Cx)(C:Addr)(ie:Option Nat)(fd:Str)(e:Expr)(f:Jt):Prop:=∀ea oe dd,oe.cls=.ref C->oe.dict=dd->(∃fs,oe.data=.fields fs)->PE (cxE X ea [(ea,oe)]) e (lCJ X.kw ie ea dd fd f)
def JtsOk (X:Cx)(C:Addr)(ie:Option Nat)(fd:Str)(es:List Expr)(fs:List Jt):Prop:=∀ea oe dd,oe.cls=.ref C->oe.dict=dd->(∃fs,oe.data=.fields fs)->PA (cxE X ea [(ea,oe)]) es (lCJs X.kw ie ea dd fd fs)
section
variable {X:Cx}{B:Bs}{C HE fI M2 MC:Addr}{ca:Str->Addr}{fd n x y:Str}{ie:Option Nat}{i k:Nat}{pos p p2 p3 pI pC pB lpos:Pos}{e:Expr}{es:List Expr}{f:Jt}{fs:List Jt}{b:Bool}
end
structure Cl where
 ie:Option Nat
 its:List (Str×List Jt)
inductive CsOk (X:Cx) (ca:Str->Addr) (fd:Str) (i:Nat):List ExceptHandler->List Cl->Prop
 |nil:CsOk X ca fd i [] []
 |as {xM n fx:Str} {MC:Addr} {ie:Nat} {its:List (Str×List Jt)} {es:List Expr} {rest:List ExceptHandler} {cls:List Cl} {pM hpos pF lpos epos:Pos} (hg:Gl X xM) (hm:X.mg xM=some (.ref MC)) (hdb:(xM==("__debug__" : Str))=false)
   (hie:X.N[ie]?=some n) (hl:X.env.scope.names.lookup n=some .local) (hit:∀q∈its,JtsOk X (ca q.1) (some ie) fd es q.2) (hx:∀q∈its,XM X.K (ca q.1) MC) (hn:∀c∈cls,∀q∈c.its,XN X.K (ca q.1) MC)
   (hi:X.N[i]?=some fx) (hiL:Loc X.env.scope fx) (hif:X.fn fx=true∨X.env.scope.names.lookup fx=some .local) (hs:swapsWith (.List es lpos) (some (.Name fx pF)) epos.line X.env=pure false) (hr:CsOk X ca fd i rest cls) :
   CsOk X ca fd i (.ExceptHandler (some (.Name xM pM)) (some n) [.Assign [.Name fx pF] (.List es lpos) epos] hpos::rest) (⟨some ie,its⟩::cls)
 |no {xM fx:Str} {MC:Addr} {its:List (Str×List Jt)} {es:List Expr} {rest:List ExceptHandler} {cls:List Cl} {pM hpos pF lpos epos:Pos} (hg:Gl X xM) (hm:X.mg xM=some (.ref MC)) (hdb:(xM==("__debug__" : Str))=false)
   (hit:∀q∈its,JtsOk X (ca q.1) none fd es q.2) (hx:∀q∈its,XM X.K (ca q.1) MC) (hn:∀c∈cls,∀q∈c.its,XN X.K (ca q.1) MC)
   (hi:X.N[i]?=some fx) (hiL:Loc X.env.scope fx) (hif:X.fn fx=true∨X.env.scope.names.lookup fx=some .local) (hs:swapsWith (.List es lpos) (some (.Name fx pF)) epos.line X.env=pure false) (hr:CsOk X ca fd i rest cls) :
   CsOk X ca fd i (.ExceptHandler (some (.Name xM pM)) none [.Assign [.Name fx pF] (.List es lpos) epos] hpos::rest) (⟨none,its⟩::cls)
section
variable {X:Cx}{B:Bs}{ca:Str->Addr}{fd:Str}{i:Nat}
variable {gs:SD}{gx:EnvD->Option (EnvD×Xv)}{body:List Stmt}{h0:ExceptHandler}{hs:List ExceptHandler}{cls:List Cl}{pos:Pos}
end
end Dv
namespace L6
open PySem PySem.Spec L2 L3 L4
open PyProof.Rows hiding St
def calmA (A:Around):Around:={ A with handled:=none }
def PinOk (outer:List Env)(s:Shared)(H:Hp)(pn:List (Addr×Obj)):Prop:=∀p∈pn,s.heap.get? p.1=some p.2/\H p.1=none/\p.1∉frs outer/\∀v,p.2.data≠.cell v
abbrev SpE:=List (Addr×Obj)->List V->Hp->VK->Prop
structure FnE (P:Program)(w:World)(K:PySem.W.Frag)(mg:Str->Option Value)(base:Heap)(k:Nat)(f:Addr)(fd:FuncData)(ps:List Str)(sp:SpE):Prop where
 len:∀pn vs H Q,sp pn vs H Q->vs.length=ps.length
 run:∀(A:Around) (outer:List Env) (s:Shared) (H:Hp) (args:Args) (us:List Value) (vs:List V) (Q:VK) (pn:List (Addr×Obj)),Room k (calmA A)->Env0 P w K mg base A outer s H->BindsTo s fd args (ps.zip us)->Vals vs us->PinOk outer s H pn->sp pn vs H Q ->
  codeAny (model P w) A (.call (.ref f) args) (CR CX0 outer P w H s Q (λ_ _ _=>False)) s
section
variable {P:Program}{w:World}{K:PySem.W.Frag}{mg:Str->Option Value}{base:Heap}{N ps:List Str}{qual name:Str}{scope:Scope}{f:Addr}{cdv:Value}{A:Around}{outer:List Env}{s s1:Shared}{H:Hp}{us:List Value}{vs:List V}{E:XK}{pn:List (Addr×Obj)}
end
section
variable {X:Cx}{k:Nat}{f:Addr}{fd:FuncData}{ps:List Str}{sp:SpE}{x:Str}{p pos:Pos}{e:Expr}{es:List Expr}{t:TA}{ea:Addr}{oe:Obj}
end
end L6
namespace Dv
open PySem PySem.Spec L2 L3 L4 L6
open PyProof.Rows hiding St
def kitF (K:PySem.W.Frag)(C:Addr)(isx:Nat->Bool):Nat->List Value->Prop
 |_,[]=>True
 |j,v::vs=>PySem.W.kitOne K (.ref C) v=some (isx j)/\kitF K C isx (j+1) vs
structure ExAt (K:PySem.W.Frag)(fd:Str)(ea C:Addr)(oe:Obj)(H:Hp):Prop where
 xi:XI K C
 cls:oe.cls=.ref C
 flds:∃fs,oe.data=.fields fs
 dic:oe.dict=none∨∃dx v,oe.dict=some dx/\H dx=some (.xd [(fd,v)])
def eSp (K:KW)(fd:Str)(tab:List Value)(m:Addr->(Nat->Bool)->List En->Option En):SpE:=λpn vs H Q=>
 ∃ea oe C isx F d,pn=[(ea,oe)]/\vs=[.ref ea]/\ExAt K fd ea C oe H/\kitF K C isx 0 tab/\Same F H/\m ea isx [.exn ea]=some (.val d)/\∀v F' H',Ext F H F' H'->Rp K F' d v->Q v H'
structure Ex1 (P:Program)(w:World)(K:PySem.W.Frag)(mg:Str->Option Value)(base:Heap)(fd:Str)(tab:List Value)(x:Str)(k:Nat)(m:Addr->(Nat->Bool)->List En->Option En):Prop where
 ex:∃f f0 ps,FnE P w K mg base k f f0 ps (eSp ⟨K,w⟩ fd tab m)/\mg x=some (.ref f)/\PySem.W.keepIn K (.ref f)=true/\Binds K f0 ps []
section
variable {P:Program}{w:World}{K:PySem.W.Frag}{mg:Str->Option Value}{base:Heap}
end
section
variable {X:Cx}{B:Bs}{C ea M2:Addr}{oe:Obj}{fd n x:Str}{i:Nat}{p2 p3 pI pC:Pos}{b:Bool}{T:String}
end
section
variable {X:Cx}{C:Addr}{fd n x:Str}{k kk:Nat}{p p2 pos:Pos}{tab:List Value}{m:Addr->(Nat->Bool)->List En->Option En}{isx:Nat->Bool}
end
section
variable {X:Cx}{B:Bs}{ca:Str->Addr}{fd:Str}{E:St->XK}{pos cpos:Pos}{a b c:Expr}{sa sb rest:List Stmt}{op:CmpOp}{g:EnvD->Option Xv}
end
inductive SuV (X:Cx) (C:Addr) (ie:Option Nat) (fd:Str):List Stmt->List (Nat×Jt)->Prop
 |nil:SuV X C ie fd [] []
 |cons {fx:Str} {e:Expr} {f:Jt} {i:Nat} {pF epos:Pos} {rest:List Stmt} {l:List (Nat×Jt)} (h:JtOk X C ie fd e f) (hi:X.N[i]?=some fx) (hiL:Loc X.env.scope fx) (hif:X.fn fx=true∨X.env.scope.names.lookup fx=some .local)
   (hs:swapsWith e (some (.Name fx pF)) epos.line X.env=pure false) (hr:SuV X C ie fd rest l):SuV X C ie fd (.Assign [.Name fx pF] e epos::rest) ((i,f)::l)
section
variable {X:Cx}{B:Bs}{C:Addr}{ie:Option Nat}{ca:Str->Addr}{fd:Str}
end
structure ClV where
 ie:Option Nat
 its:List (Str×List (Nat×Jt))
inductive CvOk (X:Cx) (ca:Str->Addr) (fd:Str):List ExceptHandler->List ClV->Prop
 |nil:CvOk X ca fd [] []
 |as {xM n:Str} {MC:Addr} {ie:Nat} {its:List (Str×List (Nat×Jt))} {b0:Stmt} {suite:List Stmt} {rest:List ExceptHandler} {cls:List ClV} {pM hpos:Pos} (hg:Gl X xM) (hm:X.mg xM=some (.ref MC)) (hdb:(xM==("__debug__" : Str))=false)
   (hie:X.N[ie]?=some n) (hl:X.env.scope.names.lookup n=some .local) (hit:∀q∈its,SuV X (ca q.1) (some ie) fd (b0::suite) q.2) (hx:∀q∈its,XM X.K (ca q.1) MC) (hn:∀c∈cls,∀q∈c.its,XN X.K (ca q.1) MC) (hr:CvOk X ca fd rest cls) :
   CvOk X ca fd (.ExceptHandler (some (.Name xM pM)) (some n) (b0::suite) hpos::rest) (⟨some ie,its⟩::cls)
 |no {xM:Str} {MC:Addr} {its:List (Str×List (Nat×Jt))} {b0:Stmt} {suite:List Stmt} {rest:List ExceptHandler} {cls:List ClV} {pM hpos:Pos} (hg:Gl X xM) (hm:X.mg xM=some (.ref MC)) (hdb:(xM==("__debug__" : Str))=false)
   (hit:∀q∈its,SuV X (ca q.1) none fd (b0::suite) q.2) (hx:∀q∈its,XM X.K (ca q.1) MC) (hn:∀c∈cls,∀q∈c.its,XN X.K (ca q.1) MC) (hr:CvOk X ca fd rest cls) :
   CvOk X ca fd (.ExceptHandler (some (.Name xM pM)) none (b0::suite) hpos::rest) (⟨none,its⟩::cls)
section
variable {X:Cx}{B:Bs}{ca:Str->Addr}{fd:Str}
variable {gs:SD}{gx:EnvD->Option (EnvD×Xv)}{body:List Stmt}{h0:ExceptHandler}{hs:List ExceptHandler}{cls:List ClV}{pos:Pos}
end
section
variable {X:Cx}{pins:List (Addr×Obj)}{σ:St}{H:Hp}{s:Shared}
end
section
variable {X:Cx}{B:Bs}{pos:Pos}
end
section
variable {X:Cx}{B:Bs}{e a:Expr}{x:Str}{p p2 pos apos:Pos}{C M:Addr}{g:EnvD->Option D}
theorem Zm {α:Type}{post:Post α}{g1 g2:EnvD->Option α}(h1:PE X e (lG X.kw B post g1))(h2:PE X e (lG X.kw B post g2)):PE X e (lG X.kw B post (yAlt g1 g2)):=λpins s σ H Q I ⟨F,ρ,d,r,hg,k⟩=>by
 unfold yAlt at hg
 split at hg
 ·rename_i q hq;cases hg;exact h1 pins s σ H Q I ⟨F,ρ,d,r,hq,k⟩
 ·exact h2 pins s σ H Q I ⟨F,ρ,d,r,hg,k⟩
theorem yg {g1 g2:EnvD->Option D}(h1:DE X B e g1)(h2:DE X B e g2):DE X B e (yAlt g1 g2):=Zm h1 h2
theorem ZU {g1 g2:EnvD->Option OT}(h1:DTr X B e g1)(h2:DTr X B e g2):DTr X B e (yAlt g1 g2):=Zm h1 h2
variable {mm:Str}{n k:Nat}{m:List En->Option En}{gxs:EnvD->Option (List En)}{o:Expr}{es:List Expr}
theorem U3 {E:XK}{σ:St}{H:Hp}{Q:VK}(h:lG X.kw B (pT X.kw) (gMeth C mm (len? n m) treO g gxs) σ H Q):tMeth C mm (pSp X.kw n (len? n m)) [] E (lG X.kw B (pE X.kw) g) (lNs X.kw B gxs) σ H Q:=by
 obtain⟨F,ρ,d,r,hg,k⟩:=h
 obtain⟨fs,ds,xs,o,q1,q2,q3,q4,q5⟩:=YG hg
 refine⟨F,ρ,_,r,q1,λv F1 H1 e1 p1=>?_⟩
 obtain⟨a,dx,vs,rfl,h1,h2,h3⟩:=id p1
 refine⟨a,dx,_,rfl,e1.fh _ _ h1,by rw[qm];exact ki h3.length q2,F1,ρ,xs,r.ext e1,q3,λws F2 H2 e2 p2=>?_⟩
 show pSp X.kw n (len? n m) (.ref a::(ws++[])) H2 Q E
 rw[List.append_nil]
 refine⟨F2,_,o,e2.fh,xl _ _ q4,.cons (Rp.mono e2.ff p1) p2,q4,λw F3 H3 e3 p3=>?_⟩
 cases o with
 |tre t=>
  cases q5
  obtain⟨h4,h5,h6⟩:=p3
  exact k w F3 H3 (e1.trans (e2.trans e3)) ⟨h4,h5,λb hb=>⟨e1.hh.free (e2.hh.free (h6 b hb).2),(h6 b hb).1⟩⟩
 |_=>cases q5
theorem vP {pl:Sem Bool}(ho:DE X B o g)(cl:Cls X.kw C)(h:Mx X.prog X.w X.kw X.mg X.base C mm k n m)(hr:Room k X.A)
  (ht:eval (.Call (.Attribute o mm apos) [] [] pos) X.env=(do
   let ov <-eval o X.env
   standAt apos.atName
   let (f,first) <-holding [ov] (getMethod ov mm pl)
   callWith pos f first (backTo pos (starEach [] X.env)) (backToKw pos (keywordEach [] X.env))):=by rfl) :
  DTr X B (.Call (.Attribute o mm apos) [] [] pos) (gMeth C mm (len? n m) treO g nNil):=by
 obtain⟨f,fd,ps,F,hm,hb⟩:=h.ex
 exact zi (W7 ho cl hm F hr hb .nil pass0 ht) λσ H Q h=>by
  obtain⟨F,ρ,d,r,q,k⟩:=U3 (E:=E0) h
  refine⟨F,ρ,d,r,q,λv F1 H1 e1 p1=>?_⟩
  obtain⟨a,dx,fs,q1,q2,q3,q4⟩:=k v F1 H1 e1 p1
  obtain⟨F2,ρ2,xs,r2,hx,k2⟩:=q4
  cases hx
  exact⟨a,dx,fs,q1,q2,q3,k2 [] F2 H1 (.refl r2.fh) .nil⟩
structure IO (K:PySem.W.Frag)(C:Addr):Prop where
 cl:Cls K C
 ha:PySem.W.findIn K (.ref C) "__class__" = some (some (.builtin "object.__class__"))
 hn:PySem.W.specialIn K (.builtin "object.__class__") "__get__" = some (some (.builtin "getset_descriptor.__get__"))
 htk:PySem.W.takesIn K (.builtin "object.__class__")=some true
 hm:PySem.W.mroIn K C (.type "object")=some true
def rIsO (K:PySem.W.Frag)(M:Addr):List V->Hp->VK->Prop:=λxs H Q=>∃a C dx fs b,xs=[.ref a,.ref M]/\H a=some (.ins C dx fs)/\IO K C/\PySem.W.kitOne K (.ref C) (.ref M)=some b/\Q (.bl b) H
theorem J8:CallR X (.builtin "isinstance") (rIsO X.K M):=by
 intro pins s σ H xs us Q I r h
 obtain⟨a,C,dx,fs,b,rfl,ea,io,z,q⟩:=h
 cases r with
 | @cons _ u1 _ _ r1 r2=>
 cases r2 with
 | @cons _ u2 _ _ r3 r4=>
 cases r4
 obtain rfl:u2=Value.ref M:=r3
 exact VG I r1 (.ins ea io.cl io.ha io.hn io.htk io.hm) z λtk=>⟨.bl b,H,I.tok tk,rfl,q⟩
def gIsO (tab:List (Addr×Bool))(g:EnvD->Option D):EnvD->Option D:=λρ=>(g ρ).bind λd=>match d with
 |.obj C _ _=>(tab.lookup C).map D.bl
 |_=>none
@[simp]theorem zfv {tab:List (Addr×Bool)}{ρ:EnvD}:gIsO tab g ρ=(g ρ).bind λd=>match d with | .obj C _ _=>(tab.lookup C).map D.bl | _=>none:=rfl
theorem GV {tab:List (Addr×Bool)}{C:Addr}{b:Bool}:tab.lookup C=some b->(C,b)∈tab:=by
 induction tab with
 |nil=>intro h;cases h
 |cons q r ih=>
  obtain⟨a,c⟩:=q
  intro h
  rw[List.lookup_cons] at h
  split at h
  ·rename_i z
   cases h
   have:C=a:=eq_of_beq z
   subst this
   exact .head _
  ·exact .tail _ (ih h)
theorem jq {tab:List (Addr×Bool)}(ht:∀q∈tab,IO X.K q.1/\PySem.W.kitOne X.K (.ref q.1) (.ref M)=some q.2)(hgI:Gl X "isinstance") (hmI:X.mg "isinstance" = none) (hg:Gl X x) (hm:X.mg x=some (.ref M)) (ha:DE X B a g) (hdb:(x==("__debug__" : Str))=false:=by decide +kernel)
  (he:starEach [a,.Name x p2] X.env=(false,eval a X.env)::starEach [.Name x p2] X.env:=by rfl) (he2:starEach [.Name x p2] X.env=(false,eval (.Name x p2) X.env)::starEach [] X.env:=by rfl) (hpl:(backTo pos (starEach [.Name x p2] X.env)).any (·.1)=false:=by rfl) :
  DE X B (.Call (.Name "isinstance" p) [a,.Name x p2] [] pos) (gIsO tab g) :=
 zi (vW J8 hgI hmI (by decide +kernel) (zZ ha (zZ (WQ hg hm (v:=.ref M) rfl hdb) yr he2) he) (by decide) (by decide) he hpl) λσ H Q ⟨F,ρ,d,r,hgd,k⟩=>by
  unfold gIsO at hgd
  cases q:g ρ with
  |none=>rw[q] at hgd;cases hgd
  |some d'=>
   rw[q,Option.bind_some] at hgd
   cases d' with
   |obj C fs ds=>
    replace hgd:(tab.lookup C).map D.bl=some d:=hgd
    cases q2:tab.lookup C with
    |none=>rw[q2] at hgd;cases hgd
    |some b=>
     rw[q2] at hgd
     cases hgd
     obtain⟨io,z⟩:=ht (C,b) (GV q2)
     refine⟨F,ρ,_,r,q,λv F1 H1 e1 p1=>?_⟩
     obtain⟨a,dx,vs,rfl,h1,h2,h3⟩:=p1
     exact⟨a,C,dx,_,b,rfl,e1.fh _ _ h1,io,z,k _ F1 H1 e1 rfl⟩
   |_=>cases hgd
end
structure BO (K:PySem.W.Frag)(V f:Addr):Prop where
 sp:PySem.W.specialIn K (.ref V) "__getattribute__" = some (some (.builtin "type.__getattribute__"))
 rd:PySem.W.readsIn K V (.type "type")=true
 fc:PySem.W.findCls K (.ref V) (.type "type") "__init__" = some (.val (.ref f))
 hn:PySem.W.handedIn (.ref f)=true
 kp:PySem.W.keepIn K (.ref f)=true
def InsOk (H:Hp):Prop:=∀a C dx fs,H a=some (.ins C dx fs)->H dx=some (.own a)/\dx≠a
def tBaseO (sp:Sp)(t:TA):TE:=λσ H Q=>t σ H λvs H1=>InsOk H1->sp vs H1 Q E0
section
variable {X:Cx}{k:Nat}{f V:Addr}{fd:FuncData}{ps:List Str}{sp:Sp}{x:Str}{p pos apos:Pos}{e:Expr}{es:List Expr}{t:TA}
theorem Ud {pl:Sem Bool}(bo:BO X.K V f)(F:FnOk X.prog X.w X.K X.mg X.base CX0 k f fd ps sp)(hr:Room k X.A)(hg:Gl X x)(hm:X.mg x=some (.ref V))(hb:Binds X.K fd ps [])(ha:PA X (e::es) t)
  (hdb:(x==("__debug__" : Str))=false:=by decide +kernel)
  (hst:starEach (e::es) X.env=(false,eval e X.env)::starEach es X.env:=by rfl) (hpl:(backTo pos (starEach es X.env)).any (·.1)=false:=by rfl)
  (ht:eval (.Call (.Attribute (.Name x p) "__init__" apos) (e::es) [] pos) X.env=(do
   let ov <-eval (.Name x p) X.env
   standAt apos.atName
   let (f,first) <-holding [ov] (getMethod ov "__init__" pl)
   callWith pos f first (backTo pos (starEach (e::es) X.env)) (backToKw pos (keywordEach [] X.env))):=by rfl) :
  PE X (.Call (.Attribute (.Name x p) "__init__" apos) (e::es) [] pos) (tBaseO sp t):=by
 intro pins s σ H Q I h
 refine PySem.W.methodCall_KW (pl:=pl) (jh I hg hm ?_ hdb) ht
 refine PySem.W.method_cls I.kIn bo.sp (PySem.W.cls_value I.kIn bo.rd bo.fc bo.hn ?_)
 have I0:=I.tok (s.toks+1)
 refine PySem.W.callWith_K (h₀:=X.base) (first:=[]) I.ok.mod.kin bo.kp (thn (ha pos pins _ σ H _ I0 h) λus s1 ⟨vs,H1,I1,r1,q1⟩=>⟨I1.kIn,?_⟩) hst hpl
 have io:InsOk H1:=λa C dx fs ea=>by
  obtain⟨h1,_,h2,_⟩:=(show ObjOk X.prog X.w H1 s1.heap a (.ins C dx fs) from I1.hok a _ ea)
  exact⟨h1,h2⟩
 have q:=q1 io
 exact jl (dvs:=[]) (E:=E0) F hr hb .nil pass0 I1 r1 (by rw[List.append_nil];exact q)
end
def cutO (H:Hp)(a dx:Addr):Hp:=λb=>if b=a∨b=dx then none else H b
theorem xE {H:Hp}{a dx b:Addr}(h1:b≠a)(h2:b≠dx):cutO H a dx b=H b:=by unfold cutO;rw[if_neg (by intro z;rcases z with z | z;exact h1 z;exact h2 z)]
theorem Uh {H:Hp}{a dx C:Addr}{fs:List (Str×V)}(h1:H a=some (.ins C dx fs))(h2:H dx=some (.own a))(h3:dx≠a):upd (upd (cutO H a dx) dx (.own a)) a (.ins C dx fs)=H:=by
 funext b
 by_cases ha:b=a
 ·subst ha;rw[zq,h1]
 ·rw[zk ha]
  by_cases hd:b=dx
  ·subst hd;rw[zq,h2]
  ·rw[zk hd,xE ha hd]
section
variable {K:KW}{B:Bs}{F H:Hp}{a dx C:Addr}{fs0:List (Str×V)}
theorem wf {b:Addr}{o:HO}(h1:H a=some (.ins C dx fs0))(h2:H dx=some (.own a))(h:H b=some o)(n1:∀C dx fs,o≠.ins C dx fs)(n2:∀x,o≠.own x):cutO H a dx b=some o:=by
 rw[xE (vq h h1 (n1 _ _ _)) (vq h h2 (n2 _))];exact h
mutual
theorem RepO.cut (h1:H a=some (.ins C dx fs0))(h2:H dx=some (.own a)):∀ {t:OT} {v:V},RepO K F H t v->RepO K F (cutO H a dx) t v/\feetO (cutO H a dx) t v=feetO H t v
 |.frz _,_,r=>⟨r,rfl⟩
 |.lst ts,_,⟨b,vs,e,q,r⟩=>by
  subst e
  have q':cutO H a dx b=some (.lst vs):=wf h1 h2 q (by intro _ _ _ z;cases z) (by intro _ z;cases z)
  obtain⟨r1,r2⟩:=RepOs.cut h1 h2 r
  exact⟨⟨b,vs,rfl,q',r1⟩,by simp only[feetO,zM q,zM q',r2]⟩
 |.tup ts,_,⟨b,vs,e,q,r⟩=>by
  subst e
  have q':cutO H a dx b=some (.tup vs):=wf h1 h2 q (by intro _ _ _ z;cases z) (by intro _ z;cases z)
  obtain⟨r1,r2⟩:=RepOs.cut h1 h2 r
  exact⟨⟨b,vs,rfl,q',r1⟩,by simp only[feetO,zO q,zO q',r2]⟩
theorem RepOs.cut (h1:H a=some (.ins C dx fs0))(h2:H dx=some (.own a)):∀ {ts:List OT} {vs:List V},RepOs K F H ts vs->RepOs K F (cutO H a dx) ts vs/\feetOs (cutO H a dx) ts vs=feetOs H ts vs
 | [],_,r=>⟨r,rfl⟩
 |t::ts,_,⟨v,r,e,g1,g2⟩=>by
  subst e
  obtain⟨a1,a2⟩:=RepO.cut h1 h2 g1
  obtain⟨b1,b2⟩:=RepOs.cut h1 h2 g2
  exact⟨⟨v,r,rfl,a1,b1⟩,by simp only[feetOs,a2,b2]⟩
end
theorem RepE.cut {x:En}{v:V}(h1:H a=some (.ins C dx fs0))(h2:H dx=some (.own a))(r:RepE K B F H x v)(hn:a∉feetE H x v):RepE K B F (cutO H a dx) x v/\feetE (cutO H a dx) x v=feetE H x v:=by
 cases x with
 |val d=>exact⟨r,rfl⟩
 |bor ds=>exact⟨r,rfl⟩
 |acc ds=>
  obtain⟨b,vs,rfl,q2,q3,q4,q5⟩:=r
  exact⟨⟨b,vs,rfl,wf h1 h2 q2 (by intro _ _ _ z;cases z) (by intro _ z;cases z),q3,q4,q5⟩,rfl⟩
 |oac b dx' C' fs ds=>
  obtain⟨vs,rfl,q2,ql,q3,q4,q5,d1,d2,d3⟩:=r
  have hb:b≠a:=λz=>hn (by simp[feetE,z])
  have hb2:b≠dx:=vq q2 h2 (by intro z;cases z)
  have hd:dx'≠a:=vq d1 h1 (by intro z;cases z)
  have hd2:dx'≠dx:=λz=>by rw[z,h2] at d1;cases d1;exact hb rfl
  exact⟨⟨vs,rfl,by rw[xE hb hb2];exact q2,ql,q3,q4,q5,by rw[xE hd hd2];exact d1,d2,d3⟩,rfl⟩
 |tre t=>
  obtain⟨r1,r2,r3⟩:=r
  obtain⟨s1,s2⟩:=RepO.cut h1 h2 r1
  exact⟨⟨s1,by rw[s2];exact r2,λb hb=>r3 b (by rw[s2] at hb;exact hb)⟩,s2⟩
 |dct oa kvs=>
  obtain⟨b,ob,vs,rfl,q2,q3,q4,q5⟩:=r
  exact⟨⟨b,ob,vs,rfl,wf h1 h2 q2 (by intro _ _ _ z;cases z) (by intro _ z;cases z),q3,q4,q5⟩,rfl⟩
 |dbo kvs=>exact⟨r,rfl⟩
 |exn a=>exact⟨r,rfl⟩
theorem ArgE.cut {x:En}{v:V}(h1:H a=some (.ins C dx fs0))(h2:H dx=some (.own a))(r:ArgE K F H x v):ArgE K F (cutO H a dx) x v:=by
 cases x with
 |val d=>exact r
 |bor ds=>
  obtain⟨b,vs,e1,e2,e3⟩:=r
  exact⟨b,vs,e1,wf h1 h2 e2 (by intro _ _ _ z;cases z) (by intro _ z;cases z),e3⟩
 |dbo kvs=>
  obtain⟨b,ob,vs,e1,e2,e3⟩:=r
  exact⟨b,ob,vs,e1,wf h1 h2 e2 (by intro _ _ _ z;cases z) (by intro _ z;cases z),e3⟩
 |exn b=>exact r
 |acc ds=>exact r
 |oac _ _ _ _ _=>exact r
 |tre t=>exact r
 |dct oa kvs=>exact r
theorem Rep.fill {σ:St}{ρ:EnvD}{i:Nat}{F' H':Hp}{fs:List Str}{ds:List D}{us:List V}(r:Rep K B F σ H ρ)(hi:ρ[i]?=some (some (.oac a dx C [] [])))(e:Ext F (cutO H a dx) F' H')(f1:F' a=none)(g1:H' a=some (.ins C dx (fs.zip us)))(g2:fs.length=us.length)(g3:Rps K F' ds us)(g4:H' dx=some (.own a))(g5:F' dx=none) :
  Rep K B F' σ H' (ρ.set i (some (.oac a dx C fs ds))):=by
 obtain⟨v0,s0,vs0,rfl,e1,_,e3,e4,_,d1,d2,d3⟩:=r.ents i _ hi
 have h1:H a=some (.ins C dx []):=by simpa using e1
 have oth:∀ {j:Nat} {z:En} {w:V},ρ[j]?=some (some z)->σ[j]?=some (some w)->j≠i->RepE K B F' H' z w/\feetE H' z w=feetE H z w:=fun {j z w} hj s hne=>by
  obtain⟨w',hw',rz⟩:=r.ents j z hj
  rw[s] at hw';cases hw'
  obtain⟨c1,c2⟩:=rz.cut h1 d1 (λhz=>r.dj i j _ z _ w hi hj s0 s (Ne.symm hne) a (by simp[feetE]) hz)
  exact⟨c1.ext e,by rw[c1.feet_ext e.hh,c2]⟩
 refine⟨⟨r.ex.ff.trans e.ff,λb u q=>?_,e.fh,λb q=>?_⟩,by simp[r.len],λj z q=>?_,λj k z w u t q1 q2 s1 s2 hne b hb hc=>?_⟩
 ·exact e.hh b u (by rw[xE (z8 q e4) (z8 q d3)];exact r.ex.hh b u q)
 ·rcases e.nw b q with z | z
  ·exact r.ex.nw b z
  ·unfold cutO at z
   split at z
   ·rename_i w
    rcases w with rfl | rfl
    ·exact .inr e4
    ·exact .inr d3
   ·exact .inr (r.ex.hh.free z)
 ·rcases zQ q with⟨rfl,q1,_⟩ | ⟨hj,q⟩
  ·cases q1
   exact⟨.ref a,s0,us,rfl,g1,g2,f1,e4,g3,g4,g5,d3⟩
  ·obtain⟨w,w1,_⟩:=r.ents j z q
   exact⟨w,w1,(oth q w1 hj).1⟩
 ·have fi:∀ {y:En} {v:V},y=.oac a dx C fs ds->v=.ref a->∀b∈feetE H' y v,b=a:=fun {y v} hy hv b hb=>by subst hy hv;simpa[feetE] using hb
  rcases zQ q1 with⟨rfl,p1,_⟩ | ⟨hj,f1'⟩<;>rcases zQ q2 with⟨rfl,p2,_⟩ | ⟨hk,f2'⟩
  ·exact hne rfl
  ·cases p1
   rw[s0] at s1;cases s1
   obtain rfl:=fi rfl rfl b hb
   rw[(oth f2' s2 hk).2] at hc
   exact r.dj _ k _ w _ t hi f2' s0 s2 hne b (by simp[feetE]) hc
  ·cases p2
   rw[s0] at s2;cases s2
   obtain rfl:=fi rfl rfl b hc
   rw[(oth f1' s1 hj).2] at hb
   exact r.dj j _ z _ u _ f1' hi s1 s0 hne b hb (by simp[feetE])
  ·rw[(oth f1' s1 hj).2] at hb
   rw[(oth f2' s2 hk).2] at hc
   exact r.dj j k z w u t f1' f2' s1 s2 hne b hb hc
end
def sBase (i:Nat)(C:Addr)(n:Nat)(mi:Addr->Addr->List En->Option (List Str×List D))(gs:EnvD->Option (List En)):SD:=λρ=>match ρ[i]? with
 |some (some (.oac a dx C' [] []))=>if C'=C then (gs ρ).bind λxs=>if xs.length=n then (mi a dx xs).map λr=>.next (ρ.set i (some (.oac a dx C r.1 r.2))) else none else none
 |_=>none
section
variable {X:Cx}{B:Bs}{k n:Nat}{f V C:Addr}{fd:FuncData}{ps:List Str}{x y:Str}{p p2 pos apos cpos:Pos}{es:List Expr}{gs:EnvD->Option (List En)}{mi:Addr->Addr->List En->Option (List Str×List D)}
theorem JT {pl:Sem Bool}(i:Nat)(bo:BO X.K V f)(F:FnOk X.prog X.w X.kw X.mg X.base CX0 k f fd ps (iSp X.kw C n mi))(hr:Room k X.A)(hg:Gl X x)(hm:X.mg x=some (.ref V))(hb:Binds X.kw fd ps [])(hv:PE X (.Name y p2) (tVar i))(ha:DNs X B es gs)
  (hdb:(x==("__debug__" : Str))=false:=by decide +kernel)
  (hst:starEach (.Name y p2::es) X.env=(false,eval (.Name y p2) X.env)::starEach es X.env:=by rfl) (hpl:(backTo cpos (starEach es X.env)).any (·.1)=false:=by rfl)
  (ht:eval (.Call (.Attribute (.Name x p) "__init__" apos) (.Name y p2::es) [] cpos) X.env=(do
   let ov <-eval (.Name x p) X.env
   standAt apos.atName
   let (f,first) <-holding [ov] (getMethod ov "__init__" pl)
   callWith cpos f first (backTo cpos (starEach (.Name y p2::es) X.env)) (backToKw cpos (keywordEach [] X.env))):=by rfl)
  (hs:swapsWith (.Call (.Attribute (.Name x p) "__init__" apos) (.Name y p2::es) [] cpos) none pos.line X.env=pure false:=by rfl) :
  DS X B (.Expr (.Call (.Attribute (.Name x p) "__init__" apos) (.Name y p2::es) [] cpos) pos) (sBase i C n mi gs) :=
 z7 (x3 (Ud bo F hr hg hm hb (zZ hv ha hst) hdb hst hpl ht) hs) λD σ H ⟨F0,ρ,fl,r,hgq,kk⟩=>by
  unfold sBase at hgq
  split at hgq
  ·rename_i a dx C' q
   split at hgq
   ·rename_i hc
    subst hc
    cases q1:gs ρ with
    |none=>rw[q1] at hgq;cases hgq
    |some xs=>
     rw[q1,Option.bind_some] at hgq
     split at hgq
     ·rename_i hl
      cases q2:mi a dx xs with
      |none=>rw[q2] at hgq;cases hgq
      |some fr=>
       rw[q2] at hgq
       cases hgq
       obtain⟨v0,s0,_,hv0,_⟩:=r.ents i _ q
       subst hv0
       refine⟨.ref a,s0,F0,ρ,xs,r,q1,λvs F1 H1 e1 p1 io=>?_⟩
       have r1:=r.ext e1
       obtain⟨v1,s1,vs0,hv1,g1,_,g3,g4,_,d1,d2,d3⟩:=r1.ents i _ q
       have h1:H1 a=some (.ins C' dx []):=by simpa using g1
       have nex:dx≠a:=(io a C' dx [] h1).2
       refine⟨F1,cutO H1 a dx,xs,a,dx,vs,fr.1,fr.2,rfl,by unfold cutO;rw[if_pos (.inl rfl)],by unfold cutO;rw[if_pos (.inr rfl)],nex,(Uh h1 d1 nex).symm,λb o hb=>?_,hl,Paired.mapP p1 λ_ _ h=>ArgE.cut h1 d1 h,q2,λF' H' us e f1 g1' g2' g3' gd=>?_⟩
       ·rw[xE (z8 hb g3) (z8 hb d2)];exact e1.fh b o hb
       ·exact kk σ F' H' (r1.fill q e f1 g1' g2' g3' gd.1 gd.2) (e1.ff.trans e.ff)
     ·cases hgq
   ·cases hgq
  ·cases hgq
structure Bo (P:Program)(w:World)(K:PySem.W.Frag)(mg:Str->Option Value)(base:Heap)(V C:Addr)(k n:Nat)(mi:Addr->Addr->List En->Option (List Str×List D)):Prop where
 ex:∃f f0 ps,BO K V f/\FnOk P w K mg base CX0 k f f0 ps (iSp ⟨K,w⟩ C n mi)/\Binds K f0 ps []
theorem UW {pl:Sem Bool}(i:Nat)(h:Bo X.prog X.w X.kw X.mg X.base V C k n mi)(hr:Room k X.A)(hg:Gl X x)(hm:X.mg x=some (.ref V))(hv:PE X (.Name y p2) (tVar i))(ha:DNs X B es gs)
  (hdb:(x==("__debug__" : Str))=false:=by decide +kernel)
  (hst:starEach (.Name y p2::es) X.env=(false,eval (.Name y p2) X.env)::starEach es X.env:=by rfl) (hpl:(backTo cpos (starEach es X.env)).any (·.1)=false:=by rfl)
  (ht:eval (.Call (.Attribute (.Name x p) "__init__" apos) (.Name y p2::es) [] cpos) X.env=(do
   let ov <-eval (.Name x p) X.env
   standAt apos.atName
   let (f,first) <-holding [ov] (getMethod ov "__init__" pl)
   callWith cpos f first (backTo cpos (starEach (.Name y p2::es) X.env)) (backToKw cpos (keywordEach [] X.env))):=by rfl)
  (hs:swapsWith (.Call (.Attribute (.Name x p) "__init__" apos) (.Name y p2::es) [] cpos) none pos.line X.env=pure false:=by rfl) :
  DS X B (.Expr (.Call (.Attribute (.Name x p) "__init__" apos) (.Name y p2::es) [] cpos) pos) (sBase i C n mi gs):=by
 obtain⟨f,f0,ps,bo,F,hb⟩:=h.ex
 exact JT i bo F hr hg hm hb hv ha hdb hst hpl ht hs
end
end Dv
namespace L4
open PySem PySem.Spec L2 L3
open PyProof.Rows hiding St
def tXDisp (w:World)(trs:List (TE×TE)):TE:=λσ H Q=>∀p,H p=none->tPairs trs σ (upd H p (.dK [])) λps H2=>H2 p=some (.dK [])/\∃kvs:List (Key×V),ps=kvs.map (λkv=>(kV kv.1,kv.2))/\kvs.length<=15/\∀ob,Q (.ref p) (upd H2 p (DX w p ob (mergeK [] kvs)))
theorem Gm {X:Cx}{pos:Pos}{keys:List (Option Expr)}{values:List Expr}{trs:List (TE×TE)}(h:PPs X pos keys values trs)(hall:keys.all (·.isSome)=true)(hl:keys.length=values.length)(h0:keys≠[])
  (h15:keys.length<=15):PE X (.Dict keys values pos) (tXDisp X.w trs):=by
 intro pins s σ H Q I q
 have hn:=I.hok.fresh (Nat.le_refl s.heap.objs.size)
 have I1:=I.laid (a:=s.heap.objs.size) (o:=.dK []) (h':=s.heap.push { cls:=.type "dict",data:=.dict #[] }) (t':=s.toks) (λ_ _ q=>Heap.get?_push_of_some _ q) (Nat.le_refl _) (RO s.heap I.big)
 refine wpAny_Dict_walk (knd:=zG X.prog X.w) hall hl h0 h15 (thn (h pins _ σ _ _ I1 (q _ hn)) λws s2 ⟨ps,H2,I2,rel,e,kvs,ep,lk,q2⟩=>?_)
 subst ep
 obtain⟨rs,c,rk⟩:=YC (P:=X.prog) (w:=X.w) rel
 obtain⟨z,hd,vs0,r0,dd⟩:=Jo I2.hok e
 cases r0
 refine⟨rs,c,dd,λh' dd' hs=>?_⟩
 have hz:(mergeK [] kvs).length<=sizeLine:=by
  have h1:=Zo kvs []
  rw[List.length_nil] at h1
  rw[sizeLine_eq];omega
 obtain⟨ob,ho,new⟩:=jF (P:=X.prog) (w:=X.w) hz hd (rk.merge .nil) dd'
 exact⟨.ref s.heap.objs.size,_,Wr I2 (by rw[e];exact True.intro) hs ⟨ob,ho⟩ (new _),rfl,q2 ob⟩
end L4
namespace Dv
open PySem PySem.Spec L2 L3 L4 L6
open PyProof.Rows hiding St
section
variable {X:Cx}{B:Bs}{e:Expr}{pos p1 p2:Pos}{k:Str}{v:Int}{gk:EnvD->Option (List (Key×D))}
def gLit1 (k:Str)(v:Int):EnvD->Option (List (Key×D)):=λ_=>some [(.inr k,.int v)]
@[simp]theorem zea {ρ:EnvD}:gLit1 k v ρ=some [(.inr k,.int v)]:=rfl
theorem G8 {j1 j2}:DD X B (.Dict [some (.Constant (.str k) j1 p1)] [.Constant (.int v) j2 p2] pos) (gLit1 k v) :=
 zi (Gm (JB Y2 ur Ko) rfl rfl (by simp) (by simp)) λσ H Q ⟨F,ρ,d,r,hg,kk⟩=>by
  cases hg
  intro p hp
  refine⟨zq,[(.inr k,.int v)],rfl,by simp,λob=>?_⟩
  rw[GS]
  exact kk _ F _ (.new r.fh hp) ⟨p,ob,[(.inr k,.int v)],rfl,hp,zq,r.fh.free hp,.cons ⟨rfl,rfl⟩ .nil⟩
def gNd (g:EnvD->Option (List (Key×D))):EnvD->Option En:=λρ=>(g ρ).map En.dbo
@[simp]theorem zb2 {ρ:EnvD}:gNd gk ρ=(gk ρ).map En.dbo:=rfl
theorem WF (h:DD X B e gk):DN X B e (gNd gk):=zi h λσ H Q ⟨F,ρ,x,r,hg,kk⟩=>by
 unfold gNd at hg
 cases q:gk ρ with
 |none=>rw[q] at hg;cases hg
 |some kvs=>
  rw[q] at hg
  cases hg
  exact⟨F,ρ,kvs,r,q,λv F' H' e ⟨a,ob,vs,h1,h2,h3,h4,h5⟩=>kk v F' H' e ⟨a,ob,vs,h1,h3,h5⟩⟩
def sBrk:SD:=λρ=>some (.brk ρ)
@[simp]theorem zbj {ρ:EnvD}:sBrk ρ=some (.brk ρ):=rfl
theorem Qm:DS X B (.Break pos) sBrk:=z7 GY λD σ H ⟨F,ρ,fl,r,hg,kk⟩=>by
 cases hg
 exact kk σ F H r (Same.refl _)
end
theorem qM:∀(ts:List OT) (k:Nat) (p:List Nat),gets ts k p=(ts[k]?).bind λt=>t.get p
 | [],k,p=>by simp[gets]
 |t::ts,0,p=>by simp[gets]
 |t::ts,k+1,p=>by simp[gets,qM ts k p]
def kid (k:Nat):OT->Option OT
 |.lst ts=>ts[k]?
 |.tup ts=>ts[k]?
 |.frz _=>none
theorem wV (t:OT):t.get []=some t:=by cases t<;>simp[OT.get]
theorem qd (t:OT)(k:Nat)(p:List Nat):t.get (k::p)=(kid k t).bind λu=>u.get p:=by
 cases t with
 |frz d=>simp[OT.get,kid]
 |lst ts=>simp[OT.get,kid,qM]
 |tup ts=>simp[OT.get,kid,qM]
theorem Yi (k:Nat):∀(ks:List Nat) (t:OT),t.get (ks++[k])=(t.get ks).bind (kid k)
 | [],t=>by
  rw[List.nil_append,qd,wV,Option.bind_some]
  cases kid k t with
  |none=>rfl
  |some u=>rw[Option.bind_some,wV]
 |j::ks,t=>by
  rw[List.cons_append,qd,qd]
  cases kid j t with
  |none=>rfl
  |some u=>exact Yi k ks u
theorem RepOs.kid {K:KW}{F H:Hp}:∀ {ts:List OT} {vs:List V} {k:Nat} {u:OT},RepOs K F H ts vs->ts[k]?=some u->∃w,vs[k]?=some w/\RepO K F H u w/\∀b∈feetO H u w,b∈feetOs H ts vs
 | [],_,k,u,_,h=>by simp at h
 |t::ts,_,0,u,⟨v,r,e,h1,h2⟩,h=>by
  subst e
  simp at h
  subst h
  exact⟨v,rfl,h1,λb hb=>by simp only[feetOs,List.mem_append];exact .inl hb⟩
 |t::ts,_,k+1,u,⟨v,r,e,h1,h2⟩,h=>by
  subst e
  obtain⟨w,g1,g2,g3⟩:=RepOs.kid (k:=k) h2 (by simpa using h)
  exact⟨w,by simpa using g1,g2,λb hb=>by simp only[feetOs,List.mem_append];exact .inr (g3 b hb)⟩
def lQp (K:KW)(B:Bs)(g:EnvD->Option OT)(ks:List Nat):TE:=λσ H Q=>
 ∃F ρ t u,Rep K B F σ H ρ/\g ρ=some t/\t.get ks=some u/\∀v F' H',Ext F H F' H'->RepO K F' H' u v->(∀a∈feetO H' u v,H a=none/\F' a=none)->Q v H'
def DQp (X:Cx)(B:Bs)(e:Expr)(g:EnvD->Option OT)(ks:List Nat):Prop:=PE X e (lQp X.kw B g ks)
section
variable {X:Cx}{B:Bs}{e a o:Expr}{es:List Expr}{g:EnvD->Option OT}{ks:List Nat}{k:Nat}{pos p apos cpos:Pos}{nm:Str}{id:String}{r:V->List V->Hp->VK->Prop}{f:List D->List D->Option (List D)}{gs:EnvD->Option (List D)}
theorem U0 (h:DTr X B e g):DQp X B e g []:=zi h λσ H Q ⟨F,ρ,t,u,rr,hg,hu,kk⟩=>by
 rw[wV] at hu
 cases hu
 exact⟨F,ρ,t,rr,hg,λv F' H' e p=>kk v F' H' e p.1 p.2.2⟩
theorem kx {j}(h:DQp X B a g ks)(hs:vF (.Constant (.int (k:Int)) j p)):DQp X B (.Subscript a (.Constant (.int (k:Int)) j p) pos) g (ks++[k]) :=
 zi (uJ uc h ur hs) λσ H Q ⟨F,ρ,t,u,rr,hg,hu,kk⟩=>by
  rw[Yi] at hu
  cases q:t.get ks with
  |none=>rw[q] at hu;cases hu
  |some n=>
   rw[q,Option.bind_some] at hu
   refine⟨F,ρ,t,n,rr,hg,q,λv F' H' e1 rn rf=>?_⟩
   cases n with
   |frz d=>cases hu
   |lst ts=>
    replace hu:ts[k]?=some u:=hu
    obtain⟨b,vs,rfl,q1,q2⟩:=rn
    obtain⟨w,g1,g2,g3⟩:=RepOs.kid q2 hu
    refine .inl ⟨b,vs,(k:Int),w,rfl,rfl,.of q1,yM k g1,kk w F' H' e1 g2 λc hc=>rf c ?_⟩
    simp only[feetO,zM q1,List.mem_cons]
    exact .inr (g3 c hc)
   |tup ts=>
    replace hu:ts[k]?=some u:=hu
    obtain⟨b,vs,rfl,q1,q2⟩:=rn
    obtain⟨w,g1,g2,g3⟩:=RepOs.kid q2 hu
    refine .inr (.inl ⟨b,vs,(k:Int),w,rfl,rfl,.of q1,yM k g1,kk w F' H' e1 g2 λc hc=>rf c ?_⟩)
    simp only[feetO,zO q1,List.mem_cons]
    exact .inr (g3 c hc)
def sMutQ (g:EnvD->Option OT)(ks:List Nat)(f:List D->List D->Option (List D))(gs:EnvD->Option (List D)):SD:=λρ=>(g ρ).bind λt=>((t.get ks).bind OT.leaf).bind λds=>(gs ρ).bind λes=>(f ds es).map λ_=>.next ρ
@[simp]theorem G6 {ρ:EnvD}:sMutQ g ks f gs ρ=(g ρ).bind λt=>((t.get ks).bind OT.leaf).bind λds=>(gs ρ).bind λes=>(f ds es).map λ_=>.next ρ:=rfl
theorem zag (slot:Slot "list" nm id) (hty:typeOf (.builtin id)=pure (.type "method_descriptor")) (hm:MtR X id r) (ok:MutOk X.kw r f) (ho:DQp X B o g ks) (ha:DAs X B (e::es) gs)
  (hbase:attributeBase o nm X.env (eval o X.env)=eval o X.env:=by rfl)
  (hfew:((backTo cpos (starEach (e::es) X.env)).all (λx=>!x.1)&&(backToKw cpos (keywordEach [] X.env)).all (λx=>x.1.isSome)
   && decide ((e::es).length+([]:List Keyword).length+(if ([]:List Keyword).isEmpty then 0 else 1) < 30))=true:=by rfl)
  (hline:(apos.endLine==cpos.line)=true:=by rfl) (hs:starEach (e::es) X.env=(false,eval e X.env)::starEach es X.env:=by rfl) (hplain:(backTo cpos (starEach es X.env)).any (·.1)=false:=by rfl)
  (hsw:swapsWith (.Call (.Attribute o nm apos) (e::es) [] cpos) none pos.line X.env=pure false:=by rfl) :
  DS X B (.Expr (.Call (.Attribute o nm apos) (e::es) [] cpos) pos) (sMutQ g ks f gs) :=
 z7 (x3 (VF PySem.F.plainAttrs_list slot hty hm ho ha hbase hfew hline hs hplain) hsw) λE σ H ⟨F,ρ,fl,rr,hg,kk⟩=>by
  unfold sMutQ at hg
  obtain⟨t,q1,hg⟩:=Option.bind_eq_some_iff.mp hg
  obtain⟨ds,q2,hg⟩:=Option.bind_eq_some_iff.mp hg
  obtain⟨ess,q3,hg⟩:=Option.bind_eq_some_iff.mp hg
  obtain⟨u,q4,q5⟩:=Option.bind_eq_some_iff.mp q2
  cases q6:f ds ess with
  |none=>rw[q6] at hg;cases hg
  |some ds'=>
   rw[q6] at hg
   cases hg
   rw[RB q5] at q4
   refine⟨F,ρ,t,_,rr,q1,q4,λv F1 H1 e1 ro rf=>?_⟩
   obtain⟨b,vs,rfl,g1,g2⟩:=ro
   have g2:=lfs_rep.mp g2
   obtain⟨n1,n2⟩:=rf b (by simp[feetO])
   refine⟨.inl ⟨rfl,_,.of g1⟩,F1,ρ,ess,rr.ext e1,q3,λus F2 H2 e2 p2=>?_⟩
   have m1:=e2.hh _ _ g1
   have m2:F2 b=none:=y1 e2 n2 (by rw[g1];simp)
   refine ok F2 H2 b vs ds us ess ds' _ m1 (g2.mono e2.ff) p2 q6 λw vs' h=>?_
   have e3:=e1.trans e2
   refine kk σ F2 _ (rr.ext ⟨e3.ff,λc o hc=>?_,λc o hc=>?_,e3.nw⟩) e3.ff
   ·rw[zk (z8 hc n1)];exact e3.hh c o hc
   ·rw[zk (z8 hc m2)];exact e3.fh c o hc
end
section
variable {X:Cx}{B:Bs}{e:Expr}{g:EnvD->Option D}{pos p2:Pos}
def gSlT (g:EnvD->Option D)(gl gh:EnvD->Option (Option Int)):EnvD->Option D:=λρ=>(g ρ).bind λd=>(gl ρ).bind λl=>(gh ρ).bind λh=>match d with
 |.tup ds=>if HT.sIx ds.length 0 l=0/\HT.sIx ds.length ds.length h=ds.length then none else some (.tup (cutD ds l h))
 |_=>none
theorem Rf {lo hi:Option Expr}{gl gh:EnvD->Option (Option Int)}(he:DR X B e g)(hl:DO X B lo gl)(hh:DO X B hi gh):DE X B (.Subscript e (.Slice lo hi none p2) pos) (gSlT g gl gh) :=
 zi (u0 UK he hl hh) λσ H Q ⟨F,ρ,d,r,hg,k⟩=>by
  unfold gSlT at hg
  cases q:g ρ with
  |none=>rw[q] at hg;cases hg
  |some x=>
   cases ql:gl ρ with
   |none=>rw[q,ql] at hg;cases hg
   |some l=>
    cases qh:gh ρ with
    |none=>rw[q,ql,qh] at hg;cases hg
    |some h=>
     rw[q,ql,qh] at hg
     cases x with
     |tup ds=>
      replace hg:(if HT.sIx ds.length 0 l=0/\HT.sIx ds.length ds.length h=ds.length then none else some (D.tup (cutD ds l h)))=some d:=hg
      split at hg
      ·cases hg
      ·rename_i hc
       cases hg
       refine⟨F,ρ,_,r,q,λv F1 H1 e1 p1=>⟨F1,ρ,l,r.ext e1,ql,λF2 H2 e2=>⟨F2,ρ,h,r.ext (e1.trans e2),qh,λF3 H3 e3=>?_⟩⟩⟩
       have e:=e1.trans (e2.trans e3)
       obtain⟨a,vs,rfl,h1,h2⟩:=((p1.mono e2.ff e2.hh).mono e3.ff e3.hh).tup e3.fh
       refine⟨a,vs,rfl,.of h1,by rw[<-h2.length];exact hc,λp hp=>?_⟩
       refine k _ (upd F3 p (.tup (cutV vs l h))) _ (e.trans (.newF e.fh hp)) ⟨p,_,rfl,zq,?_⟩
       refine Rps.mono (zW (e.fh.free hp)) ?_
       unfold cutD cutV
       rw[<-h2.length]
       exact (h2.drop _).take _
     |_=>cases hg
@[simp]theorem zb9 {gl gh:EnvD->Option (Option Int)}{ρ:EnvD}:gSlT g gl gh ρ=(g ρ).bind λd=>(gl ρ).bind λl=>(gh ρ).bind λh=>match d with
 |.tup ds=>if HT.sIx ds.length 0 l=0/\HT.sIx ds.length ds.length h=ds.length then none else some (.tup (cutD ds l h))
 |_=>none:=rfl
end
end Dv
namespace L4
open PySem PySem.Spec L2 L3
open PyProof.Rows hiding St
section
variable {X:Cx}
theorem GU:CallR X (.type "dict") (λxs H Q=>∃a ob kvs,xs=[V.ref a]/\H a=some (DX X.w a ob kvs)/\∀p ob',H p=none->Q (.ref p) (upd H p (DX X.w p ob' kvs))):=by
 intro pins s σ H vs us Q I r h
 obtain⟨a,ob,kvs,rfl,hq,q⟩:=h
 obtain⟨u,rfl,ru⟩:=vals1 r
 cases ru
 obtain⟨_,z,hd,vs,rel,_,dd⟩:=y0 I hq
 refine kt_call_dict hd dd (by rw[<-rel.length];exact z) λh' dd' hs=>?_
 obtain⟨o',ho',new⟩:=jF (P:=X.prog) (w:=X.w) (kvs:=kvs) z (beq_eq_false_iff_ne.mpr (Ne.symm (Nat.ne_of_lt I.big))) rel dd'
 exact⟨.ref s.heap.objs.size,_,I.laid (a:=s.heap.objs.size) (o:=DX X.w s.heap.objs.size o' kvs) (t':=s.toks) (λb q hq=>(hs.2 b (Nat.ne_of_lt (Heap.lt_size hq))).trans (Heap.get?_push_of_some _ hq)) (Nat.le_refl _) (new _),rfl,q _ o' (I.hok.fresh (Nat.le_refl _))⟩
end
end L4
namespace Dv
open PySem PySem.Spec L2 L3 L4 L6
open PyProof.Rows hiding St
section
variable {X:Cx}{B:Bs}{e:Expr}{pos p:Pos}{gk:EnvD->Option (List (Key×D))}
theorem Vo (hg:Gl X "dict") (hm:X.mg "dict" = none) (h:DK X B e gk) (he:starEach [e] X.env=(false,eval e X.env)::starEach [] X.env:=by rfl):DD X B (.Call (.Name "dict" p) [e] [] pos) gk :=
 zi (kI GU hg hm (by decide +kernel) (zZ h yr he) (by decide) (by decide) he rfl) λσ H Q ⟨F,ρ,d,r,hg,k⟩=>by
  refine⟨F,ρ,d,r,hg,λv F' H' e1 ⟨a,ob,vs,h1,h2,h3⟩=>⟨a,ob,vs,by rw[h1],h2,λp' ob' hn=>?_⟩⟩
  exact k _ F' _ (e1.trans (.new e1.fh hn)) ⟨p',ob',vs,rfl,e1.hh.free hn,zq,e1.fh.free hn,h3⟩
end
def pB (K:KW)(B:Bs):Post En:=λ_ _ F' _ x v=>(∃d,x=.val d/\Rp K F' d v)∨∃ds a vs,x=.bor ds/\v=.ref a/\B.H0 a=some (.lst vs)/\Rps K F' ds vs
section
variable {X:Cx}{B:Bs}{e a b c:Expr}{pos pos':Pos}{x:Str}{i:Nat}{g:EnvD->Option D}{ga gb:EnvD->Option En}{ta:EnvD->Option Bool}
def DBv (X:Cx)(B:Bs)(e:Expr)(g:EnvD->Option En):Prop:=PE X e (lG X.kw B (pB X.kw B) g)
def gvb (i:Nat):EnvD->Option En:=λρ=>match ρ[i]? with
 |some (some (.val d))=>some (.val d)
 |some (some (.bor ds))=>some (.bor ds)
 |_=>none
theorem zax (i:Nat)(h:PE X (.Name x pos) (tVar i)):DBv X B (.Name x pos) (gvb i) :=
 zi h λσ H Q ⟨F,ρ,d,r,hg,k⟩=>by
  unfold gvb at hg
  split at hg
  ·rename_i d' e
   cases hg
   obtain⟨v,h1,h2⟩:=r.ents i _ e
   exact⟨v,h1,k v F H (.refl r.fh) (.inl ⟨_,rfl,h2⟩)⟩
  ·rename_i ds e
   cases hg
   obtain⟨v,h1,a,vs,e1,e2,e5⟩:=r.ents i _ e
   exact⟨v,h1,k v F H (.refl r.fh) (.inr ⟨_,a,vs,rfl,e1,e2,e5⟩)⟩
  ·cases hg
theorem QH (h:DE X B e g):DBv X B e (gVal g):=zi h λσ H Q ⟨F,ρ,d,r,hg,k⟩=>by
 unfold gVal at hg
 cases q:g ρ with
 |none=>rw[q] at hg;cases hg
 |some d'=>rw[q] at hg;cases hg;exact⟨F,ρ,d',r,q,λv F1 H1 e1 p1=>k v F1 H1 e1 (.inl ⟨_,rfl,p1⟩)⟩
def gIfB (t:EnvD->Option Bool)(ga gb:EnvD->Option En):EnvD->Option En:=λρ=>(t ρ).bind λx=>if x then ga ρ else gb ρ
theorem Qh (ht:DT X B c ta)(ha:DBv X B a ga)(hb:DBv X B b gb):DBv X B (.IfExp c a b pos) (gIfB ta ga gb) :=
 zi (W1 ht ha hb) λσ H Q ⟨F,ρ,d,r,hg,k⟩=>by
  unfold gIfB at hg
  cases q:ta ρ with
  |none=>rw[q] at hg;cases hg
  |some x=>
   rw[q] at hg
   refine⟨F,ρ,x,r,q,λF1 H1 e1=>?_⟩
   cases x with
   |true=>exact iteT ⟨F1,ρ,d,r.ext e1,hg,λv F2 H2 e2 p2=>k v F2 H2 (e1.trans e2) p2⟩
   |false=>exact iteF ⟨F1,ρ,d,r.ext e1,hg,λv F2 H2 e2 p2=>k v F2 H2 (e1.trans e2) p2⟩
def sSetB (i:Nat)(g:EnvD->Option En):SD:=λρ=>(g ρ).map λx=>.next (ρ.set i (some x))
theorem QQ (hN:X.N.Nodup)(hi:X.N[i]?=some x)(hx:Loc X.env.scope x)(he:DBv X B e ga)(hs:swapsWith e (some (.Name x pos')) pos.line X.env=pure false:=by rfl)(hf:X.fn x=true∨X.env.scope.names.lookup x=some .local:=by first | exact .inl rfl | exact .inr rfl | assumption) :
  DS X B (.Assign [.Name x pos'] e pos) (sSetB i ga):=z7 (ve hN hi hx he hs hf) λE σ H ⟨F,ρ,fl,r,hg,k⟩=>by
 unfold sSetB at hg
 cases q:ga ρ with
 |none=>rw[q] at hg;cases hg
 |some y=>
  rw[q] at hg
  cases hg
  refine⟨F,ρ,y,r,q,λv F1 H1 e1 p1=>?_⟩
  rcases p1 with⟨d,rfl,p⟩ | ⟨ds,a,vs,rfl,h1,h2,h3⟩
  ·exact k _ F1 H1 ((r.ext e1).setv p) e1.ff
  ·exact k _ F1 H1 ((r.ext e1).seto (x:=.bor ds) ⟨a,vs,h1,h2,h3⟩ λ_ _ _ _ _ _ b hb=>by cases hb) e1.ff
@[simp]theorem zca {ρ:EnvD}:gvb i ρ=match ρ[i]? with
 |some (some (.val d))=>some (.val d)
 |some (some (.bor ds))=>some (.bor ds)
 |_=>none:=rfl
@[simp]theorem zeu {ρ:EnvD}:gIfB ta ga gb ρ=(ta ρ).bind λx=>if x then ga ρ else gb ρ:=rfl
@[simp]theorem zbe {ρ:EnvD}:sSetB i ga ρ=(ga ρ).map λx=>.next (ρ.set i (some x)):=rfl
end
theorem RepO.getf {K:KW}{F H:Hp}:∀(p:List Nat) {t u:OT} {v:V},RepO K F H t v->t.get p=some u->∃w,valAt H v p=some w/\RepO K F H u w/\∀c∈feetO H u w,c∈feetO H t v
 | [],t,u,v,r,h=>by
  rw[wV] at h
  cases h
  exact⟨v,rfl,r,λ_ h=>h⟩
 |k::p,t,u,v,r,h=>by
  rw[qd] at h
  obtain⟨n,hk,hn⟩:=Option.bind_eq_some_iff.mp h
  cases t with
  |frz d=>cases hk
  |lst ts=>
   obtain⟨b,vs,rfl,q1,q2⟩:=r
   obtain⟨w,g1,g2,g3⟩:=RepOs.kid q2 (show ts[k]?=some n from hk)
   obtain⟨w',e1,e2,e3⟩:=RepO.getf p g2 hn
   refine⟨w',?_,e2,λc hc=>?_⟩
   ·show ((itemsH H b)[k]?).bind (λw=>valAt H w p)=_
    rw[zM q1,g1];exact e1
   ·simp only[feetO,zM q1,List.mem_cons]
    exact .inr (g3 c (e3 c hc))
  |tup ts=>
   obtain⟨b,vs,rfl,q1,q2⟩:=r
   obtain⟨w,g1,g2,g3⟩:=RepOs.kid q2 (show ts[k]?=some n from hk)
   obtain⟨w',e1,e2,e3⟩:=RepO.getf p g2 hn
   refine⟨w',?_,e2,λc hc=>?_⟩
   ·show ((itemsH H b)[k]?).bind (λw=>valAt H w p)=_
    rw[zO q1,g1];exact e1
   ·simp only[feetO,zO q1,List.mem_cons]
    exact .inr (g3 c (e3 c hc))
section
variable {X:Cx}{B:Bs}{o:Expr}{apos cpos pos:Pos}{i:Nat}{gp:EnvD->Option (List Nat)}
def sClrP (i:Nat)(gp:EnvD->Option (List Nat)):SD:=λρ=>match ρ[i]? with
 |some (some (.tre t))=>(gp ρ).bind λp=>(t.get p).bind λu=>match u with
  |.lst _=>some (.next (ρ.set i none))
  |_=>none
 |_=>none
theorem QS (i:Nat)(ho:DP X B o i gp)(hbase:attributeBase o "clear" X.env (eval o X.env)=eval o X.env:=by rfl) (hline:(apos.endLine==cpos.line)=true:=by rfl)
  (hsw:swapsWith (.Call (.Attribute o "clear" apos) [] [] cpos) none pos.line X.env=pure false:=by rfl) :
  DS X B (.Expr (.Call (.Attribute o "clear" apos) [] [] cpos) pos) (sClrP i gp) :=
 z7 (x3 (kO PySem.F.plainAttrs_list PySem.F.slot_list_clear PySem.F.type_list_clear Zu ho hbase hline) hsw) λE σ H ⟨F,ρ,fl,r,hg,k⟩=>by
  unfold sClrP at hg
  split at hg
  ·rename_i t q
   obtain⟨p,q1,hg⟩:=Option.bind_eq_some_iff.mp hg
   obtain⟨u,q2,hg⟩:=Option.bind_eq_some_iff.mp hg
   cases u with
   |lst ts=>
    cases hg
    refine⟨F,ρ,t,p,r,q,q1,λv0 v F1 H1 e1 h0 hv=>?_⟩
    have r1:=r.ext e1
    obtain⟨v0',h0',ro,rn,rf⟩:=r1.ents i _ q
    rw[h0] at h0';cases h0'
    obtain⟨w,g1,⟨b,vs,g2,g3,g4⟩,g5⟩:=RepO.getf p ro q2
    rw[hv] at g1;cases g1
    subst g2
    have hb:b∈feetE H1 (.tre t) v0:=g5 b (by simp[feetO])
    refine⟨.inl ⟨rfl,_,.of g3⟩,b,vs,rfl,rfl,g3,?_⟩
    obtain⟨a0,rfl⟩:∃a0,v0=.ref a0:=by
     cases t with
     |frz d=>exact absurd hb (by simp[feetE,feetO])
     |lst ts'=>obtain⟨a0,_,h,_⟩:=ro;exact⟨a0,h⟩
     |tup ts'=>obtain⟨a0,_,h,_⟩:=ro;exact⟨a0,h⟩
    have r2:=(r1.writeG (y:=.exn a0) (o:=.lst []) q h0 hb rfl λc hc=>by cases hc).forget i
    rw[List.set_set] at r2
    exact k σ F1 _ r2 e1.ff
   |_=>cases hg
  ·cases hg
@[simp]theorem zd1 {ρ:EnvD}:sClrP i gp ρ=match ρ[i]? with
 |some (some (.tre t))=>(gp ρ).bind λp=>(t.get p).bind λu=>match u with
  |.lst _=>some (.next (ρ.set i none))
  |_=>none
 |_=>none:=rfl
end
end Dv
namespace QM
variable {α:Type} [DecidableEq α]
abbrev Tk (α:Type):=α×Int
def PosQ (q:List (Tk α)):Prop:=∀t∈q,1<=t.2
def srv (m:Nat)(q:List (Tk α)):List α:=(q.take m).map (·.1)
def beh (m:Nat)(q:List (Tk α)):List (Tk α):=((q.take m).filter λt=>decide (1 < t.2)).map (λt=>(t.1,t.2 - 1))++q.drop m
theorem VQ {m:Nat}{q:List (Tk α)}(h:PosQ q):PosQ (beh m q):=by
 intro t ht
 unfold beh at ht
 rcases List.mem_append.mp ht with ht | ht
 ·obtain⟨u,hu,rfl⟩:=List.mem_map.mp ht
  have:=(List.mem_filter.mp hu).2
  simp at this
  show 1<=u.2 - 1
  omega
 ·exact h t (List.mem_of_mem_drop ht)
theorem VU {m:Nat}{q:List (Tk α)}:(beh m q).length<=q.length:=by
 unfold beh
 rw[List.length_append,List.length_map,List.length_drop]
 have:=List.length_filter_le (λt:Tk α=>decide (1 < t.2)) (q.take m)
 rw[List.length_take] at this
 omega
theorem Zy {m:Nat}{q:List (Tk α)}(P:α->Prop)(h:∀t∈q,P t.1):∀t∈beh m q,P t.1:=by
 intro t ht
 unfold beh at ht
 rcases List.mem_append.mp ht with ht | ht
 ·obtain⟨u,hu,rfl⟩:=List.mem_map.mp ht
  exact h u (List.mem_of_mem_take (List.mem_filter.mp hu).1)
 ·exact h t (List.mem_of_mem_drop ht)
def sumQ:List (Tk α)->Nat
 | []=>0
 |t::ts=>t.2.toNat+sumQ ts
theorem ZB (p q:List (Tk α)):sumQ (p++q)=sumQ p+sumQ q:=by
 induction p with
 |nil=>simp[sumQ]
 |cons t ts ih=>simp only[List.cons_append,sumQ,ih];omega
theorem Zk:∀(p:List (Tk α)),PosQ p->sumQ ((p.filter λt=>decide (1 < t.2)).map λt=>(t.1,t.2 - 1))+p.length=sumQ p
 | [],_=>rfl
 |t::ts,h=>by
  have ih:=Zk ts λu hu=>h u (by simp[hu])
  have h1:1<=t.2:=h t (by simp)
  rw[List.filter_cons]
  by_cases h2:1 < t.2
  ·rw[if_pos (by simpa using h2)]
   simp only[List.map_cons,sumQ,List.length_cons]
   omega
  ·rw[if_neg (by simpa using h2)]
   simp only[sumQ,List.length_cons]
   omega
theorem Wz {m:Nat}{q:List (Tk α)}(h:PosQ q):sumQ (beh m q)+min m q.length=sumQ q:=by
 have e:sumQ q=sumQ (q.take m)+sumQ (q.drop m):=by rw[<-ZB,List.take_append_drop]
 have h1:=Zk (q.take m) λt ht=>h t (List.mem_of_mem_take ht)
 rw[List.length_take] at h1
 unfold beh
 rw[ZB]
 omega
theorem Ja {n:Nat}{b:Int}(q:List (Tk α))(hl:q.length<=n)(h:∀t∈q,t.2<=b):sumQ q<=n * b.toNat:=by
 have:∀q:List (Tk α),(∀t∈q,t.2<=b)->sumQ q<=q.length * b.toNat:=by
  intro q
  induction q with
  |nil=>intro _;simp[sumQ]
  |cons t ts ih=>
   intro hh
   have h1:=hh t (by simp)
   have h2:=ih λu hu=>hh u (by simp[hu])
   simp only[sumQ,List.length_cons,Nat.succ_mul]
   omega
 exact Nat.le_trans (this q h) (Nat.mul_le_mul_right _ hl)
def walk (f:Int->Int):Int->List (Tk α)->List (Int×List α)->Option (List (Tk α))
 |_,q,[]=>some q
 |due,q,r::rs=>if q=[]∨r.1≠due∨r.2≠srv (f due).toNat q then none else walk f (due+1) (beh (f due).toNat q) rs
end QM
namespace Dv
open PySem PySem.Spec L2 L3 L4 QM
open PyProof.Rows hiding St
def tkD (t:Str×Int):D:=.tup [.str t.1,.int t.2]
def rnD (r:Int×List Str):D:=.tup [.int r.1,.lst (r.2.map D.str)]
abbrev Ok (x:Str):Prop:=PyData.strOk x=true
theorem y4 {α:Type}{f:α->D}:∀(l:List α),toPs (l.map f)=l.map λx=>toP (f x)
 | []=>rfl
 |x::l=>by simp[toPs,y4 l]
theorem jI {α:Type} [DecidableEq α]{f:α->PyData}(hf:∀x y,PyData.eqv (f x) (f y)=decide (x=y)):∀(xs ys:List α),PyData.eqvAll (xs.map f) (ys.map f)=decide (xs=ys)
 | [],[]=>rfl
 | [],_::_=>rfl
 |_::_,[]=>rfl
 |x::xs,y::ys=>by
  show (PyData.eqv (f x) (f y)&&PyData.eqvAll (xs.map f) (ys.map f))=_
  rw[hf,jI hf xs ys]
  by_cases h1:x=y<;>by_cases h2:xs=ys<;>simp[h1,h2]
theorem xa (x y:Str):PyData.eqv (.str x) (.str y)=decide (x=y):=by
 show (x==y)=_
 by_cases h:x=y
 ·subst h;simp
 ·simp[h]
theorem xp (x y:Int):PyData.eqv (.int x) (.int y)=decide (x=y):=by
 show (x==y)=_
 by_cases h:x=y
 ·subst h;simp
 ·simp[h]
theorem Qv (xs ys:List Str):PyData.eqv (toP (.lst (xs.map D.str))) (toP (.lst (ys.map D.str)))=decide (xs=ys):=by
 show PyData.eqvAll (toPs (xs.map D.str)) (toPs (ys.map D.str))=_
 rw[y4,y4]
 exact jI (f:=PyData.str) xa xs ys
theorem Q6 (x y:Str×Int):PyData.eqv (toP (tkD x)) (toP (tkD y))=decide (x=y):=by
 show (PyData.eqv (.str x.1) (.str y.1)&&(PyData.eqv (.int x.2) (.int y.2)&&true))=_
 rw[xa,xp]
 obtain⟨a,b⟩:=x
 obtain⟨c,d⟩:=y
 by_cases h1:a=c<;>by_cases h2:b=d<;>simp[h1,h2]
theorem Qr (xs ys:List (Str×Int)):PyData.eqv (toP (.lst (xs.map tkD))) (toP (.lst (ys.map tkD)))=decide (xs=ys):=by
 show PyData.eqvAll (toPs (xs.map tkD)) (toPs (ys.map tkD))=_
 rw[y4,y4]
 exact jI (f:=λx=>toP (tkD x)) Q6 xs ys
theorem GI (x y:Int×List Str):PyData.eqv (toP (rnD x)) (toP (rnD y))=decide (x=y):=by
 show (PyData.eqv (.int x.1) (.int y.1)&&(PyData.eqv (toP (.lst (x.2.map D.str))) (toP (.lst (y.2.map D.str)))&&true))=_
 rw[Qv,xp]
 obtain⟨a,b⟩:=x
 obtain⟨c,d⟩:=y
 by_cases h1:a=c<;>by_cases h2:b=d<;>simp[h1,h2]
theorem Zl (xs ys:List (Int×List Str)):PyData.eqv (toP (.lst (xs.map rnD))) (toP (.lst (ys.map rnD)))=decide (xs=ys):=by
 show PyData.eqvAll (toPs (xs.map rnD)) (toPs (ys.map rnD))=_
 rw[y4,y4]
 exact jI (f:=λx=>toP (rnD x)) GI xs ys
theorem W2 {α:Type}{f:α->PyData}:∀(xs:List α),(∀x∈xs,PyData.canLay0 (f x)=true)->PyData.canLayAll0 (xs.map f)=true
 | [],_=>rfl
 |x::xs,h=>by
  show (PyData.canLay0 (f x)&&PyData.canLayAll0 (xs.map f))=true
  rw[h x (by simp),W2 xs λy hy=>h y (by simp[hy])];rfl
theorem WS {α:Type}{f:α->PyData}{n:Nat}:∀(xs:List α),(∀x∈xs,PyData.depth (f x)<=n)->PyData.depthAll (xs.map f)<=n
 | [],_=>Nat.zero_le _
 |x::xs,h=>by
  have h1:=h x (by simp)
  have h2:=WS xs λy hy=>h y (by simp[hy])
  show max (PyData.depth (f x)) (PyData.depthAll (xs.map f))<=n
  omega
def Lay (n:Nat)(d:D):Prop:=(toP d).canLay0=true/\(toP d).depth<=n
theorem Lay.ok {n:Nat}{d:D}(h:Lay n d)(hn:n<=64):eqOk d=true:=by
 unfold eqOk SeqAt.shaped
 rw[h.1]
 simpa using Nat.le_trans h.2 hn
theorem WR {i:Int}:Lay 0 (.int i):=⟨rfl,Nat.le_refl _⟩
theorem qx {x:Str}(h:Ok x):Lay 0 (.str x):=⟨h,Nat.le_refl _⟩
theorem kB {α:Type}{f:α->D}{n:Nat}{xs:List α}(h:∀x∈xs,Lay n (f x)):Lay (n+1) (.lst (xs.map f)):=by
 refine⟨?_,?_⟩
 ·show PyData.canLayAll0 (toPs (xs.map f))=true
  rw[y4];exact W2 xs λx hx=>(h x hx).1
 ·show PyData.depthAll (toPs (xs.map f))+1<=n+1
  rw[y4]
  exact Nat.succ_le_succ (WS xs λx hx=>(h x hx).2)
theorem Rj {t:Str×Int}(h:Ok t.1):Lay 1 (tkD t):=by
 refine⟨?_,?_⟩
 ·show (PyData.canLay0 (.str t.1)&&(PyData.canLay0 (.int t.2)&&true))=true
  rw[show PyData.canLay0 (.str t.1)=true from h];rfl
 ·show max 0 (max 0 0)+1<=1;omega
theorem Q1 {xs:List Str}(h:∀x∈xs,Ok x):Lay 1 (.lst (xs.map D.str)):=kB λx hx=>qx (h x hx)
theorem Wo {q:List (Str×Int)}(h:∀t∈q,Ok t.1):Lay 2 (.lst (q.map tkD)):=kB λt ht=>Rj (h t ht)
theorem Qg {r:Int×List Str}(h:∀x∈r.2,Ok x):Lay 2 (rnD r):=by
 obtain⟨h1,h2⟩:=Q1 h
 refine⟨?_,?_⟩
 ·show (PyData.canLay0 (.int r.1)&&((toP (.lst (r.2.map D.str))).canLay0&&true))=true
  rw[h1];rfl
 ·show max 0 (max ((toP (.lst (r.2.map D.str))).depth) 0)+1<=2;omega
theorem WW {rs:List (Int×List Str)}(h:∀r∈rs,∀x∈r.2,Ok x):Lay 3 (.lst (rs.map rnD)):=kB λr hr=>Qg (h r hr)
theorem xO {neg:Bool}{x y:D}{n m:Nat}{b:Bool}(hx:Lay n x)(hy:Lay m y)(hn:n<=64)(hm:m<=64)(e:PyData.eqv (toP x) (toP y)=b):fEq neg x y=some (.bl (if neg then !b else b)):=by
 unfold fEq eqD
 rw[hx.ok hn,hy.ok hm,e];rfl
theorem qW {neg:Bool}{xs ys:List (Str×Int)}(hx:∀x∈xs,Ok x.1)(hy:∀x∈ys,Ok x.1):fEq neg (.lst (xs.map tkD)) (.lst (ys.map tkD))=some (.bl (if neg then !decide (xs=ys) else decide (xs=ys))) :=
 xO (Wo hx) (Wo hy) (by decide) (by decide) (Qr xs ys)
theorem Jb {neg:Bool}{xs:List (Str×Int)}(hx:∀x∈xs,Ok x.1):fEq neg (.lst (xs.map tkD)) (.lst [])=some (.bl (if neg then !decide (xs=[]) else decide (xs=[]))):=qW (ys:=[]) hx (by simp)
end Dv
namespace QM
variable {α:Type} [DecidableEq α]
inductive Run (f:Int->Int):Int->List (Tk α)->List (Int×List α)->Prop
 |nil (x:Int):Run f x [] []
 |cons {x:Int} {q:List (Tk α)} {rs:List (Int×List α)}:q≠[]->Run f (x+1) (beh (f x).toNat q) rs->Run f x q ((x,srv (f x).toNat q)::rs)
variable {f:Int->Int}{x:Int}{q q':List (Tk α)}{rows rows' tl:List (Int×List α)}{v:α}
def nms (q:List (Tk α)):List α:=q.map (·.1)
theorem WE:∀ {a tl:List (Int×List α)} {x:Int} {q:List (Tk α)},Run f x q (a++tl)->∃q',walk f x q a=some q'/\Run f (x+a.length) q' tl
 | [],tl,x,q,h=>⟨q,rfl,by simpa using h⟩
 |r::a,tl,x,q,h=>by
  rw[List.cons_append] at h
  cases h with
  |cons hq hr=>
   obtain⟨q',e1,e2⟩:=WE hr
   refine⟨q',?_,?_⟩
   ·simp only[walk]
    rw[if_neg (by simp[hq])]
    exact e1
   ·have:x+1+(a.length:Int)=x+((((x,srv (f x).toNat q)::a).length:Nat):Int):=by simp;omega
    rw[<-this];exact e2
theorem ZT:∀ {rows:List (Int×List α)} {x:Int} {q:List (Tk α)},Run f x q rows->∀r∈rows,x<=r.1/\r.1 < x+rows.length
 |_,x,_,.nil _,r,hr=>by cases hr
 |_,x,_,.cons (rs:=rs) hq h,r,hr=>by
  rcases List.mem_cons.mp hr with rfl | hr
  ·simp;omega
  ·have:=ZT h r hr
   simp;omega
theorem leave {m:Nat}{q:List (Tk α)}(hv:v∈nms q)(hn:v∉nms (beh m q)):v∈srv m q:=by
 obtain⟨t,ht,rfl⟩:=List.mem_map.mp hv
 rw[<-List.take_append_drop m q] at ht
 rcases List.mem_append.mp ht with ht | ht
 ·exact List.mem_map.mpr ⟨t,ht,rfl⟩
 ·exfalso
  apply hn
  unfold nms beh
  rw[List.map_append]
  exact List.mem_append.mpr (.inr (List.mem_map.mpr ⟨t,ht,rfl⟩))
theorem Yb:∀ {rows:List (Int×List α)} {x:Int} {q:List (Tk α)},Run f x q rows->v∈nms q->∃r∈rows,v∈r.2
 |_,_,_,.nil _,hv=>by cases hv
 |_,_,_,.cons (x:=x) (q:=q) hq h,hv=>by
  by_cases hn:v∈nms (beh (f x).toNat q)
  ·obtain⟨r,h1,h2⟩:=Yb h hn
   exact⟨r,List.mem_cons_of_mem _ h1,h2⟩
  ·exact⟨_,List.mem_cons_self,leave hv hn⟩
end QM
namespace Dv
open PySem PySem.Spec L2 L3 L4 QM
open PyProof.Rows hiding St
def mk (l:List Nat):Str:=⟨l.toArray⟩
theorem Km {a b:List Nat}(h:mk a=mk b):a=b:=by
 have:a.toArray=b.toArray:=congrArg Str.cps h
 simpa using this
theorem jS (a b:List Nat):mk a++mk b=mk (a++b):=by
 show (⟨a.toArray++b.toArray⟩:Str)=⟨(a++b).toArray⟩
 simp
theorem xr (l:List Nat):(mk l).length=l.length:=by simp[mk,Str.length]
theorem Gi {l:List Nat}{a:Int}(h:l.length<=TOP)(h1:0<=a)(h2:a < l.length):fItem (.str (mk l)) (.int a)=some (.str (mk [l.getD a.toNat 0])):=by
 rw[Yf,if_pos (by rw[xr];exact h)]
 obtain⟨v,e1,e2⟩:=Ze (xs:=l) h1 h2
 have e3:l.getD a.toNat 0=v:=by rw[List.getD_eq_getElem?_getD,e2];rfl
 rw[e3,show (mk l).cps.toList=l by simp[mk],e1]
 rfl
theorem JL {l:List Nat}{k:Int}(h1:0<=k)(h2:k<=l.length):Txt.slice (mk l) none (some k)=mk (l.take k.toNat):=by
 have e:=slice_closes_to (x:=mk l) (j:=k) ⟨h1,by simp[mk];exact h2⟩
 have e:=eq_of_beq e
 rw[e]
 simp[mk]
def SIGNS:Str := "abcdefghijklmnopqrstuvwxyz0123456789"
def S36:List Nat:=[97,98,99,100,101,102,103,104,105,106,107,108,109,110,111,112,113,114,115,116,117,118,119,120,121,122,48,49,50,51,52,53,54,55,56,57]
theorem Gb:SIGNS=mk S36:=by decide +kernel
def sg (a:Int):Nat:=S36.getD a.toNat 0
theorem kH {a:Int}(h1:0<=a)(h2:a < 36):fItem (.str SIGNS) (.int a)=some (.str (mk [sg a])):=by
 rw[Gb]
 have hl:(S36.length:Int)=36:=by decide
 exact Gi (by decide) h1 (by omega)
theorem ZE {a:Int}(h1:0<=a)(h2:a < 36):sg a∈S36:=by
 unfold sg
 have hl:S36.length=36:=by decide
 have:a.toNat < S36.length:=by omega
 rw[List.getD_eq_getElem?_getD,List.getElem?_eq_getElem this]
 exact List.getElem_mem _
theorem Vz {a:Int}(h1:0<=a)(h2:a < 26):sg a∈S36.take 26:=by
 unfold sg
 have hl:(S36.take 26).length=26:=by decide
 have h3:a.toNat < (S36.take 26).length:=by omega
 have e:S36.getD a.toNat 0=(S36.take 26)[a.toNat]:=by
  rw[List.getD_eq_getElem?_getD]
  have:S36[a.toNat]?=(S36.take 26)[a.toNat]?:=by rw[List.getElem?_take];rw[if_pos (by omega)]
  rw[this,List.getElem?_eq_getElem h3];rfl
 rw[e]
 exact List.getElem_mem _
theorem GW {a b:Int}(h1:0<=a)(h2:a < 36)(h3:0<=b)(h4:b < 36)(e:sg a=sg b):a=b:=by
 unfold sg at e
 have hl:S36.length=36:=by decide
 have ha:a.toNat < S36.length:=by omega
 have hb:b.toNat < S36.length:=by omega
 rw[List.getD_eq_getElem?_getD,List.getD_eq_getElem?_getD,List.getElem?_eq_getElem ha,List.getElem?_eq_getElem hb] at e
 have nd:S36.Nodup:=by decide +kernel
 have:=(List.getElem_inj nd).mp e
 omega
def NameOk (x:Str):Prop:=∃c cs,x=mk (c::cs)/\c∈S36.take 26/\(∀d∈cs,d∈S36)/\cs.length<=7
theorem Gv {l:List Nat}(h:∀d∈l,d∈S36):Ok (mk l):=by
 show (mk l).cps.all (· < 0x110000)=true
 rw[Array.all_eq_true']
 intro c hc
 have hc:c∈l:=by simpa[mk] using hc
 have:=h c hc
 have all:S36.all (λc=>decide (c < 0x110000))=true:=by decide
 exact List.all_eq_true.mp all c this
theorem NameOk.ok {x:Str}(h:NameOk x):Ok x:=by
 obtain⟨c,cs,rfl,h1,h2,_⟩:=h
 exact Gv λd hd=>by
  rcases List.mem_cons.mp hd with rfl | hd
  ·exact List.mem_of_mem_take h1
  ·exact h2 d hd
end Dv
namespace HM
abbrev Row:=Int×Int
def Pos (l:List Row):Prop:=∀r∈l,0 < r.1/\0<=r.2
def atR (rest:Int):List Row->Int->Int
 | [],_=>rest
 |r::rs,x=>if x < r.1 then r.2 else atR rest rs (x - r.1)
def total:List Row->Int
 | []=>0
 |r::rs=>r.1+total rs
def nextC (rest:Int):List Row->Int
 | []=>rest
 |r::_=>r.2
def kstep (acc:List Row)(r:Row):List Row:=match acc.getLast? with
 |some q=>if q.2=r.2 then acc.dropLast++[(q.1+r.1,r.2)] else acc++[r]
 |none=>acc++[r]
def kend (rest:Int)(k:List Row):List Row:=match k.getLast? with
 |some q=>if q.2=rest then k.dropLast else k
 |none=>k
def krows (rest:Int)(rs:List Row):List Row:=kend rest (rs.foldl kstep [])
def Norm (rest:Int):List Row->Prop
 | []=>True
 |r::rs=>nextC rest rs≠r.2/\Norm rest rs
theorem Pos.app {l m:List Row}:Pos (l++m)↔Pos l/\Pos m:=by
 constructor
 ·intro h;exact⟨λr hr=>h r (by simp[hr]),λr hr=>h r (by simp[hr])⟩
 ·intro ⟨h1,h2⟩ r hr
  rcases List.mem_append.mp hr with h | h
  ·exact h1 r h
  ·exact h2 r h
theorem Pos.cons {r:Row}{m:List Row}:Pos (r::m)↔(0 < r.1/\0<=r.2)/\Pos m:=by
 constructor
 ·intro h;exact⟨h r (by simp),λq hq=>h q (by simp[hq])⟩
 ·intro ⟨h1,h2⟩ q hq
  rcases List.mem_cons.mp hq with rfl | h
  ·exact h1
  ·exact h2 q h
theorem Pos.nil:Pos []:=λ_ h=>by cases h
def Inv (acc:List Row):Prop:=acc=[]∨∃pre a c,acc=pre++[(a,c)]/\Norm c pre
structure Same {α:Type}(rest:Int)(Φ:List Row->α):Prop where
 merge:∀pre a b c tl,Pos pre->Pos tl->0 < a->0 < b->Φ (pre++(a,c)::(b,c)::tl)=Φ (pre++(a+b,c)::tl)
 drop:∀pre a,Pos pre->0 < a->Φ (pre++[(a,rest)])=Φ pre
theorem xY {α:Type}{rest:Int}{Φ:List Row->α}(S:Same rest Φ):∀(rs acc:List Row),Pos acc->Pos rs->Φ (rs.foldl kstep acc)=Φ (acc++rs)/\Pos (rs.foldl kstep acc)
 | [],acc,h,_=>by simp[h]
 |r::rs,acc,h,hr=>by
  obtain⟨h1,h2⟩:=Pos.cons.mp hr
  rcases List.eq_nil_or_concat acc with rfl | ⟨pre,q,rfl⟩
  ·obtain⟨e,p⟩:=xY S rs [r] (Pos.cons.mpr ⟨h1,Pos.nil⟩) h2
   exact⟨by simpa[kstep] using e,by simpa[kstep] using p⟩
  ·rw[List.concat_eq_append] at h ⊢
   obtain⟨hp,hq⟩:=Pos.app.mp h
   have hq:=(Pos.cons.mp hq).1
   have hk:kstep (pre++[q]) r=if q.2=r.2 then pre++[(q.1+r.1,r.2)] else pre++[q]++[r]:=by
    unfold kstep;rw[List.getLast?_concat];simp only[List.dropLast_concat]
   rw[List.foldl_cons,hk]
   by_cases e:q.2=r.2
   ·rw[if_pos e]
    obtain⟨e1,p⟩:=xY S rs (pre++[(q.1+r.1,r.2)]) (Pos.app.mpr ⟨hp,Pos.cons.mpr ⟨⟨by show 0 < q.1+r.1;omega,h1.2⟩,Pos.nil⟩⟩) h2
    refine⟨?_,p⟩
    rw[e1]
    have:=S.merge pre q.1 r.1 r.2 rs hp h2 hq.1 h1.1
    have hq':q=(q.1,r.2):=by rw[<-e]
    rw[hq']
    simpa using this.symm
   ·rw[if_neg e]
    obtain⟨e1,p⟩:=xY S rs (pre++[q]++[r]) (Pos.app.mpr ⟨h,Pos.cons.mpr ⟨h1,Pos.nil⟩⟩) h2
    exact⟨by rw[e1];simp,p⟩
theorem GQ {α:Type}{rest:Int}{Φ:List Row->α}(S:Same rest Φ)(rs:List Row)(h:Pos rs):Φ (krows rest rs)=Φ rs:=by
 obtain⟨e,p⟩:=xY S rs [] Pos.nil h
 rw[List.nil_append] at e
 rw[<-e]
 unfold krows kend
 rcases List.eq_nil_or_concat (rs.foldl kstep []) with h0 | ⟨pre,q,h0⟩
 ·rw[h0];rfl
 ·rw[List.concat_eq_append] at h0
  rw[h0] at p ⊢
  rw[List.getLast?_concat]
  simp only[List.dropLast_concat]
  by_cases c:q.2=rest
  ·rw[if_pos c]
   obtain⟨hp,hq⟩:=Pos.app.mp p
   have hq':q=(q.1,rest):=by rw[<-c]
   rw[hq']
   exact (S.drop pre q.1 hp (Pos.cons.mp hq).1.1).symm
  ·rw[if_neg c]
theorem J3 (rest:Int)(rs:List Row)(h:Pos rs):Pos (krows rest rs):=by
 obtain⟨_,p⟩:=xY (rest:=rest) (Φ:=λ_=>()) ⟨λ_ _ _ _ _ _ _ _ _=>rfl,λ_ _ _ _=>rfl⟩ rs [] Pos.nil h
 unfold krows kend
 rcases List.eq_nil_or_concat (rs.foldl kstep []) with h0 | ⟨pre,q,h0⟩
 ·rw[h0];exact Pos.nil
 ·rw[List.concat_eq_append] at h0
  rw[h0] at p ⊢
  rw[List.getLast?_concat]
  simp only[List.dropLast_concat]
  by_cases c:q.2=rest
  ·rw[if_pos c];exact (Pos.app.mp p).1
  ·rw[if_neg c];exact p
theorem Yw (acc:List Row)(r:Row):(kstep acc r).length<=acc.length+1:=by
 unfold kstep
 split
 ·split
  ·simp
  ·simp
 ·simp
theorem VS:∀(rs acc:List Row),(rs.foldl kstep acc).length<=acc.length+rs.length
 | [],acc=>by simp
 |r::rs,acc=>by
  have h1:=VS rs (kstep acc r)
  have h2:=Yw acc r
  rw[List.foldl_cons];simp only[List.length_cons];omega
theorem JU (rest:Int)(rs:List Row):(krows rest rs).length<=rs.length:=by
 have:=VS rs []
 simp only[List.length_nil,Nat.zero_add] at this
 unfold krows kend
 split
 ·split
  ·simp;omega
  ·exact this
 ·exact this
theorem RV (rest x:Int):Same rest λl=>atR rest l x:=by
 refine⟨λpre a b c tl hp ht ha hb=>?_,λpre a hp ha=>?_⟩
 ·show atR rest _ x=atR rest _ x
  induction pre generalizing x with
  |nil=>
   simp only[List.nil_append,atR]
   by_cases h:x < a
   ·rw[if_pos h,if_pos (by omega)]
   ·rw[if_neg h]
    by_cases h2:x - a < b
    ·rw[if_pos h2,if_pos (by omega)]
    ·rw[if_neg h2,if_neg (by omega)];congr 1;omega
  |cons r rs ih=>simp only[List.cons_append,atR];rw[ih _ (Pos.cons.mp hp).2]
 ·show atR rest _ x=atR rest _ x
  induction pre generalizing x with
  |nil=>simp only[List.nil_append,atR];split<;>rfl
  |cons r rs ih=>simp only[List.cons_append,atR];rw[ih _ (Pos.cons.mp hp).2]
theorem Yk:∀ {l:List Row},Pos l->0<=total l
 | [],_=>Int.le_refl _
 |q::qs,hq=>by have:=Yk (Pos.cons.mp hq).2;have:=(Pos.cons.mp hq).1.1;simp only[total];omega
theorem jo:∀(l m:List Row),total (l++m)=total l+total m
 | [],m=>by simp[total]
 |r::rs,m=>by simp only[List.cons_append,total,jo rs m];omega
end HM
namespace Dv
open PySem PySem.Spec L2 L3 L4 QM
open PyProof.Rows hiding St
abbrev SI:=List (Str×Int)
def kv (q:SI):List (Key×D):=q.map λt=>(.inr t.1,.int t.2)
def lookS (q:SI)(x:Str):Option Int:=(q.find? λt=>decide (t.1=x)).map (·.2)
def putS (q:SI)(x:Str)(v:Int):SI:=if (q.any λt=>decide (t.1=x))=true then q.map (λt=>if t.1=x then (t.1,v) else t) else q++[(x,v)]
theorem qk (q:SI):(kv q).length=q.length:=by simp[kv]
theorem y3 (x:Str):∀q:SI,lookD (kv q) (.inr x)=(lookS q x).map D.int
 | []=>rfl
 |t::q=>by
  have ih:=y3 x q
  unfold lookD lookS kv at ih ⊢
  by_cases h:t.1=x
  ·simp[h]
  ·simp[h] at ih ⊢;exact ih
theorem RL (x:Str)(q:SI):((kv q).any λp=>decide (p.1=.inr x))=(q.any λt=>decide (t.1=x)):=by
 induction q with
 |nil=>rfl
 |cons t q ih=>
  show (decide ((Sum.inr t.1:Key)=.inr x)||_)=_
  rw[List.any_cons]
  unfold kv at ih
  rw[ih]
  congr 1
  by_cases h:t.1=x<;>simp[h]
theorem vO (x:Str)(v:Int)(q:SI):putD (kv q) (.inr x) (.int v)=kv (putS q x v):=by
 unfold putD putS
 rw[RL]
 split
 ·unfold kv
  rw[List.map_map,List.map_map]
  refine List.map_congr_left λt _=>?_
  by_cases h:t.1=x<;>simp[h]
 ·simp[kv]
def kiS (q:SI):List (Key×Int):=q.map λt=>(.inr t.1,t.2)
theorem Wy:∀q:SI,asKI (kv q)=some (kiS q)
 | []=>rfl
 |t::q=>by
  show (asKI (kv q)).map _=_
  rw[Wy q];rfl
def keysS (q:SI):List Str:=q.map (·.1)
theorem Gr (x:Str)(v:Int)(q:SI):keysS (putS q x v)=if x∈keysS q then keysS q else keysS q++[x]:=by
 have ha:(q.any λt=>decide (t.1=x))=true↔x∈keysS q:=by
  simp[keysS,List.any_eq_true]
 unfold putS
 by_cases h:x∈keysS q
 ·rw[if_pos (ha.mpr h),if_pos h]
  unfold keysS
  rw[List.map_map]
  refine List.map_congr_left λt _=>?_
  by_cases e:t.1=x<;>simp[e]
 ·rw[if_neg (λz=>h (ha.mp z)),if_neg h]
  simp[keysS]
theorem YN {x:Str}{v:Int}{q:SI}(h:(keysS q).Nodup):(keysS (putS q x v)).Nodup:=by
 rw[Gr]
 split
 ·exact h
 ·rename_i hx
  rw[List.nodup_append]
  exact⟨h,by simp,λa ha b hb=>by rw[List.mem_singleton.mp hb];exact λz=>hx (z ▸ ha)⟩
theorem wq (x:Str)(v:Int)(q:SI):(putS q x v).length<=q.length+1:=by
 unfold putS
 split<;>simp
theorem KJ {q:SI}{x:Str}{v:Int}(nd:(keysS q).Nodup)(h:(x,v)∈q):lookS q x=some v:=by
 induction q with
 |nil=>cases h
 |cons t q ih=>
  have nd':=List.nodup_cons.mp nd
  rcases List.mem_cons.mp h with e | h
  ·subst e;simp[lookS]
  ·have hne:t.1≠x:=λz=>nd'.1 (List.mem_map.mpr ⟨(x,v),h,z.symm⟩)
   have:=ih nd'.2 h
   unfold lookS at this ⊢
   rw[List.find?_cons]
   simp[hne]
   simpa using this
theorem Vi (x:Str):∀q:SI,lookI (kiS q) (.inr x)=lookS q x
 | []=>rfl
 |t::q=>by
  have ih:=Vi x q
  unfold lookI lookS kiS at ih ⊢
  by_cases h:t.1=x
  ·simp[h]
  ·simp[h] at ih ⊢;exact ih
theorem Z5 {q:SI}(nd:(keysS q).Nodup):∀r:SI,(∀t∈r,t∈q)->hitsI (kiS q) (kiS r)=true
 | [],_=>rfl
 |t::r,h=>by
  show (match lookI (kiS q) (.inr t.1) with | none=>false | some j=>decide (t.2=j)&&hitsI (kiS q) (kiS r))=true
  rw[Vi,KJ nd (h t List.mem_cons_self)]
  simp[Z5 nd r λu hu=>h u (List.mem_cons_of_mem _ hu)]
theorem Jw {q:SI}(nd:(keysS q).Nodup):eqI (kiS q) (kiS q)=true:=by
 unfold eqI
 simp[Z5 nd q λt h=>h]
theorem vk (t:Str×Int)(d:SI)(x:Str):lookS (t::d) x=if t.1=x then some t.2 else lookS d x:=by
 unfold lookS
 by_cases h:t.1=x<;>simp[h]
theorem zay {d:SI}{x:Str}{v:Int}(h:x∈keysS d):putS d x v=d.map λt=>if t.1=x then (t.1,v) else t:=by
 unfold putS
 rw[if_pos]
 simpa[keysS,List.any_eq_true] using h
theorem Qz {d:SI}{x:Str}{v:Int}(h:x∉keysS d):(d.map λt=>if t.1=x then (t.1,v) else t)=d:=by
 induction d with
 |nil=>rfl
 |cons t d ih=>
  simp[keysS] at h
  have:t.1≠x:=λz=>h.1 z.symm
  simp[this]
  have:=ih (by simpa[keysS] using h.2)
  simpa using this
end Dv
namespace QM
variable {α:Type} [DecidableEq α]
inductive Eas:List (Tk α)->List (Tk α)->Prop
 |nil:Eas [] []
 |skip {t:Tk α} {p q:List (Tk α)}:Eas p q->Eas p (t::q)
 |keep {n:α} {a b:Int} {p q:List (Tk α)}:b<=a->Eas p q->Eas ((n,b)::p) ((n,a)::q)
def val (q:List (Tk α))(n:α):Int:=((q.find? λt=>decide (t.1=n)).map (·.2)).getD 0
variable {f g:Int->Int}
end QM
namespace Dv
open PySem PySem.Spec L2 L3 L4 QM
open PyProof.Rows hiding St
theorem R5 {d:SI}{x:Str}{v:Int}(h:x∉keysS d):putS d x v=d++[(x,v)]:=by
 unfold putS
 rw[if_neg]
 intro z
 apply h
 simpa[keysS,List.any_eq_true] using z
def endsS (d:SI)(rows:List (Int×List Str)):SI:=rows.foldl (λd r=>r.2.foldl (λd n=>putS d n r.1) d) d
theorem Gh (d:SI)(x y:Str)(v:Int):lookS (putS d x v) y=if x=y then some v else lookS d y:=by
 by_cases hx:x∈keysS d
 ·rw[zay hx]
  induction d with
  |nil=>cases hx
  |cons t d ih=>
   rw[List.map_cons,vk,vk]
   by_cases e:t.1=x
   ·rw[if_pos e]
    by_cases e2:x=y
    ·simp[e,e2]
    ·have:¬t.1=y:=λz=>e2 (e.symm.trans z)
     simp only[if_neg e2,if_neg this]
     by_cases hx':x∈keysS d
     ·rw[ih hx',if_neg e2]
     ·rw[Qz hx']
   ·rw[if_neg e]
    have hx':x∈keysS d:=by simpa[keysS,Ne.symm e] using hx
    rw[ih hx']
    by_cases e2:x=y
    ·have:¬t.1=y:=λz=>e (z.trans e2.symm)
     simp[e2,this]
    ·simp[e2]
 ·rw[R5 hx]
  have:∀d:SI,x∉keysS d->lookS (d++[(x,v)]) y=if x=y then some v else lookS d y:=by
   intro d
   induction d with
   |nil=>intro _;simp[vk]
   |cons t d ih=>
    intro h
    have h1:¬x=t.1/\x∉keysS d:=by simpa[keysS] using h
    rw[List.cons_append,vk,vk,ih h1.2]
    by_cases e2:x=y
    ·have:¬t.1=y:=λz=>h1.1 (e2.trans z.symm)
     simp[e2,this]
    ·simp[e2]
  exact this d hx
theorem j7 (v:Int)(y:Str):∀(xs:List Str) (d:SI),lookS (xs.foldl (λd n=>putS d n v) d) y=if y∈xs then some v else lookS d y
 | [],d=>by simp
 |x::xs,d=>by
  show lookS (xs.foldl (λd n=>putS d n v) (putS d x v)) y=_
  rw[j7 v y xs,Gh]
  by_cases h1:y∈xs
  ·simp[h1]
  ·by_cases h2:x=y
   ·simp[h1,h2]
   ·have:¬y=x:=λz=>h2 z.symm
    simp[h1,h2,this]
theorem Zf:∀(rows:List (Int×List Str)) (d:SI) (n:Str) (L:Int),lookS (endsS d rows) n=some L->lookS d n=some L∨∃r∈rows,n∈r.2/\r.1=L
 | [],d,n,L,h=>.inl h
 |r::rows,d,n,L,h=>by
  rcases Zf rows _ n L h with h | ⟨u,h1,h2⟩
  ·rw[j7] at h
   split at h
   ·rename_i hn
    exact .inr ⟨r,List.mem_cons_self,hn,Option.some.inj h⟩
   ·exact .inl h
  ·exact .inr ⟨u,List.mem_cons_of_mem _ h1,h2⟩
theorem ZF:∀(rows:List (Int×List Str)) (d:SI) (n:Str),(∃v,lookS d n=some v)->∃L,lookS (endsS d rows) n=some L
 | [],d,n,h=>h
 |r::rows,d,n,⟨v,h⟩=>by
  refine ZF rows _ n ?_
  rw[j7]
  split
  ·exact⟨_,rfl⟩
  ·exact⟨v,h⟩
theorem zan (a b:List (Int×List Str))(d:SI):endsS d (a++b)=endsS (endsS d a) b:=by unfold endsS;rw[List.foldl_append]
theorem Kv {f:Int->Int}{x:Int}{q:SI}{rows:List (Int×List Str)}(h:Run f x q rows){r:Int×List Str}(hr:r∈rows){n:Str}(hn:n∈r.2)(d:SI):∃L,lookS (endsS d rows) n=some L/\r.1<=L:=by
 obtain⟨a,b,rfl⟩:=List.append_of_mem hr
 obtain⟨q',_,h2⟩:=WE h
 have hb:∀u∈b,r.1<=u.1:=by
  intro u hu
  cases h2 with
  |cons hq h3=>
   have:=(ZT h3 u hu).1
   show x+a.length<=u.1
   omega
 rw[zan]
 show ∃L,lookS (endsS (r.2.foldl (λd n=>putS d n r.1) (endsS d a)) b) n=some L/\r.1<=L
 have h0:lookS (r.2.foldl (λd n=>putS d n r.1) (endsS d a)) n=some r.1:=by rw[j7,if_pos hn]
 obtain⟨L,hL⟩:=ZF b _ n ⟨_,h0⟩
 refine⟨L,hL,?_⟩
 rcases Zf b _ n L hL with z | ⟨u,u1,_,u3⟩
 ·rw[h0] at z;cases z;exact Int.le_refl _
 ·have:=hb u u1;omega
variable {f:Int->Int}
def ra (f:Int->Int):Int->SI->Nat->List (Int×List Str)
 |_,_,0=>[]
 |x,A,k+1=>(x,srv (f x).toNat A)::ra f (x+1) (beh (f x).toNat A) k
def hb (rows:List (Int×List Str))(n:Str)(t:Int):Nat:=(rows.filter λr=>decide (r.1<=t)&&decide (n∈r.2)).length
end Dv
namespace Dv
open PySem PySem.Spec L2 L3 L4
open PyProof.Rows hiding St
section
variable {i:Nat}{g:EnvD->Option D}{gl gi:EnvD->Option (List D)}{gk:EnvD->Option (List (Key×D))}{gb:EnvD->Option Bool}{b s1 s2:SD}{ρ ρ':EnvD}{d:D}{ds:List D}{kvs:List (Key×D)}{r:Option Fl}{t:Tgt}
theorem QF (h:gi ρ=some ds)(h2:forD t s1 ds ρ=some (.next ρ'))(k:b ρ'=r):sSeq (sFor t gi s1) b ρ=r:=by
 rw[<-k]
 show thenB ((gi ρ).bind λds=>forD t s1 ds ρ) b=_
 rw[h]
 show thenB (forD t s1 ds ρ) b=_
 rw[h2];rfl
theorem uf (h:gb ρ=some false)(k:b ρ=r):sSeq (sIf gb s1 sNext) b ρ=r:=by
 rw[<-k]
 show thenB ((gb ρ).bind λc=>if c then s1 ρ else sNext ρ) b=_
 rw[h];rfl
end
end Dv
namespace QX
open PySem PySem.StrLaws PySem.Builtin PySem.Builtin.Str
end QX
namespace QX
end QX
namespace My
open PySem PySem.Spec L2 L3 L4 L6 Dv
open PyProof.Rows hiding St
def top (i:Nat):Stmt:=PySem.Challenge.pw_latestturn_k51_settled.main.body.getD i (.Pass ⟨0,0,0,0⟩)
abbrev wu:Stmt:=top 9
abbrev wm:Stmt:=top 10
abbrev wI:Stmt:=top 11
abbrev xt:Stmt:=top 12
abbrev wc:Stmt:=top 13
abbrev ww:Stmt:=top 14
abbrev we:Stmt:=yd (top 15) 0
abbrev wD:Stmt:=yd (top 15) 4
abbrev xx:Stmt:=top 17
abbrev xb:Stmt:=top 19
abbrev yv:Stmt:=top 21
abbrev xX:Stmt:=top 22
abbrev wy:Stmt:=yd (top 25) 0
abbrev wg:Stmt:=yd (top 25) 1
abbrev wx:Stmt:=yd (top 25) 2
abbrev xZ:Stmt:=yd (top 24) 0
abbrev wn:Stmt:=yd (top 24) 3
abbrev wo:Stmt:=yd (top 26) 0
abbrev wC:Stmt:=yd (top 26) 1
abbrev wl:Stmt:=yd (top 26) 2
abbrev wL:Stmt:=yd (top 26) 3
abbrev xV:Stmt:=yd (top 24) 1
abbrev xF:Stmt:=yd (top 24) 0
abbrev xz:Stmt:=top 27
abbrev wH:Stmt:=top 28
abbrev xG:Stmt:=top 29
abbrev wd:Stmt:=top 31
abbrev xL:Stmt:=top 32
abbrev xK:Stmt:=top 33
abbrev w5:Stmt:=top 34
abbrev xQ:Stmt:=top 35
abbrev w4:Stmt:=top 36
abbrev yX:Stmt:=top 37
abbrev wM:Stmt:=top 38
abbrev xP:Stmt:=top 39
abbrev xR:Stmt:=top 40
abbrev wA:Stmt:=top 41
abbrev wa:Stmt:=top 42
abbrev wj:Stmt:=top 43
abbrev y2:Stmt:=top 44
def Zh:List Str:=["thing"]
def uq:SD:=(sRet (gAndV (gIs "int" (gr 0)) (gNotV (gIs "bool" (gr 0)))))
def vd:List En->Option En:=mir Zh (uq)
def qu:List Str:=["thing","low","high"]
def qT:SD:=(sRet (gAndV (gCall (len? 1 vd) frzO (nCons (gn 0) nNil)) (g3 fLe fLe (gr 1) (gr 0) (gr 2))))
def yR:List En->Option En:=mir qu (qT)
def YH:List Str:=["thing"]
def uK:SD:=(sSeq (sIf (gOr (gNot (gt (gIs "tuple" (gr 0)))) (gb' (g2 (fEq true) (gB fLen (gCons' (gr 0) gNil)) (gc (.int 2))))) (sRet (gc (.bl false))) sNext) (sRet (gAndV (gCall (len? 3 yR) frzO (nCons (gVal (g2 fItem (gr 0) (gc (.int 0)))) (nCons (gVal (gc (.int 1))) (nCons (gVal (gc (.int 100))) nNil)))) (gCall (len? 3 yR) frzO (nCons (gVal (g2 fItem (gr 0) (gc (.int 1)))) (nCons (gVal (gc (.int 0))) (nCons (gVal (gc (.int 8))) nNil)))))))
def vf:List En->Option En:=mir YH (uK)
def vo:List Str:=["rows","rest"]
def kd:EnvD->Option D:=(gCall (len? 1 vf) frzO (nCons (gn 0) nNil))
def uR:SD:=(sSeq (sIf (gOr (gNot (gt (gIs "list" (gr 0)))) (gb' (g2 fGt (gB fLen (gCons' (gr 0) gNil)) (gc (.int 16))))) sNever sNext) (sSeq (sIf (gNot (gt (gB fAll (gCons' (gFz (gComp ["row"] [] (.name 0) tYes kd (gIt (gr 0)))) gNil)))) sNever sNext) (sIf (gNot (gt (gCall (len? 3 yR) frzO (nCons (gn 1) (nCons (gVal (gc (.int 1))) (nCons (gVal (gc (.int 8))) nNil)))))) sNever sNext)))
def vy:List En->Option En:=mir vo (uR)
def vR:List Str:=["rows","rest","kept","turns","counters"]
def vc:SD:=(sIf (gAnd (gt (gr 2)) (gb' (g2 (fEq false) (g2 fItem (g2 fItem (gr 2) (gNeg (gc (.int 1)))) (gc (.int 1))) (gr 4)))) (sPut 2 (gNeg (gc (.int 1))) (gTup' (gCons' (g2 fPlus (g2 fItem (g2 fItem (gr 2) (gNeg (gc (.int 1)))) (gc (.int 0))) (gr 3)) (gCons' (gv 4) gNil)))) (sIf (gb' (g2 fGt (gr 3) (gc (.int 0)))) (sApp 2 (gTup' (gCons' (gv 3) (gCons' (gv 4) gNil)))) sNext))
def uC:SD:=(sSeq (sSetA 2 (gLst gNil)) (sSeq (sFor (.tup [3,4]) (gIt (gf 0)) vc) (sSeq (sIf (gAnd (gt (gr 2)) (gb' (g2 (fEq false) (g2 fItem (g2 fItem (gr 2) (gNeg (gc (.int 1)))) (gc (.int 1))) (gr 1)))) (sPop 2) sNext) (sRetV 2))))
def v2:List En->Option En:=mir vR (uC)
def jx:List Str:=["rows","spans","start","turns","counters"]
def kG:SD:=(sSeq (sApp 1 (gTup' (gCons' (gv 2) (gCons' (g2 fPlus (gr 2) (gr 3)) (gCons' (gv 4) gNil))))) (sSet 2 (g2 fPlus (gr 2) (gr 3))))
def qN:SD:=(sSeq (sSetA 1 (gLst gNil)) (sSeq (sSet 2 (gc (.int 0))) (sSeq (sFor (.tup [3,4]) (gIt (gf 0)) kG) (sRetV 1))))
def wP:List En->Option En:=mir jx (qN)
def vJ:List Str:=["self","rows","rest"]
def v9 (C:Str->Addr):SD:=(sSeq (sExpr (gCall (len? 2 vy) frzO (nCons (gn 1) (nCons (gn 2) nNil)))) (sSeq (sFldD 0 (C "Hours") "kept_rest" (gv 2)) (sFldD 0 (C "Hours") "spans" (gCall (len? 1 wP) frzO (nCons (gVal (gCall (len? 2 v2) frzO (nCons (gn 1) (nCons (gn 2) nNil)))) nNil)))))
def xN (C:Str->Addr):List En->Option (List Str×List D):=mirI (C "Hours") vJ (v9 C) 0 0
def jK:List Str:=["self","turn","low","high","middle"]
def jt (C:Str->Addr):SD:=(sSeq (sSet 4 (g2 fDiv (g2 fPlus (gr 2) (gr 3)) (gc (.int 2)))) (sIf (gb' (g2 fLt (gr 1) (g2 fItem (g2 fItem (gFld (C "Hours") "spans" (gv 0)) (gr 4)) (gc (.int 1))))) (sSet 3 (gv 4)) (sSet 2 (g2 fPlus (gr 4) (gc (.int 1))))))
def qY (C:Str->Addr):SD:=(sSeq (sSet 2 (gc (.int 0))) (sSeq (sSet 3 (gB fLen (gCons' (gFld (C "Hours") "spans" (gv 0)) gNil))) (sSeq (sWhile (gb' (g2 fLt (gr 2) (gr 3))) (jt C)) (sRet (gIf (gb' (g2 fLt (gr 2) (gB fLen (gCons' (gFld (C "Hours") "spans" (gv 0)) gNil)))) (g2 fItem (g2 fItem (gFld (C "Hours") "spans" (gv 0)) (gr 2)) (gc (.int 2))) (gFld (C "Hours") "kept_rest" (gv 0)))))))
def xq (C:Str->Addr):List En->Option En:=mir jK (qY C)
def WG:List Str:=["queue"]
def uL:EnvD->Option D:=(gv 0)
def kM:SD:=(sRetA (gComp ["name","left"] [] (.tup [0,1]) tYes uL (gIt (gr 0))))
def vK:List En->Option En:=mir WG (kM)
def xD:List Str:=["queue","many","served","begun"]
def ja:EnvD->Option D:=(gTup' (gCons' (gv 0) (gCons' (g2 fSub (gr 1) (gc (.int 1))) gNil)))
def jk:SD:=(sSeq (sSet 2 (gFz (gSl (gr 0) gNone (gSome (gr 1))))) (sSeq (sSet 3 (gFz (gComp ["name","left"] [] (.tup [0,1]) (gb' (g2 fGt (gr 1) (gc (.int 1)))) ja (gIt (gr 2))))) (sRet (gTup' (gCons' (gFz (gCall (len? 1 vK) accO (nCons (gn 2) nNil))) (gCons' (gFz (g2 fCatS (gr 3) (gFz (gSl (gr 0) (gSome (gr 1)) gNone)))) gNil))))))
def yx:List En->Option En:=mir xD (jk)
def jN:List Str:=["queue","hours","begin","real","waiting","rows","turn","served"]
def wb (C:Str->Addr):SD:=(sSeq (sSet 6 (g2 fPlus (gr 2) (gB fLen (gCons' (gr 5) gNil)))) (sSeq (sSet 7 (gCall (len? 2 yx) frzO (nCons (gn 4) (nCons (gVal (gMeth (C "Hours") "at" (len? 2 (xq C)) frzO (gv 1) (nCons (gn 6) nNil))) nNil)))) (sSeq (sApp 5 (gTup' (gCons' (gv 6) (gCons' (g2 fItem (gr 7) (gc (.int 0))) gNil)))) (sSet 4 (g2 fItem (gr 7) (gc (.int 1)))))))
def uk (C:Str->Addr):SD:=(sSeq (sSetB 4 (gIfB (gb' (g2 (fIs false) (gr 3) (gc .non))) (gvb 0) (gVal gNev))) (sSeq (sSetA 5 (gLst gNil)) (sSeq (sWhile (gt (gr 4)) (wb C)) (sRetV 5))))
def xA (C:Str->Addr):List En->Option En:=mir jN (uk C)
def jm:List Str:=["rows","ends","turn","names","name"]
def uQ:SD:=(sPutD 1 (gr 4) (gv 2))
def uN:SD:=(sFor (.name 4) (gIt (gf 3)) uQ)
def uG:SD:=(sSeq (sSetD 1 gNewD) (sSeq (sFor (.tup [2,3]) (gIt (gf 0)) uN) (sRetVD 1)))
def vC:List En->Option En:=mir jm (uG)
def Z0:List Str:=["self"]
def qJ (C:Str->Addr):SD:=(sRet (gc (.bl true)))
def yH (C:Str->Addr):List En->Option En:=mir Z0 (qJ C)
def uT:List Str:=["self"]
def jR (C:Str->Addr):SD:=(sRet (gc (.str "granted")))
def yC (C:Str->Addr):List En->Option En:=mir uT (jR C)
def vL:List Str:=["self","queue","hours","begin"]
def vX (C:Str->Addr):SD:=(sSeq (sFldD 0 (C "Granted") "queue" (gFz (gB fList (gCons' (gr 1) gNil)))) (sSeq (sFldD 0 (C "Granted") "hours" (gv 2)) (sFldD 0 (C "Granted") "begin" (gv 3))))
def xy (C:Str->Addr):List En->Option (List Str×List D):=mirI (C "Granted") vL (vX C) 0 0
def YL:List Str:=["self"]
def uB (C:Str->Addr):SD:=(sRetT (gTupT (tCn (gLf (gMeth (C "Granted") "word" (len? 1 (yC C)) frzO (gv 0) nNil)) tNl)))
def yb (C:Str->Addr):List En->Option En:=mir YL (uB C)
def qS:List Str:=["self"]
def jB (C:Str->Addr):SD:=(sRet (gc (.str "late")))
def yK (C:Str->Addr):List En->Option En:=mir qS (jB C)
def Wb:List Str:=["self"]
def ue (C:Str->Addr):SD:=(sRet (gc (.bl false)))
def yJ (C:Str->Addr):List En->Option En:=mir Wb (ue C)
def Vu:List Str:=["self","queue","hours","begin"]
def uU (C:Str->Addr):SD:=(sSeq (sFldD 0 (C "Late") "queue" (gFz (gB fList (gCons' (gr 1) gNil)))) (sSeq (sFldD 0 (C "Late") "hours" (gv 2)) (sFldD 0 (C "Late") "begin" (gv 3))))
def yV (C:Str->Addr):Addr->Addr->List En->Option (List Str×List D):=mirI (C "Late") Vu (uU C)
def Vp:List Str:=["rows"]
def qH:SD:=(sRetT (gCompT ["turn","names"] [] (.tup [0,1]) tYes (gTupT (tCn (gLf (gv 0)) (tCn (gLs (gB fList (gCons' (gr 1) gNil))) tNl))) (gIt (gr 0))))
def xh:List En->Option En:=mir Vp (qH)
def jd:List Str:=["self","queue","hours","begin","name","promised","turn","run"]
def j3 (C:Str->Addr):SD:=(sSeq (sBase 0 (C "Late") 3 (yV C) (nCons (gn 1) (nCons (gn 2) (nCons (gn 3) nNil)))) (sSeq (sFldD 0 (C "Late") "name" (gv 4)) (sSeq (sFldD 0 (C "Late") "promised" (gv 5)) (sSeq (sFldD 0 (C "Late") "turn" (gv 6)) (sFldD 0 (C "Late") "run" (gCall (len? 1 xh) frzO (nCons (gn 7) nNil)))))))
def yY (C:Str->Addr):List En->Option (List Str×List D):=mirI (C "Late") jd (j3 C) 0 0
def WU:List Str:=["self"]
def kl (C:Str->Addr):SD:=(sRetT (gTupT (tCn (gLf (gMeth (C "Late") "word" (len? 1 (yK C)) frzO (gv 0) nNil)) (tCn (gLf (gFld (C "Late") "name" (gv 0))) (tCn (gLf (gFld (C "Late") "promised" (gv 0))) (tCn (gLf (gFld (C "Late") "turn" (gv 0))) (tCn (gCall (len? 1 xh) treO (nCons (gVal (gFld (C "Late") "run" (gv 0))) nNil)) tNl)))))))
def zX (C:Str->Addr):List En->Option En:=mir WU (kl C)
def vn:List Str:=["queue","ends","promises","name","left"]
def yI:SD:=(sIf (gAnd (gb' (gInD false (gr 3) (gk' 2))) (gb' (g2 fGt (gGetD (gk' 1) (gr 3)) (gGetD (gk' 2) (gr 3))))) (sRetV 3) sNext)
def jY:SD:=(sSeq (sFor (.tup [3,4]) (gIt (gf 0)) yI) (sRet (gc .non)))
def xS:List En->Option En:=mir vn (jY)
def vw:List Str:=["queue","hours","begin","promises","run","ends","late"]
def vU (C:Str->Addr):SD:=(sSeq (sSet 4 (gFz (gCall (len? 3 (mN (xA C))) accO (nCons (gn 0) (nCons (gn 1) (nCons (gn 2) nNil)))))) (sSeq (sSetD 5 (gCall (len? 1 vC) dctO (nCons (gn 4) nNil))) (sSeq (sSet 6 (gCall (len? 3 xS) frzO (nCons (gn 0) (nCons (gn 5) (nCons (gn 3) nNil))))) (sSeq (sIf (gb' (g2 (fIs false) (gr 6) (gc .non))) (sRet (gMake (C "Granted") 3 (xy C) (nCons (gn 0) (nCons (gn 1) (nCons (gn 2) nNil))))) sNext) (sRet (gMake (C "Late") 7 (yY C) (nCons (gn 0) (nCons (gn 1) (nCons (gn 2) (nCons (gn 6) (nCons (gVal (gGetD (gk' 3) (gr 6))) (nCons (gVal (gGetD (gk' 5) (gr 6))) (nCons (gn 4) nNil)))))))))))))
def yh (C:Str->Addr):List En->Option En:=mir vw (vU C)
def xj:List Str:=["self","promises"]
def jO (C:Str->Addr):SD:=(sRet (yAlt (gMeth (C "Granted") "granted" (len? 1 (yH C)) frzO (gCall (len? 4 (yh C)) frzO (nCons (gVal (gFld (C "Granted") "queue" (gv 0))) (nCons (gVal (gFld (C "Granted") "hours" (gv 0))) (nCons (gVal (gFld (C "Granted") "begin" (gv 0))) (nCons (gn 1) nNil))))) nNil) (gMeth (C "Late") "granted" (len? 1 (yJ C)) frzO (gCall (len? 4 (yh C)) frzO (nCons (gVal (gFld (C "Granted") "queue" (gv 0))) (nCons (gVal (gFld (C "Granted") "hours" (gv 0))) (nCons (gVal (gFld (C "Granted") "begin" (gv 0))) (nCons (gn 1) nNil))))) nNil)))
def y6 (C:Str->Addr):List En->Option En:=mir xj (jO C)
def up:List Str:=["self","promises"]
def vZ (C:Str->Addr):SD:=(sRet (g2 (fEq false) (yAlt (gMeth (C "Granted") "told" (len? 1 (yb C)) frzO (gCall (len? 4 (yh C)) frzO (nCons (gVal (gFld (C "Late") "queue" (gv 0))) (nCons (gVal (gFld (C "Late") "hours" (gv 0))) (nCons (gVal (gFld (C "Late") "begin" (gv 0))) (nCons (gn 1) nNil))))) nNil) (gMeth (C "Late") "told" (len? 1 (zX C)) frzO (gCall (len? 4 (yh C)) frzO (nCons (gVal (gFld (C "Late") "queue" (gv 0))) (nCons (gVal (gFld (C "Late") "hours" (gv 0))) (nCons (gVal (gFld (C "Late") "begin" (gv 0))) (nCons (gn 1) nNil))))) nNil)) (gMeth (C "Late") "told" (len? 1 (zX C)) frzO (gv 0) nNil)))
def yy (C:Str->Addr):List En->Option En:=mir up (vZ C)
def vv:List Str:=["_law_script","_law_k"]
def j9:SD:=(sSeq (sIf (gb' (g2 fLt (gr 1) (gB fLen (gCons' (gr 0) gNil)))) (sRet (g2 fItem (gr 0) (gr 1))) sNext) (sRet (gc (.int 0))))
def y8:List En->Option En:=mir vv (j9)
def jP:List Str:=["_law_cell_here","_law_k","_law_number"]
def kW:SD:=(sSeq (sSet 2 (g2 fMod (g2 fPlus (g2 fPlus (g2 fMul (g2 fMod (gr 0) (gc (.int 2147483647))) (gc (.int 48271))) (g2 fMul (gc (.int 69621)) (gr 1))) (gc (.int 7))) (gc (.int 2147483647)))) (sSeq (sSet 2 (g2 fMod (g2 fMul (gr 2) (gr 2)) (gc (.int 2147483629)))) (sRet (g2 fMod (g2 fPlus (g2 fPlus (g2 fMul (gr 2) (gr 2)) (g2 fMul (gc (.int 16807)) (gr 2))) (gc (.int 11))) (gc (.int 2147483587))))))
def wW:List En->Option En:=mir jP (kW)
def jy:List Str:=["_law_script","_law_at_here","_law_bases","_law_cell_here","_law_found","_law_k","_law_base"]
def jG:SD:=(sIf (gb' (g2 (fEq false) (g2 fAnd (g2 fShr (gCall (len? 2 y8) frzO (nCons (gn 0) (nCons (gVal (gc (.int 0))) nNil))) (g2 fMod (gr 1) (gc (.int 8)))) (gc (.int 1))) (gc (.int 0)))) (sSeq (sApp 4 (g2 fMod (gr 3) (gr 6))) (sSet 3 (g2 fDiv (gr 3) (gr 6)))) (sApp 4 (g2 fMod (g2 fDiv (gCall (len? 2 wW) frzO (nCons (gn 3) (nCons (gn 5) nNil))) (gc (.int 8))) (gr 6))))
def ko:SD:=(sSeq (sSet 3 (gCall (len? 2 y8) frzO (nCons (gn 0) (nCons (gn 1) nNil)))) (sSeq (sSetA 4 (gLst gNil)) (sSeq (sFor (.tup [5,6]) (gEn (gCons' (gf 2) gNil)) jG) (sRetV 4))))
def ym:List En->Option En:=mir jy (ko)
def jn:List Str:=["_law_cell_here","_law_k","_law_signs","_law_size","_law_at_here","_law_left","_law_word","_law_j"]
def jC:SD:=(sSeq (sSet 6 (g2 fPlus (gr 6) (g2 fItem (gr 2) (g2 fMod (gr 5) (g2 fItem (gFz (gLst (gCons' (gc (.int 36)) (gCons' (gc (.int 26)) gNil)))) (gB fInt (gCons' (g2 (fEq false) (gr 7) (gc (.int 0))) gNil))))))) (sSet 5 (g2 fDiv (gr 5) (gc (.int 36)))))
def kL:SD:=(sSeq (sSet 2 (gc (.str "abcdefghijklmnopqrstuvwxyz0123456789"))) (sSeq (sSet 3 (g2 fMod (gr 0) (gc (.int 8)))) (sSeq (sSet 4 (g2 fMod (g2 fDiv (gr 0) (gc (.int 8))) (g2 fPlus (gr 3) (gc (.int 1))))) (sSeq (sSet 5 (g2 fDiv (gr 0) (gc (.int 72)))) (sSeq (sSet 6 (gc (.str ""))) (sSeq (sFor (.name 7) (gR1 (gCons' (gr 3) gNil)) jC) (sRet (g2 fPlus (g2 fPlus (gSlS (gr 6) gNone (gSome (gr 4))) (g2 fItem (gr 2) (g2 fMod (g2 fPlus (gr 5) (gr 1)) (gc (.int 26))))) (gSlS (gr 6) (gSome (gr 4)) gNone)))))))))
def wR:List En->Option En:=mir jn (kL)
def vS:List Str:=["_law_script","_law_many","_law_begin","_law_rest","_law_wide","_law_drawn","_law_rows","_law_k","_law_tickets","_law_long","_law_lefts","_law_queue","_law_left"]
def kF:SD:=(sApp 11 (gTup' (gCons' (gCall (len? 2 wR) frzO (nCons (gVal (gCall (len? 2 y8) frzO (nCons (gn 0) (nCons (gVal (gc (.int 4))) nNil)))) (nCons (gn 7) nNil))) (gCons' (g2 fPlus (gc (.int 1)) (g2 fMod (gr 12) (g2 fItem (gFz (gLst (gCons' (gc (.int 20)) (gCons' (gc (.int 5)) (gCons' (gc (.int 3)) (gCons' (gc (.int 5)) gNil)))))) (gr 9)))) gNil))))
def qv:SD:=(sApp 6 (gTup' (gCons' (g2 fPlus (gc (.int 1)) (g2 fItem (gr 5) (g2 fMul (gc (.int 2)) (gr 7)))) (gCons' (g2 fMod (g2 fItem (gr 5) (g2 fPlus (g2 fMul (gc (.int 2)) (gr 7)) (gc (.int 1)))) (g2 fItem (gFz (gLst (gCons' (gc (.int 9)) (gCons' (gc (.int 4)) (gCons' (gc (.int 3)) (gCons' (gc (.int 2)) gNil)))))) (gr 4))) gNil))))
def ug:SD:=(sSeq (sAsgL [1,2,3,4] (gFz (gCall (len? 3 ym) accO (nCons (gn 0) (nCons (gVal (gc (.int 1))) (nCons (gVal (gFz (gLst (gCons' (gc (.int 6)) (gCons' (gc (.int 21)) (gCons' (gc (.int 3)) (gCons' (gc (.int 4)) gNil))))))) nNil)))))) (sSeq (sSet 5 (gFz (gCall (len? 3 ym) accO (nCons (gn 0) (nCons (gVal (gc (.int 2))) (nCons (gVal (gFz (g2 fRep (gFz (gLst (gCons' (gc (.int 6)) (gCons' (gc (.int 36)) gNil)))) (gr 1)))) nNil)))))) (sSeq (sSetA 6 (gLst gNil)) (sSeq (sFor (.name 7) (gR1 (gCons' (gr 1) gNil)) qv) (sSeq (sAsgL [8,9] (gFz (gCall (len? 3 ym) accO (nCons (gn 0) (nCons (gVal (gc (.int 3))) (nCons (gVal (gFz (gLst (gCons' (gc (.int 9)) (gCons' (gc (.int 4)) gNil))))) nNil)))))) (sSeq (sSet 10 (gFz (gSl (gFz (gCall (len? 3 ym) accO (nCons (gn 0) (nCons (gVal (gc (.int 3))) (nCons (gVal (gFz (g2 fCatS (gFz (gLst (gCons' (gc (.int 9)) (gCons' (gc (.int 4)) gNil)))) (gFz (g2 fRep (gFz (gLst (gCons' (gc (.int 20)) gNil))) (gr 8)))))) nNil))))) (gSome (gc (.int 2))) gNone))) (sSeq (sSetA 11 (gLst gNil)) (sSeq (sFor (.tup [7,12]) (gEn (gCons' (gf 10) gNil)) kF) (sFrz 6 (sFrz 11 (sRet (gTup' (gCons' (gv 11) (gCons' (gv 6) (gCons' (g2 fPlus (gc (.int 1)) (gr 3)) (gCons' (gv 2) gNil))))))))))))))))
def wX:List En->Option En:=mir vS (ug)
def wQ:List Str:=["_law_side","_law_turn","_law_rows","_law_rest","_law_first","_law_last","_law_counters","_law_left","_law_turns","_law_there"]
def jz:SD:=(sSeq (sIf (gb' (g2 fLt (gr 7) (gr 8))) (sSeq (sSet 6 (gv 9)) sBrk) sNext) (sSet 7 (g2 fSub (gr 7) (gr 8))))
def jX:SD:=(sSeq (sAsg (.tup [2,3,4,5]) (gv 0)) (sSeq (sSet 6 (gv 3)) (sSeq (sSet 7 (gv 1)) (sSeq (sFor (.tup [8,9]) (gIt (gf 2)) jz) (sRet (g2 fSub (gr 6) (gB fInt (gCons' (g3 fLe fLe (gr 4) (gr 1) (gr 5)) gNil))))))))
def yL:List En->Option En:=mir wQ (jX)
def w6:List Str:=["_law_queue","_law_side","_law_begin","_law_some","_law_found","_law_turn","_law_many"]
def Zs:EnvD->Option D:=(gTup' (gCons' (gv 0) (gCons' (g2 fSub (gr 1) (gc (.int 1))) gNil)))
def uH:EnvD->Option D:=(gv 0)
def Za:SD:=(sSeq (sSet 6 (gCall (len? 2 yL) frzO (nCons (gn 1) (nCons (gn 5) nNil)))) (sSeq (sApp 4 (gTup' (gCons' (gv 5) (gCons' (gFz (gComp ["_law_name_here","_law_left"] [] (.tup [0,1]) tYes uH (gIt (gFz (gSl (gr 3) gNone (gSome (gr 6))))))) gNil)))) (sSeq (sSet 3 (gFz (g2 fCatS (gFz (gComp ["_law_name_here","_law_left"] [] (.tup [0,1]) (gb' (g2 fGt (gr 1) (gc (.int 1)))) Zs (gIt (gFz (gSl (gr 3) gNone (gSome (gr 6))))))) (gFz (gSl (gr 3) (gSome (gr 6)) gNone))))) (sSet 5 (g2 fPlus (gr 5) (gc (.int 1)))))))
def qR:SD:=(sSeq (sSet 3 (gFz (gB fList (gCons' (gr 0) gNil)))) (sSeq (sSetA 4 (gLst gNil)) (sSeq (sSet 5 (gv 2)) (sSeq (sWhile (gb' (g2 (fEq true) (gr 3) (gFz (gLst gNil)))) Za) (sRetV 4)))))
def yD:List En->Option En:=mir w6 (qR)
def ju:List Str:=["_law_run_here","_law_ends_here","_law_turn","_law_names","_law_name_here"]
def kC:SD:=(sPutD 1 (gr 4) (gv 2))
def uw:SD:=(sFor (.name 4) (gIt (gf 3)) kC)
def u9:SD:=(sSeq (sSetD 1 gNewD) (sSeq (sFor (.tup [2,3]) (gIt (gf 0)) uw) (sRetVD 1)))
def xn:List En->Option En:=mir ju (u9)
def vG:List Str:=["_law_queue","_law_side","_law_begin","_law_promises_here","_law_run_here","_law_ends_here","_law_name_here","_law_left"]
def yU:SD:=(sIf (gAnd (gb' (gInD false (gr 6) (gk' 3))) (gb' (g2 fGt (gGetD (gk' 5) (gr 6)) (gGetD (gk' 3) (gr 6))))) (sRet (gTup' (gCons' (gc (.str "late")) (gCons' (gv 6) (gCons' (gGetD (gk' 3) (gr 6)) (gCons' (gGetD (gk' 5) (gr 6)) (gCons' (gv 4) gNil))))))) sNext)
def vV:SD:=(sSeq (sSet 4 (gFz (gCall (len? 3 yD) accO (nCons (gn 0) (nCons (gn 1) (nCons (gn 2) nNil)))))) (sSeq (sSetD 5 (gCall (len? 1 xn) dctO (nCons (gn 4) nNil))) (sSeq (sFor (.tup [6,7]) (gIt (gf 0)) yU) (sRet (gTup' (gCons' (gc (.str "granted")) gNil))))))
def yG:List En->Option En:=mir vG (vV)
def j8:List Str:=["_law_script","_law_at_here","_law_queue","_law_side","_law_begin","_law_ends_here","_law_slack","_law_promises_here","_law_k","_law_ticket","_law_more"]
def yW:SD:=(sSeq (sSet 10 (g2 fItem (gr 6) (g2 fPlus (gr 8) (gc (.int 1))))) (sIf (gb' (g2 fLt (gr 10) (gc (.int 10)))) (sPutD 7 (g2 fItem (gr 9) (gc (.int 0))) (g2 fPlus (gGetD (gk' 5) (g2 fItem (gr 9) (gc (.int 0)))) (g2 fMod (gr 10) (gc (.int 7))))) (sIf (gAnd (gb' (g2 (fEq false) (gr 10) (gc (.int 10)))) (gb' (g2 (fEq false) (g2 fItem (gr 6) (gc (.int 0))) (gc (.int 3))))) (sPutD 7 (g2 fItem (gr 9) (gc (.int 0))) (g2 fSub (g2 fSub (gGetD (gk' 5) (g2 fItem (gr 9) (gc (.int 0)))) (gc (.int 1))) (g2 fMod (gr 8) (gc (.int 3))))) sNext)))
def qQ:SD:=(sSeq (sSetD 5 (gCall (len? 1 xn) dctO (nCons (gVal (gFz (gCall (len? 3 yD) accO (nCons (gn 2) (nCons (gn 3) (nCons (gn 4) nNil)))))) nNil))) (sSeq (sSet 6 (gFz (gCall (len? 3 ym) accO (nCons (gn 0) (nCons (gn 1) (nCons (gVal (gFz (g2 fCatS (gFz (gLst (gCons' (gc (.int 4)) gNil))) (gFz (g2 fRep (gFz (gLst (gCons' (gc (.int 12)) gNil))) (gB fLen (gCons' (gr 2) gNil))))))) nNil)))))) (sSeq (sSetD 7 (gLit1 "nobody" 0)) (sSeq (sFor (.tup [8,9]) (gEn (gCons' (gf 2) gNil)) yW) (sRetVD 7)))))
def vh:List En->Option En:=mir j8 (qQ)
def jL:List Str:=["_law_found","_law_due"]
def uj:SD:=(sRet (gAndV (gIs "bool" (gr 0)) (g2 (fEq false) (gr 0) (gr 1))))
def x0:List En->Option En:=mir jL (uj)
def vt:List Str:=["_law_verdict_here","_law_queue","_law_side","_law_begin","_law_due","_law_turn"]
def vp (C:Str->Addr):SD:=(sIf (gb' (g2 (fEq true) (gMeth (C "Hours") "at" (len? 2 (xq C)) frzO (yAlt (gFld (C "Granted") "hours" (gv 0)) (gFld (C "Late") "hours" (gv 0))) (nCons (gn 5) nNil)) (gCall (len? 2 yL) frzO (nCons (gn 2) (nCons (gn 5) nNil))))) (sRet (gc (.bl false))) sNext)
def jp (C:Str->Addr):SD:=(sSeq (sIf (gOr (gNot (gt (gIsO [((C "Granted"),true),((C "Late"),true)] (gv 0)))) (gb' (g2 (fEq false) (gIsO [((C "Granted"),false),((C "Late"),true)] (gv 0)) (gIsO [((C "Granted"),true),((C "Late"),false)] (gv 0))))) (sRet (gc (.bl false))) sNext) (sSeq (sIf (gOr (gb' (g2 (fEq true) (yAlt (gFld (C "Granted") "queue" (gv 0)) (gFld (C "Late") "queue" (gv 0))) (gr 1))) (gOr (gb' (g2 (fEq true) (yAlt (gFld (C "Granted") "begin" (gv 0)) (gFld (C "Late") "begin" (gv 0))) (gr 3))) (gb' (g2 (fEq true) (yAlt (gMeth (C "Granted") "word" (len? 1 (yC C)) frzO (gv 0) nNil) (gMeth (C "Late") "word" (len? 1 (yK C)) frzO (gv 0) nNil)) (g2 fItem (gr 4) (gc (.int 0))))))) (sRet (gc (.bl false))) sNext) (sSeq (sFor (.name 5) (gIt (gFz (gLst (gCons' (gc (.int 0)) (gCons' (gv 3) (gCons' (g2 fPlus (gr 3) (gc (.int 9))) (gCons' (gc (.int 1000)) gNil))))))) (vp C)) (sSeq (sIf (gOr (gNot (gt (gCall (len? 2 x0) frzO (nCons (gVal (yAlt (gMeth (C "Granted") "granted" (len? 1 (yH C)) frzO (gv 0) nNil) (gMeth (C "Late") "granted" (len? 1 (yJ C)) frzO (gv 0) nNil))) (nCons (gVal (g2 (fEq false) (g2 fItem (gr 4) (gc (.int 0))) (gc (.str "granted")))) nNil))))) (gb' (g2 (fEq true) (gIsO [((C "Granted"),true),((C "Late"),false)] (gv 0)) (yAlt (gMeth (C "Granted") "granted" (len? 1 (yH C)) frzO (gv 0) nNil) (gMeth (C "Late") "granted" (len? 1 (yJ C)) frzO (gv 0) nNil))))) (sRet (gc (.bl false))) sNext) (sSeq (sIf (gb' (g2 (fEq false) (g2 fItem (gr 4) (gc (.int 0))) (gc (.str "granted")))) (sRet (gc (.bl true))) sNext) (sRet (g2 (fEq false) (gTup' (gCons' (gFld (C "Late") "name" (gv 0)) (gCons' (gFld (C "Late") "promised" (gv 0)) (gCons' (gFld (C "Late") "turn" (gv 0)) (gCons' (gFld (C "Late") "run" (gv 0)) gNil))))) (gSlT (gr 4) (gSome (gc (.int 1))) gNone))))))))
def wz (C:Str->Addr):List En->Option En:=mir vt (jp C)
def kj:List Str:=["_law_queue","_law_side","_law_begin","_law_promises_here","_law_due","_law_handed","_law_some","_law_verdict_here","_law_found","_law_other","_law_name_here","_law_left"]
def jH:SD:=(sPutD 9 (gr 10) (g2 fSub (gGet2D (gk' 9) (gr 10) (gv 2)) (g2 fMod (gr 11) (gc (.int 3)))))
def wN (C:Str->Addr):SD:=(sSeq (sSet 4 (gCall (len? 4 yG) frzO (nCons (gn 0) (nCons (gn 1) (nCons (gn 2) (nCons (gn 3) nNil)))))) (sSeq (sSetD 5 (gk' 3)) (sSeq (sSetA 6 (gB fList (gCons' (gr 0) gNil))) (sSeq (sSet 7 (gCall (len? 4 (yh C)) frzO (nCons (gn 6) (nCons (gVal (gMake (C "Hours") 2 (xN C) (nCons (gVal (gFz (gB fList (gCons' (g2 fItem (gr 1) (gc (.int 0))) gNil)))) (nCons (gVal (g2 fItem (gr 1) (gc (.int 1)))) nNil)))) (nCons (gn 2) (nCons (gn 5) nNil)))))) (sSeq (sIf (gOr (gb' (g2 (fEq true) (gr 6) (gr 0))) (gOr (gb' (gEqD true (gk' 5) (gk' 3))) (gNot (gt (gCall (len? 5 (wz C)) frzO (nCons (gn 7) (nCons (gn 0) (nCons (gn 1) (nCons (gn 2) (nCons (gn 4) nNil)))))))))) (sRet (gc (.bl false))) sNext) (sSeq (sMut 6 mClear gNil) (sSeq (sSetT 8 (yAlt (gMeth (C "Granted") "told" (len? 1 (yb C)) treO (gv 7) nNil) (gMeth (C "Late") "told" (len? 1 (zX C)) treO (gv 7) nNil))) (sSeq (sIf (gOr (gNot (gt (gIs "tuple" (gh 8)))) (gOr (gb' (g2 (fEq true) (gh 8) (gr 4))) (gb' (g2 (fIsB true) (yAlt (gMeth (C "Granted") "holds" (len? 2 (y6 C)) frzO (gv 7) (nCons (gn 3) nNil)) (gMeth (C "Late") "holds" (len? 2 (yy C)) frzO (gv 7) (nCons (gn 3) nNil))) (gc (.bl true)))))) (sRet (gc (.bl false))) sNext) (sSeq (sIf (gb' (g2 (fEq false) (g2 fItem (gr 4) (gc (.int 0))) (gc (.str "late")))) (sSeq (sClrP 8 (pIx 8 pRoot (gc (.int 4)))) (sMutQ (yAlt (gMeth (C "Granted") "told" (len? 1 (yb C)) treO (gv 7) nNil) (gMeth (C "Late") "told" (len? 1 (zX C)) treO (gv 7) nNil)) [4,0,1] xW (gCons' (gc (.str "zz")) gNil))) sNext) (sSeq (sSetD 9 (gk' 3)) (sSeq (sFor (.tup [10,11]) (gIt (gFz (gSl (gr 0) (gSome (gc (.int 1))) gNone))) jH) (sSeq (sIf (gNot (gt (gCall (len? 2 x0) frzO (nCons (gVal (yAlt (gMeth (C "Granted") "holds" (len? 2 (y6 C)) frzO (gv 7) (nCons (gn 9) nNil)) (gMeth (C "Late") "holds" (len? 2 (yy C)) frzO (gv 7) (nCons (gn 9) nNil)))) (nCons (gVal (g2 (fEq false) (gCall (len? 4 yG) frzO (nCons (gn 0) (nCons (gn 1) (nCons (gn 2) (nCons (gn 9) nNil))))) (gr 4))) nNil))))) (sRet (gc (.bl false))) sNext) (sRet (gAndV (g2 (fEq false) (yAlt (gMeth (C "Granted") "told" (len? 1 (yb C)) frzO (gv 7) nNil) (gMeth (C "Late") "told" (len? 1 (zX C)) frzO (gv 7) nNil)) (gr 4)) (g2 (fIsB false) (yAlt (gMeth (C "Granted") "holds" (len? 2 (y6 C)) frzO (gv 7) (nCons (gn 3) nNil)) (gMeth (C "Late") "holds" (len? 2 (yy C)) frzO (gv 7) (nCons (gn 3) nNil))) (gc (.bl true)))))))))))))))))
def vj (C:Str->Addr):List En->Option En:=mir kj (wN C)
def jf:List Str:=["_law_script","_law_queue","_law_rows","_law_rest","_law_begin","_law_side","_law_at_here"]
def jw (C:Str->Addr):SD:=(sIf (gNot (gt (gCall (len? 4 (vj C)) frzO (nCons (gn 1) (nCons (gn 5) (nCons (gn 4) (nCons (gNd (gCall (len? 5 vh) dctO (nCons (gn 0) (nCons (gn 6) (nCons (gn 1) (nCons (gn 5) (nCons (gn 4) nNil))))))) nNil))))))) (sRet (gc (.bl false))) sNext)
def qG (C:Str->Addr):SD:=(sSeq (sAsg (.tup [1,2,3,4]) (gCall (len? 1 wX) frzO (nCons (gn 0) nNil))) (sSeq (sSet 5 (gTup' (gCons' (gv 2) (gCons' (gv 3) (gCons' (gc (.int 1)) (gCons' (gc (.int 0)) gNil)))))) (sSeq (sFor (.name 6) (gR2 (gCons' (gc (.int 5)) (gCons' (gB fMax (gCons' (gc (.int 6)) (gCons' (gB fMin (gCons' (gB fLen (gCons' (gr 0) gNil)) (gCons' (gc (.int 29)) gNil))) gNil))) gNil))) (jw C)) (sRet (gCall (len? 4 (vj C)) frzO (nCons (gn 1) (nCons (gn 5) (nCons (gn 4) (nCons (gNd gNewD) nNil)))))))))
def ZD (C:Str->Addr):List En->Option En:=mir jf (qG C)
structure Txt (K:PySem.W.Frag)(mg:Str->Option Value)(C:Str->Addr):Prop where
 cl_Granted:Cls K (C "Granted")
 cl_Hours:Cls K (C "Hours")
 cl_Late:Cls K (C "Late")
 io_Granted:IO K (C "Granted")
 io_Late:IO K (C "Late")
 k0_Granted_Late:PySem.W.kitOne K (.ref (C "Granted")) (.ref (C "Late"))=some false
 k0_Late_Granted:PySem.W.kitOne K (.ref (C "Late")) (.ref (C "Granted"))=some false
 k1_Granted_Granted:PySem.W.kitOne K (.ref (C "Granted")) (.ref (C "Granted"))=some true
 k1_Granted_Verdict:PySem.W.kitOne K (.ref (C "Granted")) (.ref (C "Verdict"))=some true
 k1_Late_Late:PySem.W.kitOne K (.ref (C "Late")) (.ref (C "Late"))=some true
 k1_Late_Verdict:PySem.W.kitOne K (.ref (C "Late")) (.ref (C "Verdict"))=some true
 mg_Granted:mg "Granted" = some (.ref (C "Granted"))
 mg_Late:mg "Late" = some (.ref (C "Late"))
 mg_Verdict:mg "Verdict" = some (.ref (C "Verdict"))
 n_Granted_begin:NoAttr K (C "Granted") "begin"
 n_Granted_hours:NoAttr K (C "Granted") "hours"
 n_Granted_queue:NoAttr K (C "Granted") "queue"
 n_Hours_kept_rest:NoAttr K (C "Hours") "kept_rest"
 n_Hours_spans:NoAttr K (C "Hours") "spans"
 n_Late_begin:NoAttr K (C "Late") "begin"
 n_Late_hours:NoAttr K (C "Late") "hours"
 n_Late_name:NoAttr K (C "Late") "name"
 n_Late_promised:NoAttr K (C "Late") "promised"
 n_Late_queue:NoAttr K (C "Late") "queue"
 n_Late_run:NoAttr K (C "Late") "run"
 n_Late_turn:NoAttr K (C "Late") "turn"
 b_all:mg "all" = none
 b_bool:mg "bool" = none
 b_dict:mg "dict" = none
 b_enumerate:mg "enumerate" = none
 b_int:mg "int" = none
 b_isinstance:mg "isinstance" = none
 b_len:mg "len" = none
 b_list:mg "list" = none
 b_max:mg "max" = none
 b_min:mg "min" = none
 b_range:mg "range" = none
 b_tuple:mg "tuple" = none
 c_MOST_COUNTERS':∃t,mg "MOST_COUNTERS" = some (.int 8 t)
 c_MOST_ROWS':∃t,mg "MOST_ROWS" = some (.int 16 t)
 c_MOST_TURNS':∃t,mg "MOST_TURNS" = some (.int 100 t)
section
variable {P:Program}{w:World}{K:PySem.W.Frag}{mg:Str->Option Value}{base:Heap}{C:Str->Addr}
theorem VB:FnScope ["thing"] ["thing"] (zc wu):=⟨rfl,rfl,rfl,by decide +kernel,rfl,by decide +kernel,by decide +kernel⟩
theorem KY {f:Addr}{fd:FuncData}(T:Txt K mg C)(F:Fun K "is_whole" "is_whole" wu f fd):FnOk P w K mg base CX0 1 f fd ["thing"] (pSp ⟨K,w⟩ 1 (len? 1 (mir ["thing"] uq))):=by
 have sc:=VB
 refine zv (k:=0) F VB (λcdv A outer s H E B hr=>?_)
 exact (zg (zu (vM (wO (kitT "int" (by decide)) (by rfl) T.b_isinstance (by rfl) T.b_int (by decide +kernel) (za 0 (pv 0))) (vA (Qp (wO (kitT "bool" (by decide)) (by rfl) T.b_isinstance (by rfl) T.b_bool (by decide +kernel) (za 0 (pv 0))))))))
theorem V9:FnScope qu ["thing","low","high"] (zc wm):=⟨rfl,rfl,rfl,by decide +kernel,rfl,by decide +kernel,by decide +kernel⟩
theorem Rb {f:Addr}{fd:FuncData}(T:Txt K mg C)(F:Fun K "is_number" "is_number" wm f fd) (Har:Fx P w K mg base "is_whole" 1 1 vd):FnOk P w K mg base CX0 2 f fd ["thing","low","high"] (pSp ⟨K,w⟩ 3 (len? 3 (mir qu qT))):=by
 have sc:=V9
 refine zv (k:=1) F V9 (λcdv A outer s H E B hr=>?_)
 exact (zg (zu (vM (zy Har (hr.mono (by decide)) (by rfl) (zb (zf 0 (pv 0)) zj)) (vA (YF jM jM jg jg (za 1 (pv 1)) (za 0 (pv 0)) (za 2 (pv 2)))))))
theorem Wa:FnScope ["thing"] ["thing"] (zc wI):=⟨rfl,rfl,rfl,by decide +kernel,rfl,by decide +kernel,by decide +kernel⟩
theorem zal {f:Addr}{fd:FuncData}(T:Txt K mg C)(F:Fun K "is_row" "is_row" wI f fd) (Hap:Fx P w K mg base "is_number" 2 3 yR):FnOk P w K mg base CX0 3 f fd ["thing"] (pSp ⟨K,w⟩ 1 (len? 1 (mir ["thing"] uK))):=by
 obtain⟨tok_MOST_COUNTERS,t_MOST_COUNTERS⟩:=T.c_MOST_COUNTERS'
 obtain⟨tok_MOST_TURNS,t_MOST_TURNS⟩:=T.c_MOST_TURNS'
 have sc:=Wa
 refine zv (k:=2) F Wa (λcdv A outer s H E B hr=>?_)
 exact (zd (z9 (yf (yp (yt (yc (DE.read (wO (kitT "tuple" (by decide)) (by rfl) T.b_isinstance (by rfl) T.b_tuple (by decide +kernel) (za 0 (pv 0)))) (by intro _;rfl))) (xg (z5 (yw hr.units) zB (DE.read (yO (by rfl) T.b_len (zA (za 0 (pv 0)) zE))) de_int.read (nomark _))))) (zg (zu zY)) zD) (zg (zu (vM (zy Hap (hr.mono (by decide)) (by rfl) (zb (zp (zx (za 0 (pv 0)) de_int.read (by intro _ _;rfl))) (zb (zp de_int) (zb (zp (vT (v:=.int 100) (by rfl) t_MOST_TURNS (by exact⟨_,rfl⟩) (by intro _;rfl))) zj)))) (vA (zy Hap (hr.mono (by decide)) (by rfl) (zb (zp (zx (za 0 (pv 0)) de_int.read (by intro _ _;rfl))) (zb (zp de_int) (zb (zp (vT (v:=.int 8) (by rfl) t_MOST_COUNTERS (by exact⟨_,rfl⟩) (by intro _;rfl))) zj)))))))))
theorem Wk:FnScope vo ["rows","rest"] (zc xt):=⟨rfl,rfl,rfl,by decide +kernel,rfl,by decide +kernel,by decide +kernel⟩
theorem JP {f:Addr}{fd:FuncData}(T:Txt K mg C)(F:Fun K "check_hours" "check_hours" xt f fd) (Hap:Fx P w K mg base "is_number" 2 3 yR) (Haq:Fx P w K mg base "is_row" 3 1 vf):FnOk P w K mg base CX0 4 f fd ["rows","rest"] (pSp ⟨K,w⟩ 2 (len? 2 (mir vo uR))):=by
 obtain⟨tok_MOST_COUNTERS,t_MOST_COUNTERS⟩:=T.c_MOST_COUNTERS'
 obtain⟨tok_MOST_ROWS,t_MOST_ROWS⟩:=T.c_MOST_ROWS'
 have sc:=Wk
 refine zv (k:=3) F Wk (λcdv A outer s H E B hr=>?_)
 exact (zd (z9 (yf (yp (yt (yc (DE.read (wO (kitT "list" (by decide)) (by rfl) T.b_isinstance (by rfl) T.b_list (by decide +kernel) (za 0 (pv 0)))) (by intro _;rfl))) (xg (z5 wk wt (DE.read (yO (by rfl) T.b_len (zA (za 0 (pv 0)) zE))) (DE.read (vT (v:=.int 16) (by rfl) t_MOST_ROWS (by exact⟨_,rfl⟩) (by intro _;rfl))) (nomark _))))) (zg ud) zD) (zd (z9 (yt (yc (DE.read (RH (by rfl) (by rfl) T.b_all (zA (DA.read (jr (own:=["row"]) (cap:=[]) (t:=(.name 0)) (by rfl) (wG (sc:=(zc xt).names) (N:=vo) (by rfl) (by rfl) (by rfl) (by decide +kernel)) (zL hb1 (DR.cur (za 0 (pv 0)))) (by decide) (λB' C' s₀ H₀ fp pn=>⟨(zm (i:=0) (show List.Nodup (["row"]:List Str) from by decide +kernel) (by rfl) (by first|exact .inl rfl|exact .inr rfl)),jE,(zy Haq (hr.mono (by decide)) (by rfl) (zb (zf 0 (pv 0)) zj))⟩))) zE))) (by intro _;rfl))) (zg ud) zD) (zg (z9 (yt (yc (DE.read (zy Hap (hr.mono (by decide)) (by rfl) (zb (zf 1 (pv 1)) (zb (zp de_int) (zb (zp (vT (v:=.int 8) (by rfl) t_MOST_COUNTERS (by exact⟨_,rfl⟩) (by intro _;rfl))) zj))))) (by intro _;rfl))) (zg ud) zD))))
theorem Vf:FnScope vR ["rows","rest"] (zc wc):=⟨rfl,rfl,rfl,by decide +kernel,rfl,by decide +kernel,by decide +kernel⟩
theorem Rg {f:Addr}{fd:FuncData}(T:Txt K mg C)(F:Fun K "kept_rows" "kept_rows" wc f fd):FnOk P w K mg base CX0 1 f fd ["rows","rest"] (pSp ⟨K,w⟩ 2 (len? 2 (mir vR uC))):=by
 have sc:=Vf
 refine zv (k:=0) F Vf (λcdv A outer s H E B hr=>?_)
 exact (zd (yQ (i:=2) sc.nd (by rfl) (by first|exact .inl rfl|exact .inr rfl) (zI zw)) (zd (zK (t:=(.tup [3,4])) PassesOwn.never (by rfl) (zL hb0 (ye 0 (pv 0))) (zJ (by rfl) (zo (zm (i:=3) sc.nd (by rfl) (by first|exact .inl rfl|exact .inr rfl)) (zo (zm (i:=4) sc.nd (by rfl) (by first|exact .inl rfl|exact .inr rfl)) zH))) (zg (z9 (yf (wU (yc (za 2 (pv 2)) (by intro _;rfl)) (wY (z5 (zS hr.units) zB (DE.read (zx (DE.read (zx (za 2 (pv 2)) (DE.read (jT de_int.read)) (by intro _ _;rfl))) de_int.read (by intro _ _;rfl))) (za 4 (pv 4)) (nomark _))))) (zg (QE 2 (pv 2) (jT de_int.read) (zU (zh (zC (DE.read (zx (DE.read (zx (za 2 (pv 2)) (DE.read (jT de_int.read)) (by intro _ _;rfl))) de_int.read (by intro _ _;rfl))) (za 3 (pv 3))) (zh (ze 4 (pv 4)) zw))))) (zg (z9 (z5 wk wt (za 3 (pv 3)) de_int.read (nomark _)) (zg (yN 2 (pv 2) (zU (zh (ze 3 (pv 3)) (zh (ze 4 (pv 4)) zw))))) zD))))) (zd (z9 (yf (wU (yc (za 2 (pv 2)) (by intro _;rfl)) (wY (z5 (zS hr.units) zB (DE.read (zx (DE.read (zx (za 2 (pv 2)) (DE.read (jT de_int.read)) (by intro _ _;rfl))) de_int.read (by intro _ _;rfl))) (za 1 (pv 1)) (nomark _))))) (zg (zad 2 QP (pv 2))) zD) (zg (wB 2 (pv 2))))))
theorem WT:FnScope jx ["rows"] (zc ww):=⟨rfl,rfl,rfl,by decide +kernel,rfl,by decide +kernel,by decide +kernel⟩
theorem zae {f:Addr}{fd:FuncData}(T:Txt K mg C)(F:Fun K "spans_of" "spans_of" ww f fd):FnOk P w K mg base CX0 1 f fd ["rows"] (pSp ⟨K,w⟩ 1 (len? 1 (mir jx qN))):=by
 have sc:=WT
 refine zv (k:=0) F WT (λcdv A outer s H E B hr=>?_)
 exact (zd (yQ (i:=1) sc.nd (by rfl) (by first|exact .inl rfl|exact .inr rfl) (zI zw)) (zd (zr (i:=2) sc.nd (by rfl) (by first|exact .inl rfl|exact .inr rfl) de_int) (zd (zK (t:=(.tup [3,4])) PassesOwn.never (by rfl) (zL hb0 (ye 0 (pv 0))) (zJ (by rfl) (zo (zm (i:=3) sc.nd (by rfl) (by first|exact .inl rfl|exact .inr rfl)) (zo (zm (i:=4) sc.nd (by rfl) (by first|exact .inl rfl|exact .inr rfl)) zH))) (zd (yN 1 (pv 1) (zU (zh (ze 2 (pv 2)) (zh (zC (za 2 (pv 2)) (za 3 (pv 3))) (zh (ze 4 (pv 4)) zw))))) (zg (zr (i:=2) sc.nd (by rfl) (by first|exact .inl rfl|exact .inr rfl) (zC (za 2 (pv 2)) (za 3 (pv 3))))))) (zg (wB 1 (pv 1))))))
theorem VN:FnScope vJ ["self","rows","rest"] (zc we):=⟨rfl,rfl,rfl,by decide +kernel,rfl,by decide +kernel,by decide +kernel⟩
theorem Uq {f:Addr}{fd:FuncData}(T:Txt K mg C)(F:Fun K "__init__" "Hours.__init__" we f fd) (Hba:Fx P w K mg base "spans_of" 1 1 wP) (Has:Fx P w K mg base "kept_rows" 1 2 v2) (Ham:Fx P w K mg base "check_hours" 4 2 vy):FnOk P w K mg base CX0 5 f fd ["self","rows","rest"] (iSp ⟨K,w⟩ (C "Hours") 2 (mirI (C "Hours") ["self","rows","rest"] (v9 C))):=by
 have sc:=VN
 refine jv (k:=4) F VN rfl (λcdv A outer s H E B hr=>?_)
 exact (zd (Uv (zy Ham (hr.mono (by decide)) (by rfl) (zb (zf 1 (pv 1)) (zb (zf 2 (pv 2)) zj)))) (zd (yi 0 T.cl_Hours T.n_Hours_kept_rest (pv 0) (ze 2 (pv 2))) (zg (yi 0 T.cl_Hours T.n_Hours_spans (pv 0) (zy Hba (hr.mono (by decide)) (by rfl) (zb (zp (zy Has (hr.mono (by decide)) (by rfl) (zb (zf 1 (pv 1)) (zb (zf 2 (pv 2)) zj)))) zj))))))
theorem Vk:FnScope jK ["self","turn"] (zc wD):=⟨rfl,rfl,rfl,by decide +kernel,rfl,by decide +kernel,by decide +kernel⟩
theorem UH {f:Addr}{fd:FuncData}(T:Txt K mg C)(F:Fun K "at" "Hours.at" wD f fd):FnOk P w K mg base CX0 1 f fd ["self","turn"] (pSp ⟨K,w⟩ 2 (len? 2 (mir jK (qY C)))):=by
 have sc:=Vk
 refine zv (k:=0) F Vk (λcdv A outer s H E B hr=>?_)
 exact (zd (zr (i:=2) sc.nd (by rfl) (by first|exact .inl rfl|exact .inr rfl) de_int) (zd (zr (i:=3) sc.nd (by rfl) (by first|exact .inl rfl|exact .inr rfl) (yO (by rfl) T.b_len (zA (DE.read (z0 T.cl_Hours T.n_Hours_spans (ze 0 (pv 0)))) zE))) (zd (kT PassesOwn.never (z5 w9 wF (za 2 (pv 2)) (za 3 (pv 3)) (nomark _)) (zd (zr (i:=4) sc.nd (by rfl) (by first|exact .inl rfl|exact .inr rfl) (xJ (DE.read (zC (za 2 (pv 2)) (za 3 (pv 3)))) de_int.read)) (zg (z9 (z5 w9 wF (za 1 (pv 1)) (DE.read (zx (DE.read (zx (DE.read (z0 T.cl_Hours T.n_Hours_spans (ze 0 (pv 0)))) (za 4 (pv 4)) (by intro _ _;rfl))) de_int.read (by intro _ _;rfl))) (nomark _)) (zg (zr (i:=3) sc.nd (by rfl) (by first|exact .inl rfl|exact .inr rfl) (ze 4 (pv 4)))) (zg (zr (i:=2) sc.nd (by rfl) (by first|exact .inl rfl|exact .inr rfl) (zC (za 4 (pv 4)) de_int.read))))))) (zg (zu (RW (z5 w9 wF (za 2 (pv 2)) (DE.read (yO (by rfl) T.b_len (zA (DE.read (z0 T.cl_Hours T.n_Hours_spans (ze 0 (pv 0)))) zE))) (nomark _)) (zx (DE.read (zx (DE.read (z0 T.cl_Hours T.n_Hours_spans (ze 0 (pv 0)))) (za 2 (pv 2)) (by intro _ _;rfl))) de_int.read (by intro _ _;rfl)) (z0 T.cl_Hours T.n_Hours_kept_rest (ze 0 (pv 0)))))))))
theorem VE:FnScope ["queue"] ["queue"] (zc xx):=⟨rfl,rfl,rfl,by decide +kernel,rfl,by decide +kernel,by decide +kernel⟩
theorem zaf {f:Addr}{fd:FuncData}(T:Txt K mg C)(F:Fun K "names_of" "names_of" xx f fd):FnOk P w K mg base CX0 1 f fd ["queue"] (pSp ⟨K,w⟩ 1 (len? 1 (mir ["queue"] kM))):=by
 have sc:=VE
 refine zv (k:=0) F VE (λcdv A outer s H E B hr=>?_)
 exact (zg (Ru (jr (own:=["name","left"]) (cap:=[]) (t:=(.tup [0,1])) (by rfl) (wG (sc:=(zc xx).names) (N:=["queue"]) (by rfl) (by rfl) (by rfl) (by decide +kernel)) (zL hb1 (DR.cur (za 0 (pv 0)))) (by decide) (λB' C' s₀ H₀ fp pn=>⟨(zJ (by rfl) (zo (zm (i:=0) (show List.Nodup (["name","left"]:List Str) from by decide +kernel) (by rfl) (by first|exact .inl rfl|exact .inr rfl)) (zo (zm (i:=1) (show List.Nodup (["name","left"]:List Str) from by decide +kernel) (by rfl) (by first|exact .inl rfl|exact .inr rfl)) zH))),jE,(ze 0 (pv 0))⟩))))
theorem WZ:FnScope xD ["queue","many"] (zc xb):=⟨rfl,rfl,rfl,by decide +kernel,rfl,by decide +kernel,by decide +kernel⟩
theorem GF {f:Addr}{fd:FuncData}(T:Txt K mg C)(F:Fun K "turn_served" "turn_served" xb f fd) (Ha6:Fx P w K mg base "names_of" 1 1 vK):FnOk P w K mg base CX0 2 f fd ["queue","many"] (pSp ⟨K,w⟩ 2 (len? 2 (mir xD jk))):=by
 have sc:=WZ
 refine zv (k:=1) F WZ (λcdv A outer s H E B hr=>?_)
 exact (zd (zr (i:=2) sc.nd (by rfl) (by first|exact .inl rfl|exact .inr rfl) (DA.frz (xk (za 0 (pv 0)) yn (yk (za 1 (pv 1)))))) (zd (UX (i:=3) (own:=["name","left"]) (cap:=[]) (t:=(.tup [0,1])) (by rfl) (wG (sc:=(zc xb).names) (N:=xD) (by rfl) (by rfl) (by rfl) (by decide +kernel)) (zL hb1 (DR.cur (za 2 (pv 2)))) (by decide) (λB' C' s₀ H₀ fp pn=>⟨(zJ (by rfl) (zo (zm (i:=0) (show List.Nodup (["name","left"]:List Str) from by decide +kernel) (by rfl) (by first|exact .inl rfl|exact .inr rfl)) (zo (zm (i:=1) (show List.Nodup (["name","left"]:List Str) from by decide +kernel) (by rfl) (by first|exact .inl rfl|exact .inr rfl)) zH))),(WA (z5 wk wt (za 1 (pv 1)) de_int.read (nomark _))),(zU (zh (ze 0 (pv 0)) (zh (xf (za 1 (pv 1)) de_int.read) zw)))⟩) sc.nd (by rfl) (by first|exact .inl rfl|exact .inr rfl)) (zg (zu (zU (zh (DA.frz (y9 Ha6 (hr.mono (by decide)) (by rfl) (zb (zf 2 (pv 2)) zj))) (zh (DA.frz (jV (za 3 (pv 3)) (DA.read (xk (za 0 (pv 0)) (yk (za 1 (pv 1))) yn)))) zw)))))))
theorem Yq:FnScope jN ["queue","hours","begin","real"] (zc yv):=⟨rfl,rfl,rfl,by decide +kernel,rfl,by decide +kernel,by decide +kernel⟩
theorem UI {f:Addr}{fd:FuncData}(T:Txt K mg C)(F:FunD K "run_of" "run_of" yv f fd) (Hbb:Fx P w K mg base "turn_served" 2 2 yx) (Hag:Mx P w K mg base (C "Hours") "at" 1 2 (xq C)):FnOk P w K mg base CX0 3 f fd ["queue","hours","begin","real"] (pSp ⟨K,w⟩ 4 (len? 4 (mir jN (uk C)))):=by
 have sc:=Yq
 refine Gu (k:=2) F Yq (λcdv A outer s H E B hr=>?_)
 exact (zd (QQ (i:=4) sc.nd (by rfl) (by first|exact .inl rfl|exact .inr rfl) (Qh (z5 Vv ZX (za 3 (pv 3)) (DE.read qV) (nomark _)) (zax 0 (pv 0)) (QH Uj))) (zd (yQ (i:=5) sc.nd (by rfl) (by first|exact .inl rfl|exact .inr rfl) (zI zw)) (zd (kT PassesOwn.never (yc (za 4 (pv 4)) (by intro _;rfl)) (zd (zr (i:=6) sc.nd (by rfl) (by first|exact .inl rfl|exact .inr rfl) (zC (za 2 (pv 2)) (DE.read (yO (by rfl) T.b_len (zA (za 5 (pv 5)) zE))))) (zd (zr (i:=7) sc.nd (by rfl) (by first|exact .inl rfl|exact .inr rfl) (zy Hbb (hr.mono (by decide)) (by rfl) (zb (zf 4 (pv 4)) (zb (zp (yP (ze 1 (pv 1)) T.cl_Hours Hag (hr.mono (by decide)) (zb (zf 6 (pv 6)) zj))) zj)))) (zd (yN 5 (pv 5) (zU (zh (ze 6 (pv 6)) (zh (zx (za 7 (pv 7)) de_int.read (by intro _ _;rfl)) zw)))) (zg (zr (i:=4) sc.nd (by rfl) (by first|exact .inl rfl|exact .inr rfl) (zx (za 7 (pv 7)) de_int.read (by intro _ _;rfl)))))))) (zg (wB 5 (pv 5))))))
theorem YW:FnScope jm ["rows"] (zc xX):=⟨rfl,rfl,rfl,by decide +kernel,rfl,by decide +kernel,by decide +kernel⟩
theorem KP {f:Addr}{fd:FuncData}(T:Txt K mg C)(F:Fun K "ends_of" "ends_of" xX f fd):FnOk P w K mg base CX0 1 f fd ["rows"] (pSp ⟨K,w⟩ 1 (len? 1 (mir jm uG))):=by
 have sc:=YW
 refine zv (k:=0) F YW (λcdv A outer s H E B hr=>?_)
 exact (zd (yT (j:=1) sc.nd (by rfl) (by first|exact .inl rfl|exact .inr rfl) kS) (zd (zK (t:=(.tup [2,3])) PassesOwn.never (by rfl) (zL hb0 (ye 0 (pv 0))) (zJ (by rfl) (zo (zm (i:=2) sc.nd (by rfl) (by first|exact .inl rfl|exact .inr rfl)) (zo (zm (i:=3) sc.nd (by rfl) (by first|exact .inl rfl|exact .inr rfl)) zH))) (zg (zK (t:=(.name 4)) PassesOwn.never (by rfl) (zL hb0 (ye 3 (pv 3))) (zm (i:=4) sc.nd (by rfl) (by first|exact .inl rfl|exact .inr rfl)) (zg (wT 1 (pv 1) (za 4 (pv 4)) (ze 2 (pv 2))))))) (zg (kJ 1 (pv 1)))))
theorem YE:FnScope ["self"] ["self"] (zc wy):=⟨rfl,rfl,rfl,by decide +kernel,rfl,by decide +kernel,by decide +kernel⟩
theorem RN {f:Addr}{fd:FuncData}(T:Txt K mg C)(F:Fun K "granted" "Granted.granted" wy f fd):FnOk P w K mg base CX0 1 f fd ["self"] (pSp ⟨K,w⟩ 1 (len? 1 (mir ["self"] (qJ C)))):=by
 have sc:=YE
 refine zv (k:=0) F YE (λcdv A outer s H E B hr=>?_)
 exact (zg (zu zY))
theorem Yh:FnScope ["self"] ["self"] (zc wg):=⟨rfl,rfl,rfl,by decide +kernel,rfl,by decide +kernel,by decide +kernel⟩
theorem U8 {f:Addr}{fd:FuncData}(T:Txt K mg C)(F:Fun K "word" "Granted.word" wg f fd):FnOk P w K mg base CX0 1 f fd ["self"] (pSp ⟨K,w⟩ 1 (len? 1 (mir ["self"] (jR C)))):=by
 have sc:=Yh
 refine zv (k:=0) F Yh (λcdv A outer s H E B hr=>?_)
 exact (zg (zu yu))
theorem WM:FnScope vL ["self","queue","hours","begin"] (zc xZ):=⟨rfl,rfl,rfl,by decide +kernel,rfl,by decide +kernel,by decide +kernel⟩
theorem Gz {f:Addr}{fd:FuncData}(T:Txt K mg C)(F:Fun K "__init__" "Verdict.__init__" xZ f fd):FnOk P w K mg base CX0 1 f fd ["self","queue","hours","begin"] (iSp ⟨K,w⟩ (C "Granted") 3 (mirI (C "Granted") ["self","queue","hours","begin"] (vX C))):=by
 have sc:=WM
 refine jv (k:=0) F WM rfl (λcdv A outer s H E B hr=>?_)
 exact (zd (yi 0 T.cl_Granted T.n_Granted_queue (pv 0) (DA.frz (xC (by rfl) T.b_list (zA (za 1 (pv 1)) zE)))) (zd (yi 0 T.cl_Granted T.n_Granted_hours (pv 0) (ze 2 (pv 2))) (zg (yi 0 T.cl_Granted T.n_Granted_begin (pv 0) (ze 3 (pv 3))))))
theorem Zw:FnScope ["self"] ["self"] (zc wn):=⟨rfl,rfl,rfl,by decide +kernel,rfl,by decide +kernel,by decide +kernel⟩
theorem QK {f:Addr}{fd:FuncData}(T:Txt K mg C)(F:Fun K "told" "Verdict.told" wn f fd) (Hae:Mx P w K mg base (C "Granted") "word" 1 1 (yC C)):FnOk P w K mg base CX0 2 f fd ["self"] (pSp ⟨K,w⟩ 1 (len? 1 (mir ["self"] (uB C)))):=by
 have sc:=Zw
 refine zv (k:=1) F Zw (λcdv A outer s H E B hr=>?_)
 exact (zg (uV (kh (yF (DE.tree (zV (ze 0 (pv 0)) T.cl_Granted Hae (hr.mono (by decide)))) qU))))
theorem Wm:FnScope ["self"] ["self"] (zc wC):=⟨rfl,rfl,rfl,by decide +kernel,rfl,by decide +kernel,by decide +kernel⟩
theorem QB {f:Addr}{fd:FuncData}(T:Txt K mg C)(F:Fun K "word" "Late.word" wC f fd):FnOk P w K mg base CX0 1 f fd ["self"] (pSp ⟨K,w⟩ 1 (len? 1 (mir ["self"] (jB C)))):=by
 have sc:=Wm
 refine zv (k:=0) F Wm (λcdv A outer s H E B hr=>?_)
 exact (zg (zu yu))
theorem V8:FnScope ["self"] ["self"] (zc xV):=⟨rfl,rfl,rfl,by decide +kernel,rfl,by decide +kernel,by decide +kernel⟩
theorem zaj {f:Addr}{fd:FuncData}(T:Txt K mg C)(F:Fun K "granted" "Verdict.granted" xV f fd):FnOk P w K mg base CX0 1 f fd ["self"] (pSp ⟨K,w⟩ 1 (len? 1 (mir ["self"] (ue C)))):=by
 have sc:=V8
 refine zv (k:=0) F V8 (λcdv A outer s H E B hr=>?_)
 exact (zg (zu zY))
theorem Yn:FnScope vL ["self","queue","hours","begin"] (zc xF):=⟨rfl,rfl,rfl,by decide +kernel,rfl,by decide +kernel,by decide +kernel⟩
theorem JZ {f:Addr}{fd:FuncData}(T:Txt K mg C)(F:Fun K "__init__" "Verdict.__init__" xF f fd):FnOk P w K mg base CX0 1 f fd ["self","queue","hours","begin"] (iSp ⟨K,w⟩ (C "Late") 3 (mirI (C "Late") ["self","queue","hours","begin"] (uU C))):=by
 have sc:=Yn
 refine jv (k:=0) F Yn rfl (λcdv A outer s H E B hr=>?_)
 exact (zd (yi 0 T.cl_Late T.n_Late_queue (pv 0) (DA.frz (xC (by rfl) T.b_list (zA (za 1 (pv 1)) zE)))) (zd (yi 0 T.cl_Late T.n_Late_hours (pv 0) (ze 2 (pv 2))) (zg (yi 0 T.cl_Late T.n_Late_begin (pv 0) (ze 3 (pv 3))))))
theorem YR:FnScope ["rows"] ["rows"] (zc xz):=⟨rfl,rfl,rfl,by decide +kernel,rfl,by decide +kernel,by decide +kernel⟩
theorem KA {f:Addr}{fd:FuncData}(T:Txt K mg C)(F:Fun K "own_rows" "own_rows" xz f fd):FnOk P w K mg base CX0 1 f fd ["rows"] (pSp ⟨K,w⟩ 1 (len? 1 (mir ["rows"] qH))):=by
 have sc:=YR
 refine zv (k:=0) F YR (λcdv A outer s H E B hr=>?_)
 exact (zg (uV (Gn (own:=["turn","names"]) (cap:=[]) (t:=(.tup [0,1])) (by rfl) (wG (sc:=(zc xz).names) (N:=["rows"]) (by rfl) (by rfl) (by rfl) (by decide +kernel)) (zL hb1 (DR.cur (za 0 (pv 0)))) (by decide) (λB' C' s₀ H₀ fp pn=>⟨(zJ (by rfl) (zo (zm (i:=0) (show List.Nodup (["turn","names"]:List Str) from by decide +kernel) (by rfl) (by first|exact .inl rfl|exact .inr rfl)) (zo (zm (i:=1) (show List.Nodup (["turn","names"]:List Str) from by decide +kernel) (by rfl) (by first|exact .inl rfl|exact .inr rfl)) zH))),jE,(kh (yF (DE.tree (ze 0 (pv 0))) (yF (DA.tree (xC (by rfl) T.b_list (zA (za 1 (pv 1)) zE))) qU)))⟩))))
theorem Wt:FnScope jd ["self","queue","hours","begin","name","promised","turn","run"] (zc wo):=⟨rfl,rfl,rfl,by decide +kernel,rfl,by decide +kernel,by decide +kernel⟩
theorem GN {f:Addr}{fd:FuncData}(T:Txt K mg C)(F:Fun K "__init__" "Late.__init__" wo f fd) (Ha7:Fx P w K mg base "own_rows" 1 1 xh) (b_Late_Verdict:Bo P w K mg base (C "Verdict") (C "Late") 1 3 (yV C)):FnOk P w K mg base CX0 2 f fd ["self","queue","hours","begin","name","promised","turn","run"] (iSp ⟨K,w⟩ (C "Late") 7 (mirI (C "Late") ["self","queue","hours","begin","name","promised","turn","run"] (j3 C))):=by
 have sc:=Wt
 refine jv (k:=1) F Wt rfl (λcdv A outer s H E B hr=>?_)
 exact (zd (UW 0 b_Late_Verdict (hr.mono (by decide)) (by rfl) T.mg_Verdict (pv 0) (zb (zf 1 (pv 1)) (zb (zf 2 (pv 2)) (zb (zf 3 (pv 3)) zj)))) (zd (yi 0 T.cl_Late T.n_Late_name (pv 0) (ze 4 (pv 4))) (zd (yi 0 T.cl_Late T.n_Late_promised (pv 0) (ze 5 (pv 5))) (zd (yi 0 T.cl_Late T.n_Late_turn (pv 0) (ze 6 (pv 6))) (zg (yi 0 T.cl_Late T.n_Late_run (pv 0) (zy Ha7 (hr.mono (by decide)) (by rfl) (zb (zf 7 (pv 7)) zj))))))))
theorem YQ:FnScope ["self"] ["self"] (zc wl):=⟨rfl,rfl,rfl,by decide +kernel,rfl,by decide +kernel,by decide +kernel⟩
theorem UU {f:Addr}{fd:FuncData}(T:Txt K mg C)(F:Fun K "told" "Late.told" wl f fd) (Ha7:Fx P w K mg base "own_rows" 1 1 xh) (Hal:Mx P w K mg base (C "Late") "word" 1 1 (yK C)):FnOk P w K mg base CX0 2 f fd ["self"] (pSp ⟨K,w⟩ 1 (len? 1 (mir ["self"] (kl C)))):=by
 have sc:=YQ
 refine zv (k:=1) F YQ (λcdv A outer s H E B hr=>?_)
 exact (zg (uV (kh (yF (DE.tree (zV (ze 0 (pv 0)) T.cl_Late Hal (hr.mono (by decide)))) (yF (DE.tree (z0 T.cl_Late T.n_Late_name (ze 0 (pv 0)))) (yF (DE.tree (z0 T.cl_Late T.n_Late_promised (ze 0 (pv 0)))) (yF (DE.tree (z0 T.cl_Late T.n_Late_turn (ze 0 (pv 0)))) (yF (Kk Ha7 (hr.mono (by decide)) (by rfl) (zb (zp (z0 T.cl_Late T.n_Late_run (ze 0 (pv 0)))) zj)) qU))))))))
theorem VO:FnScope vn ["queue","ends","promises"] (zc wH):=⟨rfl,rfl,rfl,by decide +kernel,rfl,by decide +kernel,by decide +kernel⟩
theorem Ku {f:Addr}{fd:FuncData}(T:Txt K mg C)(F:Fun K "first_late" "first_late" wH f fd):FnOk P w K mg base CX0 1 f fd ["queue","ends","promises"] (pSp ⟨K,w⟩ 3 (len? 3 (mir vn jY))):=by
 have sc:=VO
 refine zv (k:=0) F VO (λcdv A outer s H E B hr=>?_)
 exact (zd (zK (t:=(.tup [3,4])) PassesOwn.never (by rfl) (zL hb0 (ye 0 (pv 0))) (zJ (by rfl) (zo (zm (i:=3) sc.nd (by rfl) (by first|exact .inl rfl|exact .inr rfl)) (zo (zm (i:=4) sc.nd (by rfl) (by first|exact .inl rfl|exact .inr rfl)) zH))) (zg (z9 (yf (wU (V5 (za 3 (pv 3)) (zN 2 (pv 2))) (wY (z5 wk wt (DE.read (yj (zN 1 (pv 1)) (za 3 (pv 3)))) (DE.read (yj (zN 2 (pv 2)) (za 3 (pv 3)))) (nomark _))))) (zg (wB 3 (pv 3))) zD))) (zg (zu qV)))
theorem Yv:FnScope vw ["queue","hours","begin","promises"] (zc xG):=⟨rfl,rfl,rfl,by decide +kernel,rfl,by decide +kernel,by decide +kernel⟩
theorem Rs {f:Addr}{fd:FuncData}(T:Txt K mg C)(F:Fun K "settled" "settled" xG f fd) (Hao:Fx P w K mg base "first_late" 1 3 xS) (Han:Fx P w K mg base "ends_of" 1 1 vC) (Ha8:FxN P w K mg base "run_of" 3 4 (xA C)) (Haa:Kx P w K mg base (C "Granted") "Granted" 1 3 (xy C)) (Hah:Kx P w K mg base (C "Late") "Late" 2 7 (yY C)):FnOk P w K mg base CX0 4 f fd ["queue","hours","begin","promises"] (pSp ⟨K,w⟩ 4 (len? 4 (mir vw (vU C)))):=by
 have sc:=Yv
 refine zv (k:=3) F Yv (λcdv A outer s H E B hr=>?_)
 exact (zd (zr (i:=4) sc.nd (by rfl) (by first|exact .inl rfl|exact .inr rfl) (DA.frz (RZ Ha8 (hr.mono (by decide)) (by rfl) (zb (zf 0 (pv 0)) (zb (zf 1 (pv 1)) (zb (zf 2 (pv 2)) zj)))))) (zd (yT (j:=5) sc.nd (by rfl) (by first|exact .inl rfl|exact .inr rfl) (jj Han (hr.mono (by decide)) (by rfl) (zb (zf 4 (pv 4)) zj))) (zd (zr (i:=6) sc.nd (by rfl) (by first|exact .inl rfl|exact .inr rfl) (zy Hao (hr.mono (by decide)) (by rfl) (zb (zf 0 (pv 0)) (zb (zf 5 (pv 5)) (zb (zf 3 (pv 3)) zj))))) (zd (z9 (z5 Vv ZX (za 6 (pv 6)) (DE.read qV) (nomark _)) (zg (zu (uY Haa (hr.mono (by decide)) (by rfl) (zb (zf 0 (pv 0)) (zb (zf 1 (pv 1)) (zb (zf 2 (pv 2)) zj)))))) zD) (zg (zu (uY Hah (hr.mono (by decide)) (by rfl) (zb (zf 0 (pv 0)) (zb (zf 1 (pv 1)) (zb (zf 2 (pv 2)) (zb (zf 6 (pv 6)) (zb (zp (yj (zN 3 (pv 3)) (za 6 (pv 6)))) (zb (zp (yj (zN 5 (pv 5)) (za 6 (pv 6)))) (zb (zf 4 (pv 4)) zj))))))))))))))
theorem V7:FnScope xj ["self","promises"] (zc wx):=⟨rfl,rfl,rfl,by decide +kernel,rfl,by decide +kernel,by decide +kernel⟩
theorem Uk {f:Addr}{fd:FuncData}(T:Txt K mg C)(F:Fun K "holds" "Granted.holds" wx f fd) (Ha9:Fx P w K mg base "settled" 4 4 (yh C)) (Hab:Mx P w K mg base (C "Granted") "granted" 1 1 (yH C)) (Hai:Mx P w K mg base (C "Late") "granted" 1 1 (yJ C)):FnOk P w K mg base CX0 5 f fd ["self","promises"] (pSp ⟨K,w⟩ 2 (len? 2 (mir xj (jO C)))):=by
 have sc:=V7
 refine zv (k:=4) F V7 (λcdv A outer s H E B hr=>?_)
 exact (zg (zu (yg (zV (zy Ha9 (hr.mono (by decide)) (by rfl) (zb (zp (z0 T.cl_Granted T.n_Granted_queue (ze 0 (pv 0)))) (zb (zp (z0 T.cl_Granted T.n_Granted_hours (ze 0 (pv 0)))) (zb (zp (z0 T.cl_Granted T.n_Granted_begin (ze 0 (pv 0)))) (zb (zf 1 (pv 1)) zj))))) T.cl_Granted Hab (hr.mono (by decide))) (zV (zy Ha9 (hr.mono (by decide)) (by rfl) (zb (zp (z0 T.cl_Granted T.n_Granted_queue (ze 0 (pv 0)))) (zb (zp (z0 T.cl_Granted T.n_Granted_hours (ze 0 (pv 0)))) (zb (zp (z0 T.cl_Granted T.n_Granted_begin (ze 0 (pv 0)))) (zb (zf 1 (pv 1)) zj))))) T.cl_Late Hai (hr.mono (by decide))))))
theorem Z1:FnScope xj ["self","promises"] (zc wL):=⟨rfl,rfl,rfl,by decide +kernel,rfl,by decide +kernel,by decide +kernel⟩
theorem Ux {f:Addr}{fd:FuncData}(T:Txt K mg C)(F:Fun K "holds" "Late.holds" wL f fd) (Ha9:Fx P w K mg base "settled" 4 4 (yh C)) (Had:Mx P w K mg base (C "Granted") "told" 2 1 (yb C)) (Hak:Mx P w K mg base (C "Late") "told" 2 1 (zX C)):FnOk P w K mg base CX0 5 f fd ["self","promises"] (pSp ⟨K,w⟩ 2 (len? 2 (mir xj (vZ C)))):=by
 have sc:=Z1
 refine zv (k:=4) F Z1 (λcdv A outer s H E B hr=>?_)
 exact (zg (zu (yS (zS hr.units) zB (DE.read (yg (zV (zy Ha9 (hr.mono (by decide)) (by rfl) (zb (zp (z0 T.cl_Late T.n_Late_queue (ze 0 (pv 0)))) (zb (zp (z0 T.cl_Late T.n_Late_hours (ze 0 (pv 0)))) (zb (zp (z0 T.cl_Late T.n_Late_begin (ze 0 (pv 0)))) (zb (zf 1 (pv 1)) zj))))) T.cl_Granted Had (hr.mono (by decide))) (zV (zy Ha9 (hr.mono (by decide)) (by rfl) (zb (zp (z0 T.cl_Late T.n_Late_queue (ze 0 (pv 0)))) (zb (zp (z0 T.cl_Late T.n_Late_hours (ze 0 (pv 0)))) (zb (zp (z0 T.cl_Late T.n_Late_begin (ze 0 (pv 0)))) (zb (zf 1 (pv 1)) zj))))) T.cl_Late Hak (hr.mono (by decide))))) (DE.read (zV (ze 0 (pv 0)) T.cl_Late Hak (hr.mono (by decide)))) (nomark _))))
theorem V6:FnScope vv ["_law_script","_law_k"] (zc wd):=⟨rfl,rfl,rfl,by decide +kernel,rfl,by decide +kernel,by decide +kernel⟩
theorem JC {f:Addr}{fd:FuncData}(T:Txt K mg C)(F:Fun K "_law_cell" "_law_cell" wd f fd):FnOk P w K mg base CX0 1 f fd ["_law_script","_law_k"] (pSp ⟨K,w⟩ 2 (len? 2 (mir vv j9))):=by
 have sc:=V6
 refine zv (k:=0) F V6 (λcdv A outer s H E B hr=>?_)
 exact (zd (z9 (z5 w9 wF (za 1 (pv 1)) (DE.read (yO (by rfl) T.b_len (zA (za 0 (pv 0)) zE))) (nomark _)) (zg (zu (zx (za 0 (pv 0)) (za 1 (pv 1)) (by intro _ _;rfl)))) zD) (zg (zu de_int)))
theorem WL:FnScope jP ["_law_cell_here","_law_k"] (zc xL):=⟨rfl,rfl,rfl,by decide +kernel,rfl,by decide +kernel,by decide +kernel⟩
theorem Qu {f:Addr}{fd:FuncData}(T:Txt K mg C)(F:Fun K "_law_stir" "_law_stir" xL f fd):FnOk P w K mg base CX0 1 f fd ["_law_cell_here","_law_k"] (pSp ⟨K,w⟩ 2 (len? 2 (mir jP kW))):=by
 have sc:=WL
 refine zv (k:=0) F WL (λcdv A outer s H E B hr=>?_)
 exact (zd (zr (i:=2) sc.nd (by rfl) (by first|exact .inl rfl|exact .inr rfl) (zP (DE.read (zC (DE.read (zC (DE.read (xw (DE.read (zP (za 0 (pv 0)) de_int.read)) de_int.read)) (DE.read (xw de_int.read (za 1 (pv 1)))))) de_int.read)) de_int.read)) (zd (zr (i:=2) sc.nd (by rfl) (by first|exact .inl rfl|exact .inr rfl) (zP (DE.read (xw (za 2 (pv 2)) (za 2 (pv 2)))) de_int.read)) (zg (zu (zP (DE.read (zC (DE.read (zC (DE.read (xw (za 2 (pv 2)) (za 2 (pv 2)))) (DE.read (xw de_int.read (za 2 (pv 2)))))) de_int.read)) de_int.read)))))
theorem V3:FnScope jy ["_law_script","_law_at_here","_law_bases"] (zc xK):=⟨rfl,rfl,rfl,by decide +kernel,rfl,by decide +kernel,by decide +kernel⟩
theorem GP {f:Addr}{fd:FuncData}(T:Txt K mg C)(F:Fun K "_law_draw" "_law_draw" xK f fd) (Hav:Fx P w K mg base "_law_cell" 1 2 y8) (Ha3:Fx P w K mg base "_law_stir" 1 2 wW):FnOk P w K mg base CX0 2 f fd ["_law_script","_law_at_here","_law_bases"] (pSp ⟨K,w⟩ 3 (len? 3 (mir jy ko))):=by
 have sc:=V3
 refine zv (k:=1) F V3 (λcdv A outer s H E B hr=>?_)
 exact (zd (zr (i:=3) sc.nd (by rfl) (by first|exact .inl rfl|exact .inr rfl) (zy Hav (hr.mono (by decide)) (by rfl) (zb (zf 0 (pv 0)) (zb (zf 1 (pv 1)) zj)))) (zd (yQ (i:=4) sc.nd (by rfl) (by first|exact .inl rfl|exact .inr rfl) (zI zw)) (zd (zK (t:=(.tup [5,6])) PassesOwn.never (by rfl) (qP hb0 (by rfl) T.b_enumerate (ui hb0 (ye 2 (pv 2)) q9)) (zJ (by rfl) (zo (zm (i:=5) sc.nd (by rfl) (by first|exact .inl rfl|exact .inr rfl)) (zo (zm (i:=6) sc.nd (by rfl) (by first|exact .inl rfl|exact .inr rfl)) zH))) (zg (z9 (z5 (zS hr.units) zB (DE.read (zai (DE.read (GJ (DE.read (zy Hav (hr.mono (by decide)) (by rfl) (zb (zf 0 (pv 0)) (zb (zp de_int) zj)))) (DE.read (zP (za 1 (pv 1)) de_int.read)))) de_int.read)) de_int.read (nomark _)) (zd (yN 4 (pv 4) (zP (za 3 (pv 3)) (za 6 (pv 6)))) (zg (zr (i:=3) sc.nd (by rfl) (by first|exact .inl rfl|exact .inr rfl) (xJ (za 3 (pv 3)) (za 6 (pv 6)))))) (zg (yN 4 (pv 4) (zP (DE.read (xJ (DE.read (zy Ha3 (hr.mono (by decide)) (by rfl) (zb (zf 3 (pv 3)) (zb (zf 5 (pv 5)) zj)))) de_int.read)) (za 6 (pv 6)))))))) (zg (wB 4 (pv 4))))))
theorem YD:FnScope jn ["_law_cell_here","_law_k"] (zc w5):=⟨rfl,rfl,rfl,by decide +kernel,rfl,by decide +kernel,by decide +kernel⟩
theorem Gg {f:Addr}{fd:FuncData}(T:Txt K mg C)(F:Fun K "_law_name" "_law_name" w5 f fd):FnOk P w K mg base CX0 1 f fd ["_law_cell_here","_law_k"] (pSp ⟨K,w⟩ 2 (len? 2 (mir jn kL))):=by
 have sc:=YD
 refine zv (k:=0) F YD (λcdv A outer s H E B hr=>?_)
 exact (zd (zr (i:=2) sc.nd (by rfl) (by first|exact .inl rfl|exact .inr rfl) yu) (zd (zr (i:=3) sc.nd (by rfl) (by first|exact .inl rfl|exact .inr rfl) (zP (za 0 (pv 0)) de_int.read)) (zd (zr (i:=4) sc.nd (by rfl) (by first|exact .inl rfl|exact .inr rfl) (zP (DE.read (xJ (za 0 (pv 0)) de_int.read)) (DE.read (zC (za 3 (pv 3)) de_int.read)))) (zd (zr (i:=5) sc.nd (by rfl) (by first|exact .inl rfl|exact .inr rfl) (xJ (za 0 (pv 0)) de_int.read)) (zd (zr (i:=6) sc.nd (by rfl) (by first|exact .inl rfl|exact .inr rfl) yu) (zd (zK (t:=(.name 7)) PassesOwn.never (by rfl) (YB (by rfl) T.b_range (zA (za 3 (pv 3)) zE)) (zm (i:=7) sc.nd (by rfl) (by first|exact .inl rfl|exact .inr rfl)) (zd (zr (i:=6) sc.nd (by rfl) (by first|exact .inl rfl|exact .inr rfl) (zC (za 6 (pv 6)) (DE.read (zx (za 2 (pv 2)) (DE.read (zP (za 5 (pv 5)) (DE.read (zx (DA.read (zI (zh de_int (zh de_int zw)))) (DE.read (ZZ (by rfl) T.b_int (zA (DE.read (yS (zS hr.units) zB (za 7 (pv 7)) de_int.read (nomark _))) zE))) (by intro _ _;rfl))))) (by intro _ _;rfl))))) (zg (zr (i:=5) sc.nd (by rfl) (by first|exact .inl rfl|exact .inr rfl) (xJ (za 5 (pv 5)) de_int.read))))) (zg (zu (zC (DE.read (zC (DE.read (VI (za 6 (pv 6)) yn (yk (za 4 (pv 4))))) (DE.read (zx (za 2 (pv 2)) (DE.read (zP (DE.read (zC (za 5 (pv 5)) (za 1 (pv 1)))) de_int.read)) (by intro _ _;rfl))))) (DE.read (VI (za 6 (pv 6)) (yk (za 4 (pv 4))) yn)))))))))))
theorem Vt:FnScope vS ["_law_script"] (zc xQ):=⟨rfl,rfl,rfl,by decide +kernel,rfl,by decide +kernel,by decide +kernel⟩
theorem zab {f:Addr}{fd:FuncData}(T:Txt K mg C)(F:Fun K "_law_world" "_law_world" xQ f fd) (Ha0:Fx P w K mg base "_law_name" 1 2 wR) (Hav:Fx P w K mg base "_law_cell" 1 2 y8) (Haw:Fx P w K mg base "_law_draw" 2 3 ym):FnOk P w K mg base CX0 3 f fd ["_law_script"] (pSp ⟨K,w⟩ 1 (len? 1 (mir vS ug))):=by
 have sc:=Vt
 refine zv (k:=2) F Vt (λcdv A outer s H E B hr=>?_)
 exact (zd (Wl (is:=[1,2,3,4]) (DA.frz (y9 Haw (hr.mono (by decide)) (by rfl) (zb (zf 0 (pv 0)) (zb (zp de_int) (zb (zp (DA.frz (zI (zh de_int (zh de_int (zh de_int (zh de_int zw))))))) zj))))) (ZH (by rfl) (zo (zm (i:=1) sc.nd (by rfl) (by first|exact .inl rfl|exact .inr rfl)) (zo (zm (i:=2) sc.nd (by rfl) (by first|exact .inl rfl|exact .inr rfl)) (zo (zm (i:=3) sc.nd (by rfl) (by first|exact .inl rfl|exact .inr rfl)) (zo (zm (i:=4) sc.nd (by rfl) (by first|exact .inl rfl|exact .inr rfl)) zH)))))) (zd (zr (i:=5) sc.nd (by rfl) (by first|exact .inl rfl|exact .inr rfl) (DA.frz (y9 Haw (hr.mono (by decide)) (by rfl) (zb (zf 0 (pv 0)) (zb (zp de_int) (zb (zp (DA.frz (qE (DA.read (zI (zh de_int (zh de_int zw)))) (za 1 (pv 1))))) zj)))))) (zd (yQ (i:=6) sc.nd (by rfl) (by first|exact .inl rfl|exact .inr rfl) (zI zw)) (zd (zK (t:=(.name 7)) PassesOwn.never (by rfl) (YB (by rfl) T.b_range (zA (za 1 (pv 1)) zE)) (zm (i:=7) sc.nd (by rfl) (by first|exact .inl rfl|exact .inr rfl)) (zg (yN 6 (pv 6) (zU (zh (zC de_int.read (DE.read (zx (za 5 (pv 5)) (DE.read (xw de_int.read (za 7 (pv 7)))) (by intro _ _;rfl)))) (zh (zP (DE.read (zx (za 5 (pv 5)) (DE.read (zC (DE.read (xw de_int.read (za 7 (pv 7)))) de_int.read)) (by intro _ _;rfl))) (DE.read (zx (DA.read (zI (zh de_int (zh de_int (zh de_int (zh de_int zw)))))) (za 4 (pv 4)) (by intro _ _;rfl)))) zw)))))) (zd (Wl (is:=[8,9]) (DA.frz (y9 Haw (hr.mono (by decide)) (by rfl) (zb (zf 0 (pv 0)) (zb (zp de_int) (zb (zp (DA.frz (zI (zh de_int (zh de_int zw))))) zj))))) (ZH (by rfl) (zo (zm (i:=8) sc.nd (by rfl) (by first|exact .inl rfl|exact .inr rfl)) (zo (zm (i:=9) sc.nd (by rfl) (by first|exact .inl rfl|exact .inr rfl)) zH)))) (zd (zr (i:=10) sc.nd (by rfl) (by first|exact .inl rfl|exact .inr rfl) (DA.frz (xk (DA.read (y9 Haw (hr.mono (by decide)) (by rfl) (zb (zf 0 (pv 0)) (zb (zp de_int) (zb (zp (DA.frz (jV (DA.read (zI (zh de_int (zh de_int zw)))) (DA.read (qE (DA.read (zI (zh de_int zw))) (za 8 (pv 8))))))) zj))))) (yk de_int.read) yn))) (zd (yQ (i:=11) sc.nd (by rfl) (by first|exact .inl rfl|exact .inr rfl) (zI zw)) (zd (zK (t:=(.tup [7,12])) PassesOwn.never (by rfl) (qP hb0 (by rfl) T.b_enumerate (ui hb0 (ye 10 (pv 10)) q9)) (zJ (by rfl) (zo (zm (i:=7) sc.nd (by rfl) (by first|exact .inl rfl|exact .inr rfl)) (zo (zm (i:=12) sc.nd (by rfl) (by first|exact .inl rfl|exact .inr rfl)) zH))) (zg (yN 11 (pv 11) (zU (zh (zy Ha0 (hr.mono (by decide)) (by rfl) (zb (zp (zy Hav (hr.mono (by decide)) (by rfl) (zb (zf 0 (pv 0)) (zb (zp de_int) zj)))) (zb (zf 7 (pv 7)) zj))) (zh (zC de_int.read (DE.read (zP (za 12 (pv 12)) (DE.read (zx (DA.read (zI (zh de_int (zh de_int (zh de_int (zh de_int zw)))))) (za 9 (pv 9)) (by intro _ _;rfl)))))) zw)))))) (zg (Y7 6 (Y7 11 (zu (zU (zh (ze 11 (pv 11)) (zh (ze 6 (pv 6)) (zh (zC de_int.read (za 3 (pv 3))) (zh (ze 2 (pv 2)) zw)))))))))))))))))
theorem Z4:FnScope wQ ["_law_side","_law_turn"] (zc w4):=⟨rfl,rfl,rfl,by decide +kernel,rfl,by decide +kernel,by decide +kernel⟩
theorem K3 {f:Addr}{fd:FuncData}(T:Txt K mg C)(F:Fun K "_law_at" "_law_at" w4 f fd):FnOk P w K mg base CX0 1 f fd ["_law_side","_law_turn"] (pSp ⟨K,w⟩ 2 (len? 2 (mir wQ jX))):=by
 have sc:=Z4
 refine zv (k:=0) F Z4 (λcdv A outer s H E B hr=>?_)
 exact (zd (Vq (t:=(.tup [2,3,4,5])) (ze 0 (pv 0)) (zJ (by rfl) (zo (zm (i:=2) sc.nd (by rfl) (by first|exact .inl rfl|exact .inr rfl)) (zo (zm (i:=3) sc.nd (by rfl) (by first|exact .inl rfl|exact .inr rfl)) (zo (zm (i:=4) sc.nd (by rfl) (by first|exact .inl rfl|exact .inr rfl)) (zo (zm (i:=5) sc.nd (by rfl) (by first|exact .inl rfl|exact .inr rfl)) zH)))))) (zd (zr (i:=6) sc.nd (by rfl) (by first|exact .inl rfl|exact .inr rfl) (ze 3 (pv 3))) (zd (zr (i:=7) sc.nd (by rfl) (by first|exact .inl rfl|exact .inr rfl) (ze 1 (pv 1))) (zd (zK (t:=(.tup [8,9])) PassesOwn.never (by rfl) (zL hb0 (ye 2 (pv 2))) (zJ (by rfl) (zo (zm (i:=8) sc.nd (by rfl) (by first|exact .inl rfl|exact .inr rfl)) (zo (zm (i:=9) sc.nd (by rfl) (by first|exact .inl rfl|exact .inr rfl)) zH))) (zd (z9 (z5 w9 wF (za 7 (pv 7)) (za 8 (pv 8)) (nomark _)) (zd (zr (i:=6) sc.nd (by rfl) (by first|exact .inl rfl|exact .inr rfl) (ze 9 (pv 9))) (zg Qm)) zD) (zg (zr (i:=7) sc.nd (by rfl) (by first|exact .inl rfl|exact .inr rfl) (xf (za 7 (pv 7)) (za 8 (pv 8))))))) (zg (zu (xf (za 6 (pv 6)) (DE.read (ZZ (by rfl) T.b_int (zA (DE.read (YF jM jM jg jg (za 4 (pv 4)) (za 1 (pv 1)) (za 5 (pv 5)))) zE))))))))))
theorem Z2:FnScope w6 ["_law_queue","_law_side","_law_begin"] (zc yX):=⟨rfl,rfl,rfl,by decide +kernel,rfl,by decide +kernel,by decide +kernel⟩
theorem Ql {f:Addr}{fd:FuncData}(T:Txt K mg C)(F:Fun K "_law_run" "_law_run" yX f fd) (Hau:Fx P w K mg base "_law_at" 1 2 yL):FnOk P w K mg base CX0 2 f fd ["_law_queue","_law_side","_law_begin"] (pSp ⟨K,w⟩ 3 (len? 3 (mir w6 qR))):=by
 have sc:=Z2
 refine zv (k:=1) F Z2 (λcdv A outer s H E B hr=>?_)
 exact (zd (zr (i:=3) sc.nd (by rfl) (by first|exact .inl rfl|exact .inr rfl) (DA.frz (xC (by rfl) T.b_list (zA (za 0 (pv 0)) zE)))) (zd (yQ (i:=4) sc.nd (by rfl) (by first|exact .inl rfl|exact .inr rfl) (zI zw)) (zd (zr (i:=5) sc.nd (by rfl) (by first|exact .inl rfl|exact .inr rfl) (ze 2 (pv 2))) (zd (kT PassesOwn.never (z5 (yw hr.units) zB (za 3 (pv 3)) (DA.read (zI zw)) (nomark _)) (zd (zr (i:=6) sc.nd (by rfl) (by first|exact .inl rfl|exact .inr rfl) (zy Hau (hr.mono (by decide)) (by rfl) (zb (zf 1 (pv 1)) (zb (zf 5 (pv 5)) zj)))) (zd (yN 4 (pv 4) (zU (zh (ze 5 (pv 5)) (zh (DA.frz (jr (own:=["_law_name_here","_law_left"]) (cap:=[]) (t:=(.tup [0,1])) (by rfl) (wG (sc:=(zc yX).names) (N:=w6) (by rfl) (by rfl) (by rfl) (by decide +kernel)) (zL hb1 (DR.cur (DA.read (xk (za 3 (pv 3)) yn (yk (za 6 (pv 6))))))) (by decide) (λB' C' s₀ H₀ fp pn=>⟨(zJ (by rfl) (zo (zm (i:=0) (show List.Nodup (["_law_name_here","_law_left"]:List Str) from by decide +kernel) (by rfl) (by first|exact .inl rfl|exact .inr rfl)) (zo (zm (i:=1) (show List.Nodup (["_law_name_here","_law_left"]:List Str) from by decide +kernel) (by rfl) (by first|exact .inl rfl|exact .inr rfl)) zH))),jE,(ze 0 (pv 0))⟩))) zw)))) (zd (zr (i:=3) sc.nd (by rfl) (by first|exact .inl rfl|exact .inr rfl) (DA.frz (jV (DA.read (jr (own:=["_law_name_here","_law_left"]) (cap:=[]) (t:=(.tup [0,1])) (by rfl) (wG (sc:=(zc yX).names) (N:=w6) (by rfl) (by rfl) (by rfl) (by decide +kernel)) (zL hb1 (DR.cur (DA.read (xk (za 3 (pv 3)) yn (yk (za 6 (pv 6))))))) (by decide) (λB' C' s₀ H₀ fp pn=>⟨(zJ (by rfl) (zo (zm (i:=0) (show List.Nodup (["_law_name_here","_law_left"]:List Str) from by decide +kernel) (by rfl) (by first|exact .inl rfl|exact .inr rfl)) (zo (zm (i:=1) (show List.Nodup (["_law_name_here","_law_left"]:List Str) from by decide +kernel) (by rfl) (by first|exact .inl rfl|exact .inr rfl)) zH))),(WA (z5 wk wt (za 1 (pv 1)) de_int.read (nomark _))),(zU (zh (ze 0 (pv 0)) (zh (xf (za 1 (pv 1)) de_int.read) zw)))⟩))) (DA.read (xk (za 3 (pv 3)) (yk (za 6 (pv 6))) yn))))) (zg (zr (i:=5) sc.nd (by rfl) (by first|exact .inl rfl|exact .inr rfl) (zC (za 5 (pv 5)) de_int.read))))))) (zg (wB 4 (pv 4)))))))
theorem Ww:FnScope ju ["_law_run_here"] (zc wM):=⟨rfl,rfl,rfl,by decide +kernel,rfl,by decide +kernel,by decide +kernel⟩
theorem G4 {f:Addr}{fd:FuncData}(T:Txt K mg C)(F:Fun K "_law_ends" "_law_ends" wM f fd):FnOk P w K mg base CX0 1 f fd ["_law_run_here"] (pSp ⟨K,w⟩ 1 (len? 1 (mir ju u9))):=by
 have sc:=Ww
 refine zv (k:=0) F Ww (λcdv A outer s H E B hr=>?_)
 exact (zd (yT (j:=1) sc.nd (by rfl) (by first|exact .inl rfl|exact .inr rfl) kS) (zd (zK (t:=(.tup [2,3])) PassesOwn.never (by rfl) (zL hb0 (ye 0 (pv 0))) (zJ (by rfl) (zo (zm (i:=2) sc.nd (by rfl) (by first|exact .inl rfl|exact .inr rfl)) (zo (zm (i:=3) sc.nd (by rfl) (by first|exact .inl rfl|exact .inr rfl)) zH))) (zg (zK (t:=(.name 4)) PassesOwn.never (by rfl) (zL hb0 (ye 3 (pv 3))) (zm (i:=4) sc.nd (by rfl) (by first|exact .inl rfl|exact .inr rfl)) (zg (wT 1 (pv 1) (za 4 (pv 4)) (ze 2 (pv 2))))))) (zg (kJ 1 (pv 1)))))
theorem Zj:FnScope vG ["_law_queue","_law_side","_law_begin","_law_promises_here"] (zc xP):=⟨rfl,rfl,rfl,by decide +kernel,rfl,by decide +kernel,by decide +kernel⟩
theorem G3 {f:Addr}{fd:FuncData}(T:Txt K mg C)(F:Fun K "_law_verdict" "_law_verdict" xP f fd) (Hax:Fx P w K mg base "_law_ends" 1 1 xn) (Ha2:Fx P w K mg base "_law_run" 2 3 yD):FnOk P w K mg base CX0 3 f fd ["_law_queue","_law_side","_law_begin","_law_promises_here"] (pSp ⟨K,w⟩ 4 (len? 4 (mir vG vV))):=by
 have sc:=Zj
 refine zv (k:=2) F Zj (λcdv A outer s H E B hr=>?_)
 exact (zd (zr (i:=4) sc.nd (by rfl) (by first|exact .inl rfl|exact .inr rfl) (DA.frz (y9 Ha2 (hr.mono (by decide)) (by rfl) (zb (zf 0 (pv 0)) (zb (zf 1 (pv 1)) (zb (zf 2 (pv 2)) zj)))))) (zd (yT (j:=5) sc.nd (by rfl) (by first|exact .inl rfl|exact .inr rfl) (jj Hax (hr.mono (by decide)) (by rfl) (zb (zf 4 (pv 4)) zj))) (zd (zK (t:=(.tup [6,7])) PassesOwn.never (by rfl) (zL hb0 (ye 0 (pv 0))) (zJ (by rfl) (zo (zm (i:=6) sc.nd (by rfl) (by first|exact .inl rfl|exact .inr rfl)) (zo (zm (i:=7) sc.nd (by rfl) (by first|exact .inl rfl|exact .inr rfl)) zH))) (zg (z9 (yf (wU (V5 (za 6 (pv 6)) (zN 3 (pv 3))) (wY (z5 wk wt (DE.read (yj (zN 5 (pv 5)) (za 6 (pv 6)))) (DE.read (yj (zN 3 (pv 3)) (za 6 (pv 6)))) (nomark _))))) (zg (zu (zU (zh yu (zh (ze 6 (pv 6)) (zh (yj (zN 3 (pv 3)) (za 6 (pv 6))) (zh (yj (zN 5 (pv 5)) (za 6 (pv 6))) (zh (ze 4 (pv 4)) zw)))))))) zD))) (zg (zu (zU (zh yu zw)))))))
theorem Wp:FnScope j8 ["_law_script","_law_at_here","_law_queue","_law_side","_law_begin"] (zc xR):=⟨rfl,rfl,rfl,by decide +kernel,rfl,by decide +kernel,by decide +kernel⟩
theorem JJ {f:Addr}{fd:FuncData}(T:Txt K mg C)(F:Fun K "_law_promises" "_law_promises" xR f fd) (Haw:Fx P w K mg base "_law_draw" 2 3 ym) (Hax:Fx P w K mg base "_law_ends" 1 1 xn) (Ha2:Fx P w K mg base "_law_run" 2 3 yD):FnOk P w K mg base CX0 3 f fd ["_law_script","_law_at_here","_law_queue","_law_side","_law_begin"] (pSp ⟨K,w⟩ 5 (len? 5 (mir j8 qQ))):=by
 have sc:=Wp
 refine zv (k:=2) F Wp (λcdv A outer s H E B hr=>?_)
 exact (zd (yT (j:=5) sc.nd (by rfl) (by first|exact .inl rfl|exact .inr rfl) (jj Hax (hr.mono (by decide)) (by rfl) (zb (zp (DA.frz (y9 Ha2 (hr.mono (by decide)) (by rfl) (zb (zf 2 (pv 2)) (zb (zf 3 (pv 3)) (zb (zf 4 (pv 4)) zj)))))) zj))) (zd (zr (i:=6) sc.nd (by rfl) (by first|exact .inl rfl|exact .inr rfl) (DA.frz (y9 Haw (hr.mono (by decide)) (by rfl) (zb (zf 0 (pv 0)) (zb (zf 1 (pv 1)) (zb (zp (DA.frz (jV (DA.read (zI (zh de_int zw))) (DA.read (qE (DA.read (zI (zh de_int zw))) (DE.read (yO (by rfl) T.b_len (zA (za 2 (pv 2)) zE)))))))) zj)))))) (zd (yT (j:=7) sc.nd (by rfl) (by first|exact .inl rfl|exact .inr rfl) G8) (zd (zK (t:=(.tup [8,9])) PassesOwn.never (by rfl) (qP hb0 (by rfl) T.b_enumerate (ui hb0 (ye 2 (pv 2)) q9)) (zJ (by rfl) (zo (zm (i:=8) sc.nd (by rfl) (by first|exact .inl rfl|exact .inr rfl)) (zo (zm (i:=9) sc.nd (by rfl) (by first|exact .inl rfl|exact .inr rfl)) zH))) (zd (zr (i:=10) sc.nd (by rfl) (by first|exact .inl rfl|exact .inr rfl) (zx (za 6 (pv 6)) (DE.read (zC (za 8 (pv 8)) de_int.read)) (by intro _ _;rfl))) (zg (z9 (z5 w9 wF (za 10 (pv 10)) de_int.read (nomark _)) (zg (wT 7 (pv 7) (DE.read (zx (za 9 (pv 9)) de_int.read (by intro _ _;rfl))) (zC (DE.read (yj (zN 5 (pv 5)) (DE.read (zx (za 9 (pv 9)) de_int.read (by intro _ _;rfl))))) (DE.read (zP (za 10 (pv 10)) de_int.read))))) (zg (z9 (yf (wU (z5 (zS hr.units) zB (za 10 (pv 10)) de_int.read (nomark _)) (wY (z5 (zS hr.units) zB (DE.read (zx (za 6 (pv 6)) de_int.read (by intro _ _;rfl))) de_int.read (nomark _))))) (zg (wT 7 (pv 7) (DE.read (zx (za 9 (pv 9)) de_int.read (by intro _ _;rfl))) (xf (DE.read (xf (DE.read (yj (zN 5 (pv 5)) (DE.read (zx (za 9 (pv 9)) de_int.read (by intro _ _;rfl))))) de_int.read)) (DE.read (zP (za 8 (pv 8)) de_int.read))))) zD)))))) (zg (kJ 7 (pv 7)))))))
theorem ZN:FnScope jL ["_law_found","_law_due"] (zc wA):=⟨rfl,rfl,rfl,by decide +kernel,rfl,by decide +kernel,by decide +kernel⟩
theorem Qf {f:Addr}{fd:FuncData}(T:Txt K mg C)(F:Fun K "_law_is" "_law_is" wA f fd):FnOk P w K mg base CX0 1 f fd ["_law_found","_law_due"] (pSp ⟨K,w⟩ 2 (len? 2 (mir jL uj))):=by
 have sc:=ZN
 refine zv (k:=0) F ZN (λcdv A outer s H E B hr=>?_)
 exact (zg (zu (vM (wO (kitT "bool" (by decide)) (by rfl) T.b_isinstance (by rfl) T.b_bool (by decide +kernel) (za 0 (pv 0))) (vA (yS (zS hr.units) zB (za 0 (pv 0)) (za 1 (pv 1)) (nomark _))))))
theorem Y8:FnScope vt ["_law_verdict_here","_law_queue","_law_side","_law_begin","_law_due"] (zc wa):=⟨rfl,rfl,rfl,by decide +kernel,rfl,by decide +kernel,by decide +kernel⟩
theorem Ul {f:Addr}{fd:FuncData}(T:Txt K mg C)(F:Fun K "_law_fields" "_law_fields" wa f fd) (Hab:Mx P w K mg base (C "Granted") "granted" 1 1 (yH C)) (Hai:Mx P w K mg base (C "Late") "granted" 1 1 (yJ C)) (Haz:Fx P w K mg base "_law_is" 1 2 x0) (Hag:Mx P w K mg base (C "Hours") "at" 1 2 (xq C)) (Hau:Fx P w K mg base "_law_at" 1 2 yL) (Hae:Mx P w K mg base (C "Granted") "word" 1 1 (yC C)) (Hal:Mx P w K mg base (C "Late") "word" 1 1 (yK C)):FnOk P w K mg base CX0 2 f fd ["_law_verdict_here","_law_queue","_law_side","_law_begin","_law_due"] (pSp ⟨K,w⟩ 5 (len? 5 (mir vt (jp C)))):=by
 have sc:=Y8
 refine zv (k:=1) F Y8 (λcdv A outer s H E B hr=>?_)
 exact (zd (z9 (yf (yp (yt (yc (DE.read (jq (tab:=[((C "Granted"),true),((C "Late"),true)]) (yB ⟨T.io_Granted,T.k1_Granted_Verdict⟩ (yB ⟨T.io_Late,T.k1_Late_Verdict⟩ jW)) (by rfl) T.b_isinstance (by rfl) T.mg_Verdict (ze 0 (pv 0)))) (by intro _;rfl))) (xg (z5 (zS hr.units) zB (DE.read (jq (tab:=[((C "Granted"),false),((C "Late"),true)]) (yB ⟨T.io_Granted,T.k0_Granted_Late⟩ (yB ⟨T.io_Late,T.k1_Late_Late⟩ jW)) (by rfl) T.b_isinstance (by rfl) T.mg_Late (ze 0 (pv 0)))) (DE.read (jq (tab:=[((C "Granted"),true),((C "Late"),false)]) (yB ⟨T.io_Granted,T.k1_Granted_Granted⟩ (yB ⟨T.io_Late,T.k0_Late_Granted⟩ jW)) (by rfl) T.b_isinstance (by rfl) T.mg_Granted (ze 0 (pv 0)))) (nomark _))))) (zg (zu zY)) zD) (zd (z9 (yf (yp (z5 (yw hr.units) zB (DE.read (yg (z0 T.cl_Granted T.n_Granted_queue (ze 0 (pv 0))) (z0 T.cl_Late T.n_Late_queue (ze 0 (pv 0))))) (za 1 (pv 1)) (nomark _)) (yp (z5 (yw hr.units) zB (DE.read (yg (z0 T.cl_Granted T.n_Granted_begin (ze 0 (pv 0))) (z0 T.cl_Late T.n_Late_begin (ze 0 (pv 0))))) (za 3 (pv 3)) (nomark _)) (xg (z5 (yw hr.units) zB (DE.read (yg (zV (ze 0 (pv 0)) T.cl_Granted Hae (hr.mono (by decide))) (zV (ze 0 (pv 0)) T.cl_Late Hal (hr.mono (by decide))))) (DE.read (zx (za 4 (pv 4)) de_int.read (by intro _ _;rfl))) (nomark _)))))) (zg (zu zY)) zD) (zd (zK (t:=(.name 5)) PassesOwn.never (by rfl) (zL hb0 (DE.fix (DA.frz (zI (zh de_int (zh (ze 3 (pv 3)) (zh (zC (za 3 (pv 3)) de_int.read) (zh de_int zw)))))))) (zm (i:=5) sc.nd (by rfl) (by first|exact .inl rfl|exact .inr rfl)) (zg (z9 (z5 (yw hr.units) zB (DE.read (yP (yg (z0 T.cl_Granted T.n_Granted_hours (ze 0 (pv 0))) (z0 T.cl_Late T.n_Late_hours (ze 0 (pv 0)))) T.cl_Hours Hag (hr.mono (by decide)) (zb (zf 5 (pv 5)) zj))) (DE.read (zy Hau (hr.mono (by decide)) (by rfl) (zb (zf 2 (pv 2)) (zb (zf 5 (pv 5)) zj)))) (nomark _)) (zg (zu zY)) zD))) (zd (z9 (yf (yp (yt (yc (DE.read (zy Haz (hr.mono (by decide)) (by rfl) (zb (zp (yg (zV (ze 0 (pv 0)) T.cl_Granted Hab (hr.mono (by decide))) (zV (ze 0 (pv 0)) T.cl_Late Hai (hr.mono (by decide))))) (zb (zp (yS (zS hr.units) zB (DE.read (zx (za 4 (pv 4)) de_int.read (by intro _ _;rfl))) (DE.read yu) (nomark _))) zj)))) (by intro _;rfl))) (xg (z5 (yw hr.units) zB (DE.read (jq (tab:=[((C "Granted"),true),((C "Late"),false)]) (yB ⟨T.io_Granted,T.k1_Granted_Granted⟩ (yB ⟨T.io_Late,T.k0_Late_Granted⟩ jW)) (by rfl) T.b_isinstance (by rfl) T.mg_Granted (ze 0 (pv 0)))) (DE.read (yg (zV (ze 0 (pv 0)) T.cl_Granted Hab (hr.mono (by decide))) (zV (ze 0 (pv 0)) T.cl_Late Hai (hr.mono (by decide))))) (nomark _))))) (zg (zu zY)) zD) (zd (z9 (z5 (zS hr.units) zB (DE.read (zx (za 4 (pv 4)) de_int.read (by intro _ _;rfl))) (DE.read yu) (nomark _)) (zg (zu zY)) zD) (zg (zu (yS (zS hr.units) zB (DE.read (zU (zh (z0 T.cl_Late T.n_Late_name (ze 0 (pv 0))) (zh (z0 T.cl_Late T.n_Late_promised (ze 0 (pv 0))) (zh (z0 T.cl_Late T.n_Late_turn (ze 0 (pv 0))) (zh (z0 T.cl_Late T.n_Late_run (ze 0 (pv 0))) zw)))))) (DE.read (Rf (za 4 (pv 4)) (yk de_int.read) yn)) (nomark _)))))))))
theorem ZR:FnScope kj ["_law_queue","_law_side","_law_begin","_law_promises_here"] (zc wj):=⟨rfl,rfl,rfl,by decide +kernel,rfl,by decide +kernel,by decide +kernel⟩
theorem Rz {f:Addr}{fd:FuncData}(T:Txt K mg C)(F:Fun K "_law_asked" "_law_asked" wj f fd) (Hac:Mx P w K mg base (C "Granted") "holds" 5 2 (y6 C)) (Haj:Mx P w K mg base (C "Late") "holds" 5 2 (yy C)) (Had:Mx P w K mg base (C "Granted") "told" 2 1 (yb C)) (Hak:Mx P w K mg base (C "Late") "told" 2 1 (zX C)) (Haz:Fx P w K mg base "_law_is" 1 2 x0) (Ha4:Fx P w K mg base "_law_verdict" 3 4 yG) (Hay:Fx P w K mg base "_law_fields" 2 5 (wz C)) (Ha9:Fx P w K mg base "settled" 4 4 (yh C)) (Haf:Kx P w K mg base (C "Hours") "Hours" 5 2 (xN C)):FnOk P w K mg base CX0 7 f fd ["_law_queue","_law_side","_law_begin","_law_promises_here"] (pSp ⟨K,w⟩ 4 (len? 4 (mir kj (wN C)))):=by
 have sc:=ZR
 refine zv (k:=6) F ZR (λcdv A outer s H E B hr=>?_)
 exact (zd (zr (i:=4) sc.nd (by rfl) (by first|exact .inl rfl|exact .inr rfl) (zy Ha4 (hr.mono (by decide)) (by rfl) (zb (zf 0 (pv 0)) (zb (zf 1 (pv 1)) (zb (zf 2 (pv 2)) (zb (zf 3 (pv 3)) zj)))))) (zd (yT (j:=5) sc.nd (by rfl) (by first|exact .inl rfl|exact .inr rfl) (Vo (by rfl) T.b_dict (zN 3 (pv 3)))) (zd (yQ (i:=6) sc.nd (by rfl) (by first|exact .inl rfl|exact .inr rfl) (xC (by rfl) T.b_list (zA (za 0 (pv 0)) zE))) (zd (zr (i:=7) sc.nd (by rfl) (by first|exact .inl rfl|exact .inr rfl) (zy Ha9 (hr.mono (by decide)) (by rfl) (zb (zf 6 (pv 6)) (zb (zp (uY Haf (hr.mono (by decide)) (by rfl) (zb (zp (DA.frz (xC (by rfl) T.b_list (zA (DE.read (zx (za 1 (pv 1)) de_int.read (by intro _ _;rfl))) zE)))) (zb (zp (zx (za 1 (pv 1)) de_int.read (by intro _ _;rfl))) zj)))) (zb (zf 2 (pv 2)) (zb (zf 5 (pv 5)) zj)))))) (zd (z9 (yf (yp (z5 (yw hr.units) zB (za 6 (pv 6)) (za 0 (pv 0)) (nomark _)) (yp (Us (Nat.lt_of_le_of_lt (Nat.le_add_right _ _) hr.units) (zN 5 (pv 5)) (zN 3 (pv 3))) (xg (yt (yc (DE.read (zy Hay (hr.mono (by decide)) (by rfl) (zb (zf 7 (pv 7)) (zb (zf 0 (pv 0)) (zb (zf 1 (pv 1)) (zb (zf 2 (pv 2)) (zb (zf 4 (pv 4)) zj))))))) (by intro _;rfl))))))) (zg (zu zY)) zD) (zd (Q2 6 PySem.F.slot_list_clear PySem.F.type_list_clear Zu Ge (pv 6)) (zd (Ky (i:=8) sc.nd (by rfl) (by first|exact .inl rfl|exact .inr rfl) (ZU (vP (ze 7 (pv 7)) T.cl_Granted Had (hr.mono (by decide))) (vP (ze 7 (pv 7)) T.cl_Late Hak (hr.mono (by decide))))) (zd (z9 (yf (yp (yt (yc (DE.read (VZ (kitT "tuple" (by decide)) (by rfl) T.b_isinstance (by rfl) T.b_tuple (by decide +kernel) (Ve 8 (pv 8)))) (by intro _;rfl))) (yp (zau (yw hr.units) zB (Ve 8 (pv 8)) (DR.heap (za 4 (pv 4))) (nomark _)) (xg (z5 Jp JA (DE.read (yg (yP (ze 7 (pv 7)) T.cl_Granted Hac (hr.mono (by decide)) (zb (zf 3 (pv 3)) zj)) (yP (ze 7 (pv 7)) T.cl_Late Haj (hr.mono (by decide)) (zb (zf 3 (pv 3)) zj)))) (DE.read zY) (nomark _)))))) (zg (zu zY)) zD) (zd (z9 (z5 (zS hr.units) zB (DE.read (zx (za 4 (pv 4)) de_int.read (by intro _ _;rfl))) (DE.read yu) (nomark _)) (zd (QS 8 (Ur 8 (K9 8 (pv 8)) de_int.read (by intro _ _;rfl))) (zg (zag (ks:=[4,0,1]) PySem.F.slot_list_append PySem.F.type_list_append Vs K6 (kx (k:=1) (kx (k:=0) (kx (k:=4) (U0 (ZU (vP (ze 7 (pv 7)) T.cl_Granted Had (hr.mono (by decide))) (vP (ze 7 (pv 7)) T.cl_Late Hak (hr.mono (by decide))))) (by intro _ _;rfl)) (by intro _ _;rfl)) (by intro _ _;rfl)) (zh yu zw)))) zD) (zd (yT (j:=9) sc.nd (by rfl) (by first|exact .inl rfl|exact .inr rfl) (Vo (by rfl) T.b_dict (zN 3 (pv 3)))) (zd (zK (t:=(.tup [10,11])) PassesOwn.never (by rfl) (zL hb0 (DE.fix (DA.frz (xk (za 0 (pv 0)) (yk de_int.read) yn)))) (zJ (by rfl) (zo (zm (i:=10) sc.nd (by rfl) (by first|exact .inl rfl|exact .inr rfl)) (zo (zm (i:=11) sc.nd (by rfl) (by first|exact .inl rfl|exact .inr rfl)) zH))) (zg (wT 9 (pv 9) (za 10 (pv 10)) (xf (DE.read (zao (zN 9 (pv 9)) (za 10 (pv 10)) (ze 2 (pv 2)) ⟨by rfl,by rfl,by rfl,by rfl⟩)) (DE.read (zP (za 11 (pv 11)) de_int.read)))))) (zd (z9 (yt (yc (DE.read (zy Haz (hr.mono (by decide)) (by rfl) (zb (zp (yg (yP (ze 7 (pv 7)) T.cl_Granted Hac (hr.mono (by decide)) (zb (zf 9 (pv 9)) zj)) (yP (ze 7 (pv 7)) T.cl_Late Haj (hr.mono (by decide)) (zb (zf 9 (pv 9)) zj)))) (zb (zp (yS (zS hr.units) zB (DE.read (zy Ha4 (hr.mono (by decide)) (by rfl) (zb (zf 0 (pv 0)) (zb (zf 1 (pv 1)) (zb (zf 2 (pv 2)) (zb (zf 9 (pv 9)) zj)))))) (za 4 (pv 4)) (nomark _))) zj)))) (by intro _;rfl))) (zg (zu zY)) zD) (zg (zu (vM (yS (zS hr.units) zB (DE.read (yg (zV (ze 7 (pv 7)) T.cl_Granted Had (hr.mono (by decide))) (zV (ze 7 (pv 7)) T.cl_Late Hak (hr.mono (by decide))))) (za 4 (pv 4)) (nomark _)) (vA (yS GB QT (DE.read (yg (yP (ze 7 (pv 7)) T.cl_Granted Hac (hr.mono (by decide)) (zb (zf 3 (pv 3)) zj)) (yP (ze 7 (pv 7)) T.cl_Late Haj (hr.mono (by decide)) (zb (zf 3 (pv 3)) zj)))) (DE.read zY) (nomark _))))))))))))))))))
theorem VP:FnScope jf ["_law_script"] (zc y2):=⟨rfl,rfl,rfl,by decide +kernel,rfl,by decide +kernel,by decide +kernel⟩
theorem Qq {f:Addr}{fd:FuncData}(T:Txt K mg C)(F:Fun K "law" "law" y2 f fd) (Hat:Fx P w K mg base "_law_asked" 7 4 (vj C)) (Ha1:Fx P w K mg base "_law_promises" 3 5 vh) (Ha5:Fx P w K mg base "_law_world" 3 1 wX):FnOk P w K mg base CX0 8 f fd ["_law_script"] (pSp ⟨K,w⟩ 1 (len? 1 (mir jf (qG C)))):=by
 have sc:=VP
 refine zv (k:=7) F VP (λcdv A outer s H E B hr=>?_)
 exact (zd (Vq (t:=(.tup [1,2,3,4])) (zy Ha5 (hr.mono (by decide)) (by rfl) (zb (zf 0 (pv 0)) zj)) (zJ (by rfl) (zo (zm (i:=1) sc.nd (by rfl) (by first|exact .inl rfl|exact .inr rfl)) (zo (zm (i:=2) sc.nd (by rfl) (by first|exact .inl rfl|exact .inr rfl)) (zo (zm (i:=3) sc.nd (by rfl) (by first|exact .inl rfl|exact .inr rfl)) (zo (zm (i:=4) sc.nd (by rfl) (by first|exact .inl rfl|exact .inr rfl)) zH)))))) (zd (zr (i:=5) sc.nd (by rfl) (by first|exact .inl rfl|exact .inr rfl) (zU (zh (ze 2 (pv 2)) (zh (ze 3 (pv 3)) (zh de_int (zh de_int zw)))))) (zd (zK (t:=(.name 6)) PassesOwn.never (by rfl) (KR (by rfl) T.b_range (zA de_int.read (zA (DE.read (zap (by rfl) (by rfl) T.b_max (zA de_int.read (zA (DE.read (Ug (by rfl) (by rfl) T.b_min (zA (DE.read (yO (by rfl) T.b_len (zA (za 0 (pv 0)) zE))) (zA de_int.read zE)))) zE)))) zE))) (zm (i:=6) sc.nd (by rfl) (by first|exact .inl rfl|exact .inr rfl)) (zg (z9 (yt (yc (DE.read (zy Hat (hr.mono (by decide)) (by rfl) (zb (zf 1 (pv 1)) (zb (zf 5 (pv 5)) (zb (zf 4 (pv 4)) (zb (WF (jj Ha1 (hr.mono (by decide)) (by rfl) (zb (zf 0 (pv 0)) (zb (zf 6 (pv 6)) (zb (zf 1 (pv 1)) (zb (zf 5 (pv 5)) (zb (zf 4 (pv 4)) zj))))))) zj)))))) (by intro _;rfl))) (zg (zu zY)) zD))) (zg (zu (zy Hat (hr.mono (by decide)) (by rfl) (zb (zf 1 (pv 1)) (zb (zf 5 (pv 5)) (zb (zf 4 (pv 4)) (zb (WF kS) zj))))))))))
end
end My
namespace My
open PySem PySem.Spec L2 L3 L4 L6 Dv HM QM
open PyProof.Rows hiding St
def rowD (r:HM.Row):D:=.tup [.int r.1,.int r.2]
def Good (r:HM.Row):Prop:=(1<=r.1/\r.1<=100)/\0<=r.2/\r.2<=8
theorem JY (a:Int):vd [.val (.int a)]=some (.val (.bl true)):=by
 simp[vd,mir,stE,Zh,uq]
theorem uM {a lo hi:Int}(h1:lo<=a)(h2:a<=hi):yR [.val (.int a),.val (.int lo),.val (.int hi)]=some (.val (.bl true)):=by
 simp[yR,mir,stE,qu,qT,JY,h1,h2]
theorem Ue {r:HM.Row}(h:Good r):vf [.val (rowD r)]=some (.val (.bl true)):=by
 simp[vf,mir,stE,YH,uK,rowD,uM h.1.1 h.1.2,uM h.2.1 h.2.2]
theorem GO {α:Type}{xs:List α}{n:Nat}(h:xs.length<=n)(hn:n<=TOP):xs.length<=TOP:=Nat.le_trans h hn
theorem t16:16<=TOP:=by decide
theorem Wv:∀(rs:List HM.Row),(∀r∈rs,Good r)->compD (.name 0) tYes kd [none] (rs.map rowD)=some (rs.map λ_=>D.bl true)
 | [],_=>by simp
 |r::rs,h=>by
  have h1:=Ue (h r (by simp))
  have ih:=Wv rs λq hq=>h q (by simp[hq])
  simp only[List.map_cons,qK,zam,Option.bind_some,Qe,if_true,ih,Option.map_some]
  simp[kd,h1]
theorem WY {α:Type}:∀(rs:List α),asBs (rs.map λ_=>D.bl true)=some (rs.map λ_=>true)
 | []=>rfl
 |r::rs=>by simp[asBs,WY rs]
theorem UB {rs:List HM.Row}{rest:Int}(h:∀r∈rs,Good r)(hl:rs.length<=16)(h1:1<=rest)(h2:rest<=8):vy [.val (.lst (rs.map rowD)),.val (.int rest)]=some (.val .non):=by
 have e:=Wv rs h
 have e2:=WY rs
 have e3:=uM h1 h2
 have ht:rs.length<=TOP:=GO hl t16
 simp only[vy,mir,stE,vo,uR]
 have hl':¬((16:Int) < (rs.length:Int)):=by omega
 simp[e,e2,e3,ht,hl,hl']
theorem Zv (R:Option En)(rest:D):∀(rs acc:List HM.Row) (x y:Option En),Pos rs->acc.length+rs.length<=1000 ->
  ∃(x' y':Option En),forD (.tup [3,4]) vc (rs.map rowD) [R,some (.val rest),some (.acc (acc.map rowD)),x,y]=some (.next [R,some (.val rest),some (.acc ((rs.foldl kstep acc).map rowD)),x',y'])
 | [],acc,x,y,_,_=>⟨x,y,by simp⟩
 |r::rs,acc,x,y,hp,hl=>by
  simp only[List.length_cons] at hl
  obtain⟨h1,h2⟩:=Pos.cons.mp hp
  have hk:=Yw acc r
  obtain⟨x',y',e⟩:=Zv R rest rs (kstep acc r) (some (.val (.int r.1))) (some (.val (.int r.2))) h2 (by omega)
  refine⟨x',y',?_⟩
  rw[List.foldl_cons,<-e]
  have ht:acc.length<=TOP:=by simp[TOP];omega
  rcases List.eq_nil_or_concat acc with rfl | ⟨pre,q,rfl⟩
  ·simp[vc,rowD,kstep,h1.1,TOP]
  ·rw[List.concat_eq_append] at ht ⊢
   have hk:kstep (pre++[q]) r=if q.2=r.2 then pre++[(q.1+r.1,r.2)] else pre++[q]++[r]:=by
    unfold kstep;rw[List.getLast?_concat];simp only[List.dropLast_concat]
   rw[hk]
   have ea:atI ((pre++[q]).map rowD) (-1)=some (rowD q):=by rw[List.map_append];exact ku
   have en:ixN (pre.length+1) (-1)=some pre.length:=Ri _
   have es:∀d:D,(pre.map rowD++[rowD q]).set pre.length d=pre.map rowD++[d]:=λd=>by
    rw[List.set_append_right _ _ (by simp)];simp
   have ea':atI (pre.map rowD++[rowD q]) (-1)=some (rowD q):=ku
   by_cases c:q.2=r.2
   ·rw[if_pos c]
    simp[vc,ea',en,es,rowD,c,TOP] at ht ⊢
    try simp[rowD] at ea' es
   ·rw[if_neg c]
    simp[vc,ea',rowD,c,TOP,h1.1] at ht ⊢
    simp[rowD] at ea'
    simp[ea',c,ht]
theorem Q3 {rs:List HM.Row}{rest:Int}(h:Pos rs)(hl:rs.length<=500):v2 [.val (.lst (rs.map rowD)),.val (.int rest)]=some (.acc ((krows rest rs).map rowD)):=by
 obtain⟨x',y',e⟩:=Zv (some (.val (.lst (rs.map rowD)))) (.int rest) rs [] none none h (by simp;omega)
 simp only[v2,mir,stE,vR,uC]
 simp at e
 simp[e,TOP]
 unfold krows kend
 rcases List.eq_nil_or_concat (rs.foldl kstep []) with h0 | ⟨pre,q,h0⟩
 ·rw[h0];simp
 ·rw[List.concat_eq_append] at h0
  rw[h0]
  have ea':atI (pre.map rowD++[rowD q]) (-1)=some (rowD q):=ku
  by_cases c:q.2=rest
  ·simp[ea',rowD,c]
   try simp[rowD] at ea'
  ·simp[ea',rowD,c]
   try simp[rowD] at ea'
def spanD (p:Int×HM.Row):D:=.tup [.int p.1,.int (p.1+p.2.1),.int p.2.2]
def spans:Int->List HM.Row->List (Int×HM.Row)
 |_,[]=>[]
 |s,r::rs=>(s,r)::spans (s+r.1) rs
theorem VT (R:D):∀(rs:List HM.Row) (s:Int) (acc:List D) (x y:Option En),acc.length+rs.length<=1000 ->
  ∃(s':Int) (x' y':Option En),forD (.tup [3,4]) kG (rs.map rowD) [some (.val R),some (.acc acc),some (.val (.int s)),x,y]=some (.next [some (.val R),some (.acc (acc++(spans s rs).map spanD)),some (.val (.int s')),x',y'])
 | [],s,acc,x,y,_=>⟨s,x,y,by simp[spans]⟩
 |r::rs,s,acc,x,y,hl=>by
  simp only[List.length_cons] at hl
  obtain⟨s',x',y',e⟩:=VT R rs (s+r.1) (acc++[spanD (s,r)]) (some (.val (.int r.1))) (some (.val (.int r.2))) (by simp;omega)
  refine⟨s',x',y',?_⟩
  have ht:acc.length<=TOP:=by simp[TOP];omega
  rw[List.append_assoc] at e
  simp only[spans,List.map_cons]
  rw[show acc++spanD (s,r)::(spans (s+r.1) rs).map spanD=acc++([spanD (s,r)]++(spans (s+r.1) rs).map spanD) from rfl,<-e]
  have t3:3<=TOP:=by decide
  simp[kG,rowD,spanD,ht,t3]
theorem RU {rs:List HM.Row}(hl:rs.length<=500):wP [.val (.lst (rs.map rowD))]=some (.acc ((spans 0 rs).map spanD)):=by
 obtain⟨s',x',y',e⟩:=VT (.lst (rs.map rowD)) rs 0 [] none none (by simp;omega)
 simp only[wP,mir,stE,jx,qN]
 simp at e
 simp[e]
theorem GL:¬(("spans" : Str) = "kept_rest"):=by decide +kernel
theorem Rm:¬(("kept_rest" : Str) = "spans"):=by decide +kernel
def FS:List Str:=["kept_rest","spans"]
def hoursD (C:Addr)(rest:Int)(ks:List HM.Row):D:=.obj C FS [.int rest,.lst ((spans 0 ks).map spanD)]
theorem Jk {a b:D}:lookZ "kept_rest" FS [a,b]=some a:=by simp[lookZ,FS]
theorem u8 {a b:D}:lookZ "spans" FS [a,b]=some b:=by simp[lookZ,FS,GL]
theorem GE (C:Str->Addr)(a dx:Addr){rs:List HM.Row}{rest:Int}(h:∀r∈rs,Good r)(hl:rs.length<=16)(h1:1<=rest)(h2:rest<=8)(hp:Pos rs) :
  mirI (C "Hours") vJ (v9 C) a dx [.val (.lst (rs.map rowD)),.val (.int rest)]=some (FS,[.int rest,.lst ((spans 0 (krows rest rs)).map spanD)]):=by
 have e1:=UB h hl h1 h2
 have e2:=Q3 (rest:=rest) hp (by omega)
 have e3:=RU (rs:=krows rest rs) (Nat.le_trans (JU rest rs) (by omega))
 simp only[mirI,stE,vJ,v9]
 simp[e1,e2,e3,putZ,Rm,outI,outJ,FS]
theorem GM (C:Str->Addr){rs:List HM.Row}{rest:Int}(h:∀r∈rs,Good r)(hl:rs.length<=16)(h1:1<=rest)(h2:rest<=8)(hp:Pos rs) :
  xN C [.val (.lst (rs.map rowD)),.val (.int rest)]=some (FS,[.int rest,.lst ((spans 0 (krows rest rs)).map spanD)]):=GE C 0 0 h hl h1 h2 hp
theorem G9 {g1 g2 g3:EnvD->Option D}{n1 n2:Str}(h1:∀o o' l,g1 (o::l)=g1 (o'::l))(h2:∀o o' l,g2 (o::l)=g2 (o'::l))(h3:∀o o' l,g3 (o::l)=g3 (o'::l))(C a dx:Addr)(l:EnvD) :
  outI a dx C (sSeq (sExpr g1) (sSeq (sFldD 0 C n1 g2) (sFldD 0 C n2 g3)) (some (.oac a dx C [] [])::l))=outI 0 0 C (sSeq (sExpr g1) (sSeq (sFldD 0 C n1 g2) (sFldD 0 C n2 g3)) (some (.oac 0 0 C [] [])::l)):=by
 have e1:=h1 (some (.oac a dx C [] [])) (some (.oac 0 0 C [] [])) l
 have e2:=h2 (some (.oac a dx C [] [])) (some (.oac 0 0 C [] [])) l
 cases q1:g1 (some (.oac 0 0 C [] [])::l) with
 |none=>rw[q1] at e1;simp[e1,q1,outI]
 |some d1=>
  rw[q1] at e1
  cases q2:g2 (some (.oac 0 0 C [] [])::l) with
  |none=>rw[q2] at e2;simp[e1,q1,e2,q2,outI]
  |some d2=>
   rw[q2] at e2
   simp[e1,q1,e2,q2]
   have e3:=h3 (some (.oac a dx C (putZ n1 d2 [] []).1 (putZ n1 d2 [] []).2)) (some (.oac 0 0 C (putZ n1 d2 [] []).1 (putZ n1 d2 [] []).2)) l
   cases q3:g3 (some (.oac 0 0 C (putZ n1 d2 [] []).1 (putZ n1 d2 [] []).2)::l) with
   |none=>rw[q3] at e3;simp[putZ] at e3 q3;simp[e3,q3,outI,putZ]
   |some d3=>rw[q3] at e3;simp[putZ] at e3 q3;simp[e3,q3,outI,outJ,putZ]
theorem Kq (C:Str->Addr)(a dx:Addr)(xs:List En):mirI (C "Hours") vJ (v9 C) a dx xs=xN C xs:=by
 unfold xN mirI stE
 exact G9 (λo o' l=>by simp) (λo o' l=>by simp) (λo o' l=>by simp) (C "Hours") a dx _
theorem t2:2<=TOP:=by decide
theorem kK:∀(s:Int) (ks:List HM.Row),(spans s ks).length=ks.length
 |_,[]=>rfl
 |s,r::rs=>by simp[spans,kK (s+r.1) rs]
def stp (s:Int):List HM.Row->Nat->Int
 | [],_=>s
 |r::_,0=>s+r.1
 |r::rs,i+1=>stp (s+r.1) rs i
def cntK (rest:Int):List HM.Row->Nat->Int
 | [],_=>rest
 |r::_,0=>r.2
 |_::rs,i+1=>cntK rest rs i
theorem qO (rest:Int):∀(ks:List HM.Row) (s:Int) (i:Nat),i < ks.length->∃(a:Int) (r:HM.Row),(spans s ks)[i]?=some (a,r)/\a+r.1=stp s ks i/\r.2=cntK rest ks i
 |r::rs,s,0,_=>⟨s,r,by simp[spans],rfl,rfl⟩
 |r::rs,s,i+1,h=>by
  obtain⟨a,q,h1,h2,h3⟩:=qO rest rs (s+r.1) i (by simpa using h)
  exact⟨a,q,by simpa[spans] using h1,h2,h3⟩
theorem Zi:∀(ks:List HM.Row) (s:Int) (i:Nat),Pos ks->s<=stp s ks i
 | [],_,_,_=>Int.le_refl _
 |r::rs,s,0,h=>by have:=(Pos.cons.mp h).1.1;simp only[stp];omega
 |r::rs,s,i+1,h=>by have:=(Pos.cons.mp h).1.1;have:=Zi rs (s+r.1) i (Pos.cons.mp h).2;simp only[stp];omega
theorem VL:∀(ks:List HM.Row) (s:Int) (i j:Nat),Pos ks->i<=j->stp s ks i<=stp s ks j
 | [],_,_,_,_,_=>Int.le_refl _
 |r::rs,s,0,0,_,_=>Int.le_refl _
 |r::rs,s,0,j+1,h,_=>Zi rs (s+r.1) j (Pos.cons.mp h).2
 |r::rs,s,i+1,0,_,h=>by omega
 |r::rs,s,i+1,j+1,h,hj=>VL rs (s+r.1) i j (Pos.cons.mp h).2 (by omega)
theorem YK (rest x:Int):∀(ks:List HM.Row) (s:Int) (lo:Nat),(∀i,i < lo->stp s ks i<=x)->(lo < ks.length->x < stp s ks lo)->lo<=ks.length->atR rest ks (x - s)=cntK rest ks lo
 | [],_,_,_,_,_=>rfl
 |r::rs,s,0,_,h2,_=>by
  have h:=h2 (by simp)
  simp only[stp] at h
  have h':x - s < r.1:=by omega
  simp[atR,h',cntK]
 |r::rs,s,lo+1,h1,h2,h3=>by
  have h:=h1 0 (by omega)
  simp only[stp] at h
  have h':¬(x - s < r.1):=by omega
  have e:x - s - r.1=x - (s+r.1):=by omega
  simp only[atR,if_neg h',e,cntK]
  exact YK rest x rs (s+r.1) lo (λi hi=>h1 (i+1) (by omega)) (λhl=>h2 (by simpa using hl)) (by simpa using h3)
theorem atI_nat {α:Type}{xs:List α}{i:Nat}{v:α}(h:xs[i]?=some v):atI xs (i:Int)=some v:=yM i h
theorem qw (C:Str->Addr)(fs:List Str)(ds:List D)(rest x:Int)(ks:List HM.Row)(hp:Pos ks)(hs:lookZ "spans" fs ds=some (.lst ((spans 0 ks).map spanD))):∀(k lo hi:Nat) (m:Option En),hi - lo<=k->lo<=hi->hi<=ks.length->(∀i,i < lo->stp 0 ks i<=x)->(hi < ks.length->x < stp 0 ks hi) ->
  ∃(lo':Nat) (m':Option En),(lo'<=ks.length/\(∀i,i < lo'->stp 0 ks i<=x)/\(lo' < ks.length->x < stp 0 ks lo')) /\
   whileD (gb' (g2 fLt (gr 2) (gr 3))) (jt C) (k+1) [some (.val (.obj (C "Hours") fs ds)),some (.val (.int x)),some (.val (.int (lo:Int))),some (.val (.int (hi:Int))),m]
    = some (.next [some (.val (.obj (C "Hours") fs ds)),some (.val (.int x)),some (.val (.int (lo':Int))),some (.val (.int (lo':Int))),m'])
 |0,lo,hi,m,hk,hle,hn,h1,h2=>by
  have:lo=hi:=by omega
  subst this
  refine⟨lo,m,⟨hn,h1,h2⟩,?_⟩
  rw[j6]
  simp
 |k+1,lo,hi,m,hk,hle,hn,h1,h2=>by
  by_cases hlt:lo < hi
  ·obtain⟨mid,hm⟩:∃mid:Nat,mid=(lo+hi) / 2:=⟨_,rfl⟩
   have em:((lo:Int)+(hi:Int)) / 2=(mid:Int):=by omega
   have m1:lo<=mid:=by omega
   have m2:mid < hi:=by omega
   clear hm
   obtain⟨a,r,g1,g2',g3⟩:=qO rest ks 0 mid (by omega)
   have ei:atI ((spans 0 ks).map spanD) (mid:Int)=some (spanD (a,r)):=atI_nat (by simp[g1])
   have t1:atI (α:=D) [.int a,.int (a+r.1),.int r.2] 1=some (.int (a+r.1)):=rfl
   have hl2:(lo:Int) < (hi:Int):=by omega
   by_cases hx:x < stp 0 ks mid
   ·obtain⟨lo',m',p,e⟩:=qw C fs ds rest x ks hp hs k lo mid (some (.val (.int (mid:Int)))) (by omega) (by omega) (by omega) h1 (λ_=>hx)
    refine⟨lo',m',p,?_⟩
    have hx':x < a+r.1:=by rw[g2'];exact hx
    rw[vg (ρ2:=[some (.val (.obj (C "Hours") fs ds)),some (.val (.int x)),some (.val (.int (lo:Int))),some (.val (.int (mid:Int))),some (.val (.int (mid:Int)))]) (by simp[hl2]) (by
     simp[jt,xo,em,hs,ei,spanD,t1,hx']),e]
   ·obtain⟨lo',m',p,e⟩:=qw C fs ds rest x ks hp hs k (mid+1) hi (some (.val (.int (mid:Int)))) (by omega) (by omega) (by omega) (λi hi'=>Int.le_trans (VL ks 0 i mid hp (by omega)) (by omega)) h2
    refine⟨lo',m',p,?_⟩
    have hx':¬(x < a+r.1):=by rw[g2'];exact hx
    rw[vg (ρ2:=[some (.val (.obj (C "Hours") fs ds)),some (.val (.int x)),some (.val (.int ((mid+1:Nat):Int))),some (.val (.int (hi:Int))),some (.val (.int (mid:Int)))]) (by simp[hl2]) (by
     simp[jt,xo,em,hs,ei,spanD,t1,hx']),e]
  ·have:lo=hi:=by omega
   subst this
   refine⟨lo,m,⟨hn,h1,h2⟩,?_⟩
   rw[j6]
   simp
theorem YS (C:Str->Addr){rest x:Int}{ks:List HM.Row}(hp:Pos ks):xq C [.val (hoursD (C "Hours") rest ks),.val (.int x)]=some (.val (.int (atR rest ks x))):=by
 obtain⟨lo,m,⟨p1,p2,p3⟩,e⟩:=qw C FS [.int rest,.lst ((spans 0 ks).map spanD)] rest x ks hp u8 ks.length 0 ks.length none (by omega) (by omega) (by omega) (λi hi=>by omega) (λh=>by omega)
 have ea:=YK rest x ks 0 lo p2 p3 p1
 rw[Int.sub_zero] at ea
 have ew:=kr e
 simp only[xq,mir,stE,jK,qY,hoursD]
 simp only[Int.natCast_zero] at ew
 by_cases hlt:lo < ks.length
 ·obtain⟨a,r,g1,g2',g3⟩:=qO rest ks 0 lo hlt
  have ei:atI ((spans 0 ks).map spanD) (lo:Int)=some (spanD (a,r)):=atI_nat (by simp[g1])
  have t1:atI (α:=D) [.int a,.int (a+r.1),.int r.2] 2=some (.int r.2):=rfl
  have h':(lo:Int) < (ks.length:Int):=by omega
  simp[u8,kK,ew,ei,spanD,t1,h',ea,g3]
 ·have h':¬((lo:Int) < (ks.length:Int)):=by omega
  have e0:cntK rest ks lo=rest:=by
   have:∀(l:List HM.Row) (i:Nat),l.length<=i->cntK rest l i=rest:=by
    intro l
    induction l with
    |nil=>intro i _;rfl
    |cons q qs ih=>intro i hi;match i,hi with | i+1,hi=>exact ih i (by simpa using hi)
   exact this ks lo (by omega)
  simp[u8,kK,ew,h',Jk,ea,e0]
section
variable (C:Str->Addr){rs:List HM.Row}{rest:Int}
theorem Jr {m:Str}(h1:¬(m = "kept_rest")) (h2:¬(m = "spans")) {r:Int} {x:List D}:lookZ m FS [D.int r,D.lst x]=none:=by simp[lookZ,FS,h1,h2]
theorem qi {r:Int}{x:List D}:lookZ "at" FS [D.int r,D.lst x]=none:=Jr (by decide +kernel) (by decide +kernel)
structure Fit (rs:List HM.Row)(rest:Int):Prop where
 good:∀r∈rs,Good r
 len:rs.length<=16
 lo:1<=rest
 hi:rest<=8
theorem Fit.pos (F:Fit rs rest):Pos rs:=λr hr=>⟨by have:=(F.good r hr).1.1;omega,(F.good r hr).2.1⟩
end
theorem uF {e:EnvD->Option D}(he:∀a b,e [some (.val a),some (.val b)]=some a):∀(q:List (Str×Int)),compD (.tup [0,1]) tYes e [none,none] (q.map tkD)=some ((q.map (·.1)).map D.str)
 | []=>by simp
 |t::q=>by
  have ih:=uF he q
  simp only[List.map_cons,qK,ih]
  simp[tkD,he]
theorem V1 {q:List (Str×Int)}(hl:q.length<=1000):vK [.val (.lst (q.map tkD))]=some (.acc ((q.map (·.1)).map D.str)):=by
 have e:=uF (e:=uL) (λa b=>by simp[uL]) q
 have ht:q.length<=TOP:=by simp[TOP];omega
 simp at e
 simp[vK,mir,stE,WG,kM,ht,e]
theorem jc:∀(q:List (Str×Int)),compD (.tup [0,1]) (gb' (g2 fGt (gr 1) (gc (.int 1)))) ja [none,none] (q.map tkD)=some (((q.filter λt=>decide (1 < t.2)).map λt=>(t.1,t.2 - 1)).map tkD)
 | []=>by simp
 |t::q=>by
  have ih:=jc q
  simp only[List.map_cons,qK,ih]
  by_cases h:1 < t.2
  ·rw[List.filter_cons,if_pos (by simpa using h)]
   simp[tkD,ja,h,t2]
  ·rw[List.filter_cons,if_neg (by simpa using h)]
   simp[tkD,ja,h]
theorem JN {q A Bq:List (Str×Int)}{m:Int}(c1:cutD (q.map tkD) none (some m)=A.map tkD)(c2:cutD (q.map tkD) (some m) none=Bq.map tkD)(hA:A.length<=1000)(hB:Bq.length<=1000) :
  yx [.val (.lst (q.map tkD)),.val (.int m)]=some (.val (.tup [.lst ((A.map (·.1)).map D.str),.lst (((A.filter λt=>decide (1 < t.2)).map λt=>(t.1,t.2 - 1)).map tkD++Bq.map tkD)])):=by
 have e1:=jc A
 have e2:=V1 hA
 have hf:=List.length_filter_le (λt:Str×Int=>decide (1 < t.2)) A
 have ht:A.length<=TOP:=by simp[TOP];omega
 have ht3:(A.filter λt=>decide (1 < t.2)).length+Bq.length<=TOP:=by simp only[TOP];omega
 simp at e1 e2
 simp[yx,mir,stE,xD,jk,c1,c2,ht,e1,e2,ht3,t2]
theorem zac {q:List (Str×Int)}{m:Int}(hl:q.length<=1000)(hm:0<=m) :
  yx [.val (.lst (q.map tkD)),.val (.int m)]=some (.val (.tup [.lst ((srv m.toNat q).map D.str),.lst ((beh m.toNat q).map tkD)])):=by
 have c1:cutD (q.map tkD) none (some m)=(q.take m.toNat).map tkD:=by rw[qF hm,List.map_take]
 have c2:cutD (q.map tkD) (some m) none=(q.drop m.toNat).map tkD:=by rw[wp hm,List.map_drop]
 rw[JN c1 c2 (by rw[List.length_take];omega) (by rw[List.length_drop];omega),beh,List.map_append]
 rfl
theorem Qk {q A Bq:List (Str×Int)}{m:Int}(c1:cutD (q.map tkD) none (some m)=A.map tkD)(c2:cutD (q.map tkD) (some m) none=Bq.map tkD)(hA:A.length<=1000)(hB:Bq.length<=1000) :
  yx [.bor (q.map tkD),.val (.int m)]=some (.val (.tup [.lst ((A.map (·.1)).map D.str),.lst (((A.filter λt=>decide (1 < t.2)).map λt=>(t.1,t.2 - 1)).map tkD++Bq.map tkD)])):=by
 have e1:=jc A
 have e2:=V1 hA
 have hf:=List.length_filter_le (λt:Str×Int=>decide (1 < t.2)) A
 have ht:A.length<=TOP:=by simp[TOP];omega
 have ht3:(A.filter λt=>decide (1 < t.2)).length+Bq.length<=TOP:=by simp only[TOP];omega
 simp at e1 e2
 simp[yx,mir,stE,xD,jk,c1,c2,ht,e1,e2,ht3,t2]
theorem U5 {q:List (Str×Int)}{m:Int}(hl:q.length<=1000)(hm:0<=m) :
  yx [.bor (q.map tkD),.val (.int m)]=some (.val (.tup [.lst ((srv m.toNat q).map D.str),.lst ((beh m.toNat q).map tkD)])):=by
 have c1:cutD (q.map tkD) none (some m)=(q.take m.toNat).map tkD:=by rw[qF hm,List.map_take]
 have c2:cutD (q.map tkD) (some m) none=(q.drop m.toNat).map tkD:=by rw[wp hm,List.map_drop]
 rw[Qk c1 c2 (by rw[List.length_take];omega) (by rw[List.length_drop];omega),beh,List.map_append]
 rfl
theorem Vb {rest:Int}:∀(rs:List HM.Row) (x:Int),(∀r∈rs,0<=r.2)->0<=rest->0<=atR rest rs x
 | [],_,_,h=>h
 |r::rs,x,h,hr=>by
  simp only[atR]
  split
  ·exact h r (by simp)
  ·exact Vb rs _ (λq hq=>h q (by simp[hq])) hr
theorem ul {rest:Int}:∀(rs:List HM.Row) (x:Int),total rs<=x->Pos rs->atR rest rs x=rest
 | [],_,_,_=>rfl
 |r::rs,x,h,hp=>by
  have h1:=Yk (Pos.cons.mp hp).2
  simp only[total] at h
  simp only[atR]
  rw[if_neg (by omega)]
  exact ul rs _ (by omega) (Pos.cons.mp hp).2
def Lq (x:En)(ds:List D):Prop:=x=.val (.lst ds)∨x=.bor ds
structure HOk (rest:Int)(ks:List HM.Row):Prop where
 pos:Pos ks
 lo:1<=rest
 tot:total ks<=2000
theorem HOk.nn {rest:Int}{ks:List HM.Row}(h:HOk rest ks)(x:Int):0<=atR rest ks x:=Vb ks x (λr hr=>(h.pos r hr).2) (by have:=h.lo;omega)
theorem Yz (C:Str->Addr){rest:Int}{ks:List HM.Row}(F:HOk rest ks)(b0:Int)(X0 X3:Option En):∀(n:Nat) (q:List (Str×Int)) (acc:List (Int×List Str)) (x4:En) (a b:Option En),Lq x4 (q.map tkD)->PosQ q->(∀t∈q,Ok t.1)->q.length<=100->sumQ q+(total ks - (b0+acc.length)).toNat<=n->acc.length+n<=5000 ->
  ∃(out:List (Int×List Str)) (v4 v6 v7:Option En),((∀r∈out,(∀y∈r.2,Ok y)/\r.2.length<=100)/\Run (atR rest ks) (b0+acc.length) q out/\out.length<=n) /\
   whileD (gt (gr 4)) (wb C) (n+1) [X0,some (.val (hoursD (C "Hours") rest ks)),some (.val (.int b0)),X3,some x4,some (.acc (acc.map rnD)),a,b]
    = some (.next [X0,some (.val (hoursD (C "Hours") rest ks)),some (.val (.int b0)),X3,v4,some (.acc ((acc++out).map rnD)),v6,v7])
 |n,q,acc,x4,a,b,hx4,hp,ho,hl,hs,ha=>by
  by_cases hq:q=[]
  ·subst hq
   refine⟨[],some x4,a,b,⟨by simp,.nil _,by simp⟩,?_⟩
   rw[j6]
   ·simp
   ·rcases hx4 with rfl | rfl<;>simp
  ·have hql:1<=q.length:=by cases q with | nil=>exact (hq rfl).elim | cons=>simp
   have hn:=F.nn (b0+acc.length)
   have e1:=YS C (rest:=rest) (x:=b0+(acc.length:Int)) (ks:=ks) F.pos
   have e2:=zac (q:=q) (m:=atR rest ks (b0+acc.length)) (by omega) hn
   have e2b:=U5 (q:=q) (m:=atR rest ks (b0+acc.length)) (by omega) hn
   have hsum:=Wz (m:=(atR rest ks (b0+acc.length)).toNat) hp
   have hdec:sumQ (beh (atR rest ks (b0+acc.length)).toNat q)+(total ks - (b0+acc.length+1)).toNat+1<=n:=by
    by_cases hx:b0+acc.length < total ks
    ·omega
    ·have:=ul (rest:=rest) ks (b0+acc.length) (by omega) F.pos
     have h1:=F.lo
     rw[this] at hsum ⊢
     omega
   have hb:=VU (m:=(atR rest ks (b0+acc.length)).toNat) (q:=q)
   match n,hs,ha,hdec with
   |n+1,hs,ha,hdec=>
    have el:b0+(((acc++[(b0+(acc.length:Int),srv (atR rest ks (b0+acc.length)).toNat q)]).length:Nat):Int)=b0+acc.length+1:=by simp;omega
    obtain⟨out,v4,v6,v7,⟨o1,o1r,o1l⟩,o2⟩:=Yz C F b0 X0 X3 n (beh (atR rest ks (b0+acc.length)).toNat q) (acc++[(b0+acc.length,srv (atR rest ks (b0+acc.length)).toNat q)]) (.val (.lst ((beh (atR rest ks (b0+acc.length)).toNat q).map tkD))) (some (.val (.int (b0+acc.length)))) (some (.val (.tup [.lst ((srv (atR rest ks (b0+acc.length)).toNat q).map D.str),.lst ((beh (atR rest ks (b0+acc.length)).toNat q).map tkD)]))) (.inl rfl) (VQ hp) (Zy Ok ho) (by omega) (by rw[el];omega) (by simp;omega)
    rw[el] at o1r
    refine⟨(b0+acc.length,srv (atR rest ks (b0+acc.length)).toNat q)::out,v4,v6,v7,⟨?_,.cons hq o1r,by simp;omega⟩,?_⟩
    ·intro r hr
     rcases List.mem_cons.mp hr with rfl | hr
     ·refine⟨λy hy=>?_,?_⟩
      ·obtain⟨t,ht,rfl⟩:=List.mem_map.mp hy
       exact ho t (List.mem_of_mem_take ht)
      ·show (srv (atR rest ks (b0+acc.length)).toNat q).length<=100
       unfold srv
       rw[List.length_map,List.length_take];omega
     ·exact o1 r hr
    ·have hT:acc.length<=TOP:=by simp[TOP];omega
     simp[hoursD] at e1
     rcases hx4 with rfl | rfl
     ·rw[vg (ρ2:=_) (by simp[hq]) (show wb C _=some (.next _) from by
       simp[wb,hoursD,qi,e1,e2,hT,t2]
       rfl)]
      simp[hoursD,rnD] at o2 ⊢
      exact o2
     ·rw[vg (ρ2:=_) (by simp[hq]) (show wb C _=some (.next _) from by
       simp[wb,hoursD,qi,e1,e2b,hT,t2]
       rfl)]
      simp[hoursD,rnD] at o2 ⊢
      exact o2
theorem J7 (C:Str->Addr){x:En}{rest:Int}{ks:List HM.Row}(F:HOk rest ks){b0:Int}(hb:0<=b0){q:SI}(hp:PosQ q)(ho:∀t∈q,Ok t.1)(hl:q.length<=60)(hs:sumQ q<=1200)(hx:Lq x (q.map tkD)) :
  ∃out:List (Int×List Str),(∀r∈out,(∀y∈r.2,Ok y)/\r.2.length<=100)/\Run (atR rest ks) b0 q out/\out.length<=5000 /\
   xA C [x,.val (hoursD (C "Hours") rest ks),.val (.int b0),.val .non]=some (.acc (out.map rnD)):=by
 have ht:=F.tot
 obtain⟨out,v4,v6,v7,⟨o1,o1r,o1l⟩,o2⟩:=Yz C F b0 (some x) (some (.val .non)) (sumQ q+(total ks - b0).toNat) q [] x none none hx hp ho (by omega) (by simp) (by simp;omega)
 refine⟨out,o1,by simpa using o1r,by omega,?_⟩
 have o3:=kr o2
 simp at o3
 rcases hx with rfl | rfl<;>simp[xA,mir,stE,jN,uk,o3]
theorem Y9 (X0 X3:Option En)(v:Int):∀(xs:List Str) (d:SI) (a:Option En),d.length+xs.length<=1000000->∃a':Option En,
  forD (.name 4) uQ (xs.map D.str) [X0,some (.dct none (kv d)),some (.val (.int v)),X3,a]=some (.next [X0,some (.dct none (kv (xs.foldl (λd n=>putS d n v) d))),some (.val (.int v)),X3,a'])
 | [],d,a,_=>⟨a,by simp⟩
 |x::xs,d,a,hl=>by
  simp only[List.length_cons] at hl
  have hz:(kv d).length < sizeLine:=by rw[qk,sizeLine_eq];omega
  have hp:=vO x v d
  have h2:=wq x v d
  obtain⟨a',p⟩:=Y9 X0 X3 v xs (putS d x v) (some (.val (.str x))) (by omega)
  refine⟨a',?_⟩
  rw[List.foldl_cons,<-p]
  simp[uQ,hz,hp]
theorem kU (v:Int):∀(xs:List Str) (d:SI),(xs.foldl (λd n=>putS d n v) d).length<=d.length+xs.length
 | [],d=>by simp
 |x::xs,d=>by
  have h1:=kU v xs (putS d x v)
  have h2:=wq x v d
  simp only[List.foldl_cons,List.length_cons]
  omega
theorem Wf (X0:Option En):∀(rows:List (Int×List Str)) (d:SI) (a b c:Option En),(∀r∈rows,r.2.length<=100)->d.length+100 * rows.length<=1000000->∃a' b' c':Option En,
  forD (.tup [2,3]) uN (rows.map rnD) [X0,some (.dct none (kv d)),a,b,c]=some (.next [X0,some (.dct none (kv (endsS d rows))),a',b',c'])
 | [],d,a,b,c,_,_=>⟨a,b,c,by simp[endsS]⟩
 |r::rows,d,a,b,c,h,hl=>by
  simp only[List.length_cons] at hl
  have hr:=h r List.mem_cons_self
  obtain⟨c1,p1⟩:=Y9 X0 (some (.val (.lst (r.2.map D.str)))) r.1 r.2 d c (by omega)
  have h2:=kU r.1 r.2 d
  obtain⟨a',b',c',p⟩:=Wf X0 rows (r.2.foldl (λd n=>putS d n r.1) d) (some (.val (.int r.1))) (some (.val (.lst (r.2.map D.str)))) c1 (λu hu=>h u (List.mem_cons_of_mem _ hu)) (by omega)
  refine⟨a',b',c',?_⟩
  rw[show endsS d (r::rows)=endsS (r.2.foldl (λd n=>putS d n r.1) d) rows from rfl,<-p]
  simp[uN,rnD,asgD,z6,p1]
theorem Uc {rows:List (Int×List Str)}(h:∀r∈rows,r.2.length<=100)(hl:rows.length<=5000):vC [.val (.lst (rows.map rnD))]=some (.dct none (kv (endsS [] rows))):=by
 obtain⟨a',b',c',p⟩:=Wf (some (.val (.lst (rows.map rnD)))) rows [] none none none h (by simp;omega)
 simp[kv] at p
 simp[vC,mir,stE,jm,uG,p]
 rfl
theorem uE:∀(rs:List HM.Row),(∀r∈rs,Good r)->total rs<=100 * rs.length
 | [],_=>by simp[total]
 |r::rs,h=>by
  have h1:=(h r (by simp)).1.2
  have ih:=uE rs λq hq=>h q (by simp[hq])
  simp only[total,List.length_cons]
  omega
theorem QW (acc:List HM.Row)(r:HM.Row):total (kstep acc r)=total acc+r.1:=by
 rcases List.eq_nil_or_concat acc with rfl | ⟨pre,q,rfl⟩
 ·simp[kstep,total]
 ·rw[List.concat_eq_append]
  unfold kstep
  rw[List.getLast?_concat]
  simp only[List.dropLast_concat]
  split<;>simp[jo,total]<;>omega
theorem Z8:∀(rs acc:List HM.Row),total (rs.foldl kstep acc)=total acc+total rs
 | [],acc=>by simp[total]
 |r::rs,acc=>by rw[List.foldl_cons,Z8 rs,QW];simp only[total];omega
theorem QZ {rest:Int}{rs:List HM.Row}(h:Pos rs):total (krows rest rs)<=total rs:=by
 have h1:=Z8 rs []
 obtain⟨_,hp⟩:=xY (rest:=rest) (Φ:=λ_=>()) ⟨λ_ _ _ _ _ _ _ _ _=>rfl,λ_ _ _ _=>rfl⟩ rs [] Pos.nil h
 simp only[total,Int.zero_add] at h1
 unfold krows kend
 rcases List.eq_nil_or_concat (rs.foldl kstep []) with h0 | ⟨pre,q,h0⟩
 ·rw[h0] at h1 ⊢;simp[total] at h1 ⊢;omega
 ·rw[List.concat_eq_append] at h0
  rw[h0] at h1 hp ⊢
  rw[List.getLast?_concat]
  have hq:=(Pos.cons.mp (Pos.app.mp hp).2).1
  rw[jo] at h1
  simp only[total] at h1
  simp only[List.dropLast_concat]
  split
  ·omega
  ·rw[jo];simp only[total];omega
theorem Fit.hok {rs:List HM.Row}{rest:Int}(F:Fit rs rest):HOk rest (krows rest rs):=by
 refine⟨J3 rest rs F.pos,F.lo,?_⟩
 have h1:=QZ (rest:=rest) F.pos
 have h2:=uE rs F.good
 have h3:=F.len
 omega
theorem Fit.at {rs:List HM.Row}{rest:Int}(F:Fit rs rest)(x:Int):atR rest (krows rest rs) x=atR rest rs x:=GQ (RV rest x) rs F.pos
theorem uv (ns:List Int)(k:Nat):y8 [.val (.scr ns),.val (.int k)]=some (.val (.int (ns.getD k 0))):=by
 by_cases h:k < ns.length
 ·have e:atI ns (k:Int)=some ns[k]:=yM k (List.getElem?_eq_getElem h)
  simp[y8,mir,stE,vv,j9,h,e]
 ·simp[y8,mir,stE,vv,j9,h]
theorem Q8 (a:Int)(k:Int):∃z,wW [.val (.int a),.val (.int k)]=some (.val (.int z)):=by
 have h1:∀x:Int,-LIM < x % 2147483647:=λx=>by unfold LIM;omega
 have h1':∀x:Int,x % 2147483647 < LIM:=λx=>by unfold LIM;omega
 have h2:∀x:Int,-LIM < x % 2147483629:=λx=>by unfold LIM;omega
 have h2':∀x:Int,x % 2147483629 < LIM:=λx=>by unfold LIM;omega
 have l1:-LIM < 69621:=by decide
 have l2:69621 < LIM:=by decide
 have l3:-LIM < 16807:=by decide
 have l4:16807 < LIM:=by decide
 simp[wW,mir,stE,jP,kW,zR,Yy,h1,h2,h1',h2',l1,l2,l3,l4]
def Rng:List Int->List Int->Prop
 | [],[]=>True
 |b::bs,v::vs=>(0<=v/\v < b)/\Rng bs vs
 |_,_=>False
theorem Rng.len:∀ {bs vs:List Int},Rng bs vs->vs.length=bs.length
 | [],[],_=>rfl
 |b::bs,v::vs,h=>by simp[Rng.len h.2]
 | [],_::_,h=>h.elim
 |_::_,[],h=>h.elim
theorem VA (ns:List Int)(at0:Nat)(X2:Option En):∀(bs:List Int) (k:Nat) (c:Int) (k0 b0:Option En) (vs:List Int),(∀b∈bs,0 < b/\b < 1073741824)->vs.length+bs.length<=1000->∃(us:List Int) (c':Int) (k' b':Option En),Rng bs us /\
  forD (.tup [5,6]) jG (enumD k (bs.map D.int)) [some (.val (.scr ns)),some (.val (.int (at0:Int))),X2,some (.val (.int c)),some (.acc (vs.map D.int)),k0,b0]
   = some (.next [some (.val (.scr ns)),some (.val (.int (at0:Int))),X2,some (.val (.int c')),some (.acc ((vs++us).map D.int)),k',b'])
 | [],k,c,k0,b0,vs,_,_=>⟨[],c,k0,b0,trivial,by simp[enumD]⟩
 |b::bs,k,c,k0,b0,vs,hb,hl=>by
  simp only[List.length_cons] at hl
  have hb1:=hb b List.mem_cons_self
  obtain⟨z,hz⟩:=Q8 c (k:Int)
  have e0:=uv ns 0
  have hs:(0:Int)<=(at0:Int) % 8:=by omega
  have ht':vs.length<=TOP:=by simp[TOP];omega
  have ih:=λ(v:Int) (c2:Int)=>VA ns at0 X2 bs (k+1) c2 (some (.val (.int (k:Int)))) (some (.val (.int b))) (vs++[v]) (λd hd=>hb d (List.mem_cons_of_mem _ hd)) (by simp;omega)
  by_cases q:Builtin.bitAnd (ns.getD 0 0 / 2 ^ ((at0:Int) % 8).toNat) 1=0
  ·obtain⟨us,c',k',b',p1,p3⟩:=ih (c % b) (c / b)
   refine⟨(c % b)::us,c',k',b',⟨⟨Int.emod_nonneg _ (by omega),Int.emod_lt_of_pos _ hb1.1⟩,p1⟩,?_⟩
   rw[show vs++(c % b)::us=(vs++[c % b])++us by simp,<-p3]
   simp at e0 q
   simp[enumD,asgD,z6,jG,e0,zR,Z9 hs,q,zR hb1.1,xo hb1.1 hb1.2,ht']
  ·obtain⟨us,c',k',b',p1,p3⟩:=ih (z / 8 % b) c
   refine⟨(z / 8 % b)::us,c',k',b',⟨⟨Int.emod_nonneg _ (by omega),Int.emod_lt_of_pos _ hb1.1⟩,p1⟩,?_⟩
   rw[show vs++(z / 8 % b)::us=(vs++[z / 8 % b])++us by simp,<-p3]
   simp at e0 q hz
   simp[enumD,asgD,z6,jG,e0,zR,Z9 hs,q,zR hb1.1,xo,ht',hz]
theorem wS (ns:List Int)(at0:Nat)(bs:List Int)(hb:∀b∈bs,0 < b/\b < 1073741824)(hl:bs.length<=900):∃us:List Int,Rng bs us/\ym [.val (.scr ns),.val (.int at0),.val (.lst (bs.map D.int))]=some (.acc (us.map D.int)):=by
 obtain⟨us,c',k',b',p1,p3⟩:=VA ns at0 (some (.val (.lst (bs.map D.int)))) bs 0 (ns.getD at0 0) none none [] hb (by simp;omega)
 refine⟨us,p1,?_⟩
 have e0:=uv ns at0
 generalize hB:bs.map D.int=BS at *
 simp only[ym,mir,stE,jy,ko]
 simp at p3
 simp[e0,p3]
theorem zF {n:Nat}(h:n<=1000):n<=TOP:=Nat.le_trans h (by decide)
theorem QY {l:List Nat}{k:Int}(h1:0<=k)(h2:k<=l.length):Txt.slice (mk l) (some k) none=mk (l.drop k.toNat):=by
 rw[slice_from_eq (b:=((mk l).length:Int)) h1 (by rw[xr];exact h2) rfl,xr]
 have e:(mk l).cps.toList=l:=by simp[mk]
 rw[e,List.take_of_length_le (by rw[List.length_drop];omega)]
 rfl
def wloop:List Nat->List Nat->Int->List Nat×Int
 | [],l,z=>(l,z)
 |j::js,l,z=>wloop js (l++[sg (z % (if j=0 then 26 else 36))]) (z / 36)
theorem i36a:fItem (.lst [.int 36,.int 26]) (.int 1)=some (.int 26):=rfl
theorem i36b:fItem (.lst [.int 36,.int 26]) (.int 0)=some (.int 36):=rfl
theorem Yu (X0 X1 X3 X4:Option En):∀(js l:List Nat) (z:Int) (b7:Option En),l.length+js.length<=100->∃b7':Option En,
  forD (.name 7) jC (js.map λ(j:Nat)=>D.int (0+(j:Int))) [X0,X1,some (.val (.str SIGNS)),X3,X4,some (.val (.int z)),some (.val (.str (mk l))),b7]
   = some (.next [X0,X1,some (.val (.str SIGNS)),X3,X4,some (.val (.int (wloop js l z).2)),some (.val (.str (mk (wloop js l z).1))),b7'])
 | [],l,z,b7,_=>⟨b7,by simp[wloop]⟩
 |j::js,l,z,b7,hl=>by
  simp only[List.length_cons] at hl
  obtain⟨b7',p⟩:=Yu X0 X1 X3 X4 js (l++[sg (z % (if j=0 then 26 else 36))]) (z / 36) (some (.val (.int (0+(j:Int))))) (by simp;omega)
  refine⟨b7',?_⟩
  rw[show wloop (j::js) l z=wloop js (l++[sg (z % (if j=0 then 26 else 36))]) (z / 36) from rfl,<-p]
  have t1:l.length+1<=TOP:=zF (by omega)
  by_cases h:j=0
  ·subst h
   have i1:=kH (a:=z % 26) (by omega) (by omega)
   simp[jC,zR,xo,t2,i36a,i1,xr,jS,t1]
  ·have h':¬((j:Int)=0):=by omega
   have i1:=kH (a:=z % 36) (by omega) (by omega)
   simp[jC,zR,xo,h,h',t2,i36b,i1,xr,jS,t1]
theorem Vg:∀(js l:List Nat) (z:Int),(wloop js l z).1.length=l.length+js.length
 | [],l,z=>by simp[wloop]
 |j::js,l,z=>by rw[wloop,Vg];simp;omega
theorem Zc:∀(js l:List Nat) (z:Int),(∀d∈l,d∈S36)->∀d∈(wloop js l z).1,d∈S36
 | [],l,z,h=>h
 |j::js,l,z,h=>Zc js _ _ λd hd=>by
  rcases List.mem_append.mp hd with q | q
  ·exact h d q
  ·rw[List.mem_singleton.mp q]
   split
   ·exact ZE (by omega) (by omega)
   ·exact ZE (by omega) (by omega)
theorem ZW:∀(js l:List Nat) (z:Int) (c:Nat),l.head?=some c->(wloop js l z).1.head?=some c
 | [],l,z,c,h=>h
 |j::js,l,z,c,h=>ZW js _ _ c (by cases l with | nil=>cases h | cons a r=>simpa using h)
def word (c:Int):List Nat:=(wloop (List.range (c % 8).toNat) [] (c / 72)).1
def wleft (c:Int):Int:=(wloop (List.range (c % 8).toNat) [] (c / 72)).2
def wat (c:Int):Nat:=(c / 8 % (c % 8+1)).toNat
def nmK (c:Int)(k:Nat):List Nat:=(word c).take (wat c)++(sg ((wleft c+k) % 26)::(word c).drop (wat c))
theorem qZ (c:Int):(word c).length=(c % 8).toNat:=by unfold word;rw[Vg];simp
theorem WB (c:Int):wat c<=(word c).length:=by
 rw[qZ];unfold wat
 have h1:0<=c % 8:=by omega
 have h2:=Int.emod_lt_of_pos (c / 8) (show 0 < c % 8+1 by omega)
 have h3:=Int.emod_nonneg (c / 8) (show c % 8+1≠0 by omega)
 omega
theorem Gy (c:Int)(k:Nat):NameOk (mk (nmK c k)):=by
 have hl:=qZ c
 have hm:∀d∈word c,d∈S36:=Zc _ _ _ (by simp)
 have hw:=WB c
 have s1:sg ((wleft c+k) % 26)∈S36.take 26:=Vz (by omega) (by omega)
 have all:∀d∈nmK c k,d∈S36:=λd hd=>by
  unfold nmK at hd
  rcases List.mem_append.mp hd with q | q
  ·exact hm d (List.mem_of_mem_take q)
  ·rcases List.mem_cons.mp q with rfl | q
   ·exact List.mem_of_mem_take s1
   ·exact hm d (List.mem_of_mem_drop q)
 have len:(nmK c k).length=(word c).length+1:=by
  unfold nmK
  rw[List.length_append,List.length_cons,List.length_take,List.length_drop]
  omega
 have hd:∃x,(nmK c k).head?=some x/\x∈S36.take 26:=by
  unfold nmK
  cases hw0:wat c with
  |zero=>exact⟨_,by simp,s1⟩
  |succ n=>
   have hne:0 < (c % 8).toNat:=by rw[hw0] at hw;omega
   obtain⟨m,hm2⟩:∃m,(c % 8).toNat=m+1:=⟨_,(Nat.succ_pred_eq_of_pos hne).symm⟩
   have e:(word c).head?=some (sg (c / 72 % 26)):=by
    unfold word
    rw[hm2,List.range_succ_eq_map]
    show (wloop _ ([]++[sg (c / 72 % (if (0:Nat)=0 then 26 else 36))]) _).1.head?=_
    exact ZW _ _ _ _ (by simp)
   refine⟨_,?_,Vz (a:=c / 72 % 26) (by omega) (by omega)⟩
   cases q:word c with
   |nil=>rw[q] at e;cases e
   |cons a r=>rw[q] at e;simp at e;simp[e]
 obtain⟨x,hx,hx2⟩:=hd
 cases q:nmK c k with
 |nil=>rw[q] at hx;cases hx
 |cons a r=>
  rw[q] at hx all len
  have hax:a=x:=Option.some.inj hx
  rw[<-hax] at hx2
  exact⟨a,r,rfl,hx2,λd hd=>all d (List.mem_cons_of_mem _ hd),by simp at len;omega⟩
theorem RP {c:Int}{j k:Nat}(hj:j < 26)(hk:k < 26)(e:nmK c j=nmK c k):j=k:=by
 unfold nmK at e
 have e1:=List.append_cancel_left e
 have e2:sg ((wleft c+j) % 26)=sg ((wleft c+k) % 26):=(List.cons.inj e1).1
 have e3:=GW (by omega) (by omega) (by omega) (by omega) e2
 omega
theorem GC (c:Int)(k:Nat):wR [.val (.int c),.val (.int k)]=some (.val (.str (mk (nmK c k)))):=by
 have hw:=WB c
 have hl:=qZ c
 obtain⟨b7',p⟩:=Yu (some (.val (.int c))) (some (.val (.int k))) (some (.val (.int (c % 8)))) (some (.val (.int (c / 8 % (c % 8+1))))) (List.range (c % 8).toNat) [] (c / 72) none (by simp;omega)
 have en:((c % 8).toNat:Int)=c % 8:=by omega
 have hB:-BIG<=c % 8/\c % 8<=BIG:=by unfold BIG;omega
 have h3:=Int.emod_nonneg (c / 8) (show c % 8+1≠0 by omega)
 have h9:(0:Int) < c % 8+1:=by omega
 have s1:=JL (l:=word c) (k:=c / 8 % (c % 8+1)) h3 (by unfold wat at hw;omega)
 have s2:=QY (l:=word c) (k:=c / 8 % (c % 8+1)) h3 (by unfold wat at hw;omega)
 have i1:=kH (a:=(wleft c+k) % 26) (by omega) (by omega)
 have mk0:mk []=("" : Str):=by decide +kernel
 rw[mk0] at p
 rw[show (wloop (List.range (c % 8).toNat) [] (c / 72)).1=word c from rfl,show (wloop (List.range (c % 8).toNat) [] (c / 72)).2=wleft c from rfl] at p
 have t1:(word c).length<=TOP:=zF (by omega)
 have t2:min (wat c) (word c).length+1<=TOP:=zF (by omega)
 have t3:min (wat c) (word c).length+1+((word c).length - wat c)<=TOP:=zF (by omega)
 have r1:=vQ 0 (c % 8).toNat
 unfold SIGNS at p i1
 simp only[wR,mir,stE,jn,kL]
 simp at p
 simp[zR,xo,zR h9,hB,r1,p,s1,s2,i1,xr,jS,t1]
 unfold wat at t2 t3
 simp[nmK,wat,xr,jS,t2,t3]
theorem uW (xs:List Int){n:Nat}(h:xs.length * n<=1000)(hn:n<=1000):fRep (.lst (xs.map D.int)) (.int (n:Int))=some ((List.replicate n xs).flatten.map D.int):=by
 have h3:∀k:Nat,(List.replicate k (xs.map D.int)).flatten=(List.replicate k xs).flatten.map D.int:=λk=>by
  induction k with
  |zero=>rfl
  |succ k ih=>rw[List.replicate_succ,List.replicate_succ,List.flatten_cons,List.flatten_cons,List.map_append,ih]
 have h1:xs.length * n<=TOP:=zF h
 rw[Qb,if_pos ⟨by omega,by simpa using h1⟩,Int.toNat_natCast,h3]
theorem Z7:∀(n:Nat) (us:List Int),Rng (List.replicate n [6,36]).flatten us->us.length=2 * n/\∀k,k < n->∃a b,us[2 * k]?=some a/\us[2 * k+1]?=some b/\0<=a/\a < 6/\0<=b
 |0,[],_=>⟨rfl,λk h=>by omega⟩
 |0,_::_,h=>h.elim
 |n+1,[],h=>by simp[List.replicate_succ,Rng] at h
 |n+1,[_],h=>by simp[List.replicate_succ,Rng] at h
 |n+1,a::b::us,h=>by
  simp only[List.replicate_succ,List.flatten_cons,List.cons_append,List.nil_append,Rng] at h
  obtain⟨ha,hb,h⟩:=h
  obtain⟨h1,h2⟩:=Z7 n us h
  refine⟨by simp[h1];omega,λk hk=>?_⟩
  match k,hk with
  |0,_=>exact⟨a,b,rfl,rfl,ha.1,ha.2,hb.1⟩
  |k+1,hk=>
   obtain⟨x,y,e1,e2,e3⟩:=h2 k (by omega)
   refine⟨x,y,?_,?_,e3⟩
   ·rw[show 2 * (k+1)=2 * k+1+1 from by omega];simpa using e1
   ·rw[show 2 * (k+1)+1=2 * k+1+1+1 from by omega];simpa using e2
theorem pick4 (a b c d:Int){w:Int}(h1:0<=w)(h2:w < 4):∃v,atI [D.int a,D.int b,D.int c,D.int d] w=some (.int v)/\(v=a∨v=b∨v=c∨v=d):=by
 have:w=0∨w=1∨w=2∨w=3:=by omega
 rcases this with rfl | rfl | rfl | rfl
 ·exact⟨a,rfl,.inl rfl⟩
 ·exact⟨b,rfl,.inr (.inl rfl)⟩
 ·exact⟨c,rfl,.inr (.inr (.inl rfl))⟩
 ·exact⟨d,rfl,.inr (.inr (.inr rfl))⟩
def RowOk (r:HM.Row):Prop:=(1<=r.1/\r.1<=6)/\0<=r.2/\r.2<=8
theorem Y5 (us:List Int){w:Int}(w1:0<=w)(w2:w < 4)(n:Nat)(hus:∀k,k < n->∃a b,us[2 * k]?=some a/\us[2 * k+1]?=some b/\0<=a/\a < 6/\0<=b)(X0 X1 X2 X3 X8 X9 X10 X11 X12:Option En) :
  ∀(ks:List Nat) (acc:List HM.Row) (x7:Option En),(∀k∈ks,k < n)->acc.length+ks.length<=900->∃(rs:List HM.Row) (x7':Option En),(∀r∈rs,RowOk r)/\rs.length=ks.length /\
   forD (.name 7) qv (ks.map λ(k:Nat)=>D.int (0+(k:Int))) [X0,X1,X2,X3,some (.val (.int w)),some (.val (.lst (us.map D.int))),some (.acc (acc.map rowD)),x7,X8,X9,X10,X11,X12]
    = some (.next [X0,X1,X2,X3,some (.val (.int w)),some (.val (.lst (us.map D.int))),some (.acc ((acc++rs).map rowD)),x7',X8,X9,X10,X11,X12])
 | [],acc,x7,_,_=>⟨[],x7,by simp,rfl,by simp⟩
 |k::ks,acc,x7,hk,hl=>by
  simp only[List.length_cons] at hl
  obtain⟨a,b,e1,e2,a1,a2,b1⟩:=hus k (hk k (by simp))
  obtain⟨v,ev,hv⟩:=pick4 9 4 3 2 w1 w2
  have hv0:0 < v:=by omega
  obtain⟨rs,x7',r1,r2,r3⟩:=Y5 us w1 w2 n hus X0 X1 X2 X3 X8 X9 X10 X11 X12 ks (acc++[(1+a,b % v)]) (some (.val (.int (k:Int)))) (λj hj=>hk j (by simp[hj])) (by simp;omega)
  refine⟨(1+a,b % v)::rs,x7',?_,by simp[r2],?_⟩
  ·intro r hr
   rcases List.mem_cons.mp hr with rfl | hr
   ·have h1:=Int.emod_nonneg b (show v≠0 by omega)
    have h2:=Int.emod_lt_of_pos b hv0
    exact⟨⟨by omega,by omega⟩,h1,by show b % v<=8;omega⟩
   ·exact r1 r hr
  ·have i1:atI (us.map D.int) (2 * (k:Int))=some (.int a):=by
    have:=atI_nat (xs:=us.map D.int) (i:=2 * k) (v:=.int a) (by simp[e1])
    simpa using this
   have i2:atI (us.map D.int) (2 * (k:Int)+1)=some (.int b):=by
    have:=atI_nat (xs:=us.map D.int) (i:=2 * k+1) (v:=.int b) (by simp[e2])
    simpa using this
   have hT:acc.length < TOP:=by simp[TOP];omega
   have hT':acc.length<=TOP:=by omega
   have t4:4<=TOP:=by decide
   rw[List.append_assoc,List.singleton_append] at r3
   rw[<-r3]
   have m2:fMul (.int 2) (.int (k:Int))=some (.int (2 * (k:Int))):=Yy (by decide) (by decide)
   simp[qv,asgD,m2,i1,i2,ev,zR,hv0,t2,t4,hT,hT',rowD]
def qL (c v:Int):Nat->List Int->SI
 |_,[]=>[]
 |k,u::us=>(mk (nmK c k),1+u % v)::qL c v (k+1) us
theorem qC (c v:Int):∀(k:Nat) (us:List Int),(qL c v k us).length=us.length
 |_,[]=>rfl
 |k,u::us=>by simp[qL,qC c v (k+1) us]
theorem ua (c v:Int):∀(k:Nat) (us:List Int) (x:Str),x∈nms (qL c v k us)->∃j,k<=j/\j < k+us.length/\x=mk (nmK c j)
 |k,[],x,h=>by simp[qL,nms] at h
 |k,u::us,x,h=>by
  rcases List.mem_cons.mp (show x∈mk (nmK c k)::nms (qL c v (k+1) us) from h) with rfl | h
  ·exact⟨k,Nat.le_refl _,by simp,rfl⟩
  ·obtain⟨j,h1,h2,h3⟩:=ua c v (k+1) us x h
   exact⟨j,by omega,by simp;omega,h3⟩
theorem W3 (c v:Int):∀(k:Nat) (us:List Int),k+us.length<=26->(nms (qL c v k us)).Nodup
 |k,[],_=>by simp[qL,nms]
 |k,u::us,h=>by
  simp only[List.length_cons] at h
  show (mk (nmK c k)::nms (qL c v (k+1) us)).Nodup
  refine List.nodup_cons.mpr ⟨λhm=>?_,W3 c v (k+1) us (by omega)⟩
  obtain⟨j,h1,h2,h3⟩:=ua c v (k+1) us _ hm
  have:=RP (by omega) (by omega) (Km h3)
  omega
theorem Vn (c v:Int)(h0:0 < v)(h1:v<=20):∀(k:Nat) (us:List Int),∀t∈qL c v k us,1<=t.2/\t.2<=20
 |_,[],t,h=>by simp[qL] at h
 |k,u::us,t,h=>by
  rcases List.mem_cons.mp (show t∈(mk (nmK c k),1+u % v)::qL c v (k+1) us from h) with rfl | h
  ·have h1:=Int.emod_nonneg u (show v≠0 by omega)
   have h2:=Int.emod_lt_of_pos u h0
   exact⟨by show 1<=1+u % v;omega,by show 1+u % v<=20;omega⟩
  ·exact Vn c v h0 h1 (k+1) us t h
structure Q5 (q:SI):Prop where
 nam:∀t∈q,NameOk t.1
 nd:(nms q).Nodup
 len:q.length<=8
 le:∀t∈q,1<=t.2/\t.2<=20
theorem Q5.ok {q:SI}(h:Q5 q):∀t∈q,Ok t.1:=λt ht=>(h.nam t ht).ok
theorem Q5.pos {q:SI}(h:Q5 q):PosQ q:=λt ht=>(h.le t ht).1
theorem W8 (ns:List Int){w:Int}(w1:0<=w)(w2:w < 4){v:Int}(ev:atI [D.int 20,D.int 5,D.int 3,D.int 5] w=some (.int v))(hv:0 < v)(X1 X2 X3 X4 X5 X6 X8 X10:Option En) :
  ∀(us:List Int) (k:Nat) (acc:SI) (x7 x12:Option En),acc.length+us.length<=900->∃(x7' x12':Option En),
   forD (.tup [7,12]) kF (enumD k (us.map D.int)) [some (.val (.scr ns)),X1,X2,X3,X4,X5,X6,x7,X8,some (.val (.int w)),X10,some (.acc (acc.map tkD)),x12]
    = some (.next [some (.val (.scr ns)),X1,X2,X3,X4,X5,X6,x7',X8,some (.val (.int w)),X10,some (.acc ((acc++qL (ns.getD 4 0) v k us).map tkD)),x12'])
 | [],k,acc,x7,x12,_=>⟨x7,x12,by simp[enumD,qL]⟩
 |u::us,k,acc,x7,x12,hl=>by
  simp only[List.length_cons] at hl
  obtain⟨x7',x12',p⟩:=W8 ns w1 w2 ev hv X1 X2 X3 X4 X5 X6 X8 X10 us (k+1) (acc++[(mk (nmK (ns.getD 4 0) k),1+u % v)]) (some (.val (.int (k:Int)))) (some (.val (.int u))) (by simp;omega)
  refine⟨x7',x12',?_⟩
  have e0:=uv ns 4
  have e1:=GC (ns.getD 4 0) k
  have hT:acc.length<=TOP:=zF (by omega)
  have t4:4<=TOP:=by decide
  simp only[List.map_cons,enumD,qL]
  rw[List.append_assoc,List.singleton_append] at p
  rw[<-p]
  simp at e0 e1
  simp[asgD,z6,kF,e0,e1,ev,zR,hv,tkD,t2,t4,hT]
theorem rng4 {a b c d:Int}{us:List Int}(h:Rng [a,b,c,d] us):∃x y z w,us=[x,y,z,w]/\(0<=x/\x < a)/\(0<=y/\y < b)/\(0<=z/\z < c)/\0<=w/\w < d:=by
 match us,h with
 | [x,y,z,w],h=>exact⟨x,y,z,w,rfl,h.1,h.2.1,h.2.2.1,h.2.2.2.1⟩
 | [],h=>exact h.elim
 | [_],h=>exact h.2.elim
 | [_,_],h=>exact h.2.2.elim
 | [_,_,_],h=>exact h.2.2.2.elim
 |_::_::_::_::_::_,h=>exact h.2.2.2.2.elim
theorem rng2 {a b:Int}{us:List Int}(h:Rng [a,b] us):∃x y,us=[x,y]/\(0<=x/\x < a)/\0<=y/\y < b:=by
 match us,h with
 | [x,y],h=>exact⟨x,y,rfl,h.1,h.2.1⟩
 | [],h=>exact h.elim
 | [_],h=>exact h.2.elim
 |_::_::_::_,h=>exact h.2.2.elim
theorem uX:∀(k:Nat) (xs:List D),(enumD k xs).length=xs.length
 |_,[]=>rfl
 |k,x::xs=>by simp[enumD,uX (k+1) xs]
theorem G7 (ns:List Int):∃(q:SI) (rs:List HM.Row) (rest b0:Int),Q5 q/\(∀r∈rs,RowOk r)/\rs.length<=5/\(1<=rest/\rest<=3)/\(0<=b0/\b0<=20) /\
  wX [.val (.scr ns)]=some (.val (.tup [.lst (q.map tkD),.lst (rs.map rowD),.int rest,.int b0])):=by
 obtain⟨us1,r1,p1⟩:=wS ns 1 [6,21,3,4] (by simp) (by simp)
 obtain⟨many,b0,rest,w,rfl,hm,hb,hr,hw⟩:=rng4 r1
 obtain⟨m,rfl⟩:∃m:Nat,many=(m:Int):=⟨many.toNat,by omega⟩
 obtain⟨us2,r2,p2⟩:=wS ns 2 (List.replicate m [6,36]).flatten (λb hb=>by
  obtain⟨l,hl,hb⟩:=List.mem_flatten.mp hb
  rw[List.eq_of_mem_replicate hl] at hb
  simp at hb
  omega) (by simp;omega)
 obtain⟨_,g2'⟩:=Z7 m us2 r2
 obtain⟨us3,r3,p3⟩:=wS ns 3 [9,4] (by simp) (by simp)
 obtain⟨tk,lw,rfl,ht,hw2⟩:=rng2 r3
 obtain⟨t,rfl⟩:∃t:Nat,tk=(t:Int):=⟨tk.toNat,by omega⟩
 obtain⟨us4,r4,p4⟩:=wS ns 3 ([9,4]++(List.replicate t [20]).flatten) (λb hb=>by
  rcases List.mem_append.mp hb with hb | hb
  ·simp at hb;omega
  ·obtain⟨l,hl,hb⟩:=List.mem_flatten.mp hb
   rw[List.eq_of_mem_replicate hl] at hb
   simp at hb
   omega) (by simp;omega)
 have l4:us4.length=t+2:=by rw[r4.len];simp
 obtain⟨v,ev,hv⟩:=pick4 20 5 3 5 hw2.1 hw2.2
 obtain⟨rs,x7,q1,q2,q3⟩:=Y5 us2 hw.1 hw.2 m g2' (some (.val (.scr ns))) (some (.val (.int m))) (some (.val (.int b0))) (some (.val (.int rest))) none none none none none (List.range m) [] none (λk hk=>List.mem_range.mp hk) (by simp;omega)
 obtain⟨x7',x12',q4⟩:=W8 ns hw2.1 hw2.2 ev (by omega) (some (.val (.int m))) (some (.val (.int b0))) (some (.val (.int rest))) (some (.val (.int w))) (some (.val (.lst (us2.map D.int)))) (some (.acc (rs.map rowD))) (some (.val (.int t))) (some (.val (.lst ((us4.drop 2).map D.int)))) (us4.drop 2) 0 [] x7 none (by simp;omega)
 refine⟨qL (ns.getD 4 0) v 0 (us4.drop 2),rs,1+rest,b0,⟨λt ht=>?_,W3 _ _ _ _ (by simp;omega),by rw[qC];simp;omega,Vn _ _ (by omega) (by omega) _ _⟩,q1,by rw[q2];simp;omega,⟨by omega,by omega⟩,⟨by omega,by omega⟩,?_⟩
 ·obtain⟨j,_,_,e⟩:=ua _ v 0 _ t.1 (List.mem_map_of_mem ht)
  rw[e];exact Gy _ j
 ·have er1:=uW [6,36] (n:=m) (by simp;omega) (by omega)
  have er2:=uW [20] (n:=t) (by simp;omega) (by omega)
  have hcut:cutD (us4.map D.int) (some 2) none=(us4.drop 2).map D.int:=by rw[wp (by omega),List.map_drop];rfl
  have hT3:t+2<=TOP:=zF (by omega)
  have hT5:us4.length<=TOP:=zF (by omega)
  have hT6:(us4.drop 2).length<=TOP:=zF (by simp;omega)
  have hlen:((List.replicate t [(20:Int)]).flatten).length=t:=by simp
  rw[List.map_append] at p4
  have hTe:(enumD 0 ((us4.drop 2).map D.int)).length<=TOP:=by rw[uX];simpa using hT6
  generalize hR1:(List.replicate m [(6:Int),36]).flatten.map D.int=R1 at *
  generalize hR2:(List.replicate t [(20:Int)]).flatten.map D.int=R2 at *
  have hl2:R2.length=t:=by rw[<-hR2];simpa using hlen
  have hz:m<=TOP:=zF (by omega)
  have hcat:fCatS (.lst [.int 9,.int 4]) (.lst R2)=some ([.int 9,.int 4]++R2):=by rw[KF];simp[hl2];omega
  have hrng:rngD 0 m=(List.range m).map λ(k:Nat)=>D.int (0+(k:Int)):=vQ 0 m
  have hbig:-BIG<=(m:Int)/\(m:Int)<=BIG:=by simp[BIG];omega
  have t4:4<=TOP:=by decide
  have hlr:rs.length<=TOP:=zF (by rw[q2];simp;omega)
  have hlq:(qL (ns.getD 4 0) v 0 (us4.drop 2)).length<=TOP:=by rw[qC];exact hT6
  generalize hqq:qL (ns.getD 4 0) v 0 (us4.drop 2)=Q at *
  generalize hD:(us4.drop 2).map D.int=DD at *
  generalize hU4:us4.map D.int=U4 at *
  generalize hU2:us2.map D.int=U2 at *
  simp only[List.map_cons,List.map_nil,Int.natCast_one,Int.cast_ofNat_Int,List.nil_append,List.map_append] at p1 p2 p3 p4 er1 er2 q3 q4
  simp only[wX,mir,stE,vS,ug]
  simp only[Int.zero_add] at q3 hrng
  have t1:1<=TOP:=by decide
  have hl3:2+R2.length<=TOP:=by rw[hl2];omega
  simp only[List.cons_append,List.nil_append] at p4
  simp[p1,p2,p3,p4,er1,er2,t1,t2,t4,hbig,hrng,q3,q4,hl3,hcut,hTe,frzE]
theorem Ym {α:Type}{f:Int->Int}:∀ {rows rows':List (Int×List α)} {x:Int} {q:List (Tk α)},Run f x q rows->Run f x q rows'->rows=rows'
 |_,_,_,_,.nil x,h=>by
  cases h with
  |nil=>rfl
  |cons h _=>exact (h rfl).elim
 |_,_,_,_,.cons h1 r,h=>by
  cases h with
  |nil=>exact (h1 rfl).elim
  |cons h2 r'=>rw[Ym r r']
@[simp]theorem zew {ρ:EnvD}{b:SD}:thenB (some (.brk ρ)) b=some (.brk ρ):=rfl
@[simp]theorem zcq {ρ:EnvD}{b:SD}:loopB (some (.brk ρ)) b=some (.next ρ):=rfl
def sideD (rs:List HM.Row)(rest:Int):D:=.tup [.lst (rs.map rowD),.int rest,.int 1,.int 0]
theorem YI (X0 X1 X2 X3 X4 X5:Option En)(rest:Int):∀(rs:List HM.Row) (x:Int) (a b:Option En),∃(x' a' b':Option En),
  forD (.tup [8,9]) jz (rs.map rowD) [X0,X1,X2,X3,X4,X5,some (.val (.int rest)),some (.val (.int x)),a,b]=some (.next [X0,X1,X2,X3,X4,X5,some (.val (.int (atR rest rs x))),x',a',b'])
 | [],x,a,b=>⟨some (.val (.int x)),a,b,by simp[atR]⟩
 |r::rs,x,a,b=>by
  by_cases h:x < r.1
  ·exact⟨some (.val (.int x)),some (.val (.int r.1)),some (.val (.int r.2)),by simp[atR,h,jz,rowD,asgD,z6]⟩
  ·obtain⟨x',a',b',p⟩:=YI X0 X1 X2 X3 X4 X5 rest rs (x - r.1) (some (.val (.int r.1))) (some (.val (.int r.2)))
   refine⟨x',a',b',?_⟩
   rw[atR,if_neg h,<-p]
   simp[h,jz,rowD,asgD,z6]
theorem Wi {rs:List HM.Row}{rest x:Int}:yL [.val (sideD rs rest),.val (.int x)]=some (.val (.int (atR rest rs x))):=by
 obtain⟨x',a',b',p⟩:=YI (some (.val (sideD rs rest))) (some (.val (.int x))) (some (.val (.lst (rs.map rowD)))) (some (.val (.int rest))) (some (.val (.int 1))) (some (.val (.int 0))) rest rs x none none
 have h2:¬(x<=0/\1<=x):=by omega
 simp only[sideD] at p
 by_cases h:1<=x
 ·have h3:¬(x<=0):=by omega
  simp[yL,mir,stE,wQ,jX,sideD,asgD,z6,p,h,h3]
 ·simp[yL,mir,stE,wQ,jX,sideD,asgD,z6,p,h]
theorem Rk (q:List (Str×Int)):compD (.tup [0,1]) (gb' (g2 fGt (gr 1) (gc (.int 1)))) Zs [none,none] (q.map tkD)=some (((q.filter λt=>decide (1 < t.2)).map λt=>(t.1,t.2 - 1)).map tkD):=jc q
theorem Zd {rest:Int}{rs:List HM.Row}(F:HOk rest rs)(X0 X2:Option En):∀(n:Nat) (q:SI) (acc:List (Int×List Str)) (x:Int) (a:Option En),PosQ q->(∀t∈q,Ok t.1)->q.length<=100->sumQ q+(total rs - x).toNat<=n->acc.length+n<=5000 ->
  ∃(out:List (Int×List Str)) (v3 v5 v6:Option En),Run (atR rest rs) x q out /\
   whileD (gb' (g2 (fEq true) (gr 3) (gFz (gLst gNil)))) Za (n+1) [X0,some (.val (sideD rs rest)),X2,some (.val (.lst (q.map tkD))),some (.acc (acc.map rnD)),some (.val (.int x)),a]
    = some (.next [X0,some (.val (sideD rs rest)),X2,v3,some (.acc ((acc++out).map rnD)),v5,v6])
 |n,q,acc,x,a,hp,ho,hl,hs,ha=>by
  have hne:=Jb (neg:=true) ho
  by_cases hq:q=[]
  ·subst hq
   refine⟨[],some (.val (.lst [])),some (.val (.int x)),a,.nil _,?_⟩
   rw[j6]
   ·simp
   ·simp at hne
    simp[hne]
  ·have hn:=F.nn x
   have e1:=Wi (rs:=rs) (rest:=rest) (x:=x)
   have hsum:=Wz (m:=(atR rest rs x).toNat) hp
   have hql:1<=q.length:=by cases q with | nil=>exact (hq rfl).elim | cons=>simp
   have hdec:sumQ (beh (atR rest rs x).toNat q)+(total rs - (x+1)).toNat+1<=n:=by
    by_cases hx:x < total rs
    ·omega
    ·have:=ul (rest:=rest) rs x (by omega) F.pos
     have h1:=F.lo
     rw[this] at hsum ⊢
     omega
   have hb:=VU (m:=(atR rest rs x).toNat) (q:=q)
   match n,hs,ha,hdec with
   |n+1,hs,ha,hdec=>
    obtain⟨out,v3,v5,v6,o1,o2⟩:=Zd F X0 X2 n (beh (atR rest rs x).toNat q) (acc++[(x,srv (atR rest rs x).toNat q)]) (x+1) (some (.val (.int (atR rest rs x)))) (VQ hp) (Zy Ok ho) (by omega) (by omega) (by simp;omega)
    refine⟨(x,srv (atR rest rs x).toNat q)::out,v3,v5,v6,.cons hq o1,?_⟩
    generalize hat:atR rest rs x=m at *
    have c1:cutD (q.map tkD) none (some m)=(q.take m.toNat).map tkD:=by rw[qF hn,List.map_take]
    have c2:cutD (q.map tkD) (some m) none=(q.drop m.toNat).map tkD:=by rw[wp hn,List.map_drop]
    have e3:=Rk (q.take m.toNat)
    have e4:=uF (e:=uH) (λa b=>by simp[uH]) (q.take m.toNat)
    have lA:(q.take m.toNat).length<=q.length:=by rw[List.length_take];omega
    have lB:(q.drop m.toNat).length<=q.length:=by rw[List.length_drop];omega
    have hf:=List.length_filter_le (λt:Str×Int=>decide (1 < t.2)) (q.take m.toNat)
    generalize hA:q.take m.toNat=A at *
    generalize hB:q.drop m.toNat=Bq at *
    have tA:A.length<=TOP:=zF (by omega)
    have tB:Bq.length<=TOP:=zF (by omega)
    have tc:(A.filter λt=>decide (1 < t.2)).length+Bq.length<=TOP:=by simp only[TOP];omega
    have tf:(A.filter λt=>decide (1 < t.2)).length<=TOP:=by omega
    have hT:acc.length<=TOP:=by simp[TOP];omega
    rw[vg (ρ2:=[X0,some (.val (sideD rs rest)),X2,some (.val (.lst ((beh m.toNat q).map tkD))),some (.acc ((acc++[(x,srv m.toNat q)]).map rnD)),some (.val (.int (x+1))),some (.val (.int m))]) (by
     simp at hne;simp[hne,hq]) (by
     simp only[sideD] at e1
     simp at e3 e4
     simp[Za,sideD,e1,c1,c2,e3,e4,tA,tB,tc,tf,hT,t2,beh,srv,hA,hB,rnD]),o2,List.append_assoc,List.singleton_append]
structure Wd (q:SI)(rs:List HM.Row)(rest b0:Int):Prop where
 q5:Q5 q
 row:∀r∈rs,RowOk r
 len:rs.length<=5
 lo:1<=rest
 hi:rest<=3
 b0:0<=b0
section
variable {q:SI}{rs:List HM.Row}{rest b0:Int}
theorem Wd.fit (W:Wd q rs rest b0):Fit rs rest:=⟨λr hr=>⟨⟨(W.row r hr).1.1,by have:=(W.row r hr).1.2;omega⟩,(W.row r hr).2⟩,by have:=W.len;omega,W.lo,by have:=W.hi;omega⟩
theorem Wd.hok (W:Wd q rs rest b0):HOk rest rs:=by
 have h1:=uE rs W.fit.good
 have h2:=W.len
 exact⟨W.fit.pos,W.lo,by omega⟩
theorem Wd.sum (W:Wd q rs rest b0):sumQ q<=160:=Ja (n:=8) (b:=20) q W.q5.len λt ht=>(W.q5.le t ht).2
theorem zas (W:Wd q rs rest b0):∃out:List (Int×List Str),Run (atR rest rs) b0 q out /\
  yD [.val (.lst (q.map tkD)),.val (sideD rs rest),.val (.int b0)]=some (.acc (out.map rnD)):=by
 have ht:=W.hok.tot
 have hs:=W.sum
 have hl:=W.q5.len
 have hb:=W.b0
 obtain⟨out,v3,v5,v6,o1,o2⟩:=Zd W.hok (some (.val (.lst (q.map tkD)))) (some (.val (.int b0))) (sumQ q+(total rs - b0).toNat) q [] b0 none W.q5.pos W.q5.ok (by omega) (by omega) (by simp;omega)
 refine⟨out,o1,?_⟩
 have o3:=kr o2
 have hT:q.length<=TOP:=zF (by omega)
 simp at o3
 simp[yD,mir,stE,w6,qR,o3,hT]
end
theorem V4 (X0 X3:Option En)(v:Int):∀(xs:List Str) (d:SI) (a:Option En),d.length+xs.length<=1000000->∃a':Option En,
  forD (.name 4) kC (xs.map D.str) [X0,some (.dct none (kv d)),some (.val (.int v)),X3,a]=some (.next [X0,some (.dct none (kv (xs.foldl (λd n=>putS d n v) d))),some (.val (.int v)),X3,a'])
 | [],d,a,_=>⟨a,by simp⟩
 |x::xs,d,a,hl=>by
  simp only[List.length_cons] at hl
  have hz:(kv d).length < sizeLine:=by rw[qk,sizeLine_eq];omega
  have hp:=vO x v d
  have h2:=wq x v d
  obtain⟨a',p⟩:=V4 X0 X3 v xs (putS d x v) (some (.val (.str x))) (by omega)
  refine⟨a',?_⟩
  rw[List.foldl_cons,<-p]
  simp[kC,hz,hp]
theorem Vj (X0:Option En):∀(rows:List (Int×List Str)) (d:SI) (a b c:Option En),(∀r∈rows,r.2.length<=100)->d.length+100 * rows.length<=1000000->∃a' b' c':Option En,
  forD (.tup [2,3]) uw (rows.map rnD) [X0,some (.dct none (kv d)),a,b,c]=some (.next [X0,some (.dct none (kv (endsS d rows))),a',b',c'])
 | [],d,a,b,c,_,_=>⟨a,b,c,by simp[endsS]⟩
 |r::rows,d,a,b,c,h,hl=>by
  simp only[List.length_cons] at hl
  have hr:=h r List.mem_cons_self
  obtain⟨c1,p1⟩:=V4 X0 (some (.val (.lst (r.2.map D.str)))) r.1 r.2 d c (by omega)
  have h2:=kU r.1 r.2 d
  obtain⟨a',b',c',p⟩:=Vj X0 rows (r.2.foldl (λd n=>putS d n r.1) d) (some (.val (.int r.1))) (some (.val (.lst (r.2.map D.str)))) c1 (λu hu=>h u (List.mem_cons_of_mem _ hu)) (by omega)
  refine⟨a',b',c',?_⟩
  rw[show endsS d (r::rows)=endsS (r.2.foldl (λd n=>putS d n r.1) d) rows from rfl,<-p]
  simp[uw,rnD,asgD,z6,p1]
theorem Ye {rows:List (Int×List Str)}(h:∀r∈rows,r.2.length<=100)(hl:rows.length<=5000):xn [.val (.lst (rows.map rnD))]=some (.dct none (kv (endsS [] rows))):=by
 obtain⟨a',b',c',p⟩:=Vj (some (.val (.lst (rows.map rnD)))) rows [] none none none h (by simp;omega)
 simp[kv] at p
 simp[xn,mir,stE,ju,u9,p]
 rfl
def late (E P:SI):SI->Option (Str×Int×Int)
 | []=>none
 |t::q=>match lookS P t.1,lookS E t.1 with
  |some p,some e=>if p < e then some (t.1,p,e) else late E P q
  |_,_=>late E P q
theorem jb {E P:SI}:∀ {q:SI} {n:Str} {p e:Int},late E P q=some (n,p,e)->lookS P n=some p/\lookS E n=some e/\n∈nms q
 | [],n,p,e,h=>by simp[late] at h
 |t::q,n,p,e,h=>by
  unfold late at h
  split at h
  ·rename_i p' e' h1 h2
   split at h
   ·cases h
    exact⟨h1,h2,by simp[nms]⟩
   ·obtain⟨a,b,c⟩:=jb h
    exact⟨a,b,by simp only[nms,List.map_cons,List.mem_cons];exact .inr c⟩
  ·obtain⟨a,b,c⟩:=jb h
   exact⟨a,b,by simp only[nms,List.map_cons,List.mem_cons];exact .inr c⟩
def dueD (o:Option (Str×Int×Int))(run:List (Int×List Str)):D:=match o with
 |none=>.tup [.str "granted"]
 |some (n,p,e)=>.tup [.str "late",.str n,.int p,.int e,.lst (run.map rnD)]
theorem Vh (X0 X1 X2:Option En)(E P:SI)(run:List (Int×List Str)):∀(q:SI) (a b:Option En),(∀t∈q,∃e,lookS E t.1=some e) ->
  match late E P q with
  |none=>∃a' b',forD (.tup [6,7]) yU (q.map tkD) [X0,X1,X2,some (.dbo (kv P)),some (.val (.lst (run.map rnD))),some (.dct none (kv E)),a,b]=some (.next [X0,X1,X2,some (.dbo (kv P)),some (.val (.lst (run.map rnD))),some (.dct none (kv E)),a',b'])
  |some o=>forD (.tup [6,7]) yU (q.map tkD) [X0,X1,X2,some (.dbo (kv P)),some (.val (.lst (run.map rnD))),some (.dct none (kv E)),a,b]=some (.ret (.val (dueD (some o) run)))
 | [],a,b,_=>⟨a,b,by simp⟩
 |t::q,a,b,h=>by
  obtain⟨e,he⟩:=h t (by simp)
  have hE:=y3 t.1 E
  have hP:=y3 t.1 P
  rw[he] at hE
  have ih:=Vh X0 X1 X2 E P run q (some (.val (.str t.1))) (some (.val (.int t.2))) λu hu=>h u (by simp[hu])
  have t5:5<=TOP:=by decide
  unfold late
  cases hp:lookS P t.1 with
  |none=>
   rw[hp] at hP
   simp only[Option.map_none] at hP
   have e1:yU [X0,X1,X2,some (.dbo (kv P)),some (.val (.lst (run.map rnD))),some (.dct none (kv E)),some (.val (.str t.1)),some (.val (.int t.2))]=some (.next [X0,X1,X2,some (.dbo (kv P)),some (.val (.lst (run.map rnD))),some (.dct none (kv E)),some (.val (.str t.1)),some (.val (.int t.2))]):=by
    simp[yU,hP]
   simp only[List.map_cons,yE,tkD,asgD,z6]
   simp[e1]
   exact ih
  |some p=>
   rw[hp] at hP
   simp only[Option.map_some] at hP hE
   rw[he]
   by_cases hlt:p < e
   ·simp only[hlt,if_true]
    simp[tkD,asgD,z6,yU,hP,hE,hlt,dueD,t5]
   ·simp only[hlt,if_false]
    have e1:yU [X0,X1,X2,some (.dbo (kv P)),some (.val (.lst (run.map rnD))),some (.dct none (kv E)),some (.val (.str t.1)),some (.val (.int t.2))]=some (.next [X0,X1,X2,some (.dbo (kv P)),some (.val (.lst (run.map rnD))),some (.dct none (kv E)),some (.val (.str t.1)),some (.val (.int t.2))]):=by
     simp[yU,hP,hE,hlt]
    simp only[List.map_cons,yE,tkD,asgD,z6]
    simp[e1]
    exact ih
def FG:List Str:=["queue","hours","begin"]
def FL:List Str:=["queue","hours","begin","name","promised","turn","run"]
section
variable {a b c d e f g:D}
theorem Yt:putZ "queue" a [] []=((["queue"]:List Str),([a]:List D)):=by rfl
theorem VC:putZ "hours" b ["queue"] [a]=((["queue","hours"]:List Str),([a,b]:List D)):=by rfl
theorem WH:putZ "begin" c ["queue","hours"] [a,b]=((["queue","hours","begin"]:List Str),([a,b,c]:List D)):=by rfl
theorem Kb:putZ "name" d ["queue","hours","begin"] [a,b,c]=((["queue","hours","begin","name"]:List Str),([a,b,c,d]:List D)):=by rfl
theorem Gk:putZ "promised" e ["queue","hours","begin","name"] [a,b,c,d]=((["queue","hours","begin","name","promised"]:List Str),([a,b,c,d,e]:List D)):=by rfl
theorem zav:putZ "turn" f ["queue","hours","begin","name","promised"] [a,b,c,d,e]=((["queue","hours","begin","name","promised","turn"]:List Str),([a,b,c,d,e,f]:List D)):=by rfl
theorem Uf:putZ "run" g ["queue","hours","begin","name","promised","turn"] [a,b,c,d,e,f]=((["queue","hours","begin","name","promised","turn","run"]:List Str),([a,b,c,d,e,f,g]:List D)):=by rfl
theorem kQ:lookZ "queue" FG [a,b,c]=some a:=by rfl
theorem qI:lookZ "hours" FG [a,b,c]=some b:=by rfl
theorem uz:lookZ "begin" FG [a,b,c]=some c:=by rfl
theorem Va:lookZ "granted" FG [a,b,c]=none:=by rfl
theorem VD:lookZ "word" FG [a,b,c]=none:=by rfl
theorem kR:lookZ "told" FG [a,b,c]=none:=by rfl
theorem JR:lookZ "holds" FG [a,b,c]=none:=by rfl
theorem kz:lookZ "queue" FL [a,b,c,d,e,f,g]=some a:=by rfl
theorem kq:lookZ "hours" FL [a,b,c,d,e,f,g]=some b:=by rfl
theorem qB:lookZ "begin" FL [a,b,c,d,e,f,g]=some c:=by rfl
theorem YZ:lookZ "name" FL [a,b,c,d,e,f,g]=some d:=by rfl
theorem Yx:lookZ "promised" FL [a,b,c,d,e,f,g]=some e:=by rfl
theorem YJ:lookZ "turn" FL [a,b,c,d,e,f,g]=some f:=by rfl
theorem Wn:lookZ "run" FL [a,b,c,d,e,f,g]=some g:=by rfl
theorem YO:lookZ "granted" FL [a,b,c,d,e,f,g]=none:=by rfl
theorem Zt:lookZ "word" FL [a,b,c,d,e,f,g]=none:=by rfl
theorem jU:lookZ "told" FL [a,b,c,d,e,f,g]=none:=by rfl
theorem zah:lookZ "holds" FL [a,b,c,d,e,f,g]=none:=by rfl
end
@[simp]theorem kX {α:Type}{g1 g2:EnvD->Option α}{ρ:EnvD}:yAlt g1 g2 ρ=match g1 ρ with | some q=>some q | none=>g2 ρ:=rfl
def grD (C:Str->Addr)(q:SI)(h:D)(b0:Int):D:=.obj (C "Granted") FG [.lst (q.map tkD),h,.int b0]
def laD (C:Str->Addr)(q:SI)(h:D)(b0:Int)(n:Str)(p e:Int)(run:List (Int×List Str)):D:=.obj (C "Late") FL [.lst (q.map tkD),h,.int b0,.str n,.int p,.int e,.lst (run.map rnD)]
section
variable {x:En}{q:SI}{h:D}{b0:Int}
theorem Qw (C:Str->Addr)(hx:Lq x (q.map tkD))(hl:q.length<=900):xy C [x,.val h,.val (.int b0)]=some (FG,[.lst (q.map tkD),h,.int b0]):=by
 have hT:q.length<=TOP:=zF (by omega)
 simp only[xy,mirI,stE,vL,vX]
 rcases hx with rfl | rfl<;>simp[hT,Yt,VC,WH,outI,outJ,FG]
theorem Gq (C:Str->Addr)(a dx:Addr)(hx:Lq x (q.map tkD))(hl:q.length<=900):yV C a dx [x,.val h,.val (.int b0)]=some (FG,[.lst (q.map tkD),h,.int b0]):=by
 have hT:q.length<=TOP:=zF (by omega)
 simp only[yV,mirI,stE,Vu,uU]
 rcases hx with rfl | rfl<;>simp[hT,Yt,VC,WH,outI,outJ,FG]
def rowT (r:Int×List Str):OT:=.tup [.frz (.int r.1),.lst (lfs (r.2.map D.str))]
theorem Vl:∀(run:List (Int×List Str)),(∀r∈run,r.2.length<=100)->compT (.tup [0,1]) tYes (gTupT (tCn (gLf (gv 0)) (tCn (gLs (gB fList (gCons' (gr 1) gNil))) tNl))) [none,none] (run.map rnD)=some (run.map rowT)
 | [],_=>by simp
 |r::run,h=>by
  have ih:=Vl run λu hu=>h u (by simp[hu])
  have hT:r.2.length<=TOP:=zF (by have:=h r (by simp);omega)
  simp only[List.map_cons,RK,ih]
  simp[asgD,z6,rnD,rowT,hT,t2]
theorem YV:∀(run:List (Int×List Str)),erases (run.map rowT)=run.map rnD
 | []=>by simp
 |r::run=>by simp[YV run,rowT,rnD]
theorem WK {run:List (Int×List Str)}(h:∀r∈run,r.2.length<=100)(hl:run.length<=5000):xh [.val (.lst (run.map rnD))]=some (.tre (.lst (run.map rowT))):=by
 have e:=Vl run h
 have hT:run.length<=TOP:=by simp[TOP];omega
 simp[xh,mir,stE,Vp,qH,gCompT,e,hT]
theorem Y6 (run:List (Int×List Str)):(OT.lst (run.map rowT)).erase=.lst (run.map rnD):=by simp[OT.erase,YV]
theorem GG (C:Str->Addr)(hx:Lq x (q.map tkD))(hl:q.length<=900){n:Str}{p e:Int}{run:List (Int×List Str)}(hr:∀r∈run,r.2.length<=100)(hrl:run.length<=5000) :
  yY C [x,.val h,.val (.int b0),.val (.str n),.val (.int p),.val (.int e),.val (.lst (run.map rnD))]=some (FL,[.lst (q.map tkD),h,.int b0,.str n,.int p,.int e,.lst (run.map rnD)]):=by
 have ej:=Gq C 0 0 (h:=h) (b0:=b0) hx hl
 have eo:=WK hr hrl
 have er:=Y6 run
 simp only[yY,mirI,stE,jd,j3]
 rcases hx with rfl | rfl<;>simp[sBase,ej,eo,er,frzO,FG,Kb,Gk,zav,Uf,outI,outJ,FL]
theorem u7 (C:Str->Addr):yb C [.val (grD C q h b0)]=some (.tre (.tup [.frz (.str "granted")])):=by
 have t1:1<=TOP:=by decide
 simp[yb,mir,stE,YL,uB,grD,VD,yC,uT,jR,t1]
def dueT (n:Str)(p e:Int)(run:List (Int×List Str)):OT:=.tup [.frz (.str "late"),.frz (.str n),.frz (.int p),.frz (.int e),.lst (run.map rowT)]
theorem j5 (C:Str->Addr){n:Str}{p e:Int}{run:List (Int×List Str)}(hr:∀r∈run,r.2.length<=100)(hrl:run.length<=5000):zX C [.val (laD C q h b0 n p e run)]=some (.tre (dueT n p e run)):=by
 have t5:5<=TOP:=by decide
 have eo:=WK hr hrl
 simp[zX,mir,stE,WU,kl,laD,Zt,YZ,Yx,YJ,Wn,yK,qS,jB,t5,eo,treO,dueT]
theorem uO (n:Str)(p e:Int)(run:List (Int×List Str)):(dueT n p e run).erase=dueD (some (n,p,e)) run:=by
 simp[dueT,dueD,Y6]
end
theorem V2 (X0:Option En)(E P:SI):∀(q:SI) (a b:Option En),(∀t∈q,∃e,lookS E t.1=some e) ->
  match late E P q with
  |none=>∃a' b',forD (.tup [3,4]) yI (q.map tkD) [X0,some (.dbo (kv E)),some (.dbo (kv P)),a,b]=some (.next [X0,some (.dbo (kv E)),some (.dbo (kv P)),a',b'])
  |some o=>forD (.tup [3,4]) yI (q.map tkD) [X0,some (.dbo (kv E)),some (.dbo (kv P)),a,b]=some (.ret (.val (.str o.1)))
 | [],a,b,_=>⟨a,b,by simp⟩
 |t::q,a,b,h=>by
  obtain⟨e,he⟩:=h t (by simp)
  have hE:=y3 t.1 E
  have hP:=y3 t.1 P
  rw[he] at hE
  have ih:=V2 X0 E P q (some (.val (.str t.1))) (some (.val (.int t.2))) λu hu=>h u (by simp[hu])
  unfold late
  cases hp:lookS P t.1 with
  |none=>
   rw[hp] at hP
   simp only[Option.map_none] at hP
   have e1:yI [X0,some (.dbo (kv E)),some (.dbo (kv P)),some (.val (.str t.1)),some (.val (.int t.2))]=some (.next [X0,some (.dbo (kv E)),some (.dbo (kv P)),some (.val (.str t.1)),some (.val (.int t.2))]):=by
    simp[yI,hP]
   simp only[List.map_cons,yE,tkD,asgD,z6]
   simp[e1]
   exact ih
  |some p=>
   rw[hp] at hP
   simp only[Option.map_some] at hP hE
   rw[he]
   by_cases hlt:p < e
   ·simp only[hlt,if_true]
    simp[tkD,asgD,z6,yI,hP,hE,hlt]
   ·simp only[hlt,if_false]
    have e1:yI [X0,some (.dbo (kv E)),some (.dbo (kv P)),some (.val (.str t.1)),some (.val (.int t.2))]=some (.next [X0,some (.dbo (kv E)),some (.dbo (kv P)),some (.val (.str t.1)),some (.val (.int t.2))]):=by
     simp[yI,hP,hE,hlt]
    simp only[List.map_cons,yE,tkD,asgD,z6]
    simp[e1]
    exact ih
def nmO:Option (Str×Int×Int)->D
 |none=>.non
 |some o=>.str o.1
theorem Kt {x:En}{q E P:SI}(hx:Lq x (q.map tkD))(h:∀t∈q,∃e,lookS E t.1=some e):xS [x,.dbo (kv E),.dbo (kv P)]=some (.val (nmO (late E P q))):=by
 have p:=V2 (some x) E P q none none h
 cases hl:late E P q with
 |none=>
  rw[hl] at p
  obtain⟨a',b',p⟩:=p
  rcases hx with rfl | rfl<;>simp[xS,mir,stE,vn,jY,p,nmO]
 |some o=>
  rw[hl] at p
  simp only at p
  rcases hx with rfl | rfl<;>simp[xS,mir,stE,vn,jY,p,nmO]
structure Rn (C:Str->Addr)(q:SI)(rs:List HM.Row)(rest b0:Int)(out:List (Int×List Str)):Prop where
 ok:∀r∈out,∀y∈r.2,Ok y
 w:∀r∈out,r.2.length<=100
 len:out.length<=5000
 run:Run (atR rest rs) b0 q out
 law:yD [.val (.lst (q.map tkD)),.val (sideD rs rest),.val (.int b0)]=some (.acc (out.map rnD))
 prog:∀x,Lq x (q.map tkD)->xA C [x,.val (hoursD (C "Hours") rest (krows rest rs)),.val (.int b0),.val .non]=some (.acc (out.map rnD))
 ends:∀t∈q,∃e,lookS (endsS [] out) t.1=some e
section
variable {C:Str->Addr}{q:SI}{rs:List HM.Row}{rest b0:Int}{out:List (Int×List Str)}{P:SI}
theorem Wd.rn (C:Str->Addr)(W:Wd q rs rest b0):∃out,Rn C q rs rest b0 out:=by
 have hs:=W.sum
 have hl:=W.q5.len
 have hf:atR rest (krows rest rs)=atR rest rs:=funext W.fit.at
 obtain⟨o,r1,e1⟩:=zas W
 have key:∀x,Lq x (q.map tkD)->(∀r∈o,(∀y∈r.2,Ok y)/\r.2.length<=100)/\o.length<=5000/\xA C [x,.val (hoursD (C "Hours") rest (krows rest rs)),.val (.int b0),.val .non]=some (.acc (o.map rnD)):=λx hx=>by
  obtain⟨o',a1,a2,a3,a4⟩:=J7 C W.fit.hok W.b0 W.q5.pos W.q5.ok (by omega) (by omega) hx
  rw[hf] at a2
  have:=Ym a2 r1
  subst this
  exact⟨a1,a3,a4⟩
 obtain⟨k1,k2,_⟩:=key _ (.inl rfl)
 refine⟨o,λr hr=>(k1 r hr).1,λr hr=>(k1 r hr).2,k2,r1,e1,λx hx=>(key x hx).2.2,λt ht=>?_⟩
 obtain⟨r,hr,hn⟩:=Yb r1 (v:=t.1) (List.mem_map_of_mem ht)
 obtain⟨L,h1,_⟩:=Kv r1 hr hn []
 exact⟨L,h1⟩
theorem Ya (W:Wd q rs rest b0)(R:Rn C q rs rest b0 out):yG [.val (.lst (q.map tkD)),.val (sideD rs rest),.val (.int b0),.dbo (kv P)]=some (.val (dueD (late (endsS [] out) P q) out)):=by
 have e1:=R.law
 have e2:=Ye R.w R.len
 have p:=Vh (some (.val (.lst (q.map tkD)))) (some (.val (sideD rs rest))) (some (.val (.int b0))) (endsS [] out) P out q none none R.ends
 have t1:1<=TOP:=by decide
 generalize endsS [] out=E at *
 cases hl:late E P q with
 |none=>
  rw[hl] at p
  obtain⟨a',b',p⟩:=p
  simp[yG,mir,stE,vG,vV,e1,e2,p,dueD,t1]
 |some o=>
  rw[hl] at p
  simp only at p
  simp[yG,mir,stE,vG,vV,e1,e2,p]
def vD (C:Str->Addr)(q:SI)(h:D)(b0:Int)(run:List (Int×List Str)):Option (Str×Int×Int)->D
 |none=>grD C q h b0
 |some (n,p,e)=>laD C q h b0 n p e run
theorem uI (W:Wd q rs rest b0)(R:Rn C q rs rest b0 out){x:En}(hx:Lq x (q.map tkD)) :
  yh C [x,.val (hoursD (C "Hours") rest (krows rest rs)),.val (.int b0),.dbo (kv P)]=some (.val (vD C q (hoursD (C "Hours") rest (krows rest rs)) b0 out (late (endsS [] out) P q))):=by
 have e1:=R.prog x hx
 have e2:=Uc R.w R.len
 have e3:=Kt (P:=P) hx R.ends
 have hl:=W.q5.len
 have e4:=Qw (h:=hoursD (C "Hours") rest (krows rest rs)) (b0:=b0) C hx (by omega)
 generalize hE:endsS [] out=E at *
 cases ho:late E P q with
 |none=>
  rw[ho] at e3
  rcases hx with rfl | rfl<;>simp[yh,mir,stE,vw,vU,mN,e1,e2,e3,nmO,e4,vD,grD]
 |some o=>
  obtain⟨n,p,e⟩:=o
  rw[ho] at e3
  obtain⟨l1,l2,_⟩:=jb ho
  have k1:=y3 n P
  have k2:=y3 n E
  rw[l1] at k1
  rw[l2] at k2
  simp only[Option.map_some] at k1 k2
  have e5:=GG (h:=hoursD (C "Hours") rest (krows rest rs)) (b0:=b0) C hx (by omega) (n:=n) (p:=p) (e:=e) R.w R.len
  have hnn:isNon (D.str n)=false:=rfl
  rcases hx with rfl | rfl<;>simp[yh,mir,stE,vw,vU,mN,e1,e2,e3,nmO,e5,vD,laD,k1,k2,hnn]
end
def OkO (o:Option (Str×Int×Int)):Prop:=∀n p e,o=some (n,p,e)->Ok n
theorem xu:Ok "late" := by decide +kernel
theorem xB:Ok "granted" := by decide +kernel
theorem RY:¬(("late" : Str) = "granted"):=by decide +kernel
theorem UO:¬(("granted" : Str) = "late"):=by decide +kernel
section
variable {o o':Option (Str×Int×Int)}{run:List (Int×List Str)}
theorem V0 (h:OkO o)(hr:∀r∈run,∀y∈r.2,Ok y):Lay 4 (dueD o run):=by
 obtain⟨h1,h2⟩:=WW hr
 cases o with
 |none=>
  refine⟨?_,?_⟩
  ·show (PyData.canLay0 (.str "granted")&&true)=true
   rw[show PyData.canLay0 (.str "granted")=true from xB];rfl
  ·show max 0 0+1<=4;omega
 |some o=>
  obtain⟨n,p,e⟩:=o
  have hn:=h n p e rfl
  refine⟨?_,?_⟩
  ·show (PyData.canLay0 (.str "late")&&(PyData.canLay0 (.str n)&&(PyData.canLay0 (.int p)&&(PyData.canLay0 (.int e)&&((toP (.lst (run.map rnD))).canLay0&&true)))))=true
   rw[show PyData.canLay0 (.str "late")=true from xu,show PyData.canLay0 (.str n)=true from hn,h1];rfl
  ·show max 0 (max 0 (max 0 (max 0 (max ((toP (.lst (run.map rnD))).depth) 0))))+1<=4;omega
theorem Up:PyData.eqv (toP (dueD o run)) (toP (dueD o' run))=decide (o=o'):=by
 cases o with
 |none=>
  cases o' with
  |none=>
   show (PyData.eqv (.str "granted") (.str "granted")&&true)=_
   rw[xa];simp
  |some o'=>
   obtain⟨n,p,e⟩:=o'
   show (PyData.eqv (.str "granted") (.str "late")&&false)=_
   simp
 |some o=>
  obtain⟨n,p,e⟩:=o
  cases o' with
  |none=>
   show (PyData.eqv (.str "late") (.str "granted")&&false)=_
   simp
  |some o'=>
   obtain⟨n',p',e'⟩:=o'
   show (PyData.eqv (.str "late") (.str "late")&&(PyData.eqv (.str n) (.str n')&&(PyData.eqv (.int p) (.int p')&&(PyData.eqv (.int e) (.int e')&&(PyData.eqv (toP (.lst (run.map rnD))) (toP (.lst (run.map rnD)))&&true)))))=_
   rw[xa,xa,xp,xp,Zl]
   by_cases h1:n=n'<;>by_cases h2:p=p'<;>by_cases h3:e=e'<;>simp[h1,h2,h3]
theorem jJ {neg:Bool}(h:OkO o)(h':OkO o')(hr:∀r∈run,∀y∈r.2,Ok y):fEq neg (dueD o run) (dueD o' run)=some (.bl (if neg then !decide (o=o') else decide (o=o'))) :=
 xO (V0 h hr) (V0 h' hr) (by decide) (by decide) Up
theorem zaq {n:Str}{p e:Int}(hn:Ok n)(hr:∀r∈run,∀y∈r.2,Ok y):fEq false (.tup [.str n,.int p,.int e,.lst (run.map rnD)]) (.tup [.str n,.int p,.int e,.lst (run.map rnD)])=some (.bl true):=by
 obtain⟨h1,h2⟩:=WW hr
 have hl:Lay 4 (.tup [.str n,.int p,.int e,.lst (run.map rnD)]):=by
  refine⟨?_,?_⟩
  ·show (PyData.canLay0 (.str n)&&(PyData.canLay0 (.int p)&&(PyData.canLay0 (.int e)&&((toP (.lst (run.map rnD))).canLay0&&true))))=true
   rw[show PyData.canLay0 (.str n)=true from hn,h1];rfl
  ·show max 0 (max 0 (max 0 (max ((toP (.lst (run.map rnD))).depth) 0)))+1<=4;omega
 refine xO (neg:=false) hl hl (by decide) (by decide) (b:=true) ?_
 show (PyData.eqv (.str n) (.str n)&&(PyData.eqv (.int p) (.int p)&&(PyData.eqv (.int e) (.int e)&&(PyData.eqv (toP (.lst (run.map rnD))) (toP (.lst (run.map rnD)))&&true))))=_
 rw[xa,xp,xp,Zl];simp
end
section
variable {C:Str->Addr}{q:SI}{rs:List HM.Row}{rest b0:Int}{out:List (Int×List Str)}{P:SI}
theorem u6 (W:Wd q rs rest b0){E P:SI}:OkO (late E P q):=λn p e h=>by
 obtain⟨_,_,hm⟩:=jb h
 obtain⟨t,ht,rfl⟩:=List.mem_map.mp hm
 exact W.q5.ok t ht
theorem WN {h:D}:yH C [.val (grD C q h b0)]=some (.val (.bl true)):=by simp[yH,mir,stE,Z0,qJ]
theorem WC {h:D}{n:Str}{p e:Int}:yJ C [.val (laD C q h b0 n p e out)]=some (.val (.bl false)):=by simp[yJ,mir,stE,Wb,ue]
theorem Gf {h:D}:yC C [.val (grD C q h b0)]=some (.val (.str "granted")):=by simp[yC,mir,stE,uT,jR]
theorem Gp {h:D}{n:Str}{p e:Int}:yK C [.val (laD C q h b0 n p e out)]=some (.val (.str "late")):=by simp[yK,mir,stE,qS,jB]
theorem Qc (hC:C "Granted" ≠ C "Late") (W:Wd q rs rest b0) (R:Rn C q rs rest b0 out):y6 C [.val (grD C q (hoursD (C "Hours") rest (krows rest rs)) b0),.dbo (kv P)]=some (.val (.bl (late (endsS [] out) P q).isNone)):=by
 have e1:=uI (P:=P) W R (.inl rfl)
 have hC':=Ne.symm hC
 generalize hoursD (C "Hours") rest (krows rest rs)=h at *
 cases ho:late (endsS [] out) P q with
 |none=>
  rw[ho] at e1
  have e2:=WN (C:=C) (q:=q) (h:=h) (b0:=b0)
  simp only[vD,grD] at e1 e2
  simp[y6,mir,stE,xj,jO,grD,kQ,qI,uz,e1,e2,Va]
 |some o=>
  obtain⟨n,p,e⟩:=o
  rw[ho] at e1
  have e2:=WC (C:=C) (q:=q) (h:=h) (b0:=b0) (n:=n) (p:=p) (e:=e) (out:=out)
  simp only[vD,laD] at e1 e2
  simp[y6,mir,stE,xj,jO,grD,kQ,qI,uz,e1,e2,YO,hC']
theorem ZA:(OT.tup [.frz (.str "granted")]).erase=dueD none out:=by simp[dueD]
theorem Jv (hC:C "Granted" ≠ C "Late") (W:Wd q rs rest b0) (R:Rn C q rs rest b0 out) {n:Str} {p e:Int} (hn:Ok n):yy C [.val (laD C q (hoursD (C "Hours") rest (krows rest rs)) b0 n p e out),.dbo (kv P)]=some (.val (.bl (decide (late (endsS [] out) P q=some (n,p,e))))):=by
 have e1:=uI (P:=P) W R (.inl rfl)
 have hC':=Ne.symm hC
 generalize hoursD (C "Hours") rest (krows rest rs)=h at *
 have e3:=j5 (q:=q) (h:=h) (b0:=b0) (n:=n) (p:=p) (e:=e) C R.w R.len
 have r3:=uO n p e out
 have k:=jJ (neg:=false) (o:=late (endsS [] out) P q) (o':=some (n,p,e)) (run:=out) (u6 W) (λn' p' e' hh=>by cases hh;exact hn) R.ok
 cases ho:late (endsS [] out) P q with
 |none=>
  rw[ho] at e1 k
  have e2:=u7 (q:=q) (h:=h) (b0:=b0) C
  have r2:=ZA (out:=out)
  simp only[vD,grD,laD] at e1 e2 e3
  simp only[dueD] at k r2 r3
  simp[yy,mir,stE,up,vZ,laD,kz,kq,qB,e1,e2,e3,kR,jU,frzO,r3,k]
 |some o=>
  obtain⟨n',p',e'⟩:=o
  rw[ho] at e1 k
  have e2:=j5 (q:=q) (h:=h) (b0:=b0) (n:=n') (p:=p') (e:=e') C R.w R.len
  have r2:=uO n' p' e' out
  simp only[vD,laD] at e1 e2 e3
  simp only[dueD] at k r2 r3
  simp[yy,mir,stE,up,vZ,laD,kz,kq,qB,e1,e2,e3,jU,frzO,r2,r3,k,hC']
end
theorem yz {s b:SD}{ρ ρ':EnvD}{r:Option Fl}(h:s ρ=some (.next ρ'))(k:b ρ'=r):sSeq s b ρ=r:=by
 rw[<-k]
 show thenB (s ρ) b=_
 rw[h];rfl
theorem line9 {n:Nat}(h:n<=1000):n < sizeLine:=by rw[sizeLine_eq];omega
theorem VW (X0 X1 X2 X3 X4:Option En)(E:SI)(us:List Int):∀(ts:SI) (k:Nat) (P:SI) (a b c:Option En),(∀t∈ts,∃e,lookS E t.1=some e)->k+ts.length < us.length->(keysS P).Nodup->P.length+ts.length<=100 ->
  ∃(P':SI) (a' b' c':Option En),(keysS P').Nodup/\P'.length<=P.length+ts.length /\
   forD (.tup [8,9]) yW (enumD k (ts.map tkD)) [X0,X1,X2,X3,X4,some (.dct none (kv E)),some (.val (.lst (us.map D.int))),some (.dct none (kv P)),a,b,c]
    = some (.next [X0,X1,X2,X3,X4,some (.dct none (kv E)),some (.val (.lst (us.map D.int))),some (.dct none (kv P')),a',b',c'])
 | [],k,P,a,b,c,_,_,nd,_=>⟨P,a,b,c,nd,by simp,by simp[enumD]⟩
 |t::ts,k,P,a,b,c,hE,hl,nd,hP=>by
  simp only[List.length_cons] at hl hP
  obtain⟨e,he⟩:=hE t (by simp)
  have kE:=y3 t.1 E
  rw[he] at kE
  simp only[Option.map_some] at kE
  obtain⟨m,hm⟩:∃m,us[k+1]?=some m:=⟨us[k+1],List.getElem?_eq_getElem (by omega)⟩
  obtain⟨s,hs⟩:∃s,us[0]?=some s:=⟨us[0],List.getElem?_eq_getElem (by omega)⟩
  have i1:atI (us.map D.int) ((k:Int)+1)=some (.int m):=by
   have:=atI_nat (xs:=us.map D.int) (i:=k+1) (v:=.int m) (by simp[hm])
   simpa using this
  have i0:atI (us.map D.int) 0=some (.int s):=by
   have:=atI_nat (xs:=us.map D.int) (i:=0) (v:=.int s) (by simp[hs])
   simpa using this
  have h0:atI (α:=D) [.str t.1,.int t.2] 0=some (.str t.1):=rfl
  have hz:(kv P).length < sizeLine:=by rw[qk];exact line9 (by omega)
  have key:∀P1:SI,(keysS P1).Nodup->P1.length<=P.length+1->yW [X0,X1,X2,X3,X4,some (.dct none (kv E)),some (.val (.lst (us.map D.int))),some (.dct none (kv P)),some (.val (.int (k:Int))),some (.val (tkD t)),c]
    = some (.next [X0,X1,X2,X3,X4,some (.dct none (kv E)),some (.val (.lst (us.map D.int))),some (.dct none (kv P1)),some (.val (.int (k:Int))),some (.val (tkD t)),some (.val (.int m))]) ->
   ∃(P':SI) (a' b' c':Option En),(keysS P').Nodup/\P'.length<=P.length+(ts.length+1) /\
   forD (.tup [8,9]) yW (enumD k ((t::ts).map tkD)) [X0,X1,X2,X3,X4,some (.dct none (kv E)),some (.val (.lst (us.map D.int))),some (.dct none (kv P)),a,b,c]
    = some (.next [X0,X1,X2,X3,X4,some (.dct none (kv E)),some (.val (.lst (us.map D.int))),some (.dct none (kv P')),a',b',c']):=λP1 n1 l1 e1=>by
   obtain⟨P',a',b',c',g1,g2',g3⟩:=VW X0 X1 X2 X3 X4 E us ts (k+1) P1 (some (.val (.int (k:Int)))) (some (.val (tkD t))) (some (.val (.int m))) (λu hu=>hE u (by simp[hu])) (by omega) n1 (by omega)
   refine⟨P',a',b',c',g1,by omega,?_⟩
   rw[<-g3]
   simp only[List.map_cons,enumD,yE,asgD,z6]
   simp[e1]
  by_cases c1:m < 10
  ·refine key (putS P t.1 (e+m % 7)) (YN nd) (by have:=wq t.1 (e+m % 7) P;omega) ?_
   have hp:=vO t.1 (e+m % 7) P
   simp[yW,i1,c1,tkD,h0,kE,zR,hz,hp]
  ·by_cases c2:m=10/\s=3
   ·refine key (putS P t.1 (e - 1 - (k:Int) % 3)) (YN nd) (by have:=wq t.1 (e - 1 - (k:Int) % 3) P;omega) ?_
    have hp:=vO t.1 (e - 1 - (k:Int) % 3) P
    simp[yW,i1,i0,c1,c2.1,c2.2,tkD,h0,kE,zR,hz,hp]
   ·refine key P nd (by omega) ?_
    by_cases c3:m=10
    ·have c4:¬(s=3):=λh=>c2 ⟨c3,h⟩
     simp[yW,i1,i0,c3,c4]
    ·simp[yW,i1,c1,c3]
section
variable {C:Str->Addr}{q:SI}{rs:List HM.Row}{rest b0:Int}{out:List (Int×List Str)}
theorem Qy (ns:List Int)(at0:Nat)(W:Wd q rs rest b0)(R:Rn C q rs rest b0 out):∃P:SI,(keysS P).Nodup/\P.length<=50 /\
  vh [.val (.scr ns),.val (.int at0),.val (.lst (q.map tkD)),.val (sideD rs rest),.val (.int b0)]=some (.dct none (kv P)):=by
 have hl:=W.q5.len
 obtain⟨us,r1,p1⟩:=wS ns at0 ([4]++(List.replicate q.length [12]).flatten) (λb hb=>by
  rcases List.mem_append.mp hb with hb | hb
  ·simp at hb;omega
  ·obtain⟨l,hl,hb⟩:=List.mem_flatten.mp hb
   rw[List.eq_of_mem_replicate hl] at hb
   simp at hb
   omega) (by simp;omega)
 have l1:us.length=q.length+1:=by rw[r1.len];simp
 obtain⟨P',a',b',c',g1,g2',g3⟩:=VW (some (.val (.scr ns))) (some (.val (.int at0))) (some (.val (.lst (q.map tkD)))) (some (.val (sideD rs rest))) (some (.val (.int b0))) (endsS [] out) us q 0 [("nobody",0)] none none none R.ends (by omega) (by simp[keysS]) (by simp;omega)
 refine⟨P',g1,by simp at g2';omega,?_⟩
 have e1:=R.law
 have e2:=Ye R.w R.len
 have er:=uW [12] (n:=q.length) (by simp;omega) (by omega)
 rw[List.map_append] at p1
 have hT:q.length<=TOP:=zF (by omega)
 have hTe:(enumD 0 (q.map tkD)).length<=TOP:=by rw[uX];simpa using hT
 have hlen:((List.replicate q.length [(12:Int)]).flatten).length=q.length:=by simp
 have t1:1<=TOP:=by decide
 generalize hR2:(List.replicate q.length [(12:Int)]).flatten.map D.int=R2 at *
 have hl2:R2.length=q.length:=by rw[<-hR2];simpa using hlen
 have hl3:1+R2.length<=TOP:=zF (by omega)
 generalize endsS [] out=E at *
 generalize us.map D.int=U at *
 have hK:kv [("nobody",0)]=[(.inr "nobody",.int 0)]:=rfl
 rw[hK] at g3
 simp only[List.map_cons,List.map_nil,List.cons_append,List.nil_append] at p1 er
 simp[vh,mir,stE,j8,qQ,e1,e2,p1,er,t1,hT,hl3,hTe,g3]
end
section
variable {C:Str->Addr}{q:SI}{rs:List HM.Row}{rest b0:Int}{out:List (Int×List Str)}{o:Option (Str×Int×Int)}
theorem ji {neg:Bool}{a b:Int}:fEq neg (.int a) (.int b)=some (.bl (if neg then !decide (a=b) else decide (a=b))):=xO WR WR (by decide) (by decide) (xp a b)
theorem wr {neg:Bool}{x y:Str}(hx:Ok x)(hy:Ok y):fEq neg (.str x) (.str y)=some (.bl (if neg then !decide (x=y) else decide (x=y))):=xO (qx hx) (qx hy) (by decide) (by decide) (xa x y)
theorem W6 (hC:C "Granted" ≠ C "Late") (W:Wd q rs rest b0) (X1 X3 X4:Option En):∀(ts:List Int) (a:Option En),∃a':Option En,
  forD (.name 5) (vp C) (ts.map D.int) [some (.val (vD C q (hoursD (C "Hours") rest (krows rest rs)) b0 out o)),X1,some (.val (sideD rs rest)),X3,X4,a]
   = some (.next [some (.val (vD C q (hoursD (C "Hours") rest (krows rest rs)) b0 out o)),X1,some (.val (sideD rs rest)),X3,X4,a'])
 | [],a=>⟨a,by simp⟩
 |t::ts,a=>by
  obtain⟨a',p⟩:=W6 hC W X1 X3 X4 ts (some (.val (.int t)))
  refine⟨a',?_⟩
  have e1:=YS C (rest:=rest) (x:=t) (ks:=krows rest rs) W.fit.hok.pos
  have e2:=Wi (rs:=rs) (rest:=rest) (x:=t)
  rw[W.fit.at] at e1
  have hC':=Ne.symm hC
  have e3:vp C [some (.val (vD C q (hoursD (C "Hours") rest (krows rest rs)) b0 out o)),X1,some (.val (sideD rs rest)),X3,X4,some (.val (.int t))]=some (.next [some (.val (vD C q (hoursD (C "Hours") rest (krows rest rs)) b0 out o)),X1,some (.val (sideD rs rest)),X3,X4,some (.val (.int t))]):=by
   cases o with
   |none=>
    simp only[hoursD] at e1
    simp[vp,vD,grD,qI,hoursD,qi,e1,e2,ji]
   |some o=>
    obtain⟨n,p,e⟩:=o
    simp only[hoursD] at e1
    simp[vp,vD,laD,kq,hoursD,qi,e1,e2,ji,hC']
  rw[<-p]
  simp only[List.map_cons,yE,asgD]
  simp[e3]
theorem uy {x y:Bool}(h:x=y):x0 [.val (.bl x),.val (.bl y)]=some (.val (.bl true)):=by
 subst h
 have:fEq false (.bl x) (.bl x)=some (.bl true):=by
  have hl:Lay 0 (.bl x):=⟨rfl,Nat.le_refl _⟩
  exact xO (neg:=false) hl hl (by decide) (by decide) (b:=true) (by cases x<;>rfl)
 have hb:subT "bool" "bool" = some true:=by decide +kernel
 simp[x0,mir,stE,jL,uj,this,hb]
theorem G1 (hC:C "Granted" ≠ C "Late") (W:Wd q rs rest b0) (ho:OkO o) (hr:∀r∈out,∀y∈r.2,Ok y) :
  wz C [.val (vD C q (hoursD (C "Hours") rest (krows rest rs)) b0 out o),.val (.lst (q.map tkD)),.val (sideD rs rest),.val (.int b0),.val (dueD o out)]=some (.val (.bl true)):=by
 obtain⟨a',p⟩:=W6 (out:=out) (o:=o) hC W (some (.val (.lst (q.map tkD)))) (some (.val (.int b0))) (some (.val (dueD o out))) [0,b0,b0+9,1000] none
 have hC':=Ne.symm hC
 have t4:4<=TOP:=by decide
 have eqq:=qW (neg:=true) (xs:=q) (ys:=q) W.q5.ok W.q5.ok
 have eg:=wr (neg:=true) xB xB
 have el:=wr (neg:=true) xu xu
 have eg':=wr (neg:=false) xB xB
 have el':=wr (neg:=false) xu xB
 have b1:fEq false (.bl true) (.bl false)=some (.bl false):=rfl
 have b2:fEq false (.bl false) (.bl true)=some (.bl false):=rfl
 have b3:fEq true (.bl false) (.bl false)=some (.bl false):=rfl
 have b4:fEq true (.bl true) (.bl true)=some (.bl false):=rfl
 have i0:=uy (x:=true) (y:=true) rfl
 have i1:=uy (x:=false) (y:=false) rfl
 cases o with
 |none=>
  have w:=Gf (C:=C) (q:=q) (h:=hoursD (C "Hours") rest (krows rest rs)) (b0:=b0)
  have g:=WN (C:=C) (q:=q) (h:=hoursD (C "Hours") rest (krows rest rs)) (b0:=b0)
  have j0:atI (α:=D) [.str "granted"] 0=some (.str "granted"):=rfl
  simp only[vD,dueD] at p
  simp only[grD] at p w g
  generalize hoursD (C "Hours") rest (krows rest rs)=h at *
  simp at p
  simp[wz,mir,stE,vt,jp,vD,dueD,grD,List.lookup,kQ,uz,VD,Va,w,g,eqq,eg,eg',ji,j0,p,t4,b1,b2,b3,b4,i0]
 |some o=>
  obtain⟨n,p',e⟩:=o
  have hn:=ho n p' e rfl
  have w:=Gp (C:=C) (q:=q) (h:=hoursD (C "Hours") rest (krows rest rs)) (b0:=b0) (n:=n) (p:=p') (e:=e) (out:=out)
  have g:=WC (C:=C) (q:=q) (h:=hoursD (C "Hours") rest (krows rest rs)) (b0:=b0) (n:=n) (p:=p') (e:=e) (out:=out)
  have j0:atI (α:=D) [.str "late",.str n,.int p',.int e,.lst (out.map rnD)] 0=some (.str "late"):=rfl
  have et:=zaq (n:=n) (p:=p') (e:=e) hn hr
  have hcut:cutD (α:=D) [.str "late",.str n,.int p',.int e,.lst (out.map rnD)] (some 1) none=[.str n,.int p',.int e,.lst (out.map rnD)]:=by rw[wp (by omega)];rfl
  have hs1:HT.sIx 5 0 (some 1)=1:=rfl
  have hb1:(C "Late" == C "Granted")=false:=by simp[hC']
  simp only[vD,dueD] at p
  simp only[laD] at p w g
  generalize hoursD (C "Hours") rest (krows rest rs)=h at *
  simp at p
  simp[wz,mir,stE,vt,jp,vD,dueD,laD,List.lookup,kz,qB,Zt,YO,YZ,Yx,YJ,Wn,w,g,eqq,el,el',ji,j0,p,t4,b1,b2,b3,b4,i1,hC',hb1,RY,et,hcut,hs1]
end
section
variable {C:Str->Addr}{q:SI}{rs:List HM.Row}{rest b0:Int}{out:List (Int×List Str)}{o:Option (Str×Int×Int)}{ρ:EnvD}{h:D}{P:SI}
def tT (out:List (Int×List Str)):Option (Str×Int×Int)->OT
 |none=>.tup [.frz (.str "granted")]
 |some (n,p,e)=>dueT n p e out
theorem ZK:(tT out o).erase=dueD o out:=by
 cases o with
 |none=>exact ZA
 |some o=>exact uO _ _ _ _
theorem Vr (hC:C "Granted" ≠ C "Late") (hw:∀r∈out,r.2.length<=100) (hl:out.length<=5000) (h7:gv 7 ρ=some (vD C q h b0 out o)) :
  yAlt (gMeth (C "Granted") "told" (len? 1 (yb C)) treO (gv 7) nNil) (gMeth (C "Late") "told" (len? 1 (zX C)) treO (gv 7) nNil) ρ=some (tT out o):=by
 have hC':=Ne.symm hC
 rw[kX,wJ,wJ,h7]
 cases o with
 |none=>
  have e:=u7 (q:=q) (h:=h) (b0:=b0) C
  simp only[grD] at e
  simp[vD,grD,kR,e,treO,tT]
 |some o=>
  obtain⟨n,p,e'⟩:=o
  have e:=j5 (q:=q) (h:=h) (b0:=b0) (n:=n) (p:=p) (e:=e') C hw hl
  simp only[laD] at e
  simp[vD,laD,jU,e,treO,tT,hC']
theorem Gw (hC:C "Granted" ≠ C "Late") (hw:∀r∈out,r.2.length<=100) (hl:out.length<=5000) (h7:gv 7 ρ=some (vD C q h b0 out o)) :
  yAlt (gMeth (C "Granted") "told" (len? 1 (yb C)) frzO (gv 7) nNil) (gMeth (C "Late") "told" (len? 1 (zX C)) frzO (gv 7) nNil) ρ=some (dueD o out):=by
 have hC':=Ne.symm hC
 have er:=ZK (out:=out) (o:=o)
 rw[kX,wJ,wJ,h7]
 cases o with
 |none=>
  have e:=u7 (q:=q) (h:=h) (b0:=b0) C
  simp only[grD] at e
  simp only[tT] at er
  simp[vD,grD,kR,e,frzO,er,dueD]
 |some o=>
  obtain⟨n,p,e'⟩:=o
  have e:=j5 (q:=q) (h:=h) (b0:=b0) (n:=n) (p:=p) (e:=e') C hw hl
  simp only[laD] at e
  simp only[tT] at er
  simp[vD,laD,jU,e,frzO,er,hC']
theorem ke (hC:C "Granted" ≠ C "Late") (W:Wd q rs rest b0) (R:Rn C q rs rest b0 out) (ho:OkO o) {k:Nat} (h7:gv 7 ρ=some (vD C q (hoursD (C "Hours") rest (krows rest rs)) b0 out o)) (hk:gn k ρ=some (.dbo (kv P))) :
  yAlt (gMeth (C "Granted") "holds" (len? 2 (y6 C)) frzO (gv 7) (nCons (gn k) nNil)) (gMeth (C "Late") "holds" (len? 2 (yy C)) frzO (gv 7) (nCons (gn k) nNil)) ρ=some (.bl (decide (late (endsS [] out) P q=o))):=by
 have hC':=Ne.symm hC
 rw[kX,wJ,wJ,h7,um,hk]
 cases o with
 |none=>
  have e:=Qc (P:=P) hC W R
  simp only[grD] at e
  simp[vD,grD,JR,e]
  cases late (endsS [] out) P q<;>simp
 |some o=>
  obtain⟨n,p,e'⟩:=o
  have e:=Jv (P:=P) hC W R (n:=n) (p:=p) (e:=e') (ho n p e' rfl)
  simp only[laD] at e
  simp[vD,laD,zah,e,hC']
def aE (q:SI)(rs:List HM.Row)(rest b0:Int)(P:SI)(x4 x5 x6 x7 x8 x9 x10 x11:Option En):EnvD:=[some (.val (.lst (q.map tkD))),some (.val (sideD rs rest)),some (.val (.int b0)),some (.dbo (kv P)),x4,x5,x6,x7,x8,x9,x10,x11]
theorem Z6 (q0:SI)(X1 X4 X5 X6 X7 X8:Option En):∀(ts P':SI) (a b:Option En),P'.length+ts.length<=200->∃(P2:SI) (a' b':Option En),
  forD (.tup [10,11]) jH (ts.map tkD) (aE q0 rs rest b0 P X4 X5 X6 X7 X8 (some (.dct none (kv P'))) a b)=some (.next (aE q0 rs rest b0 P X4 X5 X6 X7 X8 (some (.dct none (kv P2))) a' b'))
 | [],P',a,b,_=>⟨P',a,b,by simp⟩
 |t::ts,P',a,b,hl=>by
  simp only[List.length_cons] at hl
  have hz:(kv P').length < sizeLine:=by rw[qk];exact line9 (by omega)
  have kP:=y3 t.1 P'
  obtain⟨v,hv⟩:∃v:Int,((lookD (kv P') (.inr t.1)).getD (.int b0))=.int v:=by
   rw[kP]
   cases lookS P' t.1 with
   |none=>exact⟨b0,rfl⟩
   |some v=>exact⟨v,rfl⟩
  have hp:=vO t.1 (v - t.2 % 3) P'
  have hlen:=wq t.1 (v - t.2 % 3) P'
  obtain⟨P2,a',b',p⟩:=Z6 q0 X1 X4 X5 X6 X7 X8 ts (putS P' t.1 (v - t.2 % 3)) (some (.val (.str t.1))) (some (.val (.int t.2))) (by omega)
  refine⟨P2,a',b',?_⟩
  rw[<-p]
  simp only[List.map_cons,yE,asgD,z6,tkD,aE]
  cases hL:lookD (kv P') (.inr t.1) with
  |none=>
   rw[hL] at hv
   simp at hv
   subst hv
   simp[jH,hL,zR,hz,hp]
  |some w=>
   rw[hL] at hv
   simp at hv
   subst hv
   simp[jH,hL,zR,hz,hp]
theorem qe {a b:EnvD->Option Bool}(h1:a ρ=some false)(h2:b ρ=some false):gOr a b ρ=some false:=by simp[h1,h2]
theorem Q7 (R:Rn C q rs rest b0 out)(hq:q≠[]):∃r tl,out=r::tl:=by
 have:=R.run
 cases this with
 |nil=>exact (hq rfl).elim
 |cons _ _=>exact⟨_,_,rfl⟩
end
section
variable {C:Str->Addr}{q:SI}{rs:List HM.Row}{rest b0:Int}{out:List (Int×List Str)}{P:SI}
def xU (out:List (Int×List Str)):Option (Str×Int×Int)->Option En
 |none=>some (.tre (tT out none))
 |some _=>none
theorem spoil (hC:C "Granted" ≠ C "Late") (hw:∀r∈out,r.2.length<=100) (hl:out.length<=5000) {o:Option (Str×Int×Int)} {H:D} {X5 X6:Option En} (hrne:∀n p e,o=some (n,p,e)->∃r tl,out=r::tl) :
  sIf (gb' (g2 (fEq false) (g2 fItem (gr 4) (gc (.int 0))) (gc (.str "late")))) (sSeq (sClrP 8 (pIx 8 pRoot (gc (.int 4)))) (sMutQ (yAlt (gMeth (C "Granted") "told" (len? 1 (yb C)) treO (gv 7) nNil) (gMeth (C "Late") "told" (len? 1 (zX C)) treO (gv 7) nNil)) [4,0,1] xW (gCons' (gc (.str "zz")) gNil))) sNext
   (aE q rs rest b0 P (some (.val (dueD o out))) X5 X6 (some (.val (vD C q H b0 out o))) (some (.tre (tT out o))) none none none)
  = some (.next (aE q rs rest b0 P (some (.val (dueD o out))) X5 X6 (some (.val (vD C q H b0 out o))) (xU out o) none none none)):=by
 have el:=wr (neg:=false) xu xu
 have eg:=wr (neg:=false) xB xu
 cases o with
 |none=>
  have j0:atI (α:=D) [.str "granted"] 0=some (.str "granted"):=rfl
  simp[aE,dueD,j0,eg,UO,xU]
 |some o=>
  obtain⟨n,p,e⟩:=o
  obtain⟨r,tl,rfl⟩:=hrne n p e rfl
  have j0:atI (α:=D) [.str "late",.str n,.int p,.int e,.lst ((r::tl).map rnD)] 0=some (.str "late"):=rfl
  have hv:=Vr (ρ:=aE q rs rest b0 P (some (.val (dueD (some (n,p,e)) (r::tl)))) X5 X6 (some (.val (vD C q H b0 (r::tl) (some (n,p,e))))) none none none none) (o:=some (n,p,e)) hC hw hl rfl
  have h1:(sClrP 8 (pIx 8 pRoot (gc (.int 4)))) (aE q rs rest b0 P (some (.val (dueD (some (n,p,e)) (r::tl)))) X5 X6 (some (.val (vD C q H b0 (r::tl) (some (n,p,e))))) (some (.tre (tT (r::tl) (some (n,p,e))))) none none none)
   = some (.next (aE q rs rest b0 P (some (.val (dueD (some (n,p,e)) (r::tl)))) X5 X6 (some (.val (vD C q H b0 (r::tl) (some (n,p,e))))) none none none none)):=by
   have hg:(dueT n p e (r::tl)).get [4]=some (.lst ((r::tl).map rowT)):=by simp[dueT,OT.get,gets]
   have hx:ixN 5 4=some 4:=rfl
   have hs:OT.size (dueT n p e (r::tl))=some 5:=rfl
   have h0:(dueT n p e (r::tl)).get []=some (dueT n p e (r::tl)):=wV _
   simp[aE,tT,hs,hx,h0,hg]
  have h2:sMutQ (yAlt (gMeth (C "Granted") "told" (len? 1 (yb C)) treO (gv 7) nNil) (gMeth (C "Late") "told" (len? 1 (zX C)) treO (gv 7) nNil)) [4,0,1] xW (gCons' (gc (.str "zz")) gNil) (aE q rs rest b0 P (some (.val (dueD (some (n,p,e)) (r::tl)))) X5 X6 (some (.val (vD C q H b0 (r::tl) (some (n,p,e))))) none none none none)
   = some (.next (aE q rs rest b0 P (some (.val (dueD (some (n,p,e)) (r::tl)))) X5 X6 (some (.val (vD C q H b0 (r::tl) (some (n,p,e))))) none none none none)):=by
   rw[G6,hv]
   have hg:(dueT n p e (r::tl)).get [4,0,1]=some (.lst (lfs (r.2.map D.str))):=by simp[dueT,OT.get,gets,rowT]
   have hlf:(OT.lst (lfs (r.2.map D.str))).leaf=some (r.2.map D.str):=kZ _
   have hT:r.2.length<=TOP:=zF (by have:=hw r (by simp);omega)
   simp[tT,hg,hlf,xW,hT]
  have ht:(gb' (g2 (fEq false) (g2 fItem (gr 4) (gc (.int 0))) (gc (.str "late")))) (aE q rs rest b0 P (some (.val (dueD (some (n,p,e)) (r::tl)))) X5 X6 (some (.val (vD C q H b0 (r::tl) (some (n,p,e))))) (some (.tre (tT (r::tl) (some (n,p,e))))) none none none)=some true:=by
   simp[aE,dueD,j0,el]
  rw[KC,ht]
  exact yz h1 h2
theorem Wu (hC:C "Granted" ≠ C "Late") (W:Wd q rs rest b0) (R:Rn C q rs rest b0 out) (nd:(keysS P).Nodup) (hP:P.length<=50) :
  vj C [.val (.lst (q.map tkD)),.val (sideD rs rest),.val (.int b0),.dbo (kv P)]=some (.val (.bl true)):=by
 have hl:=W.q5.len
 have hT:q.length<=TOP:=zF (by omega)
 have hTr:rs.length<=TOP:=zF (by have:=W.len;omega)
 have ev:=Ya (P:=P) W R
 have ho:OkO (late (endsS [] out) P q):=u6 W
 have ei:=GM C (rs:=rs) (rest:=rest) W.fit.good W.fit.len W.fit.lo W.fit.hi W.fit.pos
 have es:=uI (P:=P) W R (.inr rfl)
 have ef:=G1 (out:=out) hC W ho R.ok
 have eqq:=qW (neg:=true) (xs:=q) (ys:=q) W.q5.ok W.q5.ok
 have eqd:=Jw nd
 have ak:=Wy P
 obtain⟨P2,x10,x11,lo⟩:=Z6 (rs:=rs) (rest:=rest) (b0:=b0) (P:=P) q none (some (.val (dueD (late (endsS [] out) P q) out))) (some (.dct none (kv P))) (some (.acc [])) (some (.val (vD C q (hoursD (C "Hours") rest (krows rest rs)) b0 out (late (endsS [] out) P q))))
  (xU out (late (endsS [] out) P q)) (q.drop 1) P none none (by rw[List.length_drop];omega)
 have ev2:=Ya (P:=P2) W R
 have ho2:OkO (late (endsS [] out) P2 q):=u6 W
 have eq1:=jJ (neg:=true) ho ho R.ok
 have eq2:=jJ (neg:=false) ho ho R.ok
 have eq3:=jJ (neg:=false) ho2 ho R.ok
 have hcut:cutD (q.map tkD) (some 1) none=(q.drop 1).map tkD:=by rw[wp (by omega),List.map_drop];rfl
 have er:=ZK (out:=out) (o:=late (endsS [] out) P q)
 have tup:∀o,∃ds,dueD o out=.tup ds:=λo=>by cases o<;>exact⟨_,rfl⟩
 have sT:subT "tuple" "tuple" = some true:=by decide +kernel
 have hrne:∀n p e,late (endsS [] out) P q=some (n,p,e)->∃r tl,out=r::tl:=λn p e h=>Q7 R (by
  rintro rfl
  simp[late] at h)
 show outO (wN C (aE q rs rest b0 P none none none none none none none none))=_
 suffices hs:wN C (aE q rs rest b0 P none none none none none none none none)=some (.ret (.val (.bl true))) by rw[hs];rfl
 generalize hE:endsS [] out=E at *
 generalize hoo:late E P q=o at *
 unfold wN
 refine yz (ρ':=aE q rs rest b0 P (some (.val (dueD o out))) none none none none none none none) (by simp[aE,ev]) ?_
 refine yz (ρ':=aE q rs rest b0 P (some (.val (dueD o out))) (some (.dct none (kv P))) none none none none none none) (by simp[aE]) ?_
 refine yz (ρ':=aE q rs rest b0 P (some (.val (dueD o out))) (some (.dct none (kv P))) (some (.acc (q.map tkD))) none none none none none) (by simp[aE,hT]) ?_
 refine yz (ρ':=aE q rs rest b0 P (some (.val (dueD o out))) (some (.dct none (kv P))) (some (.acc (q.map tkD))) (some (.val (vD C q (hoursD (C "Hours") rest (krows rest rs)) b0 out o))) none none none none) (by
  simp only[hoursD] at es ⊢
  simp[aE,sideD,hTr,ei,es]) ?_
 generalize hH:hoursD (C "Hours") rest (krows rest rs)=H at *
 refine uf (qe (by simp[aE,eqq]) (qe (by simp[aE,ak,eqd]) (by simp[aE,ef]))) ?_
 refine yz (ρ':=aE q rs rest b0 P (some (.val (dueD o out))) (some (.dct none (kv P))) (some (.acc [])) (some (.val (vD C q H b0 out o))) none none none none) (by simp[aE,mClear]) ?_
 refine yz (ρ':=aE q rs rest b0 P (some (.val (dueD o out))) (some (.dct none (kv P))) (some (.acc [])) (some (.val (vD C q H b0 out o))) (some (.tre (tT out o))) none none none) (by
  rw[KZ,Vr (o:=o) hC R.w R.len rfl];rfl) ?_
 refine uf (qe (by
  obtain⟨ds,hd⟩:=tup o
  rw[hd] at er
  simp[aE,er,sT]) (qe (by simp[aE,er,eq1]) (by
  show ((g2 _ _ _ _).bind asB)=_
  rw[ux,ke (P:=P) (o:=o) hC W R ho (by rw[hH];rfl) rfl,hE,hoo]
  simp))) ?_
 refine yz (ρ':=aE q rs rest b0 P (some (.val (dueD o out))) (some (.dct none (kv P))) (some (.acc [])) (some (.val (vD C q H b0 out o))) (xU out o) none none none) (spoil hC R.w R.len hrne) ?_
 refine yz (ρ':=aE q rs rest b0 P (some (.val (dueD o out))) (some (.dct none (kv P))) (some (.acc [])) (some (.val (vD C q H b0 out o))) (xU out o) (some (.dct none (kv P))) none none) (by simp[aE]) ?_
 refine QF (ds:=(q.drop 1).map tkD) (by simp[aE,hcut,hT]) lo ?_
 generalize hx8:xU out o=x8 at *
 have hh2:=ke (ρ:=aE q rs rest b0 P (some (.val (dueD o out))) (some (.dct none (kv P))) (some (.acc [])) (some (.val (vD C q H b0 out o))) x8 (some (.dct none (kv P2))) x10 x11) (P:=P2) (k:=9) (o:=o) hC W R ho (by rw[hH];rfl) rfl
 have hh1:=ke (ρ:=aE q rs rest b0 P (some (.val (dueD o out))) (some (.dct none (kv P))) (some (.acc [])) (some (.val (vD C q H b0 out o))) x8 (some (.dct none (kv P2))) x10 x11) (P:=P) (k:=3) (o:=o) hC W R ho (by rw[hH];rfl) rfl
 have ht:=Gw (ρ:=aE q rs rest b0 P (some (.val (dueD o out))) (some (.dct none (kv P))) (some (.acc [])) (some (.val (vD C q H b0 out o))) x8 (some (.dct none (kv P2))) x10 x11) (o:=o) hC R.w R.len rfl
 rw[hE] at hh2 hh1
 rw[hoo] at hh1
 generalize hw:aE q rs rest b0 P (some (.val (dueD o out))) (some (.dct none (kv P))) (some (.acc [])) (some (.val (vD C q H b0 out o))) x8 (some (.dct none (kv P2))) x10 x11=ρ' at *
 have eis:=uy (x:=decide (late E P2 q=o)) (y:=decide (late E P2 q=o)) rfl
 refine uf ?_ ?_
 ·have hv:gCall (len? 4 yG) frzO (nCons (gn 0) (nCons (gn 1) (nCons (gn 2) (nCons (gn 9) nNil)))) ρ'=some (dueD (late E P2 q) out):=by
   rw[<-hw];simp[aE,ev2]
  have h4:gr 4 ρ'=some (dueD o out):=by rw[<-hw];rfl
  simp only[Gx,Rv,ZI,um,QG,hh2,ux,h4]
  simp only[ZI,um] at hv
  simp only[hv]
  simp[eq3,eis]
 ·have h4:gr 4 ρ'=some (dueD o out):=by rw[<-hw];rfl
  simp only[Kg,J6,ux,ht,h4,hh1,QV]
  simp[eq2]
end
section
variable {C:Str->Addr}{q:SI}{rs:List HM.Row}{rest b0:Int}{out:List (Int×List Str)}
theorem Yo (hC:C "Granted" ≠ C "Late") (W:Wd q rs rest b0) (R:Rn C q rs rest b0 out) (ns:List Int) (X2 X3:Option En):∀(ks:List Nat) (a:Option En),∃a':Option En,
  forD (.name 6) (jw C) (ks.map λ(k:Nat)=>D.int (5+(k:Int))) [some (.val (.scr ns)),some (.val (.lst (q.map tkD))),X2,X3,some (.val (.int b0)),some (.val (sideD rs rest)),a]
   = some (.next [some (.val (.scr ns)),some (.val (.lst (q.map tkD))),X2,X3,some (.val (.int b0)),some (.val (sideD rs rest)),a'])
 | [],a=>⟨a,by simp⟩
 |k::ks,a=>by
  obtain⟨a',p⟩:=Yo hC W R ns X2 X3 ks (some (.val (.int (5+(k:Int)))))
  refine⟨a',?_⟩
  obtain⟨P,nd,hl,eP⟩:=Qy ns (5+k) W R
  have ea:=Wu hC W R nd hl
  have hk:((5+k:Nat):Int)=5+(k:Int):=by omega
  rw[hk] at eP
  have e1:jw C [some (.val (.scr ns)),some (.val (.lst (q.map tkD))),X2,X3,some (.val (.int b0)),some (.val (sideD rs rest)),some (.val (.int (5+(k:Int))))]=some (.next [some (.val (.scr ns)),some (.val (.lst (q.map tkD))),X2,X3,some (.val (.int b0)),some (.val (sideD rs rest)),some (.val (.int (5+(k:Int))))]):=by
   simp[jw,eP,ea,dctO]
  rw[<-p]
  simp only[List.map_cons,yE,asgD]
  simp[e1]
end
theorem JF (C:Str->Addr)(hC:C "Granted" ≠ C "Late") (ns:List Int) (hl:ns.length<=63):ZD C [.val (.scr ns)]=some (.val (.bl true)):=by
 obtain⟨q,rs,rest,b0,h1,h2,h3,h4,h5,ew⟩:=G7 ns
 have W:Wd q rs rest b0:=⟨h1,h2,h3,h4.1,h4.2,h5.1⟩
 obtain⟨out,R⟩:=W.rn C
 obtain⟨n,hn⟩:∃n:Nat,(max 6 (min (ns.length:Int) 29) - 5).toNat=n:=⟨_,rfl⟩
 obtain⟨a',p⟩:=Yo hC W R ns (some (.val (.lst (rs.map rowD)))) (some (.val (.int rest))) (List.range n) none
 have ea:=Wu (P:=[]) hC W R (by simp[keysS]) (by simp)
 have hb:(-BIG<=(5:Int)/\(5:Int)<=BIG)/\-BIG<=max 6 (min (ns.length:Int) 29)/\max 6 (min (ns.length:Int) 29)<=BIG:=by simp only[BIG];omega
 have hr:rngD 5 n=(List.range n).map λ(k:Nat)=>D.int (5+(k:Int)):=vQ 5 n
 have t4:4<=TOP:=by decide
 have hk:kv []=[]:=rfl
 rw[hk] at ea
 rw[<-hr] at p
 simp only[sideD] at p ea
 simp[ZD,mir,stE,jf,qG,ew,asgD,z6,t4,hb,hn,p,ea]
inductive Sim (a dx C:Addr):Option Fl->Option Fl->Prop
 |none:Sim a dx C none none
 |next (fs:List Str) (ds:List D) (l:EnvD):Sim a dx C (some (.next (some (.oac a dx C fs ds)::l))) (some (.next (some (.oac 0 0 C fs ds)::l)))
section
variable {a dx C:Addr}{s t:SD}{g:EnvD->Option D}{f:Str}
def Alike (a dx C:Addr)(s:SD):Prop:=∀fs ds l,Sim a dx C (s (some (.oac a dx C fs ds)::l)) (s (some (.oac 0 0 C fs ds)::l))
theorem yq (hg:∀o o' l,g (o::l)=g (o'::l)):Alike a dx C (sFldD 0 C f g):=λfs ds l=>by
 have e:=hg (some (.oac a dx C fs ds)) (some (.oac 0 0 C fs ds)) l
 unfold sFldD
 simp only[List.getElem?_cons_zero,e]
 cases g (some (.oac 0 0 C fs ds)::l) with
 |none=>simp;exact .none
 |some d=>
  by_cases h:fs.length < 900
  ·simp[h];exact .next _ _ _
  ·simp[h];exact .none
theorem yA (h1:Alike a dx C s)(h2:Alike a dx C t):Alike a dx C (sSeq s t):=λfs ds l=>by
 have e:=h1 fs ds l
 show Sim a dx C (thenB (s _) t) (thenB (s _) t)
 generalize s (some (.oac a dx C fs ds)::l)=u at *
 generalize s (some (.oac 0 0 C fs ds)::l)=v at *
 cases e with
 |none=>exact .none
 |next fs' ds' l'=>exact h2 fs' ds' l'
theorem UA {n:Nat}{mi:Addr->Addr->List En->Option (List Str×List D)}{gs:EnvD->Option (List En)}(hm:∀xs,mi a dx xs=mi 0 0 xs)(hg:∀o o' l,gs (o::l)=gs (o'::l)):Alike a dx C (sBase 0 C n mi gs):=λfs ds l=>by
 have e:=hg (some (.oac a dx C fs ds)) (some (.oac 0 0 C fs ds)) l
 unfold sBase
 simp only[List.getElem?_cons_zero,e]
 cases fs with
 |cons=>exact .none
 |nil=>
  cases ds with
  |cons=>exact .none
  |nil=>
   simp only[if_true]
   cases gs (some (.oac 0 0 C [] [])::l) with
   |none=>exact .none
   |some xs=>
    simp only[Option.bind_some,hm]
    by_cases h:xs.length=n
    ·simp only[h,if_true]
     cases mi 0 0 xs with
     |none=>exact .none
     |some r=>exact .next _ _ _
    ·simp only[h,if_false];exact .none
theorem kN (h:Alike a dx C s)(l:EnvD):outI a dx C (s (some (.oac a dx C [] [])::l))=outI 0 0 C (s (some (.oac 0 0 C [] [])::l)):=by
 have e:=h [] [] l
 generalize s (some (.oac a dx C [] [])::l)=u at *
 generalize s (some (.oac 0 0 C [] [])::l)=v at *
 cases e with
 |none=>rfl
 |next fs ds l'=>simp[outI,outJ]
end
theorem KQ (C:Str->Addr)(a dx:Addr)(xs:List En):mirI (C "Granted") vL (vX C) a dx xs=xy C xs:=by
 unfold xy mirI stE
 exact kN (yA (yq λo o' l=>by simp) (yA (yq λo o' l=>by simp) (yq λo o' l=>by simp))) _
theorem Uu (C:Str->Addr)(a dx:Addr)(xs:List En):yV C a dx xs=yV C 0 0 xs:=by
 unfold yV mirI stE
 exact kN (yA (yq λo o' l=>by simp) (yA (yq λo o' l=>by simp) (yq λo o' l=>by simp))) _
theorem QD (C:Str->Addr)(a dx:Addr)(xs:List En):mirI (C "Late") jd (j3 C) a dx xs=yY C xs:=by
 unfold yY mirI stE
 exact kN (yA (UA (Uu C a dx) λo o' l=>by simp) (yA (yq λo o' l=>by simp) (yA (yq λo o' l=>by simp) (yA (yq λo o' l=>by simp) (yq λo o' l=>by simp))))) _
end My
namespace My
open PySem PySem.Spec L2 L3 L4 L6 Dv
open PyProof.Rows hiding St
def spOut (K:PySem.W.Frag):Sp:=λvs H Q _=>∃(a:Addr) (ns:List Int),vs=[.ref a]/\SqL K H a (ns.map V.int)/\ns.length<=63/\∀H',Q (.bl true) H'
theorem Jn {P:Program}{w:World}{K:PySem.W.Frag}{mg:Str->Option Value}{base:Heap}{k:Nat}{f:Addr}{fd:FuncData}{ps:List Str}{m:List En->Option En}(h:FnOk P w K mg base CX0 k f fd ps (pSp ⟨K,w⟩ 1 (len? 1 m)))
  (hm:∀ns:List Int,ns.length<=63->m [.val (.scr ns)]=some (.val (.bl true))):FnOk P w K mg base CX0 k f fd ps (spOut K) :=
 h.imp λvs H Q E ⟨a,ns,e,hs,hl,q⟩=>⟨H,[.val (.scr ns)],.val (.bl true),Same.refl _,rfl,by subst e;exact .cons ⟨a,rfl,hs⟩ .nil,hm ns hl,λv F' H' _ r=>by cases r;exact q H'⟩
theorem US {K:PySem.W.Frag}{a b:Addr}(h:PySem.W.kitOne K (.ref a) (.ref b)=some false):a≠b:=λe=>by subst e;rw[ut] at h;cases h
set_option maxHeartbeats 0 in
theorem all_mk {l:PySem.W.OpenLaw}{w:World}{K:PySem.W.Frag}{h:Heap}{mg:Str->Option Value}{fa:Addr}(X:K.In h)(G:h.Ns mainGlobals mg)(hfa:mg "law" = some (.ref fa))
  {C_Hours C_Granted C_Late C_Verdict:Addr}
  {f0:Addr} {od0 an0:Option Addr} {sl0:Array (Option Value)} {oc0 kV0 dc0 pm0 cd0 ct0:Value}
  {f1:Addr} {od1 an1:Option Addr} {sl1:Array (Option Value)} {oc1 kV1 dc1 pm1 cd1 ct1:Value}
  {f2:Addr} {od2 an2:Option Addr} {sl2:Array (Option Value)} {oc2 kV2 dc2 pm2 cd2 ct2:Value}
  {f3:Addr} {od3 an3:Option Addr} {sl3:Array (Option Value)} {oc3 kV3 dc3 pm3 cd3 ct3:Value}
  {f4:Addr} {od4 an4:Option Addr} {sl4:Array (Option Value)} {oc4 kV4 dc4 pm4 cd4 ct4:Value}
  {f5:Addr} {od5 an5:Option Addr} {sl5:Array (Option Value)} {oc5 kV5 dc5 pm5 cd5 ct5:Value}
  {f6:Addr} {od6 an6:Option Addr} {sl6:Array (Option Value)} {oc6 kV6 dc6 pm6 cd6 ct6:Value}
  {f7:Addr} {od7 an7:Option Addr} {sl7:Array (Option Value)} {oc7 kV7 dc7 pm7 cd7 ct7:Value}
  {f8:Addr} {od8 an8:Option Addr} {sl8:Array (Option Value)} {oc8 kV8 dc8 pm8 cd8 ct8:Value}
  {f9:Addr} {od9 an9:Option Addr} {sl9:Array (Option Value)} {oc9 kV9 dc9 pm9 cd9 ct9:Value}
  {f10:Addr} {od10 an10:Option Addr} {sl10:Array (Option Value)} {oc10 kV10 dc10 pm10 cd10 ct10:Value}
  {td10:Addr} {ot10:Value} {ou10:Option Addr} {ow10:Array (Option Value)} {on10:Nat}
  {f11:Addr} {od11 an11:Option Addr} {sl11:Array (Option Value)} {oc11 kV11 dc11 pm11 cd11 ct11:Value}
  {f12:Addr} {od12 an12:Option Addr} {sl12:Array (Option Value)} {oc12 kV12 dc12 pm12 cd12 ct12:Value}
  {f13:Addr} {od13 an13:Option Addr} {sl13:Array (Option Value)} {oc13 kV13 dc13 pm13 cd13 ct13:Value}
  {f14:Addr} {od14 an14:Option Addr} {sl14:Array (Option Value)} {oc14 kV14 dc14 pm14 cd14 ct14:Value}
  {f15:Addr} {od15 an15:Option Addr} {sl15:Array (Option Value)} {oc15 kV15 dc15 pm15 cd15 ct15:Value}
  {f16:Addr} {od16 an16:Option Addr} {sl16:Array (Option Value)} {oc16 kV16 dc16 pm16 cd16 ct16:Value}
  {f17:Addr} {od17 an17:Option Addr} {sl17:Array (Option Value)} {oc17 kV17 dc17 pm17 cd17 ct17:Value}
  {f18:Addr} {od18 an18:Option Addr} {sl18:Array (Option Value)} {oc18 kV18 dc18 pm18 cd18 ct18:Value}
  {f19:Addr} {od19 an19:Option Addr} {sl19:Array (Option Value)} {oc19 kV19 dc19 pm19 cd19 ct19:Value}
  {f20:Addr} {od20 an20:Option Addr} {sl20:Array (Option Value)} {oc20 kV20 dc20 pm20 cd20 ct20:Value}
  {f21:Addr} {od21 an21:Option Addr} {sl21:Array (Option Value)} {oc21 kV21 dc21 pm21 cd21 ct21:Value}
  {f22:Addr} {od22 an22:Option Addr} {sl22:Array (Option Value)} {oc22 kV22 dc22 pm22 cd22 ct22:Value}
  {f23:Addr} {od23 an23:Option Addr} {sl23:Array (Option Value)} {oc23 kV23 dc23 pm23 cd23 ct23:Value}
  {f24:Addr} {od24 an24:Option Addr} {sl24:Array (Option Value)} {oc24 kV24 dc24 pm24 cd24 ct24:Value}
  {f25:Addr} {od25 an25:Option Addr} {sl25:Array (Option Value)} {oc25 kV25 dc25 pm25 cd25 ct25:Value}
  {f26:Addr} {od26 an26:Option Addr} {sl26:Array (Option Value)} {oc26 kV26 dc26 pm26 cd26 ct26:Value}
  {f27:Addr} {od27 an27:Option Addr} {sl27:Array (Option Value)} {oc27 kV27 dc27 pm27 cd27 ct27:Value}
  {f28:Addr} {od28 an28:Option Addr} {sl28:Array (Option Value)} {oc28 kV28 dc28 pm28 cd28 ct28:Value}
  {f29:Addr} {od29 an29:Option Addr} {sl29:Array (Option Value)} {oc29 kV29 dc29 pm29 cd29 ct29:Value}
  {f30:Addr} {od30 an30:Option Addr} {sl30:Array (Option Value)} {oc30 kV30 dc30 pm30 cd30 ct30:Value}
  {f31:Addr} {od31 an31:Option Addr} {sl31:Array (Option Value)} {oc31 kV31 dc31 pm31 cd31 ct31:Value}
  {f32:Addr} {od32 an32:Option Addr} {sl32:Array (Option Value)} {oc32 kV32 dc32 pm32 cd32 ct32:Value}
  {f33:Addr} {od33 an33:Option Addr} {sl33:Array (Option Value)} {oc33 kV33 dc33 pm33 cd33 ct33:Value}
  {f34:Addr} {od34 an34:Option Addr} {sl34:Array (Option Value)} {oc34 kV34 dc34 pm34 cd34 ct34:Value}
  {f35:Addr} {od35 an35:Option Addr} {sl35:Array (Option Value)} {oc35 kV35 dc35 pm35 cd35 ct35:Value}
  {f36:Addr} {od36 an36:Option Addr} {sl36:Array (Option Value)} {oc36 kV36 dc36 pm36 cd36 ct36:Value}
  {f37:Addr} {od37 an37:Option Addr} {sl37:Array (Option Value)} {oc37 kV37 dc37 pm37 cd37 ct37:Value}
  {f38:Addr} {od38 an38:Option Addr} {sl38:Array (Option Value)} {oc38 kV38 dc38 pm38 cd38 ct38:Value}
  {f39:Addr} {od39 an39:Option Addr} {sl39:Array (Option Value)} {oc39 kV39 dc39 pm39 cd39 ct39:Value}
  {t_MOST_COUNTERS:Tok}
  {t_MOST_ROWS:Tok}
  {t_MOST_TURNS:Tok}
  (tt_Hours:PySem.W.nsIn K mainGlobals "Hours" = some (some (.ref C_Hours)))
  (tt_Granted:PySem.W.nsIn K mainGlobals "Granted" = some (some (.ref C_Granted)))
  (tt_Late:PySem.W.nsIn K mainGlobals "Late" = some (some (.ref C_Late)))
  (tt_Verdict:PySem.W.nsIn K mainGlobals "Verdict" = some (some (.ref C_Verdict)))
  (a0:PySem.W.nsIn K mainGlobals "is_whole" = some (some (.ref f0)))
  (l0:K.lookup f0=some ⟨oc0,od0,.func (PySem.W.fnOf "is_whole" "is_whole" (zn wu) (zl wu) (zc wu) .none kV0 dc0 pm0 an0 cd0 ct0),sl0⟩)
  (c0:PySem.W.codeIn K cd0 "is_whole" = true)
  (k0:PySem.W.keepIn K (.ref f0)=true)
  (a1:PySem.W.nsIn K mainGlobals "is_number" = some (some (.ref f1)))
  (l1:K.lookup f1=some ⟨oc1,od1,.func (PySem.W.fnOf "is_number" "is_number" (zn wm) (zl wm) (zc wm) .none kV1 dc1 pm1 an1 cd1 ct1),sl1⟩)
  (c1:PySem.W.codeIn K cd1 "is_number" = true)
  (k1:PySem.W.keepIn K (.ref f1)=true)
  (a2:PySem.W.nsIn K mainGlobals "is_row" = some (some (.ref f2)))
  (l2:K.lookup f2=some ⟨oc2,od2,.func (PySem.W.fnOf "is_row" "is_row" (zn wI) (zl wI) (zc wI) .none kV2 dc2 pm2 an2 cd2 ct2),sl2⟩)
  (c2:PySem.W.codeIn K cd2 "is_row" = true)
  (k2:PySem.W.keepIn K (.ref f2)=true)
  (a3:PySem.W.nsIn K mainGlobals "check_hours" = some (some (.ref f3)))
  (l3:K.lookup f3=some ⟨oc3,od3,.func (PySem.W.fnOf "check_hours" "check_hours" (zn xt) (zl xt) (zc xt) .none kV3 dc3 pm3 an3 cd3 ct3),sl3⟩)
  (c3:PySem.W.codeIn K cd3 "check_hours" = true)
  (k3:PySem.W.keepIn K (.ref f3)=true)
  (a4:PySem.W.nsIn K mainGlobals "kept_rows" = some (some (.ref f4)))
  (l4:K.lookup f4=some ⟨oc4,od4,.func (PySem.W.fnOf "kept_rows" "kept_rows" (zn wc) (zl wc) (zc wc) .none kV4 dc4 pm4 an4 cd4 ct4),sl4⟩)
  (c4:PySem.W.codeIn K cd4 "kept_rows" = true)
  (k4:PySem.W.keepIn K (.ref f4)=true)
  (a5:PySem.W.nsIn K mainGlobals "spans_of" = some (some (.ref f5)))
  (l5:K.lookup f5=some ⟨oc5,od5,.func (PySem.W.fnOf "spans_of" "spans_of" (zn ww) (zl ww) (zc ww) .none kV5 dc5 pm5 an5 cd5 ct5),sl5⟩)
  (c5:PySem.W.codeIn K cd5 "spans_of" = true)
  (k5:PySem.W.keepIn K (.ref f5)=true)
  (a6:PySem.W.findIn K (.ref C_Hours) "__init__" = some (some (.ref f6)))
  (i6:PySem.W.isFn K (.ref f6)=true)
  (l6:K.lookup f6=some ⟨oc6,od6,.func (PySem.W.fnOf "__init__" "Hours.__init__" (zn we) (zl we) (zc we) .none kV6 dc6 pm6 an6 cd6 ct6),sl6⟩)
  (c6:PySem.W.codeIn K cd6 "Hours.__init__" = true)
  (k6:PySem.W.keepIn K (.ref f6)=true)
  (a7:PySem.W.findIn K (.ref C_Hours) "at" = some (some (.ref f7)))
  (i7:PySem.W.isFn K (.ref f7)=true)
  (l7:K.lookup f7=some ⟨oc7,od7,.func (PySem.W.fnOf "at" "Hours.at" (zn wD) (zl wD) (zc wD) .none kV7 dc7 pm7 an7 cd7 ct7),sl7⟩)
  (c7:PySem.W.codeIn K cd7 "Hours.at" = true)
  (k7:PySem.W.keepIn K (.ref f7)=true)
  (a8:PySem.W.nsIn K mainGlobals "names_of" = some (some (.ref f8)))
  (l8:K.lookup f8=some ⟨oc8,od8,.func (PySem.W.fnOf "names_of" "names_of" (zn xx) (zl xx) (zc xx) .none kV8 dc8 pm8 an8 cd8 ct8),sl8⟩)
  (c8:PySem.W.codeIn K cd8 "names_of" = true)
  (k8:PySem.W.keepIn K (.ref f8)=true)
  (a9:PySem.W.nsIn K mainGlobals "turn_served" = some (some (.ref f9)))
  (l9:K.lookup f9=some ⟨oc9,od9,.func (PySem.W.fnOf "turn_served" "turn_served" (zn xb) (zl xb) (zc xb) .none kV9 dc9 pm9 an9 cd9 ct9),sl9⟩)
  (c9:PySem.W.codeIn K cd9 "turn_served" = true)
  (k9:PySem.W.keepIn K (.ref f9)=true)
  (a10:PySem.W.nsIn K mainGlobals "run_of" = some (some (.ref f10)))
  (l10:K.lookup f10=some ⟨oc10,od10,.func (PySem.W.fnOf "run_of" "run_of" (zn yv) (zl yv) (zc yv) (.ref td10) kV10 dc10 pm10 an10 cd10 ct10),sl10⟩)
  (t10:K.lookup td10=some ⟨ot10,ou10,.seq #[.none] on10,ow10⟩)
  (c10:PySem.W.codeIn K cd10 "run_of" = true)
  (k10:PySem.W.keepIn K (.ref f10)=true)
  (a11:PySem.W.nsIn K mainGlobals "ends_of" = some (some (.ref f11)))
  (l11:K.lookup f11=some ⟨oc11,od11,.func (PySem.W.fnOf "ends_of" "ends_of" (zn xX) (zl xX) (zc xX) .none kV11 dc11 pm11 an11 cd11 ct11),sl11⟩)
  (c11:PySem.W.codeIn K cd11 "ends_of" = true)
  (k11:PySem.W.keepIn K (.ref f11)=true)
  (a12:PySem.W.findIn K (.ref C_Granted) "granted" = some (some (.ref f12)))
  (i12:PySem.W.isFn K (.ref f12)=true)
  (l12:K.lookup f12=some ⟨oc12,od12,.func (PySem.W.fnOf "granted" "Granted.granted" (zn wy) (zl wy) (zc wy) .none kV12 dc12 pm12 an12 cd12 ct12),sl12⟩)
  (c12:PySem.W.codeIn K cd12 "Granted.granted" = true)
  (k12:PySem.W.keepIn K (.ref f12)=true)
  (a13:PySem.W.findIn K (.ref C_Granted) "word" = some (some (.ref f13)))
  (i13:PySem.W.isFn K (.ref f13)=true)
  (l13:K.lookup f13=some ⟨oc13,od13,.func (PySem.W.fnOf "word" "Granted.word" (zn wg) (zl wg) (zc wg) .none kV13 dc13 pm13 an13 cd13 ct13),sl13⟩)
  (c13:PySem.W.codeIn K cd13 "Granted.word" = true)
  (k13:PySem.W.keepIn K (.ref f13)=true)
  (a14:PySem.W.findIn K (.ref C_Granted) "__init__" = some (some (.ref f14)))
  (i14:PySem.W.isFn K (.ref f14)=true)
  (l14:K.lookup f14=some ⟨oc14,od14,.func (PySem.W.fnOf "__init__" "Verdict.__init__" (zn xZ) (zl xZ) (zc xZ) .none kV14 dc14 pm14 an14 cd14 ct14),sl14⟩)
  (c14:PySem.W.codeIn K cd14 "Verdict.__init__" = true)
  (k14:PySem.W.keepIn K (.ref f14)=true)
  (a15:PySem.W.findIn K (.ref C_Granted) "told" = some (some (.ref f15)))
  (i15:PySem.W.isFn K (.ref f15)=true)
  (l15:K.lookup f15=some ⟨oc15,od15,.func (PySem.W.fnOf "told" "Verdict.told" (zn wn) (zl wn) (zc wn) .none kV15 dc15 pm15 an15 cd15 ct15),sl15⟩)
  (c15:PySem.W.codeIn K cd15 "Verdict.told" = true)
  (k15:PySem.W.keepIn K (.ref f15)=true)
  (a16:PySem.W.findIn K (.ref C_Late) "word" = some (some (.ref f16)))
  (i16:PySem.W.isFn K (.ref f16)=true)
  (l16:K.lookup f16=some ⟨oc16,od16,.func (PySem.W.fnOf "word" "Late.word" (zn wC) (zl wC) (zc wC) .none kV16 dc16 pm16 an16 cd16 ct16),sl16⟩)
  (c16:PySem.W.codeIn K cd16 "Late.word" = true)
  (k16:PySem.W.keepIn K (.ref f16)=true)
  (a17:PySem.W.findIn K (.ref C_Late) "granted" = some (some (.ref f17)))
  (i17:PySem.W.isFn K (.ref f17)=true)
  (l17:K.lookup f17=some ⟨oc17,od17,.func (PySem.W.fnOf "granted" "Verdict.granted" (zn xV) (zl xV) (zc xV) .none kV17 dc17 pm17 an17 cd17 ct17),sl17⟩)
  (c17:PySem.W.codeIn K cd17 "Verdict.granted" = true)
  (k17:PySem.W.keepIn K (.ref f17)=true)
  (bs18:PySem.W.specialIn K (.ref C_Verdict) "__getattribute__" = some (some (.builtin "type.__getattribute__")))
  (br18:PySem.W.readsIn K C_Verdict (.type "type")=true)
  (bf18:PySem.W.findCls K (.ref C_Verdict) (.type "type") "__init__" = some (.val (.ref f18)))
  (l18:K.lookup f18=some ⟨oc18,od18,.func (PySem.W.fnOf "__init__" "Verdict.__init__" (zn xF) (zl xF) (zc xF) .none kV18 dc18 pm18 an18 cd18 ct18),sl18⟩)
  (c18:PySem.W.codeIn K cd18 "Verdict.__init__" = true)
  (k18:PySem.W.keepIn K (.ref f18)=true)
  (a19:PySem.W.nsIn K mainGlobals "own_rows" = some (some (.ref f19)))
  (l19:K.lookup f19=some ⟨oc19,od19,.func (PySem.W.fnOf "own_rows" "own_rows" (zn xz) (zl xz) (zc xz) .none kV19 dc19 pm19 an19 cd19 ct19),sl19⟩)
  (c19:PySem.W.codeIn K cd19 "own_rows" = true)
  (k19:PySem.W.keepIn K (.ref f19)=true)
  (a20:PySem.W.findIn K (.ref C_Late) "__init__" = some (some (.ref f20)))
  (i20:PySem.W.isFn K (.ref f20)=true)
  (l20:K.lookup f20=some ⟨oc20,od20,.func (PySem.W.fnOf "__init__" "Late.__init__" (zn wo) (zl wo) (zc wo) .none kV20 dc20 pm20 an20 cd20 ct20),sl20⟩)
  (c20:PySem.W.codeIn K cd20 "Late.__init__" = true)
  (k20:PySem.W.keepIn K (.ref f20)=true)
  (a21:PySem.W.findIn K (.ref C_Late) "told" = some (some (.ref f21)))
  (i21:PySem.W.isFn K (.ref f21)=true)
  (l21:K.lookup f21=some ⟨oc21,od21,.func (PySem.W.fnOf "told" "Late.told" (zn wl) (zl wl) (zc wl) .none kV21 dc21 pm21 an21 cd21 ct21),sl21⟩)
  (c21:PySem.W.codeIn K cd21 "Late.told" = true)
  (k21:PySem.W.keepIn K (.ref f21)=true)
  (a22:PySem.W.nsIn K mainGlobals "first_late" = some (some (.ref f22)))
  (l22:K.lookup f22=some ⟨oc22,od22,.func (PySem.W.fnOf "first_late" "first_late" (zn wH) (zl wH) (zc wH) .none kV22 dc22 pm22 an22 cd22 ct22),sl22⟩)
  (c22:PySem.W.codeIn K cd22 "first_late" = true)
  (k22:PySem.W.keepIn K (.ref f22)=true)
  (a23:PySem.W.nsIn K mainGlobals "settled" = some (some (.ref f23)))
  (l23:K.lookup f23=some ⟨oc23,od23,.func (PySem.W.fnOf "settled" "settled" (zn xG) (zl xG) (zc xG) .none kV23 dc23 pm23 an23 cd23 ct23),sl23⟩)
  (c23:PySem.W.codeIn K cd23 "settled" = true)
  (k23:PySem.W.keepIn K (.ref f23)=true)
  (a24:PySem.W.findIn K (.ref C_Granted) "holds" = some (some (.ref f24)))
  (i24:PySem.W.isFn K (.ref f24)=true)
  (l24:K.lookup f24=some ⟨oc24,od24,.func (PySem.W.fnOf "holds" "Granted.holds" (zn wx) (zl wx) (zc wx) .none kV24 dc24 pm24 an24 cd24 ct24),sl24⟩)
  (c24:PySem.W.codeIn K cd24 "Granted.holds" = true)
  (k24:PySem.W.keepIn K (.ref f24)=true)
  (a25:PySem.W.findIn K (.ref C_Late) "holds" = some (some (.ref f25)))
  (i25:PySem.W.isFn K (.ref f25)=true)
  (l25:K.lookup f25=some ⟨oc25,od25,.func (PySem.W.fnOf "holds" "Late.holds" (zn wL) (zl wL) (zc wL) .none kV25 dc25 pm25 an25 cd25 ct25),sl25⟩)
  (c25:PySem.W.codeIn K cd25 "Late.holds" = true)
  (k25:PySem.W.keepIn K (.ref f25)=true)
  (a26:PySem.W.nsIn K mainGlobals "_law_cell" = some (some (.ref f26)))
  (l26:K.lookup f26=some ⟨oc26,od26,.func (PySem.W.fnOf "_law_cell" "_law_cell" (zn wd) (zl wd) (zc wd) .none kV26 dc26 pm26 an26 cd26 ct26),sl26⟩)
  (c26:PySem.W.codeIn K cd26 "_law_cell" = true)
  (k26:PySem.W.keepIn K (.ref f26)=true)
  (a27:PySem.W.nsIn K mainGlobals "_law_stir" = some (some (.ref f27)))
  (l27:K.lookup f27=some ⟨oc27,od27,.func (PySem.W.fnOf "_law_stir" "_law_stir" (zn xL) (zl xL) (zc xL) .none kV27 dc27 pm27 an27 cd27 ct27),sl27⟩)
  (c27:PySem.W.codeIn K cd27 "_law_stir" = true)
  (k27:PySem.W.keepIn K (.ref f27)=true)
  (a28:PySem.W.nsIn K mainGlobals "_law_draw" = some (some (.ref f28)))
  (l28:K.lookup f28=some ⟨oc28,od28,.func (PySem.W.fnOf "_law_draw" "_law_draw" (zn xK) (zl xK) (zc xK) .none kV28 dc28 pm28 an28 cd28 ct28),sl28⟩)
  (c28:PySem.W.codeIn K cd28 "_law_draw" = true)
  (k28:PySem.W.keepIn K (.ref f28)=true)
  (a29:PySem.W.nsIn K mainGlobals "_law_name" = some (some (.ref f29)))
  (l29:K.lookup f29=some ⟨oc29,od29,.func (PySem.W.fnOf "_law_name" "_law_name" (zn w5) (zl w5) (zc w5) .none kV29 dc29 pm29 an29 cd29 ct29),sl29⟩)
  (c29:PySem.W.codeIn K cd29 "_law_name" = true)
  (k29:PySem.W.keepIn K (.ref f29)=true)
  (a30:PySem.W.nsIn K mainGlobals "_law_world" = some (some (.ref f30)))
  (l30:K.lookup f30=some ⟨oc30,od30,.func (PySem.W.fnOf "_law_world" "_law_world" (zn xQ) (zl xQ) (zc xQ) .none kV30 dc30 pm30 an30 cd30 ct30),sl30⟩)
  (c30:PySem.W.codeIn K cd30 "_law_world" = true)
  (k30:PySem.W.keepIn K (.ref f30)=true)
  (a31:PySem.W.nsIn K mainGlobals "_law_at" = some (some (.ref f31)))
  (l31:K.lookup f31=some ⟨oc31,od31,.func (PySem.W.fnOf "_law_at" "_law_at" (zn w4) (zl w4) (zc w4) .none kV31 dc31 pm31 an31 cd31 ct31),sl31⟩)
  (c31:PySem.W.codeIn K cd31 "_law_at" = true)
  (k31:PySem.W.keepIn K (.ref f31)=true)
  (a32:PySem.W.nsIn K mainGlobals "_law_run" = some (some (.ref f32)))
  (l32:K.lookup f32=some ⟨oc32,od32,.func (PySem.W.fnOf "_law_run" "_law_run" (zn yX) (zl yX) (zc yX) .none kV32 dc32 pm32 an32 cd32 ct32),sl32⟩)
  (c32:PySem.W.codeIn K cd32 "_law_run" = true)
  (k32:PySem.W.keepIn K (.ref f32)=true)
  (a33:PySem.W.nsIn K mainGlobals "_law_ends" = some (some (.ref f33)))
  (l33:K.lookup f33=some ⟨oc33,od33,.func (PySem.W.fnOf "_law_ends" "_law_ends" (zn wM) (zl wM) (zc wM) .none kV33 dc33 pm33 an33 cd33 ct33),sl33⟩)
  (c33:PySem.W.codeIn K cd33 "_law_ends" = true)
  (k33:PySem.W.keepIn K (.ref f33)=true)
  (a34:PySem.W.nsIn K mainGlobals "_law_verdict" = some (some (.ref f34)))
  (l34:K.lookup f34=some ⟨oc34,od34,.func (PySem.W.fnOf "_law_verdict" "_law_verdict" (zn xP) (zl xP) (zc xP) .none kV34 dc34 pm34 an34 cd34 ct34),sl34⟩)
  (c34:PySem.W.codeIn K cd34 "_law_verdict" = true)
  (k34:PySem.W.keepIn K (.ref f34)=true)
  (a35:PySem.W.nsIn K mainGlobals "_law_promises" = some (some (.ref f35)))
  (l35:K.lookup f35=some ⟨oc35,od35,.func (PySem.W.fnOf "_law_promises" "_law_promises" (zn xR) (zl xR) (zc xR) .none kV35 dc35 pm35 an35 cd35 ct35),sl35⟩)
  (c35:PySem.W.codeIn K cd35 "_law_promises" = true)
  (k35:PySem.W.keepIn K (.ref f35)=true)
  (a36:PySem.W.nsIn K mainGlobals "_law_is" = some (some (.ref f36)))
  (l36:K.lookup f36=some ⟨oc36,od36,.func (PySem.W.fnOf "_law_is" "_law_is" (zn wA) (zl wA) (zc wA) .none kV36 dc36 pm36 an36 cd36 ct36),sl36⟩)
  (c36:PySem.W.codeIn K cd36 "_law_is" = true)
  (k36:PySem.W.keepIn K (.ref f36)=true)
  (a37:PySem.W.nsIn K mainGlobals "_law_fields" = some (some (.ref f37)))
  (l37:K.lookup f37=some ⟨oc37,od37,.func (PySem.W.fnOf "_law_fields" "_law_fields" (zn wa) (zl wa) (zc wa) .none kV37 dc37 pm37 an37 cd37 ct37),sl37⟩)
  (c37:PySem.W.codeIn K cd37 "_law_fields" = true)
  (k37:PySem.W.keepIn K (.ref f37)=true)
  (a38:PySem.W.nsIn K mainGlobals "_law_asked" = some (some (.ref f38)))
  (l38:K.lookup f38=some ⟨oc38,od38,.func (PySem.W.fnOf "_law_asked" "_law_asked" (zn wj) (zl wj) (zc wj) .none kV38 dc38 pm38 an38 cd38 ct38),sl38⟩)
  (c38:PySem.W.codeIn K cd38 "_law_asked" = true)
  (k38:PySem.W.keepIn K (.ref f38)=true)
  (a39:PySem.W.nsIn K mainGlobals "law" = some (some (.ref f39)))
  (l39:K.lookup f39=some ⟨oc39,od39,.func (PySem.W.fnOf "law" "law" (zn y2) (zl y2) (zc y2) .none kV39 dc39 pm39 an39 cd39 ct39),sl39⟩)
  (c39:PySem.W.codeIn K cd39 "law" = true)
  (k39:PySem.W.keepIn K (.ref f39)=true)
  (pg_Hours:PySem.W.plainGet K C_Hours Str.empty=true)
  (hd_Hours:PySem.W.hasDictIn K C_Hours=true)
  (po_Hours:PySem.W.plainOver K C_Hours=true)
  (sa_Hours:PySem.W.findIn K (.ref C_Hours) "__setattr__" = some (some (.builtin "object.__setattr__")))
  (mk_Hours:PySem.W.makesIn K C_Hours=true)
  (kc_Hours:PySem.W.keepIn K (.ref C_Hours)=true)
  (pg_Granted:PySem.W.plainGet K C_Granted Str.empty=true)
  (hd_Granted:PySem.W.hasDictIn K C_Granted=true)
  (po_Granted:PySem.W.plainOver K C_Granted=true)
  (sa_Granted:PySem.W.findIn K (.ref C_Granted) "__setattr__" = some (some (.builtin "object.__setattr__")))
  (mk_Granted:PySem.W.makesIn K C_Granted=true)
  (kc_Granted:PySem.W.keepIn K (.ref C_Granted)=true)
  (pg_Late:PySem.W.plainGet K C_Late Str.empty=true)
  (hd_Late:PySem.W.hasDictIn K C_Late=true)
  (po_Late:PySem.W.plainOver K C_Late=true)
  (sa_Late:PySem.W.findIn K (.ref C_Late) "__setattr__" = some (some (.builtin "object.__setattr__")))
  (mk_Late:PySem.W.makesIn K C_Late=true)
  (kc_Late:PySem.W.keepIn K (.ref C_Late)=true)
  (cc_Granted:PySem.W.findIn K (.ref C_Granted) "__class__" = some (some (.builtin "object.__class__")))
  (xcg:PySem.W.specialIn K (.builtin "object.__class__") "__get__" = some (some (.builtin "getset_descriptor.__get__")))
  (xct:PySem.W.takesIn K (.builtin "object.__class__")=some true)
  (mo_Granted:PySem.W.mroIn K C_Granted (.type "object")=some true)
  (cc_Late:PySem.W.findIn K (.ref C_Late) "__class__" = some (some (.builtin "object.__class__")))
  (mo_Late:PySem.W.mroIn K C_Late (.type "object")=some true)
  (sb_Granted_Granted:PySem.W.subIn K (.ref C_Granted) (.ref C_Granted)=some true)
  (cl_Late:PySem.W.isClsIn K C_Late=true)
  (ty_Late:PySem.W.typeIn K (.ref C_Late)=some (.type "type"))
  (sb_Granted_Late:PySem.W.subIn K (.ref C_Granted) (.ref C_Late)=some false)
  (sb_Late_Late:PySem.W.subIn K (.ref C_Late) (.ref C_Late)=some true)
  (cl_Granted:PySem.W.isClsIn K C_Granted=true)
  (ty_Granted:PySem.W.typeIn K (.ref C_Granted)=some (.type "type"))
  (sb_Late_Granted:PySem.W.subIn K (.ref C_Late) (.ref C_Granted)=some false)
  (cl_Verdict:PySem.W.isClsIn K C_Verdict=true)
  (ty_Verdict:PySem.W.typeIn K (.ref C_Verdict)=some (.type "type"))
  (sb_Granted_Verdict:PySem.W.subIn K (.ref C_Granted) (.ref C_Verdict)=some true)
  (sb_Late_Verdict:PySem.W.subIn K (.ref C_Late) (.ref C_Verdict)=some true)
  (n_Granted_begin:PySem.W.findIn K (.ref C_Granted) "begin" = some none)
  (n_Granted_hours:PySem.W.findIn K (.ref C_Granted) "hours" = some none)
  (n_Granted_queue:PySem.W.findIn K (.ref C_Granted) "queue" = some none)
  (n_Hours_kept_rest:PySem.W.findIn K (.ref C_Hours) "kept_rest" = some none)
  (n_Hours_spans:PySem.W.findIn K (.ref C_Hours) "spans" = some none)
  (n_Late_begin:PySem.W.findIn K (.ref C_Late) "begin" = some none)
  (n_Late_hours:PySem.W.findIn K (.ref C_Late) "hours" = some none)
  (n_Late_name:PySem.W.findIn K (.ref C_Late) "name" = some none)
  (n_Late_promised:PySem.W.findIn K (.ref C_Late) "promised" = some none)
  (n_Late_queue:PySem.W.findIn K (.ref C_Late) "queue" = some none)
  (n_Late_run:PySem.W.findIn K (.ref C_Late) "run" = some none)
  (n_Late_turn:PySem.W.findIn K (.ref C_Late) "turn" = some none)
  (b_all:PySem.W.nsIn K mainGlobals "all" = some none)
  (b_bool:PySem.W.nsIn K mainGlobals "bool" = some none)
  (b_dict:PySem.W.nsIn K mainGlobals "dict" = some none)
  (b_enumerate:PySem.W.nsIn K mainGlobals "enumerate" = some none)
  (b_int:PySem.W.nsIn K mainGlobals "int" = some none)
  (b_isinstance:PySem.W.nsIn K mainGlobals "isinstance" = some none)
  (b_len:PySem.W.nsIn K mainGlobals "len" = some none)
  (b_list:PySem.W.nsIn K mainGlobals "list" = some none)
  (b_max:PySem.W.nsIn K mainGlobals "max" = some none)
  (b_min:PySem.W.nsIn K mainGlobals "min" = some none)
  (b_range:PySem.W.nsIn K mainGlobals "range" = some none)
  (b_tuple:PySem.W.nsIn K mainGlobals "tuple" = some none)
  (c_MOST_COUNTERS:PySem.W.nsIn K mainGlobals "MOST_COUNTERS" = some (some (.int 8 t_MOST_COUNTERS)))
  (c_MOST_ROWS:PySem.W.nsIn K mainGlobals "MOST_ROWS" = some (some (.int 16 t_MOST_ROWS)))
  (c_MOST_TURNS:PySem.W.nsIn K mainGlobals "MOST_TURNS" = some (some (.int 100 t_MOST_TURNS)))
  : ∃fd:FuncData,(∀(s:Shared) (v:Value),BindsTo s fd ⟨[v],[]⟩ [("_law_script",v)])/\∀base:Heap,K.In base->base.Ns mainGlobals mg->FnOk l.prog w K mg base CX0 8 fa fd ["_law_script"] (spOut K):=by
 have e:=hfa.symm.trans (PySem.W.mg_of X G a39)
 cases e
 obtain⟨C,eC_Hours,eC_Granted,eC_Late,eC_Verdict⟩:∃C:Str->Addr,C "Hours" = C_Hours/\C "Granted" = C_Granted/\C "Late" = C_Late/\C "Verdict" = C_Verdict:=⟨λs=>if s = "Hours" then C_Hours else if s = "Granted" then C_Granted else if s = "Late" then C_Late else if s = "Verdict" then C_Verdict else 0,if_pos rfl,(if_neg (by decide +kernel)).trans <| if_pos rfl,(if_neg (by decide +kernel)).trans <| (if_neg (by decide +kernel)).trans <| if_pos rfl,(if_neg (by decide +kernel)).trans <| (if_neg (by decide +kernel)).trans <| (if_neg (by decide +kernel)).trans <| if_pos rfl⟩
 subst eC_Hours
 subst eC_Granted
 subst eC_Late
 subst eC_Verdict
 have T:Txt K mg C:=⟨⟨pg_Granted,hd_Granted,po_Granted,sa_Granted⟩,⟨pg_Hours,hd_Hours,po_Hours,sa_Hours⟩,⟨pg_Late,hd_Late,po_Late,sa_Late⟩,⟨⟨pg_Granted,hd_Granted,po_Granted,sa_Granted⟩,cc_Granted,xcg,xct,mo_Granted⟩,⟨⟨pg_Late,hd_Late,po_Late,sa_Late⟩,cc_Late,xcg,xct,mo_Late⟩,Zx sb_Granted_Granted cl_Late ty_Late sb_Granted_Late,Zx sb_Late_Late cl_Granted ty_Granted sb_Late_Granted,ut,Zz cl_Verdict ty_Verdict sb_Granted_Verdict,ut,Zz cl_Verdict ty_Verdict sb_Late_Verdict,PySem.W.mg_of X G tt_Granted,PySem.W.mg_of X G tt_Late,PySem.W.mg_of X G tt_Verdict,n_Granted_begin,n_Granted_hours,n_Granted_queue,n_Hours_kept_rest,n_Hours_spans,n_Late_begin,n_Late_hours,n_Late_name,n_Late_promised,n_Late_queue,n_Late_run,n_Late_turn,PySem.W.mg_none_of X G b_all,PySem.W.mg_none_of X G b_bool,PySem.W.mg_none_of X G b_dict,PySem.W.mg_none_of X G b_enumerate,PySem.W.mg_none_of X G b_int,PySem.W.mg_none_of X G b_isinstance,PySem.W.mg_none_of X G b_len,PySem.W.mg_none_of X G b_list,PySem.W.mg_none_of X G b_max,PySem.W.mg_none_of X G b_min,PySem.W.mg_none_of X G b_range,PySem.W.mg_none_of X G b_tuple,⟨_,PySem.W.mg_of X G c_MOST_COUNTERS⟩,⟨_,PySem.W.mg_of X G c_MOST_ROWS⟩,⟨_,PySem.W.mg_of X G c_MOST_TURNS⟩⟩
 have F0:=zt (st:=wu) l0 c0 k0
 have bb0:=F0.binds (ps:=["thing"]) λ_ _ _ _ _ _ us hl=>match us,hl with | [_],_=>rfl
 have F1:=zt (st:=wm) l1 c1 k1
 have bb1:=F1.binds (ps:=["thing","low","high"]) λ_ _ _ _ _ _ us hl=>match us,hl with | [_,_,_],_=>rfl
 have F2:=zt (st:=wI) l2 c2 k2
 have bb2:=F2.binds (ps:=["thing"]) λ_ _ _ _ _ _ us hl=>match us,hl with | [_],_=>rfl
 have F3:=zt (st:=xt) l3 c3 k3
 have bb3:=F3.binds (ps:=["rows","rest"]) λ_ _ _ _ _ _ us hl=>match us,hl with | [_,_],_=>rfl
 have F4:=zt (st:=wc) l4 c4 k4
 have bb4:=F4.binds (ps:=["rows","rest"]) λ_ _ _ _ _ _ us hl=>match us,hl with | [_,_],_=>rfl
 have F5:=zt (st:=ww) l5 c5 k5
 have bb5:=F5.binds (ps:=["rows"]) λ_ _ _ _ _ _ us hl=>match us,hl with | [_],_=>rfl
 have F6:=zt (st:=we) l6 c6 k6
 have bb6:=F6.binds (ps:=["self","rows","rest"]) λ_ _ _ _ _ _ us hl=>match us,hl with | [_,_,_],_=>rfl
 have F7:=zt (st:=wD) l7 c7 k7
 have bb7:=F7.binds (ps:=["self","turn"]) λ_ _ _ _ _ _ us hl=>match us,hl with | [_,_],_=>rfl
 have F8:=zt (st:=xx) l8 c8 k8
 have bb8:=F8.binds (ps:=["queue"]) λ_ _ _ _ _ _ us hl=>match us,hl with | [_],_=>rfl
 have F9:=zt (st:=xb) l9 c9 k9
 have bb9:=F9.binds (ps:=["queue","many"]) λ_ _ _ _ _ _ us hl=>match us,hl with | [_,_],_=>rfl
 have F10:=Qt (st:=yv) l10 c10 k10
 have bb10:Binds K (PySem.W.fnOf "run_of" "run_of" (zn yv) (zl yv) (zc yv) (.ref td10) kV10 dc10 pm10 an10 cd10 ct10) ["queue","hours","begin","real"] [.none]:=λs us hK hl=>have hl':us.length=3:=(by simpa using hl);match us,hl' with | [_,_,_],_=>BindsTo.of_defaults rfl (hK _ _ t10) rfl rfl rfl
 have F11:=zt (st:=xX) l11 c11 k11
 have bb11:=F11.binds (ps:=["rows"]) λ_ _ _ _ _ _ us hl=>match us,hl with | [_],_=>rfl
 have F12:=zt (st:=wy) l12 c12 k12
 have bb12:=F12.binds (ps:=["self"]) λ_ _ _ _ _ _ us hl=>match us,hl with | [_],_=>rfl
 have F13:=zt (st:=wg) l13 c13 k13
 have bb13:=F13.binds (ps:=["self"]) λ_ _ _ _ _ _ us hl=>match us,hl with | [_],_=>rfl
 have F14:=zt (st:=xZ) l14 c14 k14
 have bb14:=F14.binds (ps:=["self","queue","hours","begin"]) λ_ _ _ _ _ _ us hl=>match us,hl with | [_,_,_,_],_=>rfl
 have F15:=zt (st:=wn) l15 c15 k15
 have bb15:=F15.binds (ps:=["self"]) λ_ _ _ _ _ _ us hl=>match us,hl with | [_],_=>rfl
 have F16:=zt (st:=wC) l16 c16 k16
 have bb16:=F16.binds (ps:=["self"]) λ_ _ _ _ _ _ us hl=>match us,hl with | [_],_=>rfl
 have F17:=zt (st:=xV) l17 c17 k17
 have bb17:=F17.binds (ps:=["self"]) λ_ _ _ _ _ _ us hl=>match us,hl with | [_],_=>rfl
 have F18:=zt (st:=xF) l18 c18 k18
 have bb18:=F18.binds (ps:=["self","queue","hours","begin"]) λ_ _ _ _ _ _ us hl=>match us,hl with | [_,_,_,_],_=>rfl
 have F19:=zt (st:=xz) l19 c19 k19
 have bb19:=F19.binds (ps:=["rows"]) λ_ _ _ _ _ _ us hl=>match us,hl with | [_],_=>rfl
 have F20:=zt (st:=wo) l20 c20 k20
 have bb20:=F20.binds (ps:=["self","queue","hours","begin","name","promised","turn","run"]) λ_ _ _ _ _ _ us hl=>match us,hl with | [_,_,_,_,_,_,_,_],_=>rfl
 have F21:=zt (st:=wl) l21 c21 k21
 have bb21:=F21.binds (ps:=["self"]) λ_ _ _ _ _ _ us hl=>match us,hl with | [_],_=>rfl
 have F22:=zt (st:=wH) l22 c22 k22
 have bb22:=F22.binds (ps:=["queue","ends","promises"]) λ_ _ _ _ _ _ us hl=>match us,hl with | [_,_,_],_=>rfl
 have F23:=zt (st:=xG) l23 c23 k23
 have bb23:=F23.binds (ps:=["queue","hours","begin","promises"]) λ_ _ _ _ _ _ us hl=>match us,hl with | [_,_,_,_],_=>rfl
 have F24:=zt (st:=wx) l24 c24 k24
 have bb24:=F24.binds (ps:=["self","promises"]) λ_ _ _ _ _ _ us hl=>match us,hl with | [_,_],_=>rfl
 have F25:=zt (st:=wL) l25 c25 k25
 have bb25:=F25.binds (ps:=["self","promises"]) λ_ _ _ _ _ _ us hl=>match us,hl with | [_,_],_=>rfl
 have F26:=zt (st:=wd) l26 c26 k26
 have bb26:=F26.binds (ps:=["_law_script","_law_k"]) λ_ _ _ _ _ _ us hl=>match us,hl with | [_,_],_=>rfl
 have F27:=zt (st:=xL) l27 c27 k27
 have bb27:=F27.binds (ps:=["_law_cell_here","_law_k"]) λ_ _ _ _ _ _ us hl=>match us,hl with | [_,_],_=>rfl
 have F28:=zt (st:=xK) l28 c28 k28
 have bb28:=F28.binds (ps:=["_law_script","_law_at_here","_law_bases"]) λ_ _ _ _ _ _ us hl=>match us,hl with | [_,_,_],_=>rfl
 have F29:=zt (st:=w5) l29 c29 k29
 have bb29:=F29.binds (ps:=["_law_cell_here","_law_k"]) λ_ _ _ _ _ _ us hl=>match us,hl with | [_,_],_=>rfl
 have F30:=zt (st:=xQ) l30 c30 k30
 have bb30:=F30.binds (ps:=["_law_script"]) λ_ _ _ _ _ _ us hl=>match us,hl with | [_],_=>rfl
 have F31:=zt (st:=w4) l31 c31 k31
 have bb31:=F31.binds (ps:=["_law_side","_law_turn"]) λ_ _ _ _ _ _ us hl=>match us,hl with | [_,_],_=>rfl
 have F32:=zt (st:=yX) l32 c32 k32
 have bb32:=F32.binds (ps:=["_law_queue","_law_side","_law_begin"]) λ_ _ _ _ _ _ us hl=>match us,hl with | [_,_,_],_=>rfl
 have F33:=zt (st:=wM) l33 c33 k33
 have bb33:=F33.binds (ps:=["_law_run_here"]) λ_ _ _ _ _ _ us hl=>match us,hl with | [_],_=>rfl
 have F34:=zt (st:=xP) l34 c34 k34
 have bb34:=F34.binds (ps:=["_law_queue","_law_side","_law_begin","_law_promises_here"]) λ_ _ _ _ _ _ us hl=>match us,hl with | [_,_,_,_],_=>rfl
 have F35:=zt (st:=xR) l35 c35 k35
 have bb35:=F35.binds (ps:=["_law_script","_law_at_here","_law_queue","_law_side","_law_begin"]) λ_ _ _ _ _ _ us hl=>match us,hl with | [_,_,_,_,_],_=>rfl
 have F36:=zt (st:=wA) l36 c36 k36
 have bb36:=F36.binds (ps:=["_law_found","_law_due"]) λ_ _ _ _ _ _ us hl=>match us,hl with | [_,_],_=>rfl
 have F37:=zt (st:=wa) l37 c37 k37
 have bb37:=F37.binds (ps:=["_law_verdict_here","_law_queue","_law_side","_law_begin","_law_due"]) λ_ _ _ _ _ _ us hl=>match us,hl with | [_,_,_,_,_],_=>rfl
 have F38:=zt (st:=wj) l38 c38 k38
 have bb38:=F38.binds (ps:=["_law_queue","_law_side","_law_begin","_law_promises_here"]) λ_ _ _ _ _ _ us hl=>match us,hl with | [_,_,_,_],_=>rfl
 have F39:=zt (st:=y2) l39 c39 k39
 refine⟨PySem.W.fnOf "law" "law" (zn y2) (zl y2) (zc y2) .none kV39 dc39 pm39 an39 cd39 ct39,λs v=>.of_eq rfl,λbase _ _=>?_⟩
 have Har:Fx l.prog w K mg base "is_whole" 1 1 vd:=⟨f0,_,_,KY (P:=l.prog) (w:=w) (base:=base) T F0,PySem.W.mg_of X G a0,k0,bb0⟩
 have Hap:Fx l.prog w K mg base "is_number" 2 3 yR:=⟨f1,_,_,Rb (P:=l.prog) (w:=w) (base:=base) T F1 Har,PySem.W.mg_of X G a1,k1,bb1⟩
 have Haq:Fx l.prog w K mg base "is_row" 3 1 vf:=⟨f2,_,_,zal (P:=l.prog) (w:=w) (base:=base) T F2 Hap,PySem.W.mg_of X G a2,k2,bb2⟩
 have Ham:Fx l.prog w K mg base "check_hours" 4 2 vy:=⟨f3,_,_,JP (P:=l.prog) (w:=w) (base:=base) T F3 Hap Haq,PySem.W.mg_of X G a3,k3,bb3⟩
 have Has:Fx l.prog w K mg base "kept_rows" 1 2 v2:=⟨f4,_,_,Rg (P:=l.prog) (w:=w) (base:=base) T F4,PySem.W.mg_of X G a4,k4,bb4⟩
 have Hba:Fx l.prog w K mg base "spans_of" 1 1 wP:=⟨f5,_,_,zae (P:=l.prog) (w:=w) (base:=base) T F5,PySem.W.mg_of X G a5,k5,bb5⟩
 have Haf:Kx l.prog w K mg base (C "Hours") "Hours" 5 2 (xN C):=⟨f6,_,_,_,Uq (P:=l.prog) (w:=w) (base:=base) T F6 Hba Has Ham,⟨mk_Hours,a6,i6,kc_Hours⟩,PySem.W.mg_of X G tt_Hours,bb6,λa dx xs=>Kq C a dx xs⟩
 have Hag:Mx l.prog w K mg base (C "Hours") "at" 1 2 (xq C):=⟨f7,_,_,UH (P:=l.prog) (w:=w) (base:=base) T F7,⟨a7,i7,k7⟩,bb7⟩
 have Ha6:Fx l.prog w K mg base "names_of" 1 1 vK:=⟨f8,_,_,zaf (P:=l.prog) (w:=w) (base:=base) T F8,PySem.W.mg_of X G a8,k8,bb8⟩
 have Hbb:Fx l.prog w K mg base "turn_served" 2 2 yx:=⟨f9,_,_,GF (P:=l.prog) (w:=w) (base:=base) T F9 Ha6,PySem.W.mg_of X G a9,k9,bb9⟩
 have Ha8:FxN l.prog w K mg base "run_of" 3 4 (xA C):=⟨f10,_,_,UI (P:=l.prog) (w:=w) (base:=base) T F10 Hbb Hag,PySem.W.mg_of X G a10,k10,bb10⟩
 have Han:Fx l.prog w K mg base "ends_of" 1 1 vC:=⟨f11,_,_,KP (P:=l.prog) (w:=w) (base:=base) T F11,PySem.W.mg_of X G a11,k11,bb11⟩
 have Hab:Mx l.prog w K mg base (C "Granted") "granted" 1 1 (yH C):=⟨f12,_,_,RN (P:=l.prog) (w:=w) (base:=base) T F12,⟨a12,i12,k12⟩,bb12⟩
 have Hae:Mx l.prog w K mg base (C "Granted") "word" 1 1 (yC C):=⟨f13,_,_,U8 (P:=l.prog) (w:=w) (base:=base) T F13,⟨a13,i13,k13⟩,bb13⟩
 have Haa:Kx l.prog w K mg base (C "Granted") "Granted" 1 3 (xy C):=⟨f14,_,_,_,Gz (P:=l.prog) (w:=w) (base:=base) T F14,⟨mk_Granted,a14,i14,kc_Granted⟩,PySem.W.mg_of X G tt_Granted,bb14,λa dx xs=>KQ C a dx xs⟩
 have Had:Mx l.prog w K mg base (C "Granted") "told" 2 1 (yb C):=⟨f15,_,_,QK (P:=l.prog) (w:=w) (base:=base) T F15 Hae,⟨a15,i15,k15⟩,bb15⟩
 have Hal:Mx l.prog w K mg base (C "Late") "word" 1 1 (yK C):=⟨f16,_,_,QB (P:=l.prog) (w:=w) (base:=base) T F16,⟨a16,i16,k16⟩,bb16⟩
 have Hai:Mx l.prog w K mg base (C "Late") "granted" 1 1 (yJ C):=⟨f17,_,_,zaj (P:=l.prog) (w:=w) (base:=base) T F17,⟨a17,i17,k17⟩,bb17⟩
 have b_Late_Verdict:Bo l.prog w K mg base (C "Verdict") (C "Late") 1 3 (yV C):=⟨f18,_,_,⟨bs18,br18,bf18,rfl,k18⟩,JZ (P:=l.prog) (w:=w) (base:=base) T F18,bb18⟩
 have Ha7:Fx l.prog w K mg base "own_rows" 1 1 xh:=⟨f19,_,_,KA (P:=l.prog) (w:=w) (base:=base) T F19,PySem.W.mg_of X G a19,k19,bb19⟩
 have Hah:Kx l.prog w K mg base (C "Late") "Late" 2 7 (yY C):=⟨f20,_,_,_,GN (P:=l.prog) (w:=w) (base:=base) T F20 Ha7 b_Late_Verdict,⟨mk_Late,a20,i20,kc_Late⟩,PySem.W.mg_of X G tt_Late,bb20,λa dx xs=>QD C a dx xs⟩
 have Hak:Mx l.prog w K mg base (C "Late") "told" 2 1 (zX C):=⟨f21,_,_,UU (P:=l.prog) (w:=w) (base:=base) T F21 Ha7 Hal,⟨a21,i21,k21⟩,bb21⟩
 have Hao:Fx l.prog w K mg base "first_late" 1 3 xS:=⟨f22,_,_,Ku (P:=l.prog) (w:=w) (base:=base) T F22,PySem.W.mg_of X G a22,k22,bb22⟩
 have Ha9:Fx l.prog w K mg base "settled" 4 4 (yh C):=⟨f23,_,_,Rs (P:=l.prog) (w:=w) (base:=base) T F23 Hao Han Ha8 Haa Hah,PySem.W.mg_of X G a23,k23,bb23⟩
 have Hac:Mx l.prog w K mg base (C "Granted") "holds" 5 2 (y6 C):=⟨f24,_,_,Uk (P:=l.prog) (w:=w) (base:=base) T F24 Ha9 Hab Hai,⟨a24,i24,k24⟩,bb24⟩
 have Haj:Mx l.prog w K mg base (C "Late") "holds" 5 2 (yy C):=⟨f25,_,_,Ux (P:=l.prog) (w:=w) (base:=base) T F25 Ha9 Had Hak,⟨a25,i25,k25⟩,bb25⟩
 have Hav:Fx l.prog w K mg base "_law_cell" 1 2 y8:=⟨f26,_,_,JC (P:=l.prog) (w:=w) (base:=base) T F26,PySem.W.mg_of X G a26,k26,bb26⟩
 have Ha3:Fx l.prog w K mg base "_law_stir" 1 2 wW:=⟨f27,_,_,Qu (P:=l.prog) (w:=w) (base:=base) T F27,PySem.W.mg_of X G a27,k27,bb27⟩
 have Haw:Fx l.prog w K mg base "_law_draw" 2 3 ym:=⟨f28,_,_,GP (P:=l.prog) (w:=w) (base:=base) T F28 Hav Ha3,PySem.W.mg_of X G a28,k28,bb28⟩
 have Ha0:Fx l.prog w K mg base "_law_name" 1 2 wR:=⟨f29,_,_,Gg (P:=l.prog) (w:=w) (base:=base) T F29,PySem.W.mg_of X G a29,k29,bb29⟩
 have Ha5:Fx l.prog w K mg base "_law_world" 3 1 wX:=⟨f30,_,_,zab (P:=l.prog) (w:=w) (base:=base) T F30 Ha0 Hav Haw,PySem.W.mg_of X G a30,k30,bb30⟩
 have Hau:Fx l.prog w K mg base "_law_at" 1 2 yL:=⟨f31,_,_,K3 (P:=l.prog) (w:=w) (base:=base) T F31,PySem.W.mg_of X G a31,k31,bb31⟩
 have Ha2:Fx l.prog w K mg base "_law_run" 2 3 yD:=⟨f32,_,_,Ql (P:=l.prog) (w:=w) (base:=base) T F32 Hau,PySem.W.mg_of X G a32,k32,bb32⟩
 have Hax:Fx l.prog w K mg base "_law_ends" 1 1 xn:=⟨f33,_,_,G4 (P:=l.prog) (w:=w) (base:=base) T F33,PySem.W.mg_of X G a33,k33,bb33⟩
 have Ha4:Fx l.prog w K mg base "_law_verdict" 3 4 yG:=⟨f34,_,_,G3 (P:=l.prog) (w:=w) (base:=base) T F34 Hax Ha2,PySem.W.mg_of X G a34,k34,bb34⟩
 have Ha1:Fx l.prog w K mg base "_law_promises" 3 5 vh:=⟨f35,_,_,JJ (P:=l.prog) (w:=w) (base:=base) T F35 Haw Hax Ha2,PySem.W.mg_of X G a35,k35,bb35⟩
 have Haz:Fx l.prog w K mg base "_law_is" 1 2 x0:=⟨f36,_,_,Qf (P:=l.prog) (w:=w) (base:=base) T F36,PySem.W.mg_of X G a36,k36,bb36⟩
 have Hay:Fx l.prog w K mg base "_law_fields" 2 5 (wz C):=⟨f37,_,_,Ul (P:=l.prog) (w:=w) (base:=base) T F37 Hab Hai Haz Hag Hau Hae Hal,PySem.W.mg_of X G a37,k37,bb37⟩
 have Hat:Fx l.prog w K mg base "_law_asked" 7 4 (vj C):=⟨f38,_,_,Rz (P:=l.prog) (w:=w) (base:=base) T F38 Hac Haj Had Hak Haz Ha4 Hay Ha9 Haf,PySem.W.mg_of X G a38,k38,bb38⟩
 exact Jn (Qq (P:=l.prog) (w:=w) (base:=base) T F39 Hat Ha1 Ha5) (λns hl=>JF C (US T.k0_Granted_Late) ns hl)
theorem walk {l:PySem.W.OpenLaw}{q:Program}{loose:List Str}{XP:(Str->Option Value)->Heap->Prop}{YP:World->Heap->Prop}{d:DefRec}{K:Params->PySem.W.Frag}(hn:l.most=some 63)(hdf:d.params.defaults=[])
  (hY:∀(w:World) (h:Heap),YP w h->(K w.params).In h)
  (F:∀(w:World) (mg:Str->Option Value) (fa:Addr) (h:Heap),(K w.params).In h->h.Ns mainGlobals mg->mg d.name=some (.ref fa) ->
   ∃fd:FuncData,(∀(s:Shared) (u:Value),BindsTo s fd ⟨[u],[]⟩ [("_law_script",u)])/\∀base:Heap,(K w.params).In base->base.Ns mainGlobals mg->FnOk l.prog w (K w.params) mg base CX0 8 fa fd ["_law_script"] (spOut (K w.params))) :
  PySem.W.WalkO q loose XP YP l.row.toRowW d [] (λf vs=>PySem.call f vs) :=
 L2.walk_of (n:=63) (k:=8) (x := "_law_script") (CX:=λ_=>CX0) (sp:=λw=>spOut (K w.params)) hn (by decide) hdf ⟨rfl,by decide,by decide⟩ hY F (λ_ _ a ns hl _ hS=>⟨a,ns,rfl,hS,hl,λ_=>rfl⟩) λ_ _ _ _ _ z=>z
end My
def PySem.W.Fast.tw10571799708411907457:Unit:=()
def PySem.W.Fast.tw2462614822683223970:Unit:=()
def PySem.W.Fast.tw8762129619307717539:Unit:=()
def PySem.W.Fast.tw11458433394411717956:Unit:=()
def PySem.W.Fast.tw13581484570675977541:Unit:=()
def PySem.W.Fast.tw18266063667233873861:Unit:=()
def PySem.W.Fast.tw14431202360059177000:Unit:=()
def PySem.W.Fast.tw12953466531280995148:Unit:=()
def PySem.W.Fast.tw12595095181169067565:Unit:=()
def PySem.W.Fast.tw13733890620060917999:Unit:=()
def PySem.W.Fast.tw2808584565125971537:Unit:=()
def PySem.W.Fast.tw15841369763070716562:Unit:=()
def PySem.W.Fast.tw2736769192742897426:Unit:=()
def PySem.W.Fast.tw4991476682488252274:Unit:=()
def PySem.W.Fast.tw1051533918076064307:Unit:=()
def PySem.W.Fast.tw14065414228251254420:Unit:=()
def PySem.W.Fast.tw16381123054111258134:Unit:=()
def PySem.W.Fast.tw2389465985679791383:Unit:=()
def PySem.W.Fast.tw3138627306647101656:Unit:=()
def PySem.W.Fast.tw9527884779785735257:Unit:=()
def PySem.W.Fast.tw3978408571639321786:Unit:=()
def PySem.W.Fast.tw13766405532192765306:Unit:=()
def PySem.W.Fast.tw398235623761079835:Unit:=()
def PySem.W.Fast.tw15066340435115936347:Unit:=()
def PySem.W.Fast.tw1469153972052194235:Unit:=()
def PySem.W.Fast.tw14003378019685773918:Unit:=()
def PySem.W.Fast.tw16082740740998400223:Unit:=()
def PySem.W.Fast.tw8862782045194915641:Unit:=()
open PySem PySem.W PyProof.Rows
set_option maxRecDepth 100000 in
set_option maxHeartbeats 0 in
theorem PySem.Challenge.cw_latestturn_k51_settled_holds : PySem.Challenge.rw_latestturn_k51_settled.Holds := by
 w_on;o_law;k_head;(case hw=>w_witness2)
 k_fill
 refine My.walk (l:=PySem.Challenge.rw_latestturn_k51_settled) rfl rfl (λw h Y=>PySem.W.kIn_of Y) ?F
 case F=>
  intro w mg fa h KX G hmg
  refine' My.all_mk KX G hmg ?tt_Hours ?tt_Granted ?tt_Late ?tt_Verdict ?a0 ?l0 ?c0 ?k0 ?a1 ?l1 ?c1 ?k1 ?a2 ?l2 ?c2 ?k2 ?a3 ?l3 ?c3 ?k3 ?a4 ?l4 ?c4 ?k4 ?a5 ?l5 ?c5 ?k5 ?a6 ?i6 ?l6 ?c6 ?k6 ?a7 ?i7 ?l7 ?c7 ?k7 ?a8 ?l8 ?c8 ?k8 ?a9 ?l9 ?c9 ?k9 ?a10 ?l10 ?t10 ?c10 ?k10 ?a11 ?l11 ?c11 ?k11 ?a12 ?i12 ?l12 ?c12 ?k12 ?a13 ?i13 ?l13 ?c13 ?k13 ?a14 ?i14 ?l14 ?c14 ?k14 ?a15 ?i15 ?l15 ?c15 ?k15 ?a16 ?i16 ?l16 ?c16 ?k16 ?a17 ?i17 ?l17 ?c17 ?k17 ?bs18 ?br18 ?bf18 ?l18 ?c18 ?k18 ?a19 ?l19 ?c19 ?k19 ?a20 ?i20 ?l20 ?c20 ?k20 ?a21 ?i21 ?l21 ?c21 ?k21 ?a22 ?l22 ?c22 ?k22 ?a23 ?l23 ?c23 ?k23 ?a24 ?i24 ?l24 ?c24 ?k24 ?a25 ?i25 ?l25 ?c25 ?k25 ?a26 ?l26 ?c26 ?k26 ?a27 ?l27 ?c27 ?k27 ?a28 ?l28 ?c28 ?k28 ?a29 ?l29 ?c29 ?k29 ?a30 ?l30 ?c30 ?k30 ?a31 ?l31 ?c31 ?k31 ?a32 ?l32 ?c32 ?k32 ?a33 ?l33 ?c33 ?k33 ?a34 ?l34 ?c34 ?k34 ?a35 ?l35 ?c35 ?k35 ?a36 ?l36 ?c36 ?k36 ?a37 ?l37 ?c37 ?k37 ?a38 ?l38 ?c38 ?k38 ?a39 ?l39 ?c39 ?k39 ?pg_Hours ?hd_Hours ?po_Hours ?sa_Hours ?mk_Hours ?kc_Hours ?pg_Granted ?hd_Granted ?po_Granted ?sa_Granted ?mk_Granted ?kc_Granted ?pg_Late ?hd_Late ?po_Late ?sa_Late ?mk_Late ?kc_Late ?cc_Granted ?xcg ?xct ?mo_Granted ?cc_Late ?mo_Late ?sb_Granted_Granted ?cl_Late ?ty_Late ?sb_Granted_Late ?sb_Late_Late ?cl_Granted ?ty_Granted ?sb_Late_Granted ?cl_Verdict ?ty_Verdict ?sb_Granted_Verdict ?sb_Late_Verdict ?n_Granted_begin ?n_Granted_hours ?n_Granted_queue ?n_Hours_kept_rest ?n_Hours_spans ?n_Late_begin ?n_Late_hours ?n_Late_name ?n_Late_promised ?n_Late_queue ?n_Late_run ?n_Late_turn ?b_all ?b_bool ?b_dict ?b_enumerate ?b_int ?b_isinstance ?b_len ?b_list ?b_max ?b_min ?b_range ?b_tuple ?c_MOST_COUNTERS ?c_MOST_ROWS ?c_MOST_TURNS
  (case tt_Hours=>k_is)
  (case tt_Granted=>k_is)
  (case tt_Late=>k_is)
  (case tt_Verdict=>k_is)
  (case a0=>k_is)
  (case l0=>k_is)
  (case c0=>k_is)
  (case k0=>k_is)
  (case a1=>k_is)
  (case l1=>k_is)
  (case c1=>k_is)
  (case k1=>k_is)
  (case a2=>k_is)
  (case l2=>k_is)
  (case c2=>k_is)
  (case k2=>k_is)
  (case a3=>k_is)
  (case l3=>k_is)
  (case c3=>k_is)
  (case k3=>k_is)
  (case a4=>k_is)
  (case l4=>k_is)
  (case c4=>k_is)
  (case k4=>k_is)
  (case a5=>k_is)
  (case l5=>k_is)
  (case c5=>k_is)
  (case k5=>k_is)
  (case a6=>k_is)
  (case i6=>k_is)
  (case l6=>k_is)
  (case c6=>k_is)
  (case k6=>k_is)
  (case a7=>k_is)
  (case i7=>k_is)
  (case l7=>k_is)
  (case c7=>k_is)
  (case k7=>k_is)
  (case a8=>k_is)
  (case l8=>k_is)
  (case c8=>k_is)
  (case k8=>k_is)
  (case a9=>k_is)
  (case l9=>k_is)
  (case c9=>k_is)
  (case k9=>k_is)
  (case a10=>k_is)
  (case l10=>k_is)
  (case t10=>k_is)
  (case c10=>k_is)
  (case k10=>k_is)
  (case a11=>k_is)
  (case l11=>k_is)
  (case c11=>k_is)
  (case k11=>k_is)
  (case a12=>k_is)
  (case i12=>k_is)
  (case l12=>k_is)
  (case c12=>k_is)
  (case k12=>k_is)
  (case a13=>k_is)
  (case i13=>k_is)
  (case l13=>k_is)
  (case c13=>k_is)
  (case k13=>k_is)
  (case a14=>k_is)
  (case i14=>k_is)
  (case l14=>k_is)
  (case c14=>k_is)
  (case k14=>k_is)
  (case a15=>k_is)
  (case i15=>k_is)
  (case l15=>k_is)
  (case c15=>k_is)
  (case k15=>k_is)
  (case a16=>k_is)
  (case i16=>k_is)
  (case l16=>k_is)
  (case c16=>k_is)
  (case k16=>k_is)
  (case a17=>k_is)
  (case i17=>k_is)
  (case l17=>k_is)
  (case c17=>k_is)
  (case k17=>k_is)
  (case bs18=>k_is)
  (case br18=>k_is)
  (case bf18=>k_is)
  (case l18=>k_is)
  (case c18=>k_is)
  (case k18=>k_is)
  (case a19=>k_is)
  (case l19=>k_is)
  (case c19=>k_is)
  (case k19=>k_is)
  (case a20=>k_is)
  (case i20=>k_is)
  (case l20=>k_is)
  (case c20=>k_is)
  (case k20=>k_is)
  (case a21=>k_is)
  (case i21=>k_is)
  (case l21=>k_is)
  (case c21=>k_is)
  (case k21=>k_is)
  (case a22=>k_is)
  (case l22=>k_is)
  (case c22=>k_is)
  (case k22=>k_is)
  (case a23=>k_is)
  (case l23=>k_is)
  (case c23=>k_is)
  (case k23=>k_is)
  (case a24=>k_is)
  (case i24=>k_is)
  (case l24=>k_is)
  (case c24=>k_is)
  (case k24=>k_is)
  (case a25=>k_is)
  (case i25=>k_is)
  (case l25=>k_is)
  (case c25=>k_is)
  (case k25=>k_is)
  (case a26=>k_is)
  (case l26=>k_is)
  (case c26=>k_is)
  (case k26=>k_is)
  (case a27=>k_is)
  (case l27=>k_is)
  (case c27=>k_is)
  (case k27=>k_is)
  (case a28=>k_is)
  (case l28=>k_is)
  (case c28=>k_is)
  (case k28=>k_is)
  (case a29=>k_is)
  (case l29=>k_is)
  (case c29=>k_is)
  (case k29=>k_is)
  (case a30=>k_is)
  (case l30=>k_is)
  (case c30=>k_is)
  (case k30=>k_is)
  (case a31=>k_is)
  (case l31=>k_is)
  (case c31=>k_is)
  (case k31=>k_is)
  (case a32=>k_is)
  (case l32=>k_is)
  (case c32=>k_is)
  (case k32=>k_is)
  (case a33=>k_is)
  (case l33=>k_is)
  (case c33=>k_is)
  (case k33=>k_is)
  (case a34=>k_is)
  (case l34=>k_is)
  (case c34=>k_is)
  (case k34=>k_is)
  (case a35=>k_is)
  (case l35=>k_is)
  (case c35=>k_is)
  (case k35=>k_is)
  (case a36=>k_is)
  (case l36=>k_is)
  (case c36=>k_is)
  (case k36=>k_is)
  (case a37=>k_is)
  (case l37=>k_is)
  (case c37=>k_is)
  (case k37=>k_is)
  (case a38=>k_is)
  (case l38=>k_is)
  (case c38=>k_is)
  (case k38=>k_is)
  (case a39=>k_is)
  (case l39=>k_is)
  (case c39=>k_is)
  (case k39=>k_is)
  (case pg_Hours=>k_is)
  (case hd_Hours=>k_is)
  (case po_Hours=>k_is)
  (case sa_Hours=>k_is)
  (case mk_Hours=>k_is)
  (case kc_Hours=>k_is)
  (case pg_Granted=>k_is)
  (case hd_Granted=>k_is)
  (case po_Granted=>k_is)
  (case sa_Granted=>k_is)
  (case mk_Granted=>k_is)
  (case kc_Granted=>k_is)
  (case pg_Late=>k_is)
  (case hd_Late=>k_is)
  (case po_Late=>k_is)
  (case sa_Late=>k_is)
  (case mk_Late=>k_is)
  (case kc_Late=>k_is)
  (case cc_Granted=>k_is)
  (case xcg=>k_is)
  (case xct=>k_is)
  (case mo_Granted=>k_is)
  (case cc_Late=>k_is)
  (case mo_Late=>k_is)
  (case sb_Granted_Granted=>k_is)
  (case cl_Late=>k_is)
  (case ty_Late=>k_is)
  (case sb_Granted_Late=>k_is)
  (case sb_Late_Late=>k_is)
  (case cl_Granted=>k_is)
  (case ty_Granted=>k_is)
  (case sb_Late_Granted=>k_is)
  (case cl_Verdict=>k_is)
  (case ty_Verdict=>k_is)
  (case sb_Granted_Verdict=>k_is)
  (case sb_Late_Verdict=>k_is)
  (case n_Granted_begin=>k_is)
  (case n_Granted_hours=>k_is)
  (case n_Granted_queue=>k_is)
  (case n_Hours_kept_rest=>k_is)
  (case n_Hours_spans=>k_is)
  (case n_Late_begin=>k_is)
  (case n_Late_hours=>k_is)
  (case n_Late_name=>k_is)
  (case n_Late_promised=>k_is)
  (case n_Late_queue=>k_is)
  (case n_Late_run=>k_is)
  (case n_Late_turn=>k_is)
  (case b_all=>k_is)
  (case b_bool=>k_is)
  (case b_dict=>k_is)
  (case b_enumerate=>k_is)
  (case b_int=>k_is)
  (case b_isinstance=>k_is)
  (case b_len=>k_is)
  (case b_list=>k_is)
  (case b_max=>k_is)
  (case b_min=>k_is)
  (case b_range=>k_is)
  (case b_tuple=>k_is)
  (case c_MOST_COUNTERS=>k_is)
  (case c_MOST_ROWS=>k_is)
  (case c_MOST_TURNS=>k_is)
#print axioms PySem.Challenge.cw_latestturn_k51_settled_holds
end

import PyProof.Rows.All
import Wide.All
import OpenK.AllK
import Wide.FinOn
import Lean
import PyProof.EqAt
import PyProof.EqKinds
import PyProof.TupleCall
import KE.KPairComp
import PyProof.SumWalkG
import PyProof.WalkInts
import PyProof.Rows.SortStr
import PyProof.Rows.SortWalk
import PySem.Challenge.RW_latestturn_k81_waits_and_tolls
set_option Elab.async false
set_option linter.all false
set_option maxRecDepth 100000
set_option maxHeartbeats 4000000
noncomputable section
open PySem.W (mg_of nsIn keepIn fnOf codeIn findIn kitOne subIn hasDictIn clsIn takerIn instObj Looks emptyDict plainGet looks_findIn InstAt)
set_option maxHeartbeats 4000000
namespace L2
open PySem PySem.Spec PyProof.Rows
abbrev Key:=Sum Int Str
def keyIs:Key->Value->Bool
 |.inl k,v=>Value.isInt k v
 |.inr x,v=>Value.isStrOf x v
def keyH (w:World):Key->Int
 |.inl k=>hashInt k
 |.inr x=>hashStr w x
theorem y8:∀ {k:Key} {v:Value},keyIs k v=true->(∃i t,k=Sum.inl i/\v=Value.int i t)∨(∃x t,k=Sum.inr x/\v=Value.str x t)
 |.inl i,v,h=>by
  obtain⟨t,e⟩:=Value.isInt_shape (k:=i) (v:=v) h
  exact .inl ⟨i,t,rfl,e⟩
 |.inr x,v,h=>by
  obtain⟨t,e⟩:=Value.isStrOf_shape (x:=x) (v:=v) h
  exact .inr ⟨x,t,rfl,e⟩
theorem zed (i:Int)(t:Tok):keyIs (.inl i) (.int i t)=true:=by simp[keyIs,Value.isInt]
theorem UV (x:Str)(t:Tok):keyIs (.inr x) (.str x t)=true:=by simp[keyIs,Value.isStrOf]
theorem Qm (a b:Int):decide ((Sum.inl a:Key)=Sum.inl b)=(a==b):=by
 by_cases e:a=b
 ·subst e;simp
 ·have h:¬(Sum.inl a:Key)=Sum.inl b:=λq=>e (Sum.inl.inj q)
  rw[decide_eq_false h]
  exact (beq_eq_false_iff_ne.mpr e).symm
theorem G1 (a b:Str):decide ((Sum.inr a:Key)=Sum.inr b)=decide (a=b):=by
 by_cases e:a=b
 ·subst e;simp
 ·have h:¬(Sum.inr a:Key)=Sum.inr b:=λq=>e (Sum.inr.inj q)
  rw[decide_eq_false h,decide_eq_false e]
theorem zeo (a:Int)(b:Str):decide ((Sum.inl a:Key)=Sum.inr b)=false:=decide_eq_false (λq=>nomatch q)
theorem RM (a:Str)(b:Int):decide ((Sum.inr a:Key)=Sum.inl b)=false:=decide_eq_false (λq=>nomatch q)
def zE (prog:Program)(w:World):PySem.KeyKind prog w Key where
 is:=keyIs
 hash:=keyH w
 inj:=λv a b ha hb=>by
  rcases y8 ha with⟨i,t,rfl,rfl⟩ | ⟨x,t,rfl,rfl⟩
  ·rcases y8 hb with⟨j,u,rfl,e⟩ | ⟨y,u,rfl,e⟩
   ·injection e with e1 _;rw[e1]
   ·exact nomatch e
  ·rcases y8 hb with⟨j,u,rfl,e⟩ | ⟨y,u,rfl,e⟩
   ·exact nomatch e
   ·injection e with e1 _;rw[e1]
 byValue:=λk v h=>by
  rcases y8 h with⟨i,t,rfl,rfl⟩ | ⟨x,t,rfl,rfl⟩<;>rfl
 pyHash:=λhv h=>by
  rcases y8 hv with⟨i,t,rfl,rfl⟩ | ⟨x,t,rfl,rfl⟩
  ·exact wpAny_pyHash_int h
  ·exact wpAny_pyHash_str h
 eqBool:=λhu hv h=>by
  rcases y8 hu with⟨i,t,rfl,rfl⟩ | ⟨x,t,rfl,rfl⟩
  ·rcases y8 hv with⟨j,u,rfl,rfl⟩ | ⟨y,u,rfl,rfl⟩
   ·rw[Qm] at h;exact wpAny_eqBool_int h
   ·rw[zeo] at h;exact SeqAt.EqAt.int_str i t y u _ _ _ _ h
  ·rcases y8 hv with⟨j,u,rfl,rfl⟩ | ⟨y,u,rfl,rfl⟩
   ·rw[RM] at h;exact SeqAt.EqAt.str_int x t j u _ _ _ _ h
   ·rw[G1] at h;exact wpAny_eqBool_str h
 «strs»:=λk x t v h=>by
  rcases y8 h with⟨i,u,rfl,e⟩ | ⟨y,u,rfl,e⟩
  ·exact nomatch e
  ·injection e with e1 _
   subst e1
   cases v<;>rfl
theorem KJ (prog:Program)(w:World)(k:Key)(v:Value):(zE prog w).is k v=keyIs k v:=rfl
theorem GT (prog:Program)(w:World)(i:Int)(t:Tok):(zE prog w).is (.inl i) (.int i t)=true:=zed i t
theorem RO (prog:Program)(w:World)(x:Str)(t:Tok):(zE prog w).is (.inr x) (.str x t)=true:=UV x t
inductive V where
 |non | bl (b:Bool) | int (i:Int) | str (x:Str) | byt (b:Array UInt8) | flt (b:UInt64) | ref (a:Addr) | ty (n:String)
 deriving DecidableEq
def RelV:V->Value->Prop
 |.non,u=>u=Value.none
 |.bl b,u=>u=Value.bool b
 |.int i,u=>∃t,u=Value.int i t
 |.str x,u=>∃t,u=Value.str x t
 |.byt b,u=>∃t,u=Value.bytes b t
 |.flt b,u=>∃t,u=Value.float b t
 |.ref a,u=>u=Value.ref a
 |.ty n,u=>u=Value.type n
abbrev Vals:List V->List Value->Prop:=Paired RelV
theorem Vals.length {xs:List V}{us:List Value}(r:Vals xs us):xs.length=us.length:=Paired.length r
theorem Vals.get:∀ {xs:List V} {us:List Value} {i:Nat} {x:V},Vals xs us->xs[i]?=some x->∃u,us[i]?=some u/\RelV x u
 |_,_,_,_,.nil,e=>by simp at e
 |_,_,0,_,.cons r _,e=>by simp at e;subst e;exact⟨_,rfl,r⟩
 |_,_,i+1,x,.cons _ t,e=>by
  obtain⟨u,h1,h2⟩:=Vals.get (i:=i) (x:=x) t (by simpa using e)
  exact⟨u,by simpa using h1,h2⟩
theorem Vals.set {x:V}{u:Value}(r:RelV x u):∀ {xs:List V} {us:List Value} (i:Nat),Vals xs us->Vals (xs.set i x) (us.set i u)
 |_,_,_,.nil=>.nil
 |_,_,0,.cons _ t=>.cons r t
 |_,_,i+1,.cons q t=>.cons q (Vals.set r i t)
theorem Vals.append:∀ {xs ys:List V} {us ws:List Value},Vals xs us->Vals ys ws->Vals (xs++ys) (us++ws)
 |_,_,_,_,.nil,s=>s
 |_,_,_,_,.cons r t,s=>.cons r (Vals.append t s)
theorem Vals.take:∀ {xs:List V} {us:List Value} (n:Nat),Vals xs us->Vals (xs.take n) (us.take n)
 |_,_,0,_=>.nil
 |_,_,_+1,.nil=>.nil
 |_,_,n+1,.cons r t=>.cons r (Vals.take n t)
theorem Vals.drop:∀ {xs:List V} {us:List Value} (n:Nat),Vals xs us->Vals (xs.drop n) (us.drop n)
 |_,_,0,r=>r
 |_,_,_+1,.nil=>.nil
 |_,_,n+1,.cons _ t=>Vals.drop n t
def RelO:Option V->Option Value->Prop
 |some v,some u=>RelV v u
 |none,none=>True
 |_,_=>False
def KV {κ:Type}:List (κ×V)->List (κ×Value)->Prop:=Paired λ(p:κ×V) (q:κ×Value)=>p.1=q.1/\RelV p.2 q.2
def kV:Key->V
 |.inl i=>.int i
 |.inr x=>.str x
inductive HO where
  |lst (xs:List V)
  |tup (xs:List V)
  |dK (kvs:List (Key×V)) | dT (kvs:List (List Key×V))
  |set (S:Int->Bool) (n:Nat)
  |ins (C dx:Addr) (fs:List (Str×V))
  |own (x:Addr)
  |xd (fs:List (Str×V))
  |met (f x:Addr)
  |rng (lo hi:Int)
  |frz (o:Obj) (u:HO)
  |tbl (ps:Array Value)
  |ext (φ:Heap->Prop)
abbrev Hp:=Addr->Option HO
def upd (H:Hp)(a:Addr)(o:HO):Hp:=λb=>if b=a then some o else H b
theorem zl {H:Hp}{a:Addr}{o:HO}:upd H a o a=some o:=by unfold upd;rw[if_pos rfl]
theorem zg {H:Hp}{a b:Addr}{o:HO}(h:b≠a):upd H a o b=H b:=by unfold upd;rw[if_neg h]
theorem kI {H:Hp}{a:Addr}{o u:HO}:upd (upd H a o) a u=upd H a u:=by
 funext b;unfold upd;split<;>rfl
theorem zw {H:Hp}{a b:Addr}{o:HO}(h:H a=some o)(h':H b=none):a≠b:=by
 intro e;subst e;rw[h] at h';cases h'
section
variable (P:Program)(w:World)
def ObjOk (H:Hp)(h:Heap)(a:Addr):HO->Prop
 |.lst xs=>xs.length<=sizeLine/\∃(its:List Value) (n:Nat),Vals xs its/\h.get? a=some { cls:=.type "list",data:=.seq its.toArray n }
 |.tup xs=>xs.length<=sizeLine/\∃its:List Value,Vals xs its/\IsTup h a its.toArray
 |.dK kvs=>kvs.length<=sizeLine/\(a==sysModules)=false/\∃vs,KV kvs vs/\h.DictOf (zE P w) a vs
 |.dT kvs=>kvs.length<=sizeLine/\(a==sysModules)=false/\∃xs:List (List Key×Addr×Value),
   Paired (λ(p:List Key×V) (q:List Key×Addr×Value)=>p.1=q.1/\H q.2.1=some (.tup (p.1.map kV))/\RelV p.2 q.2.2) kvs xs /\
   ∃o es ep,h.get? a=some o/\o.ExactDict/\o.data=.dict es ep/\es.toList=xs.map (entryOfKey (tupleKind (zE P w)))/\(xs.map (·.1)).Nodup
 |.set S n=>h.SetOf (intKind P w) a S n
 |.ins C dx fs=>H dx=some (.own a)/\fs.length<=1000/\dx≠a/\h.get? a=some (instObj C dx) /\
   ∃mA,h.Ns1 dx mA/\(∀f,RelO (fs.lookup f) (mA f))/\PySem.Within mA (fs.map (·.1))
 |.own _=>∃o,h.get? a=some o
 |.xd fs=>∃mA,h.Ns1 a mA/\∀f,RelO (fs.lookup f) (mA f)
 |.rng lo hi=>∃t u v,h.get? a=some { cls:=.type "range",data:=.fields #[.int lo t,.int hi u,.int 1 v] }
 |.frz o u=>h.get? a=some o/\ObjOk H h a u
 |.tbl ps=>h.get? a=some { cls:=.none,data:=.fields ps }
 |.met f x=>h.get? a=some (PySem.W.methodObj (.ref f) (.ref x))
 |.ext φ=>φ h/\(∃o,h.get? a=some o)/\∀h1 h2:Heap,φ h1->(∀o,h1.get? a=some o->h2.get? a=some o)->φ h2
def HOk (H:Hp)(h:Heap):Prop:=∀a o,H a=some o->ObjOk P w H h a o
end
section
variable {P:Program}{w:World}{H H':Hp}{h h':Heap}{a:Addr}{o:HO}
theorem ObjOk.lt (x:ObjOk P w H h a o):a < h.objs.size:=by
 cases o with
 |lst xs=>obtain⟨_,_,_,_,e⟩:=x;exact Heap.lt_size e
 |tup xs=>obtain⟨_,_,_,p⟩:=x;exact p.lt
 |dK kvs=>obtain⟨_,_,_,_,o,_,_,e,_⟩:=x;exact Heap.lt_size e
 |dT kvs=>obtain⟨_,_,_,_,o,_,_,e,_⟩:=x;exact Heap.lt_size e
 |set S n=>obtain⟨o,_,_,_,e,_⟩:=x;exact Heap.lt_size e
 |ins C dx fs=>obtain⟨_,_,_,e,_⟩:=x;exact Heap.lt_size e
 |own y=>obtain⟨_,e⟩:=x;exact Heap.lt_size e
 |xd fs=>obtain⟨_,⟨_,_,_,e,_⟩,_⟩:=x;exact Heap.lt_size e
 |rng lo hi=>obtain⟨_,_,_,e⟩:=x;exact Heap.lt_size e
 |frz ob u=>obtain⟨e,_⟩:=x;exact Heap.lt_size e
 |tbl ps=>exact Heap.lt_size (show h.get? a=some _ from x)
 |met f y=>exact Heap.lt_size (show h.get? a=some _ from x)
 |ext φ=>obtain⟨_,⟨_,e⟩,_⟩:=x;exact Heap.lt_size e
theorem Paired.mapP {α β:Type}{F G:α->β->Prop}:∀ {l₁:List α} {l₂:List β},Paired F l₁ l₂->(∀a b,F a b->G a b)->Paired G l₁ l₂
 |_,_,.nil,_=>.nil
 |_,_,.cons r t,f=>.cons (f _ _ r) (Paired.mapP t f)
theorem Paired.imp' {α β:Type}{F G:α->β->Prop}(f:∀a b,F a b->G a b){l₁:List α}{l₂:List β}(r:Paired F l₁ l₂):Paired G l₁ l₂:=Paired.mapP r f
theorem ObjOk.stay (x:ObjOk P w H h a o)(k:∀b u,(b=a∨H b=some (.own a))->h.get? b=some u->h'.get? b=some u)
  (ho:∀b,H b=some (.own a)->H' b=some (.own a)) (ht:∀b xs,H b=some (.tup xs)->H' b=some (.tup xs)):ObjOk P w H' h' a o:=by
 induction o with
 |lst xs=>obtain⟨z,its,n,r,e⟩:=x;exact⟨z,its,n,r,k _ _ (.inl rfl) e⟩
 |tup xs=>obtain⟨z,its,r,ob,e,c⟩:=x;exact⟨z,its,r,ob,k _ _ (.inl rfl) e,c⟩
 |dK kvs=>obtain⟨z,y,vs,r,ob,es,ep,e,c⟩:=x;exact⟨z,y,vs,r,ob,es,ep,k _ _ (.inl rfl) e,c⟩
 |dT kvs=>
  obtain⟨z,y,xs,r,ob,es,ep,e,c⟩:=x
  exact⟨z,y,xs,Paired.mapP r λp q z=>⟨z.1,ht _ _ z.2.1,z.2.2⟩,ob,es,ep,k _ _ (.inl rfl) e,c⟩
 |set S n=>obtain⟨ob,es,ep,t,e,c⟩:=x;exact⟨ob,es,ep,t,k _ _ (.inl rfl) e,c⟩
 |ins C dx fs=>
  obtain⟨d,z,ne,e,mA,⟨od,es,ep,e2,c⟩,r⟩:=x
  exact⟨ho _ d,z,ne,k _ _ (.inl rfl) e,mA,⟨od,es,ep,k _ _ (.inr d) e2,c⟩,r⟩
 |own y=>obtain⟨ob,e⟩:=x;exact⟨ob,k _ _ (.inl rfl) e⟩
 |xd fs=>obtain⟨mA,⟨od,es,ep,e,c⟩,r⟩:=x;exact⟨mA,⟨od,es,ep,k _ _ (.inl rfl) e,c⟩,r⟩
 |rng lo hi=>obtain⟨t,u,v,e⟩:=x;exact⟨t,u,v,k _ _ (.inl rfl) e⟩
 |frz ob u ih=>obtain⟨e,q⟩:=x;exact⟨k _ _ (.inl rfl) e,ih q⟩
 |tbl ps=>
  have e:h.get? a=some { cls:=.none,data:=.fields ps }:=x
  show h'.get? a=some { cls:=.none,data:=.fields ps }
  exact k a _ (.inl rfl) e
 |met f y=>
  have e:h.get? a=some (PySem.W.methodObj (.ref f) (.ref y)):=x
  show h'.get? a=some (PySem.W.methodObj (.ref f) (.ref y))
  exact k a _ (.inl rfl) e
 |ext φ=>obtain⟨p,⟨o,e⟩,st⟩:=x;exact⟨st _ _ p λo q=>k _ _ (.inl rfl) q,⟨o,k _ _ (.inl rfl) e⟩,st⟩
theorem HOk.lt (x:HOk P w H h)(e:H a=some o):a < h.objs.size:=(x a o e).lt
theorem HOk.fresh (x:HOk P w H h)(e:h.objs.size<=a):H a=none:=by
 cases q:H a with
 |none=>rfl
 |some u=>exact absurd (Nat.lt_of_lt_of_le (x.lt q) e) (Nat.lt_irrefl _)
theorem HOk.kept (x:HOk P w H h)(k:∀b u,h.get? b=some u->h'.get? b=some u):HOk P w H h':=λa o e=>
 (x a o e).stay (λb u _ q=>k b u q) (λ_ q=>q) λ_ _ q=>q
theorem HOk.laid (x:HOk P w H h)(k:∀b u,h.get? b=some u->h'.get? b=some u)(hp:h.objs.size<=a)(new:ObjOk P w (upd H a o) h' a o):HOk P w (upd H a o) h':=λb u e=>by
 have hn:=x.fresh hp
 by_cases hb:b=a
 ·subst hb;rw[zl] at e;cases e;exact new
 ·rw[zg hb] at e
  exact (x b u e).stay (λc v _ q=>k c v q) (λc q=>by rw[zg (zw q hn)];exact q) λc xs q=>by rw[zg (zw q hn)];exact q
end
def Rd (H:Hp)(a:Addr)(u:HO):Prop:=H a=some u∨∃o,H a=some (.frz o u)
theorem Rd.of {H:Hp}{a:Addr}{u:HO}(h:H a=some u):Rd H a u:=.inl h
theorem Rd.ok {P:Program}{w:World}{H:Hp}{h:Heap}{a:Addr}{u:HO}(r:Rd H a u)(x:HOk P w H h):ObjOk P w H h a u:=by
 rcases r with r | ⟨o,r⟩
 ·exact x a u r
 ·obtain⟨_,q⟩:=x a _ r
  exact q
def Mut:Option HO->Prop
 |some (.lst _)=>True
 |some (.dK _)=>True
 |some (.dT _)=>True
 |some (.set _ _)=>True
 |some (.ins _ _ _)=>True
 |some (.ext _)=>True
 |_=>False
section
variable {P:Program}{w:World}{H:Hp}{h h':Heap}{x e:Addr}{o':HO}
theorem HOk.write (ok:HOk P w H h)(mu:Mut (H x))(he:e=x∨H e=some (.own x))(k:∀b u,b≠e->h.get? b=some u->h'.get? b=some u)(heo:∃u,h'.get? e=some u)
  (new:ObjOk P w (upd H x o') h' x o'):HOk P w (upd H x o') h':=λb u q=>by
 have nown:∀c y,H c=some (.own y)->c≠x:=λc y r z=>by subst z;rw[r] at mu;exact mu
 have ntup:∀c xs,H c=some (.tup xs)->c≠x:=λc xs r z=>by subst z;rw[r] at mu;exact mu
 by_cases hb:b=x
 ·subst hb;rw[zl] at q;cases q;exact new
 ·rw[zg hb] at q
  by_cases hbe:b=e
  ·have q':H b=some (.own x):=by
    rcases he with z | z
    ·exact absurd (hbe.trans z) hb
    ·rw[hbe];exact z
   rw[q] at q';cases q'
   obtain⟨v,hv⟩:=heo
   exact⟨v,by rw[hbe];exact hv⟩
  ·refine (ok b u q).stay (λc v hc r=>k c v ?_ r) (λc r=>by rw[zg (nown c b r)];exact r) λc xs r=>by rw[zg (ntup c xs r)];exact r
   rcases hc with rfl | hc
   ·exact hbe
   ·rintro rfl
    rcases he with z | z
    ·exact nown c b hc z
    ·rw[hc] at z;cases z;exact hb rfl
end
structure Un (fs ex:List Addr)(H H':Hp)(h h':Heap):Prop where
 keep:∀b o,h.get? b=some o->H b=none->b∉fs->b∉ex->h'.get? b=some o
 slot:∀b o,h.get? b=some o->H b=none->b∈fs->b∉ex->∃sl,h'.get? b=some { o with slots:=sl }
 free:∀b o,h.get? b=some o->H b=none->b∉ex->H' b=none
 there:∀b o,h.get? b=some o->b∉ex->∃o',h'.get? b=some o'
 tups:∀b xs,H b=some (.tup xs)->H' b=some (.tup xs)
 frzs:∀b o u,H b=some (.frz o u)->H' b=some (.frz o u)
 tbls:∀b ps,H b=some (.tbl ps)->∃more,H' b=some (.tbl (ps++more))
section
variable {fs fs' ex ex':List Addr}{H H1 H2:Hp}{h h1 h2 h':Heap}{a x e:Addr}{o:HO}
theorem Un.any (u:Un fs ex H H1 h h1){b:Addr}{ob:Obj}(q:h.get? b=some ob)(n:H b=none)(hx:b∉ex):∃sl,h1.get? b=some { ob with slots:=sl }:=by
 by_cases hb:b∈fs
 ·exact u.slot b ob q n hb hx
 ·exact⟨ob.slots,u.keep b ob q n hb hx⟩
theorem Un.kept (k:∀b u,h.get? b=some u->h'.get? b=some u):Un fs ex H H h h' :=
 ⟨λb ob q _ _ _=>k b ob q,λb ob q _ _ _=>⟨ob.slots,k b ob q⟩,λ_ _ _ n _=>n,λb ob q _=>⟨ob,k b ob q⟩,λ_ _ q=>q,λ_ _ _ q=>q,λ_ ps q=>⟨#[],by rw[q];simp⟩⟩
theorem Un.refl:Un fs ex H H h h:=Un.kept λ_ _ q=>q
theorem Un.laid (k:∀b u,h.get? b=some u->h'.get? b=some u)(hp:h.objs.size<=a)(hn:H a=none):Un fs ex H (upd H a o) h h' where
 keep:=λb u q _ _ _=>k b u q
 slot:=λb u q _ _ _=>⟨u.slots,k b u q⟩
 free:=λb u q n _=>by rw[zg (Nat.ne_of_lt (Nat.lt_of_lt_of_le (Heap.lt_size q) hp))];exact n
 there:=λb u q _=>⟨u,k b u q⟩
 tups:=λb xs q=>by rw[zg (zw q hn)];exact q
 frzs:=λb u xs q=>by rw[zg (zw q hn)];exact q
 tbls:=λb ps q=>⟨#[],by rw[zg (zw q hn),q];simp⟩
theorem Un.write (mu:Mut (H x))(he:e=x∨H e=some (.own x))(k:∀b u,b≠e->h.get? b=some u->h'.get? b=some u)(heo:∃u,h'.get? e=some u):Un fs ex H (upd H x o) h h':=by
 have hx:∀b,H b=none->b≠x:=λb n z=>by subst z;rw[n] at mu;exact mu
 have hb:∀b,H b=none->b≠e:=λb n z=>by
  subst z
  rcases he with r | r
  ·exact hx b n r
  ·rw[n] at r;cases r
 have hm:∀b u,H b=some u->¬Mut (some u)->b≠x:=λb u q nm z=>by subst z;rw[q] at mu;exact nm mu
 refine⟨λb u q n _ _=>k b u (hb b n) q,λb u q n _ _=>⟨u.slots,k b u (hb b n) q⟩,λb u q n _=>by rw[zg (hx b n)];exact n,λb u q _=>?_,
  λb xs q=>by rw[zg (hm b _ q λz=>z)];exact q,λb u xs q=>by rw[zg (hm b _ q λz=>z)];exact q,λb ps q=>⟨#[],by rw[zg (hm b _ q λz=>z),q];simp⟩⟩
 by_cases hbe:b=e
 ·subst hbe;exact heo
 ·exact⟨u,k b u hbe q⟩
end
def trk (h:Heap)(H:Hp):List Addr:=(List.range h.objs.size).filter λa=>(H a).isSome
def hidT (h:Heap)(H:Hp):Heap:=PySem.W.hideAll h (trk h H)
theorem Ua (h:Heap)(H:Hp):(hidT h H).objs.size=h.objs.size:=PySem.W.hideAll_size _ _
theorem Gk {h:Heap}{H:Hp}{b:Addr}{o:Obj}(e:h.get? b=some o)(n:H b=none):(hidT h H).get? b=some o :=
 PySem.W.hideAll_get _ e λhm=>by
  have q:(H b).isSome=true:=(List.mem_filter.mp hm).2
  rw[n] at q;simp at q
theorem Rf {h:Heap}{H:Hp}{b:Addr}{o:Obj}(e:(hidT h H).get? b=some o):h.get? b=some o/\H b=none:=by
 have e':h.get? b=some o:=PySem.W.of_hideAll (trk h H) e
 refine⟨e',?_⟩
 cases q:H b with
 |none=>rfl
 |some x=>
  have hm:b∈trk h H:=List.mem_filter.mpr ⟨List.mem_range.mpr (Heap.lt_size e'),by simp[q]⟩
  have z:(hidT h H).get? b=none:=PySem.W.hideAll_none (trk h H) hm
  rw[z] at e;cases e
def K7 (g h:Heap)(L:Addr):List (Addr×Obj):=(List.range h.objs.size).filterMap λa=>if a=L∨(g.get? a).isSome=true then none else (h.get? a).map λo=>(a,o)
def rest (g h:Heap)(L d:Addr):List (Addr×Obj):=(K7 g h L).filter λp=>decide (p.1≠d)
structure Mod (K:PySem.W.Frag)(mg:Str->Option Value)(base:Heap):Prop where
 kin:K.In base
 glob:base.Ns mainGlobals mg
 blt:∃mb,base.Ns builtinsNs mb/\∀x:Str,x ≠ "__name__" -> mb x=bootBuiltins x
 nolimit:base.NoLimit
structure Cx where
 prog:Program
 w:World
 K:PySem.W.Frag
 mg:Str->Option Value
 base:Heap
 A:Around
 N:List Str
 s₀:Shared
 H₀:Hp
 env:Env
 outer:List Env
 stack:List Env
 ex:List Addr
 fn:Str->Bool
 calm:Bool
 pn:List (Addr×Obj)
 xe:Value->Shared->Prop
def frs (l:List Env):List Addr:=l.filterMap (·.frame)
abbrev Cx.fs (X:Cx):List Addr:=frs X.outer
def Vis (sc:Scope)(x:Str):Prop:=sc.names.lookup x=some .local∨sc.names.lookup x=some .cell∨sc.names.lookup x=some .free
def Loc (sc:Scope)(x:Str):Prop:=sc.names.lookup x=some .local∨sc.names.lookup x=some .cell
theorem locl {sc:Scope}{x:Str}(h:(match sc.names.lookup x with | some .local=>true | some .cell=>true | _=>false)=true):Loc sc x:=by
 unfold Loc
 split at h<;>simp_all
def Look (env:Env)(h:Heap)(m:Str->Option Value)(x:Str)(u:Value):Prop :=
 (env.kindOf x=some .local/\m x=some u)∨((env.kindOf x=some .cell∨env.kindOf x=some .free)/\∃c,env.cells.lookup x=some c/\h.IsCell c (some u))
structure Cx.Ok (X:Cx):Prop where
 mod:Mod X.K X.mg X.base
 kind:X.env.scope.kind=.function
 glob:X.env.globals=mainGlobals
 blt:X.env.builtins=builtinsNs
 above:X.s₀.heap.objs.size<=X.env.locals
 inj:∀x y c,X.env.cells.lookup x=some c->X.env.cells.lookup y=some c->x=y
 has:∀x,(X.env.kindOf x=some .cell∨X.env.kindOf x=some .free)->∃c,X.env.cells.lookup x=some c
 cab:∀x c,X.fn x=true->X.env.cells.lookup x=some c->X.s₀.heap.objs.size<=c
 hd:X.calm=true->X.A.handled=none
 frames:X.A.frames=some X.stack
 stk:X.stack=X.outer∨(X.stack=X.env::X.outer/\X.env.frame=some X.env.locals)
 exf:∀b∈X.ex,b≠X.env.locals/\∀x c,X.env.cells.lookup x=some c->c≠b
 bs:∀b o,X.base.get? b=some o->X.s₀.heap.get? b=some o/\X.H₀ b=none
 bsz:X.base.objs.size<=X.s₀.heap.objs.size
 noex:∀b o,X.base.get? b=some o->b∉X.ex
 exfs:∀b∈X.ex,b∉X.fs
 funs:X.s₀.heap.FunFrames X.base X.outer
 frf:∀b∈X.fs,X.H₀ b=none
structure Inv (X:Cx)(pins:List (Addr×Obj))(σ:List (Option V))(H:Hp)(s:Shared):Prop where
 ok:X.Ok
 os:s.os=X.s₀.os
 bare:AllBare s.gens
 base:Un X.fs X.ex X.H₀ H X.s₀.heap s.heap
 loc:∃m,s.heap.Ns X.env.locals m/\∀(i:Nat) (x:Str) (v:V),X.N[i]?=some x->σ[i]?=some (some v)->Vis X.env.scope x->∃u,RelV v u/\Look X.env s.heap m x u
 cell:∀x c,X.env.cells.lookup x=some c->∃v,s.heap.IsCell c v
 free:H X.env.locals=none
 freeC:∀x c,X.env.cells.lookup x=some c->H c=none
 pin:∀p∈X.pn++pins,s.heap.get? p.1=some p.2/\H p.1=none/\p.1≠X.env.locals/\p.1∉X.fs/\∀v,p.2.data≠.cell v
 hok:HOk X.prog X.w H s.heap
 len:σ.length=X.N.length
section
variable {X:Cx}{pins:List (Addr×Obj)}{σ:List (Option V)}{H H':Hp}{s:Shared}{h':Heap}
theorem Cx.Ok.nofr (ok:X.Ok){b:Addr}{o:Obj}(e:X.base.get? b=some o):b∉X.fs:=λhb=>by
 have:=(ok.funs.mem hb).1
 rw[e] at this;cases this
theorem Inv.bs (I:Inv X pins σ H s):∀b o,X.base.get? b=some o->s.heap.get? b=some o/\H b=none:=λb o e=>
 ⟨I.base.keep b o (I.ok.bs b o e).1 (I.ok.bs b o e).2 (I.ok.nofr e) (I.ok.noex b o e),I.base.free b o (I.ok.bs b o e).1 (I.ok.bs b o e).2 (I.ok.noex b o e)⟩
theorem Inv.bk (I:Inv X pins σ H s):∀b o,X.base.get? b=some o->s.heap.get? b=some o:=λb o e=>(I.bs b o e).1
theorem Inv.mod (I:Inv X pins σ H s):Mod X.K X.mg X.base:=I.ok.mod
theorem Inv.kIn (I:Inv X pins σ H s):X.K.In s.heap:=I.ok.mod.kin.keeps I.bk
theorem Inv.lt (I:Inv X pins σ H s):X.env.locals < s.heap.objs.size:=let ⟨_,hn,_⟩:=I.loc;hn.lt
theorem Inv.sz (I:Inv X pins σ H s):X.s₀.heap.objs.size<=s.heap.objs.size:=Nat.le_trans I.ok.above (Nat.le_of_lt I.lt)
theorem Inv.nofs (I:Inv X pins σ H s){a:Addr}(h:s.heap.objs.size<=a):a∉X.fs:=λhb=>by
 obtain⟨_,o,ho,_⟩:=I.ok.funs.mem hb
 exact absurd (Nat.lt_of_lt_of_le (Heap.lt_size ho) (Nat.le_trans I.sz h)) (Nat.lt_irrefl _)
theorem Inv.cne (I:Inv X pins σ H s):∀x c,X.env.cells.lookup x=some c->c≠X.env.locals:=λx c e z=>by
 obtain⟨v,o,ho,hd⟩:=I.cell x c e
 obtain⟨m,⟨o',es,ep,ho',hd',_⟩,_⟩:=I.loc
 rw[z,ho'] at ho;cases ho;rw[hd'] at hd;cases hd
theorem Inv.funs (I:Inv X pins σ H s):s.heap.FunFrames X.base X.outer:=by
 have all:∀(l:List Env),(∀b∈frs l,b∈X.fs)->X.s₀.heap.FunFrames X.base l->s.heap.FunFrames X.base l:=by
  intro l
  induction l with
  |nil=>intro _ _;trivial
  |cons env r ih=>
   intro hs hl
   obtain⟨hk,⟨L,o,hf,hn,ho,hd⟩,hr⟩:=hl
   have hL:L∈X.fs:=hs L (by unfold frs;rw[List.filterMap_cons,hf];exact List.mem_cons_self)
   obtain⟨sl,e⟩:=I.base.slot L o ho (I.ok.frf L hL) hL λz=>I.ok.exfs L z hL
   exact⟨hk,⟨L,_,hf,hn,e,hd⟩,ih (λb hb=>hs b (by unfold frs;rw[List.filterMap_cons,hf];exact List.mem_cons_of_mem _ hb)) hr⟩
 exact all X.outer (λ_ hb=>hb) I.ok.funs
theorem Inv.stack (I:Inv X pins σ H s):s.heap.FunFrames X.base X.stack:=by
 rcases I.ok.stk with e | ⟨e,hf⟩
 ·rw[e];exact I.funs
 ·rw[e]
  obtain⟨m,hn,_⟩:=I.loc
  refine .cons (by rw[I.ok.kind];decide) hf hn ?_ I.funs
  exact Heap.get?_none_of_le (Nat.le_trans I.ok.bsz I.ok.above)
theorem Inv.stkSub (I:Inv X pins σ H s):∀b∈frs X.stack,b∈X.env.locals::X.fs:=λb hb=>by
 rcases I.ok.stk with e | ⟨e,hf⟩
 ·rw[e] at hb;exact List.mem_cons_of_mem _ hb
 ·rw[e] at hb
  unfold frs at hb
  rw[List.filterMap_cons,hf] at hb
  exact hb
theorem Inv.stkFree (I:Inv X pins σ H s):∀b∈frs X.stack,H b=none:=λb hb=>by
 rcases List.mem_cons.mp (I.stkSub b hb) with e | hb
 ·rw[e];exact I.free
 ·obtain⟨_,o,ho,_⟩:=I.ok.funs.mem hb
  exact I.base.free b o ho (I.ok.frf b hb) λz=>I.ok.exfs b z hb
theorem Inv.step {g':Array GenState}{t':Nat}{d':Drawn}{ch:List Addr}(I:Inv X pins σ H s)
  (hch:∀b∈ch,(b∈X.ex∨X.s₀.heap.objs.size<=b)/\b≠X.env.locals/\(∀x c,X.env.cells.lookup x=some c->c≠b)/\∀p∈X.pn++pins,p.1≠b)
  (keep:∀b o,b≠X.env.locals->b∉X.fs->b∉ch->s.heap.get? b=some o->H b=none->h'.get? b=some o)
  (slot:∀b o,b≠X.env.locals->b∈X.fs->b∉ch->s.heap.get? b=some o->H b=none->∃sl,h'.get? b=some { o with slots:=sl }) (free:∀b o,b∉ch->s.heap.get? b=some o->H b=none->H' b=none)
  (there:∀b o,b∉ch->s.heap.get? b=some o->∃o',h'.get? b=some o')
  (tups:∀b xs,H b=some (.tup xs)->H' b=some (.tup xs)) (frzs:∀b o u,H b=some (.frz o u)->H' b=some (.frz o u)) (tbls:∀b ps,H b=some (.tbl ps)->∃more,H' b=some (.tbl (ps++more)))
  (ns:∀m,s.heap.Ns X.env.locals m->h'.Ns X.env.locals m) (hok:HOk X.prog X.w H' h') (hg:AllBare g') :
  Inv X pins σ H' { s with heap:=h',gens:=g',drawn:=d',toks:=t' }:=by
 have neL:∀b o,X.s₀.heap.get? b=some o->b≠X.env.locals:=λb o e=>Nat.ne_of_lt (Nat.lt_of_lt_of_le (Heap.lt_size e) I.ok.above)
 have neC:∀b o,X.s₀.heap.get? b=some o->b∉X.ex->b∉ch:=λb o e hx hb=>by
  rcases (hch b hb).1 with z | z
  ·exact hx z
  ·exact absurd (Nat.lt_of_lt_of_le (Heap.lt_size e) z) (Nat.lt_irrefl _)
 have cellK:∀x c,X.env.cells.lookup x=some c->∀v,s.heap.IsCell c v->h'.IsCell c v:=λx c e v ⟨o,ho,hd⟩=>by
  have nch:c∉ch:=λz=>(hch c z).2.2.1 x c e rfl
  by_cases hc:c∈X.fs
  ·obtain⟨sl,q⟩:=slot c o (I.cne x c e) hc nch ho (I.freeC x c e)
   exact⟨_,q,hd⟩
  ·exact⟨o,keep c o (I.cne x c e) hc nch ho (I.freeC x c e),hd⟩
 refine⟨I.ok,I.os,hg,⟨λb o e n hb hx=>?_,λb o e n hb hx=>?_,λb o e n hx=>?_,λb o e hx=>?_,λb xs e=>tups b xs (I.base.tups b xs e),λb o xs e=>frzs b o xs (I.base.frzs b o xs e),λb ps e=>?_⟩,?_,λx c e=>?_,?_,λx c e=>?_,λp hp=>?_,hok,I.len⟩
 ·exact keep b o (neL b o e) hb (neC b o e hx) (I.base.keep b o e n hb hx) (I.base.free b o e n hx)
 ·obtain⟨sl,e1⟩:=I.base.slot b o e n hb hx
  obtain⟨sl',e2⟩:=slot b _ (neL b o e) hb (neC b o e hx) e1 (I.base.free b o e n hx)
  exact⟨sl',e2⟩
 ·obtain⟨o',e1⟩:=I.base.there b o e hx
  exact free b o' (neC b o e hx) e1 (I.base.free b o e n hx)
 ·obtain⟨o',e1⟩:=I.base.there b o e hx
  exact there b o' (neC b o e hx) e1
 ·obtain⟨m1,e1⟩:=I.base.tbls b ps e
  obtain⟨m2,e2⟩:=tbls b _ e1
  exact⟨m1++m2,by rw[e2,Array.append_assoc]⟩
 ·obtain⟨m,hn,hl⟩:=I.loc
  refine⟨m,ns m hn,λi x v e1 e2 e3=>?_⟩
  obtain⟨u,r,l⟩:=hl i x v e1 e2 e3
  refine⟨u,r,?_⟩
  rcases l with l | ⟨k,c,e,z⟩
  ·exact .inl l
  ·exact .inr ⟨k,c,e,cellK x c e _ z⟩
 ·obtain⟨v,z⟩:=I.cell x c e
  exact⟨v,cellK x c e v z⟩
 ·obtain⟨m,⟨o,_,_,ho,_⟩,_⟩:=I.loc
  exact free _ o (λz=>(hch _ z).2.1 rfl) ho I.free
 ·obtain⟨v,o,ho,hd⟩:=I.cell x c e
  exact free c o (λz=>(hch c z).2.2.1 x c e rfl) ho (I.freeC x c e)
 ·obtain⟨e,n,ne,nf,d⟩:=I.pin p hp
  have nch:p.1∉ch:=λz=>(hch p.1 z).2.2.2 p hp rfl
  exact⟨keep p.1 p.2 ne nf nch e n,free p.1 p.2 nch e n,ne,nf,d⟩
theorem Inv.un {t':Nat}(I:Inv X pins σ H s)(u:Un X.fs [] H H' s.heap h')(hok:HOk X.prog X.w H' h'):Inv X pins σ H' { s with heap:=h',toks:=t' }:=by
 obtain⟨m,⟨o,es,ep,ho,r⟩,_⟩:=id I.loc
 obtain⟨sl,hL⟩:=u.any ho I.free (by simp)
 exact I.step (g':=s.gens) (d':=s.drawn) (ch:=[]) (λ_ z=>nomatch z) (λb o _ hb _ e n=>u.keep b o e n hb (by simp)) (λb o _ hb _ e n=>u.slot b o e n hb (by simp)) (λb o _ e n=>u.free b o e n (by simp)) (λb o _ e=>u.there b o e (by simp)) u.tups u.frzs u.tbls (λm' hm=>by
  obtain⟨o',es',ep',ho',r'⟩:=hm
  rw[ho] at ho';cases ho'
  exact⟨_,es',ep',hL,r'⟩) hok I.bare
theorem Inv.call {g':Array GenState}{t':Nat}{d':Drawn}{ch:List Addr}(I:Inv X pins σ H s)(u:Un (frs X.stack) ch H H' s.heap h')(hok:HOk X.prog X.w H' h')(hg:AllBare g')
  (hch:∀b∈ch,(b∈X.ex∨X.s₀.heap.objs.size<=b)/\b≠X.env.locals/\(∀x c,X.env.cells.lookup x=some c->c≠b)/\∀p∈X.pn++pins,p.1≠b) :
  Inv X pins σ H' { s with heap:=h',gens:=g',drawn:=d',toks:=t' }:=by
 obtain⟨m,⟨o,es,ep,ho,r⟩,_⟩:=id I.loc
 obtain⟨sl,hL⟩:=u.any ho I.free λz=>(hch _ z).2.1 rfl
 exact I.step (ch:=ch) hch (λb o hL hb hc e n=>u.keep b o e n (λz=>(List.mem_cons.mp (I.stkSub b z)).elim hL hb) hc) (λb o _ _ hc e n=>u.any e n hc) (λb o hc e n=>u.free b o e n hc) (λb o hc e=>u.there b o e hc) u.tups u.frzs u.tbls (λm' hm=>by
  obtain⟨o',es',ep',ho',r'⟩:=hm
  rw[ho] at ho';cases ho'
  exact⟨_,es',ep',hL,r'⟩) hok hg
theorem Inv.turned {t':Nat}{it:Addr}(I:Inv X pins σ H s)(k:∀b o,b≠it->s.heap.get? b=some o->h'.get? b=some o)(hn:H it=none)(hL:it≠X.env.locals)
  (h1:it∈X.ex∨X.s₀.heap.objs.size<=it) (h2:∀x c,X.env.cells.lookup x=some c->c≠it) (h3:∀p∈X.pn++pins,p.1≠it):Inv X pins σ H { s with heap:=h',toks:=t' }:=by
 have nit:∀b u,H b=some u->b≠it:=λb u e z=>by rw[z,hn] at e;cases e
 refine I.step (g':=s.gens) (d':=s.drawn) (ch:=[it]) (λb hb=>?_) (λb o _ _ hc e _=>k b o (λz=>hc (by simp[z])) e) (λb o _ _ hc e _=>⟨o.slots,k b o (λz=>hc (by simp[z])) e⟩) (λ_ _ _ _ n=>n)
  (λb o hc e=>⟨o,k b o (λz=>hc (by simp[z])) e⟩) (λ_ _ e=>e) (λ_ _ _ e=>e) (λb ps e=>⟨#[],by rw[e];simp⟩) (λm hm=>?_) (λb u e=>?_) I.bare
 ·have e:b=it:=by simpa using hb
  subst e
  exact⟨h1,hL,h2,h3⟩
 ·obtain⟨o,es,ep,ho,r⟩:=hm
  exact⟨o,es,ep,k _ o (Ne.symm hL) ho,r⟩
 ·refine (I.hok b u e).stay (λc v hc q=>k c v ?_ q) (λ_ q=>q) λ_ _ q=>q
  rcases hc with z | z
  ·rw[z];exact nit b u e
  ·exact nit c _ z
theorem Inv.tok (I:Inv X pins σ H s)(t:Nat):Inv X pins σ H { s with toks:=t }:=I.un (h':=s.heap) (t':=t) Un.refl I.hok
theorem Inv.kept {t':Nat}(I:Inv X pins σ H s)(k:∀b u,s.heap.get? b=some u->h'.get? b=some u):Inv X pins σ H { s with heap:=h',toks:=t' }:=I.un (Un.kept k) (I.hok.kept k)
theorem Inv.laid {a:Addr}{o:HO}{t':Nat}(I:Inv X pins σ H s)(k:∀b u,s.heap.get? b=some u->h'.get? b=some u)(hp:s.heap.objs.size<=a)(new:ObjOk X.prog X.w (upd H a o) h' a o) :
  Inv X pins σ (upd H a o) { s with heap:=h',toks:=t' }:=I.un (Un.laid k hp (I.hok.fresh hp)) (I.hok.laid k hp new)
theorem Inv.write {x e:Addr}{o:HO}{t':Nat}(I:Inv X pins σ H s)(mu:Mut (H x))(he:e=x∨H e=some (.own x))(k:∀b u,b≠e->s.heap.get? b=some u->h'.get? b=some u)(heo:∃u,h'.get? e=some u)
  (new:ObjOk X.prog X.w (upd H x o) h' x o):Inv X pins σ (upd H x o) { s with heap:=h',toks:=t' }:=I.un (Un.write mu he k heo) (I.hok.write mu he k heo new)
theorem Inv.pins_of {pins':List (Addr×Obj)}(I:Inv X pins σ H s)(h:∀p∈pins',s.heap.get? p.1=some p.2/\H p.1=none/\p.1≠X.env.locals/\p.1∉X.fs/\∀v,p.2.data≠.cell v):Inv X pins' σ H s :=
 ⟨I.ok,I.os,I.bare,I.base,I.loc,I.cell,I.free,I.freeC,λp hp=>(List.mem_append.mp hp).elim (λz=>I.pin p (List.mem_append_left _ z)) (h p),I.hok,I.len⟩
theorem uW {N:List Str}(hN:N.Nodup){i j:Nat}{x:Str}(a:N[i]?=some x)(b:N[j]?=some x):i=j:=by
 obtain⟨h1,e1⟩:=List.getElem?_eq_some_iff.mp a
 obtain⟨h2,e2⟩:=List.getElem?_eq_some_iff.mp b
 exact (List.getElem_inj hN).mp (e1.trans e2.symm)
theorem uO {M:Model}{A:Around}{E:Value->Shared->Prop}{i:Nat}{x:Str}{v:V}{u:Value}{Q:Unit->Shared->Prop}(I:Inv X pins σ H s)(hN:X.N.Nodup)(hi:X.N[i]?=some x)(hx:Loc X.env.scope x)(r:RelV v u)
  (h:∀s',Inv X pins (σ.set i (some v)) H s'->(∃a,Heap.SameBut a s.heap s'.heap/\(a=X.env.locals∨X.env.cells.lookup x=some a))->Q () s') (hf:X.fn x=true∨X.env.scope.names.lookup x=some .local:=by first | exact .inl rfl | exact .inr rfl | assumption):wpAny M A (storeName X.env x u) Q E s:=by
 obtain⟨m,hn,hl⟩:=id I.loc
 have hcls:(X.env.scope.kind==.class||(X.env.scope.kind==.module&&X.env.locals != X.env.globals))=false:=by rw[I.ok.kind];rfl
 have hiσ:i < σ.length:=by rw[I.len];exact (List.getElem?_eq_some_iff.mp hi).1
 have cne:=I.cne
 have tracked:∀ {a:Addr} {h':Heap},(∃o,s.heap.get? a=some o/\H a=none)->Heap.SameBut a s.heap h'->HOk X.prog X.w H h':=fun {a h'} ha hs b ob e=>by
  obtain⟨_,_,hfree⟩:=ha
  refine (I.hok b ob e).stay (λc w' hc q=>(hs.2 c ?_).trans q) (λ_ q=>q) λ_ _ q=>q
  rintro rfl
  rcases hc with rfl | hc
  ·rw[hfree] at e;cases e
  ·rw[hfree] at hc;cases hc
 rcases hx with hk | hk
 ·refine wpAny_storeName_local hk hn (λh' hn' hs=>?_) hcls
  obtain⟨oL,_,_,hoL,_⟩:=id hn
  refine h _ ⟨I.ok,I.os,I.bare,⟨λb o e n hb hx=>?_,λb o e n hb hx=>?_,I.base.free,λb o e hx=>?_,I.base.tups,I.base.frzs,I.base.tbls⟩,⟨_,hn',λj y v' e1 e2 e3=>?_⟩,λy c e=>?_,I.free,I.freeC,λp hp=>?_,tracked ⟨oL,hoL,I.free⟩ hs,by simpa using I.len⟩ ⟨_,hs,.inl rfl⟩
  ·exact (hs.2 b (Nat.ne_of_lt (Nat.lt_of_lt_of_le (Heap.lt_size e) I.ok.above))).trans (I.base.keep b o e n hb hx)
  ·obtain⟨sl,e1⟩:=I.base.slot b o e n hb hx
   exact⟨sl,(hs.2 b (Nat.ne_of_lt (Nat.lt_of_lt_of_le (Heap.lt_size e) I.ok.above))).trans e1⟩
  ·obtain⟨o',e1⟩:=I.base.there b o e hx
   exact⟨o',(hs.2 b (Nat.ne_of_lt (Nat.lt_of_lt_of_le (Heap.lt_size e) I.ok.above))).trans e1⟩
  ·by_cases hj:j=i
   ·subst hj
    rw[hi] at e1;cases e1
    rw[List.getElem?_set_self hiσ] at e2
    cases e2
    exact⟨u,r,.inl ⟨hk,by simp⟩⟩
   ·rw[List.getElem?_set_ne (Ne.symm hj)] at e2
    obtain⟨u',r',q⟩:=hl j y v' e1 e2 e3
    refine⟨u',r',?_⟩
    rcases q with⟨k,e⟩ | ⟨k,c,e,z⟩
    ·refine .inl ⟨k,?_⟩
     have:y≠x:=λe=>hj (uW hN e1 (e ▸ hi))
     simp[this,e]
    ·exact .inr ⟨k,c,e,z.sameBut hs (cne y c e)⟩
  ·obtain⟨w',z⟩:=I.cell y c e
   exact⟨w',z.sameBut hs (cne y c e)⟩
  ·obtain⟨e,n,ne,nf,d⟩:=I.pin p hp
   exact⟨(hs.2 p.1 ne).trans e,n,ne,nf,d⟩
 ·have hfn:X.fn x=true:=by
   rcases hf with z | z
   ·exact z
   ·rw[z] at hk;cases hk
  obtain⟨c,hc⟩:=I.ok.has x (.inl hk)
  obtain⟨w',z⟩:=I.cell x c hc
  refine wpAny_storeName_cell I.ok.kind hk hc z (λh' hc' hs=>?_)
  obtain⟨oc,hoc,hocd⟩:=id z
  refine h { s with heap:=h' } ⟨I.ok,I.os,I.bare,⟨λb o e n hb hx=>?_,λb o e n hb hx=>?_,I.base.free,λb o e hx=>?_,I.base.tups,I.base.frzs,I.base.tbls⟩,⟨m,hn.sameBut hs (Ne.symm (cne x c hc)),λj y v' e1 e2 e3=>?_⟩,λy c' e=>?_,I.free,I.freeC,λp hp=>?_,tracked ⟨oc,hoc,I.freeC x c hc⟩ hs,by simpa using I.len⟩ ⟨c,hs,.inr hc⟩
  ·exact (hs.2 b (Nat.ne_of_lt (Nat.lt_of_lt_of_le (Heap.lt_size e) (I.ok.cab x c hfn hc)))).trans (I.base.keep b o e n hb hx)
  ·obtain⟨sl,e1⟩:=I.base.slot b o e n hb hx
   exact⟨sl,(hs.2 b (Nat.ne_of_lt (Nat.lt_of_lt_of_le (Heap.lt_size e) (I.ok.cab x c hfn hc)))).trans e1⟩
  ·obtain⟨o',e1⟩:=I.base.there b o e hx
   exact⟨o',(hs.2 b (Nat.ne_of_lt (Nat.lt_of_lt_of_le (Heap.lt_size e) (I.ok.cab x c hfn hc)))).trans e1⟩
  ·by_cases hj:j=i
   ·subst hj
    rw[hi] at e1;cases e1
    rw[List.getElem?_set_self hiσ] at e2
    cases e2
    exact⟨u,r,.inr ⟨.inl hk,c,hc,hc'⟩⟩
   ·rw[List.getElem?_set_ne (Ne.symm hj)] at e2
    obtain⟨u',r',q⟩:=hl j y v' e1 e2 e3
    refine⟨u',r',?_⟩
    rcases q with q | ⟨k,c',e,z'⟩
    ·exact .inl q
    ·refine .inr ⟨k,c',e,z'.sameBut hs ?_⟩
     rintro rfl
     exact hj (uW hN e1 (I.ok.inj _ _ _ e hc ▸ hi))
  ·by_cases hcc:c'=c
   ·subst hcc;exact⟨_,hc'⟩
   ·obtain⟨w2,z2⟩:=I.cell y c' e
    exact⟨w2,z2.sameBut hs hcc⟩
  ·obtain⟨e,n,ne,nf,d⟩:=I.pin p hp
   refine⟨(hs.2 p.1 ?_).trans e,n,ne,nf,d⟩
   intro q
   rw[q,hoc] at e
   have q':oc=p.2:=Option.some.inj e
   exact d w' (by rw[<-q'];exact hocd)
theorem uF {M:Model}{A:Around}{E:Value->Shared->Prop}{i:Nat}{x:Str}{v:V}{u:Value}{Q:Unit->Shared->Prop}(I:Inv X pins σ H s)(hN:X.N.Nodup)(hi:X.N[i]?=some x)(hx:Loc X.env.scope x)(r:RelV v u)
  (h:∀s',Inv X pins (σ.set i (some v)) H s'->Q () s') (hf:X.fn x=true∨X.env.scope.names.lookup x=some .local:=by first | exact .inl rfl | exact .inr rfl | assumption):wpAny M A (storeName X.env x u) Q E s :=
 uO I hN hi hx r (λs' I' _=>h s' I') hf
theorem Inv.call' {s':Shared}{ch:List Addr}(I:Inv X pins σ H s)(ho:s'.os=s.os)(u:Un (frs X.stack) ch H H' s.heap s'.heap)(hok:HOk X.prog X.w H' s'.heap)(hg:AllBare s'.gens)
  (hch:∀b∈ch,(b∈X.ex∨X.s₀.heap.objs.size<=b)/\b≠X.env.locals/\(∀x c,X.env.cells.lookup x=some c->c≠b)/\∀p∈X.pn++pins,p.1≠b):Inv X pins σ H' s':=by
 obtain⟨h',g',d',t',o'⟩:=s'
 have e:o'=s.os:=ho
 subst e
 exact I.call (g':=g') (t':=t') (d':=d') u hok hg hch
end
abbrev XK:=Value->Option Addr->Hp->Prop
abbrev St:=List (Option V)
abbrev VK:=V->Hp->Prop
abbrev TE:=St->Hp->VK->Prop
abbrev TT:=St->Hp->(Bool->Hp->Prop)->Prop
abbrev TA:=St->Hp->(List V->Hp->Prop)->Prop
structure Ends where
 nx:St->Hp->Prop
 rt:VK
 bk:St->Hp->Prop:=λ_ _=>False
 ct:St->Hp->Prop:=λ_ _=>False
abbrev TS:=Ends->St->Hp->Prop
def EP (X:Cx)(pins:List (Addr×Obj))(σ:St)(Q:VK)(u:Value)(s':Shared):Prop:=∃v H',Inv X pins σ H' s'/\RelV v u/\Q v H'
def TP (X:Cx)(pins:List (Addr×Obj))(σ:St)(Q:Bool->Hp->Prop)(b:Bool)(s':Shared):Prop:=∃H',Inv X pins σ H' s'/\Q b H'
def AP (X:Cx)(pins:List (Addr×Obj))(σ:St)(Q:List V->Hp->Prop)(us:List Value)(s':Shared):Prop:=∃vs H',Inv X pins σ H' s'/\Vals vs us/\Q vs H'
def SP (X:Cx)(pins:List (Addr×Obj))(D:Ends)(f:Flow)(s':Shared):Prop :=
 match f with
 |.next=>∃σ' H',Inv X pins σ' H' s'/\D.nx σ' H'
 |.brk=>∃σ' H',Inv X pins σ' H' s'/\D.bk σ' H'
 |.cont=>∃σ' H',Inv X pins σ' H' s'/\D.ct σ' H'
 |.ret u=>∃v σ' H',Inv X pins σ' H' s'/\RelV v u/\D.rt v H'
def PE (X:Cx)(e:Expr)(t:TE):Prop :=
 ∀(pins:List (Addr×Obj)) (s:Shared) (σ:St) (H:Hp) (Q:VK),Inv X pins σ H s->t σ H Q->wpAny (model X.prog X.w) X.A (eval e X.env) (EP X pins σ Q) X.xe s
def PT (X:Cx)(e:Expr)(t:TT):Prop :=
 ∀(pins:List (Addr×Obj)) (s:Shared) (σ:St) (H:Hp) (Q:Bool->Hp->Prop),Inv X pins σ H s->t σ H Q->wpAny (model X.prog X.w) X.A (isTrue e X.env (eval e X.env)) (TP X pins σ Q) X.xe s
def PW (X:Cx)(e:Expr)(t:TT):Prop :=
 ∀(whole:Sem Value) (pins:List (Addr×Obj)) (s:Shared) (σ:St) (H:Hp) (Q:Bool->Hp->Prop),Inv X pins σ H s->t σ H Q->wpAny (model X.prog X.w) X.A (isTrue e X.env whole) (TP X pins σ Q) X.xe s
theorem PW.pt {X:Cx}{e:Expr}{t:TT}(h:PW X e t):PT X e t:=h _
def PA (X:Cx)(es:List Expr)(t:TA):Prop :=
 ∀(pos:Pos) (pins:List (Addr×Obj)) (s:Shared) (σ:St) (H:Hp) (Q:List V->Hp->Prop),Inv X pins σ H s->t σ H Q->wpAny (model X.prog X.w) X.A (spliced (backTo pos (starEach es X.env))) (AP X pins σ Q) X.xe s
def PS (X:Cx)(st:Stmt)(t:TS):Prop :=
 ∀(pins:List (Addr×Obj)) (s:Shared) (σ:St) (H:Hp) (D:Ends),Inv X pins σ H s->t D σ H->wpAny (model X.prog X.w) X.A (exec st X.env) (SP X pins D) X.xe s
def PSs (X:Cx)(st:List Stmt)(t:TS):Prop :=
 ∀(pins:List (Addr×Obj)) (s:Shared) (σ:St) (H:Hp) (D:Ends),Inv X pins σ H s->t D σ H->wpAny (model X.prog X.w) X.A (execs st X.env) (SP X pins D) X.xe s
theorem thn {α:Type}{t:Sem α}{Q Q':α->Shared->Prop}{M:Model}{A:Around}{E:Value->Shared->Prop}{s:Shared}(h:wpAny M A t Q E s)(hQ:∀a s,Q a s->Q' a s):wpAny M A t Q' E s:=wpAny_mono h hQ λ_ _ x=>x
section
variable {X:Cx}
def tVar (i:Nat):TE:=λσ H Q=>∃v,σ[i]?=some (some v)/\Q v H
def tC (v:V):TE:=λ_ H Q=>Q v H
theorem kl {i:Nat}{x:Str}{pos:Pos}(hN:X.N[i]?=some x)(hv:Vis X.env.scope x)(hd:(x==("__debug__" : Str))=false:=by decide) (hcd:(x==("__classdict__" : Str))=false:=by decide):PE X (.Name x pos) (tVar i):=by
 intro pins s σ H Q I h
 obtain⟨v,e,h⟩:=h
 obtain⟨m,hn,hl⟩:=I.loc
 obtain⟨u,r,l⟩:=hl i x v hN e hv
 have fin:EP X pins σ Q u s:=⟨v,H,I,r,h⟩
 rcases l with⟨hk,hm⟩ | ⟨hk,c,hc,hcell⟩
 ·exact wpAny_Name (wpAny_loadName_local I.ok.kind hk hn hm fin) hd
 ·rcases hk with hk | hk
  ·exact wpAny_Name (wpAny_loadName_cell I.ok.kind hk hc hcell fin) hd
  ·exact wpAny_Name (wpAny_loadName_free I.ok.kind hk hc hcell fin hcd) hd
theorem jw {i j pos}:PE X (.Constant (.int i) j pos) (tC (.int i)):=λ_ _ _ H _ I h=>wpAny_Constant_int ⟨.int i,H,I.tok _,⟨_,rfl⟩,h⟩
theorem RK {b j pos}:PE X (.Constant (.bool b) j pos) (tC (.bl b)):=λ_ _ _ H _ I h=>Constant_bool ⟨.bl b,H,I,rfl,h⟩
theorem GX {j pos}:PE X (.Constant .none j pos) (tC .non):=λ_ _ _ H _ I h=>Constant_none ⟨.non,H,I,rfl,h⟩
theorem K8 {x j pos}:PE X (.Constant (.str x) j pos) (tC (.str x)):=λ_ _ _ H _ I h=>Calls.Constant_str ⟨.str x,H,I.tok _,⟨_,rfl⟩,h⟩
def Gl (X:Cx)(x:Str):Prop:=X.env.kindOf x=some .globalImplicit
theorem xj {E:Value->Shared->Prop}{pins:List (Addr×Obj)}{s:Shared}{σ:St}{H:Hp}{x:Str}{u:Value}{pos:Pos}{Q:Value->Shared->Prop}(I:Inv X pins σ H s)(hg:Gl X x)(hm:X.mg x=some u)(h:Q u s)
  (hd:(x==("__debug__" : Str))=false:=by decide):wpAny (model X.prog X.w) X.A (eval (.Name x pos) X.env) Q E s :=
 Calls.Name_function_global I.ok.kind hg (Calls.loadGlobal_global (by rw[I.ok.glob];exact I.mod.glob.keeps I.bk) hm h) hd
theorem wM {E:Value->Shared->Prop}{pins:List (Addr×Obj)}{s:Shared}{σ:St}{H:Hp}{x:Str}{u:Value}{pos:Pos}{Q:Value->Shared->Prop}(I:Inv X pins σ H s)(hg:Gl X x)(hm:X.mg x=none)(hv:bootBuiltins x=some u)(h:Q u s)
  (hn:x ≠ "__name__" := by decide) (hd:(x==("__debug__" : Str))=false:=by decide):wpAny (model X.prog X.w) X.A (eval (.Name x pos) X.env) Q E s:=by
 obtain⟨mb,h1,h2⟩:=I.mod.blt
 exact Calls.Name_function_global I.ok.kind hg (Calls.loadGlobal_builtin (by rw[I.ok.glob];exact I.mod.glob.keeps I.bk) hm (by rw[I.ok.blt];exact h1.keeps I.bk) ((h2 x hn).trans hv) h) hd
theorem Yw {x:Str}{v:V}{u:Value}{pos:Pos}(hg:Gl X x)(hm:X.mg x=some u)(r:RelV v u)(hd:(x==("__debug__" : Str))=false:=by decide):PE X (.Name x pos) (tC v) :=
 λ_ _ _ H _ I h=>xj I hg hm ⟨v,H,I,r,h⟩ hd
theorem RW {x:Str}{v:V}{u:Value}{pos:Pos}(hg:Gl X x)(hm:X.mg x=none)(hv:bootBuiltins x=some u)(r:RelV v u)(hn:x ≠ "__name__" := by decide) (hd:(x==("__debug__" : Str))=false:=by decide):PE X (.Name x pos) (tC v) :=
 λ_ _ _ H _ I h=>wM I hg hm hv ⟨v,H,I,r,h⟩ hn hd
variable {a b:Expr}{ta tb:TE}{pos:Pos}
def PC (X:Cx)(op:CmpOp)(a b:Expr)(t:TE):Prop :=
 ∀(pins:List (Addr×Obj)) (s:Shared) (σ:St) (H:Hp) (Q:VK),Inv X pins σ H s->t σ H Q ->
  wpAny (model X.prog X.w) X.A (eval a X.env) (λv s₁=>wpAny (model X.prog X.w) X.A (eval b X.env) (λu s₂=>wpAny (model X.prog X.w) X.A (compareOp op v u) (EP X pins σ Q) X.xe s₂) X.xe s₁) X.xe s
theorem V3 (b:Expr){op:CmpOp}(h:op≠.In)(h2:op≠.NotIn):behindInMarks op b=false:=by
 have e1:(op==CmpOp.In)=false:=by cases op<;>first | rfl | exact absurd rfl h
 have e2:(op==CmpOp.NotIn)=false:=by cases op<;>first | rfl | exact absurd rfl h2
 cases b<;>simp[behindInMarks,e1,e2]
def tB (t:TE):TT:=λσ H Q=>t σ H λx H1=>∃c,x=.bl c/\Q c H1
theorem zb5 {op:CmpOp}{t:TE}(h:PC X op a b t)(h1:behindInMarks op b=false:=by first | exact V3 _ (by decide) (by decide) | rfl):PT X (.Compare a [op] [b] pos) (tB t):=by
 intro pins s σ H Q I hw
 refine wpAny_isTrue_Compare1 (thn (h pins s σ H _ I hw) λv s1 h1=>thn h1 λu s2 h2=>thn h2 λc s3 ⟨x,H1,I1,r1,q1⟩=>?_) h1
 obtain⟨d,rfl,q⟩:=q1
 cases r1
 exact wpAny_truthy_bool ⟨H1,I1,q⟩
variable {tA tB':TT}{rest:List Expr}
def tAnd (t u:TT):TT:=λσ H Q=>t σ H λc H1=>if c=true then u σ H1 Q else Q false H1
def tOr (t u:TT):TT:=λσ H Q=>t σ H λc H1=>if c=true then Q true H1 else u σ H1 Q
def tNot (t:TT):TT:=λσ H Q=>t σ H λc H1=>Q (!c) H1
theorem GI (ha:PT X a tA):PW X (.BoolOp .And [a] pos) tA:=by
 intro wh pins s σ H Q I h
 refine isTrue_and (thn (ha pins s σ H Q I h) λc s1 e=>?_)
 cases c with
 |true=>exact isTrue_and_nil e
 |false=>exact e
theorem GC (ha:PT X a tA):PW X (.BoolOp .Or [a] pos) tA:=by
 intro wh pins s σ H Q I h
 refine isTrue_or (thn (ha pins s σ H Q I h) λc s1 e=>?_)
 cases c with
 |false=>exact isTrue_or_nil e
 |true=>exact e
theorem zct (ha:PT X a tA)(hb:PW X (.BoolOp .And (b::rest) pos) tB'):PW X (.BoolOp .And (a::b::rest) pos) (tAnd tA tB'):=by
 intro wh pins s σ H Q I h
 refine isTrue_and (thn (ha pins s σ H _ I h) λc s1 ⟨H1,I1,q1⟩=>?_)
 cases c with
 |true=>exact hb wh pins s1 σ H1 Q I1 q1
 |false=>exact⟨H1,I1,q1⟩
theorem Um (ha:PT X a tA)(hb:PW X (.BoolOp .Or (b::rest) pos) tB'):PW X (.BoolOp .Or (a::b::rest) pos) (tOr tA tB'):=by
 intro wh pins s σ H Q I h
 refine isTrue_or (thn (ha pins s σ H _ I h) λc s1 ⟨H1,I1,q1⟩=>?_)
 cases c with
 |true=>exact⟨H1,I1,q1⟩
 |false=>exact hb wh pins s1 σ H1 Q I1 q1
theorem Gh (ha:PT X a tA):PT X (.UnaryOp .Not a pos) (tNot tA):=by
 intro pins s σ H Q I h
 exact isTrue_not (ha pins s σ H (λc H1=>Q (!c) H1) I h)
def tAndV (ta tb:TE):TE:=λσ H Q=>ta σ H λx H1=>∃c,x=.bl c/\if c=true then tb σ H1 Q else Q (.bl false) H1
def tNotV (ta:TE):TE:=λσ H Q=>ta σ H λx H1=>∃c,x=.bl c/\Q (.bl (!c)) H1
theorem Va {op}{t:TE}(h:PE X a t):PE X (.BoolOp op [a] pos) t:=λpins s σ H Q I hw=>BoolOp_one (h pins s σ H Q I hw)
theorem Jz (ha:PE X a ta)(hb:PE X (.BoolOp .And (b::rest) pos) tb):PE X (.BoolOp .And (a::b::rest) pos) (tAndV ta tb):=by
 intro pins s σ H Q I h
 refine BoolOp_and (thn (ha pins s σ H _ I h) λv s1 ⟨x,H1,I1,r1,q1⟩=>?_)
 obtain⟨c,rfl,q1⟩:=q1
 cases r1
 refine wpAny_truthy_bool ?_
 cases c with
 |true=>exact hb pins s1 σ H1 Q I1 q1
 |false=>exact⟨.bl false,H1,I1,rfl,q1⟩
theorem Rt (ha:PE X a ta):PE X (.UnaryOp .Not a pos) (tNotV ta):=by
 intro pins s σ H Q I h
 refine UnaryOp_ (thn (ha pins s σ H _ I h) λv s1 ⟨x,H1,I1,r1,q1⟩=>?_)
 obtain⟨c,rfl,q1⟩:=q1
 cases r1
 exact not_of (wpAny_truthy_bool ⟨.bl (!c),H1,I1,rfl,q1⟩)
def tIf (t:TT)(ta tb:TE):TE:=λσ H Q=>t σ H λc H1=>if c=true then ta σ H1 Q else tb σ H1 Q
theorem ze6 {c:Expr}(hc:PT X c tA)(ha:PE X a ta)(hb:PE X b tb):PE X (.IfExp c a b pos) (tIf tA ta tb):=by
 intro pins s σ H Q I h
 refine wpAny_IfExp (thn (hc pins s σ H _ I h) λd s1 ⟨H1,I1,q1⟩=>?_)
 cases d with
 |true=>exact ha pins s1 σ H1 Q I1 q1
 |false=>exact hb pins s1 σ H1 Q I1 q1
end
def SqL (K:PySem.W.Frag)(H:Hp)(a:Addr)(xs:List V):Prop :=
 Rd H a (.lst xs) ∨
  ∃(o:Obj) (its:Array Value) (n:Nat),K.lookup a=some o/\o.cls=.type "list" /\ o.dict=none/\o.data=.seq its n/\its.size<=sizeLine/\Vals xs its.toList
def SqT (K:PySem.W.Frag)(H:Hp)(a:Addr)(xs:List V):Prop :=
 Rd H a (.tup xs) ∨
  ∃(o:Obj) (its:Array Value) (n:Nat),K.lookup a=some o/\o.cls=.type "tuple" /\ o.data=.seq its n/\its.size<=sizeLine/\Vals xs its.toList
def absV:Value->Option V
 |.none=>some .non
 |.bool b=>some (.bl b)
 |.int i _=>some (.int i)
 |.str x _=>some (.str x)
 |.bytes b _=>some (.byt b)
 |.float b _=>some (.flt b)
 |.ref a=>some (.ref a)
 |.type n=>some (.ty n)
 |_=>none
theorem RelV.abs {x:V}{u:Value}(r:RelV x u):absV u=some x:=by
 cases x with
 |non=>cases r;rfl
 |bl _=>cases r;rfl
 |int _=>obtain⟨t,rfl⟩:=r;rfl
 |str _=>obtain⟨t,rfl⟩:=r;rfl
 |byt _=>obtain⟨t,rfl⟩:=r;rfl
 |flt _=>obtain⟨t,rfl⟩:=r;rfl
 |ref _=>cases r;rfl
 |ty _=>cases r;rfl
theorem RelV.inj {x y:V}{u:Value}(r:RelV x u)(q:RelV y u):x=y:=Option.some.inj (r.abs.symm.trans q.abs)
theorem Vals.inj:∀ {xs ys:List V} {us:List Value},Vals xs us->Vals ys us->xs=ys
 |_,_,_,.nil,.nil=>rfl
 |_,_,_,.cons r t,.cons r' t'=>by rw[r.inj r',Vals.inj t t']
section
variable {X:Cx}{pins:List (Addr×Obj)}{σ:St}{H:Hp}{s:Shared}{a:Addr}{xs ys:List V}
theorem SqL.of {K:PySem.W.Frag}(h:H a=some (.lst xs)):SqL K H a xs:=.inl (.inl h)
theorem SqT.of {K:PySem.W.Frag}(h:H a=some (.tup xs)):SqT K H a xs:=.inl (.inl h)
theorem Inv.list (I:Inv X pins σ H s)(h:SqL X.K H a xs):∃its:List Value,Vals xs its/\PlainL s.heap a its.toArray/\xs.length<=sizeLine:=by
 rcases h with h | ⟨o,its,n,hk,hc,hd,hs,hz,r⟩
 ·obtain⟨z,its,n,r,e⟩:=h.ok I.hok
  exact⟨its,r,⟨_,n,e,rfl,rfl,rfl⟩,z⟩
 ·refine⟨its.toList,r,⟨o,n,I.kIn a o hk,hc,hd,by simpa using hs⟩,?_⟩
  have e:=r.length
  simp only[Array.length_toList] at e
  omega
theorem Inv.tuple (I:Inv X pins σ H s)(h:SqT X.K H a xs):∃its:List Value,Vals xs its/\IsTup s.heap a its.toArray/\xs.length<=sizeLine:=by
 rcases h with h | ⟨o,its,n,hk,hc,hs,hz,r⟩
 ·obtain⟨z,its,r,p⟩:=h.ok I.hok
  exact⟨its,r,p,z⟩
 ·refine⟨its.toList,r,⟨o,I.kIn a o hk,hc,n,by simpa using hs⟩,?_⟩
  have e:=r.length
  simp only[Array.length_toList] at e
  omega
theorem Inv.list_inj (I:Inv X pins σ H s)(h:SqL X.K H a xs)(h':SqL X.K H a ys):xs=ys:=by
 obtain⟨its,r,⟨o,n,e,_,_,d⟩,_⟩:=I.list h
 obtain⟨its',r',⟨o',n',e',_,_,d'⟩,_⟩:=I.list h'
 rw[e] at e';cases e'
 rw[d] at d'
 injection d' with d1 _
 have:its=its':=by simpa using congrArg Array.toList d1
 subst this
 exact r.inj r'
end
abbrev Cx.wish (X:Cx)(E:Value->Shared->Prop):Cx:={ X with xe:=E }
abbrev Cx.nox (X:Cx):Cx:=X.wish λ_ _=>False
theorem Cx.Ok.wish {X:Cx}(ok:X.Ok)(E:Value->Shared->Prop):(X.wish E).Ok :=
 ⟨ok.mod,ok.kind,ok.glob,ok.blt,ok.above,ok.inj,ok.has,ok.cab,ok.hd,ok.frames,ok.stk,ok.exf,ok.bs,ok.bsz,ok.noex,ok.exfs,ok.funs,ok.frf⟩
theorem Cx.Ok.unwish {X:Cx}{E:Value->Shared->Prop}(ok:(X.wish E).Ok):X.Ok :=
 ⟨ok.mod,ok.kind,ok.glob,ok.blt,ok.above,ok.inj,ok.has,ok.cab,ok.hd,ok.frames,ok.stk,ok.exf,ok.bs,ok.bsz,ok.noex,ok.exfs,ok.funs,ok.frf⟩
section
variable {X:Cx}{pins:List (Addr×Obj)}{σ:St}{H:Hp}{s:Shared}{E:Value->Shared->Prop}
theorem Inv.wish (I:Inv X pins σ H s)(E:Value->Shared->Prop):Inv (X.wish E) pins σ H s:=⟨I.ok.wish E,I.os,I.bare,I.base,I.loc,I.cell,I.free,I.freeC,I.pin,I.hok,I.len⟩
theorem Inv.unwish (I:Inv (X.wish E) pins σ H s):Inv X pins σ H s:=⟨I.ok.unwish,I.os,I.bare,I.base,I.loc,I.cell,I.free,I.freeC,I.pin,I.hok,I.len⟩
theorem SP.unwish {D:Ends}{f:Flow}{s':Shared}(h:SP (X.wish E) pins D f s'):SP X pins D f s':=by
 cases f with
 |next=>obtain⟨σ',H',I,q⟩:=h;exact⟨σ',H',I.unwish,q⟩
 |brk=>obtain⟨σ',H',I,q⟩:=h;exact⟨σ',H',I.unwish,q⟩
 |cont=>obtain⟨σ',H',I,q⟩:=h;exact⟨σ',H',I.unwish,q⟩
 |ret u=>obtain⟨v,σ',H',I,r,q⟩:=h;exact⟨v,σ',H',I.unwish,r,q⟩
theorem PSs.nox {st:List Stmt}{t:TS}(h:PSs X.nox st t):PSs X st t:=λpins s σ H D I hw=>
 wpAny_mono (h pins s σ H D (I.wish _) hw) (λ_ _ q=>q.unwish) λ_ _ z=>False.elim z
end
section
variable {X:Cx}{st:Stmt}{rest:List Stmt}{t u:TS}{e:Expr}{te:TE}{pos:Pos}
def tNext:TS:=λD σ H=>D.nx σ H
def tSeq (t u:TS):TS:=λD σ H=>t { D with nx:=u D } σ H
theorem R0:PSs X [] tNext:=λ_ _ σ H _ I h=>wpAny_execs_nil ⟨σ,H,I,h⟩
theorem yM (h1:PS X st t)(h2:PSs X rest u):PSs X (st::rest) (tSeq t u):=by
 intro pins s σ H D I h
 refine wpAny_execs_cons (thn (h1 pins s σ H { D with nx:=u D } I h) λf s1 q=>?_)
 cases f with
 |next=>
  obtain⟨σ',H',I',q⟩:=q
  exact h2 pins s1 σ' H' D I' q
 |ret v=>exact q
 |brk=>exact q
 |cont=>exact q
theorem vx (h1:PS X st t):PSs X [st] t:=by
 intro pins s σ H D I h
 refine wpAny_execs_cons (thn (h1 pins s σ H D I h) λf s1 q=>?_)
 cases f with
 |next=>exact wpAny_execs_nil q
 |ret v=>exact q
 |brk=>exact q
 |cont=>exact q
theorem Inv.quiet {pins:List (Addr×Obj)}{σ:St}{H:Hp}{s:Shared}(I:Inv X pins σ H s):interactive X.env=false:=by simp[interactive,I.ok.kind]
def tDrop (te:TE):TS:=λD σ H=>te σ H λ_ H1=>D.nx σ H1
theorem yR (he:PE X e te)(hs:swapsWith e none pos.line X.env=pure false:=by rfl):PS X (.Expr e pos) (tDrop te):=by
 intro pins s σ H D I h
 exact wpAny_Expr_any (thn (he pins s σ H _ I h) λv s1 ⟨x,H1,I1,r1,q1⟩=>⟨σ,H1,I1,q1⟩) I.quiet hs
def tRet (te:TE):TS:=λD σ H=>te σ H D.rt
theorem yH (he:PE X e te):PS X (.Return (some e) pos) (tRet te):=by
 intro pins s σ H D I h
 exact wpAny_Return_some (thn (he pins s σ H _ I h) λv s1 ⟨x,H1,I1,r1,q1⟩=>⟨x,σ,H1,I1,r1,q1⟩)
def tIfS (c:TT)(t u:TS):TS:=λD σ H=>c σ H λb H1=>if b=true then t D σ H1 else u D σ H1
theorem Uo {c:Expr}{a b:List Stmt}{tc:TT}(hc:PT X c tc)(ha:PSs X a t)(hb:PSs X b u):PS X (.If c a b pos) (tIfS tc t u):=by
 intro pins s σ H D I h
 refine wpAny_If (thn (hc pins s σ H _ I h) λd s1 ⟨H1,I1,q1⟩=>?_)
 cases d with
 |true=>exact ha pins s1 σ H1 D I1 q1
 |false=>exact hb pins s1 σ H1 D I1 q1
def tNever:TS:=λ_ _ _=>False
theorem zeg:PS X st tNever:=λ_ _ _ _ _ _ h=>h.elim
end
abbrev TG:=V->St->Hp->(St->Hp->Prop)->Prop
abbrev TGs:=List V->St->Hp->(St->Hp->Prop)->Prop
def PG (X:Cx)(target:Expr)(t:TG):Prop :=
 ∀(pins:List (Addr×Obj)) (s:Shared) (σ:St) (H:Hp) (v:V) (u:Value) (Q:St->Hp->Prop),Inv X pins σ H s->RelV v u->t v σ H Q ->
  wpAny (model X.prog X.w) X.A (assign target X.env u) (λ_ s'=>∃σ' H',Inv X pins σ' H' s'/\Q σ' H') X.xe s
def PGs (X:Cx)(ts:List Expr)(t:TGs):Prop :=
 ∀(pins:List (Addr×Obj)) (s:Shared) (σ:St) (H:Hp) (vs:List V) (us:List Value) (Q:St->Hp->Prop),Inv X pins σ H s->Vals vs us->t vs σ H Q ->
  wpAny (model X.prog X.w) X.A (assignInOrder ((assignEach ts X.env).map (·.2)) us) (λ_ s'=>∃σ' H',Inv X pins σ' H' s'/\Q σ' H') X.xe s
abbrev TSet:=V->V->V->Hp->(Hp->Prop)->Prop
def PSet (X:Cx)(t:TSet):Prop :=
 ∀(pins:List (Addr×Obj)) (s:Shared) (σ:St) (H:Hp) (o i v:V) (ov iv u:Value) (Q:Hp->Prop),Inv X pins σ H s->RelV o ov->RelV i iv->RelV v u->t o i v H Q ->
  wpAny (model X.prog X.w) X.A (setItem ov iv u) (λ_ s'=>∃H',Inv X pins σ H' s'/\Q H') X.xe s
section
variable {X:Cx}{pos:Pos}
def gName (i:Nat):TG:=λv σ H Q=>Q (σ.set i (some v)) H
theorem zi {i:Nat}{x:Str}(hN:X.N.Nodup)(hi:X.N[i]?=some x)(hx:Loc X.env.scope x)(hf:X.fn x=true∨X.env.scope.names.lookup x=some .local:=by first | exact .inl rfl | exact .inr rfl | assumption):PG X (.Name x pos) (gName i):=by
 intro pins s σ H v u Q I r h
 exact wpAny_assign_Name (uF I hN hi hx r (λs' I'=>⟨_,H,I',h⟩) hf)
def gNil:TGs:=λvs σ H Q=>vs=[]/\Q σ H
def gCons (t:TG)(u:TGs):TGs:=λvs σ H Q=>∃v r,vs=v::r/\t v σ H λσ' H'=>u r σ' H' Q
theorem zW:PGs X [] gNil:=by
 intro pins s σ H vs us Q I r h
 obtain⟨e,h⟩:=h
 subst e
 cases r
 exact assignInOrder_nil ⟨σ,H,I,h⟩
theorem zA {e:Expr}{es:List Expr}{t:TG}{u:TGs}(h1:PG X e t)(h2:PGs X es u)
  (hs:(assignEach (e::es) X.env).map (·.2)=assign e X.env::(assignEach es X.env).map (·.2):=by rfl):PGs X (e::es) (gCons t u):=by
 intro pins s σ H vs us Q I r h
 obtain⟨v,vr,e1,h⟩:=h
 subst e1
 cases r with
 |cons r rr=>
  rw[hs]
  refine assignInOrder_cons (thn (h1 pins s σ H _ _ _ I r h) λ_ s1 ⟨σ1,H1,I1,q1⟩=>?_)
  exact h2 pins s1 σ1 H1 _ _ Q I1 rr q1
def gTup (K:PySem.W.Frag)(n:Nat)(t:TGs):TG:=λv σ H Q=>∃a xs,v=.ref a/\SqT K H a xs/\xs.length=n/\t xs σ H Q
theorem zY {es:List Expr}{k:Nat}{t:TGs}{n:Nat}(hc:X.calm=true)(h:PGs X es t)
  (hn:(assignEach es X.env).length=n:=by rfl) (hst:(assignEach es X.env).findIdx? (·.1)=none:=by rfl):PG X (.Tuple es k pos) (gTup X.K n t):=by
 intro pins s σ H v u Q I r hw
 obtain⟨a,xs,e1,hq,hl,hw⟩:=hw
 subst e1
 cases r
 obtain⟨its,rv,ht,hz⟩:=I.tuple hq
 refine assign_Tuple_tuple (I.ok.hd hc) ht (by simp[hn,<-hl,rv.length]) hst λh' hx=>?_
 have I1:Inv X pins σ H { s with heap:=h' }:=I.kept (t':=s.toks) λb o e=>hx b o (Nat.ne_of_lt (Heap.lt_size e)) e
 exact h pins _ σ H xs _ Q I1 (by simpa using rv) hw
def gSub (to ti:TE)(t:TSet):TG:=λv σ H Q=>to σ H λo H1=>ti σ H1 λi H2=>t o i v H2 λH3=>Q σ H3
theorem RS {o i:Expr}{to ti:TE}{t:TSet}(ho:PE X o to)(hi:PE X i ti)(hs:PSet X t)
  (ha:∀v,assign (.Subscript o i pos) X.env v=(do
   let ov <-holding [v] (eval o X.env)
   let iv <-holding [v,ov] (eval i X.env)
   standAt pos
   holding [v,ov,iv] (setItem ov iv v)
   release [v,ov,iv] []):=by intro _;rfl):PG X (.Subscript o i pos) (gSub to ti t):=by
 intro pins s σ H v u Q I r h
 rw[ha]
 refine wpAny_bind (wpAny_holding (thn (ho pins s σ H _ I h) λov s1 ⟨x,H1,I1,r1,q1⟩=>?_))
 refine wpAny_bind (wpAny_holding (thn (hi pins s1 σ H1 _ I1 q1) λiv s2 ⟨y,H2,I2,r2,q2⟩=>?_))
 refine wpAny_bind (wpAny_standAt (wpAny_bind (wpAny_holding (thn (hs pins s2 σ H2 x y v ov iv u _ I2 r1 r2 r q2) λ_ s3 ⟨H3,I3,q3⟩=>?_))))
 exact wpAny_release ⟨σ,H3,I3,q3⟩
def tAsg (te:TE)(g:TG):TS:=λD σ H=>te σ H λx H1=>g x σ H1 D.nx
theorem Zl {tg e:Expr}{te:TE}{g:TG}(he:PE X e te)(hg:PG X tg g)(hs:swapsWithSole [tg] e pos.line X.env=pure false:=by rfl)(hw:swappedStores [tg] e X.env=pure none:=by rfl)
  (h1:(assignEach [tg] X.env).map (·.2)=[assign tg X.env]:=by rfl):PS X (.Assign [tg] e pos) (tAsg te g):=by
 intro pins s σ H D I h
 refine wpAny_Assign_stores (thn (he pins s σ H _ I h) λv s1 ⟨x,H1,I1,r1,q1⟩=>?_) hs hw
 rw[h1]
 exact thn (hg pins s1 σ H1 x v _ I1 r1 q1) λ_ s2 q=>q
theorem vT {i:Nat}{x:Str}{e:Expr}{te:TE}{pos':Pos}(hN:X.N.Nodup)(hi:X.N[i]?=some x)(hx:Loc X.env.scope x)(he:PE X e te)(hs:swapsWith e (some (.Name x pos')) pos.line X.env=pure false:=by rfl)(hf:X.fn x=true∨X.env.scope.names.lookup x=some .local:=by first | exact .inl rfl | exact .inr rfl | assumption) :
  PS X (.Assign [.Name x pos'] e pos) (tAsg te (gName i)):=by
 intro pins s σ H D I h
 refine wpAny_Assign_Name (thn (he pins s σ H _ I h) λv s1 ⟨y,H1,I1,r1,q1⟩=>?_) hs
 exact uF I1 hN hi hx r1 (λs2 I2=>⟨_,H1,I2,q1⟩) hf
end
section
variable {X:Cx}{pos:Pos}
def tWhile (c:TT)(tb:TS):TS:=λD σ H=>∃W:Nat->St->Hp->Prop,(∃m,W m σ H)/\∀m σ H,W m σ H ->
 c σ H λb H1=>if b=true then ∃N:St->Hp->Prop,(∀σ' H',N σ' H'->∃m',m' < m/\W m' σ' H')/\tb { D with nx:=N,ct:=N,bk:=D.nx } σ H1 else D.nx σ H1
theorem GP {c:Expr}{body:List Stmt}{tc:TT}{tb:TS}(hp:PassesOwn (model X.prog X.w) X.A X.env X.xe)(hc:PT X c tc)(hb:PSs X body tb):PS X (.While c body [] pos) (tWhile tc tb):=by
 intro pins s σ H D I h
 obtain⟨W,⟨m0,w0⟩,turn⟩:=h
 refine wpAny_While (codeAny_whileLoop (λn s'=>∃σ' H',Inv X pins σ' H' s'/\W n σ' H') ?_ m0 ⟨σ,H,I,w0⟩)
 rintro n s1 ⟨σ1,H1,I1,w1⟩
 refine wpAny_passesOwn hp (thn (hc pins s1 σ1 H1 _ I1 (turn n σ1 H1 w1)) λb s2 ⟨H2,I2,q2⟩=>?_)
 cases b with
 |true=>
  obtain⟨N,hN,q2⟩:=q2
  rw[if_pos rfl]
  refine wpAny_passesOwn hp (thn (hb pins s2 σ1 H2 _ I2 q2) λf s3 q3=>?_)
  cases f with
  |next=>
   obtain⟨σ3,H3,I3,n3⟩:=q3
   obtain⟨m',hm,w3⟩:=hN σ3 H3 n3
   exact⟨m',hm,σ3,H3,I3,w3⟩
  |cont=>
   obtain⟨σ3,H3,I3,n3⟩:=q3
   obtain⟨m',hm,w3⟩:=hN σ3 H3 n3
   exact⟨m',hm,σ3,H3,I3,w3⟩
  |brk=>exact q3
  |ret v=>exact q3
 |false=>
  rw[if_neg Bool.false_ne_true]
  exact wpAny_execs_nil ⟨σ1,H2,I2,q2⟩
end
structure It where
 go:Nat->Hp->Prop
 yld:Nat->Hp->V->Hp->Prop
 stop:Nat->Hp->Prop
def FpOk (X:Cx)(pins:List (Addr×Obj))(H:Hp)(b:Addr):Prop :=
 H b=none/\b≠X.env.locals/\b∉X.fs/\(b∈X.ex∨X.s₀.heap.objs.size<=b)/\(∀x c,X.env.cells.lookup x=some c->c≠b)/\∀p∈X.pn++pins,p.1≠b
theorem Inv.fpOk {X:Cx}{pins:List (Addr×Obj)}{σ:St}{H H':Hp}{s:Shared}{b:Addr}(I:Inv X pins σ H s)(hb:s.heap.objs.size<=b)(hn:H' b=none):FpOk X pins H' b:=by
 refine⟨hn,Nat.ne_of_gt (Nat.lt_of_lt_of_le I.lt hb),I.nofs hb,.inr (Nat.le_trans I.sz hb),λx c e z=>?_,λp hp z=>?_⟩
 ·obtain⟨v,q⟩:=I.cell x c e
  exact absurd (Nat.lt_of_lt_of_le q.lt (by rw[z];exact hb)) (Nat.lt_irrefl _)
 ·exact absurd (Nat.lt_of_lt_of_le (Heap.lt_size (I.pin p hp).1) (by rw[z];exact hb)) (Nat.lt_irrefl _)
structure Turn (P:Program)(w:World)(K:PySem.W.Frag)(tg:Expr)(J:It)(fp:List Addr)(it:Addr)(tn:Nat->Heap->Prop):Prop where
 mem:it∈fp
 obj:∀i h,tn i h->∀b∈fp,∃o,h.get? b=some o/\∀v,o.data≠.cell v
 keep:∀i h h',tn i h->(∀b∈fp,∀o,h.get? b=some o->h'.get? b=some o)->tn i h'
 item:∀(X:Cx),X.prog=P->X.w=w->X.K=K->X.calm=true->∀(i:Nat) (pins:List (Addr×Obj)) (s:Shared) (σ:St) (H:Hp) (E:Value->Shared->Prop),Inv X pins σ H s->(∀b∈fp,FpOk X pins H b)->tn i s.heap->J.go i H ->
  wpAny (model P w) X.A (pyNext (.ref it)) (λr s1=>∃u,r=some u /\
   wpAny (model P w) X.A (letOwnedTupleGo tg (.ref it) u) (λ_ s2=>∃x H',Inv X pins σ H' s2/\RelV x u/\J.yld i H x H'/\tn (i+1) s2.heap/\∀b∈fp,H' b=none) E s1) E s
 done:∀(X:Cx),X.prog=P->X.w=w->X.K=K->X.calm=true->∀(i:Nat) (pins:List (Addr×Obj)) (s:Shared) (σ:St) (H:Hp) (E:Value->Shared->Prop),Inv X pins σ H s->(∀b∈fp,FpOk X pins H b)->tn i s.heap->J.stop i H ->
  wpAny (model P w) X.A (pyNext (.ref it)) (λr s1=>r=none/\Inv X pins σ H s1) E s
 self:∀(A:Around) (i:Nat) (s:Shared) (Q:Value->Shared->Prop) (E:Value->Shared->Prop),tn i s.heap->Q (.ref it) s->wpAny (model P w) A (pyIter (.ref it)) Q E s
abbrev TI:=St->Hp->(It->Hp->Prop)->Prop
def PIE (X:Cx)(pins:List (Addr×Obj))(σ:St)(tg:Expr)(R:It->Hp->Prop)(itv:Value)(s2:Shared):Prop :=
 ∃(it:Addr) (fp:List Addr) (tn:Nat->Heap->Prop) (J:It) (H':Hp),itv=.ref it/\Inv X pins σ H' s2/\Turn X.prog X.w X.K tg J fp it tn/\tn 0 s2.heap/\(∀b∈fp,FpOk X pins H' b)/\R J H'
def PI (X:Cx)(tg iter:Expr)(wi:TI):Prop :=
 ∀(pins:List (Addr×Obj)) (s:Shared) (σ:St) (H:Hp) (R:It->Hp->Prop),Inv X pins σ H s->wi σ H R ->
  wpAny (model X.prog X.w) X.A (eval iter X.env) (λv s1=>wpAny (model X.prog X.w) X.A (pyIter v) (PIE X pins σ tg R) X.xe s1) X.xe s
theorem j0 {M:Model}{A:Around}{E:Value->Shared->Prop}{s:Shared}{tg:Expr}{it:Addr}{u:Value}{o:Obj}{n:String}{vs:Array Value}{Q:Unit->Shared->Prop}(ho:s.heap.get? it=some o)(hc:o.cls=.type n)(hd:o.data=.fields vs)
    (hn:["enumerate","zip","dict_itemiterator","dict_reverseitemiterator","odict_iterator","itertools.zip_longest","itertools.pairwise"].contains n=false) (hQ:Q () s):wpAny M A (letOwnedTupleGo tg (.ref it) u) Q E s:=by
  unfold letOwnedTupleGo
  cases tg<;>first
    |exact wpAny_pure hQ
    | (cases u<;>first
        |exact wpAny_pure hQ
        | (refine wpAny_bind (wpAny_load ho ?_)
           rw[hc,hd]
           show wpAny M A (if (["enumerate","zip","dict_itemiterator","dict_reverseitemiterator","odict_iterator","itertools.zip_longest","itertools.pairwise"].contains n&&vs[0]?==some (rawInt _))=true then _ else _) Q E s
           rw[if_neg (by intro h;rw[hn,Bool.false_and] at h;cases h)]
           exact wpAny_pure hQ))
def Itl (K:PySem.W.Frag)(a:Addr):It :=
 ⟨λi H=>∃xs x,SqL K H a xs/\xs[i]?=some x,λi H x H'=>H'=H/\∀xs,SqL K H a xs->xs[i]?=some x,λi H=>∃xs,SqL K H a xs/\xs.length<=i⟩
def Itr (lo:Int)(n:Nat):It:=⟨λi _=>i < n,λi H x H'=>H'=H/\x=.int (lo+i),λi _=>n<=i⟩
theorem KO {P:Program}{w:World}{K:PySem.W.Frag}{tg:Expr}(a it:Addr):Turn P w K tg (Itl K a) [it] it (λi h=>h.IsListIter it a i) where
 mem:=by simp
 obj:=λi h st b hb=>by
  have e:b=it:=by simpa using hb
  subst e
  obtain⟨o,e,c,d⟩:=st
  exact⟨o,e,λv z=>by rw[d] at z;cases z⟩
 keep:=λi h h' st k=>st.at λo e=>k it (by simp) o e
 item:=by
  intro X hP hw hK hc i pins s σ H E I hf st hg
  subst hP hw hK
  obtain⟨xs,x,hq,hx⟩:=hg
  obtain⟨its,rv,p,hz⟩:=I.list hq
  obtain⟨u,hu,ru⟩:=rv.get hx
  obtain⟨f0,f1,f2,f3,f4,f5⟩:=hf it (by simp)
  refine wpAny_pyNext_list_item st p.isList (x:=u) (by simpa using hu) λh' st' sb=>?_
  have I1:Inv X pins σ H { s with heap:=h' }:=I.turned (t':=s.toks) (λb o hb e=>(sb.2 b hb).trans e) f0 f1 f3 f4 f5
  obtain⟨o,e,c,d⟩:=id st'
  exact⟨u,rfl,j0 (s:={ s with heap:=h' }) e c d (by decide) ⟨x,H,I1,ru,⟨rfl,λys hy=>by rw[I.list_inj hy hq];exact hx⟩,st',λb hb=>(hf b hb).1⟩⟩
 done:=by
  intro X hP hw hK hc i pins s σ H E I hf st hg
  subst hP hw hK
  obtain⟨xs,hq,hx⟩:=hg
  obtain⟨its,rv,p,hz⟩:=I.list hq
  obtain⟨f0,f1,f2,f3,f4,f5⟩:=hf it (by simp)
  have hl:=rv.length
  exact wpAny_pyNext_list_end (I.ok.hd hc) st p.isList (by simp;omega) λh' eb=>⟨rfl,I.turned (t':=s.toks) (λb o hb e=>eb b o hb e) f0 f1 f3 f4 f5⟩
 self:=λ_ _ _ _ _ st h=>wpAny_pyIter_listiter st h
theorem za3 {P:Program}{w:World}{K:PySem.W.Frag}{tg:Expr}(it:Addr)(lo:Int)(n:Nat):Turn P w K tg (Itr lo n) [it] it (λi h=>IsRangeIter h it (lo+(i:Nat) * 1) ((n:Int) - (i:Nat)) 1) where
 mem:=by simp
 obj:=λi h st b hb=>by
  have e:b=it:=by simpa using hb
  subst e
  exact⟨_,st,λv z=>by
   have z':Data.fields _=Data.cell v:=z
   cases z'⟩
 keep:=λi h h' st k=>k it (by simp) _ st
 item:=by
  intro X hP hw hK hc i pins s σ H E I hf st hg
  subst hP hw hK
  obtain⟨f0,f1,f2,f3,f4,f5⟩:=hf it (by simp)
  have W:=Walks.range (prog:=X.prog) (w:=X.w) (I.ok.hd hc) it lo 1 n
  refine W.item i s _ _ hg st λv h' tk hv st' kk=>?_
  obtain⟨t,rfl⟩:=hv
  have I1:Inv X pins σ H { s with heap:=h',toks:=tk }:=I.turned (λb o hb e=>kk b o (by simpa using hb) e) f0 f1 f3 f4 f5
  refine⟨_,rfl,j0 (s:={ s with heap:=h',toks:=tk }) (n := "range_iterator") st' rfl rfl (by decide) ⟨.int (lo+i),H,I1,⟨t,?_⟩,⟨rfl,rfl⟩,st',λb hb=>(hf b hb).1⟩⟩
  rw[Int.mul_one]
 done:=by
  intro X hP hw hK hc i pins s σ H E I hf st hg
  subst hP hw hK
  obtain⟨f0,f1,f2,f3,f4,f5⟩:=hf it (by simp)
  exact wpAny_pyNext_range_end (I.ok.hd hc) st (by have:n<=i:=hg;omega) λh' eb=>⟨rfl,I.turned (t':=s.toks) (λb o hb e=>eb b o hb e) f0 f1 f3 f4 f5⟩
 self:=λ_ _ _ _ _ st h=>wpAny_pyIter_rangeiter st h
section
variable {X:Cx}{tg:Expr}
def iList (K:PySem.W.Frag)(tl:TE):TI:=λσ H R=>tl σ H λx H1=>∃a,x=.ref a/\(∃xs,SqL K H1 a xs)/\R (Itl K a) H1
theorem uN {l:Expr}{tl:TE}(hl:PE X l tl):PI X tg l (iList X.K tl):=by
 intro pins s σ H R I h
 refine thn (hl pins s σ H _ I h) λv s1 ⟨x,H1,I1,r1,q1⟩=>?_
 obtain⟨a,e,⟨xs,hq⟩,q⟩:=q1
 subst e
 cases r1
 obtain⟨its,rv,p,hz⟩:=I1.list hq
 refine wpAny_pyIter_list p.isList ?_
 refine⟨s1.heap.objs.size,[s1.heap.objs.size],_,_,H1,rfl,I1.kept (t':=s1.toks) λb o e=>Heap.get?_push_of_some _ e,KO a _,⟨_,Heap.get?_push_size _ rfl,rfl,rfl⟩,λb hb=>?_,q⟩
 have e:b=s1.heap.objs.size:=by simpa using hb
 subst e
 exact I1.fpOk (Nat.le_refl _) (I1.hok.fresh (Nat.le_refl _))
theorem Ky {pins:List (Addr×Obj)}{σ:St}{H:Hp}{s:Shared}{R:It->Hp->Prop}{E:Value->Shared->Prop}{lo hi:Int}{t u v:Tok}{tk:Nat}(I:Inv X pins σ H s)(h1:-(2 ^ 62)<=lo)(h2:lo < 2 ^ 62)(h3:-(2 ^ 62)<=hi)(h4:hi < 2 ^ 62)
  (q:R (Itr lo (hi - lo).toNat) H):wpAny (model X.prog X.w) X.A (pyIter (.ref s.heap.objs.size)) (PIE X pins σ tg R) E { s with heap:=s.heap.push { cls:=.type "range",data:=.fields #[.int lo t,.int hi u,.int 1 v] },toks:=tk }:=by
 refine wpAny_pyIter_range (IsRange.new ..) (small_one h1 h2 h3 h4) ?_
 have I1:Inv X pins σ H { s with heap:=s.heap.push { cls:=.type "range",data:=.fields #[.int lo t,.int hi u,.int 1 v] },toks:=tk }:=I.kept λb o e=>Heap.get?_push_of_some _ e
 refine⟨(s.heap.push { cls:=.type "range",data:=.fields #[.int lo t,.int hi u,.int 1 v] }).objs.size,[(s.heap.push { cls:=.type "range",data:=.fields #[.int lo t,.int hi u,.int 1 v] }).objs.size],_,_,H,rfl,
  I1.kept (t':=tk) λb o e=>Heap.get?_push_of_some _ e,za3 _ lo (hi - lo).toNat,?_,λb hb=>?_,q⟩
 ·have e1:lo+((0:Nat):Int) * 1=lo:=by simp
  have e2:(((hi - lo).toNat:Nat):Int) - ((0:Nat):Int)=Builtin.Range.rangeSize lo hi 1:=by rw[rangeSize_one];split<;>omega
  show IsRangeIter _ _ (lo+((0:Nat):Int) * 1) ((((hi - lo).toNat:Nat):Int) - ((0:Nat):Int)) 1
  rw[e1,e2]
  exact Heap.get?_push_size _ rfl
 ·have e:b=(s.heap.push { cls:=.type "range",data:=.fields #[.int lo t,.int hi u,.int 1 v] }).objs.size:=by simpa using hb
  subst e
  exact I1.fpOk (Nat.le_refl _) (I1.hok.fresh (Nat.le_refl _))
def iRng1 (ta:TA):TI:=λσ H R=>ta σ H λvs H1=>∃j:Int,vs=[.int j]/\-(2 ^ 62)<=j/\j < 2 ^ 62/\R (Itr 0 j.toNat) H1
theorem zdx {a:Expr}{ta:TA}{p pos:Pos}(hg:Gl X "range") (hm:X.mg "range" = none) (ha:PA X [a] ta) (hs:starEach [a] X.env=[(false,eval a X.env)]:=by rfl):PI X tg (.Call (.Name "range" p) [a] [] pos) (iRng1 ta):=by
 intro pins s σ H R I h
 refine Call_ (wM I hg hm boot_range (PyProof.Rows.callWith_type1 (thn (ha pos pins s σ H _ I h) λus s1 ⟨vs,H1,I1,r1,q1⟩=>?_) hs rfl))
 obtain⟨j,e,q1,q2,q⟩:=q1
 subst e
 cases r1 with
 |cons r rr=>
  cases rr
  obtain⟨t,rfl⟩:=r
  exact call_range_1 (Ky I1 (by omega) (by omega) q1 q2 (by simpa using q))
def tFor (wi:TI)(g:TG)(tb:TS):TS:=λD σ H=>wi σ H λJ H1=>∃W:Nat->Nat->St->Hp->Prop,(∃m,W 0 m σ H1)/\∀i m σ H,W i m σ H ->
 (J.stop i H/\D.nx σ H)∨(J.go i H/\∃N:St->Hp->Prop,(∀σ' H',N σ' H'->∃m',m' < m/\W (i+1) m' σ' H')/\∀x H',J.yld i H x H'->g x σ H' λσ2 H2=>tb { D with nx:=N,ct:=N,bk:=D.nx } σ2 H2)
def pinsAt (fp:List Addr)(h:Heap):List (Addr×Obj):=fp.filterMap λb=>(h.get? b).map λo=>(b,o)
theorem wN {fp:List Addr}{h:Heap}{b:Addr}{o:Obj}(hb:b∈fp)(e:h.get? b=some o):(b,o)∈pinsAt fp h:=List.mem_filterMap.mpr ⟨b,hb,by rw[e];rfl⟩
theorem ZG {fp:List Addr}{h:Heap}{p:Addr×Obj}(hp:p∈pinsAt fp h):p.1∈fp/\h.get? p.1=some p.2:=by
 obtain⟨b,hb,e⟩:=List.mem_filterMap.mp hp
 cases q:h.get? b with
 |none=>rw[q] at e;cases e
 |some o=>
  rw[q] at e
  have e':(b,o)=p:=Option.some.inj e
  subst e'
  exact⟨hb,q⟩
theorem Inv.pinned {pins:List (Addr×Obj)}{σ:St}{H:Hp}{s:Shared}{fp:List Addr}(I:Inv X pins σ H s)(hf:∀b∈fp,FpOk X pins H b)(ho:∀b∈fp,∃o,s.heap.get? b=some o/\∀v,o.data≠.cell v):Inv X (pins++pinsAt fp s.heap) σ H s :=
 I.pins_of λp hp=>(List.mem_append.mp hp).elim (λz=>I.pin p (List.mem_append_right _ z)) λz=>by
  obtain⟨hb,e⟩:=ZG z
  obtain⟨f0,f1,f2,_⟩:=hf p.1 hb
  obtain⟨o,e',d⟩:=ho p.1 hb
  rw[e] at e';cases e'
  exact⟨e,f0,f1,f2,d⟩
theorem Inv.unpinned {pins pl:List (Addr×Obj)}{σ:St}{H:Hp}{s:Shared}(I:Inv X (pins++pl) σ H s):Inv X pins σ H s:=I.pins_of λp hp=>I.pin p (List.mem_append_right _ (List.mem_append_left _ hp))
theorem JJ {iter:Expr}{body:List Stmt}{wi:TI}{g:TG}{tb:TS}{pos:Pos}(hp:PassesOwn (model X.prog X.w) X.A X.env X.xe)(hc:X.calm=true)(hi:PI X tg iter wi)(hg:PG X tg g)(hb:PSs X body tb)
  (hs:∀x,foldedSetIterable iter X.env x=pure x:=by intro _;rfl):PS X (.For tg iter body [] pos) (tFor wi g tb):=by
 intro pins s σ H D I h
 refine wpAny_For (thn (hi pins s σ H _ I h) λv s1 h1=>thn h1 λitv s2 h2=>?_) hs
 obtain⟨it,fp,tn,J,H2,e,I2,T,st2,f2,W,⟨m0,w0⟩,turn⟩:=h2
 subst e
 have stat:∀ {H':Hp},(∀b∈fp,H' b=none)->∀b∈fp,FpOk X pins H' b:=λhn b hb=>⟨hn b hb,(f2 b hb).2⟩
 refine codeAny_forLoop_any (λn s'=>∃i σ' H',Inv X pins σ' H' s'/\tn i s'.heap/\(∀b∈fp,H' b=none)/\W i n σ' H') ?_ m0 ⟨0,σ,H2,I2,st2,λb hb=>(f2 b hb).1,w0⟩
 rintro n s3 ⟨i,σ3,H3,I3,st3,fr3,w3⟩
 rcases turn i n σ3 H3 w3 with⟨stop,qn⟩ | ⟨go,N,hN,step⟩
 ·refine wpAny_passesOwn hp (thn (T.done X rfl rfl rfl hc i pins s3 σ3 H3 X.xe I3 (stat fr3) st3 stop) λr s4 ⟨hr,I4⟩=>?_)
  subst hr
  exact wpAny_execs_nil ⟨σ3,H3,I4,qn⟩
 ·refine wpAny_passesOwn hp (thn (T.item X rfl rfl rfl hc i pins s3 σ3 H3 X.xe I3 (stat fr3) st3 go) λr s4 ⟨u,hr,h4⟩=>?_)
  subst hr
  refine wpAny_passesOwn hp (thn h4 λ_ s5 ⟨x,H5,I5,r5,y5,st5,fr5⟩=>?_)
  have I5':=I5.pinned (stat fr5) (T.obj _ _ st5)
  refine wpAny_passesOwn hp (thn (hg _ s5 σ3 H5 x u _ I5' r5 (step x H5 y5)) λ_ s6 ⟨σ6,H6,I6,q6⟩=>?_)
  refine wpAny_passesOwn hp (thn (hb _ s6 σ6 H6 _ I6 q6) λf s7 q7=>?_)
  have again:∀ {σ7:St} {H7:Hp},Inv X (pins++pinsAt fp s5.heap) σ7 H7 s7->N σ7 H7->∃m,m < n/\∃i σ' H',Inv X pins σ' H' s7/\tn i s7.heap/\(∀b∈fp,H' b=none)/\W i m σ' H':=fun {σ7 H7} I7 n7=>by
   obtain⟨m',hm,w7⟩:=hN σ7 H7 n7
   refine⟨m',hm,i+1,σ7,H7,I7.unpinned,T.keep _ _ _ st5 λb hb o e=>(I7.pin (b,o) (List.mem_append_right _ (List.mem_append_right _ (wN hb e)))).1,λb hb=>?_,w7⟩
   obtain⟨o,e,d⟩:=T.obj _ _ st5 b hb
   exact (I7.pin (b,o) (List.mem_append_right _ (List.mem_append_right _ (wN hb e)))).2.1
  cases f with
  |next=>obtain⟨σ7,H7,I7,n7⟩:=q7;exact again I7 n7
  |cont=>obtain⟨σ7,H7,I7,n7⟩:=q7;exact again I7 n7
  |brk=>obtain⟨σ7,H7,I7,q7⟩:=q7;exact⟨σ7,H7,I7.unpinned,q7⟩
  |ret v=>obtain⟨x7,σ7,H7,I7,r7,q7⟩:=q7;exact⟨x7,σ7,H7,I7.unpinned,r7,q7⟩
end
theorem zcl {K:PySem.W.Frag}{a:Addr}{xs:List V}{g:TG}{tb:TS}{D:Ends}{σ:St}{H:Hp}(Pv:Nat->St->Hp->Prop)(h0:Pv 0 σ H)(hl:∀i σ H,i<=xs.length->Pv i σ H->SqL K H a xs)
  (hs:∀i x σ H,xs[i]?=some x->Pv i σ H->g x σ H λσ2 H2=>tb { D with nx:=Pv (i+1),ct:=Pv (i+1),bk:=D.nx } σ2 H2) (hd:∀σ H,Pv xs.length σ H->D.nx σ H) :
  ∃W:Nat->Nat->St->Hp->Prop,(∃m,W 0 m σ H)/\∀i m σ H,W i m σ H ->
   ((Itl K a).stop i H/\D.nx σ H)∨((Itl K a).go i H/\∃N:St->Hp->Prop,(∀σ' H',N σ' H'->∃m',m' < m/\W (i+1) m' σ' H')/\∀x H',(Itl K a).yld i H x H'->g x σ H' λσ2 H2=>tb { D with nx:=N,ct:=N,bk:=D.nx } σ2 H2):=by
 refine⟨λi m σ H=>m=xs.length - i/\i<=xs.length/\Pv i σ H,⟨xs.length,by simp,Nat.zero_le _,h0⟩,?_⟩
 rintro i m σ H ⟨rfl,hi,p⟩
 have q:=hl i σ H hi p
 by_cases hlt:i < xs.length
 ·refine .inr ⟨⟨xs,xs[i],q,by simp[hlt]⟩,Pv (i+1),λσ' H' p'=>⟨xs.length - (i+1),by omega,rfl,hlt,p'⟩,λx H' y=>?_⟩
  obtain⟨e,y⟩:=y
  subst e
  exact hs i x σ _ (y xs q) p
 ·have e:i=xs.length:=by omega
  subst e
  exact .inl ⟨⟨xs,q,Nat.le_refl _⟩,hd σ H p⟩
abbrev R2:=V->V->Hp->VK->Prop
def OpR (X:Cx)(f:Value->Value->Sem Value)(r:R2):Prop :=
 ∀(pins:List (Addr×Obj)) (s:Shared) (σ:St) (H:Hp) (x y:V) (v u:Value) (Q:VK),Inv X pins σ H s->RelV x v->RelV y u->r x y H Q ->
  wpAny (model X.prog X.w) X.A (f v u) (EP X pins σ Q) X.xe s
def UnR (X:Cx)(f:Value->Sem Value)(r:V->Hp->VK->Prop):Prop :=
 ∀(pins:List (Addr×Obj)) (s:Shared) (σ:St) (H:Hp) (x:V) (v:Value) (Q:VK),Inv X pins σ H s->RelV x v->r x H Q ->
  wpAny (model X.prog X.w) X.A (f v) (EP X pins σ Q) X.xe s
def CallR (X:Cx)(f:Value)(r:List V->Hp->VK->Prop):Prop :=
 ∀(pins:List (Addr×Obj)) (s:Shared) (σ:St) (H:Hp) (xs:List V) (us:List Value) (Q:VK),Inv X pins σ H s->Vals xs us->r xs H Q ->
  wpAny (model X.prog X.w) X.A (call f us) (EP X pins σ Q) X.xe s
def TruR (X:Cx)(r:V->Hp->(Bool->Hp->Prop)->Prop):Prop :=
 ∀(pins:List (Addr×Obj)) (s:Shared) (σ:St) (H:Hp) (x:V) (v:Value) (Q:Bool->Hp->Prop),Inv X pins σ H s->RelV x v->r x H Q ->
  wpAny (model X.prog X.w) X.A (truthy v) (TP X pins σ Q) X.xe s
def tOp (r:R2)(ta tb:TE):TE:=λσ H Q=>ta σ H λx H1=>tb σ H1 λy H2=>r x y H2 Q
def tUn (r:V->Hp->VK->Prop)(ta:TE):TE:=λσ H Q=>ta σ H λx H1=>r x H1 Q
def rI (C:Int->Int->Prop)(g:Int->Int->V):R2:=λx y H Q=>∃i j,x=.int i/\y=.int j/\C i j/\Q (g i j) H
def rI0 (g:Int->Int->V):R2:=λx y H Q=>∃i j,x=.int i/\y=.int j/\Q (g i j) H
def rU (g:Int->V):V->Hp->VK->Prop:=λx H Q=>∃i,x=.int i/\Q (g i) H
section
variable {X:Cx}{a b c:Expr}{ta tb tc:TE}{pos:Pos}
theorem binT (ha:PE X a ta)(hb:PE X b tb){pins:List (Addr×Obj)}{s:Shared}{σ:St}{H:Hp}{R:V->V->Hp->Prop}(I:Inv X pins σ H s)
  (h:ta σ H λx H1=>tb σ H1 λy H2=>R x y H2) {Q:Value->Shared->Prop} {f:Value->Value->Sem Value}
  (hf:∀v u s2 x y H2,Inv X pins σ H2 s2->RelV x v->RelV y u->R x y H2->wpAny (model X.prog X.w) X.A (f v u) Q X.xe s2) :
  wpAny (model X.prog X.w) X.A (eval a X.env) (λv s₁=>wpAny (model X.prog X.w) X.A (eval b X.env) (λu s₂=>wpAny (model X.prog X.w) X.A (f v u) Q X.xe s₂) X.xe s₁) X.xe s:=by
 refine thn (ha pins s σ H _ I h) λv s1 ⟨x,H1,I1,r1,q1⟩=>?_
 refine thn (hb pins s1 σ H1 _ I1 q1) λu s2 ⟨y,H2,I2,r2,q2⟩=>?_
 exact hf v u s2 x y H2 I2 r1 r2 q2
theorem W6 {op:Operator}{r:R2}(ho:OpR X (binaryOp op) r)(ha:PE X a ta)(hb:PE X b tb):PE X (.BinOp a op b pos) (tOp r ta tb):=by
 intro pins s σ H Q I h
 exact wpAny_BinOp (binT ha hb I h λv u s2 x y H2 I2 rx ry q=>ho pins s2 σ H2 x y v u Q I2 rx ry q)
theorem zbs {op:UnaryOp}{r:V->Hp->VK->Prop}(ho:UnR X (unaryOp op) r)(ha:PE X a ta):PE X (.UnaryOp op a pos) (tUn r ta):=by
 intro pins s σ H Q I h
 exact UnaryOp_ (thn (ha pins s σ H _ I h) λv s1 ⟨x,H1,I1,r1,q1⟩=>ho pins s1 σ H1 x v Q I1 r1 q1)
theorem opI {f:Value->Value->Sem Value}{C:Int->Int->Prop}{g:Int->Int->Int}
  (rule:∀(i j:Int) (t u:Tok) (s:Shared) (Q:Value->Shared->Prop) (E:Value->Shared->Prop),C i j->Q (.int (g i j) s.toks) { s with toks:=s.toks+1 }->wpAny (model X.prog X.w) X.A (f (.int i t) (.int j u)) Q E s) :
  OpR X f (rI C λi j=>.int (g i j)):=by
 intro pins s σ H x y v u Q I rx ry h
 obtain⟨i,j,rfl,rfl,hc,q⟩:=h
 obtain⟨t,rfl⟩:=rx
 obtain⟨t',rfl⟩:=ry
 exact rule i j t t' s _ _ hc ⟨.int (g i j),H,I.tok _,⟨_,rfl⟩,q⟩
theorem opI0 {f:Value->Value->Sem Value}{g:Int->Int->Int}
  (rule:∀(i j:Int) (t u:Tok) (s:Shared) (Q:Value->Shared->Prop) (E:Value->Shared->Prop),Q (.int (g i j) s.toks) { s with toks:=s.toks+1 }->wpAny (model X.prog X.w) X.A (f (.int i t) (.int j u)) Q E s) :
  OpR X f (rI0 λi j=>.int (g i j)):=by
 intro pins s σ H x y v u Q I rx ry h
 obtain⟨i,j,rfl,rfl,q⟩:=h
 obtain⟨t,rfl⟩:=rx
 obtain⟨t',rfl⟩:=ry
 exact rule i j t t' s _ _ ⟨.int (g i j),H,I.tok _,⟨_,rfl⟩,q⟩
theorem opB0 {f:Value->Value->Sem Value}{g:Int->Int->Bool}
  (rule:∀(i j:Int) (t u:Tok) (s:Shared) (Q:Value->Shared->Prop) (E:Value->Shared->Prop),Q (.bool (g i j)) s->wpAny (model X.prog X.w) X.A (f (.int i t) (.int j u)) Q E s) :
  OpR X f (rI0 λi j=>.bl (g i j)):=by
 intro pins s σ H x y v u Q I rx ry h
 obtain⟨i,j,rfl,rfl,q⟩:=h
 obtain⟨t,rfl⟩:=rx
 obtain⟨t',rfl⟩:=ry
 exact rule i j t t' s _ _ ⟨.bl (g i j),H,I,rfl,q⟩
def CDiv (i j:Int):Prop:=0 < j/\j < 1073741824
def CPow (i j:Int):Prop:=0<=j/\j<=1000000/\i.natAbs < 2 ^ 64
def CMul (i j:Int):Prop:=(-(2 ^ 64) < i/\i < 2 ^ 64)∨(-(2 ^ 64) < j/\j < 2 ^ 64)
theorem CMul.ok {i j:Int}(h:CMul i j):IntMulOk i j:=by
 rcases h with⟨h1,h2⟩ | ⟨h1,h2⟩
 ·exact .of_left (intBits_le_64 h1 h2)
 ·exact .of_right (intBits_le_64 h1 h2)
theorem QJ (k:Nat):(0:Int)<=2 ^ k:=by
 rw[two_pow_cast]
 exact Int.natCast_nonneg _
theorem op_add:OpR X (binaryOp .Add) (rI0 λi j=>.int (i+j)):=opI0 λ_ _ _ _ _ _ _ q=>add_int q
theorem Kb:OpR X (binaryOp .Sub) (rI0 λi j=>.int (i - j)):=opI0 λ_ _ _ _ _ _ _ q=>sub_int q
theorem Gg:OpR X (binaryOp .Mult) (rI CMul λi j=>.int (i * j)):=opI λ_ _ _ _ _ _ _ hc q=>mul_int q hc.ok
theorem ze0:OpR X (binaryOp .FloorDiv) (rI CDiv λi j=>.int (i / j)):=opI λi j _ _ _ _ _ hc q=>by
 have h1:(0:Int) < j:=hc.1
 have h2:j < 1073741824:=hc.2
 exact floordiv_int (by omega) (by rw[Int.fdiv_eq_ediv_of_nonneg i (by omega)];exact q) (.inl (PyProof.noPylong_small (by omega)))
theorem zeu:OpR X (binaryOp .Mod) (rI (λ_ j=>0 < j) λi j=>.int (i % j)):=opI λi j _ _ _ _ _ hc q=>by
 have h1:(0:Int) < j:=hc
 exact mod_int' (by omega) (by rw[Int.fmod_eq_emod_of_nonneg i (by omega)];exact q)
theorem zch:OpR X (binaryOp .Pow) (rI CPow λi j=>.int (i ^ j.toNat)):=opI λ_ _ _ _ _ _ _ hc q=>pow_int_small hc.1 hc.2.1 hc.2.2 q
theorem Rs:OpR X (binaryOp .RShift) (rI (λ_ j=>0<=j) λi j=>.int (i / 2 ^ j.toNat)):=opI λi j _ _ _ _ _ hc q=>
 rshift_int hc (by rw[Int.fdiv_eq_ediv_of_nonneg i (QJ _)];exact q)
theorem zdg:OpR X (binaryOp .BitAnd) (rI0 λi j=>.int (Builtin.bitAnd i j)):=opI0 λ_ _ _ _ _ _ _ q=>and_int q
theorem unI {f:Value->Sem Value}{g:Int->Int}
  (rule:∀(i:Int) (t:Tok) (s:Shared) (Q:Value->Shared->Prop) (E:Value->Shared->Prop),Q (.int (g i) s.toks) { s with toks:=s.toks+1 }->wpAny (model X.prog X.w) X.A (f (.int i t)) Q E s) :
  UnR X f (rU λi=>.int (g i)):=by
 intro pins s σ H x v Q I rx h
 obtain⟨i,rfl,q⟩:=h
 obtain⟨t,rfl⟩:=rx
 exact rule i t s _ _ ⟨.int (g i),H,I.tok _,⟨_,rfl⟩,q⟩
theorem R8:UnR X (unaryOp .USub) (rU λi=>.int (-i)):=unI λ_ _ _ _ _ q=>neg_int q
end
def scal:V->V->Bool
 |.non,.non=>true | .non,.int _=>true | .int _,.non=>true | .non,.bl _=>true | .bl _,.non=>true | .non,.str _=>true | .str _,.non=>true
 |.int _,.int _=>true | .bl _,.bl _=>true | .str _,.str _=>true | .byt _,.byt _=>true
 |.int _,.str _=>true | .str _,.int _=>true | .bl _,.str _=>true | .str _,.bl _=>true
 |_,_=>false
def rEq:R2:=λx y H Q=>scal x y=true/\Q (.bl (decide (x=y))) H
theorem zd2 {i j:Int}:decide (V.int i=V.int j)=(i==j):=by
 rw[Bool.eq_iff_iff]
 simp
theorem Uk {i j:Bool}:decide (V.bl i=V.bl j)=(i==j):=by
 rw[Bool.eq_iff_iff]
 simp
theorem zc9 {i j:Str}:decide (V.str i=V.str j)=(i==j):=by
 rw[Bool.eq_iff_iff]
 simp
theorem Qo {i j:Array UInt8}:decide (V.byt i=V.byt j)=(i.toList==j.toList):=by
 rw[Bool.eq_iff_iff]
 cases i
 cases j
 simp
section
variable {X:Cx}{a b c:Expr}{ta tb tc:TE}{pos:Pos}
theorem zR {pins:List (Addr×Obj)}{σ:St}{H:Hp}{s:Shared}{Q:VK}{k k':Bool}(I:Inv X pins σ H s)(q:Q (.bl k) H)(e:k=k'):EP X pins σ Q (.bool k') s:=by
 subst e
 exact⟨.bl k,H,I,rfl,q⟩
theorem ze1:OpR X (compareOp .Eq) rEq:=by
 intro pins s σ H x y v u Q I rx ry h
 obtain⟨hs,q⟩:=h
 cases x with
 |non=>
  cases rx
  cases y with
  |non=>cases ry;exact PySem.EqNone.eq_none_none (zR I q (by simp))
  |bl j=>cases ry;exact PySem.EqNone.eq_none_bool (zR I q (by simp))
  |int j=>obtain⟨t',rfl⟩:=ry;exact PySem.EqNone.eq_none_int (zR I q (by simp))
  |str j=>obtain⟨t',rfl⟩:=ry;exact PySem.EqNone.eq_none_str (zR I q (by simp))
  |_=>exact absurd (show false=true from hs) Bool.false_ne_true
 |bl i=>
  cases rx
  cases y with
  |non=>cases ry;exact PySem.EqNone.eq_bool_none (zR I q (by simp))
  |bl j=>cases ry;exact eq_bool (zR I q Uk)
  |str j=>obtain⟨t',rfl⟩:=ry;exact PySem.EqMixed.eq_bool_str (zR I q (by simp))
  |_=>exact absurd (show false=true from hs) Bool.false_ne_true
 |int i=>
  obtain⟨t,rfl⟩:=rx
  cases y with
  |non=>cases ry;exact PySem.EqNone.eq_int_none (zR I q (by simp))
  |int j=>obtain⟨t',rfl⟩:=ry;exact eq_int (zR I q zd2)
  |str j=>obtain⟨t',rfl⟩:=ry;exact PySem.EqMixed.eq_int_str (zR I q (by simp))
  |_=>exact absurd (show false=true from hs) Bool.false_ne_true
 |str i=>
  obtain⟨t,rfl⟩:=rx
  cases y with
  |non=>cases ry;exact PySem.EqNone.eq_str_none (zR I q (by simp))
  |bl j=>cases ry;exact PySem.EqMixed.eq_str_bool (zR I q (by simp))
  |int j=>obtain⟨t',rfl⟩:=ry;exact PySem.EqMixed.eq_str_int (zR I q (by simp))
  |str j=>obtain⟨t',rfl⟩:=ry;exact eq_str (zR I q zc9)
  |_=>exact absurd (show false=true from hs) Bool.false_ne_true
 |byt i=>
  obtain⟨t,rfl⟩:=rx
  cases y with
  |byt j=>obtain⟨t',rfl⟩:=ry;exact PySem.W.eq_bytes (zR I q Qo)
  |_=>exact absurd (show false=true from hs) Bool.false_ne_true
 |_=>cases y<;>exact absurd (show false=true from hs) Bool.false_ne_true
theorem vc:OpR X (compareOp .Lt) (rI0 λi j=>.bl (decide (i < j))):=opB0 λ_ _ _ _ _ _ _ q=>lt_int q
theorem xK:OpR X (compareOp .LtE) (rI0 λi j=>.bl (decide (i<=j))):=opB0 λ_ _ _ _ _ _ _ q=>le_int q
theorem xb:OpR X (compareOp .Gt) (rI0 λi j=>.bl (decide (j < i))):=opB0 λ_ _ _ _ _ _ _ q=>gt_int q
theorem GG:OpR X (compareOp .In) (λx y H Q=>∃i j,x=.str i/\y=.str j/\Q (.bl (!(Builtin.Str.occurrences j i 0 j.length 1).isEmpty)) H):=by
 intro pins s σ H x y v u Q I rx ry h
 obtain⟨i,j,rfl,rfl,q⟩:=h
 obtain⟨t,rfl⟩:=rx
 obtain⟨t',rfl⟩:=ry
 exact in_str (zR I q rfl)
theorem UY:OpR X (compareOp .Is) (λx y H Q=>y=.non/\Q (.bl (decide (x=.non))) H):=by
 intro pins s σ H x y v u Q I rx ry h
 obtain⟨rfl,q⟩:=h
 cases ry
 refine is_none_gen (zR I q ?_)
 cases x<;>first
  | (cases rx;rfl)
  | (obtain⟨t,rfl⟩:=rx;rfl)
theorem OpR.or {f:Value->Value->Sem Value}{r r':R2}(h:OpR X f r)(h':OpR X f r'):OpR X f (λx y H Q=>r x y H Q∨r' x y H Q):=by
 intro pins s σ H x y v u Q I rx ry q
 rcases q with q | q
 ·exact h pins s σ H x y v u Q I rx ry q
 ·exact h' pins s σ H x y v u Q I rx ry q
theorem nomark (b:Expr){op:CmpOp}(h:op≠.In:=by decide)(h2:op≠.NotIn:=by decide):behindInMarks op b=false:=by
 have e1:(op==CmpOp.In)=false:=by cases op<;>first | rfl | exact absurd rfl h
 have e2:(op==CmpOp.NotIn)=false:=by cases op<;>first | rfl | exact absurd rfl h2
 cases b<;>simp[behindInMarks,e1,e2]
theorem kB {op:CmpOp}{r:R2}(ho:OpR X (compareOp op) r)(ha:PE X a ta)(hb:PE X b tb)(hm:behindInMarks op b=false):PE X (.Compare a [op] [b] pos) (tOp r ta tb):=by
 intro pins s σ H Q I h
 exact wpAny_Compare1 (binT ha hb I h λv u s2 x y H2 I2 rx ry q=>ho pins s2 σ H2 x y v u Q I2 rx ry q) hm
def tTest (t:TE):TT:=λσ H Q=>t σ H λx H'=>∃k,x=.bl k/\Q k H'
theorem zdj {op:CmpOp}{r:R2}(ho:OpR X (compareOp op) r)(ha:PE X a ta)(hb:PE X b tb)(hm:behindInMarks op b=false):PT X (.Compare a [op] [b] pos) (tTest (tOp r ta tb)):=by
 intro pins s σ H Q I h
 refine wpAny_isTrue_Compare1 (thn (ha pins s σ H _ I h) λv s1 ⟨x,H1,I1,r1,q1⟩=>thn (hb pins s1 σ H1 _ I1 q1) λu s2 ⟨y,H2,I2,r2,q2⟩=>
  thn (ho pins s2 σ H2 x y v u _ I2 r1 r2 q2) λc s3 ⟨z,H3,I3,r3,k,e,q3⟩=>?_) hm
 subst e
 cases r3
 exact wpAny_truthy_bool ⟨H3,I3,q3⟩
def tChain (r r':R2)(ta tb tc:TE):TE:=λσ H Q=>ta σ H λx H1=>tb σ H1 λy H2=>r x y H2 λz H3=>∃k,z=.bl k /\
 (if k=true then tc σ H3 λw' H4=>r' y w' H4 Q else Q (.bl false) H3)
theorem Gi {op op':CmpOp}{r r':R2}(ho:OpR X (compareOp op) r)(ho':OpR X (compareOp op') r')(ha:PE X a ta)(hb:PE X b tb)(hc:PE X c tc)
  (hm:lastMarks [op,op'] [b,c]=false:=by with_unfolding_all rfl):PE X (.Compare a [op,op'] [b,c] pos) (tChain r r' ta tb tc):=by
 intro pins s σ H Q I h
 refine Compare_chain (thn (ha pins s σ H _ I h) λv s1 ⟨x,H1,I1,r1,q1⟩=>chain_link (thn (hb pins s1 σ H1 _ I1 q1) λu s2 ⟨y,H2,I2,r2,q2⟩=>
  thn (ho pins s2 σ H2 x y v u _ I2 r1 r2 q2) λd s3 ⟨z,H3,I3,r3,k,e,q3⟩=>?_)) hm
 subst e
 cases r3
 refine wpAny_truthy_bool ?_
 cases k with
 |false=>exact ite_ff ⟨.bl false,H3,I3,rfl,q3⟩
 |true=>exact ite_tt (chain_last (thn (hc pins s3 σ H3 _ I3 q3) λw' s4 ⟨z',H4,I4,r4,q4⟩=>ho' pins s4 σ H4 y z' u w' Q I4 r2 r4 q4))
theorem UI {op op':CmpOp}{r r':R2}(ho:OpR X (compareOp op) r)(ho':OpR X (compareOp op') r')(ha:PE X a ta)(hb:PE X b tb)(hc:PE X c tc)
  (hm:lastMarks [op,op'] [b,c]=false:=by with_unfolding_all rfl):PT X (.Compare a [op,op'] [b,c] pos) (tTest (tChain r r' ta tb tc)):=by
 intro pins s σ H Q I h
 refine isTrue_chain (thn (ha pins s σ H _ I h) λv s1 ⟨x,H1,I1,r1,q1⟩=>test_link (thn (hb pins s1 σ H1 _ I1 q1) λu s2 ⟨y,H2,I2,r2,q2⟩=>
  thn (ho pins s2 σ H2 x y v u _ I2 r1 r2 q2) λd s3 ⟨z,H3,I3,r3,k,e,q3⟩=>?_)) hm
 subst e
 cases r3
 refine wpAny_truthy_bool ?_
 cases k with
 |false=>
  obtain⟨k',e',q'⟩:=q3
  cases e'
  exact ite_ff ⟨H3,I3,q'⟩
 |true=>
  refine ite_tt (test_last (thn (hc pins s3 σ H3 _ I3 q3) λw' s4 ⟨z',H4,I4,r4,q4⟩=>thn (ho' pins s4 σ H4 y z' u w' _ I4 r2 r4 q4) λd' s5 ⟨z2,H5,I5,r5,k2,e2,q5⟩=>?_))
  subst e2
  cases r5
  exact wpAny_truthy_bool ⟨H5,I5,q5⟩
def TruV (K:PySem.W.Frag)(x:V)(H:Hp)(k:Bool):Prop :=
 match x with
 |.non=>k=false
 |.bl b=>k=b
 |.int i=>k=(i != 0)
 |.str y=>y.length<=sizeLine/\k=((y.length:Int) != 0)
 |.byt y=>y.size<=sizeLine/\k=((y.size:Int) != 0)
 |.ref p=>(∃xs,SqL K H p xs/\k=!xs.isEmpty)∨(∃xs,SqT K H p xs/\k=!xs.isEmpty)∨∃kvs,H p=some (.dK kvs)/\k=!kvs.isEmpty
 |_=>False
theorem GH {κ:Type}{kvs:List (κ×V)}{vs:List (κ×Value)}(r:KV kvs vs):(!vs.isEmpty)=!kvs.isEmpty:=by
 cases r<;>rfl
theorem WL {xs:List V}{its:List Value}(r:Vals xs its):(!its.toArray.isEmpty)=!xs.isEmpty:=by
 cases r<;>simp
theorem line63:(sizeLine:Nat) < 2 ^ 63:=by rw[sizeLine_eq];decide
theorem Qq:TruR X (λx H Q=>∃k,TruV X.K x H k/\Q k H):=by
 intro pins s σ H x v Q I rx h
 obtain⟨k,e,q⟩:=h
 have hl:=line63
 have hs:sizeLine=16777216:=sizeLine_eq
 cases x with
 |non=>
  cases rx
  have e':k=false:=e
  subst e'
  exact truthy_none ⟨H,I,q⟩
 |bl b=>
  cases rx
  have e':k=b:=e
  subst e'
  exact wpAny_truthy_bool ⟨H,I,q⟩
 |int i=>
  obtain⟨t,rfl⟩:=rx
  have e':k=(i != 0):=e
  subst e'
  exact PySem.P.truthy_int ⟨H,I,q⟩
 |str y=>
  obtain⟨t,rfl⟩:=rx
  obtain⟨hy,e'⟩:y.length<=sizeLine/\k=((y.length:Int) != 0):=e
  subst e'
  exact PySem.P.truthy_str (by omega) ⟨H,I.tok _,q⟩
 |byt y=>
  obtain⟨t,rfl⟩:=rx
  obtain⟨hy,e'⟩:y.size<=sizeLine/\k=((y.size:Int) != 0):=e
  subst e'
  exact PySem.W.truthy_bytes (by omega) ⟨H,I.tok _,q⟩
 |ref p=>
  cases rx
  have e':(∃xs,SqL X.K H p xs/\k=!xs.isEmpty)∨(∃xs,SqT X.K H p xs/\k=!xs.isEmpty)∨∃kvs,H p=some (.dK kvs)/\k=!kvs.isEmpty:=e
  rcases e' with⟨xs,hx,e'⟩ | ⟨xs,hx,e'⟩ | ⟨kvs,hx,e'⟩
  ·subst e'
   obtain⟨its,r,pl,hz⟩:=I.list hx
   have hlen:=r.length
   exact wpAny_truthy_list pl.isList (by simp only[List.size_toArray];omega) ⟨H,I.tok _,by rw[WL r];exact q⟩
  ·subst e'
   obtain⟨its,r,pl,hz⟩:=I.tuple hx
   have hlen:=r.length
   exact truthy_tuple pl (by simp only[List.size_toArray];omega) ⟨H,I.tok _,by rw[WL r];exact q⟩
  ·subst e'
   obtain⟨hz,hS,vs,r,m⟩:kvs.length<=sizeLine/\(p==sysModules)=false/\∃vs,KV kvs vs/\s.heap.DictOf (zE X.prog X.w) p vs:=I.hok p _ hx
   have hlen:kvs.length=vs.length:=Paired.length r
   exact wpAny_truthy_dict hS m (by omega) ⟨H,I.tok _,by rw[GH r];exact q⟩
 |_=>exact (show False from e).elim
theorem Uh (ha:PE X a ta)(he:∀whole,isTrue a X.env whole=(do let v <-whole;standAt a.pos;holding [v] (truthy v))) :
  PT X a (λσ H Q=>ta σ H λx H'=>∃k,TruV X.K x H' k/\Q k H'):=by
 intro pins s σ H Q I h
 exact isTrue_plain (thn (ha pins s σ H _ I h) λv s1 ⟨x,H1,I1,r1,q1⟩=>Qq pins s1 σ H1 x v Q I1 r1 q1) (he _)
theorem UB:OpR X (binaryOp .Add) (λx y H Q=>∃i j,x=.str i/\y=.str j/\i.length+j.length<=sizeLine/\Q (.str (i++j)) H):=by
 intro pins s σ H x y v u Q I rx ry h
 obtain⟨i,j,rfl,rfl,hz,q⟩:=h
 obtain⟨t,rfl⟩:=rx
 obtain⟨t',rfl⟩:=ry
 exact add_str (λt' tk=>⟨.str (i++j),H,I.tok _,⟨_,rfl⟩,q⟩) hz
theorem vals1 {x:V}{us:List Value}(r:Vals [x] us):∃u,us=[u]/\RelV x u:=by
 cases r with
 |cons r1 r2=>cases r2;exact⟨_,rfl,r1⟩
theorem vals2 {x y:V}{us:List Value}(r:Vals [x,y] us):∃u w',us=[u,w']/\RelV x u/\RelV y w':=by
 cases r with
 |cons r1 r2=>
  cases r2 with
  |cons r3 r4=>cases r4;exact⟨_,_,rfl,r1,r3⟩
theorem KQ (hc:X.calm=true):CallR X (.builtin "min") (λxs H Q=>∃i j,xs=[.int i,.int j]/\Q (.int (if j < i then j else i)) H):=by
 intro pins s σ H xs us Q I r h
 obtain⟨i,j,rfl,q⟩:=h
 obtain⟨u,w',rfl,⟨t,rfl⟩,⟨t',rfl⟩⟩:=vals2 r
 refine min_two_ints (I.ok.hd hc) λh' tk k=>⟨_,H,I.kept k,?_,q⟩
 by_cases hj:j < i
 ·rw[if_pos hj,if_pos hj];exact⟨_,rfl⟩
 ·rw[if_neg hj,if_neg hj];exact⟨_,rfl⟩
def LenV (K:PySem.W.Frag)(x:V)(H:Hp)(n:Nat):Prop :=
 match x with
 |.str y=>y.length<=sizeLine/\n=y.length
 |.byt y=>y.size<=sizeLine/\n=y.size
 |.ref p=>(∃xs,SqL K H p xs/\n=xs.length)∨∃xs,SqT K H p xs/\n=xs.length
 |_=>False
theorem JB:CallR X (.builtin "len") (λxs H Q=>∃x n,xs=[x]/\LenV X.K x H n/\Q (.int n) H):=by
 intro pins s σ H xs us Q I r h
 obtain⟨x,n,rfl,e,q⟩:=h
 obtain⟨u,rfl,rx⟩:=vals1 r
 have hl:=line63
 have hs:sizeLine=16777216:=sizeLine_eq
 cases x with
 |str y=>
  obtain⟨t,rfl⟩:=rx
  obtain⟨hy,e'⟩:y.length<=sizeLine/\n=y.length:=e
  subst e'
  exact len_str (by omega) ⟨.int _,H,I.tok _,⟨_,rfl⟩,q⟩
 |byt y=>
  obtain⟨t,rfl⟩:=rx
  obtain⟨hy,e'⟩:y.size<=sizeLine/\n=y.size:=e
  subst e'
  exact PySem.W.len_bytes (by omega) ⟨.int _,H,I.tok _,⟨_,rfl⟩,q⟩
 |ref p=>
  cases rx
  have e':(∃xs,SqL X.K H p xs/\n=xs.length)∨∃xs,SqT X.K H p xs/\n=xs.length:=e
  rcases e' with⟨xs,hx,e'⟩ | ⟨xs,hx,e'⟩
  ·subst e'
   obtain⟨its,r',pl,hz⟩:=I.list hx
   have hlen:=r'.length
   exact Calls.call_len_list pl.isList (by simp only[List.size_toArray];omega) ⟨.int xs.length,H,I.tok _,⟨_,by simp only[List.size_toArray];rw[hlen]⟩,q⟩
  ·subst e'
   obtain⟨its,r',pl,hz⟩:=I.tuple hx
   have hlen:=r'.length
   exact len_tuple pl (by simp only[List.size_toArray];omega) ⟨.int xs.length,H,I.tok _,⟨_,by simp only[List.size_toArray];rw[hlen]⟩,q⟩
 |_=>exact (show False from e).elim
end
structure ObjM (h:Heap)(x dx C:Addr)(mA:Str->Option Value):Prop where
 obj:h.get? x=some (instObj C dx)
 ns:h.Ns1 dx mA
 ne:dx≠x
theorem G6 {h:Heap}{dx:Addr}{mA:Str->Option Value}(n:h.Ns1 dx mA):∃od,h.get? dx=some od/\∀name,PySem.W.lookIn name od=some (mA name):=by
 obtain⟨o,es,ep,ho,hd,hk,_,hm⟩:=n
 refine⟨o,ho,λname=>?_⟩
 have e:=hm name
 unfold nsFind findBy at e
 rw[<-Array.find?_toList] at e
 unfold PySem.W.lookIn
 rw[hd]
 dsimp only
 split
 ·rename_i y q
  rw[q] at e
  exact congrArg some e
 ·rename_i q
  rw[q] at e
  have a:es.toList.any (·.refKey)=false:=by
   rw[List.any_eq_false]
   intro y hy
   obtain⟨z,t,hkey⟩:=hk y (Array.mem_toList_iff.mp hy)
   simp[DictEntry.refKey,hkey]
  have a':¬es.toList.any (·.refKey)=true:=by rw[a];exact Bool.false_ne_true
  rw[if_neg a']
  exact congrArg some e
theorem ObjM.look {h:Heap}{x dx C:Addr}{mA:Str->Option Value}(I:ObjM h x dx C mA):∃od,InstAt h x (instObj C dx) C (some od)/\∀name,PySem.W.lookIn name od=some (mA name) :=
 let ⟨od,ho,hl⟩:=G6 I.ns
 ⟨od,⟨I.obj,rfl,rfl,ho⟩,hl⟩
section
variable {prog:Program}{w:World}{A:Around}{E:Value->Shared->Prop}{s:Shared}{K:PySem.W.Frag}{x dx C f:Addr}{mA:Str->Option Value}{name:Str}{v:Value}
theorem ze3 {expr:Bool}{Q:Value->Shared->Prop}(X:K.In s.heap)(I:ObjM s.heap x dx C mA)(hg:plainGet K C name=true)(hh:hasDictIn K C=true)
  (ha:findIn K (.ref C) name=some none) (hv:mA name=some v) (hv':PySem.W.handedIn v=true) (h:Q v { s with toks:=s.toks+1 }) :
  wpAny (model prog w) A (getAttr (.ref x) name expr) Q E s:=by
 obtain⟨od,J,hl⟩:=I.look
 exact PySem.W.get_value X J (PySem.W.plainGet_of hg).1 (PySem.W.findObj_own hh ha rfl (by rw[hl,hv])) hv' h
theorem G5 {pl:Sem Bool}{Q:Value×List Value->Shared->Prop}(X:K.In s.heap)(I:ObjM s.heap x dx C mA)(hg:plainGet K C name=true)
  (hf:findIn K (.ref C) name=some (some (.ref f))) (ht:PySem.W.isFn K (.ref f)=true) (hv:mA name=none) (h:Q (.ref f,[.ref x]) s) :
  wpAny (model prog w) A (getMethod (.ref x) name pl) Q E s:=by
 obtain⟨od,J,hl⟩:=I.look
 exact PySem.W.method_fn X J (PySem.W.plainGet_of hg).1 (PySem.W.plainGet_of hg).2 hf (beq_iff_eq.mp ht) (by show (PySem.W.lookIn name od).map (·.isSome)=some false;rw[hl,hv];rfl) h
theorem GU {ns:List Str}{Q:Unit->Shared->Prop}(X:K.In s.heap)(I:ObjM s.heap x dx C mA)
  (hs:findIn K (.ref C) "__setattr__" = some (some (.builtin "object.__setattr__"))) (hp:PySem.W.plainOver K C=true) (ht:takerIn K C name=some none) (hh:hasDictIn K C=true)
  (hw:PySem.Within mA ns) (hsz:ns.length<=sizeLine)
  (h:∀h',ObjM h' x dx C (λy=>if y=name then some v else mA y)->Heap.SameBut dx s.heap h'->Q () { s with heap:=h',toks:=s.toks+2 }) :
  wpAny (model prog w) A (setAttr (.ref x) name v) Q E s:=by
 obtain⟨od,J,hl⟩:=I.look
 refine PySem.W.set_plain X J hs (PySem.W.osa_open (s:={ s with toks:=s.toks+1 }) (r:=none) X J hp ht λb=>?_)
 obtain⟨cd,hc,hd'⟩:=PySem.W.any_some hh
 have hx:s.heap.get? x=some ⟨.ref C,some dx,.plain,#[]⟩:=I.obj
 refine wpAny_bind (wpAny_pure (wpAny_bind (wpAny_bind (wpAny_loadPart hx (wpAny_bind (PySem.W.Looks.here (s:={ s with toks:=s.toks+1 }) (PySem.W.looks_clsIn X hc) ?_))))))
 rw[hd']
 refine wpAny_pure (a:=some dx) (wpAny_bind (wpAny_pure (wpAny_bind ?_)))
 refine wpAny_nsSet1 (s:={ s with toks:=s.toks+1 }) I.ns λh' hn2 hs2=>?_
 obtain⟨oD,esD,epD,hoD,hdD,hcD⟩:=hn2.count (PySem.Within.cons name v hw)
 refine wpAny_bind (wpAny_lookBehind hoD (by rw[hdD];exact pastItsLine_dict (Nat.le_trans hcD (by rw[List.length_cons];omega))) ?_)
 exact wpAny_pure (h _ ⟨(hs2.2 _ (Ne.symm I.ne)).trans I.obj,hn2,I.ne⟩ hs2)
theorem zeq {R:Result->Shared->Prop}{vs:List Value}{kw:List (Str×Value)}(X:K.In s.heap)(hm:PySem.W.makesIn K C=true)
  (hi:findIn K (.ref C) "__init__" = some (some (.ref f))) (hf:PySem.W.typeIn K (.ref f)=some (.type "function"))
  (h:codeAny (model prog w) (A.under (.builtin "type.__call__" ⟨.ref C::vs,kw⟩)) (.call (.ref f) ⟨.ref (s.heap.objs.size+1)::vs,kw⟩) (PySem.W.InitBack (s.heap.objs.size+1) R)
   { s with heap:=(s.heap.push emptyDict).push (instObj C s.heap.objs.size) }) :
  codeAny (model prog w) A (.call (.ref C) ⟨vs,kw⟩) R s:=by
 obtain⟨hh,g,d,t,os⟩:=s
 exact PySem.W.make_core (PySem.W.makes_of X hm) (looks_findIn X hi) (λself=>PySem.W.bind_fn X self hf) (.inl rfl) h
end
def putF (f:Str)(v:V):List (Str×V)->List (Str×V)
 | []=>[(f,v)]
 | (g,x)::r=>if g=f then (g,v)::r else (g,x)::putF f v r
theorem Ju (f g:Str)(v:V):∀fs:List (Str×V),(putF f v fs).lookup g=if g=f then some v else fs.lookup g
 | []=>by
  show List.lookup g [(f,v)]=_
  by_cases h:g=f
  ·have hb:(g==f)=true:=beq_iff_eq.mpr h
   simp only[List.lookup,hb,if_pos h]
  ·have hb:(g==f)=false:=beq_eq_false_iff_ne.mpr h
   simp only[List.lookup,hb,if_neg h]
 | (k,x)::r=>by
  have ih:=Ju f g v r
  rw[show putF f v ((k,x)::r)=(if k=f then (k,v)::r else (k,x)::putF f v r) from rfl]
  by_cases hk:k=f
  ·rw[if_pos hk]
   by_cases h:g=k
   ·have hb:(g==k)=true:=beq_iff_eq.mpr h
    simp only[List.lookup,hb,if_pos (h.trans hk)]
   ·have hb:(g==k)=false:=beq_eq_false_iff_ne.mpr h
    simp only[List.lookup,hb,if_neg (λe:g=f=>h (e.trans hk.symm))]
  ·rw[if_neg hk]
   by_cases h:g=k
   ·have hb:(g==k)=true:=beq_iff_eq.mpr h
    simp only[List.lookup,hb,if_neg (λe:g=f=>hk (h.symm.trans e))]
   ·have hb:(g==k)=false:=beq_eq_false_iff_ne.mpr h
    simp only[List.lookup,hb]
    exact ih
theorem kh (f:Str)(v:V):∀fs:List (Str×V),f∈(putF f v fs).map (·.1)/\∀g,g∈fs.map (·.1)->g∈(putF f v fs).map (·.1)
 | []=>⟨by simp[putF],λg h=>by simp at h⟩
 | (k,x)::r=>by
  obtain⟨i1,i2⟩:=kh f v r
  rw[show putF f v ((k,x)::r)=(if k=f then (k,v)::r else (k,x)::putF f v r) from rfl]
  by_cases hk:k=f
  ·rw[if_pos hk]
   subst hk
   exact⟨by simp,λg h=>by simpa using h⟩
  ·rw[if_neg hk]
   refine⟨?_,λg h=>?_⟩
   ·rw[List.map_cons]
    exact List.mem_cons_of_mem _ i1
   ·rw[List.map_cons] at h ⊢
    rcases List.mem_cons.mp h with e | e
    ·exact List.mem_cons.mpr (.inl e)
    ·exact List.mem_cons_of_mem _ (i2 g e)
theorem YQ (f:Str)(v:V):∀fs:List (Str×V),(putF f v fs).length<=fs.length+1
 | []=>by simp[putF]
 | (k,x)::r=>by
  have ih:=YQ f v r
  rw[show putF f v ((k,x)::r)=(if k=f then (k,v)::r else (k,x)::putF f v r) from rfl]
  by_cases hk:k=f
  ·rw[if_pos hk,List.length_cons,List.length_cons];omega
  ·rw[if_neg hk,List.length_cons,List.length_cons];omega
theorem RelO.some_of {v:V}{o:Option Value}(r:RelO (some v) o):∃u,o=some u/\RelV v u:=by
 cases o with
 |none=>exact (show False from r).elim
 |some u=>exact⟨u,rfl,r⟩
theorem RelO.none_of {o:Option Value}(r:RelO none o):o=none:=by
 cases o with
 |none=>rfl
 |some u=>exact (show False from r).elim
theorem Y2 {v:V}{u:Value}(r:RelV v u):PySem.W.handedIn u=true:=by
 cases v with
 |non=>cases (show u=Value.none from r);rfl
 |bl b=>cases (show u=Value.bool b from r);rfl
 |int i=>obtain⟨t,e⟩:=(show ∃t,u=Value.int i t from r);cases e;rfl
 |str x=>obtain⟨t,e⟩:=(show ∃t,u=Value.str x t from r);cases e;rfl
 |byt b=>obtain⟨t,e⟩:=(show ∃t,u=Value.bytes b t from r);cases e;rfl
 |flt b=>obtain⟨t,e⟩:=(show ∃t,u=Value.float b t from r);cases e;rfl
 |ref a=>cases (show u=Value.ref a from r);rfl
 |ty n=>cases (show u=Value.type n from r);rfl
section
variable {P:Program}{w:World}{H H':Hp}{h h':Heap}{a C dx:Addr}{fs fs':List (Str×V)}
theorem j4 (hok:HOk P w H h)(e:H a=some (.ins C dx fs)):∃mA,ObjM h a dx C mA/\(∀f,RelO (fs.lookup f) (mA f))/\PySem.Within mA (fs.map (·.1))/\fs.length<=1000/\H dx=some (.own a):=by
 obtain⟨d,z,ne,ob,mA,n,r,q⟩:=(show ObjOk P w H h a (.ins C dx fs) from hok a _ e)
 exact⟨mA,⟨ob,n,ne⟩,r,q,z,d⟩
end
structure Cls (K:PySem.W.Frag)(C:Addr):Prop where
 pg:plainGet K C Str.empty=true
 hd:hasDictIn K C=true
 po:PySem.W.plainOver K C=true
 sa:findIn K (.ref C) "__setattr__" = some (some (.builtin "object.__setattr__"))
theorem Cls.get {K:PySem.W.Frag}{C:Addr}(c:Cls K C)(f:Str):plainGet K C f=true:=c.pg
def NoAttr (K:PySem.W.Frag)(C:Addr)(f:Str):Prop:=findIn K (.ref C) f=some none
theorem NoAttr.taker {K:PySem.W.Frag}{C:Addr}{f:Str}(n:NoAttr K C f):takerIn K C f=some none:=by
 unfold takerIn
 rw[show findIn K (.ref C) f=some none from n]
 rfl
structure Con (K:PySem.W.Frag)(C:Addr)(f:Str)(v:V)(u:Value):Prop where
 at_:findIn K (.ref C) f=some (some u)
 rel:RelV v u
 get:PySem.W.specialIn K u "__get__" = some none
 cp:PySem.W.copiedNames.contains f=false
structure Meth (K:PySem.W.Frag)(C:Addr)(m:Str)(f:Addr):Prop where
 at_:findIn K (.ref C) m=some (some (.ref f))
 fn:PySem.W.isFn K (.ref f)=true
 kp:keepIn K (.ref f)=true
section
variable {X:Cx}{pins:List (Addr×Obj)}{σ:St}{H:Hp}{s:Shared}{a C dx:Addr}{fs:List (Str×V)}{f:Str}{v:V}{A:Around}{E:Value->Shared->Prop}
theorem zdy {b:Bool}{Q:Value->Shared->Prop}(I:Inv X pins σ H s)(e:H a=some (.ins C dx fs))(c:Cls X.K C)(n:NoAttr X.K C f)(l:fs.lookup f=some v)
  (h:∀u s',Inv X pins σ H s'->RelV v u->Q u s'):wpAny (model X.prog X.w) A (getAttr (.ref a) f b) Q E s:=by
 obtain⟨mA,O,r,_,_,_⟩:=j4 I.hok e
 obtain⟨u,hu,ru⟩:=RelO.some_of (v:=v) (o:=mA f) (by rw[<-l];exact r f)
 exact ze3 I.kIn O (c.get f) c.hd n hu (Y2 ru) (h u _ (I.tok _) ru)
theorem G7 {m:Str}{g:Addr}{pl:Sem Bool}{Q:Value×List Value->Shared->Prop}(I:Inv X pins σ H s)(e:H a=some (.ins C dx fs))(c:Cls X.K C)(k:Meth X.K C m g)(l:fs.lookup m=none)
  (h:Q (.ref g,[.ref a]) s):wpAny (model X.prog X.w) A (getMethod (.ref a) m pl) Q E s:=by
 obtain⟨mA,O,r,_,_,_⟩:=j4 I.hok e
 have hn:mA m=none:=RelO.none_of (by rw[<-l];exact r m)
 exact G5 I.kIn O (c.get m) k.at_ k.fn hn h
theorem GB {y:V}{u:Value}{Q:Unit->Shared->Prop}(I:Inv X pins σ H s)(e:H a=some (.ins C dx fs))(c:Cls X.K C)(n:NoAttr X.K C f)(hl:fs.length < 1000)(ry:RelV y u)
  (h:∀s',Inv X pins σ (upd H a (.ins C dx (putF f y fs))) s'->Q () s'):wpAny (model X.prog X.w) A (setAttr (.ref a) f u) Q E s:=by
 obtain⟨mA,O,r,wi,_,ho⟩:=j4 I.hok e
 have hz:(fs.map (·.1)).length<=sizeLine:=by rw[List.length_map,sizeLine_eq];omega
 refine GU I.kIn O c.sa c.po n.taker c.hd wi hz λh' O' sb=>h _ ?_
 have hd:∃o,h'.get? dx=some o:=let ⟨o,_,_,e',_⟩:=O'.ns;⟨o,e'⟩
 refine I.write (x:=a) (e:=dx) (by rw[e];exact True.intro) (.inr ho) (λb q hb z=>(sb.2 b hb).trans z) hd ?_
 refine⟨by rw[zg O.ne];exact ho,?_,O.ne,O'.obj,_,O'.ns,λg=>?_,λg hg=>?_⟩
 ·have:=YQ f y fs;omega
 ·show RelO ((putF f y fs).lookup g) (if g=f then some u else mA g)
  rw[Ju]
  by_cases q:g=f
  ·rw[if_pos q,if_pos q];exact ry
  ·rw[if_neg q,if_neg q];exact r g
 ·by_cases q:g=f
  ·rw[q];exact (kh f y fs).1
  ·refine (kh f y fs).2 g (wi g λz=>hg ?_)
   show (if g=f then some u else mA g)=none
   rw[if_neg q];exact z
theorem Inv.made (I:Inv X pins σ H s):Inv X pins σ (upd (upd H s.heap.objs.size (.own (s.heap.objs.size+1))) (s.heap.objs.size+1) (.ins C s.heap.objs.size []))
  { s with heap:=(s.heap.push emptyDict).push (instObj C s.heap.objs.size) }:=by
 have e1:(s.heap.push emptyDict).get? s.heap.objs.size=some emptyDict:=Heap.get?_push_size s.heap rfl
 have e2:((s.heap.push emptyDict).push (instObj C s.heap.objs.size)).get? (s.heap.objs.size+1)=some (instObj C s.heap.objs.size):=by
  have:=Heap.get?_push_size (s.heap.push emptyDict) (o:=instObj C s.heap.objs.size) rfl
  rwa [Heap.size_push] at this
 have e3:(s.heap.push emptyDict).Ns s.heap.objs.size (λ_=>none):=⟨emptyDict,#[],_,e1,rfl,(λe he=>absurd he (by simp)),λ_=>rfl⟩
 have I1:=I.laid (a:=s.heap.objs.size) (o:=.own (s.heap.objs.size+1)) (h':=s.heap.push emptyDict) (t':=s.toks) (λb u q=>Heap.get?_push_of_some _ q) (Nat.le_refl _) ⟨_,e1⟩
 refine I1.laid (a:=s.heap.objs.size+1) (o:=.ins C s.heap.objs.size []) (t':=s.toks) (λb u q=>Heap.get?_push_of_some _ q) (Nat.le_of_eq (Heap.size_push _ _)) ?_
 have ne:s.heap.objs.size≠s.heap.objs.size+1:=Nat.ne_of_lt (Nat.lt_succ_self _)
 refine⟨by rw[zg ne,zl],Nat.zero_le _,ne,e2,λ_=>none,(Heap.Ns1.of_empty e3).at λo q=>Heap.get?_push_of_some _ q,λ_=>True.intro,λy hy=>absurd rfl hy⟩
theorem Vf {prog:Program}{w:World}{env:Env}{e:Expr}{f:Str}{pos:Pos}{s:Shared}{Q:Value->Shared->Prop}(hb:attributeBase e f env (eval e env)=eval e env)
  (h:wpAny (model prog w) A (eval e env) (λo s₁=>wpAny (model prog w) A (getAttr o f true) Q E s₁) E s):wpAny (model prog w) A (eval (.Attribute e f pos) env) Q E s :=
 Attribute_any_ h (by rw[arm_eval_Attribute,hb])
end
def tFld (K:PySem.W.Frag)(ta:TE)(f:Str):TE:=λσ H Q=>ta σ H λx H1=>∃a C dx fs v,x=.ref a/\H1 a=some (.ins C dx fs)/\Cls K C/\NoAttr K C f/\fs.lookup f=some v/\Q v H1
def sFld (K:PySem.W.Frag)(ta tv:TE)(f:Str):TS:=λD σ H=>tv σ H λy H1=>ta σ H1 λx H2=>∃a C dx fs,x=.ref a/\H2 a=some (.ins C dx fs)/\Cls K C/\NoAttr K C f/\fs.length < 1000 /\
 D.nx σ (upd H2 a (.ins C dx (putF f y fs)))
section
variable {X:Cx}{o e value:Expr}{f:Str}{pos pos' tpos:Pos}{ta tv:TE}
theorem zat (he:PE X e ta)(hb:attributeBase e f X.env (eval e X.env)=eval e X.env):PE X (.Attribute e f pos) (tFld X.K ta f):=by
 intro pins s σ H Q I h
 refine Vf hb (thn (he pins s σ H _ I h) λu s1 ⟨x,H1,I1,rx,a,C,dx,fs,v,ex,ea,c,n,l,q⟩=>?_)
 subst ex
 obtain rfl:u=Value.ref a:=rx
 exact zdy I1 ea c n l λu' s2 I2 ru=>⟨v,H1,I2,ru,q⟩
theorem Qz (ha:PE X o ta)(hv:PE X value tv)(hs:swapsWith value (some (.Attribute o f pos')) pos.line X.env=pure false):PS X (.Assign [.Attribute o f pos'] value pos) (sFld X.K ta tv f):=by
 intro pins s σ H D I h
 refine plainObj_wpAny_Assign_Attribute (thn (hv pins s σ H _ I h) λu s1 ⟨y,H1,I1,ry,q⟩=>thn (ha pins s1 σ H1 _ I1 q) λov s2 ⟨x,H2,I2,rx,a,C,dx,fs,ex,ea,c,n,l,q2⟩=>?_) hs
 subst ex
 obtain rfl:ov=Value.ref a:=rx
 exact GB I2 ea c n l ry λs3 I3=>⟨σ,_,I3,q2⟩
end
section
variable {X:Cx}{pins:List (Addr×Obj)}{σ:St}{H:Hp}{s:Shared}{A:Around}{E:Value->Shared->Prop}{Q:Value->Shared->Prop}{c:Value}{b:Bool}
inductive TyOf (K:PySem.W.Frag) (H:Hp):V->Value->Prop where
 |non:TyOf K H .non (.type "NoneType")
 |bl (x:Bool):TyOf K H (.bl x) (.type "bool")
 |int (i:Int):TyOf K H (.int i) (.type "int")
 |str (x:Str):TyOf K H (.str x) (.type "str")
 |flt (x:UInt64):TyOf K H (.flt x) (.type "float")
 |lst {a:Addr} {xs:List V} (e:H a=some (.lst xs)):TyOf K H (.ref a) (.type "list")
 |frz {a:Addr} {o:Obj} {xs:List V} (e:H a=some (.frz o (.lst xs))):TyOf K H (.ref a) (.type "list")
 |tup {a:Addr} {xs:List V} (e:H a=some (.tup xs)):TyOf K H (.ref a) (.type "tuple")
 |dK {a:Addr} {kvs:List (Key×V)} (e:H a=some (.dK kvs)):TyOf K H (.ref a) (.type "dict")
 |dT {a:Addr} {kvs:List (List Key×V)} (e:H a=some (.dT kvs)):TyOf K H (.ref a) (.type "dict")
 |ins {a C dx:Addr} {fs:List (Str×V)} (e:H a=some (.ins C dx fs)) (cl:Cls K C) (ha:findIn K (.ref C) "__class__" = some (some (.builtin "object.__class__")))
   (hn:PySem.W.specialIn K (.builtin "object.__class__") "__get__" = some (some (.builtin "getset_descriptor.__get__"))) (htk:PySem.W.takesIn K (.builtin "object.__class__")=some true)
   (hm:PySem.W.mroIn K C (.type "object")=some true):TyOf K H (.ref a) (.ref C)
theorem za6 {x:V}{u t:Value}(I:Inv X pins σ H s)(rx:RelV x u)(ty:TyOf X.K H x t)(e:kitOne X.K t c=some b)(h:∀tk,Q (.bool b) { s with toks:=tk }) :
  wpAny (model X.prog X.w) A (call (.builtin "isinstance") [u,c]) Q E s:=by
 cases ty with
 |non=>cases (show u=Value.none from rx);exact PySem.W.kia_one PySem.W.kitx_none I.kIn True.intro e (λz=>nomatch z) h
 |bl y=>cases (show u=Value.bool y from rx);exact PySem.W.kia_one PySem.W.kitx_bool I.kIn True.intro e (λz=>nomatch z) h
 |int i=>obtain⟨t,q⟩:=(show ∃t,u=Value.int i t from rx);cases q;exact PySem.W.kia_one PySem.W.kitx_int I.kIn True.intro e (λz=>nomatch z) h
 |str y=>obtain⟨t,q⟩:=(show ∃t,u=Value.str y t from rx);cases q;exact PySem.W.kia_one PySem.W.kitx_str I.kIn True.intro e (λz=>nomatch z) h
 |flt y=>obtain⟨t,q⟩:=(show ∃t,u=Value.float y t from rx);cases q;exact PySem.W.kia_one PySem.W.kitx_float I.kIn True.intro e (λz=>nomatch z) h
 | @lst a xs ea=>
  cases (show u=Value.ref a from rx)
  obtain⟨_,_,n,_,h1⟩:=(show ObjOk X.prog X.w H s.heap a (.lst xs) from I.hok a _ ea)
  exact PySem.W.kia_one PySem.W.kitx_list I.kIn ⟨_,h1,rfl⟩ e (λz=>nomatch z) h
 | @frz a ob xs ea=>
  cases (show u=Value.ref a from rx)
  obtain⟨_,_,_,n,_,h1⟩:=(show ObjOk X.prog X.w H s.heap a (.frz ob (.lst xs)) from I.hok a _ ea)
  exact PySem.W.kia_one PySem.W.kitx_list I.kIn ⟨_,h1,rfl⟩ e (λz=>nomatch z) h
 | @tup a xs ea=>
  cases (show u=Value.ref a from rx)
  obtain⟨_,_,_,p⟩:=(show ObjOk X.prog X.w H s.heap a (.tup xs) from I.hok a _ ea)
  obtain⟨o,h1,h2,_⟩:=p
  exact PySem.W.kia_one PySem.W.kitx_tuple I.kIn ⟨o,h1,h2⟩ e (λz=>nomatch z) h
 | @dK a kvs ea=>
  cases (show u=Value.ref a from rx)
  obtain⟨_,_,vs,_,p⟩:=(show ObjOk X.prog X.w H s.heap a (.dK kvs) from I.hok a _ ea)
  obtain⟨o,es,ep,h1,h2,_⟩:=p
  exact PySem.W.kia_one PySem.W.kitx_dict I.kIn ⟨o,h1,h2.1⟩ e (λz=>nomatch z) h
 | @dT a kvs ea=>
  cases (show u=Value.ref a from rx)
  obtain⟨_,_,xs,_,o,es,ep,h1,h2,_⟩:=(show ObjOk X.prog X.w H s.heap a (.dT kvs) from I.hok a _ ea)
  exact PySem.W.kia_one PySem.W.kitx_dict I.kIn ⟨o,h1,h2.1⟩ e (λz=>nomatch z) h
 | @ins a C dx fs ea cl ha hn htk hm=>
  cases (show u=Value.ref a from rx)
  obtain⟨mA,O,_⟩:=j4 I.hok ea
  obtain⟨od,J,_⟩:=O.look
  exact PySem.W.kia_one (PySem.W.kitx_own (cl.get _) cl.hd ha hn htk hm) I.kIn J e (λz=>nomatch z) h
end
structure Room (k:Nat)(A:Around):Prop where
 hd:A.handled=none
 dp:A.depth+3 * k+5 < recursionLimit
 un:A.units+16 * k+200 < cLine
theorem Room.mono {j k:Nat}{A:Around}(r:Room k A)(h:j<=k):Room j A:=⟨r.hd,by have:=r.dp;omega,by have:=r.un;omega⟩
theorem Room.deeper {k:Nat}{A:Around}(r:Room (k+1) A)(env:Env):Room k (A.deeper env) :=
 ⟨r.hd,by have:=r.dp;show A.depth+1+3 * k+5 < _;omega,by have:=r.un;show A.units+3+16 * k+200 < _;omega⟩
theorem zep {A:Around}{C:Addr}{us:List Value}{kw:List (Str×Value)}:(A.under (.builtin "type.__call__" ⟨.ref C::us,kw⟩)).depth=A.depth+1:=by
 first | rfl | simp[Around.under,Code.weight,Code.isCreation,Code.isGuard,Code.isCaller,Code.frames,Code.isFrame,guardIds]
theorem KM {A:Around}{C:Addr}{us:List Value}{kw:List (Str×Value)}:(A.under (.builtin "type.__call__" ⟨.ref C::us,kw⟩)).units=A.units+1:=by
 first | rfl | simp[Around.under,Code.cUnits,Code.frames,Code.isFrame]
theorem Room.make {k:Nat}{A:Around}(r:Room (k+1) A)(C:Addr)(us:List Value)(kw:List (Str×Value)):Room k (A.under (.builtin "type.__call__" ⟨.ref C::us,kw⟩)) :=
 ⟨r.hd,by have:=r.dp;rw[zep];omega,by have:=r.un;rw[KM];omega⟩
theorem Room.depth {k:Nat}{A:Around}(r:Room k A):A.depth < recursionLimit:=by have:=r.dp;omega
theorem Room.units {k:Nat}{A:Around}(r:Room k A):A.units+64 < cLine:=by have:=r.un;omega
def tNil:TA:=λ_ H Q=>Q [] H
def tCons (ta:TE)(tr:TA):TA:=λσ H Q=>ta σ H λx H1=>tr σ H1 λxs H2=>Q (x::xs) H2
section
variable {X:Cx}{e:Expr}{es:List Expr}{te:TE}{t:TA}{pos:Pos}
theorem yd:PA X [] tNil:=λ_ _ _ _ H Q I h=>Calls.spliced_nil ⟨[],H,I,.nil,h⟩
theorem zN (ha:PE X e te)(hr:PA X es t)(hs:starEach (e::es) X.env=(false,eval e X.env)::starEach es X.env:=by rfl):PA X (e::es) (tCons te t):=by
 intro pos pins s σ H Q I h
 rw[hs]
 show wpAny _ _ (spliced ((false,eval e X.env)::backTo pos (starEach es X.env))) _ _ s
 refine Calls.spliced_cons (thn (ha pins s σ H _ I h) λu s1 ⟨x,H1,I1,r1,q1⟩=>?_)
 exact thn (hr pos pins s1 σ H1 _ I1 q1) λus s2 ⟨xs,H2,I2,r2,q2⟩=>⟨x::xs,H2,I2,.cons r1 r2,q2⟩
def tTup (t:TA):TE:=λσ H Q=>t σ H λxs H1=>xs.length<=sizeLine/\∀p,H1 p=none->Q (.ref p) (upd H1 p (.tup xs))
def tLst (t:TA):TE:=λσ H Q=>t σ H λxs H1=>xs.length<=sizeLine/\∀p,H1 p=none->Q (.ref p) (upd H1 p (.lst xs))
theorem uI {x1}(h:PA X es t):PE X (.Tuple es x1 pos) (tTup t):=by
 intro pins s σ H Q I hq
 refine wpAny_Tuple_spliced (thn (h pos pins s σ H _ I hq) λus s1 ⟨xs,H1,I1,r,z,q⟩=>⟨by rw[<-r.length];exact z,?_⟩)
 have hf:H1 s1.heap.objs.size=none:=I1.hok.fresh (Nat.le_refl _)
 refine⟨.ref s1.heap.objs.size,upd H1 s1.heap.objs.size (.tup xs),I1.laid (t':=s1.toks) (λb u e=>Heap.get?_push_of_some _ e) (Nat.le_refl _) ?_,rfl,q _ hf⟩
 exact⟨z,us,r,⟨_,Heap.get?_push_size _ rfl,rfl,_,rfl⟩⟩
theorem zea (h:PA X es t):PE X (.List es pos) (tLst t):=by
 intro pins s σ H Q I hq
 refine wpAny_List_spliced (thn (h pos pins s σ H _ I hq) λus s1 ⟨xs,H1,I1,r,z,q⟩=>⟨by rw[<-r.length];exact z,?_⟩)
 have hf:H1 s1.heap.objs.size=none:=I1.hok.fresh (Nat.le_refl _)
 refine⟨.ref s1.heap.objs.size,upd H1 s1.heap.objs.size (.lst xs),I1.laid (t':=s1.toks) (λb u e=>Heap.get?_push_of_some _ e) (Nat.le_refl _) ?_,rfl,q _ hf⟩
 exact⟨z,us,0,r,Heap.get?_push_size _ rfl⟩
end
abbrev Sp:=List V->Hp->VK->XK->Prop
abbrev CXT:=List Env->Hp->Shared->XK->Value->Shared->Prop
structure Env0 (P:Program)(w:World)(K:PySem.W.Frag)(mg:Str->Option Value)(base:Heap)(A:Around)(outer:List Env)(s:Shared)(H:Hp):Prop where
 frames:A.frames=some outer
 mod:Mod K mg base
 bs:∀b o,base.get? b=some o->s.heap.get? b=some o/\H b=none
 bsz:base.objs.size<=s.heap.objs.size
 funs:s.heap.FunFrames base outer
 frf:∀b∈frs outer,H b=none
 hok:HOk P w H s.heap
 bare:AllBare s.gens
def CE (outer:List Env)(P:Program)(w:World)(H:Hp)(s:Shared)(Q:VK)(u:Value)(s':Shared):Prop :=
 ∃v H',s'.os=s.os/\AllBare s'.gens/\Un (frs outer) [] H H' s.heap s'.heap/\HOk P w H' s'.heap/\RelV v u/\Q v H'
def CR (CX:CXT)(outer:List Env)(P:Program)(w:World)(H:Hp)(s:Shared)(Q:VK)(E:XK)(r:Result)(s':Shared):Prop :=
 match r with
 |.ok (.ret u)=>CE outer P w H s Q u s'
 |.ok _=>False
 |.error e=>CX outer H s E e s'
structure FnOk (P:Program)(w:World)(K:PySem.W.Frag)(mg:Str->Option Value)(base:Heap)(CX:CXT)(k:Nat)(f:Addr)(fd:FuncData)(ps:List Str)(sp:Sp):Prop where
 len:∀vs H Q E,sp vs H Q E->vs.length=ps.length
 run:∀(A:Around) (outer:List Env) (s:Shared) (H:Hp) (args:Args) (us:List Value) (vs:List V) (Q:VK) (E:XK),Room k A->Env0 P w K mg base A outer s H->BindsTo s fd args (ps.zip us)->Vals vs us->sp vs H Q E ->
  codeAny (model P w) A (.call (.ref f) args) (CR CX outer P w H s Q E) s
theorem FnOk.imp {P:Program}{w:World}{K:PySem.W.Frag}{mg:Str->Option Value}{base:Heap}{CX:CXT}{k:Nat}{f:Addr}{fd:FuncData}{ps:List Str}{sp sp':Sp}(F:FnOk P w K mg base CX k f fd ps sp)
  (h:∀vs H Q E,sp' vs H Q E->sp vs H Q E):FnOk P w K mg base CX k f fd ps sp' :=
 ⟨λvs H Q E q=>F.len vs H Q E (h _ _ _ _ q),λA outer s H args us vs Q E hr he hb hv hs=>F.run A outer s H args us vs Q E hr he hb hv (h _ _ _ _ hs)⟩
theorem Env0.make {P:Program}{w:World}{K:PySem.W.Frag}{mg:Str->Option Value}{base:Heap}{A:Around}{outer:List Env}{s:Shared}{H:Hp}(e:Env0 P w K mg base A outer s H)(C:Addr)(us:List Value)(kw:List (Str×Value)) :
  Env0 P w K mg base (A.under (.builtin "type.__call__" ⟨.ref C::us,kw⟩)) outer s H:=⟨by first | exact e.frames | (simpa[Around.under,Code.envs,Code.isFrame,pushEnvs] using e.frames),e.mod,e.bs,e.bsz,e.funs,e.frf,e.hok,e.bare⟩
section
variable {X:Cx}{pins:List (Addr×Obj)}{σ:St}{H:Hp}{s s':Shared}
theorem Inv.env0 (I:Inv X pins σ H s):Env0 X.prog X.w X.K X.mg X.base X.A X.stack s H :=
 ⟨I.ok.frames,I.ok.mod,I.bs,Nat.le_trans I.ok.bsz I.sz,I.stack,I.stkFree,I.hok,I.bare⟩
theorem Inv.after {Q:VK}{u:Value}(I:Inv X pins σ H s)(h:CE X.stack X.prog X.w H s Q u s'):EP X pins σ Q u s':=by
 obtain⟨v,H',os,bare,un,hok,r,q⟩:=h
 obtain⟨hh,g,d,t,os'⟩:=s'
 obtain rfl:os'=s.os:=os
 exact⟨v,H',I.call (h':=hh) (g':=g) (d':=d) (t':=t) (ch:=[]) un hok bare (λb z=>absurd z (by simp)),r,q⟩
end
def tCall (sp:Sp)(dvs:List V)(E:XK)(t:TA):TE:=λσ H Q=>t σ H λvs H1=>sp (vs++dvs) H1 Q E
def tMeth (C:Addr)(m:Str)(sp:Sp)(dvs:List V)(E:XK)(ta:TE)(t:TA):TE:=λσ H Q=>ta σ H λx H1=>∃a dx fs,x=.ref a/\H1 a=some (.ins C dx fs)/\fs.lookup m=none /\
 t σ H1 λvs H2=>sp (x::(vs++dvs)) H2 Q E
def tMake (C:Addr)(sp:Sp)(dvs:List V)(E:XK)(t:TA):TE:=λσ H Q=>t σ H λvs H1=>∀x dx,H1 x=none->H1 dx=none->dx≠x ->
 sp (.ref x::(vs++dvs)) (upd (upd H1 dx (.own x)) x (.ins C dx [])) (λv H2=>v=.non/\Q (.ref x) H2) E
def Binds (K:PySem.W.Frag)(fd:FuncData)(ps:List Str)(ds:List Value):Prop :=
 ∀(s:Shared) (us:List Value),K.In s.heap->(us++ds).length=ps.length->BindsTo s fd ⟨us,[]⟩ (ps.zip (us++ds))
theorem Binds.all {K:PySem.W.Frag}{fd:FuncData}{ps:List Str}(h:∀us:List Value,us.length=ps.length->bindArgs fd ⟨us,[]⟩=pure (ps.zip us)):Binds K fd ps []:=λs us _ hl=>by
 rw[List.append_nil] at hl ⊢
 exact .of_eq (h us hl)
def Passes (CX:CXT)(X:Cx)(E:XK):Prop:=∀(pins:List (Addr×Obj)) (σ:St) (H:Hp) (s:Shared) (e:Value) (s':Shared),Inv X pins σ H s->CX X.stack H s E e s'->X.xe e s'
section
variable {X:Cx}{CX:CXT}{k:Nat}{f C:Addr}{fd:FuncData}{ps:List Str}{sp:Sp}{dvs:List V}{ds:List Value}{E:XK}{x m:Str}{p pos apos:Pos}{e o:Expr}{es:List Expr}{ta:TE}{t:TA}
theorem VA {pins:List (Addr×Obj)}{σ:St}{H:Hp}{s:Shared}{Q:VK}{us:List Value}{vs:List V}(F:FnOk X.prog X.w X.K X.mg X.base CX k f fd ps sp)(hr:Room k X.A)(hb:Binds X.K fd ps ds)(hd:Vals dvs ds)(hx:Passes CX X E)
  (I:Inv X pins σ H s) (r:Vals vs us) (h:sp (vs++dvs) H Q E):wpAny (model X.prog X.w) X.A (call (.ref f) us) (EP X pins σ Q) X.xe s:=by
 have r2:Vals (vs++dvs) (us++ds):=r.append hd
 have hl:(us++ds).length=ps.length:=by rw[<-r2.length];exact F.len _ _ _ _ h
 refine wpAny_call (codeAny_mono (F.run X.A X.stack s H ⟨us,[]⟩ (us++ds) (vs++dvs) Q E hr I.env0 (hb s us I.kIn hl) r2 h) λr s' hq=>?_)
 cases r with
 |error e=>exact hx pins σ H s e s' I hq
 |ok fl=>
  cases fl with
  |ret u=>exact I.after hq
  |next=>exact False.elim hq
  |brk=>exact False.elim hq
  |cont=>exact False.elim hq
theorem y2 (F:FnOk X.prog X.w X.K X.mg X.base CX k f fd ps sp)(hr:Room k X.A)(hg:Gl X x)(hm:X.mg x=some (.ref f))(hk:keepIn X.K (.ref f)=true)(hb:Binds X.K fd ps ds)(hd:Vals dvs ds)(hx:Passes CX X E)
  (ha:PA X (e::es) t) (hdb:(x==("__debug__" : Str))=false:=by decide) (he:starEach (e::es) X.env=(false,eval e X.env)::starEach es X.env:=by rfl) (hpl:(backTo pos (starEach es X.env)).any (·.1)=false:=by rfl) :
  PE X (.Call (.Name x p) (e::es) [] pos) (tCall sp dvs E t):=by
 intro pins s σ H Q I h
 refine wpAny_Call_Name_kw (xj I hg hm ?_ hdb)
 refine PySem.W.callWith_K (h₀:=X.base) I.ok.mod.kin hk (thn (ha pos pins s σ H _ I h) λus s1 ⟨vs,H1,I1,r,q⟩=>⟨I1.kIn,?_⟩) he hpl
 exact VA F hr hb hd hx I1 r q
theorem Uy {pl:Sem Bool}(he:PE X o ta)(c:Cls X.K C)(hm:Meth X.K C m f)(F:FnOk X.prog X.w X.K X.mg X.base CX k f fd ps sp)(hr:Room k X.A)(hb:Binds X.K fd ps ds)(hd:Vals dvs ds)(hx:Passes CX X E)(ha:PA X (e::es) t)
  (hst:starEach (e::es) X.env=(false,eval e X.env)::starEach es X.env:=by rfl) (hpl:(backTo pos (starEach es X.env)).any (·.1)=false:=by rfl)
  (ht:eval (.Call (.Attribute o m apos) (e::es) [] pos) X.env=(do
   let ov <-eval o X.env
   standAt apos.atName
   let (f,first) <-holding [ov] (getMethod ov m pl)
   callWith pos f first (backTo pos (starEach (e::es) X.env)) (backToKw pos (keywordEach [] X.env))):=by rfl) :
  PE X (.Call (.Attribute o m apos) (e::es) [] pos) (tMeth C m sp dvs E ta t):=by
 intro pins s σ H Q I h
 refine PySem.W.methodCall_KW (pl:=pl) (thn (he pins s σ H _ I h) λu s1 ⟨x,H1,I1,rx,a,dx,fs,ex,ea,l,q⟩=>?_) ht
 subst ex
 obtain rfl:u=Value.ref a:=rx
 refine G7 I1 ea c hm l ?_
 refine PySem.W.callWith_K (first:=[.ref a]) (h₀:=X.base) I.ok.mod.kin hm.kp (thn (ha pos pins s1 σ H1 _ I1 q) λus s2 ⟨vs,H2,I2,r,q2⟩=>⟨I2.kIn,?_⟩) hst hpl
 exact VA (us:=.ref a::us) (vs:=.ref a::vs) F hr hb hd hx I2 (.cons rfl r) q2
structure Mk (K:PySem.W.Frag)(C f:Addr):Prop where
 makes:PySem.W.makesIn K C=true
 init:findIn K (.ref C) "__init__" = some (some (.ref f))
 fn:PySem.W.isFn K (.ref f)=true
 kp:keepIn K (.ref C)=true
theorem zc7 {pins:List (Addr×Obj)}{σ:St}{H:Hp}{s:Shared}{Q:VK}{us:List Value}{vs:List V}(M:Mk X.K C f)(F:FnOk X.prog X.w X.K X.mg X.base CX k f fd ps sp)(hr:Room (k+1) X.A)(hb:Binds X.K fd ps ds)(hd:Vals dvs ds)
  (hx:Passes CX X E) (I:Inv X pins σ H s) (r:Vals vs us)
  (h:∀x dx,H x=none->H dx=none->dx≠x->sp (.ref x::(vs++dvs)) (upd (upd H dx (.own x)) x (.ins C dx [])) (λv H2=>v=.non/\Q (.ref x) H2) E) :
  wpAny (model X.prog X.w) X.A (call (.ref C) us) (EP X pins σ Q) X.xe s:=by
 have hq:=h (s.heap.objs.size+1) s.heap.objs.size (I.hok.fresh (Nat.le_succ _)) (I.hok.fresh (Nat.le_refl _)) (Nat.ne_of_lt (Nat.lt_succ_self _))
 have I2:=Inv.made (C:=C) I
 have r2:Vals (V.ref (s.heap.objs.size+1)::(vs++dvs)) (Value.ref (s.heap.objs.size+1)::(us++ds)):=.cons rfl (r.append hd)
 have hl:(Value.ref (s.heap.objs.size+1)::us++ds).length=ps.length:=by
  have e:=r2.length
  rw[F.len _ _ _ _ hq] at e
  exact e.symm
 refine wpAny_call (zeq (f:=f) I.kIn M.makes M.init (beq_iff_eq.mp M.fn) (codeAny_mono (F.run _ X.stack _ _ ⟨Value.ref (s.heap.objs.size+1)::us,[]⟩ (Value.ref (s.heap.objs.size+1)::(us++ds)) _ _ E (hr.make C us [])
  (I2.env0.make C us []) (hb _ (Value.ref (s.heap.objs.size+1)::us) I2.kIn hl) r2 hq) λr s' hq'=>?_))
 cases r with
 |error e=>exact hx pins σ _ _ e s' I2 hq'
 |ok fl=>
  cases fl with
  |ret u=>
   obtain⟨v,H',I3,rv,ev,q3⟩:=I2.after hq'
   subst ev
   exact⟨rv,⟨V.ref (s.heap.objs.size+1),H',I3,rfl,q3⟩⟩
  |next=>exact False.elim hq'
  |brk=>exact False.elim hq'
  |cont=>exact False.elim hq'
theorem UK (M:Mk X.K C f)(F:FnOk X.prog X.w X.K X.mg X.base CX k f fd ps sp)(hr:Room (k+1) X.A)(hg:Gl X x)(hm:X.mg x=some (.ref C))(hb:Binds X.K fd ps ds)(hd:Vals dvs ds)(hx:Passes CX X E)
  (ha:PA X (e::es) t) (hdb:(x==("__debug__" : Str))=false:=by decide) (he:starEach (e::es) X.env=(false,eval e X.env)::starEach es X.env:=by rfl) (hpl:(backTo pos (starEach es X.env)).any (·.1)=false:=by rfl) :
  PE X (.Call (.Name x p) (e::es) [] pos) (tMake C sp dvs E t):=by
 intro pins s σ H Q I h
 refine wpAny_Call_Name_kw (xj I hg hm ?_ hdb)
 refine PySem.W.callWith_K (h₀:=X.base) I.ok.mod.kin M.kp (thn (ha pos pins s σ H _ I h) λus s1 ⟨vs,H1,I1,r,q⟩=>⟨I1.kIn,?_⟩) he hpl
 exact zc7 M F hr hb hd hx I1 r q
end
section
variable {X:Cx}{CX:CXT}{k:Nat}{f C:Addr}{fd:FuncData}{ps ks:List Str}{sp:Sp}{E:XK}{x m:Str}{p pos apos kpos:Pos}{e o:Expr}{es:List Expr}{kws:List Keyword}{te ta:TE}{t tk:TA}{nm:Option Str}
structure KBinds (K:PySem.W.Frag)(fd:FuncData)(ps ks:List Str)(g:List Value->List Value->List Value)(gV:List V->List V->List V):Prop where
 to:∀(s:Shared) (us ws:List Value),K.In s.heap->(g us ws).length=ps.length->BindsTo s fd ⟨us,ks.zip ws⟩ (ps.zip (g us ws))
 rel:∀ {vs:List V} {us:List Value} {zs:List V} {ws:List Value},Vals vs us->Vals zs ws->Vals (gV vs zs) (g us ws)
variable {g:List Value->List Value->List Value}{gV:List V->List V->List V}
end
structure FnScope (N P:List Str)(sc:Scope):Prop where
 kind:sc.kind=.function
 co:sc.isCoroutine=false
 gen:sc.isGenerator=false
 nd:N.Nodup
 pre:N.take P.length=P
 par:∀x∈P,sc.names.lookup x=some .local∨sc.names.lookup x=some .cell
 nofree:∀y∈sc.names,y.2≠.free
theorem Vk {kindOf:Str->Option NameKind}{x:Str}:∀ {binds:List (Str×Value)} {m:Str->Option Value},(∀v,(x,v)∉binds)->bindL kindOf binds m x=m x
 | [],_,_=>rfl
 | (n,v)::r,m,h=>by
  unfold bindL
  rw[Vk λw hw=>h w (List.mem_cons_of_mem _ hw)]
  split
  ·have:x≠n:=by rintro rfl;exact h v List.mem_cons_self
   simp[this]
  ·rfl
theorem Wl {kindOf:Str->Option NameKind}{x:Str}:∀ {binds:List (Str×Value)} {m:Str->Option Value},(∀v,(x,v)∉binds)->bindC kindOf binds m x=m x
 | [],_,_=>rfl
 | (n,v)::r,m,h=>by
  unfold bindC
  rw[Wl λw hw=>h w (List.mem_cons_of_mem _ hw)]
  split
  ·rfl
  ·have:x≠n:=by rintro rfl;exact h v List.mem_cons_self
   simp[this]
theorem Qd {kindOf:Str->Option NameKind}{x:Str}{v:Value}:∀ {P:List Str} {vs:List Value} {i:Nat} {m:Str->Option Value},P.Nodup->P[i]?=some x->vs[i]?=some v->kindOf x=some .local ->
  bindL kindOf (P.zip vs) m x=some v
 | [],_,_,_,_,h,_,_=>by simp at h
 |_::_,[],_,_,_,_,h,_=>by simp at h
 |p::P,w::vs,0,m,nd,h1,h2,hk=>by
  simp at h1 h2;subst h1;subst h2
  show bindL kindOf ((p,w)::P.zip vs) m p=_
  unfold bindL
  rw[Vk λv hv=>(List.nodup_cons.mp nd).1 (List.of_mem_zip hv).1,if_pos hk]
  simp
 |p::P,w::vs,i+1,m,nd,h1,h2,hk=>by
  show bindL kindOf ((p,w)::P.zip vs) m x=_
  unfold bindL
  exact Qd (i:=i) (List.nodup_cons.mp nd).2 (by simpa using h1) (by simpa using h2) hk
theorem Jh {kindOf:Str->Option NameKind}{x:Str}{v:Value}:∀ {P:List Str} {vs:List Value} {i:Nat} {m:Str->Option Value},P.Nodup->P[i]?=some x->vs[i]?=some v->kindOf x≠some .local ->
  bindC kindOf (P.zip vs) m x=some v
 | [],_,_,_,_,h,_,_=>by simp at h
 |_::_,[],_,_,_,_,h,_=>by simp at h
 |p::P,w::vs,0,m,nd,h1,h2,hk=>by
  simp at h1 h2;subst h1;subst h2
  show bindC kindOf ((p,w)::P.zip vs) m p=_
  unfold bindC
  rw[Wl λv hv=>(List.nodup_cons.mp nd).1 (List.of_mem_zip hv).1,if_neg hk]
  simp
 |p::P,w::vs,i+1,m,nd,h1,h2,hk=>by
  show bindC kindOf ((p,w)::P.zip vs) m x=_
  unfold bindC
  exact Jh (i:=i) (List.nodup_cons.mp nd).2 (by simpa using h1) (by simpa using h2) hk
def start (N:List Str)(vs:List V):St:=vs.map some++List.replicate (N.length - vs.length) none
def cxOf (CX:CXT)(P:Program)(w:World)(K:PySem.W.Frag)(mg:Str->Option Value)(base:Heap)(N:List Str)(qual:Str)(scope:Scope)(f:Addr)(cd:Value)(A:Around)(outer:List Env)(s:Shared)(H:Hp)(E:XK):Cx where
 prog:=P
 w:=w
 K:=K
 mg:=mg
 base:=base
 A:=A.deeper (envOfC qual scope s.heap.objs.size f cd)
 N:=N
 s₀:=s
 H₀:=H
 env:=envOfC qual scope s.heap.objs.size f cd
 outer:=outer
 stack:=envOfC qual scope s.heap.objs.size f cd::outer
 ex:=[]
 calm:=true
 fn:=λ_=>true
 pn:=[]
 xe:=λe s'=>wpAny (model P w) (A.deeper (envOfC qual scope s.heap.objs.size f cd)) (leaving (envOfC qual scope s.heap.objs.size f cd) e) (λ_ s''=>CX outer H s E e s'') (λe' s''=>CX outer H s E e' s'') s'
theorem Qc {sc:Scope}{n:Nat}{x:Str}(h:sc.names.lookup x=some .cell):∃c,(cellsFrom n sc.names []).lookup x=some c:=by
 have q:=PySem.W.cellsFrom_some sc.names n [] (.inl h)
 exact Option.isSome_iff_exists.mp q
theorem zeb {CX:CXT}{P:Program}{w:World}{K:PySem.W.Frag}{mg:Str->Option Value}{base:Heap}{N ps:List Str}{qual:Str}{scope:Scope}{f:Addr}{cd:Value}{A:Around}{outer:List Env}{s s1:Shared}{H:Hp}{E:XK}{us:List Value}{vs:List V}
  (S:FnScope N ps scope) (hd:A.handled=none) (e0:Env0 P w K mg base A outer s H) (hl:vs.length=ps.length) (r:Vals vs us)
  (x:InCallC s s.heap.objs.size (bindL (envOfC qual scope s.heap.objs.size f cd).kindOf (ps.zip us) λ_=>none) (cellsFrom (s.heap.objs.size+1) scope.names []) (bindC (envOfC qual scope s.heap.objs.size f cd).kindOf (ps.zip us) λ_=>none) s1) :
  Inv (cxOf CX P w K mg base N qual scope f cd A outer s H E) [] (start N vs) H s1:=by
 have hpl:ps.length<=N.length:=by have:=congrArg List.length S.pre;rw[List.length_take] at this;omega
 obtain⟨h1,tk,rfl,hk⟩:=x.done
 have noA:∀b:Addr,b∉(cxOf CX P w K mg base N qual scope f cd A outer s H E).ex:=λb z=>absurd (show b∈([]:List Addr) from z) (by simp)
 refine⟨⟨e0.mod,S.kind,rfl,rfl,Nat.le_refl _,λy z c h1 h2=>?_,λy hy=>?_,λy c _ h=>?_,λ_=>hd,Around.frames_deeper e0.frames,.inr ⟨rfl,rfl⟩,λb z=>absurd z (noA b),e0.bs,e0.bsz,λb _ _=>noA b,λb z=>absurd z (noA b),e0.funs,e0.frf⟩,
  rfl,e0.bare,Un.kept hk,⟨_,x.toInCall.ns,λi y v h1 h2 h3=>?_⟩,λy c h=>⟨_,x.cell y c h⟩,e0.hok.fresh (Nat.le_refl _),λy c h=>?_,λp hp=>absurd (show p∈([]:List (Addr×Obj)) from hp) (by simp),e0.hok.kept hk,?_⟩
 ·exact name_of_addr x.apart (PySem.mem_of_lookup h1) (PySem.mem_of_lookup h2)
 ·have hy:scope.names.lookup y=some .cell∨scope.names.lookup y=some .free:=hy
  rcases hy with hy | hy
  ·exact Qc hy
  ·exact absurd rfl (S.nofree _ (PySem.mem_of_lookup hy))
 ·exact Nat.le_of_lt (x.above y c (PySem.mem_of_lookup h))
 ·have hi:i < vs.length:=by
   unfold start at h2
   by_cases hi:i < vs.length
   ·exact hi
   ·rw[List.getElem?_append_right (by simpa using hi)] at h2
    rw[List.getElem?_replicate] at h2
    split at h2<;>cases h2
  have ha:vs[i]?=some v:=by
   unfold start at h2
   rw[List.getElem?_append_left (by simpa using hi),List.getElem?_map] at h2
   cases e:vs[i]? with
   |none=>rw[e] at h2;cases h2
   |some a=>rw[e] at h2;cases h2;rfl
  obtain⟨u,hu,rv⟩:=r.get ha
  have hp:ps[i]?=some y:=by
   rw[<-S.pre,List.getElem?_take_of_lt (by omega)];exact h1
  have ndP:ps.Nodup:=by rw[<-S.pre];exact S.nd.sublist (List.take_sublist _ _)
  refine⟨u,rv,?_⟩
  rcases S.par y (List.mem_of_getElem? hp) with k | k
  ·exact .inl ⟨k,Qd ndP hp hu k⟩
  ·obtain⟨c,e⟩:=Qc (n:=s.heap.objs.size+1) k
   refine .inr ⟨.inl k,c,e,?_⟩
   have q:=x.cell y c e
   rw[Jh ndP hp hu (by show scope.names.lookup y≠_;rw[k];decide)] at q
   exact q
 ·exact e0.hok.fresh (Nat.le_of_lt (x.above y c (PySem.mem_of_lookup h)))
 ·unfold start
  show _=N.length
  rw[List.length_append,List.length_map,List.length_replicate]
  omega
theorem uX {CX:CXT}{P:Program}{w:World}{K:PySem.W.Frag}{mg:Str->Option Value}{base:Heap}{k:Nat}{f:Addr}{name qual:Str}{params:Arguments}{body:List Stmt}{scope:Scope}{dV kV doc pm cdv ct oc:Value}{an od:Option Addr}
  {osl:Array (Option Value)} {N ps:List Str} {sp:Sp} (lk:K.lookup f=some ⟨oc,od,.func (fnOf name qual params body scope dV kV doc pm an cdv ct),osl⟩) (hcd:codeIn K cdv qual=true) (S:FnScope N ps scope)
  (len:∀vs H Q E,sp vs H Q E->vs.length=ps.length)
  (hbody:∀(A:Around) (outer:List Env) (s:Shared) (H:Hp) (vs:List V) (Q:VK) (E:XK),Room k (A.deeper (envOfC qual scope s.heap.objs.size f cdv))->sp vs H Q E ->
   ∃t,PSs (cxOf CX P w K mg base N qual scope f cdv A outer s H E) body t/\t { nx:=λ_ H'=>Q .non H',rt:=Q } (start N vs) H) :
  FnOk P w K mg base CX (k+1) f (fnOf name qual params body scope dV kV doc pm an cdv ct) ps sp:=by
 refine⟨len,λA outer s H args us vs Q E hr e0 hb r hsp=>?_⟩
 have hl:=len _ _ _ _ hsp
 have KX:K.In s.heap:=e0.mod.kin.keeps λb o e=>(e0.bs b o e).1
 have lim:s.heap.NoLimit:=e0.mod.nolimit.keeps λb o e=>(e0.bs b o e).1
 have hkind:∀y∈ps.zip us,scope.names.lookup y.1=some .local∨(scope.names.lookup y.1=some .cell/\((cellsFrom (s.heap.objs.size+1) scope.names []).lookup y.1).isSome=true):=fun⟨n,v⟩ hy=>by
  rcases S.par n (List.of_mem_zip hy).1 with q | q
  ·exact .inl q
  ·exact .inr ⟨q,PySem.W.cellsFrom_some _ _ _ (.inl q)⟩
 refine codeAny_call_function hr.depth (KX _ _ lk) rfl S.co S.gen rfl (PySem.W.codeRec_of KX hcd) (hb _ _ _ _ ?_)
 refine wpAny_newFunctionEnv_cells S.kind hkind λenv he s1 x=>?_
 subst he
 refine⟨lim.keeps x.toInCall.keep,codeAny_func ?_⟩
 obtain⟨t,ht,hq⟩:=hbody A outer s H vs Q E (hr.deeper _) hsp
 have I:Inv (cxOf CX P w K mg base N qual scope f cdv A outer s H E) [] (start N vs) H s1:=zeb S hr.hd e0 hl r x
 refine wpAny_mono (ht [] s1 (start N vs) H _ I hq) (λfl s' hs=>?_) λe s' hs=>hs
 have fin:∀ {σ':St} {H':Hp} {v:V} {u:Value},Inv (cxOf CX P w K mg base N qual scope f cdv A outer s H E) [] σ' H' s'->RelV v u->Q v H'->CE outer P w H s Q u s' :=
  fun {σ' H' v u} J rv q=>⟨v,H',J.os,J.bare,J.base,J.hok,rv,q⟩
 cases fl with
 |ret u=>
  obtain⟨v,σ',H',J,rv,q⟩:=hs
  exact fin J rv q
 |next=>
  obtain⟨σ',H',J,q⟩:=hs
  exact fin (v:=V.non) (u:=Value.none) J rfl q
 |brk=>
  obtain⟨_,_,_,q⟩:=hs
  exact False.elim q
 |cont=>
  obtain⟨_,_,_,q⟩:=hs
  exact False.elim q
section
variable {X:Cx}{x:Str}{p pos:Pos}{e:Expr}{es:List Expr}{t:TA}{id T:String}{r:List V->Hp->VK->Prop}
def tCB (r:List V->Hp->VK->Prop)(t:TA):TE:=λσ H Q=>t σ H λvs H1=>r vs H1 Q
theorem ju (hc:CallR X (.builtin id) r)(hg:Gl X x)(hm:X.mg x=none)(hv:bootBuiltins x=some (.builtin id))(ha:PA X (e::es) t)(hn:x ≠ "__name__" := by decide) (hdb:(x==("__debug__" : Str))=false:=by decide)
  (he:starEach (e::es) X.env=(false,eval e X.env)::starEach es X.env:=by rfl) (hpl:(backTo pos (starEach es X.env)).any (·.1)=false:=by rfl):PE X (.Call (.Name x p) (e::es) [] pos) (tCB r t):=by
 intro pins s σ H Q I h
 refine wpAny_Call_Name_kw (wM I hg hm hv ?_ hn hdb)
 exact PyProof.Rows.callWith_builtin1 (thn (ha pos pins s σ H _ I h) λus s1 ⟨vs,H1,I1,r1,q1⟩=>hc pins s1 σ H1 vs us Q I1 r1 q1) he hpl
theorem uP (hc:CallR X (.type T) r)(hg:Gl X x)(hm:X.mg x=none)(hv:bootBuiltins x=some (.type T))(ha:PA X (e::es) t)(hn:x ≠ "__name__" := by decide) (hdb:(x==("__debug__" : Str))=false:=by decide)
  (he:starEach (e::es) X.env=(false,eval e X.env)::starEach es X.env:=by rfl) (hpl:(backTo pos (starEach es X.env)).any (·.1)=false:=by rfl):PE X (.Call (.Name x p) (e::es) [] pos) (tCB r t):=by
 intro pins s σ H Q I h
 refine wpAny_Call_Name_kw (wM I hg hm hv ?_ hn hdb)
 exact PyProof.Rows.callWith_type1 (thn (ha pos pins s σ H _ I h) λus s1 ⟨vs,H1,I1,r1,q1⟩=>hc pins s1 σ H1 vs us Q I1 r1 q1) he hpl
end
end L2
namespace HT
open PySem PyProof.Rows
section
open PySem.SeqAt
open PySem.AutoSeq1 (wpAny_loadPart')
open PySem.MeetsSeq PySem.MeetsSeq2 PySem.MeetsSeq3
end
section
variable {prog:Program}{w:World}{A:Around}{E:Value->Shared->Prop}{s:Shared}
def sIx (n d:Nat):Option Int->Nat
 |none=>d
 |some v=>if v < 0 then (v+(n:Int)).toNat else min v.toNat n
end
end HT
namespace L2
open PySem PySem.Spec PyProof.Rows
abbrev TO:=St->Hp->(Option Int->Hp->Prop)->Prop
def PO (X:Cx)(e:Option Expr)(t:TO):Prop :=
 ∀(pins:List (Addr×Obj)) (s:Shared) (σ:St) (H:Hp) (Q:Option Int->Hp->Prop),Inv X pins σ H s->t σ H Q ->
  wpAny (model X.prog X.w) X.A (evalPart e X.env) (λu s'=>∃o H',Inv X pins σ H' s'/\IsPart u o/\Q o H') X.xe s
def Ku:TO:=λ_ H Q=>Q none H
def tPart (t:TE):TO:=λσ H Q=>t σ H λx H1=>∃i,x=.int i/\Q (some i) H1
section
variable {X:Cx}{e:Expr}{te:TE}{lo hi:Option Expr}{tl th:TO}{pos p2:Pos}
theorem Rm:PO X none Ku:=by
 intro pins s σ H Q I h
 rw[evalPart_none]
 exact wpAny_pure ⟨none,H,I,.none,h⟩
theorem U6 (h:PE X e te):PO X (some e) (tPart te):=by
 intro pins s σ H Q I hw
 rw[evalPart_some]
 refine thn (h pins s σ H _ I hw) λu s1 ⟨x,H1,I1,r1,q1⟩=>?_
 obtain⟨i,rfl,q⟩:=q1
 obtain⟨t,rfl⟩:=r1
 exact⟨some i,H1,I1,.int i t,q⟩
def SlR (X:Cx)(r:V->Option Int->Option Int->Hp->VK->Prop):Prop :=
 ∀(pins:List (Addr×Obj)) (s:Shared) (σ:St) (H:Hp) (x:V) (v vl vu:Value) (lo hi:Option Int) (sl:Addr) (Q:VK),Inv X pins σ H s->RelV x v->s.heap.IsSliceOf sl vl vu .none->IsPart vl lo->IsPart vu hi->r x lo hi H Q ->
  ∃T id,typeLookup (.type T) "__getitem__" = pure (some (.builtin id))/\s.TypeIs v T/\wpAny (model X.prog X.w) X.A (getItem v (.ref sl)) (EP X pins σ Q) X.xe s
def tSl (r:V->Option Int->Option Int->Hp->VK->Prop)(te:TE)(tl th:TO):TE:=λσ H Q=>te σ H λx H1=>tl σ H1 λl H2=>th σ H2 λu H3=>r x l u H3 Q
theorem YF {r:V->Option Int->Option Int->Hp->VK->Prop}(hr:SlR X r)(he:PE X e te)(hl:PO X lo tl)(hu:PO X hi th):PE X (.Subscript e (.Slice lo hi none p2) pos) (tSl r te tl th):=by
 intro pins s σ H Q I h
 refine Subscript_ (thn (he pins s σ H _ I h) λv s1 ⟨x,H1,I1,r1,q1⟩=>?_)
 refine wpAny_Slice (thn (hl pins s1 σ H1 _ I1 q1) λvl s2 ⟨l,H2,I2,pl,q2⟩=>thn (hu pins s2 σ H2 _ I2 q2) λvu s3 ⟨u,H3,I3,pu,q3⟩=>?_)
 rw[evalPart_none]
 refine wpAny_pure ?_
 have I4:Inv X pins σ H3 { s3 with heap:=s3.heap.push { cls:=.type "slice",data:=.fields #[vl,vu,.none] } }:=I3.kept (t':=s3.toks) λb ob q=>Heap.get?_push_of_some _ q
 obtain⟨T,id,hT,ht,hg⟩:=hr pins { s3 with heap:=s3.heap.push { cls:=.type "slice",data:=.fields #[vl,vu,.none] } } σ H3 x v vl vu l u s3.heap.objs.size Q I4 r1 (Heap.IsSliceOf.new ..) pl pu q3
 show wpAny (model X.prog X.w) X.A (subscriptTail e (.Slice lo hi none p2) v (.ref s3.heap.objs.size)) (EP X pins σ Q) X.xe { s3 with heap:=s3.heap.push { cls:=.type "slice",data:=.fields #[vl,vu,.none] } }
 exact tail_any (ops:=[.ref s3.heap.objs.size,v]) ht hT hg (by with_unfolding_all rfl)
def cutV (xs:List V)(lo hi:Option Int):List V:=(xs.drop (HT.sIx xs.length 0 lo)).take (HT.sIx xs.length xs.length hi - HT.sIx xs.length 0 lo)
theorem QK (xs:List V)(lo hi:Option Int):(cutV xs lo hi).length<=xs.length:=by
 unfold cutV
 rw[List.length_take,List.length_drop]
 omega
end
def ixN (n:Nat)(i:Int):Option Nat:=if 0<=i then (if i < n then some i.toNat else none) else if -(n:Int)<=i then some (i+n).toNat else none
def atI {α:Type}(xs:List α)(i:Int):Option α:=(ixN xs.length i).bind λj=>xs[j]?
theorem Wz {n:Nat}{i:Int}{j:Nat}(h:ixN n i=some j):seqIndex? i n=some j/\j < n/\-(n:Int)<=i/\i < n:=by
 unfold ixN at h
 by_cases h0:0<=i
 ·rw[if_pos h0] at h
  by_cases h1:i < n
  ·rw[if_pos h1] at h
   have e:i.toNat=j:=Option.some.inj h
   exact⟨by rw[seqIndex_of h0 h1,e],by omega,by omega,h1⟩
  ·rw[if_neg h1] at h;cases h
 ·rw[if_neg h0] at h
  by_cases h1:-(n:Int)<=i
  ·rw[if_pos h1] at h
   have e:(i+n).toNat=j:=Option.some.inj h
   exact⟨by rw[seqIndex_neg (by omega) h1,e],by omega,h1,by omega⟩
  ·rw[if_neg h1] at h;cases h
theorem ZB {α:Type}{xs:List α}{i:Int}{v:α}(h:atI xs i=some v):∃j,seqIndex? i xs.length=some j/\xs[j]?=some v/\j < xs.length/\-(xs.length:Int)<=i/\i < xs.length:=by
 unfold atI at h
 cases e:ixN xs.length i with
 |none=>rw[e] at h;cases h
 |some j=>
  rw[e] at h
  obtain⟨h1,h2,h3,h4⟩:=Wz e
  exact⟨j,h1,h,h2,h3,h4⟩
def wS (b:Expr):Prop:=∀o i,subscripted b false o i=operate [o,i] (getItem o i)
def IxR (X:Cx)(r:R2):Prop :=
 ∀(value slice:Expr) (pins:List (Addr×Obj)) (s:Shared) (σ:St) (H:Hp) (x y:V) (v u:Value) (Q:VK),Inv X pins σ H s->RelV x v->RelV y u->r x y H Q ->
  subscripted slice false v u=operate [v,u] (getItem v u)->wpAny (model X.prog X.w) X.A (subscriptTail value slice v u) (EP X pins σ Q) X.xe s
def MtR (X:Cx)(id:String)(r:V->List V->Hp->VK->Prop):Prop :=
 ∀(pins:List (Addr×Obj)) (s:Shared) (σ:St) (H:Hp) (x:V) (xs:List V) (v:Value) (us:List Value) (Q:VK),Inv X pins σ H s->RelV x v->Vals xs us->r x xs H Q ->
  wpAny (model X.prog X.w) X.A (call (.builtin id) (v::us)) (EP X pins σ Q) X.xe s
section
variable {X:Cx}{a b:Expr}{ta tb:TE}{pos:Pos}
theorem IxR.or {r r':R2}(h:IxR X r)(h':IxR X r'):IxR X (λx y H Q=>r x y H Q∨r' x y H Q):=by
 intro value slice pins s σ H x y v u Q I rx ry q hs
 rcases q with q | q
 ·exact h value slice pins s σ H x y v u Q I rx ry q hs
 ·exact h' value slice pins s σ H x y v u Q I rx ry q hs
theorem qy {r:R2}(hr:IxR X r)(ha:PE X a ta)(hb:PE X b tb)(hs:wS b):PE X (.Subscript a b pos) (tOp r ta tb):=by
 intro pins s σ H Q I h
 exact Subscript_ (binT ha hb I h λv u s2 x y H2 I2 rx ry q=>hr a b pins s2 σ H2 x y v u Q I2 rx ry q (hs _ _))
def rIxL (K:PySem.W.Frag):R2:=λx y H Q=>∃p xs i v,x=.ref p/\y=.int i/\SqL K H p xs/\atI xs i=some v/\Q v H
def rIxT (K:PySem.W.Frag):R2:=λx y H Q=>∃p xs i v,x=.ref p/\y=.int i/\SqT K H p xs/\atI xs i=some v/\Q v H
def rIxS:R2:=λx y H Q=>∃z i c,x=.str z/\y=.int i/\z.length<=sizeLine/\atI z.cps.toList i=some c/\Q (.str ⟨#[c]⟩) H
theorem ix_list:IxR X (rIxL X.K):=by
 intro value slice pins s σ H x y v u Q I rx ry h hs
 obtain⟨p,xs,i,z,rfl,rfl,hq,he,q⟩:=h
 cases rx
 obtain⟨t,rfl⟩:=ry
 obtain⟨its,r,pl,hz⟩:=I.list hq
 obtain⟨j,h1,h2,h3,h4,h5⟩:=ZB he
 obtain⟨w,ew,rw'⟩:=r.get h2
 have hl:=r.length
 have hn:=line63
 have fin:EP X pins σ Q w s:=⟨z,H,I,rw',q⟩
 by_cases h0:0<=i
 ·have hj:i.toNat=j:=by
   rw[seqIndex_of h0 h5] at h1
   exact Option.some.inj h1
  exact item_listR pl.isList h0 (by omega) (by rw[hj];simpa using ew) fin hs
 ·have hj:(i+(its.toArray.size:Int)).toNat=j:=by
   rw[seqIndex_neg (by omega) h4] at h1
   rw[List.size_toArray,<-hl]
   exact Option.some.inj h1
  exact subscriptTail_builtinR (x:=w) pl.isList.typeIs slot_list_getitem.lookup
   (wpAny_getItem_list_neg (Q:=λr s'=>r=w/\EP X pins σ Q r s') pl.isList (by omega) (by rw[List.size_toArray]<;>omega) (by omega) (by rw[hj];simpa using ew) ⟨rfl,fin⟩) hs
theorem ix_tup:IxR X (rIxT X.K):=by
 intro value slice pins s σ H x y v u Q I rx ry h hs
 obtain⟨p,xs,i,z,rfl,rfl,hq,he,q⟩:=h
 cases rx
 obtain⟨t,rfl⟩:=ry
 obtain⟨its,r,pl,hz⟩:=I.tuple hq
 obtain⟨j,h1,h2,h3,h4,h5⟩:=ZB he
 obtain⟨w,ew,rw'⟩:=r.get h2
 have hl:=r.length
 have hn:=line63
 have fin:EP X pins σ Q w s:=⟨z,H,I,rw',q⟩
 exact subscriptTail_builtinR (x:=w) pl.typeIs slot_tuple_getitem.lookup
  (getItem_tuple (j:=j) (Q:=λr s'=>r=w/\EP X pins σ Q r s') pl (by omega) (by omega) (by rw[List.size_toArray,<-hl];exact h1) (by simpa using ew) ⟨rfl,fin⟩) hs
theorem Ue:IxR X rIxS:=by
 intro value slice pins s σ H x y v u Q I rx ry h hs
 obtain⟨z,i,c,rfl,rfl,hz,he,q⟩:=h
 obtain⟨t,rfl⟩:=rx
 obtain⟨t',rfl⟩:=ry
 obtain⟨j,h1,h2,h3,h4,h5⟩:=ZB he
 have hl:z.cps.toList.length=z.length:=by simp[Str.length]
 rw[hl] at h1 h4 h5
 have hn:=line63
 exact tail_any (typeIs_str s z t) slot_str_getitem.lookup (getItem_str (c:=c) (by
  have e1:decide (i < -(2 ^ 63:Int))=false:=decide_eq_false (by omega)
  have e2:decide (i≥2 ^ 63)=false:=decide_eq_false (by omega)
  rw[e1,e2,Bool.or_false]) (by rw[h1];simpa using h2) ⟨.str ⟨#[c]⟩,H,I.tok _,⟨_,rfl⟩,q⟩) hs
def rIx (K:PySem.W.Frag):R2:=λx y H Q=>rIxL K x y H Q∨rIxT K x y H Q∨rIxS x y H Q
theorem jI:IxR X (rIx X.K):=ix_list.or (ix_tup.or Ue)
theorem Kq (its:List Value)(n j:Nat)(u:Value):Obj.mapSeq (·.setIfInBounds j u) { cls:=.type "list",data:=.seq its.toArray n }={ cls:=.type "list",data:=.seq (its.set j u).toArray n }:=by
 simp[Obj.mapSeq]
theorem Inv.lst {pins:List (Addr×Obj)}{σ:St}{H:Hp}{s:Shared}{p:Addr}{xs:List V}(I:Inv X pins σ H s)(h:H p=some (.lst xs)) :
  ∃(its:List Value) (n:Nat),Vals xs its/\s.heap.get? p=some { cls:=.type "list",data:=.seq its.toArray n }/\xs.length<=sizeLine:=by
 obtain⟨z,its,n,r,e⟩:=I.hok p _ h
 exact⟨its,n,r,e,z⟩
theorem Inv.lstUpd {pins:List (Addr×Obj)}{σ:St}{H:Hp}{s:Shared}{p:Addr}{xs ys:List V}{its its':List Value}{n n':Nat}{f:Obj->Obj}(I:Inv X pins σ H s)(h:H p=some (.lst xs))
  (ho:s.heap.get? p=some { cls:=.type "list",data:=.seq its.toArray n }) (hf:f { cls:=.type "list",data:=.seq its.toArray n }={ cls:=.type "list",data:=.seq its'.toArray n' }) (r:Vals ys its') (hz:ys.length<=sizeLine) (t:Nat) :
  Inv X pins σ (upd H p (.lst ys)) { s with heap:=s.heap.update p f,toks:=t }:=by
 have e:(s.heap.update p f).get? p=some { cls:=.type "list",data:=.seq its'.toArray n' }:=by
  rw[Heap.get?_update_self f ho (by rw[hf]<;>rfl),hf]
 refine I.write (x:=p) (e:=p) (by rw[h];trivial) (.inl rfl) (λb u hb q=>(Heap.get?_update_other _ _ (Ne.symm hb)).trans q) ⟨_,e⟩ ?_
 exact⟨hz,its',n',r,e⟩
def rSetL:V->V->V->Hp->(Hp->Prop)->Prop:=λo i v H Q=>∃p xs k j,o=.ref p/\i=.int k/\H p=some (.lst xs)/\ixN xs.length k=some j/\Q (upd H p (.lst (xs.set j v)))
theorem ze4:PSet X rSetL:=by
 intro pins s σ H o i v ov iv u Q I ro ri rv h
 obtain⟨p,xs,k,j,rfl,rfl,hp,hj,q⟩:=h
 cases ro
 obtain⟨t,rfl⟩:=ri
 obtain⟨its,n,r,ho,hz⟩:=I.lst hp
 obtain⟨h1,h2,h3,h4⟩:=Wz hj
 have hl:=r.length
 have hn:=line63
 have I':Inv X pins σ (upd H p (.lst (xs.set j v))) { s with heap:=s.heap.update p (Obj.mapSeq (·.setIfInBounds j u)) } :=
  I.lstUpd hp ho (Kq its n j u) (r.set rv j) (by rw[List.length_set];exact hz) s.toks
 by_cases h0:0<=k
 ·have hk:k.toNat=j:=by
   rw[seqIndex_of h0 h4] at h1
   exact Option.some.inj h1
  exact PySem.W.ki_setAt ho h0 (by omega) (by rw[List.size_toArray,<-hl];exact h4) (by rw[hk];exact⟨_,I',q⟩)
 ·have hk:(k+(its.toArray.size:Int)).toNat=j:=by
   rw[seqIndex_neg (by omega) h3] at h1
   rw[List.size_toArray,<-hl]
   exact Option.some.inj h1
  exact PySem.W.ki_setBack ho (by omega) (by rw[List.size_toArray,<-hl];exact h3) (by omega) (by rw[hk];exact⟨_,I',q⟩)
theorem K1 (lo hi:Option Int)(n:Nat):(sliceBounds lo hi none n).1=((HT.sIx n 0 lo:Nat):Int)/\(sliceBounds lo hi none n).2.1=((HT.sIx n n hi:Nat):Int)/\(sliceBounds lo hi none n).2.2=1:=by
 refine⟨?_,?_,rfl⟩
 ·cases lo with
  |none=>simp[sliceBounds,HT.sIx]
  |some i=>
   simp only[sliceBounds,HT.sIx,Option.getD_none,show (1:Int) > 0 by decide,if_true]
   by_cases h:i < 0
   ·simp only[h,if_true]<;>omega
   ·simp only[h,if_false]<;>omega
 ·cases hi with
  |none=>simp[sliceBounds,HT.sIx]
  |some i=>
   simp only[sliceBounds,HT.sIx,Option.getD_none,show (1:Int) > 0 by decide,if_true]
   by_cases h:i < 0
   ·simp only[h,if_true]<;>omega
   ·simp only[h,if_false]<;>omega
theorem zdr (its:List Value)(lo hi:Option Int):slicePick its.toArray lo hi none=((its.drop (HT.sIx its.length 0 lo)).take (HT.sIx its.length its.length hi - HT.sIx its.length 0 lo)).toArray:=by
 obtain⟨h1,h2,h3⟩:=K1 lo hi its.toArray.size
 unfold slicePick
 rw[h1,h2,h3]
 simp only[sliceRange_one,pick_run,List.size_toArray]<;>rfl
def rSlL (K:PySem.W.Frag):V->Option Int->Option Int->Hp->VK->Prop:=λx lo hi H Q=>∃a xs,x=.ref a/\SqL K H a xs/\∀p,H p=none->Q (.ref p) (upd H p (.lst (cutV xs lo hi)))
theorem RJ:SlR X (rSlL X.K):=by
 intro pins s σ H x v vl vu lo hi sl Q I rx hs pl pu h
 obtain⟨a,xs,rfl,hx,q⟩:=h
 cases rx
 obtain⟨its,r,ht,hz⟩:=I.list hx
 have hlen:=r.length
 refine⟨"list",_,slot_list_getitem.lookup,ht.isList.typeIs,?_⟩
 refine wpAny_getItem_list_slice ht.isList hs pl pu .none (by simp) ?_ (by rw[List.size_toArray]<;>omega)
 rw[zdr,<-hlen]
 refine⟨.ref s.heap.objs.size,_,I.laid (t':=s.toks) (o:=.lst (cutV xs lo hi)) (λb ob q=>Heap.get?_push_of_some _ q) (Nat.le_refl _) ?_,rfl,q _ (I.hok.fresh (Nat.le_refl _))⟩
 exact⟨Nat.le_trans (QK xs lo hi) hz,_,0,(r.drop (HT.sIx xs.length 0 lo)).take (HT.sIx xs.length xs.length hi - HT.sIx xs.length 0 lo),Heap.get?_push_size _ rfl⟩
def flatV:V->Bool
 |.non=>true
 |.bl _=>true
 |.int _=>true
 |.str _=>true
 |_=>false
def eqV:V->V->Bool
 |.non,.non=>true
 |.bl a,.bl b=>a==b
 |.bl a,.int b=>(if a then 1 else 0)==b
 |.int a,.bl b=>a==(if b then 1 else 0)
 |.int a,.int b=>a==b
 |.str a,.str b=>a==b
 |_,_=>false
theorem zc8 {A:Around}{s:Shared}{y x:V}{u v:Value}(ry:RelV y u)(rx:RelV x v)(fy:flatV y=true)(fx:flatV x=true):SeqAt.EqAt A s u v (eqV y x):=by
 cases y with
 |non=>
  cases ry
  cases x with
  |non=>cases rx;exact SeqAt.EqAt.same _
  |bl b=>cases rx;exact SeqAt.EqAt.none_bool b
  |int b=>obtain⟨t,rfl⟩:=rx;exact SeqAt.EqAt.none_int b t
  |str b=>obtain⟨t,rfl⟩:=rx;exact SeqAt.EqAt.none_str b t
  |_=>exact absurd (show false=true from fx) Bool.false_ne_true
 |bl a=>
  cases ry
  cases x with
  |non=>cases rx;exact SeqAt.EqAt.bool_none a
  |bl b=>cases rx;exact SeqAt.EqAt.bool_bool a b
  |int b=>obtain⟨t,rfl⟩:=rx;exact SeqAt.EqAt.bool_int a b t
  |str b=>obtain⟨t,rfl⟩:=rx;exact SeqAt.EqAt.bool_str a b t
  |_=>exact absurd (show false=true from fx) Bool.false_ne_true
 |int a=>
  obtain⟨t',rfl⟩:=ry
  cases x with
  |non=>cases rx;exact SeqAt.EqAt.int_none a t'
  |bl b=>cases rx;exact SeqAt.EqAt.int_bool a t' b
  |int b=>obtain⟨t,rfl⟩:=rx;exact SeqAt.EqAt.int_int a t' b t
  |str b=>obtain⟨t,rfl⟩:=rx;exact SeqAt.EqAt.int_str a t' b t
  |_=>exact absurd (show false=true from fx) Bool.false_ne_true
 |str a=>
  obtain⟨t',rfl⟩:=ry
  cases x with
  |non=>cases rx;exact SeqAt.EqAt.str_none a t'
  |bl b=>cases rx;exact SeqAt.EqAt.str_bool a t' b
  |int b=>obtain⟨t,rfl⟩:=rx;exact SeqAt.EqAt.str_int a t' b t
  |str b=>obtain⟨t,rfl⟩:=rx;exact SeqAt.EqAt.str_str a t' b t
  |_=>exact absurd (show false=true from fx) Bool.false_ne_true
 |_=>exact absurd (show false=true from fy) Bool.false_ne_true
def eqU (x:V)(u:Value):Bool:=match u with
 |.none=>eqV .non x
 |.bool b=>eqV (.bl b) x
 |.int i _=>eqV (.int i) x
 |.str z _=>eqV (.str z) x
 |_=>false
theorem Wy {x y:V}{u:Value}(r:RelV y u)(f:flatV y=true):eqU x u=eqV y x:=by
 cases y with
 |non=>cases r;rfl
 |bl b=>cases r;rfl
 |int i=>obtain⟨t,rfl⟩:=r;rfl
 |str z=>obtain⟨t,rfl⟩:=r;rfl
 |_=>exact absurd (show false=true from f) Bool.false_ne_true
theorem vq {x:V}:∀ {xs:List V} {us:List Value},Vals xs us->xs.all flatV=true->us.any (eqU x)=xs.any λy=>eqV y x
 |_,_,.nil,_=>rfl
 |y::xs,u::us,.cons r t,f=>by
  rw[List.all_cons,Bool.and_eq_true] at f
  rw[List.any_cons,List.any_cons,Wy r f.1,vq t f.2]
theorem vp {A:Around}{s:Shared}{x:V}{v:Value}(rx:RelV x v)(fx:flatV x=true):∀ {xs:List V} {us:List Value},Vals xs us->xs.all flatV=true->∀u∈us,SeqAt.EqAt A s u v (eqU x u)
 |_,_,.nil,_=>λu hu=>by cases hu
 |y::xs,u::us,.cons r t,f=>λu' hu=>by
  rw[List.all_cons,Bool.and_eq_true] at f
  rcases List.mem_cons.mp hu with rfl | hu
  ·rw[Wy r f.1];exact zc8 r rx f.1 fx
  ·exact vp rx fx t f.2 u' hu
def inV (x:V)(xs:List V):Bool:=xs.any λy=>eqV y x
def rIn (K:PySem.W.Frag)(neg:Bool):R2:=λx y H Q=>∃p xs,y=.ref p/\(SqL K H p xs∨SqT K H p xs)/\flatV x=true/\xs.all flatV=true/\Q (.bl (if neg then !inV x xs else inV x xs)) H
theorem op_in_seq:OpR X (compareOp .In) (rIn X.K false):=by
 intro pins s σ H x y v u Q I rx ry h
 obtain⟨p,xs,rfl,hq,fx,fs,q⟩:=h
 cases ry
 rcases hq with hq | hq
 ·obtain⟨its,r,pl,hz⟩:=I.list hq
  refine SeqAt.in_listAt (eqU x) pl.isList (λw hw=>vp rx fx r fs w (by simpa using hw)) ⟨.bl _,H,I,rfl,?_⟩
  rw[show its.toArray.any (eqU x)=its.any (eqU x) by simp,vq r fs]
  exact q
 ·obtain⟨its,r,pl,hz⟩:=I.tuple hq
  refine SeqAt.in_tupleAt (eqU x) pl (λw hw=>vp rx fx r fs w (by simpa using hw)) ⟨.bl _,H,I,rfl,?_⟩
  rw[show its.toArray.any (eqU x)=its.any (eqU x) by simp,vq r fs]
  exact q
theorem op_notIn_seq:OpR X (compareOp .NotIn) (rIn X.K true):=by
 intro pins s σ H x y v u Q I rx ry h
 obtain⟨p,xs,rfl,hq,fx,fs,q⟩:=h
 cases ry
 rcases hq with hq | hq
 ·obtain⟨its,r,pl,hz⟩:=I.list hq
  refine SeqAt.notIn_listAt (eqU x) pl.isList (λw hw=>vp rx fx r fs w (by simpa using hw)) ⟨.bl _,H,I,rfl,?_⟩
  rw[show its.toArray.any (eqU x)=its.any (eqU x) by simp,vq r fs]
  exact q
 ·obtain⟨its,r,pl,hz⟩:=I.tuple hq
  refine SeqAt.notIn_tupleAt (eqU x) pl (λw hw=>vp rx fx r fs w (by simpa using hw)) ⟨.bl _,H,I,rfl,?_⟩
  rw[show its.toArray.any (eqU x)=its.any (eqU x) by simp,vq r fs]
  exact q
theorem KS:OpR X (compareOp .NotIn) (λx y H Q=>∃i j,x=.str i/\y=.str j/\Q (.bl (!(!(Builtin.Str.occurrences j i 0 j.length 1).isEmpty))) H):=by
 intro pins s σ H x y v u Q I rx ry h
 obtain⟨i,j,rfl,rfl,q⟩:=h
 obtain⟨t,rfl⟩:=rx
 obtain⟨t',rfl⟩:=ry
 exact notIn_str ⟨.bl _,H,I,rfl,q⟩
def tyV (K:PySem.W.Frag)(T:String)(x:V)(H:Hp):Prop:=match x with
 |.str _=>T = "str"
 |.int _=>T = "int"
 |.ref p=>(T = "list" /\ ∃xs,SqL K H p xs)∨(T = "tuple" /\ ∃o,K.lookup p=some o/\o.cls=.type "tuple" /\ o.dict=none) ∨
   (T = "dict" /\ ((∃kvs,H p=some (.dK kvs))∨∃kvs,H p=some (.dT kvs)))∨(T = "set" /\ ∃S n,H p=some (.set S n))
 |_=>False
theorem Jl {pins:List (Addr×Obj)}{σ:St}{H:Hp}{s:Shared}{T:String}{x:V}{v:Value}(I:Inv X pins σ H s)(r:RelV x v)(ty:tyV X.K T x H) :
  s.TypeIs v T/\∀a,v=.ref a->∃ob,s.heap.get? a=some ob/\ob.dict=none:=by
 cases x with
 |str z=>
  obtain⟨t,rfl⟩:=r
  cases (show T = "str" from ty)
  exact⟨typeIs_str s z t,λ_ e=>nomatch e⟩
 |int i=>
  obtain⟨t,rfl⟩:=r
  cases (show T = "int" from ty)
  exact⟨typeIs_int s i t,λ_ e=>nomatch e⟩
 |ref p=>
  cases r
  rcases ty with⟨rfl,xs,hq⟩ | ⟨rfl,o,hk,hc,hd⟩ | ⟨rfl,hk⟩ | ⟨rfl,S,n,hk⟩
  ·obtain⟨its,_,pl,_⟩:=I.list hq
   refine⟨pl.isList.typeIs,λa e=>?_⟩
   cases e
   obtain⟨o,n,e,c,hd,_⟩:=pl
   exact⟨o,e,hd⟩
  ·refine⟨⟨o,I.kIn p o hk,hc⟩,λa e=>?_⟩
   cases e
   exact⟨o,I.kIn _ o hk,hd⟩
  ·have z:∃o,s.heap.get? p=some o/\o.ExactDict:=by
    rcases hk with⟨kvs,hk⟩ | ⟨kvs,hk⟩
    ·obtain⟨_,_,_,_,o,_,_,e,ex,_⟩:=I.hok p _ hk
     exact⟨o,e,ex⟩
    ·obtain⟨_,_,_,_,o,_,_,e,ex,_⟩:=I.hok p _ hk
     exact⟨o,e,ex⟩
   obtain⟨o,e,ex⟩:=z
   refine⟨⟨o,e,ex.1⟩,λa e2=>?_⟩
   cases e2
   exact⟨o,e,ex.2.1⟩
  ·obtain⟨o,_,_,_,e,ex,_⟩:=I.hok p _ hk
   refine⟨⟨o,e,ex.1⟩,λa e2=>?_⟩
   cases e2
   exact⟨o,e,ex.2.1⟩
 |_=>exact False.elim ty
def tBM0 (K:PySem.W.Frag)(T:String)(r:V->List V->Hp->VK->Prop)(to:TE):TE:=λσ H Q=>to σ H λx H1=>tyV K T x H1/\r x [] H1 Q
def tBM (K:PySem.W.Frag)(T:String)(r:V->List V->Hp->VK->Prop)(to:TE)(t:TA):TE:=λσ H Q=>to σ H λx H1=>tyV K T x H1/\t σ H1 λxs H2=>r x xs H2 Q
variable {o e:Expr}{es:List Expr}{to:TE}{t:TA}{name:Str}{apos cpos:Pos}{T id:String}{r:V->List V->Hp->VK->Prop}
theorem JP (pa:PlainAttrs T)(slot:Slot T name id)(hty:typeOf (.builtin id)=pure (.type "method_descriptor")) (hm:MtR X id r) (ho:PE X o to)
  (hbase:attributeBase o name X.env (eval o X.env)=eval o X.env:=by rfl) (hline:(apos.endLine==cpos.line)=true:=by rfl):PE X (.Call (.Attribute o name apos) [] [] cpos) (tBM0 X.K T r to):=by
 intro pins s σ H Q I h
 refine wpAny_Call_method0_late hbase hline (thn (ho pins s σ H _ I h) λv s1 ⟨x,H1,I1,r1,ty,q1⟩=>?_)
 obtain⟨h1,h2⟩:=Jl I1 r1 ty
 exact⟨T,id,pa,slot,hty,h1,h2,Calls.callWith_builtin rfl (PySem.evalArgs_none (hm pins s1 σ H1 x [] v [] Q I1 r1 .nil q1))⟩
theorem qH (pa:PlainAttrs T)(slot:Slot T name id)(hty:typeOf (.builtin id)=pure (.type "method_descriptor")) (hm:MtR X id r) (ho:PE X o to) (ha:PA X (e::es) t)
  (hbase:attributeBase o name X.env (eval o X.env)=eval o X.env:=by rfl)
  (hfew:((backTo cpos (starEach (e::es) X.env)).all (λx=>!x.1)&&(backToKw cpos (keywordEach [] X.env)).all (λx=>x.1.isSome)
   && decide ((e::es).length+([]:List Keyword).length+(if ([]:List Keyword).isEmpty then 0 else 1) < 30))=true:=by rfl)
  (hline:(apos.endLine==cpos.line)=true:=by rfl) (hs:starEach (e::es) X.env=(false,eval e X.env)::starEach es X.env:=by rfl) (hplain:(backTo cpos (starEach es X.env)).any (·.1)=false:=by rfl) :
  PE X (.Call (.Attribute o name apos) (e::es) [] cpos) (tBM X.K T r to t):=by
 intro pins s σ H Q I h
 refine wpAny_Call_method_late hbase hfew hline rfl (thn (ho pins s σ H _ I h) λv s1 ⟨x,H1,I1,r1,ty,q1⟩=>?_)
 obtain⟨h1,h2⟩:=Jl I1 r1 ty
 refine⟨T,id,pa,slot,hty,h1,h2,?_⟩
 have hA:=ha cpos pins s1 σ H1 _ I1 q1
 rw[hs] at hA ⊢
 refine Calls.callWith_builtin (by show (false||(backTo cpos (starEach es X.env)).any (·.1))=false;rw[hplain]<;>rfl) (Calls.evalArgs_plain ?_)
 exact thn hA λus s2 ⟨vs,H2,I2,r2,q2⟩=>hm pins s2 σ H2 x vs v us Q I2 r1 r2 q2
end
def MtM (X:Cx)(id:String)(r:V->List V->Hp->VK->Prop):Prop :=
 ∀(pins:List (Addr×Obj)) (s:Shared) (σ:St) (H:Hp) (x:V) (xs:List V) (v:Value) (us:List Value) (Q:VK),Inv X pins σ H s->RelV x v->Vals xs us->r x xs H Q ->
  wpAny (model X.prog X.w) X.A (call (.builtin id) (v::us)) (EP X pins σ Q) X.xe s
theorem Vals.one:∀ {x:V} {us:List Value},Vals [x] us->∃u,us=[u]/\RelV x u
 |_,_,.cons r .nil=>⟨_,rfl,r⟩
theorem Vals.zero:∀ {us:List Value},Vals [] us->us=[]
 |_,.nil=>rfl
theorem Vals.dropLast {xs:List V}{us:List Value}(h:Vals xs us):Vals xs.dropLast us.dropLast:=by
 induction h with
 |nil=>exact .nil
 |cons r t ih=>
  cases t with
  |nil=>exact .nil
  |cons q t'=>exact .cons r ih
theorem Vals.rep {xs:List V}{us:List Value}(h:Vals xs us):∀k:Nat,Vals (List.replicate k xs).flatten (List.replicate k us).flatten
 |0=>.nil
 |k+1=>by
  rw[List.replicate_succ,List.replicate_succ,List.flatten_cons,List.flatten_cons]
  exact Vals.append h (Vals.rep h k)
theorem zd1 {α:Type}(l:List α):l.eraseIdx (l.length - 1)=l.dropLast:=by
 induction l with
 |nil=>rfl
 |cons a r ih=>
  cases r with
  |nil=>rfl
  |cons b r=>
   have e:(a::b::r).length - 1=((b::r).length - 1)+1:=by
    have h1:(a::b::r).length=r.length+2:=rfl
    have h2:(b::r).length=r.length+1:=rfl
    omega
   rw[e,List.eraseIdx_cons_succ,ih]
   all_goals rfl
theorem Jx (its:List Value):∀(k:Nat) (acc:List Value),
  List.foldl (λx1 x2=>x1++x2) acc.toArray (List.replicate k its.toArray)=(acc++(List.replicate k its).flatten).toArray
 |0,acc=>by simp
 |k+1,acc=>by
  have e:acc.toArray++its.toArray=(acc++its).toArray:=by simp
  have e2:(acc++its)++(List.replicate k its).flatten=acc++(List.replicate (k+1) its).flatten:=by
   rw[List.replicate_succ,List.flatten_cons,List.append_assoc]
  rw[<-e2,<-Jx its k (acc++its),<-e,List.replicate_succ,List.foldl_cons]
section
variable {X:Cx}{pins:List (Addr×Obj)}{σ:St}{H:Hp}{s:Shared}{l b:Addr}{xs ys zs:List V}
theorem Inv.lset {its its':List Value}{n:Nat}{f:Array Value->Array Value}{t':Nat}(I:Inv X pins σ H s)(hH:H l=some (.lst xs))
  (e:s.heap.get? l=some { cls:=.type "list",data:=.seq its.toArray n }) (hf:f its.toArray=its'.toArray) (hv:Vals ys its') (hz:ys.length<=sizeLine) :
  Inv X pins σ (upd H l (.lst ys)) { s with heap:=s.heap.update l (Obj.mapSeq f),toks:=t' }:=by
 have q:=PySem.IsL.update e f
 rw[hf] at q
 refine I.write (x:=l) (e:=l) (by rw[hH];exact trivial) (.inl rfl) (λb' u hb hu=>(Heap.get?_update_other s.heap (Obj.mapSeq f) (Ne.symm hb)).trans hu) ⟨_,q⟩ ?_
 exact⟨hz,its',_,hv,q⟩
theorem Inv.lnew {its:List Value}{t':Nat}(I:Inv X pins σ H s)(hv:Vals ys its)(hz:ys.length<=sizeLine) :
  Inv X pins σ (upd H s.heap.objs.size (.lst ys)) { s with heap:=s.heap.push { cls:=.type "list",data:=.seq its.toArray },toks:=t' } :=
 I.laid (λ_ _ q=>Heap.get?_push_of_some _ q) (Nat.le_refl _) ⟨hz,its,0,hv,Heap.get?_push_size _ rfl⟩
theorem Inv.fresh (I:Inv X pins σ H s):H s.heap.objs.size=none:=I.hok.fresh (Nat.le_refl _)
theorem Inv.lstM (I:Inv X pins σ H s)(hH:H l=some (.lst xs)):xs.length<=sizeLine/\∃(its:List Value) (n:Nat),Vals xs its/\xs.length=its.length/\s.heap.get? l=some { cls:=.type "list",data:=.seq its.toArray n }:=by
 obtain⟨z,its,n,r,e⟩:=I.hok l _ hH
 exact⟨z,its,n,r,r.length,e⟩
theorem QT {n:Nat}(h:n<=sizeLine):Builtin.List.listTooLong n=false:=by
 unfold Builtin.List.listTooLong
 exact decide_eq_false (by omega)
end
section
variable {X:Cx}
def V8:V->List V->Hp->VK->Prop:=λx vs H Q=>∃l xs y,x=.ref l/\vs=[y]/\H l=some (.lst xs)/\xs.length < sizeLine/\Q .non (upd H l (.lst (xs++[y])))
theorem Z1:MtM X "list.append" V8:=by
 intro pins s σ H x vs v us Q I rx rv h
 obtain⟨l,xs,y,rfl,rfl,hH,hz,q⟩:=h
 cases rx
 obtain⟨u,rfl,ru⟩:=rv.one
 obtain⟨z,its,n,r,hl,e⟩:=I.lstM hH
 refine call_meets F.slot_list_append ⟨_,e,rfl⟩ F.entry_list_append (F.args_list_append_2 _ _) (PySem.list_append l its.toArray n u (by rw[List.size_toArray];omega)) ⟨e,?_⟩
 refine⟨.non,_,I.lset (its':=its++[u]) hH e (by simp) (r.append (.cons ru .nil)) ?_,rfl,q⟩
 rw[List.length_append,List.length_singleton]
 omega
def rPop:V->List V->Hp->VK->Prop:=λx vs H Q=>∃l xs y,x=.ref l/\vs=[]/\H l=some (.lst xs)/\xs[xs.length - 1]?=some y/\Q y (upd H l (.lst xs.dropLast))
theorem R7:MtM X "list.pop" rPop:=by
 intro pins s σ H x vs v us Q I rx rv h
 obtain⟨l,xs,y,rfl,rfl,hH,hy,q⟩:=h
 cases rx
 have hus:=rv.zero
 subst hus
 obtain⟨z,its,n,r,hl,e⟩:=I.lstM hH
 obtain⟨u,hu,ru⟩:=r.get hy
 have hy':its.toArray[its.toArray.size - 1]?=some u:=by
  show its.toArray[its.length - 1]?=some u
  rw[<-Array.getElem?_toList,<-hl]
  exact hu
 refine call_meets F.slot_list_pop ⟨_,e,rfl⟩ F.entry_list_pop (F.args_list_pop_1 _) (MeetsSeq.list_pop_last l its.toArray n u hy' (by rw[List.size_toArray];omega)) ⟨e,?_⟩
 refine⟨y,_,I.lset (its':=its.dropLast) hH e ?_ r.dropLast ?_,ru,q⟩
 ·show its.toArray.eraseIdxIfInBounds (its.toArray.size - 1)=its.dropLast.toArray
  rw[List.size_toArray,List.eraseIdxIfInBounds_toArray,zd1]
 ·rw[List.length_dropLast]
  omega
def rClear:V->List V->Hp->VK->Prop:=λx vs H Q=>∃l xs,x=.ref l/\vs=[]/\H l=some (.lst xs)/\Q .non (upd H l (.lst []))
theorem UN:MtM X "list.clear" rClear:=by
 intro pins s σ H x vs v us Q I rx rv h
 obtain⟨l,xs,rfl,rfl,hH,q⟩:=h
 cases rx
 have hus:=rv.zero
 subst hus
 obtain⟨z,its,n,r,hl,e⟩:=I.lstM hH
 refine call_meets F.slot_list_clear ⟨_,e,rfl⟩ F.entry_list_clear (F.args_list_clear_1 _) (AutoSeq1.list_clear_list_0 l its.toArray n (by rw[List.size_toArray];omega)) ⟨e,?_⟩
 exact⟨.non,_,I.lset (its':=[]) (ys:=[]) hH e rfl .nil (Nat.zero_le _),rfl,q⟩
def rRep:R2:=λx y H Q=>∃l k xs,x=.ref l/\y=.int k/\H l=some (.lst xs)/\-(2 ^ 63)<=k/\k < 2 ^ 63/\xs.length * k.toNat<=sizeLine /\
 ∀p,H p=none->Q (.ref p) (upd H p (.lst (List.replicate k.toNat xs).flatten))
theorem zan {α:Type}(xs:List α)(k:Nat):(List.replicate k xs).flatten.length=k * xs.length:=by
 induction k with
 |zero=>simp
 |succ k ih=>rw[List.replicate_succ,List.flatten_cons,List.length_append,ih,Nat.succ_mul,Nat.add_comm]
theorem KK:OpR X (binaryOp .Mult) rRep:=by
 intro pins s σ H x y v u Q I rx ry h
 obtain⟨l,k,xs,rfl,rfl,hH,h1,h2,hz,q⟩:=h
 cases rx
 obtain⟨t,rfl⟩:=ry
 obtain⟨z,its,n,r,hl,e⟩:=I.lstM hH
 have hlen:its.toArray.size * k.toNat<=sizeLine:=by rw[List.size_toArray,<-hl];exact hz
 have hcap:¬its.toArray.size * k.toNat > (2 ^ 63 - 1) / 8:=by
  have:(sizeLine:Nat)<=(2 ^ 63 - 1) / 8:=by decide
  omega
 have hfit:¬(!Builtin.List.listFitsIndex k)=true:=by
  rw[fitsIndex_both h1 h2]
  exact Bool.false_ne_true
 have hlong:¬Builtin.List.listTooLong (its.toArray.size * k.toNat)=true:=by
  rw[QT hlen]
  exact Bool.false_ne_true
 have hnew:List.foldl (λx1 x2=>x1++x2) #[] (List.replicate (if its.toArray.isEmpty=true then 0 else k.toNat) its.toArray)=(List.replicate k.toNat its).flatten.toArray:=by
  have f0:∀m:Nat,List.foldl (λx1 x2=>x1++x2) #[] (List.replicate m its.toArray)=(List.replicate m its).flatten.toArray:=λm=>by
   have:=Jx its m []
   rw[List.nil_append] at this
   exact this
  rw[f0]
  cases its with
  |nil=>simp
  |cons a r'=>rw[if_neg (by simp)]
 refine wpAny_binaryOp_repeat_ref (T := "list") (U := "int") (by decide) ⟨_,e,rfl⟩ (λs'=>typeIs_int s' k t) noFill_list_mul F.fills_int_mul F.slot_int_rmul repeat_list F.slot_int_index.lookup
  (call_meets F.slot_int_rmul (typeIs_int s k t) F.entry_int_rmul (F.args_int_rmul_2 _ _) (int___rmul___int_list k t l its.toArray n)
   ⟨e,rfl,⟨_,e,rfl⟩,call_meets F.slot_list_mul ⟨_,e,rfl⟩ F.entry_list_mul (F.args_list_mul_2 _ _) (AutoListH.list___mul___list_int_3 l its.toArray n k t hfit hcap hlong) ⟨e,?_⟩⟩)
 rw[hnew]
 exact⟨.ref _,_,I.lnew (t':=s.toks) (r.rep k.toNat) (by rw[zan,Nat.mul_comm];exact hz),rfl,q _ I.fresh⟩
end
section
variable {prog:Program}{w:World}{A:Around}{E:Value->Shared->Prop}{s:Shared}
end
section
variable {X:Cx}
end
end L2
namespace Att
open PySem PySem.W PySem.Calls PyProof.Rows
theorem QN {P:Params}{h:Heap}:∀(ns:List Int) (vs:List Value),WellAll P h vs (ns.map WData.int)->IntsAre vs ns:=by
 intro ns
 induction ns with
 |nil=>
  intro vs w
  rw[List.map_nil] at w
  cases w
  exact .nil
 |cons n ns ih=>
  intro vs w
  rw[List.map_cons] at w
  cases w with
  |cons a b=>
   cases a
   exact .cons _ _ (ih _ b)
theorem zex {l:OpenLaw}{n:Nat}(hn:l.most=some n){P:Params}{h:Heap}{args:List WData}{vals:List Value}
  (hpre:l.row.toRowW.claim.pre args=true) (hwl:WellAll P h vals args) :
  ∃a vs ns,vals=[Value.ref a]/\args=[WData.list (ns.map WData.int)]/\h.get? a=some { cls:=.type "list",data:=.seq vs.toArray }/\IntsAre vs ns/\ns.length<=n:=by
 have hsh:WShape.hasAll [] args [.list .int]=true:=(pre_splitW hpre).1
 have hc:l.pre.holds [] { args:=args }=true:=(pre_splitW hpre).2
 obtain⟨d,r,rfl,h1,h2⟩:=hasAllW_cons hsh
 obtain rfl:=hasAllW_nil h2
 obtain⟨xs,rfl,h3⟩:=hasW_list h1
 obtain⟨ns,rfl⟩:=items_int h3
 have hlen:ns.length<=n:=by
  unfold OpenLaw.pre at hc
  have h4:(WTm.not (.lt (.lit (.int (n:Int))) (.len (.arg 0)))).holds [] { args:=[.list (ns.map .int)] }=true:=by
   have h4:=(holds_andW hc).1
   rw[hn] at h4
   exact h4
  have h5:=condW_of h4 (w_not (w_lt w_lit (w_len_list (w_arg rfl))))
  rw[List.length_map] at h5
  refine Nat.le_of_not_lt λq=>?_
  have q':(n:Int) < ((ns.length:Nat):Int):=by omega
  first
   | (rw[decide_eq_true q'] at h5;exact absurd h5 (by decide))
   | (simp at h5;omega)
 cases hwl with
 |cons w1 w2=>
  cases w2
  cases w1 with
  |list ho hall=>exact⟨_,_,ns,rfl,rfl,ho,QN ns _ hall,hlen⟩
theorem UW (l:OpenLaw)(args:List WData):l.row.toRowW.claim.post args (.bool true) args=true :=
 postW_of (r:=l.row.toRowW) (X:=(true==true))
  (show WShape.has [] (.bool true) .bool=true by first | rfl | decide | simp[WShape.has,WShape.arms,WShape.armsAll])
  (show (WTm.eq .res (.lit (.bool true))).value [] { args:=args,res:=some (.bool true),after:=args }=some (.bool (true==true)) from w_eq_bool (w_res rfl) w_lit) rfl
theorem attach_call {l:OpenLaw}{n:Nat}{q:Program}{loose:List Str}{XP:(Str->Option Value)->Heap->Prop}{YP:World->Heap->Prop}{d:DefRec}
  (hn:l.most=some n) (hdf:d.params.defaults=[])
  (call:∀(w:World) (s₀ s₁:Shared) (mg mb:Str->Option Value) (fa:Addr) (o:Obj) (pm cd doc:Value) (a:Addr) (vs:List Value) (ns:List Int),
   Ground q loose [] XP w s₀ mg mb s₁.heap->YP w s₁.heap ->
   s₁.heap.get? fa=some o->o.data=.func (docDef d.name d.params d.body d.scope pm cd doc)->s₁.heap.CodeRec cd d.name->mg d.name=some (.ref fa) ->
   s₁.heap.get? a=some { cls:=.type "list",data:=.seq vs.toArray }->IntsAre vs ns->ns.length<=n->s₁.gens=#[] ->
   codeAny (model l.prog w) callerA (.call (.ref fa) ⟨[.ref a],[]⟩) (λr s'=>r=.ok (.ret (.bool true))/\OldK s₁.heap s'.heap/\s'.os=s₁.os/\AllBare s'.gens) s₁) :
  WalkO q loose XP YP l.row.toRowW d [] (λf vs=>PySem.call f vs):=by
 intro w s₀ s₁ mg mb G Y fa o pm cd doc dV kV ho hd hcd hD hmg hg args vals as hpre hlay hrd hwl hlo
 obtain rfl:dV=.none:=Dflts.none hD hdf
 obtain rfl:kV=.none:=Dflts.noKw hD
 obtain⟨a,vs,ns,rfl,rfl,hobj,hints,hlen⟩:=zex hn hpre hwl
 refine enter_call (codeAny_mono (call w s₀ s₁ mg mb fa o pm cd doc a vs ns G Y ho (fd_plain hd) hcd hmg hobj hints hlen hg) λr s' hq=>?_)
 obtain⟨rfl,h2,h3,h4⟩:=hq
 exact⟨.inl ⟨.bool true,.bool true,[],rfl,λ_=>rfl,.bool true,UW l _,λ_=>⟨List.Pairwise.nil,λ_ hm=>(nomatch hm)⟩⟩,h2,h3,h4⟩
section
variable {prog:Program}{w:World}{A:Around}{E:Value->Shared->Prop}{s:Shared}{K:Frag}
def ledger (h:Heap)(L d:Addr):List (Addr×Obj):=(List.range h.objs.size).filterMap λa=>if a=L∨a=d then none else (h.get? a).map λo=>(a,o)
end
end Att
namespace L2
open PySem PySem.Spec PyProof.Rows
theorem Yb:∀ {vs:List Value} {ns:List Int},IntsAre vs ns->Vals (ns.map V.int) vs
 |_,_,.nil=>.nil
 |_,_,.cons n t h=>.cons ⟨t,rfl⟩ (Yb h)
def Only (H:Hp):Prop:=∀b,H b=none∨∃o xs,H b=some (.frz o (.lst xs))
theorem zbl {P:Program}{w:World}{K:PySem.W.Frag}{mg mb:Str->Option Value}{CX:CXT}{k:Nat}{fa a:Addr}{fd:FuncData}{x:Str}{sp:Sp}{s₁:Shared}{vs:List Value}{ns:List Int}
  (KX:K.In s₁.heap) (hns:s₁.heap.Ns mainGlobals mg) (hb:s₁.heap.Ns builtinsNs mb) (hbb:∀x:Str,x ≠ "__name__" -> mb x=bootBuiltins x) (hlim:s₁.heap.NoLimit) (hg:s₁.gens=#[])
  (ha:s₁.heap.get? a=some { cls:=.type "list",data:=.seq vs.toArray }) (hi:IntsAre vs ns) (hl:ns.length<=sizeLine) (hr:Room k callerA)
  (F:∀base:Heap,K.In base->base.Ns mainGlobals mg->FnOk P w K mg base CX k fa fd [x] sp) (hbind:∀(s:Shared) (u:Value),BindsTo s fd ⟨[u],[]⟩ [(x,u)])
  (hsp:∀H:Hp,Only H->SqL K H a (ns.map V.int)->sp [.ref a] H (λv _=>v=.bl true) λ_ _ _=>False)
  (hCX:∀H e s',CX [] H s₁ (λ_ _ _=>False) e s'->False) :
  codeAny (model P w) callerA (.call (.ref fa) ⟨[.ref a],[]⟩) (λr s'=>r=.ok (.ret (.bool true))/\OldK s₁.heap s'.heap/\s'.os=s₁.os/\AllBare s'.gens) s₁:=by
 have rv:=Yb hi
 have lenV:=hi.length
 have core:∀H:Hp,Only H->SqL K H a (ns.map V.int)->HOk P w H s₁.heap->(∀b,H b≠none->b=a)->(H a≠none->K.lookup a=none) ->
   codeAny (model P w) callerA (.call (.ref fa) ⟨[.ref a],[]⟩) (λr s'=>r=.ok (.ret (.bool true))/\OldK s₁.heap s'.heap/\s'.os=s₁.os/\AllBare s'.gens) s₁:=by
  intro H hO hS hok hA hK
  have base_of:∀ {b:Addr} {o:Obj},s₁.heap.get? b=some o->H b=none->(hidT s₁.heap H).get? b=some o:=λe n=>Gk e n
  have noA:∀ {b:Addr} {o:Obj} {es:Array DictEntry} {ep:Nat},s₁.heap.get? b=some o->o.data=.dict es ep->H b=none:=fun {b o es ep} e d=>by
   cases q:H b with
   |none=>rfl
   |some u=>
    have e':b=a:=hA b (by rw[q];simp)
    subst e'
    rw[ha] at e;cases e
    have d':Data.seq vs.toArray _=Data.dict es ep:=d
    cases d'
  have nsK:∀ {b:Addr} {m:Str->Option Value},s₁.heap.Ns b m->(hidT s₁.heap H).Ns b m:=fun {b m} ⟨o,es,ep,e,d,r⟩=>⟨o,es,ep,base_of e (noA e d),d,r⟩
  have hKb:K.In (hidT s₁.heap H):=λb o e=>base_of (KX b o e) (by
   cases q:H b with
   |none=>rfl
   |some u=>
    have e':b=a:=hA b (by rw[q];simp)
    subst e'
    rw[hK (by rw[q];simp)] at e;cases e)
  have hM:Mod K mg (hidT s₁.heap H):=⟨hKb,nsK hns,⟨mb,nsK hb,hbb⟩,let ⟨mc,h1,h2⟩:=hlim;⟨mc,nsK h1,h2⟩⟩
  have e0:Env0 P w K mg (hidT s₁.heap H) callerA [] s₁ H:=⟨rfl,hM,λb o e=>Rf e,Nat.le_of_eq (Ua _ _),trivial,λb hb=>absurd (show b∈([]:List Addr) from hb) (by simp),hok,.of_eq hg⟩
  refine codeAny_mono ((F _ hKb (nsK hns)).run callerA [] s₁ H ⟨[.ref a],[]⟩ [.ref a] [.ref a] _ _ hr e0 (hbind s₁ (.ref a)) (.cons rfl .nil) (hsp H hO hS)) λr s' h=>?_
  cases r with
  |error e=>exact (hCX H e s' h).elim
  |ok fl=>
   cases fl with
   |next=>exact False.elim h
   |brk=>exact False.elim h
   |cont=>exact False.elim h
   |ret u=>
    obtain⟨v,H',os,bare,un,hok',r',q⟩:=h
    have q':v=.bl true:=q
    subst q'
    obtain rfl:u=Value.bool true:=r'
    refine⟨rfl,OldK.of_keep λb o e=>?_,os,bare⟩
    cases q:H b with
    |none=>exact un.keep b o e q (by intro z;exact absurd (show b∈([]:List Addr) from z) (by simp)) (by simp)
    |some u=>
     rcases hO b with z | ⟨ob,xs,z⟩
     ·rw[q] at z;cases z
     ·have z2:=un.frzs b ob _ z
      obtain⟨e1,_⟩:=hok b _ z
      obtain⟨e2,_⟩:=hok' b _ z2
      rw[e] at e1;cases e1
      exact e2
 cases hk:K.lookup a with
 |some o=>
  have e:=KX a o hk
  rw[ha] at e
  cases e
  refine core (λ_=>none) (λ_=>.inl rfl) (.inr ⟨_,vs.toArray,_,hk,rfl,rfl,rfl,by rw[List.size_toArray,lenV];exact hl,by simpa using rv⟩) (λb u z=>by have z':(none:Option HO)=some u:=z;cases z') (λb z=>absurd rfl z) λz=>absurd rfl z
 |none=>
  refine core (λb=>if b=a then some (.frz { cls:=.type "list",data:=.seq vs.toArray } (.lst (ns.map V.int))) else none) (λb=>?_) (.inl (.inr ⟨{ cls:=.type "list",data:=.seq vs.toArray },if_pos rfl⟩)) (λb u z=>?_) (λb z=>?_) λ_=>hk
  ·by_cases hb:b=a
   ·exact .inr ⟨_,_,if_pos hb⟩
   ·exact .inl (if_neg hb)
  ·by_cases hb:b=a
   ·have z':=(if_pos hb).symm.trans z
    cases z'
    subst hb
    exact⟨ha,by rw[List.length_map];exact hl,vs,_,rv,ha⟩
   ·have z':=(if_neg hb).symm.trans z
    cases z'
  ·by_cases hb:b=a
   ·exact hb
   ·exact absurd (if_neg hb) z
abbrev KOf {K:PySem.W.Frag}{h:Heap}(_:K.In h):PySem.W.Frag:=K
theorem walk_of {l:PySem.W.OpenLaw}{n k:Nat}{q:Program}{loose:List Str}{XP:(Str->Option Value)->Heap->Prop}{YP:World->Heap->Prop}{d:DefRec}{K:Params->PySem.W.Frag}{CX:World->CXT}{sp:World->Sp}{x:Str}
  (hn:l.most=some n) (hn2:n<=sizeLine) (hdf:d.params.defaults=[]) (hr:Room k callerA)
  (hY:∀(w:World) (h:Heap),YP w h->(K w.params).In h)
  (F:∀(w:World) (mg:Str->Option Value) (fa:Addr) (h:Heap),(K w.params).In h->h.Ns mainGlobals mg->mg d.name=some (.ref fa) ->
   ∃fd:FuncData,(∀(s:Shared) (u:Value),BindsTo s fd ⟨[u],[]⟩ [(x,u)]) /\
    ∀base:Heap,(K w.params).In base->base.Ns mainGlobals mg->FnOk l.prog w (K w.params) mg base (CX w) k fa fd [x] (sp w))
  (hsp:∀(w:World) (H:Hp) (a:Addr) (ns:List Int),ns.length<=n->Only H->SqL (K w.params) H a (ns.map V.int)->sp w [.ref a] H (λv _=>v=.bl true) λ_ _ _=>False)
  (hCX:∀(w:World) (H:Hp) (s:Shared) (e:Value) (s':Shared),CX w [] H s (λ_ _ _=>False) e s'->False) :
  PySem.W.WalkO q loose XP YP l.row.toRowW d [] (λf vs=>PySem.call f vs):=by
 refine Att.attach_call hn hdf λw s₀ s₁ mg mb fa o pm cd doc a vs ns G Y ho hd hcd hmg hobj hints hlen hg=>?_
 have KX:=hY w _ Y
 obtain⟨fd,hb,hF⟩:=F w mg fa _ KX G.T.g hmg
 exact zbl KX G.T.g G.T.b G.T.builtins G.T.nolimit hg hobj hints (Nat.le_trans hlen hn2) hr hF hb (λH hO hS=>hsp w H a ns hlen hO hS) λH e s'=>hCX w H s₁ e s'
end L2
namespace L2
open PySem PySem.Spec PyProof.Rows
def kx (s:Stmt)(j:Nat):Stmt:=match s with
 |.ClassDef _ _ _ body _ _ _ _ _ _ _=>body.getD j (.Pass ⟨0,0,0,0⟩)
 |_=>.Pass ⟨0,0,0,0⟩
def zm (s:Stmt):Arguments:=match s with
 |.FunctionDef _ a _ _ _ _ _ _ _ _=>a
 |_=>{ posonlyargs:=[],args:=[],vararg:=none,kwonlyargs:=[],kw_defaults:=[],kwarg:=none,defaults:=[] }
def zk (s:Stmt):List Stmt:=match s with
 |.FunctionDef _ _ b _ _ _ _ _ _ _=>b
 |_=>[]
def zd (s:Stmt):Scope:=match s with
 |.FunctionDef _ _ _ _ _ _ sc _ _ _=>sc
 |_=>{ kind:=.function,names:=[],isGenerator:=false,isCoroutine:=false }
abbrev CX0:CXT:=λ_ _ _ _ _ _=>False
abbrev E0:XK:=λ_ _ _=>False
theorem pass0 {X:Cx}:Passes CX0 X E0:=λ_ _ _ _ _ _ _ h=>h.elim
structure Fun (K:PySem.W.Frag)(x qual:Str)(st:Stmt)(f:Addr)(fd:FuncData):Prop where
 ex:∃(oc:Value) (od:Option Addr) (kV doc pm:Value) (an:Option Addr) (cdv ct:Value) (osl:Array (Option Value)),
  fd=fnOf x qual (zm st) (zk st) (zd st) .none kV doc pm an cdv ct/\K.lookup f=some ⟨oc,od,.func fd,osl⟩/\codeIn K cdv qual=true
 kp:keepIn K (.ref f)=true
section
variable {P:Program}{w:World}{K:PySem.W.Frag}{mg:Str->Option Value}{base:Heap}
theorem Fun.ok {x qual:Str}{st:Stmt}{f:Addr}{fd:FuncData}{N ps:List Str}{k:Nat}{sp:Sp}(F:Fun K x qual st f fd)(S:FnScope N ps (zd st))(len:∀vs H Q E,sp vs H Q E->vs.length=ps.length)
  (hbody:∀(cdv:Value) (A:Around) (outer:List Env) (s:Shared) (H:Hp) (vs:List V) (Q:VK) (E:XK),Room k (A.deeper (envOfC qual (zd st) s.heap.objs.size f cdv))->sp vs H Q E ->
   ∃t,PSs (cxOf CX0 P w K mg base N qual (zd st) f cdv A outer s H E).nox (zk st) t/\t { nx:=λ_ H'=>Q .non H',rt:=Q } (start N vs) H):FnOk P w K mg base CX0 (k+1) f fd ps sp:=by
 obtain⟨oc,od,kV,doc,pm,an,cdv,ct,osl,rfl,lk,hcd⟩:=F.ex
 refine uX lk hcd S len λA outer s H vs Q E hr hsp=>?_
 obtain⟨t,h,q⟩:=hbody cdv A outer s H vs Q E hr hsp
 exact⟨t,h.nox,q⟩
theorem Fun.binds {x qual:Str}{st:Stmt}{f:Addr}{fd:FuncData}{ps:List Str}(F:Fun K x qual st f fd)
  (h:∀(kV doc pm:Value) (an:Option Addr) (cdv ct:Value) (us:List Value),us.length=ps.length->bindArgs (fnOf x qual (zm st) (zk st) (zd st) .none kV doc pm an cdv ct) ⟨us,[]⟩=pure (ps.zip us)):Binds K fd ps []:=by
 obtain⟨oc,od,kV,doc,pm,an,cdv,ct,osl,rfl,lk,hcd⟩:=F.ex
 exact .all (h kV doc pm an cdv ct)
theorem zp {x qual:Str}{st:Stmt}{f:Addr}{oc:Value}{od an:Option Addr}{osl:Array (Option Value)}{kV doc pm cdv ct:Value}(l:K.lookup f=some ⟨oc,od,.func (fnOf x qual (zm st) (zk st) (zd st) .none kV doc pm an cdv ct),osl⟩)
  (c:codeIn K cdv qual=true) (k:keepIn K (.ref f)=true):Fun K x qual st f (fnOf x qual (zm st) (zk st) (zd st) .none kV doc pm an cdv ct):=⟨⟨oc,od,kV,doc,pm,an,cdv,ct,osl,rfl,l,c⟩,k⟩
end
section
variable {X:Cx}
theorem pv (i:Nat){x:Str}{pos:Pos}(hN:X.N[i]?=some x:=by rfl)(hv:Vis X.env.scope x:=by first | exact Or.inl rfl | exact Or.inr (Or.inl rfl) | exact Or.inr (Or.inr rfl))(hd:(x==("__debug__" : Str))=false:=by decide)
  (hcd:(x==("__classdict__" : Str))=false:=by decide):PE X (.Name x pos) (tVar i):=kl hN hv hd hcd
end
theorem iteF {A B:Prop}(h:B):if false=true then A else B:=by
 rw[if_neg Bool.false_ne_true]
 exact h
theorem iteT {A B:Prop}(h:A):if true=true then A else B:=by
 rw[if_pos rfl]
 exact h
def Same (H H':Hp):Prop:=∀b o,H b=some o->H' b=some o
theorem Same.refl (H:Hp):Same H H:=λ_ _ h=>h
theorem Same.trans {H H1 H2:Hp}(a:Same H H1)(b:Same H1 H2):Same H H2:=λc o h=>b c o (a c o h)
theorem Same.free {H H':Hp}(e:Same H H'){l:Addr}(h:H' l=Option.none):H l=Option.none:=by
 cases q:H l with
 |none=>rfl
 |some o=>
  rw[e l o q] at h
  cases h
theorem Same.seq {K:PySem.W.Frag}{H H':Hp}{a:Addr}{xs:List V}(e:Same H H')(h:SqL K H a xs):SqL K H' a xs:=by
 rcases h with (h | ⟨o,h⟩) | h
 ·exact .inl (.inl (e _ _ h))
 ·exact .inl (.inr ⟨o,e _ _ h⟩)
 ·exact .inr h
end L2
namespace L3
open PySem PySem.Spec L2
open PyProof.Rows hiding St
section
variable {X:Cx}{pins:List (Addr×Obj)}{σ:St}{H H':Hp}{s:Shared}{h':Heap}
theorem vX {ch:List Addr}{t':Nat}(I:Inv X pins σ H s)(k:∀b o,b∉ch->s.heap.get? b=some o->h'.get? b=some o)(hf:∀b∈ch,FpOk X pins H b):Inv X pins σ H { s with heap:=h',toks:=t' }:=by
 have nit:∀b u,H b=some u->b∉ch:=λb u e z=>by rw[(hf b z).1] at e;cases e
 refine I.step (g':=s.gens) (d':=s.drawn) (ch:=ch) (λb hb=>?_) (λb o _ _ hc e _=>k b o hc e) (λb o _ _ hc e _=>⟨o.slots,k b o hc e⟩) (λ_ _ _ _ n=>n)
  (λb o hc e=>⟨o,k b o hc e⟩) (λ_ _ e=>e) (λ_ _ _ e=>e) (λb ps e=>⟨#[],by rw[e];simp⟩) (λm hm=>?_) (λb u e=>?_) I.bare
 ·obtain⟨_,f1,_,f3,f4,f5⟩:=hf b hb
  exact⟨f3,f1,f4,f5⟩
 ·obtain⟨o,es,ep,ho,r⟩:=hm
  exact⟨o,es,ep,k _ o (λz=>(hf _ z).2.1 rfl) ho,r⟩
 ·refine (I.hok b u e).stay (λc v hc q=>k c v ?_ q) (λ_ q=>q) λ_ _ q=>q
  rcases hc with z | z
  ·rw[z];exact nit b u e
  ·exact nit c _ z
theorem stepN {ch:List Addr}{t':Nat}{T:Addr}{o:HO}(I:Inv X pins σ H s)(k:∀b o,b∉ch->s.heap.get? b=some o->h'.get? b=some o)(hf:∀b∈ch,FpOk X pins H b)(hT:s.heap.objs.size<=T)
  (new:ObjOk X.prog X.w (upd H T o) h' T o):Inv X pins σ (upd H T o) { s with heap:=h',toks:=t' }:=by
 have nit:∀b u,H b=some u->b∉ch:=λb u e z=>by rw[(hf b z).1] at e;cases e
 have nT:H T=none:=I.hok.fresh hT
 refine I.step (g':=s.gens) (d':=s.drawn) (ch:=ch) (λb hb=>?_) (λb o _ _ hc e _=>k b o hc e) (λb o _ _ hc e _=>⟨o.slots,k b o hc e⟩) (λb u _ e n=>?_)
  (λb o hc e=>⟨o,k b o hc e⟩) (λb xs e=>by rw[zg (zw e nT)];exact e) (λb ob u e=>by rw[zg (zw e nT)];exact e) (λb ps e=>⟨#[],by rw[zg (zw e nT),e];simp⟩) (λm hm=>?_) (λb u e=>?_) I.bare
 ·obtain⟨_,f1,_,f3,f4,f5⟩:=hf b hb
  exact⟨f3,f1,f4,f5⟩
 ·rw[zg (Nat.ne_of_lt (Nat.lt_of_lt_of_le (Heap.lt_size e) hT))];exact n
 ·obtain⟨o,es,ep,ho,r⟩:=hm
  exact⟨o,es,ep,k _ o (λz=>(hf _ z).2.1 rfl) ho,r⟩
 ·by_cases hb:b=T
  ·subst hb;rw[zl] at e;cases e;exact new
  ·rw[zg hb] at e
   refine (I.hok b u e).stay (λc v hc q=>k c v ?_ q) (λc q=>by rw[zg (zw q nT)];exact q) λc xs q=>by rw[zg (zw q nT)];exact q
   rcases hc with z | z
   ·rw[z];exact nit b u e
   ·exact nit c _ z
end
def Ite (K:PySem.W.Frag)(a:Addr):It :=
 ⟨λi H=>∃xs x,SqL K H a xs/\xs[i]?=some x,λi H x H'=>∃T v,H T=none/\x=.ref T/\H'=upd H T (.tup [.int i,v])/\∀xs,SqL K H a xs->xs[i]?=some v,λi H=>∃xs,SqL K H a xs/\xs.length<=i⟩
def Itz (K:PySem.W.Frag)(a b:Addr):It :=
  ⟨λi H=>∃xs x ys y,SqL K H a xs/\xs[i]?=some x/\SqL K H b ys/\ys[i]?=some y,
   λi H x H'=>∃T v u,H T=none/\x=.ref T/\H'=upd H T (.tup [v,u])/\(∀xs,SqL K H a xs->xs[i]?=some v)/\∀ys,SqL K H b ys->ys[i]?=some u,
   λi H=>∃xs ys,SqL K H a xs/\SqL K H b ys/\(xs.length<=i∨ys.length<=i)⟩
theorem zb8 {P:Program}{w:World}{K:PySem.W.Frag}{elts:List Expr}{k:Nat}{pos:Pos}(a e it:Addr)(hne:e≠it) :
  Turn P w K (.Tuple elts k pos) (Ite K a) [e,it] e (λi h=>(∃old,IsEnum h e it i old)/\h.IsListIter it a i) where
 mem:=by simp
 obj:=λi h st b hb=>by
  obtain⟨⟨old,he⟩,o,e1,c,d⟩:=st
  rcases List.mem_cons.mp hb with rfl | hb
  ·exact⟨_,he,λv z=>by cases z⟩
  ·rw[List.mem_singleton.mp hb]
   exact⟨o,e1,λv z=>by rw[d] at z;cases z⟩
 keep:=λi h h' st k=>⟨let ⟨old,he⟩:=st.1;⟨old,k e (by simp) _ he⟩,st.2.at λo e=>k it (by simp) o e⟩
 item:=by
  intro X hP hw hK hc i pins s σ H E I hf st hg
  subst hP hw hK
  obtain⟨⟨old,he⟩,hit⟩:=st
  obtain⟨xs,x,hq,hx⟩:=hg
  obtain⟨its,rv,p,hz⟩:=I.list hq
  obtain⟨u,hu,ru⟩:=rv.get hx
  refine wpAny_pyNext_enum_item he hit p.isList (x:=u) (by simpa using hu) hne λh' ho hit' hT hsz hk=>⟨_,rfl,?_⟩
  refine wpAny_letOwnedTupleGo_enum ho λh'' he'' hs''=>?_
  have nT:H s.heap.objs.size=none:=I.hok.fresh (Nat.le_refl _)
  have hTe:s.heap.objs.size≠e:=Nat.ne_of_gt (Heap.lt_size he)
  refine⟨.ref s.heap.objs.size,upd H s.heap.objs.size (.tup [.int i,x]),stepN (s:=s) (t':=s.toks+1) (ch:=[e,it]) I (λb o hb q=>?_) hf (Nat.le_refl _) ?_,rfl,⟨_,x,nT,rfl,rfl,λys hy=>by rw[I.list_inj hy hq];exact hx⟩,⟨⟨_,by simpa using he''⟩,hit'.extBut hs''.extBut (Ne.symm hne)⟩,λb hb=>?_⟩
  ·have h1:b≠e:=λz=>hb (by simp[z])
   have h2:b≠it:=λz=>hb (by simp[z])
   exact hs''.extBut b o h1 (hk b o h1 h2 q)
  ·exact⟨(show 2<=sizeLine by decide),[.int i s.toks,u],.cons ⟨_,rfl⟩ (.cons ru .nil),⟨_,hs''.extBut _ _ hTe hT,rfl,_,rfl⟩⟩
  ·have hb':b≠s.heap.objs.size:=by
    rcases List.mem_cons.mp hb with rfl | hb
    ·exact Ne.symm hTe
    ·rw[List.mem_singleton.mp hb]
     obtain⟨o,e1,_⟩:=hit
     exact Nat.ne_of_lt (Heap.lt_size e1)
   rw[zg hb']
   exact (hf b hb).1
 done:=by
  intro X hP hw hK hc i pins s σ H E I hf st hg
  subst hP hw hK
  obtain⟨⟨old,he⟩,hit⟩:=st
  obtain⟨xs,hq,hx⟩:=hg
  obtain⟨its,rv,p,hz⟩:=I.list hq
  have hl:=rv.length
  refine wpAny_pyNext_enum_end (I.ok.hd hc) he hit p.isList (by simp;omega) λh' eb=>⟨rfl,vX (t':=s.toks) (ch:=[e,it]) I (λb o hb q=>eb b o (λz=>hb (by simp[z])) q) hf⟩
 self:=λ_ _ _ _ _ st h=>let ⟨_,he⟩:=st.1;wpAny_pyIter_enum he h
theorem zV {h:Heap}{a b:Addr}{o u:Obj}(h1:h.get? a=some o)(h2:h.get? b=some u)(hc:o.cls≠u.cls):a≠b:=by
 intro e;subst e;rw[h1] at h2;cases h2;exact hc rfl
theorem WV {h:Heap}{z TI TO i1 i2 l1 l2:Addr}{f0 a b:Value}{k1 k2:Nat}{xs ys:Array Value}(hz:IsZip h z TI TO f0)(hTI:IsPair h TI (.ref i1) (.ref i2))(hTO:IsPair h TO a b)(h1:h.IsListIter i1 l1 k1)(h2:h.IsListIter i2 l2 k2)
  (g1:h.IsList l1 xs) (g2:h.IsList l2 ys) (hio:TI≠TO) (h12:i1≠i2):ZipApart z TI TO i1 i2 l1 l2:=by
 obtain⟨o1,e1,c1,_⟩:=h1
 obtain⟨o2,e2,c2,_⟩:=h2
 obtain⟨p1,q1,d1,_⟩:=g1
 obtain⟨p2,q2,d2,_⟩:=g2
 exact⟨zV hTI hz (by simp),zV hTO hz (by simp),zV e1 hz (by rw[c1];simp),zV e2 hz (by rw[c2];simp),hio,
  zV hTI e1 (by rw[c1];simp),zV hTI e2 (by rw[c2];simp),zV hTO e1 (by rw[c1];simp),zV hTO e2 (by rw[c2];simp),h12,
  zV q1 hz (by rw[d1];simp),zV q1 hTO (by rw[d1];simp),zV q1 e1 (by rw[d1,c1];simp),zV q1 e2 (by rw[d1,c2];simp),
  zV q2 hz (by rw[d2];simp),zV q2 hTO (by rw[d2];simp),zV q2 e1 (by rw[d2,c1];simp),zV q2 e2 (by rw[d2,c2];simp)⟩
theorem Ri {P:Program}{w:World}{K:PySem.W.Frag}{elts:List Expr}{k:Nat}{pos:Pos}(l1 l2 z TI TO i1 i2:Addr)(hio:TI≠TO)(h12:i1≠i2) :
  Turn P w K (.Tuple elts k pos) (Itz K l1 l2) [z,TI,TO,i1,i2] z
   (λi h=>IsZip h z TI TO .none/\IsPair h TI (.ref i1) (.ref i2)/\(∃a b,IsPair h TO a b)/\h.IsListIter i1 l1 i/\h.IsListIter i2 l2 i) where
 mem:=by simp
 obj:=λi h st b hb=>by
  obtain⟨hz,hTI,⟨a',b',hTO⟩,⟨o1,e1,c1,d1⟩,⟨o2,e2,c2,d2⟩⟩:=st
  simp only[List.mem_cons,List.not_mem_nil,or_false] at hb
  rcases hb with rfl | rfl | rfl | rfl | rfl
  ·exact⟨_,hz,λv z=>by cases z⟩
  ·exact⟨_,hTI,λv z=>by cases z⟩
  ·exact⟨_,hTO,λv z=>by cases z⟩
  ·exact⟨o1,e1,λv z=>by rw[d1] at z;cases z⟩
  ·exact⟨o2,e2,λv z=>by rw[d2] at z;cases z⟩
 keep:=λi h h' st k=>by
  obtain⟨hz,hTI,⟨a',b',hTO⟩,h1,h2⟩:=st
  exact⟨k z (by simp) _ hz,k TI (by simp) _ hTI,⟨a',b',k TO (by simp) _ hTO⟩,h1.at λo e=>k i1 (by simp) o e,h2.at λo e=>k i2 (by simp) o e⟩
 item:=by
  intro X hP hw hK hc i pins s σ H E I hf st hg
  subst hP hw hK
  obtain⟨hz,hTI,⟨a',b',hTO⟩,h1,h2⟩:=st
  obtain⟨xs,x,ys,y,hq,hx,hr,hy⟩:=hg
  obtain⟨its,rv,p,_⟩:=I.list hq
  obtain⟨u,hu,ru⟩:=rv.get hx
  obtain⟨jts,rw',p',_⟩:=I.list hr
  obtain⟨u',hu',ru'⟩:=rw'.get hy
  have D:=WV hz hTI hTO h1 h2 p.isList p'.isList hio h12
  refine wpAny_pyNext_zip_item D hz hTI hTO h1 h2 p.isList p'.isList (x:=u) (y:=u') (by simpa using hu) (by simpa using hu') λh' a1 a2 a3 a4 a5 a6 hk=>⟨_,rfl,?_⟩
  refine wpAny_letOwnedTupleGo_zip a1 λh'' hz'' hs''=>?_
  have nT:H s.heap.objs.size=none:=I.hok.fresh (Nat.le_refl _)
  have hTz:s.heap.objs.size≠z:=Nat.ne_of_gt (Heap.lt_size hz)
  refine⟨.ref s.heap.objs.size,upd H s.heap.objs.size (.tup [x,y]),stepN (s:=s) (t':=s.toks) (ch:=[z,TI,TO,i1,i2]) I (λb o hb q=>?_) hf (Nat.le_refl _) ?_,rfl,
   ⟨_,x,y,nT,rfl,rfl,λzs hy'=>by rw[I.list_inj hy' hq];exact hx,λzs hy'=>by rw[I.list_inj hy' hr];exact hy⟩,
   ⟨hz'',hs''.extBut _ _ D.TIz (hk _ _ D.TIz D.TITO D.TIi1 D.TIi2 hTI),⟨_,_,hs''.extBut _ _ D.TOz a2⟩,a3.extBut hs''.extBut D.i1z,a4.extBut hs''.extBut D.i2z⟩,λb hb=>?_⟩
  ·simp only[List.mem_cons,List.not_mem_nil,or_false,not_or] at hb
   exact hs''.extBut b o hb.1 (hk b o hb.1 hb.2.2.1 hb.2.2.2.1 hb.2.2.2.2 q)
  ·exact⟨(show 2<=sizeLine by decide),[u,u'],.cons ru (.cons ru' .nil),⟨_,hs''.extBut _ _ hTz a5,rfl,_,rfl⟩⟩
  ·have lt:b < s.heap.objs.size:=by
    obtain⟨o1,e1,_⟩:=h1
    obtain⟨o2,e2,_⟩:=h2
    simp only[List.mem_cons,List.not_mem_nil,or_false] at hb
    rcases hb with rfl | rfl | rfl | rfl | rfl
    ·exact Heap.lt_size hz
    ·exact Heap.lt_size hTI
    ·exact Heap.lt_size hTO
    ·exact Heap.lt_size e1
    ·exact Heap.lt_size e2
   rw[zg (Nat.ne_of_lt lt)]
   exact (hf b hb).1
 done:=by
  intro X hP hw hK hc i pins s σ H E I hf st hg
  subst hP hw hK
  obtain⟨hz,hTI,⟨a',b',hTO⟩,h1,h2⟩:=st
  obtain⟨xs,ys,hq,hr,hx⟩:=hg
  obtain⟨its,rv,p,_⟩:=I.list hq
  obtain⟨jts,rw',p',_⟩:=I.list hr
  have D:=WV hz hTI hTO h1 h2 p.isList p'.isList hio h12
  have e1:=rv.length
  have e2:=rw'.length
  refine wpAny_pyNext_zip_end (I.ok.hd hc) D hz hTI hTO h1 h2 p.isList p'.isList ?_ λh' hk=>⟨rfl,vX (t':=s.toks) (ch:=[z,TI,TO,i1,i2]) I (λb o hb q=>?_) hf⟩
  ·rcases hx with hx | hx
   ·exact .inl (by simp;omega)
   ·exact .inr (by simp;omega)
  ·simp only[List.mem_cons,List.not_mem_nil,or_false,not_or] at hb
   exact hk b o hb.1 hb.2.2.1 hb.2.2.2.1 hb.2.2.2.2 q
 self:=λ_ _ _ _ _ st h=>wpAny_pyIter_zip st.1 h
section
variable {X:Cx}{elts:List Expr}{tk:Nat}{tpos:Pos}
def iEnum (K:PySem.W.Frag)(ta:TA):TI:=λσ H R=>ta σ H λvs H1=>∃a,vs=[.ref a]/\(∃xs,SqL K H1 a xs)/\R (Ite K a) H1
def iZip (K:PySem.W.Frag)(ta:TA):TI:=λσ H R=>ta σ H λvs H1=>∃a b,vs=[.ref a,.ref b]/\(∃xs,SqL K H1 a xs)/\(∃xs,SqL K H1 b xs)/\R (Itz K a b) H1
theorem zew {a:Expr}{ta:TA}{p pos:Pos}(hg:Gl X "enumerate") (hm:X.mg "enumerate" = none) (ha:PA X [a] ta) (hs:starEach [a] X.env=[(false,eval a X.env)]:=by rfl) :
  PI X (.Tuple elts tk tpos) (.Call (.Name "enumerate" p) [a] [] pos) (iEnum X.K ta):=by
 intro pins s σ H R I h
 refine Call_ (wM I hg hm (u:=.type "enumerate") (by decide +kernel) (PyProof.Rows.callWith_type1 (thn (ha pos pins s σ H _ I h) λus s1 ⟨vs,H1,I1,r1,q1⟩=>?_) hs rfl))
 obtain⟨a,e,⟨xs,hq⟩,q⟩:=q1
 subst e
 obtain⟨u,rfl,ru⟩:=vals1 r1
 cases ru
 obtain⟨its,rv,pl,hz⟩:=I1.list hq
 refine call_enumerate_list pl.isList λh' he hit hsz hk=>wpAny_pyIter_enum he ?_
 have I2:Inv X pins σ H1 { s1 with heap:=h' }:=I1.kept (t':=s1.toks) hk
 refine⟨s1.heap.objs.size+1,[s1.heap.objs.size+1,s1.heap.objs.size],_,_,H1,rfl,I2,zb8 a _ _ (show ((s1.heap.objs.size+1:Nat)≠s1.heap.objs.size) by omega),⟨⟨_,he⟩,hit⟩,λb hb=>?_,q⟩
 have hb':s1.heap.objs.size<=b:=by
  rcases List.mem_cons.mp hb with rfl | hb
  ·exact Nat.le_succ _
  ·rw[List.mem_singleton.mp hb];exact Nat.le_refl _
 exact I1.fpOk hb' (I1.hok.fresh hb')
theorem Kh {a b:Expr}{ta:TA}{p pos:Pos}(hg:Gl X "zip") (hm:X.mg "zip" = none) (ha:PA X [a,b] ta) (hs:starEach [a,b] X.env=[(false,eval a X.env),(false,eval b X.env)]:=by rfl) (hs2:starEach [b] X.env=[(false,eval b X.env)]:=by rfl) :
  PI X (.Tuple elts tk tpos) (.Call (.Name "zip" p) [a,b] [] pos) (iZip X.K ta):=by
 intro pins s σ H R I h
 refine Call_ (wM I hg hm (u:=.type "zip") (by decide +kernel) (PyProof.Rows.callWith_type1 (thn (ha pos pins s σ H _ I h) λus s1 ⟨vs,H1,I1,r1,q1⟩=>?_) (by rw[hs,hs2]) (by rw[hs2];rfl)))
 obtain⟨a,b,e,⟨xs,hq⟩,⟨ys,hr⟩,q⟩:=q1
 subst e
 obtain⟨u,u',rfl,ru,ru'⟩:=vals2 r1
 cases ru
 cases ru'
 obtain⟨its,rv,pl,hz⟩:=I1.list hq
 obtain⟨jts,rw',pl',hz'⟩:=I1.list hr
 refine call_zip_2 pl.isList pl'.isList λh' he hTI hTO hi1 hi2 hsz hk=>wpAny_pyIter_zip he ?_
 have I2:Inv X pins σ H1 { s1 with heap:=h' }:=I1.kept (t':=s1.toks) hk
 refine⟨s1.heap.objs.size+4,[s1.heap.objs.size+4,s1.heap.objs.size+2,s1.heap.objs.size+3,s1.heap.objs.size,s1.heap.objs.size+1],_,_,H1,rfl,I2,Ri a b _ _ _ _ _ (show ((s1.heap.objs.size+2:Nat)≠s1.heap.objs.size+3) by omega) (show ((s1.heap.objs.size:Nat)≠s1.heap.objs.size+1) by omega),⟨he,hTI,⟨_,_,hTO⟩,hi1,hi2⟩,λc hc=>?_,q⟩
 have hb':(s1.heap.objs.size:Nat)<=(c:Nat):=by
  simp only[List.mem_cons,List.not_mem_nil,or_false] at hc
  rcases hc with rfl | rfl | rfl | rfl | rfl
  ·exact Nat.le_add_right _ _
  ·exact Nat.le_add_right _ _
  ·exact Nat.le_add_right _ _
  ·exact Nat.le_refl _
  ·exact Nat.le_add_right _ _
 exact I1.fpOk hb' (I1.hok.fresh hb')
end
theorem Ji {prog:Program}{w:World}{A:Around}{R:Result->Shared->Prop}{s:Shared}{elt target iter:Expr}{ifs:List Expr}{scope:Scope}{pos:Pos}{it acc:Value}{env:Env}(I:Nat->Shared->Prop)
  (turn:∀n s,I n s->wpAny (model prog w) A (pyNext it) (λr s₁=>match r with
   |none=>R (.ok .next) s₁
   |some v=>wpAny (model prog w) A (letOwnedTupleGo target it v) (λ_ s₁'=>wpAny (model prog w) A (assign target env v) (λ_ s₂=>
     wpAny (model prog w) A (forIn ifs true λc r=>if r=true then do let ok <-isTrue c env (eval c env);pure (ForInStep.yield ok) else pure (ForInStep.yield r)) (λok s₃=>
      if ok=true then wpAny (model prog w) A (eval elt env) (λx s₄=>
       wpAny (model prog w) A (call (.builtin "list.append") [acc,x]) (λ_ s₅=>∃m,m < n/\I m s₅) (λ_ _=>False) s₄) (λ_ _=>False) s₃
      else ∃m,m < n/\I m s₃) (λ_ _=>False) s₂) (λ_ _=>False) s₁') (λ_ _=>False) s₁) (λ_ _=>False) s)
  (n:Nat) (h:I n s):codeAny (model prog w) A (.compLoop (.ListComp elt [⟨target,iter,ifs,0⟩] scope pos) 0 it acc env) R s:=by
 refine codeAny_loop rfl I (λn s hI=>?_) n h
 show wpAny _ A ((compTurn (.ListComp elt [⟨target,iter,ifs,0⟩] scope pos) 0 it acc env).onRaise (λx=>do noteFrame x env;theTreesLotGoes x)) _ _ s
 refine wpAny_noted ?_
 rw[compTurn_list]
 refine wpAny_bind (wpAny_standAt (wpAny_bind (wpAny_mono (turn n s hI) (λr s₁ h₁=>?_) λ_ _ h'=>h'.elim)))
 cases r with
 |none=>exact wpAny_pure h₁
 |some v=>
  refine wpAny_bind (wpAny_mono h₁ (λ_ s₁' h₁'=>?_) λ_ _ h'=>h'.elim)
  refine wpAny_bind (wpAny_mono h₁' (λ_ s₂ h₂=>wpAny_bind (wpAny_mono h₂ (λok s₃ h₃=>?_) λ_ _ h'=>h'.elim)) λ_ _ h'=>h'.elim)
  cases ok with
  |false=>exact wpAny_pure ⟨rfl,h₃⟩
  |true=>
   exact wpAny_bind (wpAny_bind (wpAny_mono h₃ (λx s₄ h₄=>wpAny_bind (wpAny_mono h₄ (λ_ s₅ h₅=>wpAny_pure (wpAny_pure ⟨rfl,h₅⟩)) λ_ _ h'=>h'.elim)) λ_ _ h'=>h'.elim))
def clGo (cells:List (Str×Addr)):List (Str×NameKind)->List (Str×Addr)->List (Str×Addr)
 | [],cs=>cs
 | (n,k)::r,cs=>clGo cells r (if k==.free then (n,(cells.lookup n).getD 0)::cs else cs)
theorem kQ {scope:Scope}{env:Env}(h:∀x∈scope.names,x.2=.free->∃c,env.cells.lookup x.1=some c):closureFor scope env=pure (clGo env.cells scope.names []):=by
 simp only[closureFor]
 have go:∀(l:List (Str×NameKind)) (cs:List (Str×Addr)),(∀x∈l,x.2=.free->∃c,env.cells.lookup x.1=some c) ->
   (forIn l cs λ(x:Str×NameKind) (r:List (Str×Addr))=>(if (x.2==NameKind.free)=true then do let a <-cellOf env x.1;pure (ForInStep.yield ((x.1,a)::r)) else pure (ForInStep.yield r):Sem (ForInStep (List (Str×Addr)))))=pure (clGo env.cells l cs):=by
  intro l
  induction l with
  |nil=>intro cs _;rfl
  |cons x r ih=>
   intro cs hx
   obtain⟨n,k⟩:=x
   rw[List.forIn_cons]
   by_cases hk:(k==NameKind.free)=true
   ·obtain⟨c,e⟩:=hx (n,k) List.mem_cons_self (by simpa using hk)
    have e':env.cells.lookup n=some c:=e
    have ec:cellOf env n=pure c:=by unfold cellOf;rw[e']
    simp only[hk,if_true,ec,pure_bind]
    rw[ih _ λy hy=>hx y (List.mem_cons_of_mem _ hy)]
    simp only[clGo,hk,if_true,e',Option.getD_some]
   ·simp only[hk,Bool.false_eq_true,if_false,pure_bind]
    rw[ih _ λy hy=>hx y (List.mem_cons_of_mem _ hy)]
    simp only[clGo,hk,Bool.false_eq_true,if_false]
 have:=go scope.names [] h
 simpa using this
theorem qR {cells:List (Str×Addr)}:∀(l:List (Str×NameKind)) (cs:List (Str×Addr)) (x:Str) (c:Addr),(∀y∈l,y.2=.free->∃c,cells.lookup y.1=some c)->(∀x c,cs.lookup x=some c->cells.lookup x=some c) ->
  (clGo cells l cs).lookup x=some c->cells.lookup x=some c
 | [],cs,x,c,_,h,e=>h x c e
 | (n,k)::r,cs,x,c,hl,h,e=>by
  refine qR r _ x c (λy hy=>hl y (List.mem_cons_of_mem _ hy)) (λy d=>?_) e
  by_cases hk:(k==NameKind.free)=true
  ·rw[if_pos hk]
   obtain⟨c',e'⟩:=hl (n,k) List.mem_cons_self (by simpa using hk)
   have e':cells.lookup n=some c':=e'
   intro q
   by_cases hy:y=n
   ·subst hy
    rw[List.lookup_cons_self] at q
    rw[<-q,e'];rfl
   ·rw[List.lookup_cons,beq_eq_false_iff_ne.mpr hy] at q
    exact h y d q
  ·rw[if_neg hk];exact h y d
theorem Ya {cells:List (Str×Addr)}:∀(l:List (Str×NameKind)) (cs:List (Str×Addr)) (x:Str),(cs.lookup x).isSome=true->((clGo cells l cs).lookup x).isSome=true
 | [],cs,x,h=>h
 | (n,k)::r,cs,x,h=>by
  refine Ya r _ x ?_
  by_cases hk:(k==NameKind.free)=true
  ·rw[if_pos hk]
   by_cases hy:x=n
   ·subst hy;rw[List.lookup_cons_self];rfl
   ·rw[List.lookup_cons,beq_eq_false_iff_ne.mpr hy];exact h
  ·rw[if_neg hk];exact h
theorem qp {cells:List (Str×Addr)}:∀(l:List (Str×NameKind)) (cs:List (Str×Addr)) (x:Str),(x,NameKind.free)∈l->((clGo cells l cs).lookup x).isSome=true
 | [],cs,x,h=>by simp at h
 | (n,k)::r,cs,x,h=>by
  rcases List.mem_cons.mp h with e | h
  ·cases e
   exact Ya r _ _ (by rw[if_pos (show (NameKind.free==NameKind.free)=true from rfl),List.lookup_cons_self];rfl)
  ·exact qp r _ x h
def cxc (X:Cx)(scope:Scope)(C:Addr)(N:List Str)(s₀:Shared)(H₀:Hp)(fp:List Addr)(pn:List (Addr×Obj)):Cx :=
 { X with N:=N,s₀:=s₀,H₀:=H₀,env:=compEnvC scope (clGo X.env.cells scope.names []) C X.env,outer:=X.stack,stack:=X.stack,ex:=fp,fn:=λ_=>false,pn:=pn,xe:=λ_ _=>False }
structure CompScope (X:Cx)(scope:Scope)(own:List Str)(cap:List (Str×Nat)):Prop where
 kind:scope.kind=.function
 nocell:∀y∈scope.names,y.2≠.cell
 names:∀y∈scope.names,y.2=.local->scope.names.lookup y.1=some .local
 frees:∀y∈scope.names,y.2=.free->X.env.kindOf y.1=some .cell∨X.env.kindOf y.1=some .free
 caps:∀p∈cap,scope.names.lookup p.1=some .free/\X.N[p.2]?=some p.1
theorem u7 {env:Env}:∀ {names:List (Str×NameKind)} {x:Str} {k':NameKind},
  (names.map λ(n,k)=>if (k==NameKind.free&&env.scope.kind==.function&&env.kindOf n==some .cell) then (n,NameKind.cell) else (n,k)).lookup x=some k'->(k'=.cell∨k'=.free)->(∀y∈names,y.2≠.cell)->(x,NameKind.free)∈names
 | [],x,k',h,_,_=>by simp at h
 | (n,k)::r,x,k',h,hk,hc=>by
  have ih:=@u7 env r x k'
  rw[List.map_cons] at h
  by_cases hq:(k==NameKind.free&&env.scope.kind==.function&&env.kindOf n==some .cell)=true
  ·simp only[hq,if_true] at h
   have kf:k=NameKind.free:=by
    simp only[Bool.and_eq_true,beq_iff_eq] at hq
    exact hq.1.1
   by_cases hx:x=n
   ·subst hx;subst kf;exact List.mem_cons_self
   ·rw[List.lookup_cons,beq_eq_false_iff_ne.mpr hx] at h
    exact List.mem_cons_of_mem _ (ih h hk λy hy=>hc y (List.mem_cons_of_mem _ hy))
  ·simp only[hq,if_false] at h
   by_cases hx:x=n
   ·subst hx
    have h':some k=some k':=by
     have:=h
     simp at this
     rw[this]
    cases h'
    rcases hk with z | z
    ·exact absurd z (hc (x,k) List.mem_cons_self)
    ·subst z;exact List.mem_cons_self
   ·have h2:List.lookup x (List.map (λ(n,k)=>if (k==NameKind.free&&env.scope.kind==.function&&env.kindOf n==some .cell) then (n,NameKind.cell) else (n,k)) r)=some k':=by
     simpa[List.lookup_cons,beq_eq_false_iff_ne.mpr hx] using h
    exact List.mem_cons_of_mem _ (ih h2 hk λy hy=>hc y (List.mem_cons_of_mem _ hy))
theorem kR {env:Env}:∀ {names:List (Str×NameKind)} {x:Str},names.lookup x=some .free ->
  (names.map λ(n,k)=>if (k==NameKind.free&&env.scope.kind==.function&&env.kindOf n==some .cell) then (n,NameKind.cell) else (n,k)).lookup x=some .cell ∨
  (names.map λ(n,k)=>if (k==NameKind.free&&env.scope.kind==.function&&env.kindOf n==some .cell) then (n,NameKind.cell) else (n,k)).lookup x=some .free
 | [],x,h=>by simp at h
 | (n,k)::r,x,h=>by
  have ih:=@kR env r x
  rw[List.map_cons]
  by_cases hx:x=n
  ·subst hx
   rw[List.lookup_cons_self] at h
   cases h
   by_cases hq:(NameKind.free==NameKind.free&&env.scope.kind==.function&&env.kindOf x==some .cell)=true
   ·left;simp only[hq,if_true,List.lookup_cons_self]
   ·right;simp only[hq,if_false];simp
  ·rw[List.lookup_cons,beq_eq_false_iff_ne.mpr hx] at h
   by_cases hq:(k==NameKind.free&&env.scope.kind==.function&&env.kindOf n==some .cell)=true
   ·simp only[hq,if_true,List.lookup_cons,beq_eq_false_iff_ne.mpr hx];exact ih h
   ·have e:(if (k==NameKind.free&&env.scope.kind==.function&&env.kindOf n==some .cell)=true then (n,NameKind.cell) else (n,k))=(n,k):=if_neg hq
    simp only[e,List.lookup_cons,beq_eq_false_iff_ne.mpr hx];exact ih h
theorem qL {names:List (Str×NameKind)}{x:Str}{k:NameKind}(h:names.lookup x=some k):(x,k)∈names:=PySem.mem_of_lookup h
theorem JO {X:Cx}{scope:Scope}{own:List Str}{cap:List (Str×Nat)}(S:CompScope X scope own cap){pins:List (Addr×Obj)}{σ:St}{H:Hp}{s:Shared}{C:Addr}{fp:List Addr}(I:Inv X pins σ H s)(hC:s.heap.objs.size<=C)(hf:∀b∈fp,FpOk X pins H b)(hlt:∀b∈fp,b < s.heap.objs.size){N:List Str}{pn:List (Addr×Obj)} :
  (cxc X scope C N s H fp pn).Ok:=by
 have hfr:∀y∈scope.names,y.2=.free->∃c,X.env.cells.lookup y.1=some c:=λy hy hk=>I.ok.has y.1 (S.frees y hy hk)
 have sub:∀x c,(clGo X.env.cells scope.names []).lookup x=some c->X.env.cells.lookup x=some c:=λx c=>qR _ _ x c hfr (λx c e=>by simp at e)
 refine⟨I.ok.mod,S.kind,I.ok.glob,I.ok.blt,hC,λx y c h1 h2=>I.ok.inj x y c (sub _ _ h1) (sub _ _ h2),λx hx=>?_,λx c h=>(by cases h),I.ok.hd,I.ok.frames,.inl rfl,λb hb=>⟨Nat.ne_of_lt (Nat.lt_of_lt_of_le (hlt b hb) hC),λx c e=>(hf b hb).2.2.2.2.1 x c (sub x c e)⟩,I.bs,Nat.le_trans I.ok.bsz I.sz,λb o e hb=>?_,λb hb z=>?_,I.stack,I.stkFree⟩
 ·have hx':(x,NameKind.free)∈scope.names:=by
   rcases hx with z | z
   ·exact u7 (env:=X.env) z (.inl rfl) S.nocell
   ·exact u7 (env:=X.env) z (.inr rfl) S.nocell
  exact Option.isSome_iff_exists.mp (qp scope.names [] x hx')
 ·rcases (hf b hb).2.2.2.1 with z | z
  ·exact I.ok.noex b o e z
  ·exact absurd (Nat.lt_of_lt_of_le (Heap.lt_size (I.ok.bs b o e).1) z) (Nat.lt_irrefl _)
 ·rcases List.mem_cons.mp (I.stkSub b z) with q | q
  ·exact (hf b hb).2.1 q
  ·exact (hf b hb).2.2.1 q
def tComp (wi:TI)(own:List Str)(cap:List (Str×Nat))(g:TG)(tc:TT)(te:TE):TE:=λσ H Q=>wi σ H λJ H1=>∃W:Nat->Nat->List V->Hp->Prop,(∃m,W 0 m [] H1)/\∀i m ys H,W i m ys H ->
 ys.length<=sizeLine/\((J.stop i H/\∀D,H D=none->Q (.ref D) (upd H D (.lst ys)))∨(J.go i H/\∃N:List V->Hp->Prop,(∀ys' H',N ys' H'->∃m',m' < m/\W (i+1) m' ys' H') /\
  ∀x H',J.yld i H x H'->∀σ1:St,σ1.length=own.length->g x (σ1++cap.map λp=>(σ[p.2]?).getD none) H' λσ2 H2=>(∃σ1':St,σ1'.length=own.length/\σ2=σ1'++cap.map λp=>(σ[p.2]?).getD none) /\
   tc σ2 H2 λb H3=>if b=true then te σ2 H3 λy H4=>N (ys++[y]) H4 else N ys H3))
def PIfs (X:Cx)(ifs:List Expr)(tc:TT):Prop :=
 ∀(pins:List (Addr×Obj)) (s:Shared) (σ:St) (H:Hp) (Q:Bool->Hp->Prop),Inv X pins σ H s->tc σ H Q ->
  wpAny (model X.prog X.w) X.A (forIn ifs true λc r=>if r=true then do let ok <-isTrue c X.env (eval c X.env);pure (ForInStep.yield ok) else pure (ForInStep.yield r)) (TP X pins σ Q) X.xe s
def tTrue:TT:=λ_ H Q=>Q true H
theorem GS {X:Cx}:PIfs X [] tTrue:=λpins s σ H Q I h=>wpAny_tests_nil ⟨H,I,h⟩
theorem U8 {X:Cx}{c:Expr}{tc:TT}(h:PT X c tc):PIfs X [c] tc:=λpins s σ H Q I hq=>wpAny_tests_one (h pins s σ H Q I hq)
theorem WK {fs ex:List Addr}{H0 H:Hp}{h0 h h':Heap}{D C:Addr}{o:HO}(u:Un fs ex H0 H h0 h)(hD:h0.objs.size<=D)(hC:h0.objs.size<=C)(sb:Heap.SameBut C h h')(n:H D=none):Un fs ex H0 (upd H D o) h0 h':=by
 have ne:∀b ob,h0.get? b=some ob->b≠C:=λb ob e=>Nat.ne_of_lt (Nat.lt_of_lt_of_le (Heap.lt_size e) hC)
 have nd:∀b ob,h0.get? b=some ob->b≠D:=λb ob e=>Nat.ne_of_lt (Nat.lt_of_lt_of_le (Heap.lt_size e) hD)
 refine⟨λb ob e q hb hx=>(sb.2 b (ne b ob e)).trans (u.keep b ob e q hb hx),λb ob e q hb hx=>?_,λb ob e q hx=>?_,λb ob e hx=>?_,λb xs e=>?_,λb ob xs e=>?_,λb ps e=>?_⟩
 ·obtain⟨sl,z⟩:=u.slot b ob e q hb hx
  exact⟨sl,(sb.2 b (ne b ob e)).trans z⟩
 ·rw[zg (nd b ob e)];exact u.free b ob e q hx
 ·obtain⟨o',z⟩:=u.there b ob e hx
  exact⟨o',(sb.2 b (ne b ob e)).trans z⟩
 ·have z:=u.tups b xs e
  rw[zg (zw z n)];exact z
 ·have z:=u.frzs b ob xs e
  rw[zg (zw z n)];exact z
 ·obtain⟨m,z⟩:=u.tbls b ps e
  exact⟨m,by rw[zg (zw z n)];exact z⟩
theorem JA {X:Cx}{elt tg iter:Expr}{ifs:List Expr}{scope:Scope}{pos:Pos}{own:List Str}{cap:List (Str×Nat)}{wi:TI}{g:TG}{tc:TT}{te:TE}(hc:X.calm=true)(S:CompScope X scope own cap)(hi:PI X tg iter wi)
  (hin:∀C s₀ H₀ fp pn,PG (cxc X scope C (own++cap.map (·.1)) s₀ H₀ fp pn) tg g/\PIfs (cxc X scope C (own++cap.map (·.1)) s₀ H₀ fp pn) ifs tc/\PE (cxc X scope C (own++cap.map (·.1)) s₀ H₀ fp pn) elt te)
  (hs:∀x,foldedSetIterable iter X.env x=pure x:=by intro _;rfl) :
  PE X (.ListComp elt [⟨tg,iter,ifs,0⟩] scope pos) (tComp wi own cap g tc te):=by
 intro pins s σ H Q I h
 rw[eval_ListComp]
 have hfr:∀y∈scope.names,y.2=.free->∃c,X.env.cells.lookup y.1=some c:=λy hy hk=>I.ok.has y.1 (S.frees y hy hk)
 refine wpAny_comprehension_free (use:=none) rfl hs (kQ hfr) S.kind S.names (thn (hi pins s σ H _ I h) λxv s₁ h₁=>thn h₁ λit s₂ h₂=>?_)
 obtain⟨it,fp,tn,J,H2,rfl,I2,T,st2,f2,W,⟨m0,w0⟩,turn⟩:=h₂
 refine wpAny_newObj_type (wpAny_newFunctionEnv S.nocell (by intro y hy;simp at hy) (λh₁ hns₁ hsb₁=>?_) S.kind)
 dsimp only at hns₁ hsb₁ ⊢
 generalize hH3:s₂.heap.push { cls:=.type "list",dict:=none,data:=.seq ([]:List Value).toArray }=h3 at hns₁ hsb₁ ⊢
 have hC:h3.objs.size=s₂.heap.objs.size+1:=by rw[<-hH3,Heap.size_push]
 have flt:∀b∈fp,b < s₂.heap.objs.size:=λb hb=>let ⟨o,e,_⟩:=T.obj _ _ st2 b hb;Heap.lt_size e
 have old:∀b o,s₂.heap.get? b=some o->h₁.get? b=some o:=λb o e=>hsb₁.extBut b o (by rw[hC];exact Nat.ne_of_lt (Nat.lt_succ_of_lt (Heap.lt_size e))) (Heap.get?_push_of_some _ (hH3 ▸ Heap.get?_push_of_some _ e))
 have hDC:s₂.heap.objs.size≠h3.objs.size:=by rw[hC];exact Nat.ne_of_lt (Nat.lt_succ_self _)
 have hacc:h₁.get? s₂.heap.objs.size=some { cls:=.type "list",data:=.seq ([]:List Value).toArray }:=hsb₁.extBut _ _ hDC (Heap.get?_push_of_some _ (hH3 ▸ Heap.get?_push_size _ rfl))
 generalize hD:s₂.heap.objs.size=D at hacc hDC
 have hCle:s₂.heap.objs.size<=h3.objs.size:=by rw[hC];exact Nat.le_succ _
 generalize hCC:h3.objs.size=C at *
 have ok:(cxc X scope C (own++cap.map (·.1)) s₂ H2 fp (X.pn++pins)).Ok:=JO S I2 hCle f2 flt
 have sub:∀x c,(clGo X.env.cells scope.names []).lookup x=some c->X.env.cells.lookup x=some c:=λx c=>qR _ _ x c hfr (λx c e=>by simp at e)
 obtain⟨hG,hT,hE⟩:=hin C s₂ H2 fp (X.pn++pins)
 have fl:∀ {α:Type} {t:Sem α} {Q:α->Shared->Prop} {E:Value->Shared->Prop} {s:Shared},wpAny (model X.prog X.w) X.A t Q (λ_ _=>False) s->wpAny (model X.prog X.w) X.A t Q E s:=λh=>wpAny_mono h (λ_ _ q=>q) λ_ _ f=>f.elim
 have dn:D∉frs X.stack:=λz=>by
  rcases List.mem_cons.mp (I2.stkSub D z) with q | q
  ·exact absurd I2.lt (by rw[<-q,hD];exact Nat.lt_irrefl _)
  ·exact I2.nofs (Nat.le_of_eq hD) q
 have pnl:∀p∈X.pn++pins,p.1 < s₂.heap.objs.size:=λp hp=>Heap.lt_size (I2.pin p hp).1
 have celt:∀x c,(clGo X.env.cells scope.names []).lookup x=some c->c < s₂.heap.objs.size:=λx c e=>let ⟨v,q⟩:=I2.cell x c (sub x c e);q.lt
 have hDle:s₂.heap.objs.size<=D:=Nat.le_of_eq hD
 have I0:Inv (cxc X scope C (own++cap.map (·.1)) s₂ H2 fp (X.pn++pins)) [(D,{ cls:=.type "list",data:=.seq ([]:List Value).toArray })] (List.replicate own.length none++cap.map λp=>(σ[p.2]?).getD none) H2 { s₂ with heap:=h₁,toks:=s₂.toks+([]:List (Str×Value)).length }:=by
  refine⟨ok,rfl,I2.bare,Un.kept old,⟨_,hns₁,λi x v e1 e2 e3=>?_⟩,λx c e=>?_,I2.hok.fresh hCle,λx c e=>I2.freeC x c (sub x c e),λp hp=>?_,I2.hok.kept old,?_⟩
  ·by_cases hi:i < own.length
   ·rw[List.getElem?_append_left (by simpa using hi),List.getElem?_replicate] at e2
    rw[if_pos hi] at e2
    cases e2
   ·have e1:(own++cap.map (·.1))[i]?=some x:=e1
    rw[List.getElem?_append_right (by omega),List.getElem?_map] at e1
    rw[List.getElem?_append_right (by simpa using hi),List.length_replicate,List.getElem?_map] at e2
    cases q:cap[i - own.length]? with
    |none=>rw[q] at e1;cases e1
    |some p=>
     rw[q] at e1 e2
     have e1:p.1=x:=Option.some.inj e1
     have e2:(σ[p.2]?).getD none=some v:=Option.some.inj e2
     obtain⟨c1,c2⟩:=S.caps p (List.mem_of_getElem? q)
     have e2':σ[p.2]?=some (some v):=by
      cases q2:σ[p.2]? with
      |none=>rw[q2] at e2;cases e2
      |some w=>rw[q2] at e2;rw[show w=some v from e2]
     have hk:=S.frees (p.1,.free) (qL c1) rfl
     obtain⟨m,hn,hl⟩:=I2.loc
     obtain⟨u,ru,lk⟩:=hl p.2 p.1 v c2 e2' (.inr hk)
     refine⟨u,ru,.inr ?_⟩
     rcases lk with⟨k1,_⟩ | ⟨_,c,ec,hcell⟩
     ·rcases hk with z | z
      ·rw[k1] at z;cases z
      ·rw[k1] at z;cases z
     ·subst e1
      refine⟨kR (env:=X.env) c1,?_⟩
      obtain⟨c',ec'⟩:=Option.isSome_iff_exists.mp (qp (cells:=X.env.cells) scope.names [] p.1 (qL c1))
      have z:=sub _ _ ec'
      rw[ec] at z;cases z
      obtain⟨o,ho,hd⟩:=hcell
      exact⟨c,ec',o,old c o ho,hd⟩
  ·obtain⟨v,o,ho,hd⟩:=I2.cell x c (sub x c e)
   exact⟨v,o,old c o ho,hd⟩
  ·rcases List.mem_append.mp (show p∈(X.pn++pins)++[(D,_)] from hp) with hp | hp
   ·obtain⟨q1,q2,q3,q4,q5⟩:=I2.pin p hp
    refine⟨old _ _ q1,q2,Nat.ne_of_lt (Nat.lt_of_lt_of_le (Heap.lt_size q1) hCle),λz=>?_,q5⟩
    rcases List.mem_cons.mp (I2.stkSub p.1 z) with q | q
    ·exact q3 q
    ·exact q4 q
   ·rw[List.mem_singleton.mp hp]
    exact⟨hacc,I2.hok.fresh hDle,hDC,dn,λv z=>by cases z⟩
  ·show (List.replicate own.length none++cap.map _).length=(own++cap.map _).length
   simp
 have stat:∀ {H':Hp} {pl:List (Addr×Obj)},(∀p∈pl,p.1=D∨p.1∈fp->p.1=D)->(∀b∈fp,H' b=none)->∀b∈fp,FpOk (cxc X scope C (own++cap.map (·.1)) s₂ H2 fp (X.pn++pins)) pl H' b:=by
  intro H' pl hpl hn b hb
  refine⟨hn b hb,Nat.ne_of_lt (Nat.lt_of_lt_of_le (flt b hb) hCle),λz=>?_,.inl hb,λx c e=>(f2 b hb).2.2.2.2.1 x c (sub x c e),λp hp=>?_⟩
  ·rcases List.mem_cons.mp (I2.stkSub b z) with q | q
   ·exact (f2 b hb).2.1 q
   ·exact (f2 b hb).2.2.1 q
  ·rcases List.mem_append.mp (show p∈(X.pn++pins)++pl from hp) with hp | hp
   ·exact (f2 b hb).2.2.2.2.2 p hp
   ·intro z
    have:=hpl p hp (.inr (z ▸ hb))
    rw[z] at this
    exact absurd (flt b hb) (by rw[this,hD];exact Nat.lt_irrefl _)
 have loop:∀s₃:Shared,s₃={ s₂ with heap:=h₁,toks:=s₂.toks+([]:List (Str×Value)).length } ->
   codeAny (model X.prog X.w) X.A (.compLoop (.ListComp elt [⟨tg,iter,ifs,0⟩] scope pos) 0 (.ref it) (.ref D) (compEnvC scope (clGo X.env.cells scope.names []) C X.env)) (compPost (model X.prog X.w) X.A X.xe none (EP X pins σ Q) (.ref D) C) s₃:=by
  rintro s₃ rfl
  refine Ji (λn s'=>∃i ys its k σ1 H',Inv (cxc X scope C (own++cap.map (·.1)) s₂ H2 fp (X.pn++pins)) [(D,{ cls:=.type "list",data:=.seq (List.toArray its) k })] (σ1++cap.map λp=>(σ[p.2]?).getD none) H' s'/\σ1.length=own.length/\Vals ys its/\tn i s'.heap/\(∀b∈fp,H' b=none)/\W i n ys H') ?_ m0
   ⟨0,[],[],0,_,H2,I0,by simp,.nil,T.keep _ _ _ st2 λb hb o e=>old b o e,λb hb=>(f2 b hb).1,w0⟩
  rintro n s' ⟨i,ys,its,k,σ1,H',J1,hσ,rv,st1,fr1,w1⟩
  obtain⟨hsz,⟨stop,qn⟩ | ⟨go,N,hN,step⟩⟩:=turn i n ys H' w1
  ·refine thn (T.done (cxc X scope C (own++cap.map (·.1)) s₂ H2 fp (X.pn++pins)) rfl rfl rfl hc i _ s' _ H' (λ_ _=>False) J1 (stat (by intro p hp _;rw[List.mem_singleton.mp hp]) fr1) st1 stop) λr s4 ⟨hr,I4⟩=>?_
   subst hr
   obtain⟨m4,hn4,_⟩:=I4.loc
   refine⟨m4,hn4,λh' sb=>?_⟩
   obtain⟨pD1,pD2,pD3,pD4,pD5⟩:=I4.pin (D,_) (List.mem_append_right _ List.mem_cons_self)
   have u:=WK (o:=.lst ys) I4.base hDle hCle sb pD2
   refine⟨.ref D,upd H' D (.lst ys),I2.call' (s':={ s4 with heap:=h' }) (ch:=fp) I4.os u ?_ I4.bare λb hb=>?_,rfl,qn D pD2⟩
   ·intro b ob e
    by_cases hb:b=D
    ·subst hb
     rw[zl] at e;cases e
     exact⟨hsz,its,k,rv,(sb.2 _ pD3).trans pD1⟩
    ·rw[zg hb] at e
     refine (I4.hok b ob e).stay (λc v hc' q=>(sb.2 c ?_).trans q) (λc q=>by rw[zg (zw q pD2)];exact q) λc xs q=>by rw[zg (zw q pD2)];exact q
     have hCn:H' C=none:=I4.free
     rcases hc' with z | z
     ·rw[z];exact zw e hCn
     ·exact zw z hCn
   ·obtain⟨q1,q2,q3,q4,q5,q6⟩:=f2 b hb
    exact⟨q4,q2,q5,q6⟩
  ·refine thn (T.item (cxc X scope C (own++cap.map (·.1)) s₂ H2 fp (X.pn++pins)) rfl rfl rfl hc i _ s' _ H' (λ_ _=>False) J1 (stat (by intro p hp _;rw[List.mem_singleton.mp hp]) fr1) st1 go) λr s4 ⟨u,hr,h4⟩=>?_
   subst hr
   refine thn h4 λ_ s5 ⟨x,H5,I5,r5,y5,st5,fr5⟩=>?_
   have I5':=I5.pinned (stat (by intro p hp _;rw[List.mem_singleton.mp hp]) fr5) (T.obj _ _ st5)
   refine thn (hG _ s5 _ H5 x u _ I5' r5 (step x H5 y5 σ1 hσ)) λ_ s6 ⟨σ6,H6,I6,⟨σ1',l6,e6⟩,q6⟩=>?_
   subst e6
   refine thn (hT _ s6 _ H6 _ I6 q6) λok s7 ⟨H7,I7,q7⟩=>?_
   have again:∀ {s8:Shared} {H8:Hp} {ys8:List V} {its8:List Value} {k8:Nat},Inv (cxc X scope C (own++cap.map (·.1)) s₂ H2 fp (X.pn++pins)) ([(D,{ cls:=.type "list",data:=.seq (List.toArray its8) k8 })]++pinsAt fp s5.heap) (σ1'++cap.map λp=>(σ[p.2]?).getD none) H8 s8->Vals ys8 its8->N ys8 H8 ->
     ∃m,m < n/\∃i ys its k σ1 H',Inv (cxc X scope C (own++cap.map (·.1)) s₂ H2 fp (X.pn++pins)) [(D,{ cls:=.type "list",data:=.seq (List.toArray its) k })] (σ1++cap.map λp=>(σ[p.2]?).getD none) H' s8/\σ1.length=own.length/\Vals ys its/\tn i s8.heap/\(∀b∈fp,H' b=none)/\W i m ys H':=by
    intro s8 H8 ys8 its8 k8 I8 rv8 n8
    obtain⟨m',hm,w8⟩:=hN ys8 H8 n8
    refine⟨m',hm,i+1,ys8,its8,k8,σ1',H8,I8.unpinned,l6,rv8,T.keep _ _ _ st5 λb hb o e=>(I8.pin (b,o) (List.mem_append_right _ (List.mem_append_right _ (wN hb e)))).1,λb hb=>?_,w8⟩
    obtain⟨o,e,d⟩:=T.obj _ _ st5 b hb
    exact (I8.pin (b,o) (List.mem_append_right _ (List.mem_append_right _ (wN hb e)))).2.1
   cases ok with
   |false=>exact again I7 rv q7
   |true=>
    refine thn (hE _ s7 _ H7 _ I7 q7) λy s8 ⟨v8,H8,I8,r8,q8⟩=>?_
    obtain⟨pD1,pD2,pD3,pD4,pD5⟩:=I8.pin (D,_) (List.mem_append_right _ List.mem_cons_self)
    have hsz':its.toArray.size<=sizeLine:=by rw[List.size_toArray,<-rv.length];exact hsz
    refine wpAny_list_append_plain (hsz:=hsz') (items:=its.toArray) ⟨k,pD1⟩ λh9 pl9 sb9=>?_
    obtain⟨k9,e9⟩:=pl9
    have ea:its.toArray.push y=(its++[y]).toArray:=by simp
    rw[ea] at e9
    have I8':Inv (cxc X scope C (own++cap.map (·.1)) s₂ H2 fp (X.pn++pins)) (pinsAt fp s5.heap) (σ1'++cap.map λp=>(σ[p.2]?).getD none) H8 s8:=I8.pins_of λp hp=>I8.pin p (List.mem_append_right _ (List.mem_append_right _ hp))
    have fD:FpOk (cxc X scope C (own++cap.map (·.1)) s₂ H2 fp (X.pn++pins)) (pinsAt fp s5.heap) H8 D:=by
     refine⟨pD2,pD3,pD4,.inr hDle,λx c e z=>?_,λp hp z=>?_⟩
     ·exact absurd (celt x c e) (by rw[z,hD];exact Nat.lt_irrefl _)
     ·rcases List.mem_append.mp (show p∈(X.pn++pins)++_ from hp) with hp | hp
      ·exact absurd (pnl p hp) (by rw[z,hD];exact Nat.lt_irrefl _)
      ·exact absurd (flt p.1 (ZG hp).1) (by rw[z,hD];exact Nat.lt_irrefl _)
    have I9:Inv (cxc X scope C (own++cap.map (·.1)) s₂ H2 fp (X.pn++pins)) (pinsAt fp s5.heap) (σ1'++cap.map λp=>(σ[p.2]?).getD none) H8 { s8 with heap:=h9 }:=vX (t':=s8.toks) (ch:=[D]) I8' (λb o hb e=>(sb9.2 b λz=>hb (by simp[z])).trans e) λb hb=>by rw[List.mem_singleton.mp hb];exact fD
    have I10:Inv (cxc X scope C (own++cap.map (·.1)) s₂ H2 fp (X.pn++pins)) ([(D,{ cls:=.type "list",data:=.seq (its++[y]).toArray k9 })]++pinsAt fp s5.heap) (σ1'++cap.map λp=>(σ[p.2]?).getD none) H8 { s8 with heap:=h9 }:=I9.pins_of λp hp=>by
     rcases List.mem_append.mp hp with hp | hp
     ·rw[List.mem_singleton.mp hp]
      exact⟨e9,pD2,pD3,pD4,λv z=>by cases z⟩
     ·exact I9.pin p (List.mem_append_right _ hp)
    exact again (s8:={ s8 with heap:=h9 }) I10 (rv.append (.cons r8 .nil)) q8
 subst hD
 exact codeAny_compStart_list (loop _ rfl) (T.self _ 0 _ _ _ (T.keep _ _ _ st2 λb hb o e=>old b o e) (loop _ rfl))
theorem Ro {X:Cx}{i:Nat}{y:Str}{py spos:Pos}{elt tg iter:Expr}{ifs:List Expr}{scope:Scope}{pos:Pos}{own:List Str}{cap:List (Str×Nat)}{wi:TI}{g:TG}{tc:TT}{te:TE}(hc:X.calm=true)(S:CompScope X scope own cap)(hi:PI X tg iter wi)
  (hin:∀C s₀ H₀ fp pn,PG (cxc X scope C (own++cap.map (·.1)) s₀ H₀ fp pn) tg g/\PIfs (cxc X scope C (own++cap.map (·.1)) s₀ H₀ fp pn) ifs tc/\PE (cxc X scope C (own++cap.map (·.1)) s₀ H₀ fp pn) elt te)
  (hN:X.N.Nodup) (hiy:X.N[i]?=some y) (hy:Loc X.env.scope y) (hsw:swapsWith (.ListComp elt [⟨tg,iter,ifs,0⟩] scope pos) (some (.Name y py)) spos.line X.env=pure true)
  (hs:∀x,foldedSetIterable iter X.env x=pure x:=by intro _;rfl) (hfn:X.fn y=true∨X.env.scope.names.lookup y=some .local:=by first | exact .inl rfl | exact .inr rfl | assumption) :
  PS X (.Assign [.Name y py] (.ListComp elt [⟨tg,iter,ifs,0⟩] scope pos) spos) (tAsg (tComp wi own cap g tc te) (gName i)):=by
 intro pins s σ H Dn I h
 rw[exec_Assign_Name_used _ _ _ _ hsw]
 refine wpAny_bind (wpAny_standAt (wpAny_bind ?_))
 show wpAny _ X.A (do let _ <-comprehension (.ListComp elt [⟨tg,iter,ifs,0⟩] scope pos) scope X.env _ (newList []) false (eval iter X.env) (some (assign (.Name y py) X.env))) _ _ s
 have hfr:∀y∈scope.names,y.2=.free->∃c,X.env.cells.lookup y.1=some c:=λy hy hk=>I.ok.has y.1 (S.frees y hy hk)
 refine wpAny_bind (wpAny_mono (wpAny_comprehension_free (use:=some (assign (.Name y py) X.env)) (Q:=λ_ s'=>SP X pins Dn .next s') rfl hs (kQ hfr) S.kind S.names (thn (hi pins s σ H _ I h) λxv s₁ h₁=>thn h₁ λit s₂ h₂=>?_)) (λ_ s' hq=>wpAny_pure (wpAny_pure hq)) λ_ _ e=>e)
 obtain⟨it,fp,tn,J,H2,rfl,I2,T,st2,f2,W,⟨m0,w0⟩,turn⟩:=h₂
 refine wpAny_newObj_type (wpAny_newFunctionEnv S.nocell (by intro y hy;simp at hy) (λh₁ hns₁ hsb₁=>?_) S.kind)
 dsimp only at hns₁ hsb₁ ⊢
 generalize hH3:s₂.heap.push { cls:=.type "list",dict:=none,data:=.seq ([]:List Value).toArray }=h3 at hns₁ hsb₁ ⊢
 have hC:h3.objs.size=s₂.heap.objs.size+1:=by rw[<-hH3,Heap.size_push]
 have flt:∀b∈fp,b < s₂.heap.objs.size:=λb hb=>let ⟨o,e,_⟩:=T.obj _ _ st2 b hb;Heap.lt_size e
 have old:∀b o,s₂.heap.get? b=some o->h₁.get? b=some o:=λb o e=>hsb₁.extBut b o (by rw[hC];exact Nat.ne_of_lt (Nat.lt_succ_of_lt (Heap.lt_size e))) (Heap.get?_push_of_some _ (hH3 ▸ Heap.get?_push_of_some _ e))
 have hDC:s₂.heap.objs.size≠h3.objs.size:=by rw[hC];exact Nat.ne_of_lt (Nat.lt_succ_self _)
 have hacc:h₁.get? s₂.heap.objs.size=some { cls:=.type "list",data:=.seq ([]:List Value).toArray }:=hsb₁.extBut _ _ hDC (Heap.get?_push_of_some _ (hH3 ▸ Heap.get?_push_size _ rfl))
 generalize hD:s₂.heap.objs.size=D at hacc hDC
 have hCle:s₂.heap.objs.size<=h3.objs.size:=by rw[hC];exact Nat.le_succ _
 generalize hCC:h3.objs.size=C at *
 have ok:(cxc X scope C (own++cap.map (·.1)) s₂ H2 fp (X.pn++pins)).Ok:=JO S I2 hCle f2 flt
 have sub:∀x c,(clGo X.env.cells scope.names []).lookup x=some c->X.env.cells.lookup x=some c:=λx c=>qR _ _ x c hfr (λx c e=>by simp at e)
 obtain⟨hG,hT,hE⟩:=hin C s₂ H2 fp (X.pn++pins)
 have fl:∀ {α:Type} {t:Sem α} {Q:α->Shared->Prop} {E:Value->Shared->Prop} {s:Shared},wpAny (model X.prog X.w) X.A t Q (λ_ _=>False) s->wpAny (model X.prog X.w) X.A t Q E s:=λh=>wpAny_mono h (λ_ _ q=>q) λ_ _ f=>f.elim
 have dn:D∉frs X.stack:=λz=>by
  rcases List.mem_cons.mp (I2.stkSub D z) with q | q
  ·exact absurd I2.lt (by rw[<-q,hD];exact Nat.lt_irrefl _)
  ·exact I2.nofs (Nat.le_of_eq hD) q
 have pnl:∀p∈X.pn++pins,p.1 < s₂.heap.objs.size:=λp hp=>Heap.lt_size (I2.pin p hp).1
 have celt:∀x c,(clGo X.env.cells scope.names []).lookup x=some c->c < s₂.heap.objs.size:=λx c e=>let ⟨v,q⟩:=I2.cell x c (sub x c e);q.lt
 have hDle:s₂.heap.objs.size<=D:=Nat.le_of_eq hD
 have I0:Inv (cxc X scope C (own++cap.map (·.1)) s₂ H2 fp (X.pn++pins)) [(D,{ cls:=.type "list",data:=.seq ([]:List Value).toArray })] (List.replicate own.length none++cap.map λp=>(σ[p.2]?).getD none) H2 { s₂ with heap:=h₁,toks:=s₂.toks+([]:List (Str×Value)).length }:=by
  refine⟨ok,rfl,I2.bare,Un.kept old,⟨_,hns₁,λi x v e1 e2 e3=>?_⟩,λx c e=>?_,I2.hok.fresh hCle,λx c e=>I2.freeC x c (sub x c e),λp hp=>?_,I2.hok.kept old,?_⟩
  ·by_cases hi:i < own.length
   ·rw[List.getElem?_append_left (by simpa using hi),List.getElem?_replicate] at e2
    rw[if_pos hi] at e2
    cases e2
   ·have e1:(own++cap.map (·.1))[i]?=some x:=e1
    rw[List.getElem?_append_right (by omega),List.getElem?_map] at e1
    rw[List.getElem?_append_right (by simpa using hi),List.length_replicate,List.getElem?_map] at e2
    cases q:cap[i - own.length]? with
    |none=>rw[q] at e1;cases e1
    |some p=>
     rw[q] at e1 e2
     have e1:p.1=x:=Option.some.inj e1
     have e2:(σ[p.2]?).getD none=some v:=Option.some.inj e2
     obtain⟨c1,c2⟩:=S.caps p (List.mem_of_getElem? q)
     have e2':σ[p.2]?=some (some v):=by
      cases q2:σ[p.2]? with
      |none=>rw[q2] at e2;cases e2
      |some w=>rw[q2] at e2;rw[show w=some v from e2]
     have hk:=S.frees (p.1,.free) (qL c1) rfl
     obtain⟨m,hn,hl⟩:=I2.loc
     obtain⟨u,ru,lk⟩:=hl p.2 p.1 v c2 e2' (.inr hk)
     refine⟨u,ru,.inr ?_⟩
     rcases lk with⟨k1,_⟩ | ⟨_,c,ec,hcell⟩
     ·rcases hk with z | z
      ·rw[k1] at z;cases z
      ·rw[k1] at z;cases z
     ·subst e1
      refine⟨kR (env:=X.env) c1,?_⟩
      obtain⟨c',ec'⟩:=Option.isSome_iff_exists.mp (qp (cells:=X.env.cells) scope.names [] p.1 (qL c1))
      have z:=sub _ _ ec'
      rw[ec] at z;cases z
      obtain⟨o,ho,hd⟩:=hcell
      exact⟨c,ec',o,old c o ho,hd⟩
  ·obtain⟨v,o,ho,hd⟩:=I2.cell x c (sub x c e)
   exact⟨v,o,old c o ho,hd⟩
  ·rcases List.mem_append.mp (show p∈(X.pn++pins)++[(D,_)] from hp) with hp | hp
   ·obtain⟨q1,q2,q3,q4,q5⟩:=I2.pin p hp
    refine⟨old _ _ q1,q2,Nat.ne_of_lt (Nat.lt_of_lt_of_le (Heap.lt_size q1) hCle),λz=>?_,q5⟩
    rcases List.mem_cons.mp (I2.stkSub p.1 z) with q | q
    ·exact q3 q
    ·exact q4 q
   ·rw[List.mem_singleton.mp hp]
    exact⟨hacc,I2.hok.fresh hDle,hDC,dn,λv z=>by cases z⟩
  ·show (List.replicate own.length none++cap.map _).length=(own++cap.map _).length
   simp
 have stat:∀ {H':Hp} {pl:List (Addr×Obj)},(∀p∈pl,p.1=D∨p.1∈fp->p.1=D)->(∀b∈fp,H' b=none)->∀b∈fp,FpOk (cxc X scope C (own++cap.map (·.1)) s₂ H2 fp (X.pn++pins)) pl H' b:=by
  intro H' pl hpl hn b hb
  refine⟨hn b hb,Nat.ne_of_lt (Nat.lt_of_lt_of_le (flt b hb) hCle),λz=>?_,.inl hb,λx c e=>(f2 b hb).2.2.2.2.1 x c (sub x c e),λp hp=>?_⟩
  ·rcases List.mem_cons.mp (I2.stkSub b z) with q | q
   ·exact (f2 b hb).2.1 q
   ·exact (f2 b hb).2.2.1 q
  ·rcases List.mem_append.mp (show p∈(X.pn++pins)++pl from hp) with hp | hp
   ·exact (f2 b hb).2.2.2.2.2 p hp
   ·intro z
    have:=hpl p hp (.inr (z ▸ hb))
    rw[z] at this
    exact absurd (flt b hb) (by rw[this,hD];exact Nat.lt_irrefl _)
 have loop:∀s₃:Shared,s₃={ s₂ with heap:=h₁,toks:=s₂.toks+([]:List (Str×Value)).length } ->
   codeAny (model X.prog X.w) X.A (.compLoop (.ListComp elt [⟨tg,iter,ifs,0⟩] scope pos) 0 (.ref it) (.ref D) (compEnvC scope (clGo X.env.cells scope.names []) C X.env)) (compPost (model X.prog X.w) X.A X.xe (some (assign (.Name y py) X.env)) (λ_ s'=>SP X pins Dn .next s') (.ref D) C) s₃:=by
  rintro s₃ rfl
  refine Ji (λn s'=>∃i ys its k σ1 H',Inv (cxc X scope C (own++cap.map (·.1)) s₂ H2 fp (X.pn++pins)) [(D,{ cls:=.type "list",data:=.seq (List.toArray its) k })] (σ1++cap.map λp=>(σ[p.2]?).getD none) H' s'/\σ1.length=own.length/\Vals ys its/\tn i s'.heap/\(∀b∈fp,H' b=none)/\W i n ys H') ?_ m0
   ⟨0,[],[],0,_,H2,I0,by simp,.nil,T.keep _ _ _ st2 λb hb o e=>old b o e,λb hb=>(f2 b hb).1,w0⟩
  rintro n s' ⟨i,ys,its,k,σ1,H',J1,hσ,rv,st1,fr1,w1⟩
  obtain⟨hsz,⟨stop,qn⟩ | ⟨go,N,hN,step⟩⟩:=turn i n ys H' w1
  ·refine thn (T.done (cxc X scope C (own++cap.map (·.1)) s₂ H2 fp (X.pn++pins)) rfl rfl rfl hc i _ s' _ H' (λ_ _=>False) J1 (stat (by intro p hp _;rw[List.mem_singleton.mp hp]) fr1) st1 stop) λr s4 ⟨hr,I4⟩=>?_
   subst hr
   obtain⟨m4,hn4,_⟩:=I4.loc
   obtain⟨pD1,pD2,pD3,pD4,pD5⟩:=I4.pin (D,_) (List.mem_append_right _ List.mem_cons_self)
   have u:=WK (o:=.lst ys) I4.base hDle hCle (show Heap.SameBut C s4.heap s4.heap from⟨rfl,λ_ _=>rfl⟩) pD2
   have hCn:H' C=none:=I4.free
   have I5:Inv X pins σ (upd H' D (.lst ys)) s4:=by
    refine I2.call' (s':=s4) (ch:=fp) I4.os u ?_ I4.bare λb hb=>?_
    ·intro b ob e
     by_cases hb:b=D
     ·subst hb
      rw[zl] at e;cases e
      exact⟨hsz,its,k,rv,pD1⟩
     ·rw[zg hb] at e
      exact (I4.hok b ob e).stay (λc v hc' q=>q) (λc q=>by rw[zg (zw q pD2)];exact q) λc xs q=>by rw[zg (zw q pD2)];exact q
    ·obtain⟨q1,q2,q3,q4,q5,q6⟩:=f2 b hb
     exact⟨q4,q2,q5,q6⟩
   show wpAny _ X.A (assign (.Name y py) X.env (.ref D)) _ _ _
   refine wpAny_assign_Name (uO I5 hN hiy hy (v:=.ref D) rfl (λs5 I6 ⟨a5,sb5,ha5⟩=>?_) hfn)
   have hCa:C≠a5:=by
    rcases ha5 with z | z
    ·rw[z];exact Nat.ne_of_gt (Nat.lt_of_lt_of_le I2.lt hCle)
    ·intro e
     obtain⟨v,q⟩:=I2.cell _ _ z
     exact absurd (Nat.lt_of_lt_of_le q.lt (by rw[<-e];exact hCle)) (Nat.lt_irrefl _)
   refine⟨m4,hn4.sameBut sb5 hCa,λh3 sb3=>?_⟩
   have hC0:(upd H' D (.lst ys)) C=none:=by rw[zg (Ne.symm hDC)];exact hCn
   exact⟨_,_,vX (t':=s5.toks) (ch:=[C]) I6 (λb o hb q=>(sb3.2 b (λz=>hb (by simp[z]))).trans q) (λb hb=>by rw[List.mem_singleton.mp hb];exact I2.fpOk hCle hC0),qn D pD2⟩
  ·refine thn (T.item (cxc X scope C (own++cap.map (·.1)) s₂ H2 fp (X.pn++pins)) rfl rfl rfl hc i _ s' _ H' (λ_ _=>False) J1 (stat (by intro p hp _;rw[List.mem_singleton.mp hp]) fr1) st1 go) λr s4 ⟨u,hr,h4⟩=>?_
   subst hr
   refine thn h4 λ_ s5 ⟨x,H5,I5,r5,y5,st5,fr5⟩=>?_
   have I5':=I5.pinned (stat (by intro p hp _;rw[List.mem_singleton.mp hp]) fr5) (T.obj _ _ st5)
   refine thn (hG _ s5 _ H5 x u _ I5' r5 (step x H5 y5 σ1 hσ)) λ_ s6 ⟨σ6,H6,I6,⟨σ1',l6,e6⟩,q6⟩=>?_
   subst e6
   refine thn (hT _ s6 _ H6 _ I6 q6) λok s7 ⟨H7,I7,q7⟩=>?_
   have again:∀ {s8:Shared} {H8:Hp} {ys8:List V} {its8:List Value} {k8:Nat},Inv (cxc X scope C (own++cap.map (·.1)) s₂ H2 fp (X.pn++pins)) ([(D,{ cls:=.type "list",data:=.seq (List.toArray its8) k8 })]++pinsAt fp s5.heap) (σ1'++cap.map λp=>(σ[p.2]?).getD none) H8 s8->Vals ys8 its8->N ys8 H8 ->
     ∃m,m < n/\∃i ys its k σ1 H',Inv (cxc X scope C (own++cap.map (·.1)) s₂ H2 fp (X.pn++pins)) [(D,{ cls:=.type "list",data:=.seq (List.toArray its) k })] (σ1++cap.map λp=>(σ[p.2]?).getD none) H' s8/\σ1.length=own.length/\Vals ys its/\tn i s8.heap/\(∀b∈fp,H' b=none)/\W i m ys H':=by
    intro s8 H8 ys8 its8 k8 I8 rv8 n8
    obtain⟨m',hm,w8⟩:=hN ys8 H8 n8
    refine⟨m',hm,i+1,ys8,its8,k8,σ1',H8,I8.unpinned,l6,rv8,T.keep _ _ _ st5 λb hb o e=>(I8.pin (b,o) (List.mem_append_right _ (List.mem_append_right _ (wN hb e)))).1,λb hb=>?_,w8⟩
    obtain⟨o,e,d⟩:=T.obj _ _ st5 b hb
    exact (I8.pin (b,o) (List.mem_append_right _ (List.mem_append_right _ (wN hb e)))).2.1
   cases ok with
   |false=>exact again I7 rv q7
   |true=>
    refine thn (hE _ s7 _ H7 _ I7 q7) λy s8 ⟨v8,H8,I8,r8,q8⟩=>?_
    obtain⟨pD1,pD2,pD3,pD4,pD5⟩:=I8.pin (D,_) (List.mem_append_right _ List.mem_cons_self)
    have hsz':its.toArray.size<=sizeLine:=by rw[List.size_toArray,<-rv.length];exact hsz
    refine wpAny_list_append_plain (hsz:=hsz') (items:=its.toArray) ⟨k,pD1⟩ λh9 pl9 sb9=>?_
    obtain⟨k9,e9⟩:=pl9
    have ea:its.toArray.push y=(its++[y]).toArray:=by simp
    rw[ea] at e9
    have I8':Inv (cxc X scope C (own++cap.map (·.1)) s₂ H2 fp (X.pn++pins)) (pinsAt fp s5.heap) (σ1'++cap.map λp=>(σ[p.2]?).getD none) H8 s8:=I8.pins_of λp hp=>I8.pin p (List.mem_append_right _ (List.mem_append_right _ hp))
    have fD:FpOk (cxc X scope C (own++cap.map (·.1)) s₂ H2 fp (X.pn++pins)) (pinsAt fp s5.heap) H8 D:=by
     refine⟨pD2,pD3,pD4,.inr hDle,λx c e z=>?_,λp hp z=>?_⟩
     ·exact absurd (celt x c e) (by rw[z,hD];exact Nat.lt_irrefl _)
     ·rcases List.mem_append.mp (show p∈(X.pn++pins)++_ from hp) with hp | hp
      ·exact absurd (pnl p hp) (by rw[z,hD];exact Nat.lt_irrefl _)
      ·exact absurd (flt p.1 (ZG hp).1) (by rw[z,hD];exact Nat.lt_irrefl _)
    have I9:Inv (cxc X scope C (own++cap.map (·.1)) s₂ H2 fp (X.pn++pins)) (pinsAt fp s5.heap) (σ1'++cap.map λp=>(σ[p.2]?).getD none) H8 { s8 with heap:=h9 }:=vX (t':=s8.toks) (ch:=[D]) I8' (λb o hb e=>(sb9.2 b λz=>hb (by simp[z])).trans e) λb hb=>by rw[List.mem_singleton.mp hb];exact fD
    have I10:Inv (cxc X scope C (own++cap.map (·.1)) s₂ H2 fp (X.pn++pins)) ([(D,{ cls:=.type "list",data:=.seq (its++[y]).toArray k9 })]++pinsAt fp s5.heap) (σ1'++cap.map λp=>(σ[p.2]?).getD none) H8 { s8 with heap:=h9 }:=I9.pins_of λp hp=>by
     rcases List.mem_append.mp hp with hp | hp
     ·rw[List.mem_singleton.mp hp]
      exact⟨e9,pD2,pD3,pD4,λv z=>by cases z⟩
     ·exact I9.pin p (List.mem_append_right _ hp)
    exact again (s8:={ s8 with heap:=h9 }) I10 (rv.append (.cons r8 .nil)) q8
 subst hD
 exact codeAny_compStart_list (loop _ rfl) (T.self _ 0 _ _ _ (T.keep _ _ _ st2 λb hb o e=>old b o e) (loop _ rfl))
end L3
namespace L2
open PySem PySem.Spec PyProof.Rows
section
variable {κ:Type} [DecidableEq κ]
def valV (kvs:List (κ×V))(k:κ):Option V:=(kvs.find? λkv=>decide (kv.1=k)).map (·.2)
def putK (kvs:List (κ×V))(k:κ)(v:V):List (κ×V) :=
 if (kvs.any λkv=>decide (kv.1=k))=true then kvs.map (λkv=>if kv.1=k then (kv.1,v) else kv) else kvs++[(k,v)]
theorem Y0 {p:κ×V}{r:List (κ×V)}{k:κ}(e:p.1=k):valV (p::r) k=some p.2:=by simp[valV,List.find?_cons,e]
theorem Wv {p:κ×V}{r:List (κ×V)}{k:κ}(e:¬p.1=k):valV (p::r) k=valV r k:=by simp[valV,List.find?_cons,e]
theorem ZU (kvs:List (κ×V))(k:κ)(v:V):(putK kvs k v).length<=kvs.length+1:=by
 unfold putK
 split
 ·rw[List.length_map];omega
 ·rw[List.length_append,List.length_cons,List.length_nil];omega
theorem RelO.isSome_eq {o:Option V}{u:Option Value}(r:RelO o u):o.isSome=u.isSome:=by
 cases o with
 |none=>cases u with
  |none=>rfl
  |some _=>exact (show False from r).elim
 |some _=>cases u with
  |none=>exact (show False from r).elim
  |some _=>rfl
theorem KV.val {kvs:List (κ×V)}{vs:List (κ×Value)}(r:KV kvs vs)(k:κ):RelO (valV kvs k) (valueAt vs k):=by
 unfold KV at r
 induction r with
 |nil=>exact True.intro
 | @cons p q ps qs h t ih=>
  obtain⟨h1,h2⟩:=h
  by_cases e:p.1=k
  ·have e':q.1=k:=h1.symm.trans e
   have b:valueAt (q::qs) k=some q.2:=by simp[valueAt,List.find?_cons,e']
   rw[Y0 e,b];exact h2
  ·have e':¬q.1=k:=λz=>e (h1.trans z)
   have b:valueAt (q::qs) k=valueAt qs k:=by simp[valueAt,List.find?_cons,e']
   rw[Wv e,b];exact ih
theorem KV.any {kvs:List (κ×V)}{vs:List (κ×Value)}(r:KV kvs vs)(k:κ):(kvs.any λkv=>decide (kv.1=k))=vs.any λkv=>decide (kv.1=k):=by
 unfold KV at r
 induction r with
 |nil=>rfl
 |cons h t ih=>rw[List.any_cons,List.any_cons,ih,h.1]
theorem KV.repl {kvs:List (κ×V)}{vs:List (κ×Value)}(r:KV kvs vs)(k:κ){y:V}{u:Value}(ry:RelV y u) :
  KV (kvs.map λkv=>if kv.1=k then (kv.1,y) else kv) (vs.map λkv=>if kv.1=k then (kv.1,u) else kv):=by
 unfold KV at r ⊢
 induction r with
 |nil=>exact .nil
 | @cons p q ps qs h t ih=>
  rw[List.map_cons,List.map_cons]
  refine .cons ?_ ih
  obtain⟨h1,h2⟩:=h
  by_cases e:p.1=k
  ·rw[if_pos e,if_pos (h1.symm.trans e)];exact⟨h1,ry⟩
  ·rw[if_neg e,if_neg (λz=>e (h1.trans z))];exact⟨h1,h2⟩
theorem KV.put {kvs:List (κ×V)}{vs:List (κ×Value)}(r:KV kvs vs)(k:κ){y:V}{u:Value}(ry:RelV y u):KV (putK kvs k y) (stored vs k u):=by
 unfold putK stored
 rw[r.any k]
 by_cases e:(vs.any λkv=>decide (kv.1=k))=true
 ·rw[if_pos e,if_pos e];exact r.repl k ry
 ·rw[if_neg e,if_neg e];exact Paired.snoc r ⟨rfl,ry⟩
theorem KV.keys {kvs:List (κ×V)}{vs:List (κ×Value)}(r:KV kvs vs):kvs.map (·.1)=vs.map (·.1):=by
 unfold KV at r
 induction r with
 |nil=>rfl
 |cons h t ih=>rw[List.map_cons,List.map_cons,ih,h.1]
theorem KV.length {kvs:List (κ×V)}{vs:List (κ×Value)}(r:KV kvs vs):kvs.length=vs.length:=Paired.length r
end
theorem jX {P:Program}{w:World}{k:Key}{u:Value}(r:RelV (kV k) u):(zE P w).is k u=true:=by
 cases k with
 |inl i=>obtain⟨t,e⟩:=(show ∃t,u=Value.int i t from r);subst e;exact GT P w i t
 |inr x=>obtain⟨t,e⟩:=(show ∃t,u=Value.str x t from r);subst e;exact RO P w x t
section
variable {P:Program}{w:World}{H:Hp}{h:Heap}{a:Addr}
end
section
variable {X:Cx}{pins:List (Addr×Obj)}{σ:St}{H:Hp}{s:Shared}{a:Addr}{y v:V}{u r:Value}{o:Option V}{A:Around}{E:Value->Shared->Prop}
theorem Inv.big (I:Inv X pins σ H s):sysModules < s.heap.objs.size:=by
 have h:mainGlobals < s.heap.objs.size:=(I.mod.glob.keeps I.bk).lt
 exact Nat.lt_trans (by decide) h
theorem zaa {h':Heap}{t':Nat}{ob:HO}(I:Inv X pins σ H s)(mu:Mut (H a))(hs:Heap.SameBut a s.heap h')(he:∃q,h'.get? a=some q)(new:ObjOk X.prog X.w (upd H a ob) h' a ob) :
  Inv X pins σ (upd H a ob) { s with heap:=h',toks:=t' } :=
 I.write (x:=a) (e:=a) mu (.inl rfl) (λb q hb z=>(hs.2 b hb).trans z) he new
end
section
variable {X:Cx}{pins:List (Addr×Obj)}{σ:St}{H:Hp}{s:Shared}{a:Addr}{kvs:List (Key×V)}{k:Key}{u:Value}{A:Around}{E:Value->Shared->Prop}
end
def NoSl (i:Expr):Prop:=∀ov iv,subscripted i false ov iv=operate [ov,iv] (getItem ov iv)
theorem Kj {prog:Program}{w:World}{A:Around}{E:Value->Shared->Prop}{s:Shared}{env:Env}{value slice:Expr}{pos:Pos}{T id:String}{Q:Value->Shared->Prop}
  (hl:typeLookup (.type T) "__getitem__" = pure (some (.builtin id))) (hs:NoSl slice)
  (h:wpAny (model prog w) A (eval value env) (λo s₁=>wpAny (model prog w) A (eval slice env) (λi s₂=>s₂.TypeIs o T/\wpAny (model prog w) A (getItem o i) Q E s₂) E s₁) E s) :
  wpAny (model prog w) A (eval (.Subscript value slice pos) env) Q E s:=by
 refine Subscript_ (wpAny_mono h (λo s₁ h₁=>wpAny_mono h₁ (λi s₂ h₂=>?_) λ_ _ x=>x) λ_ _ x=>x)
 obtain⟨hT,h₂⟩:=h₂
 unfold subscriptTail
 refine wpAny_bind ?_
 rw[getitemInPython_of_ne hT.not_modules]
 refine wpAny_bind (wpAny_specialOf hT hl ?_)
 have fin:wpAny (model prog w) A (subscripted slice false o i) (λr s₃=>wpAny (model prog w) A (letTemporaryGo value o r >>= λ_=>pure r) Q E s₃) E s₂:=by
  rw[hs o i]
  exact wpAny_operating (wpAny_mono h₂ (λr s₃ h₃=>wpAny_bind (wpAny_letTemporaryGo (wpAny_pure h₃))) λ_ _ x=>x)
 first
  |exact wpAny_pure (wpAny_bind fin)
  |exact wpAny_bind (wpAny_pure (wpAny_bind fin))
  |exact wpAny_bind fin
section
variable {X:Cx}{o i e value:Expr}{pos pos' tpos:Pos}{td ty tv:TE}
end
section
variable {X:Cx}{pos:Pos}
end
abbrev VV:List (V×V)->List (Value×Value)->Prop:=Paired λp q=>RelV p.1 q.1/\RelV p.2 q.2
def mergeK (kvs more:List (Key×V)):List (Key×V):=more.foldl (λacc kv=>putK acc kv.1 kv.2) kvs
theorem KV.merge:∀ {more:List (Key×V)} {rs:List (Key×Value)} {kvs:List (Key×V)} {vs:List (Key×Value)},KV more rs->KV kvs vs->KV (mergeK kvs more) (merged vs rs):=by
 intro more rs kvs vs r
 unfold KV at r
 induction r generalizing kvs vs with
 |nil=>intro q;exact q
 | @cons p q ps qs h t ih=>
  intro r0
  have e:KV (putK kvs p.1 p.2) (stored vs q.1 q.2):=by
   have:=r0.put p.1 h.2
   rw[<-h.1];exact this
  exact ih e
theorem WI:∀(more kvs:List (Key×V)),(mergeK kvs more).length<=kvs.length+more.length
 | [],kvs=>by show kvs.length<=kvs.length+0;omega
 |p::r,kvs=>by
  have h1:=WI r (putK kvs p.1 p.2)
  have h2:=ZU kvs p.1 p.2
  show (mergeK (putK kvs p.1 p.2) r).length<=_
  rw[List.length_cons];omega
structure M1 (X:Cx)(o:Expr)(m:Str)(apos:Pos)(e:Expr)(cpos:Pos):Prop where
 base:attributeBase o m X.env (eval o X.env)=eval o X.env
 few:((backTo cpos (starEach [e] X.env)).all (λx=>!x.1)&&(backToKw cpos (keywordEach [] X.env)).all (λx=>x.1.isSome)
  && decide (([e]:List Expr).length+([]:List Keyword).length+(if ([]:List Keyword).isEmpty then 0 else 1) < 30))=true
 line:(apos.endLine==cpos.line)=true
 trees:backTo cpos (starEach [e] X.env)=[(false,eval e X.env)]
structure M2 (X:Cx)(o:Expr)(m:Str)(apos:Pos)(e f:Expr)(cpos:Pos):Prop where
 base:attributeBase o m X.env (eval o X.env)=eval o X.env
 few:((backTo cpos (starEach [e,f] X.env)).all (λx=>!x.1)&&(backToKw cpos (keywordEach [] X.env)).all (λx=>x.1.isSome)
  && decide (([e,f]:List Expr).length+([]:List Keyword).length+(if ([]:List Keyword).isEmpty then 0 else 1) < 30))=true
 line:(apos.endLine==cpos.line)=true
 trees:backTo cpos (starEach [e,f] X.env)=[(false,eval e X.env),(false,eval f X.env)]
section
variable {X:Cx}{pins:List (Addr×Obj)}{σ:St}{H:Hp}{s:Shared}{a:Addr}{y d:V}{u r:Value}{o:Option V}{A:Around}{E:Value->Shared->Prop}
end
section
variable {X:Cx}{o e f:Expr}{apos cpos:Pos}{td ty tx:TE}
end
section
variable {X:Cx}{pins:List (Addr×Obj)}{σ:St}{H:Hp}{s:Shared}{a:Addr}{kvs:List (Key×V)}{A:Around}{E:Value->Shared->Prop}
end
section
variable {X:Cx}{pins:List (Addr×Obj)}{σ:St}{H:Hp}{s:Shared}{a:Addr}{y:V}{u:Value}{A:Around}{E:Value->Shared->Prop}
end
end L2
namespace L4
open PySem PySem.Spec L2 L3
open PyProof.Rows hiding St
def dxp (w:World)(a:Addr)(o:Obj)(kvs:List (Key×V)):Heap->Prop:=λh=>h.get? a=some o/\kvs.length<=sizeLine/\(a==sysModules)=false/\∃vs,KV kvs vs/\∀P,o.IsDictOf (zE P w) vs
def DX (w:World)(a:Addr)(o:Obj)(kvs:List (Key×V)):HO:=.ext (dxp w a o kvs)
theorem pairsP {P P':Program}{w:World}:∀ {es:List DictEntry} {vs:List (Key×Value)},Pairs (zE P w) es vs->Pairs (zE P' w) es vs:=by
 intro es vs h
 induction h with
 |nil=>exact .nil
 |cons=>first | exact .cons ‹_› ‹_› | exact .cons ‹_› ‹_› ‹_› | (constructor<;>assumption)
theorem anyP {o:Obj}{P P':Program}{w:World}{vs:List (Key×Value)}(h:o.IsDictOf (zE P w) vs):o.IsDictOf (zE P' w) vs :=
 let ⟨es,ep,h1,h2,h3,h4,h5⟩:=h;⟨es,ep,h1,h2,h3,pairsP h4,h5⟩
theorem Z5 {P:Program}{w:World}{h:Heap}{a:Addr}{kvs:List (Key×V)}{vs:List (Key×Value)}(z:kvs.length<=sizeLine)(hd:(a==sysModules)=false)(rel:KV kvs vs)(dd:h.DictOf (zE P w) a vs) :
  ∃o,h.get? a=some o/\∀H,ObjOk P w H h a (DX w a o kvs):=by
 obtain⟨o,ho,hi⟩:=Heap.dictOf_iff.mp dd
 exact⟨o,ho,λH=>⟨⟨ho,z,hd,vs,rel,λP=>anyP hi⟩,⟨o,ho⟩,λh1 h2 ⟨e,r⟩ k=>⟨k _ e,r⟩⟩⟩
section
variable {X:Cx}{pins:List (Addr×Obj)}{σ:St}{H:Hp}{s:Shared}{a:Addr}{ob:Obj}{kvs:List (Key×V)}{k:Key}{y v:V}{u r:Value}{A:Around}{E:Value->Shared->Prop}
theorem xA (I:Inv X pins σ H s)(e:H a=some (DX X.w a ob kvs)):s.heap.get? a=some ob/\kvs.length<=sizeLine/\(a==sysModules)=false/\∃vs,KV kvs vs/\ob.IsDictOf (zE X.prog X.w) vs/\s.heap.DictOf (zE X.prog X.w) a vs:=by
 obtain⟨⟨h1,h2,h3,vs,h4,h5⟩,_⟩:=(show ObjOk X.prog X.w H s.heap a (DX X.w a ob kvs) from I.hok a _ e)
 exact⟨h1,h2,h3,vs,h4,h5 _,Heap.dictOf_iff.mpr ⟨ob,h1,h5 _⟩⟩
theorem JT (I:Inv X pins σ H s)(e:H a=some (DX X.w a ob kvs)):s.TypeIs (.ref a) "dict" := by
 obtain⟨_,_,_,vs,_,_,dd⟩:=xA I e
 exact dd.typeIs
theorem zel (I:Inv X pins σ H s)(e:H a=some (DX X.w a ob kvs)):∀b,Value.ref a=.ref b->∃ob,s.heap.get? b=some ob/\ob.dict=none:=λb q=>by
 cases q
 obtain⟨h1,_,_,vs,_,⟨_,_,h2,_⟩,_⟩:=xA I e
 exact⟨ob,h1,h2.2.1⟩
theorem Gw {Q:Value->Shared->Prop}(I:Inv X pins σ H s)(e:H a=some (DX X.w a ob kvs))(l:valV kvs k=some v)(ry:RelV (kV k) u)(h:∀w' s',Inv X pins σ H s'->RelV v w'->Q w' s') :
  wpAny (model X.prog X.w) A (getItem (.ref a) u) Q E s:=by
 obtain⟨_,z,hd,vs,rel,_,dd⟩:=xA I e
 obtain⟨w',hw,rw'⟩:=RelO.some_of (v:=v) (o:=valueAt vs k) (by rw[<-l];exact rel.val k)
 exact wpAny_getItem_of (jX ry) dd.mapOf hw (h w' _ (I.tok _) rw')
theorem U4 {Q:Value->Shared->Prop}(I:Inv X pins σ H s)(e:H a=some (DX X.w a ob kvs))(ry:RelV (kV k) u)(h:∀s',Inv X pins σ H s'->Q (.bool (valV kvs k).isSome) s') :
  wpAny (model X.prog X.w) A (compareOp .In u (.ref a)) Q E s:=by
 obtain⟨_,z,hd,vs,rel,_,dd⟩:=xA I e
 refine wpAny_in_of (jX ry) hd dd.mapOf ?_
 rw[<-(rel.val k).isSome_eq]
 exact h _ (I.tok _)
theorem zdl {Q:Unit->Shared->Prop}(I:Inv X pins σ H s)(e:H a=some (DX X.w a ob kvs))(l:kvs.length < sizeLine)(ry:RelV (kV k) u)(rv:RelV v r)
  (h:∀s' ob',Inv X pins σ (upd H a (DX X.w a ob' (putK kvs k v))) s'->Q () s'):wpAny (model X.prog X.w) A (setItem (.ref a) u r) Q E s:=by
 obtain⟨_,z,hd,vs,rel,_,dd⟩:=xA I e
 have hz:vs.length<=sizeLine:=by rw[<-rel.length];exact z
 have hl:(putK kvs k v).length<=sizeLine:=by have:=ZU kvs k v;omega
 refine wpAny_setItem_pairs (hsz:=hz) (jX ry) dd λh' dd' hs=>?_
 have he:∃q,h'.get? a=some q:=let ⟨q,_,_,hq,_⟩:=dd';⟨q,hq⟩
 obtain⟨o',ho',new⟩:=Z5 (P:=X.prog) (w:=X.w) (a:=a) (kvs:=putK kvs k v) hl hd (rel.put k rv) dd'
 exact h _ o' (zaa I (by rw[e];exact True.intro) hs he (new _))
end
def tXNew (P:Program)(w:World):TE:=λ_ H Q=>∀p ob,H p=none->Q (.ref p) (upd H p (DX w p ob []))
def tXGet (P:Program)(w:World)(td ty:TE):TE:=λσ H Q=>td σ H λx H1=>ty σ H1 λy H2=>∃a ob kvs k v,x=.ref a/\H2 a=some (DX w a ob kvs)/\y=kV k/\valV kvs k=some v/\Q v H2
def tXIn (P:Program)(w:World)(ty td:TE):TE:=λσ H Q=>ty σ H λy H1=>td σ H1 λx H2=>∃a ob kvs k,x=.ref a/\H2 a=some (DX w a ob kvs)/\y=kV k/\Q (.bl (valV kvs k).isSome) H2
def sXPut (P:Program)(w:World)(td ty tv:TE):TS:=λD σ H=>tv σ H λv H1=>td σ H1 λx H2=>ty σ H2 λy H3=>∃a ob kvs k,x=.ref a/\H3 a=some (DX w a ob kvs)/\y=kV k/\kvs.length < sizeLine/\∀ob',D.nx σ (upd H3 a (DX w a ob' (putK kvs k v)))
section
variable {X:Cx}{o i e f value:Expr}{pos pos' tpos apos cpos:Pos}{td ty tv tx:TE}
theorem Rg:PE X (.Dict [] [] pos) (tXNew X.prog X.w):=λpins s σ H Q I h=>by
 obtain⟨ob,ho,new⟩:=Z5 (P:=X.prog) (w:=X.w) (a:=s.heap.objs.size) (kvs:=[]) (Nat.zero_le _) (beq_eq_false_iff_ne.mpr (Ne.symm (Nat.ne_of_lt I.big))) .nil (Heap.DictOf.new (knd:=zE X.prog X.w) s.heap)
 exact wpAny_Dict_empty ⟨.ref s.heap.objs.size,_,I.laid (a:=s.heap.objs.size) (o:=DX X.w s.heap.objs.size ob []) (t':=s.toks) (λ_ _ q=>Heap.get?_push_of_some _ q) (Nat.le_refl _) (new _),rfl,h _ ob (I.hok.fresh (Nat.le_refl _))⟩
theorem Qi (ho:PE X o td)(hi:PE X i ty)(hs:NoSl i):PE X (.Subscript o i pos) (tXGet X.prog X.w td ty):=by
 intro pins s σ H Q I h
 refine Kj PySem.F.slot_dict_getitem.lookup hs (thn (ho pins s σ H _ I h) λu s1 ⟨x,H1,I1,rx,q1⟩=>thn (hi pins s1 σ H1 _ I1 q1) λiv s2 ⟨y,H2,I2,ry,a,ob,kvs,k,v,ex,g,ey,l,q2⟩=>?_)
 subst ex ey
 obtain rfl:u=Value.ref a:=rx
 exact⟨JT I2 g,Gw I2 g l ry λw' s3 I3 rw'=>⟨v,H2,I3,rw',q2⟩⟩
theorem za5 (hi:PE X i ty)(ho:PE X o td):PC X .In i o (tXIn X.prog X.w ty td):=by
 intro pins s σ H Q I h
 refine thn (hi pins s σ H _ I h) λiv s1 ⟨y,H1,I1,ry,q1⟩=>thn (ho pins s1 σ H1 _ I1 q1) λu s2 ⟨x,H2,I2,rx,a,ob,kvs,k,ex,g,ey,q2⟩=>?_
 subst ex ey
 obtain rfl:u=Value.ref a:=rx
 exact U4 I2 g ry λs3 I3=>⟨.bl _,H2,I3,rfl,q2⟩
theorem zbq (ho:PE X o td)(hi:PE X i ty)(hv:PE X value tv)(hs:swapsWith value (some (.Subscript o i pos')) pos.line X.env=pure false) :
  PS X (.Assign [.Subscript o i pos'] value pos) (sXPut X.prog X.w td ty tv):=by
 intro pins s σ H D I h
 refine wpAny_Assign_Subscript (thn (hv pins s σ H _ I h) λr s1 ⟨v,H1,I1,rv,q1⟩=>thn (ho pins s1 σ H1 _ I1 q1) λu s2 ⟨x,H2,I2,rx,q2⟩=>thn (hi pins s2 σ H2 _ I2 q2) λiv s3 ⟨y,H3,I3,ry,a,ob,kvs,k,ex,g,ey,l,q3⟩=>?_) hs
 subst ex ey
 obtain rfl:u=Value.ref a:=rx
 exact zdl I3 g l ry rv λs4 ob' I4=>⟨σ,_,I4,q3 ob'⟩
end
def Itk (P:Program)(w:World)(a:Addr)(ob:Obj)(kvs:List (Key×V)):It :=
 ⟨λi H=>i < kvs.length/\H a=some (DX w a ob kvs),λi H x H'=>H'=H/\∃k v,kvs[i]?=some (k,v)/\x=kV k,λi H=>i=kvs.length/\H a=some (DX w a ob kvs)⟩
theorem Kv {P:Program}{w:World}{k:Key}{u:Value}(h:(zE P w).is k u=true):RelV (kV k) u:=by
 rw[KJ] at h
 rcases y8 h with⟨i,t,rfl,rfl⟩ | ⟨x,t,rfl,rfl⟩
 ·exact⟨t,rfl⟩
 ·exact⟨t,rfl⟩
def epO (ob:Obj):Nat:=match ob.data with
 |.dict _ ep=>ep
 |_=>0
section
variable {X:Cx}{pins:List (Addr×Obj)}{σ:St}{H:Hp}{s:Shared}{a:Addr}{ob:Obj}{kvs:List (Key×V)}
theorem qu (I:Inv X pins σ H s)(e:H a=some (DX X.w a ob kvs)):(a==sysModules)=false/\kvs.length<=sizeLine/\∃vs,KV kvs vs/\s.heap.DictAt (zE X.prog X.w) a vs (epO ob):=by
 obtain⟨h1,z,hd,vs,rel,⟨es,ep,c1,c2,c3,c4,c5⟩,_⟩:=xA I e
 exact⟨hd,z,vs,rel,ob,es,h1,c1,by unfold epO;rw[c2],c3,c4,c5⟩
end
theorem Kp {P:Program}{w:World}{K:PySem.W.Frag}{tg:Expr}(a it:Addr)(ob:Obj)(kvs:List (Key×V)):Turn P w K tg (Itk P w a ob kvs) [it] it (λi h=>h.IsKeyIter it a i kvs.length (epO ob)) where
 mem:=by simp
 obj:=λi h st b hb=>by
  have e:b=it:=by simpa using hb
  subst e
  obtain⟨o,e,c,d⟩:=st
  exact⟨o,e,λv z=>by rw[d] at z;cases z⟩
 keep:=λi h h' st k=>st.at λo e=>k it (by simp) o e
 item:=by
  intro X hP hw hK hc i pins s σ H E I hf st hg
  subst hP hw hK
  obtain⟨hi,hq⟩:=hg
  obtain⟨hd,z,vs,rel,da⟩:=qu I hq
  obtain⟨f0,f1,f2,f3,f4,f5⟩:=hf it (by simp)
  have hl:vs.length=kvs.length:=rel.length.symm
  have hx:vs[i]?=some (vs[i]'(by omega)):=List.getElem?_eq_getElem _
  have hk:kvs[i]?=some kvs[i]:=List.getElem?_eq_getElem hi
  have keys:=rel.keys
  have hkk:(kvs[i]).1=(vs[i]'(by omega)).1:=by
   have h1:(kvs.map (·.1))[i]?=some (kvs[i]).1:=by simp[hk]
   have h2:(vs.map (·.1))[i]?=some (vs[i]'(by omega)).1:=by simp[hx]
   rw[keys,h2] at h1
   exact (Option.some.inj h1).symm
  refine wpAny_pyNext_dict_item (k:=(vs[i]'(by omega)).1) (v:=(vs[i]'(by omega)).2) (by rw[hl];exact st) da hx λkey h' hkey st' sb=>?_
  rw[hl] at st'
  have I1:Inv X pins σ H { s with heap:=h' }:=I.turned (t':=s.toks) (λb o hb e=>(sb.2 b hb).trans e) f0 f1 f3 f4 f5
  obtain⟨o,e,c,d⟩:=id st'
  exact⟨key,rfl,j0 (s:={ s with heap:=h' }) e c d (by decide) ⟨kV (kvs[i]).1,H,I1,by rw[hkk];exact Kv hkey,⟨rfl,(kvs[i]).1,(kvs[i]).2,hk,rfl⟩,st',λb hb=>(hf b hb).1⟩⟩
 done:=by
  intro X hP hw hK hc i pins s σ H E I hf st hg
  subst hP hw hK
  obtain⟨hi,hq⟩:=hg
  obtain⟨hd,z,vs,rel,da⟩:=qu I hq
  obtain⟨f0,f1,f2,f3,f4,f5⟩:=hf it (by simp)
  have hl:vs.length=kvs.length:=rel.length.symm
  refine wpAny_pyNext_dict_end (I.ok.hd hc) (by rw[hl];exact st) da (by rw[hi,<-hl];simp) λh' eb=>⟨rfl,I.turned (t':=s.toks) (λb o hb e=>eb b o hb e) f0 f1 f3 f4 f5⟩
 self:=λ_ _ _ _ _ st h=>wpAny_pyIter_keyiter st h
def iKeys (P:Program)(w:World)(td:TE):TI:=λσ H R=>td σ H λx H1=>∃a ob kvs,x=.ref a/\H1 a=some (DX w a ob kvs)/\R (Itk P w a ob kvs) H1
theorem G3 {X:Cx}{tg l:Expr}{tl:TE}(hl:PE X l tl):PI X tg l (iKeys X.prog X.w tl):=by
 intro pins s σ H R I h
 refine thn (hl pins s σ H _ I h) λv s1 ⟨x,H1,I1,r1,q1⟩=>?_
 obtain⟨a,ob,kvs,e,hq,q⟩:=q1
 subst e
 cases r1
 obtain⟨hd,z,vs,rel,da⟩:=qu I1 hq
 refine wpAny_pyIter_dict hd da ?_
 refine⟨s1.heap.objs.size,[s1.heap.objs.size],_,_,H1,rfl,I1.kept (t':=s1.toks) λb o e=>Heap.get?_push_of_some _ e,Kp a _ ob kvs,?_,λb hb=>?_,q⟩
 ·rw[<-rel.length]
  exact⟨_,Heap.get?_push_size _ rfl,rfl,rfl⟩
 ·have e:b=s1.heap.objs.size:=by simpa using hb
  subst e
  exact I1.fpOk (Nat.le_refl _) (I1.hok.fresh (Nat.le_refl _))
theorem QR:typeLookup (.type "list") "keys" = pure none:=by rw[typeLookup_type,builtinLookup_eq_fast];kernel_rfl
theorem KF {prog:Program}{w:World}{A:Around}{E:Value->Shared->Prop}{s:Shared}{a:Addr}{o:Obj}{xs:Array Value}{k:Nat}{name:Str}{tok:Tok}{Q:Value->Shared->Prop}
  (hx:s.heap.get? a=some o) (hc:o.cls=.type "list") (hdat:o.data=.seq xs k) (hd:o.dict=none) (hmiss:typeLookup (.type "list") name=pure none) (hname:(["__module__","__name__","__qualname__","__doc__","__annotations__"]:List Str).contains name=false) (hA:A.handled=none)
  (h:∀h' tk e,Heap.NewExcOf s.heap h' e "AttributeError" -> E (.ref e) { s with heap:=h',toks:=tk }) (hsz:name.length+100<=sizeLine) :
  wpAny (model prog w) A (getAttrBy (.ref a) (.str name tok) false) Q E s:=by
 obtain⟨c,dct,dat,sl⟩:=o
 simp only at hc hdat hd
 subst hc hdat hd
 obtain⟨hp,g,d,tk,os⟩:=s
 have hT:∀tk',(⟨hp,g,d,tk',os⟩:Shared).TypeIs (.ref a) "list" := λ_=>⟨_,hx,rfl⟩
 have f1:=sub_AttributeError
 have f3:=F.slot_list_getattribute.lookup
 have f4:=F.slot_list_getattribute.bind (.ref a)
 have f5:=am_list_getattr_none
 unfold getAttrBy
 repeat (any_goals (first | assumption | exact hT _ | ((with_reducible show wpAny _ _ (call (Value.builtin "list.__getattribute__") _ _) _ _ _);refine call_meets F.slot_list_getattribute (hT _) am_entry_list_getattribute (F.args_list_getattribute_2 _ _) (meets_getattribute_miss_list a xs k sl name _ hmiss hname hsz) ⟨hx,hA,λh' tk' e hx'=>?_⟩) | wp_step))
 obtain⟨t',u',he⟩:=hx'.there
 show wpAny _ _ (getattributeRaised _ _ _ _ _ _ _) _ _ _
 unfold getattributeRaised
 repeat (any_goals (first | assumption | wp_step))
 exact h _ _ _ hx'.of
theorem GK {prog:Program}{w:World}{A:Around}{E:Value->Shared->Prop}{s:Shared}{a:Addr}{o:Obj}{xs:Array Value}{k:Nat}{name:Str}{Q:Option Value->Shared->Prop}
  (hx:s.heap.get? a=some o) (hc:o.cls=.type "list") (hdat:o.data=.seq xs k) (hd:o.dict=none) (hmiss:typeLookup (.type "list") name=pure none) (hname:(["__module__","__name__","__qualname__","__doc__","__annotations__"]:List Str).contains name=false) (hA:A.handled=none)
  (h:∀h' tk,(∀b o,s.heap.get? b=some o->h'.get? b=some o)->Q none { s with heap:=h',toks:=tk }) (hsz:name.length+100<=sizeLine) :
  wpAny (model prog w) A (getAttr? (.ref a) name) Q E s:=by
 unfold getAttr? getAttrBy?
 refine wpAny_bind (wpAny_mkText ?_)
 refine wpAny_bind (wpAny_attempt (KF (s:={ s with toks:=s.toks+1 }) hx hc hdat hd hmiss hname hA (λh' tk e ne=>?_) hsz))
 obtain⟨ob,vs,he,hc',_,_⟩:=ne.there
 show wpAny _ _ (isInstance (.ref e) (.type "AttributeError") >>= _) _ _ _
 refine wpAny_bind (wpAny_isInstance (T := "AttributeError") (b:=true) ⟨ob,he,hc'⟩ sub_AttributeError ?_)
 exact wpAny_pure (h h' tk ne.keeps)
theorem Vi:entryFor table "dict.update.loop" = some Builtin.«dict.update.loop»:=entryFor_of_tree (by kernel_rfl)
theorem jY:plainId "dict.update.loop" = true:=by decide +kernel
inductive PairsAt (P:Program) (w:World) (h:Heap):List Value->List (Key×Value)->Prop
 |nil:PairsAt P w h [] []
 |cons {a:Addr} {r:List Value} {k:Key} {kv v:Value} {kvs:List (Key×Value)}:h.IsTuple a #[kv,v]->(zE P w).is k kv=true->PairsAt P w h r kvs->PairsAt P w h (.ref a::r) ((k,v)::kvs)
theorem PairsAt.length {P:Program}{w:World}{h:Heap}{xs:List Value}{kvs:List (Key×Value)}(p:PairsAt P w h xs kvs):xs.length=kvs.length:=by induction p<;>simp_all
theorem PairsAt.get {P:Program}{w:World}{h:Heap}{xs:List Value}{kvs:List (Key×Value)}(p:PairsAt P w h xs kvs):∀i,i < kvs.length->∃a k kv v,xs[i]?=some (.ref a)/\kvs[i]?=some (k,v)/\h.IsTuple a #[kv,v]/\(zE P w).is k kv=true:=by
 induction p with
 |nil=>intro i hi;simp at hi
 | @cons a r k kv v kvs h1 h2 t ih=>
  intro i hi
  cases i with
  |zero=>exact⟨a,k,kv,v,rfl,rfl,h1,h2⟩
  |succ i=>simpa using ih i (by simpa using hi)
theorem K6 {h h':Heap}{a:Addr}{xs:Array Value}(t:h.IsTuple a xs)(k:∀o,h.get? a=some o->h'.get? a=some o):h'.IsTuple a xs:=let ⟨o,e,r⟩:=t;⟨o,k _ e,r⟩
section
variable {prog:Program}{w:World}{A:Around}{s:Shared}{R:Result->Shared->Prop}
theorem UE {d it l:Addr}{h₁:Heap}{xs:List Value}{kvs:List (Key×Value)}(hh:A.handled=none)(hdi:d≠it)(hdl:d≠l)(hil:it≠l)(hl:h₁.IsList l xs.toArray)
  (hp:PairsAt prog w h₁ xs kvs) (hdt:∀b vs,h₁.IsTuple b vs->b≠d/\b≠it) (hz:kvs.length<=sizeLine)
  (hR:∀h' tk,(∀b o,b≠d->b≠it->h₁.get? b=some o->h'.get? b=some o)->h'.DictOf (zE prog w) d (merged [] kvs)->R (.ok (.ret .none)) { s with heap:=h',toks:=tk }) :
  ∀(k i:Nat) (h:Heap) (tk:Nat) (t:Tok),kvs.length - i=k->i<=kvs.length->(∀b o,b≠d->b≠it->h₁.get? b=some o->h.get? b=some o)->h.IsListIter it l i->h.DictOf (zE prog w) d (merged [] (kvs.take i)) ->
   codeAny (model prog w) A (.builtin "dict.update.loop" ⟨[.ref d,.ref it,.int i t,.none],[]⟩) R { s with heap:=h,toks:=tk }:=by
 intro k
 induction k with
 |zero=>
  intro i h tk t hk hi keep st dd
  have hin:i=kvs.length:=by omega
  refine codeAny_builtin Vi ?_
  rw[Around.under_plainId jY _]
  show wpAny _ A.in1 (pyNext (.ref it) >>= _) _ _ _
  have hl':h.IsList l xs.toArray:=let ⟨o,e,r⟩:=hl;⟨o,keep l _ (Ne.symm hdl) (Ne.symm hil) e,r⟩
  refine wpAny_bind (wpAny_pyNext_list_end (s:={ s with heap:=h,toks:=tk }) (A:=A.in1) (items:=xs.toArray) hh st hl' (by simp;rw[hp.length];omega) λh' he=>?_)
  show wpAny _ _ (Builtin.Dict.addKeywords d [] >>= _) _ _ _
  refine wpAny_bind (wpAny_pure ?_)
  refine wpAny_pure (hR h' tk (λb o h1 h2 e=>he b o h2 (keep b o h1 h2 e)) ?_)
  rw[hin,List.take_length] at dd
  obtain⟨o,ho,hr⟩:=Heap.dictOf_iff.mp dd
  exact Heap.dictOf_iff.mpr ⟨o,he d o hdi ho,hr⟩
 |succ k ih=>
  intro i h tk t hk hi keep st dd
  have hlt:i < kvs.length:=by omega
  obtain⟨a,ky,kv,v,hx,hkv,ht,hkey⟩:=hp.get i hlt
  obtain⟨had,hai⟩:=hdt a _ ht
  refine codeAny_builtin Vi ?_
  rw[Around.under_plainId jY _]
  show wpAny _ A.in1 (pyNext (.ref it) >>= _) _ _ _
  have hl':h.IsList l xs.toArray:=let ⟨o,e,r⟩:=hl;⟨o,keep l _ (Ne.symm hdl) (Ne.symm hil) e,r⟩
  refine wpAny_bind (wpAny_pyNext_list_item (s:={ s with heap:=h,toks:=tk }) (A:=A.in1) (items:=xs.toArray) st hl' (x:=.ref a) (by simpa using hx) λh' st' sb=>?_)
  have ht':h'.IsTuple a #[kv,v]:=K6 ht λo e=>(sb.2 a hai).trans (keep a o had hai e)
  have dd':h'.DictOf (zE prog w) d (merged [] (kvs.take i)):=by
   obtain⟨o,ho,hr⟩:=Heap.dictOf_iff.mp dd
   exact Heap.dictOf_iff.mpr ⟨o,(sb.2 d hdi).trans ho,hr⟩
  obtain⟨ot,hot,hct,nt,hdt'⟩:=id ht'
  refine wpAny_bind (wpAny_holding ?_)
  refine wpAny_bind (wpAny_tryCatch ?_)
  unfold Builtin.Dict.pairItems
  refine wpAny_bind (wpAny_typeOf (T := "tuple") ⟨ot,hot,hct⟩ ?_)
  rw[if_pos (by decide)]
  refine wpAny_bind (wpAny_seqItems hot hdt' (wpAny_pure ?_))
  show wpAny _ _ (holding [kv,v] (dictSet d kv v)) _ _ _
  have hm:(merged [] (kvs.take i)).length<=sizeLine:=by
   have h1:=merged_length_le ([]:List (Key×Value)) (kvs.take i)
   simp at h1
   omega
  refine wpAny_holding (wpAny_dictSet_pairs (knd:=zE prog w) hkey dd' (hsz:=hm) λh2 dd2 sb2=>?_)
  refine wpAny_pure ⟨plainId_quiet jY _,?_⟩
  have:=ih (i+1) h2 (tk+1) 0 (by omega) hlt (λb o h1 h3 e=>(sb2.2 b h1).trans ((sb.2 b h3).trans (keep b o h1 h3 e))) (st'.at λo e=>(sb2.2 it (Ne.symm hdi)).trans e) (by rw[merged_take_succ _ _ _ _ hkv];exact dd2)
  exact this
end
section
variable {prog:Program}{w:World}{A:Around}{E:Value->Shared->Prop}{s:Shared}
theorem zbk {l:Addr}{o:Obj}{xs:List Value}{n:Nat}{kvs:List (Key×Value)}{Q:Value->Shared->Prop}(hh:A.handled=none)(ho:s.heap.get? l=some o)(hc:o.cls=.type "list") (hdat:o.data=.seq xs.toArray n) (hdn:o.dict=none)
  (hp:PairsAt prog w s.heap xs kvs) (hz:kvs.length<=sizeLine)
  (h:∀h' tk,(∀b o,s.heap.get? b=some o->h'.get? b=some o)->h'.DictOf (zE prog w) s.heap.objs.size (merged [] kvs)->Q (.ref s.heap.objs.size) { s with heap:=h',toks:=tk }) :
  wpAny (model prog w) A (call (.type "dict") [.ref l]) Q E s:=by
 refine callType_codes (Q₁:=λobj s₁=>obj=.ref s.heap.objs.size/\s₁={ s with heap:=s.heap.push { cls:=.type "dict",data:=.dict #[] } }) F.kt_called_dict (F.kt_typeCall_dict_1 _) F.entry_dict_init (kt_code_dict_new _ ⟨rfl,rfl⟩) ?_
 rintro obj s₁ ⟨rfl,rfl⟩
 have hnew:(s.heap.push { cls:=.type "dict",data:=.dict #[] }).DictOf (zE prog w) s.heap.objs.size []:=Heap.DictOf.new s.heap
 have ho':(s.heap.push { cls:=.type "dict",data:=.dict #[] }).get? l=some o:=Heap.get?_push_of_some _ ho
 have hlt:l < s.heap.objs.size:=Heap.lt_size ho
 refine⟨hnew.typeIs,F.args_dict_init_2 _ _,?_⟩
 unfold Builtin.«dict.__init__»
 refine wpAny_bind ?_
 unfold Builtin.Dict.selfAndRest
 refine wpAny_bind (wpAny_notOrdered_dict hnew.typeIs ?_)
 show wpAny _ _ (pure (s.heap.objs.size,[Value.ref l])) _ _ _
 refine wpAny_pure ?_
 show wpAny _ _ (Builtin.Dict.updateFrom "dict.__init__" s.heap.objs.size (.ref l) [] .none) _ _ _
 unfold Builtin.Dict.updateFrom
 refine wpAny_bind (wpAny_typeOf (T := "list") ⟨o,ho',hc⟩ ?_)
 rw[if_pos (by decide)]
 refine wpAny_bind (GK (A:=A.in1.in1) ho' hc hdat hdn QR (by decide) hh (λh' tk keep=>?_) (by decide))
 simp only[Option.isNone_none,if_true]
 refine wpAny_bind (wpAny_rule ?_)
 have hl1:h'.IsList l xs.toArray:=⟨o,keep _ _ ho',hc,n,hdat⟩
 refine wpAny_bind (wpAny_pyIter_list (s:={ s with heap:=h',toks:=tk }) hl1 ?_)
 refine wpAny_pure ⟨plainId_quiet jY _,?_⟩
 have hd1:h'.DictOf (zE prog w) s.heap.objs.size []:=by
  obtain⟨q,hq,hr⟩:=Heap.dictOf_iff.mp hnew
  exact Heap.dictOf_iff.mpr ⟨q,keep _ _ hq,hr⟩
 have hds:s.heap.objs.size < h'.objs.size:=by
  obtain⟨q,hq,hr⟩:=Heap.dictOf_iff.mp hd1
  exact Heap.lt_size hq
 refine UE (A:=A.in1) (s:=s) (h₁:=s.heap) (d:=s.heap.objs.size) (it:=h'.objs.size) (l:=l) (xs:=xs) (kvs:=kvs) hh (Nat.ne_of_lt hds) (Nat.ne_of_gt hlt) (Nat.ne_of_gt (Nat.lt_trans hlt hds)) ⟨o,ho,hc,n,hdat⟩ hp (λb vs hb=>?_) hz (λh2 tk2 keep2 dd=>?_)
  kvs.length 0 _ _ _ (Nat.sub_zero _) (Nat.zero_le _) (λb q h1 h2 e=>Heap.get?_push_of_some _ (keep b q (Heap.get?_push_of_some _ e))) ⟨_,Heap.get?_push_size _ rfl,rfl,rfl⟩ ?_
 ·obtain⟨q,hq,_⟩:=hb
  exact⟨Nat.ne_of_lt (Heap.lt_size hq),Nat.ne_of_lt (Nat.lt_trans (Heap.lt_size hq) hds)⟩
 ·refine⟨rfl,h h2 tk2 (λb q e=>keep2 b q ?_ ?_ e) dd⟩
  ·exact Nat.ne_of_lt (Heap.lt_size e)
  ·exact Nat.ne_of_lt (Nat.lt_trans (Heap.lt_size e) hds)
 ·rw[List.take_zero]
  obtain⟨q,hq,hr⟩:=Heap.dictOf_iff.mp hd1
  exact Heap.dictOf_iff.mpr ⟨q,Heap.get?_push_of_some _ hq,hr⟩
end
inductive PairsV (K:PySem.W.Frag) (H:Hp):List V->List (Key×V)->Prop
 |nil:PairsV K H [] []
 |cons {a:Addr} {r:List V} {k:Key} {v:V} {kvs:List (Key×V)}:SqT K H a [kV k,v]->PairsV K H r kvs->PairsV K H (.ref a::r) ((k,v)::kvs)
theorem PairsV.length {K:PySem.W.Frag}{H:Hp}{xs:List V}{kvs:List (Key×V)}(p:PairsV K H xs kvs):xs.length=kvs.length:=by induction p<;>simp_all
section
variable {X:Cx}{pins:List (Addr×Obj)}{σ:St}{H:Hp}{s:Shared}
theorem PairsV.at (I:Inv X pins σ H s){xs:List V}{kvs:List (Key×V)}(p:PairsV X.K H xs kvs):∀ {us:List Value},Vals xs us->∃vs,PairsAt X.prog X.w s.heap us vs/\KV kvs vs:=by
 induction p with
 |nil=>intro us r;cases r;exact⟨[],.nil,.nil⟩
 | @cons a r k v kvs h t ih=>
  intro us rv
  cases rv with
  | @cons _ u _ us ru rt=>
   obtain⟨vs,h1,h2⟩:=ih rt
   cases ru
   obtain⟨its,rr,tp,_⟩:=I.tuple h
   cases rr with
   | @cons _ b1 _ _ r1 rr=>
    cases rr with
    | @cons _ b2 _ _ r2 rr=>
     cases rr
     exact⟨(k,b2)::vs,.cons (show s.heap.IsTuple a #[b1,b2] from tp) (jX r1) h1,.cons ⟨rfl,r2⟩ h2⟩
end
section
variable {X:Cx}
theorem US (hc:X.calm=true):CallR X (.type "dict") (λxs H Q=>∃a ps kvs,xs=[.ref a]/\SqL X.K H a ps/\PairsV X.K H ps kvs/\∀p ob,H p=none->Q (.ref p) (upd H p (DX X.w p ob (mergeK [] kvs)))):=by
 intro pins s σ H vs us Q I r h
 obtain⟨a,ps,kvs,rfl,hq,hp,q⟩:=h
 obtain⟨u,rfl,ru⟩:=vals1 r
 cases ru
 obtain⟨its,rv,⟨o,n,e,c1,c2,c3⟩,hz⟩:=I.list hq
 obtain⟨ws,pw,kw⟩:=hp.at I rv
 have hl:kvs.length<=sizeLine:=by rw[<-hp.length];exact hz
 refine zbk (I.ok.hd hc) e c1 c3 c2 pw (by rw[<-kw.length];exact hl) λh' tk keep dd=>?_
 have hm:(mergeK [] kvs).length<=sizeLine:=by have:=WI kvs [];simp at this;omega
 obtain⟨ob,ho,new⟩:=Z5 (P:=X.prog) (w:=X.w) (kvs:=mergeK [] kvs) hm (beq_eq_false_iff_ne.mpr (Ne.symm (Nat.ne_of_lt I.big))) (kw.merge .nil) dd
 exact⟨.ref s.heap.objs.size,_,I.laid (a:=s.heap.objs.size) (o:=DX X.w s.heap.objs.size ob (mergeK [] kvs)) (t':=tk) keep (Nat.le_refl _) (new _),rfl,q _ ob (I.hok.fresh (Nat.le_refl _))⟩
end
def keysV (kvs:List (Key×V)):List V:=kvs.map λkv=>kV kv.1
def valsV (kvs:List (Key×V)):List V:=kvs.map (·.2)
def vwp (cls:String)(v d:Addr):Heap->Prop:=λh=>h.get? v=some { cls:=.type cls,data:=.fields #[.ref d] }
def VW (cls:String)(v d:Addr):HO:=.ext (vwp cls v d)
theorem Ww:∀ {xs:List V} {us:List Value},xs.length=us.length->(∀(j:Nat) x u,xs[j]?=some x->us[j]?=some u->RelV x u)->Vals xs us
 | [],[],_,_=>.nil
 | [],_::_,h,_=>by simp at h
 |_::_,[],h,_=>by simp at h
 |x::xs,u::us,h,k=>.cons (k 0 x u rfl rfl) (Ww (by simpa using h) λj y w h1 h2=>k (j+1) y w (by simpa using h1) (by simpa using h2))
theorem Kg {kvs:List (Key×V)}{vs:List (Key×Value)}(r:KV kvs vs):∀(j:Nat) k v k' u,kvs[j]?=some (k,v)->vs[j]?=some (k',u)->k=k'/\RelV v u:=by
 unfold KV at r
 induction r with
 |nil=>intro j k v k' u h;simp at h
 | @cons p q ps qs h t ih=>
  intro j k v k' u h1 h2
  cases j with
  |zero=>
   simp at h1 h2
   subst h1 h2
   exact⟨h.1,h.2⟩
  |succ j=>exact ih j k v k' u (by simpa using h1) (by simpa using h2)
section
variable {X:Cx}{pins:List (Addr×Obj)}{σ:St}{H:Hp}{s:Shared}{a v:Addr}{ob:Obj}{kvs:List (Key×V)}{cls:String}
theorem zd5 (I:Inv X pins σ H s)(e:H v=some (VW cls v a)):s.heap.get? v=some { cls:=.type cls,data:=.fields #[.ref a] }:=by
 obtain⟨h1,_⟩:=(show ObjOk X.prog X.w H s.heap v (VW cls v a) from I.hok v _ e)
 exact h1
theorem zb9 {P:Program}{w:World}{h:Heap}(e:h.get? v=some { cls:=.type cls,data:=.fields #[.ref a] }):ObjOk P w H h v (VW cls v a):=⟨e,⟨_,e⟩,λh1 h2 q k=>k _ q⟩
theorem Us (hc:X.calm=true):CallR X (.type "list") (λxs H Q=>∃v a ob kvs,xs=[V.ref v]/\H v=some (VW "dict_values" v a)/\H a=some (DX X.w a ob kvs)/\∀p,H p=none->Q (.ref p) (upd H p (.lst (valsV kvs)))):=by
 intro pins s σ H vs us Q I r h
 obtain⟨v,a,ob,kvs,rfl,hv,hq,q⟩:=h
 obtain⟨u,rfl,ru⟩:=vals1 r
 cases ru
 obtain⟨hd,z,ws,rel,da⟩:=qu I hq
 refine PySem.W.kdl_call (PySem.W.kdl_values (knd:=zE X.prog X.w) (kvs:=ws) (ep:=epO ob)) (I.ok.hd hc) ⟨⟨_,zd5 I hv,rfl,rfl⟩,da⟩ (by rw[<-rel.length];exact z) λh' tk acc c keep hn items=>?_
 have hl:acc.toList.length=kvs.length:=by rw[Array.length_toList,items.1,rel.length]
 have rv:Vals (valsV kvs) acc.toList:=by
  refine Ww (by unfold valsV;rw[List.length_map,hl]) λj x u h1 h2=>?_
  unfold valsV at h1
  rw[List.getElem?_map] at h1
  obtain⟨⟨k,y⟩,hk,rfl⟩:=Option.map_eq_some_iff.mp h1
  obtain⟨k',h3⟩:=items.2 j u (by rw[<-Array.getElem?_toList];exact h2)
  exact (Kg rel j k y k' u hk h3).2
 exact⟨.ref s.heap.objs.size,upd H s.heap.objs.size (.lst (valsV kvs)),I.laid (t':=tk) keep (Nat.le_refl _) ⟨by unfold valsV;rw[List.length_map];exact z,acc.toList,c,rv,by simpa using hn⟩,rfl,q _ (I.hok.fresh (Nat.le_refl _))⟩
end
structure M0 (X:Cx)(o:Expr)(m:Str)(apos cpos:Pos):Prop where
 base:attributeBase o m X.env (eval o X.env)=eval o X.env
 line:(apos.endLine==cpos.line)=true
def tXView (P:Program)(w:World)(cls:String)(td:TE):TE:=λσ H Q=>td σ H λx H1=>∃a ob kvs,x=.ref a/\H1 a=some (DX w a ob kvs)/\∀p,H1 p=none->Q (.ref p) (upd H1 p (VW cls p a))
section
variable {X:Cx}{o:Expr}{apos cpos:Pos}{td:TE}
theorem Ur (ho:PE X o td)(m:M0 X o "values" apos cpos):PE X (.Call (.Attribute o "values" apos) [] [] cpos) (tXView X.prog X.w "dict_values" td):=by
 intro pins s σ H Q I h
 refine wpAny_Call_method (T := "dict") (id := "dict.values") m.base rfl m.line PySem.F.plainAttrs_dict PySem.F.slot_dict_values PySem.F.type_dict_values (thn (ho pins s σ H _ I h) λu s1 ⟨x,H1,I1,rx,a,ob,kvs,ex,d,q1⟩=>?_)
 subst ex
 obtain rfl:u=Value.ref a:=rx
 obtain⟨_,_,hd,vs,_,_,dd⟩:=xA I1 d
 refine⟨JT I1 d,zel I1 d,?_⟩
 refine method_meetsIn PySem.F.slot_dict_values PySem.F.entry_dict_values rfl (PySem.evalArgs_none ⟨rfl,dd.typeIs,PySem.F.args_dict_values_1 _,_,meets_dict_values (zE X.prog X.w) a hd,⟨vs,dd⟩,?_⟩)
 exact⟨.ref s1.heap.objs.size,_,I1.laid (a:=s1.heap.objs.size) (o:=VW "dict_values" s1.heap.objs.size a) (t':=s1.toks) (λ_ _ q=>Heap.get?_push_of_some _ q) (Nat.le_refl _) (zb9 (Heap.get?_push_size _ rfl)),rfl,q1 _ (I1.hok.fresh (Nat.le_refl _))⟩
end
section
variable {X:Cx}{pins:List (Addr×Obj)}{σ:St}{H:Hp}{s:Shared}{a b:Addr}{oa ob:Obj}{ka kb:List (Key×Int)}{A:Around}{E:Value->Shared->Prop}
end
section
variable {X:Cx}{i o:Expr}{ta tb:TE}
end
section
variable {X:Cx}{pins:List (Addr×Obj)}{σ:St}{H:Hp}{s:Shared}{a:Addr}{ob:Obj}{kvs:List (Key×V)}
end
section
variable {X:Cx}{pins:List (Addr×Obj)}{σ:St}{H H':Hp}{s:Shared}{h':Heap}
end
end L4
namespace Dv
open PySem PySem.Spec L2 L3 L4
open PyProof.Rows hiding St
structure KW where
 fr:PySem.W.Frag
 w:World
instance:Coe KW PySem.W.Frag:=⟨KW.fr⟩
abbrev _root_.L2.Cx.kw (X:Cx):KW:=⟨X.K,X.w⟩
inductive D where
 |non | bl (b:Bool) | int (i:Int) | str (x:Str) | lst (xs:List D) | tup (xs:List D) | scr (ns:List Int) | obj (C:Addr) (fs:List Str) (ds:List D)
mutual
def Rp (K:KW)(F:Hp):D->V->Prop
 |.non,v=>v=.non
 |.bl b,v=>v=.bl b
 |.int i,v=>v=.int i
 |.str x,v=>v=.str x
 |.lst ds,v=>∃a vs,v=.ref a/\F a=some (.lst vs)/\Rps K F ds vs
 |.tup ds,v=>∃a vs,v=.ref a/\F a=some (.tup vs)/\Rps K F ds vs
 |.scr ns,v=>∃a,v=.ref a/\SqL K F a (ns.map V.int)
 |.obj C fs ds,v=>∃a dx vs,v=.ref a/\F a=some (.ins C dx (fs.zip vs))/\fs.length=vs.length/\Rps K F ds vs
def Rps (K:KW)(F:Hp):List D->List V->Prop
 | [],vs=>vs=[]
 |d::ds,vs=>∃v r,vs=v::r/\Rp K F d v/\Rps K F ds r
end
mutual
theorem Rp.mono {K:KW}{F F':Hp}(s:Same F F'):∀ {d:D} {v:V},Rp K F d v->Rp K F' d v
 |.non,_,h=>h
 |.bl _,_,h=>h
 |.int _,_,h=>h
 |.str _,_,h=>h
 |.lst _,_,⟨a,vs,e,q,r⟩=>⟨a,vs,e,s _ _ q,Rps.mono s r⟩
 |.tup _,_,⟨a,vs,e,q,r⟩=>⟨a,vs,e,s _ _ q,Rps.mono s r⟩
 |.scr _,_,⟨a,e,q⟩=>⟨a,e,s.seq q⟩
 |.obj _ _ _,_,⟨a,dx,vs,e,q,l,r⟩=>⟨a,dx,vs,e,s _ _ q,l,Rps.mono s r⟩
theorem Rps.mono {K:KW}{F F':Hp}(s:Same F F'):∀ {ds:List D} {vs:List V},Rps K F ds vs->Rps K F' ds vs
 | [],_,h=>h
 |_::_,_,⟨v,r,e,h,t⟩=>⟨v,r,e,Rp.mono s h,Rps.mono s t⟩
end
section
variable {K:KW}{F F' H H':Hp}
theorem Rps.length:∀ {ds:List D} {vs:List V},Rps K F ds vs->ds.length=vs.length
 | [],_,h=>by cases h;rfl
 |_::_,_,⟨_,_,e,_,t⟩=>by subst e;simp[Rps.length t]
theorem Rps.append:∀ {ds es:List D} {vs ws:List V},Rps K F ds vs->Rps K F es ws->Rps K F (ds++es) (vs++ws)
 | [],_,_,_,h,t=>by cases h;exact t
 |_::_,_,_,_,⟨v,r,e,h,t⟩,q=>by subst e;exact⟨v,_,rfl,h,Rps.append t q⟩
theorem Rps.get:∀ {ds:List D} {vs:List V} {i:Nat} {d:D},Rps K F ds vs->ds[i]?=some d->∃v,vs[i]?=some v/\Rp K F d v
 | [],_,_,_,_,e=>by simp at e
 |_::_,_,0,_,⟨v,r,e,h,t⟩,q=>by subst e;simp at q;subst q;exact⟨v,rfl,h⟩
 |_::_,_,i+1,_,⟨v,r,e,h,t⟩,q=>by
  subst e
  obtain⟨w,h1,h2⟩:=Rps.get (i:=i) t (by simpa using q)
  exact⟨w,by simpa using h1,h2⟩
theorem Rps.get':∀ {ds:List D} {vs:List V} {i:Nat} {v:V},Rps K F ds vs->vs[i]?=some v->∃d,ds[i]?=some d/\Rp K F d v:=fun {ds vs i v} r e=>by
 have hl:=r.length
 have hi:i < vs.length:=(List.getElem?_eq_some_iff.mp e).1
 have hd:ds[i]?=some ds[i]:=List.getElem?_eq_getElem (by omega)
 obtain⟨w,h1,h2⟩:=r.get hd
 rw[e] at h1;cases h1
 exact⟨_,hd,h2⟩
theorem Rps.take:∀ {ds:List D} {vs:List V} (n:Nat),Rps K F ds vs->Rps K F (ds.take n) (vs.take n)
 |_,_,0,_=>rfl
 | [],_,_+1,h=>by cases h;rfl
 |_::_,_,n+1,⟨v,r,e,h,t⟩=>by subst e;exact⟨v,_,rfl,h,Rps.take n t⟩
theorem Rps.drop:∀ {ds:List D} {vs:List V} (n:Nat),Rps K F ds vs->Rps K F (ds.drop n) (vs.drop n)
 |_,_,0,r=>r
 | [],_,_+1,h=>by cases h;rfl
 |_::_,_,n+1,⟨v,r,e,h,t⟩=>by subst e;exact Rps.drop n t
theorem Rps.set {d:D}{v:V}(hd:Rp K F d v):∀ {ds:List D} {vs:List V} (n:Nat),Rps K F ds vs->Rps K F (ds.set n d) (vs.set n v)
 | [],_,_,h=>by cases h;rfl
 |_::_,_,0,⟨w,r,e,h,t⟩=>by subst e;exact⟨v,r,rfl,hd,t⟩
 |_::_,_,n+1,⟨w,r,e,h,t⟩=>by subst e;exact⟨w,_,rfl,h,Rps.set hd n t⟩
theorem Rps.snoc {ds:List D}{vs:List V}{d:D}{v:V}(r:Rps K F ds vs)(h:Rp K F d v):Rps K F (ds++[d]) (vs++[v]):=r.append ⟨v,[],rfl,h,rfl⟩
theorem Rps.ints:∀(ns:List Int),Rps K F (ns.map D.int) (ns.map V.int)
 | []=>rfl
 |_::ns=>⟨_,_,rfl,rfl,Rps.ints ns⟩
theorem yb {a:Addr}{o:HO}(n:H a=none):Same H (upd H a o):=λb u e=>by rw[zg (zw e n)];exact e
theorem Uf {a:Addr}{o:HO}(s:Same F H)(n:H a=none):Same F (upd H a o):=s.trans (yb n)
structure Ext (F H F' H':Hp):Prop where
 ff:Same F F'
 hh:Same H H'
 fh:Same F' H'
 nw:∀a,F' a≠none->F a≠none∨H a=none
theorem Ext.refl (s:Same F H):Ext F H F H:=⟨Same.refl _,Same.refl _,s,λ_ h=>.inl h⟩
theorem Ext.trans {F1 H1 F2 H2:Hp}(x:Ext F H F1 H1)(y:Ext F1 H1 F2 H2):Ext F H F2 H2 :=
 ⟨x.ff.trans y.ff,x.hh.trans y.hh,y.fh,λa h=>(y.nw a h).elim (x.nw a) λz=>.inr (x.hh.free z)⟩
theorem Ext.new {a:Addr}{o:HO}(s:Same F H)(n:H a=none):Ext F H F (upd H a o):=⟨Same.refl _,yb n,Uf s n,λ_ h=>.inl h⟩
theorem Ext.newF {a:Addr}{o:HO}(s:Same F H)(n:H a=none):Ext F H (upd F a o) (upd H a o):=by
 refine⟨yb (s.free n),yb n,λb u e=>?_,λb h=>?_⟩
 ·by_cases hb:b=a
  ·subst hb;rw[zl] at e ⊢;exact e
  ·rw[zg hb] at e ⊢;exact s b u e
 ·by_cases hb:b=a
  ·subst hb;exact .inr n
  ·rw[zg hb] at h;exact .inl h
theorem Ext.freeze {a:Addr}{o:HO}(x:Ext F H F' H')(n:H a=none)(n':F' a=none)(e:H' a=some o):Ext F H (upd F' a o) H':=by
 refine⟨x.ff.trans (yb n'),x.hh,λb u q=>?_,λb h=>?_⟩
 ·by_cases hb:b=a
  ·subst hb;rw[zl] at q;cases q;exact e
  ·rw[zg hb] at q;exact x.fh b u q
 ·by_cases hb:b=a
  ·subst hb;exact .inr n
  ·rw[zg hb] at h;exact x.nw b h
def Rq (K:KW)(F H:Hp)(d:D)(v:V):Prop:=Rp K F d v∨∃a vs ds,d=.lst ds/\v=.ref a/\H a=some (.lst vs)/\Rps K F ds vs
theorem Rq.mono (f:Same F F')(h:Same H H'){d:D}{v:V}(r:Rq K F H d v):Rq K F' H' d v:=by
 rcases r with r | ⟨a,vs,ds,e1,e2,e3,e4⟩
 ·exact .inl (r.mono f)
 ·exact .inr ⟨a,vs,ds,e1,e2,h _ _ e3,e4.mono f⟩
theorem Rq.lst (s:Same F H){ds:List D}{v:V}(r:Rq K F H (.lst ds) v):∃a vs,v=.ref a/\H a=some (.lst vs)/\Rps K F ds vs:=by
 rcases r with⟨a,vs,e,q,r⟩ | ⟨a,vs,ds',e1,e2,e3,e4⟩
 ·exact⟨a,vs,e,s _ _ q,r⟩
 ·cases e1;exact⟨a,vs,e2,e3,e4⟩
theorem Rq.one {d:D}{v:V}(r:Rq K F H d v)(h:∀ds,d≠.lst ds):Rp K F d v:=by
 rcases r with r | ⟨a,vs,ds,e1,_⟩
 ·exact r
 ·exact (h ds e1).elim
theorem Rq.int {i:Int}{v:V}(r:Rq K F H (.int i) v):v=.int i:=r.one λ_ h=>by cases h
theorem Rq.bl {i:Bool}{v:V}(r:Rq K F H (.bl i) v):v=.bl i:=r.one λ_ h=>by cases h
theorem Rq.str {i:Str}{v:V}(r:Rq K F H (.str i) v):v=.str i:=r.one λ_ h=>by cases h
theorem Rq.non {v:V}(r:Rq K F H .non v):v=.non:=r.one λ_ h=>by cases h
theorem Rq.tup (s:Same F H){ds:List D}{v:V}(r:Rq K F H (.tup ds) v):∃a vs,v=.ref a/\H a=some (.tup vs)/\Rps K F ds vs:=by
 obtain⟨a,vs,e,q,r⟩:=r.one λ_ h=>by cases h
 exact⟨a,vs,e,s _ _ q,r⟩
theorem Rq.scr (s:Same F H){ns:List Int}{v:V}(r:Rq K F H (.scr ns) v):∃a,v=.ref a/\SqL K H a (ns.map V.int):=by
 obtain⟨a,e,q⟩:=r.one λ_ h=>by cases h
 exact⟨a,e,s.seq q⟩
end
inductive OT where
 |frz (d:D) | lst (ts:List OT) | tup (ts:List OT)
mutual
def RepO (K:KW)(F H:Hp):OT->V->Prop
 |.frz d,v=>Rp K F d v
 |.lst ts,v=>∃a vs,v=.ref a/\H a=some (.lst vs)/\RepOs K F H ts vs
 |.tup ts,v=>∃a vs,v=.ref a/\H a=some (.tup vs)/\RepOs K F H ts vs
def RepOs (K:KW)(F H:Hp):List OT->List V->Prop
 | [],vs=>vs=[]
 |t::ts,vs=>∃v r,vs=v::r/\RepO K F H t v/\RepOs K F H ts r
end
def itemsH (H:Hp)(a:Addr):List V:=match H a with
 |some (.lst vs)=>vs
 |some (.tup vs)=>vs
 |_=>[]
mutual
def feetO (H:Hp):OT->V->List Addr
 |.frz _,_=>[]
 |.lst ts,v=>match v with
  |.ref a=>a::feetOs H ts (itemsH H a)
  |_=>[]
 |.tup ts,v=>match v with
  |.ref a=>a::feetOs H ts (itemsH H a)
  |_=>[]
def feetOs (H:Hp):List OT->List V->List Addr
 | [],_=>[]
 |t::ts,vs=>match vs with
  |v::r=>feetO H t v++feetOs H ts r
  | []=>[]
end
mutual
def OT.erase:OT->D
 |.frz d=>d
 |.lst ts=>.lst (erases ts)
 |.tup ts=>.tup (erases ts)
def erases:List OT->List D
 | []=>[]
 |t::ts=>t.erase::erases ts
end
theorem zB {H:Hp}{a:Addr}{vs:List V}(h:H a=some (.lst vs)):itemsH H a=vs:=by unfold itemsH;rw[h]
theorem zP {H:Hp}{a:Addr}{vs:List V}(h:H a=some (.tup vs)):itemsH H a=vs:=by unfold itemsH;rw[h]
section
variable {K:KW}{F F' H H':Hp}
mutual
theorem RepO.ext (f:Same F F')(h:Same H H'):∀ {t:OT} {v:V},RepO K F H t v->RepO K F' H' t v/\feetO H' t v=feetO H t v
 |.frz _,_,r=>⟨Rp.mono f r,rfl⟩
 |.lst ts,_,⟨a,vs,e,q,r⟩=>by
  subst e
  obtain⟨r1,r2⟩:=RepOs.ext f h r
  exact⟨⟨a,vs,rfl,h _ _ q,r1⟩,by simp only[feetO,zB q,zB (h _ _ q),r2]⟩
 |.tup ts,_,⟨a,vs,e,q,r⟩=>by
  subst e
  obtain⟨r1,r2⟩:=RepOs.ext f h r
  exact⟨⟨a,vs,rfl,h _ _ q,r1⟩,by simp only[feetO,zP q,zP (h _ _ q),r2]⟩
theorem RepOs.ext (f:Same F F')(h:Same H H'):∀ {ts:List OT} {vs:List V},RepOs K F H ts vs->RepOs K F' H' ts vs/\feetOs H' ts vs=feetOs H ts vs
 | [],_,r=>⟨r,rfl⟩
 |t::ts,_,⟨v,r,e,h1,h2⟩=>by
  subst e
  obtain⟨a1,a2⟩:=RepO.ext f h h1
  obtain⟨b1,b2⟩:=RepOs.ext f h h2
  exact⟨⟨v,r,rfl,a1,b1⟩,by simp only[feetOs,a2,b2]⟩
end
mutual
theorem RepO.other {a:Addr}{o:HO}:∀ {t:OT} {v:V},RepO K F H t v->a∉feetO H t v->RepO K F (upd H a o) t v/\feetO (upd H a o) t v=feetO H t v
 |.frz _,_,r,_=>⟨r,rfl⟩
 |.lst ts,_,⟨b,vs,e,q,r⟩,hn=>by
  subst e
  simp only[feetO,zB q,List.mem_cons,not_or] at hn
  obtain⟨r1,r2⟩:=RepOs.other (o:=o) r hn.2
  have q':upd H a o b=some (.lst vs):=by rw[zg (Ne.symm hn.1)];exact q
  exact⟨⟨b,vs,rfl,q',r1⟩,by simp only[feetO,zB q,zB q',r2]⟩
 |.tup ts,_,⟨b,vs,e,q,r⟩,hn=>by
  subst e
  simp only[feetO,zP q,List.mem_cons,not_or] at hn
  obtain⟨r1,r2⟩:=RepOs.other (o:=o) r hn.2
  have q':upd H a o b=some (.tup vs):=by rw[zg (Ne.symm hn.1)];exact q
  exact⟨⟨b,vs,rfl,q',r1⟩,by simp only[feetO,zP q,zP q',r2]⟩
theorem RepOs.other {a:Addr}{o:HO}:∀ {ts:List OT} {vs:List V},RepOs K F H ts vs->a∉feetOs H ts vs->RepOs K F (upd H a o) ts vs/\feetOs (upd H a o) ts vs=feetOs H ts vs
 | [],_,r,_=>⟨r,rfl⟩
 |t::ts,_,⟨v,r,e,h1,h2⟩,hn=>by
  subst e
  simp only[feetOs,List.mem_append,not_or] at hn
  obtain⟨a1,a2⟩:=RepO.other (o:=o) h1 hn.1
  obtain⟨b1,b2⟩:=RepOs.other (o:=o) h2 hn.2
  exact⟨⟨v,r,rfl,a1,b1⟩,by simp only[feetOs,a2,b2]⟩
end
mutual
theorem RepO.feet {a:Addr}:∀ {t:OT} {v:V},RepO K F H t v->a∈feetO H t v->H a≠none
 |.frz _,_,_,h=>by simp[feetO] at h
 |.lst ts,_,⟨b,vs,e,q,r⟩,h=>by
  subst e
  simp only[feetO,zB q,List.mem_cons] at h
  rcases h with rfl | h
  ·rw[q];simp
  ·exact RepOs.feet r h
 |.tup ts,_,⟨b,vs,e,q,r⟩,h=>by
  subst e
  simp only[feetO,zP q,List.mem_cons] at h
  rcases h with rfl | h
  ·rw[q];simp
  ·exact RepOs.feet r h
theorem RepOs.feet {a:Addr}:∀ {ts:List OT} {vs:List V},RepOs K F H ts vs->a∈feetOs H ts vs->H a≠none
 | [],_,_,h=>by simp[feetOs] at h
 |t::ts,_,⟨v,r,e,h1,h2⟩,h=>by
  subst e
  simp only[feetOs,List.mem_append] at h
  rcases h with h | h
  ·exact RepO.feet h1 h
  ·exact RepOs.feet h2 h
end
mutual
theorem RepO.read (s:Same F H):∀ {t:OT} {v:V},RepO K F H t v->Rp K H t.erase v
 |.frz _,_,r=>Rp.mono s r
 |.lst ts,_,⟨b,vs,e,q,r⟩=>⟨b,vs,e,q,RepOs.read s r⟩
 |.tup ts,_,⟨b,vs,e,q,r⟩=>⟨b,vs,e,q,RepOs.read s r⟩
theorem RepOs.read (s:Same F H):∀ {ts:List OT} {vs:List V},RepOs K F H ts vs->Rps K H (erases ts) vs
 | [],_,r=>r
 |t::ts,_,⟨v,r,e,h1,h2⟩=>⟨v,r,e,RepO.read s h1,RepOs.read s h2⟩
end
def addF (F H:Hp)(as:List Addr):Hp:=λb=>if b∈as then H b else F b
mutual
theorem RepO.fz {as:List Addr}(f:Same F (addF F H as)):∀ {t:OT} {v:V},RepO K F H t v->(∀a∈feetO H t v,a∈as)->Rp K (addF F H as) t.erase v
 |.frz _,_,r,_=>Rp.mono f r
 |.lst ts,_,⟨b,vs,e,q,r⟩,h=>by
  subst e
  simp only[feetO,zB q] at h
  exact⟨b,vs,rfl,by unfold addF;rw[if_pos (h b (by simp))];exact q,RepOs.fz f r λa ha=>h a (by simp[ha])⟩
 |.tup ts,_,⟨b,vs,e,q,r⟩,h=>by
  subst e
  simp only[feetO,zP q] at h
  exact⟨b,vs,rfl,by unfold addF;rw[if_pos (h b (by simp))];exact q,RepOs.fz f r λa ha=>h a (by simp[ha])⟩
theorem RepOs.fz {as:List Addr}(f:Same F (addF F H as)):∀ {ts:List OT} {vs:List V},RepOs K F H ts vs->(∀a∈feetOs H ts vs,a∈as)->Rps K (addF F H as) (erases ts) vs
 | [],_,r,_=>r
 |t::ts,_,⟨v,r,e,h1,h2⟩,h=>by
  subst e
  simp only[feetOs] at h
  exact⟨v,r,rfl,RepO.fz f h1 λa ha=>h a (by simp[ha]),RepOs.fz f h2 λa ha=>h a (by simp[ha])⟩
end
theorem uB {as:List Addr}(h:∀a∈as,F a=none):Same F (addF F H as):=λb u e=>by
 unfold addF
 rw[if_neg λz=>by rw[h b z] at e;cases e]
 exact e
end
def Rkv (K:KW)(F:Hp)(kvs:List (Key×D))(vs:List (Key×V)):Prop:=Paired (λp q=>p.1=q.1/\Rp K F p.2 q.2) kvs vs
theorem Rkv.mono {K:KW}{F F':Hp}(s:Same F F'){kvs:List (Key×D)}{vs:List (Key×V)}(r:Rkv K F kvs vs):Rkv K F' kvs vs:=Paired.mapP r λ_ _ h=>⟨h.1,h.2.mono s⟩
inductive En where
 |val (d:D) | acc (ds:List D) | bor (ds:List D) | oac (a dx C:Addr) (fs:List Str) (ds:List D) | tre (t:OT)
  |dct (oa:Option Addr) (kvs:List (Key×D)) | dbo (kvs:List (Key×D))
abbrev EnvD:=List (Option En)
structure Bs where
 F0:Hp
 H0:Hp
def RepE (K:KW)(B:Bs)(F H:Hp):En->V->Prop
 |.val d,v=>Rp K F d v
 |.acc ds,v=>∃a vs,v=.ref a/\H a=some (.lst vs)/\F a=none/\B.H0 a=none/\Rps K F ds vs
 |.bor ds,v=>∃a vs,v=.ref a/\B.H0 a=some (.lst vs)/\Rps K F ds vs
 |.oac a dx C fs ds,v=>∃vs,v=.ref a/\H a=some (.ins C dx (fs.zip vs))/\fs.length=vs.length/\F a=none/\B.H0 a=none/\Rps K F ds vs
 |.tre t,v=>RepO K F H t v/\(feetO H t v).Nodup/\∀a∈feetO H t v,F a=none/\B.H0 a=none
 |.dct oa kvs,v=>∃a ob vs,v=.ref a/\H a=some (DX K.w a ob vs)/\F a=none/\B.H0 a=none/\Rkv K F kvs vs/\∀b,oa=some b->b=a
 |.dbo kvs,v=>∃a ob vs,v=.ref a/\B.H0 a=some (DX K.w a ob vs)/\Rkv K F kvs vs
def En.own:En->Bool
 |.acc _=>true
 |.dct _ _=>true
 |.oac _ _ _ _ _=>true
 |_=>false
def feetE (H:Hp):En->V->List Addr
 |.acc _,v=>match v with
  |.ref a=>[a]
  |_=>[]
 |.oac _ _ _ _ _,v=>match v with
  |.ref a=>[a]
  |_=>[]
 |.tre t,v=>feetO H t v
 |.dct _ _,v=>match v with
  |.ref a=>[a]
  |_=>[]
 |_,_=>[]
theorem Z9 {H:Hp}{x:En}{a:Addr}(o:x.own=true):feetE H x (.ref a)=[a]:=by cases x<;>first | rfl | cases o
structure Rep (K:KW)(B:Bs)(F:Hp)(σ:St)(H:Hp)(ρ:EnvD):Prop where
 ex:Ext B.F0 B.H0 F H
 len:σ.length=ρ.length
 ents:∀(i:Nat) x,ρ[i]?=some (some x)->∃v,σ[i]?=some (some v)/\RepE K B F H x v
 dj:∀(i j:Nat) x y v w,ρ[i]?=some (some x)->ρ[j]?=some (some y)->σ[i]?=some (some v)->σ[j]?=some (some w)->i≠j->∀a∈feetE H x v,a∉feetE H y w
section
variable {K:KW}{B:Bs}{F F' H H':Hp}{σ:St}{ρ:EnvD}
theorem vN {a:Addr}(e:Ext F H F' H')(h:F a=none)(hh:H a≠none):F' a=none:=by
 cases q:F' a with
 |none=>rfl
 |some o=>exact ((e.nw a (by rw[q];simp)).elim (λz=>(z h).elim) λz=>(hh z).elim)
theorem RepE.ext {x:En}{v:V}(r:RepE K B F H x v)(e:Ext F H F' H'):RepE K B F' H' x v:=by
 cases x with
 |val d=>exact Rp.mono e.ff r
 |acc ds=>
  obtain⟨a,vs,e1,e2,e3,e4,e5⟩:=r
  exact⟨a,vs,e1,e.hh _ _ e2,vN e e3 (by rw[e2];simp),e4,e5.mono e.ff⟩
 |bor ds=>
  obtain⟨a,vs,e1,e2,e5⟩:=r
  exact⟨a,vs,e1,e2,e5.mono e.ff⟩
 |oac a dx C fs ds=>
  obtain⟨vs,e1,e2,el,e3,e4,e5⟩:=r
  exact⟨vs,e1,e.hh _ _ e2,el,vN e e3 (by rw[e2];simp),e4,e5.mono e.ff⟩
 |tre t=>
  obtain⟨r1,r2,r3⟩:=r
  obtain⟨s1,s2⟩:=RepO.ext e.ff e.hh r1
  refine⟨s1,by rw[s2];exact r2,λa ha=>?_⟩
  rw[s2] at ha
  exact⟨vN e (r3 a ha).1 (RepO.feet r1 ha),(r3 a ha).2⟩
 |dct oa kvs=>
  obtain⟨a,ob,vs,e1,e2,e3,e4,e5,e6⟩:=r
  exact⟨a,ob,vs,e1,e.hh _ _ e2,vN e e3 (by rw[e2];simp),e4,e5.mono e.ff,e6⟩
 |dbo kvs=>
  obtain⟨a,ob,vs,e1,e2,e5⟩:=r
  exact⟨a,ob,vs,e1,e2,e5.mono e.ff⟩
theorem RepE.feet_ext {x:En}{v:V}(r:RepE K B F H x v)(e:Same H H'):feetE H' x v=feetE H x v:=by
 cases x with
 |tre t=>exact (RepO.ext (Same.refl F) e r.1).2
 |_=>rfl
theorem RepE.feet_at {x:En}{v:V}{a:Addr}(r:RepE K B F H x v)(h:a∈feetE H x v):H a≠none/\F a=none/\B.H0 a=none:=by
 cases x with
 |val d=>cases h
 |bor ds=>cases h
 |acc ds=>
  obtain⟨b,vs,rfl,e2,e3,e4,e5⟩:=r
  simp only[feetE,List.mem_singleton] at h
  subst h
  exact⟨by rw[e2];simp,e3,e4⟩
 |oac b dx C fs ds=>
  obtain⟨vs,rfl,e2,el,e3,e4,e5⟩:=r
  simp only[feetE,List.mem_singleton] at h
  subst h
  exact⟨by rw[e2];simp,e3,e4⟩
 |tre t=>exact⟨RepO.feet r.1 h,r.2.2 a h⟩
 |dct oa kvs=>
  obtain⟨b,ob,vs,rfl,e2,e3,e4,e5⟩:=r
  simp only[feetE,List.mem_singleton] at h
  subst h
  exact⟨by rw[e2];simp,e3,e4⟩
 |dbo kvs=>cases h
theorem Rep.ext (r:Rep K B F σ H ρ)(e:Ext F H F' H'):Rep K B F' σ H' ρ:=by
 refine⟨r.ex.trans e,r.len,λi x h=>let ⟨v,h1,h2⟩:=r.ents i x h;⟨v,h1,h2.ext e⟩,λi j x y v w e1 e2 s1 s2 hne a ha hb=>?_⟩
 obtain⟨v',q1,p1⟩:=r.ents i x e1
 rw[s1] at q1;cases q1
 obtain⟨w',q2,p2⟩:=r.ents j y e2
 rw[s2] at q2;cases q2
 rw[p1.feet_ext e.hh] at ha
 rw[p2.feet_ext e.hh] at hb
 exact r.dj i j x y v w e1 e2 s1 s2 hne a ha hb
theorem Rep.fh (r:Rep K B F σ H ρ):Same F H:=r.ex.fh
theorem yn {α:Type}{l:List α}{i j:Nat}{x y:α}(h:(l.set i x)[j]?=some y):(j=i/\x=y/\i < l.length)∨(j≠i/\l[j]?=some y):=by
 by_cases hj:j=i
 ·subst hj
  have hl:j < l.length:=by
   have:=(List.getElem?_eq_some_iff.mp h).1
   simpa using this
  rw[List.getElem?_set_self hl] at h
  cases h
  exact .inl ⟨rfl,rfl,hl⟩
 ·rw[List.getElem?_set_ne (Ne.symm hj)] at h
  exact .inr ⟨hj,h⟩
theorem Rep.seto (r:Rep K B F σ H ρ){i:Nat}{x:En}{v:V}(h:RepE K B F H x v)(hn:∀(j:Nat) y w,ρ[j]?=some (some y)->σ[j]?=some (some w)->j≠i->∀a∈feetE H x v,a∉feetE H y w):Rep K B F (σ.set i (some v)) H (ρ.set i (some x)):=by
 refine⟨r.ex,by simp[r.len],λj y e=>?_,λj k y z u w e1 e2 s1 s2 hne a ha hb=>?_⟩
 ·rcases yn e with⟨rfl,q,hl⟩ | ⟨hj,e⟩
  ·cases q
   exact⟨v,List.getElem?_set_self (by rw[r.len];exact hl),h⟩
  ·obtain⟨w,h1,h2⟩:=r.ents j y e
   exact⟨w,by rw[List.getElem?_set_ne (Ne.symm hj)];exact h1,h2⟩
 ·rcases yn e1 with⟨rfl,q1,_⟩ | ⟨hj,f1⟩<;>rcases yn e2 with⟨rfl,q2,_⟩ | ⟨hk,f2⟩
  ·exact hne rfl
  ·cases q1
   rcases yn s1 with⟨_,p1,_⟩ | ⟨z,_⟩
   ·cases p1
    rw[List.getElem?_set_ne (Ne.symm hk)] at s2
    exact hn k z w f2 s2 hk a ha hb
   ·exact (z rfl).elim
  ·cases q2
   rcases yn s2 with⟨_,p2,_⟩ | ⟨z,_⟩
   ·cases p2
    rw[List.getElem?_set_ne (Ne.symm hj)] at s1
    exact hn j y u f1 s1 hj a hb ha
   ·exact (z rfl).elim
  ·rw[List.getElem?_set_ne (Ne.symm hj)] at s1
   rw[List.getElem?_set_ne (Ne.symm hk)] at s2
   exact r.dj j k y z u w f1 f2 s1 s2 hne a ha hb
theorem Rep.setv (r:Rep K B F σ H ρ){i:Nat}{d:D}{v:V}(h:Rp K F d v):Rep K B F (σ.set i (some v)) H (ρ.set i (some (.val d))) :=
 r.seto (x:=.val d) h λ_ _ _ _ _ _ a ha=>by cases ha
theorem RepE.other {x:En}{v:V}{a:Addr}{o:HO}(r:RepE K B F H x v)(hn:a∉feetE H x v)(h0:B.H0 a=none):RepE K B F (upd H a o) x v/\feetE (upd H a o) x v=feetE H x v:=by
 cases x with
 |val d=>exact⟨r,rfl⟩
 |bor ds=>exact⟨r,rfl⟩
 |acc ds=>
  obtain⟨b,vs,rfl,q2,q3,q4,q5⟩:=r
  have hb:b≠a:=λz=>hn (by simp[feetE,z])
  exact⟨⟨b,vs,rfl,by rw[zg hb];exact q2,q3,q4,q5⟩,rfl⟩
 |oac b dx C fs ds=>
  obtain⟨vs,rfl,q2,ql,q3,q4,q5⟩:=r
  have hb:b≠a:=λz=>hn (by simp[feetE,z])
  exact⟨⟨vs,rfl,by rw[zg hb];exact q2,ql,q3,q4,q5⟩,rfl⟩
 |tre t=>
  obtain⟨r1,r2,r3⟩:=r
  obtain⟨s1,s2⟩:=RepO.other (o:=o) r1 hn
  exact⟨⟨s1,by rw[s2];exact r2,λb hb=>r3 b (by rw[s2] at hb;exact hb)⟩,s2⟩
 |dct oa kvs=>
  obtain⟨b,ob,vs,rfl,q2,q3,q4,q5⟩:=r
  have hb:b≠a:=λz=>hn (by simp[feetE,z])
  exact⟨⟨b,ob,vs,rfl,by rw[zg hb];exact q2,q3,q4,q5⟩,rfl⟩
 |dbo kvs=>exact⟨r,rfl⟩
theorem Rep.writeG (r:Rep K B F σ H ρ){i:Nat}{x y:En}{v:V}{a:Addr}{o:HO}(hi:ρ[i]?=some (some x))(hs:σ[i]?=some (some v))(ha:a∈feetE H x v)(hy:RepE K B F (upd H a o) y v)(hsub:∀b∈feetE (upd H a o) y v,b∈feetE H x v) :
  Rep K B F σ (upd H a o) (ρ.set i (some y)):=by
 have hl:i < ρ.length:=(List.getElem?_eq_some_iff.mp hi).1
 obtain⟨v',hv',rx⟩:=r.ents i x hi
 rw[hs] at hv';cases hv'
 obtain⟨_,hf,h0⟩:=rx.feet_at ha
 have oth:∀ {j:Nat} {z:En} {w:V},ρ[j]?=some (some z)->σ[j]?=some (some w)->j≠i->RepE K B F (upd H a o) z w/\feetE (upd H a o) z w=feetE H z w:=fun {j z w} e s hj=>by
  obtain⟨w',hw',rz⟩:=r.ents j z e
  rw[s] at hw';cases hw'
  exact rz.other (λhz=>r.dj i j x z v w hi e hs s (Ne.symm hj) a ha hz) h0
 refine⟨⟨r.ex.ff,λb u e=>?_,λb u e=>?_,r.ex.nw⟩,by simp[r.len],λj z e=>?_,λj k z w u t e1 e2 s1 s2 hne b hb hc=>?_⟩
 ·rw[zg (zw e h0)];exact r.ex.hh b u e
 ·rw[zg (zw e hf)];exact r.ex.fh b u e
 ·rcases yn e with⟨rfl,q,_⟩ | ⟨hj,e⟩
  ·cases q;exact⟨v,hs,hy⟩
  ·obtain⟨w,h1,_⟩:=r.ents j z e
   exact⟨w,h1,(oth e h1 hj).1⟩
 ·rcases yn e1 with⟨rfl,q1,_⟩ | ⟨hj,f1⟩<;>rcases yn e2 with⟨rfl,q2,_⟩ | ⟨hk,f2⟩
  ·exact hne rfl
  ·cases q1
   rw[hs] at s1;cases s1
   rw[(oth f2 s2 hk).2] at hc
   exact r.dj _ k x w v t hi f2 hs s2 hne b (hsub b hb) hc
  ·cases q2
   rw[hs] at s2;cases s2
   rw[(oth f1 s1 hj).2] at hb
   exact r.dj j _ z x u v f1 hi s1 hs hne b hb (hsub b hc)
  ·rw[(oth f1 s1 hj).2] at hb
   rw[(oth f2 s2 hk).2] at hc
   exact r.dj j k z w u t f1 f2 s1 s2 hne b hb hc
theorem Rep.write (r:Rep K B F σ H ρ){i:Nat}{x y:En}{a:Addr}{o:HO}(hi:ρ[i]?=some (some x))(ho:x.own=true)(hs:σ[i]?=some (some (.ref a)))(hf:F a=none)(h0:B.H0 a=none)(hy:RepE K B F (upd H a o) y (.ref a))(hyo:y.own=true) :
  Rep K B F σ (upd H a o) (ρ.set i (some y)) :=
 r.writeG hi hs (by rw[Z9 ho];simp) hy λb hb=>by rw[Z9 hyo] at hb;rw[Z9 ho];exact hb
end
abbrev Post (α:Type):=Hp->Hp->Hp->Hp->α->V->Prop
def lG {α:Type}(K:KW)(B:Bs)(post:Post α)(g:EnvD->Option α):TE:=λσ H Q=>
 ∃F ρ x,Rep K B F σ H ρ/\g ρ=some x/\∀v F' H',Ext F H F' H'->post F H F' H' x v->Q v H'
def pE (K:KW):Post D:=λ_ _ F' _ d v=>Rp K F' d v
def pR (K:KW):Post D:=λ_ _ F' H' d v=>Rq K F' H' d v
def pA (K:KW):Post (List D):=λ_ H F' H' ds v=>∃a vs,v=.ref a/\H a=none/\H' a=some (.lst vs)/\F' a=none/\Rps K F' ds vs
def DE (X:Cx)(B:Bs)(e:Expr)(g:EnvD->Option D):Prop:=PE X e (lG X.kw B (pE X.kw) g)
def DR (X:Cx)(B:Bs)(e:Expr)(g:EnvD->Option D):Prop:=PE X e (lG X.kw B (pR X.kw) g)
def DA (X:Cx)(B:Bs)(e:Expr)(g:EnvD->Option (List D)):Prop:=PE X e (lG X.kw B (pA X.kw) g)
def lT (K:KW)(B:Bs)(g:EnvD->Option Bool):TT:=λσ H Q=>∃F ρ b,Rep K B F σ H ρ/\g ρ=some b/\∀F' H',Ext F H F' H'->Q b H'
def DT (X:Cx)(B:Bs)(e:Expr)(g:EnvD->Option Bool):Prop:=PT X e (lT X.kw B g)
def DW (X:Cx)(B:Bs)(e:Expr)(g:EnvD->Option Bool):Prop:=PW X e (lT X.kw B g)
def lAs (K:KW)(B:Bs)(post:Post D)(g:EnvD->Option (List D)):TA:=λσ H Q=>
 ∃F ρ ds,Rep K B F σ H ρ/\g ρ=some ds/\∀vs F' H',Ext F H F' H'->Paired (λd v=>post F H F' H' d v) ds vs->Q vs H'
def DAs (X:Cx)(B:Bs)(es:List Expr)(g:EnvD->Option (List D)):Prop:=PA X es (lAs X.kw B (pE X.kw) g)
def DRs (X:Cx)(B:Bs)(es:List Expr)(g:EnvD->Option (List D)):Prop:=PA X es (lAs X.kw B (pR X.kw) g)
section
variable {X:Cx}{B:Bs}{e a b c:Expr}{es:List Expr}{pos:Pos}
theorem pe_imp {t t':TE}(h:PE X e t)(k:∀σ H Q,t' σ H Q->t σ H Q):PE X e t':=λpins s σ H Q I q=>h pins s σ H Q I (k σ H Q q)
theorem vf {t t':TT}(h:PT X e t)(k:∀σ H Q,t' σ H Q->t σ H Q):PT X e t':=λpins s σ H Q I q=>h pins s σ H Q I (k σ H Q q)
theorem Wr {t t':TT}(h:PW X e t)(k:∀σ H Q,t' σ H Q->t σ H Q):PW X e t':=λwh pins s σ H Q I q=>h wh pins s σ H Q I (k σ H Q q)
theorem yu {t t':TA}(h:PA X es t)(k:∀σ H Q,t' σ H Q->t σ H Q):PA X es t':=λpo pins s σ H Q I q=>h po pins s σ H Q I (k σ H Q q)
theorem zH {st:Stmt}{t t':TS}(h:PS X st t)(k:∀E σ H,t' E σ H->t E σ H):PS X st t':=λpins s σ H E I q=>h pins s σ H E I (k E σ H q)
theorem yG {st:List Stmt}{t t':TS}(h:PSs X st t)(k:∀E σ H,t' E σ H->t E σ H):PSs X st t':=λpins s σ H E I q=>h pins s σ H E I (k E σ H q)
theorem wj {tg:Expr}{t t':TI}(h:PI X tg e t)(k:∀σ H Q,t' σ H Q->t σ H Q):PI X tg e t':=λpins s σ H Q I q=>h pins s σ H Q I (k σ H Q q)
theorem DE.read {g:EnvD->Option D}(h:DE X B e g):DR X B e g :=
 pe_imp h λσ H Q ⟨F,ρ,x,r,hg,k⟩=>⟨F,ρ,x,r,hg,λv F' H' e p=>k v F' H' e (.inl p)⟩
def gFz (g:EnvD->Option (List D)):EnvD->Option D:=λρ=>(g ρ).map D.lst
theorem DA.frz {g:EnvD->Option (List D)}(h:DA X B e g):DE X B e (gFz g) :=
 pe_imp h λσ H Q ⟨F,ρ,x,r,hg,k⟩=>by
  unfold gFz at hg
  cases q:g ρ with
  |none=>rw[q] at hg;cases hg
  |some ds=>
   rw[q] at hg;cases hg
   refine⟨F,ρ,ds,r,q,λv F' H' e p=>?_⟩
   obtain⟨a,vs,rfl,p1,p2,p3,p4⟩:=p
   exact k _ (upd F' a (.lst vs)) H' (e.freeze p1 p3 p2) ⟨a,vs,rfl,zl,p4.mono (yb p3)⟩
theorem DA.read {g:EnvD->Option (List D)}(h:DA X B e g):DR X B e (gFz g):=h.frz.read
def gv (i:Nat):EnvD->Option D:=λρ=>match ρ[i]? with
 |some (some (.val d))=>some d
 |_=>none
def gr (i:Nat):EnvD->Option D:=λρ=>match ρ[i]? with
 |some (some (.val d))=>some d
 |some (some (.acc ds))=>some (.lst ds)
 |some (some (.bor ds))=>some (.lst ds)
 |_=>none
theorem zu (i:Nat){x:Str}(h:PE X (.Name x pos) (tVar i)):DE X B (.Name x pos) (gv i) :=
 pe_imp h λσ H Q ⟨F,ρ,d,r,hg,k⟩=>by
  unfold gv at hg
  split at hg
  ·rename_i d' e
   cases hg
   obtain⟨v,h1,h2⟩:=r.ents i _ e
   exact⟨v,h1,k v F H (.refl r.fh) h2⟩
  ·cases hg
theorem zb (i:Nat){x:Str}(h:PE X (.Name x pos) (tVar i)):DR X B (.Name x pos) (gr i) :=
 pe_imp h λσ H Q ⟨F,ρ,d,r,hg,k⟩=>by
  unfold gr at hg
  split at hg
  ·rename_i d' e
   cases hg
   obtain⟨v,h1,h2⟩:=r.ents i _ e
   exact⟨v,h1,k v F H (.refl r.fh) (.inl h2)⟩
  ·rename_i ds e
   cases hg
   obtain⟨v,h1,a,vs,e1,e2,e3,e4,e5⟩:=r.ents i _ e
   exact⟨v,h1,k v F H (.refl r.fh) (.inr ⟨a,vs,ds,rfl,e1,e2,e5⟩)⟩
  ·rename_i ds e
   cases hg
   obtain⟨v,h1,a,vs,e1,e2,e5⟩:=r.ents i _ e
   exact⟨v,h1,k v F H (.refl r.fh) (.inr ⟨a,vs,ds,rfl,e1,r.ex.hh _ _ e2,e5⟩)⟩
  ·cases hg
def gc (d:D):EnvD->Option D:=λ_=>some d
theorem jG {v:V}{d:D}(h:PE X e (tC v))(r:∀F,Rp X.kw F d v):DE X B e (gc d) :=
 pe_imp h λσ H Q ⟨F,ρ,d',rr,hg,k⟩=>by cases hg;exact k v F H (.refl rr.fh) (r F)
theorem de_int {i:Int}{j}:DE X B (.Constant (.int i) j pos) (gc (.int i)):=jG jw λ_=>rfl
theorem zQ {i:Bool}{j}:DE X B (.Constant (.bool i) j pos) (gc (.bl i)):=jG RK λ_=>rfl
theorem JY {j}:DE X B (.Constant .none j pos) (gc .non):=jG GX λ_=>rfl
theorem wq {x:Str}{j}:DE X B (.Constant (.str x) j pos) (gc (.str x)):=jG K8 λ_=>rfl
theorem yW {x:Str}{v:V}{u:Value}{d:D}(hg:Gl X x)(hm:X.mg x=some u)(r:RelV v u)(rd:∀F,Rp X.kw F d v)(hd:(x==("__debug__" : Str))=false:=by decide):DE X B (.Name x pos) (gc d) :=
 pe_imp (Yw hg hm r hd) λσ H Q ⟨F,ρ,d',rr,hg,k⟩=>by cases hg;exact k v F H (.refl rr.fh) (rd F)
def g2 {γ:Type}(f:D->D->Option γ)(ga gb:EnvD->Option D):EnvD->Option γ:=λρ=>(ga ρ).bind λx=>(gb ρ).bind λy=>f x y
def OkR {γ:Type}(K:KW)(r:R2)(pc:Post γ)(f:D->D->Option γ):Prop :=
 ∀F H x y dx dy d Q,Same F H->Rq K F H dx x->Rq K F H dy y->f dx dy=some d->(∀v F' H',Ext F H F' H'->pc F H F' H' d v->Q v H')->r x y H Q
def Back {γ:Type}(pc:Post γ):Prop:=∀F H F1 H1 F' H' d v,Ext F H F1 H1->pc F1 H1 F' H' d v->pc F H F' H' d v
theorem vo {K:KW}:Back (pE K):=λ_ _ _ _ _ _ _ _ _ h=>h
theorem V6 {K:KW}:Back (pA K):=λ_ _ _ _ _ _ _ _ e ⟨a,vs,h1,h2,h⟩=>⟨a,vs,h1,e.hh.free h2,h⟩
theorem op2 {γ:Type}{r:R2}{pc:Post γ}{f:D->D->Option γ}(hb:Back pc)(hr:OkR X.kw r pc f){ga gb:EnvD->Option D}{σ:St}{H:Hp}{Q:VK}(h:lG X.kw B pc (g2 f ga gb) σ H Q) :
  tOp r (lG X.kw B (pR X.kw) ga) (lG X.kw B (pR X.kw) gb) σ H Q:=by
 obtain⟨F,ρ,d,rr,hg,k⟩:=h
 unfold g2 at hg
 cases qa:ga ρ with
 |none=>rw[qa] at hg;cases hg
 |some dx=>
  cases qb:gb ρ with
  |none=>rw[qa,qb] at hg;cases hg
  |some dy=>
   rw[qa,qb] at hg
   refine⟨F,ρ,dx,rr,qa,λx F1 H1 e1 p1=>⟨F1,ρ,dy,rr.ext e1,qb,λy F2 H2 e2 p2=>?_⟩⟩
   exact hr F2 H2 x y dx dy d Q e2.fh (p1.mono e2.ff e2.hh) p2 hg λv F' H' e p=>k v F' H' (e1.trans (e2.trans e)) (hb _ _ _ _ _ _ _ _ (e1.trans e2) p)
theorem xa {op:Operator}{r:R2}{f:D->D->Option D}{ga gb:EnvD->Option D}(ho:OpR X (binaryOp op) r)(hr:OkR X.kw r (pE X.kw) f)(ha:DR X B a ga)(hb:DR X B b gb):DE X B (.BinOp a op b pos) (g2 f ga gb) :=
 pe_imp (W6 ho ha hb) λσ H Q h=>op2 vo hr h
theorem Vp {op:Operator}{r:R2}{f:D->D->Option (List D)}{ga gb:EnvD->Option D}(ho:OpR X (binaryOp op) r)(hr:OkR X.kw r (pA X.kw) f)(ha:DR X B a ga)(hb:DR X B b gb):DA X B (.BinOp a op b pos) (g2 f ga gb) :=
 pe_imp (W6 ho ha hb) λσ H Q h=>op2 V6 hr h
theorem wc {op:CmpOp}{r:R2}{f:D->D->Option D}{ga gb:EnvD->Option D}(ho:OpR X (compareOp op) r)(hr:OkR X.kw r (pE X.kw) f)(ha:DR X B a ga)(hb:DR X B b gb)(hm:behindInMarks op b=false):DE X B (.Compare a [op] [b] pos) (g2 f ga gb) :=
 pe_imp (kB ho ha hb hm) λσ H Q h=>op2 vo hr h
theorem Qw {r:R2}{f:D->D->Option D}{ga gb:EnvD->Option D}(ho:IxR X r)(hr:OkR X.kw r (pE X.kw) f)(ha:DR X B a ga)(hb:DR X B b gb)(hs:wS b):DE X B (.Subscript a b pos) (g2 f ga gb) :=
 pe_imp (qy ho ha hb hs) λσ H Q h=>op2 vo hr h
def fI (C:Int->Int->Bool)(f:Int->Int->D):D->D->Option D
 |.int i,.int j=>if C i j then some (f i j) else none
 |_,_=>none
theorem okI {K:KW}{C:Int->Int->Prop}{p:Int->Int->Bool}{f:Int->Int->D}{g:Int->Int->V}(hp:∀i j,p i j=true->C i j)(hf:∀i j F,Rp K F (f i j) (g i j)):OkR K (rI C g) (pE K) (fI p f):=by
 intro F H x y dx dy d Q s rx ry e k
 unfold fI at e
 split at e
 ·rename_i i j
  split at e
  ·rename_i hc
   cases e
   exact⟨i,j,rx.int,ry.int,hp i j hc,k _ F H (.refl s) (hf i j F)⟩
  ·cases e
 ·cases e
theorem okI0 {K:KW}{f:Int->Int->D}{g:Int->Int->V}(hf:∀i j F,Rp K F (f i j) (g i j)):OkR K (rI0 g) (pE K) (fI (λ_ _=>true) f):=by
 intro F H x y dx dy d Q s rx ry e k
 unfold fI at e
 split at e
 ·rename_i i j
  rw[if_pos rfl] at e
  cases e
  exact⟨i,j,rx.int,ry.int,k _ F H (.refl s) (hf i j F)⟩
 ·cases e
def fSub:=fI (λ_ _=>true) λi j=>.int (i - j)
def LIM:Int:=18446744073709551616
def fMul:=fI (λi j=>(decide (-LIM < i)&&decide (i < LIM))||(decide (-LIM < j)&&decide (j < LIM))) λi j=>.int (i * j)
def fDiv:=fI (λ_ j=>decide (0 < j)&&decide (j < 1073741824)) λi j=>.int (i / j)
def fMod:=fI (λ_ j=>decide (0 < j)) λi j=>.int (i % j)
def fShr:=fI (λ_ j=>decide (0<=j)) λi j=>.int (i / 2 ^ j.toNat)
def fAnd:=fI (λ_ _=>true) λi j=>.int (Builtin.bitAnd i j)
def fPow:=fI (λi j=>decide (0<=j)&&decide (j<=1000000)&&decide (i.natAbs < 18446744073709551616)) λi j=>.int (i ^ j.toNat)
variable {ga gb:EnvD->Option D}
theorem vi (ha:DR X B a ga)(hb:DR X B b gb):DE X B (.BinOp a .Sub b pos) (g2 fSub ga gb):=xa Kb (okI0 λ_ _ _=>rfl) ha hb
theorem wL (ha:DR X B a ga)(hb:DR X B b gb):DE X B (.BinOp a .Mult b pos) (g2 fMul ga gb):=xa Gg (okI (λi j h=>by
 simp only[Bool.or_eq_true,Bool.and_eq_true,decide_eq_true_eq] at h
 unfold LIM at h
 rcases h with⟨h1,h2⟩ | ⟨h1,h2⟩
 ·exact .inl ⟨by omega,by omega⟩
 ·exact .inr ⟨by omega,by omega⟩) λ_ _ _=>rfl) ha hb
theorem yr (ha:DR X B a ga)(hb:DR X B b gb):DE X B (.BinOp a .FloorDiv b pos) (g2 fDiv ga gb):=xa ze0 (okI (λi j h=>by
 simp only[Bool.and_eq_true,decide_eq_true_eq] at h
 exact h) λ_ _ _=>rfl) ha hb
theorem zJ (ha:DR X B a ga)(hb:DR X B b gb):DE X B (.BinOp a .Mod b pos) (g2 fMod ga gb):=xa zeu (okI (λi j h=>by
 simp only[decide_eq_true_eq] at h
 exact h) λ_ _ _=>rfl) ha hb
theorem zef (ha:DR X B a ga)(hb:DR X B b gb):DE X B (.BinOp a .RShift b pos) (g2 fShr ga gb):=xa Rs (okI (λi j h=>by
 simp only[decide_eq_true_eq] at h
 exact h) λ_ _ _=>rfl) ha hb
theorem Gx (ha:DR X B a ga)(hb:DR X B b gb):DE X B (.BinOp a .BitAnd b pos) (g2 fAnd ga gb):=xa zdg (okI0 λ_ _ _=>rfl) ha hb
theorem Qk (ha:DR X B a ga)(hb:DR X B b gb):DE X B (.BinOp a .Pow b pos) (g2 fPow ga gb):=xa zch (okI (λi j h=>by
 simp only[Bool.and_eq_true,decide_eq_true_eq] at h
 exact⟨h.1.1,h.1.2,by have:=h.2;omega⟩) λ_ _ _=>rfl) ha hb
def fLt:=fI (λ_ _=>true) λi j=>.bl (decide (i < j))
def fLe:=fI (λ_ _=>true) λi j=>.bl (decide (i<=j))
def fGt:=fI (λ_ _=>true) λi j=>.bl (decide (j < i))
theorem vD {K:KW}:OkR K (rI0 λi j=>.bl (decide (i < j))) (pE K) fLt:=okI0 λ_ _ _=>rfl
theorem xS {K:KW}:OkR K (rI0 λi j=>.bl (decide (i<=j))) (pE K) fLe:=okI0 λ_ _ _=>rfl
theorem yS {K:KW}:OkR K (rI0 λi j=>.bl (decide (j < i))) (pE K) fGt:=okI0 λ_ _ _=>rfl
def TOP:Nat:=1000000
theorem ym {n:Nat}(h:n<=TOP):n<=sizeLine:=Nat.le_trans h (by decide)
theorem Gu {n:Nat}(h:n<=TOP):n < sizeLine:=Nat.lt_of_le_of_lt h (by decide)
def fIx:D->D->Option D
 |.lst xs,.int i=>atI xs i
 |.tup xs,.int i=>atI xs i
 |.scr ns,.int i=>(atI ns i).map D.int
 |_,_=>none
theorem Wg {K:KW}{F:Hp}{ds:List D}{vs:List V}{i:Int}{d:D}(r:Rps K F ds vs)(h:atI ds i=some d):∃v,atI vs i=some v/\Rp K F d v:=by
 unfold atI at h ⊢
 rw[<-r.length]
 cases q:ixN ds.length i with
 |none=>rw[q] at h;cases h
 |some j=>rw[q] at h;exact r.get h
theorem u8 {K:KW}:OkR K (rIx K) (pE K) fIx:=by
 intro F H x y dx dy d Q s rx ry e k
 unfold fIx at e
 split at e
 ·rename_i xs i
  obtain⟨p,vs,rfl,h1,h2⟩:=rx.lst s
  obtain⟨v,h3,h4⟩:=Wg h2 e
  exact .inl ⟨p,vs,i,v,rfl,ry.int,.of h1,h3,k _ F H (.refl s) h4⟩
 ·rename_i xs i
  obtain⟨p,vs,rfl,h1,h2⟩:=rx.tup s
  obtain⟨v,h3,h4⟩:=Wg h2 e
  exact .inr (.inl ⟨p,vs,i,v,rfl,ry.int,.of h1,h3,k _ F H (.refl s) h4⟩)
 ·rename_i ns i
  obtain⟨p,rfl,h1⟩:=rx.scr s
  cases q:atI ns i with
  |none=>rw[q] at e;cases e
  |some n=>
   rw[q] at e
   cases e
   refine .inl ⟨p,_,i,.int n,rfl,ry.int,h1,?_,k _ F H (.refl s) rfl⟩
   unfold atI at q ⊢
   rw[List.length_map]
   cases q':ixN ns.length i with
   |none=>rw[q'] at q;cases q
   |some j=>
    rw[q'] at q
    have q:ns[j]?=some n:=q
    show (ns.map V.int)[j]?=some (.int n)
    rw[List.getElem?_map,q];rfl
 ·cases e
end
mutual
def toP:D->PyData
 |.non=>.none
 |.bl b=>.bool b
 |.int i=>.int i
 |.str x=>.str x
 |.lst ds=>.list (toPs ds)
 |.tup ds=>.tuple (toPs ds)
 |.scr ns=>.list (ns.map PyData.int)
 |.obj _ _ _=>.dict []
def toPs:List D->List PyData
 | []=>[]
 |d::ds=>toP d::toPs ds
end
section
variable {X:Cx}{pins:List (Addr×Obj)}{σ:St}{F H:Hp}{s:Shared}
theorem ZK {h:Heap}:∀(ns:List Int) {us:List Value},Vals (ns.map V.int) us->∃as,ReadsAll h us (ns.map PyData.int) as
 | [],_,.nil=>⟨_,.nil⟩
 |n::ns,_,.cons r t=>by
  obtain⟨t',rfl⟩:=r
  obtain⟨as,q⟩:=ZK ns t
  exact⟨_,.cons (.int n t') q⟩
mutual
theorem Rp.reads (I:Inv X pins σ H s)(fh:Same F H):∀(d:D) {v:V} {u:Value},(toP d).canLay0=true->Rp X.kw F d v->RelV v u->∃as,Reads s.heap u (toP d) as
 |.non,_,_,_,h,r=>by subst h;cases r;exact⟨_,.none⟩
 |.bl b,_,_,_,h,r=>by subst h;cases r;exact⟨_,.bool b⟩
 |.int i,_,_,_,h,r=>by subst h;obtain⟨t,rfl⟩:=r;exact⟨_,.int i t⟩
 |.str x,_,_,_,h,r=>by subst h;obtain⟨t,rfl⟩:=r;exact⟨_,.str x t⟩
 |.lst ds,_,_,c,⟨a,vs,e,q,h⟩,r=>by
  subst e;cases r
  obtain⟨z,its,n,rv,e⟩:=(show ObjOk X.prog X.w H s.heap a (.lst vs) from I.hok a _ (fh _ _ q))
  obtain⟨as,t⟩:=Rps.reads I fh ds (show PyData.canLayAll0 (toPs ds)=true from c) h rv
  exact⟨_,.list e rfl rfl (by simpa using t)⟩
 |.tup ds,_,_,c,⟨a,vs,e,q,h⟩,r=>by
  subst e;cases r
  obtain⟨z,its,rv,o,e,hc,n,hd⟩:=(show ObjOk X.prog X.w H s.heap a (.tup vs) from I.hok a _ (fh _ _ q))
  obtain⟨as,t⟩:=Rps.reads I fh ds (show PyData.canLayAll0 (toPs ds)=true from c) h rv
  exact⟨_,.tuple e hc hd (by simpa using t)⟩
 |.scr ns,_,_,c,⟨a,e,q⟩,r=>by
  subst e;cases r
  obtain⟨its,rv,⟨o,n,e,hc,_,hd⟩,_⟩:=I.list (fh.seq q)
  obtain⟨as,t⟩:=ZK (h:=s.heap) ns rv
  exact⟨_,.list e hc hd (by simpa using t)⟩
 |.obj _ _ _,_,_,c,_,_=>by cases c
theorem Rps.reads (I:Inv X pins σ H s)(fh:Same F H):∀(ds:List D) {vs:List V} {us:List Value},PyData.canLayAll0 (toPs ds)=true->Rps X.kw F ds vs->Vals vs us->∃as,ReadsAll s.heap us (toPs ds) as
 | [],_,_,_,h,r=>by subst h;cases r;exact⟨_,.nil⟩
 |d::ds,_,_,c,⟨v,w,e,h,t⟩,r=>by
  subst e
  cases r with
  |cons r rr=>
   have c':((toP d).canLay0&&PyData.canLayAll0 (toPs ds))=true:=c
   obtain⟨c1,c2⟩:=Bool.and_eq_true_iff.mp c'
   obtain⟨as,q⟩:=Rp.reads I fh d c1 h r
   obtain⟨bs,p⟩:=Rps.reads I fh ds c2 t rr
   exact⟨_,.cons q p⟩
end
theorem Rq.reads (I:Inv X pins σ H s)(fh:Same F H){d:D}{v:V}{u:Value}(c:(toP d).canLay0=true)(h:Rq X.kw F H d v)(r:RelV v u):∃as,Reads s.heap u (toP d) as:=by
 rcases h with h | ⟨a,vs,ds,rfl,rfl,e,h⟩
 ·exact h.reads I fh d c r
 ·cases r
  obtain⟨z,its,n,rv,e⟩:=(show ObjOk X.prog X.w H s.heap a (.lst vs) from I.hok a _ e)
  obtain⟨as,t⟩:=Rps.reads I fh ds (show PyData.canLayAll0 (toPs ds)=true from c) h rv
  exact⟨_,.list e rfl rfl (by simpa using t)⟩
end
def eqOk (d:D):Bool:=SeqAt.shaped (toP d)
def eqD (d d':D):Bool:=PyData.eqv (toP d) (toP d')
def rEqD (K:KW)(neg:Bool):R2:=λx y H Q=>∃F d d',Same F H/\Rq K F H d x/\Rq K F H d' y/\eqOk d=true/\eqOk d'=true/\Q (.bl (if neg then !eqD d d' else eqD d d')) H
section
variable {X:Cx}{B:Bs}{e a b c:Expr}{es:List Expr}{pos:Pos}{ga gb:EnvD->Option D}
theorem zZ (hu:X.A.units+64 < cLine):OpR X (compareOp .Eq) (rEqD X.kw false):=by
 intro pins s σ H x y v u Q I rx ry ⟨F,d,d',fh,h1,h2,o1,o2,q⟩
 obtain⟨as,ra⟩:=h1.reads I fh (SeqAt.canLay_of_shaped o1) rx
 obtain⟨bs,rb⟩:=h2.reads I fh (SeqAt.canLay_of_shaped o2) ry
 exact SeqAt.compareEq_shaped ra rb o1 o2 hu ⟨.bl (eqD d d'),H,I,rfl,q⟩
theorem xw (hu:X.A.units+64 < cLine):OpR X (compareOp .NotEq) (rEqD X.kw true):=by
 intro pins s σ H x y v u Q I rx ry ⟨F,d,d',fh,h1,h2,o1,o2,q⟩
 obtain⟨as,ra⟩:=h1.reads I fh (SeqAt.canLay_of_shaped o1) rx
 obtain⟨bs,rb⟩:=h2.reads I fh (SeqAt.canLay_of_shaped o2) ry
 exact SeqAt.compareNe_shaped ra rb o1 o2 hu ⟨.bl (!eqD d d'),H,I,rfl,q⟩
def fEq (neg:Bool):D->D->Option D:=λx y=>if eqOk x&&eqOk y then some (.bl (if neg then !eqD x y else eqD x y)) else none
theorem zK {K:KW}{neg:Bool}:OkR K (rEqD K neg) (pE K) (fEq neg):=by
 intro F H x y dx dy d Q s rx ry e k
 unfold fEq at e
 split at e
 ·rename_i hc
  cases e
  obtain⟨h1,h2⟩:=Bool.and_eq_true_iff.mp hc
  exact⟨F,dx,dy,s,rx,ry,h1,h2,k _ F H (.refl s) rfl⟩
 ·cases e
def isNon:D->Bool
 |.non=>true
 |_=>false
theorem R3 {K:KW}{F H:Hp}{d:D}{v:V}(r:Rq K F H d v):decide (v=.non)=isNon d:=by
 rcases r with r | ⟨a,vs,ds,rfl,rfl,_⟩
 ·cases d with
  |non=>cases r;rfl
  |bl b=>cases r;rfl
  |int b=>cases r;rfl
  |str b=>cases r;rfl
  |lst ds=>obtain⟨a,vs,rfl,_⟩:=r;rfl
  |tup ds=>obtain⟨a,vs,rfl,_⟩:=r;rfl
  |scr ds=>obtain⟨a,rfl,_⟩:=r;rfl
  |obj C f ds=>obtain⟨a,dx,vs,rfl,_⟩:=r;rfl
 ·rfl
def fIs (neg:Bool):D->D->Option D
 |d,.non=>some (.bl (if neg then !isNon d else isNon d))
 |_,_=>none
theorem zdw {K:KW}:OkR K (λx y H Q=>y=.non/\Q (.bl (decide (x=.non))) H) (pE K) (fIs false):=by
 intro F H x y dx dy d Q s rx ry e k
 unfold fIs at e
 split at e
 ·cases e
  refine⟨ry.non,?_⟩
  rw[R3 rx]
  exact k _ F H (.refl s) rfl
 ·cases e
def asB:D->Option Bool
 |.bl b=>some b
 |_=>none
def truD:D->Option Bool
 |.non=>some false
 |.bl b=>some b
 |.int i=>some (i != 0)
 |.str x=>if x.length<=TOP then some ((x.length:Int) != 0) else none
 |.lst ds=>some (!ds.isEmpty)
 |.tup ds=>some (!ds.isEmpty)
 |.scr ns=>some (!ns.isEmpty)
 |.obj _ _ _=>none
theorem Vx {K:KW}{F:Hp}{ds:List D}{vs:List V}(r:Rps K F ds vs):ds.isEmpty=vs.isEmpty:=by
 have:=r.length
 cases ds<;>cases vs<;>simp_all
theorem U9 {K:KW}{F H:Hp}(s:Same F H){d:D}{v:V}{b:Bool}(r:Rq K F H d v)(h:truD d=some b):TruV K v H b:=by
 cases d with
 |non=>cases r.non;cases h;rfl
 |bl x=>cases r.bl;cases h;rfl
 |int x=>cases r.int;cases h;rfl
 |str x=>
  cases r.str
  have h:(if x.length<=TOP then some ((x.length:Int) != 0) else none)=some b:=h
  split at h
  ·rename_i hc;cases h;exact⟨ym hc,rfl⟩
  ·cases h
 |lst ds=>obtain⟨a,vs,rfl,q,t⟩:=r.lst s;cases h;exact .inl ⟨vs,.of q,by rw[Vx t]⟩
 |tup ds=>obtain⟨a,vs,rfl,q,t⟩:=r.tup s;cases h;exact .inr (.inl ⟨vs,.of q,by rw[Vx t]⟩)
 |scr ns=>obtain⟨a,rfl,q⟩:=r.scr s;cases h;exact .inl ⟨_,q,by simp⟩
 |obj C f ds=>cases h
def gt (g:EnvD->Option D):EnvD->Option Bool:=λρ=>(g ρ).bind truD
def gb' (g:EnvD->Option D):EnvD->Option Bool:=λρ=>(g ρ).bind asB
theorem zO {g:EnvD->Option D}(ha:DR X B a g)(he:∀whole,isTrue a X.env whole=(do let v <-whole;standAt a.pos;holding [v] (truthy v))):DT X B a (gt g) :=
 vf (Uh ha he) λσ H Q ⟨F,ρ,b,r,hg,k⟩=>by
  unfold gt at hg
  cases q:g ρ with
  |none=>rw[q] at hg;cases hg
  |some d=>
   rw[q] at hg
   exact⟨F,ρ,d,r,q,λv F' H' e p=>⟨b,U9 e.fh p hg,k F' H' e⟩⟩
theorem zn {op:CmpOp}{r:R2}{f:D->D->Option D}(ho:OpR X (compareOp op) r)(hr:OkR X.kw r (pE X.kw) f)(ha:DR X B a ga)(hb:DR X B b gb)(hm:behindInMarks op b=false):DT X B (.Compare a [op] [b] pos) (gb' (g2 f ga gb)) :=
 vf (zdj ho ha hb hm) λσ H Q ⟨F,ρ,c,rr,hg,k⟩=>by
  unfold gb' at hg
  cases q:g2 f ga gb ρ with
  |none=>rw[q] at hg;cases hg
  |some d=>
   rw[q] at hg
   refine op2 vo hr ⟨F,ρ,d,rr,q,λv F' H' e p=>?_⟩
   cases d with
   |bl y=>cases hg;exact⟨c,p,k F' H' e⟩
   |_=>cases hg
def gAnd (ga gb:EnvD->Option Bool):EnvD->Option Bool:=λρ=>(ga ρ).bind λx=>if x then gb ρ else some false
def gOr (ga gb:EnvD->Option Bool):EnvD->Option Bool:=λρ=>(ga ρ).bind λx=>if x then some true else gb ρ
def gNot (ga:EnvD->Option Bool):EnvD->Option Bool:=λρ=>(ga ρ).map λx=>!x
variable {ta tb:EnvD->Option Bool}{rest:List Expr}
theorem jU (ha:DT X B a ta):DW X B (.BoolOp .And [a] pos) ta:=GI ha
theorem xJ (ha:DT X B a ta):DW X B (.BoolOp .Or [a] pos) ta:=GC ha
theorem qK (ha:DT X B a ta)(hb:DW X B (.BoolOp .And (b::rest) pos) tb):DW X B (.BoolOp .And (a::b::rest) pos) (gAnd ta tb) :=
 Wr (zct ha hb) λσ H Q ⟨F,ρ,c,r,hg,k⟩=>by
  unfold gAnd at hg
  cases q:ta ρ with
  |none=>rw[q] at hg;cases hg
  |some x=>
   rw[q] at hg
   refine⟨F,ρ,x,r,q,λF1 H1 e1=>?_⟩
   cases x with
   |true=>exact iteT ⟨F1,ρ,c,r.ext e1,hg,λF2 H2 e2=>k F2 H2 (e1.trans e2)⟩
   |false=>cases hg;exact iteF (k F1 H1 e1)
theorem yI (ha:DT X B a ta)(hb:DW X B (.BoolOp .Or (b::rest) pos) tb):DW X B (.BoolOp .Or (a::b::rest) pos) (gOr ta tb) :=
 Wr (Um ha hb) λσ H Q ⟨F,ρ,c,r,hg,k⟩=>by
  unfold gOr at hg
  cases q:ta ρ with
  |none=>rw[q] at hg;cases hg
  |some x=>
   rw[q] at hg
   refine⟨F,ρ,x,r,q,λF1 H1 e1=>?_⟩
   cases x with
   |true=>cases hg;exact iteT (k F1 H1 e1)
   |false=>exact iteF ⟨F1,ρ,c,r.ext e1,hg,λF2 H2 e2=>k F2 H2 (e1.trans e2)⟩
theorem yz (h:DW X B a ta):DT X B a ta:=PW.pt h
theorem yh (ha:DT X B a ta):DT X B (.UnaryOp .Not a pos) (gNot ta) :=
 vf (Gh ha) λσ H Q ⟨F,ρ,c,r,hg,k⟩=>by
  unfold gNot at hg
  cases q:ta ρ with
  |none=>rw[q] at hg;cases hg
  |some x=>rw[q] at hg;cases hg;exact⟨F,ρ,x,r,q,λF1 H1 e1=>k F1 H1 e1⟩
def gAndV (ga gb:EnvD->Option D):EnvD->Option D:=λρ=>((ga ρ).bind asB).bind λx=>if x then gb ρ else some (.bl false)
def gNotV (ga:EnvD->Option D):EnvD->Option D:=λρ=>((ga ρ).bind asB).map λx=>.bl (!x)
theorem Zr {d:D}{b:Bool}(h:asB d=some b):d=.bl b:=by cases d<;>cases h;rfl
theorem bindB {g:EnvD->Option D}{ρ:EnvD}{α:Type}{f:Bool->Option α}{y:α}(h:((g ρ).bind asB).bind f=some y):∃b,g ρ=some (.bl b)/\f b=some y:=by
 cases q:g ρ with
 |none=>rw[q] at h;cases h
 |some d=>
  rw[q] at h
  cases q2:asB d with
  |none=>rw[show (some d).bind asB=asB d from rfl,q2] at h;cases h
  |some b=>rw[show (some d).bind asB=asB d from rfl,q2] at h;exact⟨b,by rw[Zr q2],h⟩
theorem vF {op}(h:DE X B a ga):DE X B (.BoolOp op [a] pos) ga:=Va h
theorem vh (ha:DE X B a ga)(hb:DE X B (.BoolOp .And (b::rest) pos) gb):DE X B (.BoolOp .And (a::b::rest) pos) (gAndV ga gb) :=
 pe_imp (Jz ha hb) λσ H Q ⟨F,ρ,d,r,hg,k⟩=>by
  obtain⟨x,q,hg⟩:=bindB hg
  refine⟨F,ρ,_,r,q,λv F1 H1 e1 p1=>⟨x,p1,?_⟩⟩
  cases x with
  |true=>exact iteT ⟨F1,ρ,d,r.ext e1,hg,λv F2 H2 e2 p2=>k v F2 H2 (e1.trans e2) p2⟩
  |false=>cases hg;exact iteF (k _ F1 H1 e1 rfl)
theorem zas (ha:DE X B a ga):DE X B (.UnaryOp .Not a pos) (gNotV ga) :=
 pe_imp (Rt ha) λσ H Q ⟨F,ρ,d,r,hg,k⟩=>by
  unfold gNotV at hg
  rw[Option.map_eq_bind] at hg
  obtain⟨x,q,hg⟩:=bindB hg
  cases hg
  exact⟨F,ρ,_,r,q,λv F1 H1 e1 p1=>⟨x,p1,k _ F1 H1 e1 rfl⟩⟩
def gIf (t:EnvD->Option Bool)(ga gb:EnvD->Option D):EnvD->Option D:=λρ=>(t ρ).bind λx=>if x then ga ρ else gb ρ
theorem J9 (ht:DT X B c ta)(ha:DE X B a ga)(hb:DE X B b gb):DE X B (.IfExp c a b pos) (gIf ta ga gb) :=
 pe_imp (ze6 ht ha hb) λσ H Q ⟨F,ρ,d,r,hg,k⟩=>by
  unfold gIf at hg
  cases q:ta ρ with
  |none=>rw[q] at hg;cases hg
  |some x=>
   rw[q] at hg
   refine⟨F,ρ,x,r,q,λF1 H1 e1=>?_⟩
   cases x with
   |true=>exact iteT ⟨F1,ρ,d,r.ext e1,hg,λv F2 H2 e2 p2=>k v F2 H2 (e1.trans e2) p2⟩
   |false=>exact iteF ⟨F1,ρ,d,r.ext e1,hg,λv F2 H2 e2 p2=>k v F2 H2 (e1.trans e2) p2⟩
end
section
variable {X:Cx}{B:Bs}{e a b c:Expr}{es:List Expr}{pos:Pos}{ga gb gc':EnvD->Option D}
def g3 (f f':D->D->Option D)(ga gb gc:EnvD->Option D):EnvD->Option D:=λρ=>
 (ga ρ).bind λx=>(gb ρ).bind λy=>((f x y).bind asB).bind λk=>if k then (gc ρ).bind λz=>f' y z else some (.bl false)
theorem Vc {r r':R2}{f f':D->D->Option D}(hr:OkR X.kw r (pE X.kw) f)(hr':OkR X.kw r' (pE X.kw) f'){σ:St}{H:Hp}{Q:VK}(h:lG X.kw B (pE X.kw) (g3 f f' ga gb gc') σ H Q) :
  tChain r r' (lG X.kw B (pR X.kw) ga) (lG X.kw B (pR X.kw) gb) (lG X.kw B (pR X.kw) gc') σ H Q:=by
 obtain⟨F,ρ,d,rr,hg,k⟩:=h
 unfold g3 at hg
 cases qa:ga ρ with
 |none=>rw[qa] at hg;cases hg
 |some dx=>
  cases qb:gb ρ with
  |none=>rw[qa,qb] at hg;cases hg
  |some dy=>
   rw[qa,qb] at hg
   have hg:((f dx dy).bind asB).bind (λk=>if k then (gc' ρ).bind λz=>f' dy z else some (.bl false))=some d:=hg
   cases qf:f dx dy with
   |none=>rw[qf] at hg;cases hg
   |some z=>
    rw[qf] at hg
    cases qz:asB z with
    |none=>rw[show (some z).bind asB=asB z from rfl,qz] at hg;cases hg
    |some kk=>
     rw[show (some z).bind asB=asB z from rfl,qz] at hg
     rw[Zr qz] at qf
     refine⟨F,ρ,dx,rr,qa,λx F1 H1 e1 p1=>⟨F1,ρ,dy,rr.ext e1,qb,λy F2 H2 e2 p2=>?_⟩⟩
     refine hr F2 H2 x y dx dy _ _ e2.fh (p1.mono e2.ff e2.hh) p2 qf λv F3 H3 e3 p3=>⟨kk,p3,?_⟩
     have hg:(if kk=true then (gc' ρ).bind λz=>f' dy z else some (.bl false))=some d:=hg
     cases kk with
     |false=>rw[if_neg (by decide)] at hg;cases hg;exact iteF (k _ F3 H3 (e1.trans (e2.trans e3)) rfl)
     |true=>
      rw[if_pos rfl] at hg
      refine iteT ?_
      cases qc:gc' ρ with
      |none=>rw[qc] at hg;cases hg
      |some dz=>
       rw[qc] at hg
       refine⟨F3,ρ,dz,rr.ext (e1.trans (e2.trans e3)),qc,λw F4 H4 e4 p4=>?_⟩
       exact hr' F4 H4 y w dy dz d Q e4.fh ((p2.mono e3.ff e3.hh).mono e4.ff e4.hh) p4 hg λv F5 H5 e5 p5=>k v F5 H5 (e1.trans (e2.trans (e3.trans (e4.trans e5)))) p5
theorem GF {op op':CmpOp}{r r':R2}{f f':D->D->Option D}(ho:OpR X (compareOp op) r)(ho':OpR X (compareOp op') r')(hr:OkR X.kw r (pE X.kw) f)(hr':OkR X.kw r' (pE X.kw) f')(ha:DR X B a ga)(hb:DR X B b gb)(hc:DR X B c gc')
  (hm:lastMarks [op,op'] [b,c]=false:=by with_unfolding_all rfl):DE X B (.Compare a [op,op'] [b,c] pos) (g3 f f' ga gb gc') :=
 pe_imp (Gi ho ho' ha hb hc hm) λσ H Q h=>Vc hr hr' h
theorem zai {op op':CmpOp}{r r':R2}{f f':D->D->Option D}(ho:OpR X (compareOp op) r)(ho':OpR X (compareOp op') r')(hr:OkR X.kw r (pE X.kw) f)(hr':OkR X.kw r' (pE X.kw) f')(ha:DR X B a ga)(hb:DR X B b gb)(hc:DR X B c gc')
  (hm:lastMarks [op,op'] [b,c]=false:=by with_unfolding_all rfl):DT X B (.Compare a [op,op'] [b,c] pos) (gb' (g3 f f' ga gb gc')) :=
 vf (UI ho ho' ha hb hc hm) λσ H Q ⟨F,ρ,c,rr,hg,k⟩=>by
  unfold gb' at hg
  cases q:g3 f f' ga gb gc' ρ with
  |none=>rw[q] at hg;cases hg
  |some d=>
   rw[q] at hg
   rw[Zr (show asB d=some c from hg)] at q
   exact Vc hr hr' ⟨F,ρ,_,rr,q,λv F' H' e p=>⟨c,p,k F' H' e⟩⟩
def gNil:EnvD->Option (List D):=λ_=>some []
def gCons' (g:EnvD->Option D)(gs:EnvD->Option (List D)):EnvD->Option (List D):=λρ=>(g ρ).bind λd=>(gs ρ).bind λds=>some (d::ds)
variable {g:EnvD->Option D}{gs:EnvD->Option (List D)}
theorem zF:DAs X B [] gNil:=yu yd λσ H Q ⟨F,ρ,ds,r,hg,k⟩=>by cases hg;exact k [] F H (.refl r.fh) .nil
theorem z9:DRs X B [] gNil:=yu yd λσ H Q ⟨F,ρ,ds,r,hg,k⟩=>by cases hg;exact k [] F H (.refl r.fh) .nil
theorem bind2 {α β γ:Type}{o:Option α}{p:Option β}{f:α->β->Option γ}{z:γ}(h:(o.bind λx=>p.bind λy=>f x y)=some z):∃x y,o=some x/\p=some y/\f x y=some z:=by
 cases o with
 |none=>cases h
 |some x=>
  cases p with
  |none=>cases h
  |some y=>exact⟨x,y,rfl,rfl,h⟩
theorem z8 (ha:DE X B e g)(hr:DAs X B es gs)(hs:starEach (e::es) X.env=(false,eval e X.env)::starEach es X.env:=by rfl):DAs X B (e::es) (gCons' g gs) :=
 yu (zN ha hr hs) λσ H Q ⟨F,ρ,ds,r,hg,k⟩=>by
  obtain⟨d,dr,q1,q2,q3⟩:=bind2 hg
  cases q3
  exact⟨F,ρ,d,r,q1,λv F1 H1 e1 p1=>⟨F1,ρ,dr,r.ext e1,q2,λvs F2 H2 e2 p2=>k _ F2 H2 (e1.trans e2) (.cons (Rp.mono e2.ff p1) p2)⟩⟩
theorem zy (ha:DR X B e g)(hr:DRs X B es gs)(hs:starEach (e::es) X.env=(false,eval e X.env)::starEach es X.env:=by rfl):DRs X B (e::es) (gCons' g gs) :=
 yu (zN ha hr hs) λσ H Q ⟨F,ρ,ds,r,hg,k⟩=>by
  obtain⟨d,dr,q1,q2,q3⟩:=bind2 hg
  cases q3
  exact⟨F,ρ,d,r,q1,λv F1 H1 e1 p1=>⟨F1,ρ,dr,r.ext e1,q2,λvs F2 H2 e2 p2=>k _ F2 H2 (e1.trans e2) (.cons (p1.mono e2.ff e2.hh) p2)⟩⟩
theorem vS {K:KW}{F:Hp}:∀ {ds:List D} {vs:List V},Paired (λd v=>Rp K F d v) ds vs->Rps K F ds vs
 |_,_,.nil=>rfl
 |_,_,.cons r t=>⟨_,_,rfl,r,vS t⟩
def gTup' (gs:EnvD->Option (List D)):EnvD->Option D:=λρ=>(gs ρ).bind λds=>if ds.length<=TOP then some (.tup ds) else none
def gLst (gs:EnvD->Option (List D)):EnvD->Option (List D):=λρ=>(gs ρ).bind λds=>if ds.length<=TOP then some ds else none
theorem yt {x1}(h:DAs X B es gs):DE X B (.Tuple es x1 pos) (gTup' gs) :=
 pe_imp (uI h) λσ H Q ⟨F,ρ,d,r,hg,k⟩=>by
  unfold gTup' at hg
  cases q:gs ρ with
  |none=>rw[q] at hg;cases hg
  |some ds=>
   rw[q] at hg
   have hg:(if ds.length<=TOP then some (D.tup ds) else none)=some d:=hg
   split at hg
   ·rename_i hc
    cases hg
    refine⟨F,ρ,ds,r,q,λvs F1 H1 e1 p1=>⟨ym (by rw[<-(vS p1).length];exact hc),λp hp=>?_⟩⟩
    exact k _ (upd F1 p (.tup vs)) _ (e1.trans (.newF e1.fh hp)) ⟨p,vs,rfl,zl,(vS p1).mono (yb (e1.fh.free hp))⟩
   ·cases hg
theorem ya (h:DAs X B es gs):DA X B (.List es pos) (gLst gs) :=
 pe_imp (zea h) λσ H Q ⟨F,ρ,d,r,hg,k⟩=>by
  unfold gLst at hg
  cases q:gs ρ with
  |none=>rw[q] at hg;cases hg
  |some ds=>
   rw[q] at hg
   have hg:(if ds.length<=TOP then some ds else none)=some d:=hg
   split at hg
   ·rename_i hc
    cases hg
    refine⟨F,ρ,_,r,q,λvs F1 H1 e1 p1=>⟨ym (by rw[<-(vS p1).length];exact hc),λp hp=>?_⟩⟩
    exact k _ F1 _ (e1.trans (.new e1.fh hp)) ⟨p,vs,rfl,e1.hh.free hp,zl,e1.fh.free hp,vS p1⟩
   ·cases hg
def lO (K:KW)(B:Bs)(g:EnvD->Option (Option Int)):TO:=λσ H Q=>∃F ρ i,Rep K B F σ H ρ/\g ρ=some i/\∀F' H',Ext F H F' H'->Q i H'
def DO (X:Cx)(B:Bs)(e:Option Expr)(g:EnvD->Option (Option Int)):Prop:=PO X e (lO X.kw B g)
theorem Jp {e:Option Expr}{t t':TO}(h:PO X e t)(k:∀σ H Q,t' σ H Q->t σ H Q):PO X e t':=λpins s σ H Q I q=>h pins s σ H Q I (k σ H Q q)
def gNone:EnvD->Option (Option Int):=λ_=>some none
theorem vb:DO X B none gNone:=Jp Rm λσ H Q ⟨F,ρ,i,r,hg,k⟩=>by cases hg;exact k F H (.refl r.fh)
def asI:D->Option Int
 |.int i=>some i
 |_=>none
theorem Wx {d:D}{i:Int}(h:asI d=some i):d=.int i:=by cases d<;>cases h;rfl
def gSome (g:EnvD->Option D):EnvD->Option (Option Int):=λρ=>(g ρ).bind λd=>(asI d).map some
theorem jc (h:DR X B e g):DO X B (some e) (gSome g):=Jp (U6 h) λσ H Q ⟨F,ρ,i,r,hg,k⟩=>by
 unfold gSome at hg
 cases q:g ρ with
 |none=>rw[q] at hg;cases hg
 |some d=>
  rw[q] at hg
  cases q2:asI d with
  |none=>rw[show (some d).bind (λd=>(asI d).map some)=(asI d).map some from rfl,q2] at hg;cases hg
  |some j=>
   rw[show (some d).bind (λd=>(asI d).map some)=(asI d).map some from rfl,q2] at hg
   cases hg
   rw[Wx q2] at q
   exact⟨F,ρ,_,r,q,λv F1 H1 e1 p1=>⟨j,p1.int,k F1 H1 e1⟩⟩
def cutD {α:Type}(xs:List α)(lo hi:Option Int):List α:=(xs.drop (HT.sIx xs.length 0 lo)).take (HT.sIx xs.length xs.length hi - HT.sIx xs.length 0 lo)
def gSl (g:EnvD->Option D)(gl gh:EnvD->Option (Option Int)):EnvD->Option (List D):=λρ=>(g ρ).bind λd=>(gl ρ).bind λl=>(gh ρ).bind λh=>match d with
 |.lst ds=>some (cutD ds l h)
 |_=>none
theorem jo {lo hi:Option Expr}{gl gh:EnvD->Option (Option Int)}{p2:Pos}(he:DR X B e g)(hl:DO X B lo gl)(hh:DO X B hi gh):DA X B (.Subscript e (.Slice lo hi none p2) pos) (gSl g gl gh) :=
 pe_imp (YF RJ he hl hh) λσ H Q ⟨F,ρ,d,r,hg,k⟩=>by
  unfold gSl at hg
  cases q:g ρ with
  |none=>rw[q] at hg;cases hg
  |some x=>
   cases ql:gl ρ with
   |none=>rw[q,ql] at hg;cases hg
   |some l=>
    cases qh:gh ρ with
    |none=>rw[q,ql,qh] at hg;cases hg
    |some h=>
     rw[q,ql,qh] at hg
     cases x with
     |lst ds=>
      cases hg
      refine⟨F,ρ,_,r,q,λv F1 H1 e1 p1=>⟨F1,ρ,l,r.ext e1,ql,λF2 H2 e2=>⟨F2,ρ,h,r.ext (e1.trans e2),qh,λF3 H3 e3=>?_⟩⟩⟩
      have e:=e1.trans (e2.trans e3)
      obtain⟨a,vs,rfl,h1,h2⟩:=((p1.mono e2.ff e2.hh).mono e3.ff e3.hh).lst e3.fh
      refine⟨a,vs,rfl,.of h1,λp hp=>k _ F3 _ (e.trans (.new e.fh hp)) ⟨p,_,rfl,e.hh.free hp,zl,e.fh.free hp,?_⟩⟩
      unfold cutD cutV
      rw[<-h2.length]
      exact (h2.drop _).take _
     |_=>cases hg
def CallOk {γ:Type}(K:KW)(r:List V->Hp->VK->Prop)(pc:Post γ)(f:List D->Option γ):Prop :=
 ∀F H vs ds d Q,Same F H->Paired (λd v=>Rq K F H d v) ds vs->f ds=some d->(∀v F' H',Ext F H F' H'->pc F H F' H' d v->Q v H')->r vs H Q
def gB {γ:Type}(f:List D->Option γ)(gs:EnvD->Option (List D)):EnvD->Option γ:=λρ=>(gs ρ).bind f
theorem callB {γ:Type}{r:List V->Hp->VK->Prop}{pc:Post γ}{f:List D->Option γ}(hb:Back pc)(hr:CallOk X.kw r pc f){σ:St}{H:Hp}{Q:VK}(h:lG X.kw B pc (gB f gs) σ H Q):tCB r (lAs X.kw B (pR X.kw) gs) σ H Q:=by
 obtain⟨F,ρ,d,rr,hg,k⟩:=h
 unfold gB at hg
 cases q:gs ρ with
 |none=>rw[q] at hg;cases hg
 |some ds=>
  rw[q] at hg
  exact⟨F,ρ,ds,rr,q,λvs F1 H1 e1 p1=>hr F1 H1 vs ds d Q e1.fh p1 hg λv F' H' e p=>k v F' H' (e1.trans e) (hb _ _ _ _ _ _ _ _ e1 p)⟩
variable {x:Str}{p:Pos}{id T:String}
theorem vI {r:List V->Hp->VK->Prop}{f:List D->Option D}(hc:CallR X (.builtin id) r)(hr:CallOk X.kw r (pE X.kw) f)(hg:Gl X x)(hm:X.mg x=none)(hv:bootBuiltins x=some (.builtin id))(ha:DRs X B (e::es) gs)(hn:x ≠ "__name__" := by decide) (hdb:(x==("__debug__" : Str))=false:=by decide)
  (he:starEach (e::es) X.env=(false,eval e X.env)::starEach es X.env:=by rfl) (hpl:(backTo pos (starEach es X.env)).any (·.1)=false:=by rfl):DE X B (.Call (.Name x p) (e::es) [] pos) (gB f gs) :=
 pe_imp (ju hc hg hm hv ha hn hdb he hpl) λσ H Q h=>callB vo hr h
theorem GZ {r:List V->Hp->VK->Prop}{f:List D->Option (List D)}(hc:CallR X (.type T) r)(hr:CallOk X.kw r (pA X.kw) f)(hg:Gl X x)(hm:X.mg x=none)(hv:bootBuiltins x=some (.type T))(ha:DRs X B (e::es) gs)(hn:x ≠ "__name__" := by decide) (hdb:(x==("__debug__" : Str))=false:=by decide)
  (he:starEach (e::es) X.env=(false,eval e X.env)::starEach es X.env:=by rfl) (hpl:(backTo pos (starEach es X.env)).any (·.1)=false:=by rfl):DA X B (.Call (.Name x p) (e::es) [] pos) (gB f gs) :=
 pe_imp (uP hc hg hm hv ha hn hdb he hpl) λσ H Q h=>callB V6 hr h
def fLen:List D->Option D
 | [.lst ds]=>some (.int ds.length)
 | [.tup ds]=>some (.int ds.length)
 | [.scr ns]=>some (.int ns.length)
 | [.str x]=>if x.length<=TOP then some (.int x.length) else none
 |_=>none
theorem pair1 {R:D->V->Prop}{d:D}{vs:List V}(h:Paired R [d] vs):∃v,vs=[v]/\R d v:=by
 cases h with
 |cons r t=>cases t;exact⟨_,rfl,r⟩
theorem pair2 {R:D->V->Prop}{d d':D}{vs:List V}(h:Paired R [d,d'] vs):∃v v',vs=[v,v']/\R d v/\R d' v':=by
 cases h with
 |cons r t=>
  obtain⟨v',rfl,r'⟩:=pair1 t
  exact⟨_,v',rfl,r,r'⟩
theorem Wc {K:KW}:CallOk K (λxs H Q=>∃x n,xs=[x]/\LenV K x H n/\Q (.int n) H) (pE K) fLen:=by
 intro F H vs ds d Q s hp e k
 unfold fLen at e
 split at e
 ·cases e
  obtain⟨v,rfl,r⟩:=pair1 hp
  obtain⟨a,ws,rfl,h1,h2⟩:=r.lst s
  exact⟨_,_,rfl,.inl ⟨ws,.of h1,h2.length⟩,k _ F H (.refl s) rfl⟩
 ·cases e
  obtain⟨v,rfl,r⟩:=pair1 hp
  obtain⟨a,ws,rfl,h1,h2⟩:=r.tup s
  exact⟨_,_,rfl,.inr ⟨ws,.of h1,h2.length⟩,k _ F H (.refl s) rfl⟩
 ·cases e
  obtain⟨v,rfl,r⟩:=pair1 hp
  obtain⟨a,rfl,h1⟩:=r.scr s
  exact⟨_,_,rfl,.inl ⟨_,h1,by simp⟩,k _ F H (.refl s) rfl⟩
 ·split at e
  ·rename_i hc
   cases e
   obtain⟨v,rfl,r⟩:=pair1 hp
   cases r.str
   exact⟨_,_,rfl,⟨ym hc,rfl⟩,k _ F H (.refl s) rfl⟩
  ·cases e
 ·cases e
def fMin:List D->Option D
 | [.int i,.int j]=>some (.int (if j < i then j else i))
 |_=>none
theorem Ul {K:KW}:CallOk K (λxs H Q=>∃i j,xs=[.int i,.int j]/\Q (.int (if j < i then j else i)) H) (pE K) fMin:=by
 intro F H vs ds d Q s hp e k
 unfold fMin at e
 split at e
 ·cases e
  obtain⟨v,v',rfl,r,r'⟩:=pair2 hp
  cases r.int;cases r'.int
  exact⟨_,_,rfl,k _ F H (.refl s) rfl⟩
 ·cases e
end
section
variable {X:Cx}{B:Bs}{e a b c:Expr}{es:List Expr}{pos p p2:Pos}{g ga gb:EnvD->Option D}{gs:EnvD->Option (List D)}
def tyD:D->Option String
 |.non=>some "NoneType"
 |.bl _=>some "bool"
 |.int _=>some "int"
 |.str _=>some "str"
 |.lst _=>some "list"
 |.tup _=>some "tuple"
 |.scr _=>none
 |.obj _ _ _=>none
def subT (t T:String):Option Bool:=if t=T then some true else if t = "bool" /\ T = "int" then some true else if (t∈["NoneType","bool","int","str","list","tuple"])/\(T∈["bool","int","str","list","tuple","dict"]) then some false else none
theorem K9 {K:KW}{F H:Hp}(s:Same F H){d:D}{v:V}{t:String}(r:Rq K F H d v)(h:tyD d=some t):TyOf K H v (.type t):=by
 cases d with
 |non=>cases r.non;cases h;exact .non
 |bl x=>cases r.bl;cases h;exact .bl x
 |int x=>cases r.int;cases h;exact .int x
 |str x=>cases r.str;cases h;exact .str x
 |lst ds=>obtain⟨a,vs,rfl,q,_⟩:=r.lst s;cases h;exact .lst q
 |tup ds=>obtain⟨a,vs,rfl,q,_⟩:=r.tup s;cases h;exact .tup q
 |scr ns=>cases h
 |obj C f ds=>cases h
def gIs (T:String)(g:EnvD->Option D):EnvD->Option D:=λρ=>(g ρ).bind λd=>(tyD d).bind λt=>(subT t T).map D.bl
theorem zdu {T:String}(hk:∀t b,subT t T=some b->kitOne X.kw (.type t) (.type T)=some b) :
  CallR X (.builtin "isinstance") (λxs H Q=>∃x t b,xs=[x,.ty T]/\TyOf X.kw H x (.type t)/\subT t T=some b/\Q (.bl b) H):=by
 intro pins s σ H vs us Q I r h
 obtain⟨x,t,b,rfl,ty,hb,q⟩:=h
 obtain⟨u,w,rfl,ru,rw'⟩:=vals2 r
 cases rw'
 exact za6 I ru ty (hk t b hb) λtk=>⟨.bl b,H,I.tok tk,rfl,q⟩
theorem y9 {T:String}{x:Str}(hk:∀t b,subT t T=some b->kitOne X.kw (.type t) (.type T)=some b)(hg:Gl X "isinstance") (hm:X.mg "isinstance" = none) (hgT:Gl X x) (hmT:X.mg x=none) (hvT:bootBuiltins x=some (.type T)) (ha:DR X B a g)
  (hnT:x ≠ "__name__" := by decide) (hdT:(x==("__debug__" : Str))=false:=by decide)
  (he:starEach [a,.Name x p2] X.env=(false,eval a X.env)::starEach [.Name x p2] X.env:=by rfl) (he2:starEach [.Name x p2] X.env=(false,eval (.Name x p2) X.env)::starEach [] X.env:=by rfl) (hpl:(backTo pos (starEach [.Name x p2] X.env)).any (·.1)=false:=by rfl) :
  DE X B (.Call (.Name "isinstance" p) [a,.Name x p2] [] pos) (gIs T g) :=
 pe_imp (ju (zdu (T:=T) hk) hg hm (by decide +kernel) (zN ha (zN (RW hgT hmT hvT (v:=.ty T) rfl hnT hdT) yd he2) he) (by decide) (by decide) he hpl) λσ H Q ⟨F,ρ,d,r,hg,k⟩=>by
  unfold gIs at hg
  cases q:g ρ with
  |none=>rw[q] at hg;cases hg
  |some x=>
   rw[q] at hg
   have hg:((tyD x).bind λt=>(subT t T).map D.bl)=some d:=hg
   cases q2:tyD x with
   |none=>rw[q2] at hg;cases hg
   |some t=>
    rw[q2] at hg
    have hg:(subT t T).map D.bl=some d:=hg
    cases q3:subT t T with
    |none=>rw[q3] at hg;cases hg
    |some y=>
     rw[q3] at hg
     cases hg
     exact⟨F,ρ,x,r,q,λv F1 H1 e1 p1=>⟨v,t,y,rfl,K9 e1.fh p1 q2,q3,k _ F1 H1 e1 rfl⟩⟩
theorem za0 (hc:X.calm=true):CallR X (.builtin "all") (λxs H Q=>∃(a:Addr) (bs:List Bool),xs=[.ref a]/\SqL X.kw H a (bs.map V.bl)/\Q (.bl (bs.all λx=>x)) H):=by
 intro pins s σ H vs us Q I r h
 obtain⟨a,bs,rfl,hq,q⟩:=h
 obtain⟨u,rfl,ru⟩:=vals1 r
 cases ru
 obtain⟨its,rv,pl,hz⟩:=I.list hq
 have hlt:a < s.heap.objs.size:=let ⟨o,n,e,_⟩:=pl;Heap.lt_size e
 have hl:bs.length=its.length:=by have:=rv.length;simpa using this
 refine call_all_walk (wpAny_pyIter_list pl.isList ⟨s.heap.objs.size,_,_,_,_,_,λi=>bs.getD i false,rfl,Walks.list (A:=X.A.in1) (I.ok.hd hc) s.heap.objs.size a (Nat.ne_of_lt hlt) its.toArray,⟨⟨_,Heap.get?_push_size _ rfl,rfl,rfl⟩,?_⟩,?_,λh' tk hk=>?_⟩)
 ·obtain⟨o,n,e,c1,c2,c3⟩:=pl
  exact⟨o,Heap.get?_push_of_some _ e,c1,n,c3⟩
 ·intro i v s' Q' E' hv hq'
  have hv:its[i]?=some v:=by simpa using hv
  have hi:i < bs.length:=by rw[hl];exact (List.getElem?_eq_some_iff.mp hv).1
  have hb:(bs.map V.bl)[i]?=some (.bl bs[i]):=by simp[hi]
  obtain⟨u,hu,ru⟩:=rv.get hb
  rw[hv] at hu;cases hu
  cases ru
  have e:bs.getD i false=bs[i]:=by simp[List.getD,hi]
  have hq':Q' (bs.getD i false) s':=hq'
  rw[e] at hq'
  exact wpAny_truthy_bool hq'
 ·have e:((List.range its.toArray.size).all λi=>bs.getD i false)=bs.all λx=>x:=by
   rw[List.size_toArray,<-hl,Bool.eq_iff_iff]
   simp only[List.all_eq_true,List.mem_range]
   constructor
   ·intro h x hx
    obtain⟨i,hi,e⟩:=List.mem_iff_getElem.mp hx
    have:=h i hi
    simpa[List.getD,hi,e] using this
   ·intro h i hi
    have:=h bs[i] (List.getElem_mem hi)
    simpa[List.getD,hi] using this
  rw[e]
  refine⟨.bl (bs.all λx=>x),H,I.kept (t':=tk) λb o e=>hk b o (λz=>?_) (Heap.get?_push_of_some _ e),rfl,q⟩
  have:b=s.heap.objs.size:=by simpa using z
  exact absurd (Heap.lt_size e) (by rw[this];exact Nat.lt_irrefl _)
def asBs:List D->Option (List Bool)
 | []=>some []
 |.bl b::r=>(asBs r).map (b::·)
 |_=>none
theorem V4 {K:KW}{F:Hp}:∀ {ds:List D} {vs:List V} {bs:List Bool},asBs ds=some bs->Rps K F ds vs->vs=bs.map V.bl
 | [],_,_,e,h=>by cases e;cases h;rfl
 |.bl b::r,_,_,e,⟨v,w,e1,h,t⟩=>by
  subst e1;cases h
  cases q:asBs r with
  |none=>rw[show asBs (.bl b::r)=(asBs r).map (b::·) from rfl,q] at e;cases e
  |some bs=>
   rw[show asBs (.bl b::r)=(asBs r).map (b::·) from rfl,q] at e
   cases e
   rw[V4 q t];rfl
 |.non::_,_,_,e,_=>by cases e
 |.int _::_,_,_,e,_=>by cases e
 |.str _::_,_,_,e,_=>by cases e
 |.lst _::_,_,_,e,_=>by cases e
 |.tup _::_,_,_,e,_=>by cases e
 |.scr _::_,_,_,e,_=>by cases e
 |.obj _ _ _::_,_,_,e,_=>by cases e
def fAll:List D->Option D
 | [.lst ds]=>(asBs ds).map λbs=>.bl (bs.all λx=>x)
 |_=>none
theorem zae {K:KW}:CallOk K (λxs H Q=>∃(a:Addr) (bs:List Bool),xs=[.ref a]/\SqL K H a (bs.map V.bl)/\Q (.bl (bs.all λx=>x)) H) (pE K) fAll:=by
 intro F H vs ds d Q s hp e k
 unfold fAll at e
 split at e
 ·rename_i ds
  obtain⟨v,rfl,r⟩:=pair1 hp
  obtain⟨a,ws,rfl,h1,h2⟩:=r.lst s
  cases q:asBs ds with
  |none=>rw[q] at e;cases e
  |some bs=>
   rw[q] at e
   cases e
   have:=V4 q h2
   subst this
   exact⟨a,bs,rfl,.of h1,k _ F H (.refl s) rfl⟩
 ·cases e
theorem Up:CallR X (.type "list") (λxs H Q=>∃a vs,xs=[.ref a]/\(SqL X.kw H a vs∨SqT X.kw H a vs)/\∀p,H p=none->Q (.ref p) (upd H p (.lst vs))):=by
 intro pins s σ H vs us Q I r h
 obtain⟨a,ws,rfl,hq,q⟩:=h
 obtain⟨u,rfl,ru⟩:=vals1 r
 cases ru
 have fin:∀ {T:String} {o:Obj} {its:List Value} {n:Nat},(T = "list" ∨ T = "tuple")->s.heap.get? a=some o->o.cls=.type T->o.data=.seq its.toArray n->Vals ws its->ws.length<=sizeLine->wpAny (model X.prog X.w) X.A (call (.type "list") [.ref a]) (EP X pins σ Q) X.xe s:=by
  intro T o its n hT ho hc hd rv hz
  have hl:=rv.length
  refine call_list_seq a hT ho hc hd (λh' c' hk hn=>?_) (by rw[List.size_toArray,<-hl];exact hz)
  exact⟨.ref s.heap.objs.size,upd H s.heap.objs.size (.lst ws),I.laid (t':=s.toks) hk (Nat.le_refl _) ⟨hz,its,c',rv,hn⟩,rfl,q _ (I.hok.fresh (Nat.le_refl _))⟩
 rcases hq with hq | hq
 ·obtain⟨its,rv,⟨o,n,e,c1,c2,c3⟩,hz⟩:=I.list hq
  exact fin (.inl rfl) e c1 c3 rv hz
 ·obtain⟨its,rv,⟨o,e,c1,n,c3⟩,hz⟩:=I.tuple hq
  exact fin (.inr rfl) e c1 c3 rv hz
def fList:List D->Option (List D)
 | [.lst ds]=>some ds
 | [.tup ds]=>some ds
 | [.scr ns]=>some (ns.map D.int)
 |_=>none
theorem za2 {K:KW}:CallOk K (λxs H Q=>∃a vs,xs=[.ref a]/\(SqL K H a vs∨SqT K H a vs)/\∀p,H p=none->Q (.ref p) (upd H p (.lst vs))) (pA K) fList:=by
 intro F H vs ds d Q s hp e k
 unfold fList at e
 split at e
 ·cases e
  obtain⟨v,rfl,r⟩:=pair1 hp
  obtain⟨a,ws,rfl,h1,h2⟩:=r.lst s
  exact⟨a,ws,rfl,.inl (.of h1),λp hp=>k _ F _ (.new s hp) ⟨p,ws,rfl,hp,zl,s.free hp,h2⟩⟩
 ·cases e
  obtain⟨v,rfl,r⟩:=pair1 hp
  obtain⟨a,ws,rfl,h1,h2⟩:=r.tup s
  exact⟨a,ws,rfl,.inr (.of h1),λp hp=>k _ F _ (.new s hp) ⟨p,ws,rfl,hp,zl,s.free hp,h2⟩⟩
 ·cases e
  obtain⟨v,rfl,r⟩:=pair1 hp
  obtain⟨a,rfl,h1⟩:=r.scr s
  exact⟨a,_,rfl,.inl h1,λp hp=>k _ F _ (.new s hp) ⟨p,_,rfl,hp,zl,s.free hp,Rps.ints _⟩⟩
 ·cases e
def ArgE (K:KW)(F H:Hp):En->V->Prop
 |.val d,v=>Rp K F d v
 |.bor ds,v=>∃a vs,v=.ref a/\H a=some (.lst vs)/\Rps K F ds vs
 |.dbo kvs,v=>∃a ob vs,v=.ref a/\H a=some (DX K.w a ob vs)/\Rkv K F kvs vs
 |_,_=>False
theorem ArgE.ext {K:KW}{F H F' H':Hp}(e:Ext F H F' H'):∀ {x:En} {v:V},ArgE K F H x v->ArgE K F' H' x v
 |.val _,_,h=>Rp.mono e.ff h
 |.bor _,_,⟨a,vs,e1,e2,e3⟩=>⟨a,vs,e1,e.hh _ _ e2,e3.mono e.ff⟩
 |.acc _,_,h=>h
 |.oac _ _ _ _ _,_,h=>h
 |.tre _,_,h=>h
 |.dct _ _,_,h=>h
 |.dbo _,_,⟨a,ob,vs,e1,e2,e3⟩=>⟨a,ob,vs,e1,e.hh _ _ e2,e3.mono e.ff⟩
def pN (K:KW):Post En:=λ_ _ F' H' x v=>ArgE K F' H' x v
def DN (X:Cx)(B:Bs)(e:Expr)(g:EnvD->Option En):Prop:=PE X e (lG X.kw B (pN X.kw) g)
def lNs (K:KW)(B:Bs)(g:EnvD->Option (List En)):TA:=λσ H Q=>
 ∃F ρ xs,Rep K B F σ H ρ/\g ρ=some xs/\∀vs F' H',Ext F H F' H'->Paired (λx v=>ArgE K F' H' x v) xs vs->Q vs H'
def DNs (X:Cx)(B:Bs)(es:List Expr)(g:EnvD->Option (List En)):Prop:=PA X es (lNs X.kw B g)
def gVal (g:EnvD->Option D):EnvD->Option En:=λρ=>(g ρ).map En.val
theorem zr (h:DE X B e g):DN X B e (gVal g):=pe_imp h λσ H Q ⟨F,ρ,x,r,hg,k⟩=>by
 unfold gVal at hg
 cases q:g ρ with
 |none=>rw[q] at hg;cases hg
 |some d=>rw[q] at hg;cases hg;exact⟨F,ρ,d,r,q,λv F' H' e p=>k v F' H' e p⟩
def gn (i:Nat):EnvD->Option En:=λρ=>match ρ[i]? with
 |some (some (.val d))=>some (.val d)
 |some (some (.acc ds))=>some (.bor ds)
 |some (some (.bor ds))=>some (.bor ds)
 |some (some (.dct _ kvs))=>some (.dbo kvs)
 |some (some (.dbo kvs))=>some (.dbo kvs)
 |_=>none
theorem zc (i:Nat){x:Str}(h:PE X (.Name x pos) (tVar i)):DN X B (.Name x pos) (gn i) :=
 pe_imp h λσ H Q ⟨F,ρ,d,r,hg,k⟩=>by
  unfold gn at hg
  split at hg
  ·rename_i d' e
   cases hg
   obtain⟨v,h1,h2⟩:=r.ents i _ e
   exact⟨v,h1,k v F H (.refl r.fh) h2⟩
  ·rename_i ds e
   cases hg
   obtain⟨v,h1,a,vs,e1,e2,e3,e4,e5⟩:=r.ents i _ e
   exact⟨v,h1,k v F H (.refl r.fh) ⟨a,vs,e1,e2,e5⟩⟩
  ·rename_i ds e
   cases hg
   obtain⟨v,h1,a,vs,e1,e2,e5⟩:=r.ents i _ e
   exact⟨v,h1,k v F H (.refl r.fh) ⟨a,vs,e1,r.ex.hh _ _ e2,e5⟩⟩
  ·rename_i oa kvs e
   cases hg
   obtain⟨v,h1,a,ob,vs,e1,e2,e3,e4,e5,e6⟩:=r.ents i _ e
   exact⟨v,h1,k v F H (.refl r.fh) ⟨a,ob,vs,e1,e2,e5⟩⟩
  ·rename_i kvs e
   cases hg
   obtain⟨v,h1,a,ob,vs,e1,e2,e5⟩:=r.ents i _ e
   exact⟨v,h1,k v F H (.refl r.fh) ⟨a,ob,vs,e1,r.ex.hh _ _ e2,e5⟩⟩
  ·cases hg
def nNil:EnvD->Option (List En):=λ_=>some []
def nCons (g:EnvD->Option En)(gs:EnvD->Option (List En)):EnvD->Option (List En):=λρ=>(g ρ).bind λd=>(gs ρ).bind λds=>some (d::ds)
variable {gx:EnvD->Option En}{gxs:EnvD->Option (List En)}
theorem zh:DNs X B [] nNil:=yu yd λσ H Q ⟨F,ρ,ds,r,hg,k⟩=>by cases hg;exact k [] F H (.refl r.fh) .nil
theorem za (ha:DN X B e gx)(hr:DNs X B es gxs)(hs:starEach (e::es) X.env=(false,eval e X.env)::starEach es X.env:=by rfl):DNs X B (e::es) (nCons gx gxs) :=
 yu (zN ha hr hs) λσ H Q ⟨F,ρ,ds,r,hg,k⟩=>by
  obtain⟨d,dr,q1,q2,q3⟩:=bind2 hg
  cases q3
  exact⟨F,ρ,d,r,q1,λv F1 H1 e1 p1=>⟨F1,ρ,dr,r.ext e1,q2,λvs F2 H2 e2 p2=>k _ F2 H2 (e1.trans e2) (.cons (ArgE.ext e2 p1) p2)⟩⟩
def pSp (K:KW)(n:Nat)(m:List En->Option En):Sp:=λvs H Q _=>
 ∃F xs o,Same F H/\xs.length=n/\Paired (λx v=>ArgE K F H x v) xs vs/\m xs=some o/\∀v F' H',Ext F H F' H'->RepE K ⟨F,H⟩ F' H' o v->Q v H'
def frzO:En->Option D
 |.val d=>some d
 |.acc ds=>some (.lst ds)
 |.tre t=>some t.erase
 |_=>none
def accO:En->Option (List D)
 |.acc ds=>some ds
 |_=>none
theorem qZ {K:KW}{F H F' H':Hp}{o:En}{d:D}{v:V}(hd:frzO o=some d)(e:Ext F H F' H')(r:RepE K ⟨F,H⟩ F' H' o v):∃F2,Ext F H F2 H'/\Rp K F2 d v:=by
 cases o with
 |val x=>cases hd;exact⟨F',e,r⟩
 |acc ds=>
  cases hd
  obtain⟨a,vs,rfl,h1,h2,h3,h4⟩:=r
  exact⟨upd F' a (.lst vs),e.freeze h3 h2 h1,⟨a,vs,rfl,zl,h4.mono (yb h2)⟩⟩
 |tre t=>
  cases hd
  obtain⟨r1,r2,r3⟩:=r
  have sf:Same F' (addF F' H' (feetO H' t v)):=uB λa ha=>(r3 a ha).1
  refine⟨addF F' H' (feetO H' t v),⟨e.ff.trans sf,e.hh,λb u q=>?_,λb q=>?_⟩,RepO.fz sf r1 λa ha=>ha⟩
  ·unfold addF at q
   split at q
   ·exact q
   ·exact e.fh b u q
  ·unfold addF at q
   split at q
   ·rename_i hb;exact .inr (r3 b hb).2
   ·exact e.nw b q
 |_=>cases hd
def gCall {α:Type}(m:List En->Option En)(f:En->Option α)(gs:EnvD->Option (List En)):EnvD->Option α:=λρ=>((gs ρ).bind m).bind f
theorem bindC {α:Type}{m:List En->Option En}{f:En->Option α}{gs:EnvD->Option (List En)}{ρ:EnvD}{y:α}(h:gCall m f gs ρ=some y):∃xs o,gs ρ=some xs/\m xs=some o/\f o=some y:=by
 unfold gCall at h
 cases q:gs ρ with
 |none=>rw[q] at h;cases h
 |some xs=>
  rw[q] at h
  cases q2:m xs with
  |none=>rw[show (some xs).bind m=m xs from rfl,q2] at h;cases h
  |some o=>rw[show (some xs).bind m=m xs from rfl,q2] at h;exact⟨xs,o,rfl,q2,h⟩
theorem xY {α β:Type}{R:α->β->Prop}{l:List α}{r:List β}(h:Paired R l r):l.length=r.length:=Paired.length h
theorem KT {n:Nat}{m:List En->Option En}(hm:∀xs o,m xs=some o->xs.length=n){E:XK}{σ:St}{H:Hp}{Q:VK}(h:lG X.kw B (pE X.kw) (gCall m frzO gxs) σ H Q):tCall (pSp X.kw n m) [] E (lNs X.kw B gxs) σ H Q:=by
 obtain⟨F,ρ,d,r,hg,k⟩:=h
 obtain⟨xs,o,q1,q2,q3⟩:=bindC hg
 refine⟨F,ρ,xs,r,q1,λvs F1 H1 e1 p1=>?_⟩
 show pSp X.kw n m (vs++[]) H1 Q E
 rw[List.append_nil]
 refine⟨F1,xs,o,e1.fh,hm xs o q2,p1,q2,λv F2 H2 e2 p2=>?_⟩
 obtain⟨F3,e3,p3⟩:=qZ q3 e2 p2
 exact k v F3 H2 (e1.trans e3) p3
theorem zda {n:Nat}{m:List En->Option En}(hm:∀xs o,m xs=some o->xs.length=n){E:XK}{σ:St}{H:Hp}{Q:VK}(h:lG X.kw B (pA X.kw) (gCall m accO gxs) σ H Q):tCall (pSp X.kw n m) [] E (lNs X.kw B gxs) σ H Q:=by
 obtain⟨F,ρ,d,r,hg,k⟩:=h
 obtain⟨xs,o,q1,q2,q3⟩:=bindC hg
 refine⟨F,ρ,xs,r,q1,λvs F1 H1 e1 p1=>?_⟩
 show pSp X.kw n m (vs++[]) H1 Q E
 rw[List.append_nil]
 refine⟨F1,xs,o,e1.fh,hm xs o q2,p1,q2,λv F2 H2 e2 p2=>?_⟩
 cases o with
 |acc ds=>
  cases q3
  obtain⟨a,ws,h1,h2,h3,h4,h5⟩:=p2
  exact k v F2 H2 (e1.trans e2) ⟨a,ws,h1,e1.hh.free h4,h2,h3,h5⟩
 |_=>cases q3
def len? (n:Nat)(m:List En->Option En):List En->Option En:=λxs=>if xs.length=n then m xs else none
theorem yO {n:Nat}{m:List En->Option En}:∀xs o,len? n m xs=some o->xs.length=n:=λxs o h=>by
 unfold len? at h
 split at h
 ·assumption
 ·cases h
variable {x mm:Str}{f C:Addr}{fd:FuncData}{ps:List Str}{n k:Nat}{m:List En->Option En}{apos:Pos}{o:Expr}
theorem zap (F:FnOk X.prog X.w X.kw X.mg X.base CX0 k f fd ps (pSp X.kw n (len? n m)))(hr:Room k X.A)(hg:Gl X x)(hm:X.mg x=some (.ref f))(hk:keepIn X.kw (.ref f)=true)(hb:Binds X.kw fd ps [])
  (ha:DNs X B (e::es) gxs) (hdb:(x==("__debug__" : Str))=false:=by decide) (he:starEach (e::es) X.env=(false,eval e X.env)::starEach es X.env:=by rfl) (hpl:(backTo pos (starEach es X.env)).any (·.1)=false:=by rfl) :
  DE X B (.Call (.Name x p) (e::es) [] pos) (gCall (len? n m) frzO gxs) :=
 pe_imp (y2 F hr hg hm hk hb .nil pass0 ha hdb he hpl) λσ H Q h=>KT yO h
theorem zau (F:FnOk X.prog X.w X.kw X.mg X.base CX0 k f fd ps (pSp X.kw n (len? n m)))(hr:Room k X.A)(hg:Gl X x)(hm:X.mg x=some (.ref f))(hk:keepIn X.kw (.ref f)=true)(hb:Binds X.kw fd ps [])
  (ha:DNs X B (e::es) gxs) (hdb:(x==("__debug__" : Str))=false:=by decide) (he:starEach (e::es) X.env=(false,eval e X.env)::starEach es X.env:=by rfl) (hpl:(backTo pos (starEach es X.env)).any (·.1)=false:=by rfl) :
  DA X B (.Call (.Name x p) (e::es) [] pos) (gCall (len? n m) accO gxs) :=
 pe_imp (y2 F hr hg hm hk hb .nil pass0 ha hdb he hpl) λσ H Q h=>zda yO h
end
def lookZ {α:Type}(f:Str):List Str->List α->Option α
 |k::ks,x::xs=>if f=k then some x else lookZ f ks xs
 |_,_=>none
def putZ {α:Type}(f:Str)(a:α):List Str->List α->List Str×List α
 |k::ks,x::xs=>if k=f then (k::ks,a::xs) else (k::(putZ f a ks xs).1,x::(putZ f a ks xs).2)
 |_,_=>([f],[a])
theorem qV {α:Type}{f:Str}:∀ {fs:List Str} {vs:List α},(fs.zip vs).lookup f=lookZ f fs vs
 | [],_=>by simp[lookZ]
 |_::_,[]=>by simp[lookZ]
 |k::ks,x::xs=>by
  rw[List.zip_cons_cons,List.lookup_cons]
  by_cases h:f=k
  ·subst h;simp[lookZ]
  ·rw[beq_eq_false_iff_ne.mpr h]
   simp only[lookZ,if_neg h]
   exact qV
theorem VL {K:KW}{F:Hp}{f:Str}:∀ {fs:List Str} {ds:List D} {vs:List V} {d:D},Rps K F ds vs->lookZ f fs ds=some d->∃v,lookZ f fs vs=some v/\Rp K F d v
 | [],_,_,_,_,e=>by simp[lookZ] at e
 |_::_,[],_,_,_,e=>by simp[lookZ] at e
 |k::ks,x::xs,_,d,⟨v,r,e1,h,t⟩,e=>by
  subst e1
  simp only[lookZ] at e ⊢
  by_cases hk:f=k
  ·rw[if_pos hk] at e ⊢;cases e;exact⟨v,rfl,h⟩
  ·rw[if_neg hk] at e ⊢;exact VL t e
theorem ZP {f:Str}{v:V}:∀ {fs:List Str} {vs:List V},fs.length=vs.length->putF f v (fs.zip vs)=(putZ f v fs vs).1.zip (putZ f v fs vs).2/\(putZ f v fs vs).1.length=(putZ f v fs vs).2.length
 | [],[],_=>⟨rfl,rfl⟩
 | [],_::_,h=>by simp at h
 |_::_,[],h=>by simp at h
 |k::ks,x::xs,h=>by
  obtain⟨i1,i2⟩:=ZP (f:=f) (v:=v) (fs:=ks) (vs:=xs) (by simpa using h)
  rw[List.zip_cons_cons]
  simp only[putF,putZ]
  by_cases hk:k=f
  ·rw[if_pos hk,if_pos hk]
   exact⟨rfl,by simpa using h⟩
  ·rw[if_neg hk,if_neg hk]
   exact⟨by rw[i1];rfl,by simpa using i2⟩
theorem JX {K:KW}{F:Hp}{f:Str}{d:D}{v:V}(hd:Rp K F d v):∀ {fs:List Str} {ds:List D} {vs:List V},fs.length=vs.length->Rps K F ds vs->(putZ f d fs ds).1=(putZ f v fs vs).1/\Rps K F (putZ f d fs ds).2 (putZ f v fs vs).2
 | [],ds,vs,_,r=>by
  cases ds<;>cases vs<;>exact⟨rfl,_,_,rfl,hd,rfl⟩
 |k::ks,[],_,h,r=>by cases r;simp at h
 |k::ks,x::xs,_,h,⟨w,r,e,hx,t⟩=>by
  subst e
  obtain⟨i1,i2⟩:=JX hd (fs:=ks) (by simpa using h) t
  simp only[putZ]
  by_cases hk:k=f
  ·rw[if_pos hk,if_pos hk];exact⟨rfl,_,_,rfl,hd,t⟩
  ·rw[if_neg hk,if_neg hk];exact⟨by rw[i1],_,_,rfl,hx,i2⟩
section
variable {X:Cx}{B:Bs}{e a b c o:Expr}{es:List Expr}{pos p apos:Pos}{g ga gb:EnvD->Option D}{gx:EnvD->Option En}{gxs:EnvD->Option (List En)}{C f:Addr}{fl mm x:Str}{fd:FuncData}{ps:List Str}{n k:Nat}{m:List En->Option En}
def gFld (C:Addr)(fl:Str)(g:EnvD->Option D):EnvD->Option D:=λρ=>(g ρ).bind λd=>match d with
 |.obj C' fs ds=>if C'=C then lookZ fl fs ds else none
 |_=>none
theorem zdz {ρ:EnvD}{d:D}(h:gFld C fl g ρ=some d):∃fs ds,g ρ=some (.obj C fs ds)/\lookZ fl fs ds=some d:=by
 unfold gFld at h
 cases q:g ρ with
 |none=>rw[q] at h;cases h
 |some x=>
  rw[q] at h
  cases x with
  |obj C' fs ds=>
   replace h:(if C'=C then lookZ fl fs ds else none)=some d:=h
   by_cases e:C'=C
   ·rw[if_pos e] at h;subst e;exact⟨fs,ds,rfl,h⟩
   ·rw[if_neg e] at h;cases h
  |_=>cases h
theorem wY (cl:Cls X.kw C)(na:NoAttr X.kw C fl)(he:DE X B e g)(hb:attributeBase e fl X.env (eval e X.env)=eval e X.env:=by rfl):DE X B (.Attribute e fl pos) (gFld C fl g) :=
 pe_imp (zat he hb) λσ H Q ⟨F,ρ,d,r,hg,k⟩=>by
  obtain⟨fs,ds,q,hl⟩:=zdz hg
  refine⟨F,ρ,_,r,q,λv F1 H1 e1 p1=>?_⟩
  obtain⟨a,dx,vs,rfl,h1,h2,h3⟩:=p1
  obtain⟨w,h4,h5⟩:=VL h3 hl
  exact⟨a,C,dx,_,w,rfl,e1.fh _ _ h1,cl,na,by rw[qV];exact h4,k w F1 H1 e1 h5⟩
def gMeth {α:Type}(C:Addr)(mm:Str)(m:List En->Option En)(f:En->Option α)(go:EnvD->Option D)(gs:EnvD->Option (List En)):EnvD->Option α:=λρ=>(go ρ).bind λd=>match d with
 |.obj C' fs ds=>if C'=C/\lookZ mm fs ds=none then ((gs ρ).bind λxs=>m (.val d::xs)).bind f else none
 |_=>none
theorem U5 {α:Type}{f:En->Option α}{go:EnvD->Option D}{gs:EnvD->Option (List En)}{ρ:EnvD}{y:α}(h:gMeth C mm m f go gs ρ=some y) :
  ∃fs ds xs o,go ρ=some (.obj C fs ds)/\lookZ mm fs ds=none/\gs ρ=some xs/\m (.val (.obj C fs ds)::xs)=some o/\f o=some y:=by
 unfold gMeth at h
 cases q:go ρ with
 |none=>rw[q] at h;cases h
 |some x=>
  rw[q] at h
  cases x with
  |obj C' fs ds=>
   replace h:(if C'=C/\lookZ mm fs ds=none then ((gs ρ).bind λxs=>m (.val (.obj C' fs ds)::xs)).bind f else none)=some y:=h
   by_cases e:C'=C/\lookZ mm fs ds=none
   ·rw[if_pos e] at h
    obtain⟨e,hl⟩:=e
    subst e
    cases q2:gs ρ with
    |none=>rw[q2] at h;cases h
    |some xs=>
     rw[q2] at h
     replace h:(m (.val (.obj C' fs ds)::xs)).bind f=some y:=h
     cases q3:m (.val (.obj C' fs ds)::xs) with
     |none=>rw[q3] at h;cases h
     |some o=>rw[q3] at h;exact⟨fs,ds,xs,o,rfl,hl,rfl,q3,h⟩
   ·rw[if_neg e] at h;cases h
  |_=>cases h
theorem J5 {α β:Type}{f:Str}:∀ {fs:List Str} {ds:List α} {vs:List β},ds.length=vs.length->lookZ f fs ds=none->lookZ f fs vs=none
 | [],_,_,_,_=>by simp[lookZ]
 |_::_,[],vs,h,_=>by
  cases vs with
  |nil=>simp[lookZ]
  |cons=>simp at h
 |_::_,_::_,[],h,_=>by simp at h
 |k::ks,x::xs,v::vs,h,e=>by
  simp only[lookZ] at e ⊢
  by_cases hk:f=k
  ·rw[if_pos hk] at e;cases e
  ·rw[if_neg hk] at e ⊢;exact J5 (by simpa using h) e
theorem zes {E:XK}{σ:St}{H:Hp}{Q:VK}(h:lG X.kw B (pE X.kw) (gMeth C mm (len? n m) frzO g gxs) σ H Q):tMeth C mm (pSp X.kw n (len? n m)) [] E (lG X.kw B (pE X.kw) g) (lNs X.kw B gxs) σ H Q:=by
 obtain⟨F,ρ,d,r,hg,k⟩:=h
 obtain⟨fs,ds,xs,o,q1,q2,q3,q4,q5⟩:=U5 hg
 refine⟨F,ρ,_,r,q1,λv F1 H1 e1 p1=>?_⟩
 obtain⟨a,dx,vs,rfl,h1,h2,h3⟩:=id p1
 refine⟨a,dx,_,rfl,e1.fh _ _ h1,by rw[qV];exact J5 h3.length q2,F1,ρ,xs,r.ext e1,q3,λws F2 H2 e2 p2=>?_⟩
 show pSp X.kw n (len? n m) (.ref a::(ws++[])) H2 Q E
 rw[List.append_nil]
 refine⟨F2,_,o,e2.fh,yO _ _ q4,.cons (Rp.mono e2.ff p1) p2,q4,λw F3 H3 e3 p3=>?_⟩
 obtain⟨F4,e4,p4⟩:=qZ q5 e3 p3
 exact k w F4 H3 (e1.trans (e2.trans e4)) p4
theorem Ra {pl:Sem Bool}(ho:DE X B o g)(c:Cls X.kw C)(hm:Meth X.kw C mm f)(F:FnOk X.prog X.w X.kw X.mg X.base CX0 k f fd ps (pSp X.kw n (len? n m)))(hr:Room k X.A)(hb:Binds X.kw fd ps [])(ha:DNs X B (e::es) gxs)
  (hst:starEach (e::es) X.env=(false,eval e X.env)::starEach es X.env:=by rfl) (hpl:(backTo pos (starEach es X.env)).any (·.1)=false:=by rfl)
  (ht:eval (.Call (.Attribute o mm apos) (e::es) [] pos) X.env=(do
   let ov <-eval o X.env
   standAt apos.atName
   let (f,first) <-holding [ov] (getMethod ov mm pl)
   callWith pos f first (backTo pos (starEach (e::es) X.env)) (backToKw pos (keywordEach [] X.env))):=by rfl) :
  DE X B (.Call (.Attribute o mm apos) (e::es) [] pos) (gMeth C mm (len? n m) frzO g gxs) :=
 pe_imp (Uy ho c hm F hr hb .nil pass0 ha hst hpl ht) λσ H Q h=>zes h
def iSp (K:KW)(C:Addr)(n:Nat)(mi:Addr->Addr->List En->Option (List Str×List D)):Sp:=λvs H Q _=>
 ∃F H1 xs x dx vs' fs ds,vs=.ref x::vs'/\H1 x=none/\H1 dx=none/\dx≠x/\H=upd (upd H1 dx (.own x)) x (.ins C dx [])/\Same F H1/\xs.length=n/\Paired (λy v=>ArgE K F H1 y v) xs vs'/\mi x dx xs=some (fs,ds) /\
  ∀F' H' us,Ext F H1 F' H'->F' x=none->H' x=some (.ins C dx (fs.zip us))->fs.length=us.length->Rps K F' ds us->Q .non H'
def gMake (C:Addr)(n:Nat)(mi:List En->Option (List Str×List D))(gs:EnvD->Option (List En)):EnvD->Option D:=λρ=>(gs ρ).bind λxs=>if xs.length=n then (mi xs).map λr=>.obj C r.1 r.2 else none
theorem zci {mi:List En->Option (List Str×List D)}{mi':Addr->Addr->List En->Option (List Str×List D)}(hmi:∀x dx xs,mi' x dx xs=mi xs)(M:Mk X.kw C f)(F:FnOk X.prog X.w X.kw X.mg X.base CX0 k f fd ps (iSp X.kw C n mi'))(hr:Room (k+1) X.A)(hg:Gl X x)(hm:X.mg x=some (.ref C))(hb:Binds X.kw fd ps [])
  (ha:DNs X B (e::es) gxs) (hdb:(x==("__debug__" : Str))=false:=by decide) (he:starEach (e::es) X.env=(false,eval e X.env)::starEach es X.env:=by rfl) (hpl:(backTo pos (starEach es X.env)).any (·.1)=false:=by rfl) :
  DE X B (.Call (.Name x p) (e::es) [] pos) (gMake C n mi gxs) :=
 pe_imp (UK M F hr hg hm hb .nil pass0 ha hdb he hpl) λσ H Q ⟨F,ρ,d,r,hg,k⟩=>by
  unfold gMake at hg
  cases q:gxs ρ with
  |none=>rw[q] at hg;cases hg
  |some xs=>
   rw[q] at hg
   have hg:(if xs.length=n then (mi xs).map (λr=>D.obj C r.1 r.2) else none)=some d:=hg
   split at hg
   ·rename_i hl
    cases q2:mi xs with
    |none=>rw[q2] at hg;cases hg
    |some fr=>
     rw[q2] at hg
     cases hg
     refine⟨F,ρ,xs,r,q,λvs F1 H1 e1 p1 x dx nx ndx nex=>?_⟩
     show iSp X.kw C n mi' (.ref x::(vs++[])) _ _ _
     rw[List.append_nil]
     refine⟨F1,H1,xs,x,dx,vs,fr.1,fr.2,rfl,nx,ndx,nex,rfl,e1.fh,hl,p1,by rw[hmi];exact q2,λF2 H2 us e2 h1 h2 h3 h4=>⟨rfl,?_⟩⟩
     exact k _ (upd F2 x (.ins C dx (fr.1.zip us))) H2 (e1.trans (e2.freeze nx h1 h2)) ⟨x,dx,us,rfl,zl,h3,h4.mono (yb h1)⟩
   ·cases hg
end
inductive Fl where
 |next (ρ:EnvD) | ret (o:En) | brk (ρ:EnvD) | cont (ρ:EnvD)
def Fl.ok (K:KW)(B:Bs)(F:Hp)(E:Ends):Fl->Prop
 |.next ρ=>∀σ' F' H',Rep K B F' σ' H' ρ->Same F F'->E.nx σ' H'
 |.brk ρ=>∀σ' F' H',Rep K B F' σ' H' ρ->Same F F'->E.bk σ' H'
 |.cont ρ=>∀σ' F' H',Rep K B F' σ' H' ρ->Same F F'->E.ct σ' H'
 |.ret o=>∀v F' H',Ext B.F0 B.H0 F' H'->RepE K B F' H' o v->E.rt v H'
abbrev SD:=EnvD->Option Fl
def lS (K:KW)(B:Bs)(g:SD):TS:=λE σ H=>∃F ρ fl,Rep K B F σ H ρ/\g ρ=some fl/\fl.ok K B F E
def DS (X:Cx)(B:Bs)(st:Stmt)(g:SD):Prop:=PS X st (lS X.kw B g)
def DSs (X:Cx)(B:Bs)(sts:List Stmt)(g:SD):Prop:=PSs X sts (lS X.kw B g)
theorem Fl.ok.mono {K:KW}{B:Bs}{F F':Hp}{E:Ends}{fl:Fl}(s:Same F F')(h:fl.ok K B F E):fl.ok K B F' E:=by
 cases fl with
 |next ρ=>exact λσ' F2 H' r s2=>h σ' F2 H' r (s.trans s2)
 |brk ρ=>exact λσ' F2 H' r s2=>h σ' F2 H' r (s.trans s2)
 |cont ρ=>exact λσ' F2 H' r s2=>h σ' F2 H' r (s.trans s2)
 |ret o=>exact h
section
variable {X:Cx}{B:Bs}{e a b c o:Expr}{es:List Expr}{st:Stmt}{rest:List Stmt}{pos p apos:Pos}{g ga gb:EnvD->Option D}{gl:EnvD->Option (List D)}{gs1 gs2:SD}{x:Str}
def sSeq (g1 g2:SD):SD:=λρ=>(g1 ρ).bind λfl=>match fl with
 |.next ρ'=>g2 ρ'
 |fl=>some fl
def sNext:SD:=λρ=>some (.next ρ)
theorem z7:DSs X B [] sNext:=yG R0 λE σ H ⟨F,ρ,fl,r,hg,k⟩=>by cases hg;exact k σ F H r (Same.refl _)
theorem zf (h:DS X B st gs1):DSs X B [st] gs1:=vx h
theorem ze (h1:DS X B st gs1)(h2:DSs X B rest gs2):DSs X B (st::rest) (sSeq gs1 gs2) :=
 yG (yM h1 h2) λE σ H ⟨F,ρ,fl,r,hg,k⟩=>by
  unfold sSeq at hg
  cases q:gs1 ρ with
  |none=>rw[q] at hg;cases hg
  |some f1=>
   rw[q] at hg
   refine⟨F,ρ,f1,r,q,?_⟩
   cases f1 with
   |next ρ'=>exact λσ' F' H' r' s'=>⟨F',ρ',fl,r',hg,k.mono s'⟩
   |brk ρ'=>cases hg;exact k
   |cont ρ'=>cases hg;exact k
   |ret o'=>cases hg;exact k
def sSet (i:Nat)(g:EnvD->Option D):SD:=λρ=>(g ρ).map λd=>.next (ρ.set i (some (.val d)))
def sSetA (i:Nat)(g:EnvD->Option (List D)):SD:=λρ=>(g ρ).map λds=>.next (ρ.set i (some (.acc ds)))
theorem VY {i:Nat}{E:Ends}{σ:St}{H:Hp}(h:lS X.kw B (sSet i g) E σ H):tAsg (lG X.kw B (pE X.kw) g) (gName i) E σ H:=by
 obtain⟨F,ρ,fl,r,hg,k⟩:=h
 unfold sSet at hg
 cases q:g ρ with
 |none=>rw[q] at hg;cases hg
 |some d=>
  rw[q] at hg
  cases hg
  exact⟨F,ρ,d,r,q,λv F1 H1 e1 p1=>k _ F1 H1 ((r.ext e1).setv p1) e1.ff⟩
theorem Ut {i:Nat}{E:Ends}{σ:St}{H:Hp}(h:lS X.kw B (sSetA i gl) E σ H):tAsg (lG X.kw B (pA X.kw) gl) (gName i) E σ H:=by
 obtain⟨F,ρ,fl,r,hg,k⟩:=h
 unfold sSetA at hg
 cases q:gl ρ with
 |none=>rw[q] at hg;cases hg
 |some ds=>
  rw[q] at hg
  cases hg
  refine⟨F,ρ,ds,r,q,λv F1 H1 e1 p1=>k _ F1 H1 ((r.ext e1).seto ?_ ?_) e1.ff⟩
  ·obtain⟨a,vs,h1,h2,h3,h4,h5⟩:=p1
   exact⟨a,vs,h1,h3,h4,r.ex.hh.free h2,h5⟩
  ·intro j y w hj hs _ b hb hc
   obtain⟨a,vs,h1,h2,h3,h4,h5⟩:=p1
   subst h1
   simp only[feetE,List.mem_singleton] at hb
   subst hb
   obtain⟨w',hw,hr⟩:=r.ents j y hj
   rw[hs] at hw;cases hw
   rw[hr.feet_ext e1.hh] at hc
   exact (hr.feet_at hc).1 h2
theorem zj {i:Nat}{x:Str}{pos':Pos}(hN:X.N.Nodup)(hi:X.N[i]?=some x)(hx:Loc X.env.scope x)(he:DE X B e g)(hs:swapsWith e (some (.Name x pos')) pos.line X.env=pure false:=by rfl)(hf:X.fn x=true∨X.env.scope.names.lookup x=some .local:=by first | exact .inl rfl | exact .inr rfl | assumption) :
  DS X B (.Assign [.Name x pos'] e pos) (sSet i g):=zH (vT hN hi hx he hs hf) λE σ H h=>VY h
theorem yT {i:Nat}{x:Str}{pos':Pos}(hN:X.N.Nodup)(hi:X.N[i]?=some x)(hx:Loc X.env.scope x)(he:DA X B e gl)(hs:swapsWith e (some (.Name x pos')) pos.line X.env=pure false:=by rfl)(hf:X.fn x=true∨X.env.scope.names.lookup x=some .local:=by first | exact .inl rfl | exact .inr rfl | assumption) :
  DS X B (.Assign [.Name x pos'] e pos) (sSetA i gl):=zH (vT hN hi hx he hs hf) λE σ H h=>Ut h
def sRet (g:EnvD->Option D):SD:=λρ=>(g ρ).map λd=>.ret (.val d)
def sRetA (g:EnvD->Option (List D)):SD:=λρ=>(g ρ).map λd=>.ret (.acc d)
theorem zC (he:DE X B e g):DS X B (.Return (some e) pos) (sRet g):=zH (yH he) λE σ H ⟨F,ρ,fl,r,hg,k⟩=>by
 unfold sRet at hg
 cases q:g ρ with
 |none=>rw[q] at hg;cases hg
 |some d=>rw[q] at hg;cases hg;exact⟨F,ρ,d,r,q,λv F1 H1 e1 p1=>k v F1 H1 (r.ex.trans e1) p1⟩
theorem jC (he:DA X B e gl):DS X B (.Return (some e) pos) (sRetA gl):=zH (yH he) λE σ H ⟨F,ρ,fl,r,hg,k⟩=>by
 unfold sRetA at hg
 cases q:gl ρ with
 |none=>rw[q] at hg;cases hg
 |some d=>
  rw[q] at hg;cases hg
  refine⟨F,ρ,d,r,q,λv F1 H1 e1 p1=>k v F1 H1 (r.ex.trans e1) ?_⟩
  obtain⟨a,vs,h1,h2,h3,h4,h5⟩:=p1
  exact⟨a,vs,h1,h3,h4,r.ex.hh.free h2,h5⟩
def sRetV (i:Nat):SD:=λρ=>match ρ[i]? with
 |some (some (.acc ds))=>some (.ret (.acc ds))
 |some (some (.val d))=>some (.ret (.val d))
 |_=>none
theorem yx (i:Nat)(h:PE X (.Name x p) (tVar i)):DS X B (.Return (some (.Name x p)) pos) (sRetV i):=zH (yH h) λE σ H ⟨F,ρ,fl,r,hg,k⟩=>by
 unfold sRetV at hg
 split at hg
 ·rename_i ds q
  cases hg
  obtain⟨v,h1,h2⟩:=r.ents i _ q
  exact⟨v,h1,k v F H r.ex h2⟩
 ·rename_i d q
  cases hg
  obtain⟨v,h1,h2⟩:=r.ents i _ q
  exact⟨v,h1,k v F H r.ex h2⟩
 ·cases hg
def sIf (t:EnvD->Option Bool)(g1 g2:SD):SD:=λρ=>(t ρ).bind λb=>if b then g1 ρ else g2 ρ
theorem zq {t:EnvD->Option Bool}{as bs:List Stmt}(hc:DT X B c t)(ha:DSs X B as gs1)(hb:DSs X B bs gs2):DS X B (.If c as bs pos) (sIf t gs1 gs2):=zH (Uo hc ha hb) λE σ H ⟨F,ρ,fl,r,hg,k⟩=>by
 unfold sIf at hg
 cases q:t ρ with
 |none=>rw[q] at hg;cases hg
 |some b=>
  rw[q] at hg
  refine⟨F,ρ,b,r,q,λF1 H1 e1=>?_⟩
  cases b with
  |true=>exact iteT ⟨F1,ρ,fl,r.ext e1,hg,k.mono e1.ff⟩
  |false=>exact iteF ⟨F1,ρ,fl,r.ext e1,hg,k.mono e1.ff⟩
def sNever:SD:=λ_=>none
theorem jy:DS X B st sNever:=zH zeg λE σ H ⟨F,ρ,fl,r,hg,k⟩=>by cases hg
def sExpr (g:EnvD->Option D):SD:=λρ=>(g ρ).map λ_=>.next ρ
theorem JD (he:DE X B e g)(hs:swapsWith e none pos.line X.env=pure false:=by rfl):DS X B (.Expr e pos) (sExpr g):=zH (yR he hs) λE σ H ⟨F,ρ,fl,r,hg,k⟩=>by
 unfold sExpr at hg
 cases q:g ρ with
 |none=>rw[q] at hg;cases hg
 |some d=>rw[q] at hg;cases hg;exact⟨F,ρ,d,r,q,λv F1 H1 e1 p1=>k σ F1 H1 (r.ext e1) e1.ff⟩
def sApp (i:Nat)(g:EnvD->Option D):SD:=λρ=>match ρ[i]? with
 |some (some (.acc ds))=>(g ρ).bind λd=>if ds.length<=TOP then some (.next (ρ.set i (some (.acc (ds++[d]))))) else none
 |_=>none
theorem yY (i:Nat){cpos:Pos}(hx:PE X (.Name x p) (tVar i))(he:DE X B e g)
  (hbase:attributeBase (.Name x p) "append" X.env (eval (.Name x p) X.env)=eval (.Name x p) X.env:=by rfl)
  (hfew:((backTo cpos (starEach [e] X.env)).all (λx=>!x.1)&&(backToKw cpos (keywordEach [] X.env)).all (λx=>x.1.isSome)
   && decide (([e]:List Expr).length+([]:List Keyword).length+(if ([]:List Keyword).isEmpty then 0 else 1) < 30))=true:=by rfl)
  (hline:(apos.endLine==cpos.line)=true:=by rfl) (hs:starEach [e] X.env=(false,eval e X.env)::starEach [] X.env:=by rfl) (hplain:(backTo cpos (starEach [] X.env)).any (·.1)=false:=by rfl)
  (hsw:swapsWith (.Call (.Attribute (.Name x p) "append" apos) [e] [] cpos) none pos.line X.env=pure false:=by rfl) :
  DS X B (.Expr (.Call (.Attribute (.Name x p) "append" apos) [e] [] cpos) pos) (sApp i g) :=
 zH (yR (qH PySem.F.plainAttrs_list PySem.F.slot_list_append PySem.F.type_list_append Z1 hx (zN he yd hs) hbase hfew hline hs hplain) hsw) λE σ H ⟨F,ρ,fl,r,hg,k⟩=>by
  unfold sApp at hg
  split at hg
  ·rename_i ds q
   cases q2:g ρ with
   |none=>rw[q2] at hg;cases hg
   |some d=>
    rw[q2] at hg
    have hg:(if ds.length<=TOP then some (Fl.next (ρ.set i (some (.acc (ds++[d]))))) else none)=some fl:=hg
    split at hg
    ·rename_i hl
     cases hg
     obtain⟨v,hv,a,vs,rfl,h1,h2,h3,h4⟩:=r.ents i _ q
     refine⟨.ref a,hv,.inl ⟨rfl,_,.of h1⟩,F,ρ,d,r,q2,λw F1 H1 e1 p1=>?_⟩
     have r1:=r.ext e1
     obtain⟨v',hv',a',vs',e',g1,g2,g3,g4⟩:=r1.ents i _ q
     rw[hv] at hv';cases hv';cases e'
     refine⟨a,vs',w,rfl,rfl,g1,Gu (by rw[<-g4.length];exact hl),k σ F1 _ (r1.write q rfl hv g2 g3 ⟨a,_,rfl,zl,g2,g3,g4.snoc p1⟩ rfl) e1.ff⟩
    ·cases hg
  ·cases hg
def sPop (i:Nat):SD:=λρ=>match ρ[i]? with
 |some (some (.acc ds))=>if ds.isEmpty then none else some (.next (ρ.set i (some (.acc ds.dropLast))))
 |_=>none
theorem zar {K:KW}{F:Hp}:∀ {ds:List D} {vs:List V},Rps K F ds vs->Rps K F ds.dropLast vs.dropLast:=fun {ds vs} r=>by
 rw[List.dropLast_eq_take,List.dropLast_eq_take,<-r.length]
 exact r.take _
theorem Kr (i:Nat){cpos:Pos}(hm:MtR X "list.pop" rPop) (hx:PE X (.Name x p) (tVar i))
  (hbase:attributeBase (.Name x p) "pop" X.env (eval (.Name x p) X.env)=eval (.Name x p) X.env:=by rfl) (hline:(apos.endLine==cpos.line)=true:=by rfl)
  (hsw:swapsWith (.Call (.Attribute (.Name x p) "pop" apos) [] [] cpos) none pos.line X.env=pure false:=by rfl) :
  DS X B (.Expr (.Call (.Attribute (.Name x p) "pop" apos) [] [] cpos) pos) (sPop i) :=
 zH (yR (JP PySem.F.plainAttrs_list PySem.F.slot_list_pop PySem.F.type_list_pop hm hx hbase hline) hsw) λE σ H ⟨F,ρ,fl,r,hg,k⟩=>by
  unfold sPop at hg
  split at hg
  ·rename_i ds q
   split at hg
   ·cases hg
   ·rename_i hl
    cases hg
    obtain⟨v,hv,a,vs,rfl,h1,h2,h3,h4⟩:=r.ents i _ q
    have hlen:0 < vs.length:=by
     rw[<-h4.length]
     cases ds with
     |nil=>simp at hl
     |cons=>simp
    have hy:vs[vs.length - 1]?=some vs[vs.length - 1]:=List.getElem?_eq_getElem (by omega)
    exact⟨.ref a,hv,.inl ⟨rfl,_,.of h1⟩,a,vs,_,rfl,rfl,h1,hy,k σ F _ (r.write q rfl hv h2 h3 ⟨a,_,rfl,zl,h2,h3,zar h4⟩ rfl) (Same.refl _)⟩
  ·cases hg
def sPut (i:Nat)(gi g:EnvD->Option D):SD:=λρ=>match ρ[i]? with
 |some (some (.acc ds))=>(g ρ).bind λd=>((gi ρ).bind asI).bind λj=>(ixN ds.length j).map λn=>.next (ρ.set i (some (.acc (ds.set n d))))
 |_=>none
theorem zbu (i:Nat){gi:EnvD->Option D}{ie:Expr}(hx:PE X (.Name x p) (tVar i))(hi:DE X B ie gi)(he:DE X B e g){tpos:Pos}
  (ha:∀v,assign (.Subscript (.Name x p) ie tpos) X.env v=(do
   let ov <-holding [v] (eval (.Name x p) X.env)
   let iv <-holding [v,ov] (eval ie X.env)
   standAt tpos
   holding [v,ov,iv] (setItem ov iv v)
   release [v,ov,iv] []):=by intro _;rfl)
  (hs:swapsWithSole [.Subscript (.Name x p) ie tpos] e pos.line X.env=pure false:=by rfl) (hw:swappedStores [.Subscript (.Name x p) ie tpos] e X.env=pure none:=by rfl)
  (h1:(assignEach [.Subscript (.Name x p) ie tpos] X.env).map (·.2)=[assign (.Subscript (.Name x p) ie tpos) X.env]:=by rfl) :
  DS X B (.Assign [.Subscript (.Name x p) ie tpos] e pos) (sPut i gi g) :=
 zH (Zl he (RS hx hi ze4 ha) hs hw h1) λE σ H ⟨F,ρ,fl,r,hg,k⟩=>by
  unfold sPut at hg
  split at hg
  ·rename_i ds q
   cases q2:g ρ with
   |none=>rw[q2] at hg;cases hg
   |some d=>
    cases q3:gi ρ with
    |none=>rw[q2,q3] at hg;cases hg
    |some di=>
     rw[q2,q3] at hg
     have hg:((asI di).bind λj=>(ixN ds.length j).map λn=>Fl.next (ρ.set i (some (.acc (ds.set n d)))))=some fl:=hg
     cases q4:asI di with
     |none=>rw[q4] at hg;cases hg
     |some j=>
      rw[q4] at hg
      have hg:((ixN ds.length j).map λn=>Fl.next (ρ.set i (some (.acc (ds.set n d)))))=some fl:=hg
      cases q5:ixN ds.length j with
      |none=>rw[q5] at hg;cases hg
      |some n=>
       rw[q5] at hg
       cases hg
       rw[Wx q4] at q3
       refine⟨F,ρ,d,r,q2,λw F1 H1 e1 p1=>?_⟩
       have r1:=r.ext e1
       obtain⟨v,hv,a,vs,rfl,g1,g2,g3,g4⟩:=r1.ents i _ q
       refine⟨.ref a,hv,F1,ρ,_,r1,q3,λu F2 H2 e2 p2=>?_⟩
       have r2:=r1.ext e2
       obtain⟨v',hv',a',vs',e',f1,f2,f3,f4⟩:=r2.ents i _ q
       rw[hv] at hv';cases hv';cases e'
       exact⟨a,vs',j,n,rfl,p2,f1,by rw[<-f4.length];exact q5,k σ F2 _ (r2.write q rfl hv f2 f3 ⟨a,_,rfl,zl,f2,f3,Rps.set (Rp.mono e2.ff p1) n f4⟩ rfl) (e1.ff.trans e2.ff)⟩
  ·cases hg
def sFldD (i:Nat)(C:Addr)(fl:Str)(g:EnvD->Option D):SD:=λρ=>match ρ[i]? with
 |some (some (.oac a dx C' fs ds))=>if C'=C/\fs.length < 900 then (g ρ).map λd=>.next (ρ.set i (some (.oac a dx C (putZ fl d fs ds).1 (putZ fl d fs ds).2))) else none
 |_=>none
theorem ZM (i:Nat){C:Addr}{fl:Str}{pos':Pos}(cl:Cls X.kw C)(na:NoAttr X.kw C fl)(hx:PE X (.Name x p) (tVar i))(he:DE X B e g)(hs:swapsWith e (some (.Attribute (.Name x p) fl pos')) pos.line X.env=pure false:=by rfl) :
  DS X B (.Assign [.Attribute (.Name x p) fl pos'] e pos) (sFldD i C fl g) :=
 zH (Qz hx he hs) λE σ H ⟨F,ρ,f,r,hg,k⟩=>by
  unfold sFldD at hg
  split at hg
  ·rename_i a dx C' fs ds q
   split at hg
   ·rename_i hc
    obtain⟨rfl,hlen⟩:=hc
    cases q2:g ρ with
    |none=>rw[q2] at hg;cases hg
    |some d=>
     rw[q2] at hg
     cases hg
     refine⟨F,ρ,d,r,q2,λw F1 H1 e1 p1=>?_⟩
     have r1:=r.ext e1
     obtain⟨v,hv,vs,rfl,g1,g2,g3,g4,g5⟩:=r1.ents i _ q
     obtain⟨z1,z2⟩:=ZP (f:=fl) (v:=w) g2
     obtain⟨z3,z4⟩:=JX (f:=fl) p1 g2 g5
     refine⟨.ref a,hv,a,C',dx,_,rfl,g1,cl,na,?_,k σ F1 _ (r1.write q rfl hv g3 g4 ⟨_,rfl,?_,?_,g3,g4,z4⟩ rfl) e1.ff⟩
     ·have:(fs.zip vs).length<=fs.length:=by rw[List.length_zip];exact Nat.min_le_left _ _
      omega
     ·rw[zl,z1,z3]
     ·rw[z3,z2]
   ·cases hg
  ·cases hg
end
inductive Tgt where
 |name (i:Nat) | tup (is:List Nat)
def gNames:List Nat->TGs
 | []=>L2.gNil
 |i::is=>gCons (gName i) (gNames is)
def tgT (K:KW):Tgt->TG
 |.name i=>gName i
 |.tup is=>gTup K is.length (gNames is)
def zI:List Nat->List D->EnvD->EnvD
 |i::is,d::ds,ρ=>zI is ds (ρ.set i (some (.val d)))
 |_,_,ρ=>ρ
def asgD:Tgt->D->EnvD->Option EnvD
 |.name i,d,ρ=>some (ρ.set i (some (.val d)))
 |.tup is,.tup ds,ρ=>if ds.length=is.length then some (zI is ds ρ) else none
 |_,_,_=>none
inductive SetOf:List Nat->St->St->Prop
 |refl {is σ}:SetOf is σ σ
 |step {is σ σ' i v}:i∈is->SetOf is (σ.set i v) σ'->SetOf is σ σ'
def Tgt.slots:Tgt->List Nat
 |.name i=>[i]
 |.tup is=>is
theorem SetOf.pre {is:List Nat}{σ σ':St}(h:SetOf is σ σ'):∀ {σ1 cv:St},σ=σ1++cv->(∀i∈is,i < σ1.length)->∃σ1',σ1'.length=σ1.length/\σ'=σ1'++cv:=by
 induction h with
 |refl=>intro σ1 cv e _;exact⟨σ1,rfl,e⟩
 | @step σ σ' i v hi _ ih=>
  intro σ1 cv e hl
  obtain⟨s,h1,h2⟩:=ih (σ1:=σ1.set i v) (cv:=cv) (by rw[e,List.set_append_left _ _ (hl i hi)]) (λj hj=>by rw[List.length_set];exact hl j hj)
  exact⟨s,by rw[h1,List.length_set],h2⟩
theorem Yd {K:KW}{B:Bs}{F H:Hp}{all:List Nat}:∀ {is:List Nat} {ds:List D} {vs:List V} {σ:St} {ρ:EnvD} {Q:St->Hp->Prop},Rep K B F σ H ρ->Rps K F ds vs->ds.length=is.length->(∀i∈is,i∈all) ->
  (∀σ',Rep K B F σ' H (zI is ds ρ)->SetOf all σ σ'->Q σ' H)->gNames is vs σ H Q
 | [],[],_,σ,ρ,Q,r,h,_,_,k=>by cases h;exact⟨rfl,k σ r .refl⟩
 | [],_::_,_,_,_,_,_,_,hl,_,_=>by simp at hl
 |_::_,[],_,_,_,_,_,_,hl,_,_=>by simp at hl
 |i::is,d::ds,_,σ,ρ,Q,r,⟨v,w,e,h,t⟩,hl,ha,k=>by
  subst e
  refine⟨v,w,rfl,?_⟩
  exact Yd (r.setv h) t (by simpa using hl) (λj hj=>ha j (List.mem_cons_of_mem _ hj)) λσ' r' s'=>k σ' r' (.step (ha i List.mem_cons_self) s')
theorem uS {K:KW}{B:Bs}{F H:Hp}{t:Tgt}{d:D}{v:V}{σ:St}{ρ ρ':EnvD}{Q:St->Hp->Prop}(r:Rep K B F σ H ρ)(h:Rp K F d v)(e:asgD t d ρ=some ρ')(k:∀σ',Rep K B F σ' H ρ'->SetOf t.slots σ σ'->Q σ' H):tgT K t v σ H Q:=by
 cases t with
 |name i=>cases e;exact k _ (r.setv h) (.step (List.mem_singleton.mpr rfl) .refl)
 |tup is=>
  cases d with
  |tup ds=>
   have e:(if ds.length=is.length then some (zI is ds ρ) else none)=some ρ':=e
   split at e
   ·rename_i hl
    cases e
    obtain⟨a,vs,rfl,h1,h2⟩:=h
    exact⟨a,vs,rfl,.of (r.fh _ _ h1),by rw[<-h2.length];exact hl,Yd r h2 hl (λi hi=>hi) k⟩
   ·cases e
  |_=>cases e
def Jok (K:KW)(Hb:Hp)(J:It)(F:Hp)(ds:List D):Prop:=∀F2 H2,Same F F2->Same F2 H2->Same Hb H2->∀i,
 (i < ds.length->J.go i H2/\∀x H3,J.yld i H2 x H3->∃F3 d,Ext F2 H2 F3 H3/\ds[i]?=some d/\Rp K F3 d x)/\(i=ds.length->J.stop i H2)
def lI (K:KW)(B:Bs)(hb:Hp->Hp)(g:EnvD->Option (List D)):TI:=λσ H R=>∃F ρ ds,Rep K B F σ H ρ/\g ρ=some ds/\∀J F' H',Ext F H F' H'->Jok K (hb H') J F' ds->R J H'
def DI (X:Cx)(B:Bs)(hb:Hp->Hp)(tg iter:Expr)(g:EnvD->Option (List D)):Prop:=PI X tg iter (lI X.kw B hb g)
def pQ (K:KW)(hb:Hp->Hp):Post D:=λ_ _ F' H' d v=>Rq K F' (hb H') d v
def DQ (X:Cx)(B:Bs)(hb:Hp->Hp)(e:Expr)(g:EnvD->Option D):Prop:=PE X e (lG X.kw B (pQ X.kw hb) g)
def HbOk (B:Bs)(hb:Hp->Hp):Prop:=(∀H,Same B.H0 H->Same (hb H) H)/\∀H H',Same H H'->Same (hb H) (hb H')
theorem hb0 {B:Bs}:HbOk B (λ_=>B.H0):=⟨λ_ h=>h,λ_ _ _=>Same.refl _⟩
theorem hb1 {B:Bs}:HbOk B (λH=>H):=⟨λ_ _=>Same.refl _,λ_ _ h=>h⟩
section
variable {X:Cx}{B:Bs}{hb:Hp->Hp}{e a b c tg iter:Expr}{es:List Expr}{pos p:Pos}{g ga gb:EnvD->Option D}{gi:EnvD->Option (List D)}{gs gbd:SD}{x:Str}
theorem DE.fix (h:DE X B e g):DQ X B hb e g:=pe_imp h λσ H Q ⟨F,ρ,x,r,hg,k⟩=>⟨F,ρ,x,r,hg,λv F' H' e p=>k v F' H' e (.inl p)⟩
theorem DR.cur (h:DR X B e g):DQ X B (λH=>H) e g:=h
def gf (i:Nat):EnvD->Option D:=λρ=>match ρ[i]? with
 |some (some (.val d))=>some d
 |some (some (.bor ds))=>some (.lst ds)
 |_=>none
theorem yq (i:Nat)(h:PE X (.Name x pos) (tVar i)):DQ X B (λ_=>B.H0) (.Name x pos) (gf i) :=
 pe_imp h λσ H Q ⟨F,ρ,d,r,hg,k⟩=>by
  unfold gf at hg
  split at hg
  ·rename_i d' e
   cases hg
   obtain⟨v,h1,h2⟩:=r.ents i _ e
   exact⟨v,h1,k v F H (.refl r.fh) (.inl h2)⟩
  ·rename_i ds e
   cases hg
   obtain⟨v,h1,a,vs,e1,e2,e5⟩:=r.ents i _ e
   exact⟨v,h1,k v F H (.refl r.fh) (.inr ⟨a,vs,ds,rfl,e1,e2,e5⟩)⟩
  ·cases hg
def itL:D->Option (List D)
 |.lst ds=>some ds
 |.scr ns=>some (ns.map D.int)
 |_=>none
theorem wg {K:KW}{F Hb:Hp}{d:D}{v:V}{ds:List D}(r:Rq K F Hb d v)(h:itL d=some ds):∃a vs,v=.ref a/\Rps K F ds vs/\∀F2 H2,Same F F2->Same F2 H2->Same Hb H2->SqL K H2 a vs:=by
 cases d with
 |lst es=>
  cases h
  rcases r with⟨a,vs,rfl,q,t⟩ | ⟨a,vs,ds',e1,rfl,q,t⟩
  ·exact⟨a,vs,rfl,t,λF2 H2 s1 s2 _=>.of (s2 _ _ (s1 _ _ q))⟩
  ·cases e1;exact⟨a,vs,rfl,t,λF2 H2 _ _ s3=>.of (s3 _ _ q)⟩
 |scr ns=>
  cases h
  obtain⟨a,rfl,q⟩:=r.one λ_ h=>by cases h
  exact⟨a,_,rfl,Rps.ints ns,λF2 H2 s1 s2 _=>s2.seq (s1.seq q)⟩
 |_=>cases h
def gIt (g:EnvD->Option D):EnvD->Option (List D):=λρ=>(g ρ).bind itL
theorem zG (hbk:HbOk B hb)(h:DQ X B hb e g):DI X B hb tg e (gIt g) :=
 wj (uN h) λσ H R ⟨F,ρ,ds,r,hg,k⟩=>by
  unfold gIt at hg
  cases q:g ρ with
  |none=>rw[q] at hg;cases hg
  |some d=>
   rw[q] at hg
   refine⟨F,ρ,d,r,q,λv F1 H1 e1 p1=>?_⟩
   obtain⟨a,vs,rfl,t,sq⟩:=wg p1 hg
   have r1:=r.ext e1
   refine⟨a,rfl,⟨vs,sq F1 H1 (Same.refl _) e1.fh (hbk.1 H1 r1.ex.hh)⟩,k _ F1 H1 e1 λF2 H2 s1 s2 s3 i=>⟨λhi=>?_,λhi=>?_⟩⟩
   ·have hq:=sq F2 H2 s1 s2 s3
    have hiv:i < vs.length:=by rw[<-t.length];exact hi
    have hv:vs[i]?=some vs[i]:=List.getElem?_eq_getElem hiv
    refine⟨⟨vs,_,hq,hv⟩,λx H3 hy=>?_⟩
    obtain⟨rfl,hy⟩:=hy
    obtain⟨d',hd,rd⟩:=t.get' (hy vs hq)
    exact⟨F2,d',.refl s2,hd,rd.mono s1⟩
   ·exact⟨vs,sq F2 H2 s1 s2 s3,by rw[hi,t.length];exact Nat.le_refl _⟩
def lQs (K:KW)(B:Bs)(hb:Hp->Hp)(g:EnvD->Option (List D)):TA:=λσ H Q=>
 ∃F ρ ds,Rep K B F σ H ρ/\g ρ=some ds/\∀vs F' H',Ext F H F' H'->Paired (λd v=>Rq K F' (hb H') d v) ds vs->Q vs H'
def DQs (X:Cx)(B:Bs)(hb:Hp->Hp)(es:List Expr)(g:EnvD->Option (List D)):Prop:=PA X es (lQs X.kw B hb g)
theorem uR:DQs X B hb [] gNil:=yu yd λσ H Q ⟨F,ρ,ds,r,hg,k⟩=>by cases hg;exact k [] F H (.refl r.fh) .nil
theorem qQ (hbk:HbOk B hb)(ha:DQ X B hb e g)(hr:DQs X B hb es gi)(hs:starEach (e::es) X.env=(false,eval e X.env)::starEach es X.env:=by rfl):DQs X B hb (e::es) (gCons' g gi) :=
 yu (zN ha hr hs) λσ H Q ⟨F,ρ,ds,r,hg,k⟩=>by
  obtain⟨d,dr,q1,q2,q3⟩:=bind2 hg
  cases q3
  exact⟨F,ρ,d,r,q1,λv F1 H1 e1 p1=>⟨F1,ρ,dr,r.ext e1,q2,λvs F2 H2 e2 p2=>k _ F2 H2 (e1.trans e2) (.cons (p1.mono e2.ff (hbk.2 _ _ e2.hh)) p2)⟩⟩
def enumD:Nat->List D->List D
 |_,[]=>[]
 |n,d::ds=>.tup [.int n,d]::enumD (n+1) ds
def zipD:List D->List D->List D
 |d::ds,e::es=>.tup [d,e]::zipD ds es
 |_,_=>[]
theorem uk:∀(n:Nat) (ds:List D),(enumD n ds).length=ds.length
 |_,[]=>rfl
 |n,_::ds=>by simp[enumD,uk (n+1) ds]
theorem VO:∀(n:Nat) (ds:List D) (i:Nat) (d:D),ds[i]?=some d->(enumD n ds)[i]?=some (.tup [.int ((n+i:Nat):Int),d])
 |_,[],_,_,h=>by simp at h
 |n,x::ds,0,d,h=>by simp at h;subst h;simp[enumD]
 |n,x::ds,i+1,d,h=>by
  have:=VO (n+1) ds i d (by simpa using h)
  simp only[enumD,List.getElem?_cons_succ,this]
  congr 5
  omega
theorem qM:∀(ds es:List D),(zipD ds es).length=min ds.length es.length
 | [],_=>by simp[zipD]
 |_::_,[]=>by simp[zipD]
 |_::ds,_::es=>by simp[zipD,qM ds es]
theorem Wo:∀(ds es:List D) (i:Nat) (d d':D),ds[i]?=some d->es[i]?=some d'->(zipD ds es)[i]?=some (.tup [d,d'])
 | [],_,_,_,_,h,_=>by simp at h
 |_::_,[],_,_,_,_,h=>by simp at h
 |_::_,_::_,0,_,_,h,h'=>by simp at h h';subst h;subst h';simp[zipD]
 |_::ds,_::es,i+1,d,d',h,h'=>by
  have:=Wo ds es i d d' (by simpa using h) (by simpa using h')
  simpa[zipD] using this
def gEn (gs:EnvD->Option (List D)):EnvD->Option (List D):=λρ=>(gs ρ).bind λxs=>match xs with
 | [d]=>(itL d).map (enumD 0)
 |_=>none
def gZip (gs:EnvD->Option (List D)):EnvD->Option (List D):=λρ=>(gs ρ).bind λxs=>match xs with
 | [d,d']=>(itL d).bind λds=>(itL d').map λes=>zipD ds es
 |_=>none
variable {elts:List Expr}{tk:Nat}{tpos:Pos}
theorem Y3 (hbk:HbOk B hb)(hg:Gl X "enumerate") (hm:X.mg "enumerate" = none) (ha:DQs X B hb [a] gi) (hs:starEach [a] X.env=[(false,eval a X.env)]:=by rfl) :
  DI X B hb (.Tuple elts tk tpos) (.Call (.Name "enumerate" p) [a] [] pos) (gEn gi) :=
 wj (zew hg hm ha hs) λσ H R ⟨F,ρ,ds,r,hg,k⟩=>by
  unfold gEn at hg
  cases q:gi ρ with
  |none=>rw[q] at hg;cases hg
  |some xs=>
   rw[q] at hg
   refine⟨F,ρ,xs,r,q,λvs F1 H1 e1 p1=>?_⟩
   match xs,hg,p1 with
   | [d],hg,p1=>
    obtain⟨v,rfl,rv⟩:=pair1 p1
    have hg:(itL d).map (enumD 0)=some ds:=hg
    cases q2:itL d with
    |none=>rw[q2] at hg;cases hg
    |some es=>
     rw[q2] at hg
     cases hg
     obtain⟨a,us,rfl,t,sq⟩:=wg rv q2
     have r1:=r.ext e1
     refine⟨a,rfl,⟨us,sq F1 H1 (Same.refl _) e1.fh (hbk.1 H1 r1.ex.hh)⟩,k _ F1 H1 e1 λF2 H2 s1 s2 s3 i=>⟨λhi=>?_,λhi=>?_⟩⟩
     ·rw[uk] at hi
      have hq:=sq F2 H2 s1 s2 s3
      have hiv:i < us.length:=by rw[<-t.length];exact hi
      have hv:us[i]?=some us[i]:=List.getElem?_eq_getElem hiv
      refine⟨⟨us,_,hq,hv⟩,λx H3 hy=>?_⟩
      obtain⟨T,w,nT,rfl,rfl,hy⟩:=hy
      obtain⟨d',hd,rd⟩:=t.get' (hy us hq)
      refine⟨upd F2 T (.tup [.int i,w]),_,.newF s2 nT,VO 0 es i d' hd,⟨T,_,rfl,zl,_,_,rfl,?_,_,_,rfl,(rd.mono s1).mono (yb (s2.free nT)),rfl⟩⟩
      show V.int i=V.int ((0+i:Nat):Int)
      rw[Nat.zero_add]
     ·exact⟨us,sq F2 H2 s1 s2 s3,by rw[hi,uk,t.length];exact Nat.le_refl _⟩
theorem zaw (hbk:HbOk B hb)(hg:Gl X "zip") (hm:X.mg "zip" = none) (ha:DQs X B hb [a,b] gi) (hs:starEach [a,b] X.env=[(false,eval a X.env),(false,eval b X.env)]:=by rfl) (hs2:starEach [b] X.env=[(false,eval b X.env)]:=by rfl) :
  DI X B hb (.Tuple elts tk tpos) (.Call (.Name "zip" p) [a,b] [] pos) (gZip gi) :=
 wj (Kh hg hm ha hs hs2) λσ H R ⟨F,ρ,ds,r,hg,k⟩=>by
  unfold gZip at hg
  cases q:gi ρ with
  |none=>rw[q] at hg;cases hg
  |some xs=>
   rw[q] at hg
   refine⟨F,ρ,xs,r,q,λvs F1 H1 e1 p1=>?_⟩
   match xs,hg,p1 with
   | [d,d'],hg,p1=>
    obtain⟨v,v',rfl,rv,rv'⟩:=pair2 p1
    have hg:((itL d).bind λds=>(itL d').map λes=>zipD ds es)=some ds:=hg
    cases q2:itL d with
    |none=>rw[q2] at hg;cases hg
    |some es=>
     rw[q2] at hg
     have hg:((itL d').map λfs=>zipD es fs)=some ds:=hg
     cases q3:itL d' with
     |none=>rw[q3] at hg;cases hg
     |some fs=>
      rw[q3] at hg
      cases hg
      obtain⟨a,us,rfl,t,sq⟩:=wg rv q2
      obtain⟨b,ws,rfl,t',sq'⟩:=wg rv' q3
      have r1:=r.ext e1
      have hb':=hbk.1 H1 r1.ex.hh
      refine⟨a,b,rfl,⟨us,sq F1 H1 (Same.refl _) e1.fh hb'⟩,⟨ws,sq' F1 H1 (Same.refl _) e1.fh hb'⟩,k _ F1 H1 e1 λF2 H2 s1 s2 s3 i=>⟨λhi=>?_,λhi=>?_⟩⟩
      ·rw[qM] at hi
       have hq:=sq F2 H2 s1 s2 s3
       have hq':=sq' F2 H2 s1 s2 s3
       have hiv:i < us.length:=by rw[<-t.length];omega
       have hiv':i < ws.length:=by rw[<-t'.length];omega
       have hv:us[i]?=some us[i]:=List.getElem?_eq_getElem hiv
       have hv':ws[i]?=some ws[i]:=List.getElem?_eq_getElem hiv'
       refine⟨⟨us,_,ws,_,hq,hv,hq',hv'⟩,λx H3 hy=>?_⟩
       obtain⟨T,w,w',nT,rfl,rfl,hy,hy'⟩:=hy
       obtain⟨d1,hd,rd⟩:=t.get' (hy us hq)
       obtain⟨d2,hd',rd'⟩:=t'.get' (hy' ws hq')
       have sT:=yb (o:=.tup [w,w']) (s2.free nT)
       exact⟨upd F2 T (.tup [w,w']),_,.newF s2 nT,Wo es fs i d1 d2 hd hd',⟨T,_,rfl,zl,_,_,rfl,(rd.mono s1).mono sT,_,_,rfl,(rd'.mono s1).mono sT,rfl⟩⟩
      ·refine⟨us,ws,sq F2 H2 s1 s2 s3,sq' F2 H2 s1 s2 s3,?_⟩
       rw[qM] at hi
       have h1:=t.length
       have h2:=t'.length
       omega
def rngD (lo:Int):Nat->List D
 |0=>[]
 |n+1=>.int lo::rngD (lo+1) n
theorem Z3:∀(lo:Int) (n:Nat),(rngD lo n).length=n
 |_,0=>rfl
 |lo,n+1=>by simp[rngD,Z3 (lo+1) n]
theorem Yu:∀(lo:Int) (n i:Nat),i < n->(rngD lo n)[i]?=some (.int (lo+i))
 |_,0,_,h=>by omega
 |lo,n+1,0,_=>by simp[rngD]
 |lo,n+1,i+1,h=>by
  have:=Yu (lo+1) n i (by omega)
  simp only[rngD,List.getElem?_cons_succ,this]
  congr 2
  omega
def BIG:Int:=1000000000000
def gR1 (gs:EnvD->Option (List D)):EnvD->Option (List D):=λρ=>(gs ρ).bind λxs=>match xs with
 | [.int j]=>if -BIG<=j/\j<=BIG then some (rngD 0 j.toNat) else none
 |_=>none
theorem zcq {K:KW}{Hb F:Hp}(lo:Int)(n:Nat):Jok K Hb (Itr lo n) F (rngD lo n):=λF2 H2 s1 s2 s3 i=>⟨λhi=>by
 rw[Z3] at hi
 refine⟨hi,λx H3 hy=>?_⟩
 obtain⟨rfl,rfl⟩:=hy
 exact⟨F2,_,.refl s2,Yu lo n i hi,rfl⟩,λhi=>by rw[Z3] at hi;exact Nat.le_of_eq hi.symm⟩
theorem vY (hg:Gl X "range") (hm:X.mg "range" = none) (ha:DRs X B [a] gi) (hs:starEach [a] X.env=[(false,eval a X.env)]:=by rfl):DI X B hb tg (.Call (.Name "range" p) [a] [] pos) (gR1 gi) :=
 wj (zdx hg hm ha hs) λσ H R ⟨F,ρ,ds,r,hg,k⟩=>by
  unfold gR1 at hg
  cases q:gi ρ with
  |none=>rw[q] at hg;cases hg
  |some xs=>
   rw[q] at hg
   refine⟨F,ρ,xs,r,q,λvs F1 H1 e1 p1=>?_⟩
   match xs,hg,p1 with
   | [.int j],hg,p1=>
    obtain⟨v,rfl,rv⟩:=pair1 p1
    cases rv.int
    have hg:(if -BIG<=j/\j<=BIG then some (rngD 0 j.toNat) else none)=some ds:=hg
    split at hg
    ·rename_i hc
     cases hg
     unfold BIG at hc
     exact⟨j,rfl,by omega,by omega,k _ F1 H1 e1 (zcq 0 _)⟩
    ·cases hg
def forD (t:Tgt)(gb:SD):List D->EnvD->Option Fl
 | [],ρ=>some (.next ρ)
 |d::ds,ρ=>(asgD t d ρ).bind λρ1=>(gb ρ1).bind λfl=>match fl with
  |.next ρ2=>forD t gb ds ρ2
  |.cont ρ2=>forD t gb ds ρ2
  |.brk ρ2=>some (.next ρ2)
  |.ret o=>some (.ret o)
def sFor (t:Tgt)(gi:EnvD->Option (List D))(gb:SD):SD:=λρ=>(gi ρ).bind λds=>forD t gb ds ρ
theorem zS {body:List Stmt}{t:Tgt}(hp:PassesOwn (model X.prog X.w) X.A X.env X.xe)(hc:X.calm=true)(hi:DI X B (λ_=>B.H0) tg iter gi)(hg:PG X tg (tgT X.kw t))(hb:DSs X B body gbd)
  (hs:∀x,foldedSetIterable iter X.env x=pure x:=by intro _;rfl):DS X B (.For tg iter body [] pos) (sFor t gi gbd) :=
 zH (JJ hp hc hi hg hb hs) λE σ H ⟨F,ρ,fl,r,hg,k⟩=>by
  unfold sFor at hg
  cases q:gi ρ with
  |none=>rw[q] at hg;cases hg
  |some ds=>
   rw[q] at hg
   have hg:forD t gbd ds ρ=some fl:=hg
   refine⟨F,ρ,ds,r,q,λJ F1 H1 e1 jok=>?_⟩
   refine⟨λi m σ H=>m=ds.length - i/\i<=ds.length/\∃F2 ρ2,Rep X.kw B F2 σ H ρ2/\Same F1 F2/\forD t gbd (ds.drop i) ρ2=some fl,⟨ds.length,rfl,Nat.zero_le _,F1,ρ,r.ext e1,Same.refl _,hg⟩,?_⟩
   rintro i m σ2 H2 ⟨rfl,hi,F2,ρ2,r2,s2,h2⟩
   obtain⟨j1,j2⟩:=jok F2 H2 s2 r2.fh r2.ex.hh i
   by_cases hlt:i < ds.length
   ·obtain⟨go,yl⟩:=j1 hlt
    refine .inr ⟨go,λσ' H'=>∃F3 ρ3,Rep X.kw B F3 σ' H' ρ3/\Same F1 F3/\forD t gbd (ds.drop (i+1)) ρ3=some fl,λσ' H' ⟨F3,ρ3,r3,s3,h3⟩=>⟨ds.length - (i+1),by omega,rfl,hlt,F3,ρ3,r3,s3,h3⟩,λx H3 hy=>?_⟩
    obtain⟨F3,d,e3,hd,rd⟩:=yl x H3 hy
    have hdd:ds.drop i=d::ds.drop (i+1):=by
     rw[List.drop_eq_getElem_cons hlt]
     congr 1
     rw[List.getElem?_eq_getElem hlt] at hd
     exact Option.some.inj hd
    rw[hdd] at h2
    have h2:((asgD t d ρ2).bind λρ1=>(gbd ρ1).bind λfl=>match fl with
     |.next ρ2=>forD t gbd (ds.drop (i+1)) ρ2
     |.cont ρ2=>forD t gbd (ds.drop (i+1)) ρ2
     |.brk ρ2=>some (.next ρ2)
     |.ret o=>some (.ret o))=some fl:=h2
    cases q1:asgD t d ρ2 with
    |none=>rw[q1] at h2;cases h2
    |some ρ3=>
     rw[q1] at h2
     refine uS (r2.ext e3) rd q1 λσ' r4 _=>?_
     cases q4:gbd ρ3 with
     |none=>rw[show (some ρ3).bind _=(gbd ρ3).bind _ from rfl,q4] at h2;cases h2
     |some f1=>
      rw[show (some ρ3).bind _=(gbd ρ3).bind _ from rfl,q4] at h2
      refine⟨F3,ρ3,f1,r4,q4,?_⟩
      cases f1 with
      |next ρ5=>exact λσ5 F5 H5 r5 s5=>⟨F5,ρ5,r5,(s2.trans e3.ff).trans s5,h2⟩
      |cont ρ5=>exact λσ5 F5 H5 r5 s5=>⟨F5,ρ5,r5,(s2.trans e3.ff).trans s5,h2⟩
      |brk ρ5=>cases h2;exact λσ5 F5 H5 r5 s5=>k σ5 F5 H5 r5 (e1.ff.trans ((s2.trans e3.ff).trans s5))
      |ret o=>cases h2;exact k
   ·have hi':i=ds.length:=by omega
    have hdd:ds.drop i=[]:=by rw[hi',List.drop_length]
    rw[hdd] at h2
    cases h2
    exact .inl ⟨j2 hi',k σ2 F2 H2 r2 (e1.ff.trans s2)⟩
def capO:Option (Option En)->Option En
 |some (some (.val d))=>some (.val d)
 |some (some (.acc ds))=>some (.bor ds)
 |some (some (.bor ds))=>some (.bor ds)
 |some (some (.dct _ kvs))=>some (.dbo kvs)
 |some (some (.dbo kvs))=>some (.dbo kvs)
 |_=>none
def capE (ρ:EnvD)(cap:List (Str×Nat)):EnvD:=cap.map λp=>capO ρ[p.2]?
def compD (t:Tgt)(tc:EnvD->Option Bool)(ge:EnvD->Option D)(ρ0:EnvD):List D->Option (List D)
 | []=>some []
 |d::ds=>(asgD t d ρ0).bind λρ1=>(tc ρ1).bind λb=>if b then (ge ρ1).bind λy=>(compD t tc ge ρ0 ds).map (y::·) else compD t tc ge ρ0 ds
def gComp (own:List Str)(cap:List (Str×Nat))(t:Tgt)(tc:EnvD->Option Bool)(ge:EnvD->Option D)(gi:EnvD->Option (List D)):EnvD->Option (List D):=λρ=>
 (gi ρ).bind λds=>if ds.length<=TOP then compD t tc ge (List.replicate own.length none++capE ρ cap) ds else none
def tYes:EnvD->Option Bool:=λ_=>some true
theorem KL {K:KW}{B:Bs}{σ:St}{H:Hp}{Q:Bool->Hp->Prop}(h:lT K B tYes σ H Q):tTrue σ H Q:=by
 obtain⟨F,ρ,b,r,hg,k⟩:=h
 cases hg
 exact k F H (.refl r.fh)
theorem Rr {X:Cx}{ifs:List Expr}{t t':TT}(h:PIfs X ifs t)(k:∀σ H Q,t' σ H Q->t σ H Q):PIfs X ifs t':=λpins s σ H Q I q=>h pins s σ H Q I (k σ H Q q)
def DIfs (X:Cx)(B:Bs)(ifs:List Expr)(g:EnvD->Option Bool):Prop:=PIfs X ifs (lT X.kw B g)
theorem y1:DIfs X B [] tYes:=Rr GS λσ H Q h=>KL h
theorem yL {tc:EnvD->Option Bool}(h:DT X B c tc):DIfs X B [c] tc:=U8 h
theorem uT {K:KW}{B:Bs}{F F1 H H1:Hp}{σ σ1:St}{ρ:EnvD}{own:List Str}{cap:List (Str×Nat)}(r:Rep K B F σ H ρ)(e:Ext F H F1 H1){F2 H2:Hp}(e2:Ext F1 H1 F2 H2)(hl:σ1.length=own.length) :
  Rep K ⟨F1,H1⟩ F2 (σ1++cap.map λp=>(σ[p.2]?).getD none) H2 (List.replicate own.length none++capE ρ cap):=by
 have noown:∀i y,(List.replicate own.length none++capE ρ cap)[i]?=some (some y)->∃p,cap[i - own.length]?=some p/\own.length<=i/\((∃d,y=.val d/\ρ[p.2]?=some (some (.val d)))∨(∃ds,y=.bor ds/\ρ[p.2]?=some (some (.acc ds)))∨(∃ds,y=.bor ds/\ρ[p.2]?=some (some (.bor ds)))∨(∃kvs,y=.dbo kvs/\∃oa,ρ[p.2]?=some (some (.dct oa kvs)))∨∃kvs,y=.dbo kvs/\ρ[p.2]?=some (some (.dbo kvs))):=by
  intro i y h
  by_cases hi:i < own.length
  ·rw[List.getElem?_append_left (by simpa using hi),List.getElem?_replicate,if_pos hi] at h
   cases h
  ·rw[List.getElem?_append_right (by simpa using hi),List.length_replicate] at h
   unfold capE at h
   rw[List.getElem?_map] at h
   cases q:cap[i - own.length]? with
   |none=>rw[q] at h;cases h
   |some p=>
    rw[q] at h
    replace h:capO ρ[p.2]?=some y:=Option.some.inj h
    refine⟨p,rfl,by omega,?_⟩
    unfold capO at h
    split at h
    ·rename_i d q2;cases h;exact .inl ⟨d,rfl,q2⟩
    ·rename_i ds q2;cases h;exact .inr (.inl ⟨ds,rfl,q2⟩)
    ·rename_i ds q2;cases h;exact .inr (.inr (.inl ⟨ds,rfl,q2⟩))
    ·rename_i oa ds q2;cases h;exact .inr (.inr (.inr (.inl ⟨ds,rfl,oa,q2⟩)))
    ·rename_i ds q2;cases h;exact .inr (.inr (.inr (.inr ⟨ds,rfl,q2⟩)))
    ·cases h
 refine⟨e2,by simp[capE,hl],λi y h=>?_,λi j y z v w h1 h2 _ _ _ a ha _=>?_⟩
 ·obtain⟨p,hp,hi,hy⟩:=noown i y h
  have slot:∀v,σ[p.2]?=some (some v)->(σ1++cap.map λp=>(σ[p.2]?).getD none)[i]?=some (some v):=λv hv=>by
   rw[List.getElem?_append_right (by rw[hl];exact hi),hl,List.getElem?_map,hp]
   show some ((σ[p.2]?).getD none)=_
   rw[hv];rfl
  rcases hy with⟨d,rfl,q⟩ | ⟨ds,rfl,q⟩ | ⟨ds,rfl,q⟩ | ⟨ds,rfl,oa,q⟩ | ⟨ds,rfl,q⟩
  ·obtain⟨v,hv,h2⟩:=r.ents _ _ q
   exact⟨v,slot v hv,Rp.mono (e.ff.trans e2.ff) h2⟩
  ·obtain⟨v,hv,a,vs,e1,g1,g2,g3,g4⟩:=r.ents _ _ q
   exact⟨v,slot v hv,a,vs,e1,e.hh _ _ g1,g4.mono (e.ff.trans e2.ff)⟩
  ·obtain⟨v,hv,a,vs,e1,g1,g4⟩:=r.ents _ _ q
   exact⟨v,slot v hv,a,vs,e1,e.hh _ _ (r.ex.hh _ _ g1),g4.mono (e.ff.trans e2.ff)⟩
  ·obtain⟨v,hv,a,ob,vs,e1,g1,g2,g3,g4,g5⟩:=r.ents _ _ q
   exact⟨v,slot v hv,a,ob,vs,e1,e.hh _ _ g1,g4.mono (e.ff.trans e2.ff)⟩
  ·obtain⟨v,hv,a,ob,vs,e1,g1,g4⟩:=r.ents _ _ q
   exact⟨v,slot v hv,a,ob,vs,e1,e.hh _ _ (r.ex.hh _ _ g1),g4.mono (e.ff.trans e2.ff)⟩
 ·obtain⟨p,_,_,hy⟩:=noown i y h1
  rcases hy with⟨d,rfl,q⟩ | ⟨ds,rfl,q⟩ | ⟨ds,rfl,q⟩ | ⟨ds,rfl,oa,q⟩ | ⟨ds,rfl,q⟩<;>cases ha
theorem yf {elt:Expr}{ifs:List Expr}{scope:Scope}{own:List Str}{cap:List (Str×Nat)}{t:Tgt}{tc:EnvD->Option Bool}{ge:EnvD->Option D}(hc:X.calm=true)(S:CompScope X scope own cap)(hi:DI X B (λH=>H) tg iter gi)(ht:∀i∈t.slots,i < own.length)
  (hin:∀(B':Bs) C s₀ H₀ fp pn,PG (cxc X scope C (own++cap.map (·.1)) s₀ H₀ fp pn) tg (tgT X.kw t)/\DIfs (cxc X scope C (own++cap.map (·.1)) s₀ H₀ fp pn) B' ifs tc/\DE (cxc X scope C (own++cap.map (·.1)) s₀ H₀ fp pn) B' elt ge)
  (hs:∀x,foldedSetIterable iter X.env x=pure x:=by intro _;rfl) :
  DA X B (.ListComp elt [⟨tg,iter,ifs,0⟩] scope pos) (gComp own cap t tc ge gi):=by
 refine pe_imp (JA (tc:=λσ H Q=>∃B',lT X.kw B' tc σ H Q) (te:=λσ H Q=>∃B',lG X.kw B' (pE X.kw) ge σ H Q) hc S hi (λC s₀ H₀ fp pn=>⟨(hin ⟨H₀,H₀⟩ C s₀ H₀ fp pn).1,λpins s σ H Q I ⟨B',q⟩=>(hin B' C s₀ H₀ fp pn).2.1 pins s σ H Q I q,λpins s σ H Q I ⟨B',q⟩=>(hin B' C s₀ H₀ fp pn).2.2 pins s σ H Q I q⟩) hs) ?_
 intro σ H Q ⟨F,ρ,out,r,hg,k⟩
 unfold gComp at hg
 cases q:gi ρ with
 |none=>rw[q] at hg;cases hg
 |some ds=>
  rw[q] at hg
  have hg:(if ds.length<=TOP then compD t tc ge (List.replicate own.length none++capE ρ cap) ds else none)=some out:=hg
  split at hg
  ·rename_i htop
   refine⟨F,ρ,ds,r,q,λJ F1 H1 e1 jok=>?_⟩
   refine⟨λi m ys H2=>m=ds.length - i/\i<=ds.length/\∃F2 o1 o2,Ext F1 H1 F2 H2/\Rps X.kw F2 o1 ys/\o1.length<=i/\compD t tc ge (List.replicate own.length none++capE ρ cap) (ds.drop i)=some o2/\out=o1++o2,
    ⟨ds.length,rfl,Nat.zero_le _,F1,[],out,.refl e1.fh,rfl,Nat.le_refl _,hg,rfl⟩,?_⟩
   rintro i m ys H2 ⟨rfl,hi,F2,o1,o2,e2,ry,hl1,h2,rfl⟩
   refine⟨ym (by rw[<-ry.length];omega),?_⟩
   obtain⟨j1,j2⟩:=jok F2 H2 e2.ff e2.fh e2.hh i
   by_cases hlt:i < ds.length
   ·obtain⟨go,yl⟩:=j1 hlt
    refine .inr ⟨go,λys' H'=>∃F3 p1 p2,Ext F1 H1 F3 H'/\Rps X.kw F3 p1 ys'/\p1.length<=i+1/\compD t tc ge (List.replicate own.length none++capE ρ cap) (ds.drop (i+1))=some p2/\o1++o2=p1++p2,λys' H' ⟨F3,p1,p2,e3,r3,l3,h3,eo⟩=>⟨ds.length - (i+1),by omega,rfl,hlt,F3,p1,p2,e3,r3,l3,h3,eo⟩,λx H3 hy σ1 hσ=>?_⟩
    obtain⟨F3,d,e3,hd,rd⟩:=yl x H3 hy
    have hdd:ds.drop i=d::ds.drop (i+1):=by
     rw[List.drop_eq_getElem_cons hlt]
     congr 1
     rw[List.getElem?_eq_getElem hlt] at hd
     exact Option.some.inj hd
    rw[hdd] at h2
    simp only[compD] at h2
    cases q1:asgD t d (List.replicate own.length none++capE ρ cap) with
    |none=>rw[q1] at h2;cases h2
    |some ρ1=>
     rw[q1] at h2
     have e13:=e2.trans e3
     refine uS (uT (own:=own) (cap:=cap) r e1 e13 hσ) rd q1 λσ' r4 so=>⟨?_,?_⟩
     ·obtain⟨σ1',l1,e4⟩:=so.pre (σ1:=σ1) rfl (λj hj=>by rw[hσ];exact ht j hj)
      exact⟨σ1',by rw[l1,hσ],e4⟩
     ·have h2:((tc ρ1).bind λb=>if b then (ge ρ1).bind λy=>(compD t tc ge (List.replicate own.length none++capE ρ cap) (ds.drop (i+1))).map (y::·) else compD t tc ge (List.replicate own.length none++capE ρ cap) (ds.drop (i+1)))=some o2:=h2
      cases q2:tc ρ1 with
      |none=>rw[q2] at h2;cases h2
      |some bb=>
       rw[q2] at h2
       refine⟨⟨F1,H1⟩,F3,ρ1,bb,r4,q2,λF5 H5 e5=>?_⟩
       cases bb with
       |false=>exact iteF ⟨F5,o1,o2,e13.trans e5,ry.mono (e3.ff.trans e5.ff),by omega,h2,rfl⟩
       |true=>
        have h2:((ge ρ1).bind λy=>(compD t tc ge (List.replicate own.length none++capE ρ cap) (ds.drop (i+1))).map (y::·))=some o2:=h2
        cases q3:ge ρ1 with
        |none=>rw[q3] at h2;cases h2
        |some y=>
         rw[q3] at h2
         have h2:(compD t tc ge (List.replicate own.length none++capE ρ cap) (ds.drop (i+1))).map (y::·)=some o2:=h2
         cases q4:compD t tc ge (List.replicate own.length none++capE ρ cap) (ds.drop (i+1)) with
         |none=>rw[q4] at h2;cases h2
         |some p2=>
          rw[q4] at h2
          cases h2
          refine iteT ⟨⟨F1,H1⟩,F5,ρ1,y,r4.ext e5,q3,λv F6 H6 e6 p6=>?_⟩
          exact⟨F6,o1++[y],p2,e13.trans (e5.trans e6),(ry.mono (e3.ff.trans (e5.ff.trans e6.ff))).snoc p6,by simp;omega,rfl,by simp⟩
   ·have hi':i=ds.length:=by omega
    have hdd:ds.drop i=[]:=by rw[hi',List.drop_length]
    rw[hdd] at h2
    cases h2
    refine .inl ⟨j2 hi',λD hD=>?_⟩
    have e:=e1.trans e2
    exact k _ F2 _ (e.trans (.new e.fh hD)) ⟨D,ys,rfl,e.hh.free hD,zl,e.fh.free hD,by simpa using ry⟩
  ·cases hg
end
def stE (N:List Str)(xs:List (Option En)):EnvD:=xs++List.replicate (N.length - xs.length) none
def outO:Option Fl->Option En
 |some (.next _)=>some (.val .non)
 |some (.ret o)=>some o
 |_=>none
def mir (N:List Str)(g:SD):List En->Option En:=λxs=>outO (g (stE N (xs.map some)))
section
variable {P:Program}{w:World}{K:PySem.W.Frag}{mg:Str->Option Value}{base:Heap}
theorem vk {α β:Type}{R:α->β->Prop}:∀ {l:List α} {r:List β} {i:Nat} {x:α},Paired R l r->l[i]?=some x->∃y,r[i]?=some y/\R x y
 |_,_,_,_,.nil,e=>by simp at e
 |_,_,0,_,.cons r _,e=>by simp at e;subst e;exact⟨_,rfl,r⟩
 |_,_,i+1,x,.cons _ t,e=>by
  obtain⟨u,h1,h2⟩:=vk (i:=i) t (by simpa using e)
  exact⟨u,by simpa using h1,h2⟩
theorem qe {F H:Hp}{N ps:List Str}{xs:List En}{vs:List V}(fh:Same F H)(hp:Paired (λx v=>ArgE ⟨K,w⟩ F H x v) xs vs):Rep ⟨K,w⟩ ⟨F,H⟩ F (L2.start N vs) H (stE N (xs.map some)):=by
 have hl:=xY hp
 have at':∀(i:Nat) y,(stE N (xs.map some))[i]?=some (some y)->xs[i]?=some y:=λi y h=>by
  unfold stE at h
  by_cases hi:i < xs.length
  ·rw[List.getElem?_append_left (by simpa using hi),List.getElem?_map] at h
   cases q:xs[i]? with
   |none=>rw[q] at h;cases h
   |some z=>rw[q] at h;cases h;rfl
  ·rw[List.getElem?_append_right (by simpa using hi),List.getElem?_replicate] at h
   split at h<;>cases h
 refine⟨.refl fh,?_,λi y h=>?_,λi j y z v w h1 h2 _ _ _ a ha _=>?_⟩
 ·unfold L2.start stE
  simp[hl]
 ·have hx:=at' i y h
  obtain⟨v,hv,r⟩:=vk hp hx
  refine⟨v,?_,?_⟩
  ·unfold L2.start
   rw[List.getElem?_append_left (by simpa using (List.getElem?_eq_some_iff.mp hv).1),List.getElem?_map,hv];rfl
  ·cases y with
   |val d=>exact r
   |bor ds=>exact r
   |acc ds=>exact r.elim
   |oac a dx C fs ds=>exact r.elim
   |tre t=>exact r.elim
   |dct oa kvs=>exact r.elim
   |dbo kvs=>exact r
 ·have hx:=at' i y h1
  obtain⟨u,_,r⟩:=vk hp hx
  cases y with
  |val d=>cases ha
  |bor ds=>cases ha
  |acc ds=>exact r.elim
  |oac a dx C fs ds=>exact r.elim
  |tre t=>exact r.elim
  |dct oa kvs=>exact r.elim
  |dbo kvs=>cases ha
theorem zv {x qual:Str}{st:Stmt}{f:Addr}{fd:FuncData}{N ps:List Str}{k:Nat}{g:SD}(F:Fun K x qual st f fd)(S:FnScope N ps (zd st))
  (hb:∀(cdv:Value) (A:Around) (outer:List Env) (s:Shared) (H:Hp) (E:XK) (B:Bs),Room k (A.deeper (envOfC qual (zd st) s.heap.objs.size f cdv)) ->
   DSs (cxOf CX0 P w K mg base N qual (zd st) f cdv A outer s H E).nox B (zk st) g) :
  FnOk P w K mg base CX0 (k+1) f fd ps (pSp ⟨K,w⟩ ps.length (len? ps.length (mir N g))):=by
 refine F.ok S (λvs H Q E h=>?_) (λcdv A outer s H vs Q E hr h=>?_)
 ·obtain⟨F,xs,o,_,hl,hp,_⟩:=h
  rw[<-xY hp];exact hl
 ·obtain⟨F0,xs,o,fh,hl,hp,hm,k⟩:=h
  refine⟨_,hb cdv A outer s H E ⟨F0,H⟩ hr,?_⟩
  have hm:mir N g xs=some o:=by
   unfold len? at hm
   rw[if_pos hl] at hm
   exact hm
  unfold mir at hm
  cases q:g (stE N (xs.map some)) with
  |none=>rw[q] at hm;cases hm
  |some fl=>
   rw[q] at hm
   refine⟨F0,_,fl,qe (ps:=ps) fh hp,q,?_⟩
   cases fl with
   |next ρ=>cases hm;exact λσ' F' H' r s=>k .non F' H' r.ex rfl
   |ret o'=>cases hm;exact λv F' H' e p=>k v F' H' e p
   |brk ρ=>cases hm
   |cont ρ=>cases hm
def outJ (x dx C:Addr):Option (Option En)->Option (List Str×List D)
 |some (some (.oac a d C' fs ds))=>if a=x/\d=dx/\C'=C then some (fs,ds) else none
 |_=>none
def outI (x dx C:Addr):Option Fl->Option (List Str×List D)
 |some (.next ρ)=>outJ x dx C ρ[0]?
 |_=>none
def mirI (C:Addr)(N:List Str)(g:SD)(x dx:Addr):List En->Option (List Str×List D):=λxs=>outI x dx C (g (stE N (some (.oac x dx C [] [])::xs.map some)))
theorem Gc {x qual:Str}{st:Stmt}{f C:Addr}{fd:FuncData}{N ps:List Str}{k n:Nat}{g:SD}(F:Fun K x qual st f fd)(S:FnScope N ps (zd st))(hn:ps.length=n+1)
  (hb:∀(cdv:Value) (A:Around) (outer:List Env) (s:Shared) (H:Hp) (E:XK) (B:Bs),Room k (A.deeper (envOfC qual (zd st) s.heap.objs.size f cdv)) ->
   DSs (cxOf CX0 P w K mg base N qual (zd st) f cdv A outer s H E).nox B (zk st) g) :
  FnOk P w K mg base CX0 (k+1) f fd ps (iSp ⟨K,w⟩ C n (mirI C N g)):=by
 refine F.ok S (λvs H Q E h=>?_) (λcdv A outer s H vs Q E hr h=>?_)
 ·obtain⟨F,H1,xs,a,dx,vs',fs,ds,rfl,_,_,_,_,_,hl,hp,_⟩:=h
  rw[List.length_cons,<-xY hp,hl,hn]
 ·obtain⟨F0,H1,xs,a,dx,vs',fs,ds,rfl,nx,ndx,nex,rfl,fh,hl,hp,hm,k⟩:=h
  refine⟨_,hb cdv A outer s _ E ⟨F0,H1⟩ hr,?_⟩
  have hx1:(upd H1 dx (.own a)) a=none:=by rw[zg (Ne.symm nex)];exact nx
  have sH:Same H1 (upd (upd H1 dx (.own a)) a (.ins C dx [])):=(yb ndx).trans (yb hx1)
  have r0:=qe (N:=N) (ps:=ps) fh hp
  have hla:=xY hp
  have R:Rep ⟨K,w⟩ ⟨F0,H1⟩ F0 (L2.start N (.ref a::vs')) (upd (upd H1 dx (.own a)) a (.ins C dx [])) (stE N (some (.oac a dx C [] [])::xs.map some)):=by
   have sl:∀i:Nat,(L2.start N (.ref a::vs'))[i+1]?=none∨∀v,(L2.start N (.ref a::vs'))[i+1]?=some (some v)->vs'[i]?=some v:=λi=>.inr λv h=>by
    unfold L2.start at h
    by_cases hi:i < vs'.length
    ·rw[List.getElem?_append_left (by simpa using hi),List.getElem?_map,List.getElem?_cons_succ] at h
     cases q:vs'[i]? with
     |none=>rw[q] at h;cases h
     |some z=>rw[q] at h;cases h;rfl
    ·rw[List.getElem?_append_right (by simpa using hi),List.getElem?_replicate] at h
     split at h<;>cases h
   have at':∀(i:Nat) y,(stE N (some (.oac a dx C [] [])::xs.map some))[i]?=some (some y)->(i=0/\y=.oac a dx C [] [])∨∃j,i=j+1/\xs[j]?=some y:=λi y h=>by
    unfold stE at h
    cases i with
    |zero=>simp at h;exact .inl ⟨rfl,h.symm⟩
    |succ j=>
     refine .inr ⟨j,rfl,?_⟩
     by_cases hi:j < xs.length
     ·rw[List.getElem?_append_left (by simpa using hi),List.getElem?_cons_succ,List.getElem?_map] at h
      cases q:xs[j]? with
      |none=>rw[q] at h;cases h
      |some z=>rw[q] at h;cases h;rfl
     ·rw[List.getElem?_append_right (by simpa using hi),List.getElem?_replicate] at h
      split at h<;>cases h
   refine⟨⟨Same.refl _,sH,fh.trans sH,λ_ h=>.inl h⟩,?_,λi y h=>?_,λi j y z v w h1 h2 _ _ hne b hb hc=>?_⟩
   ·unfold L2.start stE
    simp[hla]
   ·rcases at' i y h with⟨rfl,rfl⟩ | ⟨j,rfl,hx⟩
    ·exact⟨.ref a,by simp[L2.start],[],rfl,zl,rfl,fh.free nx,nx,rfl⟩
    ·obtain⟨v,hv,r⟩:=vk hp hx
     refine⟨v,?_,?_⟩
     ·unfold L2.start
      rw[List.getElem?_append_left (by simpa using (List.getElem?_eq_some_iff.mp hv).1),List.getElem?_map,List.getElem?_cons_succ,hv];rfl
     ·cases y with
      |val d=>exact r
      |bor ds=>exact r
      |acc ds=>exact r.elim
      |oac a dx C fs ds=>exact r.elim
      |tre t=>exact r.elim
      |dct oa kvs=>exact r.elim
      |dbo kvs=>exact r
   ·have own0:∀(i:Nat) y v b,(stE N (some (.oac a dx C [] [])::xs.map some))[i]?=some (some y)->b∈feetE (upd (upd H1 dx (.own a)) a (.ins C dx [])) y v->i=0:=λi y v b h o=>by
     rcases at' i y h with⟨rfl,_⟩ | ⟨j,rfl,hx⟩
     ·rfl
     ·obtain⟨u,_,r⟩:=vk hp hx
      cases y with
      |val d=>cases o
      |bor ds=>cases o
      |acc ds=>exact r.elim
      |oac a dx C fs ds=>exact r.elim
      |tre t=>exact r.elim
      |dct oa kvs=>exact r.elim
      |dbo kvs=>cases o
    exact hne (by rw[own0 i y v b h1 hb,own0 j z w b h2 hc])
  unfold mirI at hm
  cases q:g (stE N (some (.oac a dx C [] [])::xs.map some)) with
  |none=>rw[q] at hm;cases hm
  |some fl=>
   rw[q] at hm
   refine⟨F0,_,fl,R,q,?_⟩
   cases fl with
   |next ρ=>
    refine λσ' F' H' r s=>?_
    replace hm:outJ a dx C ρ[0]?=some (fs,ds):=hm
    unfold outJ at hm
    split at hm
    ·rename_i a' d' C' fs' ds' q0
     split at hm
     ·rename_i hc
      obtain⟨rfl,rfl,rfl⟩:=hc
      cases hm
      obtain⟨v,_,vs,rfl,h1,h2,h3,_,h5⟩:=r.ents 0 _ q0
      exact k F' H' vs r.ex h3 h1 h2 h5
     ·cases hm
    ·cases hm
   |ret o'=>cases hm
   |brk ρ=>cases hm
   |cont ρ=>cases hm
end
section
variable {X:Cx}{B:Bs}{e a b c o:Expr}{es:List Expr}{pos p apos:Pos}{g:EnvD->Option D}{gxs:EnvD->Option (List En)}{x mm:Str}{C:Addr}{n k:Nat}{m:List En->Option En}
def fNeg:D->Option D
 |.int i=>some (.int (-i))
 |_=>none
def gNeg (g:EnvD->Option D):EnvD->Option D:=λρ=>(g ρ).bind fNeg
theorem vZ (ha:DR X B a g):DE X B (.UnaryOp .USub a pos) (gNeg g) :=
 pe_imp (zbs R8 ha) λσ H Q ⟨F,ρ,d,r,hg,k⟩=>by
  unfold gNeg at hg
  cases q:g ρ with
  |none=>rw[q] at hg;cases hg
  |some y=>
   rw[q] at hg
   cases y with
   |int i=>cases hg;exact⟨F,ρ,_,r,q,λv F1 H1 e1 p1=>⟨i,p1.int,k _ F1 H1 e1 rfl⟩⟩
   |_=>cases hg
structure Fx (P:Program)(w:World)(K:PySem.W.Frag)(mg:Str->Option Value)(base:Heap)(x:Str)(k n:Nat)(m:List En->Option En):Prop where
 ex:∃f fd ps,FnOk P w K mg base CX0 k f fd ps (pSp ⟨K,w⟩ n (len? n m))/\mg x=some (.ref f)/\keepIn K (.ref f)=true/\Binds K fd ps []
structure Mx (P:Program)(w:World)(K:PySem.W.Frag)(mg:Str->Option Value)(base:Heap)(C:Addr)(x:Str)(k n:Nat)(m:List En->Option En):Prop where
 ex:∃f fd ps,FnOk P w K mg base CX0 k f fd ps (pSp ⟨K,w⟩ n (len? n m))/\Meth K C x f/\Binds K fd ps []
structure Kx (P:Program)(w:World)(K:PySem.W.Frag)(mg:Str->Option Value)(base:Heap)(C:Addr)(x:Str)(k n:Nat)(mi:List En->Option (List Str×List D)):Prop where
 ex:∃f fd ps mi',FnOk P w K mg base CX0 k f fd ps (iSp ⟨K,w⟩ C n mi')/\Mk K C f/\mg x=some (.ref C)/\Binds K fd ps []/\∀a dx xs,mi' a dx xs=mi xs
theorem zt (h:Fx X.prog X.w X.kw X.mg X.base x k n m)(hr:Room k X.A)(hg:Gl X x)(ha:DNs X B (e::es) gxs)(hdb:(x==("__debug__" : Str))=false:=by decide +kernel)
  (he:starEach (e::es) X.env=(false,eval e X.env)::starEach es X.env:=by rfl) (hpl:(backTo pos (starEach es X.env)).any (·.1)=false:=by rfl):DE X B (.Call (.Name x p) (e::es) [] pos) (gCall (len? n m) frzO gxs):=by
 obtain⟨f,fd,ps,F,hm,hk,hb⟩:=h.ex
 exact zap F hr hg hm hk hb ha hdb he hpl
theorem zX (h:Fx X.prog X.w X.kw X.mg X.base x k n m)(hr:Room k X.A)(hg:Gl X x)(ha:DNs X B (e::es) gxs)(hdb:(x==("__debug__" : Str))=false:=by decide +kernel)
  (he:starEach (e::es) X.env=(false,eval e X.env)::starEach es X.env:=by rfl) (hpl:(backTo pos (starEach es X.env)).any (·.1)=false:=by rfl):DA X B (.Call (.Name x p) (e::es) [] pos) (gCall (len? n m) accO gxs):=by
 obtain⟨f,fd,ps,F,hm,hk,hb⟩:=h.ex
 exact zau F hr hg hm hk hb ha hdb he hpl
theorem Uu {pl:Sem Bool}(ho:DE X B o g)(cl:Cls X.kw C)(h:Mx X.prog X.w X.kw X.mg X.base C mm k n m)(hr:Room k X.A)(ha:DNs X B (e::es) gxs)
  (hst:starEach (e::es) X.env=(false,eval e X.env)::starEach es X.env:=by rfl) (hpl:(backTo pos (starEach es X.env)).any (·.1)=false:=by rfl)
  (ht:eval (.Call (.Attribute o mm apos) (e::es) [] pos) X.env=(do
   let ov <-eval o X.env
   standAt apos.atName
   let (f,first) <-holding [ov] (getMethod ov mm pl)
   callWith pos f first (backTo pos (starEach (e::es) X.env)) (backToKw pos (keywordEach [] X.env))):=by rfl) :
  DE X B (.Call (.Attribute o mm apos) (e::es) [] pos) (gMeth C mm (len? n m) frzO g gxs):=by
 obtain⟨f,fd,ps,F,hm,hb⟩:=h.ex
 exact Ra ho cl hm F hr hb ha hst hpl ht
theorem zaz {mi:List En->Option (List Str×List D)}(h:Kx X.prog X.w X.kw X.mg X.base C x k n mi)(hr:Room (k+1) X.A)(hg:Gl X x)(ha:DNs X B (e::es) gxs)(hdb:(x==("__debug__" : Str))=false:=by decide +kernel)
  (he:starEach (e::es) X.env=(false,eval e X.env)::starEach es X.env:=by rfl) (hpl:(backTo pos (starEach es X.env)).any (·.1)=false:=by rfl):DE X B (.Call (.Name x p) (e::es) [] pos) (gMake C n mi gxs):=by
 obtain⟨f,fd,ps,mi',F,M,hm,hb,hmi⟩:=h.ex
 exact zci hmi M F hr hg hm hb ha hdb he hpl
theorem yc {gs:EnvD->Option (List D)}(hg:Gl X "len") (hm:X.mg "len" = none) (ha:DRs X B [a] gs) (he:starEach [a] X.env=(false,eval a X.env)::starEach [] X.env:=by rfl) (hpl:(backTo pos (starEach [] X.env)).any (·.1)=false:=by rfl) :
  DE X B (.Call (.Name "len" p) [a] [] pos) (gB fLen gs):=vI JB Wc hg hm (by decide +kernel) ha (by decide) (by decide) he hpl
theorem Uw {gs:EnvD->Option (List D)}(hc:X.calm=true)(hg:Gl X "min") (hm:X.mg "min" = none) (ha:DRs X B [a,b] gs) (he:starEach [a,b] X.env=(false,eval a X.env)::starEach [b] X.env:=by rfl) (hpl:(backTo pos (starEach [b] X.env)).any (·.1)=false:=by rfl) :
  DE X B (.Call (.Name "min" p) [a,b] [] pos) (gB fMin gs):=vI (KQ hc) Ul hg hm (by decide +kernel) ha (by decide) (by decide) he hpl
theorem V1 {gs:EnvD->Option (List D)}(hc:X.calm=true)(hg:Gl X "all") (hm:X.mg "all" = none) (ha:DRs X B [a] gs) (he:starEach [a] X.env=(false,eval a X.env)::starEach [] X.env:=by rfl) (hpl:(backTo pos (starEach [] X.env)).any (·.1)=false:=by rfl) :
  DE X B (.Call (.Name "all" p) [a] [] pos) (gB fAll gs):=vI (za0 hc) zae hg hm (by decide +kernel) ha (by decide) (by decide) he hpl
theorem JV {gs:EnvD->Option (List D)}(hg:Gl X "list") (hm:X.mg "list" = none) (ha:DRs X B [a] gs) (he:starEach [a] X.env=(false,eval a X.env)::starEach [] X.env:=by rfl) (hpl:(backTo pos (starEach [] X.env)).any (·.1)=false:=by rfl) :
  DA X B (.Call (.Name "list" p) [a] [] pos) (gB fList gs):=GZ Up za2 hg hm (by decide +kernel) ha (by decide) (by decide) he hpl
theorem kitT {K:PySem.W.Frag}(T:String)(hT:T∈["bool","int","str","list","tuple","dict"]):∀t b,subT t T=some b->kitOne K (.type t) (.type T)=some b:=by
 intro t b h
 unfold subT at h
 by_cases h1:t=T
 ·rw[if_pos h1] at h
  cases h
  subst h1
  unfold kitOne
  rw[if_pos (beq_self_eq_true _)]
 ·rw[if_neg h1] at h
  by_cases h2:t = "bool" /\ T = "int"
  ·rw[if_pos h2] at h
   cases h
   obtain⟨rfl,rfl⟩:=h2
   rfl
  ·rw[if_neg h2] at h
   by_cases h3:(t∈["NoneType","bool","int","str","list","tuple"])/\(T∈["bool","int","str","list","tuple","dict"])
   ·rw[if_pos h3] at h
    cases h
    obtain⟨m1,m2⟩:=h3
    simp only[List.mem_cons,List.not_mem_nil,or_false] at m1 m2
    rcases m1 with rfl | rfl | rfl | rfl | rfl | rfl<;>rcases m2 with rfl | rfl | rfl | rfl | rfl | rfl<;>first | rfl | exact absurd rfl h1 | exact absurd ⟨rfl,rfl⟩ h2
   ·rw[if_neg h3] at h;cases h
def ckFree (sc:List (Str×NameKind))(y:Str×NameKind):Bool:=y.2 != .free||sc.lookup y.1==some .cell||sc.lookup y.1==some .free
def ckComp (names sc:List (Str×NameKind))(N:List Str)(cap:List (Str×Nat)):Bool :=
 names.all (λy=>y.2 != .cell)&&names.all (λy=>y.2 != .local||names.lookup y.1==some .local)&&names.all (ckFree sc)&&cap.all (λp=>names.lookup p.1==some .free&&N[p.2]?==some p.1)
theorem zL {scope:Scope}{own:List Str}{cap:List (Str×Nat)}{sc:List (Str×NameKind)}{N:List Str}(hk:scope.kind=.function)(h1:X.env.scope.names=sc)(h2:X.N=N)(h:ckComp scope.names sc N cap=true):CompScope X scope own cap:=by
 subst h1 h2
 unfold ckComp at h
 simp only[Bool.and_eq_true,List.all_eq_true] at h
 obtain⟨⟨⟨a1,a2⟩,a3⟩,a4⟩:=h
 refine⟨hk,λy hy e=>?_,λy hy e=>?_,λy hy e=>?_,λp hp=>?_⟩
 ·have:=a1 y hy;rw[e] at this;cases this
 ·have:=a2 y hy;rw[e] at this;simpa using this
 ·have:=a3 y hy
  unfold ckFree at this
  rw[e] at this
  have q:List.lookup y.fst X.env.scope.names=some NameKind.cell∨List.lookup y.fst X.env.scope.names=some NameKind.free:=by simpa using this
  exact q
 ·have:=a4 p hp
  simpa using this
end
def thenB (o:Option Fl)(g:SD):Option Fl:=o.bind λfl=>match fl with | .next ρ'=>g ρ' | fl=>some fl
def loopB (o:Option Fl)(k:EnvD->Option Fl):Option Fl:=o.bind λfl=>match fl with | .next ρ2=>k ρ2 | .cont ρ2=>k ρ2 | .brk ρ2=>some (.next ρ2) | .ret o=>some (.ret o)
section
variable {ρ:EnvD}{i k n:Nat}{d x y:D}{ds es:List D}{a b j:Int}{α γ:Type}{ga gb gc' g:EnvD->Option D}{ta tb:EnvD->Option Bool}{gs:EnvD->Option (List D)}{s1 s2:SD}
@[simp]theorem zj7:gc d ρ=some d:=rfl
@[simp]theorem zh4:gv i ρ=match ρ[i]? with | some (some (.val d))=>some d | _=>none:=rfl
@[simp]theorem ziu:gr i ρ=match ρ[i]? with | some (some (.val d))=>some d | some (some (.acc ds))=>some (.lst ds) | some (some (.bor ds))=>some (.lst ds) | _=>none:=rfl
@[simp]theorem zfc:gn i ρ=match ρ[i]? with | some (some (.val d))=>some (.val d) | some (some (.acc ds))=>some (.bor ds) | some (some (.bor ds))=>some (.bor ds) | some (some (.dct _ kvs))=>some (.dbo kvs) | some (some (.dbo kvs))=>some (.dbo kvs) | _=>none:=rfl
@[simp]theorem zgp:gf i ρ=match ρ[i]? with | some (some (.val d))=>some d | some (some (.bor ds))=>some (.lst ds) | _=>none:=rfl
@[simp]theorem zg8:gFz gs ρ=(gs ρ).map D.lst:=rfl
@[simp]theorem zhv {f:D->D->Option γ}:g2 f ga gb ρ=(ga ρ).bind λx=>(gb ρ).bind λy=>f x y:=rfl
@[simp]theorem zit {f f':D->D->Option D}:g3 f f' ga gb gc' ρ=(ga ρ).bind λx=>(gb ρ).bind λy=>((f x y).bind asB).bind λk=>if k then (gc' ρ).bind λz=>f' y z else some (.bl false):=rfl
@[simp]theorem zis:gt g ρ=(g ρ).bind truD:=rfl
@[simp]theorem zgi:gb' g ρ=(g ρ).bind asB:=rfl
@[simp]theorem zgq:gAnd ta tb ρ=(ta ρ).bind λx=>if x then tb ρ else some false:=rfl
@[simp]theorem zf5:gOr ta tb ρ=(ta ρ).bind λx=>if x then some true else tb ρ:=rfl
@[simp]theorem zi1:gNot ta ρ=(ta ρ).map λx=>!x:=rfl
@[simp]theorem zgs:gAndV ga gb ρ=((ga ρ).bind asB).bind λx=>if x then gb ρ else some (.bl false):=rfl
@[simp]theorem zjz:gNotV ga ρ=((ga ρ).bind asB).map λx=>.bl (!x):=rfl
@[simp]theorem zi7:gIf ta ga gb ρ=(ta ρ).bind λx=>if x then ga ρ else gb ρ:=rfl
@[simp]theorem zjs:gNil ρ=some []:=rfl
@[simp]theorem zhq:gCons' g gs ρ=(g ρ).bind λd=>(gs ρ).bind λds=>some (d::ds):=rfl
@[simp]theorem zin:gTup' gs ρ=(gs ρ).bind λds=>if ds.length<=TOP then some (.tup ds) else none:=rfl
@[simp]theorem zii:gLst gs ρ=(gs ρ).bind λds=>if ds.length<=TOP then some ds else none:=rfl
@[simp]theorem zhd {f:List D->Option γ}:gB f gs ρ=(gs ρ).bind f:=rfl
@[simp]theorem zjt:nNil ρ=some []:=rfl
@[simp]theorem zj2 {g:EnvD->Option En}{gs:EnvD->Option (List En)}:nCons g gs ρ=(g ρ).bind λd=>(gs ρ).bind λds=>some (d::ds):=rfl
@[simp]theorem zha:gVal g ρ=(g ρ).map En.val:=rfl
@[simp]theorem zge {T:String}:gIs T g ρ=(g ρ).bind λd=>(tyD d).bind λt=>(subT t T).map D.bl:=rfl
@[simp]theorem zjf:gNone ρ=some none:=rfl
@[simp]theorem zfw:gSome g ρ=(g ρ).bind λd=>(asI d).map some:=rfl
@[simp]theorem zhm:gNeg g ρ=(g ρ).bind fNeg:=rfl
@[simp]theorem zgc:gIt g ρ=(g ρ).bind itL:=rfl
@[simp]theorem zjj {gl gh:EnvD->Option (Option Int)}:gSl g gl gh ρ=(g ρ).bind λd=>(gl ρ).bind λl=>(gh ρ).bind λh=>match d with | .lst ds=>some (cutD ds l h) | _=>none:=rfl
@[simp]theorem zhz:fNeg (.int a)=some (.int (-a)):=rfl
@[simp]theorem zjd:itL (.lst ds)=some ds:=rfl
@[simp]theorem ziy:asI (.int a)=some a:=rfl
@[simp]theorem zhg {b:Bool}:asB (.bl b)=some b:=rfl
@[simp]theorem zf4 {m:List En->Option En}{f:En->Option α}{gs:EnvD->Option (List En)}:gCall m f gs ρ=((gs ρ).bind m).bind f:=rfl
@[simp]theorem zh0 {m:List En->Option En}{xs:List En}:len? n m xs=if xs.length=n then m xs else none:=rfl
@[simp]theorem zgy:frzO (.val d)=some d:=rfl
@[simp]theorem zfb:frzO (.acc ds)=some (.lst ds):=rfl
@[simp]theorem zfl:frzO (.bor ds)=none:=rfl
@[simp]theorem zh2 {p q C:Addr}{fs:List Str}:frzO (.oac p q C fs ds)=none:=rfl
@[simp]theorem zir {t:OT}:frzO (.tre t)=some t.erase:=rfl
@[simp]theorem zgn {t:OT}:accO (.tre t)=none:=rfl
@[simp]theorem zix:accO (.val d)=none:=rfl
@[simp]theorem zfk:accO (.bor ds)=none:=rfl
@[simp]theorem zh7:accO (.acc ds)=some ds:=rfl
@[simp]theorem zjq:gR1 gs ρ=(gs ρ).bind λxs=>match xs with | [.int j]=>if -BIG<=j/\j<=BIG then some (rngD 0 j.toNat) else none | _=>none:=rfl
@[simp]theorem zj8:gEn gs ρ=(gs ρ).bind λxs=>match xs with | [d]=>(itL d).map (enumD 0) | _=>none:=rfl
@[simp]theorem zih:gZip gs ρ=(gs ρ).bind λxs=>match xs with | [d,d']=>(itL d).bind λds=>(itL d').map λes=>zipD ds es | _=>none:=rfl
@[simp]theorem zj9 {C:Addr}{fl:Str}:gFld C fl g ρ=(g ρ).bind λd=>match d with | .obj C' fs ds=>if C'=C then lookZ fl fs ds else none | _=>none:=rfl
@[simp]theorem zhp {C:Addr}{mm:Str}{m:List En->Option En}{f:En->Option α}{go:EnvD->Option D}{gs:EnvD->Option (List En)}:gMeth C mm m f go gs ρ=(go ρ).bind λd=>match d with
 |.obj C' fs ds=>if C'=C/\lookZ mm fs ds=none then ((gs ρ).bind λxs=>m (.val d::xs)).bind f else none
 |_=>none:=rfl
@[simp]theorem ziq {C:Addr}{mi:List En->Option (List Str×List D)}{gs:EnvD->Option (List En)}:gMake C n mi gs ρ=(gs ρ).bind λxs=>if xs.length=n then (mi xs).map λr=>.obj C r.1 r.2 else none:=rfl
@[simp]theorem zgl {own:List Str}{cap:List (Str×Nat)}{t:Tgt}{tc:EnvD->Option Bool}{ge:EnvD->Option D}{gi:EnvD->Option (List D)}:gComp own cap t tc ge gi ρ=(gi ρ).bind λds=>if ds.length<=TOP then compD t tc ge (List.replicate own.length none++capE ρ cap) ds else none:=rfl
@[simp]theorem zhi {cap:List (Str×Nat)}:capE ρ cap=cap.map λp=>capO ρ[p.2]?:=rfl
@[simp]theorem zbh:tYes ρ=some true:=rfl
@[simp]theorem zi8:fSub (.int a) (.int b)=some (.int (a - b)):=rfl
theorem Wf:fMul (.int a) (.int b)=if (decide (-LIM < a)&&decide (a < LIM))||(decide (-LIM < b)&&decide (b < LIM)) then some (.int (a * b)) else none:=rfl
theorem Yo (h1:-LIM < a)(h2:a < LIM):fMul (.int a) (.int b)=some (.int (a * b)):=by rw[Wf,if_pos (by simp[h1,h2])]
theorem zjk (h1:-LIM < b)(h2:b < LIM):fMul (.int a) (.int b)=some (.int (a * b)):=by rw[Wf,if_pos (by simp[h1,h2])]
theorem GR:fDiv (.int a) (.int b)=if decide (0 < b)&&decide (b < 1073741824) then some (.int (a / b)) else none:=rfl
theorem G8:fMod (.int a) (.int b)=if decide (0 < b) then some (.int (a % b)) else none:=rfl
theorem yg (h1:0 < b)(h2:b < 1073741824):fDiv (.int a) (.int b)=some (.int (a / b)):=by rw[GR,if_pos (by simp[h1,h2])]
theorem zM (h1:0 < b):fMod (.int a) (.int b)=some (.int (a % b)):=by rw[G8,if_pos (by simp[h1])]
theorem Jb (h1:0<=b):fShr (.int a) (.int b)=some (.int (a / 2 ^ b.toNat)):=by show (if _ then _ else _)=_;rw[if_pos (by simp[h1])]
@[simp]theorem zhr:fAnd (.int a) (.int b)=some (.int (Builtin.bitAnd a b)):=rfl
theorem zdd:fPow (.int a) (.int b)=if decide (0<=b)&&decide (b<=1000000)&&decide (a.natAbs < 18446744073709551616) then some (.int (a ^ b.toNat)) else none:=rfl
@[simp]theorem zij:fLt (.int a) (.int b)=some (.bl (decide (a < b))):=rfl
@[simp]theorem zji:fLe (.int a) (.int b)=some (.bl (decide (a<=b))):=rfl
@[simp]theorem zgk:fGt (.int a) (.int b)=some (.bl (decide (b < a))):=rfl
@[simp]theorem zig:fIx (.lst ds) (.int a)=atI ds a:=rfl
@[simp]theorem zja:fIx (.tup ds) (.int a)=atI ds a:=rfl
@[simp]theorem zj4 {ns:List Int}:fIx (.scr ns) (.int a)=(atI ns a).map D.int:=rfl
theorem Ja:eqOk (.int a)=true:=by simp[eqOk,SeqAt.shaped,toP,PyData.canLay0,PyData.depth]
@[simp]theorem zfy {neg:Bool}:fEq neg (.int a) (.int b)=some (.bl (if neg then !decide (a=b) else decide (a=b))):=by
 unfold fEq
 rw[Ja,Ja]
 have:eqD (.int a) (.int b)=decide (a=b):=by
  by_cases h:a=b
  ·subst h;simp[eqD,toP,PyData.eqv]
  ·simp[eqD,toP,PyData.eqv,h]
 rw[this];rfl
@[simp]theorem zjy {neg:Bool}:fIs neg d .non=some (.bl (if neg then !isNon d else isNon d)):=by cases d<;>rfl
@[simp]theorem zjb:isNon .non=true:=rfl
@[simp]theorem zi6:isNon (.int a)=false:=rfl
@[simp]theorem zg3 {b:Bool}:truD (.bl b)=some b:=rfl
@[simp]theorem zhu:truD (.lst ds)=some (!ds.isEmpty):=rfl
@[simp]theorem zgv:truD (.tup ds)=some (!ds.isEmpty):=rfl
@[simp]theorem zhh:fLen [.lst ds]=some (.int ds.length):=rfl
@[simp]theorem zj3:fLen [.tup ds]=some (.int ds.length):=rfl
@[simp]theorem zfg {ns:List Int}:fLen [.scr ns]=some (.int ns.length):=rfl
@[simp]theorem zfu:fMin [.int a,.int b]=some (.int (min a b)):=by
 show some (D.int (if b < a then b else a))=_
 congr 2;split<;>omega
@[simp]theorem zgo:fAll [.lst ds]=(asBs ds).map λbs=>.bl (bs.all λx=>x):=rfl
@[simp]theorem zfj:fList [.lst ds]=some ds:=rfl
@[simp]theorem zhj:fList [.tup ds]=some ds:=rfl
@[simp]theorem zfv:tyD (.int a)=some "int" := rfl
@[simp]theorem zka {b:Bool}:tyD (.bl b)=some "bool" := rfl
@[simp]theorem zhe:tyD .non=some "NoneType" := rfl
@[simp]theorem zfp:tyD (.lst ds)=some "list" := rfl
@[simp]theorem zho:tyD (.tup ds)=some "tuple" := rfl
@[simp]theorem zi9 {x:Str}:tyD (.str x)=some "str" := rfl
@[simp]theorem zjx:subT "int" "int" = some true:=by decide
@[simp]theorem zj0:subT "int" "bool" = some false:=by decide
@[simp]theorem zjl:subT "NoneType" "int" = some false:=by decide
@[simp]theorem zgd:subT "list" "list" = some true:=by decide
@[simp]theorem zhb:subT "tuple" "tuple" = some true:=by decide
@[simp]theorem zie:sSeq s1 s2 ρ=thenB (s1 ρ) s2:=rfl
@[simp]theorem zh1:thenB (some (.next ρ)) s2=s2 ρ:=rfl
@[simp]theorem zf8 {o:En}:thenB (some (.ret o)) s2=some (.ret o):=rfl
@[simp]theorem zim:thenB none s2=none:=rfl
@[simp]theorem zil {k:EnvD->Option Fl}:loopB (some (.next ρ)) k=k ρ:=rfl
@[simp]theorem zj6 {k:EnvD->Option Fl}{o:En}:loopB (some (.ret o)) k=some (.ret o):=rfl
@[simp]theorem zje {k:EnvD->Option Fl}:loopB none k=none:=rfl
@[simp]theorem zfm:sNext ρ=some (.next ρ):=rfl
@[simp]theorem zfx:sNever ρ=none:=rfl
@[simp]theorem zjv:sSet i g ρ=(g ρ).map λd=>.next (ρ.set i (some (.val d))):=rfl
@[simp]theorem zhk:sSetA i gs ρ=(gs ρ).map λds=>.next (ρ.set i (some (.acc ds))):=rfl
@[simp]theorem zic:sRet g ρ=(g ρ).map λd=>.ret (.val d):=rfl
@[simp]theorem zik:sRetA gs ρ=(gs ρ).map λd=>.ret (.acc d):=rfl
@[simp]theorem zfr:sRetV i ρ=match ρ[i]? with | some (some (.acc ds))=>some (.ret (.acc ds)) | some (some (.val d))=>some (.ret (.val d)) | _=>none:=rfl
@[simp]theorem zhn:sIf ta s1 s2 ρ=(ta ρ).bind λb=>if b then s1 ρ else s2 ρ:=rfl
@[simp]theorem zgu:sExpr g ρ=(g ρ).map λ_=>.next ρ:=rfl
@[simp]theorem zf9:sApp i g ρ=match ρ[i]? with | some (some (.acc ds))=>(g ρ).bind λd=>if ds.length<=TOP then some (.next (ρ.set i (some (.acc (ds++[d]))))) else none | _=>none:=rfl
@[simp]theorem ziv:sPop i ρ=match ρ[i]? with | some (some (.acc ds))=>if ds.isEmpty then none else some (.next (ρ.set i (some (.acc ds.dropLast)))) | _=>none:=rfl
@[simp]theorem zi5 {gi:EnvD->Option D}:sPut i gi g ρ=match ρ[i]? with | some (some (.acc ds))=>(g ρ).bind λd=>((gi ρ).bind asI).bind λj=>(ixN ds.length j).map λn=>.next (ρ.set i (some (.acc (ds.set n d)))) | _=>none:=rfl
@[simp]theorem zg2 {C:Addr}{fl:Str}:sFldD i C fl g ρ=match ρ[i]? with | some (some (.oac a dx C' fs ds))=>if C'=C/\fs.length < 900 then (g ρ).map λd=>.next (ρ.set i (some (.oac a dx C (putZ fl d fs ds).1 (putZ fl d fs ds).2))) else none | _=>none:=rfl
@[simp]theorem zfe {t:Tgt}{gi:EnvD->Option (List D)}:sFor t gi s1 ρ=(gi ρ).bind λds=>forD t s1 ds ρ:=rfl
@[simp]theorem Gz:asgD (.name i) d ρ=some (ρ.set i (some (.val d))):=rfl
@[simp]theorem zgj {is:List Nat}:asgD (.tup is) (.tup ds) ρ=if ds.length=is.length then some (zI is ds ρ) else none:=rfl
@[simp]theorem zif {is:List Nat}:zI (i::is) (d::ds) ρ=zI is ds (ρ.set i (some (.val d))):=rfl
@[simp]theorem zft:zI [] [] ρ=ρ:=rfl
@[simp]theorem zjh {o:En}:outO (some (.ret o))=some o:=rfl
@[simp]theorem zf6:outO (some (.next ρ))=some (.val .non):=rfl
@[simp]theorem zi0 {t:Tgt}:forD t s1 [] ρ=some (.next ρ):=rfl
@[simp]theorem zh8 {t:Tgt}:forD t s1 (d::ds) ρ=loopB ((asgD t d ρ).bind s1) (forD t s1 ds):=by
 show ((asgD t d ρ).bind λρ1=>(s1 ρ1).bind λfl=>_)=_
 cases asgD t d ρ with
 |none=>rfl
 |some ρ1=>rfl
@[simp]theorem zfd {t:Tgt}:compD t ta g ρ []=some []:=rfl
@[simp]theorem yi {t:Tgt}:compD t ta g ρ (d::ds)=(asgD t d ρ).bind λρ1=>(ta ρ1).bind λb=>if b then (g ρ1).bind λy=>(compD t ta g ρ ds).map (y::·) else compD t ta g ρ ds:=rfl
@[simp]theorem zfq:capO (some (some (.val d)))=some (.val d):=rfl
@[simp]theorem zf0:capO (some (some (.acc ds)))=some (.bor ds):=rfl
@[simp]theorem zh3:capO (some (some (.bor ds)))=some (.bor ds):=rfl
@[simp]theorem zgh {oa:Option Addr}{kvs:List (Key×D)}:capO (some (some (.dct oa kvs)))=some (.dbo kvs):=rfl
@[simp]theorem zjp {kvs:List (Key×D)}:capO (some (some (.dbo kvs)))=some (.dbo kvs):=rfl
theorem yy {xs:List α}{v:α}(n:Nat)(h:xs[n]?=some v):atI xs (n:Int)=some v:=by
 have hl:n < xs.length:=(List.getElem?_eq_some_iff.mp h).1
 unfold atI ixN
 rw[if_pos (by omega),if_pos (by omega)]
 simpa using h
@[simp]theorem zfz {xs:List α}{v:α}:atI (v::xs) 0=some v:=yy 0 rfl
@[simp]theorem zh5 {xs:List α}{v w:α}:atI (w::v::xs) 1=some v:=yy 1 rfl
@[simp]theorem zgr {xs:List α}{v w u:α}:atI (u::w::v::xs) 2=some v:=yy 2 rfl
@[simp]theorem qI {xs:List α}{v:α}:atI (xs++[v]) (-1)=some v:=by
 unfold atI ixN
 rw[if_neg (by omega),if_pos (by simp;omega)]
 simp
 have:(-1+((xs.length:Int)+1)).toNat=xs.length:=by omega
 rw[this];simp
theorem zeh (n:Nat):ixN (n+1) (-1)=some n:=by
 unfold ixN
 rw[if_neg (by omega),if_pos (by omega)]
 congr 1;omega
theorem y3:∀(lo:Int) (n:Nat),rngD lo n=(List.range n).map λ(k:Nat)=>D.int (lo+k)
 |lo,0=>rfl
 |lo,n+1=>by
  rw[rngD,y3 (lo+1) n,List.range_succ_eq_map]
  simp only[List.map_cons,List.map_map]
  congr 1
  ·simp
  ·apply List.map_congr_left
   intro a _
   show D.int _=D.int _
   congr 1
   show lo+1+(a:Int)=lo+((a+1:Nat):Int)
   omega
end
section
variable {X:Cx}{B:Bs}{e a b c o:Expr}{es:List Expr}{pos p apos cpos p2:Pos}{g ga gb go:EnvD->Option D}{gs:EnvD->Option (List D)}{x:Str}
def fPlus:D->D->Option D
 |.int i,.int j=>some (.int (i+j))
 |.str x,.str y=>if x.length+y.length<=TOP then some (.str (x++y)) else none
 |_,_=>none
theorem UA {K:KW}:OkR K (λx y H Q=>rI0 (λi j=>.int (i+j)) x y H Q∨∃i j,x=.str i/\y=.str j/\i.length+j.length<=sizeLine/\Q (.str (i++j)) H) (pE K) fPlus:=by
 intro F H x y dx dy d Q s rx ry e k
 unfold fPlus at e
 split at e
 ·cases e;exact .inl ⟨_,_,rx.int,ry.int,k _ F H (.refl s) rfl⟩
 ·split at e
  ·rename_i hc
   cases e;exact .inr ⟨_,_,rx.str,ry.str,ym hc,k _ F H (.refl s) rfl⟩
  ·cases e
 ·cases e
theorem zD (ha:DR X B a ga)(hb:DR X B b gb):DE X B (.BinOp a .Add b pos) (g2 fPlus ga gb):=xa (op_add.or UB) UA ha hb
def fItem:D->D->Option D
 |.str z,.int i=>if z.length<=TOP then (atI z.cps.toList i).map λc=>.str ⟨#[c]⟩ else none
 |.lst xs,.int i=>atI xs i
 |.tup xs,.int i=>atI xs i
 |.scr ns,.int i=>(atI ns i).map D.int
 |_,_=>none
theorem zc3 {K:KW}:OkR K (rIx K) (pE K) fItem:=by
 intro F H x y dx dy d Q s rx ry e k
 cases dx with
 |str z=>
  cases dy with
  |int i=>
   replace e:(if z.length<=TOP then (atI z.cps.toList i).map (λc=>D.str ⟨#[c]⟩) else none)=some d:=e
   split at e
   ·rename_i hc
    cases q:atI z.cps.toList i with
    |none=>rw[q] at e;cases e
    |some c=>
     rw[q] at e
     cases e
     exact .inr (.inr ⟨z,i,c,rx.str,ry.int,ym hc,q,k _ F H (.refl s) rfl⟩)
   ·cases e
  |_=>cases e
 |lst xs=>exact u8 F H x y _ dy d Q s rx ry (by cases dy<;>first | exact e | cases e) k
 |tup xs=>exact u8 F H x y _ dy d Q s rx ry (by cases dy<;>first | exact e | cases e) k
 |scr xs=>exact u8 F H x y _ dy d Q s rx ry (by cases dy<;>first | exact e | cases e) k
 |_=>cases dy<;>cases e
theorem zx (ha:DR X B a ga)(hb:DR X B b gb)(hs:wS b):DE X B (.Subscript a b pos) (g2 fItem ga gb):=Qw jI zc3 ha hb hs
def rSlS:V->Option Int->Option Int->Hp->VK->Prop:=λx lo hi H Q=>∃z,x=.str z/\z.length<=sizeLine/\Q (.str (Txt.slice z lo hi)) H
theorem Rn:SlR X rSlS:=by
 intro pins s σ H x v vl vu lo hi sl Q I rx hs pl pu h
 obtain⟨z,rfl,hz,q⟩:=h
 obtain⟨t,rfl⟩:=rx
 refine⟨"str",_,PySem.F.slot_str_getitem.lookup,typeIs_str _ _ _,?_⟩
 cases pl with
 |none=>
  cases pu with
  |none=>exact wpAny_getItem_str_slice (l:=none) (u:=none) (st:=none) hs rfl (post_val_or_str ⟨Nat.le_trans (Txt.slice_le z none none) hz,λt' k=>⟨.str _,H,I.tok _,⟨_,rfl⟩,q⟩⟩)
  |int j tj=>exact wpAny_getItem_str_slice (l:=none) (u:=some (j,tj)) (st:=none) hs rfl (post_val_or_str ⟨Nat.le_trans (Txt.slice_le z none (some j)) hz,λt' k=>⟨.str _,H,I.tok _,⟨_,rfl⟩,q⟩⟩)
 |int i ti=>
  cases pu with
  |none=>exact wpAny_getItem_str_slice (l:=some (i,ti)) (u:=none) (st:=none) hs rfl (post_val_or_str ⟨Nat.le_trans (Txt.slice_le z (some i) none) hz,λt' k=>⟨.str _,H,I.tok _,⟨_,rfl⟩,q⟩⟩)
  |int j tj=>exact wpAny_getItem_str_slice (l:=some (i,ti)) (u:=some (j,tj)) (st:=none) hs rfl (post_val_or_str ⟨Nat.le_trans (Txt.slice_le z (some i) (some j)) hz,λt' k=>⟨.str _,H,I.tok _,⟨_,rfl⟩,q⟩⟩)
def gSlS (g:EnvD->Option D)(gl gh:EnvD->Option (Option Int)):EnvD->Option D:=λρ=>(g ρ).bind λd=>(gl ρ).bind λl=>(gh ρ).bind λh=>match d with
 |.str z=>if z.length<=TOP then some (.str (Txt.slice z l h)) else none
 |_=>none
theorem Kt {lo hi:Option Expr}{gl gh:EnvD->Option (Option Int)}(he:DR X B e g)(hl:DO X B lo gl)(hh:DO X B hi gh):DE X B (.Subscript e (.Slice lo hi none p2) pos) (gSlS g gl gh) :=
 pe_imp (YF Rn he hl hh) λσ H Q ⟨F,ρ,d,r,hg,k⟩=>by
  unfold gSlS at hg
  cases q:g ρ with
  |none=>rw[q] at hg;cases hg
  |some x=>
   cases ql:gl ρ with
   |none=>rw[q,ql] at hg;cases hg
   |some l=>
    cases qh:gh ρ with
    |none=>rw[q,ql,qh] at hg;cases hg
    |some h=>
     rw[q,ql,qh] at hg
     cases x with
     |str z=>
      replace hg:(if z.length<=TOP then some (D.str (Txt.slice z l h)) else none)=some d:=hg
      split at hg
      ·rename_i hc
       cases hg
       refine⟨F,ρ,_,r,q,λv F1 H1 e1 p1=>⟨F1,ρ,l,r.ext e1,ql,λF2 H2 e2=>⟨F2,ρ,h,r.ext (e1.trans e2),qh,λF3 H3 e3=>?_⟩⟩⟩
       exact⟨z,p1.str,ym hc,k _ F3 H3 (e1.trans (e2.trans e3)) rfl⟩
      ·cases hg
     |_=>cases hg
def asSs:List D->Option (List Str)
 | []=>some []
 |.str x::r=>(asSs r).map (x::·)
 |_=>none
theorem VR {K:KW}{F:Hp}:∀ {ds:List D} {vs:List V} {bs:List Str},asSs ds=some bs->Rps K F ds vs->vs=bs.map V.str
 | [],_,_,e,h=>by cases e;cases h;rfl
 |.str b::r,_,_,e,⟨v,w,e1,h,t⟩=>by
  subst e1;cases h
  cases q:asSs r with
  |none=>rw[show asSs (.str b::r)=(asSs r).map (b::·) from rfl,q] at e;cases e
  |some bs=>
   rw[show asSs (.str b::r)=(asSs r).map (b::·) from rfl,q] at e
   cases e
   rw[VR q t];rfl
 |.non::_,_,_,e,_=>by cases e
 |.int _::_,_,_,e,_=>by cases e
 |.bl _::_,_,_,e,_=>by cases e
 |.lst _::_,_,_,e,_=>by cases e
 |.tup _::_,_,_,e,_=>by cases e
 |.scr _::_,_,_,e,_=>by cases e
 |.obj _ _ _::_,_,_,e,_=>by cases e
def gSM (f:D->List D->Option D)(go:EnvD->Option D)(gs:EnvD->Option (List D)):EnvD->Option D:=λρ=>(go ρ).bind λd=>(gs ρ).bind λds=>f d ds
def rCatS (K:KW):R2:=λx y H Q=>∃l b xs zs,x=.ref l/\y=.ref b/\SqL K H l xs/\SqL K H b zs/\xs.length+zs.length<=sizeLine/\∀p,H p=none->Q (.ref p) (upd H p (.lst (xs++zs)))
theorem QZ:OpR X (binaryOp .Add) (rCatS X.kw):=by
 intro pins s σ H x y v u Q I rx ry h
 obtain⟨l,b,xs,zs,rfl,rfl,hH,hB,hz,q⟩:=h
 cases rx
 cases ry
 obtain⟨its,r,pl,z⟩:=I.list hH
 obtain⟨its2,r2,pl2,z2⟩:=I.list hB
 obtain⟨⟨cls,dd,data,sl⟩,n,ho,hc,hd',hd⟩:=pl
 obtain⟨⟨cls2,dd2,data2,sl2⟩,n2,ho2,hc2,hd2',hd2⟩:=pl2
 simp only at hc hd hc2 hd2
 subst hc hd hc2 hd2
 have e:its.toArray++its2.toArray=(its++its2).toArray:=by simp
 have l1:=r.length
 have l2:=r2.length
 refine concat_meets ⟨_,ho,rfl⟩ ⟨_,ho2,rfl⟩ noFill_list_add seq_list_add PySem.F.slot_list_add PySem.F.entry_list_add (PySem.F.args_list_add_2 _ _) (list_addW l b its.toArray its2.toArray n n2 dd dd2 sl sl2 (by simp;omega)) ⟨ho,ho2,?_⟩
 rw[e]
 exact⟨.ref _,_,I.lnew (t':=s.toks) (r.append r2) (by rw[List.length_append];omega),rfl,q _ I.fresh⟩
def fCatS:D->D->Option (List D):=λx y=>(itL x).bind λxs=>(itL y).bind λys=>if xs.length+ys.length<=TOP then some (xs++ys) else none
theorem KG {K:KW}:OkR K (rCatS K) (pA K) fCatS:=by
 intro F H x y dx dy d Q s rx ry e k
 unfold fCatS at e
 obtain⟨xs,ys,q1,q2,q3⟩:=bind2 e
 split at q3
 ·rename_i hc
  cases q3
  obtain⟨l,vs,rfl,h2,h1⟩:=wg rx q1
  obtain⟨b,ws,rfl,h4,h3⟩:=wg ry q2
  refine⟨l,b,vs,ws,rfl,rfl,h1 F H (Same.refl _) s (Same.refl _),h3 F H (Same.refl _) s (Same.refl _),ym (by rw[<-h2.length,<-h4.length];exact hc),λp hp=>k _ F _ (.new s hp) ⟨p,_,rfl,hp,zl,s.free hp,h2.append h4⟩⟩
 ·cases q3
theorem qt (ha:DR X B a ga)(hb:DR X B b gb):DA X B (.BinOp a .Add b pos) (g2 fCatS ga gb):=Vp QZ KG ha hb
def whileD (t:EnvD->Option Bool)(gb:SD):Nat->EnvD->Option Fl
 |0,_=>none
 |n+1,ρ=>(t ρ).bind λb=>if b then (gb ρ).bind λfl=>match fl with
  |.next ρ2=>whileD t gb n ρ2
  |.cont ρ2=>whileD t gb n ρ2
  |.brk ρ2=>some (.next ρ2)
  |.ret o=>some (.ret o)
  else some (.next ρ)
theorem km {t:EnvD->Option Bool}{gb:SD}:∀ {n:Nat} {ρ:EnvD} {fl:Fl},whileD t gb n ρ=some fl->whileD t gb (n+1) ρ=some fl
 |0,_,_,h=>by cases h
 |n+1,ρ,fl,h=>by
  rw[whileD] at h ⊢
  cases q:t ρ with
  |none=>rw[q] at h;cases h
  |some b=>
   rw[q] at h
   cases b with
   |false=>exact h
   |true=>
    replace h:((gb ρ).bind λfl=>match fl with
     |.next ρ2=>whileD t gb n ρ2
     |.cont ρ2=>whileD t gb n ρ2
     |.brk ρ2=>some (.next ρ2)
     |.ret o=>some (.ret o))=some fl:=h
    show ((gb ρ).bind λfl=>match fl with
     |.next ρ2=>whileD t gb (n+1) ρ2
     |.cont ρ2=>whileD t gb (n+1) ρ2
     |.brk ρ2=>some (.next ρ2)
     |.ret o=>some (.ret o))=some fl
    cases q2:gb ρ with
    |none=>rw[q2] at h;cases h
    |some f=>
     rw[q2] at h
     cases f with
     |next ρ2=>exact km h
     |cont ρ2=>exact km h
     |brk ρ2=>exact h
     |ret o=>exact h
theorem Vw {t:EnvD->Option Bool}{gb:SD}{n m:Nat}{ρ:EnvD}{fl:Fl}(hm:n<=m)(h:whileD t gb n ρ=some fl):whileD t gb m ρ=some fl:=by
 induction hm with
 |refl=>exact h
 |step _ ih=>exact km ih
open Classical in
def sWhile (t:EnvD->Option Bool)(gb:SD):SD:=λρ=>if h:∃n fl,whileD t gb n ρ=some fl then some (Classical.choose (Classical.choose_spec h)) else none
theorem uh {t:EnvD->Option Bool}{gb:SD}{n:Nat}{ρ:EnvD}{fl:Fl}(h:whileD t gb n ρ=some fl):sWhile t gb ρ=some fl:=by
 unfold sWhile
 have hx:∃n fl,whileD t gb n ρ=some fl:=⟨n,fl,h⟩
 rw[dif_pos hx]
 have q:=Classical.choose_spec (Classical.choose_spec hx)
 generalize Classical.choose (Classical.choose_spec hx)=f at q
 generalize Classical.choose hx=k at q
 have a1:=Vw (Nat.le_max_left n k) h
 have a2:=Vw (Nat.le_max_right n k) q
 rw[a1] at a2
 exact a2.symm
theorem Rw {t:EnvD->Option Bool}{gb:SD}{ρ:EnvD}{fl:Fl}(h:sWhile t gb ρ=some fl):∃n,whileD t gb n ρ=some fl:=by
 unfold sWhile at h
 split at h
 ·rename_i hx
  cases h
  exact⟨_,Classical.choose_spec (Classical.choose_spec hx)⟩
 ·cases h
theorem kK {body:List Stmt}{t:EnvD->Option Bool}{gbd:SD}(hp:PassesOwn (model X.prog X.w) X.A X.env X.xe)(hc:DT X B c t)(hb:DSs X B body gbd):DS X B (.While c body [] pos) (sWhile t gbd) :=
 zH (GP hp hc hb) λE σ H ⟨F,ρ,fl,r,hg,k⟩=>by
  obtain⟨n,hn⟩:=Rw hg
  refine⟨λm σ H=>∃F2 ρ2,Rep X.kw B F2 σ H ρ2/\Same F F2/\whileD t gbd m ρ2=some fl,⟨n,F,ρ,r,Same.refl _,hn⟩,?_⟩
  rintro m σ2 H2 ⟨F2,ρ2,r2,s2,h2⟩
  cases m with
  |zero=>cases h2
  |succ m=>
   rw[whileD] at h2
   cases q:t ρ2 with
   |none=>rw[q] at h2;cases h2
   |some bb=>
    rw[q] at h2
    refine⟨F2,ρ2,bb,r2,q,λF3 H3 e3=>?_⟩
    cases bb with
    |false=>
     cases h2
     exact iteF (k σ2 F3 H3 (r2.ext e3) (s2.trans e3.ff))
    |true=>
     refine iteT ⟨λσ' H'=>∃F4 ρ4,Rep X.kw B F4 σ' H' ρ4/\Same F F4/\whileD t gbd m ρ4=some fl,λσ' H' h=>⟨m,Nat.lt_succ_self _,h⟩,?_⟩
     replace h2:((gbd ρ2).bind λfl=>match fl with
      |.next ρ2=>whileD t gbd m ρ2
      |.cont ρ2=>whileD t gbd m ρ2
      |.brk ρ2=>some (.next ρ2)
      |.ret o=>some (.ret o))=some fl:=h2
     cases q2:gbd ρ2 with
     |none=>rw[q2] at h2;cases h2
     |some f1=>
      rw[q2] at h2
      refine⟨F3,ρ2,f1,r2.ext e3,q2,?_⟩
      cases f1 with
      |next ρ5=>exact λσ5 F5 H5 r5 s5=>⟨F5,ρ5,r5,(s2.trans e3.ff).trans s5,h2⟩
      |cont ρ5=>exact λσ5 F5 H5 r5 s5=>⟨F5,ρ5,r5,(s2.trans e3.ff).trans s5,h2⟩
      |brk ρ5=>cases h2;exact λσ5 F5 H5 r5 s5=>k σ5 F5 H5 r5 ((s2.trans e3.ff).trans s5)
      |ret o=>cases h2;exact k
def MutOk (K:KW)(r:V->List V->Hp->VK->Prop)(f:List D->List D->Option (List D)):Prop :=
 ∀F H a vs ds us es ds' Q,H a=some (.lst vs)->Rps K F ds vs->Paired (λd v=>Rp K F d v) es us->f ds es=some ds'->(∀v vs',Rps K F ds' vs'->Q v (upd H a (.lst vs')))->r (.ref a) us H Q
variable {nm:Str}{id:String}{r:V->List V->Hp->VK->Prop}{f:List D->List D->Option (List D)}
theorem QP {own:List Str}{cap:List (Str×Nat)}{t:Tgt}{tc:EnvD->Option Bool}{ge:EnvD->Option D}{gi:EnvD->Option (List D)}(ht:∀i∈t.slots,i < own.length) :
  ∀σ H Q,lG X.kw B (pA X.kw) (gComp own cap t tc ge gi) σ H Q->tComp (lI X.kw B (λH=>H) gi) own cap (tgT X.kw t) (λσ H Q=>∃B',lT X.kw B' tc σ H Q) (λσ H Q=>∃B',lG X.kw B' (pE X.kw) ge σ H Q) σ H Q:=by
 intro σ H Q ⟨F,ρ,out,r,hg,k⟩
 unfold gComp at hg
 cases q:gi ρ with
 |none=>rw[q] at hg;cases hg
 |some ds=>
  rw[q] at hg
  have hg:(if ds.length<=TOP then compD t tc ge (List.replicate own.length none++capE ρ cap) ds else none)=some out:=hg
  split at hg
  ·rename_i htop
   refine⟨F,ρ,ds,r,q,λJ F1 H1 e1 jok=>?_⟩
   refine⟨λi m ys H2=>m=ds.length - i/\i<=ds.length/\∃F2 o1 o2,Ext F1 H1 F2 H2/\Rps X.kw F2 o1 ys/\o1.length<=i/\compD t tc ge (List.replicate own.length none++capE ρ cap) (ds.drop i)=some o2/\out=o1++o2,
    ⟨ds.length,rfl,Nat.zero_le _,F1,[],out,.refl e1.fh,rfl,Nat.le_refl _,hg,rfl⟩,?_⟩
   rintro i m ys H2 ⟨rfl,hi,F2,o1,o2,e2,ry,hl1,h2,rfl⟩
   refine⟨ym (by rw[<-ry.length];omega),?_⟩
   obtain⟨j1,j2⟩:=jok F2 H2 e2.ff e2.fh e2.hh i
   by_cases hlt:i < ds.length
   ·obtain⟨go,yl⟩:=j1 hlt
    refine .inr ⟨go,λys' H'=>∃F3 p1 p2,Ext F1 H1 F3 H'/\Rps X.kw F3 p1 ys'/\p1.length<=i+1/\compD t tc ge (List.replicate own.length none++capE ρ cap) (ds.drop (i+1))=some p2/\o1++o2=p1++p2,λys' H' ⟨F3,p1,p2,e3,r3,l3,h3,eo⟩=>⟨ds.length - (i+1),by omega,rfl,hlt,F3,p1,p2,e3,r3,l3,h3,eo⟩,λx H3 hy σ1 hσ=>?_⟩
    obtain⟨F3,d,e3,hd,rd⟩:=yl x H3 hy
    have hdd:ds.drop i=d::ds.drop (i+1):=by
     rw[List.drop_eq_getElem_cons hlt]
     congr 1
     rw[List.getElem?_eq_getElem hlt] at hd
     exact Option.some.inj hd
    rw[hdd] at h2
    simp only[compD] at h2
    cases q1:asgD t d (List.replicate own.length none++capE ρ cap) with
    |none=>rw[q1] at h2;cases h2
    |some ρ1=>
     rw[q1] at h2
     have e13:=e2.trans e3
     refine uS (uT (own:=own) (cap:=cap) r e1 e13 hσ) rd q1 λσ' r4 so=>⟨?_,?_⟩
     ·obtain⟨σ1',l1,e4⟩:=so.pre (σ1:=σ1) rfl (λj hj=>by rw[hσ];exact ht j hj)
      exact⟨σ1',by rw[l1,hσ],e4⟩
     ·have h2:((tc ρ1).bind λb=>if b then (ge ρ1).bind λy=>(compD t tc ge (List.replicate own.length none++capE ρ cap) (ds.drop (i+1))).map (y::·) else compD t tc ge (List.replicate own.length none++capE ρ cap) (ds.drop (i+1)))=some o2:=h2
      cases q2:tc ρ1 with
      |none=>rw[q2] at h2;cases h2
      |some bb=>
       rw[q2] at h2
       refine⟨⟨F1,H1⟩,F3,ρ1,bb,r4,q2,λF5 H5 e5=>?_⟩
       cases bb with
       |false=>exact iteF ⟨F5,o1,o2,e13.trans e5,ry.mono (e3.ff.trans e5.ff),by omega,h2,rfl⟩
       |true=>
        have h2:((ge ρ1).bind λy=>(compD t tc ge (List.replicate own.length none++capE ρ cap) (ds.drop (i+1))).map (y::·))=some o2:=h2
        cases q3:ge ρ1 with
        |none=>rw[q3] at h2;cases h2
        |some y=>
         rw[q3] at h2
         have h2:(compD t tc ge (List.replicate own.length none++capE ρ cap) (ds.drop (i+1))).map (y::·)=some o2:=h2
         cases q4:compD t tc ge (List.replicate own.length none++capE ρ cap) (ds.drop (i+1)) with
         |none=>rw[q4] at h2;cases h2
         |some p2=>
          rw[q4] at h2
          cases h2
          refine iteT ⟨⟨F1,H1⟩,F5,ρ1,y,r4.ext e5,q3,λv F6 H6 e6 p6=>?_⟩
          exact⟨F6,o1++[y],p2,e13.trans (e5.trans e6),(ry.mono (e3.ff.trans (e5.ff.trans e6.ff))).snoc p6,by simp;omega,rfl,by simp⟩
   ·have hi':i=ds.length:=by omega
    have hdd:ds.drop i=[]:=by rw[hi',List.drop_length]
    rw[hdd] at h2
    cases h2
    refine .inl ⟨j2 hi',λD hD=>?_⟩
    have e:=e1.trans e2
    exact k _ F2 _ (e.trans (.new e.fh hD)) ⟨D,ys,rfl,e.hh.free hD,zl,e.fh.free hD,by simpa using ry⟩
  ·cases hg
theorem zek {gl:EnvD->Option (List D)}{σ:St}{H:Hp}{Q:VK}(h:lG X.kw B (pE X.kw) (gFz gl) σ H Q):lG X.kw B (pA X.kw) gl σ H Q:=by
 obtain⟨F,ρ,x,r,hg,k⟩:=h
 unfold gFz at hg
 cases q:gl ρ with
 |none=>rw[q] at hg;cases hg
 |some ds=>
  rw[q] at hg;cases hg
  refine⟨F,ρ,ds,r,q,λv F' H' e p=>?_⟩
  obtain⟨a,vs,rfl,p1,p2,p3,p4⟩:=p
  exact k _ (upd F' a (.lst vs)) H' (e.freeze p1 p3 p2) ⟨a,vs,rfl,zl,p4.mono (yb p3)⟩
section
variable {i:Nat}{y:Str}{py spos:Pos}{elt tg iter:Expr}{ifs:List Expr}{scope:Scope}{own:List Str}{cap:List (Str×Nat)}{t:Tgt}{tc:EnvD->Option Bool}{ge:EnvD->Option D}{gi:EnvD->Option (List D)}
theorem zcd (hc:X.calm=true)(S:CompScope X scope own cap)(hi:DI X B (λH=>H) tg iter gi)
  (hin:∀(B':Bs) C s₀ H₀ fp pn,PG (cxc X scope C (own++cap.map (·.1)) s₀ H₀ fp pn) tg (tgT X.kw t)/\DIfs (cxc X scope C (own++cap.map (·.1)) s₀ H₀ fp pn) B' ifs tc/\DE (cxc X scope C (own++cap.map (·.1)) s₀ H₀ fp pn) B' elt ge)
  (hN:X.N.Nodup) (hiy:X.N[i]?=some y) (hy:Loc X.env.scope y) (hsw:swapsWith (.ListComp elt [⟨tg,iter,ifs,0⟩] scope pos) (some (.Name y py)) spos.line X.env=pure true)
  (hs:∀x,foldedSetIterable iter X.env x=pure x) (hfn:X.fn y=true∨X.env.scope.names.lookup y=some .local) :
  PS X (.Assign [.Name y py] (.ListComp elt [⟨tg,iter,ifs,0⟩] scope pos) spos) (tAsg (tComp (lI X.kw B (λH=>H) gi) own cap (tgT X.kw t) (λσ H Q=>∃B',lT X.kw B' tc σ H Q) (λσ H Q=>∃B',lG X.kw B' (pE X.kw) ge σ H Q)) (gName i)) :=
 Ro (tc:=λσ H Q=>∃B',lT X.kw B' tc σ H Q) (te:=λσ H Q=>∃B',lG X.kw B' (pE X.kw) ge σ H Q) hc S hi (λC s₀ H₀ fp pn=>⟨(hin ⟨H₀,H₀⟩ C s₀ H₀ fp pn).1,λpins s σ H Q I ⟨B',q⟩=>(hin B' C s₀ H₀ fp pn).2.1 pins s σ H Q I q,λpins s σ H Q I ⟨B',q⟩=>(hin B' C s₀ H₀ fp pn).2.2 pins s σ H Q I q⟩) hN hiy hy hsw hs hfn
theorem jZ (hc:X.calm=true)(S:CompScope X scope own cap)(hi:DI X B (λH=>H) tg iter gi)(ht:∀i∈t.slots,i < own.length)
  (hin:∀(B':Bs) C s₀ H₀ fp pn,PG (cxc X scope C (own++cap.map (·.1)) s₀ H₀ fp pn) tg (tgT X.kw t)/\DIfs (cxc X scope C (own++cap.map (·.1)) s₀ H₀ fp pn) B' ifs tc/\DE (cxc X scope C (own++cap.map (·.1)) s₀ H₀ fp pn) B' elt ge)
  (hN:X.N.Nodup) (hiy:X.N[i]?=some y) (hy:Loc X.env.scope y) (hsw:swapsWith (.ListComp elt [⟨tg,iter,ifs,0⟩] scope pos) (some (.Name y py)) spos.line X.env=pure true:=by rfl)
  (hs:∀x,foldedSetIterable iter X.env x=pure x:=by intro _;rfl) (hfn:X.fn y=true∨X.env.scope.names.lookup y=some .local:=by first | exact .inl rfl | exact .inr rfl | assumption) :
  DS X B (.Assign [.Name y py] (.ListComp elt [⟨tg,iter,ifs,0⟩] scope pos) spos) (sSet i (gFz (gComp own cap t tc ge gi))) :=
 zH (zcd hc S hi hin hN hiy hy hsw hs hfn) λE σ H h=>QP ht σ H _ (zek (VY h))
end
end
def pH (K:KW):Post D:=λ_ _ _ H' d v=>Rp K H' d v
def DH (X:Cx)(B:Bs)(e:Expr)(g:EnvD->Option D):Prop:=PE X e (lG X.kw B (pH X.kw) g)
def DHs (X:Cx)(B:Bs)(es:List Expr)(g:EnvD->Option (List D)):Prop:=PA X es (lAs X.kw B (pH X.kw) g)
section
variable {X:Cx}{B:Bs}{e a b c o:Expr}{es:List Expr}{pos p p2 apos cpos:Pos}{g ga gb go:EnvD->Option D}{gs:EnvD->Option (List D)}{x:Str}
def gh (i:Nat):EnvD->Option D:=λρ=>match ρ[i]? with
 |some (some (.val d))=>some d
 |some (some (.acc ds))=>some (.lst ds)
 |some (some (.bor ds))=>some (.lst ds)
 |some (some (.tre t))=>some t.erase
 |_=>none
theorem UD (i:Nat)(h:PE X (.Name x pos) (tVar i)):DH X B (.Name x pos) (gh i) :=
 pe_imp h λσ H Q ⟨F,ρ,d,r,hg,k⟩=>by
  unfold gh at hg
  split at hg
  ·rename_i d' e
   cases hg
   obtain⟨v,h1,h2⟩:=r.ents i _ e
   exact⟨v,h1,k v F H (.refl r.fh) (Rp.mono r.fh h2)⟩
  ·rename_i ds e
   cases hg
   obtain⟨v,h1,a,vs,e1,e2,e3,e4,e5⟩:=r.ents i _ e
   exact⟨v,h1,k v F H (.refl r.fh) ⟨a,vs,e1,e2,e5.mono r.fh⟩⟩
  ·rename_i ds e
   cases hg
   obtain⟨v,h1,a,vs,e1,e2,e5⟩:=r.ents i _ e
   exact⟨v,h1,k v F H (.refl r.fh) ⟨a,vs,e1,r.ex.hh _ _ e2,e5.mono r.fh⟩⟩
  ·rename_i t e
   cases hg
   obtain⟨v,h1,h2,_⟩:=r.ents i _ e
   exact⟨v,h1,k v F H (.refl r.fh) (RepO.read r.fh h2)⟩
  ·cases hg
theorem U1 {F H H':Hp}(s:Same F H)(h:Same H H'):Ext F H F H':=⟨Same.refl _,h,s.trans h,λ_ q=>.inl q⟩
def isAtom:D->Bool
 |.non=>true
 |.bl _=>true
 |.int _=>true
 |.str _=>true
 |_=>false
theorem Rp.atom {K:KW}{F H:Hp}{d:D}{v:V}(h:isAtom d=true)(r:Rp K H d v):Rp K F d v:=by
 cases d<;>first | exact r | cases h
theorem U7:DHs X B [] gNil:=yu yd λσ H Q ⟨F,ρ,ds,r,hg,k⟩=>by cases hg;exact k [] F H (.refl r.fh) .nil
theorem GN (ha:DH X B e g)(hr:DHs X B es gs)(hs:starEach (e::es) X.env=(false,eval e X.env)::starEach es X.env:=by rfl):DHs X B (e::es) (gCons' g gs) :=
 yu (zN ha hr hs) λσ H Q ⟨F,ρ,ds,r,hg,k⟩=>by
  obtain⟨d,dr,q1,q2,q3⟩:=bind2 hg
  cases q3
  exact⟨F,ρ,d,r,q1,λv F1 H1 e1 p1=>⟨F1,ρ,dr,r.ext e1,q2,λvs F2 H2 e2 p2=>k _ F2 H2 (e1.trans e2) (.cons (Rp.mono e2.hh p1) p2)⟩⟩
theorem Uz {ds:List D}{d:D}(h:fLen ds=some d):isAtom d=true:=by
 unfold fLen at h
 split at h
 ·cases h;rfl
 ·cases h;rfl
 ·cases h;rfl
 ·split at h
  ·cases h;rfl
  ·cases h
 ·cases h
theorem R6 (hg:Gl X "len") (hm:X.mg "len" = none) (ha:DHs X B [a] gs) (he:starEach [a] X.env=(false,eval a X.env)::starEach [] X.env:=by rfl) (hpl:(backTo pos (starEach [] X.env)).any (·.1)=false:=by rfl) :
  DE X B (.Call (.Name "len" p) [a] [] pos) (gB fLen gs) :=
 pe_imp (ju JB hg hm (by decide +kernel) ha (by decide) (by decide) he hpl) λσ H Q ⟨F,ρ,d,rr,hg,k⟩=>by
  unfold gB at hg
  cases q:gs ρ with
  |none=>rw[q] at hg;cases hg
  |some ds=>
   rw[q] at hg
   refine⟨F,ρ,ds,rr,q,λvs F1 H1 e1 p1=>?_⟩
   refine Wc H1 H1 vs ds d Q (Same.refl H1) (Paired.imp' (λ_ _ r=>.inl r) p1) hg λv F' H' ex p=>?_
   exact k v F1 H' (e1.trans (U1 e1.fh ex.hh)) (p.atom (Uz hg))
def pT (K:KW):Post OT:=λ_ H F' H' t v=>RepO K F' H' t v/\(feetO H' t v).Nodup/\∀a∈feetO H' t v,H a=none/\F' a=none
def DTr (X:Cx)(B:Bs)(e:Expr)(g:EnvD->Option OT):Prop:=PE X e (lG X.kw B (pT X.kw) g)
def lTs (K:KW)(B:Bs)(g:EnvD->Option (List OT)):TA:=λσ H Q=>
 ∃F ρ ts,Rep K B F σ H ρ/\g ρ=some ts/\∀vs F' H',Ext F H F' H'->RepOs K F' H' ts vs->(feetOs H' ts vs).Nodup->(∀a∈feetOs H' ts vs,H a=none/\F' a=none)->Q vs H'
def DTrs (X:Cx)(B:Bs)(es:List Expr)(g:EnvD->Option (List OT)):Prop:=PA X es (lTs X.kw B g)
def lfs (ds:List D):List OT:=ds.map OT.frz
theorem lfs_rep {K:KW}{F H:Hp}:∀ {ds:List D} {vs:List V},RepOs K F H (lfs ds) vs↔Rps K F ds vs
 | [],_=>Iff.rfl
 |d::ds,vs=>by
  constructor
  ·rintro ⟨v,r,e,h,t⟩;exact⟨v,r,e,h,lfs_rep.mp t⟩
  ·rintro ⟨v,r,e,h,t⟩;exact⟨v,r,e,h,lfs_rep.mpr t⟩
theorem Zi {H:Hp}:∀ {ds:List D} {vs:List V},feetOs H (lfs ds) vs=[]
 | [],_=>rfl
 |d::ds,vs=>by
  cases vs with
  |nil=>rfl
  |cons v r=>show feetO H (.frz d) v++feetOs H (lfs ds) r=[];rw[Zi];rfl
def gLs (g:EnvD->Option (List D)):EnvD->Option OT:=λρ=>(g ρ).map λds=>OT.lst (lfs ds)
theorem DA.tree {gl:EnvD->Option (List D)}(h:DA X B e gl):DTr X B e (gLs gl):=pe_imp h λσ H Q ⟨F,ρ,t,r,hg,k⟩=>by
 unfold gLs at hg
 cases q:gl ρ with
 |none=>rw[q] at hg;cases hg
 |some ds=>
  rw[q] at hg;cases hg
  refine⟨F,ρ,ds,r,q,λv F' H' e p=>k v F' H' e ?_⟩
  obtain⟨a,vs,rfl,p1,p2,p3,p4⟩:=p
  have hf:feetO H' (.lst (lfs ds)) (.ref a)=[a]:=by simp only[feetO,zB p2,Zi]
  refine⟨⟨a,vs,rfl,p2,lfs_rep.mpr p4⟩,by rw[hf];simp,λb hb=>?_⟩
  rw[hf,List.mem_singleton] at hb
  subst hb
  exact⟨p1,p3⟩
def tNl:EnvD->Option (List OT):=λ_=>some []
def tCn (g:EnvD->Option OT)(gs:EnvD->Option (List OT)):EnvD->Option (List OT):=λρ=>(g ρ).bind λd=>(gs ρ).bind λds=>some (d::ds)
variable {gt':EnvD->Option OT}{gts:EnvD->Option (List OT)}
theorem zbo:DTrs X B [] tNl:=yu yd λσ H Q ⟨F,ρ,ds,r,hg,k⟩=>by cases hg;exact k [] F H (.refl r.fh) rfl List.nodup_nil (λa ha=>by cases ha)
theorem Yk (ha:DTr X B e gt')(hr:DTrs X B es gts)(hs:starEach (e::es) X.env=(false,eval e X.env)::starEach es X.env:=by rfl):DTrs X B (e::es) (tCn gt' gts) :=
 yu (zN ha hr hs) λσ H Q ⟨F,ρ,ds,r,hg,k⟩=>by
  obtain⟨t,ts,q1,q2,q3⟩:=bind2 hg
  cases q3
  refine⟨F,ρ,t,r,q1,λv F1 H1 e1 ⟨p1,p2,p3⟩=>⟨F1,ρ,ts,r.ext e1,q2,λvs F2 H2 e2 s1 s2 s3=>?_⟩⟩
  obtain⟨u1,u2⟩:=RepO.ext e2.ff e2.hh p1
  have hfe:feetOs H2 (t::ts) (v::vs)=feetO H1 t v++feetOs H2 ts vs:=by rw[<-u2];rfl
  refine k _ F2 H2 (e1.trans e2) ⟨v,vs,rfl,u1,s1⟩ ?_ λa ha=>?_
  ·rw[hfe,List.nodup_append]
   refine⟨p2,s2,λa ha b hb hab=>?_⟩
   subst hab
   exact RepO.feet p1 ha (s3 a hb).1
  ·rw[hfe,List.mem_append] at ha
   rcases ha with ha | ha
   ·exact⟨(p3 a ha).1,vN e2 (p3 a ha).2 (RepO.feet p1 ha)⟩
   ·exact⟨e1.hh.free (s3 a ha).1,(s3 a ha).2⟩
def gTupT (gs:EnvD->Option (List OT)):EnvD->Option OT:=λρ=>(gs ρ).bind λts=>if ts.length<=TOP then some (.tup ts) else none
theorem RepOs.length {K:KW}{F H:Hp}:∀ {ts:List OT} {vs:List V},RepOs K F H ts vs->ts.length=vs.length
 | [],_,h=>by cases h;rfl
 |_::_,_,⟨_,_,e,_,t⟩=>by subst e;simp[RepOs.length t]
theorem Uc {x1}(h:DTrs X B es gts):DTr X B (.Tuple es x1 pos) (gTupT gts) :=
 pe_imp (uI h) λσ H Q ⟨F,ρ,t,r,hg,k⟩=>by
  unfold gTupT at hg
  cases q:gts ρ with
  |none=>rw[q] at hg;cases hg
  |some ts=>
   rw[q] at hg
   have hg:(if ts.length<=TOP then some (OT.tup ts) else none)=some t:=hg
   split at hg
   ·rename_i hc
    cases hg
    refine⟨F,ρ,ts,r,q,λvs F1 H1 e1 p1 p2 p3=>⟨ym (by rw[<-p1.length];exact hc),λp hp=>?_⟩⟩
    have hn:p∉feetOs H1 ts vs:=λz=>RepOs.feet p1 z hp
    obtain⟨u1,u2⟩:=RepOs.other (o:=.tup vs) p1 hn
    have hf:feetO (upd H1 p (.tup vs)) (.tup ts) (.ref p)=p::feetOs H1 ts vs:=by simp only[feetO,zP zl,u2]
    refine k _ F1 _ (e1.trans (.new e1.fh hp)) ⟨⟨p,vs,rfl,zl,u1⟩,by rw[hf];exact List.nodup_cons.mpr ⟨hn,p2⟩,λa ha=>?_⟩
    rw[hf,List.mem_cons] at ha
    rcases ha with rfl | ha
    ·exact⟨e1.hh.free hp,e1.fh.free hp⟩
    ·exact p3 a ha
   ·cases hg
def treO:En->Option OT
 |.tre t=>some t
 |_=>none
variable {gxs:EnvD->Option (List En)}{n k:Nat}{m:List En->Option En}
theorem Km {n:Nat}{m:List En->Option En}(hm:∀xs o,m xs=some o->xs.length=n){E:XK}{σ:St}{H:Hp}{Q:VK}(h:lG X.kw B (pT X.kw) (gCall m treO gxs) σ H Q):tCall (pSp X.kw n m) [] E (lNs X.kw B gxs) σ H Q:=by
 obtain⟨F,ρ,d,r,hg,k⟩:=h
 obtain⟨xs,o,q1,q2,q3⟩:=bindC hg
 refine⟨F,ρ,xs,r,q1,λvs F1 H1 e1 p1=>?_⟩
 show pSp X.kw n m (vs++[]) H1 Q E
 rw[List.append_nil]
 refine⟨F1,xs,o,e1.fh,hm xs o q2,p1,q2,λv F2 H2 e2 p2=>?_⟩
 cases o with
 |tre t=>
  cases q3
  obtain⟨h1,h2,h3⟩:=p2
  exact k v F2 H2 (e1.trans e2) ⟨h1,h2,λa ha=>⟨e1.hh.free (h3 a ha).2,(h3 a ha).1⟩⟩
 |_=>cases q3
theorem Zp (h:Fx X.prog X.w X.kw X.mg X.base x k n m)(hr:Room k X.A)(hg:Gl X x)(ha:DNs X B (e::es) gxs)(hdb:(x==("__debug__" : Str))=false:=by decide +kernel)
  (he:starEach (e::es) X.env=(false,eval e X.env)::starEach es X.env:=by rfl) (hpl:(backTo pos (starEach es X.env)).any (·.1)=false:=by rfl):DTr X B (.Call (.Name x p) (e::es) [] pos) (gCall (len? n m) treO gxs):=by
 obtain⟨f,fd,ps,F,hm,hk,hb⟩:=h.ex
 exact pe_imp (y2 F hr hg hm hk hb .nil pass0 ha hdb he hpl) λσ H Q h=>Km yO h
def sRetT (g:EnvD->Option OT):SD:=λρ=>(g ρ).map λt=>.ret (.tre t)
theorem Zz (he:DTr X B e gt'):DS X B (.Return (some e) pos) (sRetT gt'):=zH (yH he) λE σ H ⟨F,ρ,fl,r,hg,k⟩=>by
 unfold sRetT at hg
 cases q:gt' ρ with
 |none=>rw[q] at hg;cases hg
 |some t=>
  rw[q] at hg;cases hg
  exact⟨F,ρ,t,r,q,λv F1 H1 e1 ⟨p1,p2,p3⟩=>k v F1 H1 (r.ex.trans e1) ⟨p1,p2,λa ha=>⟨(p3 a ha).2,r.ex.hh.free (p3 a ha).1⟩⟩⟩
def sSetT (i:Nat)(g:EnvD->Option OT):SD:=λρ=>(g ρ).map λt=>.next (ρ.set i (some (.tre t)))
theorem ub {i:Nat}{y:Str}{pos':Pos}(hN:X.N.Nodup)(hi:X.N[i]?=some y)(hx:Loc X.env.scope y)(he:DTr X B e gt')(hs:swapsWith e (some (.Name y pos')) pos.line X.env=pure false:=by rfl)(hf:X.fn y=true∨X.env.scope.names.lookup y=some .local:=by first | exact .inl rfl | exact .inr rfl | assumption) :
  DS X B (.Assign [.Name y pos'] e pos) (sSetT i gt'):=zH (vT hN hi hx he hs hf) λE σ H ⟨F,ρ,fl,r,hg,k⟩=>by
 unfold sSetT at hg
 cases q:gt' ρ with
 |none=>rw[q] at hg;cases hg
 |some t=>
  rw[q] at hg;cases hg
  refine⟨F,ρ,t,r,q,λv F1 H1 e1 ⟨p1,p2,p3⟩=>k _ F1 H1 ((r.ext e1).seto (x:=.tre t) ⟨p1,p2,λa ha=>⟨(p3 a ha).2,r.ex.hh.free (p3 a ha).1⟩⟩ ?_) e1.ff⟩
  intro j z w hj hs _ a ha hc
  obtain⟨w',hw,hr⟩:=r.ents j z hj
  rw[hs] at hw;cases hw
  rw[hr.feet_ext e1.hh] at hc
  exact (hr.feet_at hc).1 (p3 a ha).1
mutual
def OT.get:OT->List Nat->Option OT
 |t,[]=>some t
 |.lst ts,k::p=>gets ts k p
 |.tup ts,k::p=>gets ts k p
 |.frz _,_::_=>none
def gets:List OT->Nat->List Nat->Option OT
 | [],_,_=>none
 |t::_,0,p=>t.get p
 |_::ts,k+1,p=>gets ts k p
end
mutual
def OT.put:OT->List Nat->OT->OT
 |_,[],u=>u
 |.lst ts,k::p,u=>.lst (puts ts k p u)
 |.tup ts,k::p,u=>.tup (puts ts k p u)
 |.frz d,_::_,_=>.frz d
def puts:List OT->Nat->List Nat->OT->List OT
 | [],_,_,_=>[]
 |t::ts,0,p,u=>t.put p u::ts
 |t::ts,k+1,p,u=>t::puts ts k p u
end
def valAt (H:Hp):V->List Nat->Option V
 |v,[]=>some v
 |.ref a,k::p=>((itemsH H a)[k]?).bind λw=>valAt H w p
 |_,_::_=>none
def valsAt (H:Hp)(vs:List V)(k:Nat)(p:List Nat):Option V:=(vs[k]?).bind λw=>valAt H w p
structure At (K:KW)(F H:Hp)(ft:List Addr)(ds:List D)(b:Addr)(vs:List V):Prop where
 hb:H b=some (.lst vs)
 rp:Rps K F ds vs
 mem:b∈ft
mutual
theorem RepO.path {K:KW}{F H:Hp}{ds:List D}:∀ {t:OT} {v:V} {p:List Nat},RepO K F H t v->(feetO H t v).Nodup->t.get p=some (.lst (lfs ds)) ->
  ∃b vs,valAt H v p=some (.ref b)/\At K F H (feetO H t v) ds b vs/\∀ds' vs',Rps K F ds' vs'->RepO K F (upd H b (.lst vs')) (t.put p (.lst (lfs ds'))) v/\feetO (upd H b (.lst vs')) (t.put p (.lst (lfs ds'))) v=feetO H t v
 |t,v,[],r,hn,e=>by
  have e:t=.lst (lfs ds):=by cases t<;>(simp[OT.get] at e;first | exact e | simp[e] | skip)<;>first | rfl | cases e
  subst e
  obtain⟨b,vs,rfl,q,r⟩:=r
  refine⟨b,vs,rfl,⟨q,lfs_rep.mp r,by simp[feetO]⟩,λds' vs' h=>?_⟩
  have ep:(OT.lst (lfs ds)).put [] (.lst (lfs ds'))=.lst (lfs ds'):=by simp[OT.put]
  rw[ep]
  exact⟨⟨b,vs',rfl,zl,lfs_rep.mpr h⟩,by simp only[feetO,zB q,zB zl,Zi]⟩
 |.frz _,v,_::_,r,hn,e=>by simp[OT.get] at e
 |.lst ts,_,k::p,⟨a,us,e1,q,r⟩,hn,e=>by
  subst e1
  simp only[feetO,zB q,List.nodup_cons] at hn
  simp only[OT.get] at e
  obtain⟨b,vs,h1,⟨h2,h3,h4⟩,h5⟩:=RepOs.path r hn.2 e
  have hne:a≠b:=λz=>hn.1 (z ▸ h4)
  refine⟨b,vs,by simp only[valAt,zB q];exact h1,⟨h2,h3,by simp only[feetO,zB q,List.mem_cons];exact .inr h4⟩,λds' vs' h=>?_⟩
  obtain⟨k1,k2⟩:=h5 ds' vs' h
  have q':upd H b (.lst vs') a=some (.lst us):=by rw[zg hne];exact q
  simp only[OT.put]
  exact⟨⟨a,us,rfl,q',k1⟩,by simp only[feetO,zB q,zB q',k2]⟩
 |.tup ts,_,k::p,⟨a,us,e1,q,r⟩,hn,e=>by
  subst e1
  simp only[feetO,zP q,List.nodup_cons] at hn
  simp only[OT.get] at e
  obtain⟨b,vs,h1,⟨h2,h3,h4⟩,h5⟩:=RepOs.path r hn.2 e
  have hne:a≠b:=λz=>hn.1 (z ▸ h4)
  refine⟨b,vs,by simp only[valAt,zP q];exact h1,⟨h2,h3,by simp only[feetO,zP q,List.mem_cons];exact .inr h4⟩,λds' vs' h=>?_⟩
  obtain⟨k1,k2⟩:=h5 ds' vs' h
  have q':upd H b (.lst vs') a=some (.tup us):=by rw[zg hne];exact q
  simp only[OT.put]
  exact⟨⟨a,us,rfl,q',k1⟩,by simp only[feetO,zP q,zP q',k2]⟩
theorem RepOs.path {K:KW}{F H:Hp}{ds:List D}:∀ {ts:List OT} {us:List V} {k:Nat} {p:List Nat},RepOs K F H ts us->(feetOs H ts us).Nodup->gets ts k p=some (.lst (lfs ds)) ->
  ∃b vs,valsAt H us k p=some (.ref b)/\At K F H (feetOs H ts us) ds b vs/\∀ds' vs',Rps K F ds' vs'->RepOs K F (upd H b (.lst vs')) (puts ts k p (.lst (lfs ds'))) us/\feetOs (upd H b (.lst vs')) (puts ts k p (.lst (lfs ds'))) us=feetOs H ts us
 | [],_,_,_,_,_,e=>by simp[gets] at e
 |t::ts,_,0,p,⟨v,r,e1,h1,h2⟩,hn,e=>by
  subst e1
  simp only[feetOs,List.nodup_append] at hn
  simp only[gets] at e
  obtain⟨b,vs,g1,⟨g2,g3,g4⟩,g5⟩:=RepO.path h1 hn.1 e
  refine⟨b,vs,by simpa[valsAt] using g1,⟨g2,g3,by simp only[feetOs,List.mem_append];exact .inl g4⟩,λds' vs' h=>?_⟩
  obtain⟨k1,k2⟩:=g5 ds' vs' h
  obtain⟨o1,o2⟩:=RepOs.other (o:=.lst vs') h2 (λz=>hn.2.2 b g4 b z rfl)
  simp only[puts]
  exact⟨⟨v,r,rfl,k1,o1⟩,by simp only[feetOs,k2,o2]⟩
 |t::ts,_,k+1,p,⟨v,r,e1,h1,h2⟩,hn,e=>by
  subst e1
  simp only[feetOs,List.nodup_append] at hn
  simp only[gets] at e
  obtain⟨b,vs,g1,⟨g2,g3,g4⟩,g5⟩:=RepOs.path h2 hn.2.1 e
  refine⟨b,vs,by simpa[valsAt] using g1,⟨g2,g3,by simp only[feetOs,List.mem_append];exact .inr g4⟩,λds' vs' h=>?_⟩
  obtain⟨k1,k2⟩:=g5 ds' vs' h
  obtain⟨o1,o2⟩:=RepO.other (o:=.lst vs') h1 (λz=>hn.2.2 b z b g4 rfl)
  simp only[puts]
  exact⟨⟨v,r,rfl,o1,k1⟩,by simp only[feetOs,k2,o2]⟩
end
end
mutual
theorem RepO.getp {K:KW}{F H:Hp}:∀ {t:OT} {v:V} {p:List Nat} {u:OT},RepO K F H t v->t.get p=some u->∃w,valAt H v p=some w/\RepO K F H u w
 |t,v,[],u,r,e=>by
  have e:t=u:=by cases t<;>(simp[OT.get] at e;exact e)
  subst e
  exact⟨v,rfl,r⟩
 |.frz _,v,_::_,u,r,e=>by simp[OT.get] at e
 |.lst ts,_,k::p,u,⟨a,us,e1,q,r⟩,e=>by
  subst e1
  simp only[OT.get] at e
  obtain⟨w,h1,h2⟩:=RepOs.getp r e
  exact⟨w,by simp only[valAt,zB q];exact h1,h2⟩
 |.tup ts,_,k::p,u,⟨a,us,e1,q,r⟩,e=>by
  subst e1
  simp only[OT.get] at e
  obtain⟨w,h1,h2⟩:=RepOs.getp r e
  exact⟨w,by simp only[valAt,zP q];exact h1,h2⟩
theorem RepOs.getp {K:KW}{F H:Hp}:∀ {ts:List OT} {us:List V} {k:Nat} {p:List Nat} {u:OT},RepOs K F H ts us->gets ts k p=some u->∃w,valsAt H us k p=some w/\RepO K F H u w
 | [],_,_,_,_,_,e=>by simp[gets] at e
 |t::ts,_,0,p,u,⟨v,r,e1,h1,h2⟩,e=>by
  subst e1
  simp only[gets] at e
  obtain⟨w,g1,g2⟩:=RepO.getp h1 e
  exact⟨w,by simpa[valsAt] using g1,g2⟩
 |t::ts,_,k+1,p,u,⟨v,r,e1,h1,h2⟩,e=>by
  subst e1
  simp only[gets] at e
  obtain⟨w,g1,g2⟩:=RepOs.getp h2 e
  exact⟨w,by simpa[valsAt] using g1,g2⟩
end
def OT.size:OT->Option Nat
 |.lst ts=>some ts.length
 |.tup ts=>some ts.length
 |.frz _=>none
def unLfs:List OT->Option (List D)
 | []=>some []
 |.frz d::ts=>(unLfs ts).map (d::·)
 |_::_=>none
theorem VM:∀ {ts:List OT} {ds:List D},unLfs ts=some ds->ts=lfs ds
 | [],_,e=>by cases e;rfl
 |.frz d::ts,ds,e=>by
  cases q:unLfs ts with
  |none=>rw[show unLfs (.frz d::ts)=(unLfs ts).map (d::·) from rfl,q] at e;cases e
  |some ds'=>
   rw[show unLfs (.frz d::ts)=(unLfs ts).map (d::·) from rfl,q] at e
   cases e
   rw[VM q];rfl
 |.lst _::_,_,e=>by cases e
 |.tup _::_,_,e=>by cases e
theorem kF:∀(ds:List D),unLfs (lfs ds)=some ds
 | []=>rfl
 |d::ds=>by show (unLfs (lfs ds)).map (d::·)=_;rw[kF ds];rfl
def OT.leaf:OT->Option (List D)
 |.lst ts=>unLfs ts
 |_=>none
theorem Zj {u:OT}{ds:List D}(h:u.leaf=some ds):u=.lst (lfs ds):=by
 cases u with
 |lst ts=>rw[VM (show unLfs ts=some ds from h)]
 |_=>cases h
section
variable {X:Cx}{B:Bs}{e a b c o:Expr}{es:List Expr}{pos p p2 apos cpos:Pos}{g ga gb go:EnvD->Option D}{gs:EnvD->Option (List D)}{x nm:Str}{gp:EnvD->Option (List Nat)}
variable {id:String}{r:V->List V->Hp->VK->Prop}{f:List D->List D->Option (List D)}
end
section
variable {ρ:EnvD}{i:Nat}{t:OT}{ga gb:EnvD->Option D}{gs:EnvD->Option (List D)}{gp:EnvD->Option (List Nat)}{ds:List D}{gt':EnvD->Option OT}{gts:EnvD->Option (List OT)}{gl:EnvD->Option (List D)}{α:Type}
@[simp]theorem zh6:gh i ρ=match ρ[i]? with | some (some (.val d))=>some d | some (some (.acc ds))=>some (.lst ds) | some (some (.bor ds))=>some (.lst ds) | some (some (.tre t))=>some t.erase | _=>none:=rfl
@[simp]theorem zgg:gLs gl ρ=(gl ρ).map λds=>OT.lst (lfs ds):=rfl
@[simp]theorem zhl:tNl ρ=some []:=rfl
@[simp]theorem zg1:tCn gt' gts ρ=(gt' ρ).bind λd=>(gts ρ).bind λds=>some (d::ds):=rfl
@[simp]theorem zjc:gTupT gts ρ=(gts ρ).bind λts=>if ts.length<=TOP then some (.tup ts) else none:=rfl
@[simp]theorem zfs:treO (.tre t)=some t:=rfl
@[simp]theorem zg4 {d:D}:treO (.val d)=none:=rfl
@[simp]theorem zju:treO (.acc ds)=none:=rfl
@[simp]theorem zfi:sRetT gt' ρ=(gt' ρ).map λt=>.ret (.tre t):=rfl
@[simp]theorem Rv:sSetT i gt' ρ=(gt' ρ).map λt=>.next (ρ.set i (some (.tre t))):=rfl
@[simp]theorem zg5:OT.leaf (.lst (lfs ds))=some ds:=kF ds
@[simp]theorem zhx {d:D}:(OT.frz d).erase=d:=by simp[OT.erase]
@[simp]theorem zid {ts:List OT}:(OT.tup ts).erase=.tup (erases ts):=by simp[OT.erase]
@[simp]theorem zib:erases []=[]:=by simp[erases]
@[simp]theorem zi3 {ts:List OT}:erases (t::ts)=t.erase::erases ts:=by simp[erases]
end
section
variable {ρ:EnvD}{i k n m:Nat}{d x y:D}{ds es:List D}{a b j:Int}{α γ:Type}{ga gb gc' g:EnvD->Option D}{ta tb:EnvD->Option Bool}{gs:EnvD->Option (List D)}{s1 s2:SD}{p q:Str}{ns:List Int}
@[simp]theorem zjm:fPlus (.int a) (.int b)=some (.int (a+b)):=rfl
@[simp]theorem ziz:fPlus (.str p) (.str q)=if p.length+q.length<=TOP then some (.str (p++q)) else none:=rfl
@[simp]theorem zga:fItem (.lst ds) (.int a)=atI ds a:=rfl
@[simp]theorem zgt:fItem (.tup ds) (.int a)=atI ds a:=rfl
@[simp]theorem zgw:fItem (.scr ns) (.int a)=(atI ns a).map D.int:=rfl
theorem Ye:fItem (.str p) (.int a)=if p.length<=TOP then (atI p.cps.toList a).map λc=>.str ⟨#[c]⟩ else none:=rfl
@[simp]theorem zf3 {gl gh:EnvD->Option (Option Int)}:gSlS g gl gh ρ=(g ρ).bind λd=>(gl ρ).bind λl=>(gh ρ).bind λh=>match d with | .str z=>if z.length<=TOP then some (.str (Txt.slice z l h)) else none | _=>none:=rfl
@[simp]theorem zio {f:D->List D->Option D}:gSM f ga gs ρ=(ga ρ).bind λd=>(gs ρ).bind λds=>f d ds:=rfl
@[simp]theorem zfn:itL (.scr ns)=some (ns.map D.int):=rfl
@[simp]theorem zfa:fCatS x y=(itL x).bind λxs=>(itL y).bind λys=>if xs.length+ys.length<=TOP then some (xs++ys) else none:=rfl
@[simp]theorem zfo:tyD (.str p)=some "str" := rfl
@[simp]theorem zi2:isNon (.lst ds)=false:=rfl
@[simp]theorem zjr:fList [.scr ns]=some (ns.map D.int):=rfl
theorem fEqB {neg u v:Bool}:fEq neg (.bl u) (.bl v)=some (.bl (if neg then !(u==v) else (u==v))):=by
 cases neg<;>cases u<;>cases v<;>rfl
theorem jT {t:EnvD->Option Bool}(h:t ρ=some false):whileD t s1 (n+1) ρ=some (.next ρ):=by
 rw[whileD,h];rfl
theorem qj {t:EnvD->Option Bool}{ρ2:EnvD}(h:t ρ=some true)(h2:s1 ρ=some (.next ρ2)):whileD t s1 (n+1) ρ=whileD t s1 n ρ2:=by
 rw[whileD,h]
 show ((s1 ρ).bind _)=_
 rw[h2];rfl
theorem kP {xs:List α}(h:0<=a):cutD xs none (some a)=xs.take a.toNat:=by
 simp only[cutD,HT.sIx]
 rw[if_neg (show ¬a < 0 by omega)]
 simp only[Nat.sub_zero,List.drop_zero]
 by_cases h2:a.toNat<=xs.length
 ·rw[Nat.min_eq_left h2]
 ·rw[Nat.min_eq_right (by omega),List.take_of_length_le (Nat.le_refl _),List.take_of_length_le (by omega)]
theorem Qu {xs:List α}(h:0<=a):cutD xs (some a) none=xs.drop a.toNat:=by
 simp only[cutD,HT.sIx]
 rw[if_neg (show ¬a < 0 by omega)]
 by_cases h2:a.toNat<=xs.length
 ·rw[Nat.min_eq_left h2]
  exact List.take_of_length_le (by simp)
 ·rw[Nat.min_eq_right (by omega),List.drop_of_length_le (Nat.le_refl _),List.drop_of_length_le (by omega)];simp
theorem zgx {β:Type}{f:α->β}{xs:List α}{l h:Option Int}:cutD (xs.map f) l h=(cutD xs l h).map f:=by
 unfold cutD;simp[List.map_drop,List.map_take]
theorem jt {xs:List α}(h1:0<=a)(h2:a < xs.length):∃v,atI xs a=some v/\xs[a.toNat]?=some v:=by
 obtain⟨n,rfl⟩:∃n:Nat,a=(n:Int):=⟨a.toNat,by omega⟩
 have hl:n < xs.length:=by omega
 exact⟨xs[n],yy n (List.getElem?_eq_getElem hl),by simp[hl]⟩
theorem J4 {β:Type}{f:α->β}{xs:List α}:atI (xs.map f) a=(atI xs a).map f:=by
 unfold atI
 rw[List.length_map]
 cases ixN xs.length a with
 |none=>rfl
 |some j=>simp
theorem Yp {xs:List α}{v:α}(h:atI xs a=some v):v∈xs:=by
 unfold atI at h
 cases q:ixN xs.length a with
 |none=>rw[q] at h;cases h
 |some j=>rw[q] at h;exact List.mem_of_getElem? h
def Tx (n:Nat)(x:Str):Prop:=PyData.strOk x=true/\x.length<=n
theorem Tx.mono {x:Str}(h:Tx n x)(e:n<=m):Tx m x:=⟨h.1,Nat.le_trans h.2 e⟩
theorem Tx.app {x y:Str}(h:Tx n x)(h':Tx m y):Tx (n+m) (x++y):=by
 refine⟨?_,?_⟩
 ·show (x.cps++y.cps).all _=true
  rw[Array.all_append]
  exact Bool.and_eq_true_iff.mpr ⟨h.1,h'.1⟩
 ·show (x.cps++y.cps).size<=n+m
  rw[Array.size_append]
  have h1:=h.2
  have h2:=h'.2
  unfold Str.length at h1 h2
  omega
theorem Tx.slice {x:Str}{l u:Option Int}(h:Tx n x):Tx n (Txt.slice x l u):=by
 refine⟨?_,Nat.le_trans (Txt.slice_le x l u) h.2⟩
 unfold Txt.slice
 split
 ·exact h.1
 ·have h1:=h.1
  unfold PyData.strOk at h1 ⊢
  rw[Array.all_eq_true'] at h1
  rw[Array.all_eq_true']
  intro c hc
  simp only[List.mem_toArray,List.mem_filterMap] at hc
  obtain⟨i,_,e⟩:=hc
  exact h1 c (Array.mem_of_getElem? e)
theorem Tx.item {z:Str}(h:Tx n z)(hn:n<=TOP)(h1:0<=a)(h2:a < z.length):∃c,fItem (.str z) (.int a)=some (.str c)/\Tx 1 c:=by
 have hl:(z.cps.toList.length:Int)=z.length:=by simp[Str.length]
 obtain⟨c,e1,e2⟩:=jt (xs:=z.cps.toList) h1 (by omega)
 refine⟨⟨#[c]⟩,?_,?_,Nat.le_refl _⟩
 ·rw[Ye,if_pos (Nat.le_trans h.2 hn),e1];rfl
 ·have h1:=h.1
  unfold PyData.strOk at h1
  rw[Array.all_eq_true'] at h1
  have:=h1 c (by simpa using List.mem_of_getElem? e2)
  unfold PyData.strOk
  simpa using this
theorem Jt (sep:Str)(hs:PyData.strOk sep=true):∀(rest:List Str) (acc:Array Nat),acc.all (· < 0x110000)=true->(∀y∈rest,PyData.strOk y=true)->(rest.foldl (λacc p=>acc++sep.cps++p.cps) acc).all (· < 0x110000)=true
 | [],_,h,_=>h
 |y::rest,acc,h,hy=>by
  rw[List.foldl_cons]
  refine Jt sep hs rest _ ?_ λz hz=>hy z (by simp[hz])
  rw[Array.all_append,Array.all_append]
  have h2:y.cps.all (· < 0x110000)=true:=hy y (by simp)
  have h3:sep.cps.all (· < 0x110000)=true:=hs
  rw[h,h2,h3];rfl
theorem Tx.join0 {ys:List Str}(h:∀y∈ys,Tx 1 y):Tx ys.length (Txt.join "" ys):=by
 have e0:PyData.strOk ("" : Str)=true:=by decide +kernel
 refine⟨?_,?_⟩
 ·show ((ys.drop 1).foldl (λacc p=>acc++("" : Str).cps++p.cps) (ys.headD Str.empty).cps).all (· < 0x110000)=true
  refine Jt "" e0 (ys.drop 1) _ ?_ λy hy=>(h y (List.mem_of_mem_drop hy)).1
  cases ys with
  |nil=>simp[Str.empty]
  |cons y r=>exact (h y (by simp)).1
 ·show (Builtin.Str.glued "" ys).length<=ys.length
  rw[PySem.size_glued]
  have e1:("" : Str).length=0:=by decide +kernel
  rw[e1,Nat.mul_zero,Nat.add_zero]
  have:∀l:List Str,(∀y∈l,Tx 1 y)->(l.map (·.length)).sum<=l.length:=by
   intro l
   induction l with
   |nil=>intro _;exact Nat.le_refl _
   |cons y r ih=>
    intro hh
    have h1:=(hh y (by simp)).2
    have h2:=ih λz hz=>hh z (by simp[hz])
    simp only[List.map_cons,List.sum_cons,List.length_cons]
    omega
  exact this ys h
theorem zdq:∀ {l:List Str},(∀y∈l,Tx 1 y)->(l.map (·.length)).sum<=l.length
 | [],_=>Nat.le_refl _
 |y::r,hh=>by
  have h1:=(hh y (by simp)).2
  have h2:=zdq λz hz=>hh z (List.mem_cons_of_mem _ hz)
  simp only[List.map_cons,List.sum_cons,List.length_cons]
  omega
theorem YM:∀(ys:List Str),asSs (ys.map D.str)=some ys
 | []=>rfl
 |y::ys=>by simp[asSs,YM ys]
end
def Its (z:Str):It:=⟨λi _=>i < z.cps.size,λi H x H'=>H'=H/\∃c,z.cps[i]?=some c/\x=.str ⟨#[c]⟩,λi _=>i=z.cps.size⟩
theorem YK {P:Program}{w:World}{K:PySem.W.Frag}{z:Str}{t:Tok}{it:Addr}{n:String}
  (W:∀A':Around,A'.handled=none->Walks P w A' it [it] [it] z.cps.size (SignAt z) (λi h=>h.IsStrIter it n z t i))
  (sf:∀(A:Around) (i:Nat) (s:Shared) (Q:Value->Shared->Prop) (E:Value->Shared->Prop),s.heap.IsStrIter it n z t i->Q (.ref it) s->wpAny (model P w) A (pyIter (.ref it)) Q E s)
  (hn:["enumerate","zip","dict_itemiterator","dict_reverseitemiterator","odict_iterator","itertools.zip_longest","itertools.pairwise"].contains n=false) {tg:Expr} :
  Turn P w K tg (Its z) [it] it (λi h=>h.IsStrIter it n z t i) where
 mem:=by simp
 obj:=λi h st b hb=>by
  have e:b=it:=by simpa using hb
  subst e
  obtain⟨o,e,c,d⟩:=st
  exact⟨o,e,λv z=>by rw[d] at z;cases z⟩
 keep:=λi h h' st k=>let ⟨o,e,r⟩:=st;⟨o,k it (by simp) o e,r⟩
 item:=by
  intro X hP hw hK hc i pins s σ H E I hf st hg
  subst hP hw hK
  obtain⟨f0,f1,f2,f3,f4,f5⟩:=hf it (by simp)
  refine (W X.A (I.ok.hd hc)).item i s _ _ hg st λv h' tk hv st' kk=>?_
  obtain⟨c,u,e,rfl⟩:=hv
  have I1:Inv X pins σ H { s with heap:=h',toks:=tk }:=I.turned (λb o hb e=>kk b o (by simpa using hb) e) f0 f1 f3 f4 f5
  obtain⟨o,e1,e2,e3⟩:=id st'
  exact⟨_,rfl,j0 (s:={ s with heap:=h',toks:=tk }) e1 e2 e3 hn ⟨.str ⟨#[c]⟩,H,I1,⟨u,rfl⟩,⟨rfl,c,e,rfl⟩,st',λb hb=>(hf b hb).1⟩⟩
 done:=by
  intro X hP hw hK hc i pins s σ H E I hf st hg
  subst hP hw hK
  obtain⟨f0,f1,f2,f3,f4,f5⟩:=hf it (by simp)
  have hg:i=z.cps.size:=hg
  subst hg
  exact (W X.A (I.ok.hd hc)).done s _ _ st λh' tk kk=>⟨rfl,I.turned (t':=tk) (λb o hb e=>kk b o (by simpa using hb) e) f0 f1 f3 f4 f5⟩
 self:=sf
def iStr (tl:TE):TI:=λσ H R=>tl σ H λx H1=>∃z,x=.str z/\R (Its z) H1
theorem zbm {X:Cx}{tg l:Expr}{tl:TE}(hl:PE X l tl):PI X tg l (iStr tl):=by
 intro pins s σ H R I h
 refine thn (hl pins s σ H _ I h) λv s1 ⟨x,H1,I1,r1,q1⟩=>?_
 obtain⟨z,rfl,q⟩:=q1
 obtain⟨t,rfl⟩:=r1
 have fin:∀ {n:String} (o:Obj),o={ cls:=.type n,data:=.fields #[.str z t,.int 0 0] }->Turn X.prog X.w X.kw tg (Its z) [s1.heap.objs.size] s1.heap.objs.size (λi h=>h.IsStrIter s1.heap.objs.size n z t i)->PIE X pins σ tg R (.ref s1.heap.objs.size) { s1 with heap:=s1.heap.push o }:=by
  intro n o ho T
  subst ho
  refine⟨s1.heap.objs.size,[s1.heap.objs.size],_,_,H1,rfl,I1.kept (t':=s1.toks) λb o e=>Heap.get?_push_of_some _ e,T,⟨_,Heap.get?_push_size _ rfl,rfl,rfl⟩,λb hb=>?_,q⟩
  have e:b=s1.heap.objs.size:=by simpa using hb
  subst e
  exact I1.fpOk (Nat.le_refl _) (I1.hok.fresh (Nat.le_refl _))
 cases ha:z.cps.all (· < 128)
 ·exact wpAny_pyIter_wide ha (fin _ rfl (YK (λA' hA=>Walks.strWide hA _ z t) (λA i s Q E st h=>wpAny_pyIter_striter_wide st h) (by decide)))
 ·exact wpAny_pyIter_ascii ha (fin _ rfl (YK (λA' hA=>Walks.strAscii hA _ z t) (λA i s Q E st h=>wpAny_pyIter_striter_ascii st h) (by decide)))
section
variable {X:Cx}{B:Bs}{hb:Hp->Hp}{e a b c o tg:Expr}{es:List Expr}{pos p p2 apos cpos:Pos}{g ga gb go:EnvD->Option D}{gs:EnvD->Option (List D)}{x:Str}
def chD (z:Str):List D:=z.cps.toList.map λc=>D.str ⟨#[c]⟩
def gItS (g:EnvD->Option D):EnvD->Option (List D):=λρ=>(g ρ).bind λd=>match d with
 |.str z=>some (chD z)
 |_=>none
theorem Ry (h:DR X B e g):DI X B hb tg e (gItS g) :=
 wj (zbm h) λσ H R ⟨F,ρ,ds,r,hg,k⟩=>by
  unfold gItS at hg
  cases q:g ρ with
  |none=>rw[q] at hg;cases hg
  |some d=>
   rw[q] at hg
   cases d with
   |str z=>
    cases hg
    refine⟨F,ρ,_,r,q,λv F1 H1 e1 p1=>⟨z,p1.str,k _ F1 H1 e1 λF2 H2 s1 s2 s3 i=>⟨λhi=>?_,λhi=>?_⟩⟩⟩
    ·have hl:i < z.cps.size:=by simpa[chD] using hi
     refine⟨hl,λy H3 hy=>?_⟩
     obtain⟨rfl,c,hc,rfl⟩:=hy
     refine⟨F2,.str ⟨#[c]⟩,.refl s2,?_,rfl⟩
     unfold chD
     rw[List.getElem?_map]
     have:z.cps.toList[i]?=some c:=by simpa using hc
     rw[this];rfl
    ·show i=z.cps.size
     simpa[chD] using hi
   |_=>cases hg
def toV:D->Option V
 |.non=>some .non
 |.bl b=>some (.bl b)
 |.int i=>some (.int i)
 |.str x=>some (.str x)
 |_=>none
def toVs:List D->Option (List V)
 | []=>some []
 |d::ds=>(toV d).bind λv=>(toVs ds).map (v::·)
theorem UQ {K:KW}{F:Hp}{d:D}{v w:V}(h:toV d=some v)(r:Rp K F d w):w=v/\flatV v=true:=by
 cases d<;>first | (cases h;exact⟨r,rfl⟩) | cases h
theorem Jo {K:KW}{F:Hp}:∀ {ds:List D} {vs ws:List V},toVs ds=some vs->Rps K F ds ws->ws=vs/\vs.all flatV=true
 | [],_,_,h,r=>by cases h;cases r;exact⟨rfl,rfl⟩
 |d::ds,vs,ws,h,⟨w,r,e,h1,h2⟩=>by
  subst e
  cases q1:toV d with
  |none=>rw[show toVs (d::ds)=(toV d).bind λv=>(toVs ds).map (v::·) from rfl,q1] at h;cases h
  |some v=>
   cases q2:toVs ds with
   |none=>rw[show toVs (d::ds)=(toV d).bind λv=>(toVs ds).map (v::·) from rfl,q1,q2] at h;cases h
   |some us=>
    rw[show toVs (d::ds)=(toV d).bind λv=>(toVs ds).map (v::·) from rfl,q1,q2] at h
    cases h
    obtain⟨e1,f1⟩:=UQ q1 h1
    obtain⟨e2,f2⟩:=Jo q2 h2
    subst e1;subst e2
    exact⟨rfl,by rw[List.all_cons,f1,f2];rfl⟩
def fIn (neg:Bool):D->D->Option D
 |.str i,.str j=>some (.bl (if neg then !(!(Builtin.Str.occurrences j i 0 j.length 1).isEmpty) else !(Builtin.Str.occurrences j i 0 j.length 1).isEmpty))
 |x,.lst ds=>(toV x).bind λv=>(toVs ds).map λvs=>.bl (if neg then !inV v vs else inV v vs)
 |x,.tup ds=>(toV x).bind λv=>(toVs ds).map λvs=>.bl (if neg then !inV v vs else inV v vs)
 |_,_=>none
def rInA (K:KW)(neg:Bool):R2:=λx y H Q=>rIn K neg x y H Q∨∃i j,x=.str i/\y=.str j/\Q (.bl (if neg then !(!(Builtin.Str.occurrences j i 0 j.length 1).isEmpty) else !(Builtin.Str.occurrences j i 0 j.length 1).isEmpty)) H
theorem wa:OpR X (compareOp .In) (rInA X.kw false):=op_in_seq.or GG
theorem kX:OpR X (compareOp .NotIn) (rInA X.kw true):=op_notIn_seq.or KS
theorem ok_in {K:KW}{neg:Bool}:OkR K (rInA K neg) (pE K) (fIn neg):=by
 intro F H x y dx dy d Q s rx ry e k
 have seq:∀ {v:V} {ds:List D} {vs ws:List V} {a:Addr},toV dx=some v->toVs ds=some vs->Rps K F ds ws->y=.ref a->(SqL K H a ws∨SqT K H a ws)->d=.bl (if neg then !inV v vs else inV v vs)->rInA K neg x y H Q:=by
  intro v ds vs ws a h1 h2 h3 h4 h5 h6
  obtain⟨e2,f2⟩:=Jo h2 h3
  have hx:x=v/\flatV v=true:=by
   cases dx with
   |non=>cases h1;exact⟨rx.non,rfl⟩
   |bl b=>cases h1;exact⟨rx.bl,rfl⟩
   |int b=>cases h1;exact⟨rx.int,rfl⟩
   |str b=>cases h1;exact⟨rx.str,rfl⟩
   |_=>cases h1
  subst e2
  subst h6
  exact .inl ⟨a,ws,h4,h5,by rw[hx.1];exact hx.2,f2,by rw[hx.1];exact k _ F H (.refl s) rfl⟩
 have two:∀ {ds:List D},((toV dx).bind λv=>(toVs ds).map λvs=>D.bl (if neg then !inV v vs else inV v vs))=some d->∃v vs,toV dx=some v/\toVs ds=some vs/\d=.bl (if neg then !inV v vs else inV v vs):=by
  intro ds h
  cases q1:toV dx with
  |none=>rw[q1] at h;cases h
  |some v=>
   cases q2:toVs ds with
   |none=>rw[q1,q2] at h;cases h
   |some vs=>rw[q1,q2] at h;cases h;exact⟨v,vs,rfl,rfl,rfl⟩
 cases dy with
 |lst ds=>
  obtain⟨v,vs,q1,q2,q3⟩:=two (ds:=ds) (by cases dx<;>exact e)
  obtain⟨a,ws,h1,h2,h3⟩:=ry.lst s
  exact seq q1 q2 h3 h1 (.inl (.of h2)) q3
 |tup ds=>
  obtain⟨v,vs,q1,q2,q3⟩:=two (ds:=ds) (by cases dx<;>exact e)
  obtain⟨a,ws,h1,h2,h3⟩:=ry.tup s
  exact seq q1 q2 h3 h1 (.inr (.of h2)) q3
 |str j=>
  cases dx with
  |str i=>cases e;exact .inr ⟨_,_,rx.str,ry.str,k _ F H (.refl s) rfl⟩
  |_=>cases e
 |_=>cases dx<;>cases e
theorem Kf:OpR X (compareOp .Is) (λx y H Q=>∃u v,x=.bl u/\y=.bl v/\Q (.bl (u==v)) H):=by
 intro pins s σ H x y v u Q I rx ry h
 obtain⟨b,c,rfl,rfl,q⟩:=h
 cases rx
 cases ry
 exact wpAny_pure ⟨.bl (b==c),H,I,by cases b<;>cases c<;>rfl,q⟩
theorem Wa:OpR X (compareOp .IsNot) (λx y H Q=>∃u v,x=.bl u/\y=.bl v/\Q (.bl (!(u==v))) H):=by
 intro pins s σ H x y v u Q I rx ry h
 obtain⟨b,c,rfl,rfl,q⟩:=h
 cases rx
 cases ry
 exact wpAny_pure ⟨.bl (!(b==c)),H,I,by cases b<;>cases c<;>rfl,q⟩
def fIsB (neg:Bool):D->D->Option D
 |.bl u,.bl v=>some (.bl (if neg then !(u==v) else u==v))
 |_,_=>none
theorem KZ {K:KW}:OkR K (λx y H Q=>∃u v,x=.bl u/\y=.bl v/\Q (.bl (u==v)) H) (pE K) (fIsB false):=by
 intro F H x y dx dy d Q s rx ry e k
 unfold fIsB at e
 split at e
 ·cases e;exact⟨_,_,rx.bl,ry.bl,k _ F H (.refl s) rfl⟩
 ·cases e
theorem Jk {K:KW}:OkR K (λx y H Q=>∃u v,x=.bl u/\y=.bl v/\Q (.bl (!(u==v))) H) (pE K) (fIsB true):=by
 intro F H x y dx dy d Q s rx ry e k
 unfold fIsB at e
 split at e
 ·cases e;exact⟨_,_,rx.bl,ry.bl,k _ F H (.refl s) rfl⟩
 ·cases e
def maxI:List Int->Int
 | []=>0
 | [n]=>n
 |n::ns=>max n (maxI ns)
theorem jr:∀ {ns:List Int},ns≠[]->maxI ns∈ns/\∀a∈ns,a<=maxI ns
 | [],h=>(h rfl).elim
 | [n],_=>by simp[maxI]
 |n::m::ns,_=>by
  obtain⟨h1,h2⟩:=jr (ns:=m::ns) (by simp)
  have e:maxI (n::m::ns)=max n (maxI (m::ns)):=rfl
  rw[e]
  refine⟨?_,λa ha=>?_⟩
  ·by_cases h:n<=maxI (m::ns)
   ·rw[Int.max_eq_right h];exact List.mem_cons_of_mem _ h1
   ·rw[Int.max_eq_left (by omega)];simp
  ·rcases List.mem_cons.mp ha with rfl | ha
   ·omega
   ·have:=h2 a ha;omega
theorem kM:∀ {ns:List Int} {us:List Value},Vals (ns.map V.int) us->IntsAre us ns
 | [],_,.nil=>.nil
 |n::ns,_,.cons r t=>by
  obtain⟨k,rfl⟩:=r
  exact .cons n k (kM t)
theorem QO (hc:X.calm=true):CallR X (.builtin "max") (λxs H Q=>∃(a:Addr) (ns:List Int),xs=[.ref a]/\SqL X.kw H a (ns.map V.int)/\ns≠[]/\Q (.int (maxI ns)) H):=by
 intro pins s σ H vs us Q I r h
 obtain⟨a,ns,rfl,hq,hne,q⟩:=h
 obtain⟨u,rfl,ru⟩:=vals1 r
 cases ru
 obtain⟨its,rv,pl,hz⟩:=I.list hq
 have hi:=kM rv
 obtain⟨xs,e⟩:=hi.allInts.items
 have hns:ns=xs.toList.map (·.1):=by rw[<-hi.numsOf,<-nums_intItems,<-e]
 have hsz:0 < xs.size:=by
  have h3:0 < ns.length:=List.length_pos_iff.mpr hne
  rw[hns,List.length_map,Array.length_toList] at h3;exact h3
 have hl:=pl.isList
 rw[e] at hl
 refine max_intList (I.ok.hd hc) hl hsz λv h' tk hv hk=>?_
 obtain⟨t,rfl⟩:=intItems_at hv
 obtain⟨h1,h2⟩:=argBest_gt (numAt xs) (xs.size - 1)
 have hM:numAt xs (argBest (λi j=>decide (numAt xs i > numAt xs j)) (xs.size - 1))=maxI ns:=by
  obtain⟨m1,m2⟩:=jr hne
  have g1:numAt xs (argBest (λi j=>decide (numAt xs i > numAt xs j)) (xs.size - 1))∈ns:=by
   rw[hns,numAt_eq];exact getD_mem (by rw[List.length_map,Array.length_toList];omega)
  have g2:maxI ns<=numAt xs (argBest (λi j=>decide (numAt xs i > numAt xs j)) (xs.size - 1)):=by
   have m1':=m1
   rw[hns] at m1'
   obtain⟨j,hj,ej⟩:=mem_getD m1'
   rw[List.length_map,Array.length_toList] at hj
   have:=h2 j (by omega)
   rw[numAt_eq,ej] at this
   rw[hns]
   exact this
  have:=m2 _ g1
  omega
 rw[hM]
 exact⟨.int (maxI ns),H,I.kept (t':=tk) hk,⟨t,rfl⟩,q⟩
def asIs:List D->Option (List Int)
 | []=>some []
 |.int i::r=>(asIs r).map (i::·)
 |_=>none
theorem vO:∀(ns:List Int),asIs (ns.map D.int)=some ns
 | []=>rfl
 |n::ns=>by simp[asIs,vO ns]
theorem ua:∀ {ds:List D} {ns:List Int},asIs ds=some ns->ds=ns.map D.int
 | [],_,e=>by cases e;rfl
 |.int i::r,_,e=>by
  cases q:asIs r with
  |none=>rw[show asIs (.int i::r)=(asIs r).map (i::·) from rfl,q] at e;cases e
  |some ns=>rw[show asIs (.int i::r)=(asIs r).map (i::·) from rfl,q] at e;cases e;rw[ua q];rfl
 |.non::_,_,e=>by cases e
 |.bl _::_,_,e=>by cases e
 |.str _::_,_,e=>by cases e
 |.lst _::_,_,e=>by cases e
 |.tup _::_,_,e=>by cases e
 |.scr _::_,_,e=>by cases e
 |.obj _ _ _::_,_,e=>by cases e
theorem Zv {K:KW}{F:Hp}:∀ {ns:List Int} {vs:List V},Rps K F (ns.map D.int) vs->vs=ns.map V.int
 | [],_,h=>h
 |n::ns,_,⟨v,r,e,h,t⟩=>by subst e;cases h;rw[Zv t];rfl
def fMaxL:List D->Option D
 | [.lst ds]=>(asIs ds).bind λns=>if ns.isEmpty then none else some (.int (maxI ns))
 |_=>none
theorem UR {K:KW}:CallOk K (λxs H Q=>∃(a:Addr) (ns:List Int),xs=[.ref a]/\SqL K H a (ns.map V.int)/\ns≠[]/\Q (.int (maxI ns)) H) (pE K) fMaxL:=by
 intro F H vs ds d Q s hp e k
 unfold fMaxL at e
 split at e
 ·rename_i ds
  cases q:asIs ds with
  |none=>rw[q] at e;cases e
  |some ns=>
   rw[q] at e
   replace e:(if ns.isEmpty then none else some (D.int (maxI ns)))=some d:=e
   split at e
   ·cases e
   ·rename_i hne
    cases e
    obtain⟨v,rfl,r⟩:=pair1 hp
    obtain⟨a,ws,rfl,h1,h2⟩:=r.lst s
    rw[ua q] at h2
    rw[Zv h2] at h1
    exact⟨a,ns,rfl,.of h1,by intro z;subst z;exact hne rfl,k _ F H (.refl s) rfl⟩
 ·cases e
theorem JM (hc:X.calm=true)(hg:Gl X "max") (hm:X.mg "max" = none) (ha:DRs X B [a] gs) (he:starEach [a] X.env=(false,eval a X.env)::starEach [] X.env:=by rfl) (hpl:(backTo pos (starEach [] X.env)).any (·.1)=false:=by rfl) :
  DE X B (.Call (.Name "max" p) [a] [] pos) (gB fMaxL gs):=vI (QO hc) UR hg hm (by decide +kernel) ha (by decide) (by decide) he hpl
end
section
variable {ρ:EnvD}{g:EnvD->Option D}{ds:List D}{a:Int}{u v:Bool}{p q:Str}{neg:Bool}
@[simp]theorem zjw:gItS g ρ=(g ρ).bind λd=>match d with | .str z=>some (chD z) | _=>none:=rfl
@[simp]theorem zgz:fIsB neg (.bl u) (.bl v)=some (.bl (if neg then !(u==v) else u==v)):=rfl
@[simp]theorem zhw:fMaxL [.lst ds]=(asIs ds).bind λns=>if ns.isEmpty then none else some (.int (maxI ns)):=rfl
@[simp]theorem zia:fIn neg (.str p) (.str q)=some (.bl (if neg then !(!(Builtin.Str.occurrences q p 0 q.length 1).isEmpty) else !(Builtin.Str.occurrences q p 0 q.length 1).isEmpty)):=rfl
end
theorem YI:∀(ys:List Str),toVs (ys.map D.str)=some (ys.map V.str)
 | []=>rfl
 |y::ys=>by simp[toVs,toV,YI ys]
theorem Yg (x:Str):∀(ys:List Str),inV (.str x) (ys.map V.str)=decide (x∈ys)
 | []=>rfl
 |y::ys=>by
  have ih:=Yg x ys
  unfold inV at ih ⊢
  rw[List.map_cons,List.any_cons,ih]
  show ((y==x)||decide (x∈ys))=_
  by_cases h:x=y
  ·subst h;simp
  ·have h':¬y=x:=λz=>h z.symm
   simp[h,h']
theorem wn {neg:Bool}{x:Str}{ys:List Str}:fIn neg (.str x) (.lst (ys.map D.str))=some (.bl (if neg then !decide (x∈ys) else decide (x∈ys))):=by
 show ((toV (.str x)).bind λv=>(toVs (ys.map D.str)).map λvs=>D.bl (if neg then !inV v vs else inV v vs))=_
 rw[YI]
 show some (D.bl (if neg then !inV (.str x) (ys.map V.str) else inV (.str x) (ys.map V.str)))=_
 rw[Yg]
def dKey:D->Option Key
 |.int i=>some (.inl i)
 |.str x=>some (.inr x)
 |_=>none
def kD:Key->D
 |.inl i=>.int i
 |.inr x=>.str x
theorem jR {d:D}{k:Key}(h:dKey d=some k):d=kD k:=by
 cases d<;>cases h<;>rfl
theorem V5 {K:KW}{F:Hp}{k:Key}{v:V}(r:Rp K F (kD k) v):v=kV k:=by cases k<;>exact r
theorem zbd {K:KW}{F:Hp}{k:Key}:Rp K F (kD k) (kV k):=by cases k<;>exact rfl
theorem kU {K:KW}{F H:Hp}{k:Key}{v:V}(r:Rq K F H (kD k) v):v=kV k:=by
 refine V5 (r.one λds h=>?_)
 cases k<;>cases h
def lookD (kvs:List (Key×D))(k:Key):Option D:=(kvs.find? λp=>decide (p.1=k)).map (·.2)
def putD (kvs:List (Key×D))(k:Key)(d:D):List (Key×D) :=
 if (kvs.any λp=>decide (p.1=k))=true then kvs.map (λp=>if p.1=k then (p.1,d) else p) else kvs++[(k,d)]
def mergeD (kvs more:List (Key×D)):List (Key×D):=more.foldl (λacc p=>putD acc p.1 p.2) kvs
section
variable {K:KW}{F:Hp}
theorem Rkv.length {kvs:List (Key×D)}{vs:List (Key×V)}(r:Rkv K F kvs vs):kvs.length=vs.length:=Paired.length r
theorem Rkv.look {kvs:List (Key×D)}{vs:List (Key×V)}(r:Rkv K F kvs vs)(k:Key):(lookD kvs k=none/\valV vs k=none)∨∃d v,lookD kvs k=some d/\valV vs k=some v/\Rp K F d v:=by
 unfold Rkv at r
 induction r with
 |nil=>exact .inl ⟨rfl,rfl⟩
 | @cons p q ps qs h t ih=>
  by_cases e:p.1=k
  ·refine .inr ⟨p.2,q.2,by simp[lookD,e],Y0 (h.1 ▸ e),h.2⟩
  ·rw[show lookD (p::ps) k=lookD ps k by simp[lookD,e],Wv (λz=>e (h.1.trans z))]
   exact ih
theorem Rkv.any {kvs:List (Key×D)}{vs:List (Key×V)}(r:Rkv K F kvs vs)(k:Key):(kvs.any λp=>decide (p.1=k))=(vs.any λp=>decide (p.1=k)):=by
 unfold Rkv at r
 induction r with
 |nil=>rfl
 | @cons p q ps qs h t ih=>simp only[List.any_cons,ih,h.1]
theorem Rkv.repl {k:Key}{d:D}{v:V}(rd:Rp K F d v):∀ {kvs:List (Key×D)} {vs:List (Key×V)},Rkv K F kvs vs->Rkv K F (kvs.map λp=>if p.1=k then (p.1,d) else p) (vs.map λp=>if p.1=k then (p.1,v) else p):=by
 intro kvs vs r
 unfold Rkv at r ⊢
 induction r with
 |nil=>exact .nil
 | @cons p q ps qs h t ih=>
  refine .cons ?_ ih
  show (if p.1=k then (p.1,d) else p).1=(if q.1=k then (q.1,v) else q).1/\Rp K F (if p.1=k then (p.1,d) else p).2 (if q.1=k then (q.1,v) else q).2
  by_cases e:p.1=k
  ·rw[if_pos e,if_pos (h.1.symm.trans e)];exact⟨h.1,rd⟩
  ·rw[if_neg e,if_neg (λz=>e (h.1.trans z))];exact h
theorem Rkv.put {kvs:List (Key×D)}{vs:List (Key×V)}(r:Rkv K F kvs vs)(k:Key){d:D}{v:V}(rd:Rp K F d v):Rkv K F (putD kvs k d) (putK vs k v):=by
 unfold putD putK
 rw[r.any k]
 by_cases q:(vs.any λp=>decide (p.1=k))=true
 ·rw[if_pos q,if_pos q];exact r.repl rd
 ·rw[if_neg q,if_neg q];exact Paired.snoc r ⟨rfl,rd⟩
theorem Rkv.merge:∀ {more:List (Key×D)} {ms:List (Key×V)} {kvs:List (Key×D)} {vs:List (Key×V)},Rkv K F more ms->Rkv K F kvs vs->Rkv K F (mergeD kvs more) (mergeK vs ms):=by
 intro more ms kvs vs r
 unfold Rkv at r
 induction r generalizing kvs vs with
 |nil=>intro q;exact q
 | @cons p q ps qs h t ih=>
  intro r0
  have:=r0.put p.1 h.2
  rw[h.1] at this
  have e:Rkv K F (putD kvs p.1 p.2) (putK vs q.1 q.2):=by rw[h.1];exact this
  exact ih e
end
def pD (K:KW):Post (List (Key×D)):=λ_ H F' H' kvs v=>∃a ob vs,v=.ref a/\H a=none/\H' a=some (DX K.w a ob vs)/\F' a=none/\Rkv K F' kvs vs
def pK (K:KW):Post (List (Key×D)):=λ_ _ F' H' kvs v=>∃a ob vs,v=.ref a/\H' a=some (DX K.w a ob vs)/\Rkv K F' kvs vs
def DD (X:Cx)(B:Bs)(e:Expr)(g:EnvD->Option (List (Key×D))):Prop:=PE X e (lG X.kw B (pD X.kw) g)
def DK (X:Cx)(B:Bs)(e:Expr)(g:EnvD->Option (List (Key×D))):Prop:=PE X e (lG X.kw B (pK X.kw) g)
section
variable {X:Cx}{B:Bs}{e a b c o i:Expr}{es:List Expr}{pos p apos cpos pos':Pos}{g ga gi gv':EnvD->Option D}{gk gk2:EnvD->Option (List (Key×D))}{gs gxs:EnvD->Option (List D)}{x:Str}
theorem DD.read (h:DD X B e gk):DK X B e gk:=pe_imp h λσ H Q ⟨F,ρ,kvs,r,hg,k⟩=>⟨F,ρ,kvs,r,hg,λv F' H' e ⟨a,ob,vs,h1,h2,h3,h4,h5⟩=>k v F' H' e ⟨a,ob,vs,h1,h3,h5⟩⟩
def gk' (i:Nat):EnvD->Option (List (Key×D)):=λρ=>match ρ[i]? with
 |some (some (.dct _ kvs))=>some kvs
 |some (some (.dbo kvs))=>some kvs
 |_=>none
theorem xo (i:Nat)(h:PE X (.Name x pos) (tVar i)):DK X B (.Name x pos) (gk' i) :=
 pe_imp h λσ H Q ⟨F,ρ,d,r,hg,k⟩=>by
  unfold gk' at hg
  split at hg
  ·rename_i oa kvs e
   cases hg
   obtain⟨v,h1,a,ob,vs,e1,e2,e3,e4,e5,e6⟩:=r.ents i _ e
   exact⟨v,h1,k v F H (.refl r.fh) ⟨a,ob,vs,e1,e2,e5⟩⟩
  ·rename_i kvs e
   cases hg
   obtain⟨v,h1,a,ob,vs,e1,e2,e5⟩:=r.ents i _ e
   exact⟨v,h1,k v F H (.refl r.fh) ⟨a,ob,vs,e1,r.ex.hh _ _ e2,e5⟩⟩
  ·cases hg
def gNewD:EnvD->Option (List (Key×D)):=λ_=>some []
theorem G9:DD X B (.Dict [] [] pos) gNewD:=pe_imp Rg λσ H Q ⟨F,ρ,d,r,hg,k⟩=>by
 cases hg
 exact λq ob hn=>k _ F _ (.new r.fh hn) ⟨q,ob,[],rfl,hn,zl,r.fh.free hn,.nil⟩
def gGetD (gk:EnvD->Option (List (Key×D)))(gi:EnvD->Option D):EnvD->Option D:=λρ=>(gk ρ).bind λkvs=>((gi ρ).bind dKey).bind λk=>lookD kvs k
theorem xr (ho:DK X B o gk)(hi:DR X B i gi)(hs:NoSl i:=by intro _ _;rfl):DE X B (.Subscript o i pos) (gGetD gk gi) :=
 pe_imp (Qi ho hi hs) λσ H Q ⟨F,ρ,d,r,hg,k⟩=>by
  unfold gGetD at hg
  cases q1:gk ρ with
  |none=>rw[q1] at hg;cases hg
  |some kvs=>
   cases q2:gi ρ with
   |none=>rw[q1,q2] at hg;cases hg
   |some di=>
    rw[q1,q2] at hg
    have hg:((dKey di).bind λk=>lookD kvs k)=some d:=hg
    cases q3:dKey di with
    |none=>rw[q3] at hg;cases hg
    |some ky=>
     rw[q3] at hg
     have hL:lookD kvs ky=some d:=hg
     clear hg
     have hd:=jR q3
     subst hd
     refine⟨F,ρ,kvs,r,q1,λv F1 H1 e1 ⟨a,ob,vs,h1,h2,h3⟩=>⟨F1,ρ,_,r.ext e1,q2,λu F2 H2 e2 p2=>?_⟩⟩
     have h3':=h3.mono e2.ff
     rcases h3'.look ky with⟨z,_⟩ | ⟨d',w,z1,z2,z3⟩
     ·rw[z] at hL;cases hL
     ·rw[z1] at hL;cases hL
      exact⟨a,ob,vs,ky,w,h1,e2.hh _ _ h2,kU p2,z2,k w F2 H2 (e1.trans e2) z3⟩
def gInD (neg:Bool)(gi:EnvD->Option D)(gk:EnvD->Option (List (Key×D))):EnvD->Option D:=λρ=>((gi ρ).bind dKey).bind λk=>(gk ρ).map λkvs=>.bl (neg ^^ (lookD kvs k).isSome)
theorem QW {neg:Bool}{ρ:EnvD}{d:D}(hg:gInD neg gi gk ρ=some d):∃ky kvs,gi ρ=some (kD ky)/\gk ρ=some kvs/\d=.bl (neg ^^ (lookD kvs ky).isSome):=by
 unfold gInD at hg
 cases q2:gi ρ with
 |none=>rw[q2] at hg;cases hg
 |some di=>
  rw[q2] at hg
  have hg:((dKey di).bind λk=>(gk ρ).map λkvs=>D.bl (neg ^^ (lookD kvs k).isSome))=some d:=hg
  cases q3:dKey di with
  |none=>rw[q3] at hg;cases hg
  |some ky=>
   rw[q3] at hg
   cases q1:gk ρ with
   |none=>rw[q1] at hg;cases hg
   |some kvs=>
    rw[q1] at hg
    cases hg
    exact⟨ky,kvs,by rw[jR q3],rfl,rfl⟩
theorem UX {K:KW}{F:Hp}{kvs:List (Key×D)}{vs:List (Key×V)}(r:Rkv K F kvs vs)(k:Key):(valV vs k).isSome=(lookD kvs k).isSome:=by
 rcases r.look k with⟨z1,z2⟩ | ⟨d,w,z1,z2,_⟩<;>rw[z1,z2]<;>rfl
def sPutD (j:Nat)(gi g:EnvD->Option D):SD:=λρ=>match ρ[j]? with
 |some (some (.dct oa kvs))=>(g ρ).bind λd=>((gi ρ).bind dKey).bind λk=>if kvs.length < sizeLine then some (.next (ρ.set j (some (.dct oa (putD kvs k d))))) else none
 |_=>none
theorem JC (j:Nat)(hx:PE X (.Name x p) (tVar j))(hi:DR X B i gi)(he:DE X B e g)(hs:swapsWith e (some (.Subscript (.Name x p) i pos')) pos.line X.env=pure false:=by rfl) :
  DS X B (.Assign [.Subscript (.Name x p) i pos'] e pos) (sPutD j gi g) :=
 zH (zbq hx hi he hs) λE σ H ⟨F,ρ,fl,r,hg,k⟩=>by
  unfold sPutD at hg
  split at hg
  ·rename_i oa kvs q
   cases q2:g ρ with
   |none=>rw[q2] at hg;cases hg
   |some d=>
    cases q3:gi ρ with
    |none=>rw[q2,q3] at hg;cases hg
    |some di=>
     rw[q2,q3] at hg
     have hg:((dKey di).bind λk=>if kvs.length < sizeLine then some (Fl.next (ρ.set j (some (.dct oa (putD kvs k d))))) else none)=some fl:=hg
     cases q4:dKey di with
     |none=>rw[q4] at hg;cases hg
     |some ky=>
      rw[q4] at hg
      have hg:(if kvs.length < sizeLine then some (Fl.next (ρ.set j (some (.dct oa (putD kvs ky d))))) else none)=some fl:=hg
      split at hg
      ·rename_i hz
       cases hg
       have hd:=jR q4
       subst hd
       refine⟨F,ρ,d,r,q2,λw F1 H1 e1 p1=>?_⟩
       have r1:=r.ext e1
       obtain⟨v,hv,_⟩:=r1.ents j _ q
       refine⟨v,hv,F1,ρ,_,r1,q3,λu F2 H2 e2 p2=>?_⟩
       have r2:=r1.ext e2
       obtain⟨v',hv',a,ob,vs,e',f1,f2,f3,f4,f5⟩:=r2.ents j _ q
       rw[hv] at hv';cases hv';subst e'
       refine⟨a,ob,vs,ky,rfl,f1,kU p2,by rw[<-f4.length];exact hz,λob'=>k σ F2 _ ?_ (e1.ff.trans e2.ff)⟩
       exact r2.write q rfl hv f2 f3 ⟨a,ob',_,rfl,zl,f2,f3,f4.put ky (Rp.mono e2.ff p1),f5⟩ rfl
      ·cases hg
  ·cases hg
end
theorem RQ {K:KW}:Back (pD K):=λ_ _ _ _ _ _ _ _ e ⟨a,ob,vs,h1,h2,h⟩=>⟨a,ob,vs,h1,e.hh.free h2,h⟩
def prs:List D->Option (List (Key×D))
 | []=>some []
 |.tup [k,v]::r=>(dKey k).bind λk'=>(prs r).map λkvs=>(k',v)::kvs
 |_=>none
def fDict:List D->Option (List (Key×D))
 | [.lst ds]=>(prs ds).map (mergeD [])
 |_=>none
theorem JQ {K:KW}{F H:Hp}(s:Same F H):∀ {ds:List D} {vs:List V} {kvs:List (Key×D)},Rps K F ds vs->prs ds=some kvs->∃ws,PairsV K H vs ws/\Rkv K F kvs ws
 | [],_,_,h,e=>by cases h;cases e;exact⟨[],.nil,.nil⟩
 |d::r,_,kvs,⟨v,vr,ev,h,t⟩,e=>by
  subst ev
  unfold prs at e
  split at e
  ·rename_i heq;cases heq
  ·rename_i k x r' heq
   cases heq
   cases q1:dKey k with
   |none=>rw[q1] at e;cases e
   |some ky=>
    rw[q1] at e
    cases q2:prs r with
    |none=>rw[q2] at e;cases e
    |some kr=>
     rw[q2] at e
     cases e
     obtain⟨ws,p1,p2⟩:=JQ s t q2
     obtain⟨a,us,rfl,q,u1,ur,eu,ru,u2,ur2,eu2,ru2,en⟩:=h
     cases en
     subst eu2
     subst eu
     have hk:=jR q1
     subst hk
     have hu:=V5 ru
     subst hu
     exact⟨(ky,u2)::ws,.cons (.inl (.of (s _ _ q))) p1,.cons ⟨rfl,ru2⟩ p2⟩
  ·cases e
theorem GJ {X:Cx}:CallOk X.kw (λxs H Q=>∃a ps kvs,xs=[V.ref a]/\SqL X.K H a ps/\PairsV X.K H ps kvs/\∀p ob,H p=none->Q (.ref p) (upd H p (DX X.w p ob (mergeK [] kvs)))) (pD X.kw) fDict:=by
 intro F H vs ds d Q s hp e k
 unfold fDict at e
 split at e
 ·rename_i es
  cases q:prs es with
  |none=>rw[q] at e;cases e
  |some kvs=>
   rw[q] at e
   cases e
   cases hp with
   |cons h t=>
    cases t
    obtain⟨a,ws,rfl,h1,h2⟩:=h.lst s
    obtain⟨us,p1,p2⟩:=JQ (H:=H) s h2 q
    exact⟨a,ws,us,rfl,.of h1,p1,λp ob hn=>k _ F _ (.new s hn) ⟨p,ob,_,rfl,hn,zl,s.free hn,p2.merge .nil⟩⟩
 ·cases e
section
variable {X:Cx}{B:Bs}{e a b c o i:Expr}{es:List Expr}{pos p apos cpos pos':Pos}{g ga gi gv':EnvD->Option D}{gk gk2:EnvD->Option (List (Key×D))}{gs:EnvD->Option (List D)}{gxs:EnvD->Option (List En)}{x:Str}
theorem kn (hc:X.calm=true)(hg:Gl X "dict") (hm:X.mg "dict" = none) (ha:DRs X B (e::es) gs)
  (he:starEach (e::es) X.env=(false,eval e X.env)::starEach es X.env:=by rfl) (hpl:(backTo pos (starEach es X.env)).any (·.1)=false:=by rfl):DD X B (.Call (.Name "dict" p) (e::es) [] pos) (gB fDict gs) :=
 pe_imp (uP (US hc) hg hm (by decide +kernel) ha (by decide) (by decide) he hpl) λσ H Q h=>callB RQ GJ h
def sSetD (j:Nat)(g:EnvD->Option (List (Key×D))):SD:=λρ=>(g ρ).map λkvs=>.next (ρ.set j (some (.dct none kvs)))
theorem GL {K:KW}{F H:Hp}{σ:St}{ρ:EnvD}{F1 H1:Hp}(r:Rep K B F σ H ρ)(e:Ext F H F1 H1){a:Addr}(n:H a=none):∀(j:Nat) y w,ρ[j]?=some (some y)->σ[j]?=some (some w)->a∉feetE H1 y w:=λj y w h1 h2 ha=>by
 obtain⟨w',q,ry⟩:=r.ents j y h1
 rw[h2] at q;cases q
 rw[ry.feet_ext e.hh] at ha
 exact (ry.feet_at ha).1 n
theorem ZF {j:Nat}{y:Str}{pos':Pos}(hN:X.N.Nodup)(hi:X.N[j]?=some y)(hx:Loc X.env.scope y)(he:DD X B e gk)(hs:swapsWith e (some (.Name y pos')) pos.line X.env=pure false:=by rfl)(hf:X.fn y=true∨X.env.scope.names.lookup y=some .local:=by first | exact .inl rfl | exact .inr rfl) :
  DS X B (.Assign [.Name y pos'] e pos) (sSetD j gk):=zH (vT hN hi hx he hs hf) λE σ H ⟨F,ρ,fl,r,hg,k⟩=>by
 unfold sSetD at hg
 cases q:gk ρ with
 |none=>rw[q] at hg;cases hg
 |some kvs=>
  rw[q] at hg
  cases hg
  refine⟨F,ρ,kvs,r,q,λv F1 H1 e1 ⟨a,ob,vs,h1,h2,h3,h4,h5⟩=>k _ F1 H1 ((r.ext e1).seto (x:=.dct none kvs) ⟨a,ob,vs,h1,h3,h4,r.ex.hh.free h2,h5,λ_ z=>nomatch z⟩ λj' y w q1 q2 _ b hb=>?_) e1.ff⟩
  subst h1
  simp only[feetE,List.mem_singleton] at hb
  subst hb
  exact GL r e1 h2 j' y w q1 q2
def sRetD (g:EnvD->Option (List (Key×D))):SD:=λρ=>(g ρ).map λkvs=>.ret (.dct none kvs)
theorem zdo (he:DD X B e gk):DS X B (.Return (some e) pos) (sRetD gk):=zH (yH he) λE σ H ⟨F,ρ,fl,r,hg,k⟩=>by
 unfold sRetD at hg
 cases q:gk ρ with
 |none=>rw[q] at hg;cases hg
 |some d=>
  rw[q] at hg;cases hg
  exact⟨F,ρ,d,r,q,λv F1 H1 e1 ⟨a,ob,vs,h1,h2,h3,h4,h5⟩=>k v F1 H1 (r.ex.trans e1) ⟨a,ob,vs,h1,h3,h4,r.ex.hh.free h2,h5,λ_ z=>nomatch z⟩⟩
def sRetVD (j:Nat):SD:=λρ=>match ρ[j]? with
 |some (some (.dct none kvs))=>some (.ret (.dct none kvs))
 |_=>none
theorem za8 (j:Nat)(h:PE X (.Name x p) (tVar j)):DS X B (.Return (some (.Name x p)) pos) (sRetVD j):=zH (yH h) λE σ H ⟨F,ρ,fl,r,hg,k⟩=>by
 unfold sRetVD at hg
 split at hg
 ·rename_i ds q
  cases hg
  obtain⟨v,h1,h2⟩:=r.ents j _ q
  exact⟨v,h1,k v F H r.ex h2⟩
 ·cases hg
def dctO:En->Option (List (Key×D))
 |.dct _ kvs=>some kvs
 |_=>none
theorem U0 {n:Nat}{m:List En->Option En}(hm:∀xs o,m xs=some o->xs.length=n){E:XK}{σ:St}{H:Hp}{Q:VK}(h:lG X.kw B (pD X.kw) (gCall m dctO gxs) σ H Q):tCall (pSp X.kw n m) [] E (lNs X.kw B gxs) σ H Q:=by
 obtain⟨F,ρ,d,r,hg,k⟩:=h
 obtain⟨xs,o,q1,q2,q3⟩:=bindC hg
 refine⟨F,ρ,xs,r,q1,λvs F1 H1 e1 p1=>?_⟩
 show pSp X.kw n m (vs++[]) H1 Q E
 rw[List.append_nil]
 refine⟨F1,xs,o,e1.fh,hm xs o q2,p1,q2,λv F2 H2 e2 p2=>?_⟩
 cases o with
 |dct oa kvs=>
  cases q3
  obtain⟨a,ob,ws,h1,h2,h3,h4,h5,h6⟩:=p2
  exact k v F2 H2 (e1.trans e2) ⟨a,ob,ws,h1,e1.hh.free h4,h2,h3,h5⟩
 |_=>cases q3
variable {k n:Nat}{m:List En->Option En}
theorem Zn (h:Fx X.prog X.w X.kw X.mg X.base x k n m)(hr:Room k X.A)(hg:Gl X x)(ha:DNs X B (e::es) gxs)(hdb:(x==("__debug__" : Str))=false:=by decide +kernel)
  (he:starEach (e::es) X.env=(false,eval e X.env)::starEach es X.env:=by rfl) (hpl:(backTo pos (starEach es X.env)).any (·.1)=false:=by rfl):DD X B (.Call (.Name x p) (e::es) [] pos) (gCall (len? n m) dctO gxs):=by
 obtain⟨f,fd,ps,F,hm,hk,hb⟩:=h.ex
 exact pe_imp (y2 F hr hg hm hk hb .nil pass0 ha hdb he hpl) λσ H Q h=>U0 yO h
end
def keysD (kvs:List (Key×D)):List D:=kvs.map λp=>kD p.1
def valsD (kvs:List (Key×D)):List D:=kvs.map (·.2)
section
variable {K:KW}{F:Hp}
theorem Rkv.keys {kvs:List (Key×D)}{vs:List (Key×V)}(r:Rkv K F kvs vs):Rps K F (keysD kvs) (keysV vs):=by
 unfold Rkv at r
 induction r with
 |nil=>exact rfl
 | @cons p q ps qs h t ih=>exact⟨kV q.1,_,rfl,by rw[<-h.1];exact zbd,ih⟩
theorem Rkv.vals {kvs:List (Key×D)}{vs:List (Key×V)}(r:Rkv K F kvs vs):Rps K F (valsD kvs) (valsV vs):=by
 unfold Rkv at r
 induction r with
 |nil=>exact rfl
 | @cons p q ps qs h t ih=>exact⟨q.2,_,rfl,h.2,ih⟩
end
def gKeys (gk:EnvD->Option (List (Key×D))):EnvD->Option (List D):=λρ=>(gk ρ).map keysD
def gVals (gk:EnvD->Option (List (Key×D))):EnvD->Option (List D):=λρ=>(gk ρ).map valsD
theorem KN {vs:List (Key×V)}{i:Nat}{k:Key}{v:V}(h:vs[i]?=some (k,v)):(keysV vs)[i]?=some (kV k):=by unfold keysV;rw[List.getElem?_map,h];rfl
section
variable {X:Cx}{B:Bs}{e a b c o i tg:Expr}{es:List Expr}{pos p apos cpos pos':Pos}{g ga gi gv':EnvD->Option D}{gk gk2:EnvD->Option (List (Key×D))}{gs:EnvD->Option (List D)}{x:Str}
theorem Kd {w:World}{P:Program}{K:KW}{Hb F:Hp}{a:Addr}{ob:Obj}{kvs:List (Key×D)}{vs:List (Key×V)}(hw:K.w=w)(r:Rkv K F kvs vs)(at':∀H2,Same Hb H2->H2 a=some (DX w a ob vs)):Jok K Hb (Itk P w a ob vs) F (keysD kvs):=by
 intro F2 H2 s1 s2 s3 j
 have hl:(keysD kvs).length=vs.length:=by unfold keysD;rw[List.length_map,r.length]
 refine⟨λhj=>⟨⟨by rw[<-hl];exact hj,at' H2 s3⟩,λx H3 hy=>?_⟩,λhj=>⟨by rw[hj,hl],at' H2 s3⟩⟩
 obtain⟨rfl,k,v,h1,rfl⟩:=hy
 obtain⟨d,hd,rd⟩:=r.keys.get' (KN h1)
 exact⟨F2,d,.refl s2,hd,rd.mono s1⟩
theorem Rk (h:DK X B e gk):DI X B (λH=>H) tg e (gKeys gk) :=
 wj (G3 h) λσ H R ⟨F,ρ,ds,r,hg,k⟩=>by
  unfold gKeys at hg
  cases q:gk ρ with
  |none=>rw[q] at hg;cases hg
  |some kvs=>
   rw[q] at hg;cases hg
   exact⟨F,ρ,kvs,r,q,λv F1 H1 e1 ⟨a,ob,vs,h1,h2,h3⟩=>⟨a,ob,vs,h1,h2,k _ F1 H1 e1 (Kd rfl h3 λH2 s=>s _ _ h2)⟩⟩
theorem zdt (hc:X.calm=true)(hg:Gl X "list") (hm:X.mg "list" = none) (ho:DK X B o gk) (m:L4.M0 X o "values" apos cpos)
  (he:starEach [.Call (.Attribute o "values" apos) [] [] cpos] X.env=(false,eval (.Call (.Attribute o "values" apos) [] [] cpos) X.env)::starEach [] X.env:=by rfl) (hpl:(backTo pos (starEach [] X.env)).any (·.1)=false:=by rfl) :
  DA X B (.Call (.Name "list" p) [.Call (.Attribute o "values" apos) [] [] cpos] [] pos) (gVals gk) :=
 pe_imp (uP (Us hc) hg hm (by decide +kernel) (zN (Ur ho m) yd he) (by decide) (by decide) he hpl) λσ H Q ⟨F,ρ,ds,r,hg,k⟩=>by
  unfold gVals at hg
  cases q:gk ρ with
  |none=>rw[q] at hg;cases hg
  |some kvs=>
   rw[q] at hg;cases hg
   refine⟨F,ρ,kvs,r,q,λv F1 H1 e1 ⟨a,ob,vs,h1,h2,h3⟩=>⟨a,ob,vs,h1,h2,λt ht=>?_⟩⟩
   have hne:a≠t:=zw h2 ht
   have e2:=e1.trans (.new (o:=VW "dict_values" t a) e1.fh ht)
   refine⟨t,a,ob,vs,rfl,zl,by rw[zg hne];exact h2,λp hp=>k _ F1 _ (e2.trans (.new e2.fh hp)) ⟨p,_,rfl,e2.hh.free hp,zl,e2.fh.free hp,h3.vals⟩⟩
end
section
variable {X:Cx}{B:Bs}{e a b c o i tg:Expr}{es:List Expr}{pos p apos cpos pos':Pos}{g ga gi gv':EnvD->Option D}{gk gk2:EnvD->Option (List (Key×D))}{gs:EnvD->Option (List D)}{x:Str}
theorem zce {op:CmpOp}{t:TE}(h:PC X op a b t)(k:∀σ H Q,lG X.kw B (pE X.kw) g σ H Q->t σ H Q)(hm:behindInMarks op b=false):DT X B (.Compare a [op] [b] pos) (gb' g) :=
 vf (zb5 h hm) λσ H Q ⟨F,ρ,y,r,hg,k'⟩=>by
  unfold gb' at hg
  cases q:g ρ with
  |none=>rw[q] at hg;cases hg
  |some d=>
   rw[q] at hg
   have hd:d=.bl y:=by
    cases d<;>cases hg
    rfl
   subst hd
   exact k σ H _ ⟨F,ρ,_,r,q,λv F' H' e p=>⟨y,p,k' F' H' e⟩⟩
theorem Rz {σ:St}{H:Hp}{Q:VK}(h:lG X.kw B (pE X.kw) (gInD false gi gk) σ H Q):tXIn X.prog X.w (lG X.kw B (pR X.kw) gi) (lG X.kw B (pK X.kw) gk) σ H Q:=by
 obtain⟨F,ρ,d,r,hg,k⟩:=h
 obtain⟨ky,kvs,q1,q2,rfl⟩:=QW hg
 refine⟨F,ρ,_,r,q1,λu F1 H1 e1 p1=>⟨F1,ρ,kvs,r.ext e1,q2,λv F2 H2 e2 ⟨a,ob,vs,h1,h2,h3⟩=>⟨a,ob,vs,ky,h1,h2,kU p1,?_⟩⟩⟩
 rw[UX h3]
 exact k _ F2 H2 (e1.trans e2) (by simp;rfl)
theorem K3 (hi:DR X B i gi)(ho:DK X B o gk)(hm:behindInMarks .In o=false:=by rfl):DT X B (.Compare i [.In] [o] pos) (gb' (gInD false gi gk)):=zce (za5 hi ho) (λ_ _ _ h=>Rz h) hm
end
def JR (H:Hp)(a:Addr):Hp:=λb=>if b=a then none else H b
def lSp (K:KW)(n:Nat)(m:Addr->List (Key×D)->List En->Option (List (Key×D))):Sp:=λvs H Q _=>
 ∃F kvs xs kvs' a ob ws us,vs=.ref a::us/\Same F H/\F a=none/\H a=some (DX K.w a ob ws)/\Rkv K F kvs ws/\xs.length+1=n/\Paired (λx v=>ArgE K F (JR H a) x v) xs us/\m a kvs xs=some kvs' /\
  ∀F' H' ob' ws',Ext F (JR H a) F' H'->H' a=some (DX K.w a ob' ws')->F' a=none->Rkv K F' kvs' ws'->Q .non H'
section
variable {P:Program}{w:World}{K:PySem.W.Frag}{mg:Str->Option Value}{base:Heap}
structure Lx (P:Program)(w:World)(K:PySem.W.Frag)(mg:Str->Option Value)(base:Heap)(x:Str)(k n:Nat)(m:List (Key×D)->List En->Option (List (Key×D))):Prop where
 ex:∃f fd ps m',FnOk P w K mg base CX0 k f fd ps (lSp ⟨K,w⟩ n m')/\mg x=some (.ref f)/\keepIn K (.ref f)=true/\Binds K fd ps []/\∀a kvs xs,xs.length+1=n->m' a kvs xs=m kvs xs
end
section
variable {X:Cx}{B:Bs}{es:List Expr}{pos p p1 cpos:Pos}{gxs:EnvD->Option (List En)}{x y:Str}{k n:Nat}{m:List (Key×D)->List En->Option (List (Key×D))}
end
def fRep:D->D->Option (List D)
 |.lst ds,.int k=>if k.natAbs<=100000/\ds.length * k.toNat<=TOP then some (List.replicate k.toNat ds).flatten else none
 |_,_=>none
theorem Rps.rep {K:KW}{F:Hp}{ds:List D}{vs:List V}(r:Rps K F ds vs):∀n,Rps K F (List.replicate n ds).flatten (List.replicate n vs).flatten
 |0=>rfl
 |n+1=>by
  rw[List.replicate_succ,List.flatten_cons,List.replicate_succ,List.flatten_cons]
  exact r.append (Rps.rep r n)
theorem Gv {K:KW}:OkR K rRep (pA K) fRep:=by
 intro F H x y dx dy d Q s rx ry e k
 unfold fRep at e
 split at e
 ·rename_i ds n
  split at e
  ·rename_i hc
   cases e
   obtain⟨a,vs,rfl,h1,h2⟩:=rx.lst s
   cases ry.int
   refine⟨a,n,vs,rfl,rfl,h1,by omega,by omega,ym (by rw[<-h2.length];exact hc.2),λp hp=>k _ F _ (.new s hp) ⟨p,_,rfl,hp,zl,s.free hp,h2.rep _⟩⟩
  ·cases e
 ·cases e
section
variable {X:Cx}{B:Bs}{a b:Expr}{pos:Pos}{ga gb:EnvD->Option D}
theorem Q3 (ha:DR X B a ga)(hb:DR X B b gb):DA X B (.BinOp a .Mult b pos) (g2 fRep ga gb):=Vp KK Gv ha hb
end
section
variable {ρ:EnvD}{i j n:Nat}{d:D}{ds:List D}{kvs:List (Key×D)}{oa:Option Addr}{gi g:EnvD->Option D}{gk gk2:EnvD->Option (List (Key×D))}{gs:EnvD->Option (List D)}
@[simp]theorem zg0:gk' i ρ=match ρ[i]? with | some (some (.dct _ kvs))=>some kvs | some (some (.dbo kvs))=>some kvs | _=>none:=rfl
@[simp]theorem zf2:gNewD ρ=some []:=rfl
@[simp]theorem zj1:gGetD gk gi ρ=(gk ρ).bind λkvs=>((gi ρ).bind dKey).bind λk=>lookD kvs k:=rfl
@[simp]theorem zf7 {neg:Bool}:gInD neg gi gk ρ=((gi ρ).bind dKey).bind λk=>(gk ρ).map λkvs=>.bl (neg ^^ (lookD kvs k).isSome):=rfl
@[simp]theorem zjn:gKeys gk ρ=(gk ρ).map keysD:=rfl
@[simp]theorem zff:gVals gk ρ=(gk ρ).map valsD:=rfl
@[simp]theorem zg6:sSetD j gk ρ=(gk ρ).map λkvs=>.next (ρ.set j (some (.dct none kvs))):=rfl
@[simp]theorem zjg:sRetD gk ρ=(gk ρ).map λkvs=>.ret (.dct none kvs):=rfl
@[simp]theorem zhs:sRetVD j ρ=match ρ[j]? with | some (some (.dct none kvs))=>some (.ret (.dct none kvs)) | _=>none:=rfl
@[simp]theorem zgf:sPutD j gi g ρ=match ρ[j]? with | some (some (.dct oa kvs))=>(g ρ).bind λd=>((gi ρ).bind dKey).bind λk=>if kvs.length < sizeLine then some (.next (ρ.set j (some (.dct oa (putD kvs k d))))) else none | _=>none:=rfl
@[simp]theorem zgm:dctO (.dct oa kvs)=some kvs:=rfl
@[simp]theorem zhc {x:Str}:dKey (.str x)=some (.inr x):=rfl
@[simp]theorem zhf {k:Int}:dKey (.int k)=some (.inl k):=rfl
@[simp]theorem zfh:fDict [.lst ds]=(prs ds).map (mergeD []):=rfl
@[simp]theorem zg9 {k:Int}:fRep (.lst ds) (.int k)=if k.natAbs<=100000/\ds.length * k.toNat<=TOP then some (List.replicate k.toNat ds).flatten else none:=rfl
end
end Dv
namespace L4
open PySem PySem.Spec L2 L3
open PyProof.Rows hiding St
end L4
namespace Dv
open PySem PySem.Spec L2 L3 L4
open PyProof.Rows hiding St
def gNev:EnvD->Option D:=λ_=>none
section
variable {X:Cx}{B:Bs}{e a b c o i tg st:Expr}{es elts:List Expr}{pos p p2 apos cpos pos' tpos:Pos}{tk:Nat}{g ga gi gv':EnvD->Option D}{gk gk2:EnvD->Option (List (Key×D))}{gs:EnvD->Option (List D)}{gxs:EnvD->Option (List En)}{x:Str}
theorem zbg:DE X B e gNev:=λpins s σ H Q I ⟨F,ρ,d,r,hg,k⟩=>by cases hg
def mN (m:List En->Option En):List En->Option En:=λxs=>m (xs++[.val .non])
end
structure FunD (K:PySem.W.Frag)(x qual:Str)(st:Stmt)(f:Addr)(fd:FuncData):Prop where
 ex:∃(oc dV:Value) (od:Option Addr) (kV doc pm:Value) (an:Option Addr) (cdv ct:Value) (osl:Array (Option Value)),
  fd=fnOf x qual (zm st) (zk st) (zd st) dV kV doc pm an cdv ct/\K.lookup f=some ⟨oc,od,.func fd,osl⟩/\codeIn K cdv qual=true
 kp:keepIn K (.ref f)=true
section
variable {P:Program}{w:World}{K:PySem.W.Frag}{mg:Str->Option Value}{base:Heap}
theorem FunD.ok {x qual:Str}{st:Stmt}{f:Addr}{fd:FuncData}{N ps:List Str}{k:Nat}{sp:Sp}(F:FunD K x qual st f fd)(S:FnScope N ps (zd st))(len:∀vs H Q E,sp vs H Q E->vs.length=ps.length)
  (hbody:∀(cdv:Value) (A:Around) (outer:List Env) (s:Shared) (H:Hp) (vs:List V) (Q:VK) (E:XK),Room k (A.deeper (envOfC qual (zd st) s.heap.objs.size f cdv))->sp vs H Q E ->
   ∃t,PSs (cxOf CX0 P w K mg base N qual (zd st) f cdv A outer s H E).nox (zk st) t/\t { nx:=λ_ H'=>Q .non H',rt:=Q } (L2.start N vs) H):FnOk P w K mg base CX0 (k+1) f fd ps sp:=by
 obtain⟨oc,dV,od,kV,doc,pm,an,cdv,ct,osl,rfl,lk,hcd⟩:=F.ex
 refine uX lk hcd S len λA outer s H vs Q E hr hsp=>?_
 obtain⟨t,h,q⟩:=hbody cdv A outer s H vs Q E hr hsp
 exact⟨t,h.nox,q⟩
theorem K4 {x qual:Str}{st:Stmt}{f:Addr}{oc dV:Value}{od an:Option Addr}{osl:Array (Option Value)}{kV doc pm cdv ct:Value}(l:K.lookup f=some ⟨oc,od,.func (fnOf x qual (zm st) (zk st) (zd st) dV kV doc pm an cdv ct),osl⟩)
  (c:codeIn K cdv qual=true) (k:keepIn K (.ref f)=true):FunD K x qual st f (fnOf x qual (zm st) (zk st) (zd st) dV kV doc pm an cdv ct):=⟨⟨oc,dV,od,kV,doc,pm,an,cdv,ct,osl,rfl,l,c⟩,k⟩
theorem zcr {x qual:Str}{st:Stmt}{f:Addr}{fd:FuncData}{N ps:List Str}{k:Nat}{g:SD}(F:FunD K x qual st f fd)(S:FnScope N ps (zd st))
  (hb:∀(cdv:Value) (A:Around) (outer:List Env) (s:Shared) (H:Hp) (E:XK) (B:Bs),Room k (A.deeper (envOfC qual (zd st) s.heap.objs.size f cdv)) ->
   DSs (cxOf CX0 P w K mg base N qual (zd st) f cdv A outer s H E).nox B (zk st) g) :
  FnOk P w K mg base CX0 (k+1) f fd ps (pSp ⟨K,w⟩ ps.length (len? ps.length (mir N g))):=by
 refine F.ok S (λvs H Q E h=>?_) (λcdv A outer s H vs Q E hr h=>?_)
 ·obtain⟨F,xs,o,_,hl,hp,_⟩:=h
  rw[<-xY hp];exact hl
 ·obtain⟨F0,xs,o,fh,hl,hp,hm,k⟩:=h
  refine⟨_,hb cdv A outer s H E ⟨F0,H⟩ hr,?_⟩
  have hm:mir N g xs=some o:=by
   unfold len? at hm
   rw[if_pos hl] at hm
   exact hm
  unfold mir at hm
  cases q:g (stE N (xs.map some)) with
  |none=>rw[q] at hm;cases hm
  |some fl=>
   rw[q] at hm
   refine⟨F0,_,fl,qe (ps:=ps) fh hp,q,?_⟩
   cases fl with
   |next ρ=>cases hm;exact λσ' F' H' r s=>k .non F' H' r.ex rfl
   |ret o'=>cases hm;exact λv F' H' e p=>k v F' H' e p
   |brk ρ=>cases hm
   |cont ρ=>cases hm
structure FxN (P:Program)(w:World)(K:PySem.W.Frag)(mg:Str->Option Value)(base:Heap)(x:Str)(k n:Nat)(m:List En->Option En):Prop where
 ex:∃f fd ps,FnOk P w K mg base CX0 k f fd ps (pSp ⟨K,w⟩ n (len? n m))/\mg x=some (.ref f)/\keepIn K (.ref f)=true/\Binds K fd ps [.none]
end
section
variable {X:Cx}{B:Bs}{e:Expr}{es:List Expr}{pos p:Pos}{gxs:EnvD->Option (List En)}{x:Str}{k n:Nat}{m:List En->Option En}
theorem Wt {K:KW}{F H:Hp}{xs:List En}{vs:List V}(h:Paired (λx v=>ArgE K F H x v) xs vs):Paired (λx v=>ArgE K F H x v) (xs++[.val .non]) (vs++[.non]):=Paired.snoc h rfl
theorem UH (h:FxN X.prog X.w X.kw X.mg X.base x k (n+1) m)(hr:Room k X.A)(hg:Gl X x)(ha:DNs X B (e::es) gxs)(hdb:(x==("__debug__" : Str))=false:=by decide +kernel)
  (he:starEach (e::es) X.env=(false,eval e X.env)::starEach es X.env:=by rfl) (hpl:(backTo pos (starEach es X.env)).any (·.1)=false:=by rfl):DE X B (.Call (.Name x p) (e::es) [] pos) (gCall (len? n (mN m)) frzO gxs):=by
 obtain⟨f,fd,ps,F,hm,hk,hb⟩:=h.ex
 refine pe_imp (y2 F hr hg hm hk hb (dvs:=[.non]) (.cons rfl .nil) pass0 ha hdb he hpl) λσ H Q ⟨F,ρ,d,r,hg,k⟩=>?_
 obtain⟨xs,o,q1,q2,q3⟩:=bindC hg
 refine⟨F,ρ,xs,r,q1,λvs F1 H1 e1 p1=>?_⟩
 have hl:xs.length=n:=yO xs o q2
 have hm:m (xs++[.val .non])=some o:=by
  unfold len? at q2
  rw[if_pos hl] at q2
  exact q2
 refine⟨F1,xs++[.val .non],o,e1.fh,by simp[hl],Wt p1,by unfold len?;rw[if_pos (by simp[hl])];exact hm,λv F2 H2 e2 p2=>?_⟩
 obtain⟨F3,e3,p3⟩:=qZ q3 e2 p2
 exact k v F3 H2 (e1.trans e3) p3
end
section
variable {ρ:EnvD}{g gi:EnvD->Option D}{m:List En->Option En}{xs:List En}
@[simp]theorem zi4:gNev ρ=none:=rfl
@[simp]theorem zh9:mN m xs=m (xs++[.val .non]):=rfl
end
section
variable {X:Cx}{B:Bs}{e c tg iter:Expr}{pos p1 p2:Pos}{ge:EnvD->Option D}{t:EnvD->Option Bool}{gi:EnvD->Option (List D)}{gbd:SD}
end
end Dv
namespace L4
open PySem PySem.Spec L2 L3
open PyProof.Rows hiding St
section
variable {prog:Program}{w:World}{A:Around}{E:Value->Shared->Prop}{s:Shared}
end
section
variable {X:Cx}{o a b:Expr}{pos p2:Pos}{to ta tb:TE}
end
end L4
namespace Dv
open PySem PySem.Spec L2 L3 L4
open PyProof.Rows hiding St
section
variable {X:Cx}{B:Bs}{e ae be:Expr}{p p2 tpos pos:Pos}{ga gb:EnvD->Option D}{gl:EnvD->Option (List D)}{x:Str}
end
section
variable {X:Cx}{B:Bs}{hb:Hp->Hp}{e a b c o tg:Expr}{es:List Expr}{pos p p2 apos cpos:Pos}{g ga gb go:EnvD->Option D}{gs:EnvD->Option (List D)}{x:Str}
theorem YT:∀(l:List Int) (k:Nat),k<=l.length->preSum (λj=>l.getD j 0) k=(l.take k).sum
 |l,0,_=>by simp[preSum]
 |l,k+1,h=>by
  show preSum (λj=>l.getD j 0) k+l.getD k 0=_
  rw[YT l k (by omega),take_sum_succ l k (by omega)]
theorem GO (hc:X.calm=true):CallR X (.builtin "sum") (λxs H Q=>∃(a:Addr) (ns:List Int),xs=[.ref a]/\SqL X.kw H a (ns.map V.int)/\Q (.int ns.sum) H):=by
 intro pins s σ H vs us Q I r h
 obtain⟨a,ns,rfl,hq,q⟩:=h
 obtain⟨u,rfl,ru⟩:=vals1 r
 cases ru
 obtain⟨its,rv,pl,hz⟩:=I.list hq
 have hi:=kM rv
 obtain⟨xs,e⟩:=hi.allInts.items
 have hns:ns=xs.toList.map (·.1):=by rw[<-hi.numsOf,<-nums_intItems,<-e]
 have hl:=pl.isList
 rw[e] at hl
 refine call_sum_walkG (iter_intList hl λs₂ e st hfp hlI=>?_)
 subst e
 refine⟨_,_,_,_,_,_,numAt xs,rfl,Walks.list (A:=X.A.in1) (I.ok.hd hc) _ a hlI (intItems xs),st,hfp,(λ_ _=>intItems_at),λh' tk t' hk=>?_⟩
 have hk':=old_kept hk
 have hs:preSum (numAt xs) (intItems xs).size=ns.sum:=by
  have e1:(intItems xs).size=ns.length:=by rw[hns,List.length_map,Array.length_toList];simp[intItems]
  have e2:numAt xs=λj=>ns.getD j 0:=by funext j;rw[numAt_eq,<-hns]
  rw[e1,e2,YT ns ns.length (Nat.le_refl _),List.take_length]
 rw[hs]
 exact⟨.int ns.sum,H,I.kept (t':=tk) hk',⟨t',rfl⟩,q⟩
def fSumL:List D->Option D
 | [.lst ds]=>(asIs ds).map λns=>.int ns.sum
 |_=>none
theorem zac {K:KW}:CallOk K (λxs H Q=>∃(a:Addr) (ns:List Int),xs=[.ref a]/\SqL K H a (ns.map V.int)/\Q (.int ns.sum) H) (pE K) fSumL:=by
 intro F H vs ds d Q s hp e k
 unfold fSumL at e
 split at e
 ·rename_i ds
  cases q:asIs ds with
  |none=>rw[q] at e;cases e
  |some ns=>
   rw[q] at e
   cases e
   obtain⟨v,rfl,r⟩:=pair1 hp
   obtain⟨a,ws,rfl,h1,h2⟩:=r.lst s
   rw[ua q] at h2
   rw[Zv h2] at h1
   exact⟨a,ns,rfl,.of h1,k _ F H (.refl s) rfl⟩
 ·cases e
theorem Jj (hc:X.calm=true)(hg:Gl X "sum") (hm:X.mg "sum" = none) (ha:DRs X B [a] gs) (he:starEach [a] X.env=(false,eval a X.env)::starEach [] X.env:=by rfl) (hpl:(backTo pos (starEach [] X.env)).any (·.1)=false:=by rfl) :
  DE X B (.Call (.Name "sum" p) [a] [] pos) (gB fSumL gs):=vI (GO hc) zac hg hm (by decide +kernel) ha (by decide) (by decide) he hpl
end
@[simp]theorem zjo {ds:List D}:fSumL [.lst ds]=(asIs ds).map λns=>.int ns.sum:=rfl
section
variable {X:Cx}{B:Bs}{hb:Hp->Hp}{e a b c o tg:Expr}{es:List Expr}{pos p p2 apos cpos:Pos}{g ga gb go:EnvD->Option D}{gs:EnvD->Option (List D)}{x:Str}
end
end Dv
namespace L4
open PySem PySem.Spec L2 L3
open PyProof.Rows hiding St
section
variable {prog:Program}{w:World}{A:Around}{E:Value->Shared->Prop}{s:Shared}{T:String}{r d:Addr}{n:Nat}{P:Nat->Value->Prop}{OK:Heap->Prop}
end
end L4
namespace Dv
open PySem PySem.Spec L2 L3 L4
open PyProof.Rows hiding St
section
variable {X:Cx}{B:Bs}{o:Expr}{pos p:Pos}{gk:EnvD->Option (List (Key×D))}{x:Str}
end
section
variable {K:KW}{B:Bs}{F H:Hp}{σ:St}{ρ:EnvD}
theorem wH {j i:Nat}{x:En}(h:(ρ.set j none)[i]?=some (some x)):i≠j/\ρ[i]?=some (some x):=by
 rcases yn h with⟨rfl,q,_⟩ | ⟨hj,f⟩
 ·cases q
 ·exact⟨hj,f⟩
theorem Rep.forget (r:Rep K B F σ H ρ)(j:Nat):Rep K B F σ H (ρ.set j none) where
 ex:=r.ex
 len:=by simp[r.len]
 ents:=λi x h=>r.ents i x (wH h).2
 dj:=λi k x y v w h1 h2 s1 s2 hne=>r.dj i k x y v w (wH h1).2 (wH h2).2 s1 s2 hne
theorem Rep.loose (r:Rep K B F σ H ρ){j:Nat}(hj:∀x,ρ[j]?≠some (some x))(v:V):Rep K B F (σ.set j (some v)) H ρ where
 ex:=r.ex
 len:=by simp[r.len]
 ents:=λi x h=>by
  have hne:j≠i:=λz=>hj x (z ▸ h)
  obtain⟨w,h1,h2⟩:=r.ents i x h
  exact⟨w,by rw[List.getElem?_set_ne hne];exact h1,h2⟩
 dj:=λi k x y u w h1 h2 s1 s2 hne=>by
  have n1:j≠i:=λz=>hj x (z ▸ h1)
  have n2:j≠k:=λz=>hj y (z ▸ h2)
  rw[List.getElem?_set_ne n1] at s1
  rw[List.getElem?_set_ne n2] at s2
  exact r.dj i k x y u w h1 h2 s1 s2 hne
end
def mutN (k:Nat)(f:List D->List D->Option (List D))(es:List D):OT->Nat->Nat->Option OT
 |t,_,0=>some t
 |t,n,m+1=>((t.get [n,k]).bind OT.leaf).bind λds=>(f ds es).bind λds'=>mutN k f es (t.put [n,k] (.lst (lfs ds'))) (n+1) m
theorem Uj {k:Nat}{f:List D->List D->Option (List D)}{es:List D}{t t':OT}{n m:Nat}(h:mutN k f es t n (m+1)=some t'):∃ds ds',t.get [n,k]=some (.lst (lfs ds))/\f ds es=some ds'/\mutN k f es (t.put [n,k] (.lst (lfs ds'))) (n+1) m=some t':=by
 simp only[mutN] at h
 cases q1:t.get [n,k] with
 |none=>rw[q1] at h;cases h
 |some u=>
  rw[q1] at h
  replace h:((OT.leaf u).bind λds=>(f ds es).bind λds'=>mutN k f es (t.put [n,k] (.lst (lfs ds'))) (n+1) m)=some t':=h
  cases q2:OT.leaf u with
  |none=>rw[q2] at h;cases h
  |some ds=>
   rw[q2] at h
   replace h:((f ds es).bind λds'=>mutN k f es (t.put [n,k] (.lst (lfs ds'))) (n+1) m)=some t':=h
   cases q3:f ds es with
   |none=>rw[q3] at h;cases h
   |some ds'=>
    rw[q3] at h
    exact⟨ds,ds',by rw[Zj q2],q3,h⟩
def sAllT (i j k:Nat)(f:List D->List D->Option (List D))(es:List D):SD:=λρ=>if j < ρ.length then (match ρ[i]? with
 |some (some (.tre (.lst ts)))=>(mutN k f es (.lst ts) 0 ts.length).map λt'=>.next ((ρ.set j none).set i (some (.tre t')))
 |_=>none) else none
theorem zd0 {i j k:Nat}{f:List D->List D->Option (List D)}{es:List D}{ρ:EnvD}{fl:Fl}(h:sAllT i j k f es ρ=some fl):∃ts t',j < ρ.length/\ρ[i]?=some (some (.tre (.lst ts)))/\mutN k f es (.lst ts) 0 ts.length=some t'/\fl=.next ((ρ.set j none).set i (some (.tre t'))):=by
 unfold sAllT at h
 by_cases hj:j < ρ.length
 ·rw[if_pos hj] at h
  split at h
  ·rename_i ts hi
   cases q:mutN k f es (.lst ts) 0 ts.length with
   |none=>rw[q] at h;cases h
   |some t'=>rw[q] at h;cases h;exact⟨ts,t',hj,hi,q,rfl⟩
  ·cases h
 ·rw[if_neg hj] at h;cases h
theorem Wu {ts:List OT}{n k:Nat}{u:OT}:(OT.lst ts).put [n,k] u=.lst (puts ts n [k] u):=by simp[OT.put]
theorem JZ {u:OT}{p:List Nat}:∀ {ts:List OT} {n:Nat},(puts ts n p u).length=ts.length
 | [],_=>by simp[puts]
 |t::ts,0=>by simp[puts]
 |t::ts,n+1=>by simp[puts,JZ (ts:=ts)]
theorem YN:∀ {ts:List OT} {n k:Nat} {w:OT},gets ts n [k]=some w->∃u,gets ts n []=some u/\u.get [k]=some w
 | [],_,_,_,h=>by simp[gets] at h
 |t::ts,0,k,w,h=>⟨t,by cases t<;>simp[gets,OT.get],by simpa[gets] using h⟩
 |t::ts,n+1,k,w,h=>by
  simp only[gets] at h
  obtain⟨u,h1,h2⟩:=YN (ts:=ts) h
  exact⟨u,by simpa[gets] using h1,h2⟩
section
variable {X:Cx}{B:Bs}{tg e ck:Expr}{es:List Expr}{x y nm:Str}{pos p2 p3 p4 p5 apos cpos:Pos}{id:String}{r:V->List V->Hp->VK->Prop}{f:List D->List D->Option (List D)}{gs:EnvD->Option (List D)}{dd:List D}
theorem Jr {K:KW}{F H:Hp}{ts:List OT}{us:List V}{n k:Nat}{ds:List D}{z:V}(ro:RepOs K F H ts us)(hn:(feetOs H ts us).Nodup)(hg:gets ts n [k]=some (.lst (lfs ds)))(hz:us[n]?=some z) :
  ∃b vs c ws,z=.ref c/\(H c=some (.lst ws)∨H c=some (.tup ws))/\ws[k]?=some (.ref b)/\At K F H (feetOs H ts us) ds b vs/\∀ds' vs',Rps K F ds' vs'->RepOs K F (upd H b (.lst vs')) (puts ts n [k] (.lst (lfs ds'))) us/\feetOs (upd H b (.lst vs')) (puts ts n [k] (.lst (lfs ds'))) us=feetOs H ts us:=by
 obtain⟨b,vs,g1,g2,g3⟩:=RepOs.path ro hn hg
 obtain⟨u,h1,h2⟩:=YN hg
 obtain⟨w,k1,k2⟩:=RepOs.getp ro h1
 simp only[valsAt,hz] at k1 g1
 have k1:valAt H z []=some w:=k1
 cases k1
 have g1:valAt H z [k]=some (.ref b):=g1
 cases u with
 |frz d=>simp[OT.get] at h2
 |lst cs=>
  obtain⟨c,ws,rfl,q,_⟩:=k2
  refine⟨b,vs,c,ws,rfl,.inl q,?_,g2,g3⟩
  simp only[valAt,zB q] at g1
  cases q2:ws[k]? with
  |none=>rw[q2] at g1;cases g1
  |some v=>rw[q2] at g1;cases g1;rfl
 |tup cs=>
  obtain⟨c,ws,rfl,q,_⟩:=k2
  refine⟨b,vs,c,ws,rfl,.inr q,?_,g2,g3⟩
  simp only[valAt,zP q] at g1
  cases q2:ws[k]? with
  |none=>rw[q2] at g1;cases g1
  |some v=>rw[q2] at g1;cases g1;rfl
theorem Uq (i j k:Nat)(hij:i≠j)(hp:PassesOwn (model X.prog X.w) X.A X.env X.xe)(hc:X.calm=true)(hy:PE X (.Name y p2) (tVar i))(hx:PE X (.Name x p3) (tVar j))(hgn:PG X tg (gName j))(hk:PE X ck (tC (.int (k:Int))))(hsx:wS ck)
  (slot:Slot "list" nm id) (hty:typeOf (.builtin id)=pure (.type "method_descriptor")) (hm:MtR X id r) (ok:MutOk X.kw r f) (ha:DAs X B (e::es) gs) (hgs:∀ρ,gs ρ=some dd)
  (hbase:attributeBase (.Subscript (.Name x p3) ck p4) nm X.env (eval (.Subscript (.Name x p3) ck p4) X.env)=eval (.Subscript (.Name x p3) ck p4) X.env:=by rfl)
  (hfew:((backTo cpos (starEach (e::es) X.env)).all (λx=>!x.1)&&(backToKw cpos (keywordEach [] X.env)).all (λx=>x.1.isSome)
   && decide ((e::es).length+([]:List Keyword).length+(if ([]:List Keyword).isEmpty then 0 else 1) < 30))=true:=by rfl)
  (hline:(apos.endLine==cpos.line)=true:=by rfl) (hs:starEach (e::es) X.env=(false,eval e X.env)::starEach es X.env:=by rfl) (hplain:(backTo cpos (starEach es X.env)).any (·.1)=false:=by rfl)
  (hsw:swapsWith (.Call (.Attribute (.Subscript (.Name x p3) ck p4) nm apos) (e::es) [] cpos) none p5.line X.env=pure false:=by rfl)
  (hsI:∀z,foldedSetIterable (.Name y p2) X.env z=pure z:=by intro _;rfl) :
  DS X B (.For tg (.Name y p2) [.Expr (.Call (.Attribute (.Subscript (.Name x p3) ck p4) nm apos) (e::es) [] cpos) p5] [] pos) (sAllT i j k f dd) :=
 zH (JJ hp hc (uN hy) hgn (vx (yR (qH PySem.F.plainAttrs_list slot hty hm (qy jI hx hk hsx) ha hbase hfew hline hs hplain) hsw)) hsI) λE σ H ⟨F,ρ,fl,rr,hg,kk⟩=>by
  obtain⟨ts,t',hjr,hi,hm',rfl⟩:=zd0 hg
  obtain⟨v0,h0,⟨a,us,rfl,qa,ro⟩,rn,rf⟩:=rr.ents i _ hi
  have hl:=RepOs.length ro
  have hii:i < ρ.length:=(List.getElem?_eq_some_iff.mp hi).1
  refine⟨.ref a,h0,a,rfl,⟨us,.of qa⟩,?_⟩
  refine zcl (xs:=us) (λn σ2 H2=>∃F2 ρ2 ts2,Rep X.kw B F2 σ2 H2 ρ2/\Same F F2/\(∀z,ρ2[j]?≠some (some z))/\ρ2[i]?=some (some (.tre (.lst ts2)))/\ρ2.set i (some (.tre t'))=(ρ.set j none).set i (some (.tre t'))/\σ2[i]?=some (some (.ref a))/\H2 a=some (.lst us)/\ts2.length=ts.length/\mutN k f dd (.lst ts2) n (ts.length - n)=some t') ?_ ?_ ?_ ?_
  ·exact⟨F,ρ.set j none,ts,rr.forget j,Same.refl _,λz h=>(wH h).1 rfl,by rw[List.getElem?_set_ne (Ne.symm hij)];exact hi,rfl,h0,qa,rfl,hm'⟩
  ·rintro n σ2 H2 _ ⟨F2,ρ2,ts2,_,_,_,_,_,_,q2,_⟩
   exact .of q2
  ·rintro n z σ2 H2 hz ⟨F2,ρ2,ts2,r2,s2,n2,i2,e2,g2,q2,l2,m2⟩
   have hn:n < us.length:=(List.getElem?_eq_some_iff.mp hz).1
   rw[show ts.length - n=(ts.length - (n+1))+1 by omega] at m2
   obtain⟨ds,ds',d1,d2,d3⟩:=Uj m2
   have d1':gets ts2 n [k]=some (.lst (lfs ds)):=by simpa[OT.get] using d1
   obtain⟨v0',h0',⟨a',us',ea,qa',ro2⟩,rn2,rf2⟩:=r2.ents i _ i2
   rw[g2] at h0';cases h0';cases ea
   rw[q2] at qa';cases qa'
   simp only[feetO,zB q2,List.nodup_cons] at rn2
   obtain⟨b,vs,c,ws,rfl,hcw,hwk,hat,_⟩:=Jr ro2 rn2.2 d1' hz
   have r3:=r2.loose n2 (.ref c)
   have hjl:j < σ2.length:=by
    rw[r2.len]
    have:=congrArg List.length e2
    simp only[List.length_set] at this
    omega
   have hjs:(σ2.set j (some (.ref c)))[j]?=some (some (.ref c)):=List.getElem?_set_self hjl
   have his:(σ2.set j (some (.ref c)))[i]?=some (some (.ref a)):=by rw[List.getElem?_set_ne (Ne.symm hij)];exact g2
   refine⟨.ref c,hjs,?_⟩
   have hix:∀Q:VK,Q (.ref b) H2->rIx X.K (.ref c) (.int (k:Int)) H2 Q:=λQ hQ=>by
    rcases hcw with q | q
    ·exact .inl ⟨c,ws,(k:Int),.ref b,rfl,rfl,.of q,yy k hwk,hQ⟩
    ·exact .inr (.inl ⟨c,ws,(k:Int),.ref b,rfl,rfl,.of q,yy k hwk,hQ⟩)
   refine hix _ ?_
   refine⟨.inl ⟨rfl,_,.of hat.hb⟩,F2,ρ2,dd,r3,hgs ρ2,λvs3 F3 H3 e3 p3=>?_⟩
   have r4:=r3.ext e3
   obtain⟨v0',h0',⟨a',us',ea,qa',ro4⟩,rn4,rf4⟩:=r4.ents i _ i2
   rw[his] at h0';cases h0';cases ea
   have q4:H3 a=some (.lst us):=e3.hh _ _ q2
   rw[q4] at qa';cases qa'
   have rn4':=rn4
   simp only[feetO,zB q4,List.nodup_cons] at rn4'
   obtain⟨b2,vs2,c2,ws2,ec,hcw2,hwk2,at2,w2⟩:=Jr ro4 rn4'.2 d1' hz
   cases ec
   have hb:b2=b:=by
    rcases hcw with q | q<;>rcases hcw2 with q' | q'<;>rw[e3.hh _ _ q] at q'<;>cases q'
    ·rw[hwk] at hwk2;cases hwk2;rfl
    ·rw[hwk] at hwk2;cases hwk2;rfl
   subst hb
   have hne:a≠b2:=λz=>rn4'.1 (z ▸ at2.mem)
   refine ok F3 H3 b2 vs2 ds vs3 dd ds' _ at2.hb at2.rp p3 d2 λu vs' h=>?_
   obtain⟨k1,k2⟩:=w2 ds' vs' h
   have q5:upd H3 b2 (.lst vs') a=some (.lst us):=by rw[zg hne];exact q4
   have hfe:feetO (upd H3 b2 (.lst vs')) (.lst (puts ts2 n [k] (.lst (lfs ds')))) (.ref a)=feetO H3 (.lst ts2) (.ref a):=by simp only[feetO,zB q5,zB q4,k2]
   have hE:RepE X.kw B F3 (upd H3 b2 (.lst vs')) (.tre (.lst (puts ts2 n [k] (.lst (lfs ds'))))) (.ref a):=⟨⟨a,us,rfl,q5,k1⟩,by rw[hfe];exact rn4,λz hz=>rf4 z (by rw[hfe] at hz;exact hz)⟩
   have r5:=r4.writeG (y:=.tre (.lst (puts ts2 n [k] (.lst (lfs ds'))))) i2 his (a:=b2) (o:=.lst vs') (by show b2∈feetO H3 (.lst ts2) (.ref a);simp only[feetO,zB q4,List.mem_cons];exact .inr at2.mem) hE (λz hz=>by have hz':z∈feetO (upd H3 b2 (.lst vs')) (.lst (puts ts2 n [k] (.lst (lfs ds')))) (.ref a):=hz;rw[hfe] at hz';exact hz')
   have hil:i < ρ2.length:=(List.getElem?_eq_some_iff.mp i2).1
   refine⟨F3,_,puts ts2 n [k] (.lst (lfs ds')),r5,s2.trans e3.ff,λz hz=>n2 z (by rw[List.getElem?_set_ne hij] at hz;exact hz),List.getElem?_set_self hil,by rw[List.set_set];exact e2,his,q5,by rw[JZ];exact l2,?_⟩
   rw[Wu] at d3
   exact d3
  ·rintro σ2 H2 ⟨F2,ρ2,ts2,r2,s2,n2,i2,e2,g2,q2,l2,m2⟩
   rw[hl,Nat.sub_self] at m2
   cases m2
   refine kk σ2 F2 H2 ?_ s2
   rw[<-e2]
   have:ρ2.set i (some (.tre (.lst ts2)))=ρ2:=by
    apply List.ext_getElem?
    intro q
    by_cases hq:i=q
    ·subst hq
     rw[List.getElem?_set_self (List.getElem?_eq_some_iff.mp i2).1,i2]
    ·rw[List.getElem?_set_ne hq]
   rw[this]
   exact r2
end
end Dv
namespace L4
open PySem PySem.Spec L2 L3
open PyProof.Rows hiding St
section
variable {prog:Program}{w:World}{A:Around}{E:Value->Shared->Prop}{s:Shared}
end
section
variable {X:Cx}{a:Expr}{ta:TA}{p p2 pos pos2:Pos}
end
end L4
namespace Dv
open PySem PySem.Spec L2 L3 L4
open PyProof.Rows hiding St
section
variable {X:Cx}{B:Bs}{a:Expr}{p p2 pos pos2:Pos}{gs:EnvD->Option (List D)}
end
def lNz (K:KW)(B:Bs)(g:EnvD->Option (List En)):TA:=λσ H Q=>
 ∃F ρ xs,Rep K B F σ H ρ/\g ρ=some xs/\∀vs F1 F' H',Ext F H F1 H'->Same F1 F'->Same F' H'->Paired (λx v=>ArgE K F' H' x v) xs vs->Q vs H'
def DNz (X:Cx)(B:Bs)(es:List Expr)(g:EnvD->Option (List En)):Prop:=PA X es (lNz X.kw B g)
theorem ArgE.mono {K:KW}{F H F' H':Hp}(f:Same F F')(h:Same H H'):∀ {x:En} {v:V},ArgE K F H x v->ArgE K F' H' x v
 |.val _,_,r=>Rp.mono f r
 |.bor _,_,⟨a,vs,e1,e2,e3⟩=>⟨a,vs,e1,h _ _ e2,e3.mono f⟩
 |.acc _,_,r=>r
 |.oac _ _ _ _ _,_,r=>r
 |.tre _,_,r=>r
 |.dct _ _,_,r=>r
 |.dbo _,_,⟨a,ob,vs,e1,e2,e3⟩=>⟨a,ob,vs,e1,h _ _ e2,e3.mono f⟩
theorem zca {K:KW}{F H F' H':Hp}(f:Same F F')(h:Same H H'){xs:List En}{vs:List V}(p:Paired (λx v=>ArgE K F H x v) xs vs):Paired (λx v=>ArgE K F' H' x v) xs vs:=Paired.mapP p λ_ _ r=>r.mono f h
section
variable {X:Cx}{B:Bs}{e:Expr}{es:List Expr}{pos p:Pos}{g:EnvD->Option En}{gxs:EnvD->Option (List En)}{x:Str}
theorem Qb:DNz X B [] nNil:=by
 intro pos pins s σ H Q I ⟨F,ρ,xs,r,hg,k⟩
 cases hg
 exact yd pos pins s σ H Q I (k [] F F H (.refl r.fh) (Same.refl _) r.fh .nil)
theorem vm (he:DN X B e g)(hr:DNz X B es gxs)(hs:starEach (e::es) X.env=(false,eval e X.env)::starEach es X.env:=by rfl):DNz X B (e::es) (nCons g gxs):=by
 intro pos pins s σ H Q I ⟨F,ρ,xs,r,hg,k⟩
 refine zN he hr hs pos pins s σ H Q I ?_
 unfold nCons at hg
 cases q1:g ρ with
 |none=>rw[q1] at hg;cases hg
 |some y=>
  rw[q1] at hg
  cases q2:gxs ρ with
  |none=>replace hg:((gxs ρ).bind λds=>some (y::ds))=some xs:=hg;rw[q2] at hg;cases hg
  |some ys=>
   replace hg:((gxs ρ).bind λds=>some (y::ds))=some xs:=hg
   rw[q2] at hg
   cases hg
   exact⟨F,ρ,y,r,q1,λv F1 H1 e1 p1=>⟨F1,ρ,ys,r.ext e1,q2,λvs F2 F3 H2 e2 s2 s3 p2=>k _ F2 F3 H2 (e1.trans e2) s2 s3 (.cons (ArgE.mono (e2.ff.trans s2) e2.hh p1) p2)⟩⟩
def gz (i:Nat):EnvD->Option En:=λρ=>match ρ[i]? with
 |some (some (.tre t))=>some (.val t.erase)
 |_=>none
theorem Yx (i:Nat)(h:PE X (.Name x p) (tVar i))(hr:DNz X B es gxs)(hs:starEach (.Name x p::es) X.env=(false,eval (.Name x p) X.env)::starEach es X.env:=by rfl):DNz X B (.Name x p::es) (nCons (gz i) gxs):=by
 intro pos pins s σ H Q I ⟨F,ρ,xs,r,hg,k⟩
 refine zN h hr hs pos pins s σ H Q I ?_
 unfold nCons at hg
 cases q1:gz i ρ with
 |none=>rw[q1] at hg;cases hg
 |some y=>
  rw[q1] at hg
  cases q2:gxs ρ with
  |none=>replace hg:((gxs ρ).bind λds=>some (y::ds))=some xs:=hg;rw[q2] at hg;cases hg
  |some ys=>
   replace hg:((gxs ρ).bind λds=>some (y::ds))=some xs:=hg
   rw[q2] at hg
   cases hg
   unfold gz at q1
   split at q1
   ·rename_i t hi
    cases q1
    obtain⟨v,h1,_⟩:=r.ents i _ hi
    refine⟨v,h1,F,ρ,ys,r,q2,λvs F2 F3 H2 e2 s2 s3 p2=>?_⟩
    obtain⟨v',h1',ro,rn,rf⟩:=(r.ext e2).ents i _ hi
    rw[h1] at h1';cases h1'
    have f2:Same F2 (addF F2 H2 (feetO H2 t v)):=uB λa ha=>(rf a ha).1
    have z:=RepO.fz f2 ro λa ha=>ha
    have s4:Same F3 (addF F3 H2 (feetO H2 t v)):=λb u e=>by
     unfold addF
     by_cases hb:b∈feetO H2 t v
     ·rw[if_pos hb];exact s3 _ _ e
     ·rw[if_neg hb];exact e
    have s5:Same (addF F3 H2 (feetO H2 t v)) H2:=λb u e=>by
     unfold addF at e
     by_cases hb:b∈feetO H2 t v
     ·rw[if_pos hb] at e;exact e
     ·rw[if_neg hb] at e;exact s3 _ _ e
    have s6:Same (addF F2 H2 (feetO H2 t v)) (addF F3 H2 (feetO H2 t v)):=λb u e=>by
     unfold addF at e ⊢
     by_cases hb:b∈feetO H2 t v
     ·rw[if_pos hb] at e ⊢;exact e
     ·rw[if_neg hb] at e ⊢;exact s2 _ _ e
    exact k _ F2 (addF F3 H2 (feetO H2 t v)) H2 e2 (s2.trans s4) s5 (.cons (Rp.mono s6 z) (zca s4 (Same.refl _) p2))
   ·cases q1
def scal:D->Bool
 |.int _=>true
 |.bl _=>true
 |.non=>true
 |.str _=>true
 |_=>false
theorem K0 {K:KW}{F F':Hp}{d:D}{v:V}(h:scal d=true)(r:Rp K F d v):Rp K F' d v:=by
 cases d<;>first | exact r | cases h
def scaO:En->Option D
 |.val d=>if scal d then some d else none
 |_=>none
theorem U2 {F H H':Hp}(s:Same F H)(h:Same H H'):Ext F H F H':=⟨Same.refl _,h,s.trans h,λ_ z=>.inl z⟩
variable {k n:Nat}{m:List En->Option En}
theorem zdn (hm:∀xs o,m xs=some o->xs.length=n){E:XK}{σ:St}{H:Hp}{Q:VK}(h:lG X.kw B (pE X.kw) (gCall m scaO gxs) σ H Q):tCall (pSp X.kw n m) [] E (lNz X.kw B gxs) σ H Q:=by
 obtain⟨F,ρ,d,r,hg,k⟩:=h
 obtain⟨xs,o,q1,q2,q3⟩:=bindC hg
 refine⟨F,ρ,xs,r,q1,λvs F1 F' H1 e1 s1 s2 p1=>?_⟩
 show pSp X.kw n m (vs++[]) H1 Q E
 rw[List.append_nil]
 refine⟨F',xs,o,s2,hm xs o q2,p1,q2,λv F2 H2 e2 p2=>?_⟩
 cases o with
 |val d'=>
  by_cases hs:scal d'=true
  ·rw[show scaO (.val d')=if scal d' then some d' else none from rfl,if_pos hs] at q3
   cases q3
   exact k v F1 H2 (e1.trans (U2 e1.fh e2.hh)) (K0 hs p2)
  ·rw[show scaO (.val d')=if scal d' then some d' else none from rfl,if_neg hs] at q3;cases q3
 |_=>cases q3
theorem WO (h:Fx X.prog X.w X.kw X.mg X.base x k n m)(hr:Room k X.A)(hg:Gl X x)(ha:DNz X B (e::es) gxs)(hdb:(x==("__debug__" : Str))=false:=by decide +kernel)
  (he:starEach (e::es) X.env=(false,eval e X.env)::starEach es X.env:=by rfl) (hpl:(backTo pos (starEach es X.env)).any (·.1)=false:=by rfl):DE X B (.Call (.Name x p) (e::es) [] pos) (gCall (len? n m) scaO gxs):=by
 obtain⟨f,fd,ps,F,hm,hk,hb⟩:=h.ex
 exact pe_imp (y2 F hr hg hm hk hb .nil pass0 ha hdb he hpl) λσ H Q h=>zdn yO h
end
section
variable {K:KW}{B:Bs}{F H:Hp}{σ:St}{ρ:EnvD}
theorem Rep.writeH (r:Rep K B F σ H ρ){i:Nat}{x y:En}{v:V}{a:Addr}{o:HO}(hi:ρ[i]?=some (some x))(hs:σ[i]?=some (some v))(ha:a∈feetE H x v)(hy:RepE K B F (upd H a o) y v)
  (hsub:∀b∈feetE (upd H a o) y v,b∈feetE H x v∨∀(j:Nat) z w,ρ[j]?=some (some z)->σ[j]?=some (some w)->j≠i->b∉feetE H z w) :
  Rep K B F σ (upd H a o) (ρ.set i (some y)):=by
 have hl:i < ρ.length:=(List.getElem?_eq_some_iff.mp hi).1
 obtain⟨v',hv',rx⟩:=r.ents i x hi
 rw[hs] at hv';cases hv'
 obtain⟨_,hf,h0⟩:=rx.feet_at ha
 have oth:∀ {j:Nat} {z:En} {w:V},ρ[j]?=some (some z)->σ[j]?=some (some w)->j≠i->RepE K B F (upd H a o) z w/\feetE (upd H a o) z w=feetE H z w:=fun {j z w} e s hj=>by
  obtain⟨w',hw',rz⟩:=r.ents j z e
  rw[s] at hw';cases hw'
  exact rz.other (λhz=>r.dj i j x z v w hi e hs s (Ne.symm hj) a ha hz) h0
 have no:∀ {b:Addr} {j:Nat} {z:En} {w:V},b∈feetE (upd H a o) y v->ρ[j]?=some (some z)->σ[j]?=some (some w)->j≠i->b∉feetE H z w:=fun {b j z w} hb e s hj=>by
  rcases hsub b hb with h | h
  ·exact r.dj i j x z v w hi e hs s (Ne.symm hj) b h
  ·exact h j z w e s hj
 refine⟨⟨r.ex.ff,λb u e=>?_,λb u e=>?_,r.ex.nw⟩,by simp[r.len],λj z e=>?_,λj k z w u t e1 e2 s1 s2 hne b hb hc=>?_⟩
 ·rw[zg (zw e h0)];exact r.ex.hh b u e
 ·rw[zg (zw e hf)];exact r.ex.fh b u e
 ·rcases yn e with⟨rfl,q,_⟩ | ⟨hj,e⟩
  ·cases q;exact⟨v,hs,hy⟩
  ·obtain⟨w,h1,_⟩:=r.ents j z e
   exact⟨w,h1,(oth e h1 hj).1⟩
 ·rcases yn e1 with⟨rfl,q1,_⟩ | ⟨hj,f1⟩<;>rcases yn e2 with⟨rfl,q2,_⟩ | ⟨hk,f2⟩
  ·exact hne rfl
  ·cases q1
   rw[hs] at s1;cases s1
   rw[(oth f2 s2 hk).2] at hc
   exact no hb f2 s2 hk hc
  ·cases q2
   rw[hs] at s2;cases s2
   rw[(oth f1 s1 hj).2] at hb
   exact no hc f1 s1 hj hb
  ·rw[(oth f1 s1 hj).2] at hb
   rw[(oth f2 s2 hk).2] at hc
   exact r.dj j k z w u t f1 f2 s1 s2 hne b hb hc
theorem qr {t:OT}{v:V}{k:Nat}{ds:List D}(ro:RepO K F H t v)(hn:(feetO H t v).Nodup)(hg:t.get [k]=some (.lst (lfs ds))) :
  ∃b vs c ws,v=.ref c/\(H c=some (.lst ws)∨H c=some (.tup ws))/\ws[k]?=some (.ref b)/\At K F H (feetO H t v) ds b vs:=by
 obtain⟨b,vs,g1,g2,g3⟩:=RepO.path ro hn hg
 cases t with
 |frz d=>simp[OT.get] at hg
 |lst cs=>
  obtain⟨c,ws,rfl,q,_⟩:=ro
  refine⟨b,vs,c,ws,rfl,.inl q,?_,g2⟩
  simp only[valAt,zB q] at g1
  cases q2:ws[k]? with
  |none=>rw[q2] at g1;cases g1
  |some v=>rw[q2] at g1;cases g1;rfl
 |tup cs=>
  obtain⟨c,ws,rfl,q,_⟩:=ro
  refine⟨b,vs,c,ws,rfl,.inr q,?_,g2⟩
  simp only[valAt,zP q] at g1
  cases q2:ws[k]? with
  |none=>rw[q2] at g1;cases g1
  |some v=>rw[q2] at g1;cases g1;rfl
theorem WH {K':PySem.W.Frag}{H:Hp}{c b:Addr}{ws:List V}{k:Nat}{Q:VK}(hcw:H c=some (.lst ws)∨H c=some (.tup ws))(hwk:ws[k]?=some (.ref b))(hQ:Q (.ref b) H):rIx K' (.ref c) (.int (k:Int)) H Q:=by
 rcases hcw with q | q
 ·exact .inl ⟨c,ws,(k:Int),.ref b,rfl,rfl,.of q,yy k hwk,hQ⟩
 ·exact .inr (.inl ⟨c,ws,(k:Int),.ref b,rfl,rfl,.of q,yy k hwk,hQ⟩)
theorem Rep.take (r:Rep K B F σ H ρ){i j:Nat}{t:OT}{c b:Addr}{vs:List V}{ds:List D}(hi:ρ[i]?=some (some (.tre t)))(hs:σ[i]?=some (some (.ref c)))(h:At K F H (feetO H t (.ref c)) ds b vs):Rep K B F (σ.set j (some (.ref b))) H ((ρ.set i none).set j (some (.acc ds))):=by
 obtain⟨v',hv',ro,rn,rf⟩:=r.ents i _ hi
 rw[hs] at hv';cases hv'
 refine (r.forget i).seto (x:=.acc ds) ⟨b,vs,rfl,h.hb,(rf b h.mem).1,(rf b h.mem).2,h.rp⟩ λk y w e1 e2 hk a ha=>?_
 have:a=b:=by simpa[feetE] using ha
 subst this
 obtain⟨hne,e1⟩:=wH e1
 exact r.dj i k _ y _ w hi e1 hs e2 (Ne.symm hne) a h.mem
theorem W3:∀ {ts:List OT} {vs:List V} {t:OT} {v:V},RepOs K F H ts vs->RepO K F H t v->RepOs K F H (ts++[t]) (vs++[v])
 | [],_,t,v,h,h2=>by cases h;exact⟨v,[],rfl,h2,rfl⟩
 |a::ts,_,t,v,⟨w,r,e,h1,h2⟩,h3=>by subst e;exact⟨w,r++[v],rfl,h1,W3 h2 h3⟩
theorem Vq:∀ {ts:List OT} {vs:List V} {t:OT} {v:V},RepOs K F H ts vs->feetOs H (ts++[t]) (vs++[v])=feetOs H ts vs++feetO H t v
 | [],_,t,v,h=>by cases h;simp[feetOs]
 |a::ts,_,t,v,⟨w,r,e,h1,h2⟩=>by subst e;simp only[List.cons_append,feetOs,Vq h2,List.append_assoc]
theorem VQ {b:Addr}{ds:List D}:feetO H (.lst (lfs ds)) (.ref b)=[b]:=by
 simp only[feetO]
 have:∀(ds:List D) (vs:List V),feetOs H (lfs ds) vs=[]:=by
  intro ds
  induction ds with
  |nil=>intro vs;rfl
  |cons d ds ih=>intro vs;cases vs with
   |nil=>rfl
   |cons v vs=>show feetO H (.frz d) v++feetOs H (lfs ds) vs=[];rw[ih];rfl
 rw[this]
end
theorem RD {K:KW}{F H:Hp}{t:OT}{c:Addr}{ws:List V}{b0 b1:Addr}{ns qs:List D}(ro:RepO K F H t (.ref c))(hn:(feetO H t (.ref c)).Nodup)(hcw:H c=some (.lst ws)∨H c=some (.tup ws))(g0:t.get [0]=some (.lst (lfs ns)))(g1:t.get [1]=some (.lst (lfs qs)))(h0:ws[0]?=some (.ref b0))(h1:ws[1]?=some (.ref b1)):b0≠b1:=by
 have key:∀(ts:List OT) (us:List V),RepOs K F H ts us->gets ts 0 []=some (.lst (lfs ns))->gets ts 1 []=some (.lst (lfs qs))->us[0]?=some (.ref b0)->us[1]?=some (.ref b1)->(feetOs H ts us).Nodup->b0≠b1:=by
  intro ts us r e0 e1 u0 u1 nd
  match ts,r,e0,e1,nd with
  | [],_,e0,_,_=>simp[gets] at e0
  | [_],_,_,e1,_=>simp[gets] at e1
  |a::b::ts,r,e0,e1,nd=>
   obtain⟨v,r',e,ra,v2,r'',e',rb,rr⟩:=r
   subst e e'
   have self:∀u:OT,u.get []=some u:=λu=>by cases u<;>simp[OT.get]
   have ea:a=.lst (lfs ns):=by
    have e:a.get []=some (.lst (lfs ns)):=by simpa only[gets] using e0
    rw[self] at e;exact Option.some.inj e
   have eb:b=.lst (lfs qs):=by
    have e:b.get []=some (.lst (lfs qs)):=by simpa only[gets] using e1
    rw[self] at e;exact Option.some.inj e
   subst ea eb
   simp at u0 u1
   subst u0 u1
   simp only[feetOs,VQ] at nd
   intro z
   subst z
   simp at nd
 cases t with
 |frz d=>simp[OT.get] at g0
 |lst ts=>
  obtain⟨c',us,e,q,r⟩:=ro
  cases e
  have:us=ws:=by rcases hcw with z | z<;>rw[q] at z<;>cases z;rfl
  subst this
  simp only[feetO,zB q,List.nodup_cons] at hn
  simp only[OT.get] at g0 g1
  exact key ts us r g0 g1 h0 h1 hn.2
 |tup ts=>
  obtain⟨c',us,e,q,r⟩:=ro
  cases e
  have:us=ws:=by rcases hcw with z | z<;>rw[q] at z<;>cases z;rfl
  subst this
  simp only[feetO,zP q,List.nodup_cons] at hn
  simp only[OT.get] at g0 g1
  exact key ts us r g0 g1 h0 h1 hn.2
section
variable {X:Cx}{B:Bs}{e ck ck0 ck1:Expr}{x y z:Str}{pos pos1 pos2 p p1 p2 p3 p4 p5 p6 p7 pos' apos cpos:Pos}{g:EnvD->Option D}
def sMv (i s j:Nat)(g:EnvD->Option D):SD:=λρ=>match ρ[i]?,ρ[s]? with
 |some (some (.tre (.lst ts))),some (some (.tre t))=>(g ρ).bind λd=>((t.get [0]).bind OT.leaf).bind λns=>((t.get [1]).bind OT.leaf).bind λqs=>if ts.length<=TOP then some (.next (((ρ.set s none).set j (some (.acc qs))).set i (some (.tre (.lst (ts++[.tup [.frz d,.lst (lfs ns)]])))))) else none
 |_,_=>none
theorem bind_some {α β:Type}{o:Option α}{f:α->Option β}{b:β}(h:o.bind f=some b):∃a,o=some a/\f a=some b:=by
 cases o with
 |none=>cases h
 |some a=>exact⟨a,rfl,h⟩
theorem zd6 {i s j:Nat}{ρ:EnvD}{fl:Fl}(h:sMv i s j g ρ=some fl):∃ts t d ns qs,ρ[i]?=some (some (.tre (.lst ts)))/\ρ[s]?=some (some (.tre t))/\g ρ=some d/\t.get [0]=some (.lst (lfs ns))/\t.get [1]=some (.lst (lfs qs))/\ts.length<=TOP/\fl=.next (((ρ.set s none).set j (some (.acc qs))).set i (some (.tre (.lst (ts++[.tup [.frz d,.lst (lfs ns)]]))))):=by
 unfold sMv at h
 split at h
 ·rename_i ts t h1 h2
  obtain⟨d,e1,h⟩:=bind_some h
  obtain⟨ns,e2,h⟩:=bind_some h
  obtain⟨qs,e3,h⟩:=bind_some h
  obtain⟨u0,f0,g0⟩:=bind_some e2
  obtain⟨u1,f1,g1⟩:=bind_some e3
  split at h
  ·rename_i hl
   cases h
   exact⟨ts,t,d,ns,qs,h1,h2,e1,by rw[f0,Zj g0],by rw[f1,Zj g1],hl,rfl⟩
  ·cases h
 ·cases h
theorem zcx (i s j:Nat)(his:i≠s)(hij:i≠j)(hsj:s≠j)(hN:X.N.Nodup)(hj:X.N[j]?=some y)(hy:Loc X.env.scope y)(hi:PE X (.Name z p1) (tVar i))(hx:PE X (.Name x p2) (tVar s))(hx':PE X (.Name x p6) (tVar s))(he:DE X B e g)
  (hk0:PE X ck0 (tC (.int ((0:Nat):Int)))) (hs0:wS ck0) (hk1:PE X ck1 (tC (.int ((1:Nat):Int)))) (hs1:wS ck1) {x1:Nat}
  (hbase:attributeBase (.Name z p1) "append" X.env (eval (.Name z p1) X.env)=eval (.Name z p1) X.env:=by rfl)
  (hfew:((backTo cpos (starEach [.Tuple [e,.Subscript (.Name x p2) ck0 p3] x1 p4] X.env)).all (λx=>!x.1)&&(backToKw cpos (keywordEach [] X.env)).all (λx=>x.1.isSome)
   && decide (([.Tuple [e,.Subscript (.Name x p2) ck0 p3] x1 p4]:List Expr).length+([]:List Keyword).length+(if ([]:List Keyword).isEmpty then 0 else 1) < 30))=true:=by rfl)
  (hline:(apos.endLine==cpos.line)=true:=by rfl) (hse:starEach [.Tuple [e,.Subscript (.Name x p2) ck0 p3] x1 p4] X.env=(false,eval (.Tuple [e,.Subscript (.Name x p2) ck0 p3] x1 p4) X.env)::starEach [] X.env:=by rfl) (hplain:(backTo cpos (starEach [] X.env)).any (·.1)=false:=by rfl)
  (hse2:starEach [e,.Subscript (.Name x p2) ck0 p3] X.env=(false,eval e X.env)::starEach [.Subscript (.Name x p2) ck0 p3] X.env:=by rfl) (hse3:starEach [.Subscript (.Name x p2) ck0 p3] X.env=(false,eval (.Subscript (.Name x p2) ck0 p3) X.env)::starEach [] X.env:=by rfl)
  (hsw1:swapsWith (.Call (.Attribute (.Name z p1) "append" apos) [.Tuple [e,.Subscript (.Name x p2) ck0 p3] x1 p4] [] cpos) none pos1.line X.env=pure false:=by rfl)
  (hs:swapsWith (.Subscript (.Name x p6) ck1 p7) (some (.Name y pos')) pos2.line X.env=pure false:=by rfl) (hf:X.fn y=true∨X.env.scope.names.lookup y=some .local:=by first | exact .inl rfl | exact .inr rfl | assumption) :
  DSs X B [.Expr (.Call (.Attribute (.Name z p1) "append" apos) [.Tuple [e,.Subscript (.Name x p2) ck0 p3] x1 p4] [] cpos) pos1,.Assign [.Name y pos'] (.Subscript (.Name x p6) ck1 p7) pos2] (sMv i s j g) :=
 yG (yM (yR (qH PySem.F.plainAttrs_list PySem.F.slot_list_append PySem.F.type_list_append Z1 hi (zN (uI (zN he (zN (qy jI hx hk0 hs0) yd hse3) hse2)) yd hse) hbase hfew hline hse hplain) hsw1) (vx (vT hN hj hy (qy jI hx' hk1 hs1) hs hf))) λE σ H ⟨F,ρ,fl,r,hg,kk⟩=>by
  obtain⟨ts,t,d,ns,qs,qi,qs',qd,qn,qq,hl,rfl⟩:=zd6 hg
  obtain⟨v0,hv0,⟨a,us,rfl,qa,ro⟩,rn,rf⟩:=r.ents i _ qi
  refine⟨.ref a,hv0,.inl ⟨rfl,_,.of qa⟩,F,ρ,d,r,qd,λv F1 H1 e1 pv=>?_⟩
  have r1:=r.ext e1
  obtain⟨v1,hv1,ro1,rn1,rf1⟩:=r1.ents s _ qs'
  obtain⟨b0,vs0,c,ws,rfl,hcw,hw0,at0⟩:=qr ro1 rn1 qn
  obtain⟨b1,vs1,c',ws',ec,hcw',hw1,at1⟩:=qr ro1 rn1 qq
  cases ec
  have ew:ws'=ws:=by
   rcases hcw with q | q<;>rcases hcw' with q' | q'<;>rw[q] at q'<;>cases q'<;>rfl
  rw[ew] at hw1
  have hb01:b0≠b1:=RD ro1 rn1 hcw qn qq hw0 hw1
  refine⟨.ref c,hv1,WH hcw hw0 ?_⟩
  have hz2:(2:Nat)<=sizeLine:=by rw[sizeLine_eq];omega
  refine⟨hz2,λp hp=>?_⟩
  have q1:H1 a=some (.lst us):=e1.hh _ _ qa
  have hap:a≠p:=zw q1 hp
  have q2:upd H1 p (.tup [v,.ref b0]) a=some (.lst us):=by rw[zg hap];exact q1
  have hlu:us.length=ts.length:=(RepOs.length ro).symm
  refine⟨a,us,.ref p,rfl,rfl,q2,by rw[hlu];exact Nat.lt_of_le_of_lt hl (by rw[sizeLine_eq];decide),?_⟩
  have e2:Ext F1 H1 F1 (upd H1 p (.tup [v,.ref b0])):=.new e1.fh hp
  have r2:=r1.ext e2
  obtain⟨v0',hv0',⟨a',us',ea,qa',ro2⟩,rn2,rf2⟩:=r2.ents i _ qi
  rw[hv0] at hv0';cases hv0';cases ea
  rw[q2] at qa';cases qa'
  obtain⟨v1',hv1',ro3,rn3,rf3⟩:=r2.ents s _ qs'
  rw[hv1] at hv1';cases hv1'
  have hcp:c≠p:=by rcases hcw with q | q<;>exact zw q hp
  obtain⟨b0',vs0',c2,ws2,ec,hcw2,hw0',at0'⟩:=qr ro3 rn3 qn
  cases ec
  have ew:ws2=ws:=by
   rcases hcw with q | q<;>rcases hcw2 with q' | q'<;>rw[zg hcp,q] at q'<;>cases q'<;>rfl
  rw[ew,hw0] at hw0';cases hw0'
  obtain⟨b1',vs1',c3,ws3,ec,hcw3,hw1',at1'⟩:=qr ro3 rn3 qq
  cases ec
  have ew:ws3=ws:=by
   rcases hcw with q | q<;>rcases hcw3 with q' | q'<;>rw[zg hcp,q] at q'<;>cases q'<;>rfl
  rw[ew,hw1] at hw1';cases hw1'
  have hca:c∈feetO (upd H1 p (.tup [v,.ref b0])) t (.ref c):=by
   cases t with
   |frz d=>simp[OT.get] at qn
   |lst _=>simp[feetO]
   |tup _=>simp[feetO]
  have haf:a∈feetO (upd H1 p (.tup [v,.ref b0])) (.lst ts) (.ref a):=by simp[feetO]
  have dis:∀b∈feetO (upd H1 p (.tup [v,.ref b0])) (.lst ts) (.ref a),b∉feetO (upd H1 p (.tup [v,.ref b0])) t (.ref c):=λb hb=>r2.dj i s _ _ _ _ qi qs' hv0 hv1 his b hb
  have hac:c≠a:=λz=>dis a haf (z ▸ hca)
  have hab0:a≠b0:=λz=>dis a haf (z ▸ at0'.mem)
  have hb0p:b0≠p:=zw at0.hb hp
  have hb1p:b1≠p:=zw at1.hb hp
  have hcw4:upd (upd H1 p (.tup [v,.ref b0])) a (.lst (us++[.ref p])) c=some (.lst ws)∨upd (upd H1 p (.tup [v,.ref b0])) a (.lst (us++[.ref p])) c=some (.tup ws):=by
   rw[zg hac,zg hcp];exact hcw
  refine⟨.ref c,hv1,WH hcw4 hw1 ?_⟩
  have r3:=r2.take (j:=j) qs' hv1 at1'
  have hi':((ρ.set s none).set j (some (.acc qs)))[i]?=some (some (.tre (.lst ts))):=by rw[List.getElem?_set_ne (Ne.symm hij),List.getElem?_set_ne (Ne.symm his)];exact qi
  have hs':(σ.set j (some (.ref b1)))[i]?=some (some (.ref a)):=by rw[List.getElem?_set_ne (Ne.symm hij)];exact hv0
  have rn2':=rn2
  simp only[feetO,zB q2,List.nodup_cons] at rn2'
  obtain⟨w1,w2⟩:=RepOs.other (o:=.lst (us++[.ref p])) ro2 rn2'.1
  obtain⟨v00,hv00,⟨a0,us0,ea0,qa0,ro0⟩,rn0,rf0⟩:=r1.ents i _ qi
  rw[hv0] at hv00;cases hv00;cases ea0
  rw[q1] at qa0;cases qa0
  have fe2:feetOs (upd H1 p (.tup [v,.ref b0])) ts us=feetOs H1 ts us:=(RepOs.ext (Same.refl F1) e2.hh ro0).2
  have hpf:p∉feetOs (upd H1 p (.tup [v,.ref b0])) ts us:=λz=>by rw[fe2] at z;exact RepOs.feet ro0 z hp
  have hb0f:b0∉feetOs (upd H1 p (.tup [v,.ref b0])) ts us:=λz=>dis b0 (by simp only[feetO,zB q2,List.mem_cons];exact .inr z) at0'.mem
  have q3:upd (upd H1 p (.tup [v,.ref b0])) a (.lst (us++[.ref p])) a=some (.lst (us++[.ref p])):=zl
  have q3p:upd (upd H1 p (.tup [v,.ref b0])) a (.lst (us++[.ref p])) p=some (.tup [v,.ref b0]):=by rw[zg (Ne.symm hap),zl]
  have q3b:upd (upd H1 p (.tup [v,.ref b0])) a (.lst (us++[.ref p])) b0=some (.lst vs0'):=by rw[zg (Ne.symm hab0)];exact at0'.hb
  have rT:RepO X.kw F1 (upd (upd H1 p (.tup [v,.ref b0])) a (.lst (us++[.ref p]))) (.tup [.frz d,.lst (lfs ns)]) (.ref p):=⟨p,[v,.ref b0],rfl,q3p,v,[.ref b0],rfl,pv,.ref b0,[],rfl,⟨b0,vs0',rfl,q3b,lfs_rep.mpr at0'.rp⟩,rfl⟩
  have fT:feetO (upd (upd H1 p (.tup [v,.ref b0])) a (.lst (us++[.ref p]))) (.tup [.frz d,.lst (lfs ns)]) (.ref p)=[p,b0]:=by
   have e1:feetO (upd (upd H1 p (.tup [v,.ref b0])) a (.lst (us++[.ref p]))) (.lst (lfs ns)) (.ref b0)=[b0]:=VQ
   simp only[feetO,zP q3p,feetOs] at e1 ⊢
   simp[e1]
  have hfe:feetO (upd (upd H1 p (.tup [v,.ref b0])) a (.lst (us++[.ref p]))) (.lst (ts++[.tup [.frz d,.lst (lfs ns)]])) (.ref a)=a::(feetOs (upd H1 p (.tup [v,.ref b0])) ts us++[p,b0]):=by
   have e1:=Vq (t:=.tup [.frz d,.lst (lfs ns)]) (v:=.ref p) w1
   rw[fT,w2] at e1
   simp only[feetO,zB q3,e1]
  have hE:RepE X.kw B F1 (upd (upd H1 p (.tup [v,.ref b0])) a (.lst (us++[.ref p]))) (.tre (.lst (ts++[.tup [.frz d,.lst (lfs ns)]]))) (.ref a):=by
   refine⟨⟨a,us++[.ref p],rfl,q3,W3 w1 rT⟩,?_,λb hb=>?_⟩
   ·rw[hfe,List.nodup_cons]
    refine⟨λz=>?_,?_⟩
    ·rcases List.mem_append.mp z with z | z
     ·exact rn2'.1 z
     ·simp only[List.mem_cons,List.not_mem_nil,or_false] at z
      rcases z with z | z
      ·exact hap z
      ·exact hab0 z
    ·rw[List.nodup_append]
     refine⟨rn2'.2,by simp[Ne.symm hb0p],λy hy w hw z=>?_⟩
     subst z
     simp only[List.mem_cons,List.not_mem_nil,or_false] at hw
     rcases hw with rfl | rfl
     ·exact hpf hy
     ·exact hb0f hy
   ·rw[hfe] at hb
    rcases List.mem_cons.mp hb with rfl | hb
    ·exact rf2 _ haf
    ·rcases List.mem_append.mp hb with hb | hb
     ·exact rf2 b (by simp only[feetO,zB q2,List.mem_cons];exact .inr hb)
     ·simp only[List.mem_cons,List.not_mem_nil,or_false] at hb
      rcases hb with rfl | rfl
      ·exact⟨e1.fh.free hp,r1.ex.hh.free hp⟩
      ·exact rf3 _ at0'.mem
  refine kk _ F1 _ (r3.writeH hi' hs' haf hE λb hb=>?_) e1.ff
  have hb:b∈feetO (upd (upd H1 p (.tup [v,.ref b0])) a (.lst (us++[.ref p]))) (.lst (ts++[.tup [.frz d,.lst (lfs ns)]])) (.ref a):=hb
  rw[hfe] at hb
  rcases List.mem_cons.mp hb with rfl | hb
  ·exact .inl haf
  ·rcases List.mem_append.mp hb with hb | hb
   ·exact .inl (by show b∈feetO _ _ _;simp only[feetO,zB q2,List.mem_cons];exact .inr hb)
   ·refine .inr λk z w ek ew hk hz=>?_
    simp only[List.mem_cons,List.not_mem_nil,or_false] at hb
    rcases yn ek with⟨rfl,qk,_⟩ | ⟨hkj,ek⟩
    ·cases qk
     rw[List.getElem?_set_self (by rw[r.len];exact (by have:=(List.getElem?_eq_some_iff.mp ek).1;simpa using this))] at ew
     cases ew
     have:b=b1:=by simpa[feetE] using hz
     rcases hb with rfl | rfl
     ·exact hb1p this.symm
     ·exact hb01 this
    ·obtain⟨hks,ek⟩:=wH ek
     rw[List.getElem?_set_ne (Ne.symm hkj)] at ew
     rcases hb with rfl | rfl
     ·obtain⟨w',hw',rz⟩:=r1.ents k z ek
      rw[ew] at hw';cases hw'
      rw[rz.feet_ext e2.hh] at hz
      exact (rz.feet_at hz).1 hp
     ·exact r2.dj s k _ z _ w qs' ek hv1 ew (Ne.symm hks) b at0'.mem hz
end
section
variable {X:Cx}{B:Bs}{e:Expr}{es:List Expr}{pos p:Pos}{gxs:EnvD->Option (List En)}{x:Str}{k n:Nat}{m:List En->Option En}
theorem zcb (h:FxN X.prog X.w X.kw X.mg X.base x k (n+1) m)(hr:Room k X.A)(hg:Gl X x)(ha:DNs X B (e::es) gxs)(hdb:(x==("__debug__" : Str))=false:=by decide +kernel)
  (he:starEach (e::es) X.env=(false,eval e X.env)::starEach es X.env:=by rfl) (hpl:(backTo pos (starEach es X.env)).any (·.1)=false:=by rfl):DTr X B (.Call (.Name x p) (e::es) [] pos) (gCall (len? n (mN m)) treO gxs):=by
 obtain⟨f,fd,ps,F,hm,hk,hb⟩:=h.ex
 refine pe_imp (y2 F hr hg hm hk hb (dvs:=[.non]) (.cons rfl .nil) pass0 ha hdb he hpl) λσ H Q ⟨F,ρ,d,r,hg,k⟩=>?_
 obtain⟨xs,o,q1,q2,q3⟩:=bindC hg
 refine⟨F,ρ,xs,r,q1,λvs F1 H1 e1 p1=>?_⟩
 have hl:xs.length=n:=yO xs o q2
 have hm:m (xs++[.val .non])=some o:=by
  unfold len? at q2
  rw[if_pos hl] at q2
  exact q2
 refine⟨F1,xs++[.val .non],o,e1.fh,by simp[hl],Wt p1,by unfold len?;rw[if_pos (by simp[hl])];exact hm,λv F2 H2 e2 p2=>?_⟩
 cases o with
 |tre t=>
  cases q3
  obtain⟨h1,h2,h3⟩:=p2
  exact k v F2 H2 (e1.trans e2) ⟨h1,h2,λa ha=>⟨e1.hh.free (h3 a ha).2,(h3 a ha).1⟩⟩
 |_=>cases q3
end
section
variable {X:Cx}{B:Bs}{e:Expr}{pos:Pos}{g:EnvD->Option D}
end
def yK:List D->List D->Option (List D)
 |ds,[d]=>if ds.length<=TOP then some (ds++[d]) else none
 |_,_=>none
theorem QL {K:KW}:MutOk K V8 yK:=by
 intro F H a vs ds us es ds' Q hH hr hp hf k
 match es,hp,hf with
 | [d],hp,hf=>
  obtain⟨v,rfl,rv⟩:=pair1 hp
  have hf:(if ds.length<=TOP then some (ds++[d]) else none)=some ds':=hf
  split at hf
  ·rename_i hl
   cases hf
   exact⟨a,vs,v,rfl,rfl,hH,by rw[<-hr.length];exact Nat.lt_of_le_of_lt hl (by rw[sizeLine_eq];decide),k _ _ (hr.snoc rv)⟩
  ·cases hf
 | [],_,hf=>cases hf
 |_::_::_,_,hf=>cases hf
@[simp]theorem zbv {ds:List D}{d:D}:yK ds [d]=if ds.length<=TOP then some (ds++[d]) else none:=rfl
def sRetVT (j:Nat):SD:=λρ=>match ρ[j]? with
 |some (some (.tre t))=>some (.ret (.tre t))
 |_=>none
theorem U3 {X:Cx}{B:Bs}{x:Str}{p pos:Pos}(j:Nat)(h:PE X (.Name x p) (tVar j)):DS X B (.Return (some (.Name x p)) pos) (sRetVT j):=zH (yH h) λE σ H ⟨F,ρ,fl,r,hg,k⟩=>by
 unfold sRetVT at hg
 split at hg
 ·rename_i ds q
  cases hg
  obtain⟨v,h1,h2⟩:=r.ents j _ q
  exact⟨v,h1,k v F H r.ex h2⟩
 ·cases hg
@[simp]theorem zf1 {j:Nat}{ρ:EnvD}:sRetVT j ρ=match ρ[j]? with | some (some (.tre t))=>some (.ret (.tre t)) | _=>none:=rfl
@[simp]theorem zgb {i:Nat}{ρ:EnvD}:gz i ρ=match ρ[i]? with | some (some (.tre t))=>some (.val t.erase) | _=>none:=rfl
@[simp]theorem zht {i s j:Nat}{g:EnvD->Option D}{ρ:EnvD}:sMv i s j g ρ=match ρ[i]?,ρ[s]? with
 |some (some (.tre (.lst ts))),some (some (.tre t))=>(g ρ).bind λd=>((t.get [0]).bind OT.leaf).bind λns=>((t.get [1]).bind OT.leaf).bind λqs=>if ts.length<=TOP then some (.next (((ρ.set s none).set j (some (.acc qs))).set i (some (.tre (.lst (ts++[.tup [.frz d,.lst (lfs ns)]])))))) else none
 |_,_=>none:=rfl
@[simp]theorem zg7 {b:Bool}:scaO (.val (.bl b))=some (.bl b):=rfl
@[simp]theorem ziw {i:Int}:scaO (.val (.int i))=some (.int i):=rfl
theorem up {H:Hp}{t:OT}{v:V}:∀ {ts:List OT} {vs:List V},ts.length=vs.length->feetOs H (ts++[t]) (vs++[v])=feetOs H ts vs++feetO H t v
 | [],[],_=>by simp[feetOs]
 |_::_,_::_,h=>by
  simp only[List.cons_append,feetOs]
  rw[up (by simpa using h),List.append_assoc]
theorem RepOs.snoc {K:KW}{F H:Hp}{t:OT}{v:V}(h:RepO K F H t v):∀ {ts:List OT} {vs:List V},RepOs K F H ts vs->RepOs K F H (ts++[t]) (vs++[v])
 | [],vs,r=>by have r:vs=[]:=r;subst r;exact⟨v,[],rfl,h,rfl⟩
 |_::_,_,⟨w,r,e,h1,h2⟩=>by subst e;exact⟨w,r++[v],rfl,h1,RepOs.snoc h h2⟩
theorem RepOs.at {K:KW}{F H:Hp}:∀ {ts:List OT} {vs:List V} {i:Nat} {v:V},RepOs K F H ts vs->vs[i]?=some v->∃t,ts[i]?=some t/\RepO K F H t v/\∀a∈feetO H t v,a∈feetOs H ts vs
 | [],vs,i,v,r,e=>by have r:vs=[]:=r;subst r;simp at e
 |t::ts,_,0,v,⟨w,r,e,h1,h2⟩,q=>by subst e;simp at q;subst q;exact⟨t,rfl,h1,λa ha=>by simp[feetOs,ha]⟩
 |t::ts,_,i+1,v,⟨w,r,e,h1,h2⟩,q=>by
  subst e
  obtain⟨u,e1,e2,e3⟩:=RepOs.at h2 (by simpa using q)
  exact⟨u,by simpa using e1,e2,λa ha=>by simp[feetOs,e3 a ha]⟩
def filtO (tc:EnvD->Option Bool)(ρ0:EnvD):List OT->Option (List OT)
 | []=>some []
 |t::ts=>(tc (ρ0.set 0 (some (.val t.erase)))).bind λb=>(filtO tc ρ0 ts).map λr=>if b then t::r else r
def gFilt (own:List Str)(cap:List (Str×Nat))(tc:EnvD->Option Bool)(gi:EnvD->Option OT):EnvD->Option OT:=λρ=>match gi ρ with
 |some (.lst ts)=>if ts.length<=TOP then (filtO tc (List.replicate own.length none++capE ρ cap) ts).map OT.lst else none
 |_=>none
section
variable {X:Cx}{B:Bs}{tg iter elt:Expr}{ifs:List Expr}{pos:Pos}{gi:EnvD->Option OT}
theorem WB {scope:Scope}{own:List Str}{cap:List (Str×Nat)}{tc:EnvD->Option Bool}(hc:X.calm=true)(S:CompScope X scope own cap)(hi:DTr X B iter gi)(h0:0 < own.length)
  (hin:∀(B':Bs) C s₀ H₀ fp pn,PG (cxc X scope C (own++cap.map (·.1)) s₀ H₀ fp pn) tg (gName 0)/\DIfs (cxc X scope C (own++cap.map (·.1)) s₀ H₀ fp pn) B' ifs tc/\PE (cxc X scope C (own++cap.map (·.1)) s₀ H₀ fp pn) elt (tVar 0))
  (hs:∀x,foldedSetIterable iter X.env x=pure x:=by intro _;rfl) :
  DTr X B (.ListComp elt [⟨tg,iter,ifs,0⟩] scope pos) (gFilt own cap tc gi):=by
 refine pe_imp (JA (tc:=λσ H Q=>∃B',lT X.kw B' tc σ H Q) (te:=tVar 0) (g:=gName 0) hc S (uN hi) (λC s₀ H₀ fp pn=>⟨(hin ⟨H₀,H₀⟩ C s₀ H₀ fp pn).1,λpins s σ H Q I ⟨B',q⟩=>(hin B' C s₀ H₀ fp pn).2.1 pins s σ H Q I q,(hin ⟨H₀,H₀⟩ C s₀ H₀ fp pn).2.2⟩) hs) ?_
 intro σ H Q ⟨F,ρ,out,r,hg,k⟩
 unfold gFilt at hg
 split at hg
 ·rename_i ts q
  split at hg
  ·rename_i htop
   cases q9:filtO tc (List.replicate own.length none++capE ρ cap) ts with
   |none=>rw[q9] at hg;cases hg
   |some outs=>
   rw[q9] at hg
   cases hg
   refine⟨F,ρ,.lst ts,r,q,λv F1 H1 e1 p1=>?_⟩
   obtain⟨⟨a,vs,rfl,ha,rts⟩,nd,fresh⟩:=p1
   have hfe:feetO H1 (.lst ts) (.ref a)=a::feetOs H1 ts vs:=by simp only[feetO,zB ha]
   rw[hfe] at nd fresh
   have lv:ts.length=vs.length:=rts.length
   have sf:Same F1 (addF F1 H1 (a::feetOs H1 ts vs)):=uB λb hb=>(fresh b hb).2
   have eF:Ext F H (addF F1 H1 (a::feetOs H1 ts vs)) H1:=by
    refine⟨e1.ff.trans sf,e1.hh,λb u z=>?_,λb z=>?_⟩
    ·unfold addF at z
     split at z
     ·exact z
     ·exact e1.fh b u z
    ·unfold addF at z
     split at z
     ·rename_i hb;exact .inr (fresh b hb).1
     ·exact e1.nw b z
   refine⟨a,rfl,⟨vs,.of ha⟩,λi m ys H2=>m=ts.length - i/\i<=ts.length/\Same H1 H2/\∃o1 o2,RepOs X.kw F1 H1 o1 ys/\(feetOs H1 o1 ys).Sublist (feetOs H1 (ts.take i) (vs.take i))/\o1.length<=i/\filtO tc (List.replicate own.length none++capE ρ cap) (ts.drop i)=some o2/\outs=o1++o2,
    ⟨ts.length,rfl,Nat.zero_le _,Same.refl _,[],outs,rfl,List.Sublist.refl _,Nat.le_refl _,q9,rfl⟩,?_⟩
   rintro i m ys H2 ⟨rfl,hi,s2,o1,o2,ry,fy,hl1,h2,rfl⟩
   refine⟨ym (by rw[<-ry.length];omega),?_⟩
   have ha2:H2 a=some (.lst vs):=s2 _ _ ha
   by_cases hlt:i < ts.length
   ·have hiv:i < vs.length:=by rw[<-lv];exact hlt
    have hv:vs[i]?=some vs[i]:=List.getElem?_eq_getElem hiv
    obtain⟨t,et,rt,ft⟩:=rts.at hv
    have hdd:ts.drop i=t::ts.drop (i+1):=by
     rw[List.drop_eq_getElem_cons hlt]
     rw[List.getElem?_eq_getElem hlt] at et
     rw[Option.some.inj et]
    rw[hdd] at h2
    have tk:feetOs H1 (ts.take (i+1)) (vs.take (i+1))=feetOs H1 (ts.take i) (vs.take i)++feetO H1 t vs[i]:=by
     have e1':ts.take (i+1)=ts.take i++[t]:=by rw[List.take_add_one,et];rfl
     have e2':vs.take (i+1)=vs.take i++[vs[i]]:=by rw[List.take_add_one,hv];rfl
     rw[e1',e2',up (by simp[List.length_take,lv])]
    refine .inr ⟨⟨vs,_,.of ha2,hv⟩,λys' H'=>Same H1 H'/\∃p1 p2,RepOs X.kw F1 H1 p1 ys'/\(feetOs H1 p1 ys').Sublist (feetOs H1 (ts.take (i+1)) (vs.take (i+1)))/\p1.length<=i+1/\filtO tc (List.replicate own.length none++capE ρ cap) (ts.drop (i+1))=some p2/\o1++o2=p1++p2,
     λys' H' ⟨z1,p1,p2,z2,z3,z4,z5,z6⟩=>⟨ts.length - (i+1),by omega,rfl,hlt,z1,p1,p2,z2,z3,z4,z5,z6⟩,λx H3 hy σ1 hσ=>?_⟩
    obtain⟨rfl,hy⟩:=hy
    have hx:=hy vs (.of ha2)
    rw[hv] at hx
    cases hx
    have h2:((tc ((List.replicate own.length none++capE ρ cap).set 0 (some (.val t.erase)))).bind λb=>(filtO tc (List.replicate own.length none++capE ρ cap) (ts.drop (i+1))).map λr=>if b then t::r else r)=some o2:=h2
    have e2:Ext (addF F1 H1 (a::feetOs H1 ts vs)) H1 (addF F1 H1 (a::feetOs H1 ts vs)) H3:=⟨Same.refl _,s2,eF.fh.trans s2,λ_ z=>.inl z⟩
    have rc:=uT (own:=own) (cap:=cap) r eF e2 hσ
    have rx:Rp X.kw (addF F1 H1 (a::feetOs H1 ts vs)) t.erase vs[i]:=RepO.fz sf rt λb hb=>.tail _ (ft b hb)
    have r4:=rc.setv (i:=0) rx
    have pre:(σ1++cap.map λp=>(σ[p.2]?).getD none).set 0 (some vs[i])=σ1.set 0 (some vs[i])++cap.map λp=>(σ[p.2]?).getD none:=by
     rw[List.set_append_left _ _ (by rw[hσ];exact h0)]
    refine⟨⟨σ1.set 0 (some vs[i]),by simpa using hσ,pre⟩,?_⟩
    cases q2:tc ((List.replicate own.length none++capE ρ cap).set 0 (some (.val t.erase))) with
    |none=>rw[q2] at h2;cases h2
    |some bb=>
     rw[q2] at h2
     refine⟨⟨addF F1 H1 (a::feetOs H1 ts vs),H1⟩,_,_,bb,r4,q2,λF5 H5 e5=>?_⟩
     have h2:((filtO tc (List.replicate own.length none++capE ρ cap) (ts.drop (i+1))).map λr=>if bb then t::r else r)=some o2:=h2
     cases q4:filtO tc (List.replicate own.length none++capE ρ cap) (ts.drop (i+1)) with
     |none=>rw[q4] at h2;cases h2
     |some p2=>
      rw[q4] at h2
      cases bb with
      |false=>
       cases h2
       refine iteF ⟨s2.trans e5.hh,o1,p2,ry,?_,by omega,rfl,rfl⟩
       rw[tk];exact fy.trans (List.sublist_append_left _ _)
      |true=>
       cases h2
       refine iteT ⟨vs[i],?_,s2.trans e5.hh,o1++[t],p2,ry.snoc rt,?_,by simp;omega,rfl,by simp⟩
       ·exact List.getElem?_set_self (by rw[List.length_append,hσ];omega)
       ·rw[tk,up ry.length]
        exact List.Sublist.append fy (List.Sublist.refl _)
   ·have hi':i=ts.length:=by omega
    have hdd:ts.drop i=[]:=by rw[hi',List.drop_length]
    rw[hdd] at h2
    cases h2
    refine .inl ⟨⟨vs,.of ha2,by rw[hi',lv];exact Nat.le_refl _⟩,λD hD=>?_⟩
    have e2:Ext F1 H1 F1 H2:=⟨Same.refl _,s2,e1.fh.trans s2,λ_ z=>.inl z⟩
    have fy2:(feetOs H1 o1 ys).Sublist (feetOs H1 ts vs):=by
     have:ts.take i=ts:=by rw[hi',List.take_length]
     have:vs.take i=vs:=by rw[hi',lv,List.take_length]
     simp_all
    have sD:Same H1 (upd H2 D (.lst ys)):=s2.trans (yb hD)
    obtain⟨x1,x2⟩:=RepOs.ext (Same.refl F1) sD ry
    have hfD:feetO (upd H2 D (.lst ys)) (.lst o1) (.ref D)=D::feetOs H1 o1 ys:=by
     simp only[feetO,zB (zl (H:=H2) (a:=D) (o:=.lst ys)),x2]
    rw[List.append_nil] at *
    refine k _ F1 _ ((e1.trans e2).trans (.new e2.fh hD)) ⟨⟨D,ys,rfl,zl,x1⟩,?_,?_⟩
    ·rw[hfD]
     refine List.nodup_cons.mpr ⟨λz=>?_,(List.nodup_cons.mp nd).2.sublist fy2⟩
     have:=RepOs.feet ry z
     exact this (s2.free hD)
    ·rw[hfD]
     intro b hb
     rcases List.mem_cons.mp hb with rfl | hb
     ·exact⟨e1.hh.free (s2.free hD),e1.fh.free (s2.free hD)⟩
     ·exact fresh b (.tail _ (fy2.subset hb))
  ·cases hg
 ·cases hg
end
section
variable {X:Cx}{B:Bs}{o:Expr}{apos cpos pos p:Pos}{x:Str}{td:TE}
def sClrT (i:Nat):SD:=λρ=>match ρ[i]? with
 |some (some (.tre (.lst _)))=>some (.next (ρ.set i (some (.tre (.lst [])))))
 |_=>none
theorem zd4 (i:Nat)(hx:PE X (.Name x p) (tVar i))
  (hbase:attributeBase (.Name x p) "clear" X.env (eval (.Name x p) X.env)=eval (.Name x p) X.env:=by rfl) (hline:(apos.endLine==cpos.line)=true:=by rfl)
  (hsw:swapsWith (.Call (.Attribute (.Name x p) "clear" apos) [] [] cpos) none pos.line X.env=pure false:=by rfl) :
  DS X B (.Expr (.Call (.Attribute (.Name x p) "clear" apos) [] [] cpos) pos) (sClrT i) :=
 zH (yR (JP PySem.F.plainAttrs_list PySem.F.slot_list_clear PySem.F.type_list_clear UN hx hbase hline) hsw) λE σ H ⟨F,ρ,fl,r,hg,k⟩=>by
  unfold sClrT at hg
  split at hg
  ·rename_i ts q
   cases hg
   obtain⟨v,hv,⟨a,vs,rfl,h1,h2⟩,nd,fr⟩:=r.ents i _ q
   refine⟨.ref a,hv,.inl ⟨rfl,_,.of h1⟩,a,vs,rfl,rfl,h1,?_⟩
   have hf:feetO H (.lst ts) (.ref a)=a::feetOs H ts vs:=by simp only[feetO,zB h1]
   have hf2:feetO (upd H a (.lst [])) (.lst []) (.ref a)=[a]:=by simp[feetO,feetOs]
   have ha:a∈feetE H (.tre (.lst ts)) (.ref a):=by show a∈feetO H (.lst ts) (.ref a);rw[hf];exact .head _
   refine k σ F _ (r.writeG q hv ha ⟨⟨a,[],rfl,zl,rfl⟩,by rw[hf2];simp,λb hb=>?_⟩ λb hb=>?_) (Same.refl _)
   ·rw[hf2] at hb
    have:b=a:=by simpa using hb
    subst this
    exact fr b ha
   ·have hb:b∈feetO (upd H a (.lst [])) (.lst []) (.ref a):=hb
    rw[hf2] at hb
    have:b=a:=by simpa using hb
    subst this
    exact ha
  ·cases hg
end
end Dv
namespace L6
open PySem PySem.Spec L2 L3 L4
open PyProof.Rows hiding St
def tupO (vs:List Value):Obj:={ cls:=.type "tuple",data:=.seq vs.toArray }
def excO (C t:Addr):Obj:={ cls:=.ref C,data:=.fields #[.ref t,.none,.none,.none,.bool false,.none] }
def made (H:Heap)(C:Addr)(vs:List Value):Heap:=(H.push (tupO vs)).push (excO C H.objs.size)
section
variable {H:Heap}{C M:Addr}{vs:List Value}
theorem vU {a:Addr}{o:Obj}(q:H.get? a=some o):(made H C vs).get? a=some o:=Heap.get?_push_of_some _ (Heap.get?_push_of_some _ q)
theorem JU:(made H C vs).get? (H.objs.size+1)=some { cls:=.ref C,data:=.fields #[.ref H.objs.size,.none,.none,.none,.bool false,.none] }:=by unfold made excO tupO;heap_get
theorem Gy {m:Str->Option Value}(q:H.Ns M m):(made H C vs).Ns M m:=by
 obtain⟨o,x,y,z,r⟩:=q
 exact⟨o,x,y,vU z,r⟩
theorem zec:Heap.MadeExcOf H (made H C vs) (H.objs.size+1) (.ref C) vs :=
 ⟨λ_ _ q=>vU q,Heap.get?_none_of_le (Nat.le_succ _),H.objs.size,JU,Heap.get?_none_of_le (Nat.le_refl _),Heap.get?_push_of_some _ (Heap.get?_push_at rfl rfl)⟩
end
section
variable {P:Program}{w:World}{A:Around}{E:Value->Shared->Prop}{H:Heap}{g:Array GenState}{dr:Drawn}{t:Nat}{os:OsState}{C N fI:Addr}{oI:Obj}{vs:List Value}{mN:Str->Option Value}
variable {nm q:Str}{bs bm bb:List Value}{hd:Bool}{sn:List Str}{sb:List Value}{ab:Bool}{col:Option Bool}{dl:Option Addr}{k0 k1 k2 k3 k5:Option Value}{b0 nid iid:String}
theorem zej (F:ExcBaseFacts b0 nid iid bb)(T:OwnTail H bb bm){Q:Fin->Shared->Prop}(c:H.get? C=some (excClassObj nm q C N bs bm hd sn sb ab col dl k0 k1 k2 k3 k5 nid))(n:H.Ns N mN)(i:mN "__init__" = some (.ref fI)) (a:H.get? fI=some oI) (ac:oI.cls=.type "function")
  (k:∀h' e,H.objs.size<=e->Heap.MadeExcOf H h' e (.ref C) vs->wpAny (model P w) A (call (.ref fI) (.ref e::vs)) (λr s=>r=.none/\Q (.done (.ret (.ref e))) s) E ⟨h',g,dr,t,os⟩) (few:vs.length<=sizeLine) :
  wpAny (model P w) A (Builtin.«type.__call__» ⟨.ref C::vs,[]⟩) Q E ⟨H,g,dr,t,os⟩:=by
 have me:(Value.ref C::bm).contains (.ref C)=true:=List.contains_iff_mem.mpr (.head _)
 have c':=vU (C:=C) (vs:=vs) c
 have T':=T.keeps (h':=made H C vs) λ_ _ z=>vU z
 repeat
  first
   |with_reducible refine wpAny_loadPart_at c ?_
   |with_reducible refine wpAny_madeBy_exc c ?_
   |wp_step
 apply codeAny_call_builtin_code (Code.quiet_builtin _ F.quiet)
 apply wpAny_check_new_subT F T c
 refine codeAny_exc_new_subT F T c ?_ few
 show wpAny (model P w) A _ _ _ ⟨made H C vs,g,dr,t,os⟩
 unfold isInstance
 repeat
  first
   |with_reducible refine wpAny_loadPart_at JU ?_
   | (with_reducible refine wpAny_isSubtype_exc c' ?_;rw[me])
   |wp_step
 show wpAny (model P w) A (typeLookup (.ref C) "__init__") _ _ _
 apply wpAny_typeLookup_tail c' (Gy n) T' F.mroIs F.init.lookup
 rw[i]
 apply wpAny_holding
 apply wpAny_bind
 unfold bindSpecial
 refine wpAny_bind (wpAny_typeOf (T := "function") ⟨oI,vU a,ac⟩ ?_)
 rw[if_pos (by decide)]
 refine wpAny_pure (wpAny_bind (wpAny_mono (k _ _ (Nat.le_succ _) zec) (λr s z=>?_) λ_ _ z=>z))
 obtain⟨rfl,z⟩:=z
 wp_walk
 exact z
theorem K5 (F:ExcBaseFacts b0 nid iid bb)(T:OwnTail H bb bm){Q:Value->Shared->Prop}(c:H.get? C=some (excClassObj nm q C N bs bm hd sn sb ab col dl k0 k1 k2 k3 k5 nid))(n:H.Ns N mN)(i:mN "__init__" = some (.ref fI)) (a:H.get? fI=some oI) (ac:oI.cls=.type "function")
  (k:∀h' e,H.objs.size<=e->Heap.MadeExcOf H h' e (.ref C) vs->wpAny (model P w) (A.under (.builtin "type.__call__" ⟨.ref C::vs,[]⟩)) (call (.ref fI) (.ref e::vs)) (λr s=>r=.none/\Q (.ref e) s) E ⟨h',g,dr,t,os⟩) (few:vs.length<=sizeLine) :
  wpAny (model P w) A (call (.ref C) vs) Q E ⟨H,g,dr,t,os⟩:=by
 have ty:(⟨H,g,dr,t,os⟩:Shared).TypeIs (.ref C) "type" := ⟨_,c,rfl⟩
 have l1:=tc_lookup
 have l2:=tc_bind (.ref C)
 apply wpAny_call
 apply codeAny_of_tree
 show wpAny (model P w) _ (callAny (.ref C) ⟨vs,[]⟩) _ _ _
 repeat
  any_goals first
   |assumption
   |with_reducible refine wpAny_loadPart_at c ?_
   |wp_step
 refine⟨rfl,codeAny_call_builtin_at (Code.quiet_builtin _ (by decide +kernel)) entry_typeCall (wpAny_check_type_call_sub c ?_)⟩
 exact zej (few:=few) F T c n i a ac λh' e l m=>k h' e l m
end
def Trc (h:Heap)(e:Addr)(c:Value)(dd:Option Addr)(a0:Value)(T:Option Addr):Prop :=
 ∃oe vs,h.get? e=some oe/\oe.cls=c/\oe.dict=dd/\oe.data=.fields vs/\vs[0]?=some a0/\(T=none->vs[1]?=some .none) /\
  ∀t,T=some t->vs[1]?=some (.ref t)/\t≠e/\∃oT ts,h.get? t=some oT/\oT.data=.fields ts/\ts[3]?=some .none
def Kpt (S:List Addr)(e:Addr)(T:Option Addr)(h h':Heap):Prop :=
 ∀b o,b≠e->T≠some b->h.get? b=some o->(b∉S->h'.get? b=some o)/\∃sl,h'.get? b=some { o with slots:=sl }
theorem zd7 (f:Array Value->Array Value)(o:Obj):(Obj.mapFields f o).dict=o.dict:=by
 obtain⟨c,d,dt,sl⟩:=o
 cases dt<;>rfl
section
variable {M:Model}{A:Around}{E:Value->Shared->Prop}{s:Shared}
theorem JK {base:Heap}{env:Env}{outer:List Env}{L e:Addr}{oe:Obj}{vs:Array Value}{head a0:Value}{hadNext:Bool}{Q:Unit->Shared->Prop}
  (hfr:A.frames=some (env::outer)) (hl:s.heap.FunFrames base (env::outer)) (hf:env.frame=some L)
  (he:s.heap.get? e=some oe) (hd:oe.data=.fields vs) (hsz:1 < vs.size) (h0:vs[0]?=some a0)
  (h:∀h' T,Trc h' e oe.cls oe.dict a0 (some T)->s.heap.objs.size<=T->Kpt (frs (env::outer)) e none s.heap h'->Q () { s with heap:=h' }) :
  wpAny M A (do let a <-frameOf env;let pl <-entryPlaceOf L hadNext;let b <-EntryCells.newEntry head a .none (rawInt L) .none pl;setField (.ref e) 1 b) (λ_ s'=>wpAny M A (setFlight (.ref e) none) Q E s') E s:=by
 have hene:e∉(env::outer).filterMap (·.frame):=λhm=>by
  obtain⟨_,o,ho,hnf⟩:=hl.mem hm
  rw[he] at ho;cases ho;exact hnf vs hd
 refine wpAny_bind (wpAny_frameOf_fun hfr hl hf λh1 hs1=>?_)
 refine wpAny_bind (wpAny_entryPlaceOf λpl hpl=>?_)
 unfold EntryCells.newEntry newFields
 refine wpAny_bind (wpAny_newObj_type ?_ (hpl.sizeOk5 _ _ _ _ _))
 generalize hoT:({ cls:=.type "traceback",dict:=none,data:=.fields ([head,.ref L,.none,rawInt L,.none]++(if pl.isEmpty then List.replicate 6 Value.none else pl)).toArray }:Obj)=oT
 have dT:oT.data=.fields ([head,.ref L,.none,rawInt L,.none]++(if pl.isEmpty then List.replicate 6 Value.none else pl)).toArray:=by rw[<-hoT]
 have nfT:oT.isFreed=false:=by rw[<-hoT];rfl
 have he1:h1.get? e=some oe:=(hs1.2.1 e hene).trans he
 have he2:=Heap.get?_push_of_some (h:=h1) oT he1
 have hTe:h1.objs.size≠e:=Nat.ne_of_gt (Heap.lt_size he1)
 refine wpAny_setField he2 hd hsz ?_
 have hd3:=Obj.data_mapFields hd (·.setIfInBounds 1 (Value.ref h1.objs.size))
 have he3:=Heap.get?_update_self (Obj.mapFields (·.setIfInBounds 1 (Value.ref h1.objs.size))) he2 (Obj.isFreed_of_fields hd3)
 have hT3:=(Heap.get?_update_other (h1.push oT) (Obj.mapFields (·.setIfInBounds 1 (Value.ref h1.objs.size))) (Ne.symm hTe)).trans (Heap.get?_push_size h1 nfT)
 unfold setFlight
 refine wpAny_bind (wpAny_field he3 hd3 (x:=.ref h1.objs.size) (by simp[hsz]) ?_)
 rw[if_pos (show (Value.ref h1.objs.size != Value.none)=true from by simp)]
 have sz3:3 < ([head,.ref L,.none,rawInt L,.none]++(if pl.isEmpty then List.replicate 6 Value.none else pl)).toArray.size:=by
  simp only[List.size_toArray,List.length_append,List.length_cons,List.length_nil];omega
 refine wpAny_setField hT3 dT sz3 (h _ h1.objs.size ?_ (Nat.le_of_eq hs1.1.symm) ?_)
 ·refine⟨_,_,(Heap.get?_update_other _ _ hTe).trans he3,Obj.cls_mapFields _ _,zd7 _ _,hd3,?_,λq=>(nomatch q),λt q=>?_⟩
  ·rw[Array.getElem?_setIfInBounds_ne (by decide)];exact h0
  ·cases q
   refine⟨by simp[hsz],hTe,_,_,Heap.get?_update_self _ hT3 (Obj.isFreed_of_fields (Obj.data_mapFields dT _)),Obj.data_mapFields dT _,?_⟩
   rw[Array.getElem?_setIfInBounds_self_of_lt sz3];rfl
 ·intro b o hbe _ hb
  have keep:∀u,h1.get? b=some u->(((h1.push oT).update e (Obj.mapFields (·.setIfInBounds 1 (Value.ref h1.objs.size)))).update h1.objs.size (Obj.mapFields (·.setIfInBounds 3 ((none:Option Addr).elim Value.none λf=>rawInt f)))).get? b=some u:=λu hu=>by
   rw[Heap.get?_update_other _ _ (Nat.ne_of_gt (Heap.lt_size hu)),Heap.get?_update_other _ _ (Ne.symm hbe)]
   exact Heap.get?_push_of_some _ hu
  refine⟨λhS=>keep o ((hs1.2.1 b hS).trans hb),?_⟩
  obtain⟨sl,q⟩:=hs1.2.2 b o hb
  exact⟨sl,keep _ q⟩
theorem Vt {base:Heap}{env:Env}{outer:List Env}{L e:Addr}{c a0:Value}{dd T:Option Addr}{Q:Unit->Shared->Prop}
  (hfr:A.frames=some (env::outer)) (hl:s.heap.FunFrames base (env::outer)) (hf:env.frame=some L) (ht:Trc s.heap e c dd a0 T)
  (h:∀h' T',Trc h' e c dd a0 (some T')->s.heap.objs.size<=T'->Kpt (frs (env::outer)) e T s.heap h'->Q () { s with heap:=h' }):wpAny M A (noteFrame (.ref e) env) (λ_ s'=>wpAny M A (setFlight (.ref e) none) Q E s') E s:=by
 obtain⟨oe,vs,he,rfl,rfl,hd,h0,hn,hs⟩:=ht
 unfold noteFrame
 simp only[hf]
 cases T with
 |none=>
  have h1:=hn rfl
  refine wpAny_bind (wpAny_field he hd h1 ?_)
  rw[if_neg (by decide)]
  exact JK hfr hl hf he hd (Array.getElem?_eq_some_iff.mp h1).1 h0 h
 |some t=>
  obtain⟨h1,hte,oT,ts,hT,hdT,h3⟩:=hs t rfl
  refine wpAny_bind (wpAny_field he hd h1 ?_)
  rw[if_pos (show (Value.ref t != Value.none)=true from by simp)]
  refine wpAny_bind (wpAny_field hT hdT h3 ?_)
  rw[if_neg (show ¬((Value.none==rawInt L)=true) from by simp[rawInt])]
  refine wpAny_bind (wpAny_setField hT hdT (Array.getElem?_eq_some_iff.mp h3).1 ?_)
  have other:∀b,b≠t->(s.heap.update t (Obj.mapFields (·.setIfInBounds 3 Value.none))).get? b=s.heap.get? b:=λb hb=>Heap.get?_update_other _ _ (Ne.symm hb)
  have ne:∀b o,s.heap.get? b=some o->(∀ws,o.data≠.fields ws)->b≠t:=λb o hb hnf q=>by
   subst q;rw[hT] at hb;cases hb;exact hnf ts hdT
  refine JK hfr (hl.of_keeps λb o hb hnf=>⟨o,(other b (ne b o hb hnf)).trans hb,rfl⟩) hf ((other e (Ne.symm hte)).trans he) hd (Array.getElem?_eq_some_iff.mp h1).1 h0 λh' T' k1 k2 k3=>h h' T' k1 ?_ ?_
  ·have:(s.heap.update t (Obj.mapFields (·.setIfInBounds 3 Value.none))).objs.size=s.heap.objs.size:=by simp[Heap.update]
   rw[<-this];exact k2
  ·exact λb o hbe hbt hb=>k3 b o hbe (by simp) ((other b λq=>hbt (by rw[q])).trans hb)
theorem Ki {base:Heap}{env:Env}{outer:List Env}{L e:Addr}{c a0:Value}{dd T:Option Addr}{Q:Unit->Shared->Prop}
  (hfr:A.frames=some (env::outer)) (hl:s.heap.FunFrames base (env::outer)) (hf:env.frame=some L) (ht:Trc s.heap e c dd a0 T)
  (h:∀h' T',Trc h' e c dd a0 (some T')->s.heap.objs.size<=T'->Kpt (frs (env::outer)) e T s.heap h'->Q () { s with heap:=h' }):wpAny M A (leaving env (.ref e)) Q E s:=by
 unfold leaving
 exact wpAny_bind (Vt hfr hl hf ht h)
end
def CX1 (P:Program)(w:World):CXT:=λouter H s E e s'=>∃ea C dd a0 T H',e=.ref ea/\s'.os=s.os/\AllBare s'.gens/\Un (frs outer) [] H H' s.heap s'.heap/\HOk P w H' s'.heap /\
 Trc s'.heap ea C dd a0 (some T)/\s.heap.objs.size<=ea/\s.heap.objs.size<=T/\H' ea=none/\H' T=none/\E C dd H'
section
variable {P:Program}{w:World}{K:PySem.W.Frag}{mg:Str->Option Value}{base:Heap}{N:List Str}{qual:Str}{scope:Scope}{f:Addr}{cd:Value}{A:Around}{outer:List Env}{s:Shared}{H:Hp}{E:XK}
theorem ZJ {X:Cx}(hX:X=cxOf (CX1 P w) P w K mg base N qual scope f cd A outer s H E){pins:List (Addr×Obj)}{σ:St}{H':Hp}{s':Shared}{ea:Addr}{C a0:Value}{dd T:Option Addr}(I:Inv X pins σ H' s')(ht:Trc s'.heap ea C dd a0 T)
  (h1:s.heap.objs.size<=ea) (h2:∀t,T=some t->s.heap.objs.size<=t/\H' t=none) (h3:H' ea=none) (hE:E C dd H'):X.xe (.ref ea) s':=by
 subst hX
 show wpAny _ _ (leaving _ _) _ _ _
 have hl:=I.stack
 have hfree:=I.stkFree
 have hb0:=I.base
 have hok:=I.hok
 refine Ki I.ok.frames hl rfl ht λh' T' k1 k2 k3=>?_
 have kT:H' T'=none:=hok.fresh k2
 have sz:s.heap.objs.size<=s'.heap.objs.size:=I.sz
 have fr:∀b,b < s.heap.objs.size->b∉frs outer->b∉frs ((envOfC qual scope s.heap.objs.size f cd)::outer):=λb hb hn hm=>by
  unfold frs at hm
  rw[List.filterMap_cons] at hm
  have q:(envOfC qual scope s.heap.objs.size f cd).frame=some s.heap.objs.size:=rfl
  rw[q] at hm
  rcases List.mem_cons.mp hm with z | z
  ·omega
  ·exact hn z
 have lo:∀b o,s.heap.get? b=some o->b≠ea/\T≠some b/\b < s.heap.objs.size:=λb o e=>by
  have l:=Heap.lt_size e
  refine⟨Nat.ne_of_lt (Nat.lt_of_lt_of_le l h1),λz=>?_,l⟩
  exact absurd (Nat.lt_of_lt_of_le l (h2 b z).1) (Nat.lt_irrefl _)
 refine⟨ea,C,dd,a0,T',H',rfl,I.os,I.bare,⟨λb o e n hb hx=>?_,λb o e n hb hx=>?_,λb o e n hx=>hb0.free b o e n hx,λb o e hx=>?_,hb0.tups,hb0.frzs,hb0.tbls⟩,λa u e=>?_,k1,h1,Nat.le_trans sz k2,h3,kT,hE⟩
 ·obtain⟨l1,l2,l3⟩:=lo b o e
  exact (k3 b o l1 l2 (hb0.keep b o e n hb hx)).1 (fr b l3 hb)
 ·obtain⟨l1,l2,l3⟩:=lo b o e
  obtain⟨sl,q⟩:=hb0.slot b o e n hb hx
  obtain⟨sl',q'⟩:=(k3 b _ l1 l2 q).2
  exact⟨sl',q'⟩
 ·obtain⟨l1,l2,l3⟩:=lo b o e
  obtain⟨o',q⟩:=hb0.there b o e hx
  obtain⟨sl',q'⟩:=(k3 b _ l1 l2 q).2
  exact⟨_,q'⟩
 ·refine (hok a u e).stay (λb v hb q=>?_) (λ_ z=>z) λ_ _ z=>z
  have ht:H' b≠none:=by
   rcases hb with rfl | z
   ·rw[e];simp
   ·rw[z];simp
  exact (k3 b v (λz=>ht (by rw[z];exact h3)) (λz=>ht (h2 b z).2) q).1 λz=>ht (hfree b z)
theorem j9 {X:Cx}(hX:X=cxOf (CX1 P w) P w K mg base N qual scope f cd A outer s H E):Passes (CX1 P w) X E:=by
 intro pins σ H1 s1 e s' I hx
 obtain⟨ea,C,dd,a0,T,H',rfl,hos,bare,un,hok,ht,h1,h2,h3,h4,hE⟩:=hx
 have hp:X.prog=P/\X.w=w/\X.s₀=s:=by subst hX;exact⟨rfl,rfl,rfl⟩
 have hok':HOk X.prog X.w H' s'.heap:=by rw[hp.1,hp.2.1];exact hok
 have I':Inv X pins σ H' s':=I.call' hos un hok' bare λb z=>absurd z (by simp)
 have sz:s.heap.objs.size<=s1.heap.objs.size:=by have:=I.sz;rw[hp.2.2] at this;exact this
 exact ZJ hX I' ht (Nat.le_trans sz h1) (λt q=>by cases q;exact⟨Nat.le_trans sz h2,h4⟩) h3 hE
end
section
variable {prog:Program}{w:World}{A:Around}{E:Value->Shared->Prop}{s:Shared}{K:PySem.W.Frag}{x dx C f:Addr}{mA:Str->Option Value}{name:Str}{v:Value}
abbrev vB:List Value:=[.type "ValueError",.type "Exception",.type "BaseException",.type "object"]
theorem zev {h:Heap}{tl:List Value}(self:Value)(T:OwnTail h vB tl):refuseLoop self "__setattr__" tl=pure ():=by
 induction T with
 |base=>exact PySem.F.store_ValueError.passes self
 |own _ _ _ _ ih=>rw[refuseLoop_ref];exact ih
theorem GA {R:Result->Shared->Prop}{ox:Obj}{od:Option Obj}{tk:Tok}{cd:ClassData}{bm:List Value}(X:K.In s.heap)(I:InstAt s.heap x ox C od)(hc:clsIn K C=some cd)(hmr:cd.mro=.ref C::bm)(T:OwnTail s.heap vB bm)(ht:takerIn K C name=some none)
  (h:∀b,wpAny (model prog w) A.in1 (Builtin.ObjectAttr.storeInOwnDict (.ref x) (.ref C) (.str name tk) name v b)
   (λfin s'=>match fin with | .done f=>R (.ok f) s' | .again c'=>c'.quiet=true/\codeAny (model prog w) A c' R s') (λe s'=>R (.error e) s') s) :
  codeAny (model prog w) A (.call (.builtin "object.__setattr__") ⟨[.ref x,.str name tk,v],[]⟩) R s:=by
 have SF:=PySem.F.store_object
 have cn:cd.mro.contains (.type "object")=true:=by rw[hmr,List.contains_cons,T.hasType (b:=true) (by decide),Bool.or_true]
 have sub:Looks (model prog w) s.heap (isInstance (.ref x) (.type "object")) true:=I.type.andThen (PySem.W.looks_mroIn X (by unfold PySem.W.mroIn;rw[hc,Option.bind_some,if_neg (by rw[hmr];simp),cn]))
 refine codeAny_call_builtin SF.slot.plain SF.entry (@PySem.W.check_slot (model prog w) _ _ s "object.__setattr__" "object" "__setattr__" (.ref x) [.str name tk,v] [] _ SF.kind SF.split sub (SF.args (.ref x) (.str name tk) v) ?_)
 obtain⟨attr,ha,hr⟩:=Option.bind_eq_some_iff.mp ht
 have hm:Looks (model prog w) s.heap (mroOf (.ref C)) cd.mro:=(PySem.W.looks_clsIn X hc).andThen .now
 have L3:Looks (model prog w) s.heap (Builtin.ObjectAttr.storeTaker? attr) none:=by
  cases attr with
  |none=>exact .now
  |some a=>
   obtain⟨b,hb,hb2⟩:=Option.map_eq_some_iff.mp hr
   refine (PySem.W.looks_takesIn X hb).andThen ?_
   cases b
   ·exact .now
   ·cases hb2
 rw[PySem.W.osa_eq,refuse_eq]
 refine wpAny_bind (wpAny_bind (I.type.here (wpAny_bind (hm.here ?_))))
 rw[hmr,refuseLoop_ref,zev _ T]
 refine wpAny_pure (wpAny_bind (I.type.here (wpAny_bind ((looks_findIn X ha).here (wpAny_bind (L3.here ?_))))))
 exact h _
theorem zez {cd0:ClassData}{bm:List Value}(hc0:clsIn K C=some cd0)(hmr:cd0.mro=.ref C::bm){ox:Obj}{fs:Array Value}{Q:Unit->Shared->Prop}(X:K.In s.heap)(ho:s.heap.get? x=some ox)(hc:ox.cls=.ref C)(hd:ox.dict=none)(hf:ox.data=.fields fs)
  (hs:findIn K (.ref C) "__setattr__" = some (some (.builtin "object.__setattr__"))) (T:OwnTail s.heap vB bm) (ht:takerIn K C name=some none) (hh:hasDictIn K C=true)
  (h:∀h',h'.get? x=some { ox with dict:=some s.heap.objs.size }->h'.Ns1 s.heap.objs.size (λy=>if y=name then some v else none)->(∀b o,b≠x->s.heap.get? b=some o->h'.get? b=some o)->Q () { s with heap:=h',toks:=s.toks+2 }) :
  wpAny (model prog w) A (setAttr (.ref x) name v) Q E s:=by
 have J:InstAt s.heap x ox C none:=⟨ho,hc,by unfold PySem.W.notCls;rw[hf],by rw[hd];trivial⟩
 refine PySem.W.set_plain X J hs (GA (s:={ s with toks:=s.toks+1 }) X J hc0 hmr T ht λb=>?_)
 obtain⟨cd,hcd,hd'⟩:=PySem.W.any_some hh
 obtain⟨oc,odi,oda,osl⟩:=ox
 dsimp only at hc hd hf
 subst hc hd hf
 refine wpAny_bind (wpAny_pure (wpAny_bind (wpAny_bind (wpAny_loadPart ho (wpAny_bind (PySem.W.Looks.here (s:={ s with toks:=s.toks+1 }) (PySem.W.looks_clsIn X hcd) ?_))))))
 rw[hd']
 have hx1:(s.heap.push { cls:=.type "dict",data:=.dict #[] }).get? x=some ⟨.ref C,none,.fields fs,osl⟩:=Heap.get?_push_of_some _ ho
 have hxs:x≠s.heap.objs.size:=Nat.ne_of_lt (Heap.lt_size ho)
 rw[if_neg (by decide)]
 dsimp only
 rw[if_neg (by simp[typeHasDict])]
 refine wpAny_bind (wpAny_alloc' ?_)
 refine wpAny_bind (wpAny_update' hx1 ?_)
 refine wpAny_pure ?_
 have hgd:((s.heap.push { cls:=.type "dict",data:=.dict #[] }).update x λo=>{ cls:=o.cls,dict:=some s.heap.objs.size,data:=o.data,slots:=o.slots }).get? s.heap.objs.size
   = some { cls:=.type "dict",data:=.dict #[] }:=(Heap.get?_update_ne _ _ _ _ hxs.symm).trans (Heap.get?_push_at rfl rfl)
 have hnd:((s.heap.push { cls:=.type "dict",data:=.dict #[] }).update x λo=>{ cls:=o.cls,dict:=some s.heap.objs.size,data:=o.data,slots:=o.slots }).Ns s.heap.objs.size (λ_=>none) :=
  ⟨_,#[],_,hgd,rfl,λe he=>absurd he (by simp),λ_=>rfl⟩
 show wpAny _ _ (Builtin.ObjectAttr.storeInDict s.heap.objs.size (.str name s.toks) name v) _ _ _
 unfold Builtin.ObjectAttr.storeInDict Builtin.ObjectAttr.newKeyGuard
 refine wpAny_bind (wpAny_pure (wpAny_bind (wpAny_nsSet1 (Heap.Ns1.of_empty hnd) λh' hn' hs=>?_)))
 obtain⟨oD,esD,epD,hoD,hdD,hcD⟩:=hn'.count (Within.cons name v Within.nil)
 refine wpAny_bind (wpAny_lookBehind hoD (by rw[hdD];exact pastItsLine_dict (Nat.le_trans hcD (by rw[List.length_cons,List.length_nil,sizeLine_eq];omega))) ?_)
 refine wpAny_pure (h h' ?_ hn' λb o hbx hb=>?_)
 ·refine (hs.2 x hxs).trans (Heap.get?_update_self _ hx1 ?_)
  rfl
 ·exact (hs.2 b (Nat.ne_of_lt (Heap.lt_size hb))).trans ((Heap.get?_update_ne _ _ _ _ hbx).trans (Heap.get?_push_of_some _ hb))
theorem KA {ox:Obj}{fs:Array Value}{tk:Tok}{Q:Fin->Shared->Prop}{h:Heap}{g:Array GenState}{d:Drawn}{t:Nat}{os:OsState}(X:K.In h)(ho:h.get? x=some ox)(hc:ox.cls=.ref C)(hd:ox.dict=some dx)(hf:ox.data=.fields fs)(hn:h.Ns1 dx mA)
  (ha:findIn K (.ref C) name=some none) (hh:hasDictIn K C=true) (hv:mA name=some v) (hv':PySem.W.handedIn v=true) (hq:Q (.done (.ret v)) ⟨h,g,d,t,os⟩) :
  wpAny (model prog w) A (Builtin.«object.__getattribute__» ⟨[.ref x,.str name tk],[]⟩) Q E ⟨h,g,d,t,os⟩:=by
 obtain⟨cd,hcd,hd'⟩:=PySem.W.any_some hh
 have L1:=looks_findIn (M:=model prog w) X ha
 have L2:=PySem.W.looks_clsIn (M:=model prog w) X hcd
 have hv2:handedOut v=pure v:=PySem.W.handedOut_of hv'
 obtain⟨oc,odi,oda,osl⟩:=ox
 dsimp only at hc hd hf
 subst hc hd hf
 unfold Builtin.«object.__getattribute__»
 repeat (any_goals (first | assumption | with_reducible refine wpAny_loadPart_at ho ?_ | with_reducible refine L1.at ?_ | with_reducible refine L2.at ?_ | (with_reducible refine wpAny_nsGet hn.ns ?_;rw[hv]) | rw[hv2] | wp_step))
theorem zd8 {ox:Obj}{fs:Array Value}{tk:Tok}{R:Result->Shared->Prop}{h:Heap}{g:Array GenState}{d:Drawn}{t:Nat}{os:OsState}(X:K.In h)(ho:h.get? x=some ox)(hc:ox.cls=.ref C)(hd:ox.dict=some dx)(hf:ox.data=.fields fs)(hn:h.Ns1 dx mA)
  (hsub:subIn K (.ref C) (.type "BaseException")=some true)
  (ha:findIn K (.ref C) name=some none) (hh:hasDictIn K C=true) (hv:mA name=some v) (hv':PySem.W.handedIn v=true) (hq:R (.ok (.ret v)) ⟨h,g,d,t,os⟩) :
  codeAny (model prog w) A (.call (.builtin "BaseException.__getattribute__") ⟨[.ref x,.str name tk],[]⟩) R ⟨h,g,d,t,os⟩:=by
 refine codeAny_call_builtin PySem.F.attrBase_ValueError.ga.plain PySem.F.entry_bexc_ga ?_
 have J:Looks (model prog w) h (typeOf (.ref x)) (.ref C):=by
  intro A' Q' E' s' k q
  unfold typeOf
  refine wpAny_bind (wpAny_loadPart (k _ _ ho) ?_)
  rw[hc]
  exact wpAny_pure q
 refine @PySem.W.check_slot (model prog w) _ _ ⟨h,g,d,t,os⟩ "BaseException.__getattribute__" "BaseException" "__getattribute__" (.ref x) [.str name tk] [] _ (by decide +kernel) (by decide +kernel) (J.andThen (PySem.W.looks_subIn X hsub)) (PySem.F.args_bexc_ga (.ref x) (.str name tk)) ?_
 exact KA X ho hc hd hf hn ha hh hv hv' hq
theorem Q4 {ox:Obj}{fs:Array Value}{expr:Bool}{Q:Value->Shared->Prop}(X:K.In s.heap)(ho:s.heap.get? x=some ox)(hc:ox.cls=.ref C)(hd:ox.dict=some dx)(hf:ox.data=.fields fs)(hn:s.heap.Ns1 dx mA)
  (hsub:subIn K (.ref C) (.type "BaseException")=some true) (hga:findIn K (.ref C) "__getattribute__" = some (some (.builtin "BaseException.__getattribute__"))) (hgt:findIn K (.ref C) "__getattr__" = some none)
  (ha:findIn K (.ref C) name=some none) (hh:hasDictIn K C=true) (hv:mA name=some v) (hv':PySem.W.handedIn v=true) (hq:Q v { s with toks:=s.toks+1 }) :
  wpAny (model prog w) A (getAttr (.ref x) name expr) Q E s:=by
 obtain⟨h,g,d,t,os⟩:=s
 have L1:=looks_findIn (M:=model prog w) X hga
 have L2:=looks_findIn (M:=model prog w) X hgt
 have f3:=PySem.F.attrBase_ValueError.ga.bind (.ref x)
 have hv2:handedOut v=pure v:=PySem.W.handedOut_of hv'
 have hx0:(expr&&onTheHeap (Value.builtin "BaseException.__getattribute__"))=false:=by cases expr<;>rfl
 have hx2:(Value.builtin "BaseException.__getattribute__" == Value.builtin "object.__getattribute__")=false:=by decide +kernel
 have hx1:(onTheHeap (Value.ref C)&&Value.builtin "BaseException.__getattribute__" == Value.builtin "object.__getattribute__")=false:=by rw[hx2];rfl
 unfold getAttr getAttrBy
 repeat (any_goals (first | assumption | (with_reducible refine wpAny_loadPart_at ho ?_;rw[hc]) | with_reducible refine L1.at ?_ | with_reducible refine L2.at ?_ | rw[hv2] | wp_step))
 refine zd8 X ho hc hd hf hn hsub ha hh hv hv' ?_
 repeat (any_goals (first | assumption | rw[hv2] | wp_step))
end
structure XC (K:PySem.W.Frag)(C HE fI:Addr)(fd:Str):Prop where
 cls:∃dd cd k0 k1 k2 k3 k5 bm,K.lookup C=some ⟨.type "type",dd,.cls cd,#[k0,k1,k2,k3,some (.builtin "ValueError.__new__"),k5]⟩/\cd.mro=.ref C::bm/\cd.hasDel=false /\
  PySem.W.tailIn K vB bm=true/\PySem.W.nsOkIn K cd.ns=true/\nsIn K cd.ns "__init__" = some (some (.ref fI))
 fn:∃o,K.lookup fI=some o/\o.cls=.type "function"
 kp:keepIn K (.ref C)=true
 sa:findIn K (.ref C) "__setattr__" = some (some (.builtin "object.__setattr__"))
 tk:takerIn K C fd=some none
 hd:hasDictIn K C=true
 sub:subIn K (.ref C) (.type "BaseException")=some true
 subH:subIn K (.ref C) (.ref HE)=some true
 ga:findIn K (.ref C) "__getattribute__" = some (some (.builtin "BaseException.__getattribute__"))
 gt:findIn K (.ref C) "__getattr__" = some none
 na:findIn K (.ref C) fd=some none
 rd:PySem.W.readsIn K HE (.type "type")=true
 fc:PySem.W.findCls K (.ref HE) (.type "type") "__init__" = some (.val (.builtin "ValueError.__init__"))
 sp:PySem.W.specialIn K (.ref HE) "__getattribute__" = some (some (.builtin "type.__getattribute__"))
section
variable {K:PySem.W.Frag}{C HE fI:Addr}{fd:Str}{h:Heap}
theorem RH {N:Addr}{mg:Str->Option Value}{n:Str}{v:Value}(X:K.In h)(G:h.Ns N mg)(e:nsIn K N n=some (some v)):mg n=some v:=by
 obtain⟨o,es,ep,ho,hd,_,hf⟩:=G
 unfold nsIn at e
 split at e
 ·rename_i q
  have:=X _ _ q
  rw[ho] at this
  cases this
  cases hd
  split at e
  ·rename_i en he
   cases e
   rw[<-hf]
   unfold nsFind findBy
   rw[<-Array.find?_toList,he]
   rfl
  ·split at e<;>cases e
 ·cases e
theorem XC.at (x:XC K C HE fI fd)(X:K.In h):∃nm q N bs bm hdct sn sub ab col dd k0 k1 k2 k3 k5 mN,h.get? C=some (excClassObj nm q C N bs bm hdct sn sub ab col dd k0 k1 k2 k3 k5 "ValueError.__new__")/\h.Ns N mN/\mN "__init__" = some (.ref fI)/\OwnTail h vB bm:=by
 obtain⟨dd,cd,k0,k1,k2,k3,k5,bm,e,m,hdel,ht,hok,hi⟩:=x.cls
 obtain⟨nm,bs,mro,ns,qn,hd,sn,sub,ab,col,del⟩:=cd
 dsimp only at m hdel hok hi
 subst m hdel
 have G:h.Ns ns (h.nsMap ns):=.of_isNs (PySem.W.isNs_of_in X hok)
 refine⟨nm,qn,ns,bs,bm,hd,sn,sub,ab,col,dd,k0,k1,k2,k3,k5,_,X _ _ e,G,?_,PySem.W.tail_of_in X ht⟩
 exact RH X G hi
end
section
variable {prog:Program}{w:World}{A:Around}{E:Value->Shared->Prop}{h:Heap}{g:Array GenState}{d:Drawn}{t:Nat}{os:OsState}
variable {nm q:Str}{C N:Addr}{bs bm bmB:List Value}{hdct:Bool}{sn:List Str}{sub:List Value}{ab:Bool}{col:Option Bool}{dd:Option Addr}{k0 k1 k2 k3 k5:Option Value}{B newId initId:String}
theorem Qr (F:ExcBaseFacts B newId initId bmB)(T:OwnTail h bmB bm){e ta:Addr}{rest:List Value}{Q:Value->Shared->Prop}
  (hC:h.get? C=some (excClassObj nm q C N bs bm hdct sn sub ab col dd k0 k1 k2 k3 k5 newId)) (he:h.get? e=some { cls:=.ref C,data:=.fields #[.ref ta,.none,.none,.none,.bool false,.none] }) (hrest:rest.length<=sizeLine)
  (hq:∀h',h'.get? e=some { cls:=.ref C,data:=.fields #[.ref h.objs.size,.none,.none,.none,.bool false,.none] }->(∀b o,b≠e->h.get? b=some o->h'.get? b=some o)->Q .none ⟨h',g,d,t,os⟩) :
  wpAny (model prog w) A (call (.builtin initId) (.ref e::rest)) Q E ⟨h,g,d,t,os⟩:=by
 refine wpAny_call (codeAny_call_builtin F.init.plain F.initEntry (wpAny_check_init_subT F T hC he rfl ?_))
 wp_walk
 refine hq _ ?_ λb o hb q=>?_
 ·exact Heap.get?_update_self _ (Heap.get?_push_of_some _ he) rfl
 ·rw[Heap.get?_update_other _ _ (Ne.symm hb)]
  exact Heap.get?_push_of_some _ q
end
def ExO (e C t:Addr)(dd:Option Addr):HO:=.ext λh=>h.get? e=some { cls:=.ref C,dict:=dd,data:=.fields #[.ref t,.none,.none,.none,.bool false,.none] }
theorem Zq {P:Program}{w:World}{H:Hp}{h:Heap}{e C t:Addr}{dd:Option Addr}(q:h.get? e=some { cls:=.ref C,dict:=dd,data:=.fields #[.ref t,.none,.none,.none,.bool false,.none] }):ObjOk P w H h e (ExO e C t dd) :=
 ⟨q,⟨_,q⟩,λ_ _ p k=>k _ p⟩
def xiSp (C:Addr)(fd:Str):Sp:=λvs H Q _=>∃e v t,vs=[.ref e,v]/\H e=some (ExO e C t none)/\∀t' dx,H dx=none->dx≠e->Q .non (upd (upd H e (ExO e C t' (some dx))) dx (.xd [(fd,v)]))
section
variable {X:Cx}{C HE fI:Addr}{fd x:Str}{pos p apos pa pb pos':Pos}{a b:Expr}{ta tb:TE}
def tBase (C:Addr)(t:TA):TE:=λσ H Q=>t σ H λvs H2=>∃e v t,vs=[.ref e,v]/\H2 e=some (ExO e C t none)/\∀t',Q .non (upd H2 e (ExO e C t' none))
theorem zcj {pl:Sem Bool}{t:TA}(xc:XC X.K C HE fI fd)(hg:Gl X x)(hm:X.mg x=some (.ref HE))(ha:PA X [a,b] t)
  (hdb:(x==("__debug__" : Str))=false:=by decide)
  (hst:starEach [a,b] X.env=(false,eval a X.env)::starEach [b] X.env:=by rfl) (hpl:(backTo pos (starEach [b] X.env)).any (·.1)=false:=by rfl)
  (ht:eval (.Call (.Attribute (.Name x p) "__init__" apos) [a,b] [] pos) X.env=(do
   let ov <-eval (.Name x p) X.env
   standAt apos.atName
   let (f,first) <-holding [ov] (getMethod ov "__init__" pl)
   callWith pos f first (backTo pos (starEach [a,b] X.env)) (backToKw pos (keywordEach [] X.env))):=by rfl) :
  PE X (.Call (.Attribute (.Name x p) "__init__" apos) [a,b] [] pos) (tBase C t):=by
 intro pins s σ H Q I h
 refine PySem.W.methodCall_KW (pl:=pl) (xj I hg hm ?_ hdb) ht
 refine PySem.W.method_cls I.kIn xc.sp (PySem.W.cls_value I.kIn xc.rd xc.fc rfl ?_)
 have I0:=I.tok (s.toks+1)
 refine callWith_method1 (first:=[]) (thn (ha pos pins _ σ H _ I0 h) λus s1 ⟨vs,H1,I1,r1,q1⟩=>?_) hst hpl
 obtain⟨e,v,t0,rfl,he,q⟩:=q1
 cases r1 with
 | @cons _ u1 _ _ ru r2=>
 cases r2 with
 | @cons _ u2 _ _ rv r3=>
 cases r3
 obtain rfl:u1=Value.ref e:=ru
 obtain⟨nm,qq,N,bs,bm,hdct,sn,sub,ab,col,dd,k0,k1,k2,k3,k5,mN,hC,hN,hi,T⟩:=xc.at I1.kIn
 have he':=(I1.hok e _ he).1
 obtain⟨hh,g,d,tk,os⟩:=s1
 refine Qr PySem.F.excBase_ValueError T hC he' (by rw[List.length_cons,List.length_nil,sizeLine_eq];omega) λh' k1' k2'=>?_
 refine⟨.non,_,I1.write (x:=e) (e:=e) (o:=ExO e C hh.objs.size none) (h':=h') (t':=tk) (by rw[he];exact True.intro) (.inl rfl) (λb u hb z=>k2' b u hb z) ⟨_,k1'⟩ (Zq k1'),rfl,q _⟩
def sFirst (C:Addr)(fd:Str)(ta tv:TE):TS:=λD σ H=>tv σ H λy H1=>ta σ H1 λx H2=>∃e t,x=.ref e/\H2 e=some (ExO e C t none)/\∀dx,H2 dx=none->dx≠e->D.nx σ (upd (upd H2 e (ExO e C t (some dx))) dx (.xd [(fd,y)]))
theorem XC.clsOf {K:PySem.W.Frag}{C HE fI:Addr}{fd:Str}{h:Heap}(x:XC K C HE fI fd)(X:K.In h):∃cd bm,clsIn K C=some cd/\cd.mro=.ref C::bm/\OwnTail h vB bm:=by
 obtain⟨dd,cd,k0,k1,k2,k3,k5,bm,e,m,hdel,ht,hok,hi⟩:=x.cls
 exact⟨cd,bm,by unfold clsIn;rw[e],m,PySem.W.tail_of_in X ht⟩
theorem zb2 {o value:Expr}{tv:TE}(xc:XC X.K C HE fI fd)(ha:PE X o ta)(hv:PE X value tv)(hs:swapsWith value (some (.Attribute o fd pos')) pos.line X.env=pure false):PS X (.Assign [.Attribute o fd pos'] value pos) (sFirst C fd ta tv):=by
 intro pins s σ H D I h
 refine plainObj_wpAny_Assign_Attribute (thn (hv pins s σ H _ I h) λu s1 ⟨y,H1,I1,ry,q⟩=>thn (ha pins s1 σ H1 _ I1 q) λov s2 ⟨x,H2,I2,rx,e,t,ex,ee,q2⟩=>?_) hs
 subst ex
 obtain rfl:ov=Value.ref e:=rx
 have he:=(I2.hok e _ ee).1
 have hn:H2 s2.heap.objs.size=none:=I2.hok.fresh (Nat.le_refl _)
 have hne:s2.heap.objs.size≠e:=λz=>by rw[z,ee] at hn;cases hn
 obtain⟨cd0,bm0,hc0,hm0,T0⟩:=xc.clsOf I2.kIn
 refine zez hc0 hm0 I2.kIn he rfl rfl rfl xc.sa T0 xc.tk xc.hd λh' h1 h2 h3=>⟨σ,_,?_,q2 s2.heap.objs.size hn hne⟩
 have hm:Mut (H2 e):=by rw[ee];exact True.intro
 have U:Un X.fs [] H2 (upd H2 e (ExO e C t (some s2.heap.objs.size))) s2.heap h':=Un.write hm (.inl rfl) (λb u hb q=>h3 b u hb q) ⟨_,h1⟩
 have O:HOk X.prog X.w (upd H2 e (ExO e C t (some s2.heap.objs.size))) h':=I2.hok.write hm (.inl rfl) (λb u hb q=>h3 b u hb q) ⟨_,h1⟩ (Zq h1)
 have hn':upd H2 e (ExO e C t (some s2.heap.objs.size)) s2.heap.objs.size=none:=by rw[zg hne];exact hn
 refine I2.un (h':=h') (t':=s2.toks+2) ⟨U.keep,U.slot,λb o q n hx=>?_,U.there,λb xs q=>?_,λb o xs q=>?_,λb ps q=>?_⟩ λa o q=>?_
 ·rw[zg (Nat.ne_of_lt (Heap.lt_size q))];exact U.free b o q n hx
 ·rw[zg (zw q hn)];exact U.tups b xs q
 ·rw[zg (zw q hn)];exact U.frzs b o xs q
 ·rw[zg (zw q hn)];exact U.tbls b ps q
 ·by_cases ha:a=s2.heap.objs.size
  ·subst ha
   rw[zl] at q
   cases q
   refine⟨_,h2,λf=>?_⟩
   by_cases hf:f=fd
   ·subst hf
    rw[if_pos rfl]
    simp only[List.lookup,beq_self_eq_true]
    exact ry
   ·rw[if_neg hf]
    have:(f==fd)=false:=by simpa using hf
    simp only[List.lookup,this]
    exact True.intro
  ·rw[zg ha] at q
   exact (O a o q).stay (λb u _ z=>z) (λb z=>by rw[zg (zw z hn')];exact z) λb xs z=>by rw[zg (zw z hn')];exact z
end
def del (H:Hp)(e:Addr):Hp:=λb=>if b=e then none else H b
theorem jJ {H:Hp}{e b:Addr}(h:b≠e):del H e b=H b:=by unfold del;rw[if_neg h]
theorem kq {H:Hp}{e:Addr}:del H e e=none:=by unfold del;rw[if_pos rfl]
theorem Ge {X:Cx}{pins:List (Addr×Obj)}{σ:St}{H:Hp}{s:Shared}{e:Addr}{φ:Heap->Prop}(I:Inv X pins σ H s)(he:H e=some (.ext φ)):Inv X pins σ (del H e) s:=by
 have no:∀ {b:Addr},H b=none->del H e b=none:=fun {b} n=>by
  by_cases q:b=e
  ·rw[q];exact kq
  ·rw[jJ q];exact n
 have ke:∀ {b:Addr} {u:HO},H b=some u->(∀φ,u≠.ext φ)->del H e b=some u:=fun {b u} n d=>by
  have:b≠e:=λz=>by rw[z,he] at n;cases n;exact d _ rfl
  rw[jJ this];exact n
 have u:=I.base
 refine⟨I.ok,I.os,I.bare,⟨u.keep,u.slot,λb o q n hx=>no (u.free b o q n hx),u.there,λb xs q=>ke (u.tups b xs q) (λ_ z=>nomatch z),λb o xs q=>ke (u.frzs b o xs q) (λ_ z=>nomatch z),λb ps q=>?_⟩,I.loc,I.cell,no I.free,λx c q=>no (I.freeC x c q),λp hp=>?_,λa o q=>?_,I.len⟩
 ·obtain⟨m,z⟩:=u.tbls b ps q
  exact⟨m,ke z λ_ z=>nomatch z⟩
 ·obtain⟨a1,a2,a3⟩:=I.pin p hp
  exact⟨a1,no a2,a3⟩
 ·have hne:a≠e:=λz=>by rw[z,kq] at q;cases q
  rw[jJ hne] at q
  exact (I.hok a o q).stay (λb u _ z=>z) (λb z=>ke z λ_ z=>nomatch z) λb xs z=>ke z λ_ z=>nomatch z
section
variable {M:Model}{A:Around}{E:Value->Shared->Prop}{s:Shared}{env:Env}
variable {nm q:Str}{C N:Addr}{bs bm:List Value}{hdct:Bool}{sn:List Str}{sub:List Value}{ab:Bool}{col:Option Bool}{dd:Option Addr}{k0 k1 k2 k3 k5:Option Value}{newId:String}
theorem zc4 {x:Sem Value}{Q:Flow->Shared->Prop}(hbase:bm.contains (.type "BaseException")=true) (hh:A.handled=none)
  (h:wpAny M A x (λv s₁=>∃e t ed,v=.ref e/\s₁.heap.get? C=some (excClassObj nm q C N bs bm hdct sn sub ab col dd k0 k1 k2 k3 k5 newId) /\
   s₁.heap.get? e=some { cls:=.ref C,dict:=ed,data:=.fields #[.ref t,.none,.none,.none,.bool false,.none] }/\E (.ref e) s₁) E s) :
  wpAny M A (raiseStmt env (some x) none) Q E s:=by
 have hcB:(Value.ref C::bm).contains (.type "BaseException")=true:=by rw[List.contains_cons,hbase,Bool.or_true]
 unfold raiseStmt
 refine wpAny_bind (wpAny_mono h (λv s₁ h₁=>?_) λ_ _ x=>x)
 obtain⟨e,t,ed,rfl,hC,he,hE⟩:=h₁
 obtain⟨hp,g,d,tk,os⟩:=s₁
 repeat (first | with_reducible refine wpAny_loadPart_at he ?_ | with_reducible refine wpAny_loadPart_at hC ?_ | (with_reducible refine wpAny_isSubtype_exc hC ?_;rw[hcB]) | wp_step)
 exact wpAny_raiseNew_none hh hE
end
section
variable {X:Cx}{C HE fI:Addr}{fd x:Str}{pos p cpos:Pos}{a:Expr}{t:TA}{k:Nat}{f0:FuncData}{ps:List Str}
theorem ze9 {pins:List (Addr×Obj)}{σ:St}{H:Hp}{s:Shared}{u:Value}{v:V}{Q:Value->Shared->Prop}(xc:XC X.K C HE fI fd)(F:FnOk X.prog X.w X.K X.mg X.base CX0 k fI f0 ps (xiSp C fd))(hr:Room (k+1) X.A)(hb:Binds X.K f0 ps [])
  (I:Inv X pins σ H s) (r:RelV v u)
  (h:∀e t dx s',Inv X pins σ (upd (upd (upd H e (ExO e C t none)) e (ExO e C t (some dx))) dx (.xd [(fd,v)])) s'->H e=none->H dx=none->dx≠e->s.heap.objs.size<=e->Q (.ref e) s') :
  wpAny (model X.prog X.w) X.A (call (.ref C) [u]) Q X.xe s:=by
 obtain⟨nm,qq,N,bs,bm,hdct,sn,sub,ab,col,dd,k0,k1,k2,k3,k5,mN,hC,hN,hi,T⟩:=xc.at I.kIn
 obtain⟨oI,hfI,hfc⟩:=xc.fn
 obtain⟨hh,g,d,tk,os⟩:=s
 refine K5 PySem.F.excBase_ValueError T hC hN hi (I.kIn _ _ hfI) hfc (λh' e hl hm=>?_) (by rw[List.length_cons,List.length_nil,sizeLine_eq];omega)
 obtain⟨t,he,htn,ht⟩:=hm.there
 have I2:Inv X pins σ (upd H e (ExO e C t none)) ⟨h',g,d,tk,os⟩:=I.laid (a:=e) (o:=ExO e C t none) (h':=h') (t':=tk) (λb o q=>hm.keeps b o q) hl (Zq he)
 have hne:H e=none:=I.hok.fresh hl
 have r2:Vals [V.ref e,v] [Value.ref e,u]:=.cons rfl (.cons r .nil)
 have hsp:xiSp C fd [V.ref e,v] (upd H e (ExO e C t none)) (λv' H2=>v'=.non/\∃t' dx,H dx=none/\dx≠e/\H2=upd (upd (upd H e (ExO e C t none)) e (ExO e C t' (some dx))) dx (.xd [(fd,v)])) E0 :=
  ⟨e,v,t,rfl,zl,λt' dx hdx hde=>⟨rfl,t',dx,by rw[zg hde] at hdx;exact hdx,hde,rfl⟩⟩
 have hl2:([Value.ref e,u]++([]:List Value)).length=ps.length:=by
  have:=F.len _ _ _ _ hsp
  simpa using this
 refine wpAny_call (codeAny_mono (F.run _ X.stack _ _ ⟨[Value.ref e,u],[]⟩ [Value.ref e,u] _ _ E0 (hr.make C [u] []) (I2.env0.make C [u] []) (by have:=hb ⟨h',g,d,tk,os⟩ [Value.ref e,u] I2.kIn hl2;simpa using this) r2 hsp) λr s' hq'=>?_)
 cases r with
 |error e=>exact False.elim hq'
 |ok fl=>
  cases fl with
  |ret u'=>
   obtain⟨v',H',I3,rv,ev,t',dx,e1,e2,e3⟩:=I2.after hq'
   subst ev e3
   refine⟨rv,h e t' dx s' ?_ hne e1 e2 hl⟩
   have:upd (upd H e (ExO e C t none)) e (ExO e C t' (some dx))=upd (upd H e (ExO e C t' none)) e (ExO e C t' (some dx)):=by rw[kI,kI]
   rw[<-this];exact I3
  |next=>exact False.elim hq'
  |brk=>exact False.elim hq'
  |cont=>exact False.elim hq'
end
section
variable {P:Program}{w:World}{K:PySem.W.Frag}{mg:Str->Option Value}{base:Heap}{N:List Str}{qual:Str}{scope:Scope}{f:Addr}{cd:Value}{A:Around}{outer:List Env}{s0:Shared}{H0:Hp}{E:XK}
variable {X:Cx}{C HE fI:Addr}{fd x:Str}{pos p cpos:Pos}{a:Expr}{t:TA}{k:Nat}{f0:FuncData}{ps:List Str}
def sRaise (C:Addr)(fd:Str)(E:XK)(t:TA):TS:=λ_ σ H=>t σ H λvs H1=>∃v,vs=[v]/\∀dx,H1 dx=none->E (.ref C) (some dx) (upd H1 dx (.xd [(fd,v)]))
theorem Ug (hX:X=cxOf (CX1 P w) P w K mg base N qual scope f cd A outer s0 H0 E)(xc:XC X.K C HE fI fd)(F:FnOk X.prog X.w X.K X.mg X.base CX0 k fI f0 ps (xiSp C fd))(hr:Room (k+1) X.A)(hb:Binds X.K f0 ps [])
  (hg:Gl X x) (hm:X.mg x=some (.ref C)) (ha:PA X [a] t) (hdb:(x==("__debug__" : Str))=false:=by decide)
  (he:starEach [a] X.env=(false,eval a X.env)::starEach [] X.env:=by rfl) (hpl:(backTo cpos (starEach [] X.env)).any (·.1)=false:=by rfl) :
  PS X (.Raise (some (.Call (.Name x p) [a] [] cpos)) none pos) (sRaise C fd E t):=by
 intro pins s σ H D I h
 have hh:X.A.handled=none:=I.ok.hd (by subst hX;rfl)
 obtain⟨nm,qq,N',bs,bm,hdct,sn,sub,ab,col,dd,k0,k1,k2,k3,k5,mN,hC,hN,hi,T⟩:=xc.at I.ok.mod.kin
 have hbase:bm.contains (.type "BaseException")=true:=T.hasType (by decide)
 rw[arm_exec_Raise]
 refine wpAny_bind (wpAny_standAt ?_)
 show wpAny _ _ (raiseStmt X.env (some (do let v <-eval (.Call (.Name x p) [a] [] cpos) X.env;standAt pos;pure v)) none) _ _ _
 refine zc4 (nm:=nm) (q:=qq) (C:=C) (N:=N') (bs:=bs) (bm:=bm) (hdct:=hdct) (sn:=sn) (sub:=sub) (ab:=ab) (col:=col) (dd:=dd) (k0:=k0) (k1:=k1) (k2:=k2) (k3:=k3) (k5:=k5) (newId := "ValueError.__new__") hbase hh (wpAny_bind ?_)
 refine wpAny_Call_Name_kw (xj I hg hm ?_ hdb)
 refine PySem.W.callWith_K (h₀:=X.base) I.ok.mod.kin xc.kp (thn (ha cpos pins s σ H _ I h) λus s1 ⟨vs,H1,I1,r1,v,ev,q⟩=>⟨I1.kIn,?_⟩) he hpl
 subst ev
 cases r1 with
 | @cons _ u _ _ ru r2=>
 cases r2
 refine ze9 xc F hr hb I1 ru λe t' dx s' I2 he hdx hde hl=>wpAny_bind (wpAny_standAt (wpAny_pure ?_))
 have hee:upd (upd (upd H1 e (ExO e C t' none)) e (ExO e C t' (some dx))) dx (.xd [(fd,v)]) e=some (ExO e C t' (some dx)):=by rw[zg (Ne.symm hde),zl]
 have ho:=(I2.hok e _ hee).1
 refine⟨e,t',some dx,rfl,I2.bk _ _ hC,ho,?_⟩
 have I3:=Ge I2 hee
 have eq:del (upd (upd (upd H1 e (ExO e C t' none)) e (ExO e C t' (some dx))) dx (.xd [(fd,v)])) e=upd H1 dx (.xd [(fd,v)]):=by
  funext b
  by_cases h1:b=e
  ·subst h1
   rw[kq,zg (Ne.symm hde),he]
  ·rw[jJ h1]
   by_cases h2:b=dx
   ·subst h2;rw[zl,zl]
   ·rw[zg h2,zg h2,zg h1,zg h1]
 rw[eq] at I3
 have hs0:X.s₀=s0:=by subst hX;rfl
 have sz:s0.heap.objs.size<=s1.heap.objs.size:=by have:=I1.sz;rw[hs0] at this;exact this
 refine ZJ hX (C:=.ref C) (a0:=.ref t') (dd:=some dx) (T:=none) I3 ⟨_,_,ho,rfl,rfl,rfl,rfl,λ_=>rfl,λ_ z=>nomatch z⟩ (Nat.le_trans sz hl) (λ_ z=>nomatch z) ?_ (q dx hdx)
 rw[zg (Ne.symm hde)];exact he
end
theorem Js {M:Model}{h:Heap}{e C:Addr}{oe:Obj}(he:h.get? e=some oe)(hc:oe.cls=.ref C):Looks M h (typeOf (.ref e)) (.ref C):=by
 intro A' Q' E' s' k q
 unfold typeOf
 refine wpAny_bind (wpAny_loadPart (k _ _ he) ?_)
 rw[hc]
 exact wpAny_pure q
section
variable {K:PySem.W.Frag}{e C M:Addr}
theorem Rb {oe:Obj}{c:Value}(hc:oe.cls=.ref C)(z:kitOne K (.ref C) c=some true):Answers (λs=>K.In s.heap/\s.heap.get? e=some oe) (.ref e) c true:=by
 intro dep tk prog w A R s hs
 obtain⟨h0,g,d,tt,os⟩:=s
 obtain⟨⟨X,p⟩,hq⟩:=hs
 have LT:=Js (M:=model prog w) p hc
 unfold kitOne at z
 unfold Builtin.«isinstance.nested»
 refine wpAny_bind (LT.at ?_)
 by_cases q:((Value.ref C)==c)=true
 ·rw[if_pos q]
  first
   |exact wpAny_bind (wpAny_rule (hq tt))
   |exact wpAny_bind (wpAny_rule (wpAny_pure (hq tt)))
 ·rw[if_neg q] at z
  rw[if_neg q]
  obtain⟨hty,his,hsub⟩:=PySem.W.kit_cls (M:=model prog w) X z
  have LI:Looks (model prog w) h0 (isInstance (.ref e) c) true:=LT.andThen hsub
  refine wpAny_bind (hty.at ?_)
  rw[if_pos (by decide)]
  k_delta "plainIsInstance"
  refine wpAny_bind (wpAny_bind (his.at ?_))
  simp only[Bool.not_true,Bool.false_eq_true,if_false]
  refine wpAny_bind (LI.at ?_)
  first
   |exact wpAny_pure (wpAny_pure (hq tt))
   | (simp only[if_true];first | exact wpAny_pure (wpAny_pure (hq tt)) | exact wpAny_pure (hq tt) | exact wpAny_bind (wpAny_pure (wpAny_pure (hq tt))))
theorem zbb {prog:Program}{w:World}{A:Around}{E:Value->Shared->Prop}{s:Shared}{Q:Value->Shared->Prop}{oe:Obj}{c:Value}(X:K.In s.heap)(he:s.heap.get? e=some oe)(hc:oe.cls=.ref C)(z:kitOne K (.ref C) c=some true)
  (h:∀tk,Q (.bool true) { s with toks:=tk }):wpAny (model prog w) A (call (.builtin "isinstance") [.ref e,c]) Q E s :=
 call_isinstance (S:=λ_ R s=>(K.In s.heap/\s.heap.get? e=some oe)/\∀tk,R (.ok (.ret (.bool true))) { s with toks:=tk })
  (λprog w A R s hs=>isinstance_outer (Rb hc z 0 _ prog w A R s hs) (λz=>nomatch z)) ⟨⟨X,he⟩,h⟩
structure XM (K:PySem.W.Frag)(C M:Addr):Prop where
 sub:subIn K (.ref C) (.ref M)=some true
 nt:PySem.W.instIn K (.ref M) (.type "tuple")=some false
 cls:(clsIn K M).isSome=true
 exc:subIn K (.ref M) (.type "BaseException")=some true
theorem G2 {prog:Program}{w:World}{A:Around}{E:Value->Shared->Prop}{s:Shared}{Q:Bool->Shared->Prop}{oe:Obj}(xm:XM K C M)(X:K.In s.heap)(he:s.heap.get? e=some oe)(hc:oe.cls=.ref C)(h:Q true s) :
  wpAny (model prog w) A (excMatches (.ref e) (.ref M)) Q E s:=by
 obtain⟨hh,g,d,t,os⟩:=s
 have L0:=PySem.W.looks_instIn (M:=model prog w) X xm.nt
 have L1:=Js (M:=model prog w) he hc
 have L2:=PySem.W.looks_subIn (M:=model prog w) X xm.sub
 have L3:=PySem.W.looks_subIn (M:=model prog w) X xm.exc
 have L4:Looks (model prog w) hh (isType (.ref M)) true:=by
  have z0:=xm.cls
  unfold clsIn at z0
  split at z0
  ·rename_i c' d' cd' sl' ho
   intro A' Q' E' s' k q
   unfold isType loadHead
   exact wpAny_bind (wpAny_loadPart (k _ _ (X _ _ ho)) (wpAny_pure q))
  ·cases z0
 unfold excMatches isExcClass
 repeat (first | with_reducible refine L0.at ?_ | with_reducible refine L1.at ?_ | with_reducible refine L2.at ?_ | with_reducible refine L3.at ?_ | with_reducible refine L4.at ?_ | wp_step)
 all_goals first | exact h | skip
end
section
variable {X:Cx}{pins:List (Addr×Obj)}{σ:St}{H:Hp}{s:Shared}{h':Heap}{e:Addr}{T:Option Addr}
def Own (X:Cx)(pins:List (Addr×Obj))(H:Hp)(b:Addr):Prop:=X.s₀.heap.objs.size<=b/\b≠X.env.locals/\(∀x c,X.env.cells.lookup x=some c->c≠b)/\(∀p∈X.pn++pins,p.1≠b)/\H b=none/\b∉X.fs
theorem ut {s1:Shared}{H1:Hp}(I:Inv X pins σ H1 s1){b:Addr}(h:s1.heap.objs.size<=b)(n:H b=none):Own X pins H b:=by
 refine⟨Nat.le_trans I.sz h,Nat.ne_of_gt (Nat.lt_of_lt_of_le I.lt h),λx c q=>?_,λp hp=>?_,n,I.nofs h⟩
 ·obtain⟨v,o,ho,_⟩:=I.cell x c q
  exact Nat.ne_of_lt (Nat.lt_of_lt_of_le (Heap.lt_size ho) h)
 ·exact Nat.ne_of_lt (Nat.lt_of_lt_of_le (Heap.lt_size (I.pin p hp).1) h)
theorem VU (I:Inv X pins σ H s)(K:Kpt (frs X.stack) e T s.heap h')(h1:Own X pins H e)(h2:∀t,T=some t->Own X pins H t):Inv X pins σ H { s with heap:=h' }:=by
 have sub:∀b,b∈frs X.stack->b=X.env.locals∨b∈X.fs:=λb hb=>List.mem_cons.mp (I.stkSub b hb)
 have ne:∀b,b∉(e::T.toList)->b≠e/\T≠some b:=λb hb=>by
  refine⟨λz=>hb (by rw[z];exact .head _),λz=>hb ?_⟩
  rw[z];exact .tail _ (.head _)
 have tr:∀b u,H b=some u->b≠e/\T≠some b:=λb u q=>by
  constructor
  ·intro z
   rw[z,h1.2.2.2.2.1] at q
   cases q
  ·intro z
   have:=(h2 b z).2.2.2.2.1
   rw[this] at q
   cases q
 refine I.step (g':=s.gens) (t':=s.toks) (d':=s.drawn) (ch:=e::T.toList) (λb hb=>?_) (λb o hL hf hc q n=>?_) (λb o hL hf hc q n=>?_) (λb o hc q n=>n) (λb o hc q=>?_) (λ_ _ q=>q) (λ_ _ _ q=>q) (λb ps q=>⟨#[],by rw[q];simp⟩) (λm hm=>?_) (λb u q=>?_) I.bare
 ·have:Own X pins H b:=by
   rcases List.mem_cons.mp hb with rfl | z
   ·exact h1
   ·exact h2 b (by cases T with | none=>cases z | some t=>simp at z;rw[z])
  exact⟨.inr this.1,this.2.1,this.2.2.1,this.2.2.2.1⟩
 ·obtain⟨n1,n2⟩:=ne b hc
  exact (K b o n1 n2 q).1 λz=>(sub b z).elim hL hf
 ·obtain⟨n1,n2⟩:=ne b hc
  exact (K b o n1 n2 q).2
 ·obtain⟨n1,n2⟩:=ne b hc
  obtain⟨sl,z⟩:=(K b o n1 n2 q).2
  exact⟨_,z⟩
 ·obtain⟨o,es,ep,ho,r⟩:=hm
  obtain⟨sl,z⟩:=(K _ o (Ne.symm h1.2.1) (λz=>(h2 _ z).2.1 rfl) ho).2
  exact⟨_,es,ep,z,r⟩
 ·refine (I.hok b u q).stay (λc v hc z=>?_) (λ_ z=>z) λ_ _ z=>z
  have hn:∃u',H c=some u':=by
   rcases hc with rfl | z
   ·exact⟨u,q⟩
   ·exact⟨_,z⟩
  obtain⟨u',hu⟩:=hn
  obtain⟨n1,n2⟩:=tr c u' hu
  refine (K c v n1 n2 z).1 λhf=>?_
  rw[I.stkFree c hf] at hu;cases hu
theorem UG {M:Model}{A:Around}{E:Value->Shared->Prop}{c a0:Value}{dd:Option Addr}{t:Addr}{Q:Unit->Shared->Prop}(ht:Trc s.heap e c dd a0 (some t))
  (h:∀h',Trc h' e c dd a0 (some t)->Kpt [] e (some t) s.heap h'->Q () { s with heap:=h' }):wpAny M A (setFlight (.ref e) none) Q E s:=by
 obtain⟨oe,vs,he,rfl,rfl,hd,h0,hn,hs⟩:=ht
 obtain⟨h1,hte,oT,ts,hT,hdT,h3⟩:=hs t rfl
 have sz:3 < ts.size:=(Array.getElem?_eq_some_iff.mp h3).1
 unfold setFlight
 refine wpAny_bind (wpAny_field he hd h1 ?_)
 rw[if_pos (show (Value.ref t != Value.none)=true from by simp)]
 refine wpAny_setField hT hdT sz (h _ ⟨oe,vs,?_,rfl,rfl,hd,h0,hn,λt' q=>?_⟩ λb o hb hbt q=>?_)
 ·rw[Heap.get?_update_other _ _ hte];exact he
 ·cases q
  refine⟨h1,hte,_,_,Heap.get?_update_self _ hT (Obj.isFreed_of_fields (Obj.data_mapFields hdT _)),Obj.data_mapFields hdT _,?_⟩
  rw[Array.getElem?_setIfInBounds_self_of_lt sz];rfl
 ·have:(s.heap.update t (Obj.mapFields (·.setIfInBounds 3 ((none:Option Addr).elim Value.none λf=>rawInt f)))).get? b=some o:=by
   rw[Heap.get?_update_other _ _ (λz=>hbt (by rw[z]))];exact q
  exact⟨λ_=>this,o.slots,this⟩
theorem Kpt.wide {S S':List Addr}{h h':Heap}(K:Kpt S e T h h')(hs:∀b∈S,b∈S'):Kpt S' e T h h':=λb o n1 n2 q=>⟨λhb=>(K b o n1 n2 q).1 λz=>hb (hs b z),(K b o n1 n2 q).2⟩
theorem zcg {M:Model}{A:Around}{E:Value->Shared->Prop}{i:Nat}{n:Str}{pos:Pos}{Q:Unit->Shared->Prop}(I:Inv X pins σ H s)(hN:X.N.Nodup)(hi:X.N[i]?=some n)(hl:X.env.scope.names.lookup n=some .local)
  (h:∀s',Inv X pins (σ.set i none) H s'->Q () s'):wpAny M A (do bindName X.env n .none;unbindBehindTheSuite X.env n pos) Q E s:=by
 refine wpAny_bind (wpAny_bindName (uF (v:=.non) I hN hi (.inl hl) rfl (λs1 I1=>?_) (.inr hl)))
 have hiσ:i < σ.length:=by rw[I.len];exact (List.getElem?_eq_some_iff.mp hi).1
 obtain⟨m,hn,hlk⟩:=id I1.loc
 have hcls:(X.env.scope.kind==.class||(X.env.scope.kind==.module&&X.env.locals != X.env.globals))=false:=by rw[I.ok.kind];rfl
 obtain⟨u,ru,look⟩:=hlk i n .non hi (List.getElem?_set_self hiσ) (.inl hl)
 have hm:m n=some u:=by
  rcases look with⟨_,z⟩ | ⟨z,_⟩
  ·exact z
  ·have z':X.env.scope.names.lookup n=some .cell∨X.env.scope.names.lookup n=some .free:=z
   rw[hl] at z'
   rcases z' with z' | z'<;>cases z'
 unfold unbindBehindTheSuite
 refine wpAny_onRaise (wpAny_unbindName_local hl hn hm hcls λh' w hn' hs=>h _ ?_)
 obtain⟨oL,_,_,hoL,_⟩:=id hn
 have cne:=I1.cne
 refine⟨I1.ok,I1.os,I1.bare,⟨λb o e n hb hx=>?_,λb o e n hb hx=>?_,I1.base.free,λb o e hx=>?_,I1.base.tups,I1.base.frzs,I1.base.tbls⟩,⟨_,hn',λj y v' e1 e2 e3=>?_⟩,λy c e=>?_,I1.free,I1.freeC,λp hp=>?_,λb ob e=>?_,by simpa using I.len⟩
 ·exact (hs.2 b (Nat.ne_of_lt (Nat.lt_of_lt_of_le (Heap.lt_size e) I1.ok.above))).trans (I1.base.keep b o e n hb hx)
 ·obtain⟨sl,e1⟩:=I1.base.slot b o e n hb hx
  exact⟨sl,(hs.2 b (Nat.ne_of_lt (Nat.lt_of_lt_of_le (Heap.lt_size e) I1.ok.above))).trans e1⟩
 ·obtain⟨o',e1⟩:=I1.base.there b o e hx
  exact⟨o',(hs.2 b (Nat.ne_of_lt (Nat.lt_of_lt_of_le (Heap.lt_size e) I1.ok.above))).trans e1⟩
 ·by_cases hj:j=i
  ·subst hj
   rw[List.getElem?_set_self hiσ] at e2
   cases e2
  ·rw[List.getElem?_set_ne (Ne.symm hj)] at e2
   obtain⟨u',r',q⟩:=hlk j y v' e1 (by rw[List.getElem?_set_ne (Ne.symm hj)];exact e2) e3
   refine⟨u',r',?_⟩
   rcases q with⟨k,e⟩ | ⟨k,c,e,z⟩
   ·refine .inl ⟨k,?_⟩
    have:y≠n:=λe=>hj (uW hN e1 (e ▸ hi))
    simp[this,e]
   ·exact .inr ⟨k,c,e,z.sameBut hs (cne y c e)⟩
 ·obtain⟨w',z⟩:=I1.cell y c e
  exact⟨w',z.sameBut hs (cne y c e)⟩
 ·obtain⟨e,n,ne,nf,d⟩:=I1.pin p hp
  exact⟨(hs.2 p.1 ne).trans e,n,ne,nf,d⟩
 ·refine (I1.hok b ob e).stay (λc w' hc q=>(hs.2 c ?_).trans q) (λ_ q=>q) λ_ _ q=>q
  rintro rfl
  have hf:=I1.free
  rcases hc with rfl | hc
  ·rw[hf] at e;cases e
  ·rw[hf] at hc;cases hc
end
def RX (X:Cx)(e:Expr)(r:St->Hp->XK->Prop):Prop:=∀(pins:List (Addr×Obj)) (s:Shared) (σ:St) (H:Hp) (E:XK) (Ew:Value->Shared->Prop),Inv X pins σ H s->r σ H E ->
 (∀H1 s1 ex s',Inv X pins σ H1 s1->CX1 X.prog X.w X.stack H1 s1 E ex s'->Ew ex s')->wpAny (model X.prog X.w) X.A (eval e X.env) (λ_ _=>False) Ew s
def RSs (X:Cx)(sts:List Stmt)(r:St->Hp->(St->XK)->Prop):Prop:=∀(pins:List (Addr×Obj)) (s:Shared) (σ:St) (H:Hp) (E:St->XK) (Ew:Value->Shared->Prop),Inv X pins σ H s->r σ H E ->
 (∀σ' H1 s1 ex s',Inv X pins σ' H1 s1->CX1 X.prog X.w X.stack H1 s1 (E σ') ex s'->Ew ex s')->wpAny (model X.prog X.w) X.A (execs sts X.env) (λ_ _=>False) Ew s
def cxE (X:Cx)(ea:Addr)(pn:List (Addr×Obj)):Cx:={ X with A:=X.A.mark (some (.ref ea)),calm:=false,pn:=pn++X.pn,xe:=λ_ _=>False }
section
variable {X:Cx}{pins:List (Addr×Obj)}{σ:St}{H:Hp}{s:Shared}{ea:Addr}{pn:List (Addr×Obj)}
theorem ok_in (ok:X.Ok):(cxE X ea pn).Ok :=
 ⟨ok.mod,ok.kind,ok.glob,ok.blt,ok.above,ok.inj,ok.has,ok.cab,λz=>(nomatch z),ok.frames,ok.stk,ok.exf,ok.bs,ok.bsz,ok.noex,ok.exfs,ok.funs,ok.frf⟩
theorem W0 (I:Inv X pins σ H s)(h:∀p∈pn,s.heap.get? p.1=some p.2/\H p.1=none/\p.1≠X.env.locals/\p.1∉X.fs/\∀v,p.2.data≠.cell v):Inv (cxE X ea pn) pins σ H s :=
 ⟨ok_in I.ok,I.os,I.bare,I.base,I.loc,I.cell,I.free,I.freeC,λp hp=>by
  have hp':p∈(pn++X.pn)++pins:=hp
  rw[List.append_assoc] at hp'
  rcases List.mem_append.mp hp' with z | z
  ·exact h p z
  ·exact I.pin p z,I.hok,I.len⟩
theorem UJ (ok:X.Ok)(I:Inv (cxE X ea pn) pins σ H s):Inv X pins σ H s :=
 ⟨ok,I.os,I.bare,I.base,I.loc,I.cell,I.free,I.freeC,λp hp=>I.pin p (by
  show p∈(pn++X.pn)++pins
  rw[List.append_assoc];exact List.mem_append_right _ hp),I.hok,I.len⟩
end
def tTry (C:Addr)(ie:Nat)(r:St->Hp->(St->XK)->Prop)(ts:Addr->Addr->TS):TS:=λD σ H=>r σ H λσ' C' dd H'=>C'=.ref C/\∃dx,dd=some dx /\
 ∀ea,H' ea=none->ts ea dx { nx:=λσ2 H2=>D.nx (σ2.set ie none) H2,rt:=λ_ _=>False } (σ'.set ie (some (.ref ea))) H'
section
variable {X:Cx}{C MC:Addr}{ie:Nat}{r:St->Hp->(St->XK)->Prop}{ts:Addr->Addr->TS}{body suite:List Stmt}{b0:Stmt}{xM n:Str}{pM hpos pos:Pos}
theorem zbn (rb:RSs X body r)(hg:Gl X xM)(hm:X.mg xM=some (.ref MC))(xm:XM X.K C MC)(hN:X.N.Nodup)(hi:X.N[ie]?=some n)(hl:X.env.scope.names.lookup n=some .local)
  (hstk:X.stack=X.env::X.outer/\X.env.frame=some X.env.locals)
  (hs:∀ea oe dx,oe.cls=.ref C->oe.dict=some dx->(∃fs,oe.data=.fields fs)->PSs (cxE X ea [(ea,oe)]) (b0::suite) (ts ea dx)) (hdb:(xM==("__debug__" : Str))=false:=by decide) :
  PS X (.Try body [.ExceptHandler (some (.Name xM pM)) (some n) (b0::suite) hpos] [] [] pos) (tTry C ie r ts):=by
 intro pins s σ H D I h
 refine wpAny_Try_except (wpAny_mono (rb pins s σ H _ _ I h (λσ' H1 s1 ex s' I1 hx=>?_)) (λ_ _ z=>z.elim) λ_ _ z=>z)
 obtain⟨ea,C',dd,a0,T,H',rfl,hos,bare,un,hok,ht,h1,h2,h3,h4,rfl,dx,rfl,q⟩:=hx
 have I2:Inv X pins σ' H' s':=I1.call' hos un hok bare λb z=>absurd z (by simp)
 have o1:Own X pins H' ea:=ut I1 h1 h3
 have o2:Own X pins H' T:=ut I1 h2 h4
 have hfr:X.A.frames=some (X.env::X.outer):=by rw[I.ok.frames,hstk.1]
 have hff:s'.heap.FunFrames X.base (X.env::X.outer):=by have:=I2.stack;rw[hstk.1] at this;exact this
 refine Vt hfr hff hstk.2 ht λh5 T5 t5 l5 k5=>?_
 rw[<-hstk.1] at k5
 have I5:=VU I2 k5 o1 λt z=>by cases z;exact o2
 have o5:Own X pins H' T5:=ut I2 l5 (I2.hok.fresh l5)
 have I5':Inv (cxE X ea []) pins σ' H' { s' with heap:=h5 }:=W0 I5 λp hp=>nomatch hp
 obtain⟨oe5,vs5,he5,hc5,hd5,hf5,_⟩:=id t5
 refine wpAny_handleBy_cons (codeAny_handlers_test (xj (X:=cxE X ea []) I5' hg hm ?_ hdb)) (by intro z;cases z)
 refine G2 xm I5.kIn he5 hc5 ?_
 refine codeAny_handlers_suite_as ?_
 refine UG (s:={ s' with heap:=h5 }) t5 λh6 t6 k6=>?_
 have I6:=VU (s:={ s' with heap:=h5 }) I5 (k6.wide (S':=frs X.stack) λb z=>nomatch z) o1 λt z=>by cases z;exact o5
 refine uO (X:=X) (v:=.ref ea) I6 hN hi (.inl hl) rfl (λs7 I7 sb=>?_) (.inr hl)
 obtain⟨oe,vs,he,hc,hd,hf,_⟩:=id t6
 have he7:s7.heap.get? ea=some oe:=by
  obtain⟨a,sb1,sb2⟩:=sb
  refine (sb1.2 ea ?_).trans he
  rintro rfl
  rcases sb2 with z | z
  ·exact o1.2.1 z
  ·exact o1.2.2.1 n ea z rfl
 have I7':Inv (cxE X ea [(ea,oe)]) pins (σ'.set ie (some (.ref ea))) H' s7:=W0 I7 λp hp=>by
  cases hp with
  |head=>exact⟨he7,h3,o1.2.1,o1.2.2.2.2.2,λv z=>by rw[hf] at z;cases z⟩
  |tail _ z=>cases z
 refine wpAny_mono (hs ea oe dx hc hd ⟨vs,hf⟩ pins s7 _ H' _ I7' (q ea h3)) (λf s8 z=>?_) λ_ _ z=>False.elim z
 cases f with
 |next=>
  obtain⟨σ8,H8,I8,q8⟩:=z
  exact zcg (UJ I.ok I8) hN hi hl λs9 I9=>⟨_,_,I9,q8⟩
 |ret v=>obtain⟨_,_,_,_,_,z⟩:=z;exact z.elim
 |brk=>obtain⟨_,_,_,z⟩:=z;exact z.elim
 |cont=>obtain⟨_,_,_,z⟩:=z;exact z.elim
end
section
variable {X:Cx}{C HE fI ea dx M2:Addr}{oe:Obj}{fd n x y:Str}{ie iy:Nat}{pos p p2 p3 pos2 pos3:Pos}{ta tb:TE}
def rIsE (ea M2:Addr):List V->Hp->VK->Prop:=λxs H Q=>xs=[.ref ea,.ref M2]/\Q (.bl true) H
theorem Ql (hpn:(ea,oe)∈X.pn)(hc:oe.cls=.ref C)(z:kitOne X.K (.ref C) (.ref M2)=some true):CallR X (.builtin "isinstance") (rIsE ea M2):=by
 intro pins s σ H xs us Q I r h
 obtain⟨rfl,q⟩:=h
 cases r with
 | @cons _ u1 _ _ r1 r2=>
 cases r2 with
 | @cons _ u2 _ _ r3 r4=>
 cases r4
 obtain rfl:u1=Value.ref ea:=r1
 obtain rfl:u2=Value.ref M2:=r3
 exact zbb I.kIn (I.pin (ea,oe) (List.mem_append_left _ hpn)).1 hc z λtk=>⟨.bl true,H,I.tok tk,rfl,q⟩
def tAtE (ie:Nat)(ea dx:Addr)(fd:Str):TE:=λσ H Q=>σ[ie]?=some (some (.ref ea))/\∃v,H dx=some (.xd [(fd,v)])/\Q v H
theorem zdp (xc:XC X.K C HE fI fd)(hpn:(ea,oe)∈X.pn)(hc:oe.cls=.ref C)(hd:oe.dict=some dx)(hf:∃fs,oe.data=.fields fs)(hv:PE X (.Name n p) (tVar ie))
  (hb:attributeBase (.Name n p) fd X.env (eval (.Name n p) X.env)=eval (.Name n p) X.env:=by rfl):PE X (.Attribute (.Name n p) fd pos) (tAtE ie ea dx fd):=by
 intro pins s σ H Q I h
 obtain⟨e1,v,e2,q⟩:=h
 obtain⟨fs,hf⟩:=hf
 refine Vf hb (thn (hv pins s σ H (λv H1=>v=.ref ea/\H1=H) I ⟨_,e1,rfl,rfl⟩) λu s1 ⟨x,H1,I1,rx,ex,eH⟩=>?_)
 subst ex eH
 obtain rfl:u=Value.ref ea:=rx
 obtain⟨mA,hn,hr⟩:=(I1.hok dx _ e2)
 have:=hr fd
 simp only[List.lookup,beq_self_eq_true] at this
 obtain⟨w,hw,rw'⟩:=RelO.some_of this
 exact Q4 I1.kIn (I1.pin (ea,oe) (List.mem_append_left _ hpn)).1 hc hd hf hn xc.sub xc.ga xc.gt xc.na xc.hd hw (Y2 rw') ⟨v,_,I1.tok _,rw',q⟩
def tArg (ie iy:Nat)(ea dx:Addr)(fd:Str):TE:=λσ H Q=>σ[ie]?=some (some (.ref ea))/\∃x,H dx=some (.xd [(fd,.str x)])/\σ[iy]?=some (some (.str x))/\Q (.bl true) H
theorem Q9 {pI pN pM pC pA pE' pY pK pB:Pos}(xc:XC X.K C HE fI fd)(hpn:(ea,oe)∈X.pn)(hc:oe.cls=.ref C)(hd:oe.dict=some dx)(hf:∃fs,oe.data=.fields fs)(z:kitOne X.K (.ref C) (.ref M2)=some true)
  (hgI:Gl X "isinstance") (hmI:X.mg "isinstance" = none) (hg:Gl X x) (hm:X.mg x=some (.ref M2)) (hv:∀p,PE X (.Name n p) (tVar ie)) (hy:PE X (.Name y pY) (tVar iy)) (hdb:(x==("__debug__" : Str))=false:=by decide)
  (he:starEach [.Name n pN,.Name x pM] X.env=(false,eval (.Name n pN) X.env)::starEach [.Name x pM] X.env:=by rfl) (he2:starEach [.Name x pM] X.env=(false,eval (.Name x pM) X.env)::starEach [] X.env:=by rfl) (hpl:(backTo pC (starEach [.Name x pM] X.env)).any (·.1)=false:=by rfl)
  (hb:attributeBase (.Name n pE') fd X.env (eval (.Name n pE') X.env)=eval (.Name n pE') X.env:=by rfl) :
  PE X (.BoolOp .And [.Call (.Name "isinstance" pI) [.Name n pN,.Name x pM] [] pC,.Compare (.Attribute (.Name n pE') fd pA) [.Eq] [.Name y pY] pK] pB) (tArg ie iy ea dx fd):=by
 have h1:PE X (.Call (.Name "isinstance" pI) [.Name n pN,.Name x pM] [] pC) (tCB (rIsE ea M2) (tCons (tVar ie) (tCons (tC (.ref M2)) tNil))) :=
  ju (Ql hpn hc z) hgI hmI (by decide +kernel) (zN (hv _) (zN (Yw hg hm (v:=.ref M2) rfl hdb) yd he2) he) (by decide) (by decide) he hpl
 have h2:PE X (.Compare (.Attribute (.Name n pE') fd pA) [.Eq] [.Name y pY] pK) (tOp rEq (tAtE ie ea dx fd) (tVar iy)):=kB ze1 (zdp xc hpn hc hd hf (hv _) hb) hy (V3 _ (by decide) (by decide))
 refine Dv.pe_imp (Jz h1 (Va h2)) λσ H Q h=>?_
 obtain⟨e1,w,e2,e3,q⟩:=h
 refine⟨_,e1,rfl,true,rfl,?_⟩
 rw[if_pos rfl]
 refine⟨e1,_,e2,_,e3,rfl,?_⟩
 simpa using q
end
section
variable {X:Cx}{k:Nat}{f:Addr}{f0:FuncData}{ps:List Str}{sp:Sp}{x:Str}{pos p:Pos}{e:Expr}{es:List Expr}{t:TA}{st:Stmt}{rest:List Stmt}{E:XK}
theorem PA.nox {es:List Expr}{t:TA}(h:PA X.nox es t):PA X es t:=λpos pins s σ H Q I hw=>
 wpAny_mono (h pos pins s σ H Q (I.wish _) hw) (λ_ _ ⟨v,H',I',r,q⟩=>⟨v,H',I'.unwish,r,q⟩) λ_ _ z=>False.elim z
theorem PS.nox {st:Stmt}{t:TS}(h:PS X.nox st t):PS X st t:=λpins s σ H D I hw=>
 wpAny_mono (h pins s σ H D (I.wish _) hw) (λ_ _ q=>q.unwish) λ_ _ z=>False.elim z
theorem RV (F:FnOk X.prog X.w X.K X.mg X.base (CX1 X.prog X.w) k f f0 ps sp)(hr:Room k X.A)(hg:Gl X x)(hm:X.mg x=some (.ref f))(hk:keepIn X.K (.ref f)=true)(hb:Binds X.K f0 ps [])
  (ha:PA X.nox (e::es) t) (hdb:(x==("__debug__" : Str))=false:=by decide) (he:starEach (e::es) X.env=(false,eval e X.env)::starEach es X.env:=by rfl) (hpl:(backTo pos (starEach es X.env)).any (·.1)=false:=by rfl) :
  RX X (.Call (.Name x p) (e::es) [] pos) (λσ H E=>t σ H λvs H1=>sp vs H1 (λ_ _=>False) E):=by
 intro pins s σ H E Ew I h hE
 refine wpAny_Call_Name_kw (xj I hg hm ?_ hdb)
 refine PySem.W.callWith_K (h₀:=X.base) I.ok.mod.kin hk (wpAny_mono (ha pos pins s σ H _ (I.wish _) h) (λus s1 ⟨vs,H1,I1,r,q⟩=>⟨I1.kIn,?_⟩) λ_ _ z=>False.elim z) he hpl
 have I1:=I1.unwish
 have hl:(us++([]:List Value)).length=ps.length:=by rw[List.append_nil,<-r.length];exact F.len _ _ _ _ q
 refine wpAny_call (codeAny_mono (F.run X.A X.stack s1 H1 ⟨us,[]⟩ us vs _ E hr I1.env0 (by have:=hb s1 us I1.kIn hl;rw[List.append_nil] at this;exact this) r q) λr s' hq=>?_)
 cases r with
 |error e=>exact hE H1 s1 e s' I1 hq
 |ok fl=>
  cases fl with
  |ret u=>obtain⟨_,_,_,_,_,_,_,z⟩:=hq;exact z
  |next=>exact False.elim hq
  |brk=>exact False.elim hq
  |cont=>exact False.elim hq
theorem zby {r:St->Hp->XK->Prop}(h:RX X e r)(hs:swapsWith e none pos.line X.env=pure false:=by rfl):RSs X (.Expr e pos::rest) (λσ H E=>r σ H (E σ)):=by
 intro pins s σ H E Ew I hr hE
 refine wpAny_execs_cons (wpAny_Expr_any (wpAny_mono (h pins s σ H (E σ) Ew I hr λH1 s1 ex s' I1 hx=>hE σ H1 s1 ex s' I1 hx) (λ_ _ z=>z.elim) λ_ _ z=>z) I.quiet hs)
theorem zbc {c:Expr}{a b:List Stmt}{tc:TT}{ra rb:St->Hp->(St->XK)->Prop}(hc:PT X.nox c tc)(ha:RSs X a ra)(hb:RSs X b rb):RSs X (.If c a b pos::rest) (λσ H E=>tc σ H λz H1=>if z=true then ra σ H1 E else rb σ H1 E):=by
 intro pins s σ H E Ew I hr hE
 refine wpAny_execs_cons (wpAny_If (wpAny_mono (hc pins s σ H _ (I.wish _) hr) (λz s1 hz=>?_) λ_ _ z=>False.elim z))
 obtain⟨H1,I1,q⟩:=hz
 have I1:=I1.unwish
 cases z with
 |true=>exact wpAny_mono (ha pins s1 σ H1 E Ew I1 q hE) (λ_ _ z=>z.elim) λ_ _ z=>z
 |false=>exact wpAny_mono (hb pins s1 σ H1 E Ew I1 q hE) (λ_ _ z=>z.elim) λ_ _ z=>z
end
end L6
namespace Dv
open PySem PySem.Spec L2 L3 L4 L6
open PyProof.Rows hiding St
def rSp (K:KW)(C:Addr)(fd:Str)(n:Nat)(m:List En->Option D):Sp:=λvs H _ E=>
 ∃F xs d,Same F H/\xs.length=n/\Paired (λx v=>ArgE K F H x v) xs vs/\m xs=some d/\∀dx v F' H',Ext F H F' H'->H' dx=some (.xd [(fd,v)])->Rp K F' d v->E (.ref C) (some dx) H'
structure Rx (P:Program)(w:World)(K:PySem.W.Frag)(mg:Str->Option Value)(base:Heap)(x:Str)(C:Addr)(fd:Str)(k n:Nat)(m:List En->Option D):Prop where
 ex:∃f f0 ps,FnOk P w K mg base (CX1 P w) k f f0 ps (rSp ⟨K,w⟩ C fd n m)/\mg x=some (.ref f)/\keepIn K (.ref f)=true/\Binds K f0 ps []
def lB (K:KW)(B:Bs)(C:Addr)(fd:Str)(E:XK)(g:EnvD->Option D):TS:=λ_ σ H=>
 ∃F ρ d,Rep K B F σ H ρ/\g ρ=some d/\∀dx v F' H',Ext B.F0 B.H0 F' H'->H' dx=some (.xd [(fd,v)])->Rp K F' d v->E (.ref C) (some dx) H'
def DBs (X:Cx)(B:Bs)(C:Addr)(fd:Str)(E:XK)(sts:List Stmt)(g:EnvD->Option D):Prop:=PSs X sts (lB X.kw B C fd E g)
section
variable {P:Program}{w:World}{K:PySem.W.Frag}{mg:Str->Option Value}{base:Heap}{N:List Str}{qual:Str}{scope:Scope}{f:Addr}{cd:Value}{A:Around}{outer:List Env}{s0:Shared}{H0:Hp}{E:XK}
variable {X:Cx}{B:Bs}{C HE fI:Addr}{fd x:Str}{pos p cpos:Pos}{a e:Expr}{es:List Expr}{st:Stmt}{rest:List Stmt}{k n:Nat}{g:EnvD->Option D}{gs:SD}{gxs:EnvD->Option (List En)}{m:List En->Option D}{f0:FuncData}{ps:List Str}
def bSeq (gs:SD)(g:EnvD->Option D):EnvD->Option D:=λρ=>match gs ρ with
 |some (.next ρ')=>g ρ'
 |_=>none
theorem zbw (h1:DS X.nox B st gs)(h2:DBs X B C fd E rest g):DBs X B C fd E (st::rest) (bSeq gs g) :=
 yG (yM (PS.nox h1) h2) λD σ H ⟨F,ρ,d,r,hg,k⟩=>by
  unfold bSeq at hg
  split at hg
  ·rename_i ρ' q
   exact⟨F,ρ,_,r,q,λσ' F' H' r' s'=>⟨F',ρ',d,r',hg,k⟩⟩
  ·cases hg
theorem Qn (hX:X=cxOf (CX1 P w) P w K mg base N qual scope f cd A outer s0 H0 E)(xc:XC X.K C HE fI fd)(F:FnOk X.prog X.w X.K X.mg X.base CX0 k fI f0 ps (xiSp C fd))(hr:Room (k+1) X.A)(hb:Binds X.K f0 ps [])
  (hg:Gl X x) (hm:X.mg x=some (.ref C)) (ha:DE X.nox B a g) (hdb:(x==("__debug__" : Str))=false:=by decide)
  (he:starEach [a] X.env=(false,eval a X.env)::starEach [] X.env:=by rfl) (hpl:(backTo cpos (starEach [] X.env)).any (·.1)=false:=by rfl) :
  DBs X B C fd E (.Raise (some (.Call (.Name x p) [a] [] cpos)) none pos::rest) g :=
 yG (yM (Ug hX xc F hr hb hg hm (PA.nox (zN ha yd he)) hdb he hpl) (u:=λ_ _ _=>False) λ_ _ _ _ _ _ z=>z.elim) λD σ H ⟨F,ρ,d,r,hg,k⟩=>by
  refine⟨F,ρ,d,r,hg,λv F' H' e1 p1=>⟨v,rfl,λdx hdx=>?_⟩⟩
  have e2:Ext F' H' F' (upd H' dx (.xd [(fd,v)])):=Ext.new e1.fh hdx
  exact k dx v F' _ ((r.ex.trans e1).trans e2) zl p1
def bCall (m:List En->Option D)(gxs:EnvD->Option (List En)):EnvD->Option D:=λρ=>(gxs ρ).bind m
theorem j7 {K:KW}{E':XK}{σ:St}{H:Hp}{D:Ends}{Q:VK}(h:lB K B C fd E' (bCall m gxs) D σ H)(hm:∀xs o,m xs=some o->xs.length=n):lNs K B gxs σ H λvs H1=>rSp K C fd n m (vs++[]) H1 Q E':=by
 obtain⟨F,ρ,d,r,hg,k⟩:=h
 unfold bCall at hg
 cases q:gxs ρ with
 |none=>rw[q] at hg;cases hg
 |some xs=>
  rw[q] at hg
  refine⟨F,ρ,xs,r,q,λvs F1 H1 e1 p1=>?_⟩
  show rSp K C fd n m (vs++[]) H1 Q E'
  rw[List.append_nil]
  exact⟨F1,xs,d,e1.fh,hm xs d hg,p1,hg,λdx v F' H' e2 h2 h3=>k dx v F' H' ((r.ex.trans e1).trans e2) h2 h3⟩
theorem Gp (hX:X=cxOf (CX1 P w) P w K mg base N qual scope f cd A outer s0 H0 E)(h:Rx X.prog X.w X.kw X.mg X.base x C fd k n m)(hn:∀xs o,m xs=some o->xs.length=n)(hr:Room k X.A)(hg:Gl X x)(ha:DNs X.nox B (e::es) gxs)
  (hdb:(x==("__debug__" : Str))=false:=by decide +kernel) (he:starEach (e::es) X.env=(false,eval e X.env)::starEach es X.env:=by rfl) (hpl:(backTo cpos (starEach es X.env)).any (·.1)=false:=by rfl)
  (hs:swapsWith (.Call (.Name x p) (e::es) [] cpos) none pos.line X.env=pure false:=by rfl) :
  DBs X B C fd E (.Expr (.Call (.Name x p) (e::es) [] cpos) pos::rest) (bCall m gxs):=by
 obtain⟨f',f0,ps,F,hm,hk,hb⟩:=h.ex
 have F':FnOk X.prog X.w X.K X.mg X.base (CX1 P w) k f' f0 ps (rSp X.kw C fd n m):=by subst hX;exact F
 exact yG (yM (yR (y2 F' hr hg hm hk hb .nil (j9 hX) (PA.nox ha) hdb he hpl) hs) (u:=λ_ _ _=>False) λ_ _ _ _ _ _ z=>z.elim) λD σ H h=>j7 (D:=D) h hn
theorem Jc {y:Str}{yp:Pos}{i:Nat}(hX:X=cxOf (CX1 P w) P w K mg base N qual scope f cd A outer s0 H0 E)(h:Rx X.prog X.w X.kw X.mg X.base x C fd k n m)(hn:∀xs o,m xs=some o->xs.length=n)(hr:Room k X.A)(hg:Gl X x)(ha:DNs X.nox B (e::es) gxs)
  (hy:PG X (.Name y yp) (gName i))
  (hdb:(x==("__debug__" : Str))=false:=by decide +kernel) (he:starEach (e::es) X.env=(false,eval e X.env)::starEach es X.env:=by rfl) (hpl:(backTo cpos (starEach es X.env)).any (·.1)=false:=by rfl)
  (hs:swapsWithSole [.Name y yp] (.Call (.Name x p) (e::es) [] cpos) pos.line X.env=pure false:=by rfl) (hw:swappedStores [.Name y yp] (.Call (.Name x p) (e::es) [] cpos) X.env=pure none:=by rfl)
  (h1:(assignEach [.Name y yp] X.env).map (·.2)=[assign (.Name y yp) X.env]:=by rfl) :
  DBs X B C fd E (.Assign [.Name y yp] (.Call (.Name x p) (e::es) [] cpos) pos::rest) (bCall m gxs):=by
 obtain⟨f',f0,ps,F,hm,hk,hb⟩:=h.ex
 have F':FnOk X.prog X.w X.K X.mg X.base (CX1 P w) k f' f0 ps (rSp X.kw C fd n m):=by subst hX;exact F
 exact yG (yM (Zl (y2 F' hr hg hm hk hb .nil (j9 hX) (PA.nox ha) hdb he hpl) hy hs hw h1) (u:=λ_ _ _=>False) λ_ _ _ _ _ _ z=>z.elim) λD σ H h=>j7 (D:=D) h hn
def mirX (N:List Str)(n:Nat)(g:EnvD->Option D):List En->Option D:=λxs=>if xs.length=n then g (stE N (xs.map some)) else none
theorem yP {g:EnvD->Option D}:∀xs o,mirX N n g xs=some o->xs.length=n:=λxs o h=>by
 unfold mirX at h
 split at h
 ·assumption
 ·cases h
theorem wP {st:Stmt}(F:Fun K x qual st f f0)(S:FnScope N ps (zd st))
  (hb:∀(cdv:Value) (A:Around) (outer:List Env) (s:Shared) (H:Hp) (E:XK) (B:Bs),Room k (A.deeper (envOfC qual (zd st) s.heap.objs.size f cdv)) ->
   DBs (cxOf (CX1 P w) P w K mg base N qual (zd st) f cdv A outer s H E) B C fd E (zk st) g) :
  FnOk P w K mg base (CX1 P w) (k+1) f f0 ps (rSp ⟨K,w⟩ C fd ps.length (mirX N ps.length g)):=by
 obtain⟨oc,od,kV,doc,pm,an,cdv,ct,osl,rfl,lk,hcd⟩:=F.ex
 refine uX lk hcd S (λvs H Q E h=>?_) λA outer s H vs Q E hr h=>?_
 ·obtain⟨F,xs,o,_,hl,hp,_⟩:=h
  rw[<-xY hp];exact hl
 ·obtain⟨F0,xs,d,fh,hl,hp,hm,k⟩:=h
  refine⟨_,hb cdv A outer s H E ⟨F0,H⟩ hr,F0,_,d,qe (ps:=ps) fh hp,?_,k⟩
  unfold mirX at hm
  rw[if_pos hl] at hm
  exact hm
end
def lX (K:KW)(B:Bs)(C:Addr)(fd:Str)(g:EnvD->Option D):St->Hp->(St->XK)->Prop:=λσ H E=>
 ∃F ρ d,Rep K B F σ H ρ/\g ρ=some d/\∀dx v F' H',Rep K B F' σ H' ρ->Same F F'->H' dx=some (.xd [(fd,v)])->Rp K F' d v->E σ (.ref C) (some dx) H'
def DXs (X:Cx)(B:Bs)(C:Addr)(fd:Str)(sts:List Stmt)(g:EnvD->Option D):Prop:=RSs X sts (lX X.kw B C fd g)
theorem Wj {X:Cx}{sts:List Stmt}{r r':St->Hp->(St->XK)->Prop}(h:RSs X sts r)(k:∀σ H E,r' σ H E->r σ H E):RSs X sts r':=λpins s σ H E Ew I q=>h pins s σ H E Ew I (k σ H E q)
section
variable {X:Cx}{B:Bs}{C HE fI MC M2:Addr}{fd x:Str}{pos p cpos:Pos}{a e c:Expr}{es:List Expr}{rest sa sb:List Stmt}{k n:Nat}{g ga gb:EnvD->Option D}{gt:EnvD->Option Bool}{gxs:EnvD->Option (List En)}{m:List En->Option D}
theorem Zd (h:Rx X.prog X.w X.kw X.mg X.base x C fd k n m)(hn:∀xs o,m xs=some o->xs.length=n)(hr:Room k X.A)(hg:Gl X x)(ha:DNs X.nox B (e::es) gxs)
  (hdb:(x==("__debug__" : Str))=false:=by decide +kernel) (he:starEach (e::es) X.env=(false,eval e X.env)::starEach es X.env:=by rfl) (hpl:(backTo cpos (starEach es X.env)).any (·.1)=false:=by rfl)
  (hs:swapsWith (.Call (.Name x p) (e::es) [] cpos) none pos.line X.env=pure false:=by rfl) :
  DXs X B C fd (.Expr (.Call (.Name x p) (e::es) [] cpos) pos::rest) (bCall m gxs):=by
 obtain⟨f',f0,ps,F,hm,hk,hb⟩:=h.ex
 refine Wj (zby (RV F hr hg hm hk hb ha hdb he hpl) hs) λσ H E h=>?_
 obtain⟨F,ρ,d,r,hg,k⟩:=h
 unfold bCall at hg
 cases q:gxs ρ with
 |none=>rw[q] at hg;cases hg
 |some xs=>
  rw[q] at hg
  exact⟨F,ρ,xs,r,q,λvs F1 H1 e1 p1=>⟨F1,xs,d,e1.fh,hn xs d hg,p1,hg,λdx v F' H' e2 h2 h3=>k dx v F' H' (r.ext (e1.trans e2)) (e1.trans e2).ff h2 h3⟩⟩
def bIf (gt:EnvD->Option Bool)(ga gb:EnvD->Option D):EnvD->Option D:=λρ=>(gt ρ).bind λb=>if b=true then ga ρ else gb ρ
theorem Yq (hc:DT X.nox B c gt)(ha:DXs X B C fd sa ga)(hb:DXs X B C fd sb gb):DXs X B C fd (.If c sa sb pos::rest) (bIf gt ga gb) :=
 Wj (zbc hc ha hb) λσ H E ⟨F,ρ,d,r,hg,k⟩=>by
  unfold bIf at hg
  cases q:gt ρ with
  |none=>rw[q] at hg;cases hg
  |some b=>
   rw[q] at hg
   refine⟨F,ρ,b,r,q,λF1 H1 e1=>?_⟩
   have hg:(if b=true then ga ρ else gb ρ)=some d:=hg
   show if b=true then lX X.kw B C fd ga σ H1 E else lX X.kw B C fd gb σ H1 E
   cases b with
   |true=>rw[if_pos rfl] at hg ⊢;exact⟨F1,ρ,d,r.ext e1,hg,λdx v F' H' r' s'=>k dx v F' H' r' (e1.ff.trans s')⟩
   |false=>rw[if_neg (by decide)] at hg ⊢;exact⟨F1,ρ,d,r.ext e1,hg,λdx v F' H' r' s'=>k dx v F' H' r' (e1.ff.trans s')⟩
theorem zcf {K:KW}{F:Hp}{σ:St}{H:Hp}{ρ:EnvD}{i:Nat}(r:Rep K B F σ H ρ)(h:∀x,ρ[i]?≠some (some x)):Rep K B F (σ.set i none) H ρ:=by
 have ne:∀ {j:Nat} {x:En},ρ[j]?=some (some x)->j≠i:=fun {j x} e z=>by subst z;exact h x e
 refine⟨r.ex,by simp[r.len],λj x e=>?_,λj l y z v w e1 e2 s1 s2 hne=>?_⟩
 ·obtain⟨v,h1,h2⟩:=r.ents j x e
  exact⟨v,by rw[List.getElem?_set_ne (Ne.symm (ne e))];exact h1,h2⟩
 ·rw[List.getElem?_set_ne (Ne.symm (ne e1))] at s1
  rw[List.getElem?_set_ne (Ne.symm (ne e2))] at s2
  exact r.dj j l y z v w e1 e2 s1 s2 hne
variable {xM y n2 xI fx:Str}{ie iy i:Nat}{pM hpos pI pN pC pA pE' pY pK pB pF apos epos:Pos}{body:List Stmt}{nm:Str}
end
structure Exc (P:Program)(w:World)(K:PySem.W.Frag)(mg:Str->Option Value)(base:Heap)(CT HE fI:Addr)(fd xT xH:Str):Prop where
 xc:XC K CT HE fI fd
 xm:XM K CT CT
 xmH:XM K CT HE
 z:kitOne K (.ref CT) (.ref HE)=some true
 zT:kitOne K (.ref CT) (.ref CT)=some true
 mT:mg xT=some (.ref CT)
 mH:mg xH=some (.ref HE)
 ini:∃f0 ps,FnOk P w K mg base CX0 1 fI f0 ps (xiSp CT fd)/\Binds K f0 ps []
section
variable {P:Program}{w:World}{K:PySem.W.Frag}{mg:Str->Option Value}{base:Heap}{N:List Str}{qual:Str}{scope:Scope}{f:Addr}{cd:Value}{A:Around}{outer:List Env}{s0:Shared}{H0:Hp}{E:XK}
variable {B:Bs}{CT HE fI:Addr}{fd xT xH:Str}{pos p cpos:Pos}{a:Expr}{rest:List Stmt}{g:EnvD->Option D}
theorem zb1 (U:Exc P w K mg base CT HE fI fd xT xH)(hr:Room 2 (cxOf (CX1 P w) P w K mg base N qual scope f cd A outer s0 H0 E).A)(hg:Gl (cxOf (CX1 P w) P w K mg base N qual scope f cd A outer s0 H0 E) xT)
  (ha:DE (cxOf (CX1 P w) P w K mg base N qual scope f cd A outer s0 H0 E).nox B a g) (hdb:(xT==("__debug__" : Str))=false:=by decide +kernel)
  (he:starEach [a] (cxOf (CX1 P w) P w K mg base N qual scope f cd A outer s0 H0 E).env=(false,eval a (cxOf (CX1 P w) P w K mg base N qual scope f cd A outer s0 H0 E).env)::starEach [] (cxOf (CX1 P w) P w K mg base N qual scope f cd A outer s0 H0 E).env:=by rfl)
  (hpl:(backTo cpos (starEach [] (cxOf (CX1 P w) P w K mg base N qual scope f cd A outer s0 H0 E).env)).any (·.1)=false:=by rfl) :
  DBs (cxOf (CX1 P w) P w K mg base N qual scope f cd A outer s0 H0 E) B CT fd E (.Raise (some (.Call (.Name xT p) [a] [] cpos)) none pos::rest) g:=by
 obtain⟨f0,ps,F,hb⟩:=U.ini
 exact Qn rfl U.xc F hr hb hg U.mT ha hdb he hpl
theorem ze8 {K:PySem.W.Frag}{v:Value}:kitOne K v v=some true:=by unfold kitOne;rw[if_pos (beq_self_eq_true _)]
theorem Uv {K:PySem.W.Frag}{C M:Addr}(h1:PySem.W.isClsIn K M=true)(h2:PySem.W.typeIn K (.ref M)=some (.type "type")) (h3:subIn K (.ref C) (.ref M)=some true):kitOne K (.ref C) (.ref M)=some true:=by
 unfold kitOne
 split
 ·rfl
 ·show (if ((clsIn K M).isSome&&PySem.W.typeIn K (.ref M)==some (.type "type"))=true then subIn K (.ref C) (.ref M) else none)=some true
  have h1:(clsIn K M).isSome=true:=h1
  rw[h1,h2,if_pos (by decide)]
  exact h3
theorem zb4 {C e t:Addr}{fd:Str}{v:V}{H:Hp}{Q:VK}(q:∀t' dx,H dx=none->dx≠e->Q .non (upd (upd H e (ExO e C t' (some dx))) dx (.xd [(fd,v)])))(t' dx:Addr)(h1:upd H e (ExO e C t' none) dx=none)(h2:dx≠e) :
  Q .non (upd (upd (upd H e (ExO e C t' none)) e (ExO e C t' (some dx))) dx (.xd [(fd,v)])):=by
 rw[kI]
 rw[zg h2] at h1
 exact q t' dx h1 h2
end
section
variable {X:Cx}{B:Bs}{C HE fI MC M2:Addr}{fd x:Str}{pos p cpos:Pos}{gb:EnvD->Option D}
def sTryS (i iy ie:Nat)(gb:EnvD->Option D):SD:=λρ=>match gb ρ with
 |some (.str x)=>match gv iy ρ with
  |some (.str y)=>match ρ[ie]? with
   |some none=>if x=y/\ie≠i/\ie≠iy then some (.next (ρ.set i (some (.val (.bl true))))) else none
   |_=>none
  |_=>none
 |_=>none
variable {xM y n2 xI fx:Str}{ie iy i:Nat}{pM hpos pI pN pC pA pE' pY pK pB pF apos epos:Pos}{body:List Stmt}{nm:Str}
theorem Qy (hb:DXs X B C fd body gb)(hgM:Gl X xM)(hmM:X.mg xM=some (.ref MC))(xm:XM X.K C MC)(xc:XC X.K C HE fI fd)(z:kitOne X.K (.ref C) (.ref M2)=some true)
  (hN:X.N.Nodup) (hie:X.N[ie]?=some nm) (hl:X.env.scope.names.lookup nm=some .local) (hstk:X.stack=X.env::X.outer/\X.env.frame=some X.env.locals)
  (hgI:Gl X "isinstance") (hmI:X.mg "isinstance" = none) (hg2:Gl X xI) (hm2:X.mg xI=some (.ref M2)) (hi:X.N[i]?=some fx) (hiL:Loc X.env.scope fx) (hif:X.fn fx=true∨X.env.scope.names.lookup fx=some .local) (hiy:X.N[iy]?=some y) (hiyV:Vis X.env.scope y)
  (d1:(xM==("__debug__" : Str))=false:=by decide +kernel) (d2:(xI==("__debug__" : Str))=false:=by decide +kernel) (d3:(nm==("__debug__" : Str))=false:=by decide +kernel) (d4:(nm==("__classdict__" : Str))=false:=by decide +kernel)
  (d5:(y==("__debug__" : Str))=false:=by decide +kernel) (d6:(y==("__classdict__" : Str))=false:=by decide +kernel)
  (he:starEach [.Name nm pN,.Name xI pM] X.env=(false,eval (.Name nm pN) X.env)::starEach [.Name xI pM] X.env:=by rfl) (he2:starEach [.Name xI pM] X.env=(false,eval (.Name xI pM) X.env)::starEach [] X.env:=by rfl) (hpl:(backTo pC (starEach [.Name xI pM] X.env)).any (·.1)=false:=by rfl)
  (hba:attributeBase (.Name nm pE') fd X.env (eval (.Name nm pE') X.env)=eval (.Name nm pE') X.env:=by rfl)
  (hs:swapsWithSole [.Name fx pF] (.BoolOp .And [.Call (.Name "isinstance" pI) [.Name nm pN,.Name xI pM] [] pC,.Compare (.Attribute (.Name nm pE') fd pA) [.Eq] [.Name y pY] pK] pB) epos.line X.env=pure false:=by rfl)
  (hw:swappedStores [.Name fx pF] (.BoolOp .And [.Call (.Name "isinstance" pI) [.Name nm pN,.Name xI pM] [] pC,.Compare (.Attribute (.Name nm pE') fd pA) [.Eq] [.Name y pY] pK] pB) X.env=pure none:=by rfl)
  (h1:(assignEach [.Name fx pF] X.env).map (·.2)=[assign (.Name fx pF) X.env]:=by rfl) :
  DS X B (.Try body [.ExceptHandler (some (.Name xM p)) (some nm) [.Assign [.Name fx pF] (.BoolOp .And [.Call (.Name "isinstance" pI) [.Name nm pN,.Name xI pM] [] pC,.Compare (.Attribute (.Name nm pE') fd pA) [.Eq] [.Name y pY] pK] pB) epos] hpos] [] [] pos)
   (sTryS i iy ie gb):=by
 refine zH (zbn (ts:=λea dx=>tAsg (tArg ie iy ea dx fd) (gName i)) hb hgM hmM xm hN hie hl hstk (λea oe dx hc hd hf=>vx ?_) d1) λD σ H h=>?_
 ·exact Zl (X:=cxE X ea [(ea,oe)]) (Q9 (X:=cxE X ea [(ea,oe)]) xc (List.mem_append_left _ (.head _)) hc hd hf z hgI hmI hg2 hm2 (λ_=>kl hie (.inl hl) d3 d4) (kl hiy hiyV d5 d6) d2 he he2 hpl hba) (zi hN hi hiL hif) hs hw h1
 ·obtain⟨F,ρ,fl,r,hg,k⟩:=h
  unfold sTryS at hg
  split at hg
  ·rename_i x0 q1
   split at hg
   ·rename_i y0 q2
    split at hg
    ·rename_i q3
     split at hg
     ·rename_i hh
      obtain⟨rfl,n1,n2⟩:=hh
      cases hg
      refine⟨F,ρ,_,r,q1,λdx v F' H' r' s' hdx hv=>⟨rfl,dx,rfl,λea hea=>?_⟩⟩
      have hv:v=.str x0:=hv
      subst hv
      have len:ie < σ.length:=by rw[r.len];exact (List.getElem?_eq_some_iff.mp q3).1
      have q2':ρ[iy]?=some (some (.val (.str x0))):=by
       unfold gv at q2
       split at q2
       ·rename_i z;cases q2;exact z
       ·cases q2
      obtain⟨v2,hv2,e2⟩:=r'.ents iy _ q2'
      have e2:v2=.str x0:=e2
      subst e2
      have nx:∀x,(ρ.set i (some (.val (.bl true))))[ie]?≠some (some x):=λx z=>by
       rw[List.getElem?_set_ne (Ne.symm n1),q3] at z
       cases z
      refine⟨List.getElem?_set_self len,x0,hdx,by rw[List.getElem?_set_ne n2];exact hv2,?_⟩
      show D.nx _ _
      rw[List.set_comm _ _ n1,List.set_set]
      exact k _ F' _ (zcf (r'.setv (i:=i) (d:=.bl true) (v:=.bl true) rfl) nx) s'
     ·cases hg
    ·cases hg
   ·cases hg
  ·cases hg
end
section
variable {P:Program}{w:World}{K:PySem.W.Frag}{mg:Str->Option Value}{base:Heap}{N:List Str}{qual:Str}{scope:Scope}{f:Addr}{cd:Value}{A:Around}{outer:List Env}{s0:Shared}{H0:Hp}{E:XK}
variable {X:Cx}{B:Bs}{C:Addr}{fd x:Str}{pos p cpos lpos:Pos}{e elt tg:Expr}{es ifs:List Expr}{rest:List Stmt}{k n i:Nat}{gxs:EnvD->Option (List En)}{m:List En->Option D}{own:List Str}{cap:List (Str×Nat)}{scp:Scope}
theorem zcm {iter:Expr}{t:TE}(S:CompScope X scp own cap)(hi:PE X iter t)(hs:∀x,foldedSetIterable iter X.env x=pure x:=by intro _;rfl) :
  PE X (.ListComp elt [⟨tg,iter,ifs,0⟩] scp pos) λσ H _=>t σ H λ_ _=>False:=by
 intro pins s σ H Q I h
 rw[eval_ListComp]
 have hfr:∀y∈scp.names,y.2=.free->∃c,X.env.cells.lookup y.1=some c:=λy hy hk=>I.ok.has y.1 (S.frees y hy hk)
 refine wpAny_comprehension_free (use:=none) rfl hs (kQ hfr) S.kind S.names (thn (hi pins s σ H _ I h) λxv s₁ h₁=>?_)
 obtain⟨_,_,_,_,z⟩:=h₁
 exact z.elim
theorem zdi (hX:X=cxOf (CX1 P w) P w K mg base N qual scope f cd A outer s0 H0 E)(h:Rx X.prog X.w X.kw X.mg X.base x C fd k n m)(hn:∀xs o,m xs=some o->xs.length=n)(hr:Room k X.A)(hg:Gl X x)(ha:DNs X.nox B (e::es) gxs)
  (S:CompScope X scp own cap)
  (hdb:(x==("__debug__" : Str))=false:=by decide +kernel) (he:starEach (e::es) X.env=(false,eval e X.env)::starEach es X.env:=by rfl) (hpl:(backTo cpos (starEach es X.env)).any (·.1)=false:=by rfl)
  (hs:∀y,foldedSetIterable (.Call (.Name x p) (e::es) [] cpos) X.env y=pure y:=by intro _;rfl) :
  DBs X B C fd E (.Return (some (.ListComp elt [⟨tg,.Call (.Name x p) (e::es) [] cpos,ifs,0⟩] scp lpos)) pos::rest) (bCall m gxs):=by
 obtain⟨f',f0,ps,F,hm,hk,hb⟩:=h.ex
 have F':FnOk X.prog X.w X.K X.mg X.base (CX1 P w) k f' f0 ps (rSp X.kw C fd n m):=by subst hX;exact F
 exact yG (yM (yH (zcm S (y2 F' hr hg hm hk hb .nil (j9 hX) (PA.nox ha) hdb he hpl) hs)) (u:=λ_ _ _=>False) λ_ _ _ _ _ _ z=>z.elim) λD σ H h=>j7 (D:=D) h hn
def bHas (i:Nat)(g:EnvD->Option D):EnvD->Option D:=λρ=>match ρ[i]? with
 |some (some _)=>g ρ
 |_=>none
theorem Q5 {y:Str}{yp:Pos}(hX:X=cxOf (CX1 P w) P w K mg base N qual scope f cd A outer s0 H0 E)(h:Rx X.prog X.w X.kw X.mg X.base x C fd k n m)(hn:∀xs o,m xs=some o->xs.length=n)(hr:Room k X.A)(hg:Gl X x)(ha:DNs X.nox B (e::es) gxs)
  (hy:PE X (.Name y yp) (tVar i))
  (hdb:(x==("__debug__" : Str))=false:=by decide +kernel) (he:starEach (e::es) X.env=(false,eval e X.env)::starEach es X.env:=by rfl) (hpl:(backTo cpos (starEach es X.env)).any (·.1)=false:=by rfl)
  (hbm:behindInMarks .Eq (.Call (.Name x p) (e::es) [] cpos)=false:=by rfl) :
  DBs X B C fd E (.Return (some (.Compare (.Name y yp) [.Eq] [.Call (.Name x p) (e::es) [] cpos] lpos)) pos::rest) (bHas i (bCall m gxs)):=by
 obtain⟨f',f0,ps,F,hm,hk,hb⟩:=h.ex
 have F':FnOk X.prog X.w X.K X.mg X.base (CX1 P w) k f' f0 ps (rSp X.kw C fd n m):=by subst hX;exact F
 have ho:OpR X (compareOp .Eq) (λ_ _ _ _=>False):=λ_ _ _ _ _ _ _ _ _ _ _ _ z=>z.elim
 refine yG (yM (yH (kB ho hy (y2 F' hr hg hm hk hb .nil (j9 hX) (PA.nox ha) hdb he hpl) hbm)) (u:=λ_ _ _=>False) λ_ _ _ _ _ _ z=>z.elim) λD σ H h=>?_
 obtain⟨F1,ρ,d,r,hg,k⟩:=h
 unfold bHas at hg
 split at hg
 ·rename_i z q
  obtain⟨v,hv,_⟩:=r.ents i _ q
  exact⟨v,hv,j7 (D:=D) ⟨F1,ρ,d,r,hg,k⟩ hn⟩
 ·cases hg
end
end Dv
namespace Dv
open PySem PySem.Spec L2 L3 L4
open PyProof.Rows hiding St
section
variable {X:Cx}{B:Bs}{e o:Expr}{apos cpos:Pos}{go:EnvD->Option D}{gs:EnvD->Option (List D)}
def rIndex (K:KW):V->List V->Hp->VK->Prop:=λx vs H Q=>∃(a:Addr) (ys:List Str) (y:Str),x=.ref a/\vs=[.str y]/\y∈ys/\SqL K H a (ys.map V.str)/\Q (.int (ys.idxOf y)) H
def sameT (y:Str):Value->Bool
 |.str c _=>c==y
 |_=>false
theorem YH:∀ {ys:List Str} {us:List Value},Vals (ys.map V.str) us->us.length=ys.length/\∀j (h1:j < us.length) (h2:j < ys.length),∃k,us[j]=.str ys[j] k
 | [],_,.nil=>⟨rfl,λj h1 _=>absurd h1 (Nat.not_lt_zero _)⟩
 |z::ys,_,.cons r t=>by
  obtain⟨k,rfl⟩:=r
  obtain⟨l,h⟩:=YH t
  refine⟨by simp[l],λj h1 h2=>?_⟩
  cases j with
  |zero=>exact⟨k,rfl⟩
  |succ j=>exact h j (by simpa using h1) (by simpa using h2)
theorem Q0 {ys:List Str}{y:Str}(h:y∈ys):ys.idxOf y < ys.length:=List.idxOf_lt_length_of_mem h
theorem zdh:MtR X "list.index" (rIndex X.kw):=by
 intro pins s σ H x vs v us Q I rx rv h
 obtain⟨a,ys,y,rfl,rfl,hin,hq,q⟩:=h
 cases rx
 obtain⟨u,rfl,ru⟩:=rv.one
 obtain⟨t,rfl⟩:=ru
 obtain⟨its,r,pl,hzz⟩:=I.list hq
 obtain⟨ob,n,e,oc,od,odt⟩:=pl
 obtain⟨cls,dict,data,slots⟩:=ob
 cases oc;cases od;cases odt
 obtain⟨hl,hat⟩:=YH r
 have hj:=Q0 hin
 have hz2:ys.length<=sizeLine:=by simpa using hzz
 rw[sizeLine_eq] at hz2
 have hj':ys.idxOf y < its.toArray.size:=by rw[List.size_toArray,hl];exact hj
 refine call_meets PySem.F.slot_list_index ⟨_,e,rfl⟩ PySem.F.entry_list_index (PySem.F.args_list_index_2 _ _)
  (PySem.SeqAt.list_indexAt a its.toArray n none slots (.str y t) (sameT y) (ys.idxOf y) hj' (by omega) ?_ λm hm hlt=>?_) ⟨e,λw hw=>?_,⟨.int _,H,I.tok _,⟨_,rfl⟩,q⟩⟩
 ·obtain⟨k,hk⟩:=hat (ys.idxOf y) (by rw[hl];exact hj) hj
  show sameT y its[ys.idxOf y]=true
  rw[hk]
  show (ys[ys.idxOf y]==y)=true
  rw[List.getElem_idxOf hj]
  simp
 ·have hm':m < its.length:=by simpa using hm
  obtain⟨k,hk⟩:=hat m hm' (by rw[<-hl];exact hm')
  show sameT y its[m]=false
  rw[hk]
  show (ys[m]==y)=false
  have:=List.not_of_lt_findIdx (p:=(·==y)) (xs:=ys) (i:=m) hlt
  simpa using this
 ·have hw':w∈its:=by simpa using hw
  obtain⟨j,h1,rfl⟩:=List.getElem_of_mem hw'
  obtain⟨k,hk⟩:=hat j h1 (by rw[<-hl];exact h1)
  rw[hk]
  exact (eqGives_str _ y k t).at _ _
def fIndex:D->List D->Option D
 |.lst ds,[.str y]=>(asSs ds).bind λys=>if y∈ys then some (.int (ys.idxOf y)) else none
 |_,_=>none
theorem GQ (ho:DR X B o go)(ha:DRs X B [e] gs)
  (hbase:attributeBase o "index" X.env (eval o X.env)=eval o X.env:=by rfl)
  (hfew:((backTo cpos (starEach [e] X.env)).all (λx=>!x.1)&&(backToKw cpos (keywordEach [] X.env)).all (λx=>x.1.isSome)
   && decide (([e]:List Expr).length+([]:List Keyword).length+(if ([]:List Keyword).isEmpty then 0 else 1) < 30))=true:=by rfl)
  (hline:(apos.endLine==cpos.line)=true:=by rfl) (hs:starEach [e] X.env=(false,eval e X.env)::starEach [] X.env:=by rfl) (hplain:(backTo cpos (starEach [] X.env)).any (·.1)=false:=by rfl) :
  DE X B (.Call (.Attribute o "index" apos) [e] [] cpos) (gSM fIndex go gs) :=
 pe_imp (qH PySem.F.plainAttrs_list PySem.F.slot_list_index PySem.F.type_list_index zdh ho ha hbase hfew hline hs hplain) λσ H Q ⟨F,ρ,d,r,hg,k⟩=>by
  obtain⟨d1,ds,q1,q2,q3⟩:=bind2 hg
  unfold fIndex at q3
  split at q3
  ·rename_i xs y
   cases q4:asSs xs with
   |none=>rw[q4] at q3;cases q3
   |some ys=>
    rw[q4,Option.bind_some] at q3
    split at q3
    ·rename_i hin
     cases q3
     refine⟨F,ρ,_,r,q1,λv F1 H1 e1 p1=>?_⟩
     obtain⟨a,us,rfl,h1,h2⟩:=p1.lst e1.fh
     have:=VR q4 h2
     subst this
     refine⟨.inl ⟨rfl,_,.of h1⟩,F1,ρ,_,r.ext e1,q2,λvs F2 H2 e2 p2=>?_⟩
     obtain⟨w,rfl,rw'⟩:=pair1 p2
     cases rw'.str
     exact⟨a,ys,y,rfl,rfl,hin,.of (e2.hh _ _ h1),k _ F2 H2 (e1.trans e2) rfl⟩
    ·cases q3
  ·cases q3
end
@[simp]theorem zj5 {ds:List D}{y:Str}:fIndex (.lst ds) [.str y]=(asSs ds).bind λys=>if y∈ys then some (.int (ys.idxOf y)) else none:=rfl
end Dv
namespace QM
variable {α:Type} [DecidableEq α]
abbrev Tk (α:Type):=α×Int
def PosQ (q:List (Tk α)):Prop:=∀t∈q,1<=t.2
def srv (m:Nat)(q:List (Tk α)):List α:=(q.take m).map (·.1)
def beh (m:Nat)(q:List (Tk α)):List (Tk α):=((q.take m).filter λt=>decide (1 < t.2)).map (λt=>(t.1,t.2 - 1))++q.drop m
theorem jV {m:Nat}{q:List (Tk α)}(h:PosQ q):PosQ (beh m q):=by
 intro t ht
 unfold beh at ht
 rcases List.mem_append.mp ht with ht | ht
 ·obtain⟨u,hu,rfl⟩:=List.mem_map.mp ht
  have:=(List.mem_filter.mp hu).2
  simp at this
  show 1<=u.2 - 1
  omega
 ·exact h t (List.mem_of_mem_drop ht)
theorem KC {m:Nat}{q:List (Tk α)}:(beh m q).length<=q.length:=by
 unfold beh
 rw[List.length_append,List.length_map,List.length_drop]
 have:=List.length_filter_le (λt:Tk α=>decide (1 < t.2)) (q.take m)
 rw[List.length_take] at this
 omega
theorem R5 {m:Nat}{q:List (Tk α)}(P:α->Prop)(h:∀t∈q,P t.1):∀t∈beh m q,P t.1:=by
 intro t ht
 unfold beh at ht
 rcases List.mem_append.mp ht with ht | ht
 ·obtain⟨u,hu,rfl⟩:=List.mem_map.mp ht
  exact h u (List.mem_of_mem_take (List.mem_filter.mp hu).1)
 ·exact h t (List.mem_of_mem_drop ht)
def sumQ:List (Tk α)->Nat
 | []=>0
 |t::ts=>t.2.toNat+sumQ ts
theorem Y4 (p q:List (Tk α)):sumQ (p++q)=sumQ p+sumQ q:=by
 induction p with
 |nil=>simp[sumQ]
 |cons t ts ih=>simp only[List.cons_append,sumQ,ih];omega
theorem W8:∀(p:List (Tk α)),PosQ p->sumQ ((p.filter λt=>decide (1 < t.2)).map λt=>(t.1,t.2 - 1))+p.length=sumQ p
 | [],_=>rfl
 |t::ts,h=>by
  have ih:=W8 ts λu hu=>h u (by simp[hu])
  have h1:1<=t.2:=h t (by simp)
  rw[List.filter_cons]
  by_cases h2:1 < t.2
  ·rw[if_pos (by simpa using h2)]
   simp only[List.map_cons,sumQ,List.length_cons]
   omega
  ·rw[if_neg (by simpa using h2)]
   simp only[sumQ,List.length_cons]
   omega
theorem za1 {m:Nat}{q:List (Tk α)}(h:PosQ q):sumQ (beh m q)+min m q.length=sumQ q:=by
 have e:sumQ q=sumQ (q.take m)+sumQ (q.drop m):=by rw[<-Y4,List.take_append_drop]
 have h1:=W8 (q.take m) λt ht=>h t (List.mem_of_mem_take ht)
 rw[List.length_take] at h1
 unfold beh
 rw[Y4]
 omega
theorem QD {n:Nat}{b:Int}(q:List (Tk α))(hl:q.length<=n)(h:∀t∈q,t.2<=b):sumQ q<=n * b.toNat:=by
 have:∀q:List (Tk α),(∀t∈q,t.2<=b)->sumQ q<=q.length * b.toNat:=by
  intro q
  induction q with
  |nil=>intro _;simp[sumQ]
  |cons t ts ih=>
   intro hh
   have h1:=hh t (by simp)
   have h2:=ih λu hu=>hh u (by simp[hu])
   simp only[sumQ,List.length_cons,Nat.succ_mul]
   omega
 exact Nat.le_trans (this q h) (Nat.mul_le_mul_right _ hl)
def walk (f:Int->Int):Int->List (Tk α)->List (Int×List α)->Option (List (Tk α))
 |_,q,[]=>some q
 |due,q,r::rs=>if q=[]∨r.1≠due∨r.2≠srv (f due).toNat q then none else walk f (due+1) (beh (f due).toNat q) rs
end QM
namespace Dv
open PySem PySem.Spec L2 L3 L4 QM
open PyProof.Rows hiding St
def tkD (t:Str×Int):D:=.tup [.str t.1,.int t.2]
def rnD (r:Int×List Str):D:=.tup [.int r.1,.lst (r.2.map D.str)]
abbrev Ok (x:Str):Prop:=PyData.strOk x=true
theorem yk {α:Type}{f:α->D}:∀(l:List α),toPs (l.map f)=l.map λx=>toP (f x)
 | []=>rfl
 |x::l=>by simp[toPs,yk l]
theorem wU {α:Type} [DecidableEq α]{f:α->PyData}(hf:∀x y,PyData.eqv (f x) (f y)=decide (x=y)):∀(xs ys:List α),PyData.eqvAll (xs.map f) (ys.map f)=decide (xs=ys)
 | [],[]=>rfl
 | [],_::_=>rfl
 |_::_,[]=>rfl
 |x::xs,y::ys=>by
  show (PyData.eqv (f x) (f y)&&PyData.eqvAll (xs.map f) (ys.map f))=_
  rw[hf,wU hf xs ys]
  by_cases h1:x=y<;>by_cases h2:xs=ys<;>simp[h1,h2]
theorem qG (x y:Str):PyData.eqv (.str x) (.str y)=decide (x=y):=by
 show (x==y)=_
 by_cases h:x=y
 ·subst h;simp
 ·simp[h]
theorem wf (x y:Int):PyData.eqv (.int x) (.int y)=decide (x=y):=by
 show (x==y)=_
 by_cases h:x=y
 ·subst h;simp
 ·simp[h]
theorem zen (xs ys:List Str):PyData.eqv (toP (.lst (xs.map D.str))) (toP (.lst (ys.map D.str)))=decide (xs=ys):=by
 show PyData.eqvAll (toPs (xs.map D.str)) (toPs (ys.map D.str))=_
 rw[yk,yk]
 exact wU (f:=PyData.str) qG xs ys
theorem zet (x y:Str×Int):PyData.eqv (toP (tkD x)) (toP (tkD y))=decide (x=y):=by
 show (PyData.eqv (.str x.1) (.str y.1)&&(PyData.eqv (.int x.2) (.int y.2)&&true))=_
 rw[qG,wf]
 obtain⟨a,b⟩:=x
 obtain⟨c,d⟩:=y
 by_cases h1:a=c<;>by_cases h2:b=d<;>simp[h1,h2]
theorem Gj (xs ys:List (Str×Int)):PyData.eqv (toP (.lst (xs.map tkD))) (toP (.lst (ys.map tkD)))=decide (xs=ys):=by
 show PyData.eqvAll (toPs (xs.map tkD)) (toPs (ys.map tkD))=_
 rw[yk,yk]
 exact wU (f:=λx=>toP (tkD x)) zet xs ys
theorem zay (x y:Int×List Str):PyData.eqv (toP (rnD x)) (toP (rnD y))=decide (x=y):=by
 show (PyData.eqv (.int x.1) (.int y.1)&&(PyData.eqv (toP (.lst (x.2.map D.str))) (toP (.lst (y.2.map D.str)))&&true))=_
 rw[zen,wf]
 obtain⟨a,b⟩:=x
 obtain⟨c,d⟩:=y
 by_cases h1:a=c<;>by_cases h2:b=d<;>simp[h1,h2]
theorem zak (xs ys:List (Int×List Str)):PyData.eqv (toP (.lst (xs.map rnD))) (toP (.lst (ys.map rnD)))=decide (xs=ys):=by
 show PyData.eqvAll (toPs (xs.map rnD)) (toPs (ys.map rnD))=_
 rw[yk,yk]
 exact wU (f:=λx=>toP (rnD x)) zay xs ys
theorem VP {α:Type}{f:α->PyData}:∀(xs:List α),(∀x∈xs,PyData.canLay0 (f x)=true)->PyData.canLayAll0 (xs.map f)=true
 | [],_=>rfl
 |x::xs,h=>by
  show (PyData.canLay0 (f x)&&PyData.canLayAll0 (xs.map f))=true
  rw[h x (by simp),VP xs λy hy=>h y (by simp[hy])];rfl
theorem Jm {α:Type}{f:α->PyData}{n:Nat}:∀(xs:List α),(∀x∈xs,PyData.depth (f x)<=n)->PyData.depthAll (xs.map f)<=n
 | [],_=>Nat.zero_le _
 |x::xs,h=>by
  have h1:=h x (by simp)
  have h2:=Jm xs λy hy=>h y (by simp[hy])
  show max (PyData.depth (f x)) (PyData.depthAll (xs.map f))<=n
  omega
def Lay (n:Nat)(d:D):Prop:=(toP d).canLay0=true/\(toP d).depth<=n
theorem Lay.ok {n:Nat}{d:D}(h:Lay n d)(hn:n<=64):eqOk d=true:=by
 unfold eqOk SeqAt.shaped
 rw[h.1]
 simpa using Nat.le_trans h.2 hn
theorem ud {i:Int}:Lay 0 (.int i):=⟨rfl,Nat.le_refl _⟩
theorem qX {x:Str}(h:Ok x):Lay 0 (.str x):=⟨h,Nat.le_refl _⟩
theorem xW {α:Type}{f:α->D}{n:Nat}{xs:List α}(h:∀x∈xs,Lay n (f x)):Lay (n+1) (.lst (xs.map f)):=by
 refine⟨?_,?_⟩
 ·show PyData.canLayAll0 (toPs (xs.map f))=true
  rw[yk];exact VP xs λx hx=>(h x hx).1
 ·show PyData.depthAll (toPs (xs.map f))+1<=n+1
  rw[yk]
  exact Nat.succ_le_succ (Jm xs λx hx=>(h x hx).2)
theorem Gs {t:Str×Int}(h:Ok t.1):Lay 1 (tkD t):=by
 refine⟨?_,?_⟩
 ·show (PyData.canLay0 (.str t.1)&&(PyData.canLay0 (.int t.2)&&true))=true
  rw[show PyData.canLay0 (.str t.1)=true from h];rfl
 ·show max 0 (max 0 0)+1<=1;omega
theorem zbf {xs:List Str}(h:∀x∈xs,Ok x):Lay 1 (.lst (xs.map D.str)):=xW λx hx=>qX (h x hx)
theorem Wb {q:List (Str×Int)}(h:∀t∈q,Ok t.1):Lay 2 (.lst (q.map tkD)):=xW λt ht=>Gs (h t ht)
theorem zc5 {r:Int×List Str}(h:∀x∈r.2,Ok x):Lay 2 (rnD r):=by
 obtain⟨h1,h2⟩:=zbf h
 refine⟨?_,?_⟩
 ·show (PyData.canLay0 (.int r.1)&&((toP (.lst (r.2.map D.str))).canLay0&&true))=true
  rw[h1];rfl
 ·show max 0 (max ((toP (.lst (r.2.map D.str))).depth) 0)+1<=2;omega
theorem Y1 {rs:List (Int×List Str)}(h:∀r∈rs,∀x∈r.2,Ok x):Lay 3 (.lst (rs.map rnD)):=xW λr hr=>zc5 (h r hr)
theorem wF {neg:Bool}{x y:D}{n m:Nat}{b:Bool}(hx:Lay n x)(hy:Lay m y)(hn:n<=64)(hm:m<=64)(e:PyData.eqv (toP x) (toP y)=b):fEq neg x y=some (.bl (if neg then !b else b)):=by
 unfold fEq eqD
 rw[hx.ok hn,hy.ok hm,e];rfl
theorem Ks {neg:Bool}{xs ys:List (Str×Int)}(hx:∀x∈xs,Ok x.1)(hy:∀x∈ys,Ok x.1):fEq neg (.lst (xs.map tkD)) (.lst (ys.map tkD))=some (.bl (if neg then !decide (xs=ys) else decide (xs=ys))) :=
 wF (Wb hx) (Wb hy) (by decide) (by decide) (Gj xs ys)
theorem Ym {neg:Bool}{xs ys:List (Int×List Str)}(hx:∀r∈xs,∀x∈r.2,Ok x)(hy:∀r∈ys,∀x∈r.2,Ok x):fEq neg (.lst (xs.map rnD)) (.lst (ys.map rnD))=some (.bl (if neg then !decide (xs=ys) else decide (xs=ys))) :=
 wF (Y1 hx) (Y1 hy) (by decide) (by decide) (zak xs ys)
end Dv
namespace QM
variable {α:Type} [DecidableEq α]
inductive Run (f:Int->Int):Int->List (Tk α)->List (Int×List α)->Prop
 |nil (x:Int):Run f x [] []
 |cons {x:Int} {q:List (Tk α)} {rs:List (Int×List α)}:q≠[]->Run f (x+1) (beh (f x).toNat q) rs->Run f x q ((x,srv (f x).toNat q)::rs)
variable {f:Int->Int}{x:Int}{q q':List (Tk α)}{rows rows' tl:List (Int×List α)}{v:α}
def nms (q:List (Tk α)):List α:=q.map (·.1)
theorem ZQ:∀ {a tl:List (Int×List α)} {x:Int} {q:List (Tk α)},Run f x q (a++tl)->∃q',walk f x q a=some q'/\Run f (x+a.length) q' tl
 | [],tl,x,q,h=>⟨q,rfl,by simpa using h⟩
 |r::a,tl,x,q,h=>by
  rw[List.cons_append] at h
  cases h with
  |cons hq hr=>
   obtain⟨q',e1,e2⟩:=ZQ hr
   refine⟨q',?_,?_⟩
   ·simp only[walk]
    rw[if_neg (by simp[hq])]
    exact e1
   ·have:x+1+(a.length:Int)=x+((((x,srv (f x).toNat q)::a).length:Nat):Int):=by simp;omega
    rw[<-this];exact e2
theorem vR:∀ {rows:List (Int×List α)} {x:Int} {q:List (Tk α)},Run f x q rows->∀r∈rows,x<=r.1/\r.1 < x+rows.length
 |_,x,_,.nil _,r,hr=>by cases hr
 |_,x,_,.cons (rs:=rs) hq h,r,hr=>by
  rcases List.mem_cons.mp hr with rfl | hr
  ·simp;omega
  ·have:=vR h r hr
   simp;omega
theorem beh_sub {m:Nat}{q:List (Tk α)}:List.Sublist (nms (beh m q)) (nms q):=by
 unfold nms beh
 rw[List.map_append,List.map_map]
 have e:q.map (·.1)=(q.take m).map (·.1)++(q.drop m).map (·.1):=by rw[<-List.map_append,List.take_append_drop]
 rw[e]
 refine List.Sublist.append ?_ (List.Sublist.refl _)
 exact (List.filter_sublist (l:=q.take m) (p:=λt=>decide (1 < t.2))).map (·.1)
theorem ZR {m:Nat}{q:List (Tk α)}(h:v∈srv m q):v∈nms q:=by
 obtain⟨t,ht,rfl⟩:=List.mem_map.mp h
 exact List.mem_map.mpr ⟨t,List.mem_of_mem_take ht,rfl⟩
theorem jq:∀ {rows:List (Int×List α)} {x:Int} {q:List (Tk α)},Run f x q rows->v∉nms q->∀r∈rows,v∉r.2
 |_,_,_,.nil _,_,r,hr=>by cases hr
 |_,_,_,.cons hq h,hv,r,hr=>by
  rcases List.mem_cons.mp hr with rfl | hr
  ·exact λz=>hv (ZR z)
  ·exact jq h (λz=>hv (beh_sub.subset z)) r hr
theorem leave {m:Nat}{q:List (Tk α)}(hv:v∈nms q)(hn:v∉nms (beh m q)):v∈srv m q:=by
 obtain⟨t,ht,rfl⟩:=List.mem_map.mp hv
 rw[<-List.take_append_drop m q] at ht
 rcases List.mem_append.mp ht with ht | ht
 ·exact List.mem_map.mpr ⟨t,ht,rfl⟩
 ·exfalso
  apply hn
  unfold nms beh
  rw[List.map_append]
  exact List.mem_append.mpr (.inr (List.mem_map.mpr ⟨t,ht,rfl⟩))
theorem Wq:∀ {rows:List (Int×List α)} {x:Int} {q:List (Tk α)},Run f x q rows->v∈nms q->∃r∈rows,v∈r.2
 |_,_,_,.nil _,hv=>by cases hv
 |_,_,_,.cons (x:=x) (q:=q) hq h,hv=>by
  by_cases hn:v∈nms (beh (f x).toNat q)
  ·obtain⟨r,h1,h2⟩:=Wq h hn
   exact⟨r,List.mem_cons_of_mem _ h1,h2⟩
  ·exact⟨_,List.mem_cons_self,leave hv hn⟩
def rowsTo (L:Int)(rows:List (Int×List α)):List (Int×List α):=rows.filter λr=>decide (r.1<=L)
end QM
namespace Dv
open PySem PySem.Spec L2 L3 L4 QM
open PyProof.Rows hiding St
def mk (l:List Nat):Str:=⟨l.toArray⟩
theorem Vg (a b:List Nat):mk a++mk b=mk (a++b):=by
 show (⟨a.toArray++b.toArray⟩:Str)=⟨(a++b).toArray⟩
 simp
theorem xO (l:List Nat):(mk l).length=l.length:=by simp[mk,Str.length]
theorem kC {l:List Nat}{a:Int}(h:l.length<=TOP)(h1:0<=a)(h2:a < l.length):fItem (.str (mk l)) (.int a)=some (.str (mk [l.getD a.toNat 0])):=by
 rw[Ye,if_pos (by rw[xO];exact h)]
 obtain⟨v,e1,e2⟩:=jt (xs:=l) h1 h2
 have e3:l.getD a.toNat 0=v:=by rw[List.getD_eq_getElem?_getD,e2];rfl
 rw[e3,show (mk l).cps.toList=l by simp[mk],e1]
 rfl
theorem WR {l:List Nat}{k:Int}(h1:0<=k)(h2:k<=l.length):Txt.slice (mk l) none (some k)=mk (l.take k.toNat):=by
 have e:=slice_closes_to (x:=mk l) (j:=k) ⟨h1,by simp[mk];exact h2⟩
 have e:=eq_of_beq e
 rw[e]
 simp[mk]
def SIGNS:Str := "abcdefghijklmnopqrstuvwxyz0123456789"
def S36:List Nat:=[97,98,99,100,101,102,103,104,105,106,107,108,109,110,111,112,113,114,115,116,117,118,119,120,121,122,48,49,50,51,52,53,54,55,56,57]
theorem ze5:SIGNS=mk S36:=by decide +kernel
def sg (a:Int):Nat:=S36.getD a.toNat 0
theorem zax {a:Int}(h1:0<=a)(h2:a < 36):fItem (.str SIGNS) (.int a)=some (.str (mk [sg a])):=by
 rw[ze5]
 have hl:(S36.length:Int)=36:=by decide
 exact kC (by decide) h1 (by omega)
theorem Vy {a:Int}(h1:0<=a)(h2:a < 36):sg a∈S36:=by
 unfold sg
 have hl:S36.length=36:=by decide
 have:a.toNat < S36.length:=by omega
 rw[List.getD_eq_getElem?_getD,List.getElem?_eq_getElem this]
 exact List.getElem_mem _
theorem zb0 {a b:Int}(h1:0<=a)(h2:a < 36)(h3:0<=b)(h4:b < 36)(e:sg a=sg b):a=b:=by
 unfold sg at e
 have hl:S36.length=36:=by decide
 have ha:a.toNat < S36.length:=by omega
 have hb:b.toNat < S36.length:=by omega
 rw[List.getD_eq_getElem?_getD,List.getD_eq_getElem?_getD,List.getElem?_eq_getElem ha,List.getElem?_eq_getElem hb] at e
 have nd:S36.Nodup:=by decide +kernel
 have:=(List.getElem_inj nd).mp e
 omega
def NameOk (x:Str):Prop:=∃c cs,x=mk (c::cs)/\c∈S36.take 26/\(∀d∈cs,d∈S36)/\cs.length<=7
theorem R1 {l:List Nat}(h:∀d∈l,d∈S36):Ok (mk l):=by
 show (mk l).cps.all (· < 0x110000)=true
 rw[Array.all_eq_true']
 intro c hc
 have hc:c∈l:=by simpa[mk] using hc
 have:=h c hc
 have all:S36.all (λc=>decide (c < 0x110000))=true:=by decide
 exact List.all_eq_true.mp all c this
theorem NameOk.ok {x:Str}(h:NameOk x):Ok x:=by
 obtain⟨c,cs,rfl,h1,h2,_⟩:=h
 exact R1 λd hd=>by
  rcases List.mem_cons.mp hd with rfl | hd
  ·exact List.mem_of_mem_take h1
  ·exact h2 d hd
theorem Qh {c:Nat}(h:c∈S36.take 26):(Builtin.Str.occurrences ("abcdefghijklmnopqrstuvwxyz" : Str) (mk [c]) 0 ("abcdefghijklmnopqrstuvwxyz" : Str).length 1).isEmpty=false:=by
 have all:(S36.take 26).all (λc=>!(Builtin.Str.occurrences ("abcdefghijklmnopqrstuvwxyz" : Str) (mk [c]) 0 ("abcdefghijklmnopqrstuvwxyz" : Str).length 1).isEmpty)=true:=by decide +kernel
 simpa using List.all_eq_true.mp all c h
theorem zdk {c:Nat}(h:c∈S36):(Builtin.Str.occurrences (("abcdefghijklmnopqrstuvwxyz" : Str)++("0123456789" : Str)) (mk [c]) 0 (("abcdefghijklmnopqrstuvwxyz" : Str)++("0123456789" : Str)).length 1).isEmpty=false:=by
 have all:S36.all (λc=>!(Builtin.Str.occurrences (("abcdefghijklmnopqrstuvwxyz" : Str)++("0123456789" : Str)) (mk [c]) 0 (("abcdefghijklmnopqrstuvwxyz" : Str)++("0123456789" : Str)).length 1).isEmpty)=true:=by decide +kernel
 simpa using List.all_eq_true.mp all c h
theorem ZN (l:List Nat):chD (mk l)=l.map λc=>D.str (mk [c]):=by simp[chD,mk]
end Dv
namespace HM
abbrev Row:=Int×Int
def Pos (l:List Row):Prop:=∀r∈l,0 < r.1/\0<=r.2
def atR (rest:Int):List Row->Int->Int
 | [],_=>rest
 |r::rs,x=>if x < r.1 then r.2 else atR rest rs (x - r.1)
def total:List Row->Int
 | []=>0
 |r::rs=>r.1+total rs
def nextC (rest:Int):List Row->Int
 | []=>rest
 |r::_=>r.2
def kstep (acc:List Row)(r:Row):List Row:=match acc.getLast? with
 |some q=>if q.2=r.2 then acc.dropLast++[(q.1+r.1,r.2)] else acc++[r]
 |none=>acc++[r]
def kend (rest:Int)(k:List Row):List Row:=match k.getLast? with
 |some q=>if q.2=rest then k.dropLast else k
 |none=>k
def krows (rest:Int)(rs:List Row):List Row:=kend rest (rs.foldl kstep [])
def Norm (rest:Int):List Row->Prop
 | []=>True
 |r::rs=>nextC rest rs≠r.2/\Norm rest rs
theorem Pos.app {l m:List Row}:Pos (l++m)↔Pos l/\Pos m:=by
 constructor
 ·intro h;exact⟨λr hr=>h r (by simp[hr]),λr hr=>h r (by simp[hr])⟩
 ·intro ⟨h1,h2⟩ r hr
  rcases List.mem_append.mp hr with h | h
  ·exact h1 r h
  ·exact h2 r h
theorem Pos.cons {r:Row}{m:List Row}:Pos (r::m)↔(0 < r.1/\0<=r.2)/\Pos m:=by
 constructor
 ·intro h;exact⟨h r (by simp),λq hq=>h q (by simp[hq])⟩
 ·intro ⟨h1,h2⟩ q hq
  rcases List.mem_cons.mp hq with rfl | h
  ·exact h1
  ·exact h2 q h
theorem Pos.nil:Pos []:=λ_ h=>by cases h
def Inv (acc:List Row):Prop:=acc=[]∨∃pre a c,acc=pre++[(a,c)]/\Norm c pre
structure Same {α:Type}(rest:Int)(Φ:List Row->α):Prop where
 merge:∀pre a b c tl,Pos pre->Pos tl->0 < a->0 < b->Φ (pre++(a,c)::(b,c)::tl)=Φ (pre++(a+b,c)::tl)
 drop:∀pre a,Pos pre->0 < a->Φ (pre++[(a,rest)])=Φ pre
theorem wx {α:Type}{rest:Int}{Φ:List Row->α}(S:Same rest Φ):∀(rs acc:List Row),Pos acc->Pos rs->Φ (rs.foldl kstep acc)=Φ (acc++rs)/\Pos (rs.foldl kstep acc)
 | [],acc,h,_=>by simp[h]
 |r::rs,acc,h,hr=>by
  obtain⟨h1,h2⟩:=Pos.cons.mp hr
  rcases List.eq_nil_or_concat acc with rfl | ⟨pre,q,rfl⟩
  ·obtain⟨e,p⟩:=wx S rs [r] (Pos.cons.mpr ⟨h1,Pos.nil⟩) h2
   exact⟨by simpa[kstep] using e,by simpa[kstep] using p⟩
  ·rw[List.concat_eq_append] at h ⊢
   obtain⟨hp,hq⟩:=Pos.app.mp h
   have hq:=(Pos.cons.mp hq).1
   have hk:kstep (pre++[q]) r=if q.2=r.2 then pre++[(q.1+r.1,r.2)] else pre++[q]++[r]:=by
    unfold kstep;rw[List.getLast?_concat];simp only[List.dropLast_concat]
   rw[List.foldl_cons,hk]
   by_cases e:q.2=r.2
   ·rw[if_pos e]
    obtain⟨e1,p⟩:=wx S rs (pre++[(q.1+r.1,r.2)]) (Pos.app.mpr ⟨hp,Pos.cons.mpr ⟨⟨by show 0 < q.1+r.1;omega,h1.2⟩,Pos.nil⟩⟩) h2
    refine⟨?_,p⟩
    rw[e1]
    have:=S.merge pre q.1 r.1 r.2 rs hp h2 hq.1 h1.1
    have hq':q=(q.1,r.2):=by rw[<-e]
    rw[hq']
    simpa using this.symm
   ·rw[if_neg e]
    obtain⟨e1,p⟩:=wx S rs (pre++[q]++[r]) (Pos.app.mpr ⟨h,Pos.cons.mpr ⟨h1,Pos.nil⟩⟩) h2
    exact⟨by rw[e1];simp,p⟩
theorem Gr {α:Type}{rest:Int}{Φ:List Row->α}(S:Same rest Φ)(rs:List Row)(h:Pos rs):Φ (krows rest rs)=Φ rs:=by
 obtain⟨e,p⟩:=wx S rs [] Pos.nil h
 rw[List.nil_append] at e
 rw[<-e]
 unfold krows kend
 rcases List.eq_nil_or_concat (rs.foldl kstep []) with h0 | ⟨pre,q,h0⟩
 ·rw[h0];rfl
 ·rw[List.concat_eq_append] at h0
  rw[h0] at p ⊢
  rw[List.getLast?_concat]
  simp only[List.dropLast_concat]
  by_cases c:q.2=rest
  ·rw[if_pos c]
   obtain⟨hp,hq⟩:=Pos.app.mp p
   have hq':q=(q.1,rest):=by rw[<-c]
   rw[hq']
   exact (S.drop pre q.1 hp (Pos.cons.mp hq).1.1).symm
  ·rw[if_neg c]
theorem Kw (rest:Int)(rs:List Row)(h:Pos rs):Pos (krows rest rs):=by
 obtain⟨_,p⟩:=wx (rest:=rest) (Φ:=λ_=>()) ⟨λ_ _ _ _ _ _ _ _ _=>rfl,λ_ _ _ _=>rfl⟩ rs [] Pos.nil h
 unfold krows kend
 rcases List.eq_nil_or_concat (rs.foldl kstep []) with h0 | ⟨pre,q,h0⟩
 ·rw[h0];exact Pos.nil
 ·rw[List.concat_eq_append] at h0
  rw[h0] at p ⊢
  rw[List.getLast?_concat]
  simp only[List.dropLast_concat]
  by_cases c:q.2=rest
  ·rw[if_pos c];exact (Pos.app.mp p).1
  ·rw[if_neg c];exact p
theorem Vu (acc:List Row)(r:Row):(kstep acc r).length<=acc.length+1:=by
 unfold kstep
 split
 ·split
  ·simp
  ·simp
 ·simp
theorem WQ:∀(rs acc:List Row),(rs.foldl kstep acc).length<=acc.length+rs.length
 | [],acc=>by simp
 |r::rs,acc=>by
  have h1:=WQ rs (kstep acc r)
  have h2:=Vu acc r
  rw[List.foldl_cons];simp only[List.length_cons];omega
theorem QG (rest:Int)(rs:List Row):(krows rest rs).length<=rs.length:=by
 have:=WQ rs []
 simp only[List.length_nil,Nat.zero_add] at this
 unfold krows kend
 split
 ·split
  ·simp;omega
  ·exact this
 ·exact this
theorem zag (rest x:Int):Same rest λl=>atR rest l x:=by
 refine⟨λpre a b c tl hp ht ha hb=>?_,λpre a hp ha=>?_⟩
 ·show atR rest _ x=atR rest _ x
  induction pre generalizing x with
  |nil=>
   simp only[List.nil_append,atR]
   by_cases h:x < a
   ·rw[if_pos h,if_pos (by omega)]
   ·rw[if_neg h]
    by_cases h2:x - a < b
    ·rw[if_pos h2,if_pos (by omega)]
    ·rw[if_neg h2,if_neg (by omega)];congr 1;omega
  |cons r rs ih=>simp only[List.cons_append,atR];rw[ih _ (Pos.cons.mp hp).2]
 ·show atR rest _ x=atR rest _ x
  induction pre generalizing x with
  |nil=>simp only[List.nil_append,atR];split<;>rfl
  |cons r rs ih=>simp only[List.cons_append,atR];rw[ih _ (Pos.cons.mp hp).2]
theorem VD:∀ {l:List Row},Pos l->0<=total l
 | [],_=>Int.le_refl _
 |q::qs,hq=>by have:=VD (Pos.cons.mp hq).2;have:=(Pos.cons.mp hq).1.1;simp only[total];omega
theorem jv:∀(l m:List Row),total (l++m)=total l+total m
 | [],m=>by simp[total]
 |r::rs,m=>by simp only[List.cons_append,total,jv rs m];omega
end HM
namespace Dv
open PySem PySem.Spec L2 L3 L4 QM
open PyProof.Rows hiding St
abbrev SI:=List (Str×Int)
def kv (q:SI):List (Key×D):=q.map λt=>(.inr t.1,.int t.2)
def lookS (q:SI)(x:Str):Option Int:=(q.find? λt=>decide (t.1=x)).map (·.2)
def putS (q:SI)(x:Str)(v:Int):SI:=if (q.any λt=>decide (t.1=x))=true then q.map (λt=>if t.1=x then (t.1,v) else t) else q++[(x,v)]
def mergeS (q more:SI):SI:=more.foldl (λacc t=>putS acc t.1 t.2) q
theorem ZL (q:SI):(kv q).length=q.length:=by simp[kv]
theorem jk:∀q:SI,prs (q.map tkD)=some (kv q)
 | []=>rfl
 |t::q=>by
  show (dKey (.str t.1)).bind (λk'=>(prs (q.map tkD)).map λkvs=>(k',D.int t.2)::kvs)=_
  rw[jk q];rfl
theorem xD (x:Str):∀q:SI,lookD (kv q) (.inr x)=(lookS q x).map D.int
 | []=>rfl
 |t::q=>by
  have ih:=xD x q
  unfold lookD lookS kv at ih ⊢
  by_cases h:t.1=x
  ·simp[h]
  ·simp[h] at ih ⊢;exact ih
theorem zah (x:Str)(q:SI):((kv q).any λp=>decide (p.1=.inr x))=(q.any λt=>decide (t.1=x)):=by
 induction q with
 |nil=>rfl
 |cons t q ih=>
  show (decide ((Sum.inr t.1:Key)=.inr x)||_)=_
  rw[List.any_cons]
  unfold kv at ih
  rw[ih]
  congr 1
  by_cases h:t.1=x<;>simp[h]
theorem uf (x:Str)(v:Int)(q:SI):putD (kv q) (.inr x) (.int v)=kv (putS q x v):=by
 unfold putD putS
 rw[zah]
 split
 ·unfold kv
  rw[List.map_map,List.map_map]
  refine List.map_congr_left λt _=>?_
  by_cases h:t.1=x<;>simp[h]
 ·simp[kv]
theorem jl:∀(more q:SI),mergeD (kv q) (kv more)=kv (mergeS q more)
 | [],q=>rfl
 |t::more,q=>by
  show mergeD (putD (kv q) (.inr t.1) (.int t.2)) (kv more)=_
  rw[uf,jl more]
  rfl
theorem Vn (q:SI):keysD (kv q)=q.map λt=>.str t.1:=by simp[keysD,kv,kD]
theorem WZ (q:SI):valsD (kv q)=q.map λt=>.int t.2:=by simp[valsD,kv]
def keysS (q:SI):List Str:=q.map (·.1)
theorem VG (x:Str)(v:Int)(q:SI):keysS (putS q x v)=if x∈keysS q then keysS q else keysS q++[x]:=by
 have ha:(q.any λt=>decide (t.1=x))=true↔x∈keysS q:=by
  simp[keysS,List.any_eq_true]
 unfold putS
 by_cases h:x∈keysS q
 ·rw[if_pos (ha.mpr h),if_pos h]
  unfold keysS
  rw[List.map_map]
  refine List.map_congr_left λt _=>?_
  by_cases e:t.1=x<;>simp[e]
 ·rw[if_neg (λz=>h (ha.mp z)),if_neg h]
  simp[keysS]
theorem QS {x:Str}{v:Int}{q:SI}(h:(keysS q).Nodup):(keysS (putS q x v)).Nodup:=by
 rw[VG]
 split
 ·exact h
 ·rename_i hx
  rw[List.nodup_append]
  exact⟨h,by simp,λa ha b hb=>by rw[List.mem_singleton.mp hb];exact λz=>hx (z ▸ ha)⟩
theorem ZW:∀(more q:SI),(keysS q).Nodup->(keysS (mergeS q more)).Nodup
 | [],_,h=>h
 |t::more,q,h=>ZW more (putS q t.1 t.2) (QS h)
theorem Ze (x:Str)(v:Int)(q:SI):(putS q x v).length<=q.length+1:=by
 unfold putS
 split<;>simp
theorem JH:∀(more q:SI),(mergeS q more).length<=q.length+more.length
 | [],q=>by simp[mergeS]
 |t::more,q=>by
  have h1:=JH more (putS q t.1 t.2)
  have h2:=Ze t.1 t.2 q
  show (mergeS (putS q t.1 t.2) more).length<=_
  simp only[List.length_cons];omega
theorem Qs {x:Str}{v:Int}{q:SI}{t:Str×Int}(h:t∈putS q x v):t∈q∨t=(x,v):=by
 unfold putS at h
 split at h
 ·obtain⟨u,hu,e⟩:=List.mem_map.mp h
  by_cases hx:u.1=x
  ·rw[if_pos hx] at e;exact .inr (by rw[<-e,hx])
  ·rw[if_neg hx] at e;exact .inl (e ▸ hu)
 ·rcases List.mem_append.mp h with h | h
  ·exact .inl h
  ·exact .inr (List.mem_singleton.mp h)
theorem Yy:∀(more q:SI) {t:Str×Int},t∈mergeS q more->t∈q∨t∈more
 | [],_,_,h=>.inl h
 |u::more,q,t,h=>by
  rcases Yy more (putS q u.1 u.2) h with h | h
  ·rcases Qs h with h | h
   ·exact .inl h
   ·exact .inr (by rw[h];exact List.mem_cons_self)
  ·exact .inr (List.mem_cons_of_mem _ h)
theorem kE {q:SI}{x:Str}{v:Int}(nd:(keysS q).Nodup)(h:(x,v)∈q):lookS q x=some v:=by
 induction q with
 |nil=>cases h
 |cons t q ih=>
  have nd':=List.nodup_cons.mp nd
  rcases List.mem_cons.mp h with e | h
  ·subst e;simp[lookS]
  ·have hne:t.1≠x:=λz=>nd'.1 (List.mem_map.mpr ⟨(x,v),h,z.symm⟩)
   have:=ih nd'.2 h
   unfold lookS at this ⊢
   rw[List.find?_cons]
   simp[hne]
   simpa using this
theorem uZ {q:SI}{x:Str}(h:x∈keysS q):∃v,lookS q x=some v:=by
 induction q with
 |nil=>cases h
 |cons t q ih=>
  by_cases e:t.1=x
  ·exact⟨t.2,by simp[lookS,e]⟩
  ·obtain⟨v,hv⟩:=ih (by simpa[keysS,Ne.symm e] using h)
   exact⟨v,by unfold lookS at hv ⊢;rw[List.find?_cons];simpa[e] using hv⟩
def less1 (q:SI)(x:Str):SI:=match lookS q x with
 |some v=>putS q x (v - 1)
 |none=>q
def lessN (q:SI)(xs:List Str):SI:=xs.foldl less1 q
theorem qO {q:SI}{x:Str}:keysS (less1 q x)=keysS q:=by
 unfold less1
 split
 ·rename_i v h
  rw[VG,if_pos]
  by_cases hx:x∈keysS q
  ·exact hx
  ·exfalso
   have:lookS q x=none:=by
    unfold lookS
    rw[List.find?_eq_none.mpr]
    ·rfl
    ·intro t ht
     simp
     exact λz=>hx (z ▸ List.mem_map.mpr ⟨t,ht,rfl⟩)
   rw[this] at h;cases h
 ·rfl
theorem qw:∀(xs:List Str) (q:SI),keysS (lessN q xs)=keysS q
 | [],_=>rfl
 |x::xs,q=>(qw xs (less1 q x)).trans qO
theorem WN (q:SI):(keysS q).length=q.length:=by simp[keysS]
theorem WC (xs:List Str)(q:SI):(lessN q xs).length=q.length:=by rw[<-WN,qw,WN]
def act (d:SI):List Str:=(d.filter λt=>decide (0 < t.2)).map (·.1)
def sumP:SI->Nat
 | []=>0
 |t::d=>t.2.toNat+sumP d
theorem Zx {d:SI}{x:Str}(h:x∈act d):x∈keysS d:=by
 obtain⟨t,ht,rfl⟩:=List.mem_map.mp h
 exact List.mem_map.mpr ⟨t,(List.mem_filter.mp ht).1,rfl⟩
theorem QH {d:SI}(nd:(keysS d).Nodup){x:Str}(h:x∈act d):∃v,lookS d x=some v/\0 < v:=by
 obtain⟨t,ht,rfl⟩:=List.mem_map.mp h
 obtain⟨h1,h2⟩:=List.mem_filter.mp ht
 exact⟨t.2,kE nd (by obtain⟨a,b⟩:=t;exact h1),by simpa using h2⟩
theorem Jq {d:SI}(nd:(keysS d).Nodup):(act d).Nodup:=by
 unfold act keysS at *
 exact List.Nodup.sublist (List.Sublist.map _ List.filter_sublist) nd
theorem zam (d:SI):(act d).length<=d.length:=by
 unfold act
 rw[List.length_map]
 exact List.length_filter_le _ _
theorem act_nil:∀ {d:SI},act d=[]↔∀t∈d,t.2<=0
 |d=>by
  unfold act
  rw[List.map_eq_nil_iff,List.filter_eq_nil_iff]
  constructor
  ·intro h t ht;have:=h t ht;simpa using this
  ·intro h t ht;have:=h t ht;simpa using this
theorem y4 (t:Str×Int)(d:SI)(x:Str):lookS (t::d) x=if t.1=x then some t.2 else lookS d x:=by
 unfold lookS
 by_cases h:t.1=x<;>simp[h]
theorem ki {d:SI}{x:Str}{v:Int}(h:x∈keysS d):putS d x v=d.map λt=>if t.1=x then (t.1,v) else t:=by
 unfold putS
 rw[if_pos]
 simpa[keysS,List.any_eq_true] using h
theorem ZS {d:SI}{x:Str}{v:Int}(h:lookS d x=some v):x∈keysS d:=by
 induction d with
 |nil=>cases h
 |cons t d ih=>
  rw[y4] at h
  by_cases e:t.1=x
  ·simp[keysS,e]
  ·rw[if_neg e] at h
   have:=ih h
   simp[keysS] at this ⊢
   exact .inr this
theorem ZY {d:SI}{x:Str}{v:Int}(h:lookS d x=some v):less1 d x=d.map λt=>if t.1=x then (t.1,v - 1) else t:=by
 unfold less1
 rw[h]
 exact ki (ZS h)
theorem Wh {d:SI}{x:Str}{v:Int}(h:x∉keysS d):(d.map λt=>if t.1=x then (t.1,v) else t)=d:=by
 induction d with
 |nil=>rfl
 |cons t d ih=>
  simp[keysS] at h
  have:t.1≠x:=λz=>h.1 z.symm
  simp[this]
  have:=ih (by simpa[keysS] using h.2)
  simpa using this
theorem zd3 {d:SI}(nd:(keysS d).Nodup){x:Str}{v:Int}(h:lookS d x=some v)(hv:0 < v):sumP (less1 d x)+1=sumP d:=by
 rw[ZY h]
 induction d with
 |nil=>cases h
 |cons t d ih=>
  have nd':=List.nodup_cons.mp nd
  rw[y4] at h
  by_cases e:t.1=x
  ·rw[if_pos e] at h
   cases h
   have hx:x∉keysS d:=λz=>nd'.1 (by rw[<-e] at z;exact z)
   have:=Wh (v:=t.2 - 1) hx
   simp only[List.map_cons,if_pos e,sumP]
   rw[this]
   omega
  ·rw[if_neg e] at h
   have:=ih nd'.2 h
   simp only[List.map_cons,if_neg e,sumP]
   omega
theorem zcv {d:SI}{x y:Str}(hne:x≠y):lookS (less1 d x) y=lookS d y:=by
 unfold less1
 split
 ·rename_i v h
  rw[ki (ZS h)]
  clear h
  induction d with
  |nil=>rfl
  |cons t d ih=>
   rw[List.map_cons,y4,y4,ih]
   by_cases e:t.1=x
   ·rw[if_pos e]
    have:t.1≠y:=λz=>hne (e.symm.trans z)
    simp[this]
   ·rw[if_neg e]
 ·rfl
theorem zab {d:SI}(nd:(keysS d).Nodup){x:Str}:(keysS (less1 d x)).Nodup:=by rw[qO];exact nd
theorem YW:∀(xs:List Str) (d:SI),(keysS d).Nodup->xs.Nodup->(∀x∈xs,∃v,lookS d x=some v/\0 < v)->sumP (lessN d xs)+xs.length=sumP d
 | [],_,_,_,_=>rfl
 |x::xs,d,nd,nx,h=>by
  have nx':=List.nodup_cons.mp nx
  obtain⟨v,h1,h2⟩:=h x List.mem_cons_self
  have ih:=YW xs (less1 d x) (zab nd) nx'.2 (λy hy=>by
   have hne:x≠y:=λz=>nx'.1 (by rw[z];exact hy)
   rw[zcv hne];exact h y (List.mem_cons_of_mem _ hy))
  have:=zd3 nd h1 h2
  show sumP (lessN (less1 d x) xs)+(xs.length+1)=_
  omega
theorem VZ:∀(d:SI) (m:Int),(∀t∈d,t.2<=m)->sumP d<=d.length * m.toNat
 | [],_,_=>by simp[sumP]
 |t::d,m,h=>by
  have ih:=VZ d m λu hu=>h u (List.mem_cons_of_mem _ hu)
  have:=h t List.mem_cons_self
  simp only[sumP,List.length_cons,Nat.succ_mul]
  omega
end Dv
namespace QM
variable {α:Type} [DecidableEq α]
inductive Eas:List (Tk α)->List (Tk α)->Prop
 |nil:Eas [] []
 |skip {t:Tk α} {p q:List (Tk α)}:Eas p q->Eas p (t::q)
 |keep {n:α} {a b:Int} {p q:List (Tk α)}:b<=a->Eas p q->Eas ((n,b)::p) ((n,a)::q)
theorem beh_nil (m:Nat):beh m ([]:List (Tk α))=[]:=by simp[beh]
theorem beh_zero (q:List (Tk α)):beh 0 q=q:=by simp[beh]
theorem za9 (m:Nat)(t:Tk α)(q:List (Tk α)):beh (m+1) (t::q)=if 1 < t.2 then (t.1,t.2 - 1)::beh m q else beh m q:=by
 unfold beh
 by_cases h:1 < t.2<;>simp[h]
def val (q:List (Tk α))(n:α):Int:=((q.find? λt=>decide (t.1=n)).map (·.2)).getD 0
theorem wE (t:Tk α)(q:List (Tk α))(n:α):val (t::q) n=if t.1=n then t.2 else val q n:=by
 unfold val
 by_cases h:t.1=n<;>simp[h]
theorem xG {q:List (Tk α)}{n:α}(h:n∉nms q):val q n=0:=by
 induction q with
 |nil=>rfl
 |cons t q ih=>
  simp[nms] at h
  rw[wE,if_neg (λz=>h.1 z.symm)]
  exact ih (by simpa[nms] using h.2)
variable {f g:Int->Int}
theorem jS:∀(m:Nat) (q:List (Tk α)) (n:α),PosQ q->(nms q).Nodup->val (beh m q) n=if n∈srv m q then val q n - 1 else val q n
 |0,q,n,_,_=>by rw[beh_zero];simp[srv]
 |m+1,[],n,_,_=>by simp[beh_nil,srv]
 |m+1,t::q,n,hp,nd=>by
  have nd':=List.nodup_cons.mp nd
  have ih:=jS m q n (λu hu=>hp u (by simp[hu])) nd'.2
  have h1:=hp t (by simp)
  have es:srv (m+1) (t::q)=t.1::srv m q:=by simp[srv]
  rw[za9,es,wE]
  by_cases e:t.1=n
  ·have hnq:n∉nms q:=λz=>nd'.1 (by show t.1∈nms _;rw[e];exact z)
   have hb:val (beh m q) n=0:=xG λz=>hnq (beh_sub.subset z)
   simp only[e,List.mem_cons,true_or,if_true]
   split
   ·rw[wE,if_pos rfl]
   ·rw[hb];omega
  ·have e':¬n=t.1:=λz=>e z.symm
   simp only[List.mem_cons,e',false_or,if_neg e]
   split
   ·rw[wE,if_neg e];exact ih
   ·exact ih
end QM
namespace Dv
open PySem PySem.Spec L2 L3 L4 QM
open PyProof.Rows hiding St
theorem Wd {d:SI}{x:Str}{v:Int}(h:x∉keysS d):putS d x v=d++[(x,v)]:=by
 unfold putS
 rw[if_neg]
 intro z
 apply h
 simpa[keysS,List.any_eq_true] using z
theorem YZ:∀(q d:SI),(keysS (d++q)).Nodup->mergeS d q=d++q
 | [],d,_=>by simp[mergeS]
 |t::q,d,nd=>by
  have h:t.1∉keysS d:=by
   intro z
   unfold keysS at nd z
   rw[List.map_append] at nd
   exact (List.nodup_append.mp nd).2.2 t.1 z t.1 (by simp) rfl
  show mergeS (putS d t.1 t.2) q=_
  rw[Wd h,YZ q _ (by simpa using nd)]
  simp
theorem qW {q:SI}(nd:(nms q).Nodup):mergeS [] q=q:=YZ q [] nd
theorem RC {d:SI}(nd:(keysS d).Nodup)(x:Str):less1 d x=d.map λt=>if t.1=x then (t.1,t.2 - 1) else t:=by
 cases q:lookS d x with
 |none=>
  have:less1 d x=d:=by unfold less1;rw[q]
  rw[this]
  have hx:∀t∈d,¬t.1=x:=λt ht z=>by
   obtain⟨v,hv⟩:=uZ (q:=d) (x:=x) (List.mem_map.mpr ⟨t,ht,z⟩)
   rw[q] at hv;cases hv
  conv=>lhs;rw[<-List.map_id' d]
  refine List.map_congr_left λt ht=>?_
  simp[hx t ht]
 |some v=>
  rw[ZY q]
  refine List.map_congr_left λt ht=>?_
  by_cases e:t.1=x
  ·have:lookS d t.1=some t.2:=kE nd (by obtain⟨a,b⟩:=t;exact ht)
   rw[e,q] at this
   cases this
   simp[e]
  ·simp[e]
theorem VC:∀(xs:List Str) (d:SI),(keysS d).Nodup->xs.Nodup->lessN d xs=d.map λt=>if t.1∈xs then (t.1,t.2 - 1) else t
 | [],d,_,_=>by simp[lessN]
 |x::xs,d,nd,nx=>by
  have nx':=List.nodup_cons.mp nx
  have ih:=VC xs (less1 d x) (by rw[qO];exact nd) nx'.2
  show lessN (less1 d x) xs=_
  rw[ih,RC nd,List.map_map]
  refine List.map_congr_left λt ht=>?_
  by_cases e:t.1=x
  ·have:¬x∈xs:=nx'.1
   simp[e,this]
  ·simp[e]
def endsS (d:SI)(rows:List (Int×List Str)):SI:=rows.foldl (λd r=>r.2.foldl (λd n=>putS d n r.1) d) d
theorem zb6 (d:SI)(x y:Str)(v:Int):lookS (putS d x v) y=if x=y then some v else lookS d y:=by
 by_cases hx:x∈keysS d
 ·rw[ki hx]
  induction d with
  |nil=>cases hx
  |cons t d ih=>
   rw[List.map_cons,y4,y4]
   by_cases e:t.1=x
   ·rw[if_pos e]
    by_cases e2:x=y
    ·simp[e,e2]
    ·have:¬t.1=y:=λz=>e2 (e.symm.trans z)
     simp only[if_neg e2,if_neg this]
     by_cases hx':x∈keysS d
     ·rw[ih hx',if_neg e2]
     ·rw[Wh hx']
   ·rw[if_neg e]
    have hx':x∈keysS d:=by simpa[keysS,Ne.symm e] using hx
    rw[ih hx']
    by_cases e2:x=y
    ·have:¬t.1=y:=λz=>e (z.trans e2.symm)
     simp[e2,this]
    ·simp[e2]
 ·rw[Wd hx]
  have:∀d:SI,x∉keysS d->lookS (d++[(x,v)]) y=if x=y then some v else lookS d y:=by
   intro d
   induction d with
   |nil=>intro _;simp[y4]
   |cons t d ih=>
    intro h
    have h1:¬x=t.1/\x∉keysS d:=by simpa[keysS] using h
    rw[List.cons_append,y4,y4,ih h1.2]
    by_cases e2:x=y
    ·have:¬t.1=y:=λz=>h1.1 (e2.trans z.symm)
     simp[e2,this]
    ·simp[e2]
  exact this d hx
theorem vy (v:Int)(y:Str):∀(xs:List Str) (d:SI),lookS (xs.foldl (λd n=>putS d n v) d) y=if y∈xs then some v else lookS d y
 | [],d=>by simp
 |x::xs,d=>by
  show lookS (xs.foldl (λd n=>putS d n v) (putS d x v)) y=_
  rw[vy v y xs,zb6]
  by_cases h1:y∈xs
  ·simp[h1]
  ·by_cases h2:x=y
   ·simp[h1,h2]
   ·have:¬y=x:=λz=>h2 z.symm
    simp[h1,h2,this]
theorem uM:∀(rows:List (Int×List Str)) (d:SI) (n:Str) (L:Int),lookS (endsS d rows) n=some L->lookS d n=some L∨∃r∈rows,n∈r.2/\r.1=L
 | [],d,n,L,h=>.inl h
 |r::rows,d,n,L,h=>by
  rcases uM rows _ n L h with h | ⟨u,h1,h2⟩
  ·rw[vy] at h
   split at h
   ·rename_i hn
    exact .inr ⟨r,List.mem_cons_self,hn,Option.some.inj h⟩
   ·exact .inl h
  ·exact .inr ⟨u,List.mem_cons_of_mem _ h1,h2⟩
theorem JF:∀(rows:List (Int×List Str)) (d:SI) (n:Str),(∃v,lookS d n=some v)->∃L,lookS (endsS d rows) n=some L
 | [],d,n,h=>h
 |r::rows,d,n,⟨v,h⟩=>by
  refine JF rows _ n ?_
  rw[vy]
  split
  ·exact⟨_,rfl⟩
  ·exact⟨v,h⟩
theorem KI (a b:List (Int×List Str))(d:SI):endsS d (a++b)=endsS (endsS d a) b:=by unfold endsS;rw[List.foldl_append]
theorem Gm {f:Int->Int}{x:Int}{q:SI}{rows:List (Int×List Str)}(h:Run f x q rows){r:Int×List Str}(hr:r∈rows){n:Str}(hn:n∈r.2)(d:SI):∃L,lookS (endsS d rows) n=some L/\r.1<=L:=by
 obtain⟨a,b,rfl⟩:=List.append_of_mem hr
 obtain⟨q',_,h2⟩:=ZQ h
 have hb:∀u∈b,r.1<=u.1:=by
  intro u hu
  cases h2 with
  |cons hq h3=>
   have:=(vR h3 u hu).1
   show x+a.length<=u.1
   omega
 rw[KI]
 show ∃L,lookS (endsS (r.2.foldl (λd n=>putS d n r.1) (endsS d a)) b) n=some L/\r.1<=L
 have h0:lookS (r.2.foldl (λd n=>putS d n r.1) (endsS d a)) n=some r.1:=by rw[vy,if_pos hn]
 obtain⟨L,hL⟩:=JF b _ n ⟨_,h0⟩
 refine⟨L,hL,?_⟩
 rcases uM b _ n L hL with z | ⟨u,u1,_,u3⟩
 ·rw[h0] at z;cases z;exact Int.le_refl _
 ·have:=hb u u1;omega
variable {f:Int->Int}
def ra (f:Int->Int):Int->SI->Nat->List (Int×List Str)
 |_,_,0=>[]
 |x,A,k+1=>(x,srv (f x).toNat A)::ra f (x+1) (beh (f x).toNat A) k
def hb (rows:List (Int×List Str))(n:Str)(t:Int):Nat:=(rows.filter λr=>decide (r.1<=t)&&decide (n∈r.2)).length
end Dv
namespace Dv
open PySem PySem.Spec L2 L3 L4
open PyProof.Rows hiding St
section
variable {i:Nat}{g:EnvD->Option D}{gl gi:EnvD->Option (List D)}{gk:EnvD->Option (List (Key×D))}{gb:EnvD->Option Bool}{b s1 s2:SD}{ρ ρ':EnvD}{d:D}{ds:List D}{kvs:List (Key×D)}{r:Option Fl}{t:Tgt}
theorem yj (h:g ρ=some d)(k:b (ρ.set i (some (.val d)))=r):sSeq (sSet i g) b ρ=r:=by
 rw[<-k]
 show thenB ((g ρ).map λd=>Fl.next (ρ.set i (some (.val d)))) b=_
 rw[h];rfl
theorem zb7 (h:gl ρ=some ds)(k:b (ρ.set i (some (.acc ds)))=r):sSeq (sSetA i gl) b ρ=r:=by
 rw[<-k]
 show thenB ((gl ρ).map λd=>Fl.next (ρ.set i (some (.acc d)))) b=_
 rw[h];rfl
theorem QC (h:gi ρ=some ds)(h2:forD t s1 ds ρ=some (.next ρ'))(k:b ρ'=r):sSeq (sFor t gi s1) b ρ=r:=by
 rw[<-k]
 show thenB ((gi ρ).bind λds=>forD t s1 ds ρ) b=_
 rw[h]
 show thenB (forD t s1 ds ρ) b=_
 rw[h2];rfl
theorem x5 (h:gb ρ=some false)(k:b ρ=r):sSeq (sIf gb s1 sNext) b ρ=r:=by
 rw[<-k]
 show thenB ((gb ρ).bind λc=>if c then s1 ρ else sNext ρ) b=_
 rw[h];rfl
theorem VJ (h:gb ρ=some true)(h2:s1 ρ=some (.next ρ'))(k:b ρ'=r):sSeq (sIf gb s1 s2) b ρ=r:=by
 rw[<-k]
 show thenB ((gb ρ).bind λc=>if c then s1 ρ else s2 ρ) b=_
 rw[h]
 show thenB (s1 ρ) b=_
 rw[h2];rfl
end
end Dv
namespace My
open PySem PySem.Spec L2 L3 L4 L6 Dv
open PyProof.Rows hiding St
def top (i:Nat):Stmt:=PySem.Challenge.pw_latestturn_k81_waits_and_tolls.main.body.getD i (.Pass ⟨0,0,0,0⟩)
abbrev ww:Stmt:=top 13
abbrev w9:Stmt:=top 14
abbrev xP:Stmt:=top 15
abbrev we:Stmt:=top 16
abbrev xV:Stmt:=top 17
abbrev wC:Stmt:=top 18
abbrev wO:Stmt:=top 19
abbrev wp:Stmt:=kx (top 20) 0
abbrev wK:Stmt:=kx (top 20) 4
abbrev xN:Stmt:=top 22
abbrev xq:Stmt:=top 23
abbrev xx:Stmt:=top 25
abbrev yB:Stmt:=top 27
abbrev wy:Stmt:=top 28
abbrev xk:Stmt:=top 29
abbrev wA:Stmt:=top 31
abbrev xF:Stmt:=top 32
abbrev yN:Stmt:=top 33
abbrev yD:Stmt:=top 35
abbrev yV:Stmt:=top 36
abbrev x8:Stmt:=top 37
abbrev xX:Stmt:=top 39
abbrev wW:Stmt:=top 40
abbrev xu:Stmt:=top 41
abbrev wv:Stmt:=top 42
abbrev wl:Stmt:=top 43
abbrev wV:Stmt:=top 44
abbrev xi:Stmt:=top 45
abbrev xp:Stmt:=top 46
abbrev wz:Stmt:=top 47
abbrev xC:Stmt:=top 48
abbrev wG:Stmt:=top 49
abbrev yX:Stmt:=top 50
abbrev xL:Stmt:=top 51
abbrev wQ:Stmt:=top 52
abbrev yC:Stmt:=top 53
abbrev yw:Stmt:=top 54
def YV:List Str:=["thing"]
def kZ:SD:=(sRet (gAndV (gIs "int" (gr 0)) (gNotV (gIs "bool" (gr 0)))))
def jg:List En->Option En:=mir YV (kZ)
def jj:List Str:=["thing","low","high"]
def Z6:SD:=(sRet (gAndV (gCall (len? 1 jg) frzO (nCons (gn 0) nNil)) (g3 fLe fLe (gr 1) (gr 0) (gr 2))))
def yU:List En->Option En:=mir jj (Z6)
def Vo:List Str:=["thing"]
def uK:EnvD->Option D:=(g2 (fIn false) (gr 0) (g2 fPlus (gc (.str "abcdefghijklmnopqrstuvwxyz")) (gc (.str "0123456789"))))
def kg:SD:=(sSeq (sIf (gOr (gNot (gt (gIs "str" (gr 0)))) (gNot (gb' (g3 fLe fLe (gc (.int 1)) (gB fLen (gCons' (gr 0) gNil)) (gc (.int 8)))))) (sRet (gc (.bl false))) sNext) (sRet (gAndV (g2 (fIn false) (g2 fItem (gr 0) (gc (.int 0))) (gc (.str "abcdefghijklmnopqrstuvwxyz"))) (gB fAll (gCons' (gFz (gComp ["sign"] [] (.name 0) tYes uK (gItS (gr 0)))) gNil)))))
def xB:List En->Option En:=mir Vo (kg)
def VB:List Str:=["thing"]
def uz:SD:=(sSeq (sIf (gOr (gNot (gt (gIs "tuple" (gr 0)))) (gb' (g2 (fEq true) (gB fLen (gCons' (gr 0) gNil)) (gc (.int 2))))) (sRet (gc (.bl false))) sNext) (sRet (gAndV (gCall (len? 3 yU) frzO (nCons (gVal (g2 fItem (gr 0) (gc (.int 0)))) (nCons (gVal (gc (.int 1))) (nCons (gVal (gc (.int 100))) nNil)))) (gCall (len? 3 yU) frzO (nCons (gVal (g2 fItem (gr 0) (gc (.int 1)))) (nCons (gVal (gc (.int 0))) (nCons (gVal (gc (.int 8))) nNil)))))))
def vC:List En->Option En:=mir VB (uz)
def ve:List Str:=["rows","rest"]
def ku:EnvD->Option D:=(gCall (len? 1 vC) frzO (nCons (gn 0) nNil))
def uj:SD:=(sSeq (sIf (gOr (gNot (gt (gIs "list" (gr 0)))) (gb' (g2 fGt (gB fLen (gCons' (gr 0) gNil)) (gc (.int 16))))) sNever sNext) (sSeq (sIf (gNot (gt (gB fAll (gCons' (gFz (gComp ["row"] [] (.name 0) tYes ku (gIt (gr 0)))) gNil)))) sNever sNext) (sIf (gNot (gt (gCall (len? 3 yU) frzO (nCons (gn 1) (nCons (gVal (gc (.int 1))) (nCons (gVal (gc (.int 8))) nNil)))))) sNever sNext)))
def vz:List En->Option En:=mir ve (uj)
def jN:List Str:=["rows","rest","kept","turns","counters"]
def vM:SD:=(sIf (gAnd (gt (gr 2)) (gb' (g2 (fEq false) (g2 fItem (g2 fItem (gr 2) (gNeg (gc (.int 1)))) (gc (.int 1))) (gr 4)))) (sPut 2 (gNeg (gc (.int 1))) (gTup' (gCons' (g2 fPlus (g2 fItem (g2 fItem (gr 2) (gNeg (gc (.int 1)))) (gc (.int 0))) (gr 3)) (gCons' (gv 4) gNil)))) (sIf (gb' (g2 fGt (gr 3) (gc (.int 0)))) (sApp 2 (gTup' (gCons' (gv 3) (gCons' (gv 4) gNil)))) sNext))
def uA:SD:=(sSeq (sSetA 2 (gLst gNil)) (sSeq (sFor (.tup [3,4]) (gIt (gf 0)) vM) (sSeq (sIf (gAnd (gt (gr 2)) (gb' (g2 (fEq false) (g2 fItem (g2 fItem (gr 2) (gNeg (gc (.int 1)))) (gc (.int 1))) (gr 1)))) (sPop 2) sNext) (sRetV 2))))
def vJ:List En->Option En:=mir jN (uA)
def qJ:List Str:=["rows","spans","start","turns","counters"]
def kY:SD:=(sSeq (sApp 1 (gTup' (gCons' (gv 2) (gCons' (g2 fPlus (gr 2) (gr 3)) (gCons' (gv 4) gNil))))) (sSet 2 (g2 fPlus (gr 2) (gr 3))))
def ZD:SD:=(sSeq (sSetA 1 (gLst gNil)) (sSeq (sSet 2 (gc (.int 0))) (sSeq (sFor (.tup [3,4]) (gIt (gf 0)) kY) (sRetV 1))))
def vg:List En->Option En:=mir qJ (ZD)
def ja:List Str:=["self","rows","rest"]
def ji (C:Addr):SD:=(sSeq (sExpr (gCall (len? 2 vz) frzO (nCons (gn 1) (nCons (gn 2) nNil)))) (sSeq (sFldD 0 C "kept_rest" (gv 2)) (sFldD 0 C "spans" (gCall (len? 1 vg) frzO (nCons (gVal (gCall (len? 2 vJ) frzO (nCons (gn 1) (nCons (gn 2) nNil)))) nNil)))))
def xZ (C:Addr):List En->Option (List Str×List D):=mirI C ja (ji C) 0 0
def jE:List Str:=["self","turn","low","high","middle"]
def jz (C:Addr):SD:=(sSeq (sSet 4 (g2 fDiv (g2 fPlus (gr 2) (gr 3)) (gc (.int 2)))) (sIf (gb' (g2 fLt (gr 1) (g2 fItem (g2 fItem (gFld C "spans" (gv 0)) (gr 4)) (gc (.int 1))))) (sSet 3 (gv 4)) (sSet 2 (g2 fPlus (gr 4) (gc (.int 1))))))
def ug (C:Addr):SD:=(sSeq (sSet 2 (gc (.int 0))) (sSeq (sSet 3 (gB fLen (gCons' (gFld C "spans" (gv 0)) gNil))) (sSeq (sWhile (gb' (g2 fLt (gr 2) (gr 3))) (jz C)) (sRet (gIf (gb' (g2 fLt (gr 2) (gB fLen (gCons' (gFld C "spans" (gv 0)) gNil)))) (g2 fItem (g2 fItem (gFld C "spans" (gv 0)) (gr 2)) (gc (.int 2))) (gFld C "kept_rest" (gv 0)))))))
def vd (C:Addr):List En->Option En:=mir jE (ug C)
def Y9:List Str:=["queue"]
def uu:EnvD->Option D:=(gv 0)
def ZA:SD:=(sRetA (gComp ["name","left"] [] (.tup [0,1]) tYes uu (gIt (gr 0))))
def x6:List En->Option En:=mir Y9 (ZA)
def xt:List Str:=["queue","name","place","ticket"]
def qA:SD:=(sIf (gb' (g2 (fEq false) (g2 fItem (gr 3) (gc (.int 0))) (gr 1))) (sRetV 2) sNext)
def uJ:SD:=(sSeq (sIf (gt (gCall (len? 1 xB) frzO (nCons (gn 1) nNil))) (sFor (.tup [2,3]) (gEn (gCons' (gf 0) gNil)) qA) sNext) sNever)
def va:List En->Option En:=mir xt (uJ)
def uV:SD:=(sIf (gb' (g2 (fEq false) (g2 fItem (gr 3) (gc (.int 0))) (gr 1))) (sRetV 2) sNext)
def kt:EnvD->Option D:=(bSeq (sIf (gt (gCall (len? 1 xB) frzO (nCons (gn 1) nNil))) (sFor (.tup [2,3]) (gEn (gCons' (gf 0) gNil)) uV) sNext) (gv 1))
def vE:List En->Option D:=mirX xt 2 kt
def wd:List Str:=["queue","many","served","begun"]
def jx:EnvD->Option D:=(gTup' (gCons' (gv 0) (gCons' (g2 fSub (gr 1) (gc (.int 1))) gNil)))
def qS:SD:=(sSeq (sSet 2 (gFz (gSl (gr 0) gNone (gSome (gr 1))))) (sSeq (sSet 3 (gFz (gComp ["name","left"] [] (.tup [0,1]) (gb' (g2 fGt (gr 1) (gc (.int 1)))) jx (gIt (gr 2))))) (sRetT (gTupT (tCn (gLs (gCall (len? 1 x6) accO (nCons (gn 2) nNil))) (tCn (gLs (g2 fCatS (gr 3) (gFz (gSl (gr 0) (gSome (gr 1)) gNone)))) tNl))))))
def yQ:List En->Option En:=mir wd (qS)
def qx:List Str:=["queue","hours","begin","real","waiting","rows","turn","served"]
def jP (C:Addr):SD:=(sSeq (sSet 6 (g2 fPlus (gr 2) (gB fLen (gCons' (gh 5) gNil)))) (sSeq (sSetT 7 (gCall (len? 2 yQ) treO (nCons (gn 4) (nCons (gVal (gMeth C "at" (len? 2 (vd C)) frzO (gv 1) (nCons (gn 6) nNil))) nNil)))) (sMv 5 7 4 (gv 6))))
def u6 (C:Addr):SD:=(sSeq (sSet 4 (gIf (gb' (g2 (fIs false) (gr 3) (gc .non))) (gv 0) gNev)) (sSeq (sSetT 5 (gLs (gLst gNil))) (sSeq (sWhile (gt (gr 4)) (jP C)) (sRetVT 5))))
def yJ (C:Addr):List En->Option En:=mir qx (u6 C)
def qB:List Str:=["rows","ends","turn","names","name"]
def ZE:SD:=(sPutD 1 (gr 4) (gv 2))
def kJ:SD:=(sFor (.name 4) (gIt (gf 3)) ZE)
def Z4:SD:=(sSeq (sSetD 1 gNewD) (sSeq (sFor (.tup [2,3]) (gIt (gf 0)) kJ) (sRetVD 1)))
def xy:List En->Option En:=mir qB (Z4)
def vw:List Str:=["rows","name","turn"]
def Zs:EnvD->Option D:=(gv 0)
def uo:SD:=(sRet (gB fLen (gCons' (gFz (gComp ["row"] [("turn",2),("name",1)] (.name 0) (gAnd (gb' (g2 fLe (g2 fItem (gr 0) (gc (.int 0))) (gr 1))) (gb' (g2 (fIn false) (gr 2) (g2 fItem (gr 0) (gc (.int 1)))))) Zs (gIt (gr 0)))) gNil)))
def vL:List En->Option En:=mir vw (uo)
def j3:List Str:=["queue","hours","begin"]
def kS (C:Addr):SD:=(sRetD (gCall (len? 1 xy) dctO (nCons (gVal (gCall (len? 3 (mN (yJ C))) frzO (nCons (gn 0) (nCons (gn 1) (nCons (gn 2) nNil))))) nNil)))
def wR (C:Addr):List En->Option En:=mir j3 (kS C)
def yv:List Str:=["queue","hours","begin","name"]
def ul (C:Addr):SD:=(sSeq (sExpr (gCall (len? 2 va) frzO (nCons (gn 0) (nCons (gn 3) nNil)))) (sRet (gGetD (gCall (len? 3 (wR C)) dctO (nCons (gn 0) (nCons (gn 1) (nCons (gn 2) nNil)))) (gr 3))))
def wD (C:Addr):List En->Option En:=mir yv (ul C)
def uy:EnvD->Option D:=(bCall vE (nCons (gn 0) (nCons (gn 3) nNil)))
def vK:List En->Option D:=mirX yv 4 uy
def xf:List Str:=["queue","hours","begin","name","latest"]
def uH (C:Addr):SD:=(sSeq (sSet 4 (gCall (len? 4 (wD C)) frzO (nCons (gn 0) (nCons (gn 1) (nCons (gn 2) (nCons (gn 3) nNil)))))) (sRetT (gFilt ["row"] [("latest",4)] (gb' (g2 fLe (g2 fItem (gr 0) (gc (.int 0))) (gr 1))) (gCall (len? 3 (mN (yJ C))) treO (nCons (gn 0) (nCons (gn 1) (nCons (gn 2) nNil)))))))
def wb (C:Addr):List En->Option En:=mir xf (uH C)
def Z2:EnvD->Option D:=(bCall vK (nCons (gn 0) (nCons (gn 1) (nCons (gn 2) (nCons (gn 3) nNil)))))
def vn:List En->Option D:=mirX xf 4 Z2
def jF:List Str:=["queue","hours","begin","name"]
def Za (C:Addr):SD:=(sRetT (gFilt ["row"] [("name",3)] (gb' (g2 (fIn true) (gr 1) (g2 fItem (gr 0) (gc (.int 1))))) (gCall (len? 4 (wb C)) treO (nCons (gn 0) (nCons (gn 1) (nCons (gn 2) (nCons (gn 3) nNil)))))))
def ye (C:Addr):List En->Option En:=mir jF (Za C)
def kj:EnvD->Option D:=(bCall vn (nCons (gn 0) (nCons (gn 1) (nCons (gn 2) (nCons (gn 3) nNil)))))
def yF:List En->Option D:=mirX jF 4 kj
def yZ:List Str:=["queue","hours","begin","name","waits","ends"]
def ux:EnvD->Option D:=(gTup' (gCons' (gv 0) (gCons' (gCall (len? 3 vL) frzO (nCons (gn 1) (nCons (gn 0) (nCons (gVal (gGetD (gk' 2) (gr 0))) nNil)))) (gCons' (gGetD (gk' 2) (gr 0)) gNil))))
def Zh (C:Addr):SD:=(sSeq (sSet 4 (gCall (len? 4 (ye C)) frzO (nCons (gn 0) (nCons (gn 1) (nCons (gn 2) (nCons (gn 3) nNil)))))) (sSeq (sSetD 5 (gCall (len? 1 xy) dctO (nCons (gn 4) nNil))) (sRetA (gComp ["other"] [("waits",4),("ends",5)] (.name 0) (gb' (gInD false (gr 0) (gk' 2))) ux (gIt (gFz (gCall (len? 1 x6) accO (nCons (gn 0) nNil))))))))
def y6 (C:Addr):List En->Option En:=mir yZ (Zh C)
def Zg:EnvD->Option D:=(bCall yF (nCons (gn 0) (nCons (gn 1) (nCons (gn 2) (nCons (gn 3) nNil)))))
def vG:List En->Option D:=mirX yZ 4 Zg
def xQ:List Str:=["queue","hours","begin","name","rows"]
def ko (C:Addr):SD:=(sRet (g2 (fEq false) (gr 4) (gCall (len? 4 (ye C)) frzO (nCons (gn 0) (nCons (gn 1) (nCons (gn 2) (nCons (gn 3) nNil)))))))
def xg (C:Addr):List En->Option En:=mir xQ (ko C)
def uU:EnvD->Option D:=(bHas 4 (bCall yF (nCons (gn 0) (nCons (gn 1) (nCons (gn 2) (nCons (gn 3) nNil))))))
def vt:List En->Option D:=mirX xQ 5 uU
def jd:List Str:=["_law_script","_law_k"]
def qN:SD:=(sSeq (sIf (gb' (g2 fLt (gr 1) (gB fLen (gCons' (gr 0) gNil)))) (sRet (g2 fItem (gr 0) (gr 1))) sNext) (sRet (gc (.int 0))))
def zU:List En->Option En:=mir jd (qN)
def jM:List Str:=["_law_cell_here","_law_k","_law_number"]
def ue:SD:=(sSeq (sSet 2 (g2 fMod (g2 fPlus (g2 fPlus (g2 fMul (g2 fMod (gr 0) (gc (.int 2147483647))) (gc (.int 48271))) (g2 fMul (gc (.int 69621)) (gr 1))) (gc (.int 7))) (gc (.int 2147483647)))) (sSeq (sSet 2 (g2 fMod (g2 fMul (gr 2) (gr 2)) (gc (.int 2147483629)))) (sRet (g2 fMod (g2 fPlus (g2 fPlus (g2 fMul (gr 2) (gr 2)) (g2 fMul (gc (.int 16807)) (gr 2))) (gc (.int 11))) (gc (.int 2147483587))))))
def v9:List En->Option En:=mir jM (ue)
def wm:List Str:=["_law_script","_law_at_here","_law_base","_law_count","_law_cell_here","_law_found","_law_k"]
def Zw:SD:=(sSeq (sApp 5 (g2 fMod (gr 4) (gr 2))) (sSet 4 (g2 fDiv (gr 4) (gr 2))))
def kL:EnvD->Option D:=(g2 fMod (g2 fDiv (gCall (len? 2 v9) frzO (nCons (gn 2) (nCons (gn 0) nNil))) (gc (.int 8))) (gr 1))
def jA:SD:=(sSeq (sSet 4 (gCall (len? 2 zU) frzO (nCons (gn 0) (nCons (gn 1) nNil)))) (sSeq (sIf (gb' (g2 (fEq false) (g2 fAnd (g2 fShr (gCall (len? 2 zU) frzO (nCons (gn 0) (nCons (gVal (gc (.int 0))) nNil))) (g2 fMod (gr 1) (gc (.int 8)))) (gc (.int 1))) (gc (.int 1)))) (sRetA (gComp ["_law_k"] [("_law_base",2),("_law_cell_here",4)] (.name 0) tYes kL (gR1 (gCons' (gr 3) gNil)))) sNext) (sSeq (sSetA 5 (gLst gNil)) (sSeq (sFor (.name 6) (gR1 (gCons' (gr 3) gNil)) Zw) (sRetV 5)))))
def yo:List En->Option En:=mir wm (jA)
def je:List Str:=["_law_cell_here","_law_many","_law_letters","_law_size","_law_at_here","_law_names_here","_law_k","_law_name","_law_j","_law_step"]
def Zo:SD:=(sSeq (sSet 9 (g2 fDiv (gr 0) (g2 fPlus (gc (.int 64)) (g2 fMul (gc (.int 5)) (gr 8))))) (sSeq (sIf (gb' (g2 (fEq false) (gr 8) (gr 4))) (sSet 9 (g2 fPlus (gr 9) (g2 fMod (gr 6) (gc (.int 26))))) sNext) (sSeq (sIf (gb' (g2 (fEq false) (gr 8) (g2 fMod (g2 fPlus (gr 4) (gc (.int 1))) (gr 3)))) (sSet 9 (g2 fPlus (gr 9) (g2 fDiv (gr 6) (gc (.int 26))))) sNext) (sIf (gb' (g2 (fEq false) (gr 8) (gc (.int 0)))) (sSet 7 (g2 fPlus (gr 7) (g2 fItem (gr 2) (g2 fMod (gr 9) (gc (.int 26)))))) (sSet 7 (g2 fPlus (gr 7) (g2 fItem (g2 fPlus (gr 2) (gc (.str "0123456789"))) (g2 fMod (gr 9) (gc (.int 36))))))))))
def Z7:SD:=(sSeq (sSet 7 (gc (.str ""))) (sSeq (sFor (.name 8) (gR1 (gCons' (gr 3) gNil)) Zo) (sApp 5 (gv 7))))
def jO:SD:=(sSeq (sSet 2 (gc (.str "abcdefghijklmnopqrstuvwxyz"))) (sSeq (sSet 3 (g2 fPlus (gc (.int 2)) (g2 fMod (gr 0) (gc (.int 7))))) (sSeq (sIf (gb' (g2 fLe (gr 1) (gc (.int 26)))) (sSet 3 (g2 fPlus (gc (.int 1)) (g2 fMod (gr 0) (gc (.int 8))))) sNext) (sSeq (sSet 4 (g2 fMod (g2 fDiv (gr 0) (gc (.int 8))) (gr 3))) (sSeq (sSetA 5 (gLst gNil)) (sSeq (sFor (.name 6) (gR1 (gCons' (gr 1) gNil)) Z7) (sRetV 5)))))))
def xR:List En->Option En:=mir je (jO)
def qv:List Str:=["_law_rows_here","_law_days_here","_law_turns","_law_counters_here"]
def Zf:SD:=(sSet 1 (gFz (g2 fCatS (gr 1) (gFz (g2 fRep (gFz (gLst (gCons' (gv 3) gNil))) (gr 2))))))
def kz:SD:=(sSeq (sSet 1 (gFz (gLst gNil))) (sSeq (sFor (.tup [2,3]) (gIt (gf 0)) Zf) (sRetV 1)))
def vj:List En->Option En:=mir qv (kz)
def v5:List Str:=["_law_days_here","_law_rest","_law_turn"]
def jD:SD:=(sSeq (sIf (gb' (g2 fLt (gr 2) (gB fLen (gCons' (gr 0) gNil)))) (sRet (g2 fItem (gr 0) (gr 2))) sNext) (sRetV 1))
def y7:List En->Option En:=mir v5 (jD)
def jh:List Str:=["_law_queue_here","_law_days_here","_law_rest","_law_begin","_law_left","_law_rows_here","_law_turn","_law_names_here","_law_name"]
def uc:SD:=(sPutD 4 (gr 8) (g2 fSub (gGetD (gk' 4) (gr 8)) (gc (.int 1))))
def qD:EnvD->Option D:=(gv 0)
def jL:SD:=(sSeq (sSet 7 (gFz (gSl (gFz (gComp ["_law_name"] [("_law_left",4)] (.name 0) (gb' (g2 fGt (gGetD (gk' 1) (gr 0)) (gc (.int 0)))) qD (gKeys (gk' 4)))) gNone (gSome (gCall (len? 3 y7) frzO (nCons (gn 1) (nCons (gn 2) (nCons (gn 6) nNil)))))))) (sSeq (sFor (.name 8) (gIt (gf 7)) uc) (sSeq (sApp 5 (gTup' (gCons' (gv 6) (gCons' (gv 7) gNil)))) (sSet 6 (g2 fPlus (gr 6) (gc (.int 1)))))))
def Zy:SD:=(sSeq (sSetD 4 (gB fDict (gCons' (gr 0) gNil))) (sSeq (sSetA 5 (gLst gNil)) (sSeq (sSet 6 (gv 3)) (sSeq (sWhile (gb' (g2 fGt (gB fMaxL (gCons' (gFz (g2 fCatS (gFz (gVals (gk' 4))) (gFz (gLst (gCons' (gc (.int 0)) gNil))))) gNil)) (gc (.int 0)))) jL) (sRetV 5)))))
def vQ:List En->Option En:=mir jh (Zy)
def wT:List Str:=["_law_script","_law_sizes","_law_many","_law_most","_law_lefts"]
def jn:EnvD->Option D:=(gTup' (gCons' (gv 0) (gCons' (g2 fPlus (gc (.int 1)) (gr 1)) gNil)))
def qo:SD:=(sSeq (sSet 1 (g2 fItem (gFz (gCall (len? 4 yo) accO (nCons (gn 0) (nCons (gVal (gc (.int 1))) (nCons (gVal (gc (.int 88))) (nCons (gVal (gc (.int 1))) nNil)))))) (gc (.int 0)))) (sSeq (sSet 2 (g2 fPlus (gc (.int 1)) (g2 fMod (gr 1) (gc (.int 10))))) (sSeq (sSet 3 (gc (.int 20))) (sSeq (sIf (gb' (g2 (fEq false) (g2 fDiv (gr 1) (gc (.int 11))) (gc (.int 7)))) (sSeq (sSet 2 (g2 fPlus (gc (.int 11)) (g2 fMod (g2 fDiv (gCall (len? 2 zU) frzO (nCons (gn 0) (nCons (gVal (gc (.int 1))) nNil))) (gc (.int 88))) (gc (.int 50))))) (sSet 3 (gc (.int 3)))) sNext) (sSeq (sSet 4 (gFz (gCall (len? 4 yo) accO (nCons (gn 0) (nCons (gVal (gc (.int 2))) (nCons (gn 3) (nCons (gn 2) nNil))))))) (sRetA (gComp ["_law_name","_law_left"] [] (.tup [0,1]) tYes jn (gZip (gCons' (gFz (gCall (len? 2 xR) accO (nCons (gVal (gCall (len? 2 zU) frzO (nCons (gn 0) (nCons (gVal (gc (.int 3))) nNil)))) (nCons (gn 2) nNil)))) (gCons' (gr 4) gNil))))))))))
def wr:List En->Option En:=mir wT (qo)
def qm:List Str:=["_law_queue_here","_law_run_here","_law_name","_law_waits","_law_left","_law_turn","_law_names_here"]
def jf:SD:=(sIf (gAnd (gb' (g2 fGt (gr 4) (gc (.int 0)))) (gb' (g2 (fIn false) (gr 2) (gr 6)))) (sSet 4 (g2 fSub (gr 4) (gc (.int 1)))) (sIf (gb' (g2 fGt (gr 4) (gc (.int 0)))) (sApp 3 (gTup' (gCons' (gv 5) (gCons' (gv 6) gNil)))) sNext))
def kO:SD:=(sSeq (sSetA 3 (gLst gNil)) (sSeq (sSet 4 (gGetD (gB fDict (gCons' (gr 0) gNil)) (gr 2))) (sSeq (sFor (.tup [5,6]) (gIt (gf 1)) jf) (sRetV 3))))
def yE:List En->Option En:=mir qm (kO)
def vH:List Str:=["_law_queue_here","_law_waits","_law_found","_law_name","_law_left","_law_turns"]
def WS:EnvD->Option D:=(gv 0)
def jm:SD:=(sSeq (sSet 5 (gFz (gComp ["_law_turn","_law_names_here"] [("_law_name",3)] (.tup [0,1]) (gb' (g2 (fIn false) (gr 2) (gr 1))) WS (gIt (gr 1))))) (sIf (gb' (g2 (fEq true) (gr 5) (gFz (gLst gNil)))) (sApp 2 (gTup' (gCons' (gv 3) (gCons' (gB fLen (gCons' (gr 5) gNil)) (gCons' (g2 fItem (gr 5) (gNeg (gc (.int 1)))) gNil))))) sNext))
def ZC:SD:=(sSeq (sSetA 2 (gLst gNil)) (sSeq (sFor (.tup [3,4]) (gIt (gf 0)) jm) (sRetV 2)))
def xE:List En->Option En:=mir vH (ZC)
def qP:List Str:=["_law_found","_law_due_here","_law_row_here"]
def kA:SD:=(sIf (gOr (gNot (gt (gIs "tuple" (gr 2)))) (gOr (gt (gIs "bool" (g2 fItem (gr 2) (gc (.int 0))))) (gNot (gt (gIs "list" (g2 fItem (gr 2) (gc (.int 1)))))))) (sRet (gc (.bl false))) sNext)
def Zu:SD:=(sSeq (sIf (gOr (gNot (gt (gIs "list" (gr 0)))) (gb' (g2 (fEq true) (gr 0) (gr 1)))) (sRet (gc (.bl false))) sNext) (sSeq (sFor (.name 2) (gIt (gf 0)) kA) (sRet (gc (.bl true)))))
def wZ:List En->Option En:=mir qP (Zu)
def wu:List Str:=["_law_queue_here","_law_waits","_law_days_here","_law_rest","_law_name","_law_names_here","_law_ahead","_law_turn","_law_some"]
def JG:EnvD->Option D:=(gv 0)
def Zm:SD:=(sIf (gOr (gb' (g2 (fEq true) (gB fLen (gCons' (gr 8) gNil)) (gCall (len? 3 y7) frzO (nCons (gn 2) (nCons (gn 3) (nCons (gn 7) nNil)))))) (gb' (g2 fGt (gB fLen (gCons' (gFz (gComp ["_law_one"] [("_law_ahead",6)] (.name 0) (gb' (g2 (fIn true) (gr 0) (gr 1))) JG (gIt (gr 8)))) gNil)) (gc (.int 0))))) (sRet (gc (.bl false))) sNext)
def V7:EnvD->Option D:=(g2 fItem (gr 0) (gc (.int 0)))
def ui:SD:=(sSeq (sSet 5 (gFz (gComp ["_law_row_here"] [] (.name 0) tYes V7 (gIt (gr 0))))) (sSeq (sSet 6 (gFz (gSl (gr 5) gNone (gSome (gSM fIndex (gr 5) (gCons' (gr 4) gNil)))))) (sSeq (sFor (.tup [7,8]) (gIt (gf 1)) Zm) (sRet (gc (.bl true))))))
def wB:List En->Option En:=mir wu (ui)
def vW:List Str:=["_law_queue_here","_law_hours","_law_begin","_law_run_here","_law_name","_law_due_here","_law_found","_law_tolls_here","_law_row_here"]
def uE:EnvD->Option D:=(gTup' (gCons' (gv 0) (gCons' (gFz (gB fList (gCons' (gr 1) gNil))) gNil)))
def jQ (C:Addr):SD:=(sSeq (sSet 5 (gFz (gCall (len? 3 yE) accO (nCons (gn 0) (nCons (gn 3) (nCons (gn 4) nNil)))))) (sSeq (sSetT 6 (gCall (len? 4 (ye C)) treO (nCons (gn 0) (nCons (gn 1) (nCons (gn 2) (nCons (gn 4) nNil)))))) (sSeq (sSetA 7 (gCall (len? 4 (y6 C)) accO (nCons (gn 0) (nCons (gn 1) (nCons (gn 2) (nCons (gn 4) nNil)))))) (sSeq (sIf (gOr (gNot (gt (gCall (len? 2 wZ) scaO (nCons (gz 6) (nCons (gn 5) nNil))))) (gOr (gNot (gt (gIs "list" (gr 7)))) (gb' (g2 (fEq true) (gr 7) (gFz (gCall (len? 2 xE) accO (nCons (gn 0) (nCons (gn 5) nNil)))))))) (sRet (gc (.bl false))) sNext) (sSeq (sIf (gb' (g2 (fIsB true) (gCall (len? 5 (xg C)) scaO (nCons (gn 0) (nCons (gn 1) (nCons (gn 2) (nCons (gn 4) (nCons (gz 6) nNil)))))) (gc (.bl true)))) (sRet (gc (.bl false))) sNext) (sSeq (sAllT 6 8 1 yK [.str "a"]) (sSeq (sClrT 6) (sSeq (sApp 7 (gTup' (gCons' (gc (.str "a")) (gCons' (gc (.int 1)) (gCons' (gc (.int 1)) gNil))))) (sSeq (sIf (gb' (g2 (fIsB true) (gCall (len? 5 (xg C)) frzO (nCons (gn 0) (nCons (gn 1) (nCons (gn 2) (nCons (gn 4) (nCons (gVal (gFz (gComp ["_law_turn","_law_names_here"] [] (.tup [0,1]) tYes uE (gIt (gr 5))))) nNil)))))) (gc (.bl true)))) (sRet (gc (.bl false))) sNext) (sRet (g2 (fEq false) (gFz (gCall (len? 4 (y6 C)) accO (nCons (gn 0) (nCons (gn 1) (nCons (gn 2) (nCons (gn 4) nNil)))))) (gFz (gCall (len? 2 xE) accO (nCons (gn 0) (nCons (gn 5) nNil)))))))))))))))
def xU (C:Addr):List En->Option En:=mir vW (jQ C)
def wJ:List Str:=["_law_queue_here","_law_hours","_law_begin","_law_name","_law_which","_law_told","e"]
def vv:SD:=(sSeq (sSet 5 (gc .non)) (sSeq (sTryS 5 3 6 (bIf (gb' (g2 (fEq false) (gr 4) (gc (.int 0)))) (bCall yF (nCons (gn 0) (nCons (gn 1) (nCons (gn 2) (nCons (gn 3) nNil))))) (bIf (gb' (g2 (fEq false) (gr 4) (gc (.int 1)))) (bCall vG (nCons (gn 0) (nCons (gn 1) (nCons (gn 2) (nCons (gn 3) nNil))))) (bCall vt (nCons (gn 0) (nCons (gn 1) (nCons (gn 2) (nCons (gn 3) (nCons (gVal (gFz (gLst gNil))) nNil))))))))) (sRet (g2 (fIsB false) (gr 5) (gc (.bl true))))))
def yA:List En->Option En:=mir wJ (vv)
def xh:List Str:=["_law_queue_here","_law_hours","_law_begin","_law_run_here","_law_name","_law_days_here","_law_rest","_law_waits","_law_last","_law_turns"]
def qU:EnvD->Option D:=(gCall (len? 3 y7) frzO (nCons (gn 2) (nCons (gn 3) (nCons (gn 0) nNil))))
def uC:EnvD->Option D:=(g2 fItem (gr 0) (gc (.int 1)))
def J0:EnvD->Option D:=(gv 0)
def j6 (C:Addr):SD:=(sSeq (sSet 7 (gFz (gCall (len? 3 yE) accO (nCons (gn 0) (nCons (gn 3) (nCons (gn 4) nNil)))))) (sSeq (sSet 8 (gB fMaxL (gCons' (gFz (gComp ["_law_turn","_law_names_here"] [("_law_name",4)] (.tup [0,1]) (gb' (g2 (fIn false) (gr 2) (gr 1))) J0 (gIt (gr 3)))) gNil))) (sSeq (sIf (gb' (g2 (fEq true) (gr 8) (g2 fSub (g2 fPlus (g2 fPlus (gr 2) (gGetD (gB fDict (gCons' (gr 0) gNil)) (gr 4))) (gB fLen (gCons' (gr 7) gNil))) (gc (.int 1))))) (sRet (gc (.bl false))) sNext) (sSeq (sSet 9 (gB fSumL (gCons' (gFz (gComp ["_law_row_here"] [] (.name 0) tYes uC (gIt (gFz (gCall (len? 4 (y6 C)) accO (nCons (gn 0) (nCons (gn 1) (nCons (gn 2) (nCons (gn 4) nNil))))))))) gNil))) (sSeq (sIf (gb' (g2 (fEq true) (gr 9) (gB fSumL (gCons' (gFz (gComp ["_law_turn","_law_names_here"] [("_law_days_here",5),("_law_rest",6)] (.tup [0,1]) tYes qU (gIt (gr 7)))) gNil)))) (sRet (gc (.bl false))) sNext) (sRet (gCall (len? 5 wB) frzO (nCons (gn 0) (nCons (gVal (gCall (len? 4 (ye C)) frzO (nCons (gn 0) (nCons (gn 1) (nCons (gn 2) (nCons (gn 4) nNil)))))) (nCons (gn 5) (nCons (gn 6) (nCons (gn 4) nNil))))))))))))
def xn (C:Addr):List En->Option En:=mir xh (j6 C)
def vA:List Str:=["_law_script","_law_queue_here","_law_rows_here","_law_days_here","_law_rest","_law_hours","_law_begin","_law_run_here","_law_handed","_law_place","_law_name","_law_far","_law_which"]
def Yi:EnvD->Option D:=(g2 fItem (gr 0) (gc (.int 0)))
def wX:SD:=(sIf (gNot (gt (gCall (len? 5 yA) frzO (nCons (gn 8) (nCons (gn 5) (nCons (gn 6) (nCons (gn 11) (nCons (gn 12) nNil)))))))) (sRet (gc (.bl false))) sNext)
def jW (C:Addr):SD:=(sSeq (sSet 10 (g2 fItem (g2 fItem (gr 1) (gr 9)) (gc (.int 0)))) (sSeq (sIf (gNot (gt (gCall (len? 5 (xU C)) frzO (nCons (gn 8) (nCons (gn 5) (nCons (gn 6) (nCons (gn 7) (nCons (gn 10) nNil)))))))) (sRet (gc (.bl false))) sNext) (sIf (gNot (gt (gCall (len? 7 (xn C)) frzO (nCons (gn 8) (nCons (gn 5) (nCons (gn 6) (nCons (gn 7) (nCons (gn 10) (nCons (gn 3) (nCons (gn 4) nNil)))))))))) (sRet (gc (.bl false))) sNext)))
def Zc (C:Addr):SD:=(sSeq (sSet 7 (gFz (gCall (len? 4 vQ) accO (nCons (gn 1) (nCons (gn 3) (nCons (gn 4) (nCons (gn 6) nNil))))))) (sSeq (sSet 8 (gFz (gB fList (gCons' (gr 1) gNil)))) (sSeq (sFor (.name 9) (gIt (gFz (g2 fCatS (gFz (gLst (gCons' (gc (.int 0)) (gCons' (g2 fSub (gB fLen (gCons' (gr 1) gNil)) (gc (.int 1))) gNil)))) (gFz (gCall (len? 4 yo) accO (nCons (gn 0) (nCons (gVal (gc (.int 7))) (nCons (gVal (gB fLen (gCons' (gr 1) gNil))) (nCons (gVal (gB fMin (gCons' (gc (.int 4)) (gCons' (gB fLen (gCons' (gr 1) gNil)) gNil)))) nNil))))))))) (jW C)) (sSeq (sSet 11 (g2 fPlus (gSlS (g2 fItem (g2 fItem (gr 1) (gc (.int 0))) (gc (.int 0))) gNone (gSome (gc (.int 7)))) (gc (.str "0")))) (sSeq (sIf (gb' (g2 (fIn true) (gr 11) (gFz (gComp ["_law_row_here"] [] (.name 0) tYes Yi (gIt (gr 1)))))) (sFor (.name 12) (gR1 (gCons' (gc (.int 3)) gNil)) wX) sNext) (sRet (gAndV (g2 (fEq false) (gr 8) (gr 1)) (gCall (len? 5 yA) frzO (nCons (gVal (gFz (gLst gNil))) (nCons (gn 5) (nCons (gn 6) (nCons (gn 11) (nCons (gVal (gc (.int 0))) nNil)))))))))))))
def Z8:EnvD->Option D:=(gTup' (gCons' (g2 fPlus (gc (.int 1)) (g2 fMod (gr 0) (gc (.int 9)))) (gCons' (g2 fDiv (gr 0) (gc (.int 9))) gNil)))
def vV (C:Addr):SD:=(sSeq (sSet 1 (gFz (gCall (len? 1 wr) accO (nCons (gn 0) nNil)))) (sSeq (sSet 2 (gFz (gComp ["_law_step"] [] (.name 0) tYes Z8 (gIt (gFz (gCall (len? 4 yo) accO (nCons (gn 0) (nCons (gVal (gc (.int 4))) (nCons (gVal (gc (.int 81))) (nCons (gVal (g2 fMod (gCall (len? 2 zU) frzO (nCons (gn 0) (nCons (gVal (gc (.int 5))) nNil))) (gc (.int 7)))) nNil)))))))))) (sSeq (sSet 3 (gCall (len? 1 vj) frzO (nCons (gn 2) nNil))) (sSeq (sSet 4 (g2 fPlus (gc (.int 1)) (g2 fMod (g2 fDiv (gCall (len? 2 zU) frzO (nCons (gn 0) (nCons (gVal (gc (.int 5))) nNil))) (gc (.int 7))) (gc (.int 8))))) (sSeq (sSet 5 (gMake C 2 (xZ C) (nCons (gn 2) (nCons (gn 4) nNil)))) (sSeq (sSet 6 (g2 fMod (g2 fDiv (gCall (len? 2 zU) frzO (nCons (gn 0) (nCons (gVal (gc (.int 6))) nNil))) (gc (.int 2))) (gc (.int 60)))) (sSeq (sIf (gb' (g2 (fEq false) (g2 fMod (gCall (len? 2 zU) frzO (nCons (gn 0) (nCons (gVal (gc (.int 6))) nNil))) (gc (.int 2))) (gc (.int 1)))) (sSet 6 (g2 fMod (g2 fDiv (gCall (len? 2 zU) frzO (nCons (gn 0) (nCons (gVal (gc (.int 6))) nNil))) (gc (.int 2))) (g2 fPow (gc (.int 10)) (gc (.int 5))))) sNext) (Zc C))))))))
def Rh (C:Addr):List En->Option En:=mir vA (vV C)
structure Txt (K:PySem.W.Frag)(mg:Str->Option Value)(C:Addr):Prop where
 cl:Cls K C
 n_kept_rest:NoAttr K C "kept_rest"
 n_spans:NoAttr K C "spans"
 b_all:mg "all" = none
 b_bool:mg "bool" = none
 b_dict:mg "dict" = none
 b_enumerate:mg "enumerate" = none
 b_int:mg "int" = none
 b_isinstance:mg "isinstance" = none
 b_len:mg "len" = none
 b_list:mg "list" = none
 b_max:mg "max" = none
 b_min:mg "min" = none
 b_range:mg "range" = none
 b_str:mg "str" = none
 b_sum:mg "sum" = none
 b_tuple:mg "tuple" = none
 b_zip:mg "zip" = none
 c_FIGURES':∃t,mg "FIGURES" = some (.str "0123456789" t)
 c_LETTERS':∃t,mg "LETTERS" = some (.str "abcdefghijklmnopqrstuvwxyz" t)
 c_MOST_COUNTERS':∃t,mg "MOST_COUNTERS" = some (.int 8 t)
 c_MOST_ROWS':∃t,mg "MOST_ROWS" = some (.int 16 t)
 c_MOST_SIGNS':∃t,mg "MOST_SIGNS" = some (.int 8 t)
 c_MOST_TURNS':∃t,mg "MOST_TURNS" = some (.int 100 t)
section
variable {P:Program}{w:World}{K:PySem.W.Frag}{mg:Str->Option Value}{base:Heap}{C:Addr}
theorem YJ:FnScope ["thing"] ["thing"] (zd ww):=⟨rfl,rfl,rfl,by decide +kernel,rfl,by decide +kernel,by decide +kernel⟩
theorem zc6 {f:Addr}{fd:FuncData}(T:Txt K mg C)(F:Fun K "is_whole" "is_whole" ww f fd):FnOk P w K mg base CX0 1 f fd ["thing"] (pSp ⟨K,w⟩ 1 (len? 1 (mir ["thing"] kZ))):=by
 have sc:=YJ
 refine zv (k:=0) F YJ (λcdv A outer s H E B hr=>?_)
 exact (zf (zC (vh (y9 (kitT "int" (by decide)) (by rfl) T.b_isinstance (by rfl) T.b_int (by decide +kernel) (zb 0 (pv 0))) (vF (zas (y9 (kitT "bool" (by decide)) (by rfl) T.b_isinstance (by rfl) T.b_bool (by decide +kernel) (zb 0 (pv 0))))))))
theorem V2:FnScope jj ["thing","low","high"] (zd w9):=⟨rfl,rfl,rfl,by decide +kernel,rfl,by decide +kernel,by decide +kernel⟩
theorem Re {f:Addr}{fd:FuncData}(T:Txt K mg C)(F:Fun K "is_number" "is_number" w9 f fd) (Hai:Fx P w K mg base "is_whole" 1 1 jg):FnOk P w K mg base CX0 2 f fd ["thing","low","high"] (pSp ⟨K,w⟩ 3 (len? 3 (mir jj Z6))):=by
 have sc:=V2
 refine zv (k:=1) F V2 (λcdv A outer s H E B hr=>?_)
 exact (zf (zC (vh (zt Hai (hr.mono (by decide)) (by rfl) (za (zc 0 (pv 0)) zh)) (vF (GF xK xK xS xS (zb 1 (pv 1)) (zb 0 (pv 0)) (zb 2 (pv 2)))))))
theorem Ve:FnScope ["thing"] ["thing"] (zd xP):=⟨rfl,rfl,rfl,by decide +kernel,rfl,by decide +kernel,by decide +kernel⟩
theorem Kn {f:Addr}{fd:FuncData}(T:Txt K mg C)(F:Fun K "is_name" "is_name" xP f fd):FnOk P w K mg base CX0 1 f fd ["thing"] (pSp ⟨K,w⟩ 1 (len? 1 (mir ["thing"] kg))):=by
 obtain⟨tok_FIGURES,t_FIGURES⟩:=T.c_FIGURES'
 obtain⟨tok_LETTERS,t_LETTERS⟩:=T.c_LETTERS'
 obtain⟨tok_MOST_SIGNS,t_MOST_SIGNS⟩:=T.c_MOST_SIGNS'
 have sc:=Ve
 refine zv (k:=0) F Ve (λcdv A outer s H E B hr=>?_)
 exact (ze (zq (yz (yI (yh (zO (DE.read (y9 (kitT "str" (by decide)) (by rfl) T.b_isinstance (by rfl) T.b_str (by decide +kernel) (zb 0 (pv 0)))) (by intro _;rfl))) (xJ (yh (zai xK xK xS xS de_int.read (DE.read (yc (by rfl) T.b_len (zy (zb 0 (pv 0)) z9))) (DE.read (yW (v:=.int 8) (by rfl) t_MOST_SIGNS (by exact⟨_,rfl⟩) (by intro _;rfl)))))))) (zf (zC zQ)) z7) (zf (zC (vh (wc wa ok_in (DE.read (zx (zb 0 (pv 0)) de_int.read (by intro _ _;rfl))) (DE.read (yW (v:=.str "abcdefghijklmnopqrstuvwxyz") (by rfl) t_LETTERS (by exact⟨_,rfl⟩) (by intro _;rfl))) (by rfl)) (vF (V1 (by rfl) (by rfl) T.b_all (zy (DA.read (yf (own:=["sign"]) (cap:=[]) (t:=(.name 0)) (by rfl) (zL (sc:=(zd xP).names) (N:=["thing"]) (by rfl) (by rfl) (by rfl) (by decide +kernel)) (Ry (zb 0 (pv 0))) (by decide) (λB' C' s₀ H₀ fp pn=>⟨(zi (i:=0) (show List.Nodup (["sign"]:List Str) from by decide +kernel) (by rfl) (locl (by rfl))),y1,(wc wa ok_in (zb 0 (pv 0)) (DE.read (zD (DE.read (yW (v:=.str "abcdefghijklmnopqrstuvwxyz") (by rfl) t_LETTERS (by exact⟨_,rfl⟩) (by intro _;rfl))) (DE.read (yW (v:=.str "0123456789") (by rfl) t_FIGURES (by exact⟨_,rfl⟩) (by intro _;rfl))))) (by rfl))⟩))) z9)))))))
theorem V0:FnScope ["thing"] ["thing"] (zd we):=⟨rfl,rfl,rfl,by decide +kernel,rfl,by decide +kernel,by decide +kernel⟩
theorem Q6 {f:Addr}{fd:FuncData}(T:Txt K mg C)(F:Fun K "is_row" "is_row" we f fd) (Hag:Fx P w K mg base "is_number" 2 3 yU):FnOk P w K mg base CX0 3 f fd ["thing"] (pSp ⟨K,w⟩ 1 (len? 1 (mir ["thing"] uz))):=by
 obtain⟨tok_MOST_COUNTERS,t_MOST_COUNTERS⟩:=T.c_MOST_COUNTERS'
 obtain⟨tok_MOST_TURNS,t_MOST_TURNS⟩:=T.c_MOST_TURNS'
 have sc:=V0
 refine zv (k:=2) F V0 (λcdv A outer s H E B hr=>?_)
 exact (ze (zq (yz (yI (yh (zO (DE.read (y9 (kitT "tuple" (by decide)) (by rfl) T.b_isinstance (by rfl) T.b_tuple (by decide +kernel) (zb 0 (pv 0)))) (by intro _;rfl))) (xJ (zn (xw hr.units) zK (DE.read (yc (by rfl) T.b_len (zy (zb 0 (pv 0)) z9))) de_int.read (nomark _))))) (zf (zC zQ)) z7) (zf (zC (vh (zt Hag (hr.mono (by decide)) (by rfl) (za (zr (zx (zb 0 (pv 0)) de_int.read (by intro _ _;rfl))) (za (zr de_int) (za (zr (yW (v:=.int 100) (by rfl) t_MOST_TURNS (by exact⟨_,rfl⟩) (by intro _;rfl))) zh)))) (vF (zt Hag (hr.mono (by decide)) (by rfl) (za (zr (zx (zb 0 (pv 0)) de_int.read (by intro _ _;rfl))) (za (zr de_int) (za (zr (yW (v:=.int 8) (by rfl) t_MOST_COUNTERS (by exact⟨_,rfl⟩) (by intro _;rfl))) zh)))))))))
theorem Jd:FnScope ve ["rows","rest"] (zd xV):=⟨rfl,rfl,rfl,by decide +kernel,rfl,by decide +kernel,by decide +kernel⟩
theorem GW {f:Addr}{fd:FuncData}(T:Txt K mg C)(F:Fun K "check_hours" "check_hours" xV f fd) (Hag:Fx P w K mg base "is_number" 2 3 yU) (Hah:Fx P w K mg base "is_row" 3 1 vC):FnOk P w K mg base CX0 4 f fd ["rows","rest"] (pSp ⟨K,w⟩ 2 (len? 2 (mir ve uj))):=by
 obtain⟨tok_MOST_COUNTERS,t_MOST_COUNTERS⟩:=T.c_MOST_COUNTERS'
 obtain⟨tok_MOST_ROWS,t_MOST_ROWS⟩:=T.c_MOST_ROWS'
 have sc:=Jd
 refine zv (k:=3) F Jd (λcdv A outer s H E B hr=>?_)
 exact (ze (zq (yz (yI (yh (zO (DE.read (y9 (kitT "list" (by decide)) (by rfl) T.b_isinstance (by rfl) T.b_list (by decide +kernel) (zb 0 (pv 0)))) (by intro _;rfl))) (xJ (zn xb yS (DE.read (yc (by rfl) T.b_len (zy (zb 0 (pv 0)) z9))) (DE.read (yW (v:=.int 16) (by rfl) t_MOST_ROWS (by exact⟨_,rfl⟩) (by intro _;rfl))) (nomark _))))) (zf jy) z7) (ze (zq (yh (zO (DE.read (V1 (by rfl) (by rfl) T.b_all (zy (DA.read (yf (own:=["row"]) (cap:=[]) (t:=(.name 0)) (by rfl) (zL (sc:=(zd xV).names) (N:=ve) (by rfl) (by rfl) (by rfl) (by decide +kernel)) (zG hb1 (DR.cur (zb 0 (pv 0)))) (by decide) (λB' C' s₀ H₀ fp pn=>⟨(zi (i:=0) (show List.Nodup (["row"]:List Str) from by decide +kernel) (by rfl) (locl (by rfl))),y1,(zt Hah (hr.mono (by decide)) (by rfl) (za (zc 0 (pv 0)) zh))⟩))) z9))) (by intro _;rfl))) (zf jy) z7) (zf (zq (yh (zO (DE.read (zt Hag (hr.mono (by decide)) (by rfl) (za (zc 1 (pv 1)) (za (zr de_int) (za (zr (yW (v:=.int 8) (by rfl) t_MOST_COUNTERS (by exact⟨_,rfl⟩) (by intro _;rfl))) zh))))) (by intro _;rfl))) (zf jy) z7))))
theorem Wk:FnScope jN ["rows","rest"] (zd wC):=⟨rfl,rfl,rfl,by decide +kernel,rfl,by decide +kernel,by decide +kernel⟩
theorem Kl {f:Addr}{fd:FuncData}(T:Txt K mg C)(F:Fun K "kept_rows" "kept_rows" wC f fd):FnOk P w K mg base CX0 1 f fd ["rows","rest"] (pSp ⟨K,w⟩ 2 (len? 2 (mir jN uA))):=by
 have sc:=Wk
 refine zv (k:=0) F Wk (λcdv A outer s H E B hr=>?_)
 exact (ze (yT (i:=2) sc.nd (by rfl) (locl (by rfl)) (ya zF)) (ze (zS (t:=(.tup [3,4])) PassesOwn.never (by rfl) (zG hb0 (yq 0 (pv 0))) (zY (by rfl) (zA (zi (i:=3) sc.nd (by rfl) (locl (by rfl))) (zA (zi (i:=4) sc.nd (by rfl) (locl (by rfl))) zW))) (zf (zq (yz (qK (zO (zb 2 (pv 2)) (by intro _;rfl)) (jU (zn (zZ hr.units) zK (DE.read (zx (DE.read (zx (zb 2 (pv 2)) (DE.read (vZ de_int.read)) (by intro _ _;rfl))) de_int.read (by intro _ _;rfl))) (zb 4 (pv 4)) (nomark _))))) (zf (zbu 2 (pv 2) (vZ de_int.read) (yt (z8 (zD (DE.read (zx (DE.read (zx (zb 2 (pv 2)) (DE.read (vZ de_int.read)) (by intro _ _;rfl))) de_int.read (by intro _ _;rfl))) (zb 3 (pv 3))) (z8 (zu 4 (pv 4)) zF))))) (zf (zq (zn xb yS (zb 3 (pv 3)) de_int.read (nomark _)) (zf (yY 2 (pv 2) (yt (z8 (zu 3 (pv 3)) (z8 (zu 4 (pv 4)) zF))))) z7))))) (ze (zq (yz (qK (zO (zb 2 (pv 2)) (by intro _;rfl)) (jU (zn (zZ hr.units) zK (DE.read (zx (DE.read (zx (zb 2 (pv 2)) (DE.read (vZ de_int.read)) (by intro _ _;rfl))) de_int.read (by intro _ _;rfl))) (zb 1 (pv 1)) (nomark _))))) (zf (Kr 2 R7 (pv 2))) z7) (zf (yx 2 (pv 2))))))
theorem Wn:FnScope qJ ["rows"] (zd wO):=⟨rfl,rfl,rfl,by decide +kernel,rfl,by decide +kernel,by decide +kernel⟩
theorem K2 {f:Addr}{fd:FuncData}(T:Txt K mg C)(F:Fun K "spans_of" "spans_of" wO f fd):FnOk P w K mg base CX0 1 f fd ["rows"] (pSp ⟨K,w⟩ 1 (len? 1 (mir qJ ZD))):=by
 have sc:=Wn
 refine zv (k:=0) F Wn (λcdv A outer s H E B hr=>?_)
 exact (ze (yT (i:=1) sc.nd (by rfl) (locl (by rfl)) (ya zF)) (ze (zj (i:=2) sc.nd (by rfl) (locl (by rfl)) de_int) (ze (zS (t:=(.tup [3,4])) PassesOwn.never (by rfl) (zG hb0 (yq 0 (pv 0))) (zY (by rfl) (zA (zi (i:=3) sc.nd (by rfl) (locl (by rfl))) (zA (zi (i:=4) sc.nd (by rfl) (locl (by rfl))) zW))) (ze (yY 1 (pv 1) (yt (z8 (zu 2 (pv 2)) (z8 (zD (zb 2 (pv 2)) (zb 3 (pv 3))) (z8 (zu 4 (pv 4)) zF))))) (zf (zj (i:=2) sc.nd (by rfl) (locl (by rfl)) (zD (zb 2 (pv 2)) (zb 3 (pv 3))))))) (zf (yx 1 (pv 1))))))
theorem Ys:FnScope ja ["self","rows","rest"] (zd wp):=⟨rfl,rfl,rfl,by decide +kernel,rfl,by decide +kernel,by decide +kernel⟩
theorem RU {f:Addr}{fd:FuncData}(T:Txt K mg C)(F:Fun K "__init__" "Hours.__init__" wp f fd) (Ha5:Fx P w K mg base "spans_of" 1 1 vg) (Haj:Fx P w K mg base "kept_rows" 1 2 vJ) (Hac:Fx P w K mg base "check_hours" 4 2 vz):FnOk P w K mg base CX0 5 f fd ["self","rows","rest"] (iSp ⟨K,w⟩ C 2 (mirI C ["self","rows","rest"] (ji C))):=by
 have sc:=Ys
 refine Gc (k:=4) F Ys rfl (λcdv A outer s H E B hr=>?_)
 exact (ze (JD (zt Hac (hr.mono (by decide)) (by rfl) (za (zc 1 (pv 1)) (za (zc 2 (pv 2)) zh)))) (ze (ZM 0 T.cl T.n_kept_rest (pv 0) (zu 2 (pv 2))) (zf (ZM 0 T.cl T.n_spans (pv 0) (zt Ha5 (hr.mono (by decide)) (by rfl) (za (zr (zt Haj (hr.mono (by decide)) (by rfl) (za (zc 1 (pv 1)) (za (zc 2 (pv 2)) zh)))) zh))))))
theorem WA:FnScope jE ["self","turn"] (zd wK):=⟨rfl,rfl,rfl,by decide +kernel,rfl,by decide +kernel,by decide +kernel⟩
theorem zdm {f:Addr}{fd:FuncData}(T:Txt K mg C)(F:Fun K "at" "Hours.at" wK f fd):FnOk P w K mg base CX0 1 f fd ["self","turn"] (pSp ⟨K,w⟩ 2 (len? 2 (mir jE (ug C)))):=by
 have sc:=WA
 refine zv (k:=0) F WA (λcdv A outer s H E B hr=>?_)
 exact (ze (zj (i:=2) sc.nd (by rfl) (locl (by rfl)) de_int) (ze (zj (i:=3) sc.nd (by rfl) (locl (by rfl)) (yc (by rfl) T.b_len (zy (DE.read (wY T.cl T.n_spans (zu 0 (pv 0)))) z9))) (ze (kK PassesOwn.never (zn vc vD (zb 2 (pv 2)) (zb 3 (pv 3)) (nomark _)) (ze (zj (i:=4) sc.nd (by rfl) (locl (by rfl)) (yr (DE.read (zD (zb 2 (pv 2)) (zb 3 (pv 3)))) de_int.read)) (zf (zq (zn vc vD (zb 1 (pv 1)) (DE.read (zx (DE.read (zx (DE.read (wY T.cl T.n_spans (zu 0 (pv 0)))) (zb 4 (pv 4)) (by intro _ _;rfl))) de_int.read (by intro _ _;rfl))) (nomark _)) (zf (zj (i:=3) sc.nd (by rfl) (locl (by rfl)) (zu 4 (pv 4)))) (zf (zj (i:=2) sc.nd (by rfl) (locl (by rfl)) (zD (zb 4 (pv 4)) de_int.read))))))) (zf (zC (J9 (zn vc vD (zb 2 (pv 2)) (DE.read (yc (by rfl) T.b_len (zy (DE.read (wY T.cl T.n_spans (zu 0 (pv 0)))) z9))) (nomark _)) (zx (DE.read (zx (DE.read (wY T.cl T.n_spans (zu 0 (pv 0)))) (zb 2 (pv 2)) (by intro _ _;rfl))) de_int.read (by intro _ _;rfl)) (wY T.cl T.n_kept_rest (zu 0 (pv 0)))))))))
theorem ZX:FnScope ["queue"] ["queue"] (zd xN):=⟨rfl,rfl,rfl,by decide +kernel,rfl,by decide +kernel,by decide +kernel⟩
theorem Ux {f:Addr}{fd:FuncData}(T:Txt K mg C)(F:Fun K "names_of" "names_of" xN f fd):FnOk P w K mg base CX0 1 f fd ["queue"] (pSp ⟨K,w⟩ 1 (len? 1 (mir ["queue"] ZA))):=by
 have sc:=ZX
 refine zv (k:=0) F ZX (λcdv A outer s H E B hr=>?_)
 exact (zf (jC (yf (own:=["name","left"]) (cap:=[]) (t:=(.tup [0,1])) (by rfl) (zL (sc:=(zd xN).names) (N:=["queue"]) (by rfl) (by rfl) (by rfl) (by decide +kernel)) (zG hb1 (DR.cur (zb 0 (pv 0)))) (by decide) (λB' C' s₀ H₀ fp pn=>⟨(zY (by rfl) (zA (zi (i:=0) (show List.Nodup (["name","left"]:List Str) from by decide +kernel) (by rfl) (locl (by rfl))) (zA (zi (i:=1) (show List.Nodup (["name","left"]:List Str) from by decide +kernel) (by rfl) (locl (by rfl))) zW))),y1,(zu 0 (pv 0))⟩))))
theorem qT:FnScope xt ["queue","name"] (zd xq):=⟨rfl,rfl,rfl,by decide +kernel,rfl,by decide +kernel,by decide +kernel⟩
theorem GE {f:Addr}{fd:FuncData}(T:Txt K mg C)(F:Fun K "place_of" "place_of" xq f fd) (Haf:Fx P w K mg base "is_name" 1 1 xB):FnOk P w K mg base CX0 2 f fd ["queue","name"] (pSp ⟨K,w⟩ 2 (len? 2 (mir xt uJ))):=by
 have sc:=qT
 refine zv (k:=1) F qT (λcdv A outer s H E B hr=>?_)
 exact (ze (zq (zO (DE.read (zt Haf (hr.mono (by decide)) (by rfl) (za (zc 1 (pv 1)) zh))) (by intro _;rfl)) (zf (zS (t:=(.tup [2,3])) PassesOwn.never (by rfl) (Y3 hb0 (by rfl) T.b_enumerate (qQ hb0 (yq 0 (pv 0)) uR)) (zY (by rfl) (zA (zi (i:=2) sc.nd (by rfl) (locl (by rfl))) (zA (zi (i:=3) sc.nd (by rfl) (locl (by rfl))) zW))) (zf (zq (zn (zZ hr.units) zK (DE.read (zx (zb 3 (pv 3)) de_int.read (by intro _ _;rfl))) (zb 1 (pv 1)) (nomark _)) (zf (yx 2 (pv 2))) z7)))) z7) (zf jy))
theorem QX {f:Addr}{fd:FuncData}(T:Txt K mg C)(F:Fun K "place_of" "place_of" xq f fd) {CT HE fI:Addr} (U:Exc P w K mg base CT HE fI "name" "NoTicket" "HallError") (Haf:Fx P w K mg base "is_name" 1 1 xB):FnOk P w K mg base (CX1 P w) 3 f fd ["queue","name"] (rSp ⟨K,w⟩ CT "name" 2 (mirX xt 2 kt)):=by
 have sc:=qT
 refine wP (k:=2) F qT (λcdv A outer s H E B hr=>?_)
 exact (zbw (zq (zO (DE.read (zt Haf (hr.mono (by decide)) (by rfl) (za (zc 1 (pv 1)) zh))) (by intro _;rfl)) (zf (zS (t:=(.tup [2,3])) PassesOwn.never (by rfl) (Y3 hb0 (by rfl) T.b_enumerate (qQ hb0 (yq 0 (pv 0)) uR)) (zY (by rfl) (zA (zi (i:=2) sc.nd (by rfl) (locl (by rfl))) (zA (zi (i:=3) sc.nd (by rfl) (locl (by rfl))) zW))) (zf (zq (zn (zZ hr.units) zK (DE.read (zx (zb 3 (pv 3)) de_int.read (by intro _ _;rfl))) (zb 1 (pv 1)) (nomark _)) (zf (yx 2 (pv 2))) z7)))) z7) (zb1 U (hr.mono (by decide)) (by rfl) (zu 1 (pv 1))))
theorem YG:FnScope wd ["queue","many"] (zd xx):=⟨rfl,rfl,rfl,by decide +kernel,rfl,by decide +kernel,by decide +kernel⟩
theorem QE {f:Addr}{fd:FuncData}(T:Txt K mg C)(F:Fun K "turn_served" "turn_served" xx f fd) (Ha1:Fx P w K mg base "names_of" 1 1 x6):FnOk P w K mg base CX0 2 f fd ["queue","many"] (pSp ⟨K,w⟩ 2 (len? 2 (mir wd qS))):=by
 have sc:=YG
 refine zv (k:=1) F YG (λcdv A outer s H E B hr=>?_)
 exact (ze (zj (i:=2) sc.nd (by rfl) (locl (by rfl)) (DA.frz (jo (zb 0 (pv 0)) vb (jc (zb 1 (pv 1)))))) (ze (jZ (i:=3) (own:=["name","left"]) (cap:=[]) (t:=(.tup [0,1])) (by rfl) (zL (sc:=(zd xx).names) (N:=wd) (by rfl) (by rfl) (by rfl) (by decide +kernel)) (zG hb1 (DR.cur (zb 2 (pv 2)))) (by decide) (λB' C' s₀ H₀ fp pn=>⟨(zY (by rfl) (zA (zi (i:=0) (show List.Nodup (["name","left"]:List Str) from by decide +kernel) (by rfl) (locl (by rfl))) (zA (zi (i:=1) (show List.Nodup (["name","left"]:List Str) from by decide +kernel) (by rfl) (locl (by rfl))) zW))),(yL (zn xb yS (zb 1 (pv 1)) de_int.read (nomark _))),(yt (z8 (zu 0 (pv 0)) (z8 (vi (zb 1 (pv 1)) de_int.read) zF)))⟩) sc.nd (by rfl) (locl (by rfl))) (zf (Zz (Uc (Yk (DA.tree (zX Ha1 (hr.mono (by decide)) (by rfl) (za (zc 2 (pv 2)) zh))) (Yk (DA.tree (qt (zb 3 (pv 3)) (DA.read (jo (zb 0 (pv 0)) (jc (zb 1 (pv 1))) vb)))) zbo)))))))
theorem Y8:FnScope qx ["queue","hours","begin","real"] (zd yB):=⟨rfl,rfl,rfl,by decide +kernel,rfl,by decide +kernel,by decide +kernel⟩
theorem Qp {f:Addr}{fd:FuncData}(T:Txt K mg C)(F:FunD K "run_of" "run_of" yB f fd) (Ha7:Fx P w K mg base "turn_served" 2 2 yQ) (Hab:Mx P w K mg base C "at" 1 2 (vd C)):FnOk P w K mg base CX0 3 f fd ["queue","hours","begin","real"] (pSp ⟨K,w⟩ 4 (len? 4 (mir qx (u6 C)))):=by
 have sc:=Y8
 refine zcr (k:=2) F Y8 (λcdv A outer s H E B hr=>?_)
 exact (ze (zj (i:=4) sc.nd (by rfl) (locl (by rfl)) (J9 (zn UY zdw (zb 3 (pv 3)) (DE.read JY) (nomark _)) (zu 0 (pv 0)) zbg)) (ze (ub (i:=5) sc.nd (by rfl) (locl (by rfl)) (DA.tree (ya zF))) (ze (kK PassesOwn.never (zO (zb 4 (pv 4)) (by intro _;rfl)) (ze (zj (i:=6) sc.nd (by rfl) (locl (by rfl)) (zD (zb 2 (pv 2)) (DE.read (R6 (by rfl) T.b_len (GN (UD 5 (pv 5)) U7))))) (ze (ub (i:=7) sc.nd (by rfl) (locl (by rfl)) (Zp Ha7 (hr.mono (by decide)) (by rfl) (za (zc 4 (pv 4)) (za (zr (Uu (zu 1 (pv 1)) T.cl Hab (hr.mono (by decide)) (za (zc 6 (pv 6)) zh))) zh)))) (zcx 5 7 4 (by decide) (by decide) (by decide) sc.nd (by rfl) (locl (by rfl)) (pv 5) (pv 7) (pv 7) (zu 6 (pv 6)) jw (by intro _ _;rfl) jw (by intro _ _;rfl))))) (zf (U3 5 (pv 5))))))
theorem W9:FnScope qB ["rows"] (zd wy):=⟨rfl,rfl,rfl,by decide +kernel,rfl,by decide +kernel,by decide +kernel⟩
theorem UF {f:Addr}{fd:FuncData}(T:Txt K mg C)(F:Fun K "ends_of" "ends_of" wy f fd):FnOk P w K mg base CX0 1 f fd ["rows"] (pSp ⟨K,w⟩ 1 (len? 1 (mir qB Z4))):=by
 have sc:=W9
 refine zv (k:=0) F W9 (λcdv A outer s H E B hr=>?_)
 exact (ze (ZF (j:=1) sc.nd (by rfl) (locl (by rfl)) G9) (ze (zS (t:=(.tup [2,3])) PassesOwn.never (by rfl) (zG hb0 (yq 0 (pv 0))) (zY (by rfl) (zA (zi (i:=2) sc.nd (by rfl) (locl (by rfl))) (zA (zi (i:=3) sc.nd (by rfl) (locl (by rfl))) zW))) (zf (zS (t:=(.name 4)) PassesOwn.never (by rfl) (zG hb0 (yq 3 (pv 3))) (zi (i:=4) sc.nd (by rfl) (locl (by rfl))) (zf (JC 1 (pv 1) (zb 4 (pv 4)) (zu 2 (pv 2))))))) (zf (za8 1 (pv 1)))))
theorem W7:FnScope vw ["rows","name","turn"] (zd xk):=⟨rfl,rfl,rfl,by decide +kernel,rfl,by decide +kernel,by decide +kernel⟩
theorem GV {f:Addr}{fd:FuncData}(T:Txt K mg C)(F:Fun K "had_by" "had_by" xk f fd):FnOk P w K mg base CX0 1 f fd ["rows","name","turn"] (pSp ⟨K,w⟩ 3 (len? 3 (mir vw uo))):=by
 have sc:=W7
 refine zv (k:=0) F W7 (λcdv A outer s H E B hr=>?_)
 exact (zf (zC (yc (by rfl) T.b_len (zy (DA.read (yf (own:=["row"]) (cap:=[("turn",2),("name",1)]) (t:=(.name 0)) (by rfl) (zL (sc:=(zd xk).names) (N:=vw) (by rfl) (by rfl) (by rfl) (by decide +kernel)) (zG hb1 (DR.cur (zb 0 (pv 0)))) (by decide) (λB' C' s₀ H₀ fp pn=>⟨(zi (i:=0) (show List.Nodup (["row","turn","name"]:List Str) from by decide +kernel) (by rfl) (locl (by rfl))),(yL (yz (qK (zn xK xS (DE.read (zx (zb 0 (pv 0)) de_int.read (by intro _ _;rfl))) (zb 1 (pv 1)) (nomark _)) (jU (zn wa ok_in (zb 2 (pv 2)) (DE.read (zx (zb 0 (pv 0)) de_int.read (by intro _ _;rfl))) (by rfl)))))),(zu 0 (pv 0))⟩))) z9))))
theorem VT:FnScope j3 ["queue","hours","begin"] (zd wA):=⟨rfl,rfl,rfl,by decide +kernel,rfl,by decide +kernel,by decide +kernel⟩
theorem zbj {f:Addr}{fd:FuncData}(T:Txt K mg C)(F:Fun K "latest_all" "latest_all" wA f fd) (Had:Fx P w K mg base "ends_of" 1 1 xy) (Ha3:FxN P w K mg base "run_of" 3 4 (yJ C)):FnOk P w K mg base CX0 4 f fd ["queue","hours","begin"] (pSp ⟨K,w⟩ 3 (len? 3 (mir j3 (kS C)))):=by
 have sc:=VT
 refine zv (k:=3) F VT (λcdv A outer s H E B hr=>?_)
 exact (zf (zdo (Zn Had (hr.mono (by decide)) (by rfl) (za (zr (UH Ha3 (hr.mono (by decide)) (by rfl) (za (zc 0 (pv 0)) (za (zc 1 (pv 1)) (za (zc 2 (pv 2)) zh))))) zh))))
theorem jH:FnScope yv ["queue","hours","begin","name"] (zd xF):=⟨rfl,rfl,rfl,by decide +kernel,rfl,by decide +kernel,by decide +kernel⟩
theorem Qj {f:Addr}{fd:FuncData}(T:Txt K mg C)(F:Fun K "latest_of" "latest_of" xF f fd) (Haz:Fx P w K mg base "latest_all" 4 3 (wR C)) (Ha2:Fx P w K mg base "place_of" 2 2 va):FnOk P w K mg base CX0 5 f fd ["queue","hours","begin","name"] (pSp ⟨K,w⟩ 4 (len? 4 (mir yv (ul C)))):=by
 have sc:=jH
 refine zv (k:=4) F jH (λcdv A outer s H E B hr=>?_)
 exact (ze (JD (zt Ha2 (hr.mono (by decide)) (by rfl) (za (zc 0 (pv 0)) (za (zc 3 (pv 3)) zh)))) (zf (zC (xr (DD.read (Zn Haz (hr.mono (by decide)) (by rfl) (za (zc 0 (pv 0)) (za (zc 1 (pv 1)) (za (zc 2 (pv 2)) zh))))) (zb 3 (pv 3))))))
theorem zcc {f:Addr}{fd:FuncData}(T:Txt K mg C)(F:Fun K "latest_of" "latest_of" xF f fd) {CT HE fI:Addr} (U:Exc P w K mg base CT HE fI "name" "NoTicket" "HallError") (Hbb:Rx P w K mg base "place_of" CT "name" 3 2 vE):FnOk P w K mg base (CX1 P w) 4 f fd ["queue","hours","begin","name"] (rSp ⟨K,w⟩ CT "name" 4 (mirX yv 4 uy)):=by
 have sc:=jH
 refine wP (k:=3) F jH (λcdv A outer s H E B hr=>?_)
 exact (Gp rfl Hbb yP (hr.mono (by decide)) (by rfl) (za (zc 0 (pv 0)) (za (zc 3 (pv 3)) zh)))
theorem jp:FnScope xf ["queue","hours","begin","name"] (zd yN):=⟨rfl,rfl,rfl,by decide +kernel,rfl,by decide +kernel,by decide +kernel⟩
theorem Gq {f:Addr}{fd:FuncData}(T:Txt K mg C)(F:Fun K "witness_run" "witness_run" yN f fd) (Ha3:FxN P w K mg base "run_of" 3 4 (yJ C)) (Ha0:Fx P w K mg base "latest_of" 5 4 (wD C)):FnOk P w K mg base CX0 6 f fd ["queue","hours","begin","name"] (pSp ⟨K,w⟩ 4 (len? 4 (mir xf (uH C)))):=by
 have sc:=jp
 refine zv (k:=5) F jp (λcdv A outer s H E B hr=>?_)
 exact (ze (zj (i:=4) sc.nd (by rfl) (locl (by rfl)) (zt Ha0 (hr.mono (by decide)) (by rfl) (za (zc 0 (pv 0)) (za (zc 1 (pv 1)) (za (zc 2 (pv 2)) (za (zc 3 (pv 3)) zh)))))) (zf (Zz (WB (own:=["row"]) (cap:=[("latest",4)]) (by rfl) (zL (sc:=(zd yN).names) (N:=xf) (by rfl) (by rfl) (by rfl) (by decide +kernel)) (zcb Ha3 (hr.mono (by decide)) (by rfl) (za (zc 0 (pv 0)) (za (zc 1 (pv 1)) (za (zc 2 (pv 2)) zh)))) (by decide) (λB' C' s₀ H₀ fp pn=>⟨(zi (i:=0) (show List.Nodup (["row","latest"]:List Str) from by decide +kernel) (by rfl) (locl (by rfl))),(yL (zn xK xS (DE.read (zx (zb 0 (pv 0)) de_int.read (by intro _ _;rfl))) (zb 1 (pv 1)) (nomark _))),pv 0⟩)))))
theorem zcp {f:Addr}{fd:FuncData}(T:Txt K mg C)(F:Fun K "witness_run" "witness_run" yN f fd) {CT HE fI:Addr} (U:Exc P w K mg base CT HE fI "name" "NoTicket" "HallError") (Hba:Rx P w K mg base "latest_of" CT "name" 4 4 vK):FnOk P w K mg base (CX1 P w) 5 f fd ["queue","hours","begin","name"] (rSp ⟨K,w⟩ CT "name" 4 (mirX xf 4 Z2)):=by
 have sc:=jp
 refine wP (k:=4) F jp (λcdv A outer s H E B hr=>?_)
 exact (Jc (i:=4) rfl Hba yP (hr.mono (by decide)) (by rfl) (za (zc 0 (pv 0)) (za (zc 1 (pv 1)) (za (zc 2 (pv 2)) (za (zc 3 (pv 3)) zh)))) (zi (i:=4) sc.nd (by rfl) (locl (by rfl))))
theorem qF:FnScope yv ["queue","hours","begin","name"] (zd yD):=⟨rfl,rfl,rfl,by decide +kernel,rfl,by decide +kernel,by decide +kernel⟩
theorem QA {f:Addr}{fd:FuncData}(T:Txt K mg C)(F:Fun K "waits_of" "waits_of" yD f fd) (Ha9:Fx P w K mg base "witness_run" 6 4 (wb C)):FnOk P w K mg base CX0 7 f fd ["queue","hours","begin","name"] (pSp ⟨K,w⟩ 4 (len? 4 (mir yv (Za C)))):=by
 have sc:=qF
 refine zv (k:=6) F qF (λcdv A outer s H E B hr=>?_)
 exact (zf (Zz (WB (own:=["row"]) (cap:=[("name",3)]) (by rfl) (zL (sc:=(zd yD).names) (N:=yv) (by rfl) (by rfl) (by rfl) (by decide +kernel)) (Zp Ha9 (hr.mono (by decide)) (by rfl) (za (zc 0 (pv 0)) (za (zc 1 (pv 1)) (za (zc 2 (pv 2)) (za (zc 3 (pv 3)) zh))))) (by decide) (λB' C' s₀ H₀ fp pn=>⟨(zi (i:=0) (show List.Nodup (["row","name"]:List Str) from by decide +kernel) (by rfl) (locl (by rfl))),(yL (zn kX ok_in (zb 1 (pv 1)) (DE.read (zx (zb 0 (pv 0)) de_int.read (by intro _ _;rfl))) (by rfl))),pv 0⟩))))
theorem Q2 {f:Addr}{fd:FuncData}(T:Txt K mg C)(F:Fun K "waits_of" "waits_of" yD f fd) {CT HE fI:Addr} (U:Exc P w K mg base CT HE fI "name" "NoTicket" "HallError") (Hbf:Rx P w K mg base "witness_run" CT "name" 5 4 vn):FnOk P w K mg base (CX1 P w) 6 f fd ["queue","hours","begin","name"] (rSp ⟨K,w⟩ CT "name" 4 (mirX yv 4 kj)):=by
 have sc:=qF
 refine wP (k:=5) F qF (λcdv A outer s H E B hr=>?_)
 exact (zdi (own:=["row"]) (cap:=[("name",3)]) rfl Hbf yP (hr.mono (by decide)) (by rfl) (za (zc 0 (pv 0)) (za (zc 1 (pv 1)) (za (zc 2 (pv 2)) (za (zc 3 (pv 3)) zh)))) (zL (sc:=(zd yD).names) (N:=yv) (by rfl) (by rfl) (by rfl) (by decide +kernel)))
theorem j8:FnScope yZ ["queue","hours","begin","name"] (zd yV):=⟨rfl,rfl,rfl,by decide +kernel,rfl,by decide +kernel,by decide +kernel⟩
theorem zee {f:Addr}{fd:FuncData}(T:Txt K mg C)(F:Fun K "tolls_of" "tolls_of" yV f fd) (Ha1:Fx P w K mg base "names_of" 1 1 x6) (Hae:Fx P w K mg base "had_by" 1 3 vL) (Had:Fx P w K mg base "ends_of" 1 1 xy) (Ha8:Fx P w K mg base "waits_of" 7 4 (ye C)):FnOk P w K mg base CX0 8 f fd ["queue","hours","begin","name"] (pSp ⟨K,w⟩ 4 (len? 4 (mir yZ (Zh C)))):=by
 have sc:=j8
 refine zv (k:=7) F j8 (λcdv A outer s H E B hr=>?_)
 exact (ze (zj (i:=4) sc.nd (by rfl) (locl (by rfl)) (zt Ha8 (hr.mono (by decide)) (by rfl) (za (zc 0 (pv 0)) (za (zc 1 (pv 1)) (za (zc 2 (pv 2)) (za (zc 3 (pv 3)) zh)))))) (ze (ZF (j:=5) sc.nd (by rfl) (locl (by rfl)) (Zn Had (hr.mono (by decide)) (by rfl) (za (zc 4 (pv 4)) zh))) (zf (jC (yf (own:=["other"]) (cap:=[("waits",4),("ends",5)]) (t:=(.name 0)) (by rfl) (zL (sc:=(zd yV).names) (N:=yZ) (by rfl) (by rfl) (by rfl) (by decide +kernel)) (zG hb1 (DR.cur (DA.read (zX Ha1 (hr.mono (by decide)) (by rfl) (za (zc 0 (pv 0)) zh))))) (by decide) (λB' C' s₀ H₀ fp pn=>⟨(zi (i:=0) (show List.Nodup (["other","waits","ends"]:List Str) from by decide +kernel) (by rfl) (locl (by rfl))),(yL (K3 (zb 0 (pv 0)) (xo 2 (pv 2)))),(yt (z8 (zu 0 (pv 0)) (z8 (zt Hae (hr.mono (by decide)) (by rfl) (za (zc 1 (pv 1)) (za (zc 0 (pv 0)) (za (zr (xr (xo 2 (pv 2)) (zb 0 (pv 0)))) zh)))) (z8 (xr (xo 2 (pv 2)) (zb 0 (pv 0))) zF))))⟩))))))
theorem Ru {f:Addr}{fd:FuncData}(T:Txt K mg C)(F:Fun K "tolls_of" "tolls_of" yV f fd) {CT HE fI:Addr} (U:Exc P w K mg base CT HE fI "name" "NoTicket" "HallError") (Hbe:Rx P w K mg base "waits_of" CT "name" 6 4 yF):FnOk P w K mg base (CX1 P w) 7 f fd ["queue","hours","begin","name"] (rSp ⟨K,w⟩ CT "name" 4 (mirX yZ 4 Zg)):=by
 have sc:=j8
 refine wP (k:=6) F j8 (λcdv A outer s H E B hr=>?_)
 exact (Jc (i:=4) rfl Hbe yP (hr.mono (by decide)) (by rfl) (za (zc 0 (pv 0)) (za (zc 1 (pv 1)) (za (zc 2 (pv 2)) (za (zc 3 (pv 3)) zh)))) (zi (i:=4) sc.nd (by rfl) (locl (by rfl))))
theorem qE:FnScope xQ ["queue","hours","begin","name","rows"] (zd x8):=⟨rfl,rfl,rfl,by decide +kernel,rfl,by decide +kernel,by decide +kernel⟩
theorem Ud {f:Addr}{fd:FuncData}(T:Txt K mg C)(F:Fun K "shows_why" "shows_why" x8 f fd) (Ha8:Fx P w K mg base "waits_of" 7 4 (ye C)):FnOk P w K mg base CX0 8 f fd ["queue","hours","begin","name","rows"] (pSp ⟨K,w⟩ 5 (len? 5 (mir xQ (ko C)))):=by
 have sc:=qE
 refine zv (k:=7) F qE (λcdv A outer s H E B hr=>?_)
 exact (zf (zC (wc (zZ hr.units) zK (zb 4 (pv 4)) (DE.read (zt Ha8 (hr.mono (by decide)) (by rfl) (za (zc 0 (pv 0)) (za (zc 1 (pv 1)) (za (zc 2 (pv 2)) (za (zc 3 (pv 3)) zh)))))) (nomark _))))
theorem zer {f:Addr}{fd:FuncData}(T:Txt K mg C)(F:Fun K "shows_why" "shows_why" x8 f fd) {CT HE fI:Addr} (U:Exc P w K mg base CT HE fI "name" "NoTicket" "HallError") (Hbe:Rx P w K mg base "waits_of" CT "name" 6 4 yF):FnOk P w K mg base (CX1 P w) 7 f fd ["queue","hours","begin","name","rows"] (rSp ⟨K,w⟩ CT "name" 5 (mirX xQ 5 uU)):=by
 have sc:=qE
 refine wP (k:=6) F qE (λcdv A outer s H E B hr=>?_)
 exact (Q5 (i:=4) rfl Hbe yP (hr.mono (by decide)) (by rfl) (za (zc 0 (pv 0)) (za (zc 1 (pv 1)) (za (zc 2 (pv 2)) (za (zc 3 (pv 3)) zh)))) (pv 4))
theorem YB:FnScope jd ["_law_script","_law_k"] (zd xX):=⟨rfl,rfl,rfl,by decide +kernel,rfl,by decide +kernel,by decide +kernel⟩
theorem RG {f:Addr}{fd:FuncData}(T:Txt K mg C)(F:Fun K "_law_cell" "_law_cell" xX f fd):FnOk P w K mg base CX0 1 f fd ["_law_script","_law_k"] (pSp ⟨K,w⟩ 2 (len? 2 (mir jd qN))):=by
 have sc:=YB
 refine zv (k:=0) F YB (λcdv A outer s H E B hr=>?_)
 exact (ze (zq (zn vc vD (zb 1 (pv 1)) (DE.read (yc (by rfl) T.b_len (zy (zb 0 (pv 0)) z9))) (nomark _)) (zf (zC (zx (zb 0 (pv 0)) (zb 1 (pv 1)) (by intro _ _;rfl)))) z7) (zf (zC de_int)))
theorem WF:FnScope jM ["_law_cell_here","_law_k"] (zd wW):=⟨rfl,rfl,rfl,by decide +kernel,rfl,by decide +kernel,by decide +kernel⟩
theorem RP {f:Addr}{fd:FuncData}(T:Txt K mg C)(F:Fun K "_law_stir" "_law_stir" wW f fd):FnOk P w K mg base CX0 1 f fd ["_law_cell_here","_law_k"] (pSp ⟨K,w⟩ 2 (len? 2 (mir jM ue))):=by
 have sc:=WF
 refine zv (k:=0) F WF (λcdv A outer s H E B hr=>?_)
 exact (ze (zj (i:=2) sc.nd (by rfl) (locl (by rfl)) (zJ (DE.read (zD (DE.read (zD (DE.read (wL (DE.read (zJ (zb 0 (pv 0)) de_int.read)) de_int.read)) (DE.read (wL de_int.read (zb 1 (pv 1)))))) de_int.read)) de_int.read)) (ze (zj (i:=2) sc.nd (by rfl) (locl (by rfl)) (zJ (DE.read (wL (zb 2 (pv 2)) (zb 2 (pv 2)))) de_int.read)) (zf (zC (zJ (DE.read (zD (DE.read (zD (DE.read (wL (zb 2 (pv 2)) (zb 2 (pv 2)))) (DE.read (wL de_int.read (zb 2 (pv 2)))))) de_int.read)) de_int.read)))))
theorem J7:FnScope wm ["_law_script","_law_at_here","_law_base","_law_count"] (zd xu):=⟨rfl,rfl,rfl,by decide +kernel,rfl,by decide +kernel,by decide +kernel⟩
theorem zcw {f:Addr}{fd:FuncData}(T:Txt K mg C)(F:Fun K "_law_row" "_law_row" xu f fd) (Hal:Fx P w K mg base "_law_cell" 1 2 zU) (Haw:Fx P w K mg base "_law_stir" 1 2 v9):FnOk P w K mg base CX0 2 f fd ["_law_script","_law_at_here","_law_base","_law_count"] (pSp ⟨K,w⟩ 4 (len? 4 (mir wm jA))):=by
 have sc:=J7
 refine zv (k:=1) F J7 (λcdv A outer s H E B hr=>?_)
 exact (ze (zj (i:=4) sc.nd (by rfl) (locl (by rfl)) (zt Hal (hr.mono (by decide)) (by rfl) (za (zc 0 (pv 0)) (za (zc 1 (pv 1)) zh)))) (ze (zq (zn (zZ hr.units) zK (DE.read (Gx (DE.read (zef (DE.read (zt Hal (hr.mono (by decide)) (by rfl) (za (zc 0 (pv 0)) (za (zr de_int) zh)))) (DE.read (zJ (zb 1 (pv 1)) de_int.read)))) de_int.read)) de_int.read (nomark _)) (zf (jC (yf (own:=["_law_k"]) (cap:=[("_law_base",2),("_law_cell_here",4)]) (t:=(.name 0)) (by rfl) (zL (sc:=(zd xu).names) (N:=wm) (by rfl) (by rfl) (by rfl) (by decide +kernel)) (vY (by rfl) T.b_range (zy (zb 3 (pv 3)) z9)) (by decide) (λB' C' s₀ H₀ fp pn=>⟨(zi (i:=0) (show List.Nodup (["_law_k","_law_base","_law_cell_here"]:List Str) from by decide +kernel) (by rfl) (locl (by rfl))),y1,(zJ (DE.read (yr (DE.read (zt Haw (hr.mono (by decide)) (by rfl) (za (zc 2 (pv 2)) (za (zc 0 (pv 0)) zh)))) de_int.read)) (zb 1 (pv 1)))⟩)))) z7) (ze (yT (i:=5) sc.nd (by rfl) (locl (by rfl)) (ya zF)) (ze (zS (t:=(.name 6)) PassesOwn.never (by rfl) (vY (by rfl) T.b_range (zy (zb 3 (pv 3)) z9)) (zi (i:=6) sc.nd (by rfl) (locl (by rfl))) (ze (yY 5 (pv 5) (zJ (zb 4 (pv 4)) (zb 2 (pv 2)))) (zf (zj (i:=4) sc.nd (by rfl) (locl (by rfl)) (yr (zb 4 (pv 4)) (zb 2 (pv 2))))))) (zf (yx 5 (pv 5)))))))
theorem YC:FnScope je ["_law_cell_here","_law_many"] (zd wv):=⟨rfl,rfl,rfl,by decide +kernel,rfl,by decide +kernel,by decide +kernel⟩
theorem Qx {f:Addr}{fd:FuncData}(T:Txt K mg C)(F:Fun K "_law_names" "_law_names" wv f fd):FnOk P w K mg base CX0 1 f fd ["_law_cell_here","_law_many"] (pSp ⟨K,w⟩ 2 (len? 2 (mir je jO))):=by
 have sc:=YC
 refine zv (k:=0) F YC (λcdv A outer s H E B hr=>?_)
 exact (ze (zj (i:=2) sc.nd (by rfl) (locl (by rfl)) wq) (ze (zj (i:=3) sc.nd (by rfl) (locl (by rfl)) (zD de_int.read (DE.read (zJ (zb 0 (pv 0)) de_int.read)))) (ze (zq (zn xK xS (zb 1 (pv 1)) de_int.read (nomark _)) (zf (zj (i:=3) sc.nd (by rfl) (locl (by rfl)) (zD de_int.read (DE.read (zJ (zb 0 (pv 0)) de_int.read))))) z7) (ze (zj (i:=4) sc.nd (by rfl) (locl (by rfl)) (zJ (DE.read (yr (zb 0 (pv 0)) de_int.read)) (zb 3 (pv 3)))) (ze (yT (i:=5) sc.nd (by rfl) (locl (by rfl)) (ya zF)) (ze (zS (t:=(.name 6)) PassesOwn.never (by rfl) (vY (by rfl) T.b_range (zy (zb 1 (pv 1)) z9)) (zi (i:=6) sc.nd (by rfl) (locl (by rfl))) (ze (zj (i:=7) sc.nd (by rfl) (locl (by rfl)) wq) (ze (zS (t:=(.name 8)) PassesOwn.never (by rfl) (vY (by rfl) T.b_range (zy (zb 3 (pv 3)) z9)) (zi (i:=8) sc.nd (by rfl) (locl (by rfl))) (ze (zj (i:=9) sc.nd (by rfl) (locl (by rfl)) (yr (zb 0 (pv 0)) (DE.read (zD de_int.read (DE.read (wL de_int.read (zb 8 (pv 8)))))))) (ze (zq (zn (zZ hr.units) zK (zb 8 (pv 8)) (zb 4 (pv 4)) (nomark _)) (zf (zj (i:=9) sc.nd (by rfl) (locl (by rfl)) (zD (zb 9 (pv 9)) (DE.read (zJ (zb 6 (pv 6)) de_int.read))))) z7) (ze (zq (zn (zZ hr.units) zK (zb 8 (pv 8)) (DE.read (zJ (DE.read (zD (zb 4 (pv 4)) de_int.read)) (zb 3 (pv 3)))) (nomark _)) (zf (zj (i:=9) sc.nd (by rfl) (locl (by rfl)) (zD (zb 9 (pv 9)) (DE.read (yr (zb 6 (pv 6)) de_int.read))))) z7) (zf (zq (zn (zZ hr.units) zK (zb 8 (pv 8)) de_int.read (nomark _)) (zf (zj (i:=7) sc.nd (by rfl) (locl (by rfl)) (zD (zb 7 (pv 7)) (DE.read (zx (zb 2 (pv 2)) (DE.read (zJ (zb 9 (pv 9)) de_int.read)) (by intro _ _;rfl)))))) (zf (zj (i:=7) sc.nd (by rfl) (locl (by rfl)) (zD (zb 7 (pv 7)) (DE.read (zx (DE.read (zD (zb 2 (pv 2)) (DE.read wq))) (DE.read (zJ (zb 9 (pv 9)) de_int.read)) (by intro _ _;rfl)))))))))))) (zf (yY 5 (pv 5) (zu 7 (pv 7))))))) (zf (yx 5 (pv 5)))))))))
theorem W1:FnScope qv ["_law_rows_here"] (zd wl):=⟨rfl,rfl,rfl,by decide +kernel,rfl,by decide +kernel,by decide +kernel⟩
theorem Gd {f:Addr}{fd:FuncData}(T:Txt K mg C)(F:Fun K "_law_days" "_law_days" wl f fd):FnOk P w K mg base CX0 1 f fd ["_law_rows_here"] (pSp ⟨K,w⟩ 1 (len? 1 (mir qv kz))):=by
 have sc:=W1
 refine zv (k:=0) F W1 (λcdv A outer s H E B hr=>?_)
 exact (ze (zj (i:=1) sc.nd (by rfl) (locl (by rfl)) (DA.frz (ya zF))) (ze (zS (t:=(.tup [2,3])) PassesOwn.never (by rfl) (zG hb0 (yq 0 (pv 0))) (zY (by rfl) (zA (zi (i:=2) sc.nd (by rfl) (locl (by rfl))) (zA (zi (i:=3) sc.nd (by rfl) (locl (by rfl))) zW))) (zf (zj (i:=1) sc.nd (by rfl) (locl (by rfl)) (DA.frz (qt (zb 1 (pv 1)) (DA.read (Q3 (DA.read (ya (z8 (zu 3 (pv 3)) zF))) (zb 2 (pv 2))))))))) (zf (yx 1 (pv 1)))))
theorem Y6:FnScope v5 ["_law_days_here","_law_rest","_law_turn"] (zd wV):=⟨rfl,rfl,rfl,by decide +kernel,rfl,by decide +kernel,by decide +kernel⟩
theorem zbz {f:Addr}{fd:FuncData}(T:Txt K mg C)(F:Fun K "_law_at" "_law_at" wV f fd):FnOk P w K mg base CX0 1 f fd ["_law_days_here","_law_rest","_law_turn"] (pSp ⟨K,w⟩ 3 (len? 3 (mir v5 jD))):=by
 have sc:=Y6
 refine zv (k:=0) F Y6 (λcdv A outer s H E B hr=>?_)
 exact (ze (zq (zn vc vD (zb 2 (pv 2)) (DE.read (yc (by rfl) T.b_len (zy (zb 0 (pv 0)) z9))) (nomark _)) (zf (zC (zx (zb 0 (pv 0)) (zb 2 (pv 2)) (by intro _ _;rfl)))) z7) (zf (yx 1 (pv 1))))
theorem VE:FnScope jh ["_law_queue_here","_law_days_here","_law_rest","_law_begin"] (zd xi):=⟨rfl,rfl,rfl,by decide +kernel,rfl,by decide +kernel,by decide +kernel⟩
theorem RY {f:Addr}{fd:FuncData}(T:Txt K mg C)(F:Fun K "_law_run" "_law_run" xi f fd) (Hak:Fx P w K mg base "_law_at" 1 3 y7):FnOk P w K mg base CX0 2 f fd ["_law_queue_here","_law_days_here","_law_rest","_law_begin"] (pSp ⟨K,w⟩ 4 (len? 4 (mir jh Zy))):=by
 have sc:=VE
 refine zv (k:=1) F VE (λcdv A outer s H E B hr=>?_)
 exact (ze (ZF (j:=4) sc.nd (by rfl) (locl (by rfl)) (kn (by rfl) (by rfl) T.b_dict (zy (zb 0 (pv 0)) z9))) (ze (yT (i:=5) sc.nd (by rfl) (locl (by rfl)) (ya zF)) (ze (zj (i:=6) sc.nd (by rfl) (locl (by rfl)) (zu 3 (pv 3))) (ze (kK PassesOwn.never (zn xb yS (DE.read (JM (by rfl) (by rfl) T.b_max (zy (DA.read (qt (DA.read (zdt (by rfl) (by rfl) T.b_list (xo 4 (pv 4)) ⟨by rfl,by rfl⟩)) (DA.read (ya (z8 de_int zF))))) z9))) de_int.read (nomark _)) (ze (zj (i:=7) sc.nd (by rfl) (locl (by rfl)) (DA.frz (jo (DA.read (yf (own:=["_law_name"]) (cap:=[("_law_left",4)]) (t:=(.name 0)) (by rfl) (zL (sc:=(zd xi).names) (N:=jh) (by rfl) (by rfl) (by rfl) (by decide +kernel)) (Rk (xo 4 (pv 4))) (by decide) (λB' C' s₀ H₀ fp pn=>⟨(zi (i:=0) (show List.Nodup (["_law_name","_law_left"]:List Str) from by decide +kernel) (by rfl) (locl (by rfl))),(yL (zn xb yS (DE.read (xr (xo 1 (pv 1)) (zb 0 (pv 0)))) de_int.read (nomark _))),(zu 0 (pv 0))⟩))) vb (jc (DE.read (zt Hak (hr.mono (by decide)) (by rfl) (za (zc 1 (pv 1)) (za (zc 2 (pv 2)) (za (zc 6 (pv 6)) zh))))))))) (ze (zS (t:=(.name 8)) PassesOwn.never (by rfl) (zG hb0 (yq 7 (pv 7))) (zi (i:=8) sc.nd (by rfl) (locl (by rfl))) (zf (JC 4 (pv 4) (zb 8 (pv 8)) (vi (DE.read (xr (xo 4 (pv 4)) (zb 8 (pv 8)))) de_int.read)))) (ze (yY 5 (pv 5) (yt (z8 (zu 6 (pv 6)) (z8 (zu 7 (pv 7)) zF)))) (zf (zj (i:=6) sc.nd (by rfl) (locl (by rfl)) (zD (zb 6 (pv 6)) de_int.read))))))) (zf (yx 5 (pv 5)))))))
theorem Yj:FnScope wT ["_law_script"] (zd xp):=⟨rfl,rfl,rfl,by decide +kernel,rfl,by decide +kernel,by decide +kernel⟩
theorem zc1 {f:Addr}{fd:FuncData}(T:Txt K mg C)(F:Fun K "_law_queue" "_law_queue" xp f fd) (Hap:Fx P w K mg base "_law_names" 1 2 xR) (Hal:Fx P w K mg base "_law_cell" 1 2 zU) (Hat:Fx P w K mg base "_law_row" 2 4 yo):FnOk P w K mg base CX0 3 f fd ["_law_script"] (pSp ⟨K,w⟩ 1 (len? 1 (mir wT qo))):=by
 have sc:=Yj
 refine zv (k:=2) F Yj (λcdv A outer s H E B hr=>?_)
 exact (ze (zj (i:=1) sc.nd (by rfl) (locl (by rfl)) (zx (DA.read (zX Hat (hr.mono (by decide)) (by rfl) (za (zc 0 (pv 0)) (za (zr de_int) (za (zr de_int) (za (zr de_int) zh)))))) de_int.read (by intro _ _;rfl))) (ze (zj (i:=2) sc.nd (by rfl) (locl (by rfl)) (zD de_int.read (DE.read (zJ (zb 1 (pv 1)) de_int.read)))) (ze (zj (i:=3) sc.nd (by rfl) (locl (by rfl)) de_int) (ze (zq (zn (zZ hr.units) zK (DE.read (yr (zb 1 (pv 1)) de_int.read)) de_int.read (nomark _)) (ze (zj (i:=2) sc.nd (by rfl) (locl (by rfl)) (zD de_int.read (DE.read (zJ (DE.read (yr (DE.read (zt Hal (hr.mono (by decide)) (by rfl) (za (zc 0 (pv 0)) (za (zr de_int) zh)))) de_int.read)) de_int.read)))) (zf (zj (i:=3) sc.nd (by rfl) (locl (by rfl)) de_int))) z7) (ze (zj (i:=4) sc.nd (by rfl) (locl (by rfl)) (DA.frz (zX Hat (hr.mono (by decide)) (by rfl) (za (zc 0 (pv 0)) (za (zr de_int) (za (zc 3 (pv 3)) (za (zc 2 (pv 2)) zh))))))) (zf (jC (yf (own:=["_law_name","_law_left"]) (cap:=[]) (t:=(.tup [0,1])) (by rfl) (zL (sc:=(zd xp).names) (N:=wT) (by rfl) (by rfl) (by rfl) (by decide +kernel)) (zaw hb1 (by rfl) T.b_zip (qQ hb1 (DR.cur (DA.read (zX Hap (hr.mono (by decide)) (by rfl) (za (zr (zt Hal (hr.mono (by decide)) (by rfl) (za (zc 0 (pv 0)) (za (zr de_int) zh)))) (za (zc 2 (pv 2)) zh))))) (qQ hb1 (DR.cur (zb 4 (pv 4))) uR))) (by decide) (λB' C' s₀ H₀ fp pn=>⟨(zY (by rfl) (zA (zi (i:=0) (show List.Nodup (["_law_name","_law_left"]:List Str) from by decide +kernel) (by rfl) (locl (by rfl))) (zA (zi (i:=1) (show List.Nodup (["_law_name","_law_left"]:List Str) from by decide +kernel) (by rfl) (locl (by rfl))) zW))),y1,(yt (z8 (zu 0 (pv 0)) (z8 (zD de_int.read (zb 1 (pv 1))) zF)))⟩)))))))))
theorem Vd:FnScope qm ["_law_queue_here","_law_run_here","_law_name"] (zd wz):=⟨rfl,rfl,rfl,by decide +kernel,rfl,by decide +kernel,by decide +kernel⟩
theorem zd9 {f:Addr}{fd:FuncData}(T:Txt K mg C)(F:Fun K "_law_due" "_law_due" wz f fd):FnOk P w K mg base CX0 1 f fd ["_law_queue_here","_law_run_here","_law_name"] (pSp ⟨K,w⟩ 3 (len? 3 (mir qm kO))):=by
 have sc:=Vd
 refine zv (k:=0) F Vd (λcdv A outer s H E B hr=>?_)
 exact (ze (yT (i:=3) sc.nd (by rfl) (locl (by rfl)) (ya zF)) (ze (zj (i:=4) sc.nd (by rfl) (locl (by rfl)) (xr (DD.read (kn (by rfl) (by rfl) T.b_dict (zy (zb 0 (pv 0)) z9))) (zb 2 (pv 2)))) (ze (zS (t:=(.tup [5,6])) PassesOwn.never (by rfl) (zG hb0 (yq 1 (pv 1))) (zY (by rfl) (zA (zi (i:=5) sc.nd (by rfl) (locl (by rfl))) (zA (zi (i:=6) sc.nd (by rfl) (locl (by rfl))) zW))) (zf (zq (yz (qK (zn xb yS (zb 4 (pv 4)) de_int.read (nomark _)) (jU (zn wa ok_in (zb 2 (pv 2)) (zb 6 (pv 6)) (by rfl))))) (zf (zj (i:=4) sc.nd (by rfl) (locl (by rfl)) (vi (zb 4 (pv 4)) de_int.read))) (zf (zq (zn xb yS (zb 4 (pv 4)) de_int.read (nomark _)) (zf (yY 3 (pv 3) (yt (z8 (zu 5 (pv 5)) (z8 (zu 6 (pv 6)) zF))))) z7))))) (zf (yx 3 (pv 3))))))
theorem WJ:FnScope vH ["_law_queue_here","_law_waits"] (zd xC):=⟨rfl,rfl,rfl,by decide +kernel,rfl,by decide +kernel,by decide +kernel⟩
theorem KR {f:Addr}{fd:FuncData}(T:Txt K mg C)(F:Fun K "_law_tolls" "_law_tolls" xC f fd):FnOk P w K mg base CX0 1 f fd ["_law_queue_here","_law_waits"] (pSp ⟨K,w⟩ 2 (len? 2 (mir vH ZC))):=by
 have sc:=WJ
 refine zv (k:=0) F WJ (λcdv A outer s H E B hr=>?_)
 exact (ze (yT (i:=2) sc.nd (by rfl) (locl (by rfl)) (ya zF)) (ze (zS (t:=(.tup [3,4])) PassesOwn.never (by rfl) (zG hb0 (yq 0 (pv 0))) (zY (by rfl) (zA (zi (i:=3) sc.nd (by rfl) (locl (by rfl))) (zA (zi (i:=4) sc.nd (by rfl) (locl (by rfl))) zW))) (ze (jZ (i:=5) (own:=["_law_turn","_law_names_here"]) (cap:=[("_law_name",3)]) (t:=(.tup [0,1])) (by rfl) (zL (sc:=(zd xC).names) (N:=vH) (by rfl) (by rfl) (by rfl) (by decide +kernel)) (zG hb1 (DR.cur (zb 1 (pv 1)))) (by decide) (λB' C' s₀ H₀ fp pn=>⟨(zY (by rfl) (zA (zi (i:=0) (show List.Nodup (["_law_turn","_law_names_here","_law_name"]:List Str) from by decide +kernel) (by rfl) (locl (by rfl))) (zA (zi (i:=1) (show List.Nodup (["_law_turn","_law_names_here","_law_name"]:List Str) from by decide +kernel) (by rfl) (locl (by rfl))) zW))),(yL (zn wa ok_in (zb 2 (pv 2)) (zb 1 (pv 1)) (by rfl))),(zu 0 (pv 0))⟩) sc.nd (by rfl) (locl (by rfl))) (zf (zq (zn (xw hr.units) zK (zb 5 (pv 5)) (DA.read (ya zF)) (nomark _)) (zf (yY 2 (pv 2) (yt (z8 (zu 3 (pv 3)) (z8 (yc (by rfl) T.b_len (zy (zb 5 (pv 5)) z9)) (z8 (zx (zb 5 (pv 5)) (DE.read (vZ de_int.read)) (by intro _ _;rfl)) zF)))))) z7)))) (zf (yx 2 (pv 2)))))
theorem WU:FnScope qP ["_law_found","_law_due_here"] (zd wG):=⟨rfl,rfl,rfl,by decide +kernel,rfl,by decide +kernel,by decide +kernel⟩
theorem ze2 {f:Addr}{fd:FuncData}(T:Txt K mg C)(F:Fun K "_law_rows" "_law_rows" wG f fd):FnOk P w K mg base CX0 1 f fd ["_law_found","_law_due_here"] (pSp ⟨K,w⟩ 2 (len? 2 (mir qP Zu))):=by
 have sc:=WU
 refine zv (k:=0) F WU (λcdv A outer s H E B hr=>?_)
 exact (ze (zq (yz (yI (yh (zO (DE.read (y9 (kitT "list" (by decide)) (by rfl) T.b_isinstance (by rfl) T.b_list (by decide +kernel) (zb 0 (pv 0)))) (by intro _;rfl))) (xJ (zn (xw hr.units) zK (zb 0 (pv 0)) (zb 1 (pv 1)) (nomark _))))) (zf (zC zQ)) z7) (ze (zS (t:=(.name 2)) PassesOwn.never (by rfl) (zG hb0 (yq 0 (pv 0))) (zi (i:=2) sc.nd (by rfl) (locl (by rfl))) (zf (zq (yz (yI (yh (zO (DE.read (y9 (kitT "tuple" (by decide)) (by rfl) T.b_isinstance (by rfl) T.b_tuple (by decide +kernel) (zb 2 (pv 2)))) (by intro _;rfl))) (yI (zO (DE.read (y9 (kitT "bool" (by decide)) (by rfl) T.b_isinstance (by rfl) T.b_bool (by decide +kernel) (DE.read (zx (zb 2 (pv 2)) de_int.read (by intro _ _;rfl))))) (by intro _;rfl)) (xJ (yh (zO (DE.read (y9 (kitT "list" (by decide)) (by rfl) T.b_isinstance (by rfl) T.b_list (by decide +kernel) (DE.read (zx (zb 2 (pv 2)) de_int.read (by intro _ _;rfl))))) (by intro _;rfl))))))) (zf (zC zQ)) z7))) (zf (zC zQ))))
theorem Yf:FnScope wu ["_law_queue_here","_law_waits","_law_days_here","_law_rest","_law_name"] (zd yX):=⟨rfl,rfl,rfl,by decide +kernel,rfl,by decide +kernel,by decide +kernel⟩
theorem QU {f:Addr}{fd:FuncData}(T:Txt K mg C)(F:Fun K "_law_counters" "_law_counters" yX f fd) (Hak:Fx P w K mg base "_law_at" 1 3 y7):FnOk P w K mg base CX0 2 f fd ["_law_queue_here","_law_waits","_law_days_here","_law_rest","_law_name"] (pSp ⟨K,w⟩ 5 (len? 5 (mir wu ui))):=by
 have sc:=Yf
 refine zv (k:=1) F Yf (λcdv A outer s H E B hr=>?_)
 exact (ze (jZ (i:=5) (own:=["_law_row_here"]) (cap:=[]) (t:=(.name 0)) (by rfl) (zL (sc:=(zd yX).names) (N:=wu) (by rfl) (by rfl) (by rfl) (by decide +kernel)) (zG hb1 (DR.cur (zb 0 (pv 0)))) (by decide) (λB' C' s₀ H₀ fp pn=>⟨(zi (i:=0) (show List.Nodup (["_law_row_here"]:List Str) from by decide +kernel) (by rfl) (locl (by rfl))),y1,(zx (zb 0 (pv 0)) de_int.read (by intro _ _;rfl))⟩) sc.nd (by rfl) (locl (by rfl))) (ze (zj (i:=6) sc.nd (by rfl) (locl (by rfl)) (DA.frz (jo (zb 5 (pv 5)) vb (jc (DE.read (GQ (zb 5 (pv 5)) (zy (zb 4 (pv 4)) z9))))))) (ze (zS (t:=(.tup [7,8])) PassesOwn.never (by rfl) (zG hb0 (yq 1 (pv 1))) (zY (by rfl) (zA (zi (i:=7) sc.nd (by rfl) (locl (by rfl))) (zA (zi (i:=8) sc.nd (by rfl) (locl (by rfl))) zW))) (zf (zq (yz (yI (zn (xw hr.units) zK (DE.read (yc (by rfl) T.b_len (zy (zb 8 (pv 8)) z9))) (DE.read (zt Hak (hr.mono (by decide)) (by rfl) (za (zc 2 (pv 2)) (za (zc 3 (pv 3)) (za (zc 7 (pv 7)) zh))))) (nomark _)) (xJ (zn xb yS (DE.read (yc (by rfl) T.b_len (zy (DA.read (yf (own:=["_law_one"]) (cap:=[("_law_ahead",6)]) (t:=(.name 0)) (by rfl) (zL (sc:=(zd yX).names) (N:=wu) (by rfl) (by rfl) (by rfl) (by decide +kernel)) (zG hb1 (DR.cur (zb 8 (pv 8)))) (by decide) (λB' C' s₀ H₀ fp pn=>⟨(zi (i:=0) (show List.Nodup (["_law_one","_law_ahead"]:List Str) from by decide +kernel) (by rfl) (locl (by rfl))),(yL (zn kX ok_in (zb 0 (pv 0)) (zb 1 (pv 1)) (by rfl))),(zu 0 (pv 0))⟩))) z9))) de_int.read (nomark _))))) (zf (zC zQ)) z7))) (zf (zC zQ)))))
theorem ZI:FnScope vW ["_law_queue_here","_law_hours","_law_begin","_law_run_here","_law_name"] (zd xL):=⟨rfl,rfl,rfl,by decide +kernel,rfl,by decide +kernel,by decide +kernel⟩
theorem KD {f:Addr}{fd:FuncData}(T:Txt K mg C)(F:Fun K "_law_right" "_law_right" xL f fd) (Ha6:Fx P w K mg base "tolls_of" 8 4 (y6 C)) (Hay:Fx P w K mg base "_law_tolls" 1 2 xE) (Ha4:Fx P w K mg base "shows_why" 8 5 (xg C)) (Hau:Fx P w K mg base "_law_rows" 1 2 wZ) (Ha8:Fx P w K mg base "waits_of" 7 4 (ye C)) (Hao:Fx P w K mg base "_law_due" 1 3 yE):FnOk P w K mg base CX0 9 f fd ["_law_queue_here","_law_hours","_law_begin","_law_run_here","_law_name"] (pSp ⟨K,w⟩ 5 (len? 5 (mir vW (jQ C)))):=by
 have sc:=ZI
 refine zv (k:=8) F ZI (λcdv A outer s H E B hr=>?_)
 exact (ze (zj (i:=5) sc.nd (by rfl) (locl (by rfl)) (DA.frz (zX Hao (hr.mono (by decide)) (by rfl) (za (zc 0 (pv 0)) (za (zc 3 (pv 3)) (za (zc 4 (pv 4)) zh)))))) (ze (ub (i:=6) sc.nd (by rfl) (locl (by rfl)) (Zp Ha8 (hr.mono (by decide)) (by rfl) (za (zc 0 (pv 0)) (za (zc 1 (pv 1)) (za (zc 2 (pv 2)) (za (zc 4 (pv 4)) zh)))))) (ze (yT (i:=7) sc.nd (by rfl) (locl (by rfl)) (zX Ha6 (hr.mono (by decide)) (by rfl) (za (zc 0 (pv 0)) (za (zc 1 (pv 1)) (za (zc 2 (pv 2)) (za (zc 4 (pv 4)) zh)))))) (ze (zq (yz (yI (yh (zO (DE.read (WO Hau (hr.mono (by decide)) (by rfl) (Yx 6 (pv 6) (vm (zc 5 (pv 5)) Qb)))) (by intro _;rfl))) (yI (yh (zO (DE.read (y9 (kitT "list" (by decide)) (by rfl) T.b_isinstance (by rfl) T.b_list (by decide +kernel) (zb 7 (pv 7)))) (by intro _;rfl))) (xJ (zn (xw hr.units) zK (zb 7 (pv 7)) (DA.read (zX Hay (hr.mono (by decide)) (by rfl) (za (zc 0 (pv 0)) (za (zc 5 (pv 5)) zh)))) (nomark _)))))) (zf (zC zQ)) z7) (ze (zq (zn Wa Jk (DE.read (WO Ha4 (hr.mono (by decide)) (by rfl) (vm (zc 0 (pv 0)) (vm (zc 1 (pv 1)) (vm (zc 2 (pv 2)) (vm (zc 4 (pv 4)) (Yx 6 (pv 6) Qb))))))) (DE.read zQ) (nomark _)) (zf (zC zQ)) z7) (ze (Uq 6 8 1 (by decide) PassesOwn.never (by rfl) (pv 6) (pv 8) (zi (i:=8) sc.nd (by rfl) (locl (by rfl))) jw (by intro _ _;rfl) PySem.F.slot_list_append PySem.F.type_list_append Z1 QL (z8 wq zF) (λ_=>rfl)) (ze (zd4 6 (pv 6)) (ze (yY 7 (pv 7) (yt (z8 wq (z8 de_int (z8 de_int zF))))) (ze (zq (zn Wa Jk (DE.read (zt Ha4 (hr.mono (by decide)) (by rfl) (za (zc 0 (pv 0)) (za (zc 1 (pv 1)) (za (zc 2 (pv 2)) (za (zc 4 (pv 4)) (za (zr (DA.frz (yf (own:=["_law_turn","_law_names_here"]) (cap:=[]) (t:=(.tup [0,1])) (by rfl) (zL (sc:=(zd xL).names) (N:=vW) (by rfl) (by rfl) (by rfl) (by decide +kernel)) (zG hb1 (DR.cur (zb 5 (pv 5)))) (by decide) (λB' C' s₀ H₀ fp pn=>⟨(zY (by rfl) (zA (zi (i:=0) (show List.Nodup (["_law_turn","_law_names_here"]:List Str) from by decide +kernel) (by rfl) (locl (by rfl))) (zA (zi (i:=1) (show List.Nodup (["_law_turn","_law_names_here"]:List Str) from by decide +kernel) (by rfl) (locl (by rfl))) zW))),y1,(yt (z8 (zu 0 (pv 0)) (z8 (DA.frz (JV (by rfl) T.b_list (zy (zb 1 (pv 1)) z9))) zF)))⟩)))) zh))))))) (DE.read zQ) (nomark _)) (zf (zC zQ)) z7) (zf (zC (wc (zZ hr.units) zK (DA.read (zX Ha6 (hr.mono (by decide)) (by rfl) (za (zc 0 (pv 0)) (za (zc 1 (pv 1)) (za (zc 2 (pv 2)) (za (zc 4 (pv 4)) zh)))))) (DA.read (zX Hay (hr.mono (by decide)) (by rfl) (za (zc 0 (pv 0)) (za (zc 5 (pv 5)) zh)))) (nomark _)))))))))))))
theorem J6:FnScope wJ ["_law_queue_here","_law_hours","_law_begin","_law_name","_law_which"] (zd wQ):=⟨rfl,rfl,rfl,by decide +kernel,rfl,by decide +kernel,by decide +kernel⟩
theorem KU {f:Addr}{fd:FuncData}(T:Txt K mg C)(F:Fun K "_law_refused" "_law_refused" wQ f fd) {CT HE fI:Addr} (U:Exc P w K mg base CT HE fI "name" "NoTicket" "HallError") (Hbe:Rx P w K mg base "waits_of" CT "name" 6 4 yF) (Hbd:Rx P w K mg base "tolls_of" CT "name" 7 4 vG) (Hbc:Rx P w K mg base "shows_why" CT "name" 7 5 vt):FnOk P w K mg base CX0 8 f fd ["_law_queue_here","_law_hours","_law_begin","_law_name","_law_which"] (pSp ⟨K,w⟩ 5 (len? 5 (mir wJ vv))):=by
 have sc:=J6
 refine zv (k:=7) F J6 (λcdv A outer s H E B hr=>?_)
 exact (ze (zj (i:=5) sc.nd (by rfl) (by first|exact .inl rfl|exact .inr rfl) JY) (ze (Qy (Yq (zn (zZ hr.units) zK (zb 4 (pv 4)) de_int.read (nomark _)) (Zd Hbe yP (hr.mono (by decide)) (by rfl) (za (zc 0 (pv 0)) (za (zc 1 (pv 1)) (za (zc 2 (pv 2)) (za (zc 3 (pv 3)) zh))))) (Yq (zn (zZ hr.units) zK (zb 4 (pv 4)) de_int.read (nomark _)) (Zd Hbd yP (hr.mono (by decide)) (by rfl) (za (zc 0 (pv 0)) (za (zc 1 (pv 1)) (za (zc 2 (pv 2)) (za (zc 3 (pv 3)) zh))))) (Zd Hbc yP (hr.mono (by decide)) (by rfl) (za (zc 0 (pv 0)) (za (zc 1 (pv 1)) (za (zc 2 (pv 2)) (za (zc 3 (pv 3)) (za (zr (DA.frz (ya zF))) zh)))))))) (by rfl) U.mH U.xmH U.xc U.zT sc.nd (by rfl) (by rfl) ⟨rfl,rfl⟩ (by rfl) T.b_isinstance (by rfl) U.mT (by rfl) (by first|exact .inl rfl|exact .inr rfl) (by first|exact .inl rfl|exact .inr rfl) (by rfl) (by first | exact Or.inl rfl | exact Or.inr (Or.inl rfl) | exact Or.inr (Or.inr rfl))) (zf (zC (wc Kf KZ (zb 5 (pv 5)) (DE.read zQ) (nomark _))))))
theorem Y7:FnScope xh ["_law_queue_here","_law_hours","_law_begin","_law_run_here","_law_name","_law_days_here","_law_rest"] (zd yC):=⟨rfl,rfl,rfl,by decide +kernel,rfl,by decide +kernel,by decide +kernel⟩
theorem zbt {f:Addr}{fd:FuncData}(T:Txt K mg C)(F:Fun K "_law_sums" "_law_sums" yC f fd) (Ham:Fx P w K mg base "_law_counters" 2 5 wB) (Ha8:Fx P w K mg base "waits_of" 7 4 (ye C)) (Hak:Fx P w K mg base "_law_at" 1 3 y7) (Ha6:Fx P w K mg base "tolls_of" 8 4 (y6 C)) (Hao:Fx P w K mg base "_law_due" 1 3 yE):FnOk P w K mg base CX0 9 f fd ["_law_queue_here","_law_hours","_law_begin","_law_run_here","_law_name","_law_days_here","_law_rest"] (pSp ⟨K,w⟩ 7 (len? 7 (mir xh (j6 C)))):=by
 have sc:=Y7
 refine zv (k:=8) F Y7 (λcdv A outer s H E B hr=>?_)
 exact (ze (zj (i:=7) sc.nd (by rfl) (locl (by rfl)) (DA.frz (zX Hao (hr.mono (by decide)) (by rfl) (za (zc 0 (pv 0)) (za (zc 3 (pv 3)) (za (zc 4 (pv 4)) zh)))))) (ze (zj (i:=8) sc.nd (by rfl) (locl (by rfl)) (JM (by rfl) (by rfl) T.b_max (zy (DA.read (yf (own:=["_law_turn","_law_names_here"]) (cap:=[("_law_name",4)]) (t:=(.tup [0,1])) (by rfl) (zL (sc:=(zd yC).names) (N:=xh) (by rfl) (by rfl) (by rfl) (by decide +kernel)) (zG hb1 (DR.cur (zb 3 (pv 3)))) (by decide) (λB' C' s₀ H₀ fp pn=>⟨(zY (by rfl) (zA (zi (i:=0) (show List.Nodup (["_law_turn","_law_names_here","_law_name"]:List Str) from by decide +kernel) (by rfl) (locl (by rfl))) (zA (zi (i:=1) (show List.Nodup (["_law_turn","_law_names_here","_law_name"]:List Str) from by decide +kernel) (by rfl) (locl (by rfl))) zW))),(yL (zn wa ok_in (zb 2 (pv 2)) (zb 1 (pv 1)) (by rfl))),(zu 0 (pv 0))⟩))) z9))) (ze (zq (zn (xw hr.units) zK (zb 8 (pv 8)) (DE.read (vi (DE.read (zD (DE.read (zD (zb 2 (pv 2)) (DE.read (xr (DD.read (kn (by rfl) (by rfl) T.b_dict (zy (zb 0 (pv 0)) z9))) (zb 4 (pv 4)))))) (DE.read (yc (by rfl) T.b_len (zy (zb 7 (pv 7)) z9))))) de_int.read)) (nomark _)) (zf (zC zQ)) z7) (ze (zj (i:=9) sc.nd (by rfl) (locl (by rfl)) (Jj (by rfl) (by rfl) T.b_sum (zy (DA.read (yf (own:=["_law_row_here"]) (cap:=[]) (t:=(.name 0)) (by rfl) (zL (sc:=(zd yC).names) (N:=xh) (by rfl) (by rfl) (by rfl) (by decide +kernel)) (zG hb1 (DR.cur (DA.read (zX Ha6 (hr.mono (by decide)) (by rfl) (za (zc 0 (pv 0)) (za (zc 1 (pv 1)) (za (zc 2 (pv 2)) (za (zc 4 (pv 4)) zh)))))))) (by decide) (λB' C' s₀ H₀ fp pn=>⟨(zi (i:=0) (show List.Nodup (["_law_row_here"]:List Str) from by decide +kernel) (by rfl) (locl (by rfl))),y1,(zx (zb 0 (pv 0)) de_int.read (by intro _ _;rfl))⟩))) z9))) (ze (zq (zn (xw hr.units) zK (zb 9 (pv 9)) (DE.read (Jj (by rfl) (by rfl) T.b_sum (zy (DA.read (yf (own:=["_law_turn","_law_names_here"]) (cap:=[("_law_days_here",5),("_law_rest",6)]) (t:=(.tup [0,1])) (by rfl) (zL (sc:=(zd yC).names) (N:=xh) (by rfl) (by rfl) (by rfl) (by decide +kernel)) (zG hb1 (DR.cur (zb 7 (pv 7)))) (by decide) (λB' C' s₀ H₀ fp pn=>⟨(zY (by rfl) (zA (zi (i:=0) (show List.Nodup (["_law_turn","_law_names_here","_law_days_here","_law_rest"]:List Str) from by decide +kernel) (by rfl) (locl (by rfl))) (zA (zi (i:=1) (show List.Nodup (["_law_turn","_law_names_here","_law_days_here","_law_rest"]:List Str) from by decide +kernel) (by rfl) (locl (by rfl))) zW))),y1,(zt Hak (hr.mono (by decide)) (by rfl) (za (zc 2 (pv 2)) (za (zc 3 (pv 3)) (za (zc 0 (pv 0)) zh))))⟩))) z9))) (nomark _)) (zf (zC zQ)) z7) (zf (zC (zt Ham (hr.mono (by decide)) (by rfl) (za (zc 0 (pv 0)) (za (zr (zt Ha8 (hr.mono (by decide)) (by rfl) (za (zc 0 (pv 0)) (za (zc 1 (pv 1)) (za (zc 2 (pv 2)) (za (zc 4 (pv 4)) zh)))))) (za (zc 5 (pv 5)) (za (zc 6 (pv 6)) (za (zc 4 (pv 4)) zh)))))))))))))
theorem VX:FnScope vA ["_law_script"] (zd yw):=⟨rfl,rfl,rfl,by decide +kernel,rfl,by decide +kernel,by decide +kernel⟩
theorem zal {f:Addr}{fd:FuncData}(T:Txt K mg C)(F:Fun K "law" "law" yw f fd) (Har:Fx P w K mg base "_law_refused" 8 5 yA) (Hat:Fx P w K mg base "_law_row" 2 4 yo) (Hax:Fx P w K mg base "_law_sums" 9 7 (xn C)) (Has:Fx P w K mg base "_law_right" 9 5 (xU C)) (Hav:Fx P w K mg base "_law_run" 2 4 vQ) (Hal:Fx P w K mg base "_law_cell" 1 2 zU) (Han:Fx P w K mg base "_law_days" 1 1 vj) (Haq:Fx P w K mg base "_law_queue" 3 1 wr) (Haa:Kx P w K mg base C "Hours" 5 2 (xZ C)):FnOk P w K mg base CX0 10 f fd ["_law_script"] (pSp ⟨K,w⟩ 1 (len? 1 (mir vA (vV C)))):=by
 have sc:=VX
 refine zv (k:=9) F VX (λcdv A outer s H E B hr=>?_)
 exact (ze (zj (i:=1) sc.nd (by rfl) (locl (by rfl)) (DA.frz (zX Haq (hr.mono (by decide)) (by rfl) (za (zc 0 (pv 0)) zh)))) (ze (jZ (i:=2) (own:=["_law_step"]) (cap:=[]) (t:=(.name 0)) (by rfl) (zL (sc:=(zd yw).names) (N:=vA) (by rfl) (by rfl) (by rfl) (by decide +kernel)) (zG hb1 (DR.cur (DA.read (zX Hat (hr.mono (by decide)) (by rfl) (za (zc 0 (pv 0)) (za (zr de_int) (za (zr de_int) (za (zr (zJ (DE.read (zt Hal (hr.mono (by decide)) (by rfl) (za (zc 0 (pv 0)) (za (zr de_int) zh)))) de_int.read)) zh)))))))) (by decide) (λB' C' s₀ H₀ fp pn=>⟨(zi (i:=0) (show List.Nodup (["_law_step"]:List Str) from by decide +kernel) (by rfl) (locl (by rfl))),y1,(yt (z8 (zD de_int.read (DE.read (zJ (zb 0 (pv 0)) de_int.read))) (z8 (yr (zb 0 (pv 0)) de_int.read) zF)))⟩) sc.nd (by rfl) (locl (by rfl))) (ze (zj (i:=3) sc.nd (by rfl) (locl (by rfl)) (zt Han (hr.mono (by decide)) (by rfl) (za (zc 2 (pv 2)) zh))) (ze (zj (i:=4) sc.nd (by rfl) (locl (by rfl)) (zD de_int.read (DE.read (zJ (DE.read (yr (DE.read (zt Hal (hr.mono (by decide)) (by rfl) (za (zc 0 (pv 0)) (za (zr de_int) zh)))) de_int.read)) de_int.read)))) (ze (zj (i:=5) sc.nd (by rfl) (locl (by rfl)) (zaz Haa (hr.mono (by decide)) (by rfl) (za (zc 2 (pv 2)) (za (zc 4 (pv 4)) zh)))) (ze (zj (i:=6) sc.nd (by rfl) (locl (by rfl)) (zJ (DE.read (yr (DE.read (zt Hal (hr.mono (by decide)) (by rfl) (za (zc 0 (pv 0)) (za (zr de_int) zh)))) de_int.read)) de_int.read)) (ze (zq (zn (zZ hr.units) zK (DE.read (zJ (DE.read (zt Hal (hr.mono (by decide)) (by rfl) (za (zc 0 (pv 0)) (za (zr de_int) zh)))) de_int.read)) de_int.read (nomark _)) (zf (zj (i:=6) sc.nd (by rfl) (locl (by rfl)) (zJ (DE.read (yr (DE.read (zt Hal (hr.mono (by decide)) (by rfl) (za (zc 0 (pv 0)) (za (zr de_int) zh)))) de_int.read)) (DE.read (Qk de_int.read de_int.read))))) z7) (ze (zj (i:=7) sc.nd (by rfl) (locl (by rfl)) (DA.frz (zX Hav (hr.mono (by decide)) (by rfl) (za (zc 1 (pv 1)) (za (zc 3 (pv 3)) (za (zc 4 (pv 4)) (za (zc 6 (pv 6)) zh))))))) (ze (zj (i:=8) sc.nd (by rfl) (locl (by rfl)) (DA.frz (JV (by rfl) T.b_list (zy (zb 1 (pv 1)) z9)))) (ze (zS (t:=(.name 9)) PassesOwn.never (by rfl) (zG hb0 (DE.fix (DA.frz (qt (DA.read (ya (z8 de_int (z8 (vi (DE.read (yc (by rfl) T.b_len (zy (zb 1 (pv 1)) z9))) de_int.read) zF)))) (DA.read (zX Hat (hr.mono (by decide)) (by rfl) (za (zc 0 (pv 0)) (za (zr de_int) (za (zr (yc (by rfl) T.b_len (zy (zb 1 (pv 1)) z9))) (za (zr (Uw (by rfl) (by rfl) T.b_min (zy de_int.read (zy (DE.read (yc (by rfl) T.b_len (zy (zb 1 (pv 1)) z9))) z9)))) zh)))))))))) (zi (i:=9) sc.nd (by rfl) (locl (by rfl))) (ze (zj (i:=10) sc.nd (by rfl) (locl (by rfl)) (zx (DE.read (zx (zb 1 (pv 1)) (zb 9 (pv 9)) (by intro _ _;rfl))) de_int.read (by intro _ _;rfl))) (ze (zq (yh (zO (DE.read (zt Has (hr.mono (by decide)) (by rfl) (za (zc 8 (pv 8)) (za (zc 5 (pv 5)) (za (zc 6 (pv 6)) (za (zc 7 (pv 7)) (za (zc 10 (pv 10)) zh))))))) (by intro _;rfl))) (zf (zC zQ)) z7) (zf (zq (yh (zO (DE.read (zt Hax (hr.mono (by decide)) (by rfl) (za (zc 8 (pv 8)) (za (zc 5 (pv 5)) (za (zc 6 (pv 6)) (za (zc 7 (pv 7)) (za (zc 10 (pv 10)) (za (zc 3 (pv 3)) (za (zc 4 (pv 4)) zh))))))))) (by intro _;rfl))) (zf (zC zQ)) z7))))) (ze (zj (i:=11) sc.nd (by rfl) (locl (by rfl)) (zD (DE.read (Kt (DE.read (zx (DE.read (zx (zb 1 (pv 1)) de_int.read (by intro _ _;rfl))) de_int.read (by intro _ _;rfl))) vb (jc de_int.read))) (DE.read wq))) (ze (zq (zn kX ok_in (zb 11 (pv 11)) (DA.read (yf (own:=["_law_row_here"]) (cap:=[]) (t:=(.name 0)) (by rfl) (zL (sc:=(zd yw).names) (N:=vA) (by rfl) (by rfl) (by rfl) (by decide +kernel)) (zG hb1 (DR.cur (zb 1 (pv 1)))) (by decide) (λB' C' s₀ H₀ fp pn=>⟨(zi (i:=0) (show List.Nodup (["_law_row_here"]:List Str) from by decide +kernel) (by rfl) (locl (by rfl))),y1,(zx (zb 0 (pv 0)) de_int.read (by intro _ _;rfl))⟩))) (by rfl)) (zf (zS (t:=(.name 12)) PassesOwn.never (by rfl) (vY (by rfl) T.b_range (zy de_int.read z9)) (zi (i:=12) sc.nd (by rfl) (locl (by rfl))) (zf (zq (yh (zO (DE.read (zt Har (hr.mono (by decide)) (by rfl) (za (zc 8 (pv 8)) (za (zc 5 (pv 5)) (za (zc 6 (pv 6)) (za (zc 11 (pv 11)) (za (zc 12 (pv 12)) zh))))))) (by intro _;rfl))) (zf (zC zQ)) z7)))) z7) (zf (zC (vh (wc (zZ hr.units) zK (zb 8 (pv 8)) (zb 1 (pv 1)) (nomark _)) (vF (zt Har (hr.mono (by decide)) (by rfl) (za (zr (DA.frz (ya zF))) (za (zc 5 (pv 5)) (za (zc 6 (pv 6)) (za (zc 11 (pv 11)) (za (zr de_int) zh))))))))))))))))))))))
abbrev wo:Stmt:=kx (top 5) 0
theorem ZH:FnScope ["self","name"] ["self","name"] (zd wo):=⟨rfl,rfl,rfl,by decide +kernel,rfl,by decide +kernel,by decide +kernel⟩
theorem QV {f CT HE:Addr}{fd:FuncData}(F:Fun K "__init__" "NoTicket.__init__" wo f fd) (xc:XC K CT HE f "name") (mH:mg "HallError" = some (.ref HE)):FnOk P w K mg base CX0 1 f fd ["self","name"] (xiSp CT "name"):=by
 have sc:=ZH
 refine F.ok (k:=0) ZH (λvs H Q E h=>?_) (λcdv A outer s H vs Q E hr h=>?_)
 ·obtain⟨e,v,t,rfl,_⟩:=h;rfl
 ·refine⟨_,yM (yR (zcj xc (by rfl) mH (zN (pv 0) (zN (pv 1) yd)))) (vx (zb2 xc (pv 0) (pv 1) (by rfl))),?_⟩
  obtain⟨e,v,t,rfl,he,q⟩:=h
  exact⟨_,rfl,_,rfl,e,v,t,rfl,he,λt'=>⟨_,rfl,_,rfl,e,t',rfl,zl,λdx h1 h2=>zb4 (t:=t) q t' dx h1 h2⟩⟩
end
end My
namespace My
open PySem PySem.Spec L2 L3 L4 Dv HM
open PyProof.Rows hiding St
theorem wI (ns:List Int)(k:Nat):zU [.val (.scr ns),.val (.int k)]=some (.val (.int (ns.getD k 0))):=by
 by_cases h:k < ns.length
 ·have e:atI ns (k:Int)=some ns[k]:=yy k (List.getElem?_eq_getElem h)
  simp[zU,mir,stE,jd,qN,h,e]
 ·simp[zU,mir,stE,jd,qN,h]
theorem GD (a:Int)(k:Int):∃z,v9 [.val (.int a),.val (.int k)]=some (.val (.int z)):=by
 have h1:∀x:Int,-LIM < x % 2147483647:=λx=>by unfold LIM;omega
 have h1':∀x:Int,x % 2147483647 < LIM:=λx=>by unfold LIM;omega
 have h2:∀x:Int,-LIM < x % 2147483629:=λx=>by unfold LIM;omega
 have h2':∀x:Int,x % 2147483629 < LIM:=λx=>by unfold LIM;omega
 have l1:-LIM < 69621:=by decide
 have l2:69621 < LIM:=by decide
 have l3:-LIM < 16807:=by decide
 have l4:16807 < LIM:=by decide
 simp[v9,mir,stE,jM,ue,zM,Yo,h1,h2,h1',h2',l1,l2,l3,l4]
theorem Y5 (X0 X1 X3:Option En)(b:Int)(hb:0 < b)(hb2:b < 1073741824):∀(ks:List Nat) (c:Int) (k0:Option En) (vs:List Int),vs.length+ks.length<=1000->(∀v∈vs,0<=v/\v < b) ->
  ∃(c':Int) (k':Option En) (vs':List Int),(∀v∈vs',0<=v/\v < b)/\vs'.length=vs.length+ks.length /\
   forD (.name 6) Zw (ks.map λ(k:Nat)=>D.int (0+(k:Int))) [X0,X1,some (.val (.int b)),X3,some (.val (.int c)),some (.acc (vs.map D.int)),k0]
   = some (.next [X0,X1,some (.val (.int b)),X3,some (.val (.int c')),some (.acc (vs'.map D.int)),k'])
 | [],c,k0,vs,hl,hv=>⟨c,k0,vs,hv,by simp,by simp⟩
 |k::ks,c,k0,vs,hl,hv=>by
  simp only[List.length_cons] at hl
  have ht:(vs.map D.int).length<=TOP:=by simp[TOP];omega
  have ht':vs.length<=TOP:=by simp[TOP];omega
  obtain⟨c',k',vs',p1,p2,p3⟩:=Y5 X0 X1 X3 b hb hb2 ks (c / b) (some (.val (.int (0+(k:Int))))) (vs++[c % b]) (by simp;omega) (by
   intro w hw
   rcases List.mem_append.mp hw with h | h
   ·exact hv w h
   ·rw[List.mem_singleton.mp h];exact⟨Int.emod_nonneg _ (by omega),Int.emod_lt_of_pos _ hb⟩)
  refine⟨c',k',vs',p1,by rw[p2];simp;omega,?_⟩
  rw[<-p3]
  simp[Zw,zM hb,yg hb hb2,ht,ht']
theorem VF (b c:Int)(hb:0 < b):∀ks:List Nat,∃vs:List Int,(∀v∈vs,0<=v/\v < b)/\vs.length=ks.length /\
  compD (.name 0) tYes kL [none,some (.val (.int b)),some (.val (.int c))] (ks.map λ(k:Nat)=>D.int (0+(k:Int)))=some (vs.map D.int)
 | []=>⟨[],by simp,rfl,by simp[compD]⟩
 |k::ks=>by
  obtain⟨vs,p1,p2,p3⟩:=VF b c hb ks
  obtain⟨z,hz⟩:=GD c (0+(k:Int))
  refine⟨(z / 8 % b)::vs,?_,by simp[p2],?_⟩
  ·intro v hv
   rcases List.mem_cons.mp hv with rfl | hv
   ·exact⟨Int.emod_nonneg _ (by omega),Int.emod_lt_of_pos _ hb⟩
   ·exact p1 v hv
  ·simp at hz
   simp[compD,kL,hz,zM hb,yg,p3,asgD] at p3 ⊢
   simp[p3]
theorem qC (ns:List Int)(at0:Nat)(b:Int)(n:Nat)(hb:0 < b)(hb2:b < 1073741824)(hn:n<=900):∃vs:List Int,(∀v∈vs,0<=v/\v < b)/\vs.length=n /\
  yo [.val (.scr ns),.val (.int at0),.val (.int b),.val (.int n)]=some (.acc (vs.map D.int)):=by
 have e0:=wI ns at0
 have e00:=wI ns 0
 have hB:-BIG<=(n:Int)/\(n:Int)<=BIG:=by unfold BIG;omega
 have hs:(0:Int)<=(at0:Int) % 8:=by omega
 by_cases q:Builtin.bitAnd (ns.getD 0 0 / 2 ^ ((at0:Int) % 8).toNat) 1=1
 ·obtain⟨vs,p1,p2,p3⟩:=VF b (ns.getD at0 0) hb (List.range n)
  refine⟨vs,p1,by simpa using p2,?_⟩
  simp at e00 q
  simp only[yo,mir,stE,wm,jA]
  simp[e0,e00,hB,y3,TOP,zM,Jb hs,q] at p3 ⊢
  have hn2:n<=1000000:=by omega
  simp[p3,hn2]
 ·obtain⟨c',k',vs',p1,p2,p3⟩:=Y5 (some (.val (.scr ns))) (some (.val (.int at0))) (some (.val (.int n))) b hb hb2 (List.range n) (ns.getD at0 0) none [] (by simp;omega) (by simp)
  refine⟨vs',p1,by simpa using p2,?_⟩
  simp at e00 q
  simp only[yo,mir,stE,wm,jA]
  simp[e0,e00,hB,y3,TOP,zM,Jb hs,q] at p3 ⊢
  simp[p3]
def rowD (r:HM.Row):D:=.tup [.int r.1,.int r.2]
def Good (r:HM.Row):Prop:=(1<=r.1/\r.1<=100)/\0<=r.2/\r.2<=8
theorem R4 (a:Int):jg [.val (.int a)]=some (.val (.bl true)):=by
 simp[jg,mir,stE,YV,kZ]
theorem uq {a lo hi:Int}(h1:lo<=a)(h2:a<=hi):yU [.val (.int a),.val (.int lo),.val (.int hi)]=some (.val (.bl true)):=by
 simp[yU,mir,stE,jj,Z6,R4,h1,h2]
theorem UP {r:HM.Row}(h:Good r):vC [.val (rowD r)]=some (.val (.bl true)):=by
 simp[vC,mir,stE,VB,uz,rowD,uq h.1.1 h.1.2,uq h.2.1 h.2.2]
theorem zdb {α:Type}{xs:List α}{n:Nat}(h:xs.length<=n)(hn:n<=TOP):xs.length<=TOP:=Nat.le_trans h hn
theorem t16:16<=TOP:=by decide
theorem Qe:∀(rs:List HM.Row),(∀r∈rs,Good r)->compD (.name 0) tYes ku [none] (rs.map rowD)=some (rs.map λ_=>D.bl true)
 | [],_=>by simp
 |r::rs,h=>by
  have h1:=UP (h r (by simp))
  have ih:=Qe rs λq hq=>h q (by simp[hq])
  simp only[List.map_cons,yi,Gz,Option.bind_some,zbh,if_true,ih,Option.map_some]
  simp[ku,h1]
theorem kH {α:Type}:∀(rs:List α),asBs (rs.map λ_=>D.bl true)=some (rs.map λ_=>true)
 | []=>rfl
 |r::rs=>by simp[asBs,kH rs]
theorem Qt {rs:List HM.Row}{rest:Int}(h:∀r∈rs,Good r)(hl:rs.length<=16)(h1:1<=rest)(h2:rest<=8):vz [.val (.lst (rs.map rowD)),.val (.int rest)]=some (.val .non):=by
 have e:=Qe rs h
 have e2:=kH rs
 have e3:=uq h1 h2
 have ht:rs.length<=TOP:=zdb hl t16
 simp only[vz,mir,stE,ve,uj]
 have hl':¬((16:Int) < (rs.length:Int)):=by omega
 simp[e,e2,e3,ht,hl,hl']
theorem JL (R:Option En)(rest:D):∀(rs acc:List HM.Row) (x y:Option En),Pos rs->acc.length+rs.length<=1000 ->
  ∃(x' y':Option En),forD (.tup [3,4]) vM (rs.map rowD) [R,some (.val rest),some (.acc (acc.map rowD)),x,y]=some (.next [R,some (.val rest),some (.acc ((rs.foldl kstep acc).map rowD)),x',y'])
 | [],acc,x,y,_,_=>⟨x,y,by simp⟩
 |r::rs,acc,x,y,hp,hl=>by
  simp only[List.length_cons] at hl
  obtain⟨h1,h2⟩:=Pos.cons.mp hp
  have hk:=Vu acc r
  obtain⟨x',y',e⟩:=JL R rest rs (kstep acc r) (some (.val (.int r.1))) (some (.val (.int r.2))) h2 (by omega)
  refine⟨x',y',?_⟩
  rw[List.foldl_cons,<-e]
  have ht:acc.length<=TOP:=by simp[TOP];omega
  rcases List.eq_nil_or_concat acc with rfl | ⟨pre,q,rfl⟩
  ·simp[vM,rowD,kstep,h1.1,TOP]
  ·rw[List.concat_eq_append] at ht ⊢
   have hk:kstep (pre++[q]) r=if q.2=r.2 then pre++[(q.1+r.1,r.2)] else pre++[q]++[r]:=by
    unfold kstep;rw[List.getLast?_concat];simp only[List.dropLast_concat]
   rw[hk]
   have ea:atI ((pre++[q]).map rowD) (-1)=some (rowD q):=by rw[List.map_append];exact qI
   have en:ixN (pre.length+1) (-1)=some pre.length:=zeh _
   have es:∀d:D,(pre.map rowD++[rowD q]).set pre.length d=pre.map rowD++[d]:=λd=>by
    rw[List.set_append_right _ _ (by simp)];simp
   have ea':atI (pre.map rowD++[rowD q]) (-1)=some (rowD q):=qI
   by_cases c:q.2=r.2
   ·rw[if_pos c]
    simp[vM,ea',en,es,rowD,c,TOP] at ht ⊢
    try simp[rowD] at ea' es
   ·rw[if_neg c]
    simp[vM,ea',rowD,c,TOP,h1.1] at ht ⊢
    simp[rowD] at ea'
    simp[ea',c,ht]
theorem Kk {rs:List HM.Row}{rest:Int}(h:Pos rs)(hl:rs.length<=500):vJ [.val (.lst (rs.map rowD)),.val (.int rest)]=some (.acc ((krows rest rs).map rowD)):=by
 obtain⟨x',y',e⟩:=JL (some (.val (.lst (rs.map rowD)))) (.int rest) rs [] none none h (by simp;omega)
 simp only[vJ,mir,stE,jN,uA]
 simp at e
 simp[e,TOP]
 unfold krows kend
 rcases List.eq_nil_or_concat (rs.foldl kstep []) with h0 | ⟨pre,q,h0⟩
 ·rw[h0];simp
 ·rw[List.concat_eq_append] at h0
  rw[h0]
  have ea':atI (pre.map rowD++[rowD q]) (-1)=some (rowD q):=qI
  by_cases c:q.2=rest
  ·simp[ea',rowD,c]
   try simp[rowD] at ea'
  ·simp[ea',rowD,c]
   try simp[rowD] at ea'
def spanD (p:Int×HM.Row):D:=.tup [.int p.1,.int (p.1+p.2.1),.int p.2.2]
def spans:Int->List HM.Row->List (Int×HM.Row)
 |_,[]=>[]
 |s,r::rs=>(s,r)::spans (s+r.1) rs
theorem J8 (R:D):∀(rs:List HM.Row) (s:Int) (acc:List D) (x y:Option En),acc.length+rs.length<=1000 ->
  ∃(s':Int) (x' y':Option En),forD (.tup [3,4]) kY (rs.map rowD) [some (.val R),some (.acc acc),some (.val (.int s)),x,y]=some (.next [some (.val R),some (.acc (acc++(spans s rs).map spanD)),some (.val (.int s')),x',y'])
 | [],s,acc,x,y,_=>⟨s,x,y,by simp[spans]⟩
 |r::rs,s,acc,x,y,hl=>by
  simp only[List.length_cons] at hl
  obtain⟨s',x',y',e⟩:=J8 R rs (s+r.1) (acc++[spanD (s,r)]) (some (.val (.int r.1))) (some (.val (.int r.2))) (by simp;omega)
  refine⟨s',x',y',?_⟩
  have ht:acc.length<=TOP:=by simp[TOP];omega
  rw[List.append_assoc] at e
  simp only[spans,List.map_cons]
  rw[show acc++spanD (s,r)::(spans (s+r.1) rs).map spanD=acc++([spanD (s,r)]++(spans (s+r.1) rs).map spanD) from rfl,<-e]
  have t3:3<=TOP:=by decide
  simp[kY,rowD,spanD,ht,t3]
theorem zaj {rs:List HM.Row}(hl:rs.length<=500):vg [.val (.lst (rs.map rowD))]=some (.acc ((spans 0 rs).map spanD)):=by
 obtain⟨s',x',y',e⟩:=J8 (.lst (rs.map rowD)) rs 0 [] none none (by simp;omega)
 simp only[vg,mir,stE,qJ,ZD]
 simp at e
 simp[e]
theorem QI:¬(("spans" : Str) = "kept_rest"):=by decide +kernel
theorem RF:¬(("kept_rest" : Str) = "spans"):=by decide +kernel
def FS:List Str:=["kept_rest","spans"]
def hoursD (C:Addr)(rest:Int)(ks:List HM.Row):D:=.obj C FS [.int rest,.lst ((spans 0 ks).map spanD)]
theorem za7 {a b:D}:lookZ "kept_rest" FS [a,b]=some a:=by simp[lookZ,FS]
theorem uw {a b:D}:lookZ "spans" FS [a,b]=some b:=by simp[lookZ,FS,QI]
theorem zdc (C a dx:Addr){rs:List HM.Row}{rest:Int}(h:∀r∈rs,Good r)(hl:rs.length<=16)(h1:1<=rest)(h2:rest<=8)(hp:Pos rs) :
  mirI C ja (ji C) a dx [.val (.lst (rs.map rowD)),.val (.int rest)]=some (FS,[.int rest,.lst ((spans 0 (krows rest rs)).map spanD)]):=by
 have e1:=Qt h hl h1 h2
 have e2:=Kk (rest:=rest) hp (by omega)
 have e3:=zaj (rs:=krows rest rs) (Nat.le_trans (QG rest rs) (by omega))
 simp only[mirI,stE,ja,ji]
 simp[e1,e2,e3,putZ,RF,outI,outJ,FS]
theorem zcy (C:Addr){rs:List HM.Row}{rest:Int}(h:∀r∈rs,Good r)(hl:rs.length<=16)(h1:1<=rest)(h2:rest<=8)(hp:Pos rs) :
  xZ C [.val (.lst (rs.map rowD)),.val (.int rest)]=some (FS,[.int rest,.lst ((spans 0 (krows rest rs)).map spanD)]):=zdc C 0 0 h hl h1 h2 hp
theorem RE {g1 g2 g3:EnvD->Option D}{n1 n2:Str}(h1:∀o o' l,g1 (o::l)=g1 (o'::l))(h2:∀o o' l,g2 (o::l)=g2 (o'::l))(h3:∀o o' l,g3 (o::l)=g3 (o'::l))(C a dx:Addr)(l:EnvD) :
  outI a dx C (sSeq (sExpr g1) (sSeq (sFldD 0 C n1 g2) (sFldD 0 C n2 g3)) (some (.oac a dx C [] [])::l))=outI 0 0 C (sSeq (sExpr g1) (sSeq (sFldD 0 C n1 g2) (sFldD 0 C n2 g3)) (some (.oac 0 0 C [] [])::l)):=by
 have e1:=h1 (some (.oac a dx C [] [])) (some (.oac 0 0 C [] [])) l
 have e2:=h2 (some (.oac a dx C [] [])) (some (.oac 0 0 C [] [])) l
 cases q1:g1 (some (.oac 0 0 C [] [])::l) with
 |none=>rw[q1] at e1;simp[e1,q1,outI]
 |some d1=>
  rw[q1] at e1
  cases q2:g2 (some (.oac 0 0 C [] [])::l) with
  |none=>rw[q2] at e2;simp[e1,q1,e2,q2,outI]
  |some d2=>
   rw[q2] at e2
   simp[e1,q1,e2,q2]
   have e3:=h3 (some (.oac a dx C (putZ n1 d2 [] []).1 (putZ n1 d2 [] []).2)) (some (.oac 0 0 C (putZ n1 d2 [] []).1 (putZ n1 d2 [] []).2)) l
   cases q3:g3 (some (.oac 0 0 C (putZ n1 d2 [] []).1 (putZ n1 d2 [] []).2)::l) with
   |none=>rw[q3] at e3;simp[putZ] at e3 q3;simp[e3,q3,outI,putZ]
   |some d3=>rw[q3] at e3;simp[putZ] at e3 q3;simp[e3,q3,outI,outJ,putZ]
theorem Ga (C a dx:Addr)(xs:List En):mirI C ja (ji C) a dx xs=xZ C xs:=by
 unfold xZ mirI stE
 exact RE (λo o' l=>by simp) (λo o' l=>by simp) (λo o' l=>by simp) C a dx _
theorem t2:2<=TOP:=by decide
theorem qY:∀(s:Int) (ks:List HM.Row),(spans s ks).length=ks.length
 |_,[]=>rfl
 |s,r::rs=>by simp[spans,qY (s+r.1) rs]
def stp (s:Int):List HM.Row->Nat->Int
 | [],_=>s
 |r::_,0=>s+r.1
 |r::rs,i+1=>stp (s+r.1) rs i
def cntK (rest:Int):List HM.Row->Nat->Int
 | [],_=>rest
 |r::_,0=>r.2
 |_::rs,i+1=>cntK rest rs i
theorem um (rest:Int):∀(ks:List HM.Row) (s:Int) (i:Nat),i < ks.length->∃(a:Int) (r:HM.Row),(spans s ks)[i]?=some (a,r)/\a+r.1=stp s ks i/\r.2=cntK rest ks i
 |r::rs,s,0,_=>⟨s,r,by simp[spans],rfl,rfl⟩
 |r::rs,s,i+1,h=>by
  obtain⟨a,q,h1,h2,h3⟩:=um rest rs (s+r.1) i (by simpa using h)
  exact⟨a,q,by simpa[spans] using h1,h2,h3⟩
theorem Vj:∀(ks:List HM.Row) (s:Int) (i:Nat),Pos ks->s<=stp s ks i
 | [],_,_,_=>Int.le_refl _
 |r::rs,s,0,h=>by have:=(Pos.cons.mp h).1.1;simp only[stp];omega
 |r::rs,s,i+1,h=>by have:=(Pos.cons.mp h).1.1;have:=Vj rs (s+r.1) i (Pos.cons.mp h).2;simp only[stp];omega
theorem WP:∀(ks:List HM.Row) (s:Int) (i j:Nat),Pos ks->i<=j->stp s ks i<=stp s ks j
 | [],_,_,_,_,_=>Int.le_refl _
 |r::rs,s,0,0,_,_=>Int.le_refl _
 |r::rs,s,0,j+1,h,_=>Vj rs (s+r.1) j (Pos.cons.mp h).2
 |r::rs,s,i+1,0,_,h=>by omega
 |r::rs,s,i+1,j+1,h,hj=>WP rs (s+r.1) i j (Pos.cons.mp h).2 (by omega)
theorem JN (rest x:Int):∀(ks:List HM.Row) (s:Int) (lo:Nat),(∀i,i < lo->stp s ks i<=x)->(lo < ks.length->x < stp s ks lo)->lo<=ks.length->atR rest ks (x - s)=cntK rest ks lo
 | [],_,_,_,_,_=>rfl
 |r::rs,s,0,_,h2,_=>by
  have h:=h2 (by simp)
  simp only[stp] at h
  have h':x - s < r.1:=by omega
  simp[atR,h',cntK]
 |r::rs,s,lo+1,h1,h2,h3=>by
  have h:=h1 0 (by omega)
  simp only[stp] at h
  have h':¬(x - s < r.1):=by omega
  have e:x - s - r.1=x - (s+r.1):=by omega
  simp only[atR,if_neg h',e,cntK]
  exact JN rest x rs (s+r.1) lo (λi hi=>h1 (i+1) (by omega)) (λhl=>h2 (by simpa using hl)) (by simpa using h3)
theorem Yv {α:Type}{xs:List α}{i:Nat}{v:α}(h:xs[i]?=some v):atI xs (i:Int)=some v:=yy i h
theorem uG (C:Addr)(fs:List Str)(ds:List D)(rest x:Int)(ks:List HM.Row)(hp:Pos ks)(hs:lookZ "spans" fs ds=some (.lst ((spans 0 ks).map spanD))):∀(k lo hi:Nat) (m:Option En),hi - lo<=k->lo<=hi->hi<=ks.length->(∀i,i < lo->stp 0 ks i<=x)->(hi < ks.length->x < stp 0 ks hi) ->
  ∃(lo':Nat) (m':Option En),(lo'<=ks.length/\(∀i,i < lo'->stp 0 ks i<=x)/\(lo' < ks.length->x < stp 0 ks lo')) /\
   whileD (gb' (g2 fLt (gr 2) (gr 3))) (jz C) (k+1) [some (.val (.obj C fs ds)),some (.val (.int x)),some (.val (.int (lo:Int))),some (.val (.int (hi:Int))),m]
    = some (.next [some (.val (.obj C fs ds)),some (.val (.int x)),some (.val (.int (lo':Int))),some (.val (.int (lo':Int))),m'])
 |0,lo,hi,m,hk,hle,hn,h1,h2=>by
  have:lo=hi:=by omega
  subst this
  refine⟨lo,m,⟨hn,h1,h2⟩,?_⟩
  rw[jT]
  simp
 |k+1,lo,hi,m,hk,hle,hn,h1,h2=>by
  by_cases hlt:lo < hi
  ·obtain⟨mid,hm⟩:∃mid:Nat,mid=(lo+hi) / 2:=⟨_,rfl⟩
   have em:((lo:Int)+(hi:Int)) / 2=(mid:Int):=by omega
   have m1:lo<=mid:=by omega
   have m2:mid < hi:=by omega
   clear hm
   obtain⟨a,r,g1,g2',g3⟩:=um rest ks 0 mid (by omega)
   have ei:atI ((spans 0 ks).map spanD) (mid:Int)=some (spanD (a,r)):=Yv (by simp[g1])
   have t1:atI (α:=D) [.int a,.int (a+r.1),.int r.2] 1=some (.int (a+r.1)):=rfl
   have hl2:(lo:Int) < (hi:Int):=by omega
   by_cases hx:x < stp 0 ks mid
   ·obtain⟨lo',m',p,e⟩:=uG C fs ds rest x ks hp hs k lo mid (some (.val (.int (mid:Int)))) (by omega) (by omega) (by omega) h1 (λ_=>hx)
    refine⟨lo',m',p,?_⟩
    have hx':x < a+r.1:=by rw[g2'];exact hx
    rw[qj (ρ2:=[some (.val (.obj C fs ds)),some (.val (.int x)),some (.val (.int (lo:Int))),some (.val (.int (mid:Int))),some (.val (.int (mid:Int)))]) (by simp[hl2]) (by
     simp[jz,yg,em,hs,ei,spanD,t1,hx']),e]
   ·obtain⟨lo',m',p,e⟩:=uG C fs ds rest x ks hp hs k (mid+1) hi (some (.val (.int (mid:Int)))) (by omega) (by omega) (by omega) (λi hi'=>Int.le_trans (WP ks 0 i mid hp (by omega)) (by omega)) h2
    refine⟨lo',m',p,?_⟩
    have hx':¬(x < a+r.1):=by rw[g2'];exact hx
    rw[qj (ρ2:=[some (.val (.obj C fs ds)),some (.val (.int x)),some (.val (.int ((mid+1:Nat):Int))),some (.val (.int (hi:Int))),some (.val (.int (mid:Int)))]) (by simp[hl2]) (by
     simp[jz,yg,em,hs,ei,spanD,t1,hx']),e]
  ·have:lo=hi:=by omega
   subst this
   refine⟨lo,m,⟨hn,h1,h2⟩,?_⟩
   rw[jT]
   simp
theorem zck (C:Addr){rest x:Int}{ks:List HM.Row}(hp:Pos ks):vd C [.val (hoursD C rest ks),.val (.int x)]=some (.val (.int (atR rest ks x))):=by
 obtain⟨lo,m,⟨p1,p2,p3⟩,e⟩:=uG C FS [.int rest,.lst ((spans 0 ks).map spanD)] rest x ks hp uw ks.length 0 ks.length none (by omega) (by omega) (by omega) (λi hi=>by omega) (λh=>by omega)
 have ea:=JN rest x ks 0 lo p2 p3 p1
 rw[Int.sub_zero] at ea
 have ew:=uh e
 simp only[vd,mir,stE,jE,ug,hoursD]
 simp only[Int.natCast_zero] at ew
 by_cases hlt:lo < ks.length
 ·obtain⟨a,r,g1,g2',g3⟩:=um rest ks 0 lo hlt
  have ei:atI ((spans 0 ks).map spanD) (lo:Int)=some (spanD (a,r)):=Yv (by simp[g1])
  have t1:atI (α:=D) [.int a,.int (a+r.1),.int r.2] 2=some (.int r.2):=rfl
  have h':(lo:Int) < (ks.length:Int):=by omega
  simp[uw,qY,ew,ei,spanD,t1,h',ea,g3]
 ·have h':¬((lo:Int) < (ks.length:Int)):=by omega
  have e0:cntK rest ks lo=rest:=by
   have:∀(l:List HM.Row) (i:Nat),l.length<=i->cntK rest l i=rest:=by
    intro l
    induction l with
    |nil=>intro i _;rfl
    |cons q qs ih=>intro i hi;match i,hi with | i+1,hi=>exact ih i (by simpa using hi)
   exact this ks lo (by omega)
  simp[uw,qY,ew,h',za7,ea,e0]
section
variable (C:Addr){rs:List HM.Row}{rest:Int}
theorem KB {m:Str}(h1:¬(m = "kept_rest")) (h2:¬(m = "spans")) {r:Int} {x:List D}:lookZ m FS [D.int r,D.lst x]=none:=by simp[lookZ,FS,h1,h2]
theorem Vs {r:Int}{x:List D}:lookZ "at" FS [D.int r,D.lst x]=none:=KB (by decide +kernel) (by decide +kernel)
structure Fit (rs:List HM.Row)(rest:Int):Prop where
 good:∀r∈rs,Good r
 len:rs.length<=16
 lo:1<=rest
 hi:rest<=8
theorem Fit.pos (F:Fit rs rest):Pos rs:=λr hr=>⟨by have:=(F.good r hr).1.1;omega,(F.good r hr).2.1⟩
end
end My
namespace My
open PySem PySem.Spec L2 L3 L4 Dv HM QM
open PyProof.Rows hiding St
theorem VI {e:EnvD->Option D}(he:∀a b,e [some (.val a),some (.val b)]=some a):∀(q:List (Str×Int)),compD (.tup [0,1]) tYes e [none,none] (q.map tkD)=some ((q.map (·.1)).map D.str)
 | []=>by simp
 |t::q=>by
  have ih:=VI he q
  simp only[List.map_cons,yi,ih]
  simp[tkD,he]
theorem Vl {q:List (Str×Int)}(hl:q.length<=1000):x6 [.val (.lst (q.map tkD))]=some (.acc ((q.map (·.1)).map D.str)):=by
 have e:=VI (e:=uu) (λa b=>by simp[uu]) q
 have ht:q.length<=TOP:=by simp[TOP];omega
 simp at e
 simp[x6,mir,stE,Y9,ZA,ht,e]
theorem Jf:∀(q:List (Str×Int)),compD (.tup [0,1]) (gb' (g2 fGt (gr 1) (gc (.int 1)))) jx [none,none] (q.map tkD)=some (((q.filter λt=>decide (1 < t.2)).map λt=>(t.1,t.2 - 1)).map tkD)
 | []=>by simp
 |t::q=>by
  have ih:=Jf q
  simp only[List.map_cons,yi,ih]
  by_cases h:1 < t.2
  ·rw[List.filter_cons,if_pos (by simpa using h)]
   simp[tkD,jx,h,t2]
  ·rw[List.filter_cons,if_neg (by simpa using h)]
   simp[tkD,jx,h]
def rnT (r:Int×List Str):OT:=.tup [.frz (.int r.1),.lst (lfs (r.2.map D.str))]
def rowsT (rows:List (Int×List Str)):OT:=.lst (rows.map rnT)
theorem WE:∀ds:List D,erases (lfs ds)=ds
 | []=>rfl
 |d::ds=>by show (OT.frz d).erase::erases (lfs ds)=_;rw[WE ds];rfl
theorem uv (r:Int×List Str):(rnT r).erase=rnD r:=by
 show D.tup [.int r.1,.lst (erases (lfs (r.2.map D.str)))]=_
 rw[WE];rfl
theorem Wi:∀rows:List (Int×List Str),erases (rows.map rnT)=rows.map rnD
 | []=>rfl
 |r::rows=>by show (rnT r).erase::erases (rows.map rnT)=_;rw[Wi rows,uv];rfl
theorem wk (rows:List (Int×List Str)):(rowsT rows).erase=.lst (rows.map rnD):=by
 show D.lst (erases (rows.map rnT))=_
 rw[Wi]
def srvT (ns:List Str)(q:List (Str×Int)):OT:=.tup [.lst (lfs (ns.map D.str)),.lst (lfs (q.map tkD))]
theorem Ke {W:En}{q A Bq:List (Str×Int)}{m:Int}(hW:W=.val (.lst (q.map tkD))∨W=.bor (q.map tkD))(c1:cutD (q.map tkD) none (some m)=A.map tkD)(c2:cutD (q.map tkD) (some m) none=Bq.map tkD)(hA:A.length<=1000)(hB:Bq.length<=1000) :
  yQ [W,.val (.int m)]=some (.tre (.tup [.lst (lfs ((A.map (·.1)).map D.str)),.lst (lfs (((A.filter λt=>decide (1 < t.2)).map λt=>(t.1,t.2 - 1)).map tkD++Bq.map tkD))])):=by
 have e1:=Jf A
 have e2:=Vl hA
 have hf:=List.length_filter_le (λt:Str×Int=>decide (1 < t.2)) A
 have ht:A.length<=TOP:=by simp[TOP];omega
 have ht3:(A.filter λt=>decide (1 < t.2)).length+Bq.length<=TOP:=by simp only[TOP];omega
 simp at e1 e2
 rcases hW with rfl | rfl
 ·simp[yQ,mir,stE,wd,qS,c1,c2,ht,e1,e2,ht3,t2]
 ·simp[yQ,mir,stE,wd,qS,c1,c2,ht,e1,e2,ht3,t2]
theorem V9 {W:En}{q:List (Str×Int)}{m:Int}(hW:W=.val (.lst (q.map tkD))∨W=.bor (q.map tkD))(hl:q.length<=1000)(hm:0<=m) :
  yQ [W,.val (.int m)]=some (.tre (srvT (srv m.toNat q) (beh m.toNat q))):=by
 have c1:cutD (q.map tkD) none (some m)=(q.take m.toNat).map tkD:=by rw[kP hm,List.map_take]
 have c2:cutD (q.map tkD) (some m) none=(q.drop m.toNat).map tkD:=by rw[Qu hm,List.map_drop]
 rw[Ke hW c1 c2 (by rw[List.length_take];omega) (by rw[List.length_drop];omega)]
 unfold srvT beh
 rw[List.map_append]
 rfl
theorem UL {ns:List Str}{q:List (Str×Int)}:(srvT ns q).get [0]=some (.lst (lfs (ns.map D.str))):=by simp[srvT,OT.get,gets]
theorem Ko {ns:List Str}{q:List (Str×Int)}:(srvT ns q).get [1]=some (.lst (lfs (q.map tkD))):=by simp[srvT,OT.get,gets]
theorem Z0 {ds:List D}:OT.leaf (.lst (lfs ds))=some ds:=kF ds
theorem Je {rest:Int}:∀(rs:List HM.Row) (x:Int),(∀r∈rs,0<=r.2)->0<=rest->0<=atR rest rs x
 | [],_,_,h=>h
 |r::rs,x,h,hr=>by
  simp only[atR]
  split
  ·exact h r (by simp)
  ·exact Je rs _ (λq hq=>h q (by simp[hq])) hr
theorem ZO {rest:Int}:∀(rs:List HM.Row) (x:Int),total rs<=x->Pos rs->atR rest rs x=rest
 | [],_,_,_=>rfl
 |r::rs,x,h,hp=>by
  have h1:=VD (Pos.cons.mp hp).2
  simp only[total] at h
  simp only[atR]
  rw[if_neg (by omega)]
  exact ZO rs _ (by omega) (Pos.cons.mp hp).2
def LET:Str := "abcdefghijklmnopqrstuvwxyz"
theorem zba:LET=mk (S36.take 26):=by decide +kernel
theorem zhy:("0123456789" : Str)=mk (S36.drop 26):=by decide +kernel
theorem UO {a:Int}(h1:0<=a)(h2:a < 26):fItem (.str LET) (.int a)=some (.str (mk [sg a])):=by
 rw[zba,kC (by decide) h1 (by simpa[S36] using h2)]
 congr 3
 unfold sg
 have:a.toNat < 26:=by omega
 congr 1
 simp[List.getD_eq_getElem?_getD,List.getElem?_take,this]
theorem Gf:LET++("0123456789" : Str)=SIGNS:=by decide +kernel
theorem UT:LET.length=26:=by decide +kernel
theorem Rc:Str.length ("0123456789" : Str)=10:=by decide +kernel
def zz (c at0 size k j:Int):Int :=
 let z1:=c / (64+5 * j)
 let z2:=if j=at0 then z1+k % 26 else z1
 if j=(at0+1) % size then z2+k / 26 else z2
def sgn (c at0 size k j:Int):Nat:=if j=0 then sg (zz c at0 size k j % 26) else sg (zz c at0 size k j % 36)
theorem Yt (c at0 size k j:Int):sgn c at0 size k j∈S36:=by
 unfold sgn
 split
 ·exact Vy (by omega) (by omega)
 ·exact Vy (by omega) (by omega)
theorem Vr (c at0 size k:Int)(hs:0 < size)(X1 X5:Option En):∀(js:List Nat) (l:List Nat) (a8 a9:Option En),(∀j∈js,j < 100)->l.length+js.length<=100->(∀d∈l,d∈S36) ->
    ∃(b8 b9:Option En),forD (.name 8) Zo (js.map λ(j:Nat)=>D.int (0+(j:Int))) [some (.val (.int c)),X1,some (.val (.str LET)),some (.val (.int size)),some (.val (.int at0)),X5,some (.val (.int k)),some (.val (.str (mk l))),a8,a9]
      = some (.next [some (.val (.int c)),X1,some (.val (.str LET)),some (.val (.int size)),some (.val (.int at0)),X5,some (.val (.int k)),some (.val (.str (mk (l++js.map λ(j:Nat)=>sgn c at0 size k (0+(j:Int)))))),b8,b9])
  | [],l,a8,a9,_,_,hl=>⟨a8,a9,by simp⟩
  |j::js,l,a8,a9,hj,hn,hl=>by
    simp only[List.length_cons] at hn
    have hj0:=hj j List.mem_cons_self
    obtain⟨b8,b9,p2⟩:=Vr c at0 size k hs X1 X5 js (l++[sgn c at0 size k (0+(j:Int))]) (some (.val (.int (0+(j:Int))))) (some (.val (.int (zz c at0 size k (0+(j:Int)))))) (λi hi=>hj i (List.mem_cons_of_mem _ hi)) (by simp;omega) (λd hd=>by
      rcases List.mem_append.mp hd with h | h
      · exact hl d h
      · rw[List.mem_singleton.mp h];exact Yt ..)
    refine⟨b8,b9,?_⟩
    rw[show (l++(j::js).map λ(j:Nat)=>sgn c at0 size k (0+(j:Int)))=(l++[sgn c at0 size k (0+(j:Int))])++js.map λ(j:Nat)=>sgn c at0 size k (0+(j:Int)) by simp,<-p2]
    have h64:(0:Int) < 64+5 * (j:Int):=by omega
    have h64':(64:Int)+5 * (j:Int) < 1073741824:=by omega
    have m1:-LIM < 5:=by decide
    have m2:(5:Int) < LIM:=by decide
    have m3:-LIM < (j:Int):=by unfold LIM;omega
    have m4:(j:Int) < LIM:=by unfold LIM;omega
    have t1:l.length+1<=TOP:=by simp[TOP];omega
    have i26:=UO (a:=zz c at0 size k (j:Int) % 26) (by omega) (by omega)
    have i36:=zax (a:=zz c at0 size k (j:Int) % 36) (by omega) (by omega)
    have t36:26+10<=TOP:=by decide
    unfold sgn
    simp only[Int.zero_add] at *
    rcases Classical.propComplete ((j:Int)=at0) with e1 | e1<;>rcases Classical.propComplete ((j:Int)=(at0+1) % size) with e2 | e2<;>rcases Classical.propComplete (j=0) with e3 | e3 <;>
      (
       simp only[zz,e1,e2,if_true,if_false,ite_true,ite_false] at i26 i36 ⊢
       simp[-Int.add_emod_emod,-Int.emod_add_emod,Zo,yg h64 h64',Yo,m1,m2,m3,m4,zM hs,zM,yg,e1,e2,e3,i26,i36,xO,Vg,t1,Gf,UT,Rc,t36])
theorem G0:("" : Str)=mk []:=by decide +kernel
def nmk (c at0:Int)(sz:Nat)(k:Nat):Str:=mk ((List.range sz).map λ(j:Nat)=>sgn c at0 sz (0+(k:Int)) (0+(j:Int)))
theorem zc0 {a:Int}(h1:0<=a)(h2:a < 26):sg a∈S36.take 26:=by
 obtain⟨n,rfl⟩:∃n:Nat,a=(n:Int):=⟨a.toNat,by omega⟩
 have hn:n < 26:=by omega
 clear h1 h2
 have:∀n:Nat,n < 26->sg (n:Int)∈S36.take 26:=by decide
 exact this n hn
theorem zcs {c at0:Int}{sz k:Nat}(h:0 < sz)(h2:sz<=8):NameOk (nmk c at0 sz k):=by
 match sz,h,h2 with
 |n+1,_,h2=>
  unfold nmk
  rw[List.range_succ_eq_map,List.map_cons]
  refine⟨_,_,rfl,?_,λd hd=>?_,by simp;omega⟩
  ·unfold sgn
   rw[if_pos (by rfl)]
   exact zc0 (by omega) (by omega)
  ·obtain⟨j,_,rfl⟩:=List.mem_map.mp hd
   exact Yt ..
theorem Jy (c at0:Int)(sz:Nat)(hs:0 < sz)(hs2:sz<=8)(X1:Option En):∀(ks:List Nat) (acc:List Str) (a6 a7 a8 a9:Option En),acc.length+ks.length<=900 ->
  ∃(b6 b7 b8 b9:Option En),
   forD (.name 6) Z7 (ks.map λ(j:Nat)=>D.int (0+(j:Int))) [some (.val (.int c)),X1,some (.val (.str LET)),some (.val (.int sz)),some (.val (.int at0)),some (.acc (acc.map D.str)),a6,a7,a8,a9]
   = some (.next [some (.val (.int c)),X1,some (.val (.str LET)),some (.val (.int sz)),some (.val (.int at0)),some (.acc ((acc++ks.map (nmk c at0 sz)).map D.str)),b6,b7,b8,b9])
 | [],acc,a6,a7,a8,a9,_=>⟨a6,a7,a8,a9,by simp⟩
 |k::ks,acc,a6,a7,a8,a9,hl=>by
  simp only[List.length_cons] at hl
  obtain⟨b8,b9,p2⟩:=Vr c at0 sz (0+(k:Int)) (by omega) X1 (some (.acc (acc.map D.str))) (List.range sz) [] a8 a9 (λj hj=>by have:=List.mem_range.mp hj;omega) (by simp;omega) (by simp)
  obtain⟨c6,c7,c8,c9,q3⟩:=Jy c at0 sz hs hs2 X1 ks (acc++[nmk c at0 sz k]) (some (.val (.int (0+(k:Int))))) (some (.val (.str (nmk c at0 sz k)))) b8 b9 (by simp;omega)
  refine⟨c6,c7,c8,c9,?_⟩
  rw[show acc++(k::ks).map (nmk c at0 sz)=(acc++[nmk c at0 sz k])++ks.map (nmk c at0 sz) by simp,<-q3]
  have hB:-BIG<=(sz:Int)/\(sz:Int)<=BIG:=by unfold BIG;omega
  have hT:acc.length<=TOP:=by simp[TOP];omega
  rw[<-G0,List.nil_append] at p2
  rw[show mk ((List.range sz).map λ(j:Nat)=>sgn c at0 sz (0+(k:Int)) (0+(j:Int)))=nmk c at0 sz k from rfl] at p2
  simp[y3,TOP] at p2
  simp[Z7,hB,y3,TOP,p2,hT] at hT ⊢
  simp[p2,hT]
theorem zcn {l l':List Nat}(h:mk l=mk l'):l=l':=by
 have:=congrArg Str.cps h
 simpa[mk] using this
theorem RT {β:Type}{g g':Nat->β}{n:Nat}(h:(List.range n).map g=(List.range n).map g'):∀j < n,g j=g' j:=by
 intro j hj
 have:=congrArg (λl=>l[j]?) h
 simpa[hj] using this
theorem jb {z a b:Int}(M:Int)(hM:M=26∨M=36)(ha:0<=a)(ha2:a < 26)(hb:0<=b)(hb2:b < 26)(e:sg ((z+a) % M)=sg ((z+b) % M)):a=b:=by
 have:=zb0 (a:=(z+a) % M) (b:=(z+b) % M) (by rcases hM with rfl | rfl<;>omega) (by rcases hM with rfl | rfl<;>omega) (by rcases hM with rfl | rfl<;>omega) (by rcases hM with rfl | rfl<;>omega) e
 rcases hM with rfl | rfl<;>omega
theorem GM {c at0:Int}{sz k k' many:Nat}(h0:0<=at0)(h1:at0 < sz)(hk:k < many)(hk':k' < many)(hm:many<=61)(hs:sz=1->many<=26)(e:nmk c at0 sz k=nmk c at0 sz k'):k=k':=by
 have key:=RT (zcn e)
 simp only[Int.zero_add] at key
 have hsz:(0:Int) < (sz:Int):=by omega
 have a1:=key at0.toNat (by omega)
 have e1:((at0.toNat:Nat):Int)=at0:=by omega
 rw[e1] at a1
 by_cases h:sz=1
 ·have hm':=hs h
  have h2:at0=0:=by omega
  subst h2
  unfold sgn zz at a1
  have e3:((0:Int)+1) % (sz:Int)=0:=by rw[h];rfl
  simp only[e3,if_true] at a1
  have q1:(k:Int) / 26=0:=by omega
  have q2:(k':Int) / 26=0:=by omega
  rw[q1,q2,Int.add_zero,Int.add_zero] at a1
  have:=jb 26 (.inl rfl) (by omega) (by omega) (by omega) (by omega) a1
  omega
 ·have hne:¬at0=(at0+1) % (sz:Int):=by
   by_cases hc:at0+1 < sz
   ·rw[Int.emod_eq_of_lt (by omega) hc];omega
   ·have:at0+1=sz:=by omega
    rw[this,Int.emod_self];omega
  have hge:0<=(at0+1) % (sz:Int):=Int.emod_nonneg _ (by omega)
  have hlt:(at0+1) % (sz:Int) < sz:=Int.emod_lt_of_pos _ hsz
  have a2:=key ((at0+1) % (sz:Int)).toNat (by omega)
  have e2:((((at0+1) % (sz:Int)).toNat:Nat):Int)=(at0+1) % (sz:Int):=by omega
  rw[e2] at a2
  have hne':¬(at0+1) % (sz:Int)=at0:=λz=>hne z.symm
  unfold sgn zz at a1 a2
  simp only[if_true,if_neg hne] at a1
  simp only[if_true,if_neg hne'] at a2
  have r1:(k:Int) % 26=(k':Int) % 26:=by
   split at a1
   ·exact jb 26 (.inl rfl) (by omega) (by omega) (by omega) (by omega) a1
   ·exact jb 36 (.inr rfl) (by omega) (by omega) (by omega) (by omega) a1
  have r2:(k:Int) / 26=(k':Int) / 26:=by
   split at a2
   ·exact jb 26 (.inl rfl) (by omega) (by omega) (by omega) (by omega) a2
   ·exact jb 36 (.inr rfl) (by omega) (by omega) (by omega) (by omega) a2
  omega
theorem nodup_range {α:Type}{g:Nat->α}{n:Nat}(h:∀a b,a < n->b < n->g a=g b->a=b):((List.range n).map g).Nodup:=by
 have:∀l:List Nat,l.Nodup->(∀a∈l,a < n)->(l.map g).Nodup:=by
  intro l
  induction l with
  |nil=>intro _ _;simp
  |cons a l ih=>
   intro nd hl
   have nd':=List.nodup_cons.mp nd
   rw[List.map_cons,List.nodup_cons]
   refine⟨λz=>?_,ih nd'.2 λb hb=>hl b (by simp[hb])⟩
   obtain⟨b,hb,e⟩:=List.mem_map.mp z
   have:=h b a (hl b (by simp[hb])) (hl a (by simp)) e
   subst this
   exact nd'.1 hb
 exact this _ List.nodup_range λa ha=>List.mem_range.mp ha
theorem RZ (c:Int)(many:Nat)(hm:many<=61):∃xs:List Str,(∀x∈xs,NameOk x)/\xs.Nodup/\xs.length=many/\xR [.val (.int c),.val (.int many)]=some (.acc (xs.map D.str)):=by
 have hB:-BIG<=(many:Int)/\(many:Int)<=BIG:=by unfold BIG;omega
 obtain⟨sz,hsz⟩:∃sz:Nat,(if (many:Int)<=26 then 1+c % 8 else 2+c % 7)=(sz:Int)/\0 < sz/\sz<=8/\(sz=1->many<=26):=by
  refine⟨(if (many:Int)<=26 then 1+c % 8 else 2+c % 7).toNat,?_⟩
  split<;>omega
 obtain⟨h1,h2,h3,h4⟩:=hsz
 have hz:(0:Int) < (sz:Int):=by omega
 obtain⟨b6,b7,b8,b9,p3⟩:=Jy c (c / 8 % (sz:Int)) sz h2 h3 (some (.val (.int many))) (List.range many) [] none none none none (by simp;omega)
 refine⟨(List.range many).map (nmk c (c / 8 % (sz:Int)) sz),λx hx=>?_,nodup_range λa b ha hb e=>GM (Int.emod_nonneg _ (by omega)) (Int.emod_lt_of_pos _ hz) ha hb hm h4 e,by simp,?_⟩
 ·obtain⟨k,_,rfl⟩:=List.mem_map.mp hx
  exact zcs h2 h3
 ·revert p3
  rw[List.nil_append]
  generalize (List.range many).map (nmk c (c / 8 % (sz:Int)) sz)=xs
  intro p3
  by_cases hq:(many:Int)<=26
  ·rw[if_pos hq] at h1
   simp only[xR,mir,stE,je,jO]
   have hq':many<=26:=by omega
   simp[hB,y3,TOP,LET] at p3 ⊢
   simp[zM,hq,h1,zM hz,yg,hB,y3,TOP,p3]
  ·rw[if_neg hq] at h1
   have hq':¬many<=26:=by omega
   simp only[xR,mir,stE,je,jO]
   simp[hB,y3,TOP,LET] at p3 ⊢
   simp[zM,hq,h1,zM hz,yg,hB,y3,TOP,p3]
def TkOk (t:Str×Int):Prop:=NameOk t.1/\1<=t.2/\t.2<=20
def daysL:List HM.Row->List Int
 | []=>[]
 |r::rs=>List.replicate r.1.toNat r.2++daysL rs
def GoodR (r:HM.Row):Prop:=1<=r.1/\r.1<=9/\0<=r.2
theorem WD (X0:Option En):∀(rs:List HM.Row) (acc:List Int) (a b:Option En),(∀r∈rs,GoodR r)->acc.length+9 * rs.length<=900->∃(a' b':Option En),
  forD (.tup [2,3]) Zf (rs.map rowD) [X0,some (.val (.lst (acc.map D.int))),a,b]=some (.next [X0,some (.val (.lst ((acc++daysL rs).map D.int))),a',b'])
 | [],acc,a,b,_,_=>⟨a,b,by simp[daysL]⟩
 |r::rs,acc,a,b,h,hl=>by
  have hr:=h r List.mem_cons_self
  unfold GoodR at hr
  simp only[List.length_cons] at hl
  obtain⟨a',b',p⟩:=WD X0 rs (acc++List.replicate r.1.toNat r.2) (some (.val (.int r.1))) (some (.val (.int r.2))) (λx hx=>h x (List.mem_cons_of_mem _ hx)) (by simp;omega)
  refine⟨a',b',?_⟩
  have c1:r.1.natAbs<=100000:=by omega
  have c2:r.1.toNat<=TOP:=by simp[TOP];omega
  have c3:acc.length+r.1.toNat<=TOP:=by simp[TOP];omega
  have t1:1<=TOP:=by decide
  have fl:(List.replicate r.1.toNat [D.int r.2]).flatten=(List.replicate r.1.toNat r.2).map D.int:=by
   rw[List.map_replicate]
   induction r.1.toNat with
   |zero=>rfl
   |succ n ih=>rw[List.replicate_succ,List.flatten_cons,ih];rfl
  simp[daysL] at p ⊢
  rw[<-p]
  simp[Zf,rowD,asgD,zI,c1,c2,c3,t1,fl]
theorem zbx {rs:List HM.Row}(h:∀r∈rs,GoodR r)(hl:rs.length<=7):vj [.val (.lst (rs.map rowD))]=some (.val (.lst ((daysL rs).map D.int))):=by
 obtain⟨a',b',p⟩:=WD (some (.val (.lst (rs.map rowD)))) rs [] none none h (by simp;omega)
 simp at p
 simp[vj,mir,stE,qv,kz,p]
theorem WY:∀rs:List HM.Row,(∀r∈rs,GoodR r)->(daysL rs).length<=9 * rs.length
 | [],_=>by simp[daysL]
 |r::rs,h=>by
  have ih:=WY rs λx hx=>h x (List.mem_cons_of_mem _ hx)
  have hr:=h r List.mem_cons_self
  unfold GoodR at hr
  simp[daysL];omega
theorem VH:∀rs:List HM.Row,(∀r∈rs,GoodR r)->∀v∈daysL rs,0<=v
 | [],_,v,hv=>by simp[daysL] at hv
 |r::rs,h,v,hv=>by
  have hr:=h r List.mem_cons_self
  unfold GoodR at hr
  rcases List.mem_append.mp hv with hv | hv
  ·rw[(List.mem_replicate.mp hv).2];exact hr.2.2
  ·exact VH rs (λx hx=>h x (List.mem_cons_of_mem _ hx)) v hv
def atL (ds:List Int)(rest:Int)(t:Nat):Int:=ds.getD t rest
theorem u4 (ds:List Int)(rest:Int)(t:Nat):y7 [.val (.lst (ds.map D.int)),.val (.int rest),.val (.int t)]=some (.val (.int (atL ds rest t))):=by
 by_cases h:t < ds.length
 ·have e:(ds.map D.int)[t]?=some (D.int ds[t]):=by rw[List.getElem?_map,List.getElem?_eq_getElem h];rfl
  have e2:atI (ds.map D.int) (t:Int)=some (.int ds[t]):=yy t e
  simp[y7,mir,stE,v5,jD,h,e2,atL]
 ·simp[y7,mir,stE,v5,jD,h,atL]
theorem Ub {n:Nat}(h:n<=1000):n < sizeLine:=by rw[sizeLine_eq];omega
theorem Vz {d:SI}(nd:(keysS d).Nodup):∀r:SI,(∀t∈r,t∈d)->compD (.name 0) (gb' (g2 fGt (gGetD (gk' 1) (gr 0)) (gc (.int 0)))) qD [none,some (.dbo (kv d))] (r.map λt=>.str t.1)=some ((act r).map D.str)
 | [],_=>by simp[compD,act]
 |t::r,h=>by
  have ih:=Vz nd r λu hu=>h u (List.mem_cons_of_mem _ hu)
  have hl:=kE (x:=t.1) (v:=t.2) nd (by obtain⟨a,b⟩:=t;exact h _ List.mem_cons_self)
  have hk:=xD t.1 d
  rw[hl] at hk
  have ha:act (t::r)=if 0 < t.2 then t.1::act r else act r:=by
   unfold act
   by_cases z:0 < t.2<;>simp[z]
  simp at ih hk
  rw[ha]
  by_cases z:0 < t.2
  ·simp[compD,asgD,hk,z,qD] at ih ⊢
   simp[ih]
  ·simp[compD,asgD,hk,z,qD] at ih ⊢
   simp[ih]
theorem W4 (X0 X1 X2 X3 X5 X6 X7:Option En):∀(xs:List Str) (d:SI) (a:Option En),d.length<=1000->(∀x∈xs,x∈keysS d)->∃a':Option En,
  forD (.name 8) uc (xs.map D.str) [X0,X1,X2,X3,some (.dct none (kv d)),X5,X6,X7,a]=some (.next [X0,X1,X2,X3,some (.dct none (kv (lessN d xs))),X5,X6,X7,a'])
 | [],d,a,_,_=>⟨a,by simp[lessN]⟩
 |x::xs,d,a,hl,h=>by
  obtain⟨v,hv⟩:=uZ (h x List.mem_cons_self)
  have hk:=xD x d
  rw[hv] at hk
  have hz:(kv d).length < sizeLine:=by rw[ZL];exact Ub hl
  have hp:=uf x (v - 1) d
  have hd:less1 d x=putS d x (v - 1):=by unfold less1;rw[hv]
  have hlen:(less1 d x).length=d.length:=WC [x] d
  obtain⟨a',p⟩:=W4 X0 X1 X2 X3 X5 X6 X7 xs (less1 d x) (some (.val (.str x))) (by omega) (λy hy=>by rw[qO];exact h y (List.mem_cons_of_mem _ hy))
  refine⟨a',?_⟩
  have hN:lessN d (x::xs)=lessN (less1 d x) xs:=rfl
  rw[hN,<-p,hd]
  simp at hk
  simp[uc,hk,hz,hp]
def lefts (d:SI):List Int:=d.map (·.2)
theorem zdf (d:SI):(0 < maxI (lefts d++[0]))↔act d≠[]:=by
 obtain⟨h1,h2⟩:=jr (ns:=lefts d++[0]) (by simp)
 constructor
 ·intro h z
  have:=act_nil.mp z
  rcases List.mem_append.mp h1 with q | q
  ·obtain⟨t,ht,e⟩:=List.mem_map.mp q
   have:=this t ht
   omega
  ·have:=List.mem_singleton.mp q
   omega
 ·intro h
  have:¬ ∀t∈d,t.2<=0:=λz=>h (act_nil.mpr z)
  simp only[Classical.not_forall] at this
  obtain⟨t,ht,hn⟩:=this
  have:=h2 t.2 (List.mem_append_left _ (List.mem_map.mpr ⟨t,ht,rfl⟩))
  omega
def WT:EnvD->Option Bool:=(gb' (g2 fGt (gB fMaxL (gCons' (gFz (g2 fCatS (gFz (gVals (gk' 4))) (gFz (gLst (gCons' (gc (.int 0)) gNil))))) gNil)) (gc (.int 0))))
theorem wt (d:SI)(hl:d.length<=1000)(X0 X1 X2 X3 X5 X6 X7 X8:Option En):WT [X0,X1,X2,X3,some (.dct none (kv d)),X5,X6,X7,X8]=some (decide (act d≠[])):=by
 have e:valsD (kv d)++[D.int 0]=(lefts d++[0]).map D.int:=by rw[WZ];simp[lefts]
 have hT:(valsD (kv d)).length+1<=TOP:=by rw[WZ];simp[TOP];omega
 have t1:1<=TOP:=by decide
 have ha:=vO (lefts d++[0])
 have hne:(lefts d++[(0:Int)]).isEmpty=false:=by simp
 have hm:=zdf d
 simp[WT,hT,t1,e] at ha ⊢
 simp[ha]
 by_cases h:act d=[]
 ·simp[h] at hm ⊢;omega
 ·simp[h] at hm ⊢;omega
def nmL (ds:List Int)(rest:Int)(t:Nat)(d:SI):List Str:=(act d).take (atL ds rest t).toNat
theorem RL {ds:List Int}{rest:Int}(h:∀v∈ds,0<=v)(hr:1<=rest)(t:Nat):0<=atL ds rest t:=by
 unfold atL
 rw[List.getD_eq_getElem?_getD]
 cases q:ds[t]? with
 |none=>simp;omega
 |some v=>exact h v (List.mem_of_getElem? q)
theorem zbp {ds:List Int}{rest:Int}(h:∀v∈ds,0<=v)(hr:1<=rest){d:SI}(nd:(keysS d).Nodup)(hl:d.length<=100)(t:Nat)(acc:List (Int×List Str))(ha:acc.length<=5000)(X0 X3 a7 a8:Option En):∃a8':Option En,
  jL [X0,some (.val (.lst (ds.map D.int))),some (.val (.int rest)),X3,some (.dct none (kv d)),some (.acc (acc.map rnD)),some (.val (.int (t:Int))),a7,a8]
   = some (.next [X0,some (.val (.lst (ds.map D.int))),some (.val (.int rest)),X3,some (.dct none (kv (lessN d (nmL ds rest t d)))),some (.acc ((acc++[((t:Int),nmL ds rest t d)]).map rnD)),some (.val (.int ((t:Int)+1))),some (.val (.lst ((nmL ds rest t d).map D.str))),a8']):=by
 have hm:=RL h hr t
 have e1:=u4 ds rest t
 have e2:=Vz nd d λt h=>h
 have hkl:(keysD (kv d)).length<=TOP:=by rw[Vn];simp[TOP];omega
 have cut:cutD ((act d).map D.str) none (some (atL ds rest t))=(nmL ds rest t d).map D.str:=by rw[kP hm,nmL,List.map_take]
 obtain⟨a8',p⟩:=W4 X0 (some (.val (.lst (ds.map D.int)))) (some (.val (.int rest))) X3 (some (.acc (acc.map rnD))) (some (.val (.int (t:Int)))) (some (.val (.lst ((nmL ds rest t d).map D.str)))) (nmL ds rest t d) d a8 (by omega) (λx hx=>Zx (List.mem_of_mem_take hx))
 refine⟨a8',?_⟩
 have hT:acc.length<=TOP:=by simp[TOP];omega
 have t2:2<=TOP:=by decide
 rw[<-Vn] at e2
 try simp at e1
 try simp at e2
 try simp at p
 simp[jL,hkl,e2,e1,cut,p,hT,t2,rnD]
def posD (d:SI):SI:=d.filter λt=>decide (0 < t.2)
theorem JE (d:SI):act d=nms (posD d):=rfl
theorem Kz (m:Nat)(d:SI):srv m (posD d)=(act d).take m:=by
 unfold srv act posD;rw[List.map_take]
theorem beh_zero (q:SI):beh 0 q=q:=by simp[beh]
theorem zaq (m:Nat)(t:Str×Int)(q:SI):beh (m+1) (t::q)=(if 1 < t.2 then [(t.1,t.2 - 1)] else [])++beh m q:=by
 by_cases h:1 < t.2<;>simp[beh,h]
theorem beh_nil (m:Nat):beh m ([]:SI)=[]:=by simp[beh]
theorem kN:∀(d:SI) (m:Nat),(keysS d).Nodup->posD (d.map λt=>if t.1∈(act d).take m then (t.1,t.2 - 1) else t)=beh m (posD d)
 | [],m,_=>by simp[posD,beh_nil]
 |t::d,m,nd=>by
  have nd':t.1∉keysS d/\(keysS d).Nodup:=by simpa[keysS] using nd
  have hmem:∀x∈act d,x≠t.1:=λx hx z=>nd'.1 (z ▸ Zx hx)
  by_cases h:0 < t.2
  ·have ha:act (t::d)=t.1::act d:=by simp[act,h]
   have hp:posD (t::d)=t::posD d:=by simp[posD,h]
   rw[ha,hp]
   cases m with
   |zero=>
    rw[beh_zero]
    have:((t::d).map λu=>if u.1∈(t.1::act d).take 0 then (u.1,u.2 - 1) else u)=t::d:=by simp
    rw[this,hp]
   |succ m=>
    have ih:=kN d m nd'.2
    rw[zaq,<-ih,List.take_succ_cons]
    have e:(d.map λu=>if u.1∈t.1::(act d).take m then (u.1,u.2 - 1) else u)=d.map λu=>if u.1∈(act d).take m then (u.1,u.2 - 1) else u:=by
     apply List.map_congr_left
     intro u hu
     have hne:u.1≠t.1:=λz=>nd'.1 (z ▸ List.mem_map.mpr ⟨u,hu,rfl⟩)
     simp[hne]
    rw[List.map_cons,e]
    by_cases h1:1 < t.2
    ·have h1':0 < t.2 - 1:=by omega
     simp[posD,h1,h1']
    ·have h1':¬0 < t.2 - 1:=by omega
     simp[posD,h1,h1']
  ·have ha:act (t::d)=act d:=by simp[act,h]
   have hp:posD (t::d)=posD d:=by simp[posD,h]
   have hnt:t.1∉(act d).take m:=λz=>hmem _ (List.mem_of_mem_take z) rfl
   rw[ha,hp,List.map_cons,if_neg hnt,<-kN d m nd'.2]
   simp[posD,h]
theorem zbi {d:SI}(nd:(keysS d).Nodup)(m:Nat):posD (lessN d ((act d).take m))=beh m (posD d):=by
 rw[VC _ d nd ((Jq nd).sublist (List.take_sublist _ _))]
 exact kN d m nd
theorem za4 {q:SI}(h:PosQ q):posD q=q:=by
 unfold posD
 rw[List.filter_eq_self]
 intro t ht
 have:=h t ht
 simp;omega
theorem YS {ds:List Int}{rest:Int}(h:∀v∈ds,0<=v)(hr:1<=rest){f:Int->Int}(hf:∀t:Nat,f t=atL ds rest t)(X0 X3:Option En):∀(n:Nat) (d:SI) (t:Nat) (acc:List (Int×List Str)) (a7 a8:Option En),(keysS d).Nodup->d.length<=100->sumP d+(ds.length - t)<=n->acc.length+n<=5000 ->
  ∃(out:List (Int×List Str)) (b4 b6 b7 b8:Option En),(∀r∈out,(∀y∈r.2,y∈keysS d)/\r.2.length<=100)/\out.length<=n/\Run f (t:Int) (posD d) out /\
   whileD WT jL (n+1) [X0,some (.val (.lst (ds.map D.int))),some (.val (.int rest)),X3,some (.dct none (kv d)),some (.acc (acc.map rnD)),some (.val (.int (t:Int))),a7,a8]
    = some (.next [X0,some (.val (.lst (ds.map D.int))),some (.val (.int rest)),X3,b4,some (.acc ((acc++out).map rnD)),b6,b7,b8])
 |n,d,t,acc,a7,a8,nd,hl,hn,hacc=>by
  by_cases ha:act d=[]
  ·refine⟨[],some (.dct none (kv d)),some (.val (.int (t:Int))),a7,a8,by simp,by simp,by
    have hp:posD d=[]:=by have:=JE d;rw[ha] at this;exact List.map_eq_nil_iff.mp this.symm
    rw[hp];exact .nil _,?_⟩
   rw[jT]
   ·simp
   ·rw[wt d (by omega)];simp[ha]
  ·obtain⟨a8',p⟩:=zbp h hr nd hl t acc (by omega) X0 X3 a7 a8
   have hnm:∀x∈nmL ds rest t d,x∈act d:=λx hx=>List.mem_of_mem_take hx
   have hs:=YW (nmL ds rest t d) d nd ((Jq nd).sublist (List.take_sublist _ _)) (λx hx=>QH nd (hnm x hx))
   have hal:1<=(act d).length:=by cases q:act d with | nil=>exact (ha q).elim | cons=>simp
   have hlen:(nmL ds rest t d).length=min (atL ds rest t).toNat (act d).length:=by unfold nmL;rw[List.length_take]
   have hdec:sumP (lessN d (nmL ds rest t d))+(ds.length - (t+1))+1<=n:=by
    by_cases ht:t < ds.length
    ·omega
    ·have:atL ds rest t=rest:=by
      unfold atL
      rw[List.getD_eq_getElem?_getD,List.getElem?_eq_none (by omega)];rfl
     rw[this] at hlen
     omega
   match n,hn,hacc,hdec with
   |n+1,hn,hacc,hdec=>
    obtain⟨out,b4,b6,b7,b8,q1,q2,qc,q3⟩:=YS h hr hf X0 X3 n (lessN d (nmL ds rest t d)) (t+1) (acc++[((t:Int),nmL ds rest t d)]) (some (.val (.lst ((nmL ds rest t d).map D.str)))) a8' (by rw[qw];exact nd) (by rw[WC];exact hl) (by omega) (by simp;omega)
    have ec:((t+1:Nat):Int)=(t:Int)+1:=by omega
    rw[ec] at qc
    have hne:posD d≠[]:=λz=>ha (by rw[JE,z];rfl)
    have qcc:Run f (t:Int) (posD d) (((t:Int),nmL ds rest t d)::out):=by
     have e1:nmL ds rest t d=srv (f (t:Int)).toNat (posD d):=by rw[Kz,hf];rfl
     have e2:posD (lessN d (nmL ds rest t d))=beh (f (t:Int)).toNat (posD d):=by rw[hf];exact zbi nd _
     rw[e2] at qc
     rw[e1]
     exact .cons hne qc
    refine⟨((t:Int),nmL ds rest t d)::out,b4,b6,b7,b8,λr hr'=>?_,by simp;omega,qcc,?_⟩
    ·rcases List.mem_cons.mp hr' with rfl | hr'
     ·refine⟨λy hy=>Zx (hnm y hy),?_⟩
      have:=zam d
      show (nmL ds rest t d).length<=100
      omega
     ·have:=q1 r hr'
      rw[qw] at this
      exact this
    ·have e:((t+1:Nat):Int)=(t:Int)+1:=by omega
     rw[e] at q3
     rw[qj (ρ2:=_) (by rw[wt d (by omega)];simp[ha]) p,q3]
     simp
theorem Q7 {ds:List Int}{rest:Int}(h:∀v∈ds,0<=v)(hr:1<=rest)(hd:ds.length<=100){q:SI}(hq:∀t∈q,TkOk t)(nd:(nms q).Nodup)(hl:q.length<=60){f:Int->Int}(hf:∀t:Nat,f t=atL ds rest t)(t:Nat) :
  ∃out:List (Int×List Str),(∀r∈out,(∀y∈r.2,y∈keysS (mergeS [] q))/\r.2.length<=100)/\out.length<=3000/\Run f (t:Int) q out /\
   vQ [.val (.lst (q.map tkD)),.val (.lst (ds.map D.int)),.val (.int rest),.val (.int (t:Int))]=some (.acc (out.map rnD)):=by
 have hml:(mergeS [] q).length<=60:=by have:=JH q [];simp at this;omega
 have hsum:sumP (mergeS [] q)<=1200:=by
  have:=VZ (mergeS [] q) 20 λu hu=>by
   rcases Yy q [] hu with z | z
   ·cases z
   ·exact (hq u z).2.2
  have e:(20:Int).toNat=20:=rfl
  rw[e] at this
  omega
 obtain⟨out,b4,b6,b7,b8,p1,p2,pc,p3⟩:=YS h hr hf (some (.val (.lst (q.map tkD)))) (some (.val (.int (t:Int)))) 1400 (mergeS [] q) t [] none none (ZW q [] (by simp[keysS])) (by omega) (by omega) (by simp)
 rw[qW nd,za4 (λt ht=>(hq t ht).2.1)] at pc
 refine⟨out,p1,by omega,pc,?_⟩
 have p4:=uh p3
 have dk:=jk q
 have dm:mergeD [] (kv q)=kv (mergeS [] q):=jl q []
 unfold WT at p4
 simp at p4
 simp[vQ,mir,stE,jh,Zy,dk,dm,p4]
theorem Zk {n:Nat}(h:n<=1000):n<=TOP:=Nat.le_trans h (by decide)
theorem YO:∀(rs:List HM.Row),(∀r∈rs,Good r)->total rs<=100 * rs.length
 | [],_=>by simp[total]
 |r::rs,h=>by
  have h1:=(h r (by simp)).1.2
  have ih:=YO rs λq hq=>h q (by simp[hq])
  simp only[total,List.length_cons]
  omega
theorem zaf:("abcdefghijklmnopqrstuvwxyz" : Str).length+("0123456789" : Str).length<=TOP:=by decide +kernel
theorem Wp:∀(l:List Nat),(∀d∈l,d∈S36)->compD (.name 0) tYes uK [none] (l.map λc=>D.str (mk [c]))=some (l.map λ_=>D.bl true)
 | [],_=>by simp
 |c::l,h=>by
  have ih:=Wp l λd hd=>h d (by simp[hd])
  have e:=zdk (h c (by simp))
  simp only[List.map_cons,yi,ih]
  simp[uK,zaf,e]
theorem YY {x:Str}(h:NameOk x):xB [.val (.str x)]=some (.val (.bl true)):=by
 obtain⟨c,cs,rfl,h1,h2,h3⟩:=h
 have e1:=Wp (c::cs) (λd hd=>by
  rcases List.mem_cons.mp hd with rfl | hd
  ·exact List.mem_of_mem_take h1
  ·exact h2 d hd)
 have e2:=kH (c::cs)
 have e3:=kC (l:=c::cs) (a:=0) (Zk (by simp only[List.length_cons];omega)) (by omega) (by simp only[List.length_cons];omega)
 have e3:fItem (.str (mk (c::cs))) (.int 0)=some (.str (mk [c])):=by simpa using e3
 have e4:=Qh h1
 have l1:fLen [.str (mk (c::cs))]=some (.int ((cs.length+1:Nat):Int)):=by
  show (if (mk (c::cs)).length<=TOP then some (D.int (mk (c::cs)).length) else none)=_
  rw[xO,if_pos (Zk (by simp;omega))];rfl
 have l2:(1:Int)<=((cs.length+1:Nat):Int):=by omega
 have l3:((cs.length+1:Nat):Int)<=8:=by omega
 have l4:cs.length+1<=TOP:=Zk (by omega)
 have ss:subT "str" "str" = some true:=by decide
 rw[<-ZN] at e1
 generalize hz:mk (c::cs)=z at *
 have lch:(chD z).length=cs.length+1:=by rw[<-hz,ZN];simp
 simp only[List.map_cons] at e1 e2
 have ha:asBs (D.bl true::cs.map λ_=>D.bl true)=some (true::cs.map λ_=>true):=e2
 have l5:(1:Int)<=(cs.length:Int)+1:=by omega
 have l6:(cs.length:Int)+1<=8:=by omega
 simp[xB,mir,stE,Vo,kg,ss,l1,e3,e4,lch,l4,l5,l6,e1,ha]
structure HOk (rest:Int)(ks:List HM.Row):Prop where
 pos:Pos ks
 lo:1<=rest
 tot:total ks<=2000
theorem HOk.nn {rest:Int}{ks:List HM.Row}(h:HOk rest ks)(x:Int):0<=atR rest ks x:=Je ks x (λr hr=>(h.pos r hr).2) (by have:=h.lo;omega)
theorem Yc (C:Addr){rest:Int}{ks:List HM.Row}(F:HOk rest ks)(b0:Int)(X0 X3:Option En):∀(n:Nat) (q:List (Str×Int)) (W:En) (acc:List (Int×List Str)) (a b:Option En),(W=.val (.lst (q.map tkD))∨W=.acc (q.map tkD))->PosQ q->(∀t∈q,Ok t.1)->q.length<=100->sumQ q+(total ks - (b0+acc.length)).toNat<=n->acc.length+n<=5000 ->
  ∃(out:List (Int×List Str)) (v4 v6 v7:Option En),((∀r∈out,(∀y∈r.2,Ok y)/\r.2.length<=100)/\Run (atR rest ks) (b0+acc.length) q out/\out.length<=n) /\
   whileD (gt (gr 4)) (jP C) (n+1) [X0,some (.val (hoursD C rest ks)),some (.val (.int b0)),X3,some W,some (.tre (rowsT acc)),a,b]
    = some (.next [X0,some (.val (hoursD C rest ks)),some (.val (.int b0)),X3,v4,some (.tre (rowsT (acc++out))),v6,v7])
 |n,q,W,acc,a,b,hW,hp,ho,hl,hs,ha=>by
  by_cases hq:q=[]
  ·subst hq
   refine⟨[],some W,a,b,⟨by simp,.nil _,by simp⟩,?_⟩
   rw[jT]
   ·simp
   ·rcases hW with rfl | rfl<;>simp
  ·have hql:1<=q.length:=by cases q with | nil=>exact (hq rfl).elim | cons=>simp
   have hn:=F.nn (b0+acc.length)
   have e1:=zck C (rest:=rest) (x:=b0+(acc.length:Int)) (ks:=ks) F.pos
   have hsum:=za1 (m:=(atR rest ks (b0+acc.length)).toNat) hp
   have hdec:sumQ (beh (atR rest ks (b0+acc.length)).toNat q)+(total ks - (b0+acc.length+1)).toNat+1<=n:=by
    by_cases hx:b0+acc.length < total ks
    ·omega
    ·have:=ZO (rest:=rest) ks (b0+acc.length) (by omega) F.pos
     have h1:=F.lo
     rw[this] at hsum ⊢
     omega
   have hb:=KC (m:=(atR rest ks (b0+acc.length)).toNat) (q:=q)
   match n,hs,ha,hdec with
   |n+1,hs,ha,hdec=>
    have el:b0+(((acc++[(b0+(acc.length:Int),srv (atR rest ks (b0+acc.length)).toNat q)]).length:Nat):Int)=b0+acc.length+1:=by simp;omega
    obtain⟨out,v4,v6,v7,⟨o1,o1r,o1l⟩,o2⟩:=Yc C F b0 X0 X3 n (beh (atR rest ks (b0+acc.length)).toNat q) (.acc ((beh (atR rest ks (b0+acc.length)).toNat q).map tkD)) (acc++[(b0+acc.length,srv (atR rest ks (b0+acc.length)).toNat q)]) (some (.val (.int (b0+acc.length)))) none (.inr rfl) (jV hp) (R5 Ok ho) (by omega) (by rw[el];omega) (by simp;omega)
    rw[el] at o1r
    refine⟨(b0+acc.length,srv (atR rest ks (b0+acc.length)).toNat q)::out,v4,v6,v7,⟨?_,.cons hq o1r,by simp;omega⟩,?_⟩
    ·intro r hr
     rcases List.mem_cons.mp hr with rfl | hr
     ·refine⟨λy hy=>?_,?_⟩
      ·obtain⟨t,ht,rfl⟩:=List.mem_map.mp hy
       exact ho t (List.mem_of_mem_take ht)
      ·show (srv (atR rest ks (b0+acc.length)).toNat q).length<=100
       unfold srv
       rw[List.length_map,List.length_take];omega
     ·exact o1 r hr
    ·have hT:acc.length<=TOP:=by simp[TOP];omega
     have er:(OT.lst (acc.map rnT)).erase=.lst (acc.map rnD):=wk acc
     have g0:=UL (ns:=srv (atR rest ks (b0+acc.length)).toNat q) (q:=beh (atR rest ks (b0+acc.length)).toNat q)
     have g1:=Ko (ns:=srv (atR rest ks (b0+acc.length)).toNat q) (q:=beh (atR rest ks (b0+acc.length)).toNat q)
     have ets:yQ [(match W with | .acc ds=>.bor ds | w=>w),.val (.int (atR rest ks (b0+acc.length)))]=some (.tre (srvT (srv (atR rest ks (b0+acc.length)).toNat q) (beh (atR rest ks (b0+acc.length)).toNat q))):=by
      rcases hW with rfl | rfl
      ·exact V9 (.inl rfl) (by omega) hn
      ·exact V9 (.inr rfl) (by omega) hn
     have eo:rowsT (acc++(b0+acc.length,srv (atR rest ks (b0+acc.length)).toNat q)::out)=rowsT ((acc++[(b0+acc.length,srv (atR rest ks (b0+acc.length)).toNat q)])++out):=by simp
     rw[eo,<-o2]
     generalize srvT (srv (atR rest ks (b0+acc.length)).toNat q) (beh (atR rest ks (b0+acc.length)).toNat q)=T at ets g0 g1
     refine qj ?_ ?_
     ·rcases hW with rfl | rfl<;>simp[hq]
     ·simp[hoursD] at e1
      rcases hW with rfl | rfl
      ·simp at ets
       simp[jP,hoursD,Vs,e1,ets,er,g0,g1,Z0,rowsT,hT,rnT]
      ·simp at ets
       simp[jP,hoursD,Vs,e1,ets,er,g0,g1,Z0,rowsT,hT,rnT]
theorem QY (C:Addr){rest:Int}{ks:List HM.Row}(F:HOk rest ks){b0:Int}(hb:0<=b0){q:SI}(hp:PosQ q)(ho:∀t∈q,Ok t.1)(hl:q.length<=60)(hs:sumQ q<=1200) :
  ∃out:List (Int×List Str),(∀r∈out,(∀y∈r.2,Ok y)/\r.2.length<=100)/\Run (atR rest ks) b0 q out/\out.length<=5000 /\
   yJ C [.val (.lst (q.map tkD)),.val (hoursD C rest ks),.val (.int b0),.val .non]=some (.tre (rowsT out)):=by
 have ht:=F.tot
 obtain⟨out,v4,v6,v7,⟨o1,o1r,o1l⟩,o2⟩:=Yc C F b0 (some (.val (.lst (q.map tkD)))) (some (.val .non)) (sumQ q+(total ks - b0).toNat) q (.val (.lst (q.map tkD))) [] none none (.inl rfl) hp ho (by omega) (by simp) (by simp;omega)
 refine⟨out,o1,by simpa using o1r,by omega,?_⟩
 have o3:=uh o2
 simp[rowsT] at o3
 have l0:(lfs []:List OT)=[]:=rfl
 simp[yJ,mir,stE,qx,u6,l0,o3,rowsT]
theorem W5 (X0 X3:Option En)(v:Int):∀(xs:List Str) (d:SI) (a:Option En),d.length+xs.length<=1000000->∃a':Option En,
  forD (.name 4) ZE (xs.map D.str) [X0,some (.dct none (kv d)),some (.val (.int v)),X3,a]=some (.next [X0,some (.dct none (kv (xs.foldl (λd n=>putS d n v) d))),some (.val (.int v)),X3,a'])
 | [],d,a,_=>⟨a,by simp⟩
 |x::xs,d,a,hl=>by
  simp only[List.length_cons] at hl
  have hz:(kv d).length < sizeLine:=by rw[ZL,sizeLine_eq];omega
  have hp:=uf x v d
  have h2:=Ze x v d
  obtain⟨a',p⟩:=W5 X0 X3 v xs (putS d x v) (some (.val (.str x))) (by omega)
  refine⟨a',?_⟩
  rw[List.foldl_cons,<-p]
  simp[ZE,hz,hp]
theorem Yn (v:Int):∀(xs:List Str) (d:SI),(xs.foldl (λd n=>putS d n v) d).length<=d.length+xs.length
 | [],d=>by simp
 |x::xs,d=>by
  have h1:=Yn v xs (putS d x v)
  have h2:=Ze x v d
  simp only[List.foldl_cons,List.length_cons]
  omega
theorem WX (X0:Option En):∀(rows:List (Int×List Str)) (d:SI) (a b c:Option En),(∀r∈rows,r.2.length<=100)->d.length+100 * rows.length<=1000000->∃a' b' c':Option En,
  forD (.tup [2,3]) kJ (rows.map rnD) [X0,some (.dct none (kv d)),a,b,c]=some (.next [X0,some (.dct none (kv (endsS d rows))),a',b',c'])
 | [],d,a,b,c,_,_=>⟨a,b,c,by simp[endsS]⟩
 |r::rows,d,a,b,c,h,hl=>by
  simp only[List.length_cons] at hl
  have hr:=h r List.mem_cons_self
  obtain⟨c1,p1⟩:=W5 X0 (some (.val (.lst (r.2.map D.str)))) r.1 r.2 d c (by omega)
  have h2:=Yn r.1 r.2 d
  obtain⟨a',b',c',p⟩:=WX X0 rows (r.2.foldl (λd n=>putS d n r.1) d) (some (.val (.int r.1))) (some (.val (.lst (r.2.map D.str)))) c1 (λu hu=>h u (List.mem_cons_of_mem _ hu)) (by omega)
  refine⟨a',b',c',?_⟩
  rw[show endsS d (r::rows)=endsS (r.2.foldl (λd n=>putS d n r.1) d) rows from rfl,<-p]
  simp[kJ,rnD,asgD,zI,p1]
theorem Vh {rows:List (Int×List Str)}(h:∀r∈rows,r.2.length<=100)(hl:rows.length<=5000):xy [.val (.lst (rows.map rnD))]=some (.dct none (kv (endsS [] rows))):=by
 obtain⟨a',b',c',p⟩:=WX (some (.val (.lst (rows.map rnD)))) rows [] none none none h (by simp;omega)
 simp[kv] at p
 simp[xy,mir,stE,qB,Z4,p]
 rfl
theorem QF (acc:List HM.Row)(r:HM.Row):total (kstep acc r)=total acc+r.1:=by
 rcases List.eq_nil_or_concat acc with rfl | ⟨pre,q,rfl⟩
 ·simp[kstep,total]
 ·rw[List.concat_eq_append]
  unfold kstep
  rw[List.getLast?_concat]
  simp only[List.dropLast_concat]
  split<;>simp[jv,total]<;>omega
theorem ZT:∀(rs acc:List HM.Row),total (rs.foldl kstep acc)=total acc+total rs
 | [],acc=>by simp[total]
 |r::rs,acc=>by rw[List.foldl_cons,ZT rs,QF];simp only[total];omega
theorem Rj {rest:Int}{rs:List HM.Row}(h:Pos rs):total (krows rest rs)<=total rs:=by
 have h1:=ZT rs []
 obtain⟨_,hp⟩:=wx (rest:=rest) (Φ:=λ_=>()) ⟨λ_ _ _ _ _ _ _ _ _=>rfl,λ_ _ _ _=>rfl⟩ rs [] Pos.nil h
 simp only[total,Int.zero_add] at h1
 unfold krows kend
 rcases List.eq_nil_or_concat (rs.foldl kstep []) with h0 | ⟨pre,q,h0⟩
 ·rw[h0] at h1 ⊢;simp[total] at h1 ⊢;omega
 ·rw[List.concat_eq_append] at h0
  rw[h0] at h1 hp ⊢
  rw[List.getLast?_concat]
  have hq:=(Pos.cons.mp (Pos.app.mp hp).2).1
  rw[jv] at h1
  simp only[total] at h1
  simp only[List.dropLast_concat]
  split
  ·omega
  ·rw[jv];simp only[total];omega
theorem Fit.hok {rs:List HM.Row}{rest:Int}(F:Fit rs rest):HOk rest (krows rest rs):=by
 refine⟨Kw rest rs F.pos,F.lo,?_⟩
 have h1:=Rj (rest:=rest) F.pos
 have h2:=YO rs F.good
 have h3:=F.len
 omega
theorem Fit.at {rs:List HM.Row}{rest:Int}(F:Fit rs rest)(x:Int):atR rest (krows rest rs) x=atR rest rs x:=Gr (zag rest x) rs F.pos
theorem eq_str {neg:Bool}{x y:Str}(hx:Ok x)(hy:Ok y):fEq neg (.str x) (.str y)=some (.bl (if neg then !decide (x=y) else decide (x=y))) :=
 wF (qX hx) (qX hy) (by decide) (by decide) (qG x y)
theorem Yl {n:Str}(hn:Ok n)(X0:Option En):∀(q:SI) (k:Nat) (a b:Option En),(∀t∈q,Ok t.1)->n∈nms q->∃j:Int,
  forD (.tup [2,3]) qA (enumD k (q.map tkD)) [X0,some (.val (.str n)),a,b]=some (.ret (.val (.int j)))
 | [],_,_,_,_,h=>by simp[nms] at h
 |t::q,k,a,b,ho,h=>by
  have i0:fItem (tkD t) (.int 0)=some (.str t.1):=by simp[tkD]
  have e:=eq_str (neg:=false) (ho t (by simp)) hn
  by_cases c:t.1=n
  ·refine⟨k,?_⟩
   simp[c] at e
   simp[enumD,qA,asgD,zI,i0,e,c]
  ·obtain⟨j,p⟩:=Yl hn X0 q (k+1) (some (.val (.int k))) (some (.val (tkD t))) (λu hu=>ho u (by simp[hu])) (by
    have:=h
    simp[nms] at this ⊢
    rcases this with z | z
    ·exact (c z.symm).elim
    ·exact z)
   refine⟨j,?_⟩
   rw[<-p]
   simp[c] at e
   simp[enumD,qA,asgD,zI,i0,e]
theorem Kc {q:SI}{n:Str}(ho:∀t∈q,Ok t.1)(hn:NameOk n)(h:n∈nms q):∃j:Int,va [.val (.lst (q.map tkD)),.val (.str n)]=some (.val (.int j)):=by
 obtain⟨j,p⟩:=Yl hn.ok (some (.val (.lst (q.map tkD)))) q 0 none none ho h
 have e:=YY hn
 refine⟨j,?_⟩
 try simp at p
 simp[va,mir,stE,xt,uJ,e,p]
theorem JW {n:Str}(hn:Ok n)(X0:Option En):∀(q:SI) (k:Nat) (a b:Option En),(∀t∈q,Ok t.1)->n∉nms q->∃a' b':Option En,
  forD (.tup [2,3]) uV (enumD k (q.map tkD)) [X0,some (.val (.str n)),a,b]=some (.next [X0,some (.val (.str n)),a',b'])
 | [],_,a,b,_,_=>⟨a,b,by simp[enumD]⟩
 |t::q,k,a,b,ho,h=>by
  have i0:fItem (tkD t) (.int 0)=some (.str t.1):=by simp[tkD]
  have e:=eq_str (neg:=false) (ho t (by simp)) hn
  have c:¬t.1=n:=λz=>h (by simp[nms,z])
  obtain⟨a',b',p⟩:=JW hn X0 q (k+1) (some (.val (.int k))) (some (.val (tkD t))) (λu hu=>ho u (by simp[hu])) (λz=>h (by
   simp[nms] at z ⊢
   exact .inr z))
  refine⟨a',b',?_⟩
  rw[<-p]
  simp[c] at e
  simp[enumD,uV,asgD,zI,i0,e]
theorem Ka {q:SI}{n:Str}(ho:∀t∈q,Ok t.1)(hn:NameOk n)(h:n∉nms q):vE [.val (.lst (q.map tkD)),.val (.str n)]=some (.str n):=by
 obtain⟨a',b',p⟩:=JW hn.ok (some (.val (.lst (q.map tkD)))) q 0 none none ho h
 have e:=YY hn
 try simp at p
 simp[vE,mirX,stE,xt,kt,bSeq,e,p]
section
variable (C:Addr){rest:Int}{ks:List HM.Row}{b0 L:Int}{q:SI}{out:List (Int×List Str)}{n:Str}{H:D}
theorem zav (ho:∀t∈q,Ok t.1)(hn:NameOk n)(h:n∉nms q):vK [.val (.lst (q.map tkD)),.val H,.val (.int b0),.val (.str n)]=some (.str n):=by
 have p:=Ka ho hn h
 simp[vK,mirX,stE,yv,uy,bCall,p]
theorem zey (ho:∀t∈q,Ok t.1)(hn:NameOk n)(h:n∉nms q):vn [.val (.lst (q.map tkD)),.val H,.val (.int b0),.val (.str n)]=some (.str n):=by
 have p:=zav (b0:=b0) (H:=H) ho hn h
 simp[vn,mirX,stE,xf,Z2,bCall,p]
theorem KY (o1:∀r∈out,(∀y∈r.2,Ok y)/\r.2.length<=100)(o2:out.length<=5000)(o3:yJ C [.val (.lst (q.map tkD)),.val (hoursD C rest ks),.val (.int b0),.val .non]=some (.tre (rowsT out))) :
  wR C [.val (.lst (q.map tkD)),.val (hoursD C rest ks),.val (.int b0)]=some (.dct none (kv (endsS [] out))):=by
 have e:=Vh (rows:=out) (λr hr=>(o1 r hr).2) o2
 simp[wR,mir,stE,j3,kS,o3,wk,e]
theorem zad (ho:∀t∈q,Ok t.1)(hn:NameOk n)(h:n∈nms q)(e:wR C [.val (.lst (q.map tkD)),.val (hoursD C rest ks),.val (.int b0)]=some (.dct none (kv (endsS [] out))))(hL:lookS (endsS [] out) n=some L) :
  wD C [.val (.lst (q.map tkD)),.val (hoursD C rest ks),.val (.int b0),.val (.str n)]=some (.val (.int L)):=by
 obtain⟨j,p⟩:=Kc ho hn h
 have hk:=xD n (endsS [] out)
 rw[hL] at hk
 simp at hk
 simp[wD,mir,stE,yv,ul,p,e,hk]
theorem Jw (L:Int):∀(rows:List (Int×List Str)),filtO (gb' (g2 fLe (g2 fItem (gr 0) (gc (.int 0))) (gr 1))) [none,some (.val (.int L))] (rows.map rnT)=some ((rowsTo L rows).map rnT)
 | []=>by simp[rowsTo,filtO]
 |r::rows=>by
  have ih:=Jw L rows
  have i0:fItem (rnD r) (.int 0)=some (.int r.1):=by simp[rnD]
  simp only[List.map_cons,filtO,ih,uv]
  by_cases h:r.1<=L
  ·have:rowsTo L (r::rows)=r::rowsTo L rows:=by simp[rowsTo,h]
   rw[this]
   simp[i0,h]
  ·have:rowsTo L (r::rows)=rowsTo L rows:=by simp[rowsTo,h]
   rw[this]
   simp[i0,h]
theorem zbe (o2:out.length<=5000)(e:wD C [.val (.lst (q.map tkD)),.val (hoursD C rest ks),.val (.int b0),.val (.str n)]=some (.val (.int L)))
  (o3:yJ C [.val (.lst (q.map tkD)),.val (hoursD C rest ks),.val (.int b0),.val .non]=some (.tre (rowsT out))) :
  wb C [.val (.lst (q.map tkD)),.val (hoursD C rest ks),.val (.int b0),.val (.str n)]=some (.tre (rowsT (rowsTo L out))):=by
 have c:=Jw L out
 have hT:out.length<=TOP:=by simp[TOP];omega
 simp[wb,mir,stE,xf,uH,e,o3,gFilt,rowsT,hT,capE,capO,c]
theorem uY (ho:∀t∈q,Ok t.1)(hn:NameOk n)(h:n∉nms q):yF [.val (.lst (q.map tkD)),.val H,.val (.int b0),.val (.str n)]=some (.str n):=by
 have p:=zey (b0:=b0) (H:=H) ho hn h
 simp[yF,mirX,stE,jF,kj,bCall,p]
theorem RI (ho:∀t∈q,Ok t.1)(hn:NameOk n)(h:n∉nms q):vG [.val (.lst (q.map tkD)),.val H,.val (.int b0),.val (.str n)]=some (.str n):=by
 have p:=uY (b0:=b0) (H:=H) ho hn h
 simp[vG,mirX,stE,yZ,Zg,bCall,p]
theorem UC (ho:∀t∈q,Ok t.1)(hn:NameOk n)(h:n∉nms q){S:D}:vt [.val (.lst (q.map tkD)),.val H,.val (.int b0),.val (.str n),.val S]=some (.str n):=by
 have p:=uY (b0:=b0) (H:=H) ho hn h
 simp[vt,mirX,stE,xQ,uU,bHas,bCall,p]
theorem ZV (ho:∀t∈q,Ok t.1)(hn:NameOk n)(h:n∉nms q)(k:Nat):yA [.val (.lst (q.map tkD)),.val H,.val (.int b0),.val (.str n),.val (.int k)]=some (.val (.bl true)):=by
 have x1:=uY (b0:=b0) (H:=H) ho hn h
 have x2:=RI (b0:=b0) (H:=H) ho hn h
 have x3:=UC (b0:=b0) (H:=H) ho hn h (S:=.lst [])
 have h1:1<=TOP:=by decide
 by_cases k0:k=0
 ·simp[yA,mir,stE,wJ,vv,sTryS,bIf,bCall,x1,gv,k0]
 ·by_cases k1:k=1
  ·simp[yA,mir,stE,wJ,vv,sTryS,bIf,bCall,x2,gv,k1]
  ·have k0':¬(k:Int)=0:=by omega
   have k1':¬(k:Int)=1:=by omega
   simp[yA,mir,stE,wJ,vv,sTryS,bIf,bCall,x3,gv,k0,k1,k0',k1',h1]
def waitsL (n:Str)(L:Int)(rows:List (Int×List Str)):List (Int×List Str):=(rowsTo L rows).filter λr=>!decide (n∈r.2)
theorem Yr (n:Str):∀rows:List (Int×List Str),filtO (gb' (g2 (fIn true) (gr 1) (g2 fItem (gr 0) (gc (.int 1))))) [none,some (.val (.str n))] (rows.map rnT)
  = some ((rows.filter λr=>!decide (n∈r.2)).map rnT)
 | []=>by simp[filtO]
 |r::rows=>by
  have ih:=Yr n rows
  have i1:fItem (rnD r) (.int 1)=some (.lst (r.2.map D.str)):=by simp[rnD]
  have e4:fIn true (.str n) (.lst (r.2.map D.str))=some (.bl (!decide (n∈r.2))):=wn
  simp only[List.map_cons,filtO,ih,uv,List.filter_cons]
  by_cases h2:n∈r.2
  ·simp[h2] at e4
   simp[i1,e4,h2]
  ·simp[h2] at e4
   simp[i1,e4,h2]
theorem JI (L:Int)(rows:List (Int×List Str)):(rowsTo L rows).length<=rows.length:=by unfold rowsTo;exact List.length_filter_le _ _
theorem qg {n:Str}{L:Int}{rows:List (Int×List Str)}{r:Int×List Str}(h:r∈waitsL n L rows):r∈rows:=by
 unfold waitsL rowsTo at h
 exact (List.mem_filter.mp (List.mem_filter.mp h).1).1
theorem UM (o2:out.length<=5000)(e:wb C [.val (.lst (q.map tkD)),.val (hoursD C rest ks),.val (.int b0),.val (.str n)]=some (.tre (rowsT (rowsTo L out)))) :
  ye C [.val (.lst (q.map tkD)),.val (hoursD C rest ks),.val (.int b0),.val (.str n)]=some (.tre (rowsT (waitsL n L out))):=by
 have c:=Yr n (rowsTo L out)
 have hT:(rowsTo L out).length<=TOP:=by have:=JI L out;simp[TOP];omega
 simp[ye,mir,stE,jF,Za,e,gFilt,rowsT,hT,capE,capO,c,waitsL]
theorem UZ (ho:∀r∈out,∀y∈r.2,Ok y)(e:ye C [.val (.lst (q.map tkD)),.val (hoursD C rest ks),.val (.int b0),.val (.str n)]=some (.tre (rowsT (waitsL n L out)))){S:List (Int×List Str)}(hS:∀r∈S,∀y∈r.2,Ok y) :
  xg C [.val (.lst (q.map tkD)),.val (hoursD C rest ks),.val (.int b0),.val (.str n),.val (.lst (S.map rnD))]=some (.val (.bl (decide (S=waitsL n L out)))):=by
 have c:=Ym (neg:=false) hS (λr hr=>ho r (qg hr):∀r∈waitsL n L out,_)
 simp only[Bool.false_eq_true,if_false] at c
 simp[xg,mir,stE,xQ,ko,e,wk,c]
end
def dueL (n:Str):Int->List (Int×List Str)->List (Int×List Str)
 |_,[]=>[]
 |l,r::rs=>if 0 < l/\n∈r.2 then dueL n (l - 1) rs else if 0 < l then r::dueL n l rs else dueL n l rs
theorem jK (n:Str):∀(rows:List (Int×List Str)) (l:Int),l<=0->dueL n l rows=[]
 | [],_,_=>rfl
 |r::rs,l,h=>by
  have h':¬0 < l:=by omega
  simp only[dueL,h',false_and,if_false]
  exact jK n rs l h
theorem vP {q:SI}(hp:PosQ q){n:Str}(h:n∈nms q):1<=val q n:=by
 induction q with
 |nil=>simp[nms] at h
 |cons t q ih=>
  rw[wE]
  by_cases c:t.1=n
  ·rw[if_pos c];exact hp t (by simp)
  ·rw[if_neg c]
   refine ih (λu hu=>hp u (by simp[hu])) ?_
   simp[nms] at h ⊢
   rcases h with z | z
   ·exact (c z.symm).elim
   ·exact z
theorem uD {f:Int->Int}{n:Str}{L:Int}:∀ {rows:List (Int×List Str)} {x:Int} {q:SI},Run f x q rows->(nms q).Nodup->PosQ q->(∃r∈rows,n∈r.2/\r.1=L)->(∀r∈rows,n∈r.2->r.1<=L)->dueL n (val q n) rows=waitsL n L rows
 | [],x,q,h,nd,hp,hA,hB=>by obtain⟨r,hr,_⟩:=hA;cases hr
 |r0::rs,x,q,h,nd,hp,hA,hB=>by
  cases h with
  |cons hq hr=>
   have hv:=jS (f x).toNat q n hp nd
   have nd':(nms (beh (f x).toNat q)).Nodup:=List.Nodup.sublist beh_sub nd
   have hp':PosQ (beh (f x).toNat q):=jV hp
   have ht:=vR hr
   have hB':∀r∈rs,n∈r.2->r.1<=L:=λr h=>hB r (by simp[h])
   by_cases hs:n∈srv (f x).toNat q
   ·have h1:=vP hp (ZR hs)
    rw[if_pos hs] at hv
    have hpos:0 < val q n:=by omega
    simp only[dueL,hpos,hs,and_self,if_true]
    rw[<-hv]
    by_cases hn:n∈nms (beh (f x).toNat q)
    ·obtain⟨r',hr',hnr⟩:=Wq hr hn
     have g1:=(ht r' hr').1
     have g2:=hB' r' hr' hnr
     have hA':∃r∈rs,n∈r.2/\r.1=L:=by
      obtain⟨r,hr1,hr2,hr3⟩:=hA
      rcases List.mem_cons.mp hr1 with rfl | hr1
      ·have:x=L:=hr3
       omega
      ·exact⟨r,hr1,hr2,hr3⟩
     rw[uD hr nd' hp' hA' hB']
     have hx:x<=L:=by omega
     simp[waitsL,rowsTo,hx,hs]
    ·rw[xG hn,jK n rs 0 (by omega)]
     have hno:=jq hr hn
     have hL:x=L:=by
      obtain⟨r,hr1,hr2,hr3⟩:=hA
      rcases List.mem_cons.mp hr1 with rfl | hr1
      ·exact hr3
      ·exact (hno r hr1 hr2).elim
     have e:rowsTo L rs=[]:=by
      unfold rowsTo
      rw[List.filter_eq_nil_iff]
      intro r hr1
      have:=(ht r hr1).1
      simp;omega
     have e2:rowsTo L ((x,srv (f x).toNat q)::rs)=(x,srv (f x).toNat q)::rowsTo L rs:=by
      have hx:x<=L:=by omega
      simp[rowsTo,hx]
     unfold waitsL
     rw[e2,e]
     simp[hs]
   ·rw[if_neg hs] at hv
    have hA':∃r∈rs,n∈r.2/\r.1=L:=by
     obtain⟨r,hr1,hr2,hr3⟩:=hA
     rcases List.mem_cons.mp hr1 with rfl | hr1
     ·exact (hs hr2).elim
     ·exact⟨r,hr1,hr2,hr3⟩
    have hn:n∈nms (beh (f x).toNat q):=by
     obtain⟨r,hr1,hr2,_⟩:=hA'
     exact Classical.byContradiction λz=>jq hr z r hr1 hr2
    have h1:=vP hp (beh_sub.subset hn)
    have hpos:0 < val q n:=by omega
    have hx:x<=L:=by
     obtain⟨r,hr1,_,hr3⟩:=hA'
     have:=(ht r hr1).1
     omega
    simp only[dueL,hs,and_false,if_false,hpos,if_true]
    rw[<-hv,uD hr nd' hp' hA' hB']
    simp[waitsL,rowsTo,hx,hs]
theorem Vv {q:SI}(nd:(nms q).Nodup){n:Str}(h:n∈nms q):lookS q n=some (val q n):=by
 obtain⟨v,hv⟩:=uZ (q:=q) (x:=n) h
 rw[hv]
 induction q with
 |nil=>simp[nms] at h
 |cons t q ih=>
  rw[y4] at hv
  rw[wE]
  by_cases c:t.1=n
  ·rw[if_pos c] at hv ⊢;exact hv.symm
  ·rw[if_neg c] at hv ⊢
   have nd2:(nms q).Nodup:=(List.nodup_cons.mp nd).2
   refine ih nd2 ?_ hv
   simp[nms] at h ⊢
   rcases h with z | z
   ·exact (c z.symm).elim
   ·exact z
theorem j5 (n:Str)(X0 X1:Option En):∀(rows:List (Int×List Str)) (l:Int) (acc:List (Int×List Str)) (a b:Option En),acc.length+rows.length<=10000->∃(l':Int) (a' b':Option En),
  forD (.tup [5,6]) jf (rows.map rnD) [X0,X1,some (.val (.str n)),some (.acc (acc.map rnD)),some (.val (.int l)),a,b]
   = some (.next [X0,X1,some (.val (.str n)),some (.acc ((acc++dueL n l rows).map rnD)),some (.val (.int l')),a',b'])
 | [],l,acc,a,b,_=>⟨l,a,b,by simp[dueL]⟩
 |r::rows,l,acc,a,b,hl=>by
  simp only[List.length_cons] at hl
  have hT:acc.length<=TOP:=by simp[TOP];omega
  have t2:2<=TOP:=by decide
  have e4:fIn false (.str n) (.lst (r.2.map D.str))=some (.bl (decide (n∈r.2))):=wn
  by_cases h1:0 < l
  ·by_cases h2:n∈r.2
   ·obtain⟨l',a',b',p⟩:=j5 n X0 X1 rows (l - 1) acc (some (.val (.int r.1))) (some (.val (.lst (r.2.map D.str)))) (by omega)
    refine⟨l',a',b',?_⟩
    have ed:dueL n l (r::rows)=dueL n (l - 1) rows:=by simp[dueL,h1,h2]
    rw[ed,<-p]
    simp[h2] at e4
    simp[rnD,jf,asgD,zI,e4,h1]
   ·obtain⟨l',a',b',p⟩:=j5 n X0 X1 rows l (acc++[r]) (some (.val (.int r.1))) (some (.val (.lst (r.2.map D.str)))) (by simp;omega)
    refine⟨l',a',b',?_⟩
    have ed:acc++dueL n l (r::rows)=(acc++[r])++dueL n l rows:=by simp[dueL,h1,h2]
    rw[ed,<-p]
    simp[h2] at e4
    simp[rnD,jf,asgD,zI,e4,h1,hT,t2]
  ·obtain⟨l',a',b',p⟩:=j5 n X0 X1 rows l acc (some (.val (.int r.1))) (some (.val (.lst (r.2.map D.str)))) (by omega)
   refine⟨l',a',b',?_⟩
   have ed:dueL n l (r::rows)=dueL n l rows:=by simp[dueL,h1]
   rw[ed,<-p]
   simp[rnD,jf,asgD,zI,h1]
theorem Rl {q:SI}(nd:(nms q).Nodup)(hl:q.length<=100){n:Str}(h:n∈nms q){rows:List (Int×List Str)}(hr:rows.length<=5000) :
  yE [.val (.lst (q.map tkD)),.val (.lst (rows.map rnD)),.val (.str n)]=some (.acc ((dueL n (val q n) rows).map rnD)):=by
 obtain⟨l',a',b',p⟩:=j5 n (some (.val (.lst (q.map tkD)))) (some (.val (.lst (rows.map rnD)))) rows (val q n) [] none none (by simp;omega)
 have dk:=jk q
 have dm:mergeD [] (kv q)=kv (mergeS [] q):=jl q []
 rw[qW nd] at dm
 have hk:=xD n q
 rw[Vv nd h] at hk
 have hq:q.length<=TOP:=by simp[TOP];omega
 try simp at p
 try simp at hk
 simp[yE,mir,stE,qm,kO,dk,dm,hk,p]
theorem JS {f:Int->Int}:∀ {r1 r2:List (Int×List Str)} {x:Int} {q:SI},Run f x q r1->Run f x q r2->r1=r2
 | [],[],_,_,_,_=>rfl
 | [],_::_,_,_,h1,h2=>by cases h1;cases h2 with | cons hq _=>exact (hq rfl).elim
 |_::_,[],_,_,h1,h2=>by cases h2;cases h1 with | cons hq _=>exact (hq rfl).elim
 |_::_,_::_,_,_,h1,h2=>by
  cases h1 with
  |cons hq h1=>cases h2 with | cons _ h2=>rw[JS h1 h2]
abbrev RN:=Int×List Str
def zo (y:Str)(W:List RN):List Int:=(W.filter λr=>decide (y∈r.2)).map (·.1)
theorem uL (y:Str)(r:RN)(W:List RN):zo y (r::W)=if y∈r.2 then r.1::zo y W else zo y W:=by
 unfold zo
 by_cases h:y∈r.2<;>simp[h]
theorem We (y:Str):∀(W:List RN) (d:SI),lookS (endsS d W) y=((zo y W).getLast?).or (lookS d y)
 | [],d=>by simp[endsS,zo]
 |r::W,d=>by
  show lookS (endsS (r.2.foldl (λd n=>putS d n r.1) d) W) y=_
  rw[We y W,uL,vy]
  by_cases h:y∈r.2
  ·rw[if_pos h,if_pos h]
   cases q:zo y W with
   |nil=>rfl
   |cons a l=>
    rw[List.getLast?_cons_cons]
    cases z:(a::l).getLast? with
    |none=>simp at z
    |some v=>rfl
  ·rw[if_neg h,if_neg h]
theorem KP (y:Str)(W:List RN):lookS (endsS [] W) y=(zo y W).getLast?:=by
 rw[We];simp[lookS]
theorem kW:∀ {l:List Int} {v:Int},l.Pairwise (·<=·)->l.getLast?=some v->∀a∈l,a<=v
 | [],v,_,_,a,ha=>by cases ha
 | [b],v,_,h,a,ha=>by
  have h:b=v:=by simpa using h
  have ha:a=b:=by simpa using ha
  omega
 |b::c::l,v,hp,h,a,ha=>by
  rw[List.getLast?_cons_cons] at h
  have hp':=List.pairwise_cons.mp hp
  rcases List.mem_cons.mp ha with rfl | ha
  ·have h1:=hp'.1 c (by simp)
   have h2:=kW hp'.2 h c (by simp)
   omega
  ·exact kW hp'.2 h a ha
theorem zds {y:Str}{W:List RN}(h:W.Pairwise λa b=>a.1<=b.1):(zo y W).Pairwise (·<=·):=by
 unfold zo
 rw[List.pairwise_map]
 exact h.sublist List.filter_sublist
theorem RA {y:Str}{W:List RN}(h:W.Pairwise λa b=>a.1<=b.1){v:Int}(hv:(zo y W).getLast?=some v):hb W y v=(zo y W).length:=by
 unfold hb zo
 rw[List.length_map]
 congr 1
 apply List.filter_congr
 intro r hr
 by_cases hy:y∈r.2
 ·have:=kW (zds (y:=y) h) hv r.1 (by unfold zo;exact List.mem_map.mpr ⟨r,List.mem_filter.mpr ⟨hr,by simpa using hy⟩,rfl⟩)
  simp[hy,this]
 ·simp[hy]
theorem YL {f:Int->Int}:∀ {rows:List RN} {x:Int} {q:SI},Run f x q rows->rows.Pairwise λa b=>a.1<=b.1
 | [],x,q,h=>.nil
 |r::rs,x,q,h=>by
  cases h with
  |cons hq hr=>
   refine List.pairwise_cons.mpr ⟨λr' hr'=>?_,YL hr⟩
   have:=(vR hr r' hr').1
   show x<=r'.1
   omega
theorem zbr {f:Int->Int}{rows:List RN}{x:Int}{q:SI}(h:Run f x q rows)(n:Str)(L:Int):(waitsL n L rows).Pairwise λa b=>a.1<=b.1:=by
 unfold waitsL rowsTo
 exact (YL h).sublist (List.filter_sublist.trans List.filter_sublist)
theorem Wm {f:Int->Int}:∀ {rows:List RN} {x:Int} {q:SI},Run f x q rows->∀r∈rows,r.2.Sublist (nms q)
 | [],x,q,h,r,hr=>by cases hr
 |r0::rs,x,q,h,r,hr=>by
  cases h with
  |cons hq hr'=>
   rcases List.mem_cons.mp hr with rfl | hr
   ·show (srv (f x).toNat q).Sublist _
    unfold srv nms
    rw[List.map_take]
    exact List.take_sublist _ _
   ·exact (Wm hr' r hr).trans beh_sub
theorem Zb {f:Int->Int}{n:Str}:∀ {rows:List RN} {x:Int} {q:SI},Run f x q rows->(nms q).Nodup->PosQ q->n∈nms q->∀r∈dueL n (val q n) rows,r.2.length=(f r.1).toNat/\∀y∈r.2,[y,n].Sublist (nms q)
 | [],x,q,h,nd,hp,hn,r,hr=>by simp[dueL] at hr
 |r0::rs,x,q,h,nd,hp,hn,r,hr=>by
  cases h with
  |cons hq hrun=>
   have hv:=jS (f x).toNat q n hp nd
   have nd':(nms (beh (f x).toNat q)).Nodup:=List.Nodup.sublist beh_sub nd
   have hp':PosQ (beh (f x).toNat q):=jV hp
   have h1:=vP hp hn
   have hpos:0 < val q n:=by omega
   by_cases hs:n∈srv (f x).toNat q
   ·rw[if_pos hs] at hv
    simp only[dueL,hpos,hs,and_self,if_true] at hr
    rw[<-hv] at hr
    by_cases hm:n∈nms (beh (f x).toNat q)
    ·obtain⟨g1,g2⟩:=Zb hrun nd' hp' hm r hr
     exact⟨g1,λy hy=>(g2 y hy).trans beh_sub⟩
    ·rw[xG hm,jK n rs 0 (by omega)] at hr
     cases hr
   ·rw[if_neg hs] at hv
    have hm:n∈nms (beh (f x).toNat q):=Classical.byContradiction λz=>by
     rw[xG z] at hv;omega
    simp only[dueL,hs,and_false,if_false,hpos,if_true] at hr
    rcases List.mem_cons.mp hr with rfl | hr
    ·have hs':n∉(nms q).take (f x).toNat:=by
      unfold srv at hs
      unfold nms
      rw[<-List.map_take];exact hs
     have hd:n∈(nms q).drop (f x).toNat:=by
      have:n∈(nms q).take (f x).toNat++(nms q).drop (f x).toNat:=by rw[List.take_append_drop];exact hn
      rcases List.mem_append.mp this with z | z
      ·exact (hs' z).elim
      ·exact z
     refine⟨?_,λy hy=>?_⟩
     ·show (srv (f x).toNat q).length=(f x).toNat
      have hl:0 < ((nms q).drop (f x).toNat).length:=List.length_pos_of_mem hd
      rw[List.length_drop] at hl
      unfold nms at hl
      rw[List.length_map] at hl
      unfold srv
      rw[List.length_map,List.length_take];omega
     ·have hy':y∈(nms q).take (f x).toNat:=by
       have hy:y∈srv (f x).toNat q:=hy
       unfold srv at hy
       unfold nms
       rw[<-List.map_take];exact hy
      have:=(List.singleton_sublist.mpr hy').append (List.singleton_sublist.mpr hd)
      rw[List.take_append_drop] at this
      exact this
    ·rw[<-hv] at hr
     obtain⟨g1,g2⟩:=Zb hrun nd' hp' hm r hr
     exact⟨g1,λy hy=>(g2 y hy).trans beh_sub⟩
theorem u5 {f:Int->Int}{n:Str}:∀ {rows:List RN} {x:Int} {q:SI},Run f x q rows->(nms q).Nodup->PosQ q->n∈nms q ->
  ∃L:Int,(∃r∈rows,n∈r.2/\r.1=L)/\(∀r∈rows,n∈r.2->r.1<=L)/\L=x+val q n+(dueL n (val q n) rows).length - 1
 | [],x,q,h,nd,hp,hn=>by cases h;simp[nms] at hn
 |r0::rs,x,q,h,nd,hp,hn=>by
  cases h with
  |cons hq hrun=>
   have hv:=jS (f x).toNat q n hp nd
   have nd':(nms (beh (f x).toNat q)).Nodup:=List.Nodup.sublist beh_sub nd
   have hp':PosQ (beh (f x).toNat q):=jV hp
   have h1:=vP hp hn
   have hpos:0 < val q n:=by omega
   by_cases hs:n∈srv (f x).toNat q
   ·rw[if_pos hs] at hv
    simp only[dueL,hpos,hs,and_self,if_true]
    rw[<-hv]
    by_cases hm:n∈nms (beh (f x).toNat q)
    ·obtain⟨L,⟨r,a1,a2,a3⟩,a4,a5⟩:=u5 hrun nd' hp' hm
     have h2:=vP hp' hm
     refine⟨L,⟨r,by simp[a1],a2,a3⟩,λr' hr' hn'=>?_,by omega⟩
     rcases List.mem_cons.mp hr' with rfl | hr'
     ·show x<=L;omega
     ·exact a4 r' hr' hn'
    ·rw[xG hm] at hv
     rw[xG hm,jK n rs 0 (by omega)]
     refine⟨x,⟨_,List.mem_cons_self,hs,rfl⟩,λr' hr' hn'=>?_,by simp;omega⟩
     rcases List.mem_cons.mp hr' with rfl | hr'
     ·exact Int.le_refl _
     ·exact (jq hrun hm r' hr' hn').elim
   ·rw[if_neg hs] at hv
    have hm:n∈nms (beh (f x).toNat q):=Classical.byContradiction λz=>by
     rw[xG z] at hv;omega
    simp only[dueL,hs,and_false,if_false,hpos,if_true]
    rw[<-hv]
    obtain⟨L,⟨r,a1,a2,a3⟩,a4,a5⟩:=u5 hrun nd' hp' hm
    refine⟨L,⟨r,by simp[a1],a2,a3⟩,λr' hr' hn'=>?_,by simp only[List.length_cons];omega⟩
    rcases List.mem_cons.mp hr' with rfl | hr'
    ·exact (hs hn').elim
    ·exact a4 r' hr' hn'
theorem zao {xs ys:List Str}(h:ys.Sublist xs)(nd:xs.Nodup):xs.filter (λy=>decide (y∈ys))=ys:=by
 induction h with
 |slnil=>rfl
 | @cons l1 l2 a h ih=>
  have nd':=List.nodup_cons.mp nd
  rw[List.filter_cons,if_neg (by simpa using λz=>nd'.1 (h.subset z)),ih nd'.2]
 | @cons_cons l1 l2 a h ih=>
  have nd':=List.nodup_cons.mp nd
  rw[List.filter_cons,if_pos (by simp)]
  congr 1
  rw[<-ih nd'.2]
  have e:l2.filter (λy=>decide (y∈l1))=l1:=ih nd'.2
  rw[e]
  conv=>rhs;rw[<-e]
  apply List.filter_congr
  intro y hy
  have hne:y≠a:=λz=>nd'.1 (z ▸ hy)
  simp[hne]
theorem Yz (ys:List Str):∀xs:List Str,(xs.map λy=>if y∈ys then (1:Int) else 0).sum=(xs.filter λy=>decide (y∈ys)).length
 | []=>rfl
 |x::xs=>by
  have ih:=Yz ys xs
  by_cases h:x∈ys
  ·simp[h,ih];omega
  ·simp[h,ih]
theorem YR (g k:Str->Int):∀xs:List Str,(xs.map λy=>g y+k y).sum=(xs.map g).sum+(xs.map k).sum
 | []=>rfl
 |x::xs=>by
  have ih:=YR g k xs
  simp only[List.map_cons,List.sum_cons,ih];omega
theorem Vm {xs:List Str}(nd:xs.Nodup):∀W:List RN,(∀r∈W,r.2.Sublist xs)->(xs.map λy=>((zo y W).length:Int)).sum=(W.map λr=>(r.2.length:Int)).sum
 | [],_=>by
  have:∀l:List Str,(l.map λy=>((zo y []).length:Int)).sum=0:=λl=>by
   induction l with
   |nil=>rfl
   |cons a l ih=>rw[List.map_cons,List.sum_cons,ih];rfl
  exact this xs
 |r::W,h=>by
  have ih:=Vm nd W λu hu=>h u (by simp[hu])
  have e:(xs.map λy=>((zo y (r::W)).length:Int))=xs.map λy=>(if y∈r.2 then (1:Int) else 0)+((zo y W).length:Int):=by
   apply List.map_congr_left
   intro y _
   rw[uL]
   by_cases c:y∈r.2
   ·simp[c];omega
   ·simp[c]
  rw[e,YR,Yz,zao (h r (by simp)) nd,ih]
  simp
def tollsL (xs:List Str)(W:List RN):List (Str×Int×Int):=xs.filterMap λy=>((zo y W).getLast?).map λv=>(y,((zo y W).length:Int),v)
theorem kG (x:Str)(xs:List Str)(W:List RN):tollsL (x::xs) W=(match (zo x W).getLast? with | some v=>[(x,((zo x W).length:Int),v)] | none=>[])++tollsL xs W:=by
 unfold tollsL
 rw[List.filterMap_cons]
 cases (zo x W).getLast?<;>rfl
theorem J2 (W:List RN):∀xs:List Str,((tollsL xs W).map (·.2.1)).sum=(xs.map λy=>((zo y W).length:Int)).sum
 | []=>rfl
 |x::xs=>by
  have ih:=J2 W xs
  rw[kG]
  cases q:zo x W with
  |nil=>simp[q,ih]
  |cons a l=>
   have:(a::l).getLast?=some ((a::l).getLast (by simp)):=List.getLast?_eq_some_getLast (by simp)
   rw[this]
   simp[q,ih]
theorem VN {f:Int->Int}:∀W:List RN,(∀r∈W,(r.2.length:Int)=f r.1)->(W.map λr=>(r.2.length:Int)).sum=(W.map λr=>f r.1).sum
 | [],_=>rfl
 |r::W,h=>by
  rw[List.map_cons,List.map_cons,List.sum_cons,List.sum_cons,h r (by simp),VN W λu hu=>h u (by simp[hu])]
theorem zco (W:List RN)(xs:List Str):(tollsL xs W).length<=xs.length:=List.length_filterMap_le _ _
theorem Go {W:List RN}{xs:List Str}{t:Str×Int×Int}(h:t∈tollsL xs W):t.1∈xs:=by
 unfold tollsL at h
 obtain⟨y,hy,e⟩:=List.mem_filterMap.mp h
 cases q:(zo y W).getLast? with
 |none=>rw[q] at e;cases e
 |some v=>rw[q] at e;cases e;exact hy
theorem Qv {xs:List Str}{y n:Str}(h:[y,n].Sublist xs)(nd:xs.Nodup):y∈xs.take (xs.idxOf n):=by
 induction xs with
 |nil=>cases h
 |cons a xs ih=>
  have nd':=List.nodup_cons.mp nd
  cases h with
  |cons _ h=>
   have hn:n∈xs:=h.subset (by simp)
   have hne:a≠n:=λz=>nd'.1 (z ▸ hn)
   have e:(a::xs).idxOf n=xs.idxOf n+1:=by
    rw[List.idxOf_cons,show (a==n)=false from by simpa using hne];rfl
   rw[e,List.take_succ_cons]
   exact List.mem_cons_of_mem _ (ih h nd'.2)
  |cons_cons _ h=>
   have hn:n∈xs:=h.subset (by simp)
   have hne:y≠n:=λz=>nd'.1 (z ▸ hn)
   have e:(y::xs).idxOf n=xs.idxOf n+1:=by
    rw[List.idxOf_cons,show (y==n)=false from by simpa using hne];rfl
   rw[e,List.take_succ_cons]
   exact List.mem_cons_self
theorem YU (n:Str)(t:Int):∀rows:List (Int×List Str),compD (.name 0) (gAnd (gb' (g2 fLe (g2 fItem (gr 0) (gc (.int 0))) (gr 1))) (gb' (g2 (fIn false) (gr 2) (g2 fItem (gr 0) (gc (.int 1)))))) Zs [none,some (.val (.int t)),some (.val (.str n))] (rows.map rnD)
  = some ((rows.filter λr=>decide (r.1<=t)&&decide (n∈r.2)).map rnD)
 | []=>by simp
 |r::rows=>by
  have ih:=YU n t rows
  have i0:fItem (rnD r) (.int 0)=some (.int r.1):=by simp[rnD]
  have i1:fItem (rnD r) (.int 1)=some (.lst (r.2.map D.str)):=by simp[rnD]
  have e4:fIn false (.str n) (.lst (r.2.map D.str))=some (.bl (decide (n∈r.2))):=wn
  simp only[List.map_cons,yi,ih,List.filter_cons]
  by_cases h1:r.1<=t
  ·by_cases h2:n∈r.2
   ·simp[h2] at e4
    simp[i0,i1,e4,h1,h2,Zs]
   ·simp[h2] at e4
    simp[i0,i1,e4,h1,h2]
  ·simp[i0,i1,h1]
theorem QB {rows:List (Int×List Str)}(hl:rows.length<=5000)(n:Str)(t:Int):vL [.val (.lst (rows.map rnD)),.val (.str n),.val (.int t)]=some (.val (.int (hb rows n t))):=by
 have e:=YU n t rows
 have hT:rows.length<=TOP:=by simp[TOP];omega
 try simp at e
 simp[vL,mir,stE,vw,uo,e,hT,hb]
def tlD (p:Str×Int×Int):D:=.tup [.str p.1,.int p.2.1,.int p.2.2]
theorem KH (x y:Str×Int×Int):PyData.eqv (toP (tlD x)) (toP (tlD y))=decide (x=y):=by
 show (PyData.eqv (.str x.1) (.str y.1)&&(PyData.eqv (.int x.2.1) (.int y.2.1)&&(PyData.eqv (.int x.2.2) (.int y.2.2)&&true)))=_
 rw[qG,wf,wf]
 obtain⟨a,b,c⟩:=x
 obtain⟨a',b',c'⟩:=y
 by_cases h1:a=a'<;>by_cases h2:b=b'<;>by_cases h3:c=c'<;>simp[h1,h2,h3]
theorem zem (xs ys:List (Str×Int×Int)):PyData.eqv (toP (.lst (xs.map tlD))) (toP (.lst (ys.map tlD)))=decide (xs=ys):=by
 show PyData.eqvAll (toPs (xs.map tlD)) (toPs (ys.map tlD))=_
 rw[yk,yk]
 exact wU (f:=λx=>toP (tlD x)) KH xs ys
theorem WG {t:Str×Int×Int}(h:Ok t.1):Lay 1 (tlD t):=by
 refine⟨?_,?_⟩
 ·show (PyData.canLay0 (.str t.1)&&(PyData.canLay0 (.int t.2.1)&&(PyData.canLay0 (.int t.2.2)&&true)))=true
  rw[show PyData.canLay0 (.str t.1)=true from h];rfl
 ·show max 0 (max 0 (max 0 0))+1<=1;omega
theorem Qg {neg:Bool}{xs ys:List (Str×Int×Int)}(hx:∀x∈xs,Ok x.1)(hy:∀x∈ys,Ok x.1):fEq neg (.lst (xs.map tlD)) (.lst (ys.map tlD))=some (.bl (if neg then !decide (xs=ys) else decide (xs=ys))) :=
 wF (xW λt ht=>WG (hx t ht)) (xW λt ht=>WG (hy t ht)) (by decide) (by decide) (zem xs ys)
theorem Gn {neg:Bool}(xs:List Int):fEq neg (.lst (xs.map D.int)) (.lst [])=some (.bl (if neg then !decide (xs=[]) else decide (xs=[]))):=by
 have e:PyData.eqv (toP (.lst (xs.map D.int))) (toP (.lst (([]:List Int).map D.int)))=decide (xs=[]):=by
  show PyData.eqvAll (toPs (xs.map D.int)) (toPs (([]:List Int).map D.int))=_
  rw[yk,yk]
  exact wU (f:=PyData.int) wf xs []
 exact wF (xW (f:=D.int) (n:=0) λ_ _=>ud) (xW (f:=D.int) (n:=0) (xs:=[]) λ_ h=>nomatch h) (by decide) (by decide) e
theorem t3:3<=TOP:=by decide
theorem Ws {W:List RN}(hs:W.Pairwise λa b=>a.1<=b.1)(hl:W.length<=5000):∀xs:List Str,compD (.name 0) (gb' (gInD false (gr 0) (gk' 2))) ux [none,some (.val (.lst (W.map rnD))),some (.dbo (kv (endsS [] W)))] (xs.map D.str)=some ((tollsL xs W).map tlD)
 | []=>by simp[tollsL]
 |x::xs=>by
  have ih:=Ws hs hl xs
  have hk:=xD x (endsS [] W)
  rw[KP] at hk
  rw[kG]
  simp only[List.map_cons,yi,ih]
  cases q:(zo x W).getLast? with
  |none=>
   rw[q] at hk;simp at hk
   simp[hk]
  |some v=>
   rw[q] at hk;simp at hk
   have e1:=QB hl x v
   rw[RA hs q] at e1
   simp[hk,ux,e1,t3,tlD]
section
variable (C:Addr){q:SI}{W:List RN}{Q H b n:En}
theorem R9 (hs:W.Pairwise λa b=>a.1<=b.1)(hl:W.length<=5000)(hw:∀r∈W,r.2.length<=100)(hq:q.length<=1000){H b n:D}(e:ye C [.val (.lst (q.map tkD)),.val H,.val b,.val n]=some (.tre (rowsT W))) :
  y6 C [.val (.lst (q.map tkD)),.val H,.val b,.val n]=some (.acc ((tollsL (nms q) W).map tlD)):=by
 have e1:=Vh hw hl
 have e2:=Vl hq
 have e3:=Ws hs hl (nms q)
 have hn:(q.map (·.1))=nms q:=rfl
 rw[hn] at e2
 have hT:(nms q).length<=TOP:=by rw[<-hn,List.length_map];simp[TOP];omega
 have hT':((nms q).map D.str).length<=TOP:=by rw[List.length_map];exact hT
 have er:=wk W
 generalize (nms q).map D.str=XS at e2 e3 hT'
 generalize (tollsL (nms q) W).map tlD=TT at e3 ⊢
 generalize kv (endsS [] W)=KV at e1 e3
 generalize W.map rnD=WW at e1 e3 er
 generalize q.map tkD=QQ at e e2 ⊢
 simp[y6,mir,stE,yZ,Zh,e,er,e1,e2,hT',e3]
end
theorem u9 (y:Str):∀W:List RN,compD (.tup [0,1]) (gb' (g2 (fIn false) (gr 2) (gr 1))) (gv 0) [none,none,some (.val (.str y))] (W.map rnD)=some ((zo y W).map D.int)
 | []=>by simp[zo]
 |r::W=>by
  have ih:=u9 y W
  have e4:fIn false (.str y) (.lst (r.2.map D.str))=some (.bl (decide (y∈r.2))):=wn
  rw[uL]
  simp only[List.map_cons,yi,ih]
  by_cases h:y∈r.2
  ·simp[h] at e4
   simp[rnD,asgD,zI,e4,h]
  ·simp[h] at e4
   simp[rnD,asgD,zI,e4,h]
theorem kd {W:List RN}(hl:W.length<=5000)(X0:Option En):∀(ts:SI) (acc:List (Str×Int×Int)) (a b c:Option En),acc.length+ts.length<=1000->∃a' b' c':Option En,
  forD (.tup [3,4]) jm (ts.map tkD) [X0,some (.val (.lst (W.map rnD))),some (.acc (acc.map tlD)),a,b,c]=some (.next [X0,some (.val (.lst (W.map rnD))),some (.acc ((acc++tollsL (nms ts) W).map tlD)),a',b',c'])
 | [],acc,a,b,c,_=>⟨a,b,c,by simp[tollsL,nms]⟩
 |t::ts,acc,a,b,c,h=>by
  simp only[List.length_cons] at h
  have e:=u9 t.1 W
  have ee:WS=gv 0:=rfl
  rw[<-ee] at e
  have hT:W.length<=TOP:=by simp[TOP];omega
  have hA:acc.length<=TOP:=by simp[TOP];omega
  have hn:nms (t::ts)=t.1::nms ts:=rfl
  have hlen:(zo t.1 W).length<=TOP:=by
   unfold zo
   have:=List.length_filter_le (λr:RN=>decide (t.1∈r.2)) W
   rw[List.length_map];omega
  have e0:=Gn (neg:=true) (zo t.1 W)
  rw[hn,kG]
  rcases List.eq_nil_or_concat (zo t.1 W) with z | ⟨pre,v,z⟩
  ·rw[z] at e e0
   obtain⟨a',b',c',p⟩:=kd hl X0 ts acc (some (.val (.str t.1))) (some (.val (.int t.2))) (some (.val (.lst []))) (by omega)
   refine⟨a',b',c',?_⟩
   rw[z]
   simp only[List.getLast?_nil,List.nil_append]
   rw[<-p]
   simp at e e0
   simp[jm,tkD,asgD,zI,e,hT,e0]
  ·rw[List.concat_eq_append] at z
   rw[z] at e e0 hlen
   obtain⟨a',b',c',p⟩:=kd hl X0 ts (acc++[(t.1,((zo t.1 W).length:Int),v)]) (some (.val (.str t.1))) (some (.val (.int t.2))) (some (.val (.lst ((pre++[v]).map D.int)))) (by simp;omega)
   refine⟨a',b',c',?_⟩
   rw[z] at p ⊢
   have gl:(pre++[v]).getLast?=some v:=List.getLast?_concat
   rw[gl]
   simp only
   have ea:acc++([(t.1,((pre++[v]).length:Int),v)]++tollsL (nms ts) W)=acc++[(t.1,((pre++[v]).length:Int),v)]++tollsL (nms ts) W:=by simp
   rw[ea,<-p]
   have la:atI (pre.map D.int++[D.int v]) (-1)=some (D.int v):=qI
   simp at e e0 hlen
   simp[jm,tkD,asgD,zI,e,hT,e0,la,hlen,hA,tlD,t3]
theorem Gb {W:List RN}(hl:W.length<=5000){q:SI}(hq:q.length<=1000):xE [.val (.lst (q.map tkD)),.val (.lst (W.map rnD))]=some (.acc ((tollsL (nms q) W).map tlD)):=by
 obtain⟨a',b',c',p⟩:=kd hl (some (.val (.lst (q.map tkD)))) q [] none none none (by simp;omega)
 simp at p
 simp[xE,mir,stE,vH,ZC,p]
theorem sTT:subT "tuple" "tuple" = some true:=by decide
theorem sLL:subT "list" "list" = some true:=by decide
theorem sIB:subT "int" "bool" = some false:=by decide
theorem Qa (X0 X1:Option En):∀(W:List RN) (a:Option En),∃a':Option En,forD (.name 2) kA (W.map rnD) [X0,X1,a]=some (.next [X0,X1,a'])
 | [],a=>⟨a,by simp⟩
 |r::W,a=>by
  obtain⟨a',p⟩:=Qa X0 X1 W (some (.val (rnD r)))
  refine⟨a',?_⟩
  rw[<-p]
  have ty:tyD (rnD r)=some "tuple" := rfl
  have i0:fItem (rnD r) (.int 0)=some (.int r.1):=by simp[rnD]
  have i1:fItem (rnD r) (.int 1)=some (.lst (r.2.map D.str)):=by simp[rnD]
  simp[kA,asgD,ty,sTT,i0,i1,sLL,sIB]
theorem GY {W:List RN}(ho:∀r∈W,∀y∈r.2,Ok y):wZ [.val (.lst (W.map rnD)),.val (.lst (W.map rnD))]=some (.val (.bl true)):=by
 obtain⟨a',p⟩:=Qa (some (.val (.lst (W.map rnD)))) (some (.val (.lst (W.map rnD)))) W none
 have e:=Ym (neg:=true) ho ho
 simp at e p
 simp[wZ,mir,stE,qP,Zu,sLL,e,p]
theorem Zt:∀q:SI,compD (.name 0) tYes (g2 fItem (gr 0) (gc (.int 0))) [none] (q.map tkD)=some ((nms q).map D.str)
 | []=>by simp[nms]
 |t::q=>by
  have ih:=Zt q
  have i0:fItem (tkD t) (.int 0)=some (.str t.1):=by simp[tkD]
  have hn:nms (t::q)=t.1::nms q:=rfl
  rw[hn]
  simp only[List.map_cons,yi,ih]
  simp[i0]
theorem Jv {A:List Str}{e:EnvD->Option D}:∀xs:List Str,(∀x∈xs,x∈A)->compD (.name 0) (gb' (g2 (fIn true) (gr 0) (gr 1))) e [none,some (.val (.lst (A.map D.str)))] (xs.map D.str)=some []
 | [],_=>by simp
 |x::xs,h=>by
  have ih:=Jv (e:=e) xs λy hy=>h y (by simp[hy])
  have e4:fIn true (.str x) (.lst (A.map D.str))=some (.bl (!decide (x∈A))):=wn
  have hx:x∈A:=h x (by simp)
  simp[hx] at e4
  simp only[List.map_cons,yi,ih]
  simp[e4]
theorem Yh {ds:List Int}{rest:Int}{A:List Str}(X0 X1 X4 X5:Option En):∀(W:List RN) (a b:Option En),(∀r∈W,(∃t:Nat,r.1=t/\(r.2.length:Int)=atL ds rest t)/\(∀y∈r.2,y∈A)/\r.2.length<=100)->∃a' b':Option En,
  forD (.tup [7,8]) Zm (W.map rnD) [X0,X1,some (.val (.lst (ds.map D.int))),some (.val (.int rest)),X4,X5,some (.val (.lst (A.map D.str))),a,b]=some (.next [X0,X1,some (.val (.lst (ds.map D.int))),some (.val (.int rest)),X4,X5,some (.val (.lst (A.map D.str))),a',b'])
 | [],a,b,_=>⟨a,b,by simp⟩
 |r::W,a,b,h=>by
  obtain⟨⟨t,h1,h2⟩,h3,h4⟩:=h r (by simp)
  obtain⟨a',b',p⟩:=Yh X0 X1 X4 X5 W (some (.val (.int r.1))) (some (.val (.lst (r.2.map D.str)))) λu hu=>h u (by simp[hu])
  refine⟨a',b',?_⟩
  rw[<-p]
  have e1:=u4 ds rest t
  have e2:=Jv (A:=A) (e:=JG) r.2 h3
  have hT:r.2.length<=TOP:=by simp[TOP];omega
  try simp at e1
  try simp at e2
  simp[Zm,rnD,asgD,zI,h1,e1,e2,hT,h2]
theorem zb3 {q:SI}{W:List RN}{ds:List Int}{rest:Int}{n:Str}(hq:q.length<=1000)(hn:n∈nms q)(h:∀r∈W,(∃t:Nat,r.1=t/\(r.2.length:Int)=atL ds rest t)/\(∀y∈r.2,y∈(nms q).take ((nms q).idxOf n))/\r.2.length<=100) :
  wB [.val (.lst (q.map tkD)),.val (.lst (W.map rnD)),.val (.lst (ds.map D.int)),.val (.int rest),.val (.str n)]=some (.val (.bl true)):=by
 have hT:q.length<=TOP:=by simp[TOP];omega
 have hT2:(nms q).length<=TOP:=by unfold nms;rw[List.length_map];exact hT
 have e1:=Zt q
 have ee:V7=g2 fItem (gr 0) (gc (.int 0)):=rfl
 rw[<-ee] at e1
 have as:asSs ((nms q).map D.str)=some (nms q):=YM _
 have cut:cutD ((nms q).map D.str) none (some ((nms q).idxOf n:Int))=((nms q).take ((nms q).idxOf n)).map D.str:=by
  rw[kP (by omega),List.map_take];simp
 obtain⟨a',b',p⟩:=Yh (A:=(nms q).take ((nms q).idxOf n)) (some (.val (.lst (q.map tkD)))) (some (.val (.lst (W.map rnD)))) (some (.val (.str n))) (some (.val (.lst ((nms q).map D.str)))) W none none h
 have hT3:((nms q).map D.str).length<=TOP:=by rw[List.length_map];exact hT2
 have hTq:(q.map tkD).length<=TOP:=by rw[List.length_map];exact hT
 generalize ((nms q).take ((nms q).idxOf n)).map D.str=AA at cut p
 generalize (nms q).map D.str=XS at e1 as cut p hT3
 generalize q.map tkD=QQ at e1 p hTq ⊢
 generalize W.map rnD=WW at p ⊢
 generalize ds.map D.int=DD at p ⊢
 simp[wB,mir,stE,wu,ui,e1,hTq,hT3,as,hn,cut,p]
end My
namespace My
open PySem PySem.Spec L2 L3 L4 L6 Dv HM QM
open PyProof.Rows hiding St
theorem jB {s1 b:SD}{ρ ρ':EnvD}{r:Option Fl}(h:s1 ρ=some (.next ρ'))(k:b ρ'=r):sSeq s1 b ρ=r:=by
 unfold sSeq;rw[h];exact k
theorem zcz {g:EnvD->Option OT}{t:OT}{i:Nat}{b:SD}{ρ:EnvD}{r:Option Fl}(h:g ρ=some t)(k:b (ρ.set i (some (.tre t)))=r):sSeq (sSetT i g) b ρ=r:=by
 refine jB (ρ':=ρ.set i (some (.tre t))) ?_ k
 rw[Rv,h];rfl
def addX (r:Int×List Str):Int×List Str:=(r.1,r.2++[("a" : Str)])
theorem Jn {p:List Nat}{t:OT}:∀(pre tl:List OT),gets (pre++t::tl) pre.length p=t.get p
 | [],tl=>by simp[gets]
 |a::pre,tl=>by simp only[List.cons_append,List.length_cons,gets];exact Jn pre tl
theorem Vb {p:List Nat}{t u:OT}:∀(pre tl:List OT),puts (pre++t::tl) pre.length p u=pre++t.put p u::tl
 | [],tl=>by simp[puts]
 |a::pre,tl=>by simp only[List.cons_append,List.length_cons,puts];rw[Vb pre tl]
theorem YD:∀(rows:List (Int×List Str)) (pre:List OT),(∀r∈rows,r.2.length<=100)->mutN 1 yK [.str "a"] (.lst (pre++rows.map rnT)) pre.length rows.length=some (.lst (pre++(rows.map addX).map rnT))
 | [],pre,_=>by simp[mutN]
 |r::rows,pre,h=>by
  have hr:=h r List.mem_cons_self
  have hT:(r.2.map D.str).length<=TOP:=by simp[TOP];omega
  have ih:=YD rows (pre++[rnT (addX r)]) λu hu=>h u (List.mem_cons_of_mem _ hu)
  have g:(OT.lst (pre++(r::rows).map rnT)).get [pre.length,1]=some (.lst (lfs (r.2.map D.str))):=by
   show gets (pre++rnT r::rows.map rnT) pre.length [1]=_
   rw[Jn];simp[rnT,OT.get,gets]
  have pt:(OT.lst (pre++(r::rows).map rnT)).put [pre.length,1] (.lst (lfs (r.2.map D.str++[.str "a"])))=.lst ((pre++[rnT (addX r)])++rows.map rnT):=by
   rw[Wu]
   show OT.lst (puts (pre++rnT r::rows.map rnT) pre.length [1] _)=_
   rw[Vb,List.append_assoc]
   congr 2
   simp[rnT,addX,OT.put,puts,lfs]
  show (((OT.lst (pre++(r::rows).map rnT)).get [pre.length,1]).bind OT.leaf).bind _=_
  rw[g]
  show (OT.leaf (.lst (lfs (r.2.map D.str)))).bind _=_
  rw[Z0]
  show (yK (r.2.map D.str) [.str "a"]).bind _=_
  rw[zbv,if_pos hT]
  show mutN 1 yK [.str "a"] ((OT.lst (pre++(r::rows).map rnT)).put [pre.length,1] (.lst (lfs (r.2.map D.str++[.str "a"])))) (pre.length+1) rows.length=_
  rw[pt]
  have el:(pre++[rnT (addX r)]).length=pre.length+1:=by simp
  rw[el] at ih
  rw[ih]
  simp
theorem J3:∀W:List RN,(∀r∈W,r.2.length<=100)->compD (.tup [0,1]) tYes uE [none,none] (W.map rnD)=some (W.map rnD)
 | [],_=>by simp
 |r::W,h=>by
  have ih:=J3 W λu hu=>h u (by simp[hu])
  have hr:=h r (by simp)
  have hT:r.2.length<=TOP:=by simp[TOP];omega
  have t2:2<=TOP:=by decide
  simp only[List.map_cons,yi,ih]
  simp[rnD,uE,asgD,zI,hT,t2]
def rE (Q H b R n D1:D)(t:OT)(T:List D):EnvD:=[some (.val Q),some (.val H),some (.val b),some (.val R),some (.val n),some (.val D1),some (.tre t),some (.acc T),none]
theorem Ui (C:Addr){Q H n R b:D}{W:List RN}{T:List (Str×Int×Int)}(hW:∀r∈W,(∀y∈r.2,Ok y)/\r.2.length<=100)(hWl:W.length<=5000)(hTo:∀t∈T,Ok t.1)(hTl:T.length<=1000)
  (e1:yE [.val Q,.val R,.val n]=some (.acc (W.map rnD))) (e2:ye C [.val Q,.val H,.val b,.val n]=some (.tre (rowsT W)))
  (e3:y6 C [.val Q,.val H,.val b,.val n]=some (.acc (T.map tlD))) (e4:xE [.val Q,.val (.lst (W.map rnD))]=some (.acc (T.map tlD)))
  (e5:xg C [.val Q,.val H,.val b,.val n,.val (.lst (W.map rnD))]=some (.val (.bl true))) :
  xU C [.val Q,.val H,.val b,.val R,.val n]=some (.val (.bl true)):=by
 have er:=wk W
 have e6:=GY (W:=W) (λr hr=>(hW r hr).1)
 have e7:=Qg (neg:=true) hTo hTo
 have e8:=Qg (neg:=false) hTo hTo
 simp only[decide_true,Bool.not_true,if_true,Bool.false_eq_true,if_false] at e7 e8
 have e9:=J3 W λr hr=>(hW r hr).2
 have hT:(W.map rnD).length<=TOP:=by simp[TOP];omega
 have hT2:(T.map tlD).length<=TOP:=by simp[TOP];omega
 have mr:=YD W [] λr hr=>(hW r hr).2
 have sb:Dv.scal (.bl true)=true:=rfl
 simp only[List.nil_append,List.length_nil] at mr
 have s2:sAllT 6 8 1 yK [.str "a"] (rE Q H b R n (.lst (W.map rnD)) (rowsT W) (T.map tlD))=some (.next (rE Q H b R n (.lst (W.map rnD)) (rowsT (W.map addX)) (T.map tlD))):=by
  have mr:mutN 1 yK [.str "a"] (.lst (W.map rnT)) 0 (W.map rnT).length=some (.lst ((W.map addX).map rnT)):=by
   rw[List.length_map];exact mr
  show (if 8 < (rE Q H b R n (.lst (W.map rnD)) (rowsT W) (T.map tlD)).length then (mutN 1 yK [.str "a"] (.lst (W.map rnT)) 0 (W.map rnT).length).map _ else none)=_
  rw[if_pos (by show 8 < 9;decide),mr]
  rfl
 have s3:sClrT 6 (rE Q H b R n (.lst (W.map rnD)) (rowsT (W.map addX)) (T.map tlD))=some (.next (rE Q H b R n (.lst (W.map rnD)) (.lst []) (T.map tlD))):=rfl
 have key:jQ C [some (.val Q),some (.val H),some (.val b),some (.val R),some (.val n),none,none,none,none]=some (.ret (.val (.bl true))):=by
  generalize rowsT (W.map addX)=W2 at s2 s3
  generalize hWd:W.map rnD=WW at *
  generalize hTd:T.map tlD=TT at *
  generalize hWt:rowsT W=WT0 at *
  unfold jQ
  refine yj (d:=.lst WW) (by simp[e1]) ?_
  refine zcz (t:=WT0) (by simp[e2]) ?_
  refine zb7 (ds:=TT) (by simp[e3]) ?_
  refine x5 (by simp[er,e6,scaO,sb,sLL,e4,e7]) ?_
  refine x5 (by simp[er,e5,scaO,sb]) ?_
  refine jB (ρ':=rE Q H b R n (.lst WW) W2 TT) s2 ?_
  refine jB s3 ?_
  refine jB (ρ':=rE Q H b R n (.lst WW) (.lst []) (TT++[.tup [.str "a",.int 1,.int 1]])) (by simp[rE,hT2,t3]) ?_
  refine x5 (by simp[rE,hT,e9,e5]) ?_
  simp[rE,e3,e4,e8]
 simp[xU,mir,stE,vW,key]
theorem YA:∀T:List (Str×Int×Int),compD (.name 0) tYes uC [none] (T.map tlD)=some ((T.map (·.2.1)).map D.int)
 | []=>by simp
 |t::T=>by
  have ih:=YA T
  have i1:fItem (tlD t) (.int 1)=some (.int t.2.1):=by simp[tlD]
  simp only[List.map_cons,yi,ih]
  simp[uC,i1]
theorem YX {ds:List Int}{rest:Int}{f:Int->Int}:∀W:List RN,(∀r∈W,∃t:Nat,r.1=t/\f r.1=atL ds rest t)->compD (.tup [0,1]) tYes qU [none,none,some (.val (.lst (ds.map D.int))),some (.val (.int rest))] (W.map rnD)=some ((W.map λr=>f r.1).map D.int)
 | [],_=>by simp
 |r::W,h=>by
  have ih:=YX (f:=f) W λu hu=>h u (by simp[hu])
  obtain⟨t,h1,h2⟩:=h r (by simp)
  have e1:=u4 ds rest t
  simp only[List.map_cons,yi,ih]
  rw[h2]
  simp[rnD,qU,asgD,zI,h1,e1]
theorem G4 (C:Addr){q:SI}{H:D}{n:Str}{b rest L:Int}{ds:List Int}{out W:List RN}{T:List (Str×Int×Int)}{f:Int->Int}(nd:(nms q).Nodup)(hn:n∈nms q)(hq:q.length<=100)(hWl:W.length<=5000)(hO:out.length<=5000)(hTl:T.length<=1000)
  (e1:yE [.val (.lst (q.map tkD)),.val (.lst (out.map rnD)),.val (.str n)]=some (.acc (W.map rnD)))
  (hne:zo n out≠[]) (hM:maxI (zo n out)=L) (hL:L=b+val q n+W.length - 1)
  (e2:ye C [.val (.lst (q.map tkD)),.val H,.val (.int b),.val (.str n)]=some (.tre (rowsT W)))
  (e3:y6 C [.val (.lst (q.map tkD)),.val H,.val (.int b),.val (.str n)]=some (.acc (T.map tlD)))
  (hs:(T.map (·.2.1)).sum=(W.map λr=>f r.1).sum) (ha:∀r∈W,∃t:Nat,r.1=t/\f r.1=atL ds rest t)
  (e4:wB [.val (.lst (q.map tkD)),.val (.lst (W.map rnD)),.val (.lst (ds.map D.int)),.val (.int rest),.val (.str n)]=some (.val (.bl true))) :
  xn C [.val (.lst (q.map tkD)),.val H,.val (.int b),.val (.lst (out.map rnD)),.val (.str n),.val (.lst (ds.map D.int)),.val (.int rest)]=some (.val (.bl true)):=by
 have er:=wk W
 have c1:=u9 n out
 have ee:J0=gv 0:=rfl
 rw[<-ee] at c1
 have ei:=vO (zo n out)
 have hSe:(zo n out).isEmpty=false:=by cases h:zo n out with | nil=>exact (hne h).elim | cons=>rfl
 have c2:=YA T
 have c3:=YX (ds:=ds) (rest:=rest) (f:=f) W ha
 have i2:=vO (T.map (·.2.1))
 have i3:=vO (W.map λr=>f r.1)
 have dk:=jk q
 have dm:mergeD [] (kv q)=kv (mergeS [] q):=jl q []
 rw[qW nd] at dm
 have hk:=xD n q
 rw[Vv nd hn] at hk
 have hT1:(out.map rnD).length<=TOP:=by simp[TOP];omega
 have hT2:(T.map tlD).length<=TOP:=by simp[TOP];omega
 have hT3:(W.map rnD).length<=TOP:=by simp[TOP];omega
 have hWlen:(W.map rnD).length=W.length:=List.length_map _
 have eqL:∀v:Int,fEq true (.int v) (.int v)=some (.bl false):=λv=>by
  have:=wF (neg:=true) (x:=.int v) (y:=.int v) ud ud (by decide) (by decide) (wf v v)
  simpa using this
 have e5:=eqL (b+val q n+W.length - 1)
 have e6:=eqL (W.map λr=>f r.1).sum
 have key:j6 C [some (.val (.lst (q.map tkD))),some (.val H),some (.val (.int b)),some (.val (.lst (out.map rnD))),some (.val (.str n)),some (.val (.lst (ds.map D.int))),some (.val (.int rest)),none,none,none]=some (.ret (.val (.bl true))):=by
  generalize W.map rnD=WW at *
  generalize T.map tlD=TT at *
  generalize rowsT W=WT0 at *
  generalize ds.map D.int=DD at *
  generalize out.map rnD=OO at *
  generalize (zo n out).map D.int=ZZ at *
  generalize (T.map (·.2.1)).map D.int=UU at *
  generalize (W.map λr=>f r.1).map D.int=VV at *
  generalize q.map tkD=QQ at *
  unfold j6
  refine yj (d:=.lst WW) (by simp[e1]) ?_
  refine yj (d:=.int L) (by simp[hT1,capE,capO,c1,ei,hSe,hne,hM]) ?_
  refine x5 (by
   try simp at hk
   simp[dk,dm,hk,hT3,hWlen,hL,e5]) ?_
  refine yj (d:=.int (W.map λr=>f r.1).sum) (by simp[e3,hT2,c2,i2,hs]) ?_
  refine x5 (by simp[hT3,capE,capO,c3,i3,e6]) ?_
  simp[e2,er,e4]
 simp[xn,mir,stE,xh,key]
structure Q8 (q:SI):Prop where
 tk:∀t∈q,TkOk t
 nd:(nms q).Nodup
 len:q.length<=60
 pos:1<=q.length
theorem turns_in {y:Str}{W:List RN}{v:Int}:v∈zo y W↔∃r∈W,y∈r.2/\r.1=v:=by
 unfold zo
 rw[List.mem_map]
 constructor
 ·rintro ⟨r,hr,e⟩
  obtain⟨h1,h2⟩:=List.mem_filter.mp hr
  exact⟨r,h1,by simpa using h2,e⟩
 ·rintro ⟨r,h1,h2,e⟩
  exact⟨r,List.mem_filter.mpr ⟨h1,by simpa using h2⟩,e⟩
theorem both (C:Addr){q:SI}{rs:List HM.Row}{rest:Int}(F:Fit rs rest)(hg:∀r∈rs,GoodR r)(hQ:Q8 q){b:Nat}{out:List RN}(o2:out.length<=3000)(hR:Run (atR rest (krows rest rs)) (b:Int) q out)
  (hf:∀t:Nat,atR rest (krows rest rs) (t:Int)=atL (daysL rs) rest t) {n:Str} (hn:n∈nms q) :
  xU C [.val (.lst (q.map tkD)),.val (hoursD C rest (krows rest rs)),.val (.int (b:Int)),.val (.lst (out.map rnD)),.val (.str n)]=some (.val (.bl true)) /\
  xn C [.val (.lst (q.map tkD)),.val (hoursD C rest (krows rest rs)),.val (.int (b:Int)),.val (.lst (out.map rnD)),.val (.str n),.val (.lst ((daysL rs).map D.int)),.val (.int rest)]=some (.val (.bl true)):=by
 have hp:PosQ q:=λt ht=>(hQ.tk t ht).2.1
 have nam:∀t∈q,NameOk t.1:=λt ht=>(hQ.tk t ht).1
 have ok:∀t∈q,Ok t.1:=λt ht=>(nam t ht).ok
 have okn:∀x∈nms q,Ok x:=λx hx=>by obtain⟨t,ht,rfl⟩:=List.mem_map.mp hx;exact ok t ht
 have hnN:NameOk n:=by obtain⟨t,ht,rfl⟩:=List.mem_map.mp hn;exact nam t ht
 have hl:=hQ.len
 have nd:=hQ.nd
 have hsum:sumQ q<=1200:=by
  have:=QD (n:=60) (b:=20) q hl λt ht=>(hQ.tk t ht).2.2
  have e:(20:Int).toNat=20:=rfl
  rw[e] at this
  omega
 obtain⟨out',p1,p2,p3,p4⟩:=QY C F.hok (b0:=(b:Int)) (by omega) hp ok hl hsum
 have ed:=JS p2 hR
 subst ed
 obtain⟨L,hA,hB,hL⟩:=u5 p2 nd hp hn
 have hend:lookS (endsS [] out') n=some L:=by
  obtain⟨r,hr,hnr,e⟩:=hA
  obtain⟨L',h1,h2⟩:=Gm p2 hr hnr []
  rw[h1]
  rcases uM out' [] n L' h1 with z | ⟨r2,g1,g2,g3⟩
  ·simp[lookS] at z
  ·have:=hB r2 g1 g2
   congr 1;omega
 have dr:=uD p2 nd hp hA hB
 have w1:=KY C p1 p3 p4
 have w2:=zad C ok hnN hn w1 hend
 have w3:=zbe C p3 w2 p4
 have w4:=UM C p3 w3
 have df:=Zb p2 nd hp hn
 have e1:=Rl nd (by omega) hn p3
 rw[dr] at e1 df hL
 have hW:∀r∈waitsL n L out',(∀y∈r.2,Ok y)/\r.2.length<=100:=λr hr=>p1 r (qg hr)
 have hWl:(waitsL n L out').length<=5000:=by
  have h1:(waitsL n L out').length<=(rowsTo L out').length:=by unfold waitsL;exact List.length_filter_le _ _
  have h2:=JI L out'
  omega
 have hs:=zbr p2 n L
 have t1:=R9 C hs hWl (λr hr=>(hW r hr).2) (by omega) w4
 have t2:=Gb hWl (q:=q) (by omega)
 have sw:=UZ C (S:=waitsL n L out') (λr hr=>(p1 r hr).1) w4 (λr hr=>(hW r hr).1)
 simp only[decide_true] at sw
 have hTl:(tollsL (nms q) (waitsL n L out')).length<=1000:=by
  have:=zco (waitsL n L out') (nms q)
  have e:(nms q).length=q.length:=List.length_map _
  omega
 have hTo:∀t∈tollsL (nms q) (waitsL n L out'),Ok t.1:=λt ht=>okn _ (Go ht)
 have hat:∀r∈waitsL n L out',∃t:Nat,r.1=t/\atR rest (krows rest rs) r.1=atL (daysL rs) rest t:=λr hr=>by
  have h1:=(vR p2 r (qg hr)).1
  refine⟨r.1.toNat,by omega,?_⟩
  have e:((r.1.toNat:Nat):Int)=r.1:=by omega
  have:=hf r.1.toNat
  rw[e] at this;exact this
 have hlen:∀r∈waitsL n L out',(r.2.length:Int)=atR rest (krows rest rs) r.1:=λr hr=>by
  have h1:=(df r hr).1
  have h2:=F.hok.nn r.1
  omega
 refine⟨Ui C hW hWl hTo hTl e1 w4 t1 t2 sw,?_⟩
 refine G4 C (L:=L) (f:=atR rest (krows rest rs)) nd hn (by omega) hWl p3 hTl e1 (λz=>?_) ?_ hL w4 t1 ?_ hat (zb3 (by omega) hn λr hr=>⟨?_,λy hy=>Qv ((df r hr).2 y hy) nd,(hW r hr).2⟩)
 ·obtain⟨r,hr,hnr,e⟩:=hA
  have:L∈zo n out':=turns_in.mpr ⟨r,hr,hnr,e⟩
  rw[z] at this;cases this
 ·have hmem:L∈zo n out':=turns_in.mpr hA
  obtain⟨g1,g2⟩:=jr (ns:=zo n out') (λz=>by rw[z] at hmem;cases hmem)
  have h1:=g2 L hmem
  obtain⟨r,hr,hnr,e⟩:=turns_in.mp g1
  have h2:=hB r hr hnr
  omega
 ·rw[J2,Vm nd _ λr hr=>Wm p2 r (qg hr)]
  exact VN _ hlen
 ·obtain⟨t,a1,a2⟩:=hat r hr
  exact⟨t,a1,by rw[hlen r hr,a2]⟩
theorem WM:∀(xs:List Str) (vs:List Int),xs.length=vs.length->compD (.tup [0,1]) tYes jn [none,none] (zipD (xs.map D.str) (vs.map D.int))=some ((xs.zip (vs.map λv=>1+v)).map tkD)
 | [],[],_=>by simp[compD,zipD]
 | [],_::_,h=>by simp at h
 |_::_,[],h=>by simp at h
 |x::xs,v::vs,h=>by
  have ih:=WM xs vs (by simpa using h)
  simp[compD,zipD,asgD,zI,jn,tkD] at ih ⊢
  have t2:2<=TOP:=by decide
  simp[ih,t2]
theorem Qf (ns:List Int)(many:Nat)(most:Int)(h1:1<=many)(h2:many<=60)(h3:1<=most)(h4:most<=20)(c:Int):∃(q:SI) (xs:List Str) (vs:List Int),Q8 q/\yo [.val (.scr ns),.val (.int 2),.val (.int most),.val (.int many)]=some (.acc (vs.map D.int)) /\
  xR [.val (.int c),.val (.int many)]=some (.acc (xs.map D.str))/\(zipD (xs.map D.str) (vs.map D.int)).length<=TOP/\compD (.tup [0,1]) tYes jn [none,none] (zipD (xs.map D.str) (vs.map D.int))=some (q.map tkD):=by
 obtain⟨xs,x1,x2,x3,x4⟩:=RZ c many (by omega)
 obtain⟨vs,v1,v2,v3⟩:=qC ns 2 most many (by omega) (by omega) (by omega)
 have qc:=WM xs vs (by rw[x3,v2])
 have hz:(zipD (xs.map D.str) (vs.map D.int)).length<=TOP:=by rw[qM];simp[TOP,x3,v2];omega
 have hnm:nms (xs.zip (vs.map λv=>1+v))=xs:=List.map_fst_zip (by simp[x3,v2])
 refine⟨_,xs,vs,⟨λt ht=>?_,by rw[hnm];exact x2,by simp[x3,v2];omega,by simp[x3,v2];omega⟩,v3,x4,hz,qc⟩
 obtain⟨g3,g4⟩:=List.of_mem_zip (a:=t.1) (b:=t.2) ht
 obtain⟨v,hv,e⟩:=List.mem_map.mp g4
 have:=v1 v hv
 exact⟨x1 _ g3,by omega,by omega⟩
theorem zcu (ns:List Int):∃q:SI,Q8 q/\wr [.val (.scr ns)]=some (.acc (q.map tkD)):=by
 have c1:=wI ns 1
 have c3:=wI ns 3
 obtain⟨us,u1,u2,u3⟩:=qC ns 1 88 1 (by omega) (by omega) (by omega)
 match us,u2 with
 | [z],_=>
  have hz:=u1 z (by simp)
  generalize ns.getD 1 0=w1 at *
  generalize ns.getD 3 0=w3 at *
  by_cases hc:z / 11=7
  ·obtain⟨many,hm⟩:∃many:Nat,11+w1 / 88 % 50=(many:Int):=⟨(11+w1 / 88 % 50).toNat,by omega⟩
   obtain⟨q,xs,vs,hQ,a1,a2,a3,a4⟩:=Qf ns many 3 (by omega) (by omega) (by omega) (by omega) w3
   refine⟨q,hQ,?_⟩
   generalize xs.map D.str=XS at *
   generalize vs.map D.int=VS at *
   generalize q.map tkD=QQ at *
   have a0:atI [D.int z] 0=some (D.int z):=rfl
   simp at u3 c1 c3
   simp[wr,mir,stE,wT,qo,u3,a0,zM,yg,hc,c1,c3,hm,a1,a2,a3,a4]
  ·obtain⟨many,hm⟩:∃many:Nat,1+z % 10=(many:Int):=⟨(1+z % 10).toNat,by omega⟩
   obtain⟨q,xs,vs,hQ,a1,a2,a3,a4⟩:=Qf ns many 20 (by omega) (by omega) (by omega) (by omega) w3
   refine⟨q,hQ,?_⟩
   generalize xs.map D.str=XS at *
   generalize vs.map D.int=VS at *
   generalize q.map tkD=QQ at *
   have a0:atI [D.int z] 0=some (D.int z):=rfl
   simp at u3 c1 c3
   simp[wr,mir,stE,wT,qo,u3,a0,zM,yg,hc,c1,c3,hm,a1,a2,a3,a4]
theorem RB {l:List Nat}{k:Int}(h1:0<=k):Txt.slice (mk l) none (some k)=mk (l.take k.toNat):=by
 by_cases h:k<=l.length
 ·exact WR h1 h
 ·have e:Txt.slice (mk l) none (some k)=Txt.slice (mk l) none (some (l.length:Int)):=by
   have e2:Builtin.Str.strSliceIndices none (some k) 1 (mk l).length=Builtin.Str.strSliceIndices none (some (l.length:Int)) 1 (mk l).length:=by
    rw[xO]
    have a1:¬k < 0:=by omega
    have a2:¬(l.length:Int) < 0:=by omega
    have a3:min k (l.length:Int)=(l.length:Int):=by omega
    simp[Builtin.Str.strSliceIndices,a1,a2,a3]
   unfold Txt.slice
   rw[e2]
  rw[e,WR (by omega) (by omega)]
  congr 1
  rw[List.take_of_length_le (by omega),List.take_of_length_le (by omega)]
theorem zdv:("0" : Str)=mk [48]:=by decide +kernel
theorem zc2 {x:Str}(h:NameOk x):x.length<=TOP/\(Txt.slice x none (some 7)).length+("0" : Str).length<=TOP/\NameOk (Txt.slice x none (some 7)++("0" : Str)):=by
 obtain⟨c,cs,rfl,h1,h2,h3⟩:=h
 rw[RB (by omega),zdv,Vg]
 refine⟨by rw[xO];simp[TOP];omega,by rw[xO,xO];simp[TOP];omega,c,cs.take 6++[48],?_,h1,λd hd=>?_,?_⟩
 ·rfl
 ·rcases List.mem_append.mp hd with z | z
  ·exact h2 d (List.mem_of_mem_take z)
  ·rw[List.mem_singleton.mp z];decide
 ·simp;omega
theorem uQ {t:Tgt}{s:SD}{I:EnvD->Prop}:∀(ds:List D),(∀d∈ds,∀ρ,I ρ->∃ρ1 ρ2,asgD t d ρ=some ρ1/\s ρ1=some (.next ρ2)/\I ρ2)->∀ρ,I ρ->∃ρ',forD t s ds ρ=some (.next ρ')/\I ρ'
 | [],_,ρ,h=>⟨ρ,rfl,h⟩
 |d::ds,hs,ρ,h=>by
  obtain⟨ρ1,ρ2,h1,h2,h3⟩:=hs d List.mem_cons_self ρ h
  obtain⟨ρ',h4,h5⟩:=uQ ds (λe he=>hs e (List.mem_cons_of_mem _ he)) ρ2 h3
  refine⟨ρ',?_,h5⟩
  show ((asgD t d ρ).bind λρ1=>(s ρ1).bind λfl=>_)=_
  rw[h1]
  show ((s ρ1).bind λfl=>_)=_
  rw[h2]
  exact h4
theorem Jg:∀vs:List Int,compD (.name 0) tYes Z8 [none] (vs.map D.int)=some ((vs.map λv=>((1+v % 9,v / 9):HM.Row)).map rowD)
 | []=>by simp
 |v::vs=>by
  have ih:=Jg vs
  have t2:2<=TOP:=by decide
  simp only[List.map_cons,yi,ih]
  simp[Z8,zM,yg,rowD,t2]
theorem YE (rest:Int):∀rs:List HM.Row,(∀r∈rs,GoodR r)->∀t:Nat,atR rest rs (t:Int)=atL (daysL rs) rest t
 | [],_,t=>by simp[atR,atL,daysL]
 |r::rs,h,t=>by
  have hr:=h r List.mem_cons_self
  unfold GoodR at hr
  have ih:=YE rest rs (λx hx=>h x (List.mem_cons_of_mem _ hx)) (t - r.1.toNat)
  unfold atL at ih ⊢
  simp only[daysL,atR]
  rw[List.getD_eq_getElem?_getD] at ih ⊢
  by_cases c:t < r.1.toNat
  ·have c':(t:Int) < r.1:=by omega
   rw[if_pos c',List.getElem?_append_left (by simpa using c)]
   simp[List.getElem?_replicate,c]
  ·have c':¬(t:Int) < r.1:=by omega
   rw[if_neg c',List.getElem?_append_right (by simpa using c),List.length_replicate,<-ih]
   congr 1
   omega
def lE (ns:List Int)(Q R DY:List D)(rest:Int)(H:D)(b:Int)(O:List D)(a8 a9 a10 a11 a12:Option En):EnvD :=
 [some (.val (.scr ns)),some (.val (.lst Q)),some (.val (.lst R)),some (.val (.lst DY)),some (.val (.int rest)),some (.val H),some (.val (.int b)),some (.val (.lst O)),a8,a9,a10,a11,a12]
section
variable (C:Addr){ns:List Int}{Q R DY O:List D}{rest b p:Int}{H:D}{n:Str}
theorem zde {d:D}(ea:atI Q p=some d)(ei:fItem d (.int 0)=some (.str n))(e1:xU C [.val (.lst Q),.val H,.val (.int b),.val (.lst O),.val (.str n)]=some (.val (.bl true)))
  (e2:xn C [.val (.lst Q),.val H,.val (.int b),.val (.lst O),.val (.str n),.val (.lst DY),.val (.int rest)]=some (.val (.bl true))) (a10 a11 a12:Option En) :
  jW C (lE ns Q R DY rest H b O (some (.val (.lst Q))) (some (.val (.int p))) a10 a11 a12)=some (.next (lE ns Q R DY rest H b O (some (.val (.lst Q))) (some (.val (.int p))) (some (.val (.str n))) a11 a12)):=by
 simp[jW,lE,ea,ei,e1,e2]
theorem ze7 {k:Int}{far:Str}(e1:yA [.val (.lst Q),.val H,.val (.int b),.val (.str far),.val (.int k)]=some (.val (.bl true)))(a9 a10:Option En) :
  wX (lE ns Q R DY rest H b O (some (.val (.lst Q))) a9 a10 (some (.val (.str far))) (some (.val (.int k))))=some (.next (lE ns Q R DY rest H b O (some (.val (.lst Q))) a9 a10 (some (.val (.str far))) (some (.val (.int k))))):=by
 simp[wX,lE,e1]
end
theorem Q1 (C:Addr)(ns:List Int)(hl:ns.length<=63):Rh C [.val (.scr ns)]=some (.val (.bl true)):=by
 have c5:=wI ns 5
 have c6:=wI ns 6
 generalize ns.getD 5 0=w5 at *
 generalize ns.getD 6 0=w6 at *
 obtain⟨q,hQ,eq0⟩:=zcu ns
 obtain⟨us,u1,u2,u3⟩:=qC ns 4 81 (w5 % 7).toNat (by omega) (by omega) (by omega)
 have en:(((w5 % 7).toNat:Nat):Int)=w5 % 7:=by omega
 rw[en] at u3
 obtain⟨rs,hrd⟩:∃rs:List HM.Row,(us.map λv=>((1+v % 9,v / 9):HM.Row))=rs:=⟨_,rfl⟩
 have hrs:∀r∈rs,(1<=r.1/\r.1<=9)/\0<=r.2/\r.2<=8:=λr hr=>by
  rw[<-hrd] at hr
  obtain⟨v,hv,rfl⟩:=List.mem_map.mp hr
  have:=u1 v hv
  refine⟨⟨?_,?_⟩,?_,?_⟩<;>simp only<;>omega
 have hrl:rs.length<=6:=by rw[<-hrd];simp[u2];omega
 obtain⟨rest,hrest⟩:∃rest:Int,1+w5 / 7 % 8=rest:=⟨_,rfl⟩
 have F:Fit rs rest:=⟨λr hr=>by have:=hrs r hr;exact⟨⟨by omega,by omega⟩,by omega,by omega⟩,by omega,by omega,by omega⟩
 have hg:∀r∈rs,GoodR r:=λr hr=>by have:=hrs r hr;exact⟨by omega,by omega,by omega⟩
 obtain⟨b,hb⟩:∃b:Nat,(if w6 % 2=1 then w6 / 2 % 100000 else w6 / 2 % 60)=(b:Int):=⟨(if w6 % 2=1 then w6 / 2 % 100000 else w6 / 2 % 60).toNat,by split<;>omega⟩
 have ed:=zbx hg (by omega)
 have hf:∀t:Nat,atR rest (krows rest rs) (t:Int)=atL (daysL rs) rest t:=λt=>by
  rw[F.at];exact YE rest rs hg t
 obtain⟨out,o1,o2,o3,o4⟩:=Q7 (VH rs hg) F.lo (by have:=WY rs hg;omega) hQ.tk hQ.nd hQ.len hf b
 have ei:=zcy C F.good F.len F.lo F.hi F.pos
 have bo:=fun {n:Str} (hn:n∈nms q)=>both C F hg hQ o2 o3 hf hn
 have rc:=Jg us
 rw[hrd] at rc
 have hus:us.length<=TOP:=by simp[TOP];omega
 have hql:=hQ.len
 have hqp:=hQ.pos
 have hqT:q.length<=TOP:=by simp[TOP];omega
 obtain⟨vs,v1,v2,v3⟩:=qC ns 7 (q.length:Int) (min 4 q.length) (by omega) (by omega) (by omega)
 have okq:∀t∈q,Ok t.1:=λt ht=>(hQ.tk t ht).1.ok
 have eqq:=Ks (neg:=false) okq okq
 simp only[decide_true,Bool.false_eq_true,if_false] at eqq
 obtain⟨t0,e0,e0'⟩:=jt (xs:=q) (a:=0) (by omega) (by omega)
 have ht0:t0∈q:=Yp e0
 have ea0:atI (q.map tkD) 0=some (tkD t0):=by rw[J4,e0];rfl
 have i0:fItem (tkD t0) (.int 0)=some (.str t0.1):=by simp[tkD]
 obtain⟨f1,f2,f3⟩:=zc2 (hQ.tk t0 ht0).1
 generalize hfar:Txt.slice t0.1 none (some 7)++("0" : Str)=far at *
 have refE:=λk:Nat=>ZV (q:=[]) (b0:=(b:Int)) (H:=hoursD C rest (krows rest rs)) (by simp) f3 (by simp[nms]) k
 have cf:=Zt q
 have ee:Yi=g2 fItem (gr 0) (gc (.int 0)):=rfl
 rw[<-ee] at cf
 have fin:fIn true (.str far) (.lst ((nms q).map D.str))=some (.bl (!decide (far∈nms q))):=wn
 have refQ:=λ(h:far∉nms q) (k:Nat)=>ZV (b0:=(b:Int)) (H:=hoursD C rest (krows rest rs)) okq f3 h k
 have places:∀p∈((0:Int)::((q.length:Int) - 1)::vs),0<=p/\p < q.length:=λp hp=>by
  rcases List.mem_cons.mp hp with rfl | hp
  ·omega
  ·rcases List.mem_cons.mp hp with rfl | hp
   ·omega
   ·exact v1 p hp
 have hvl:vs.length<=4:=by omega
 obtain⟨ρ1,g1,x9,x10,i1⟩:=uQ (t:=.name 9) (s:=jW C) (I:=λρ=>∃x9 x10:Option En,ρ=lE ns (q.map tkD) (rs.map rowD) ((daysL rs).map D.int) rest (hoursD C rest (krows rest rs)) (b:Int) (out.map rnD) (some (.val (.lst (q.map tkD)))) x9 x10 none none) (((0:Int)::((q.length:Int) - 1)::vs).map D.int) (λd hd ρ hi=>by
  obtain⟨p,hp,rfl⟩:=List.mem_map.mp hd
  obtain⟨x9,x10,rfl⟩:=hi
  obtain⟨h1,h2⟩:=places p hp
  obtain⟨t,et,_⟩:=jt (xs:=q) (a:=p) h1 h2
  have ht:t∈q:=Yp et
  have hn:t.1∈nms q:=List.mem_map.mpr ⟨t,ht,rfl⟩
  have ea:atI (q.map tkD) p=some (tkD t):=by rw[J4,et];rfl
  obtain⟨k1,k2⟩:=bo hn
  exact⟨_,_,rfl,zde C ea (by simp[tkD]) k1 k2 x10 none none,_,_,rfl⟩) (lE ns (q.map tkD) (rs.map rowD) ((daysL rs).map D.int) rest (hoursD C rest (krows rest rs)) (b:Int) (out.map rnD) (some (.val (.lst (q.map tkD)))) none none none none) ⟨_,_,rfl⟩
 subst i1
 have loop3:far∉nms q->∃x12:Option En,forD (.name 12) wX (rngD 0 3) (lE ns (q.map tkD) (rs.map rowD) ((daysL rs).map D.int) rest (hoursD C rest (krows rest rs)) (b:Int) (out.map rnD) (some (.val (.lst (q.map tkD)))) x9 x10 (some (.val (.str far))) none)=some (.next (lE ns (q.map tkD) (rs.map rowD) ((daysL rs).map D.int) rest (hoursD C rest (krows rest rs)) (b:Int) (out.map rnD) (some (.val (.lst (q.map tkD)))) x9 x10 (some (.val (.str far))) x12)):=λhno=>by
  obtain⟨ρ2,g2',x12,i2⟩:=uQ (t:=.name 12) (s:=wX) (I:=λρ=>∃x12:Option En,ρ=lE ns (q.map tkD) (rs.map rowD) ((daysL rs).map D.int) rest (hoursD C rest (krows rest rs)) (b:Int) (out.map rnD) (some (.val (.lst (q.map tkD)))) x9 x10 (some (.val (.str far))) x12) (rngD 0 3) (λd hd ρ hi=>by
   rw[y3] at hd
   obtain⟨k,_,rfl⟩:=List.mem_map.mp hd
   obtain⟨x12,rfl⟩:=hi
   have e:=refQ hno k
   have ek:(0:Int)+(k:Int)=(k:Int):=by omega
   rw[ek]
   exact⟨_,_,rfl,ze7 e x9 x10,_,rfl⟩) _ ⟨none,rfl⟩
  subst i2
  exact⟨x12,g2'⟩
 have tail:Zc C (lE ns (q.map tkD) (rs.map rowD) ((daysL rs).map D.int) rest (hoursD C rest (krows rest rs)) (b:Int) [] none none none none none |>.set 7 none)=some (.ret (.val (.bl true))):=by
  have hQT:(q.map tkD).length<=TOP:=by simpa using hqT
  have hQl:((q.map tkD).length:Int)=(q.length:Int):=by simp
  have hcat:2+(vs.map D.int).length<=TOP:=by simp[TOP];omega
  have t2:2<=TOP:=by decide
  have hmin:((min 4 q.length:Nat):Int)=min 4 (q.length:Int):=by omega
  rw[hmin] at v3
  have hB3:-BIG<=(3:Int)/\(3:Int)<=BIG:=by unfold BIG;omega
  have refE0:yA [.val (.lst (([]:SI).map tkD)),.val (hoursD C rest (krows rest rs)),.val (.int (b:Int)),.val (.str far),.val (.int 0)]=some (.val (.bl true)):=refE 0
  have v3:yo [.val (.scr ns),.val (.int 7),.val (.int (q.length:Int)),.val (.int (min 4 (q.length:Int)))]=some (.acc (vs.map D.int)):=v3
  have hpl:((0:Int)::((q.length:Int) - 1)::vs).map D.int=[D.int 0,D.int ((q.length:Int) - 1)]++vs.map D.int:=rfl
  rw[hpl] at g1
  simp only[List.map_nil] at refE0
  generalize hoursD C rest (krows rest rs)=HH at *
  generalize out.map rnD=OO at *
  generalize (daysL rs).map D.int=DD at *
  generalize rs.map rowD=RR at *
  generalize vs.map D.int=VV at *
  generalize hXS:(nms q).map D.str=XS at *
  generalize q.map tkD=QQ at *
  unfold Zc
  refine yj (d:=.lst OO) (by simp[lE,o4]) ?_
  refine yj (d:=.lst QQ) (by simp[lE,hQT]) ?_
  refine QC (ds:=[D.int 0,D.int ((q.length:Int) - 1)]++VV) (ρ':=lE ns QQ RR DD rest HH (b:Int) OO (some (.val (.lst QQ))) x9 x10 none none) (by
   simp[lE,hQT,hQl,t2,v3,hcat]) g1 ?_
  refine yj (d:=.str far) (by simp[lE,ea0,i0,f1,f2,hfar]) ?_
  by_cases hno:far∈nms q
  ·refine x5 (by simp[lE,hQT,cf,fin,hno]) ?_
   simp[lE,eqq,refE0]
  ·obtain⟨x12,l3⟩:=loop3 hno
   refine VJ (ρ':=lE ns QQ RR DD rest HH (b:Int) OO (some (.val (.lst QQ))) x9 x10 (some (.val (.str far))) x12) (by simp[lE,hQT,cf,fin,hno]) ?_ ?_
   ·simp[lE,hB3] at l3 ⊢
    exact l3
   ·simp[lE,eqq,refE0]
 have g:vV C [some (.val (.scr ns)),none,none,none,none,none,none,none,none,none,none,none,none]=some (.ret (.val (.bl true))):=by
  have hRR:(us.map D.int).length<=TOP:=by simpa using hus
  have pw:fPow (.int 10) (.int 5)=some (.int 100000):=by rw[zdd];simp
  unfold hoursD at tail
  clear g1 loop3 bo o4 o1
  generalize (spans 0 (krows rest rs)).map spanD=SS at *
  generalize (daysL rs).map D.int=DD at *
  generalize rs.map rowD=RR at *
  generalize us.map D.int=UU at *
  generalize q.map tkD=QQ at *
  unfold vV
  simp at c5 c6 u3
  refine yj (d:=.lst QQ) (by simp[eq0]) ?_
  refine yj (d:=.lst RR) (by simp[c5,zM,u3,rc,hRR]) ?_
  refine yj (d:=.lst DD) (by simp[ed]) ?_
  refine yj (d:=.int rest) (by simp[c5,zM,yg,hrest]) ?_
  refine yj (d:=.obj C FS [.int rest,.lst SS]) (by simp[ei]) ?_
  refine yj (d:=.int (w6 / 2 % 60)) (by simp[c6,zM,yg]) ?_
  by_cases h2:w6 % 2=1
  ·rw[if_pos h2] at hb
   refine VJ (ρ':=_) (by simp[c6,zM,h2]) (show sSet 6 _ _=_ from by simp[c6,zM,yg,pw,hb];rfl) ?_
   simp[lE] at tail ⊢
   exact tail
  ·rw[if_neg h2] at hb
   refine x5 (by simp[c6,zM,h2]) ?_
   simp[lE,hb] at tail ⊢
   exact tail
 show outO (vV C [some (.val (.scr ns)),none,none,none,none,none,none,none,none,none,none,none,none])=_
 rw[g];rfl
end My
namespace My
open PySem PySem.Spec L2 L3 L4 L6 Dv
open PyProof.Rows hiding St
def spOut (K:PySem.W.Frag):Sp:=λvs H Q _=>∃(a:Addr) (ns:List Int),vs=[.ref a]/\SqL K H a (ns.map V.int)/\ns.length<=63/\∀H',Q (.bl true) H'
theorem zei {P:Program}{w:World}{K:PySem.W.Frag}{mg:Str->Option Value}{base:Heap}{k:Nat}{f:Addr}{fd:FuncData}{ps:List Str}{m:List En->Option En}(h:FnOk P w K mg base CX0 k f fd ps (pSp ⟨K,w⟩ 1 (len? 1 m)))
  (hm:∀ns:List Int,ns.length<=63->m [.val (.scr ns)]=some (.val (.bl true))):FnOk P w K mg base CX0 k f fd ps (spOut K) :=
 h.imp λvs H Q E ⟨a,ns,e,hs,hl,q⟩=>⟨H,[.val (.scr ns)],.val (.bl true),Same.refl _,rfl,by subst e;exact .cons ⟨a,rfl,hs⟩ .nil,hm ns hl,λv F' H' _ r=>by cases r;exact q H'⟩
set_option maxHeartbeats 0 in
theorem all_mk {l:PySem.W.OpenLaw}{w:World}{K:PySem.W.Frag}{h:Heap}{mg:Str->Option Value}{fa C:Addr}(X:K.In h)(G:h.Ns mainGlobals mg)(hfa:mg "law" = some (.ref fa))
  {f0:Addr} {od0 an0:Option Addr} {sl0:Array (Option Value)} {oc0 kV0 dc0 pm0 cd0 ct0:Value}
  {f1:Addr} {od1 an1:Option Addr} {sl1:Array (Option Value)} {oc1 kV1 dc1 pm1 cd1 ct1:Value}
  {f2:Addr} {od2 an2:Option Addr} {sl2:Array (Option Value)} {oc2 kV2 dc2 pm2 cd2 ct2:Value}
  {f3:Addr} {od3 an3:Option Addr} {sl3:Array (Option Value)} {oc3 kV3 dc3 pm3 cd3 ct3:Value}
  {f4:Addr} {od4 an4:Option Addr} {sl4:Array (Option Value)} {oc4 kV4 dc4 pm4 cd4 ct4:Value}
  {f5:Addr} {od5 an5:Option Addr} {sl5:Array (Option Value)} {oc5 kV5 dc5 pm5 cd5 ct5:Value}
  {f6:Addr} {od6 an6:Option Addr} {sl6:Array (Option Value)} {oc6 kV6 dc6 pm6 cd6 ct6:Value}
  {f7:Addr} {od7 an7:Option Addr} {sl7:Array (Option Value)} {oc7 kV7 dc7 pm7 cd7 ct7:Value}
  {f8:Addr} {od8 an8:Option Addr} {sl8:Array (Option Value)} {oc8 kV8 dc8 pm8 cd8 ct8:Value}
  {f9:Addr} {od9 an9:Option Addr} {sl9:Array (Option Value)} {oc9 kV9 dc9 pm9 cd9 ct9:Value}
  {f10:Addr} {od10 an10:Option Addr} {sl10:Array (Option Value)} {oc10 kV10 dc10 pm10 cd10 ct10:Value}
  {f11:Addr} {od11 an11:Option Addr} {sl11:Array (Option Value)} {oc11 kV11 dc11 pm11 cd11 ct11:Value}
  {f12:Addr} {od12 an12:Option Addr} {sl12:Array (Option Value)} {oc12 kV12 dc12 pm12 cd12 ct12:Value}
  {td12:Addr} {ot12:Value} {ou12:Option Addr} {ow12:Array (Option Value)} {on12:Nat}
  {f13:Addr} {od13 an13:Option Addr} {sl13:Array (Option Value)} {oc13 kV13 dc13 pm13 cd13 ct13:Value}
  {f14:Addr} {od14 an14:Option Addr} {sl14:Array (Option Value)} {oc14 kV14 dc14 pm14 cd14 ct14:Value}
  {f15:Addr} {od15 an15:Option Addr} {sl15:Array (Option Value)} {oc15 kV15 dc15 pm15 cd15 ct15:Value}
  {f16:Addr} {od16 an16:Option Addr} {sl16:Array (Option Value)} {oc16 kV16 dc16 pm16 cd16 ct16:Value}
  {f17:Addr} {od17 an17:Option Addr} {sl17:Array (Option Value)} {oc17 kV17 dc17 pm17 cd17 ct17:Value}
  {f18:Addr} {od18 an18:Option Addr} {sl18:Array (Option Value)} {oc18 kV18 dc18 pm18 cd18 ct18:Value}
  {f19:Addr} {od19 an19:Option Addr} {sl19:Array (Option Value)} {oc19 kV19 dc19 pm19 cd19 ct19:Value}
  {f20:Addr} {od20 an20:Option Addr} {sl20:Array (Option Value)} {oc20 kV20 dc20 pm20 cd20 ct20:Value}
  {f21:Addr} {od21 an21:Option Addr} {sl21:Array (Option Value)} {oc21 kV21 dc21 pm21 cd21 ct21:Value}
  {f22:Addr} {od22 an22:Option Addr} {sl22:Array (Option Value)} {oc22 kV22 dc22 pm22 cd22 ct22:Value}
  {f23:Addr} {od23 an23:Option Addr} {sl23:Array (Option Value)} {oc23 kV23 dc23 pm23 cd23 ct23:Value}
  {f24:Addr} {od24 an24:Option Addr} {sl24:Array (Option Value)} {oc24 kV24 dc24 pm24 cd24 ct24:Value}
  {f25:Addr} {od25 an25:Option Addr} {sl25:Array (Option Value)} {oc25 kV25 dc25 pm25 cd25 ct25:Value}
  {f26:Addr} {od26 an26:Option Addr} {sl26:Array (Option Value)} {oc26 kV26 dc26 pm26 cd26 ct26:Value}
  {f27:Addr} {od27 an27:Option Addr} {sl27:Array (Option Value)} {oc27 kV27 dc27 pm27 cd27 ct27:Value}
  {f28:Addr} {od28 an28:Option Addr} {sl28:Array (Option Value)} {oc28 kV28 dc28 pm28 cd28 ct28:Value}
  {f29:Addr} {od29 an29:Option Addr} {sl29:Array (Option Value)} {oc29 kV29 dc29 pm29 cd29 ct29:Value}
  {f30:Addr} {od30 an30:Option Addr} {sl30:Array (Option Value)} {oc30 kV30 dc30 pm30 cd30 ct30:Value}
  {f31:Addr} {od31 an31:Option Addr} {sl31:Array (Option Value)} {oc31 kV31 dc31 pm31 cd31 ct31:Value}
  {f32:Addr} {od32 an32:Option Addr} {sl32:Array (Option Value)} {oc32 kV32 dc32 pm32 cd32 ct32:Value}
  {f33:Addr} {od33 an33:Option Addr} {sl33:Array (Option Value)} {oc33 kV33 dc33 pm33 cd33 ct33:Value}
  {f34:Addr} {od34 an34:Option Addr} {sl34:Array (Option Value)} {oc34 kV34 dc34 pm34 cd34 ct34:Value}
  {f35:Addr} {od35 an35:Option Addr} {sl35:Array (Option Value)} {oc35 kV35 dc35 pm35 cd35 ct35:Value}
  {f36:Addr} {od36 an36:Option Addr} {sl36:Array (Option Value)} {oc36 kV36 dc36 pm36 cd36 ct36:Value}
  {CT HE fI:Addr} {ddT:Option Addr} {cdT:ClassData} {k0T k1T k2T k3T k5T:Option Value} {bmT:List Value} {odI anI:Option Addr} {slI:Array (Option Value)} {kVI dcI pmI cdI ctI:Value}
  {t_FIGURES:Tok}
  {t_LETTERS:Tok}
  {t_MOST_COUNTERS:Tok}
  {t_MOST_ROWS:Tok}
  {t_MOST_SIGNS:Tok}
  {t_MOST_TURNS:Tok}
  (aC:nsIn K mainGlobals "Hours" = some (some (.ref C)))
  (a0:nsIn K mainGlobals "is_whole" = some (some (.ref f0)))
  (l0:K.lookup f0=some ⟨oc0,od0,.func (fnOf "is_whole" "is_whole" (zm ww) (zk ww) (zd ww) .none kV0 dc0 pm0 an0 cd0 ct0),sl0⟩)
  (c0:codeIn K cd0 "is_whole" = true)
  (k0:keepIn K (.ref f0)=true)
  (a1:nsIn K mainGlobals "is_number" = some (some (.ref f1)))
  (l1:K.lookup f1=some ⟨oc1,od1,.func (fnOf "is_number" "is_number" (zm w9) (zk w9) (zd w9) .none kV1 dc1 pm1 an1 cd1 ct1),sl1⟩)
  (c1:codeIn K cd1 "is_number" = true)
  (k1:keepIn K (.ref f1)=true)
  (a2:nsIn K mainGlobals "is_name" = some (some (.ref f2)))
  (l2:K.lookup f2=some ⟨oc2,od2,.func (fnOf "is_name" "is_name" (zm xP) (zk xP) (zd xP) .none kV2 dc2 pm2 an2 cd2 ct2),sl2⟩)
  (c2:codeIn K cd2 "is_name" = true)
  (k2:keepIn K (.ref f2)=true)
  (a3:nsIn K mainGlobals "is_row" = some (some (.ref f3)))
  (l3:K.lookup f3=some ⟨oc3,od3,.func (fnOf "is_row" "is_row" (zm we) (zk we) (zd we) .none kV3 dc3 pm3 an3 cd3 ct3),sl3⟩)
  (c3:codeIn K cd3 "is_row" = true)
  (k3:keepIn K (.ref f3)=true)
  (a4:nsIn K mainGlobals "check_hours" = some (some (.ref f4)))
  (l4:K.lookup f4=some ⟨oc4,od4,.func (fnOf "check_hours" "check_hours" (zm xV) (zk xV) (zd xV) .none kV4 dc4 pm4 an4 cd4 ct4),sl4⟩)
  (c4:codeIn K cd4 "check_hours" = true)
  (k4:keepIn K (.ref f4)=true)
  (a5:nsIn K mainGlobals "kept_rows" = some (some (.ref f5)))
  (l5:K.lookup f5=some ⟨oc5,od5,.func (fnOf "kept_rows" "kept_rows" (zm wC) (zk wC) (zd wC) .none kV5 dc5 pm5 an5 cd5 ct5),sl5⟩)
  (c5:codeIn K cd5 "kept_rows" = true)
  (k5:keepIn K (.ref f5)=true)
  (a6:nsIn K mainGlobals "spans_of" = some (some (.ref f6)))
  (l6:K.lookup f6=some ⟨oc6,od6,.func (fnOf "spans_of" "spans_of" (zm wO) (zk wO) (zd wO) .none kV6 dc6 pm6 an6 cd6 ct6),sl6⟩)
  (c6:codeIn K cd6 "spans_of" = true)
  (k6:keepIn K (.ref f6)=true)
  (a7:findIn K (.ref C) "__init__" = some (some (.ref f7)))
  (i7:PySem.W.isFn K (.ref f7)=true)
  (l7:K.lookup f7=some ⟨oc7,od7,.func (fnOf "__init__" "Hours.__init__" (zm wp) (zk wp) (zd wp) .none kV7 dc7 pm7 an7 cd7 ct7),sl7⟩)
  (c7:codeIn K cd7 "Hours.__init__" = true)
  (k7:keepIn K (.ref f7)=true)
  (a8:findIn K (.ref C) "at" = some (some (.ref f8)))
  (i8:PySem.W.isFn K (.ref f8)=true)
  (l8:K.lookup f8=some ⟨oc8,od8,.func (fnOf "at" "Hours.at" (zm wK) (zk wK) (zd wK) .none kV8 dc8 pm8 an8 cd8 ct8),sl8⟩)
  (c8:codeIn K cd8 "Hours.at" = true)
  (k8:keepIn K (.ref f8)=true)
  (a9:nsIn K mainGlobals "names_of" = some (some (.ref f9)))
  (l9:K.lookup f9=some ⟨oc9,od9,.func (fnOf "names_of" "names_of" (zm xN) (zk xN) (zd xN) .none kV9 dc9 pm9 an9 cd9 ct9),sl9⟩)
  (c9:codeIn K cd9 "names_of" = true)
  (k9:keepIn K (.ref f9)=true)
  (a10:nsIn K mainGlobals "place_of" = some (some (.ref f10)))
  (l10:K.lookup f10=some ⟨oc10,od10,.func (fnOf "place_of" "place_of" (zm xq) (zk xq) (zd xq) .none kV10 dc10 pm10 an10 cd10 ct10),sl10⟩)
  (c10:codeIn K cd10 "place_of" = true)
  (k10:keepIn K (.ref f10)=true)
  (a11:nsIn K mainGlobals "turn_served" = some (some (.ref f11)))
  (l11:K.lookup f11=some ⟨oc11,od11,.func (fnOf "turn_served" "turn_served" (zm xx) (zk xx) (zd xx) .none kV11 dc11 pm11 an11 cd11 ct11),sl11⟩)
  (c11:codeIn K cd11 "turn_served" = true)
  (k11:keepIn K (.ref f11)=true)
  (a12:nsIn K mainGlobals "run_of" = some (some (.ref f12)))
  (l12:K.lookup f12=some ⟨oc12,od12,.func (fnOf "run_of" "run_of" (zm yB) (zk yB) (zd yB) (.ref td12) kV12 dc12 pm12 an12 cd12 ct12),sl12⟩)
  (t12:K.lookup td12=some ⟨ot12,ou12,.seq #[.none] on12,ow12⟩)
  (c12:codeIn K cd12 "run_of" = true)
  (k12:keepIn K (.ref f12)=true)
  (a13:nsIn K mainGlobals "ends_of" = some (some (.ref f13)))
  (l13:K.lookup f13=some ⟨oc13,od13,.func (fnOf "ends_of" "ends_of" (zm wy) (zk wy) (zd wy) .none kV13 dc13 pm13 an13 cd13 ct13),sl13⟩)
  (c13:codeIn K cd13 "ends_of" = true)
  (k13:keepIn K (.ref f13)=true)
  (a14:nsIn K mainGlobals "had_by" = some (some (.ref f14)))
  (l14:K.lookup f14=some ⟨oc14,od14,.func (fnOf "had_by" "had_by" (zm xk) (zk xk) (zd xk) .none kV14 dc14 pm14 an14 cd14 ct14),sl14⟩)
  (c14:codeIn K cd14 "had_by" = true)
  (k14:keepIn K (.ref f14)=true)
  (a15:nsIn K mainGlobals "latest_all" = some (some (.ref f15)))
  (l15:K.lookup f15=some ⟨oc15,od15,.func (fnOf "latest_all" "latest_all" (zm wA) (zk wA) (zd wA) .none kV15 dc15 pm15 an15 cd15 ct15),sl15⟩)
  (c15:codeIn K cd15 "latest_all" = true)
  (k15:keepIn K (.ref f15)=true)
  (a16:nsIn K mainGlobals "latest_of" = some (some (.ref f16)))
  (l16:K.lookup f16=some ⟨oc16,od16,.func (fnOf "latest_of" "latest_of" (zm xF) (zk xF) (zd xF) .none kV16 dc16 pm16 an16 cd16 ct16),sl16⟩)
  (c16:codeIn K cd16 "latest_of" = true)
  (k16:keepIn K (.ref f16)=true)
  (a17:nsIn K mainGlobals "witness_run" = some (some (.ref f17)))
  (l17:K.lookup f17=some ⟨oc17,od17,.func (fnOf "witness_run" "witness_run" (zm yN) (zk yN) (zd yN) .none kV17 dc17 pm17 an17 cd17 ct17),sl17⟩)
  (c17:codeIn K cd17 "witness_run" = true)
  (k17:keepIn K (.ref f17)=true)
  (a18:nsIn K mainGlobals "waits_of" = some (some (.ref f18)))
  (l18:K.lookup f18=some ⟨oc18,od18,.func (fnOf "waits_of" "waits_of" (zm yD) (zk yD) (zd yD) .none kV18 dc18 pm18 an18 cd18 ct18),sl18⟩)
  (c18:codeIn K cd18 "waits_of" = true)
  (k18:keepIn K (.ref f18)=true)
  (a19:nsIn K mainGlobals "tolls_of" = some (some (.ref f19)))
  (l19:K.lookup f19=some ⟨oc19,od19,.func (fnOf "tolls_of" "tolls_of" (zm yV) (zk yV) (zd yV) .none kV19 dc19 pm19 an19 cd19 ct19),sl19⟩)
  (c19:codeIn K cd19 "tolls_of" = true)
  (k19:keepIn K (.ref f19)=true)
  (a20:nsIn K mainGlobals "shows_why" = some (some (.ref f20)))
  (l20:K.lookup f20=some ⟨oc20,od20,.func (fnOf "shows_why" "shows_why" (zm x8) (zk x8) (zd x8) .none kV20 dc20 pm20 an20 cd20 ct20),sl20⟩)
  (c20:codeIn K cd20 "shows_why" = true)
  (k20:keepIn K (.ref f20)=true)
  (a21:nsIn K mainGlobals "_law_cell" = some (some (.ref f21)))
  (l21:K.lookup f21=some ⟨oc21,od21,.func (fnOf "_law_cell" "_law_cell" (zm xX) (zk xX) (zd xX) .none kV21 dc21 pm21 an21 cd21 ct21),sl21⟩)
  (c21:codeIn K cd21 "_law_cell" = true)
  (k21:keepIn K (.ref f21)=true)
  (a22:nsIn K mainGlobals "_law_stir" = some (some (.ref f22)))
  (l22:K.lookup f22=some ⟨oc22,od22,.func (fnOf "_law_stir" "_law_stir" (zm wW) (zk wW) (zd wW) .none kV22 dc22 pm22 an22 cd22 ct22),sl22⟩)
  (c22:codeIn K cd22 "_law_stir" = true)
  (k22:keepIn K (.ref f22)=true)
  (a23:nsIn K mainGlobals "_law_row" = some (some (.ref f23)))
  (l23:K.lookup f23=some ⟨oc23,od23,.func (fnOf "_law_row" "_law_row" (zm xu) (zk xu) (zd xu) .none kV23 dc23 pm23 an23 cd23 ct23),sl23⟩)
  (c23:codeIn K cd23 "_law_row" = true)
  (k23:keepIn K (.ref f23)=true)
  (a24:nsIn K mainGlobals "_law_names" = some (some (.ref f24)))
  (l24:K.lookup f24=some ⟨oc24,od24,.func (fnOf "_law_names" "_law_names" (zm wv) (zk wv) (zd wv) .none kV24 dc24 pm24 an24 cd24 ct24),sl24⟩)
  (c24:codeIn K cd24 "_law_names" = true)
  (k24:keepIn K (.ref f24)=true)
  (a25:nsIn K mainGlobals "_law_days" = some (some (.ref f25)))
  (l25:K.lookup f25=some ⟨oc25,od25,.func (fnOf "_law_days" "_law_days" (zm wl) (zk wl) (zd wl) .none kV25 dc25 pm25 an25 cd25 ct25),sl25⟩)
  (c25:codeIn K cd25 "_law_days" = true)
  (k25:keepIn K (.ref f25)=true)
  (a26:nsIn K mainGlobals "_law_at" = some (some (.ref f26)))
  (l26:K.lookup f26=some ⟨oc26,od26,.func (fnOf "_law_at" "_law_at" (zm wV) (zk wV) (zd wV) .none kV26 dc26 pm26 an26 cd26 ct26),sl26⟩)
  (c26:codeIn K cd26 "_law_at" = true)
  (k26:keepIn K (.ref f26)=true)
  (a27:nsIn K mainGlobals "_law_run" = some (some (.ref f27)))
  (l27:K.lookup f27=some ⟨oc27,od27,.func (fnOf "_law_run" "_law_run" (zm xi) (zk xi) (zd xi) .none kV27 dc27 pm27 an27 cd27 ct27),sl27⟩)
  (c27:codeIn K cd27 "_law_run" = true)
  (k27:keepIn K (.ref f27)=true)
  (a28:nsIn K mainGlobals "_law_queue" = some (some (.ref f28)))
  (l28:K.lookup f28=some ⟨oc28,od28,.func (fnOf "_law_queue" "_law_queue" (zm xp) (zk xp) (zd xp) .none kV28 dc28 pm28 an28 cd28 ct28),sl28⟩)
  (c28:codeIn K cd28 "_law_queue" = true)
  (k28:keepIn K (.ref f28)=true)
  (a29:nsIn K mainGlobals "_law_due" = some (some (.ref f29)))
  (l29:K.lookup f29=some ⟨oc29,od29,.func (fnOf "_law_due" "_law_due" (zm wz) (zk wz) (zd wz) .none kV29 dc29 pm29 an29 cd29 ct29),sl29⟩)
  (c29:codeIn K cd29 "_law_due" = true)
  (k29:keepIn K (.ref f29)=true)
  (a30:nsIn K mainGlobals "_law_tolls" = some (some (.ref f30)))
  (l30:K.lookup f30=some ⟨oc30,od30,.func (fnOf "_law_tolls" "_law_tolls" (zm xC) (zk xC) (zd xC) .none kV30 dc30 pm30 an30 cd30 ct30),sl30⟩)
  (c30:codeIn K cd30 "_law_tolls" = true)
  (k30:keepIn K (.ref f30)=true)
  (a31:nsIn K mainGlobals "_law_rows" = some (some (.ref f31)))
  (l31:K.lookup f31=some ⟨oc31,od31,.func (fnOf "_law_rows" "_law_rows" (zm wG) (zk wG) (zd wG) .none kV31 dc31 pm31 an31 cd31 ct31),sl31⟩)
  (c31:codeIn K cd31 "_law_rows" = true)
  (k31:keepIn K (.ref f31)=true)
  (a32:nsIn K mainGlobals "_law_counters" = some (some (.ref f32)))
  (l32:K.lookup f32=some ⟨oc32,od32,.func (fnOf "_law_counters" "_law_counters" (zm yX) (zk yX) (zd yX) .none kV32 dc32 pm32 an32 cd32 ct32),sl32⟩)
  (c32:codeIn K cd32 "_law_counters" = true)
  (k32:keepIn K (.ref f32)=true)
  (a33:nsIn K mainGlobals "_law_right" = some (some (.ref f33)))
  (l33:K.lookup f33=some ⟨oc33,od33,.func (fnOf "_law_right" "_law_right" (zm xL) (zk xL) (zd xL) .none kV33 dc33 pm33 an33 cd33 ct33),sl33⟩)
  (c33:codeIn K cd33 "_law_right" = true)
  (k33:keepIn K (.ref f33)=true)
  (a34:nsIn K mainGlobals "_law_refused" = some (some (.ref f34)))
  (l34:K.lookup f34=some ⟨oc34,od34,.func (fnOf "_law_refused" "_law_refused" (zm wQ) (zk wQ) (zd wQ) .none kV34 dc34 pm34 an34 cd34 ct34),sl34⟩)
  (c34:codeIn K cd34 "_law_refused" = true)
  (k34:keepIn K (.ref f34)=true)
  (a35:nsIn K mainGlobals "_law_sums" = some (some (.ref f35)))
  (l35:K.lookup f35=some ⟨oc35,od35,.func (fnOf "_law_sums" "_law_sums" (zm yC) (zk yC) (zd yC) .none kV35 dc35 pm35 an35 cd35 ct35),sl35⟩)
  (c35:codeIn K cd35 "_law_sums" = true)
  (k35:keepIn K (.ref f35)=true)
  (a36:nsIn K mainGlobals "law" = some (some (.ref f36)))
  (l36:K.lookup f36=some ⟨oc36,od36,.func (fnOf "law" "law" (zm yw) (zk yw) (zd yw) .none kV36 dc36 pm36 an36 cd36 ct36),sl36⟩)
  (c36:codeIn K cd36 "law" = true)
  (k36:keepIn K (.ref f36)=true)
  (pg:plainGet K C Str.empty=true)
  (hd:hasDictIn K C=true)
  (po:PySem.W.plainOver K C=true)
  (sa:findIn K (.ref C) "__setattr__" = some (some (.builtin "object.__setattr__")))
  (mk:PySem.W.makesIn K C=true)
  (kc:keepIn K (.ref C)=true)
  (n_kept_rest:findIn K (.ref C) "kept_rest" = some none)
  (n_spans:findIn K (.ref C) "spans" = some none)
  (xT:nsIn K mainGlobals "NoTicket" = some (some (.ref CT)))
  (xH:nsIn K mainGlobals "HallError" = some (some (.ref HE)))
  (xl:K.lookup CT=some ⟨.type "type",ddT,.cls cdT,#[k0T,k1T,k2T,k3T,some (.builtin "ValueError.__new__"),k5T]⟩)
  (xmr:cdT.mro=.ref CT::bmT)
  (xdl:cdT.hasDel=false)
  (xtl:PySem.W.tailIn K vB bmT=true)
  (xok:PySem.W.nsOkIn K cdT.ns=true)
  (xin:nsIn K cdT.ns "__init__" = some (some (.ref fI)))
  (xli:K.lookup fI=some ⟨.type "function",odI,.func (fnOf "__init__" "NoTicket.__init__" (zm wo) (zk wo) (zd wo) .none kVI dcI pmI anI cdI ctI),slI⟩)
  (xci:codeIn K cdI "NoTicket.__init__" = true)
  (xki:keepIn K (.ref fI)=true)
  (xkp:keepIn K (.ref CT)=true)
  (xsa:findIn K (.ref CT) "__setattr__" = some (some (.builtin "object.__setattr__")))
  (xtk:takerIn K CT "name" = some none)
  (xhd:hasDictIn K CT=true)
  (xsub:subIn K (.ref CT) (.type "BaseException")=some true)
  (xsubH:subIn K (.ref CT) (.ref HE)=some true)
  (xga:findIn K (.ref CT) "__getattribute__" = some (some (.builtin "BaseException.__getattribute__")))
  (xgt:findIn K (.ref CT) "__getattr__" = some none)
  (xna:findIn K (.ref CT) "name" = some none)
  (xrd:PySem.W.readsIn K HE (.type "type")=true)
  (xfc:PySem.W.findCls K (.ref HE) (.type "type") "__init__" = some (.val (.builtin "ValueError.__init__")))
  (xsp:PySem.W.specialIn K (.ref HE) "__getattribute__" = some (some (.builtin "type.__getattribute__")))
  (xse:subIn K (.ref CT) (.ref CT)=some true)
  (xnt:PySem.W.instIn K (.ref CT) (.type "tuple")=some false)
  (xcl:PySem.W.isClsIn K CT=true)
  (xntH:PySem.W.instIn K (.ref HE) (.type "tuple")=some false)
  (xclH:PySem.W.isClsIn K HE=true)
  (xexH:subIn K (.ref HE) (.type "BaseException")=some true)
  (xtyH:PySem.W.typeIn K (.ref HE)=some (.type "type"))
  (b_all:nsIn K mainGlobals "all" = some none)
  (b_bool:nsIn K mainGlobals "bool" = some none)
  (b_dict:nsIn K mainGlobals "dict" = some none)
  (b_enumerate:nsIn K mainGlobals "enumerate" = some none)
  (b_int:nsIn K mainGlobals "int" = some none)
  (b_isinstance:nsIn K mainGlobals "isinstance" = some none)
  (b_len:nsIn K mainGlobals "len" = some none)
  (b_list:nsIn K mainGlobals "list" = some none)
  (b_max:nsIn K mainGlobals "max" = some none)
  (b_min:nsIn K mainGlobals "min" = some none)
  (b_range:nsIn K mainGlobals "range" = some none)
  (b_str:nsIn K mainGlobals "str" = some none)
  (b_sum:nsIn K mainGlobals "sum" = some none)
  (b_tuple:nsIn K mainGlobals "tuple" = some none)
  (b_zip:nsIn K mainGlobals "zip" = some none)
  (c_FIGURES:nsIn K mainGlobals "FIGURES" = some (some (.str "0123456789" t_FIGURES)))
  (c_LETTERS:nsIn K mainGlobals "LETTERS" = some (some (.str "abcdefghijklmnopqrstuvwxyz" t_LETTERS)))
  (c_MOST_COUNTERS:nsIn K mainGlobals "MOST_COUNTERS" = some (some (.int 8 t_MOST_COUNTERS)))
  (c_MOST_ROWS:nsIn K mainGlobals "MOST_ROWS" = some (some (.int 16 t_MOST_ROWS)))
  (c_MOST_SIGNS:nsIn K mainGlobals "MOST_SIGNS" = some (some (.int 8 t_MOST_SIGNS)))
  (c_MOST_TURNS:nsIn K mainGlobals "MOST_TURNS" = some (some (.int 100 t_MOST_TURNS)))
  : ∃fd:FuncData,(∀(s:Shared) (v:Value),BindsTo s fd ⟨[v],[]⟩ [("_law_script",v)])/\∀base:Heap,K.In base->base.Ns mainGlobals mg->FnOk l.prog w K mg base CX0 10 fa fd ["_law_script"] (spOut K):=by
 have e:=hfa.symm.trans (mg_of X G a36)
 cases e
 have T:Txt K mg C:=⟨⟨pg,hd,po,sa⟩,n_kept_rest,n_spans,PySem.W.mg_none_of X G b_all,PySem.W.mg_none_of X G b_bool,PySem.W.mg_none_of X G b_dict,PySem.W.mg_none_of X G b_enumerate,PySem.W.mg_none_of X G b_int,PySem.W.mg_none_of X G b_isinstance,PySem.W.mg_none_of X G b_len,PySem.W.mg_none_of X G b_list,PySem.W.mg_none_of X G b_max,PySem.W.mg_none_of X G b_min,PySem.W.mg_none_of X G b_range,PySem.W.mg_none_of X G b_str,PySem.W.mg_none_of X G b_sum,PySem.W.mg_none_of X G b_tuple,PySem.W.mg_none_of X G b_zip,⟨_,mg_of X G c_FIGURES⟩,⟨_,mg_of X G c_LETTERS⟩,⟨_,mg_of X G c_MOST_COUNTERS⟩,⟨_,mg_of X G c_MOST_ROWS⟩,⟨_,mg_of X G c_MOST_SIGNS⟩,⟨_,mg_of X G c_MOST_TURNS⟩⟩
 have F0:=zp (st:=ww) l0 c0 k0
 have bb0:=F0.binds (ps:=["thing"]) λ_ _ _ _ _ _ us hl=>match us,hl with | [_],_=>rfl
 have F1:=zp (st:=w9) l1 c1 k1
 have bb1:=F1.binds (ps:=["thing","low","high"]) λ_ _ _ _ _ _ us hl=>match us,hl with | [_,_,_],_=>rfl
 have F2:=zp (st:=xP) l2 c2 k2
 have bb2:=F2.binds (ps:=["thing"]) λ_ _ _ _ _ _ us hl=>match us,hl with | [_],_=>rfl
 have F3:=zp (st:=we) l3 c3 k3
 have bb3:=F3.binds (ps:=["thing"]) λ_ _ _ _ _ _ us hl=>match us,hl with | [_],_=>rfl
 have F4:=zp (st:=xV) l4 c4 k4
 have bb4:=F4.binds (ps:=["rows","rest"]) λ_ _ _ _ _ _ us hl=>match us,hl with | [_,_],_=>rfl
 have F5:=zp (st:=wC) l5 c5 k5
 have bb5:=F5.binds (ps:=["rows","rest"]) λ_ _ _ _ _ _ us hl=>match us,hl with | [_,_],_=>rfl
 have F6:=zp (st:=wO) l6 c6 k6
 have bb6:=F6.binds (ps:=["rows"]) λ_ _ _ _ _ _ us hl=>match us,hl with | [_],_=>rfl
 have F7:=zp (st:=wp) l7 c7 k7
 have bb7:=F7.binds (ps:=["self","rows","rest"]) λ_ _ _ _ _ _ us hl=>match us,hl with | [_,_,_],_=>rfl
 have F8:=zp (st:=wK) l8 c8 k8
 have bb8:=F8.binds (ps:=["self","turn"]) λ_ _ _ _ _ _ us hl=>match us,hl with | [_,_],_=>rfl
 have F9:=zp (st:=xN) l9 c9 k9
 have bb9:=F9.binds (ps:=["queue"]) λ_ _ _ _ _ _ us hl=>match us,hl with | [_],_=>rfl
 have F10:=zp (st:=xq) l10 c10 k10
 have bb10:=F10.binds (ps:=["queue","name"]) λ_ _ _ _ _ _ us hl=>match us,hl with | [_,_],_=>rfl
 have F11:=zp (st:=xx) l11 c11 k11
 have bb11:=F11.binds (ps:=["queue","many"]) λ_ _ _ _ _ _ us hl=>match us,hl with | [_,_],_=>rfl
 have F12:=K4 (st:=yB) l12 c12 k12
 have bb12:Binds K (fnOf "run_of" "run_of" (zm yB) (zk yB) (zd yB) (.ref td12) kV12 dc12 pm12 an12 cd12 ct12) ["queue","hours","begin","real"] [.none]:=λs us hK hl=>have hl':us.length=3:=(by simpa using hl);match us,hl' with | [_,_,_],_=>BindsTo.of_defaults rfl (hK _ _ t12) rfl rfl rfl
 have F13:=zp (st:=wy) l13 c13 k13
 have bb13:=F13.binds (ps:=["rows"]) λ_ _ _ _ _ _ us hl=>match us,hl with | [_],_=>rfl
 have F14:=zp (st:=xk) l14 c14 k14
 have bb14:=F14.binds (ps:=["rows","name","turn"]) λ_ _ _ _ _ _ us hl=>match us,hl with | [_,_,_],_=>rfl
 have F15:=zp (st:=wA) l15 c15 k15
 have bb15:=F15.binds (ps:=["queue","hours","begin"]) λ_ _ _ _ _ _ us hl=>match us,hl with | [_,_,_],_=>rfl
 have F16:=zp (st:=xF) l16 c16 k16
 have bb16:=F16.binds (ps:=["queue","hours","begin","name"]) λ_ _ _ _ _ _ us hl=>match us,hl with | [_,_,_,_],_=>rfl
 have F17:=zp (st:=yN) l17 c17 k17
 have bb17:=F17.binds (ps:=["queue","hours","begin","name"]) λ_ _ _ _ _ _ us hl=>match us,hl with | [_,_,_,_],_=>rfl
 have F18:=zp (st:=yD) l18 c18 k18
 have bb18:=F18.binds (ps:=["queue","hours","begin","name"]) λ_ _ _ _ _ _ us hl=>match us,hl with | [_,_,_,_],_=>rfl
 have F19:=zp (st:=yV) l19 c19 k19
 have bb19:=F19.binds (ps:=["queue","hours","begin","name"]) λ_ _ _ _ _ _ us hl=>match us,hl with | [_,_,_,_],_=>rfl
 have F20:=zp (st:=x8) l20 c20 k20
 have bb20:=F20.binds (ps:=["queue","hours","begin","name","rows"]) λ_ _ _ _ _ _ us hl=>match us,hl with | [_,_,_,_,_],_=>rfl
 have F21:=zp (st:=xX) l21 c21 k21
 have bb21:=F21.binds (ps:=["_law_script","_law_k"]) λ_ _ _ _ _ _ us hl=>match us,hl with | [_,_],_=>rfl
 have F22:=zp (st:=wW) l22 c22 k22
 have bb22:=F22.binds (ps:=["_law_cell_here","_law_k"]) λ_ _ _ _ _ _ us hl=>match us,hl with | [_,_],_=>rfl
 have F23:=zp (st:=xu) l23 c23 k23
 have bb23:=F23.binds (ps:=["_law_script","_law_at_here","_law_base","_law_count"]) λ_ _ _ _ _ _ us hl=>match us,hl with | [_,_,_,_],_=>rfl
 have F24:=zp (st:=wv) l24 c24 k24
 have bb24:=F24.binds (ps:=["_law_cell_here","_law_many"]) λ_ _ _ _ _ _ us hl=>match us,hl with | [_,_],_=>rfl
 have F25:=zp (st:=wl) l25 c25 k25
 have bb25:=F25.binds (ps:=["_law_rows_here"]) λ_ _ _ _ _ _ us hl=>match us,hl with | [_],_=>rfl
 have F26:=zp (st:=wV) l26 c26 k26
 have bb26:=F26.binds (ps:=["_law_days_here","_law_rest","_law_turn"]) λ_ _ _ _ _ _ us hl=>match us,hl with | [_,_,_],_=>rfl
 have F27:=zp (st:=xi) l27 c27 k27
 have bb27:=F27.binds (ps:=["_law_queue_here","_law_days_here","_law_rest","_law_begin"]) λ_ _ _ _ _ _ us hl=>match us,hl with | [_,_,_,_],_=>rfl
 have F28:=zp (st:=xp) l28 c28 k28
 have bb28:=F28.binds (ps:=["_law_script"]) λ_ _ _ _ _ _ us hl=>match us,hl with | [_],_=>rfl
 have F29:=zp (st:=wz) l29 c29 k29
 have bb29:=F29.binds (ps:=["_law_queue_here","_law_run_here","_law_name"]) λ_ _ _ _ _ _ us hl=>match us,hl with | [_,_,_],_=>rfl
 have F30:=zp (st:=xC) l30 c30 k30
 have bb30:=F30.binds (ps:=["_law_queue_here","_law_waits"]) λ_ _ _ _ _ _ us hl=>match us,hl with | [_,_],_=>rfl
 have F31:=zp (st:=wG) l31 c31 k31
 have bb31:=F31.binds (ps:=["_law_found","_law_due_here"]) λ_ _ _ _ _ _ us hl=>match us,hl with | [_,_],_=>rfl
 have F32:=zp (st:=yX) l32 c32 k32
 have bb32:=F32.binds (ps:=["_law_queue_here","_law_waits","_law_days_here","_law_rest","_law_name"]) λ_ _ _ _ _ _ us hl=>match us,hl with | [_,_,_,_,_],_=>rfl
 have F33:=zp (st:=xL) l33 c33 k33
 have bb33:=F33.binds (ps:=["_law_queue_here","_law_hours","_law_begin","_law_run_here","_law_name"]) λ_ _ _ _ _ _ us hl=>match us,hl with | [_,_,_,_,_],_=>rfl
 have F34:=zp (st:=wQ) l34 c34 k34
 have bb34:=F34.binds (ps:=["_law_queue_here","_law_hours","_law_begin","_law_name","_law_which"]) λ_ _ _ _ _ _ us hl=>match us,hl with | [_,_,_,_,_],_=>rfl
 have F35:=zp (st:=yC) l35 c35 k35
 have bb35:=F35.binds (ps:=["_law_queue_here","_law_hours","_law_begin","_law_run_here","_law_name","_law_days_here","_law_rest"]) λ_ _ _ _ _ _ us hl=>match us,hl with | [_,_,_,_,_,_,_],_=>rfl
 have F36:=zp (st:=yw) l36 c36 k36
 have FI:=zp (st:=wo) xli xci xki
 have bbI:=FI.binds (ps:=["self","name"]) λ_ _ _ _ _ _ us hl=>match us,hl with | [_,_],_=>rfl
 have xc:XC K CT HE fI "name" := ⟨⟨ddT,cdT,k0T,k1T,k2T,k3T,k5T,bmT,xl,xmr,xdl,xtl,xok,xin⟩,⟨_,xli,rfl⟩,xkp,xsa,xtk,xhd,xsub,xsubH,xga,xgt,xna,xrd,xfc,xsp⟩
 have xz:kitOne K (.ref CT) (.ref HE)=some true:=Uv xclH xtyH xsubH
 have xzT:kitOne K (.ref CT) (.ref CT)=some true:=ze8
 refine⟨fnOf "law" "law" (zm yw) (zk yw) (zd yw) .none kV36 dc36 pm36 an36 cd36 ct36,λs v=>.of_eq rfl,λbase _ _=>?_⟩
 have U:Exc l.prog w K mg base CT HE fI "name" "NoTicket" "HallError" := ⟨xc,⟨xse,xnt,xcl,xsub⟩,⟨xsubH,xntH,xclH,xexH⟩,xz,xzT,mg_of X G xT,mg_of X G xH,⟨_,_,QV (P:=l.prog) (w:=w) (base:=base) FI xc (mg_of X G xH),bbI⟩⟩
 have Hai:Fx l.prog w K mg base "is_whole" 1 1 jg:=⟨f0,_,_,zc6 (P:=l.prog) (w:=w) (base:=base) T F0,mg_of X G a0,k0,bb0⟩
 have Hag:Fx l.prog w K mg base "is_number" 2 3 yU:=⟨f1,_,_,Re (P:=l.prog) (w:=w) (base:=base) T F1 Hai,mg_of X G a1,k1,bb1⟩
 have Haf:Fx l.prog w K mg base "is_name" 1 1 xB:=⟨f2,_,_,Kn (P:=l.prog) (w:=w) (base:=base) T F2,mg_of X G a2,k2,bb2⟩
 have Hah:Fx l.prog w K mg base "is_row" 3 1 vC:=⟨f3,_,_,Q6 (P:=l.prog) (w:=w) (base:=base) T F3 Hag,mg_of X G a3,k3,bb3⟩
 have Hac:Fx l.prog w K mg base "check_hours" 4 2 vz:=⟨f4,_,_,GW (P:=l.prog) (w:=w) (base:=base) T F4 Hag Hah,mg_of X G a4,k4,bb4⟩
 have Haj:Fx l.prog w K mg base "kept_rows" 1 2 vJ:=⟨f5,_,_,Kl (P:=l.prog) (w:=w) (base:=base) T F5,mg_of X G a5,k5,bb5⟩
 have Ha5:Fx l.prog w K mg base "spans_of" 1 1 vg:=⟨f6,_,_,K2 (P:=l.prog) (w:=w) (base:=base) T F6,mg_of X G a6,k6,bb6⟩
 have Haa:Kx l.prog w K mg base C "Hours" 5 2 (xZ C):=⟨f7,_,_,_,RU (P:=l.prog) (w:=w) (base:=base) T F7 Ha5 Haj Hac,⟨mk,a7,i7,kc⟩,mg_of X G aC,bb7,λa dx xs=>Ga C a dx xs⟩
 have Hab:Mx l.prog w K mg base C "at" 1 2 (vd C):=⟨f8,_,_,zdm (P:=l.prog) (w:=w) (base:=base) T F8,⟨a8,i8,k8⟩,bb8⟩
 have Ha1:Fx l.prog w K mg base "names_of" 1 1 x6:=⟨f9,_,_,Ux (P:=l.prog) (w:=w) (base:=base) T F9,mg_of X G a9,k9,bb9⟩
 have Hbb:Rx l.prog w K mg base "place_of" CT "name" 3 2 vE:=⟨f10,_,_,QX (P:=l.prog) (w:=w) (base:=base) T F10 U Haf,mg_of X G a10,k10,bb10⟩
 have Ha2:Fx l.prog w K mg base "place_of" 2 2 va:=⟨f10,_,_,GE (P:=l.prog) (w:=w) (base:=base) T F10 Haf,mg_of X G a10,k10,bb10⟩
 have Ha7:Fx l.prog w K mg base "turn_served" 2 2 yQ:=⟨f11,_,_,QE (P:=l.prog) (w:=w) (base:=base) T F11 Ha1,mg_of X G a11,k11,bb11⟩
 have Ha3:FxN l.prog w K mg base "run_of" 3 4 (yJ C):=⟨f12,_,_,Qp (P:=l.prog) (w:=w) (base:=base) T F12 Ha7 Hab,mg_of X G a12,k12,bb12⟩
 have Had:Fx l.prog w K mg base "ends_of" 1 1 xy:=⟨f13,_,_,UF (P:=l.prog) (w:=w) (base:=base) T F13,mg_of X G a13,k13,bb13⟩
 have Hae:Fx l.prog w K mg base "had_by" 1 3 vL:=⟨f14,_,_,GV (P:=l.prog) (w:=w) (base:=base) T F14,mg_of X G a14,k14,bb14⟩
 have Haz:Fx l.prog w K mg base "latest_all" 4 3 (wR C):=⟨f15,_,_,zbj (P:=l.prog) (w:=w) (base:=base) T F15 Had Ha3,mg_of X G a15,k15,bb15⟩
 have Hba:Rx l.prog w K mg base "latest_of" CT "name" 4 4 vK:=⟨f16,_,_,zcc (P:=l.prog) (w:=w) (base:=base) T F16 U Hbb,mg_of X G a16,k16,bb16⟩
 have Ha0:Fx l.prog w K mg base "latest_of" 5 4 (wD C):=⟨f16,_,_,Qj (P:=l.prog) (w:=w) (base:=base) T F16 Haz Ha2,mg_of X G a16,k16,bb16⟩
 have Hbf:Rx l.prog w K mg base "witness_run" CT "name" 5 4 vn:=⟨f17,_,_,zcp (P:=l.prog) (w:=w) (base:=base) T F17 U Hba,mg_of X G a17,k17,bb17⟩
 have Ha9:Fx l.prog w K mg base "witness_run" 6 4 (wb C):=⟨f17,_,_,Gq (P:=l.prog) (w:=w) (base:=base) T F17 Ha3 Ha0,mg_of X G a17,k17,bb17⟩
 have Hbe:Rx l.prog w K mg base "waits_of" CT "name" 6 4 yF:=⟨f18,_,_,Q2 (P:=l.prog) (w:=w) (base:=base) T F18 U Hbf,mg_of X G a18,k18,bb18⟩
 have Ha8:Fx l.prog w K mg base "waits_of" 7 4 (ye C):=⟨f18,_,_,QA (P:=l.prog) (w:=w) (base:=base) T F18 Ha9,mg_of X G a18,k18,bb18⟩
 have Hbd:Rx l.prog w K mg base "tolls_of" CT "name" 7 4 vG:=⟨f19,_,_,Ru (P:=l.prog) (w:=w) (base:=base) T F19 U Hbe,mg_of X G a19,k19,bb19⟩
 have Ha6:Fx l.prog w K mg base "tolls_of" 8 4 (y6 C):=⟨f19,_,_,zee (P:=l.prog) (w:=w) (base:=base) T F19 Ha1 Hae Had Ha8,mg_of X G a19,k19,bb19⟩
 have Hbc:Rx l.prog w K mg base "shows_why" CT "name" 7 5 vt:=⟨f20,_,_,zer (P:=l.prog) (w:=w) (base:=base) T F20 U Hbe,mg_of X G a20,k20,bb20⟩
 have Ha4:Fx l.prog w K mg base "shows_why" 8 5 (xg C):=⟨f20,_,_,Ud (P:=l.prog) (w:=w) (base:=base) T F20 Ha8,mg_of X G a20,k20,bb20⟩
 have Hal:Fx l.prog w K mg base "_law_cell" 1 2 zU:=⟨f21,_,_,RG (P:=l.prog) (w:=w) (base:=base) T F21,mg_of X G a21,k21,bb21⟩
 have Haw:Fx l.prog w K mg base "_law_stir" 1 2 v9:=⟨f22,_,_,RP (P:=l.prog) (w:=w) (base:=base) T F22,mg_of X G a22,k22,bb22⟩
 have Hat:Fx l.prog w K mg base "_law_row" 2 4 yo:=⟨f23,_,_,zcw (P:=l.prog) (w:=w) (base:=base) T F23 Hal Haw,mg_of X G a23,k23,bb23⟩
 have Hap:Fx l.prog w K mg base "_law_names" 1 2 xR:=⟨f24,_,_,Qx (P:=l.prog) (w:=w) (base:=base) T F24,mg_of X G a24,k24,bb24⟩
 have Han:Fx l.prog w K mg base "_law_days" 1 1 vj:=⟨f25,_,_,Gd (P:=l.prog) (w:=w) (base:=base) T F25,mg_of X G a25,k25,bb25⟩
 have Hak:Fx l.prog w K mg base "_law_at" 1 3 y7:=⟨f26,_,_,zbz (P:=l.prog) (w:=w) (base:=base) T F26,mg_of X G a26,k26,bb26⟩
 have Hav:Fx l.prog w K mg base "_law_run" 2 4 vQ:=⟨f27,_,_,RY (P:=l.prog) (w:=w) (base:=base) T F27 Hak,mg_of X G a27,k27,bb27⟩
 have Haq:Fx l.prog w K mg base "_law_queue" 3 1 wr:=⟨f28,_,_,zc1 (P:=l.prog) (w:=w) (base:=base) T F28 Hap Hal Hat,mg_of X G a28,k28,bb28⟩
 have Hao:Fx l.prog w K mg base "_law_due" 1 3 yE:=⟨f29,_,_,zd9 (P:=l.prog) (w:=w) (base:=base) T F29,mg_of X G a29,k29,bb29⟩
 have Hay:Fx l.prog w K mg base "_law_tolls" 1 2 xE:=⟨f30,_,_,KR (P:=l.prog) (w:=w) (base:=base) T F30,mg_of X G a30,k30,bb30⟩
 have Hau:Fx l.prog w K mg base "_law_rows" 1 2 wZ:=⟨f31,_,_,ze2 (P:=l.prog) (w:=w) (base:=base) T F31,mg_of X G a31,k31,bb31⟩
 have Ham:Fx l.prog w K mg base "_law_counters" 2 5 wB:=⟨f32,_,_,QU (P:=l.prog) (w:=w) (base:=base) T F32 Hak,mg_of X G a32,k32,bb32⟩
 have Has:Fx l.prog w K mg base "_law_right" 9 5 (xU C):=⟨f33,_,_,KD (P:=l.prog) (w:=w) (base:=base) T F33 Ha6 Hay Ha4 Hau Ha8 Hao,mg_of X G a33,k33,bb33⟩
 have Har:Fx l.prog w K mg base "_law_refused" 8 5 yA:=⟨f34,_,_,KU (P:=l.prog) (w:=w) (base:=base) T F34 U Hbe Hbd Hbc,mg_of X G a34,k34,bb34⟩
 have Hax:Fx l.prog w K mg base "_law_sums" 9 7 (xn C):=⟨f35,_,_,zbt (P:=l.prog) (w:=w) (base:=base) T F35 Ham Ha8 Hak Ha6 Hao,mg_of X G a35,k35,bb35⟩
 exact zei (zal (P:=l.prog) (w:=w) (base:=base) T F36 Har Hat Hax Has Hav Hal Han Haq Haa) (λns hl=>Q1 C ns hl)
theorem walk {l:PySem.W.OpenLaw}{q:Program}{loose:List Str}{XP:(Str->Option Value)->Heap->Prop}{YP:World->Heap->Prop}{d:DefRec}{K:Params->PySem.W.Frag}(hn:l.most=some 63)(hdf:d.params.defaults=[])
  (hY:∀(w:World) (h:Heap),YP w h->(K w.params).In h)
  (F:∀(w:World) (mg:Str->Option Value) (fa:Addr) (h:Heap),(K w.params).In h->h.Ns mainGlobals mg->mg d.name=some (.ref fa) ->
   ∃fd:FuncData,(∀(s:Shared) (u:Value),BindsTo s fd ⟨[u],[]⟩ [("_law_script",u)])/\∀base:Heap,(K w.params).In base->base.Ns mainGlobals mg->FnOk l.prog w (K w.params) mg base CX0 10 fa fd ["_law_script"] (spOut (K w.params))) :
  PySem.W.WalkO q loose XP YP l.row.toRowW d [] (λf vs=>PySem.call f vs) :=
 L2.walk_of (n:=63) (k:=10) (x := "_law_script") (CX:=λ_=>CX0) (sp:=λw=>spOut (K w.params)) hn (by decide) hdf ⟨rfl,by decide,by decide⟩ hY F (λ_ _ a ns hl _ hS=>⟨a,ns,rfl,hS,hl,λ_=>rfl⟩) λ_ _ _ _ _ z=>z
end My
namespace PySem.W.Fast
def tw2696198258879788373:Unit:=()
def tw5471394962903052372:Unit:=()
def tw6781379738818586097:Unit:=()
def tw6008121691058361558:Unit:=()
def tw18370193010060298649:Unit:=()
def tw10589496280424580093:Unit:=()
def tw12417955939258021104:Unit:=()
def tw10915499486997766559:Unit:=()
def tw3918955482564172149:Unit:=()
def tw6211906955230236083:Unit:=()
def tw377111888761326037:Unit:=()
def tw6876866259779378691:Unit:=()
def tw13217159317760900452:Unit:=()
def tw5590041682288150212:Unit:=()
def tw8074854084004950728:Unit:=()
def tw6309734146650636618:Unit:=()
def tw1973411024954053804:Unit:=()
def tw47498307114082992:Unit:=()
def tw9840729201974124722:Unit:=()
def tw13614329532901910647:Unit:=()
def tw6455979878389070007:Unit:=()
def tw6918414203116112473:Unit:=()
def tw4595193511967070074:Unit:=()
def tw5434138142110845919:Unit:=()
def tw672260903753068927:Unit:=()
def tw11843057345015867398:Unit:=()
def tw15103447285354913907:Unit:=()
def tw16845777061580581954:Unit:=()
def tw16462248980930398512:Unit:=()
def tw8282561671366656696:Unit:=()
def tw17883886485333383045:Unit:=()
def tw5218149715772105424:Unit:=()
def tw14349891463568670520:Unit:=()
def tw12189187699317811913:Unit:=()
end PySem.W.Fast
open PySem PySem.W PyProof.Rows
set_option maxRecDepth 100000 in
set_option maxHeartbeats 0 in
theorem PySem.Challenge.cw_latestturn_k81_waits_and_tolls_holds : PySem.Challenge.rw_latestturn_k81_waits_and_tolls.Holds := by
 w_on;o_law;k_head;(case hw=>w_witness2)
 k_fill
 refine My.walk (l:=PySem.Challenge.rw_latestturn_k81_waits_and_tolls) rfl rfl (λw h Y=>PySem.W.kIn_of Y) ?F
 case F=>
  intro w mg fa h KX G hmg
  refine' My.all_mk KX G hmg ?aC ?a0 ?l0 ?c0 ?k0 ?a1 ?l1 ?c1 ?k1 ?a2 ?l2 ?c2 ?k2 ?a3 ?l3 ?c3 ?k3 ?a4 ?l4 ?c4 ?k4 ?a5 ?l5 ?c5 ?k5 ?a6 ?l6 ?c6 ?k6 ?a7 ?i7 ?l7 ?c7 ?k7 ?a8 ?i8 ?l8 ?c8 ?k8 ?a9 ?l9 ?c9 ?k9 ?a10 ?l10 ?c10 ?k10 ?a11 ?l11 ?c11 ?k11 ?a12 ?l12 ?t12 ?c12 ?k12 ?a13 ?l13 ?c13 ?k13 ?a14 ?l14 ?c14 ?k14 ?a15 ?l15 ?c15 ?k15 ?a16 ?l16 ?c16 ?k16 ?a17 ?l17 ?c17 ?k17 ?a18 ?l18 ?c18 ?k18 ?a19 ?l19 ?c19 ?k19 ?a20 ?l20 ?c20 ?k20 ?a21 ?l21 ?c21 ?k21 ?a22 ?l22 ?c22 ?k22 ?a23 ?l23 ?c23 ?k23 ?a24 ?l24 ?c24 ?k24 ?a25 ?l25 ?c25 ?k25 ?a26 ?l26 ?c26 ?k26 ?a27 ?l27 ?c27 ?k27 ?a28 ?l28 ?c28 ?k28 ?a29 ?l29 ?c29 ?k29 ?a30 ?l30 ?c30 ?k30 ?a31 ?l31 ?c31 ?k31 ?a32 ?l32 ?c32 ?k32 ?a33 ?l33 ?c33 ?k33 ?a34 ?l34 ?c34 ?k34 ?a35 ?l35 ?c35 ?k35 ?a36 ?l36 ?c36 ?k36 ?pg ?hd ?po ?sa ?mk ?kc ?n_kept_rest ?n_spans ?xT ?xH ?xl ?xmr ?xdl ?xtl ?xok ?xin ?xli ?xci ?xki ?xkp ?xsa ?xtk ?xhd ?xsub ?xsubH ?xga ?xgt ?xna ?xrd ?xfc ?xsp ?xse ?xnt ?xcl ?xntH ?xclH ?xexH ?xtyH ?b_all ?b_bool ?b_dict ?b_enumerate ?b_int ?b_isinstance ?b_len ?b_list ?b_max ?b_min ?b_range ?b_str ?b_sum ?b_tuple ?b_zip ?c_FIGURES ?c_LETTERS ?c_MOST_COUNTERS ?c_MOST_ROWS ?c_MOST_SIGNS ?c_MOST_TURNS
  (case aC=>k_is)
  (case a0=>k_is)
  (case l0=>k_is)
  (case c0=>k_is)
  (case k0=>k_is)
  (case a1=>k_is)
  (case l1=>k_is)
  (case c1=>k_is)
  (case k1=>k_is)
  (case a2=>k_is)
  (case l2=>k_is)
  (case c2=>k_is)
  (case k2=>k_is)
  (case a3=>k_is)
  (case l3=>k_is)
  (case c3=>k_is)
  (case k3=>k_is)
  (case a4=>k_is)
  (case l4=>k_is)
  (case c4=>k_is)
  (case k4=>k_is)
  (case a5=>k_is)
  (case l5=>k_is)
  (case c5=>k_is)
  (case k5=>k_is)
  (case a6=>k_is)
  (case l6=>k_is)
  (case c6=>k_is)
  (case k6=>k_is)
  (case a7=>k_is)
  (case i7=>k_is)
  (case l7=>k_is)
  (case c7=>k_is)
  (case k7=>k_is)
  (case a8=>k_is)
  (case i8=>k_is)
  (case l8=>k_is)
  (case c8=>k_is)
  (case k8=>k_is)
  (case a9=>k_is)
  (case l9=>k_is)
  (case c9=>k_is)
  (case k9=>k_is)
  (case a10=>k_is)
  (case l10=>k_is)
  (case c10=>k_is)
  (case k10=>k_is)
  (case a11=>k_is)
  (case l11=>k_is)
  (case c11=>k_is)
  (case k11=>k_is)
  (case a12=>k_is)
  (case l12=>k_is)
  (case t12=>k_is)
  (case c12=>k_is)
  (case k12=>k_is)
  (case a13=>k_is)
  (case l13=>k_is)
  (case c13=>k_is)
  (case k13=>k_is)
  (case a14=>k_is)
  (case l14=>k_is)
  (case c14=>k_is)
  (case k14=>k_is)
  (case a15=>k_is)
  (case l15=>k_is)
  (case c15=>k_is)
  (case k15=>k_is)
  (case a16=>k_is)
  (case l16=>k_is)
  (case c16=>k_is)
  (case k16=>k_is)
  (case a17=>k_is)
  (case l17=>k_is)
  (case c17=>k_is)
  (case k17=>k_is)
  (case a18=>k_is)
  (case l18=>k_is)
  (case c18=>k_is)
  (case k18=>k_is)
  (case a19=>k_is)
  (case l19=>k_is)
  (case c19=>k_is)
  (case k19=>k_is)
  (case a20=>k_is)
  (case l20=>k_is)
  (case c20=>k_is)
  (case k20=>k_is)
  (case a21=>k_is)
  (case l21=>k_is)
  (case c21=>k_is)
  (case k21=>k_is)
  (case a22=>k_is)
  (case l22=>k_is)
  (case c22=>k_is)
  (case k22=>k_is)
  (case a23=>k_is)
  (case l23=>k_is)
  (case c23=>k_is)
  (case k23=>k_is)
  (case a24=>k_is)
  (case l24=>k_is)
  (case c24=>k_is)
  (case k24=>k_is)
  (case a25=>k_is)
  (case l25=>k_is)
  (case c25=>k_is)
  (case k25=>k_is)
  (case a26=>k_is)
  (case l26=>k_is)
  (case c26=>k_is)
  (case k26=>k_is)
  (case a27=>k_is)
  (case l27=>k_is)
  (case c27=>k_is)
  (case k27=>k_is)
  (case a28=>k_is)
  (case l28=>k_is)
  (case c28=>k_is)
  (case k28=>k_is)
  (case a29=>k_is)
  (case l29=>k_is)
  (case c29=>k_is)
  (case k29=>k_is)
  (case a30=>k_is)
  (case l30=>k_is)
  (case c30=>k_is)
  (case k30=>k_is)
  (case a31=>k_is)
  (case l31=>k_is)
  (case c31=>k_is)
  (case k31=>k_is)
  (case a32=>k_is)
  (case l32=>k_is)
  (case c32=>k_is)
  (case k32=>k_is)
  (case a33=>k_is)
  (case l33=>k_is)
  (case c33=>k_is)
  (case k33=>k_is)
  (case a34=>k_is)
  (case l34=>k_is)
  (case c34=>k_is)
  (case k34=>k_is)
  (case a35=>k_is)
  (case l35=>k_is)
  (case c35=>k_is)
  (case k35=>k_is)
  (case a36=>k_is)
  (case l36=>k_is)
  (case c36=>k_is)
  (case k36=>k_is)
  (case pg=>k_is)
  (case hd=>k_is)
  (case po=>k_is)
  (case sa=>k_is)
  (case mk=>k_is)
  (case kc=>k_is)
  (case n_kept_rest=>k_is)
  (case n_spans=>k_is)
  (case xT=>k_is)
  (case xH=>k_is)
  (case xl=>k_is)
  (case xmr=>rfl)
  (case xdl=>rfl)
  (case xtl=>kernel_rfl)
  (case xok=>kernel_rfl)
  (case xin=>k_is)
  (case xli=>k_is)
  (case xci=>k_is)
  (case xki=>k_is)
  (case xkp=>k_is)
  (case xsa=>k_is)
  (case xtk=>k_is)
  (case xhd=>k_is)
  (case xsub=>k_is)
  (case xsubH=>k_is)
  (case xga=>k_is)
  (case xgt=>k_is)
  (case xna=>k_is)
  (case xrd=>k_is)
  (case xfc=>k_is)
  (case xsp=>k_is)
  (case xse=>k_is)
  (case xnt=>k_is)
  (case xcl=>k_is)
  (case xntH=>k_is)
  (case xclH=>k_is)
  (case xexH=>k_is)
  (case xtyH=>k_is)
  (case b_all=>k_is)
  (case b_bool=>k_is)
  (case b_dict=>k_is)
  (case b_enumerate=>k_is)
  (case b_int=>k_is)
  (case b_isinstance=>k_is)
  (case b_len=>k_is)
  (case b_list=>k_is)
  (case b_max=>k_is)
  (case b_min=>k_is)
  (case b_range=>k_is)
  (case b_str=>k_is)
  (case b_sum=>k_is)
  (case b_tuple=>k_is)
  (case b_zip=>k_is)
  (case c_FIGURES=>k_is)
  (case c_LETTERS=>k_is)
  (case c_MOST_COUNTERS=>k_is)
  (case c_MOST_ROWS=>k_is)
  (case c_MOST_SIGNS=>k_is)
  (case c_MOST_TURNS=>k_is)
#print axioms PySem.Challenge.cw_latestturn_k81_waits_and_tolls_holds
end

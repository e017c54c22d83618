import PyProof.Rows.All
import Wide.All
import OpenK.AllK
import Wide.FinOn
import Lean
import PyProof.EqAt
import PyProof.EqKinds
import PyProof.TupleCall
import KE.KPairComp
import PyProof.SumWalkG
import PyProof.WalkInts
import PyProof.Rows.SortStr
import PyProof.Rows.SortWalk
import PySem.Challenge.RW_latestturn_k31_latest_turns
set_option Elab.async false
set_option linter.all false
set_option maxRecDepth 100000
set_option maxHeartbeats 4000000
noncomputable section
set_option maxHeartbeats 4000000
namespace L2
open PySem PySem.Spec PyProof.Rows
abbrev Key:=Sum Int Str
def keyIs:Key->Value->Bool
 |.inl k,v=>Value.isInt k v
 |.inr x,v=>Value.isStrOf x v
def keyH (w:World):Key->Int
 |.inl k=>hashInt k
 |.inr x=>hashStr w x
theorem yE:∀ {k:Key}{v:Value},keyIs k v=true->(∃i t,k=Sum.inl i/\v=Value.int i t)∨(∃x t,k=Sum.inr x/\v=Value.str x t)
 |.inl i,v,h=>by
  obtain⟨t,e⟩:=Value.isInt_shape (k:=i) (v:=v) h
  exact .inl ⟨i,t,rfl,e⟩
 |.inr x,v,h=>by
  obtain⟨t,e⟩:=Value.isStrOf_shape (x:=x) (v:=v) h
  exact .inr ⟨x,t,rfl,e⟩
theorem KJ (i:Int)(t:Tok):keyIs (.inl i) (.int i t)=true:=by simp[keyIs,Value.isInt]
theorem KZ (x:Str)(t:Tok):keyIs (.inr x) (.str x t)=true:=by simp[keyIs,Value.isStrOf]
theorem zae (a b:Int):decide ((Sum.inl a:Key)=Sum.inl b)=(a==b):=by
 by_cases e:a=b
 ·subst e;simp
 ·have h:¬(Sum.inl a:Key)=Sum.inl b:=λq=>e (Sum.inl.inj q)
  rw[decide_eq_false h]
  exact (beq_eq_false_iff_ne.mpr e).symm
theorem QU (a b:Str):decide ((Sum.inr a:Key)=Sum.inr b)=decide (a=b):=by
 by_cases e:a=b
 ·subst e;simp
 ·have h:¬(Sum.inr a:Key)=Sum.inr b:=λq=>e (Sum.inr.inj q)
  rw[decide_eq_false h,decide_eq_false e]
theorem UE (a:Int)(b:Str):decide ((Sum.inl a:Key)=Sum.inr b)=false:=decide_eq_false (λq=>nomatch q)
theorem Rm (a:Str)(b:Int):decide ((Sum.inr a:Key)=Sum.inl b)=false:=decide_eq_false (λq=>nomatch q)
def zR (prog:Program)(w:World):PySem.KeyKind prog w Key where
 is:=keyIs
 hash:=keyH w
 inj:=λv a b ha hb=>by
  rcases yE ha with⟨i,t,rfl,rfl⟩ | ⟨x,t,rfl,rfl⟩
  ·rcases yE hb with⟨j,u,rfl,e⟩ | ⟨y,u,rfl,e⟩
   ·injection e with e1 _;rw[e1]
   ·exact nomatch e
  ·rcases yE hb with⟨j,u,rfl,e⟩ | ⟨y,u,rfl,e⟩
   ·exact nomatch e
   ·injection e with e1 _;rw[e1]
 byValue:=λk v h=>by
  rcases yE h with⟨i,t,rfl,rfl⟩ | ⟨x,t,rfl,rfl⟩<;>rfl
 pyHash:=λhv h=>by
  rcases yE hv with⟨i,t,rfl,rfl⟩ | ⟨x,t,rfl,rfl⟩
  ·exact wpAny_pyHash_int h
  ·exact wpAny_pyHash_str h
 eqBool:=λhu hv h=>by
  rcases yE hu with⟨i,t,rfl,rfl⟩ | ⟨x,t,rfl,rfl⟩
  ·rcases yE hv with⟨j,u,rfl,rfl⟩ | ⟨y,u,rfl,rfl⟩
   ·rw[zae] at h;exact wpAny_eqBool_int h
   ·rw[UE] at h;exact SeqAt.EqAt.int_str i t y u _ _ _ _ h
  ·rcases yE hv with⟨j,u,rfl,rfl⟩ | ⟨y,u,rfl,rfl⟩
   ·rw[Rm] at h;exact SeqAt.EqAt.str_int x t j u _ _ _ _ h
   ·rw[QU] at h;exact wpAny_eqBool_str h
 «strs»:=λk x t v h=>by
  rcases yE h with⟨i,u,rfl,e⟩ | ⟨y,u,rfl,e⟩
  ·exact nomatch e
  ·injection e with e1 _
   subst e1
   cases v<;>rfl
theorem UL (prog:Program)(w:World)(i:Int)(t:Tok):(zR prog w).is (.inl i) (.int i t)=true:=KJ i t
theorem KI (prog:Program)(w:World)(x:Str)(t:Tok):(zR prog w).is (.inr x) (.str x t)=true:=KZ x t
inductive V where
 |non | bl (b:Bool) | int (i:Int) | str (x:Str) | byt (b:Array UInt8) | flt (b:UInt64) | ref (a:Addr) | ty (n:String)
 deriving DecidableEq
def RelV:V->Value->Prop
 |.non,u=>u=Value.none
 |.bl b,u=>u=Value.bool b
 |.int i,u=>∃t,u=Value.int i t
 |.str x,u=>∃t,u=Value.str x t
 |.byt b,u=>∃t,u=Value.bytes b t
 |.flt b,u=>∃t,u=Value.float b t
 |.ref a,u=>u=Value.ref a
 |.ty n,u=>u=Value.type n
abbrev Vals:List V->List Value->Prop:=Paired RelV
theorem Vals.length {xs:List V}{us:List Value}(r:Vals xs us):xs.length=us.length:=Paired.length r
theorem Vals.get:∀ {xs:List V}{us:List Value}{i:Nat}{x:V},Vals xs us->xs[i]?=some x->∃u,us[i]?=some u/\RelV x u
 |_,_,_,_,.nil,e=>by simp at e
 |_,_,0,_,.cons r _,e=>by simp at e;subst e;exact⟨_,rfl,r⟩
 |_,_,i+1,x,.cons _ t,e=>by
  obtain⟨u,h1,h2⟩:=Vals.get (i:=i) (x:=x) t (by simpa using e)
  exact⟨u,by simpa using h1,h2⟩
theorem Vals.set {x:V}{u:Value}(r:RelV x u):∀ {xs:List V}{us:List Value}(i:Nat),Vals xs us->Vals (xs.set i x) (us.set i u)
 |_,_,_,.nil=>.nil
 |_,_,0,.cons _ t=>.cons r t
 |_,_,i+1,.cons q t=>.cons q (Vals.set r i t)
theorem Vals.append:∀ {xs ys:List V}{us ws:List Value},Vals xs us->Vals ys ws->Vals (xs++ys) (us++ws)
 |_,_,_,_,.nil,s=>s
 |_,_,_,_,.cons r t,s=>.cons r (Vals.append t s)
theorem Vals.take:∀ {xs:List V}{us:List Value}(n:Nat),Vals xs us->Vals (xs.take n) (us.take n)
 |_,_,0,_=>.nil
 |_,_,_+1,.nil=>.nil
 |_,_,n+1,.cons r t=>.cons r (Vals.take n t)
theorem Vals.drop:∀ {xs:List V}{us:List Value}(n:Nat),Vals xs us->Vals (xs.drop n) (us.drop n)
 |_,_,0,r=>r
 |_,_,_+1,.nil=>.nil
 |_,_,n+1,.cons _ t=>Vals.drop n t
def RelO:Option V->Option Value->Prop
 |some v,some u=>RelV v u
 |none,none=>True
 |_,_=>False
def KV {κ:Type}:List (κ×V)->List (κ×Value)->Prop:=Paired λ(p:κ×V)(q:κ×Value)=>p.1=q.1/\RelV p.2 q.2
def kV:Key->V
 |.inl i=>.int i
 |.inr x=>.str x
inductive HO where
  |lst (xs:List V)
  |tup (xs:List V)
  |dK (kvs:List (Key×V)) | dT (kvs:List (List Key×V))
  |set (S:Int->Bool) (n:Nat)
  |ins (C dx:Addr) (fs:List (Str×V))
  |own (x:Addr)
  |xd (fs:List (Str×V))
  |met (f x:Addr)
  |rng (lo hi:Int)
  |frz (o:Obj) (u:HO)
  |tbl (ps:Array Value)
  |ext (φ:Heap->Prop)
abbrev Hp:=Addr->Option HO
def upd (H:Hp)(a:Addr)(o:HO):Hp:=λb=>if b=a then some o else H b
theorem zk {H:Hp}{a:Addr}{o:HO}:upd H a o a=some o:=by unfold upd;rw[if_pos rfl]
theorem zg {H:Hp}{a b:Addr}{o:HO}(h:b≠a):upd H a o b=H b:=by unfold upd;rw[if_neg h]
theorem uF {H:Hp}{a:Addr}{o u:HO}:upd (upd H a o) a u=upd H a u:=by
 funext b;unfold upd;split<;>rfl
theorem zu {H:Hp}{a b:Addr}{o:HO}(h:H a=some o)(h':H b=none):a≠b:=by
 intro e;subst e;rw[h] at h';cases h'
section
variable (P:Program)(w:World)
def ObjOk (H:Hp)(h:Heap)(a:Addr):HO->Prop
 |.lst xs=>xs.length<=sizeLine/\∃(its:List Value) (n:Nat),Vals xs its/\h.get? a=some { cls:=.type "list",data:=.seq its.toArray n }
 |.tup xs=>xs.length<=sizeLine/\∃its:List Value,Vals xs its/\IsTup h a its.toArray
 |.dK kvs=>kvs.length<=sizeLine/\(a==sysModules)=false/\∃vs,KV kvs vs/\h.DictOf (zR P w) a vs
 |.dT kvs=>kvs.length<=sizeLine/\(a==sysModules)=false/\∃xs:List (List Key×Addr×Value),
   Paired (λ(p:List Key×V) (q:List Key×Addr×Value)=>p.1=q.1/\H q.2.1=some (.tup (p.1.map kV))/\RelV p.2 q.2.2) kvs xs /\
   ∃o es ep,h.get? a=some o/\o.ExactDict/\o.data=.dict es ep/\es.toList=xs.map (entryOfKey (tupleKind (zR P w)))/\(xs.map (·.1)).Nodup
 |.set S n=>h.SetOf (intKind P w) a S n
 |.ins C dx fs=>H dx=some (.own a)/\fs.length<=1000/\dx≠a/\h.get? a=some (PySem.W.instObj C dx) /\
   ∃mA,h.Ns1 dx mA/\(∀f,RelO (fs.lookup f) (mA f))/\PySem.Within mA (fs.map (·.1))
 |.own _=>∃o,h.get? a=some o
 |.xd fs=>∃mA,h.Ns1 a mA/\∀f,RelO (fs.lookup f) (mA f)
 |.rng lo hi=>∃t u v,h.get? a=some { cls:=.type "range",data:=.fields #[.int lo t,.int hi u,.int 1 v] }
 |.frz o u=>h.get? a=some o/\ObjOk H h a u
 |.tbl ps=>h.get? a=some { cls:=.none,data:=.fields ps }
 |.met f x=>h.get? a=some (PySem.W.methodObj (.ref f) (.ref x))
 |.ext φ=>φ h/\(∃o,h.get? a=some o)/\∀h1 h2:Heap,φ h1->(∀o,h1.get? a=some o->h2.get? a=some o)->φ h2
def HOk (H:Hp)(h:Heap):Prop:=∀a o,H a=some o->ObjOk P w H h a o
end
section
variable {P:Program}{w:World}{H H':Hp}{h h':Heap}{a:Addr}{o:HO}
theorem ObjOk.lt (x:ObjOk P w H h a o):a < h.objs.size:=by
 cases o with
 |lst xs=>obtain⟨_,_,_,_,e⟩:=x;exact Heap.lt_size e
 |tup xs=>obtain⟨_,_,_,p⟩:=x;exact p.lt
 |dK kvs=>obtain⟨_,_,_,_,o,_,_,e,_⟩:=x;exact Heap.lt_size e
 |dT kvs=>obtain⟨_,_,_,_,o,_,_,e,_⟩:=x;exact Heap.lt_size e
 |set S n=>obtain⟨o,_,_,_,e,_⟩:=x;exact Heap.lt_size e
 |ins C dx fs=>obtain⟨_,_,_,e,_⟩:=x;exact Heap.lt_size e
 |own y=>obtain⟨_,e⟩:=x;exact Heap.lt_size e
 |xd fs=>obtain⟨_,⟨_,_,_,e,_⟩,_⟩:=x;exact Heap.lt_size e
 |rng lo hi=>obtain⟨_,_,_,e⟩:=x;exact Heap.lt_size e
 |frz ob u=>obtain⟨e,_⟩:=x;exact Heap.lt_size e
 |tbl ps=>exact Heap.lt_size (show h.get? a=some _ from x)
 |met f y=>exact Heap.lt_size (show h.get? a=some _ from x)
 |ext φ=>obtain⟨_,⟨_,e⟩,_⟩:=x;exact Heap.lt_size e
theorem Paired.mapP {α β:Type}{F G:α->β->Prop}:∀ {l₁:List α}{l₂:List β},Paired F l₁ l₂->(∀a b,F a b->G a b)->Paired G l₁ l₂
 |_,_,.nil,_=>.nil
 |_,_,.cons r t,f=>.cons (f _ _ r) (Paired.mapP t f)
theorem Paired.imp' {α β:Type}{F G:α->β->Prop}(f:∀a b,F a b->G a b){l₁:List α}{l₂:List β}(r:Paired F l₁ l₂):Paired G l₁ l₂:=Paired.mapP r f
theorem ObjOk.stay (x:ObjOk P w H h a o)(k:∀b u,(b=a∨H b=some (.own a))->h.get? b=some u->h'.get? b=some u)
  (ho:∀b,H b=some (.own a)->H' b=some (.own a)) (ht:∀b xs,H b=some (.tup xs)->H' b=some (.tup xs)):ObjOk P w H' h' a o:=by
 induction o with
 |lst xs=>obtain⟨z,its,n,r,e⟩:=x;exact⟨z,its,n,r,k _ _ (.inl rfl) e⟩
 |tup xs=>obtain⟨z,its,r,ob,e,c⟩:=x;exact⟨z,its,r,ob,k _ _ (.inl rfl) e,c⟩
 |dK kvs=>obtain⟨z,y,vs,r,ob,es,ep,e,c⟩:=x;exact⟨z,y,vs,r,ob,es,ep,k _ _ (.inl rfl) e,c⟩
 |dT kvs=>
  obtain⟨z,y,xs,r,ob,es,ep,e,c⟩:=x
  exact⟨z,y,xs,Paired.mapP r λp q z=>⟨z.1,ht _ _ z.2.1,z.2.2⟩,ob,es,ep,k _ _ (.inl rfl) e,c⟩
 |set S n=>obtain⟨ob,es,ep,t,e,c⟩:=x;exact⟨ob,es,ep,t,k _ _ (.inl rfl) e,c⟩
 |ins C dx fs=>
  obtain⟨d,z,ne,e,mA,⟨od,es,ep,e2,c⟩,r⟩:=x
  exact⟨ho _ d,z,ne,k _ _ (.inl rfl) e,mA,⟨od,es,ep,k _ _ (.inr d) e2,c⟩,r⟩
 |own y=>obtain⟨ob,e⟩:=x;exact⟨ob,k _ _ (.inl rfl) e⟩
 |xd fs=>obtain⟨mA,⟨od,es,ep,e,c⟩,r⟩:=x;exact⟨mA,⟨od,es,ep,k _ _ (.inl rfl) e,c⟩,r⟩
 |rng lo hi=>obtain⟨t,u,v,e⟩:=x;exact⟨t,u,v,k _ _ (.inl rfl) e⟩
 |frz ob u ih=>obtain⟨e,q⟩:=x;exact⟨k _ _ (.inl rfl) e,ih q⟩
 |tbl ps=>
  have e:h.get? a=some { cls:=.none,data:=.fields ps }:=x
  show h'.get? a=some { cls:=.none,data:=.fields ps }
  exact k a _ (.inl rfl) e
 |met f y=>
  have e:h.get? a=some (PySem.W.methodObj (.ref f) (.ref y)):=x
  show h'.get? a=some (PySem.W.methodObj (.ref f) (.ref y))
  exact k a _ (.inl rfl) e
 |ext φ=>obtain⟨p,⟨o,e⟩,st⟩:=x;exact⟨st _ _ p λo q=>k _ _ (.inl rfl) q,⟨o,k _ _ (.inl rfl) e⟩,st⟩
theorem HOk.lt (x:HOk P w H h)(e:H a=some o):a < h.objs.size:=(x a o e).lt
theorem HOk.fresh (x:HOk P w H h)(e:h.objs.size<=a):H a=none:=by
 cases q:H a with
 |none=>rfl
 |some u=>exact absurd (Nat.lt_of_lt_of_le (x.lt q) e) (Nat.lt_irrefl _)
theorem HOk.kept (x:HOk P w H h)(k:∀b u,h.get? b=some u->h'.get? b=some u):HOk P w H h':=λa o e=>
 (x a o e).stay (λb u _ q=>k b u q) (λ_ q=>q) λ_ _ q=>q
theorem HOk.laid (x:HOk P w H h)(k:∀b u,h.get? b=some u->h'.get? b=some u)(hp:h.objs.size<=a)(new:ObjOk P w (upd H a o) h' a o):HOk P w (upd H a o) h':=λb u e=>by
 have hn:=x.fresh hp
 by_cases hb:b=a
 ·subst hb;rw[zk] at e;cases e;exact new
 ·rw[zg hb] at e
  exact (x b u e).stay (λc v _ q=>k c v q) (λc q=>by rw[zg (zu q hn)];exact q) λc xs q=>by rw[zg (zu q hn)];exact q
end
def Rd (H:Hp)(a:Addr)(u:HO):Prop:=H a=some u∨∃o,H a=some (.frz o u)
theorem Rd.ok {P:Program}{w:World}{H:Hp}{h:Heap}{a:Addr}{u:HO}(r:Rd H a u)(x:HOk P w H h):ObjOk P w H h a u:=by
 rcases r with r | ⟨o,r⟩
 ·exact x a u r
 ·obtain⟨_,q⟩:=x a _ r
  exact q
def Mut:Option HO->Prop
 |some (.lst _)=>True
 |some (.dK _)=>True
 |some (.dT _)=>True
 |some (.set _ _)=>True
 |some (.ins _ _ _)=>True
 |some (.ext _)=>True
 |_=>False
section
variable {P:Program}{w:World}{H:Hp}{h h':Heap}{x e:Addr}{o':HO}
theorem HOk.write (ok:HOk P w H h)(mu:Mut (H x))(he:e=x∨H e=some (.own x))(k:∀b u,b≠e->h.get? b=some u->h'.get? b=some u)(heo:∃u,h'.get? e=some u)
  (new:ObjOk P w (upd H x o') h' x o'):HOk P w (upd H x o') h':=λb u q=>by
 have nown:∀c y,H c=some (.own y)->c≠x:=λc y r z=>by subst z;rw[r] at mu;exact mu
 have ntup:∀c xs,H c=some (.tup xs)->c≠x:=λc xs r z=>by subst z;rw[r] at mu;exact mu
 by_cases hb:b=x
 ·subst hb;rw[zk] at q;cases q;exact new
 ·rw[zg hb] at q
  by_cases hbe:b=e
  ·have q':H b=some (.own x):=by
    rcases he with z | z
    ·exact absurd (hbe.trans z) hb
    ·rw[hbe];exact z
   rw[q] at q';cases q'
   obtain⟨v,hv⟩:=heo
   exact⟨v,by rw[hbe];exact hv⟩
  ·refine (ok b u q).stay (λc v hc r=>k c v ?_ r) (λc r=>by rw[zg (nown c b r)];exact r) λc xs r=>by rw[zg (ntup c xs r)];exact r
   rcases hc with rfl | hc
   ·exact hbe
   ·rintro rfl
    rcases he with z | z
    ·exact nown c b hc z
    ·rw[hc] at z;cases z;exact hb rfl
end
structure Un (fs ex:List Addr)(H H':Hp)(h h':Heap):Prop where
 keep:∀b o,h.get? b=some o->H b=none->b∉fs->b∉ex->h'.get? b=some o
 slot:∀b o,h.get? b=some o->H b=none->b∈fs->b∉ex->∃sl,h'.get? b=some { o with slots:=sl }
 free:∀b o,h.get? b=some o->H b=none->b∉ex->H' b=none
 there:∀b o,h.get? b=some o->b∉ex->∃o',h'.get? b=some o'
 tups:∀b xs,H b=some (.tup xs)->H' b=some (.tup xs)
 frzs:∀b o u,H b=some (.frz o u)->H' b=some (.frz o u)
 tbls:∀b ps,H b=some (.tbl ps)->∃more,H' b=some (.tbl (ps++more))
section
variable {fs fs' ex ex':List Addr}{H H1 H2:Hp}{h h1 h2 h':Heap}{a x e:Addr}{o:HO}
theorem Un.any (u:Un fs ex H H1 h h1){b:Addr}{ob:Obj}(q:h.get? b=some ob)(n:H b=none)(hx:b∉ex):∃sl,h1.get? b=some { ob with slots:=sl }:=by
 by_cases hb:b∈fs
 ·exact u.slot b ob q n hb hx
 ·exact⟨ob.slots,u.keep b ob q n hb hx⟩
theorem Un.kept (k:∀b u,h.get? b=some u->h'.get? b=some u):Un fs ex H H h h' :=
 ⟨λb ob q _ _ _=>k b ob q,λb ob q _ _ _=>⟨ob.slots,k b ob q⟩,λ_ _ _ n _=>n,λb ob q _=>⟨ob,k b ob q⟩,λ_ _ q=>q,λ_ _ _ q=>q,λ_ ps q=>⟨#[],by rw[q];simp⟩⟩
theorem Un.refl:Un fs ex H H h h:=Un.kept λ_ _ q=>q
theorem Un.laid (k:∀b u,h.get? b=some u->h'.get? b=some u)(hp:h.objs.size<=a)(hn:H a=none):Un fs ex H (upd H a o) h h' where
 keep:=λb u q _ _ _=>k b u q
 slot:=λb u q _ _ _=>⟨u.slots,k b u q⟩
 free:=λb u q n _=>by rw[zg (Nat.ne_of_lt (Nat.lt_of_lt_of_le (Heap.lt_size q) hp))];exact n
 there:=λb u q _=>⟨u,k b u q⟩
 tups:=λb xs q=>by rw[zg (zu q hn)];exact q
 frzs:=λb u xs q=>by rw[zg (zu q hn)];exact q
 tbls:=λb ps q=>⟨#[],by rw[zg (zu q hn),q];simp⟩
theorem Un.write (mu:Mut (H x))(he:e=x∨H e=some (.own x))(k:∀b u,b≠e->h.get? b=some u->h'.get? b=some u)(heo:∃u,h'.get? e=some u):Un fs ex H (upd H x o) h h':=by
 have hx:∀b,H b=none->b≠x:=λb n z=>by subst z;rw[n] at mu;exact mu
 have hb:∀b,H b=none->b≠e:=λb n z=>by
  subst z
  rcases he with r | r
  ·exact hx b n r
  ·rw[n] at r;cases r
 have hm:∀b u,H b=some u->¬Mut (some u)->b≠x:=λb u q nm z=>by subst z;rw[q] at mu;exact nm mu
 refine⟨λb u q n _ _=>k b u (hb b n) q,λb u q n _ _=>⟨u.slots,k b u (hb b n) q⟩,λb u q n _=>by rw[zg (hx b n)];exact n,λb u q _=>?_,
  λb xs q=>by rw[zg (hm b _ q λz=>z)];exact q,λb u xs q=>by rw[zg (hm b _ q λz=>z)];exact q,λb ps q=>⟨#[],by rw[zg (hm b _ q λz=>z),q];simp⟩⟩
 by_cases hbe:b=e
 ·subst hbe;exact heo
 ·exact⟨u,k b u hbe q⟩
end
def trk (h:Heap)(H:Hp):List Addr:=(List.range h.objs.size).filter λa=>(H a).isSome
def hidT (h:Heap)(H:Hp):Heap:=PySem.W.hideAll h (trk h H)
theorem RY (h:Heap)(H:Hp):(hidT h H).objs.size=h.objs.size:=PySem.W.hideAll_size _ _
theorem Ka {h:Heap}{H:Hp}{b:Addr}{o:Obj}(e:h.get? b=some o)(n:H b=none):(hidT h H).get? b=some o :=
 PySem.W.hideAll_get _ e λhm=>by
  have q:(H b).isSome=true:=(List.mem_filter.mp hm).2
  rw[n] at q;simp at q
theorem GI {h:Heap}{H:Hp}{b:Addr}{o:Obj}(e:(hidT h H).get? b=some o):h.get? b=some o/\H b=none:=by
 have e':h.get? b=some o:=PySem.W.of_hideAll (trk h H) e
 refine⟨e',?_⟩
 cases q:H b with
 |none=>rfl
 |some x=>
  have hm:b∈trk h H:=List.mem_filter.mpr ⟨List.mem_range.mpr (Heap.lt_size e'),by simp[q]⟩
  have z:(hidT h H).get? b=none:=PySem.W.hideAll_none (trk h H) hm
  rw[z] at e;cases e
def U8 (g h:Heap)(L:Addr):List (Addr×Obj):=(List.range h.objs.size).filterMap λa=>if a=L∨(g.get? a).isSome=true then none else (h.get? a).map λo=>(a,o)
def rest (g h:Heap)(L d:Addr):List (Addr×Obj):=(U8 g h L).filter λp=>decide (p.1≠d)
structure Mod (K:PySem.W.Frag)(mg:Str->Option Value)(base:Heap):Prop where
 kin:K.In base
 glob:base.Ns mainGlobals mg
 blt:∃mb,base.Ns builtinsNs mb/\∀x:Str,x ≠ "__name__" -> mb x=bootBuiltins x
 nolimit:base.NoLimit
structure Cx where
 prog:Program
 w:World
 K:PySem.W.Frag
 mg:Str->Option Value
 base:Heap
 A:Around
 N:List Str
 s₀:Shared
 H₀:Hp
 env:Env
 outer:List Env
 stack:List Env
 ex:List Addr
 fn:Str->Bool
 calm:Bool
 pn:List (Addr×Obj)
 xe:Value->Shared->Prop
def frs (l:List Env):List Addr:=l.filterMap (·.frame)
abbrev Cx.fs (X:Cx):List Addr:=frs X.outer
def Vis (sc:Scope)(x:Str):Prop:=sc.names.lookup x=some .local∨sc.names.lookup x=some .cell∨sc.names.lookup x=some .free
def Loc (sc:Scope)(x:Str):Prop:=sc.names.lookup x=some .local∨sc.names.lookup x=some .cell
def Look (env:Env)(h:Heap)(m:Str->Option Value)(x:Str)(u:Value):Prop :=
 (env.kindOf x=some .local/\m x=some u)∨((env.kindOf x=some .cell∨env.kindOf x=some .free)/\∃c,env.cells.lookup x=some c/\h.IsCell c (some u))
structure Cx.Ok (X:Cx):Prop where
 mod:Mod X.K X.mg X.base
 kind:X.env.scope.kind=.function
 glob:X.env.globals=mainGlobals
 blt:X.env.builtins=builtinsNs
 above:X.s₀.heap.objs.size<=X.env.locals
 inj:∀x y c,X.env.cells.lookup x=some c->X.env.cells.lookup y=some c->x=y
 has:∀x,(X.env.kindOf x=some .cell∨X.env.kindOf x=some .free)->∃c,X.env.cells.lookup x=some c
 cab:∀x c,X.fn x=true->X.env.cells.lookup x=some c->X.s₀.heap.objs.size<=c
 hd:X.calm=true->X.A.handled=none
 frames:X.A.frames=some X.stack
 stk:X.stack=X.outer∨(X.stack=X.env::X.outer/\X.env.frame=some X.env.locals)
 exf:∀b∈X.ex,b≠X.env.locals/\∀x c,X.env.cells.lookup x=some c->c≠b
 bs:∀b o,X.base.get? b=some o->X.s₀.heap.get? b=some o/\X.H₀ b=none
 bsz:X.base.objs.size<=X.s₀.heap.objs.size
 noex:∀b o,X.base.get? b=some o->b∉X.ex
 exfs:∀b∈X.ex,b∉X.fs
 funs:X.s₀.heap.FunFrames X.base X.outer
 frf:∀b∈X.fs,X.H₀ b=none
structure Inv (X:Cx)(pins:List (Addr×Obj))(σ:List (Option V))(H:Hp)(s:Shared):Prop where
 ok:X.Ok
 os:s.os=X.s₀.os
 bare:AllBare s.gens
 base:Un X.fs X.ex X.H₀ H X.s₀.heap s.heap
 loc:∃m,s.heap.Ns X.env.locals m/\∀(i:Nat) (x:Str) (v:V),X.N[i]?=some x->σ[i]?=some (some v)->Vis X.env.scope x->∃u,RelV v u/\Look X.env s.heap m x u
 cell:∀x c,X.env.cells.lookup x=some c->∃v,s.heap.IsCell c v
 free:H X.env.locals=none
 freeC:∀x c,X.env.cells.lookup x=some c->H c=none
 pin:∀p∈X.pn++pins,s.heap.get? p.1=some p.2/\H p.1=none/\p.1≠X.env.locals/\p.1∉X.fs/\∀v,p.2.data≠.cell v
 hok:HOk X.prog X.w H s.heap
 len:σ.length=X.N.length
section
variable {X:Cx}{pins:List (Addr×Obj)}{σ:List (Option V)}{H H':Hp}{s:Shared}{h':Heap}
theorem Cx.Ok.nofr (ok:X.Ok){b:Addr}{o:Obj}(e:X.base.get? b=some o):b∉X.fs:=λhb=>by
 have:=(ok.funs.mem hb).1
 rw[e] at this;cases this
theorem Inv.bs (I:Inv X pins σ H s):∀b o,X.base.get? b=some o->s.heap.get? b=some o/\H b=none:=λb o e=>
 ⟨I.base.keep b o (I.ok.bs b o e).1 (I.ok.bs b o e).2 (I.ok.nofr e) (I.ok.noex b o e),I.base.free b o (I.ok.bs b o e).1 (I.ok.bs b o e).2 (I.ok.noex b o e)⟩
theorem Inv.bk (I:Inv X pins σ H s):∀b o,X.base.get? b=some o->s.heap.get? b=some o:=λb o e=>(I.bs b o e).1
theorem Inv.mod (I:Inv X pins σ H s):Mod X.K X.mg X.base:=I.ok.mod
theorem Inv.kIn (I:Inv X pins σ H s):X.K.In s.heap:=I.ok.mod.kin.keeps I.bk
theorem Inv.lt (I:Inv X pins σ H s):X.env.locals < s.heap.objs.size:=let ⟨_,hn,_⟩:=I.loc;hn.lt
theorem Inv.sz (I:Inv X pins σ H s):X.s₀.heap.objs.size<=s.heap.objs.size:=Nat.le_trans I.ok.above (Nat.le_of_lt I.lt)
theorem Inv.nofs (I:Inv X pins σ H s){a:Addr}(h:s.heap.objs.size<=a):a∉X.fs:=λhb=>by
 obtain⟨_,o,ho,_⟩:=I.ok.funs.mem hb
 exact absurd (Nat.lt_of_lt_of_le (Heap.lt_size ho) (Nat.le_trans I.sz h)) (Nat.lt_irrefl _)
theorem Inv.cne (I:Inv X pins σ H s):∀x c,X.env.cells.lookup x=some c->c≠X.env.locals:=λx c e z=>by
 obtain⟨v,o,ho,hd⟩:=I.cell x c e
 obtain⟨m,⟨o',es,ep,ho',hd',_⟩,_⟩:=I.loc
 rw[z,ho'] at ho;cases ho;rw[hd'] at hd;cases hd
theorem Inv.funs (I:Inv X pins σ H s):s.heap.FunFrames X.base X.outer:=by
 have all:∀(l:List Env),(∀b∈frs l,b∈X.fs)->X.s₀.heap.FunFrames X.base l->s.heap.FunFrames X.base l:=by
  intro l
  induction l with
  |nil=>intro _ _;trivial
  |cons env r ih=>
   intro hs hl
   obtain⟨hk,⟨L,o,hf,hn,ho,hd⟩,hr⟩:=hl
   have hL:L∈X.fs:=hs L (by unfold frs;rw[List.filterMap_cons,hf];exact List.mem_cons_self)
   obtain⟨sl,e⟩:=I.base.slot L o ho (I.ok.frf L hL) hL λz=>I.ok.exfs L z hL
   exact⟨hk,⟨L,_,hf,hn,e,hd⟩,ih (λb hb=>hs b (by unfold frs;rw[List.filterMap_cons,hf];exact List.mem_cons_of_mem _ hb)) hr⟩
 exact all X.outer (λ_ hb=>hb) I.ok.funs
theorem Inv.stack (I:Inv X pins σ H s):s.heap.FunFrames X.base X.stack:=by
 rcases I.ok.stk with e | ⟨e,hf⟩
 ·rw[e];exact I.funs
 ·rw[e]
  obtain⟨m,hn,_⟩:=I.loc
  refine .cons (by rw[I.ok.kind];decide) hf hn ?_ I.funs
  exact Heap.get?_none_of_le (Nat.le_trans I.ok.bsz I.ok.above)
theorem Inv.stkSub (I:Inv X pins σ H s):∀b∈frs X.stack,b∈X.env.locals::X.fs:=λb hb=>by
 rcases I.ok.stk with e | ⟨e,hf⟩
 ·rw[e] at hb;exact List.mem_cons_of_mem _ hb
 ·rw[e] at hb
  unfold frs at hb
  rw[List.filterMap_cons,hf] at hb
  exact hb
theorem Inv.stkFree (I:Inv X pins σ H s):∀b∈frs X.stack,H b=none:=λb hb=>by
 rcases List.mem_cons.mp (I.stkSub b hb) with e | hb
 ·rw[e];exact I.free
 ·obtain⟨_,o,ho,_⟩:=I.ok.funs.mem hb
  exact I.base.free b o ho (I.ok.frf b hb) λz=>I.ok.exfs b z hb
theorem Inv.step {g':Array GenState}{t':Nat}{d':Drawn}{ch:List Addr}(I:Inv X pins σ H s)
  (hch:∀b∈ch,(b∈X.ex∨X.s₀.heap.objs.size<=b)/\b≠X.env.locals/\(∀x c,X.env.cells.lookup x=some c->c≠b)/\∀p∈X.pn++pins,p.1≠b)
  (keep:∀b o,b≠X.env.locals->b∉X.fs->b∉ch->s.heap.get? b=some o->H b=none->h'.get? b=some o)
  (slot:∀b o,b≠X.env.locals->b∈X.fs->b∉ch->s.heap.get? b=some o->H b=none->∃sl,h'.get? b=some { o with slots:=sl }) (free:∀b o,b∉ch->s.heap.get? b=some o->H b=none->H' b=none)
  (there:∀b o,b∉ch->s.heap.get? b=some o->∃o',h'.get? b=some o')
  (tups:∀b xs,H b=some (.tup xs)->H' b=some (.tup xs)) (frzs:∀b o u,H b=some (.frz o u)->H' b=some (.frz o u)) (tbls:∀b ps,H b=some (.tbl ps)->∃more,H' b=some (.tbl (ps++more)))
  (ns:∀m,s.heap.Ns X.env.locals m->h'.Ns X.env.locals m) (hok:HOk X.prog X.w H' h') (hg:AllBare g') :
  Inv X pins σ H' { s with heap:=h',gens:=g',drawn:=d',toks:=t' }:=by
 have neL:∀b o,X.s₀.heap.get? b=some o->b≠X.env.locals:=λb o e=>Nat.ne_of_lt (Nat.lt_of_lt_of_le (Heap.lt_size e) I.ok.above)
 have neC:∀b o,X.s₀.heap.get? b=some o->b∉X.ex->b∉ch:=λb o e hx hb=>by
  rcases (hch b hb).1 with z | z
  ·exact hx z
  ·exact absurd (Nat.lt_of_lt_of_le (Heap.lt_size e) z) (Nat.lt_irrefl _)
 have cellK:∀x c,X.env.cells.lookup x=some c->∀v,s.heap.IsCell c v->h'.IsCell c v:=λx c e v ⟨o,ho,hd⟩=>by
  have nch:c∉ch:=λz=>(hch c z).2.2.1 x c e rfl
  by_cases hc:c∈X.fs
  ·obtain⟨sl,q⟩:=slot c o (I.cne x c e) hc nch ho (I.freeC x c e)
   exact⟨_,q,hd⟩
  ·exact⟨o,keep c o (I.cne x c e) hc nch ho (I.freeC x c e),hd⟩
 refine⟨I.ok,I.os,hg,⟨λb o e n hb hx=>?_,λb o e n hb hx=>?_,λb o e n hx=>?_,λb o e hx=>?_,λb xs e=>tups b xs (I.base.tups b xs e),λb o xs e=>frzs b o xs (I.base.frzs b o xs e),λb ps e=>?_⟩,?_,λx c e=>?_,?_,λx c e=>?_,λp hp=>?_,hok,I.len⟩
 ·exact keep b o (neL b o e) hb (neC b o e hx) (I.base.keep b o e n hb hx) (I.base.free b o e n hx)
 ·obtain⟨sl,e1⟩:=I.base.slot b o e n hb hx
  obtain⟨sl',e2⟩:=slot b _ (neL b o e) hb (neC b o e hx) e1 (I.base.free b o e n hx)
  exact⟨sl',e2⟩
 ·obtain⟨o',e1⟩:=I.base.there b o e hx
  exact free b o' (neC b o e hx) e1 (I.base.free b o e n hx)
 ·obtain⟨o',e1⟩:=I.base.there b o e hx
  exact there b o' (neC b o e hx) e1
 ·obtain⟨m1,e1⟩:=I.base.tbls b ps e
  obtain⟨m2,e2⟩:=tbls b _ e1
  exact⟨m1++m2,by rw[e2,Array.append_assoc]⟩
 ·obtain⟨m,hn,hl⟩:=I.loc
  refine⟨m,ns m hn,λi x v e1 e2 e3=>?_⟩
  obtain⟨u,r,l⟩:=hl i x v e1 e2 e3
  refine⟨u,r,?_⟩
  rcases l with l | ⟨k,c,e,z⟩
  ·exact .inl l
  ·exact .inr ⟨k,c,e,cellK x c e _ z⟩
 ·obtain⟨v,z⟩:=I.cell x c e
  exact⟨v,cellK x c e v z⟩
 ·obtain⟨m,⟨o,_,_,ho,_⟩,_⟩:=I.loc
  exact free _ o (λz=>(hch _ z).2.1 rfl) ho I.free
 ·obtain⟨v,o,ho,hd⟩:=I.cell x c e
  exact free c o (λz=>(hch c z).2.2.1 x c e rfl) ho (I.freeC x c e)
 ·obtain⟨e,n,ne,nf,d⟩:=I.pin p hp
  have nch:p.1∉ch:=λz=>(hch p.1 z).2.2.2 p hp rfl
  exact⟨keep p.1 p.2 ne nf nch e n,free p.1 p.2 nch e n,ne,nf,d⟩
theorem Inv.un {t':Nat}(I:Inv X pins σ H s)(u:Un X.fs [] H H' s.heap h')(hok:HOk X.prog X.w H' h'):Inv X pins σ H' { s with heap:=h',toks:=t' }:=by
 obtain⟨m,⟨o,es,ep,ho,r⟩,_⟩:=id I.loc
 obtain⟨sl,hL⟩:=u.any ho I.free (by simp)
 exact I.step (g':=s.gens) (d':=s.drawn) (ch:=[]) (λ_ z=>nomatch z) (λb o _ hb _ e n=>u.keep b o e n hb (by simp)) (λb o _ hb _ e n=>u.slot b o e n hb (by simp)) (λb o _ e n=>u.free b o e n (by simp)) (λb o _ e=>u.there b o e (by simp)) u.tups u.frzs u.tbls (λm' hm=>by
  obtain⟨o',es',ep',ho',r'⟩:=hm
  rw[ho] at ho';cases ho'
  exact⟨_,es',ep',hL,r'⟩) hok I.bare
theorem Inv.call {g':Array GenState}{t':Nat}{d':Drawn}{ch:List Addr}(I:Inv X pins σ H s)(u:Un (frs X.stack) ch H H' s.heap h')(hok:HOk X.prog X.w H' h')(hg:AllBare g')
  (hch:∀b∈ch,(b∈X.ex∨X.s₀.heap.objs.size<=b)/\b≠X.env.locals/\(∀x c,X.env.cells.lookup x=some c->c≠b)/\∀p∈X.pn++pins,p.1≠b) :
  Inv X pins σ H' { s with heap:=h',gens:=g',drawn:=d',toks:=t' }:=by
 obtain⟨m,⟨o,es,ep,ho,r⟩,_⟩:=id I.loc
 obtain⟨sl,hL⟩:=u.any ho I.free λz=>(hch _ z).2.1 rfl
 exact I.step (ch:=ch) hch (λb o hL hb hc e n=>u.keep b o e n (λz=>(List.mem_cons.mp (I.stkSub b z)).elim hL hb) hc) (λb o _ _ hc e n=>u.any e n hc) (λb o hc e n=>u.free b o e n hc) (λb o hc e=>u.there b o e hc) u.tups u.frzs u.tbls (λm' hm=>by
  obtain⟨o',es',ep',ho',r'⟩:=hm
  rw[ho] at ho';cases ho'
  exact⟨_,es',ep',hL,r'⟩) hok hg
theorem Inv.turned {t':Nat}{it:Addr}(I:Inv X pins σ H s)(k:∀b o,b≠it->s.heap.get? b=some o->h'.get? b=some o)(hn:H it=none)(hL:it≠X.env.locals)
  (h1:it∈X.ex∨X.s₀.heap.objs.size<=it) (h2:∀x c,X.env.cells.lookup x=some c->c≠it) (h3:∀p∈X.pn++pins,p.1≠it):Inv X pins σ H { s with heap:=h',toks:=t' }:=by
 have nit:∀b u,H b=some u->b≠it:=λb u e z=>by rw[z,hn] at e;cases e
 refine I.step (g':=s.gens) (d':=s.drawn) (ch:=[it]) (λb hb=>?_) (λb o _ _ hc e _=>k b o (λz=>hc (by simp[z])) e) (λb o _ _ hc e _=>⟨o.slots,k b o (λz=>hc (by simp[z])) e⟩) (λ_ _ _ _ n=>n)
  (λb o hc e=>⟨o,k b o (λz=>hc (by simp[z])) e⟩) (λ_ _ e=>e) (λ_ _ _ e=>e) (λb ps e=>⟨#[],by rw[e];simp⟩) (λm hm=>?_) (λb u e=>?_) I.bare
 ·have e:b=it:=by simpa using hb
  subst e
  exact⟨h1,hL,h2,h3⟩
 ·obtain⟨o,es,ep,ho,r⟩:=hm
  exact⟨o,es,ep,k _ o (Ne.symm hL) ho,r⟩
 ·refine (I.hok b u e).stay (λc v hc q=>k c v ?_ q) (λ_ q=>q) λ_ _ q=>q
  rcases hc with z | z
  ·rw[z];exact nit b u e
  ·exact nit c _ z
theorem Inv.tok (I:Inv X pins σ H s)(t:Nat):Inv X pins σ H { s with toks:=t }:=I.un (h':=s.heap) (t':=t) Un.refl I.hok
theorem Inv.kept {t':Nat}(I:Inv X pins σ H s)(k:∀b u,s.heap.get? b=some u->h'.get? b=some u):Inv X pins σ H { s with heap:=h',toks:=t' }:=I.un (Un.kept k) (I.hok.kept k)
theorem Inv.laid {a:Addr}{o:HO}{t':Nat}(I:Inv X pins σ H s)(k:∀b u,s.heap.get? b=some u->h'.get? b=some u)(hp:s.heap.objs.size<=a)(new:ObjOk X.prog X.w (upd H a o) h' a o) :
  Inv X pins σ (upd H a o) { s with heap:=h',toks:=t' }:=I.un (Un.laid k hp (I.hok.fresh hp)) (I.hok.laid k hp new)
theorem Inv.write {x e:Addr}{o:HO}{t':Nat}(I:Inv X pins σ H s)(mu:Mut (H x))(he:e=x∨H e=some (.own x))(k:∀b u,b≠e->s.heap.get? b=some u->h'.get? b=some u)(heo:∃u,h'.get? e=some u)
  (new:ObjOk X.prog X.w (upd H x o) h' x o):Inv X pins σ (upd H x o) { s with heap:=h',toks:=t' }:=I.un (Un.write mu he k heo) (I.hok.write mu he k heo new)
theorem Inv.pins_of {pins':List (Addr×Obj)}(I:Inv X pins σ H s)(h:∀p∈pins',s.heap.get? p.1=some p.2/\H p.1=none/\p.1≠X.env.locals/\p.1∉X.fs/\∀v,p.2.data≠.cell v):Inv X pins' σ H s :=
 ⟨I.ok,I.os,I.bare,I.base,I.loc,I.cell,I.free,I.freeC,λp hp=>(List.mem_append.mp hp).elim (λz=>I.pin p (List.mem_append_left _ z)) (h p),I.hok,I.len⟩
theorem qF {N:List Str}(hN:N.Nodup){i j:Nat}{x:Str}(a:N[i]?=some x)(b:N[j]?=some x):i=j:=by
 obtain⟨h1,e1⟩:=List.getElem?_eq_some_iff.mp a
 obtain⟨h2,e2⟩:=List.getElem?_eq_some_iff.mp b
 exact (List.getElem_inj hN).mp (e1.trans e2.symm)
theorem ua {M:Model}{A:Around}{E:Value->Shared->Prop}{i:Nat}{x:Str}{v:V}{u:Value}{Q:Unit->Shared->Prop}(I:Inv X pins σ H s)(hN:X.N.Nodup)(hi:X.N[i]?=some x)(hx:Loc X.env.scope x)(r:RelV v u)
  (h:∀s',Inv X pins (σ.set i (some v)) H s'->(∃a,Heap.SameBut a s.heap s'.heap/\(a=X.env.locals∨X.env.cells.lookup x=some a))->Q () s') (hf:X.fn x=true∨X.env.scope.names.lookup x=some .local:=by first | exact .inl rfl | exact .inr rfl | assumption):wpAny M A (storeName X.env x u) Q E s:=by
 obtain⟨m,hn,hl⟩:=id I.loc
 have hcls:(X.env.scope.kind==.class||(X.env.scope.kind==.module&&X.env.locals != X.env.globals))=false:=by rw[I.ok.kind];rfl
 have hiσ:i < σ.length:=by rw[I.len];exact (List.getElem?_eq_some_iff.mp hi).1
 have cne:=I.cne
 have tracked:∀ {a:Addr} {h':Heap},(∃o,s.heap.get? a=some o/\H a=none)->Heap.SameBut a s.heap h'->HOk X.prog X.w H h':=fun {a h'} ha hs b ob e=>by
  obtain⟨_,_,hfree⟩:=ha
  refine (I.hok b ob e).stay (λc w' hc q=>(hs.2 c ?_).trans q) (λ_ q=>q) λ_ _ q=>q
  rintro rfl
  rcases hc with rfl | hc
  ·rw[hfree] at e;cases e
  ·rw[hfree] at hc;cases hc
 rcases hx with hk | hk
 ·refine wpAny_storeName_local hk hn (λh' hn' hs=>?_) hcls
  obtain⟨oL,_,_,hoL,_⟩:=id hn
  refine h _ ⟨I.ok,I.os,I.bare,⟨λb o e n hb hx=>?_,λb o e n hb hx=>?_,I.base.free,λb o e hx=>?_,I.base.tups,I.base.frzs,I.base.tbls⟩,⟨_,hn',λj y v' e1 e2 e3=>?_⟩,λy c e=>?_,I.free,I.freeC,λp hp=>?_,tracked ⟨oL,hoL,I.free⟩ hs,by simpa using I.len⟩ ⟨_,hs,.inl rfl⟩
  ·exact (hs.2 b (Nat.ne_of_lt (Nat.lt_of_lt_of_le (Heap.lt_size e) I.ok.above))).trans (I.base.keep b o e n hb hx)
  ·obtain⟨sl,e1⟩:=I.base.slot b o e n hb hx
   exact⟨sl,(hs.2 b (Nat.ne_of_lt (Nat.lt_of_lt_of_le (Heap.lt_size e) I.ok.above))).trans e1⟩
  ·obtain⟨o',e1⟩:=I.base.there b o e hx
   exact⟨o',(hs.2 b (Nat.ne_of_lt (Nat.lt_of_lt_of_le (Heap.lt_size e) I.ok.above))).trans e1⟩
  ·by_cases hj:j=i
   ·subst hj
    rw[hi] at e1;cases e1
    rw[List.getElem?_set_self hiσ] at e2
    cases e2
    exact⟨u,r,.inl ⟨hk,by simp⟩⟩
   ·rw[List.getElem?_set_ne (Ne.symm hj)] at e2
    obtain⟨u',r',q⟩:=hl j y v' e1 e2 e3
    refine⟨u',r',?_⟩
    rcases q with⟨k,e⟩ | ⟨k,c,e,z⟩
    ·refine .inl ⟨k,?_⟩
     have:y≠x:=λe=>hj (qF hN e1 (e ▸ hi))
     simp[this,e]
    ·exact .inr ⟨k,c,e,z.sameBut hs (cne y c e)⟩
  ·obtain⟨w',z⟩:=I.cell y c e
   exact⟨w',z.sameBut hs (cne y c e)⟩
  ·obtain⟨e,n,ne,nf,d⟩:=I.pin p hp
   exact⟨(hs.2 p.1 ne).trans e,n,ne,nf,d⟩
 ·have hfn:X.fn x=true:=by
   rcases hf with z | z
   ·exact z
   ·rw[z] at hk;cases hk
  obtain⟨c,hc⟩:=I.ok.has x (.inl hk)
  obtain⟨w',z⟩:=I.cell x c hc
  refine wpAny_storeName_cell I.ok.kind hk hc z (λh' hc' hs=>?_)
  obtain⟨oc,hoc,hocd⟩:=id z
  refine h { s with heap:=h' } ⟨I.ok,I.os,I.bare,⟨λb o e n hb hx=>?_,λb o e n hb hx=>?_,I.base.free,λb o e hx=>?_,I.base.tups,I.base.frzs,I.base.tbls⟩,⟨m,hn.sameBut hs (Ne.symm (cne x c hc)),λj y v' e1 e2 e3=>?_⟩,λy c' e=>?_,I.free,I.freeC,λp hp=>?_,tracked ⟨oc,hoc,I.freeC x c hc⟩ hs,by simpa using I.len⟩ ⟨c,hs,.inr hc⟩
  ·exact (hs.2 b (Nat.ne_of_lt (Nat.lt_of_lt_of_le (Heap.lt_size e) (I.ok.cab x c hfn hc)))).trans (I.base.keep b o e n hb hx)
  ·obtain⟨sl,e1⟩:=I.base.slot b o e n hb hx
   exact⟨sl,(hs.2 b (Nat.ne_of_lt (Nat.lt_of_lt_of_le (Heap.lt_size e) (I.ok.cab x c hfn hc)))).trans e1⟩
  ·obtain⟨o',e1⟩:=I.base.there b o e hx
   exact⟨o',(hs.2 b (Nat.ne_of_lt (Nat.lt_of_lt_of_le (Heap.lt_size e) (I.ok.cab x c hfn hc)))).trans e1⟩
  ·by_cases hj:j=i
   ·subst hj
    rw[hi] at e1;cases e1
    rw[List.getElem?_set_self hiσ] at e2
    cases e2
    exact⟨u,r,.inr ⟨.inl hk,c,hc,hc'⟩⟩
   ·rw[List.getElem?_set_ne (Ne.symm hj)] at e2
    obtain⟨u',r',q⟩:=hl j y v' e1 e2 e3
    refine⟨u',r',?_⟩
    rcases q with q | ⟨k,c',e,z'⟩
    ·exact .inl q
    ·refine .inr ⟨k,c',e,z'.sameBut hs ?_⟩
     rintro rfl
     exact hj (qF hN e1 (I.ok.inj _ _ _ e hc ▸ hi))
  ·by_cases hcc:c'=c
   ·subst hcc;exact⟨_,hc'⟩
   ·obtain⟨w2,z2⟩:=I.cell y c' e
    exact⟨w2,z2.sameBut hs hcc⟩
  ·obtain⟨e,n,ne,nf,d⟩:=I.pin p hp
   refine⟨(hs.2 p.1 ?_).trans e,n,ne,nf,d⟩
   intro q
   rw[q,hoc] at e
   have q':oc=p.2:=Option.some.inj e
   exact d w' (by rw[<-q'];exact hocd)
theorem qG {M:Model}{A:Around}{E:Value->Shared->Prop}{i:Nat}{x:Str}{v:V}{u:Value}{Q:Unit->Shared->Prop}(I:Inv X pins σ H s)(hN:X.N.Nodup)(hi:X.N[i]?=some x)(hx:Loc X.env.scope x)(r:RelV v u)
  (h:∀s',Inv X pins (σ.set i (some v)) H s'->Q () s') (hf:X.fn x=true∨X.env.scope.names.lookup x=some .local:=by first | exact .inl rfl | exact .inr rfl | assumption):wpAny M A (storeName X.env x u) Q E s :=
 ua I hN hi hx r (λs' I' _=>h s' I') hf
theorem Inv.call' {s':Shared}{ch:List Addr}(I:Inv X pins σ H s)(ho:s'.os=s.os)(u:Un (frs X.stack) ch H H' s.heap s'.heap)(hok:HOk X.prog X.w H' s'.heap)(hg:AllBare s'.gens)
  (hch:∀b∈ch,(b∈X.ex∨X.s₀.heap.objs.size<=b)/\b≠X.env.locals/\(∀x c,X.env.cells.lookup x=some c->c≠b)/\∀p∈X.pn++pins,p.1≠b):Inv X pins σ H' s':=by
 obtain⟨h',g',d',t',o'⟩:=s'
 have e:o'=s.os:=ho
 subst e
 exact I.call (g':=g') (t':=t') (d':=d') u hok hg hch
end
abbrev XK:=Value->Option Addr->Hp->Prop
abbrev St:=List (Option V)
abbrev VK:=V->Hp->Prop
abbrev TE:=St->Hp->VK->Prop
abbrev TT:=St->Hp->(Bool->Hp->Prop)->Prop
abbrev TA:=St->Hp->(List V->Hp->Prop)->Prop
structure Ends where
 nx:St->Hp->Prop
 rt:VK
 bk:St->Hp->Prop:=λ_ _=>False
 ct:St->Hp->Prop:=λ_ _=>False
abbrev TS:=Ends->St->Hp->Prop
def EP (X:Cx)(pins:List (Addr×Obj))(σ:St)(Q:VK)(u:Value)(s':Shared):Prop:=∃v H',Inv X pins σ H' s'/\RelV v u/\Q v H'
def TP (X:Cx)(pins:List (Addr×Obj))(σ:St)(Q:Bool->Hp->Prop)(b:Bool)(s':Shared):Prop:=∃H',Inv X pins σ H' s'/\Q b H'
def AP (X:Cx)(pins:List (Addr×Obj))(σ:St)(Q:List V->Hp->Prop)(us:List Value)(s':Shared):Prop:=∃vs H',Inv X pins σ H' s'/\Vals vs us/\Q vs H'
def SP (X:Cx)(pins:List (Addr×Obj))(D:Ends)(f:Flow)(s':Shared):Prop :=
 match f with
 |.next=>∃σ' H',Inv X pins σ' H' s'/\D.nx σ' H'
 |.brk=>∃σ' H',Inv X pins σ' H' s'/\D.bk σ' H'
 |.cont=>∃σ' H',Inv X pins σ' H' s'/\D.ct σ' H'
 |.ret u=>∃v σ' H',Inv X pins σ' H' s'/\RelV v u/\D.rt v H'
def PE (X:Cx)(e:Expr)(t:TE):Prop :=
 ∀(pins:List (Addr×Obj)) (s:Shared) (σ:St) (H:Hp) (Q:VK),Inv X pins σ H s->t σ H Q->wpAny (model X.prog X.w) X.A (eval e X.env) (EP X pins σ Q) X.xe s
def PT (X:Cx)(e:Expr)(t:TT):Prop :=
 ∀(pins:List (Addr×Obj)) (s:Shared) (σ:St) (H:Hp) (Q:Bool->Hp->Prop),Inv X pins σ H s->t σ H Q->wpAny (model X.prog X.w) X.A (isTrue e X.env (eval e X.env)) (TP X pins σ Q) X.xe s
def PW (X:Cx)(e:Expr)(t:TT):Prop :=
 ∀(whole:Sem Value) (pins:List (Addr×Obj)) (s:Shared) (σ:St) (H:Hp) (Q:Bool->Hp->Prop),Inv X pins σ H s->t σ H Q->wpAny (model X.prog X.w) X.A (isTrue e X.env whole) (TP X pins σ Q) X.xe s
theorem PW.pt {X:Cx}{e:Expr}{t:TT}(h:PW X e t):PT X e t:=h _
def PA (X:Cx)(es:List Expr)(t:TA):Prop :=
 ∀(pos:Pos) (pins:List (Addr×Obj)) (s:Shared) (σ:St) (H:Hp) (Q:List V->Hp->Prop),Inv X pins σ H s->t σ H Q->wpAny (model X.prog X.w) X.A (spliced (backTo pos (starEach es X.env))) (AP X pins σ Q) X.xe s
def PS (X:Cx)(st:Stmt)(t:TS):Prop :=
 ∀(pins:List (Addr×Obj)) (s:Shared) (σ:St) (H:Hp) (D:Ends),Inv X pins σ H s->t D σ H->wpAny (model X.prog X.w) X.A (exec st X.env) (SP X pins D) X.xe s
def PSs (X:Cx)(st:List Stmt)(t:TS):Prop :=
 ∀(pins:List (Addr×Obj)) (s:Shared) (σ:St) (H:Hp) (D:Ends),Inv X pins σ H s->t D σ H->wpAny (model X.prog X.w) X.A (execs st X.env) (SP X pins D) X.xe s
theorem thn {α:Type}{t:Sem α}{Q Q':α->Shared->Prop}{M:Model}{A:Around}{E:Value->Shared->Prop}{s:Shared}(h:wpAny M A t Q E s)(hQ:∀a s,Q a s->Q' a s):wpAny M A t Q' E s:=wpAny_mono h hQ λ_ _ x=>x
section
variable {X:Cx}
def tVar (i:Nat):TE:=λσ H Q=>∃v,σ[i]?=some (some v)/\Q v H
def tC (v:V):TE:=λ_ H Q=>Q v H
theorem jD {i:Nat}{x:Str}{pos:Pos}(hN:X.N[i]?=some x)(hv:Vis X.env.scope x)(hd:(x==("__debug__" : Str))=false:=by decide) (hcd:(x==("__classdict__" : Str))=false:=by decide):PE X (.Name x pos) (tVar i):=by
 intro pins s σ H Q I h
 obtain⟨v,e,h⟩:=h
 obtain⟨m,hn,hl⟩:=I.loc
 obtain⟨u,r,l⟩:=hl i x v hN e hv
 have fin:EP X pins σ Q u s:=⟨v,H,I,r,h⟩
 rcases l with⟨hk,hm⟩ | ⟨hk,c,hc,hcell⟩
 ·exact wpAny_Name (wpAny_loadName_local I.ok.kind hk hn hm fin) hd
 ·rcases hk with hk | hk
  ·exact wpAny_Name (wpAny_loadName_cell I.ok.kind hk hc hcell fin) hd
  ·exact wpAny_Name (wpAny_loadName_free I.ok.kind hk hc hcell fin hcd) hd
theorem vT {i j pos}:PE X (.Constant (.int i) j pos) (tC (.int i)):=λ_ _ _ H _ I h=>wpAny_Constant_int ⟨.int i,H,I.tok _,⟨_,rfl⟩,h⟩
theorem Qn {b j pos}:PE X (.Constant (.bool b) j pos) (tC (.bl b)):=λ_ _ _ H _ I h=>Constant_bool ⟨.bl b,H,I,rfl,h⟩
theorem zak {j pos}:PE X (.Constant .none j pos) (tC .non):=λ_ _ _ H _ I h=>Constant_none ⟨.non,H,I,rfl,h⟩
theorem zal {x j pos}:PE X (.Constant (.str x) j pos) (tC (.str x)):=λ_ _ _ H _ I h=>Calls.Constant_str ⟨.str x,H,I.tok _,⟨_,rfl⟩,h⟩
def Gl (X:Cx)(x:Str):Prop:=X.env.kindOf x=some .globalImplicit
theorem xG {E:Value->Shared->Prop}{pins:List (Addr×Obj)}{s:Shared}{σ:St}{H:Hp}{x:Str}{u:Value}{pos:Pos}{Q:Value->Shared->Prop}(I:Inv X pins σ H s)(hg:Gl X x)(hm:X.mg x=some u)(h:Q u s)
  (hd:(x==("__debug__" : Str))=false:=by decide):wpAny (model X.prog X.w) X.A (eval (.Name x pos) X.env) Q E s :=
 Calls.Name_function_global I.ok.kind hg (Calls.loadGlobal_global (by rw[I.ok.glob];exact I.mod.glob.keeps I.bk) hm h) hd
theorem wX {E:Value->Shared->Prop}{pins:List (Addr×Obj)}{s:Shared}{σ:St}{H:Hp}{x:Str}{u:Value}{pos:Pos}{Q:Value->Shared->Prop}(I:Inv X pins σ H s)(hg:Gl X x)(hm:X.mg x=none)(hv:bootBuiltins x=some u)(h:Q u s)
  (hn:x ≠ "__name__" := by decide) (hd:(x==("__debug__" : Str))=false:=by decide):wpAny (model X.prog X.w) X.A (eval (.Name x pos) X.env) Q E s:=by
 obtain⟨mb,h1,h2⟩:=I.mod.blt
 exact Calls.Name_function_global I.ok.kind hg (Calls.loadGlobal_builtin (by rw[I.ok.glob];exact I.mod.glob.keeps I.bk) hm (by rw[I.ok.blt];exact h1.keeps I.bk) ((h2 x hn).trans hv) h) hd
theorem Vm {x:Str}{v:V}{u:Value}{pos:Pos}(hg:Gl X x)(hm:X.mg x=some u)(r:RelV v u)(hd:(x==("__debug__" : Str))=false:=by decide):PE X (.Name x pos) (tC v) :=
 λ_ _ _ H _ I h=>xG I hg hm ⟨v,H,I,r,h⟩ hd
theorem qC {x:Str}{v:V}{u:Value}{pos:Pos}(hg:Gl X x)(hm:X.mg x=none)(hv:bootBuiltins x=some u)(r:RelV v u)(hn:x ≠ "__name__" := by decide) (hd:(x==("__debug__" : Str))=false:=by decide):PE X (.Name x pos) (tC v) :=
 λ_ _ _ H _ I h=>wX I hg hm hv ⟨v,H,I,r,h⟩ hn hd
variable {a b:Expr}{ta tb:TE}{pos:Pos}
def PC (X:Cx)(op:CmpOp)(a b:Expr)(t:TE):Prop :=
 ∀(pins:List (Addr×Obj)) (s:Shared) (σ:St) (H:Hp) (Q:VK),Inv X pins σ H s->t σ H Q ->
  wpAny (model X.prog X.w) X.A (eval a X.env) (λv s₁=>wpAny (model X.prog X.w) X.A (eval b X.env) (λu s₂=>wpAny (model X.prog X.w) X.A (compareOp op v u) (EP X pins σ Q) X.xe s₂) X.xe s₁) X.xe s
theorem Vs (b:Expr){op:CmpOp}(h:op≠.In)(h2:op≠.NotIn):behindInMarks op b=false:=by
 have e1:(op==CmpOp.In)=false:=by cases op<;>first | rfl | exact absurd rfl h
 have e2:(op==CmpOp.NotIn)=false:=by cases op<;>first | rfl | exact absurd rfl h2
 cases b<;>simp[behindInMarks,e1,e2]
def tB (t:TE):TT:=λσ H Q=>t σ H λx H1=>∃c,x=.bl c/\Q c H1
theorem JP {op:CmpOp}{t:TE}(h:PC X op a b t)(h1:behindInMarks op b=false:=by first | exact Vs _ (by decide) (by decide) | rfl):PT X (.Compare a [op] [b] pos) (tB t):=by
 intro pins s σ H Q I hw
 refine wpAny_isTrue_Compare1 (thn (h pins s σ H _ I hw) λv s1 h1=>thn h1 λu s2 h2=>thn h2 λc s3 ⟨x,H1,I1,r1,q1⟩=>?_) h1
 obtain⟨d,rfl,q⟩:=q1
 cases r1
 exact wpAny_truthy_bool ⟨H1,I1,q⟩
variable {tA tB':TT}{rest:List Expr}
def tAnd (t u:TT):TT:=λσ H Q=>t σ H λc H1=>if c=true then u σ H1 Q else Q false H1
def tOr (t u:TT):TT:=λσ H Q=>t σ H λc H1=>if c=true then Q true H1 else u σ H1 Q
def tNot (t:TT):TT:=λσ H Q=>t σ H λc H1=>Q (!c) H1
theorem U2 (ha:PT X a tA):PW X (.BoolOp .And [a] pos) tA:=by
 intro wh pins s σ H Q I h
 refine isTrue_and (thn (ha pins s σ H Q I h) λc s1 e=>?_)
 cases c with
 |true=>exact isTrue_and_nil e
 |false=>exact e
theorem QJ (ha:PT X a tA):PW X (.BoolOp .Or [a] pos) tA:=by
 intro wh pins s σ H Q I h
 refine isTrue_or (thn (ha pins s σ H Q I h) λc s1 e=>?_)
 cases c with
 |false=>exact isTrue_or_nil e
 |true=>exact e
theorem UW (ha:PT X a tA)(hb:PW X (.BoolOp .And (b::rest) pos) tB'):PW X (.BoolOp .And (a::b::rest) pos) (tAnd tA tB'):=by
 intro wh pins s σ H Q I h
 refine isTrue_and (thn (ha pins s σ H _ I h) λc s1 ⟨H1,I1,q1⟩=>?_)
 cases c with
 |true=>exact hb wh pins s1 σ H1 Q I1 q1
 |false=>exact⟨H1,I1,q1⟩
theorem Ug (ha:PT X a tA)(hb:PW X (.BoolOp .Or (b::rest) pos) tB'):PW X (.BoolOp .Or (a::b::rest) pos) (tOr tA tB'):=by
 intro wh pins s σ H Q I h
 refine isTrue_or (thn (ha pins s σ H _ I h) λc s1 ⟨H1,I1,q1⟩=>?_)
 cases c with
 |true=>exact⟨H1,I1,q1⟩
 |false=>exact hb wh pins s1 σ H1 Q I1 q1
theorem US (ha:PT X a tA):PT X (.UnaryOp .Not a pos) (tNot tA):=by
 intro pins s σ H Q I h
 exact isTrue_not (ha pins s σ H (λc H1=>Q (!c) H1) I h)
def tAndV (ta tb:TE):TE:=λσ H Q=>ta σ H λx H1=>∃c,x=.bl c/\if c=true then tb σ H1 Q else Q (.bl false) H1
def tNotV (ta:TE):TE:=λσ H Q=>ta σ H λx H1=>∃c,x=.bl c/\Q (.bl (!c)) H1
theorem Zj {op}{t:TE}(h:PE X a t):PE X (.BoolOp op [a] pos) t:=λpins s σ H Q I hw=>BoolOp_one (h pins s σ H Q I hw)
theorem ZM (ha:PE X a ta)(hb:PE X (.BoolOp .And (b::rest) pos) tb):PE X (.BoolOp .And (a::b::rest) pos) (tAndV ta tb):=by
 intro pins s σ H Q I h
 refine BoolOp_and (thn (ha pins s σ H _ I h) λv s1 ⟨x,H1,I1,r1,q1⟩=>?_)
 obtain⟨c,rfl,q1⟩:=q1
 cases r1
 refine wpAny_truthy_bool ?_
 cases c with
 |true=>exact hb pins s1 σ H1 Q I1 q1
 |false=>exact⟨.bl false,H1,I1,rfl,q1⟩
theorem RJ (ha:PE X a ta):PE X (.UnaryOp .Not a pos) (tNotV ta):=by
 intro pins s σ H Q I h
 refine UnaryOp_ (thn (ha pins s σ H _ I h) λv s1 ⟨x,H1,I1,r1,q1⟩=>?_)
 obtain⟨c,rfl,q1⟩:=q1
 cases r1
 exact not_of (wpAny_truthy_bool ⟨.bl (!c),H1,I1,rfl,q1⟩)
def tIf (t:TT)(ta tb:TE):TE:=λσ H Q=>t σ H λc H1=>if c=true then ta σ H1 Q else tb σ H1 Q
theorem Qp {c:Expr}(hc:PT X c tA)(ha:PE X a ta)(hb:PE X b tb):PE X (.IfExp c a b pos) (tIf tA ta tb):=by
 intro pins s σ H Q I h
 refine wpAny_IfExp (thn (hc pins s σ H _ I h) λd s1 ⟨H1,I1,q1⟩=>?_)
 cases d with
 |true=>exact ha pins s1 σ H1 Q I1 q1
 |false=>exact hb pins s1 σ H1 Q I1 q1
end
def SqL (K:PySem.W.Frag)(H:Hp)(a:Addr)(xs:List V):Prop :=
 Rd H a (.lst xs) ∨
  ∃(o:Obj) (its:Array Value) (n:Nat),K.lookup a=some o/\o.cls=.type "list" /\ o.dict=none/\o.data=.seq its n/\its.size<=sizeLine/\Vals xs its.toList
def SqT (K:PySem.W.Frag)(H:Hp)(a:Addr)(xs:List V):Prop :=
 Rd H a (.tup xs) ∨
  ∃(o:Obj) (its:Array Value) (n:Nat),K.lookup a=some o/\o.cls=.type "tuple" /\ o.data=.seq its n/\its.size<=sizeLine/\Vals xs its.toList
def absV:Value->Option V
 |.none=>some .non
 |.bool b=>some (.bl b)
 |.int i _=>some (.int i)
 |.str x _=>some (.str x)
 |.bytes b _=>some (.byt b)
 |.float b _=>some (.flt b)
 |.ref a=>some (.ref a)
 |.type n=>some (.ty n)
 |_=>none
theorem RelV.abs {x:V}{u:Value}(r:RelV x u):absV u=some x:=by
 cases x with
 |non=>cases r;rfl
 |bl _=>cases r;rfl
 |int _=>obtain⟨t,rfl⟩:=r;rfl
 |str _=>obtain⟨t,rfl⟩:=r;rfl
 |byt _=>obtain⟨t,rfl⟩:=r;rfl
 |flt _=>obtain⟨t,rfl⟩:=r;rfl
 |ref _=>cases r;rfl
 |ty _=>cases r;rfl
theorem RelV.inj {x y:V}{u:Value}(r:RelV x u)(q:RelV y u):x=y:=Option.some.inj (r.abs.symm.trans q.abs)
theorem Vals.inj:∀ {xs ys:List V}{us:List Value},Vals xs us->Vals ys us->xs=ys
 |_,_,_,.nil,.nil=>rfl
 |_,_,_,.cons r t,.cons r' t'=>by rw[r.inj r',Vals.inj t t']
section
variable {X:Cx}{pins:List (Addr×Obj)}{σ:St}{H:Hp}{s:Shared}{a:Addr}{xs ys:List V}
theorem SqL.of {K:PySem.W.Frag}(h:H a=some (.lst xs)):SqL K H a xs:=.inl (.inl h)
theorem SqT.of {K:PySem.W.Frag}(h:H a=some (.tup xs)):SqT K H a xs:=.inl (.inl h)
theorem Inv.list (I:Inv X pins σ H s)(h:SqL X.K H a xs):∃its:List Value,Vals xs its/\PlainL s.heap a its.toArray/\xs.length<=sizeLine:=by
 rcases h with h | ⟨o,its,n,hk,hc,hd,hs,hz,r⟩
 ·obtain⟨z,its,n,r,e⟩:=h.ok I.hok
  exact⟨its,r,⟨_,n,e,rfl,rfl,rfl⟩,z⟩
 ·refine⟨its.toList,r,⟨o,n,I.kIn a o hk,hc,hd,by simpa using hs⟩,?_⟩
  have e:=r.length
  simp only[Array.length_toList] at e
  omega
theorem Inv.tuple (I:Inv X pins σ H s)(h:SqT X.K H a xs):∃its:List Value,Vals xs its/\IsTup s.heap a its.toArray/\xs.length<=sizeLine:=by
 rcases h with h | ⟨o,its,n,hk,hc,hs,hz,r⟩
 ·obtain⟨z,its,r,p⟩:=h.ok I.hok
  exact⟨its,r,p,z⟩
 ·refine⟨its.toList,r,⟨o,I.kIn a o hk,hc,n,by simpa using hs⟩,?_⟩
  have e:=r.length
  simp only[Array.length_toList] at e
  omega
theorem Inv.list_inj (I:Inv X pins σ H s)(h:SqL X.K H a xs)(h':SqL X.K H a ys):xs=ys:=by
 obtain⟨its,r,⟨o,n,e,_,_,d⟩,_⟩:=I.list h
 obtain⟨its',r',⟨o',n',e',_,_,d'⟩,_⟩:=I.list h'
 rw[e] at e';cases e'
 rw[d] at d'
 injection d' with d1 _
 have:its=its':=by simpa using congrArg Array.toList d1
 subst this
 exact r.inj r'
end
abbrev Cx.wish (X:Cx)(E:Value->Shared->Prop):Cx:={ X with xe:=E }
abbrev Cx.nox (X:Cx):Cx:=X.wish λ_ _=>False
theorem Cx.Ok.wish {X:Cx}(ok:X.Ok)(E:Value->Shared->Prop):(X.wish E).Ok :=
 ⟨ok.mod,ok.kind,ok.glob,ok.blt,ok.above,ok.inj,ok.has,ok.cab,ok.hd,ok.frames,ok.stk,ok.exf,ok.bs,ok.bsz,ok.noex,ok.exfs,ok.funs,ok.frf⟩
theorem Cx.Ok.unwish {X:Cx}{E:Value->Shared->Prop}(ok:(X.wish E).Ok):X.Ok :=
 ⟨ok.mod,ok.kind,ok.glob,ok.blt,ok.above,ok.inj,ok.has,ok.cab,ok.hd,ok.frames,ok.stk,ok.exf,ok.bs,ok.bsz,ok.noex,ok.exfs,ok.funs,ok.frf⟩
section
variable {X:Cx}{pins:List (Addr×Obj)}{σ:St}{H:Hp}{s:Shared}{E:Value->Shared->Prop}
theorem Inv.wish (I:Inv X pins σ H s)(E:Value->Shared->Prop):Inv (X.wish E) pins σ H s:=⟨I.ok.wish E,I.os,I.bare,I.base,I.loc,I.cell,I.free,I.freeC,I.pin,I.hok,I.len⟩
theorem Inv.unwish (I:Inv (X.wish E) pins σ H s):Inv X pins σ H s:=⟨I.ok.unwish,I.os,I.bare,I.base,I.loc,I.cell,I.free,I.freeC,I.pin,I.hok,I.len⟩
theorem SP.unwish {D:Ends}{f:Flow}{s':Shared}(h:SP (X.wish E) pins D f s'):SP X pins D f s':=by
 cases f with
 |next=>obtain⟨σ',H',I,q⟩:=h;exact⟨σ',H',I.unwish,q⟩
 |brk=>obtain⟨σ',H',I,q⟩:=h;exact⟨σ',H',I.unwish,q⟩
 |cont=>obtain⟨σ',H',I,q⟩:=h;exact⟨σ',H',I.unwish,q⟩
 |ret u=>obtain⟨v,σ',H',I,r,q⟩:=h;exact⟨v,σ',H',I.unwish,r,q⟩
theorem PSs.nox {st:List Stmt}{t:TS}(h:PSs X.nox st t):PSs X st t:=λpins s σ H D I hw=>
 wpAny_mono (h pins s σ H D (I.wish _) hw) (λ_ _ q=>q.unwish) λ_ _ z=>False.elim z
end
section
variable {X:Cx}{st:Stmt}{rest:List Stmt}{t u:TS}{e:Expr}{te:TE}{pos:Pos}
def tNext:TS:=λD σ H=>D.nx σ H
def tSeq (t u:TS):TS:=λD σ H=>t { D with nx:=u D } σ H
theorem Qx:PSs X [] tNext:=λ_ _ σ H _ I h=>wpAny_execs_nil ⟨σ,H,I,h⟩
theorem xR (h1:PS X st t)(h2:PSs X rest u):PSs X (st::rest) (tSeq t u):=by
 intro pins s σ H D I h
 refine wpAny_execs_cons (thn (h1 pins s σ H { D with nx:=u D } I h) λf s1 q=>?_)
 cases f with
 |next=>
  obtain⟨σ',H',I',q⟩:=q
  exact h2 pins s1 σ' H' D I' q
 |ret v=>exact q
 |brk=>exact q
 |cont=>exact q
theorem ji (h1:PS X st t):PSs X [st] t:=by
 intro pins s σ H D I h
 refine wpAny_execs_cons (thn (h1 pins s σ H D I h) λf s1 q=>?_)
 cases f with
 |next=>exact wpAny_execs_nil q
 |ret v=>exact q
 |brk=>exact q
 |cont=>exact q
theorem Inv.quiet {pins:List (Addr×Obj)}{σ:St}{H:Hp}{s:Shared}(I:Inv X pins σ H s):interactive X.env=false:=by simp[interactive,I.ok.kind]
def tDrop (te:TE):TS:=λD σ H=>te σ H λ_ H1=>D.nx σ H1
theorem y4 (he:PE X e te)(hs:swapsWith e none pos.line X.env=pure false:=by rfl):PS X (.Expr e pos) (tDrop te):=by
 intro pins s σ H D I h
 exact wpAny_Expr_any (thn (he pins s σ H _ I h) λv s1 ⟨x,H1,I1,r1,q1⟩=>⟨σ,H1,I1,q1⟩) I.quiet hs
def tRet (te:TE):TS:=λD σ H=>te σ H D.rt
theorem xF (he:PE X e te):PS X (.Return (some e) pos) (tRet te):=by
 intro pins s σ H D I h
 exact wpAny_Return_some (thn (he pins s σ H _ I h) λv s1 ⟨x,H1,I1,r1,q1⟩=>⟨x,σ,H1,I1,r1,q1⟩)
def tIfS (c:TT)(t u:TS):TS:=λD σ H=>c σ H λb H1=>if b=true then t D σ H1 else u D σ H1
theorem Jd {c:Expr}{a b:List Stmt}{tc:TT}(hc:PT X c tc)(ha:PSs X a t)(hb:PSs X b u):PS X (.If c a b pos) (tIfS tc t u):=by
 intro pins s σ H D I h
 refine wpAny_If (thn (hc pins s σ H _ I h) λd s1 ⟨H1,I1,q1⟩=>?_)
 cases d with
 |true=>exact ha pins s1 σ H1 D I1 q1
 |false=>exact hb pins s1 σ H1 D I1 q1
def tNever:TS:=λ_ _ _=>False
theorem UT:PS X st tNever:=λ_ _ _ _ _ _ h=>h.elim
end
abbrev TG:=V->St->Hp->(St->Hp->Prop)->Prop
abbrev TGs:=List V->St->Hp->(St->Hp->Prop)->Prop
def PG (X:Cx)(target:Expr)(t:TG):Prop :=
 ∀(pins:List (Addr×Obj)) (s:Shared) (σ:St) (H:Hp) (v:V) (u:Value) (Q:St->Hp->Prop),Inv X pins σ H s->RelV v u->t v σ H Q ->
  wpAny (model X.prog X.w) X.A (assign target X.env u) (λ_ s'=>∃σ' H',Inv X pins σ' H' s'/\Q σ' H') X.xe s
def PGs (X:Cx)(ts:List Expr)(t:TGs):Prop :=
 ∀(pins:List (Addr×Obj)) (s:Shared) (σ:St) (H:Hp) (vs:List V) (us:List Value) (Q:St->Hp->Prop),Inv X pins σ H s->Vals vs us->t vs σ H Q ->
  wpAny (model X.prog X.w) X.A (assignInOrder ((assignEach ts X.env).map (·.2)) us) (λ_ s'=>∃σ' H',Inv X pins σ' H' s'/\Q σ' H') X.xe s
abbrev TSet:=V->V->V->Hp->(Hp->Prop)->Prop
def PSet (X:Cx)(t:TSet):Prop :=
 ∀(pins:List (Addr×Obj)) (s:Shared) (σ:St) (H:Hp) (o i v:V) (ov iv u:Value) (Q:Hp->Prop),Inv X pins σ H s->RelV o ov->RelV i iv->RelV v u->t o i v H Q ->
  wpAny (model X.prog X.w) X.A (setItem ov iv u) (λ_ s'=>∃H',Inv X pins σ H' s'/\Q H') X.xe s
section
variable {X:Cx}{pos:Pos}
def gName (i:Nat):TG:=λv σ H Q=>Q (σ.set i (some v)) H
theorem zj {i:Nat}{x:Str}(hN:X.N.Nodup)(hi:X.N[i]?=some x)(hx:Loc X.env.scope x)(hf:X.fn x=true∨X.env.scope.names.lookup x=some .local:=by first | exact .inl rfl | exact .inr rfl | assumption):PG X (.Name x pos) (gName i):=by
 intro pins s σ H v u Q I r h
 exact wpAny_assign_Name (qG I hN hi hx r (λs' I'=>⟨_,H,I',h⟩) hf)
def gNil:TGs:=λvs σ H Q=>vs=[]/\Q σ H
def gCons (t:TG)(u:TGs):TGs:=λvs σ H Q=>∃v r,vs=v::r/\t v σ H λσ' H'=>u r σ' H' Q
theorem zY:PGs X [] gNil:=by
 intro pins s σ H vs us Q I r h
 obtain⟨e,h⟩:=h
 subst e
 cases r
 exact assignInOrder_nil ⟨σ,H,I,h⟩
theorem zB {e:Expr}{es:List Expr}{t:TG}{u:TGs}(h1:PG X e t)(h2:PGs X es u)
  (hs:(assignEach (e::es) X.env).map (·.2)=assign e X.env::(assignEach es X.env).map (·.2):=by rfl):PGs X (e::es) (gCons t u):=by
 intro pins s σ H vs us Q I r h
 obtain⟨v,vr,e1,h⟩:=h
 subst e1
 cases r with
 |cons r rr=>
  rw[hs]
  refine assignInOrder_cons (thn (h1 pins s σ H _ _ _ I r h) λ_ s1 ⟨σ1,H1,I1,q1⟩=>?_)
  exact h2 pins s1 σ1 H1 _ _ Q I1 rr q1
def gTup (K:PySem.W.Frag)(n:Nat)(t:TGs):TG:=λv σ H Q=>∃a xs,v=.ref a/\SqT K H a xs/\xs.length=n/\t xs σ H Q
theorem zW {es:List Expr}{k:Nat}{t:TGs}{n:Nat}(hc:X.calm=true)(h:PGs X es t)
  (hn:(assignEach es X.env).length=n:=by rfl) (hst:(assignEach es X.env).findIdx? (·.1)=none:=by rfl):PG X (.Tuple es k pos) (gTup X.K n t):=by
 intro pins s σ H v u Q I r hw
 obtain⟨a,xs,e1,hq,hl,hw⟩:=hw
 subst e1
 cases r
 obtain⟨its,rv,ht,hz⟩:=I.tuple hq
 refine assign_Tuple_tuple (I.ok.hd hc) ht (by simp[hn,<-hl,rv.length]) hst λh' hx=>?_
 have I1:Inv X pins σ H { s with heap:=h' }:=I.kept (t':=s.toks) λb o e=>hx b o (Nat.ne_of_lt (Heap.lt_size e)) e
 exact h pins _ σ H xs _ Q I1 (by simpa using rv) hw
def gSub (to ti:TE)(t:TSet):TG:=λv σ H Q=>to σ H λo H1=>ti σ H1 λi H2=>t o i v H2 λH3=>Q σ H3
theorem UG {o i:Expr}{to ti:TE}{t:TSet}(ho:PE X o to)(hi:PE X i ti)(hs:PSet X t)
  (ha:∀v,assign (.Subscript o i pos) X.env v=(do
   let ov <-holding [v] (eval o X.env)
   let iv <-holding [v,ov] (eval i X.env)
   standAt pos
   holding [v,ov,iv] (setItem ov iv v)
   release [v,ov,iv] []):=by intro _;rfl):PG X (.Subscript o i pos) (gSub to ti t):=by
 intro pins s σ H v u Q I r h
 rw[ha]
 refine wpAny_bind (wpAny_holding (thn (ho pins s σ H _ I h) λov s1 ⟨x,H1,I1,r1,q1⟩=>?_))
 refine wpAny_bind (wpAny_holding (thn (hi pins s1 σ H1 _ I1 q1) λiv s2 ⟨y,H2,I2,r2,q2⟩=>?_))
 refine wpAny_bind (wpAny_standAt (wpAny_bind (wpAny_holding (thn (hs pins s2 σ H2 x y v ov iv u _ I2 r1 r2 r q2) λ_ s3 ⟨H3,I3,q3⟩=>?_))))
 exact wpAny_release ⟨σ,H3,I3,q3⟩
def tAsg (te:TE)(g:TG):TS:=λD σ H=>te σ H λx H1=>g x σ H1 D.nx
theorem qM {tg e:Expr}{te:TE}{g:TG}(he:PE X e te)(hg:PG X tg g)(hs:swapsWithSole [tg] e pos.line X.env=pure false:=by rfl)(hw:swappedStores [tg] e X.env=pure none:=by rfl)
  (h1:(assignEach [tg] X.env).map (·.2)=[assign tg X.env]:=by rfl):PS X (.Assign [tg] e pos) (tAsg te g):=by
 intro pins s σ H D I h
 refine wpAny_Assign_stores (thn (he pins s σ H _ I h) λv s1 ⟨x,H1,I1,r1,q1⟩=>?_) hs hw
 rw[h1]
 exact thn (hg pins s1 σ H1 x v _ I1 r1 q1) λ_ s2 q=>q
theorem wp {i:Nat}{x:Str}{e:Expr}{te:TE}{pos':Pos}(hN:X.N.Nodup)(hi:X.N[i]?=some x)(hx:Loc X.env.scope x)(he:PE X e te)(hs:swapsWith e (some (.Name x pos')) pos.line X.env=pure false:=by rfl)(hf:X.fn x=true∨X.env.scope.names.lookup x=some .local:=by first | exact .inl rfl | exact .inr rfl | assumption) :
  PS X (.Assign [.Name x pos'] e pos) (tAsg te (gName i)):=by
 intro pins s σ H D I h
 refine wpAny_Assign_Name (thn (he pins s σ H _ I h) λv s1 ⟨y,H1,I1,r1,q1⟩=>?_) hs
 exact qG I1 hN hi hx r1 (λs2 I2=>⟨_,H1,I2,q1⟩) hf
end
section
variable {X:Cx}{pos:Pos}
def tWhile (c:TT)(tb:TS):TS:=λD σ H=>∃W:Nat->St->Hp->Prop,(∃m,W m σ H)/\∀m σ H,W m σ H ->
 c σ H λb H1=>if b=true then ∃N:St->Hp->Prop,(∀σ' H',N σ' H'->∃m',m' < m/\W m' σ' H')/\tb { D with nx:=N,ct:=N,bk:=D.nx } σ H1 else D.nx σ H1
theorem Jr {c:Expr}{body:List Stmt}{tc:TT}{tb:TS}(hp:PassesOwn (model X.prog X.w) X.A X.env X.xe)(hc:PT X c tc)(hb:PSs X body tb):PS X (.While c body [] pos) (tWhile tc tb):=by
 intro pins s σ H D I h
 obtain⟨W,⟨m0,w0⟩,turn⟩:=h
 refine wpAny_While (codeAny_whileLoop (λn s'=>∃σ' H',Inv X pins σ' H' s'/\W n σ' H') ?_ m0 ⟨σ,H,I,w0⟩)
 rintro n s1 ⟨σ1,H1,I1,w1⟩
 refine wpAny_passesOwn hp (thn (hc pins s1 σ1 H1 _ I1 (turn n σ1 H1 w1)) λb s2 ⟨H2,I2,q2⟩=>?_)
 cases b with
 |true=>
  obtain⟨N,hN,q2⟩:=q2
  rw[if_pos rfl]
  refine wpAny_passesOwn hp (thn (hb pins s2 σ1 H2 _ I2 q2) λf s3 q3=>?_)
  cases f with
  |next=>
   obtain⟨σ3,H3,I3,n3⟩:=q3
   obtain⟨m',hm,w3⟩:=hN σ3 H3 n3
   exact⟨m',hm,σ3,H3,I3,w3⟩
  |cont=>
   obtain⟨σ3,H3,I3,n3⟩:=q3
   obtain⟨m',hm,w3⟩:=hN σ3 H3 n3
   exact⟨m',hm,σ3,H3,I3,w3⟩
  |brk=>exact q3
  |ret v=>exact q3
 |false=>
  rw[if_neg Bool.false_ne_true]
  exact wpAny_execs_nil ⟨σ1,H2,I2,q2⟩
end
structure It where
 go:Nat->Hp->Prop
 yld:Nat->Hp->V->Hp->Prop
 stop:Nat->Hp->Prop
def FpOk (X:Cx)(pins:List (Addr×Obj))(H:Hp)(b:Addr):Prop :=
 H b=none/\b≠X.env.locals/\b∉X.fs/\(b∈X.ex∨X.s₀.heap.objs.size<=b)/\(∀x c,X.env.cells.lookup x=some c->c≠b)/\∀p∈X.pn++pins,p.1≠b
theorem Inv.fpOk {X:Cx}{pins:List (Addr×Obj)}{σ:St}{H H':Hp}{s:Shared}{b:Addr}(I:Inv X pins σ H s)(hb:s.heap.objs.size<=b)(hn:H' b=none):FpOk X pins H' b:=by
 refine⟨hn,Nat.ne_of_gt (Nat.lt_of_lt_of_le I.lt hb),I.nofs hb,.inr (Nat.le_trans I.sz hb),λx c e z=>?_,λp hp z=>?_⟩
 ·obtain⟨v,q⟩:=I.cell x c e
  exact absurd (Nat.lt_of_lt_of_le q.lt (by rw[z];exact hb)) (Nat.lt_irrefl _)
 ·exact absurd (Nat.lt_of_lt_of_le (Heap.lt_size (I.pin p hp).1) (by rw[z];exact hb)) (Nat.lt_irrefl _)
structure Turn (P:Program)(w:World)(K:PySem.W.Frag)(tg:Expr)(J:It)(fp:List Addr)(it:Addr)(tn:Nat->Heap->Prop):Prop where
 mem:it∈fp
 obj:∀i h,tn i h->∀b∈fp,∃o,h.get? b=some o/\∀v,o.data≠.cell v
 keep:∀i h h',tn i h->(∀b∈fp,∀o,h.get? b=some o->h'.get? b=some o)->tn i h'
 item:∀(X:Cx),X.prog=P->X.w=w->X.K=K->X.calm=true->∀(i:Nat) (pins:List (Addr×Obj)) (s:Shared) (σ:St) (H:Hp) (E:Value->Shared->Prop),Inv X pins σ H s->(∀b∈fp,FpOk X pins H b)->tn i s.heap->J.go i H ->
  wpAny (model P w) X.A (pyNext (.ref it)) (λr s1=>∃u,r=some u /\
   wpAny (model P w) X.A (letOwnedTupleGo tg (.ref it) u) (λ_ s2=>∃x H',Inv X pins σ H' s2/\RelV x u/\J.yld i H x H'/\tn (i+1) s2.heap/\∀b∈fp,H' b=none) E s1) E s
 done:∀(X:Cx),X.prog=P->X.w=w->X.K=K->X.calm=true->∀(i:Nat) (pins:List (Addr×Obj)) (s:Shared) (σ:St) (H:Hp) (E:Value->Shared->Prop),Inv X pins σ H s->(∀b∈fp,FpOk X pins H b)->tn i s.heap->J.stop i H ->
  wpAny (model P w) X.A (pyNext (.ref it)) (λr s1=>r=none/\Inv X pins σ H s1) E s
 self:∀(A:Around) (i:Nat) (s:Shared) (Q:Value->Shared->Prop) (E:Value->Shared->Prop),tn i s.heap->Q (.ref it) s->wpAny (model P w) A (pyIter (.ref it)) Q E s
abbrev TI:=St->Hp->(It->Hp->Prop)->Prop
def PIE (X:Cx)(pins:List (Addr×Obj))(σ:St)(tg:Expr)(R:It->Hp->Prop)(itv:Value)(s2:Shared):Prop :=
 ∃(it:Addr) (fp:List Addr) (tn:Nat->Heap->Prop) (J:It) (H':Hp),itv=.ref it/\Inv X pins σ H' s2/\Turn X.prog X.w X.K tg J fp it tn/\tn 0 s2.heap/\(∀b∈fp,FpOk X pins H' b)/\R J H'
def PI (X:Cx)(tg iter:Expr)(wi:TI):Prop :=
 ∀(pins:List (Addr×Obj)) (s:Shared) (σ:St) (H:Hp) (R:It->Hp->Prop),Inv X pins σ H s->wi σ H R ->
  wpAny (model X.prog X.w) X.A (eval iter X.env) (λv s1=>wpAny (model X.prog X.w) X.A (pyIter v) (PIE X pins σ tg R) X.xe s1) X.xe s
theorem qo {M:Model}{A:Around}{E:Value->Shared->Prop}{s:Shared}{tg:Expr}{it:Addr}{u:Value}{o:Obj}{n:String}{vs:Array Value}{Q:Unit->Shared->Prop}(ho:s.heap.get? it=some o)(hc:o.cls=.type n)(hd:o.data=.fields vs)
    (hn:["enumerate","zip","dict_itemiterator","dict_reverseitemiterator","odict_iterator","itertools.zip_longest","itertools.pairwise"].contains n=false) (hQ:Q () s):wpAny M A (letOwnedTupleGo tg (.ref it) u) Q E s:=by
  unfold letOwnedTupleGo
  cases tg<;>first
    |exact wpAny_pure hQ
    | (cases u<;>first
        |exact wpAny_pure hQ
        | (refine wpAny_bind (wpAny_load ho ?_)
           rw[hc,hd]
           show wpAny M A (if (["enumerate","zip","dict_itemiterator","dict_reverseitemiterator","odict_iterator","itertools.zip_longest","itertools.pairwise"].contains n&&vs[0]?==some (rawInt _))=true then _ else _) Q E s
           rw[if_neg (by intro h;rw[hn,Bool.false_and] at h;cases h)]
           exact wpAny_pure hQ))
def Itl (K:PySem.W.Frag)(a:Addr):It :=
 ⟨λi H=>∃xs x,SqL K H a xs/\xs[i]?=some x,λi H x H'=>H'=H/\∀xs,SqL K H a xs->xs[i]?=some x,λi H=>∃xs,SqL K H a xs/\xs.length<=i⟩
def Itr (lo:Int)(n:Nat):It:=⟨λi _=>i < n,λi H x H'=>H'=H/\x=.int (lo+i),λi _=>n<=i⟩
theorem Kp {P:Program}{w:World}{K:PySem.W.Frag}{tg:Expr}(a it:Addr):Turn P w K tg (Itl K a) [it] it (λi h=>h.IsListIter it a i) where
 mem:=by simp
 obj:=λi h st b hb=>by
  have e:b=it:=by simpa using hb
  subst e
  obtain⟨o,e,c,d⟩:=st
  exact⟨o,e,λv z=>by rw[d] at z;cases z⟩
 keep:=λi h h' st k=>st.at λo e=>k it (by simp) o e
 item:=by
  intro X hP hw hK hc i pins s σ H E I hf st hg
  subst hP hw hK
  obtain⟨xs,x,hq,hx⟩:=hg
  obtain⟨its,rv,p,hz⟩:=I.list hq
  obtain⟨u,hu,ru⟩:=rv.get hx
  obtain⟨f0,f1,f2,f3,f4,f5⟩:=hf it (by simp)
  refine wpAny_pyNext_list_item st p.isList (x:=u) (by simpa using hu) λh' st' sb=>?_
  have I1:Inv X pins σ H { s with heap:=h' }:=I.turned (t':=s.toks) (λb o hb e=>(sb.2 b hb).trans e) f0 f1 f3 f4 f5
  obtain⟨o,e,c,d⟩:=id st'
  exact⟨u,rfl,qo (s:={ s with heap:=h' }) e c d (by decide) ⟨x,H,I1,ru,⟨rfl,λys hy=>by rw[I.list_inj hy hq];exact hx⟩,st',λb hb=>(hf b hb).1⟩⟩
 done:=by
  intro X hP hw hK hc i pins s σ H E I hf st hg
  subst hP hw hK
  obtain⟨xs,hq,hx⟩:=hg
  obtain⟨its,rv,p,hz⟩:=I.list hq
  obtain⟨f0,f1,f2,f3,f4,f5⟩:=hf it (by simp)
  have hl:=rv.length
  exact wpAny_pyNext_list_end (I.ok.hd hc) st p.isList (by simp;omega) λh' eb=>⟨rfl,I.turned (t':=s.toks) (λb o hb e=>eb b o hb e) f0 f1 f3 f4 f5⟩
 self:=λ_ _ _ _ _ st h=>wpAny_pyIter_listiter st h
theorem Gj {P:Program}{w:World}{K:PySem.W.Frag}{tg:Expr}(it:Addr)(lo:Int)(n:Nat):Turn P w K tg (Itr lo n) [it] it (λi h=>IsRangeIter h it (lo+(i:Nat) * 1) ((n:Int) - (i:Nat)) 1) where
 mem:=by simp
 obj:=λi h st b hb=>by
  have e:b=it:=by simpa using hb
  subst e
  exact⟨_,st,λv z=>by
   have z':Data.fields _=Data.cell v:=z
   cases z'⟩
 keep:=λi h h' st k=>k it (by simp) _ st
 item:=by
  intro X hP hw hK hc i pins s σ H E I hf st hg
  subst hP hw hK
  obtain⟨f0,f1,f2,f3,f4,f5⟩:=hf it (by simp)
  have W:=Walks.range (prog:=X.prog) (w:=X.w) (I.ok.hd hc) it lo 1 n
  refine W.item i s _ _ hg st λv h' tk hv st' kk=>?_
  obtain⟨t,rfl⟩:=hv
  have I1:Inv X pins σ H { s with heap:=h',toks:=tk }:=I.turned (λb o hb e=>kk b o (by simpa using hb) e) f0 f1 f3 f4 f5
  refine⟨_,rfl,qo (s:={ s with heap:=h',toks:=tk }) (n := "range_iterator") st' rfl rfl (by decide) ⟨.int (lo+i),H,I1,⟨t,?_⟩,⟨rfl,rfl⟩,st',λb hb=>(hf b hb).1⟩⟩
  rw[Int.mul_one]
 done:=by
  intro X hP hw hK hc i pins s σ H E I hf st hg
  subst hP hw hK
  obtain⟨f0,f1,f2,f3,f4,f5⟩:=hf it (by simp)
  exact wpAny_pyNext_range_end (I.ok.hd hc) st (by have:n<=i:=hg;omega) λh' eb=>⟨rfl,I.turned (t':=s.toks) (λb o hb e=>eb b o hb e) f0 f1 f3 f4 f5⟩
 self:=λ_ _ _ _ _ st h=>wpAny_pyIter_rangeiter st h
section
variable {X:Cx}{tg:Expr}
def iList (K:PySem.W.Frag)(tl:TE):TI:=λσ H R=>tl σ H λx H1=>∃a,x=.ref a/\(∃xs,SqL K H1 a xs)/\R (Itl K a) H1
theorem V7 {l:Expr}{tl:TE}(hl:PE X l tl):PI X tg l (iList X.K tl):=by
 intro pins s σ H R I h
 refine thn (hl pins s σ H _ I h) λv s1 ⟨x,H1,I1,r1,q1⟩=>?_
 obtain⟨a,e,⟨xs,hq⟩,q⟩:=q1
 subst e
 cases r1
 obtain⟨its,rv,p,hz⟩:=I1.list hq
 refine wpAny_pyIter_list p.isList ?_
 refine⟨s1.heap.objs.size,[s1.heap.objs.size],_,_,H1,rfl,I1.kept (t':=s1.toks) λb o e=>Heap.get?_push_of_some _ e,Kp a _,⟨_,Heap.get?_push_size _ rfl,rfl,rfl⟩,λb hb=>?_,q⟩
 have e:b=s1.heap.objs.size:=by simpa using hb
 subst e
 exact I1.fpOk (Nat.le_refl _) (I1.hok.fresh (Nat.le_refl _))
theorem UZ {pins:List (Addr×Obj)}{σ:St}{H:Hp}{s:Shared}{R:It->Hp->Prop}{E:Value->Shared->Prop}{lo hi:Int}{t u v:Tok}{tk:Nat}(I:Inv X pins σ H s)(h1:-(2 ^ 62)<=lo)(h2:lo < 2 ^ 62)(h3:-(2 ^ 62)<=hi)(h4:hi < 2 ^ 62)
  (q:R (Itr lo (hi - lo).toNat) H):wpAny (model X.prog X.w) X.A (pyIter (.ref s.heap.objs.size)) (PIE X pins σ tg R) E { s with heap:=s.heap.push { cls:=.type "range",data:=.fields #[.int lo t,.int hi u,.int 1 v] },toks:=tk }:=by
 refine wpAny_pyIter_range (IsRange.new ..) (small_one h1 h2 h3 h4) ?_
 have I1:Inv X pins σ H { s with heap:=s.heap.push { cls:=.type "range",data:=.fields #[.int lo t,.int hi u,.int 1 v] },toks:=tk }:=I.kept λb o e=>Heap.get?_push_of_some _ e
 refine⟨(s.heap.push { cls:=.type "range",data:=.fields #[.int lo t,.int hi u,.int 1 v] }).objs.size,[(s.heap.push { cls:=.type "range",data:=.fields #[.int lo t,.int hi u,.int 1 v] }).objs.size],_,_,H,rfl,
  I1.kept (t':=tk) λb o e=>Heap.get?_push_of_some _ e,Gj _ lo (hi - lo).toNat,?_,λb hb=>?_,q⟩
 ·have e1:lo+((0:Nat):Int) * 1=lo:=by simp
  have e2:(((hi - lo).toNat:Nat):Int) - ((0:Nat):Int)=Builtin.Range.rangeSize lo hi 1:=by rw[rangeSize_one];split<;>omega
  show IsRangeIter _ _ (lo+((0:Nat):Int) * 1) ((((hi - lo).toNat:Nat):Int) - ((0:Nat):Int)) 1
  rw[e1,e2]
  exact Heap.get?_push_size _ rfl
 ·have e:b=(s.heap.push { cls:=.type "range",data:=.fields #[.int lo t,.int hi u,.int 1 v] }).objs.size:=by simpa using hb
  subst e
  exact I1.fpOk (Nat.le_refl _) (I1.hok.fresh (Nat.le_refl _))
def iRng1 (ta:TA):TI:=λσ H R=>ta σ H λvs H1=>∃j:Int,vs=[.int j]/\-(2 ^ 62)<=j/\j < 2 ^ 62/\R (Itr 0 j.toNat) H1
theorem GG {a:Expr}{ta:TA}{p pos:Pos}(hg:Gl X "range") (hm:X.mg "range" = none) (ha:PA X [a] ta) (hs:starEach [a] X.env=[(false,eval a X.env)]:=by rfl):PI X tg (.Call (.Name "range" p) [a] [] pos) (iRng1 ta):=by
 intro pins s σ H R I h
 refine Call_ (wX I hg hm boot_range (PyProof.Rows.callWith_type1 (thn (ha pos pins s σ H _ I h) λus s1 ⟨vs,H1,I1,r1,q1⟩=>?_) hs rfl))
 obtain⟨j,e,q1,q2,q⟩:=q1
 subst e
 cases r1 with
 |cons r rr=>
  cases rr
  obtain⟨t,rfl⟩:=r
  exact call_range_1 (UZ I1 (by omega) (by omega) q1 q2 (by simpa using q))
def tFor (wi:TI)(g:TG)(tb:TS):TS:=λD σ H=>wi σ H λJ H1=>∃W:Nat->Nat->St->Hp->Prop,(∃m,W 0 m σ H1)/\∀i m σ H,W i m σ H ->
 (J.stop i H/\D.nx σ H)∨(J.go i H/\∃N:St->Hp->Prop,(∀σ' H',N σ' H'->∃m',m' < m/\W (i+1) m' σ' H')/\∀x H',J.yld i H x H'->g x σ H' λσ2 H2=>tb { D with nx:=N,ct:=N,bk:=D.nx } σ2 H2)
def pinsAt (fp:List Addr)(h:Heap):List (Addr×Obj):=fp.filterMap λb=>(h.get? b).map λo=>(b,o)
theorem wb {fp:List Addr}{h:Heap}{b:Addr}{o:Obj}(hb:b∈fp)(e:h.get? b=some o):(b,o)∈pinsAt fp h:=List.mem_filterMap.mpr ⟨b,hb,by rw[e];rfl⟩
theorem kC {fp:List Addr}{h:Heap}{p:Addr×Obj}(hp:p∈pinsAt fp h):p.1∈fp/\h.get? p.1=some p.2:=by
 obtain⟨b,hb,e⟩:=List.mem_filterMap.mp hp
 cases q:h.get? b with
 |none=>rw[q] at e;cases e
 |some o=>
  rw[q] at e
  have e':(b,o)=p:=Option.some.inj e
  subst e'
  exact⟨hb,q⟩
theorem Inv.pinned {pins:List (Addr×Obj)}{σ:St}{H:Hp}{s:Shared}{fp:List Addr}(I:Inv X pins σ H s)(hf:∀b∈fp,FpOk X pins H b)(ho:∀b∈fp,∃o,s.heap.get? b=some o/\∀v,o.data≠.cell v):Inv X (pins++pinsAt fp s.heap) σ H s :=
 I.pins_of λp hp=>(List.mem_append.mp hp).elim (λz=>I.pin p (List.mem_append_right _ z)) λz=>by
  obtain⟨hb,e⟩:=kC z
  obtain⟨f0,f1,f2,_⟩:=hf p.1 hb
  obtain⟨o,e',d⟩:=ho p.1 hb
  rw[e] at e';cases e'
  exact⟨e,f0,f1,f2,d⟩
theorem Inv.unpinned {pins pl:List (Addr×Obj)}{σ:St}{H:Hp}{s:Shared}(I:Inv X (pins++pl) σ H s):Inv X pins σ H s:=I.pins_of λp hp=>I.pin p (List.mem_append_right _ (List.mem_append_left _ hp))
theorem Gs {iter:Expr}{body:List Stmt}{wi:TI}{g:TG}{tb:TS}{pos:Pos}(hp:PassesOwn (model X.prog X.w) X.A X.env X.xe)(hc:X.calm=true)(hi:PI X tg iter wi)(hg:PG X tg g)(hb:PSs X body tb)
  (hs:∀x,foldedSetIterable iter X.env x=pure x:=by intro _;rfl):PS X (.For tg iter body [] pos) (tFor wi g tb):=by
 intro pins s σ H D I h
 refine wpAny_For (thn (hi pins s σ H _ I h) λv s1 h1=>thn h1 λitv s2 h2=>?_) hs
 obtain⟨it,fp,tn,J,H2,e,I2,T,st2,f2,W,⟨m0,w0⟩,turn⟩:=h2
 subst e
 have stat:∀ {H':Hp},(∀b∈fp,H' b=none)->∀b∈fp,FpOk X pins H' b:=λhn b hb=>⟨hn b hb,(f2 b hb).2⟩
 refine codeAny_forLoop_any (λn s'=>∃i σ' H',Inv X pins σ' H' s'/\tn i s'.heap/\(∀b∈fp,H' b=none)/\W i n σ' H') ?_ m0 ⟨0,σ,H2,I2,st2,λb hb=>(f2 b hb).1,w0⟩
 rintro n s3 ⟨i,σ3,H3,I3,st3,fr3,w3⟩
 rcases turn i n σ3 H3 w3 with⟨stop,qn⟩ | ⟨go,N,hN,step⟩
 ·refine wpAny_passesOwn hp (thn (T.done X rfl rfl rfl hc i pins s3 σ3 H3 X.xe I3 (stat fr3) st3 stop) λr s4 ⟨hr,I4⟩=>?_)
  subst hr
  exact wpAny_execs_nil ⟨σ3,H3,I4,qn⟩
 ·refine wpAny_passesOwn hp (thn (T.item X rfl rfl rfl hc i pins s3 σ3 H3 X.xe I3 (stat fr3) st3 go) λr s4 ⟨u,hr,h4⟩=>?_)
  subst hr
  refine wpAny_passesOwn hp (thn h4 λ_ s5 ⟨x,H5,I5,r5,y5,st5,fr5⟩=>?_)
  have I5':=I5.pinned (stat fr5) (T.obj _ _ st5)
  refine wpAny_passesOwn hp (thn (hg _ s5 σ3 H5 x u _ I5' r5 (step x H5 y5)) λ_ s6 ⟨σ6,H6,I6,q6⟩=>?_)
  refine wpAny_passesOwn hp (thn (hb _ s6 σ6 H6 _ I6 q6) λf s7 q7=>?_)
  have again:∀ {σ7:St} {H7:Hp},Inv X (pins++pinsAt fp s5.heap) σ7 H7 s7->N σ7 H7->∃m,m < n/\∃i σ' H',Inv X pins σ' H' s7/\tn i s7.heap/\(∀b∈fp,H' b=none)/\W i m σ' H':=fun {σ7 H7} I7 n7=>by
   obtain⟨m',hm,w7⟩:=hN σ7 H7 n7
   refine⟨m',hm,i+1,σ7,H7,I7.unpinned,T.keep _ _ _ st5 λb hb o e=>(I7.pin (b,o) (List.mem_append_right _ (List.mem_append_right _ (wb hb e)))).1,λb hb=>?_,w7⟩
   obtain⟨o,e,d⟩:=T.obj _ _ st5 b hb
   exact (I7.pin (b,o) (List.mem_append_right _ (List.mem_append_right _ (wb hb e)))).2.1
  cases f with
  |next=>obtain⟨σ7,H7,I7,n7⟩:=q7;exact again I7 n7
  |cont=>obtain⟨σ7,H7,I7,n7⟩:=q7;exact again I7 n7
  |brk=>obtain⟨σ7,H7,I7,q7⟩:=q7;exact⟨σ7,H7,I7.unpinned,q7⟩
  |ret v=>obtain⟨x7,σ7,H7,I7,r7,q7⟩:=q7;exact⟨x7,σ7,H7,I7.unpinned,r7,q7⟩
end
abbrev R2:=V->V->Hp->VK->Prop
def OpR (X:Cx)(f:Value->Value->Sem Value)(r:R2):Prop :=
 ∀(pins:List (Addr×Obj)) (s:Shared) (σ:St) (H:Hp) (x y:V) (v u:Value) (Q:VK),Inv X pins σ H s->RelV x v->RelV y u->r x y H Q ->
  wpAny (model X.prog X.w) X.A (f v u) (EP X pins σ Q) X.xe s
def UnR (X:Cx)(f:Value->Sem Value)(r:V->Hp->VK->Prop):Prop :=
 ∀(pins:List (Addr×Obj)) (s:Shared) (σ:St) (H:Hp) (x:V) (v:Value) (Q:VK),Inv X pins σ H s->RelV x v->r x H Q ->
  wpAny (model X.prog X.w) X.A (f v) (EP X pins σ Q) X.xe s
def CallR (X:Cx)(f:Value)(r:List V->Hp->VK->Prop):Prop :=
 ∀(pins:List (Addr×Obj)) (s:Shared) (σ:St) (H:Hp) (xs:List V) (us:List Value) (Q:VK),Inv X pins σ H s->Vals xs us->r xs H Q ->
  wpAny (model X.prog X.w) X.A (call f us) (EP X pins σ Q) X.xe s
def TruR (X:Cx)(r:V->Hp->(Bool->Hp->Prop)->Prop):Prop :=
 ∀(pins:List (Addr×Obj)) (s:Shared) (σ:St) (H:Hp) (x:V) (v:Value) (Q:Bool->Hp->Prop),Inv X pins σ H s->RelV x v->r x H Q ->
  wpAny (model X.prog X.w) X.A (truthy v) (TP X pins σ Q) X.xe s
def tOp (r:R2)(ta tb:TE):TE:=λσ H Q=>ta σ H λx H1=>tb σ H1 λy H2=>r x y H2 Q
def tUn (r:V->Hp->VK->Prop)(ta:TE):TE:=λσ H Q=>ta σ H λx H1=>r x H1 Q
def rI (C:Int->Int->Prop)(g:Int->Int->V):R2:=λx y H Q=>∃i j,x=.int i/\y=.int j/\C i j/\Q (g i j) H
def rI0 (g:Int->Int->V):R2:=λx y H Q=>∃i j,x=.int i/\y=.int j/\Q (g i j) H
def rU (g:Int->V):V->Hp->VK->Prop:=λx H Q=>∃i,x=.int i/\Q (g i) H
section
variable {X:Cx}{a b c:Expr}{ta tb tc:TE}{pos:Pos}
theorem binT (ha:PE X a ta)(hb:PE X b tb){pins:List (Addr×Obj)}{s:Shared}{σ:St}{H:Hp}{R:V->V->Hp->Prop}(I:Inv X pins σ H s)
  (h:ta σ H λx H1=>tb σ H1 λy H2=>R x y H2) {Q:Value->Shared->Prop} {f:Value->Value->Sem Value}
  (hf:∀v u s2 x y H2,Inv X pins σ H2 s2->RelV x v->RelV y u->R x y H2->wpAny (model X.prog X.w) X.A (f v u) Q X.xe s2) :
  wpAny (model X.prog X.w) X.A (eval a X.env) (λv s₁=>wpAny (model X.prog X.w) X.A (eval b X.env) (λu s₂=>wpAny (model X.prog X.w) X.A (f v u) Q X.xe s₂) X.xe s₁) X.xe s:=by
 refine thn (ha pins s σ H _ I h) λv s1 ⟨x,H1,I1,r1,q1⟩=>?_
 refine thn (hb pins s1 σ H1 _ I1 q1) λu s2 ⟨y,H2,I2,r2,q2⟩=>?_
 exact hf v u s2 x y H2 I2 r1 r2 q2
theorem Wv {op:Operator}{r:R2}(ho:OpR X (binaryOp op) r)(ha:PE X a ta)(hb:PE X b tb):PE X (.BinOp a op b pos) (tOp r ta tb):=by
 intro pins s σ H Q I h
 exact wpAny_BinOp (binT ha hb I h λv u s2 x y H2 I2 rx ry q=>ho pins s2 σ H2 x y v u Q I2 rx ry q)
theorem KK {op:UnaryOp}{r:V->Hp->VK->Prop}(ho:UnR X (unaryOp op) r)(ha:PE X a ta):PE X (.UnaryOp op a pos) (tUn r ta):=by
 intro pins s σ H Q I h
 exact UnaryOp_ (thn (ha pins s σ H _ I h) λv s1 ⟨x,H1,I1,r1,q1⟩=>ho pins s1 σ H1 x v Q I1 r1 q1)
theorem opI {f:Value->Value->Sem Value}{C:Int->Int->Prop}{g:Int->Int->Int}
  (rule:∀(i j:Int) (t u:Tok) (s:Shared) (Q:Value->Shared->Prop) (E:Value->Shared->Prop),C i j->Q (.int (g i j) s.toks) { s with toks:=s.toks+1 }->wpAny (model X.prog X.w) X.A (f (.int i t) (.int j u)) Q E s) :
  OpR X f (rI C λi j=>.int (g i j)):=by
 intro pins s σ H x y v u Q I rx ry h
 obtain⟨i,j,rfl,rfl,hc,q⟩:=h
 obtain⟨t,rfl⟩:=rx
 obtain⟨t',rfl⟩:=ry
 exact rule i j t t' s _ _ hc ⟨.int (g i j),H,I.tok _,⟨_,rfl⟩,q⟩
theorem opI0 {f:Value->Value->Sem Value}{g:Int->Int->Int}
  (rule:∀(i j:Int) (t u:Tok) (s:Shared) (Q:Value->Shared->Prop) (E:Value->Shared->Prop),Q (.int (g i j) s.toks) { s with toks:=s.toks+1 }->wpAny (model X.prog X.w) X.A (f (.int i t) (.int j u)) Q E s) :
  OpR X f (rI0 λi j=>.int (g i j)):=by
 intro pins s σ H x y v u Q I rx ry h
 obtain⟨i,j,rfl,rfl,q⟩:=h
 obtain⟨t,rfl⟩:=rx
 obtain⟨t',rfl⟩:=ry
 exact rule i j t t' s _ _ ⟨.int (g i j),H,I.tok _,⟨_,rfl⟩,q⟩
theorem opB0 {f:Value->Value->Sem Value}{g:Int->Int->Bool}
  (rule:∀(i j:Int) (t u:Tok) (s:Shared) (Q:Value->Shared->Prop) (E:Value->Shared->Prop),Q (.bool (g i j)) s->wpAny (model X.prog X.w) X.A (f (.int i t) (.int j u)) Q E s) :
  OpR X f (rI0 λi j=>.bl (g i j)):=by
 intro pins s σ H x y v u Q I rx ry h
 obtain⟨i,j,rfl,rfl,q⟩:=h
 obtain⟨t,rfl⟩:=rx
 obtain⟨t',rfl⟩:=ry
 exact rule i j t t' s _ _ ⟨.bl (g i j),H,I,rfl,q⟩
def CDiv (i j:Int):Prop:=0 < j/\j < 1073741824
def CPow (i j:Int):Prop:=0<=j/\j<=1000000/\i.natAbs < 2 ^ 64
def CMul (i j:Int):Prop:=(-(2 ^ 64) < i/\i < 2 ^ 64)∨(-(2 ^ 64) < j/\j < 2 ^ 64)
theorem CMul.ok {i j:Int}(h:CMul i j):IntMulOk i j:=by
 rcases h with⟨h1,h2⟩ | ⟨h1,h2⟩
 ·exact .of_left (intBits_le_64 h1 h2)
 ·exact .of_right (intBits_le_64 h1 h2)
theorem Kv (k:Nat):(0:Int)<=2 ^ k:=by
 rw[two_pow_cast]
 exact Int.natCast_nonneg _
theorem op_add:OpR X (binaryOp .Add) (rI0 λi j=>.int (i+j)):=opI0 λ_ _ _ _ _ _ _ q=>add_int q
theorem Kr:OpR X (binaryOp .Sub) (rI0 λi j=>.int (i - j)):=opI0 λ_ _ _ _ _ _ _ q=>sub_int q
theorem zag:OpR X (binaryOp .Mult) (rI CMul λi j=>.int (i * j)):=opI λ_ _ _ _ _ _ _ hc q=>mul_int q hc.ok
theorem G0:OpR X (binaryOp .FloorDiv) (rI CDiv λi j=>.int (i / j)):=opI λi j _ _ _ _ _ hc q=>by
 have h1:(0:Int) < j:=hc.1
 have h2:j < 1073741824:=hc.2
 exact floordiv_int (by omega) (by rw[Int.fdiv_eq_ediv_of_nonneg i (by omega)];exact q) (.inl (PyProof.noPylong_small (by omega)))
theorem Gy:OpR X (binaryOp .Mod) (rI (λ_ j=>0 < j) λi j=>.int (i % j)):=opI λi j _ _ _ _ _ hc q=>by
 have h1:(0:Int) < j:=hc
 exact mod_int' (by omega) (by rw[Int.fmod_eq_emod_of_nonneg i (by omega)];exact q)
theorem QX:OpR X (binaryOp .Pow) (rI CPow λi j=>.int (i ^ j.toNat)):=opI λ_ _ _ _ _ _ _ hc q=>pow_int_small hc.1 hc.2.1 hc.2.2 q
theorem GO:OpR X (binaryOp .RShift) (rI (λ_ j=>0<=j) λi j=>.int (i / 2 ^ j.toNat)):=opI λi j _ _ _ _ _ hc q=>
 rshift_int hc (by rw[Int.fdiv_eq_ediv_of_nonneg i (Kv _)];exact q)
theorem R4:OpR X (binaryOp .BitAnd) (rI0 λi j=>.int (Builtin.bitAnd i j)):=opI0 λ_ _ _ _ _ _ _ q=>and_int q
theorem unI {f:Value->Sem Value}{g:Int->Int}
  (rule:∀(i:Int) (t:Tok) (s:Shared) (Q:Value->Shared->Prop) (E:Value->Shared->Prop),Q (.int (g i) s.toks) { s with toks:=s.toks+1 }->wpAny (model X.prog X.w) X.A (f (.int i t)) Q E s) :
  UnR X f (rU λi=>.int (g i)):=by
 intro pins s σ H x v Q I rx h
 obtain⟨i,rfl,q⟩:=h
 obtain⟨t,rfl⟩:=rx
 exact rule i t s _ _ ⟨.int (g i),H,I.tok _,⟨_,rfl⟩,q⟩
theorem Gk:UnR X (unaryOp .USub) (rU λi=>.int (-i)):=unI λ_ _ _ _ _ q=>neg_int q
end
def scal:V->V->Bool
 |.non,.non=>true | .non,.int _=>true | .int _,.non=>true | .non,.bl _=>true | .bl _,.non=>true | .non,.str _=>true | .str _,.non=>true
 |.int _,.int _=>true | .bl _,.bl _=>true | .str _,.str _=>true | .byt _,.byt _=>true
 |.int _,.str _=>true | .str _,.int _=>true | .bl _,.str _=>true | .str _,.bl _=>true
 |_,_=>false
def rEq:R2:=λx y H Q=>scal x y=true/\Q (.bl (decide (x=y))) H
theorem QG {i j:Int}:decide (V.int i=V.int j)=(i==j):=by
 rw[Bool.eq_iff_iff]
 simp
theorem Jh {i j:Bool}:decide (V.bl i=V.bl j)=(i==j):=by
 rw[Bool.eq_iff_iff]
 simp
theorem KS {i j:Str}:decide (V.str i=V.str j)=(i==j):=by
 rw[Bool.eq_iff_iff]
 simp
theorem KN {i j:Array UInt8}:decide (V.byt i=V.byt j)=(i.toList==j.toList):=by
 rw[Bool.eq_iff_iff]
 cases i
 cases j
 simp
section
variable {X:Cx}{a b c:Expr}{ta tb tc:TE}{pos:Pos}
theorem zP {pins:List (Addr×Obj)}{σ:St}{H:Hp}{s:Shared}{Q:VK}{k k':Bool}(I:Inv X pins σ H s)(q:Q (.bl k) H)(e:k=k'):EP X pins σ Q (.bool k') s:=by
 subst e
 exact⟨.bl k,H,I,rfl,q⟩
theorem Ge:OpR X (compareOp .Eq) rEq:=by
 intro pins s σ H x y v u Q I rx ry h
 obtain⟨hs,q⟩:=h
 cases x with
 |non=>
  cases rx
  cases y with
  |non=>cases ry;exact PySem.EqNone.eq_none_none (zP I q (by simp))
  |bl j=>cases ry;exact PySem.EqNone.eq_none_bool (zP I q (by simp))
  |int j=>obtain⟨t',rfl⟩:=ry;exact PySem.EqNone.eq_none_int (zP I q (by simp))
  |str j=>obtain⟨t',rfl⟩:=ry;exact PySem.EqNone.eq_none_str (zP I q (by simp))
  |_=>exact absurd (show false=true from hs) Bool.false_ne_true
 |bl i=>
  cases rx
  cases y with
  |non=>cases ry;exact PySem.EqNone.eq_bool_none (zP I q (by simp))
  |bl j=>cases ry;exact eq_bool (zP I q Jh)
  |str j=>obtain⟨t',rfl⟩:=ry;exact PySem.EqMixed.eq_bool_str (zP I q (by simp))
  |_=>exact absurd (show false=true from hs) Bool.false_ne_true
 |int i=>
  obtain⟨t,rfl⟩:=rx
  cases y with
  |non=>cases ry;exact PySem.EqNone.eq_int_none (zP I q (by simp))
  |int j=>obtain⟨t',rfl⟩:=ry;exact eq_int (zP I q QG)
  |str j=>obtain⟨t',rfl⟩:=ry;exact PySem.EqMixed.eq_int_str (zP I q (by simp))
  |_=>exact absurd (show false=true from hs) Bool.false_ne_true
 |str i=>
  obtain⟨t,rfl⟩:=rx
  cases y with
  |non=>cases ry;exact PySem.EqNone.eq_str_none (zP I q (by simp))
  |bl j=>cases ry;exact PySem.EqMixed.eq_str_bool (zP I q (by simp))
  |int j=>obtain⟨t',rfl⟩:=ry;exact PySem.EqMixed.eq_str_int (zP I q (by simp))
  |str j=>obtain⟨t',rfl⟩:=ry;exact eq_str (zP I q KS)
  |_=>exact absurd (show false=true from hs) Bool.false_ne_true
 |byt i=>
  obtain⟨t,rfl⟩:=rx
  cases y with
  |byt j=>obtain⟨t',rfl⟩:=ry;exact PySem.W.eq_bytes (zP I q KN)
  |_=>exact absurd (show false=true from hs) Bool.false_ne_true
 |_=>cases y<;>exact absurd (show false=true from hs) Bool.false_ne_true
theorem xK:OpR X (compareOp .Lt) (rI0 λi j=>.bl (decide (i < j))):=opB0 λ_ _ _ _ _ _ _ q=>lt_int q
theorem wJ:OpR X (compareOp .LtE) (rI0 λi j=>.bl (decide (i<=j))):=opB0 λ_ _ _ _ _ _ _ q=>le_int q
theorem vz:OpR X (compareOp .Gt) (rI0 λi j=>.bl (decide (j < i))):=opB0 λ_ _ _ _ _ _ _ q=>gt_int q
theorem J3:OpR X (compareOp .In) (λx y H Q=>∃i j,x=.str i/\y=.str j/\Q (.bl (!(Builtin.Str.occurrences j i 0 j.length 1).isEmpty)) H):=by
 intro pins s σ H x y v u Q I rx ry h
 obtain⟨i,j,rfl,rfl,q⟩:=h
 obtain⟨t,rfl⟩:=rx
 obtain⟨t',rfl⟩:=ry
 exact in_str (zP I q rfl)
theorem Yu:OpR X (compareOp .Is) (λx y H Q=>y=.non/\Q (.bl (decide (x=.non))) H):=by
 intro pins s σ H x y v u Q I rx ry h
 obtain⟨rfl,q⟩:=h
 cases ry
 refine is_none_gen (zP I q ?_)
 cases x<;>first
  | (cases rx;rfl)
  | (obtain⟨t,rfl⟩:=rx;rfl)
theorem OpR.or {f:Value->Value->Sem Value}{r r':R2}(h:OpR X f r)(h':OpR X f r'):OpR X f (λx y H Q=>r x y H Q∨r' x y H Q):=by
 intro pins s σ H x y v u Q I rx ry q
 rcases q with q | q
 ·exact h pins s σ H x y v u Q I rx ry q
 ·exact h' pins s σ H x y v u Q I rx ry q
theorem nomark (b:Expr){op:CmpOp}(h:op≠.In:=by decide)(h2:op≠.NotIn:=by decide):behindInMarks op b=false:=by
 have e1:(op==CmpOp.In)=false:=by cases op<;>first | rfl | exact absurd rfl h
 have e2:(op==CmpOp.NotIn)=false:=by cases op<;>first | rfl | exact absurd rfl h2
 cases b<;>simp[behindInMarks,e1,e2]
theorem Vq {op:CmpOp}{r:R2}(ho:OpR X (compareOp op) r)(ha:PE X a ta)(hb:PE X b tb)(hm:behindInMarks op b=false):PE X (.Compare a [op] [b] pos) (tOp r ta tb):=by
 intro pins s σ H Q I h
 exact wpAny_Compare1 (binT ha hb I h λv u s2 x y H2 I2 rx ry q=>ho pins s2 σ H2 x y v u Q I2 rx ry q) hm
def tTest (t:TE):TT:=λσ H Q=>t σ H λx H'=>∃k,x=.bl k/\Q k H'
theorem ZG {op:CmpOp}{r:R2}(ho:OpR X (compareOp op) r)(ha:PE X a ta)(hb:PE X b tb)(hm:behindInMarks op b=false):PT X (.Compare a [op] [b] pos) (tTest (tOp r ta tb)):=by
 intro pins s σ H Q I h
 refine wpAny_isTrue_Compare1 (thn (ha pins s σ H _ I h) λv s1 ⟨x,H1,I1,r1,q1⟩=>thn (hb pins s1 σ H1 _ I1 q1) λu s2 ⟨y,H2,I2,r2,q2⟩=>
  thn (ho pins s2 σ H2 x y v u _ I2 r1 r2 q2) λc s3 ⟨z,H3,I3,r3,k,e,q3⟩=>?_) hm
 subst e
 cases r3
 exact wpAny_truthy_bool ⟨H3,I3,q3⟩
def tChain (r r':R2)(ta tb tc:TE):TE:=λσ H Q=>ta σ H λx H1=>tb σ H1 λy H2=>r x y H2 λz H3=>∃k,z=.bl k /\
 (if k=true then tc σ H3 λw' H4=>r' y w' H4 Q else Q (.bl false) H3)
theorem UI {op op':CmpOp}{r r':R2}(ho:OpR X (compareOp op) r)(ho':OpR X (compareOp op') r')(ha:PE X a ta)(hb:PE X b tb)(hc:PE X c tc)
  (hm:lastMarks [op,op'] [b,c]=false:=by with_unfolding_all rfl):PE X (.Compare a [op,op'] [b,c] pos) (tChain r r' ta tb tc):=by
 intro pins s σ H Q I h
 refine Compare_chain (thn (ha pins s σ H _ I h) λv s1 ⟨x,H1,I1,r1,q1⟩=>chain_link (thn (hb pins s1 σ H1 _ I1 q1) λu s2 ⟨y,H2,I2,r2,q2⟩=>
  thn (ho pins s2 σ H2 x y v u _ I2 r1 r2 q2) λd s3 ⟨z,H3,I3,r3,k,e,q3⟩=>?_)) hm
 subst e
 cases r3
 refine wpAny_truthy_bool ?_
 cases k with
 |false=>exact ite_ff ⟨.bl false,H3,I3,rfl,q3⟩
 |true=>exact ite_tt (chain_last (thn (hc pins s3 σ H3 _ I3 q3) λw' s4 ⟨z',H4,I4,r4,q4⟩=>ho' pins s4 σ H4 y z' u w' Q I4 r2 r4 q4))
theorem JB {op op':CmpOp}{r r':R2}(ho:OpR X (compareOp op) r)(ho':OpR X (compareOp op') r')(ha:PE X a ta)(hb:PE X b tb)(hc:PE X c tc)
  (hm:lastMarks [op,op'] [b,c]=false:=by with_unfolding_all rfl):PT X (.Compare a [op,op'] [b,c] pos) (tTest (tChain r r' ta tb tc)):=by
 intro pins s σ H Q I h
 refine isTrue_chain (thn (ha pins s σ H _ I h) λv s1 ⟨x,H1,I1,r1,q1⟩=>test_link (thn (hb pins s1 σ H1 _ I1 q1) λu s2 ⟨y,H2,I2,r2,q2⟩=>
  thn (ho pins s2 σ H2 x y v u _ I2 r1 r2 q2) λd s3 ⟨z,H3,I3,r3,k,e,q3⟩=>?_)) hm
 subst e
 cases r3
 refine wpAny_truthy_bool ?_
 cases k with
 |false=>
  obtain⟨k',e',q'⟩:=q3
  cases e'
  exact ite_ff ⟨H3,I3,q'⟩
 |true=>
  refine ite_tt (test_last (thn (hc pins s3 σ H3 _ I3 q3) λw' s4 ⟨z',H4,I4,r4,q4⟩=>thn (ho' pins s4 σ H4 y z' u w' _ I4 r2 r4 q4) λd' s5 ⟨z2,H5,I5,r5,k2,e2,q5⟩=>?_))
  subst e2
  cases r5
  exact wpAny_truthy_bool ⟨H5,I5,q5⟩
def TruV (K:PySem.W.Frag)(x:V)(H:Hp)(k:Bool):Prop :=
 match x with
 |.non=>k=false
 |.bl b=>k=b
 |.int i=>k=(i != 0)
 |.str y=>y.length<=sizeLine/\k=((y.length:Int) != 0)
 |.byt y=>y.size<=sizeLine/\k=((y.size:Int) != 0)
 |.ref p=>(∃xs,SqL K H p xs/\k=!xs.isEmpty)∨(∃xs,SqT K H p xs/\k=!xs.isEmpty)∨∃kvs,H p=some (.dK kvs)/\k=!kvs.isEmpty
 |_=>False
theorem RQ {κ:Type}{kvs:List (κ×V)}{vs:List (κ×Value)}(r:KV kvs vs):(!vs.isEmpty)=!kvs.isEmpty:=by
 cases r<;>rfl
theorem Vj {xs:List V}{its:List Value}(r:Vals xs its):(!its.toArray.isEmpty)=!xs.isEmpty:=by
 cases r<;>simp
theorem line63:(sizeLine:Nat) < 2 ^ 63:=by rw[sizeLine_eq];decide
theorem GC:TruR X (λx H Q=>∃k,TruV X.K x H k/\Q k H):=by
 intro pins s σ H x v Q I rx h
 obtain⟨k,e,q⟩:=h
 have hl:=line63
 have hs:sizeLine=16777216:=sizeLine_eq
 cases x with
 |non=>
  cases rx
  have e':k=false:=e
  subst e'
  exact truthy_none ⟨H,I,q⟩
 |bl b=>
  cases rx
  have e':k=b:=e
  subst e'
  exact wpAny_truthy_bool ⟨H,I,q⟩
 |int i=>
  obtain⟨t,rfl⟩:=rx
  have e':k=(i != 0):=e
  subst e'
  exact PySem.P.truthy_int ⟨H,I,q⟩
 |str y=>
  obtain⟨t,rfl⟩:=rx
  obtain⟨hy,e'⟩:y.length<=sizeLine/\k=((y.length:Int) != 0):=e
  subst e'
  exact PySem.P.truthy_str (by omega) ⟨H,I.tok _,q⟩
 |byt y=>
  obtain⟨t,rfl⟩:=rx
  obtain⟨hy,e'⟩:y.size<=sizeLine/\k=((y.size:Int) != 0):=e
  subst e'
  exact PySem.W.truthy_bytes (by omega) ⟨H,I.tok _,q⟩
 |ref p=>
  cases rx
  have e':(∃xs,SqL X.K H p xs/\k=!xs.isEmpty)∨(∃xs,SqT X.K H p xs/\k=!xs.isEmpty)∨∃kvs,H p=some (.dK kvs)/\k=!kvs.isEmpty:=e
  rcases e' with⟨xs,hx,e'⟩ | ⟨xs,hx,e'⟩ | ⟨kvs,hx,e'⟩
  ·subst e'
   obtain⟨its,r,pl,hz⟩:=I.list hx
   have hlen:=r.length
   exact wpAny_truthy_list pl.isList (by simp only[List.size_toArray];omega) ⟨H,I.tok _,by rw[Vj r];exact q⟩
  ·subst e'
   obtain⟨its,r,pl,hz⟩:=I.tuple hx
   have hlen:=r.length
   exact truthy_tuple pl (by simp only[List.size_toArray];omega) ⟨H,I.tok _,by rw[Vj r];exact q⟩
  ·subst e'
   obtain⟨hz,hS,vs,r,m⟩:kvs.length<=sizeLine/\(p==sysModules)=false/\∃vs,KV kvs vs/\s.heap.DictOf (zR X.prog X.w) p vs:=I.hok p _ hx
   have hlen:kvs.length=vs.length:=Paired.length r
   exact wpAny_truthy_dict hS m (by omega) ⟨H,I.tok _,by rw[RQ r];exact q⟩
 |_=>exact (show False from e).elim
theorem Uv (ha:PE X a ta)(he:∀whole,isTrue a X.env whole=(do let v <-whole;standAt a.pos;holding [v] (truthy v))) :
  PT X a (λσ H Q=>ta σ H λx H'=>∃k,TruV X.K x H' k/\Q k H'):=by
 intro pins s σ H Q I h
 exact isTrue_plain (thn (ha pins s σ H _ I h) λv s1 ⟨x,H1,I1,r1,q1⟩=>GC pins s1 σ H1 x v Q I1 r1 q1) (he _)
theorem Ko:OpR X (binaryOp .Add) (λx y H Q=>∃i j,x=.str i/\y=.str j/\i.length+j.length<=sizeLine/\Q (.str (i++j)) H):=by
 intro pins s σ H x y v u Q I rx ry h
 obtain⟨i,j,rfl,rfl,hz,q⟩:=h
 obtain⟨t,rfl⟩:=rx
 obtain⟨t',rfl⟩:=ry
 exact add_str (λt' tk=>⟨.str (i++j),H,I.tok _,⟨_,rfl⟩,q⟩) hz
theorem vals1 {x:V}{us:List Value}(r:Vals [x] us):∃u,us=[u]/\RelV x u:=by
 cases r with
 |cons r1 r2=>cases r2;exact⟨_,rfl,r1⟩
theorem vals2 {x y:V}{us:List Value}(r:Vals [x,y] us):∃u w',us=[u,w']/\RelV x u/\RelV y w':=by
 cases r with
 |cons r1 r2=>
  cases r2 with
  |cons r3 r4=>cases r4;exact⟨_,_,rfl,r1,r3⟩
theorem Kt:CallR X (.type "int") (λxs H Q=>(∃i,xs=[.int i]/\Q (.int i) H)∨∃k,xs=[.bl k]/\Q (.int (if k then 1 else 0)) H):=by
 intro pins s σ H xs us Q I r h
 rcases h with⟨i,rfl,q⟩ | ⟨k,rfl,q⟩
 ·obtain⟨u,rfl,t,rfl⟩:=vals1 r
  exact call_int_int ⟨.int i,H,I,⟨_,rfl⟩,q⟩
 ·obtain⟨u,rfl,r1⟩:=vals1 r
  cases r1
  exact call_int_bool ⟨.int (if k then 1 else 0),H,I.tok _,⟨_,rfl⟩,q⟩
def LenV (K:PySem.W.Frag)(x:V)(H:Hp)(n:Nat):Prop :=
 match x with
 |.str y=>y.length<=sizeLine/\n=y.length
 |.byt y=>y.size<=sizeLine/\n=y.size
 |.ref p=>(∃xs,SqL K H p xs/\n=xs.length)∨∃xs,SqT K H p xs/\n=xs.length
 |_=>False
theorem ZY:CallR X (.builtin "len") (λxs H Q=>∃x n,xs=[x]/\LenV X.K x H n/\Q (.int n) H):=by
 intro pins s σ H xs us Q I r h
 obtain⟨x,n,rfl,e,q⟩:=h
 obtain⟨u,rfl,rx⟩:=vals1 r
 have hl:=line63
 have hs:sizeLine=16777216:=sizeLine_eq
 cases x with
 |str y=>
  obtain⟨t,rfl⟩:=rx
  obtain⟨hy,e'⟩:y.length<=sizeLine/\n=y.length:=e
  subst e'
  exact len_str (by omega) ⟨.int _,H,I.tok _,⟨_,rfl⟩,q⟩
 |byt y=>
  obtain⟨t,rfl⟩:=rx
  obtain⟨hy,e'⟩:y.size<=sizeLine/\n=y.size:=e
  subst e'
  exact PySem.W.len_bytes (by omega) ⟨.int _,H,I.tok _,⟨_,rfl⟩,q⟩
 |ref p=>
  cases rx
  have e':(∃xs,SqL X.K H p xs/\n=xs.length)∨∃xs,SqT X.K H p xs/\n=xs.length:=e
  rcases e' with⟨xs,hx,e'⟩ | ⟨xs,hx,e'⟩
  ·subst e'
   obtain⟨its,r',pl,hz⟩:=I.list hx
   have hlen:=r'.length
   exact Calls.call_len_list pl.isList (by simp only[List.size_toArray];omega) ⟨.int xs.length,H,I.tok _,⟨_,by simp only[List.size_toArray];rw[hlen]⟩,q⟩
  ·subst e'
   obtain⟨its,r',pl,hz⟩:=I.tuple hx
   have hlen:=r'.length
   exact len_tuple pl (by simp only[List.size_toArray];omega) ⟨.int xs.length,H,I.tok _,⟨_,by simp only[List.size_toArray];rw[hlen]⟩,q⟩
 |_=>exact (show False from e).elim
end
structure ObjM (h:Heap)(x dx C:Addr)(mA:Str->Option Value):Prop where
 obj:h.get? x=some (PySem.W.instObj C dx)
 ns:h.Ns1 dx mA
 ne:dx≠x
theorem J7 {h:Heap}{dx:Addr}{mA:Str->Option Value}(n:h.Ns1 dx mA):∃od,h.get? dx=some od/\∀name,PySem.W.lookIn name od=some (mA name):=by
 obtain⟨o,es,ep,ho,hd,hk,_,hm⟩:=n
 refine⟨o,ho,λname=>?_⟩
 have e:=hm name
 unfold nsFind findBy at e
 rw[<-Array.find?_toList] at e
 unfold PySem.W.lookIn
 rw[hd]
 dsimp only
 split
 ·rename_i y q
  rw[q] at e
  exact congrArg some e
 ·rename_i q
  rw[q] at e
  have a:es.toList.any (·.refKey)=false:=by
   rw[List.any_eq_false]
   intro y hy
   obtain⟨z,t,hkey⟩:=hk y (Array.mem_toList_iff.mp hy)
   simp[DictEntry.refKey,hkey]
  have a':¬es.toList.any (·.refKey)=true:=by rw[a];exact Bool.false_ne_true
  rw[if_neg a']
  exact congrArg some e
theorem ObjM.look {h:Heap}{x dx C:Addr}{mA:Str->Option Value}(I:ObjM h x dx C mA):∃od,PySem.W.InstAt h x (PySem.W.instObj C dx) C (some od)/\∀name,PySem.W.lookIn name od=some (mA name) :=
 let ⟨od,ho,hl⟩:=J7 I.ns
 ⟨od,⟨I.obj,rfl,rfl,ho⟩,hl⟩
section
variable {prog:Program}{w:World}{A:Around}{E:Value->Shared->Prop}{s:Shared}{K:PySem.W.Frag}{x dx C f:Addr}{mA:Str->Option Value}{name:Str}{v:Value}
theorem Kb {expr:Bool}{Q:Value->Shared->Prop}(X:K.In s.heap)(I:ObjM s.heap x dx C mA)(hg:PySem.W.plainGet K C name=true)(hh:PySem.W.hasDictIn K C=true)
  (ha:PySem.W.findIn K (.ref C) name=some none) (hv:mA name=some v) (hv':PySem.W.handedIn v=true) (h:Q v { s with toks:=s.toks+1 }) :
  wpAny (model prog w) A (getAttr (.ref x) name expr) Q E s:=by
 obtain⟨od,J,hl⟩:=I.look
 exact PySem.W.get_value X J (PySem.W.plainGet_of hg).1 (PySem.W.findObj_own hh ha rfl (by rw[hl,hv])) hv' h
theorem UU {pl:Sem Bool}{Q:Value×List Value->Shared->Prop}(X:K.In s.heap)(I:ObjM s.heap x dx C mA)(hg:PySem.W.plainGet K C name=true)
  (hf:PySem.W.findIn K (.ref C) name=some (some (.ref f))) (ht:PySem.W.isFn K (.ref f)=true) (hv:mA name=none) (h:Q (.ref f,[.ref x]) s) :
  wpAny (model prog w) A (getMethod (.ref x) name pl) Q E s:=by
 obtain⟨od,J,hl⟩:=I.look
 exact PySem.W.method_fn X J (PySem.W.plainGet_of hg).1 (PySem.W.plainGet_of hg).2 hf (beq_iff_eq.mp ht) (by show (PySem.W.lookIn name od).map (·.isSome)=some false;rw[hl,hv];rfl) h
theorem Qw {ns:List Str}{Q:Unit->Shared->Prop}(X:K.In s.heap)(I:ObjM s.heap x dx C mA)
  (hs:PySem.W.findIn K (.ref C) "__setattr__" = some (some (.builtin "object.__setattr__"))) (hp:PySem.W.plainOver K C=true) (ht:PySem.W.takerIn K C name=some none) (hh:PySem.W.hasDictIn K C=true)
  (hw:PySem.Within mA ns) (hsz:ns.length<=sizeLine)
  (h:∀h',ObjM h' x dx C (λy=>if y=name then some v else mA y)->Heap.SameBut dx s.heap h'->Q () { s with heap:=h',toks:=s.toks+2 }) :
  wpAny (model prog w) A (setAttr (.ref x) name v) Q E s:=by
 obtain⟨od,J,hl⟩:=I.look
 refine PySem.W.set_plain X J hs (PySem.W.osa_open (s:={ s with toks:=s.toks+1 }) (r:=none) X J hp ht λb=>?_)
 obtain⟨cd,hc,hd'⟩:=PySem.W.any_some hh
 have hx:s.heap.get? x=some ⟨.ref C,some dx,.plain,#[]⟩:=I.obj
 refine wpAny_bind (wpAny_pure (wpAny_bind (wpAny_bind (wpAny_loadPart hx (wpAny_bind (PySem.W.Looks.here (s:={ s with toks:=s.toks+1 }) (PySem.W.looks_clsIn X hc) ?_))))))
 rw[hd']
 refine wpAny_pure (a:=some dx) (wpAny_bind (wpAny_pure (wpAny_bind ?_)))
 refine wpAny_nsSet1 (s:={ s with toks:=s.toks+1 }) I.ns λh' hn2 hs2=>?_
 obtain⟨oD,esD,epD,hoD,hdD,hcD⟩:=hn2.count (PySem.Within.cons name v hw)
 refine wpAny_bind (wpAny_lookBehind hoD (by rw[hdD];exact pastItsLine_dict (Nat.le_trans hcD (by rw[List.length_cons];omega))) ?_)
 exact wpAny_pure (h _ ⟨(hs2.2 _ (Ne.symm I.ne)).trans I.obj,hn2,I.ne⟩ hs2)
theorem KT {R:Result->Shared->Prop}{vs:List Value}{kw:List (Str×Value)}(X:K.In s.heap)(hm:PySem.W.makesIn K C=true)
  (hi:PySem.W.findIn K (.ref C) "__init__" = some (some (.ref f))) (hf:PySem.W.typeIn K (.ref f)=some (.type "function"))
  (h:codeAny (model prog w) (A.under (.builtin "type.__call__" ⟨.ref C::vs,kw⟩)) (.call (.ref f) ⟨.ref (s.heap.objs.size+1)::vs,kw⟩) (PySem.W.InitBack (s.heap.objs.size+1) R)
   { s with heap:=(s.heap.push PySem.W.emptyDict).push (PySem.W.instObj C s.heap.objs.size) }) :
  codeAny (model prog w) A (.call (.ref C) ⟨vs,kw⟩) R s:=by
 obtain⟨hh,g,d,t,os⟩:=s
 exact PySem.W.make_core (PySem.W.makes_of X hm) (PySem.W.looks_findIn X hi) (λself=>PySem.W.bind_fn X self hf) (.inl rfl) h
end
def putF (f:Str)(v:V):List (Str×V)->List (Str×V)
 | []=>[(f,v)]
 | (g,x)::r=>if g=f then (g,v)::r else (g,x)::putF f v r
theorem WD (f g:Str)(v:V):∀fs:List (Str×V),(putF f v fs).lookup g=if g=f then some v else fs.lookup g
 | []=>by
  show List.lookup g [(f,v)]=_
  by_cases h:g=f
  ·have hb:(g==f)=true:=beq_iff_eq.mpr h
   simp only[List.lookup,hb,if_pos h]
  ·have hb:(g==f)=false:=beq_eq_false_iff_ne.mpr h
   simp only[List.lookup,hb,if_neg h]
 | (k,x)::r=>by
  have ih:=WD f g v r
  rw[show putF f v ((k,x)::r)=(if k=f then (k,v)::r else (k,x)::putF f v r) from rfl]
  by_cases hk:k=f
  ·rw[if_pos hk]
   by_cases h:g=k
   ·have hb:(g==k)=true:=beq_iff_eq.mpr h
    simp only[List.lookup,hb,if_pos (h.trans hk)]
   ·have hb:(g==k)=false:=beq_eq_false_iff_ne.mpr h
    simp only[List.lookup,hb,if_neg (λe:g=f=>h (e.trans hk.symm))]
  ·rw[if_neg hk]
   by_cases h:g=k
   ·have hb:(g==k)=true:=beq_iff_eq.mpr h
    simp only[List.lookup,hb,if_neg (λe:g=f=>hk (h.symm.trans e))]
   ·have hb:(g==k)=false:=beq_eq_false_iff_ne.mpr h
    simp only[List.lookup,hb]
    exact ih
theorem kX (f:Str)(v:V):∀fs:List (Str×V),f∈(putF f v fs).map (·.1)/\∀g,g∈fs.map (·.1)->g∈(putF f v fs).map (·.1)
 | []=>⟨by simp[putF],λg h=>by simp at h⟩
 | (k,x)::r=>by
  obtain⟨i1,i2⟩:=kX f v r
  rw[show putF f v ((k,x)::r)=(if k=f then (k,v)::r else (k,x)::putF f v r) from rfl]
  by_cases hk:k=f
  ·rw[if_pos hk]
   subst hk
   exact⟨by simp,λg h=>by simpa using h⟩
  ·rw[if_neg hk]
   refine⟨?_,λg h=>?_⟩
   ·rw[List.map_cons]
    exact List.mem_cons_of_mem _ i1
   ·rw[List.map_cons] at h ⊢
    rcases List.mem_cons.mp h with e | e
    ·exact List.mem_cons.mpr (.inl e)
    ·exact List.mem_cons_of_mem _ (i2 g e)
theorem Yv (f:Str)(v:V):∀fs:List (Str×V),(putF f v fs).length<=fs.length+1
 | []=>by simp[putF]
 | (k,x)::r=>by
  have ih:=Yv f v r
  rw[show putF f v ((k,x)::r)=(if k=f then (k,v)::r else (k,x)::putF f v r) from rfl]
  by_cases hk:k=f
  ·rw[if_pos hk,List.length_cons,List.length_cons];omega
  ·rw[if_neg hk,List.length_cons,List.length_cons];omega
theorem RelO.some_of {v:V}{o:Option Value}(r:RelO (some v) o):∃u,o=some u/\RelV v u:=by
 cases o with
 |none=>exact (show False from r).elim
 |some u=>exact⟨u,rfl,r⟩
theorem RelO.none_of {o:Option Value}(r:RelO none o):o=none:=by
 cases o with
 |none=>rfl
 |some u=>exact (show False from r).elim
theorem Zr {v:V}{u:Value}(r:RelV v u):PySem.W.handedIn u=true:=by
 cases v with
 |non=>cases (show u=Value.none from r);rfl
 |bl b=>cases (show u=Value.bool b from r);rfl
 |int i=>obtain⟨t,e⟩:=(show ∃t,u=Value.int i t from r);cases e;rfl
 |str x=>obtain⟨t,e⟩:=(show ∃t,u=Value.str x t from r);cases e;rfl
 |byt b=>obtain⟨t,e⟩:=(show ∃t,u=Value.bytes b t from r);cases e;rfl
 |flt b=>obtain⟨t,e⟩:=(show ∃t,u=Value.float b t from r);cases e;rfl
 |ref a=>cases (show u=Value.ref a from r);rfl
 |ty n=>cases (show u=Value.type n from r);rfl
section
variable {P:Program}{w:World}{H H':Hp}{h h':Heap}{a C dx:Addr}{fs fs':List (Str×V)}
theorem vW (hok:HOk P w H h)(e:H a=some (.ins C dx fs)):∃mA,ObjM h a dx C mA/\(∀f,RelO (fs.lookup f) (mA f))/\PySem.Within mA (fs.map (·.1))/\fs.length<=1000/\H dx=some (.own a):=by
 obtain⟨d,z,ne,ob,mA,n,r,q⟩:=(show ObjOk P w H h a (.ins C dx fs) from hok a _ e)
 exact⟨mA,⟨ob,n,ne⟩,r,q,z,d⟩
end
structure Cls (K:PySem.W.Frag)(C:Addr):Prop where
 pg:PySem.W.plainGet K C Str.empty=true
 hd:PySem.W.hasDictIn K C=true
 po:PySem.W.plainOver K C=true
 sa:PySem.W.findIn K (.ref C) "__setattr__" = some (some (.builtin "object.__setattr__"))
theorem Cls.get {K:PySem.W.Frag}{C:Addr}(c:Cls K C)(f:Str):PySem.W.plainGet K C f=true:=c.pg
def NoAttr (K:PySem.W.Frag)(C:Addr)(f:Str):Prop:=PySem.W.findIn K (.ref C) f=some none
theorem NoAttr.taker {K:PySem.W.Frag}{C:Addr}{f:Str}(n:NoAttr K C f):PySem.W.takerIn K C f=some none:=by
 unfold PySem.W.takerIn
 rw[show PySem.W.findIn K (.ref C) f=some none from n]
 rfl
structure Con (K:PySem.W.Frag)(C:Addr)(f:Str)(v:V)(u:Value):Prop where
 at_:PySem.W.findIn K (.ref C) f=some (some u)
 rel:RelV v u
 get:PySem.W.specialIn K u "__get__" = some none
 cp:PySem.W.copiedNames.contains f=false
structure Meth (K:PySem.W.Frag)(C:Addr)(m:Str)(f:Addr):Prop where
 at_:PySem.W.findIn K (.ref C) m=some (some (.ref f))
 fn:PySem.W.isFn K (.ref f)=true
 kp:PySem.W.keepIn K (.ref f)=true
section
variable {X:Cx}{pins:List (Addr×Obj)}{σ:St}{H:Hp}{s:Shared}{a C dx:Addr}{fs:List (Str×V)}{f:Str}{v:V}{A:Around}{E:Value->Shared->Prop}
theorem G2 {b:Bool}{Q:Value->Shared->Prop}(I:Inv X pins σ H s)(e:H a=some (.ins C dx fs))(c:Cls X.K C)(n:NoAttr X.K C f)(l:fs.lookup f=some v)
  (h:∀u s',Inv X pins σ H s'->RelV v u->Q u s'):wpAny (model X.prog X.w) A (getAttr (.ref a) f b) Q E s:=by
 obtain⟨mA,O,r,_,_,_⟩:=vW I.hok e
 obtain⟨u,hu,ru⟩:=RelO.some_of (v:=v) (o:=mA f) (by rw[<-l];exact r f)
 exact Kb I.kIn O (c.get f) c.hd n hu (Zr ru) (h u _ (I.tok _) ru)
theorem Kf {m:Str}{g:Addr}{pl:Sem Bool}{Q:Value×List Value->Shared->Prop}(I:Inv X pins σ H s)(e:H a=some (.ins C dx fs))(c:Cls X.K C)(k:Meth X.K C m g)(l:fs.lookup m=none)
  (h:Q (.ref g,[.ref a]) s):wpAny (model X.prog X.w) A (getMethod (.ref a) m pl) Q E s:=by
 obtain⟨mA,O,r,_,_,_⟩:=vW I.hok e
 have hn:mA m=none:=RelO.none_of (by rw[<-l];exact r m)
 exact UU I.kIn O (c.get m) k.at_ k.fn hn h
theorem zaj {y:V}{u:Value}{Q:Unit->Shared->Prop}(I:Inv X pins σ H s)(e:H a=some (.ins C dx fs))(c:Cls X.K C)(n:NoAttr X.K C f)(hl:fs.length < 1000)(ry:RelV y u)
  (h:∀s',Inv X pins σ (upd H a (.ins C dx (putF f y fs))) s'->Q () s'):wpAny (model X.prog X.w) A (setAttr (.ref a) f u) Q E s:=by
 obtain⟨mA,O,r,wi,_,ho⟩:=vW I.hok e
 have hz:(fs.map (·.1)).length<=sizeLine:=by rw[List.length_map,sizeLine_eq];omega
 refine Qw I.kIn O c.sa c.po n.taker c.hd wi hz λh' O' sb=>h _ ?_
 have hd:∃o,h'.get? dx=some o:=let ⟨o,_,_,e',_⟩:=O'.ns;⟨o,e'⟩
 refine I.write (x:=a) (e:=dx) (by rw[e];exact True.intro) (.inr ho) (λb q hb z=>(sb.2 b hb).trans z) hd ?_
 refine⟨by rw[zg O.ne];exact ho,?_,O.ne,O'.obj,_,O'.ns,λg=>?_,λg hg=>?_⟩
 ·have:=Yv f y fs;omega
 ·show RelO ((putF f y fs).lookup g) (if g=f then some u else mA g)
  rw[WD]
  by_cases q:g=f
  ·rw[if_pos q,if_pos q];exact ry
  ·rw[if_neg q,if_neg q];exact r g
 ·by_cases q:g=f
  ·rw[q];exact (kX f y fs).1
  ·refine (kX f y fs).2 g (wi g λz=>hg ?_)
   show (if g=f then some u else mA g)=none
   rw[if_neg q];exact z
theorem Inv.made (I:Inv X pins σ H s):Inv X pins σ (upd (upd H s.heap.objs.size (.own (s.heap.objs.size+1))) (s.heap.objs.size+1) (.ins C s.heap.objs.size []))
  { s with heap:=(s.heap.push PySem.W.emptyDict).push (PySem.W.instObj C s.heap.objs.size) }:=by
 have e1:(s.heap.push PySem.W.emptyDict).get? s.heap.objs.size=some PySem.W.emptyDict:=Heap.get?_push_size s.heap rfl
 have e2:((s.heap.push PySem.W.emptyDict).push (PySem.W.instObj C s.heap.objs.size)).get? (s.heap.objs.size+1)=some (PySem.W.instObj C s.heap.objs.size):=by
  have:=Heap.get?_push_size (s.heap.push PySem.W.emptyDict) (o:=PySem.W.instObj C s.heap.objs.size) rfl
  rwa [Heap.size_push] at this
 have e3:(s.heap.push PySem.W.emptyDict).Ns s.heap.objs.size (λ_=>none):=⟨PySem.W.emptyDict,#[],_,e1,rfl,(λe he=>absurd he (by simp)),λ_=>rfl⟩
 have I1:=I.laid (a:=s.heap.objs.size) (o:=.own (s.heap.objs.size+1)) (h':=s.heap.push PySem.W.emptyDict) (t':=s.toks) (λb u q=>Heap.get?_push_of_some _ q) (Nat.le_refl _) ⟨_,e1⟩
 refine I1.laid (a:=s.heap.objs.size+1) (o:=.ins C s.heap.objs.size []) (t':=s.toks) (λb u q=>Heap.get?_push_of_some _ q) (Nat.le_of_eq (Heap.size_push _ _)) ?_
 have ne:s.heap.objs.size≠s.heap.objs.size+1:=Nat.ne_of_lt (Nat.lt_succ_self _)
 refine⟨by rw[zg ne,zk],Nat.zero_le _,ne,e2,λ_=>none,(Heap.Ns1.of_empty e3).at λo q=>Heap.get?_push_of_some _ q,λ_=>True.intro,λy hy=>absurd rfl hy⟩
theorem Z4 {prog:Program}{w:World}{env:Env}{e:Expr}{f:Str}{pos:Pos}{s:Shared}{Q:Value->Shared->Prop}(hb:attributeBase e f env (eval e env)=eval e env)
  (h:wpAny (model prog w) A (eval e env) (λo s₁=>wpAny (model prog w) A (getAttr o f true) Q E s₁) E s):wpAny (model prog w) A (eval (.Attribute e f pos) env) Q E s :=
 Attribute_any_ h (by rw[arm_eval_Attribute,hb])
end
def tFld (K:PySem.W.Frag)(ta:TE)(f:Str):TE:=λσ H Q=>ta σ H λx H1=>∃a C dx fs v,x=.ref a/\H1 a=some (.ins C dx fs)/\Cls K C/\NoAttr K C f/\fs.lookup f=some v/\Q v H1
def sFld (K:PySem.W.Frag)(ta tv:TE)(f:Str):TS:=λD σ H=>tv σ H λy H1=>ta σ H1 λx H2=>∃a C dx fs,x=.ref a/\H2 a=some (.ins C dx fs)/\Cls K C/\NoAttr K C f/\fs.length < 1000 /\
 D.nx σ (upd H2 a (.ins C dx (putF f y fs)))
section
variable {X:Cx}{o e value:Expr}{f:Str}{pos pos' tpos:Pos}{ta tv:TE}
theorem RT (he:PE X e ta)(hb:attributeBase e f X.env (eval e X.env)=eval e X.env):PE X (.Attribute e f pos) (tFld X.K ta f):=by
 intro pins s σ H Q I h
 refine Z4 hb (thn (he pins s σ H _ I h) λu s1 ⟨x,H1,I1,rx,a,C,dx,fs,v,ex,ea,c,n,l,q⟩=>?_)
 subst ex
 obtain rfl:u=Value.ref a:=rx
 exact G2 I1 ea c n l λu' s2 I2 ru=>⟨v,H1,I2,ru,q⟩
theorem Uu (ha:PE X o ta)(hv:PE X value tv)(hs:swapsWith value (some (.Attribute o f pos')) pos.line X.env=pure false):PS X (.Assign [.Attribute o f pos'] value pos) (sFld X.K ta tv f):=by
 intro pins s σ H D I h
 refine plainObj_wpAny_Assign_Attribute (thn (hv pins s σ H _ I h) λu s1 ⟨y,H1,I1,ry,q⟩=>thn (ha pins s1 σ H1 _ I1 q) λov s2 ⟨x,H2,I2,rx,a,C,dx,fs,ex,ea,c,n,l,q2⟩=>?_) hs
 subst ex
 obtain rfl:ov=Value.ref a:=rx
 exact zaj I2 ea c n l ry λs3 I3=>⟨σ,_,I3,q2⟩
end
section
variable {X:Cx}{pins:List (Addr×Obj)}{σ:St}{H:Hp}{s:Shared}{A:Around}{E:Value->Shared->Prop}{Q:Value->Shared->Prop}{c:Value}{b:Bool}
inductive TyOf (K:PySem.W.Frag) (H:Hp):V->Value->Prop where
 |non:TyOf K H .non (.type "NoneType")
 |bl (x:Bool):TyOf K H (.bl x) (.type "bool")
 |int (i:Int):TyOf K H (.int i) (.type "int")
 |str (x:Str):TyOf K H (.str x) (.type "str")
 |flt (x:UInt64):TyOf K H (.flt x) (.type "float")
 |lst {a:Addr} {xs:List V} (e:H a=some (.lst xs)):TyOf K H (.ref a) (.type "list")
 |frz {a:Addr} {o:Obj} {xs:List V} (e:H a=some (.frz o (.lst xs))):TyOf K H (.ref a) (.type "list")
 |tup {a:Addr} {xs:List V} (e:H a=some (.tup xs)):TyOf K H (.ref a) (.type "tuple")
 |dK {a:Addr} {kvs:List (Key×V)} (e:H a=some (.dK kvs)):TyOf K H (.ref a) (.type "dict")
 |dT {a:Addr} {kvs:List (List Key×V)} (e:H a=some (.dT kvs)):TyOf K H (.ref a) (.type "dict")
 |ins {a C dx:Addr} {fs:List (Str×V)} (e:H a=some (.ins C dx fs)) (cl:Cls K C) (ha:PySem.W.findIn K (.ref C) "__class__" = some (some (.builtin "object.__class__")))
   (hn:PySem.W.specialIn K (.builtin "object.__class__") "__get__" = some (some (.builtin "getset_descriptor.__get__"))) (htk:PySem.W.takesIn K (.builtin "object.__class__")=some true)
   (hm:PySem.W.mroIn K C (.type "object")=some true):TyOf K H (.ref a) (.ref C)
theorem Qu {x:V}{u t:Value}(I:Inv X pins σ H s)(rx:RelV x u)(ty:TyOf X.K H x t)(e:PySem.W.kitOne X.K t c=some b)(h:∀tk,Q (.bool b) { s with toks:=tk }) :
  wpAny (model X.prog X.w) A (call (.builtin "isinstance") [u,c]) Q E s:=by
 cases ty with
 |non=>cases (show u=Value.none from rx);exact PySem.W.kia_one PySem.W.kitx_none I.kIn True.intro e (λz=>nomatch z) h
 |bl y=>cases (show u=Value.bool y from rx);exact PySem.W.kia_one PySem.W.kitx_bool I.kIn True.intro e (λz=>nomatch z) h
 |int i=>obtain⟨t,q⟩:=(show ∃t,u=Value.int i t from rx);cases q;exact PySem.W.kia_one PySem.W.kitx_int I.kIn True.intro e (λz=>nomatch z) h
 |str y=>obtain⟨t,q⟩:=(show ∃t,u=Value.str y t from rx);cases q;exact PySem.W.kia_one PySem.W.kitx_str I.kIn True.intro e (λz=>nomatch z) h
 |flt y=>obtain⟨t,q⟩:=(show ∃t,u=Value.float y t from rx);cases q;exact PySem.W.kia_one PySem.W.kitx_float I.kIn True.intro e (λz=>nomatch z) h
 | @lst a xs ea=>
  cases (show u=Value.ref a from rx)
  obtain⟨_,_,n,_,h1⟩:=(show ObjOk X.prog X.w H s.heap a (.lst xs) from I.hok a _ ea)
  exact PySem.W.kia_one PySem.W.kitx_list I.kIn ⟨_,h1,rfl⟩ e (λz=>nomatch z) h
 | @frz a ob xs ea=>
  cases (show u=Value.ref a from rx)
  obtain⟨_,_,_,n,_,h1⟩:=(show ObjOk X.prog X.w H s.heap a (.frz ob (.lst xs)) from I.hok a _ ea)
  exact PySem.W.kia_one PySem.W.kitx_list I.kIn ⟨_,h1,rfl⟩ e (λz=>nomatch z) h
 | @tup a xs ea=>
  cases (show u=Value.ref a from rx)
  obtain⟨_,_,_,p⟩:=(show ObjOk X.prog X.w H s.heap a (.tup xs) from I.hok a _ ea)
  obtain⟨o,h1,h2,_⟩:=p
  exact PySem.W.kia_one PySem.W.kitx_tuple I.kIn ⟨o,h1,h2⟩ e (λz=>nomatch z) h
 | @dK a kvs ea=>
  cases (show u=Value.ref a from rx)
  obtain⟨_,_,vs,_,p⟩:=(show ObjOk X.prog X.w H s.heap a (.dK kvs) from I.hok a _ ea)
  obtain⟨o,es,ep,h1,h2,_⟩:=p
  exact PySem.W.kia_one PySem.W.kitx_dict I.kIn ⟨o,h1,h2.1⟩ e (λz=>nomatch z) h
 | @dT a kvs ea=>
  cases (show u=Value.ref a from rx)
  obtain⟨_,_,xs,_,o,es,ep,h1,h2,_⟩:=(show ObjOk X.prog X.w H s.heap a (.dT kvs) from I.hok a _ ea)
  exact PySem.W.kia_one PySem.W.kitx_dict I.kIn ⟨o,h1,h2.1⟩ e (λz=>nomatch z) h
 | @ins a C dx fs ea cl ha hn htk hm=>
  cases (show u=Value.ref a from rx)
  obtain⟨mA,O,_⟩:=vW I.hok ea
  obtain⟨od,J,_⟩:=O.look
  exact PySem.W.kia_one (PySem.W.kitx_own (cl.get _) cl.hd ha hn htk hm) I.kIn J e (λz=>nomatch z) h
end
structure Room (k:Nat)(A:Around):Prop where
 hd:A.handled=none
 dp:A.depth+3 * k+5 < recursionLimit
 un:A.units+16 * k+200 < cLine
theorem Room.mono {j k:Nat}{A:Around}(r:Room k A)(h:j<=k):Room j A:=⟨r.hd,by have:=r.dp;omega,by have:=r.un;omega⟩
theorem Room.deeper {k:Nat}{A:Around}(r:Room (k+1) A)(env:Env):Room k (A.deeper env) :=
 ⟨r.hd,by have:=r.dp;show A.depth+1+3 * k+5 < _;omega,by have:=r.un;show A.units+3+16 * k+200 < _;omega⟩
theorem zan {A:Around}{C:Addr}{us:List Value}{kw:List (Str×Value)}:(A.under (.builtin "type.__call__" ⟨.ref C::us,kw⟩)).depth=A.depth+1:=by
 first | rfl | simp[Around.under,Code.weight,Code.isCreation,Code.isGuard,Code.isCaller,Code.frames,Code.isFrame,guardIds]
theorem Qg {A:Around}{C:Addr}{us:List Value}{kw:List (Str×Value)}:(A.under (.builtin "type.__call__" ⟨.ref C::us,kw⟩)).units=A.units+1:=by
 first | rfl | simp[Around.under,Code.cUnits,Code.frames,Code.isFrame]
theorem Room.make {k:Nat}{A:Around}(r:Room (k+1) A)(C:Addr)(us:List Value)(kw:List (Str×Value)):Room k (A.under (.builtin "type.__call__" ⟨.ref C::us,kw⟩)) :=
 ⟨r.hd,by have:=r.dp;rw[zan];omega,by have:=r.un;rw[Qg];omega⟩
theorem Room.depth {k:Nat}{A:Around}(r:Room k A):A.depth < recursionLimit:=by have:=r.dp;omega
theorem Room.units {k:Nat}{A:Around}(r:Room k A):A.units+64 < cLine:=by have:=r.un;omega
def tNil:TA:=λ_ H Q=>Q [] H
def tCons (ta:TE)(tr:TA):TA:=λσ H Q=>ta σ H λx H1=>tr σ H1 λxs H2=>Q (x::xs) H2
section
variable {X:Cx}{e:Expr}{es:List Expr}{te:TE}{t:TA}{pos:Pos}
theorem zS:PA X [] tNil:=λ_ _ _ _ H Q I h=>Calls.spliced_nil ⟨[],H,I,.nil,h⟩
theorem zJ (ha:PE X e te)(hr:PA X es t)(hs:starEach (e::es) X.env=(false,eval e X.env)::starEach es X.env:=by rfl):PA X (e::es) (tCons te t):=by
 intro pos pins s σ H Q I h
 rw[hs]
 show wpAny _ _ (spliced ((false,eval e X.env)::backTo pos (starEach es X.env))) _ _ s
 refine Calls.spliced_cons (thn (ha pins s σ H _ I h) λu s1 ⟨x,H1,I1,r1,q1⟩=>?_)
 exact thn (hr pos pins s1 σ H1 _ I1 q1) λus s2 ⟨xs,H2,I2,r2,q2⟩=>⟨x::xs,H2,I2,.cons r1 r2,q2⟩
def tTup (t:TA):TE:=λσ H Q=>t σ H λxs H1=>xs.length<=sizeLine/\∀p,H1 p=none->Q (.ref p) (upd H1 p (.tup xs))
def tLst (t:TA):TE:=λσ H Q=>t σ H λxs H1=>xs.length<=sizeLine/\∀p,H1 p=none->Q (.ref p) (upd H1 p (.lst xs))
theorem kh {x1}(h:PA X es t):PE X (.Tuple es x1 pos) (tTup t):=by
 intro pins s σ H Q I hq
 refine wpAny_Tuple_spliced (thn (h pos pins s σ H _ I hq) λus s1 ⟨xs,H1,I1,r,z,q⟩=>⟨by rw[<-r.length];exact z,?_⟩)
 have hf:H1 s1.heap.objs.size=none:=I1.hok.fresh (Nat.le_refl _)
 refine⟨.ref s1.heap.objs.size,upd H1 s1.heap.objs.size (.tup xs),I1.laid (t':=s1.toks) (λb u e=>Heap.get?_push_of_some _ e) (Nat.le_refl _) ?_,rfl,q _ hf⟩
 exact⟨z,us,r,⟨_,Heap.get?_push_size _ rfl,rfl,_,rfl⟩⟩
theorem Ke (h:PA X es t):PE X (.List es pos) (tLst t):=by
 intro pins s σ H Q I hq
 refine wpAny_List_spliced (thn (h pos pins s σ H _ I hq) λus s1 ⟨xs,H1,I1,r,z,q⟩=>⟨by rw[<-r.length];exact z,?_⟩)
 have hf:H1 s1.heap.objs.size=none:=I1.hok.fresh (Nat.le_refl _)
 refine⟨.ref s1.heap.objs.size,upd H1 s1.heap.objs.size (.lst xs),I1.laid (t':=s1.toks) (λb u e=>Heap.get?_push_of_some _ e) (Nat.le_refl _) ?_,rfl,q _ hf⟩
 exact⟨z,us,0,r,Heap.get?_push_size _ rfl⟩
end
abbrev Sp:=List V->Hp->VK->XK->Prop
abbrev CXT:=List Env->Hp->Shared->XK->Value->Shared->Prop
structure Env0 (P:Program)(w:World)(K:PySem.W.Frag)(mg:Str->Option Value)(base:Heap)(A:Around)(outer:List Env)(s:Shared)(H:Hp):Prop where
 frames:A.frames=some outer
 mod:Mod K mg base
 bs:∀b o,base.get? b=some o->s.heap.get? b=some o/\H b=none
 bsz:base.objs.size<=s.heap.objs.size
 funs:s.heap.FunFrames base outer
 frf:∀b∈frs outer,H b=none
 hok:HOk P w H s.heap
 bare:AllBare s.gens
def CE (outer:List Env)(P:Program)(w:World)(H:Hp)(s:Shared)(Q:VK)(u:Value)(s':Shared):Prop :=
 ∃v H',s'.os=s.os/\AllBare s'.gens/\Un (frs outer) [] H H' s.heap s'.heap/\HOk P w H' s'.heap/\RelV v u/\Q v H'
def CR (CX:CXT)(outer:List Env)(P:Program)(w:World)(H:Hp)(s:Shared)(Q:VK)(E:XK)(r:Result)(s':Shared):Prop :=
 match r with
 |.ok (.ret u)=>CE outer P w H s Q u s'
 |.ok _=>False
 |.error e=>CX outer H s E e s'
structure FnOk (P:Program)(w:World)(K:PySem.W.Frag)(mg:Str->Option Value)(base:Heap)(CX:CXT)(k:Nat)(f:Addr)(fd:FuncData)(ps:List Str)(sp:Sp):Prop where
 len:∀vs H Q E,sp vs H Q E->vs.length=ps.length
 run:∀(A:Around) (outer:List Env) (s:Shared) (H:Hp) (args:Args) (us:List Value) (vs:List V) (Q:VK) (E:XK),Room k A->Env0 P w K mg base A outer s H->BindsTo s fd args (ps.zip us)->Vals vs us->sp vs H Q E ->
  codeAny (model P w) A (.call (.ref f) args) (CR CX outer P w H s Q E) s
theorem FnOk.imp {P:Program}{w:World}{K:PySem.W.Frag}{mg:Str->Option Value}{base:Heap}{CX:CXT}{k:Nat}{f:Addr}{fd:FuncData}{ps:List Str}{sp sp':Sp}(F:FnOk P w K mg base CX k f fd ps sp)
  (h:∀vs H Q E,sp' vs H Q E->sp vs H Q E):FnOk P w K mg base CX k f fd ps sp' :=
 ⟨λvs H Q E q=>F.len vs H Q E (h _ _ _ _ q),λA outer s H args us vs Q E hr he hb hv hs=>F.run A outer s H args us vs Q E hr he hb hv (h _ _ _ _ hs)⟩
theorem Env0.make {P:Program}{w:World}{K:PySem.W.Frag}{mg:Str->Option Value}{base:Heap}{A:Around}{outer:List Env}{s:Shared}{H:Hp}(e:Env0 P w K mg base A outer s H)(C:Addr)(us:List Value)(kw:List (Str×Value)) :
  Env0 P w K mg base (A.under (.builtin "type.__call__" ⟨.ref C::us,kw⟩)) outer s H:=⟨by first | exact e.frames | (simpa[Around.under,Code.envs,Code.isFrame,pushEnvs] using e.frames),e.mod,e.bs,e.bsz,e.funs,e.frf,e.hok,e.bare⟩
section
variable {X:Cx}{pins:List (Addr×Obj)}{σ:St}{H:Hp}{s s':Shared}
theorem Inv.env0 (I:Inv X pins σ H s):Env0 X.prog X.w X.K X.mg X.base X.A X.stack s H :=
 ⟨I.ok.frames,I.ok.mod,I.bs,Nat.le_trans I.ok.bsz I.sz,I.stack,I.stkFree,I.hok,I.bare⟩
theorem Inv.after {Q:VK}{u:Value}(I:Inv X pins σ H s)(h:CE X.stack X.prog X.w H s Q u s'):EP X pins σ Q u s':=by
 obtain⟨v,H',os,bare,un,hok,r,q⟩:=h
 obtain⟨hh,g,d,t,os'⟩:=s'
 obtain rfl:os'=s.os:=os
 exact⟨v,H',I.call (h':=hh) (g':=g) (d':=d) (t':=t) (ch:=[]) un hok bare (λb z=>absurd z (by simp)),r,q⟩
end
def tCall (sp:Sp)(dvs:List V)(E:XK)(t:TA):TE:=λσ H Q=>t σ H λvs H1=>sp (vs++dvs) H1 Q E
def tMeth (C:Addr)(m:Str)(sp:Sp)(dvs:List V)(E:XK)(ta:TE)(t:TA):TE:=λσ H Q=>ta σ H λx H1=>∃a dx fs,x=.ref a/\H1 a=some (.ins C dx fs)/\fs.lookup m=none /\
 t σ H1 λvs H2=>sp (x::(vs++dvs)) H2 Q E
def tMake (C:Addr)(sp:Sp)(dvs:List V)(E:XK)(t:TA):TE:=λσ H Q=>t σ H λvs H1=>∀x dx,H1 x=none->H1 dx=none->dx≠x ->
 sp (.ref x::(vs++dvs)) (upd (upd H1 dx (.own x)) x (.ins C dx [])) (λv H2=>v=.non/\Q (.ref x) H2) E
def Binds (K:PySem.W.Frag)(fd:FuncData)(ps:List Str)(ds:List Value):Prop :=
 ∀(s:Shared) (us:List Value),K.In s.heap->(us++ds).length=ps.length->BindsTo s fd ⟨us,[]⟩ (ps.zip (us++ds))
theorem Binds.all {K:PySem.W.Frag}{fd:FuncData}{ps:List Str}(h:∀us:List Value,us.length=ps.length->bindArgs fd ⟨us,[]⟩=pure (ps.zip us)):Binds K fd ps []:=λs us _ hl=>by
 rw[List.append_nil] at hl ⊢
 exact .of_eq (h us hl)
def Passes (CX:CXT)(X:Cx)(E:XK):Prop:=∀(pins:List (Addr×Obj))(σ:St)(H:Hp)(s:Shared)(e:Value)(s':Shared),Inv X pins σ H s->CX X.stack H s E e s'->X.xe e s'
section
variable {X:Cx}{CX:CXT}{k:Nat}{f C:Addr}{fd:FuncData}{ps:List Str}{sp:Sp}{dvs:List V}{ds:List Value}{E:XK}{x m:Str}{p pos apos:Pos}{e o:Expr}{es:List Expr}{ta:TE}{t:TA}
theorem Yl {pins:List (Addr×Obj)}{σ:St}{H:Hp}{s:Shared}{Q:VK}{us:List Value}{vs:List V}(F:FnOk X.prog X.w X.K X.mg X.base CX k f fd ps sp)(hr:Room k X.A)(hb:Binds X.K fd ps ds)(hd:Vals dvs ds)(hx:Passes CX X E)
  (I:Inv X pins σ H s) (r:Vals vs us) (h:sp (vs++dvs) H Q E):wpAny (model X.prog X.w) X.A (call (.ref f) us) (EP X pins σ Q) X.xe s:=by
 have r2:Vals (vs++dvs) (us++ds):=r.append hd
 have hl:(us++ds).length=ps.length:=by rw[<-r2.length];exact F.len _ _ _ _ h
 refine wpAny_call (codeAny_mono (F.run X.A X.stack s H ⟨us,[]⟩ (us++ds) (vs++dvs) Q E hr I.env0 (hb s us I.kIn hl) r2 h) λr s' hq=>?_)
 cases r with
 |error e=>exact hx pins σ H s e s' I hq
 |ok fl=>
  cases fl with
  |ret u=>exact I.after hq
  |next=>exact False.elim hq
  |brk=>exact False.elim hq
  |cont=>exact False.elim hq
theorem yX (F:FnOk X.prog X.w X.K X.mg X.base CX k f fd ps sp)(hr:Room k X.A)(hg:Gl X x)(hm:X.mg x=some (.ref f))(hk:PySem.W.keepIn X.K (.ref f)=true)(hb:Binds X.K fd ps ds)(hd:Vals dvs ds)(hx:Passes CX X E)
  (ha:PA X (e::es) t) (hdb:(x==("__debug__" : Str))=false:=by decide) (he:starEach (e::es) X.env=(false,eval e X.env)::starEach es X.env:=by rfl) (hpl:(backTo pos (starEach es X.env)).any (·.1)=false:=by rfl) :
  PE X (.Call (.Name x p) (e::es) [] pos) (tCall sp dvs E t):=by
 intro pins s σ H Q I h
 refine wpAny_Call_Name_kw (xG I hg hm ?_ hdb)
 refine PySem.W.callWith_K (h₀:=X.base) I.ok.mod.kin hk (thn (ha pos pins s σ H _ I h) λus s1 ⟨vs,H1,I1,r,q⟩=>⟨I1.kIn,?_⟩) he hpl
 exact Yl F hr hb hd hx I1 r q
theorem J6 {pl:Sem Bool}(he:PE X o ta)(c:Cls X.K C)(hm:Meth X.K C m f)(F:FnOk X.prog X.w X.K X.mg X.base CX k f fd ps sp)(hr:Room k X.A)(hb:Binds X.K fd ps ds)(hd:Vals dvs ds)(hx:Passes CX X E)(ha:PA X (e::es) t)
  (hst:starEach (e::es) X.env=(false,eval e X.env)::starEach es X.env:=by rfl) (hpl:(backTo pos (starEach es X.env)).any (·.1)=false:=by rfl)
  (ht:eval (.Call (.Attribute o m apos) (e::es) [] pos) X.env=(do
   let ov <-eval o X.env
   standAt apos.atName
   let (f,first) <-holding [ov] (getMethod ov m pl)
   callWith pos f first (backTo pos (starEach (e::es) X.env)) (backToKw pos (keywordEach [] X.env))):=by rfl) :
  PE X (.Call (.Attribute o m apos) (e::es) [] pos) (tMeth C m sp dvs E ta t):=by
 intro pins s σ H Q I h
 refine PySem.W.methodCall_KW (pl:=pl) (thn (he pins s σ H _ I h) λu s1 ⟨x,H1,I1,rx,a,dx,fs,ex,ea,l,q⟩=>?_) ht
 subst ex
 obtain rfl:u=Value.ref a:=rx
 refine Kf I1 ea c hm l ?_
 refine PySem.W.callWith_K (first:=[.ref a]) (h₀:=X.base) I.ok.mod.kin hm.kp (thn (ha pos pins s1 σ H1 _ I1 q) λus s2 ⟨vs,H2,I2,r,q2⟩=>⟨I2.kIn,?_⟩) hst hpl
 exact Yl (us:=.ref a::us) (vs:=.ref a::vs) F hr hb hd hx I2 (.cons rfl r) q2
structure Mk (K:PySem.W.Frag)(C f:Addr):Prop where
 makes:PySem.W.makesIn K C=true
 init:PySem.W.findIn K (.ref C) "__init__" = some (some (.ref f))
 fn:PySem.W.isFn K (.ref f)=true
 kp:PySem.W.keepIn K (.ref C)=true
theorem R5 {pins:List (Addr×Obj)}{σ:St}{H:Hp}{s:Shared}{Q:VK}{us:List Value}{vs:List V}(M:Mk X.K C f)(F:FnOk X.prog X.w X.K X.mg X.base CX k f fd ps sp)(hr:Room (k+1) X.A)(hb:Binds X.K fd ps ds)(hd:Vals dvs ds)
  (hx:Passes CX X E) (I:Inv X pins σ H s) (r:Vals vs us)
  (h:∀x dx,H x=none->H dx=none->dx≠x->sp (.ref x::(vs++dvs)) (upd (upd H dx (.own x)) x (.ins C dx [])) (λv H2=>v=.non/\Q (.ref x) H2) E) :
  wpAny (model X.prog X.w) X.A (call (.ref C) us) (EP X pins σ Q) X.xe s:=by
 have hq:=h (s.heap.objs.size+1) s.heap.objs.size (I.hok.fresh (Nat.le_succ _)) (I.hok.fresh (Nat.le_refl _)) (Nat.ne_of_lt (Nat.lt_succ_self _))
 have I2:=Inv.made (C:=C) I
 have r2:Vals (V.ref (s.heap.objs.size+1)::(vs++dvs)) (Value.ref (s.heap.objs.size+1)::(us++ds)):=.cons rfl (r.append hd)
 have hl:(Value.ref (s.heap.objs.size+1)::us++ds).length=ps.length:=by
  have e:=r2.length
  rw[F.len _ _ _ _ hq] at e
  exact e.symm
 refine wpAny_call (KT (f:=f) I.kIn M.makes M.init (beq_iff_eq.mp M.fn) (codeAny_mono (F.run _ X.stack _ _ ⟨Value.ref (s.heap.objs.size+1)::us,[]⟩ (Value.ref (s.heap.objs.size+1)::(us++ds)) _ _ E (hr.make C us [])
  (I2.env0.make C us []) (hb _ (Value.ref (s.heap.objs.size+1)::us) I2.kIn hl) r2 hq) λr s' hq'=>?_))
 cases r with
 |error e=>exact hx pins σ _ _ e s' I2 hq'
 |ok fl=>
  cases fl with
  |ret u=>
   obtain⟨v,H',I3,rv,ev,q3⟩:=I2.after hq'
   subst ev
   exact⟨rv,⟨V.ref (s.heap.objs.size+1),H',I3,rfl,q3⟩⟩
  |next=>exact False.elim hq'
  |brk=>exact False.elim hq'
  |cont=>exact False.elim hq'
theorem GM (M:Mk X.K C f)(F:FnOk X.prog X.w X.K X.mg X.base CX k f fd ps sp)(hr:Room (k+1) X.A)(hg:Gl X x)(hm:X.mg x=some (.ref C))(hb:Binds X.K fd ps ds)(hd:Vals dvs ds)(hx:Passes CX X E)
  (ha:PA X (e::es) t) (hdb:(x==("__debug__" : Str))=false:=by decide) (he:starEach (e::es) X.env=(false,eval e X.env)::starEach es X.env:=by rfl) (hpl:(backTo pos (starEach es X.env)).any (·.1)=false:=by rfl) :
  PE X (.Call (.Name x p) (e::es) [] pos) (tMake C sp dvs E t):=by
 intro pins s σ H Q I h
 refine wpAny_Call_Name_kw (xG I hg hm ?_ hdb)
 refine PySem.W.callWith_K (h₀:=X.base) I.ok.mod.kin M.kp (thn (ha pos pins s σ H _ I h) λus s1 ⟨vs,H1,I1,r,q⟩=>⟨I1.kIn,?_⟩) he hpl
 exact R5 M F hr hb hd hx I1 r q
end
section
variable {X:Cx}{CX:CXT}{k:Nat}{f C:Addr}{fd:FuncData}{ps ks:List Str}{sp:Sp}{E:XK}{x m:Str}{p pos apos kpos:Pos}{e o:Expr}{es:List Expr}{kws:List Keyword}{te ta:TE}{t tk:TA}{nm:Option Str}
structure KBinds (K:PySem.W.Frag)(fd:FuncData)(ps ks:List Str)(g:List Value->List Value->List Value)(gV:List V->List V->List V):Prop where
 to:∀(s:Shared) (us ws:List Value),K.In s.heap->(g us ws).length=ps.length->BindsTo s fd ⟨us,ks.zip ws⟩ (ps.zip (g us ws))
 rel:∀ {vs:List V} {us:List Value} {zs:List V} {ws:List Value},Vals vs us->Vals zs ws->Vals (gV vs zs) (g us ws)
variable {g:List Value->List Value->List Value}{gV:List V->List V->List V}
end
structure FnScope (N P:List Str)(sc:Scope):Prop where
 kind:sc.kind=.function
 co:sc.isCoroutine=false
 gen:sc.isGenerator=false
 nd:N.Nodup
 pre:N.take P.length=P
 par:∀x∈P,sc.names.lookup x=some .local∨sc.names.lookup x=some .cell
 nofree:∀y∈sc.names,y.2≠.free
theorem ZU {kindOf:Str->Option NameKind}{x:Str}:∀ {binds:List (Str×Value)}{m:Str->Option Value},(∀v,(x,v)∉binds)->bindL kindOf binds m x=m x
 | [],_,_=>rfl
 | (n,v)::r,m,h=>by
  unfold bindL
  rw[ZU λw hw=>h w (List.mem_cons_of_mem _ hw)]
  split
  ·have:x≠n:=by rintro rfl;exact h v List.mem_cons_self
   simp[this]
  ·rfl
theorem Vf {kindOf:Str->Option NameKind}{x:Str}:∀ {binds:List (Str×Value)}{m:Str->Option Value},(∀v,(x,v)∉binds)->bindC kindOf binds m x=m x
 | [],_,_=>rfl
 | (n,v)::r,m,h=>by
  unfold bindC
  rw[Vf λw hw=>h w (List.mem_cons_of_mem _ hw)]
  split
  ·rfl
  ·have:x≠n:=by rintro rfl;exact h v List.mem_cons_self
   simp[this]
theorem V4 {kindOf:Str->Option NameKind}{x:Str}{v:Value}:∀ {P:List Str}{vs:List Value}{i:Nat}{m:Str->Option Value},P.Nodup->P[i]?=some x->vs[i]?=some v->kindOf x=some .local ->
  bindL kindOf (P.zip vs) m x=some v
 | [],_,_,_,_,h,_,_=>by simp at h
 |_::_,[],_,_,_,_,h,_=>by simp at h
 |p::P,w::vs,0,m,nd,h1,h2,hk=>by
  simp at h1 h2;subst h1;subst h2
  show bindL kindOf ((p,w)::P.zip vs) m p=_
  unfold bindL
  rw[ZU λv hv=>(List.nodup_cons.mp nd).1 (List.of_mem_zip hv).1,if_pos hk]
  simp
 |p::P,w::vs,i+1,m,nd,h1,h2,hk=>by
  show bindL kindOf ((p,w)::P.zip vs) m x=_
  unfold bindL
  exact V4 (i:=i) (List.nodup_cons.mp nd).2 (by simpa using h1) (by simpa using h2) hk
theorem Z8 {kindOf:Str->Option NameKind}{x:Str}{v:Value}:∀ {P:List Str}{vs:List Value}{i:Nat}{m:Str->Option Value},P.Nodup->P[i]?=some x->vs[i]?=some v->kindOf x≠some .local ->
  bindC kindOf (P.zip vs) m x=some v
 | [],_,_,_,_,h,_,_=>by simp at h
 |_::_,[],_,_,_,_,h,_=>by simp at h
 |p::P,w::vs,0,m,nd,h1,h2,hk=>by
  simp at h1 h2;subst h1;subst h2
  show bindC kindOf ((p,w)::P.zip vs) m p=_
  unfold bindC
  rw[Vf λv hv=>(List.nodup_cons.mp nd).1 (List.of_mem_zip hv).1,if_neg hk]
  simp
 |p::P,w::vs,i+1,m,nd,h1,h2,hk=>by
  show bindC kindOf ((p,w)::P.zip vs) m x=_
  unfold bindC
  exact Z8 (i:=i) (List.nodup_cons.mp nd).2 (by simpa using h1) (by simpa using h2) hk
def start (N:List Str)(vs:List V):St:=vs.map some++List.replicate (N.length - vs.length) none
def cxOf (CX:CXT)(P:Program)(w:World)(K:PySem.W.Frag)(mg:Str->Option Value)(base:Heap)(N:List Str)(qual:Str)(scope:Scope)(f:Addr)(cd:Value)(A:Around)(outer:List Env)(s:Shared)(H:Hp)(E:XK):Cx where
 prog:=P
 w:=w
 K:=K
 mg:=mg
 base:=base
 A:=A.deeper (envOfC qual scope s.heap.objs.size f cd)
 N:=N
 s₀:=s
 H₀:=H
 env:=envOfC qual scope s.heap.objs.size f cd
 outer:=outer
 stack:=envOfC qual scope s.heap.objs.size f cd::outer
 ex:=[]
 calm:=true
 fn:=λ_=>true
 pn:=[]
 xe:=λe s'=>wpAny (model P w) (A.deeper (envOfC qual scope s.heap.objs.size f cd)) (leaving (envOfC qual scope s.heap.objs.size f cd) e) (λ_ s''=>CX outer H s E e s'') (λe' s''=>CX outer H s E e' s'') s'
theorem Zz {sc:Scope}{n:Nat}{x:Str}(h:sc.names.lookup x=some .cell):∃c,(cellsFrom n sc.names []).lookup x=some c:=by
 have q:=PySem.W.cellsFrom_some sc.names n [] (.inl h)
 exact Option.isSome_iff_exists.mp q
theorem VX {CX:CXT}{P:Program}{w:World}{K:PySem.W.Frag}{mg:Str->Option Value}{base:Heap}{N ps:List Str}{qual:Str}{scope:Scope}{f:Addr}{cd:Value}{A:Around}{outer:List Env}{s s1:Shared}{H:Hp}{E:XK}{us:List Value}{vs:List V}
  (S:FnScope N ps scope) (hd:A.handled=none) (e0:Env0 P w K mg base A outer s H) (hl:vs.length=ps.length) (r:Vals vs us)
  (x:InCallC s s.heap.objs.size (bindL (envOfC qual scope s.heap.objs.size f cd).kindOf (ps.zip us) λ_=>none) (cellsFrom (s.heap.objs.size+1) scope.names []) (bindC (envOfC qual scope s.heap.objs.size f cd).kindOf (ps.zip us) λ_=>none) s1) :
  Inv (cxOf CX P w K mg base N qual scope f cd A outer s H E) [] (start N vs) H s1:=by
 have hpl:ps.length<=N.length:=by have:=congrArg List.length S.pre;rw[List.length_take] at this;omega
 obtain⟨h1,tk,rfl,hk⟩:=x.done
 have noA:∀b:Addr,b∉(cxOf CX P w K mg base N qual scope f cd A outer s H E).ex:=λb z=>absurd (show b∈([]:List Addr) from z) (by simp)
 refine⟨⟨e0.mod,S.kind,rfl,rfl,Nat.le_refl _,λy z c h1 h2=>?_,λy hy=>?_,λy c _ h=>?_,λ_=>hd,Around.frames_deeper e0.frames,.inr ⟨rfl,rfl⟩,λb z=>absurd z (noA b),e0.bs,e0.bsz,λb _ _=>noA b,λb z=>absurd z (noA b),e0.funs,e0.frf⟩,
  rfl,e0.bare,Un.kept hk,⟨_,x.toInCall.ns,λi y v h1 h2 h3=>?_⟩,λy c h=>⟨_,x.cell y c h⟩,e0.hok.fresh (Nat.le_refl _),λy c h=>?_,λp hp=>absurd (show p∈([]:List (Addr×Obj)) from hp) (by simp),e0.hok.kept hk,?_⟩
 ·exact name_of_addr x.apart (PySem.mem_of_lookup h1) (PySem.mem_of_lookup h2)
 ·have hy:scope.names.lookup y=some .cell∨scope.names.lookup y=some .free:=hy
  rcases hy with hy | hy
  ·exact Zz hy
  ·exact absurd rfl (S.nofree _ (PySem.mem_of_lookup hy))
 ·exact Nat.le_of_lt (x.above y c (PySem.mem_of_lookup h))
 ·have hi:i < vs.length:=by
   unfold start at h2
   by_cases hi:i < vs.length
   ·exact hi
   ·rw[List.getElem?_append_right (by simpa using hi)] at h2
    rw[List.getElem?_replicate] at h2
    split at h2<;>cases h2
  have ha:vs[i]?=some v:=by
   unfold start at h2
   rw[List.getElem?_append_left (by simpa using hi),List.getElem?_map] at h2
   cases e:vs[i]? with
   |none=>rw[e] at h2;cases h2
   |some a=>rw[e] at h2;cases h2;rfl
  obtain⟨u,hu,rv⟩:=r.get ha
  have hp:ps[i]?=some y:=by
   rw[<-S.pre,List.getElem?_take_of_lt (by omega)];exact h1
  have ndP:ps.Nodup:=by rw[<-S.pre];exact S.nd.sublist (List.take_sublist _ _)
  refine⟨u,rv,?_⟩
  rcases S.par y (List.mem_of_getElem? hp) with k | k
  ·exact .inl ⟨k,V4 ndP hp hu k⟩
  ·obtain⟨c,e⟩:=Zz (n:=s.heap.objs.size+1) k
   refine .inr ⟨.inl k,c,e,?_⟩
   have q:=x.cell y c e
   rw[Z8 ndP hp hu (by show scope.names.lookup y≠_;rw[k];decide)] at q
   exact q
 ·exact e0.hok.fresh (Nat.le_of_lt (x.above y c (PySem.mem_of_lookup h)))
 ·unfold start
  show _=N.length
  rw[List.length_append,List.length_map,List.length_replicate]
  omega
theorem qA {CX:CXT}{P:Program}{w:World}{K:PySem.W.Frag}{mg:Str->Option Value}{base:Heap}{k:Nat}{f:Addr}{name qual:Str}{params:Arguments}{body:List Stmt}{scope:Scope}{dV kV doc pm cdv ct oc:Value}{an od:Option Addr}
  {osl:Array (Option Value)} {N ps:List Str} {sp:Sp} (lk:K.lookup f=some ⟨oc,od,.func (PySem.W.fnOf name qual params body scope dV kV doc pm an cdv ct),osl⟩) (hcd:PySem.W.codeIn K cdv qual=true) (S:FnScope N ps scope)
  (len:∀vs H Q E,sp vs H Q E->vs.length=ps.length)
  (hbody:∀(A:Around) (outer:List Env) (s:Shared) (H:Hp) (vs:List V) (Q:VK) (E:XK),Room k (A.deeper (envOfC qual scope s.heap.objs.size f cdv))->sp vs H Q E ->
   ∃t,PSs (cxOf CX P w K mg base N qual scope f cdv A outer s H E) body t/\t { nx:=λ_ H'=>Q .non H',rt:=Q } (start N vs) H) :
  FnOk P w K mg base CX (k+1) f (PySem.W.fnOf name qual params body scope dV kV doc pm an cdv ct) ps sp:=by
 refine⟨len,λA outer s H args us vs Q E hr e0 hb r hsp=>?_⟩
 have hl:=len _ _ _ _ hsp
 have KX:K.In s.heap:=e0.mod.kin.keeps λb o e=>(e0.bs b o e).1
 have lim:s.heap.NoLimit:=e0.mod.nolimit.keeps λb o e=>(e0.bs b o e).1
 have hkind:∀y∈ps.zip us,scope.names.lookup y.1=some .local∨(scope.names.lookup y.1=some .cell/\((cellsFrom (s.heap.objs.size+1) scope.names []).lookup y.1).isSome=true):=fun⟨n,v⟩ hy=>by
  rcases S.par n (List.of_mem_zip hy).1 with q | q
  ·exact .inl q
  ·exact .inr ⟨q,PySem.W.cellsFrom_some _ _ _ (.inl q)⟩
 refine codeAny_call_function hr.depth (KX _ _ lk) rfl S.co S.gen rfl (PySem.W.codeRec_of KX hcd) (hb _ _ _ _ ?_)
 refine wpAny_newFunctionEnv_cells S.kind hkind λenv he s1 x=>?_
 subst he
 refine⟨lim.keeps x.toInCall.keep,codeAny_func ?_⟩
 obtain⟨t,ht,hq⟩:=hbody A outer s H vs Q E (hr.deeper _) hsp
 have I:Inv (cxOf CX P w K mg base N qual scope f cdv A outer s H E) [] (start N vs) H s1:=VX S hr.hd e0 hl r x
 refine wpAny_mono (ht [] s1 (start N vs) H _ I hq) (λfl s' hs=>?_) λe s' hs=>hs
 have fin:∀ {σ':St} {H':Hp} {v:V} {u:Value},Inv (cxOf CX P w K mg base N qual scope f cdv A outer s H E) [] σ' H' s'->RelV v u->Q v H'->CE outer P w H s Q u s' :=
  fun {σ' H' v u} J rv q=>⟨v,H',J.os,J.bare,J.base,J.hok,rv,q⟩
 cases fl with
 |ret u=>
  obtain⟨v,σ',H',J,rv,q⟩:=hs
  exact fin J rv q
 |next=>
  obtain⟨σ',H',J,q⟩:=hs
  exact fin (v:=V.non) (u:=Value.none) J rfl q
 |brk=>
  obtain⟨_,_,_,q⟩:=hs
  exact False.elim q
 |cont=>
  obtain⟨_,_,_,q⟩:=hs
  exact False.elim q
section
variable {X:Cx}{x:Str}{p pos:Pos}{e:Expr}{es:List Expr}{t:TA}{id T:String}{r:List V->Hp->VK->Prop}
def tCB (r:List V->Hp->VK->Prop)(t:TA):TE:=λσ H Q=>t σ H λvs H1=>r vs H1 Q
theorem xS (hc:CallR X (.builtin id) r)(hg:Gl X x)(hm:X.mg x=none)(hv:bootBuiltins x=some (.builtin id))(ha:PA X (e::es) t)(hn:x ≠ "__name__" := by decide) (hdb:(x==("__debug__" : Str))=false:=by decide)
  (he:starEach (e::es) X.env=(false,eval e X.env)::starEach es X.env:=by rfl) (hpl:(backTo pos (starEach es X.env)).any (·.1)=false:=by rfl):PE X (.Call (.Name x p) (e::es) [] pos) (tCB r t):=by
 intro pins s σ H Q I h
 refine wpAny_Call_Name_kw (wX I hg hm hv ?_ hn hdb)
 exact PyProof.Rows.callWith_builtin1 (thn (ha pos pins s σ H _ I h) λus s1 ⟨vs,H1,I1,r1,q1⟩=>hc pins s1 σ H1 vs us Q I1 r1 q1) he hpl
theorem Zl (hc:CallR X (.type T) r)(hg:Gl X x)(hm:X.mg x=none)(hv:bootBuiltins x=some (.type T))(ha:PA X (e::es) t)(hn:x ≠ "__name__" := by decide) (hdb:(x==("__debug__" : Str))=false:=by decide)
  (he:starEach (e::es) X.env=(false,eval e X.env)::starEach es X.env:=by rfl) (hpl:(backTo pos (starEach es X.env)).any (·.1)=false:=by rfl):PE X (.Call (.Name x p) (e::es) [] pos) (tCB r t):=by
 intro pins s σ H Q I h
 refine wpAny_Call_Name_kw (wX I hg hm hv ?_ hn hdb)
 exact PyProof.Rows.callWith_type1 (thn (ha pos pins s σ H _ I h) λus s1 ⟨vs,H1,I1,r1,q1⟩=>hc pins s1 σ H1 vs us Q I1 r1 q1) he hpl
end
end L2
namespace HT
open PySem PyProof.Rows
section
open PySem.SeqAt
open PySem.AutoSeq1 (wpAny_loadPart')
open PySem.MeetsSeq PySem.MeetsSeq2 PySem.MeetsSeq3
end
section
variable {prog:Program}{w:World}{A:Around}{E:Value->Shared->Prop}{s:Shared}
def sIx (n d:Nat):Option Int->Nat
 |none=>d
 |some v=>if v < 0 then (v+(n:Int)).toNat else min v.toNat n
end
end HT
namespace L2
open PySem PySem.Spec PyProof.Rows
abbrev TO:=St->Hp->(Option Int->Hp->Prop)->Prop
def PO (X:Cx)(e:Option Expr)(t:TO):Prop :=
 ∀(pins:List (Addr×Obj)) (s:Shared) (σ:St) (H:Hp) (Q:Option Int->Hp->Prop),Inv X pins σ H s->t σ H Q ->
  wpAny (model X.prog X.w) X.A (evalPart e X.env) (λu s'=>∃o H',Inv X pins σ H' s'/\IsPart u o/\Q o H') X.xe s
def Ju:TO:=λ_ H Q=>Q none H
def tPart (t:TE):TO:=λσ H Q=>t σ H λx H1=>∃i,x=.int i/\Q (some i) H1
section
variable {X:Cx}{e:Expr}{te:TE}{lo hi:Option Expr}{tl th:TO}{pos p2:Pos}
theorem RW:PO X none Ju:=by
 intro pins s σ H Q I h
 rw[evalPart_none]
 exact wpAny_pure ⟨none,H,I,.none,h⟩
theorem UO (h:PE X e te):PO X (some e) (tPart te):=by
 intro pins s σ H Q I hw
 rw[evalPart_some]
 refine thn (h pins s σ H _ I hw) λu s1 ⟨x,H1,I1,r1,q1⟩=>?_
 obtain⟨i,rfl,q⟩:=q1
 obtain⟨t,rfl⟩:=r1
 exact⟨some i,H1,I1,.int i t,q⟩
def SlR (X:Cx)(r:V->Option Int->Option Int->Hp->VK->Prop):Prop :=
 ∀(pins:List (Addr×Obj)) (s:Shared) (σ:St) (H:Hp) (x:V) (v vl vu:Value) (lo hi:Option Int) (sl:Addr) (Q:VK),Inv X pins σ H s->RelV x v->s.heap.IsSliceOf sl vl vu .none->IsPart vl lo->IsPart vu hi->r x lo hi H Q ->
  ∃T id,typeLookup (.type T) "__getitem__" = pure (some (.builtin id))/\s.TypeIs v T/\wpAny (model X.prog X.w) X.A (getItem v (.ref sl)) (EP X pins σ Q) X.xe s
def tSl (r:V->Option Int->Option Int->Hp->VK->Prop)(te:TE)(tl th:TO):TE:=λσ H Q=>te σ H λx H1=>tl σ H1 λl H2=>th σ H2 λu H3=>r x l u H3 Q
theorem qT {r:V->Option Int->Option Int->Hp->VK->Prop}(hr:SlR X r)(he:PE X e te)(hl:PO X lo tl)(hu:PO X hi th):PE X (.Subscript e (.Slice lo hi none p2) pos) (tSl r te tl th):=by
 intro pins s σ H Q I h
 refine Subscript_ (thn (he pins s σ H _ I h) λv s1 ⟨x,H1,I1,r1,q1⟩=>?_)
 refine wpAny_Slice (thn (hl pins s1 σ H1 _ I1 q1) λvl s2 ⟨l,H2,I2,pl,q2⟩=>thn (hu pins s2 σ H2 _ I2 q2) λvu s3 ⟨u,H3,I3,pu,q3⟩=>?_)
 rw[evalPart_none]
 refine wpAny_pure ?_
 have I4:Inv X pins σ H3 { s3 with heap:=s3.heap.push { cls:=.type "slice",data:=.fields #[vl,vu,.none] } }:=I3.kept (t':=s3.toks) λb ob q=>Heap.get?_push_of_some _ q
 obtain⟨T,id,hT,ht,hg⟩:=hr pins { s3 with heap:=s3.heap.push { cls:=.type "slice",data:=.fields #[vl,vu,.none] } } σ H3 x v vl vu l u s3.heap.objs.size Q I4 r1 (Heap.IsSliceOf.new ..) pl pu q3
 show wpAny (model X.prog X.w) X.A (subscriptTail e (.Slice lo hi none p2) v (.ref s3.heap.objs.size)) (EP X pins σ Q) X.xe { s3 with heap:=s3.heap.push { cls:=.type "slice",data:=.fields #[vl,vu,.none] } }
 exact tail_any (ops:=[.ref s3.heap.objs.size,v]) ht hT hg (by with_unfolding_all rfl)
def cutV (xs:List V)(lo hi:Option Int):List V:=(xs.drop (HT.sIx xs.length 0 lo)).take (HT.sIx xs.length xs.length hi - HT.sIx xs.length 0 lo)
theorem Q6 (xs:List V)(lo hi:Option Int):(cutV xs lo hi).length<=xs.length:=by
 unfold cutV
 rw[List.length_take,List.length_drop]
 omega
end
def ixN (n:Nat)(i:Int):Option Nat:=if 0<=i then (if i < n then some i.toNat else none) else if -(n:Int)<=i then some (i+n).toNat else none
def atI {α:Type}(xs:List α)(i:Int):Option α:=(ixN xs.length i).bind λj=>xs[j]?
theorem jB {n:Nat}{i:Int}{j:Nat}(h:ixN n i=some j):seqIndex? i n=some j/\j < n/\-(n:Int)<=i/\i < n:=by
 unfold ixN at h
 by_cases h0:0<=i
 ·rw[if_pos h0] at h
  by_cases h1:i < n
  ·rw[if_pos h1] at h
   have e:i.toNat=j:=Option.some.inj h
   exact⟨by rw[seqIndex_of h0 h1,e],by omega,by omega,h1⟩
  ·rw[if_neg h1] at h;cases h
 ·rw[if_neg h0] at h
  by_cases h1:-(n:Int)<=i
  ·rw[if_pos h1] at h
   have e:(i+n).toNat=j:=Option.some.inj h
   exact⟨by rw[seqIndex_neg (by omega) h1,e],by omega,h1,by omega⟩
  ·rw[if_neg h1] at h;cases h
theorem ue {α:Type}{xs:List α}{i:Int}{v:α}(h:atI xs i=some v):∃j,seqIndex? i xs.length=some j/\xs[j]?=some v/\j < xs.length/\-(xs.length:Int)<=i/\i < xs.length:=by
 unfold atI at h
 cases e:ixN xs.length i with
 |none=>rw[e] at h;cases h
 |some j=>
  rw[e] at h
  obtain⟨h1,h2,h3,h4⟩:=jB e
  exact⟨j,h1,h,h2,h3,h4⟩
def yK (b:Expr):Prop:=∀o i,subscripted b false o i=operate [o,i] (getItem o i)
def IxR (X:Cx)(r:R2):Prop :=
 ∀(value slice:Expr) (pins:List (Addr×Obj)) (s:Shared) (σ:St) (H:Hp) (x y:V) (v u:Value) (Q:VK),Inv X pins σ H s->RelV x v->RelV y u->r x y H Q ->
  subscripted slice false v u=operate [v,u] (getItem v u)->wpAny (model X.prog X.w) X.A (subscriptTail value slice v u) (EP X pins σ Q) X.xe s
def MtR (X:Cx)(id:String)(r:V->List V->Hp->VK->Prop):Prop :=
 ∀(pins:List (Addr×Obj)) (s:Shared) (σ:St) (H:Hp) (x:V) (xs:List V) (v:Value) (us:List Value) (Q:VK),Inv X pins σ H s->RelV x v->Vals xs us->r x xs H Q ->
  wpAny (model X.prog X.w) X.A (call (.builtin id) (v::us)) (EP X pins σ Q) X.xe s
section
variable {X:Cx}{a b:Expr}{ta tb:TE}{pos:Pos}
theorem IxR.or {r r':R2}(h:IxR X r)(h':IxR X r'):IxR X (λx y H Q=>r x y H Q∨r' x y H Q):=by
 intro value slice pins s σ H x y v u Q I rx ry q hs
 rcases q with q | q
 ·exact h value slice pins s σ H x y v u Q I rx ry q hs
 ·exact h' value slice pins s σ H x y v u Q I rx ry q hs
theorem wN {r:R2}(hr:IxR X r)(ha:PE X a ta)(hb:PE X b tb)(hs:yK b):PE X (.Subscript a b pos) (tOp r ta tb):=by
 intro pins s σ H Q I h
 exact Subscript_ (binT ha hb I h λv u s2 x y H2 I2 rx ry q=>hr a b pins s2 σ H2 x y v u Q I2 rx ry q (hs _ _))
def rIxL (K:PySem.W.Frag):R2:=λx y H Q=>∃p xs i v,x=.ref p/\y=.int i/\SqL K H p xs/\atI xs i=some v/\Q v H
def rIxT (K:PySem.W.Frag):R2:=λx y H Q=>∃p xs i v,x=.ref p/\y=.int i/\SqT K H p xs/\atI xs i=some v/\Q v H
def rIxS:R2:=λx y H Q=>∃z i c,x=.str z/\y=.int i/\z.length<=sizeLine/\atI z.cps.toList i=some c/\Q (.str ⟨#[c]⟩) H
theorem ix_list:IxR X (rIxL X.K):=by
 intro value slice pins s σ H x y v u Q I rx ry h hs
 obtain⟨p,xs,i,z,rfl,rfl,hq,he,q⟩:=h
 cases rx
 obtain⟨t,rfl⟩:=ry
 obtain⟨its,r,pl,hz⟩:=I.list hq
 obtain⟨j,h1,h2,h3,h4,h5⟩:=ue he
 obtain⟨w,ew,rw'⟩:=r.get h2
 have hl:=r.length
 have hn:=line63
 have fin:EP X pins σ Q w s:=⟨z,H,I,rw',q⟩
 by_cases h0:0<=i
 ·have hj:i.toNat=j:=by
   rw[seqIndex_of h0 h5] at h1
   exact Option.some.inj h1
  exact item_listR pl.isList h0 (by omega) (by rw[hj];simpa using ew) fin hs
 ·have hj:(i+(its.toArray.size:Int)).toNat=j:=by
   rw[seqIndex_neg (by omega) h4] at h1
   rw[List.size_toArray,<-hl]
   exact Option.some.inj h1
  exact subscriptTail_builtinR (x:=w) pl.isList.typeIs slot_list_getitem.lookup
   (wpAny_getItem_list_neg (Q:=λr s'=>r=w/\EP X pins σ Q r s') pl.isList (by omega) (by rw[List.size_toArray]<;>omega) (by omega) (by rw[hj];simpa using ew) ⟨rfl,fin⟩) hs
theorem ix_tup:IxR X (rIxT X.K):=by
 intro value slice pins s σ H x y v u Q I rx ry h hs
 obtain⟨p,xs,i,z,rfl,rfl,hq,he,q⟩:=h
 cases rx
 obtain⟨t,rfl⟩:=ry
 obtain⟨its,r,pl,hz⟩:=I.tuple hq
 obtain⟨j,h1,h2,h3,h4,h5⟩:=ue he
 obtain⟨w,ew,rw'⟩:=r.get h2
 have hl:=r.length
 have hn:=line63
 have fin:EP X pins σ Q w s:=⟨z,H,I,rw',q⟩
 exact subscriptTail_builtinR (x:=w) pl.typeIs slot_tuple_getitem.lookup
  (getItem_tuple (j:=j) (Q:=λr s'=>r=w/\EP X pins σ Q r s') pl (by omega) (by omega) (by rw[List.size_toArray,<-hl];exact h1) (by simpa using ew) ⟨rfl,fin⟩) hs
theorem RH:IxR X rIxS:=by
 intro value slice pins s σ H x y v u Q I rx ry h hs
 obtain⟨z,i,c,rfl,rfl,hz,he,q⟩:=h
 obtain⟨t,rfl⟩:=rx
 obtain⟨t',rfl⟩:=ry
 obtain⟨j,h1,h2,h3,h4,h5⟩:=ue he
 have hl:z.cps.toList.length=z.length:=by simp[Str.length]
 rw[hl] at h1 h4 h5
 have hn:=line63
 exact tail_any (typeIs_str s z t) slot_str_getitem.lookup (getItem_str (c:=c) (by
  have e1:decide (i < -(2 ^ 63:Int))=false:=decide_eq_false (by omega)
  have e2:decide (i≥2 ^ 63)=false:=decide_eq_false (by omega)
  rw[e1,e2,Bool.or_false]) (by rw[h1];simpa using h2) ⟨.str ⟨#[c]⟩,H,I.tok _,⟨_,rfl⟩,q⟩) hs
def rIx (K:PySem.W.Frag):R2:=λx y H Q=>rIxL K x y H Q∨rIxT K x y H Q∨rIxS x y H Q
theorem wl:IxR X (rIx X.K):=ix_list.or (ix_tup.or RH)
theorem JZ (its:List Value)(n j:Nat)(u:Value):Obj.mapSeq (·.setIfInBounds j u) { cls:=.type "list",data:=.seq its.toArray n }={ cls:=.type "list",data:=.seq (its.set j u).toArray n }:=by
 simp[Obj.mapSeq]
theorem Inv.lst {pins:List (Addr×Obj)}{σ:St}{H:Hp}{s:Shared}{p:Addr}{xs:List V}(I:Inv X pins σ H s)(h:H p=some (.lst xs)) :
  ∃(its:List Value) (n:Nat),Vals xs its/\s.heap.get? p=some { cls:=.type "list",data:=.seq its.toArray n }/\xs.length<=sizeLine:=by
 obtain⟨z,its,n,r,e⟩:=I.hok p _ h
 exact⟨its,n,r,e,z⟩
theorem Inv.lstUpd {pins:List (Addr×Obj)}{σ:St}{H:Hp}{s:Shared}{p:Addr}{xs ys:List V}{its its':List Value}{n n':Nat}{f:Obj->Obj}(I:Inv X pins σ H s)(h:H p=some (.lst xs))
  (ho:s.heap.get? p=some { cls:=.type "list",data:=.seq its.toArray n }) (hf:f { cls:=.type "list",data:=.seq its.toArray n }={ cls:=.type "list",data:=.seq its'.toArray n' }) (r:Vals ys its') (hz:ys.length<=sizeLine) (t:Nat) :
  Inv X pins σ (upd H p (.lst ys)) { s with heap:=s.heap.update p f,toks:=t }:=by
 have e:(s.heap.update p f).get? p=some { cls:=.type "list",data:=.seq its'.toArray n' }:=by
  rw[Heap.get?_update_self f ho (by rw[hf]<;>rfl),hf]
 refine I.write (x:=p) (e:=p) (by rw[h];trivial) (.inl rfl) (λb u hb q=>(Heap.get?_update_other _ _ (Ne.symm hb)).trans q) ⟨_,e⟩ ?_
 exact⟨hz,its',n',r,e⟩
def rSetL:V->V->V->Hp->(Hp->Prop)->Prop:=λo i v H Q=>∃p xs k j,o=.ref p/\i=.int k/\H p=some (.lst xs)/\ixN xs.length k=some j/\Q (upd H p (.lst (xs.set j v)))
theorem Gp:PSet X rSetL:=by
 intro pins s σ H o i v ov iv u Q I ro ri rv h
 obtain⟨p,xs,k,j,rfl,rfl,hp,hj,q⟩:=h
 cases ro
 obtain⟨t,rfl⟩:=ri
 obtain⟨its,n,r,ho,hz⟩:=I.lst hp
 obtain⟨h1,h2,h3,h4⟩:=jB hj
 have hl:=r.length
 have hn:=line63
 have I':Inv X pins σ (upd H p (.lst (xs.set j v))) { s with heap:=s.heap.update p (Obj.mapSeq (·.setIfInBounds j u)) } :=
  I.lstUpd hp ho (JZ its n j u) (r.set rv j) (by rw[List.length_set];exact hz) s.toks
 by_cases h0:0<=k
 ·have hk:k.toNat=j:=by
   rw[seqIndex_of h0 h4] at h1
   exact Option.some.inj h1
  exact PySem.W.ki_setAt ho h0 (by omega) (by rw[List.size_toArray,<-hl];exact h4) (by rw[hk];exact⟨_,I',q⟩)
 ·have hk:(k+(its.toArray.size:Int)).toNat=j:=by
   rw[seqIndex_neg (by omega) h3] at h1
   rw[List.size_toArray,<-hl]
   exact Option.some.inj h1
  exact PySem.W.ki_setBack ho (by omega) (by rw[List.size_toArray,<-hl];exact h3) (by omega) (by rw[hk];exact⟨_,I',q⟩)
theorem J0 (lo hi:Option Int)(n:Nat):(sliceBounds lo hi none n).1=((HT.sIx n 0 lo:Nat):Int)/\(sliceBounds lo hi none n).2.1=((HT.sIx n n hi:Nat):Int)/\(sliceBounds lo hi none n).2.2=1:=by
 refine⟨?_,?_,rfl⟩
 ·cases lo with
  |none=>simp[sliceBounds,HT.sIx]
  |some i=>
   simp only[sliceBounds,HT.sIx,Option.getD_none,show (1:Int) > 0 by decide,if_true]
   by_cases h:i < 0
   ·simp only[h,if_true]<;>omega
   ·simp only[h,if_false]<;>omega
 ·cases hi with
  |none=>simp[sliceBounds,HT.sIx]
  |some i=>
   simp only[sliceBounds,HT.sIx,Option.getD_none,show (1:Int) > 0 by decide,if_true]
   by_cases h:i < 0
   ·simp only[h,if_true]<;>omega
   ·simp only[h,if_false]<;>omega
theorem zap (its:List Value)(lo hi:Option Int):slicePick its.toArray lo hi none=((its.drop (HT.sIx its.length 0 lo)).take (HT.sIx its.length its.length hi - HT.sIx its.length 0 lo)).toArray:=by
 obtain⟨h1,h2,h3⟩:=J0 lo hi its.toArray.size
 unfold slicePick
 rw[h1,h2,h3]
 simp only[sliceRange_one,pick_run,List.size_toArray]<;>rfl
def rSlL (K:PySem.W.Frag):V->Option Int->Option Int->Hp->VK->Prop:=λx lo hi H Q=>∃a xs,x=.ref a/\SqL K H a xs/\∀p,H p=none->Q (.ref p) (upd H p (.lst (cutV xs lo hi)))
theorem ZQ:SlR X (rSlL X.K):=by
 intro pins s σ H x v vl vu lo hi sl Q I rx hs pl pu h
 obtain⟨a,xs,rfl,hx,q⟩:=h
 cases rx
 obtain⟨its,r,ht,hz⟩:=I.list hx
 have hlen:=r.length
 refine⟨"list",_,slot_list_getitem.lookup,ht.isList.typeIs,?_⟩
 refine wpAny_getItem_list_slice ht.isList hs pl pu .none (by simp) ?_ (by rw[List.size_toArray]<;>omega)
 rw[zap,<-hlen]
 refine⟨.ref s.heap.objs.size,_,I.laid (t':=s.toks) (o:=.lst (cutV xs lo hi)) (λb ob q=>Heap.get?_push_of_some _ q) (Nat.le_refl _) ?_,rfl,q _ (I.hok.fresh (Nat.le_refl _))⟩
 exact⟨Nat.le_trans (Q6 xs lo hi) hz,_,0,(r.drop (HT.sIx xs.length 0 lo)).take (HT.sIx xs.length xs.length hi - HT.sIx xs.length 0 lo),Heap.get?_push_size _ rfl⟩
def flatV:V->Bool
 |.non=>true
 |.bl _=>true
 |.int _=>true
 |.str _=>true
 |_=>false
def eqV:V->V->Bool
 |.non,.non=>true
 |.bl a,.bl b=>a==b
 |.bl a,.int b=>(if a then 1 else 0)==b
 |.int a,.bl b=>a==(if b then 1 else 0)
 |.int a,.int b=>a==b
 |.str a,.str b=>a==b
 |_,_=>false
theorem J5 {A:Around}{s:Shared}{y x:V}{u v:Value}(ry:RelV y u)(rx:RelV x v)(fy:flatV y=true)(fx:flatV x=true):SeqAt.EqAt A s u v (eqV y x):=by
 cases y with
 |non=>
  cases ry
  cases x with
  |non=>cases rx;exact SeqAt.EqAt.same _
  |bl b=>cases rx;exact SeqAt.EqAt.none_bool b
  |int b=>obtain⟨t,rfl⟩:=rx;exact SeqAt.EqAt.none_int b t
  |str b=>obtain⟨t,rfl⟩:=rx;exact SeqAt.EqAt.none_str b t
  |_=>exact absurd (show false=true from fx) Bool.false_ne_true
 |bl a=>
  cases ry
  cases x with
  |non=>cases rx;exact SeqAt.EqAt.bool_none a
  |bl b=>cases rx;exact SeqAt.EqAt.bool_bool a b
  |int b=>obtain⟨t,rfl⟩:=rx;exact SeqAt.EqAt.bool_int a b t
  |str b=>obtain⟨t,rfl⟩:=rx;exact SeqAt.EqAt.bool_str a b t
  |_=>exact absurd (show false=true from fx) Bool.false_ne_true
 |int a=>
  obtain⟨t',rfl⟩:=ry
  cases x with
  |non=>cases rx;exact SeqAt.EqAt.int_none a t'
  |bl b=>cases rx;exact SeqAt.EqAt.int_bool a t' b
  |int b=>obtain⟨t,rfl⟩:=rx;exact SeqAt.EqAt.int_int a t' b t
  |str b=>obtain⟨t,rfl⟩:=rx;exact SeqAt.EqAt.int_str a t' b t
  |_=>exact absurd (show false=true from fx) Bool.false_ne_true
 |str a=>
  obtain⟨t',rfl⟩:=ry
  cases x with
  |non=>cases rx;exact SeqAt.EqAt.str_none a t'
  |bl b=>cases rx;exact SeqAt.EqAt.str_bool a t' b
  |int b=>obtain⟨t,rfl⟩:=rx;exact SeqAt.EqAt.str_int a t' b t
  |str b=>obtain⟨t,rfl⟩:=rx;exact SeqAt.EqAt.str_str a t' b t
  |_=>exact absurd (show false=true from fx) Bool.false_ne_true
 |_=>exact absurd (show false=true from fy) Bool.false_ne_true
def eqU (x:V)(u:Value):Bool:=match u with
 |.none=>eqV .non x
 |.bool b=>eqV (.bl b) x
 |.int i _=>eqV (.int i) x
 |.str z _=>eqV (.str z) x
 |_=>false
theorem Wr {x y:V}{u:Value}(r:RelV y u)(f:flatV y=true):eqU x u=eqV y x:=by
 cases y with
 |non=>cases r;rfl
 |bl b=>cases r;rfl
 |int i=>obtain⟨t,rfl⟩:=r;rfl
 |str z=>obtain⟨t,rfl⟩:=r;rfl
 |_=>exact absurd (show false=true from f) Bool.false_ne_true
theorem wQ {x:V}:∀ {xs:List V}{us:List Value},Vals xs us->xs.all flatV=true->us.any (eqU x)=xs.any λy=>eqV y x
 |_,_,.nil,_=>rfl
 |y::xs,u::us,.cons r t,f=>by
  rw[List.all_cons,Bool.and_eq_true] at f
  rw[List.any_cons,List.any_cons,Wr r f.1,wQ t f.2]
theorem vI {A:Around}{s:Shared}{x:V}{v:Value}(rx:RelV x v)(fx:flatV x=true):∀ {xs:List V}{us:List Value},Vals xs us->xs.all flatV=true->∀u∈us,SeqAt.EqAt A s u v (eqU x u)
 |_,_,.nil,_=>λu hu=>by cases hu
 |y::xs,u::us,.cons r t,f=>λu' hu=>by
  rw[List.all_cons,Bool.and_eq_true] at f
  rcases List.mem_cons.mp hu with rfl | hu
  ·rw[Wr r f.1];exact J5 r rx f.1 fx
  ·exact vI rx fx t f.2 u' hu
def inV (x:V)(xs:List V):Bool:=xs.any λy=>eqV y x
def rIn (K:PySem.W.Frag)(neg:Bool):R2:=λx y H Q=>∃p xs,y=.ref p/\(SqL K H p xs∨SqT K H p xs)/\flatV x=true/\xs.all flatV=true/\Q (.bl (if neg then !inV x xs else inV x xs)) H
theorem op_in_seq:OpR X (compareOp .In) (rIn X.K false):=by
 intro pins s σ H x y v u Q I rx ry h
 obtain⟨p,xs,rfl,hq,fx,fs,q⟩:=h
 cases ry
 rcases hq with hq | hq
 ·obtain⟨its,r,pl,hz⟩:=I.list hq
  refine SeqAt.in_listAt (eqU x) pl.isList (λw hw=>vI rx fx r fs w (by simpa using hw)) ⟨.bl _,H,I,rfl,?_⟩
  rw[show its.toArray.any (eqU x)=its.any (eqU x) by simp,wQ r fs]
  exact q
 ·obtain⟨its,r,pl,hz⟩:=I.tuple hq
  refine SeqAt.in_tupleAt (eqU x) pl (λw hw=>vI rx fx r fs w (by simpa using hw)) ⟨.bl _,H,I,rfl,?_⟩
  rw[show its.toArray.any (eqU x)=its.any (eqU x) by simp,wQ r fs]
  exact q
theorem op_notIn_seq:OpR X (compareOp .NotIn) (rIn X.K true):=by
 intro pins s σ H x y v u Q I rx ry h
 obtain⟨p,xs,rfl,hq,fx,fs,q⟩:=h
 cases ry
 rcases hq with hq | hq
 ·obtain⟨its,r,pl,hz⟩:=I.list hq
  refine SeqAt.notIn_listAt (eqU x) pl.isList (λw hw=>vI rx fx r fs w (by simpa using hw)) ⟨.bl _,H,I,rfl,?_⟩
  rw[show its.toArray.any (eqU x)=its.any (eqU x) by simp,wQ r fs]
  exact q
 ·obtain⟨its,r,pl,hz⟩:=I.tuple hq
  refine SeqAt.notIn_tupleAt (eqU x) pl (λw hw=>vI rx fx r fs w (by simpa using hw)) ⟨.bl _,H,I,rfl,?_⟩
  rw[show its.toArray.any (eqU x)=its.any (eqU x) by simp,wQ r fs]
  exact q
theorem Qj:OpR X (compareOp .NotIn) (λx y H Q=>∃i j,x=.str i/\y=.str j/\Q (.bl (!(!(Builtin.Str.occurrences j i 0 j.length 1).isEmpty))) H):=by
 intro pins s σ H x y v u Q I rx ry h
 obtain⟨i,j,rfl,rfl,q⟩:=h
 obtain⟨t,rfl⟩:=rx
 obtain⟨t',rfl⟩:=ry
 exact notIn_str ⟨.bl _,H,I,rfl,q⟩
def tyV (K:PySem.W.Frag)(T:String)(x:V)(H:Hp):Prop:=match x with
 |.str _=>T = "str"
 |.int _=>T = "int"
 |.ref p=>(T = "list" /\ ∃xs,SqL K H p xs)∨(T = "tuple" /\ ∃o,K.lookup p=some o/\o.cls=.type "tuple" /\ o.dict=none) ∨
   (T = "dict" /\ ((∃kvs,H p=some (.dK kvs))∨∃kvs,H p=some (.dT kvs)))∨(T = "set" /\ ∃S n,H p=some (.set S n))
 |_=>False
theorem ZA {pins:List (Addr×Obj)}{σ:St}{H:Hp}{s:Shared}{T:String}{x:V}{v:Value}(I:Inv X pins σ H s)(r:RelV x v)(ty:tyV X.K T x H) :
  s.TypeIs v T/\∀a,v=.ref a->∃ob,s.heap.get? a=some ob/\ob.dict=none:=by
 cases x with
 |str z=>
  obtain⟨t,rfl⟩:=r
  cases (show T = "str" from ty)
  exact⟨typeIs_str s z t,λ_ e=>nomatch e⟩
 |int i=>
  obtain⟨t,rfl⟩:=r
  cases (show T = "int" from ty)
  exact⟨typeIs_int s i t,λ_ e=>nomatch e⟩
 |ref p=>
  cases r
  rcases ty with⟨rfl,xs,hq⟩ | ⟨rfl,o,hk,hc,hd⟩ | ⟨rfl,hk⟩ | ⟨rfl,S,n,hk⟩
  ·obtain⟨its,_,pl,_⟩:=I.list hq
   refine⟨pl.isList.typeIs,λa e=>?_⟩
   cases e
   obtain⟨o,n,e,c,hd,_⟩:=pl
   exact⟨o,e,hd⟩
  ·refine⟨⟨o,I.kIn p o hk,hc⟩,λa e=>?_⟩
   cases e
   exact⟨o,I.kIn _ o hk,hd⟩
  ·have z:∃o,s.heap.get? p=some o/\o.ExactDict:=by
    rcases hk with⟨kvs,hk⟩ | ⟨kvs,hk⟩
    ·obtain⟨_,_,_,_,o,_,_,e,ex,_⟩:=I.hok p _ hk
     exact⟨o,e,ex⟩
    ·obtain⟨_,_,_,_,o,_,_,e,ex,_⟩:=I.hok p _ hk
     exact⟨o,e,ex⟩
   obtain⟨o,e,ex⟩:=z
   refine⟨⟨o,e,ex.1⟩,λa e2=>?_⟩
   cases e2
   exact⟨o,e,ex.2.1⟩
  ·obtain⟨o,_,_,_,e,ex,_⟩:=I.hok p _ hk
   refine⟨⟨o,e,ex.1⟩,λa e2=>?_⟩
   cases e2
   exact⟨o,e,ex.2.1⟩
 |_=>exact False.elim ty
def tBM0 (K:PySem.W.Frag)(T:String)(r:V->List V->Hp->VK->Prop)(to:TE):TE:=λσ H Q=>to σ H λx H1=>tyV K T x H1/\r x [] H1 Q
def tBM (K:PySem.W.Frag)(T:String)(r:V->List V->Hp->VK->Prop)(to:TE)(t:TA):TE:=λσ H Q=>to σ H λx H1=>tyV K T x H1/\t σ H1 λxs H2=>r x xs H2 Q
variable {o e:Expr}{es:List Expr}{to:TE}{t:TA}{name:Str}{apos cpos:Pos}{T id:String}{r:V->List V->Hp->VK->Prop}
theorem qI (pa:PlainAttrs T)(slot:Slot T name id)(hty:typeOf (.builtin id)=pure (.type "method_descriptor")) (hm:MtR X id r) (ho:PE X o to)
  (hbase:attributeBase o name X.env (eval o X.env)=eval o X.env:=by rfl) (hline:(apos.endLine==cpos.line)=true:=by rfl):PE X (.Call (.Attribute o name apos) [] [] cpos) (tBM0 X.K T r to):=by
 intro pins s σ H Q I h
 refine wpAny_Call_method0_late hbase hline (thn (ho pins s σ H _ I h) λv s1 ⟨x,H1,I1,r1,ty,q1⟩=>?_)
 obtain⟨h1,h2⟩:=ZA I1 r1 ty
 exact⟨T,id,pa,slot,hty,h1,h2,Calls.callWith_builtin rfl (PySem.evalArgs_none (hm pins s1 σ H1 x [] v [] Q I1 r1 .nil q1))⟩
theorem jb (pa:PlainAttrs T)(slot:Slot T name id)(hty:typeOf (.builtin id)=pure (.type "method_descriptor")) (hm:MtR X id r) (ho:PE X o to) (ha:PA X (e::es) t)
  (hbase:attributeBase o name X.env (eval o X.env)=eval o X.env:=by rfl)
  (hfew:((backTo cpos (starEach (e::es) X.env)).all (λx=>!x.1)&&(backToKw cpos (keywordEach [] X.env)).all (λx=>x.1.isSome)
   && decide ((e::es).length+([]:List Keyword).length+(if ([]:List Keyword).isEmpty then 0 else 1) < 30))=true:=by rfl)
  (hline:(apos.endLine==cpos.line)=true:=by rfl) (hs:starEach (e::es) X.env=(false,eval e X.env)::starEach es X.env:=by rfl) (hplain:(backTo cpos (starEach es X.env)).any (·.1)=false:=by rfl) :
  PE X (.Call (.Attribute o name apos) (e::es) [] cpos) (tBM X.K T r to t):=by
 intro pins s σ H Q I h
 refine wpAny_Call_method_late hbase hfew hline rfl (thn (ho pins s σ H _ I h) λv s1 ⟨x,H1,I1,r1,ty,q1⟩=>?_)
 obtain⟨h1,h2⟩:=ZA I1 r1 ty
 refine⟨T,id,pa,slot,hty,h1,h2,?_⟩
 have hA:=ha cpos pins s1 σ H1 _ I1 q1
 rw[hs] at hA ⊢
 refine Calls.callWith_builtin (by show (false||(backTo cpos (starEach es X.env)).any (·.1))=false;rw[hplain]<;>rfl) (Calls.evalArgs_plain ?_)
 exact thn hA λus s2 ⟨vs,H2,I2,r2,q2⟩=>hm pins s2 σ H2 x vs v us Q I2 r1 r2 q2
/- xs.append(e),list.index on a module's tuple .. are MtR facts of 06m -/
end
def MtM (X:Cx)(id:String)(r:V->List V->Hp->VK->Prop):Prop :=
 ∀(pins:List (Addr×Obj)) (s:Shared) (σ:St) (H:Hp) (x:V) (xs:List V) (v:Value) (us:List Value) (Q:VK),Inv X pins σ H s->RelV x v->Vals xs us->r x xs H Q ->
  wpAny (model X.prog X.w) X.A (call (.builtin id) (v::us)) (EP X pins σ Q) X.xe s
theorem Vals.one:∀ {x:V}{us:List Value},Vals [x] us->∃u,us=[u]/\RelV x u
 |_,_,.cons r .nil=>⟨_,rfl,r⟩
theorem Vals.zero:∀ {us:List Value},Vals [] us->us=[]
 |_,.nil=>rfl
theorem Vals.dropLast {xs:List V}{us:List Value}(h:Vals xs us):Vals xs.dropLast us.dropLast:=by
 induction h with
 |nil=>exact .nil
 |cons r t ih=>
  cases t with
  |nil=>exact .nil
  |cons q t'=>exact .cons r ih
theorem RP {α:Type}(l:List α):l.eraseIdx (l.length - 1)=l.dropLast:=by
 induction l with
 |nil=>rfl
 |cons a r ih=>
  cases r with
  |nil=>rfl
  |cons b r=>
   have e:(a::b::r).length - 1=((b::r).length - 1)+1:=by
    have h1:(a::b::r).length=r.length+2:=rfl
    have h2:(b::r).length=r.length+1:=rfl
    omega
   rw[e,List.eraseIdx_cons_succ,ih]
   all_goals rfl
section
variable {X:Cx}{pins:List (Addr×Obj)}{σ:St}{H:Hp}{s:Shared}{l b:Addr}{xs ys zs:List V}
theorem Inv.lset {its its':List Value}{n:Nat}{f:Array Value->Array Value}{t':Nat}(I:Inv X pins σ H s)(hH:H l=some (.lst xs))
  (e:s.heap.get? l=some { cls:=.type "list",data:=.seq its.toArray n }) (hf:f its.toArray=its'.toArray) (hv:Vals ys its') (hz:ys.length<=sizeLine) :
  Inv X pins σ (upd H l (.lst ys)) { s with heap:=s.heap.update l (Obj.mapSeq f),toks:=t' }:=by
 have q:=PySem.IsL.update e f
 rw[hf] at q
 refine I.write (x:=l) (e:=l) (by rw[hH];exact trivial) (.inl rfl) (λb' u hb hu=>(Heap.get?_update_other s.heap (Obj.mapSeq f) (Ne.symm hb)).trans hu) ⟨_,q⟩ ?_
 exact⟨hz,its',_,hv,q⟩
theorem Inv.lnew {its:List Value}{t':Nat}(I:Inv X pins σ H s)(hv:Vals ys its)(hz:ys.length<=sizeLine) :
  Inv X pins σ (upd H s.heap.objs.size (.lst ys)) { s with heap:=s.heap.push { cls:=.type "list",data:=.seq its.toArray },toks:=t' } :=
 I.laid (λ_ _ q=>Heap.get?_push_of_some _ q) (Nat.le_refl _) ⟨hz,its,0,hv,Heap.get?_push_size _ rfl⟩
theorem Inv.fresh (I:Inv X pins σ H s):H s.heap.objs.size=none:=I.hok.fresh (Nat.le_refl _)
theorem Inv.lstM (I:Inv X pins σ H s)(hH:H l=some (.lst xs)):xs.length<=sizeLine/\∃(its:List Value)(n:Nat),Vals xs its/\xs.length=its.length/\s.heap.get? l=some { cls:=.type "list",data:=.seq its.toArray n }:=by
 obtain⟨z,its,n,r,e⟩:=I.hok l _ hH
 exact⟨z,its,n,r,r.length,e⟩
end
section
variable {X:Cx}
def WN:V->List V->Hp->VK->Prop:=λx vs H Q=>∃l xs y,x=.ref l/\vs=[y]/\H l=some (.lst xs)/\xs.length < sizeLine/\Q .non (upd H l (.lst (xs++[y])))
theorem kr:MtM X "list.append" WN:=by
 intro pins s σ H x vs v us Q I rx rv h
 obtain⟨l,xs,y,rfl,rfl,hH,hz,q⟩:=h
 cases rx
 obtain⟨u,rfl,ru⟩:=rv.one
 obtain⟨z,its,n,r,hl,e⟩:=I.lstM hH
 refine call_meets F.slot_list_append ⟨_,e,rfl⟩ F.entry_list_append (F.args_list_append_2 _ _) (PySem.list_append l its.toArray n u (by rw[List.size_toArray];omega)) ⟨e,?_⟩
 refine⟨.non,_,I.lset (its':=its++[u]) hH e (by simp) (r.append (.cons ru .nil)) ?_,rfl,q⟩
 rw[List.length_append,List.length_singleton]
 omega
def rPop:V->List V->Hp->VK->Prop:=λx vs H Q=>∃l xs y,x=.ref l/\vs=[]/\H l=some (.lst xs)/\xs[xs.length - 1]?=some y/\Q y (upd H l (.lst xs.dropLast))
theorem RC:MtM X "list.pop" rPop:=by
 intro pins s σ H x vs v us Q I rx rv h
 obtain⟨l,xs,y,rfl,rfl,hH,hy,q⟩:=h
 cases rx
 have hus:=rv.zero
 subst hus
 obtain⟨z,its,n,r,hl,e⟩:=I.lstM hH
 obtain⟨u,hu,ru⟩:=r.get hy
 have hy':its.toArray[its.toArray.size - 1]?=some u:=by
  show its.toArray[its.length - 1]?=some u
  rw[<-Array.getElem?_toList,<-hl]
  exact hu
 refine call_meets F.slot_list_pop ⟨_,e,rfl⟩ F.entry_list_pop (F.args_list_pop_1 _) (MeetsSeq.list_pop_last l its.toArray n u hy' (by rw[List.size_toArray];omega)) ⟨e,?_⟩
 refine⟨y,_,I.lset (its':=its.dropLast) hH e ?_ r.dropLast ?_,ru,q⟩
 ·show its.toArray.eraseIdxIfInBounds (its.toArray.size - 1)=its.dropLast.toArray
  rw[List.size_toArray,List.eraseIdxIfInBounds_toArray,RP]
 ·rw[List.length_dropLast]
  omega
def rClear:V->List V->Hp->VK->Prop:=λx vs H Q=>∃l xs,x=.ref l/\vs=[]/\H l=some (.lst xs)/\Q .non (upd H l (.lst []))
theorem Wz:MtM X "list.clear" rClear:=by
 intro pins s σ H x vs v us Q I rx rv h
 obtain⟨l,xs,rfl,rfl,hH,q⟩:=h
 cases rx
 have hus:=rv.zero
 subst hus
 obtain⟨z,its,n,r,hl,e⟩:=I.lstM hH
 refine call_meets F.slot_list_clear ⟨_,e,rfl⟩ F.entry_list_clear (F.args_list_clear_1 _) (AutoSeq1.list_clear_list_0 l its.toArray n (by rw[List.size_toArray];omega)) ⟨e,?_⟩
 exact⟨.non,_,I.lset (its':=[]) (ys:=[]) hH e rfl .nil (Nat.zero_le _),rfl,q⟩
end
section
variable {prog:Program}{w:World}{A:Around}{E:Value->Shared->Prop}{s:Shared}
end
section
variable {X:Cx}
end
end L2
namespace Att
open PySem PySem.W PySem.Calls PyProof.Rows
theorem QY {P:Params}{h:Heap}:∀(ns:List Int)(vs:List Value),WellAll P h vs (ns.map WData.int)->IntsAre vs ns:=by
 intro ns
 induction ns with
 |nil=>
  intro vs w
  rw[List.map_nil] at w
  cases w
  exact .nil
 |cons n ns ih=>
  intro vs w
  rw[List.map_cons] at w
  cases w with
  |cons a b=>
   cases a
   exact .cons _ _ (ih _ b)
theorem KQ {l:OpenLaw}{n:Nat}(hn:l.most=some n){P:Params}{h:Heap}{args:List WData}{vals:List Value}
  (hpre:l.row.toRowW.claim.pre args=true) (hwl:WellAll P h vals args) :
  ∃a vs ns,vals=[Value.ref a]/\args=[WData.list (ns.map WData.int)]/\h.get? a=some { cls:=.type "list",data:=.seq vs.toArray }/\IntsAre vs ns/\ns.length<=n:=by
 have hsh:WShape.hasAll [] args [.list .int]=true:=(pre_splitW hpre).1
 have hc:l.pre.holds [] { args:=args }=true:=(pre_splitW hpre).2
 obtain⟨d,r,rfl,h1,h2⟩:=hasAllW_cons hsh
 obtain rfl:=hasAllW_nil h2
 obtain⟨xs,rfl,h3⟩:=hasW_list h1
 obtain⟨ns,rfl⟩:=items_int h3
 have hlen:ns.length<=n:=by
  unfold OpenLaw.pre at hc
  have h4:(WTm.not (.lt (.lit (.int (n:Int))) (.len (.arg 0)))).holds [] { args:=[.list (ns.map .int)] }=true:=by
   have h4:=(holds_andW hc).1
   rw[hn] at h4
   exact h4
  have h5:=condW_of h4 (w_not (w_lt w_lit (w_len_list (w_arg rfl))))
  rw[List.length_map] at h5
  refine Nat.le_of_not_lt λq=>?_
  have q':(n:Int) < ((ns.length:Nat):Int):=by omega
  first
   | (rw[decide_eq_true q'] at h5;exact absurd h5 (by decide))
   | (simp at h5;omega)
 cases hwl with
 |cons w1 w2=>
  cases w2
  cases w1 with
  |list ho hall=>exact⟨_,_,ns,rfl,rfl,ho,QY ns _ hall,hlen⟩
theorem KR (l:OpenLaw)(args:List WData):l.row.toRowW.claim.post args (.bool true) args=true :=
 postW_of (r:=l.row.toRowW) (X:=(true==true))
  (show WShape.has [] (.bool true) .bool=true by first | rfl | decide | simp[WShape.has,WShape.arms,WShape.armsAll])
  (show (WTm.eq .res (.lit (.bool true))).value [] { args:=args,res:=some (.bool true),after:=args }=some (.bool (true==true)) from w_eq_bool (w_res rfl) w_lit) rfl
theorem attach_call {l:OpenLaw}{n:Nat}{q:Program}{loose:List Str}{XP:(Str->Option Value)->Heap->Prop}{YP:World->Heap->Prop}{d:DefRec}
  (hn:l.most=some n) (hdf:d.params.defaults=[])
  (call:∀(w:World) (s₀ s₁:Shared) (mg mb:Str->Option Value) (fa:Addr) (o:Obj) (pm cd doc:Value) (a:Addr) (vs:List Value) (ns:List Int),
   Ground q loose [] XP w s₀ mg mb s₁.heap->YP w s₁.heap ->
   s₁.heap.get? fa=some o->o.data=.func (docDef d.name d.params d.body d.scope pm cd doc)->s₁.heap.CodeRec cd d.name->mg d.name=some (.ref fa) ->
   s₁.heap.get? a=some { cls:=.type "list",data:=.seq vs.toArray }->IntsAre vs ns->ns.length<=n->s₁.gens=#[] ->
   codeAny (model l.prog w) callerA (.call (.ref fa) ⟨[.ref a],[]⟩) (λr s'=>r=.ok (.ret (.bool true))/\OldK s₁.heap s'.heap/\s'.os=s₁.os/\AllBare s'.gens) s₁) :
  WalkO q loose XP YP l.row.toRowW d [] (λf vs=>PySem.call f vs):=by
 intro w s₀ s₁ mg mb G Y fa o pm cd doc dV kV ho hd hcd hD hmg hg args vals as hpre hlay hrd hwl hlo
 obtain rfl:dV=.none:=Dflts.none hD hdf
 obtain rfl:kV=.none:=Dflts.noKw hD
 obtain⟨a,vs,ns,rfl,rfl,hobj,hints,hlen⟩:=KQ hn hpre hwl
 refine enter_call (codeAny_mono (call w s₀ s₁ mg mb fa o pm cd doc a vs ns G Y ho (fd_plain hd) hcd hmg hobj hints hlen hg) λr s' hq=>?_)
 obtain⟨rfl,h2,h3,h4⟩:=hq
 exact⟨.inl ⟨.bool true,.bool true,[],rfl,λ_=>rfl,.bool true,KR l _,λ_=>⟨List.Pairwise.nil,λ_ hm=>(nomatch hm)⟩⟩,h2,h3,h4⟩
section
variable {prog:Program}{w:World}{A:Around}{E:Value->Shared->Prop}{s:Shared}{K:Frag}
def ledger (h:Heap)(L d:Addr):List (Addr×Obj):=(List.range h.objs.size).filterMap λa=>if a=L∨a=d then none else (h.get? a).map λo=>(a,o)
end
end Att
namespace L2
open PySem PySem.Spec PyProof.Rows
theorem Wg:∀ {vs:List Value}{ns:List Int},IntsAre vs ns->Vals (ns.map V.int) vs
 |_,_,.nil=>.nil
 |_,_,.cons n t h=>.cons ⟨t,rfl⟩ (Wg h)
def Only (H:Hp):Prop:=∀b,H b=none∨∃o xs,H b=some (.frz o (.lst xs))
theorem K3 {P:Program}{w:World}{K:PySem.W.Frag}{mg mb:Str->Option Value}{CX:CXT}{k:Nat}{fa a:Addr}{fd:FuncData}{x:Str}{sp:Sp}{s₁:Shared}{vs:List Value}{ns:List Int}
  (KX:K.In s₁.heap) (hns:s₁.heap.Ns mainGlobals mg) (hb:s₁.heap.Ns builtinsNs mb) (hbb:∀x:Str,x ≠ "__name__" -> mb x=bootBuiltins x) (hlim:s₁.heap.NoLimit) (hg:s₁.gens=#[])
  (ha:s₁.heap.get? a=some { cls:=.type "list",data:=.seq vs.toArray }) (hi:IntsAre vs ns) (hl:ns.length<=sizeLine) (hr:Room k callerA)
  (F:∀base:Heap,K.In base->base.Ns mainGlobals mg->FnOk P w K mg base CX k fa fd [x] sp) (hbind:∀(s:Shared) (u:Value),BindsTo s fd ⟨[u],[]⟩ [(x,u)])
  (hsp:∀H:Hp,Only H->SqL K H a (ns.map V.int)->sp [.ref a] H (λv _=>v=.bl true) λ_ _ _=>False)
  (hCX:∀H e s',CX [] H s₁ (λ_ _ _=>False) e s'->False) :
  codeAny (model P w) callerA (.call (.ref fa) ⟨[.ref a],[]⟩) (λr s'=>r=.ok (.ret (.bool true))/\OldK s₁.heap s'.heap/\s'.os=s₁.os/\AllBare s'.gens) s₁:=by
 have rv:=Wg hi
 have lenV:=hi.length
 have core:∀H:Hp,Only H->SqL K H a (ns.map V.int)->HOk P w H s₁.heap->(∀b,H b≠none->b=a)->(H a≠none->K.lookup a=none) ->
   codeAny (model P w) callerA (.call (.ref fa) ⟨[.ref a],[]⟩) (λr s'=>r=.ok (.ret (.bool true))/\OldK s₁.heap s'.heap/\s'.os=s₁.os/\AllBare s'.gens) s₁:=by
  intro H hO hS hok hA hK
  have base_of:∀ {b:Addr} {o:Obj},s₁.heap.get? b=some o->H b=none->(hidT s₁.heap H).get? b=some o:=λe n=>Ka e n
  have noA:∀ {b:Addr} {o:Obj} {es:Array DictEntry} {ep:Nat},s₁.heap.get? b=some o->o.data=.dict es ep->H b=none:=fun {b o es ep} e d=>by
   cases q:H b with
   |none=>rfl
   |some u=>
    have e':b=a:=hA b (by rw[q];simp)
    subst e'
    rw[ha] at e;cases e
    have d':Data.seq vs.toArray _=Data.dict es ep:=d
    cases d'
  have nsK:∀ {b:Addr} {m:Str->Option Value},s₁.heap.Ns b m->(hidT s₁.heap H).Ns b m:=fun {b m} ⟨o,es,ep,e,d,r⟩=>⟨o,es,ep,base_of e (noA e d),d,r⟩
  have hKb:K.In (hidT s₁.heap H):=λb o e=>base_of (KX b o e) (by
   cases q:H b with
   |none=>rfl
   |some u=>
    have e':b=a:=hA b (by rw[q];simp)
    subst e'
    rw[hK (by rw[q];simp)] at e;cases e)
  have hM:Mod K mg (hidT s₁.heap H):=⟨hKb,nsK hns,⟨mb,nsK hb,hbb⟩,let ⟨mc,h1,h2⟩:=hlim;⟨mc,nsK h1,h2⟩⟩
  have e0:Env0 P w K mg (hidT s₁.heap H) callerA [] s₁ H:=⟨rfl,hM,λb o e=>GI e,Nat.le_of_eq (RY _ _),trivial,λb hb=>absurd (show b∈([]:List Addr) from hb) (by simp),hok,.of_eq hg⟩
  refine codeAny_mono ((F _ hKb (nsK hns)).run callerA [] s₁ H ⟨[.ref a],[]⟩ [.ref a] [.ref a] _ _ hr e0 (hbind s₁ (.ref a)) (.cons rfl .nil) (hsp H hO hS)) λr s' h=>?_
  cases r with
  |error e=>exact (hCX H e s' h).elim
  |ok fl=>
   cases fl with
   |next=>exact False.elim h
   |brk=>exact False.elim h
   |cont=>exact False.elim h
   |ret u=>
    obtain⟨v,H',os,bare,un,hok',r',q⟩:=h
    have q':v=.bl true:=q
    subst q'
    obtain rfl:u=Value.bool true:=r'
    refine⟨rfl,OldK.of_keep λb o e=>?_,os,bare⟩
    cases q:H b with
    |none=>exact un.keep b o e q (by intro z;exact absurd (show b∈([]:List Addr) from z) (by simp)) (by simp)
    |some u=>
     rcases hO b with z | ⟨ob,xs,z⟩
     ·rw[q] at z;cases z
     ·have z2:=un.frzs b ob _ z
      obtain⟨e1,_⟩:=hok b _ z
      obtain⟨e2,_⟩:=hok' b _ z2
      rw[e] at e1;cases e1
      exact e2
 cases hk:K.lookup a with
 |some o=>
  have e:=KX a o hk
  rw[ha] at e
  cases e
  refine core (λ_=>none) (λ_=>.inl rfl) (.inr ⟨_,vs.toArray,_,hk,rfl,rfl,rfl,by rw[List.size_toArray,lenV];exact hl,by simpa using rv⟩) (λb u z=>by have z':(none:Option HO)=some u:=z;cases z') (λb z=>absurd rfl z) λz=>absurd rfl z
 |none=>
  refine core (λb=>if b=a then some (.frz { cls:=.type "list",data:=.seq vs.toArray } (.lst (ns.map V.int))) else none) (λb=>?_) (.inl (.inr ⟨{ cls:=.type "list",data:=.seq vs.toArray },if_pos rfl⟩)) (λb u z=>?_) (λb z=>?_) λ_=>hk
  ·by_cases hb:b=a
   ·exact .inr ⟨_,_,if_pos hb⟩
   ·exact .inl (if_neg hb)
  ·by_cases hb:b=a
   ·have z':=(if_pos hb).symm.trans z
    cases z'
    subst hb
    exact⟨ha,by rw[List.length_map];exact hl,vs,_,rv,ha⟩
   ·have z':=(if_neg hb).symm.trans z
    cases z'
  ·by_cases hb:b=a
   ·exact hb
   ·exact absurd (if_neg hb) z
abbrev KOf {K:PySem.W.Frag}{h:Heap}(_:K.In h):PySem.W.Frag:=K
theorem walk_of {l:PySem.W.OpenLaw}{n k:Nat}{q:Program}{loose:List Str}{XP:(Str->Option Value)->Heap->Prop}{YP:World->Heap->Prop}{d:DefRec}{K:Params->PySem.W.Frag}{CX:World->CXT}{sp:World->Sp}{x:Str}
  (hn:l.most=some n) (hn2:n<=sizeLine) (hdf:d.params.defaults=[]) (hr:Room k callerA)
  (hY:∀(w:World) (h:Heap),YP w h->(K w.params).In h)
  (F:∀(w:World) (mg:Str->Option Value) (fa:Addr) (h:Heap),(K w.params).In h->h.Ns mainGlobals mg->mg d.name=some (.ref fa) ->
   ∃fd:FuncData,(∀(s:Shared) (u:Value),BindsTo s fd ⟨[u],[]⟩ [(x,u)]) /\
    ∀base:Heap,(K w.params).In base->base.Ns mainGlobals mg->FnOk l.prog w (K w.params) mg base (CX w) k fa fd [x] (sp w))
  (hsp:∀(w:World) (H:Hp) (a:Addr) (ns:List Int),ns.length<=n->Only H->SqL (K w.params) H a (ns.map V.int)->sp w [.ref a] H (λv _=>v=.bl true) λ_ _ _=>False)
  (hCX:∀(w:World) (H:Hp) (s:Shared) (e:Value) (s':Shared),CX w [] H s (λ_ _ _=>False) e s'->False) :
  PySem.W.WalkO q loose XP YP l.row.toRowW d [] (λf vs=>PySem.call f vs):=by
 refine Att.attach_call hn hdf λw s₀ s₁ mg mb fa o pm cd doc a vs ns G Y ho hd hcd hmg hobj hints hlen hg=>?_
 have KX:=hY w _ Y
 obtain⟨fd,hb,hF⟩:=F w mg fa _ KX G.T.g hmg
 exact K3 KX G.T.g G.T.b G.T.builtins G.T.nolimit hg hobj hints (Nat.le_trans hlen hn2) hr hF hb (λH hO hS=>hsp w H a ns hlen hO hS) λH e s'=>hCX w H s₁ e s'
end L2
/- THE LAST THEOREM (shape;LID,My.* are yours):
   My.Adr: a structure of the addresses that your layer names (classes,functions);My.Txt K t: a structure (Prop) of the equations over K;
   My.txt_mk:{K} {implicit addresses ..} (e1:nsIn K mainGlobals "law" = some (some (.ref f))) (e2:K.lookup f=some ⟨oc,od,.func (fnOf "law" "law" params body scope dV kV doc pm an cdv ct),sl⟩) (e3:codeIn K cdv "law" = true) .. : ∃t,My.Txt K t
set_option maxRecDepth 100000 in
set_option maxHeartbeats 0 in
theorem PySem.Challenge.cw_LID_holds : PySem.Challenge.rw_LID.Holds := by
 w_on;o_law;k_head;(case hw=>w_witness2)
 k_fill
 refine L2.walk_of (l:=PySem.Challenge.rw_LID) (n:=63) (k:=40) (x := "script") (CX:=λw=>..) (sp:=λ_=>My.sp_law) rfl (by decide) rfl ⟨rfl,by decide,by decide⟩ (λw h Y=>PySem.W.kIn_of Y) ?F ?S ?C
 case F=>
  intro w mg fa h KX G hmg
  have T:∃t,My.Txt (L2.KOf KX) t:=by
   dsimp only[L2.KOf]                          -- K must stand as «<heap const> w.params» for k_is
   refine' My.txt_mk ?e1 ?e2 ?e3 ..
   (case e1=>PySem.W.k_is)                    -- in the order: a name->its address->its object->its parts
   (case e2=>PySem.W.k_is)
   ..
  obtain⟨t,T⟩:=T
  have e0:=hmg.symm.trans (PySem.W.mg_of KX G T.law)
  cases e0                                       -- fa is the law's own address
  exact⟨_,λs u=>.of_eq rfl,λbase kb nb=>My.law_fn T kb nb⟩     -- if «.of_eq rfl» comes too early: refine' ⟨_,?b,λbase kb nb=>My.law_fn T kb nb⟩;exact λs u=>.of_eq rfl
 case S=>exact λw H a ns hl hO hS=>..
 case C=>exact ..
(the tactic k_is has no namespace: write k_is) -/
namespace L2
open PySem PySem.Spec PyProof.Rows
def kH (s:Stmt)(j:Nat):Stmt:=match s with
 |.ClassDef _ _ _ body _ _ _ _ _ _ _=>body.getD j (.Pass ⟨0,0,0,0⟩)
 |_=>.Pass ⟨0,0,0,0⟩
def zm (s:Stmt):Arguments:=match s with
 |.FunctionDef _ a _ _ _ _ _ _ _ _=>a
 |_=>{ posonlyargs:=[],args:=[],vararg:=none,kwonlyargs:=[],kw_defaults:=[],kwarg:=none,defaults:=[] }
def zi (s:Stmt):List Stmt:=match s with
 |.FunctionDef _ _ b _ _ _ _ _ _ _=>b
 |_=>[]
def zd (s:Stmt):Scope:=match s with
 |.FunctionDef _ _ _ _ _ _ sc _ _ _=>sc
 |_=>{ kind:=.function,names:=[],isGenerator:=false,isCoroutine:=false }
abbrev CX0:CXT:=λ_ _ _ _ _ _=>False
abbrev E0:XK:=λ_ _ _=>False
theorem pass0 {X:Cx}:Passes CX0 X E0:=λ_ _ _ _ _ _ _ h=>h.elim
structure Fun (K:PySem.W.Frag)(x qual:Str)(st:Stmt)(f:Addr)(fd:FuncData):Prop where
 ex:∃(oc:Value) (od:Option Addr) (kV doc pm:Value) (an:Option Addr) (cdv ct:Value) (osl:Array (Option Value)),
  fd=PySem.W.fnOf x qual (zm st) (zi st) (zd st) .none kV doc pm an cdv ct/\K.lookup f=some ⟨oc,od,.func fd,osl⟩/\PySem.W.codeIn K cdv qual=true
 kp:PySem.W.keepIn K (.ref f)=true
section
variable {P:Program}{w:World}{K:PySem.W.Frag}{mg:Str->Option Value}{base:Heap}
theorem Fun.ok {x qual:Str}{st:Stmt}{f:Addr}{fd:FuncData}{N ps:List Str}{k:Nat}{sp:Sp}(F:Fun K x qual st f fd)(S:FnScope N ps (zd st))(len:∀vs H Q E,sp vs H Q E->vs.length=ps.length)
  (hbody:∀(cdv:Value) (A:Around) (outer:List Env) (s:Shared) (H:Hp) (vs:List V) (Q:VK) (E:XK),Room k (A.deeper (envOfC qual (zd st) s.heap.objs.size f cdv))->sp vs H Q E ->
   ∃t,PSs (cxOf CX0 P w K mg base N qual (zd st) f cdv A outer s H E).nox (zi st) t/\t { nx:=λ_ H'=>Q .non H',rt:=Q } (start N vs) H):FnOk P w K mg base CX0 (k+1) f fd ps sp:=by
 obtain⟨oc,od,kV,doc,pm,an,cdv,ct,osl,rfl,lk,hcd⟩:=F.ex
 refine qA lk hcd S len λA outer s H vs Q E hr hsp=>?_
 obtain⟨t,h,q⟩:=hbody cdv A outer s H vs Q E hr hsp
 exact⟨t,h.nox,q⟩
theorem Fun.binds {x qual:Str}{st:Stmt}{f:Addr}{fd:FuncData}{ps:List Str}(F:Fun K x qual st f fd)
  (h:∀(kV doc pm:Value) (an:Option Addr) (cdv ct:Value) (us:List Value),us.length=ps.length->bindArgs (PySem.W.fnOf x qual (zm st) (zi st) (zd st) .none kV doc pm an cdv ct) ⟨us,[]⟩=pure (ps.zip us)):Binds K fd ps []:=by
 obtain⟨oc,od,kV,doc,pm,an,cdv,ct,osl,rfl,lk,hcd⟩:=F.ex
 exact .all (h kV doc pm an cdv ct)
theorem zr {x qual:Str}{st:Stmt}{f:Addr}{oc:Value}{od an:Option Addr}{osl:Array (Option Value)}{kV doc pm cdv ct:Value}(l:K.lookup f=some ⟨oc,od,.func (PySem.W.fnOf x qual (zm st) (zi st) (zd st) .none kV doc pm an cdv ct),osl⟩)
  (c:PySem.W.codeIn K cdv qual=true) (k:PySem.W.keepIn K (.ref f)=true):Fun K x qual st f (PySem.W.fnOf x qual (zm st) (zi st) (zd st) .none kV doc pm an cdv ct):=⟨⟨oc,od,kV,doc,pm,an,cdv,ct,osl,rfl,l,c⟩,k⟩
end
section
variable {X:Cx}
theorem pv (i:Nat){x:Str}{pos:Pos}(hN:X.N[i]?=some x:=by rfl)(hv:Vis X.env.scope x:=by first | exact Or.inl rfl | exact Or.inr (Or.inl rfl) | exact Or.inr (Or.inr rfl))(hd:(x==("__debug__" : Str))=false:=by decide)
  (hcd:(x==("__classdict__" : Str))=false:=by decide):PE X (.Name x pos) (tVar i):=jD hN hv hd hcd
end
theorem iteF {A B:Prop}(h:B):if false=true then A else B:=by
 rw[if_neg Bool.false_ne_true]
 exact h
theorem iteT {A B:Prop}(h:A):if true=true then A else B:=by
 rw[if_pos rfl]
 exact h
def Same (H H':Hp):Prop:=∀b o,H b=some o->H' b=some o
theorem Same.refl (H:Hp):Same H H:=λ_ _ h=>h
theorem Same.trans {H H1 H2:Hp}(a:Same H H1)(b:Same H1 H2):Same H H2:=λc o h=>b c o (a c o h)
theorem Same.free {H H':Hp}(e:Same H H'){l:Addr}(h:H' l=Option.none):H l=Option.none:=by
 cases q:H l with
 |none=>rfl
 |some o=>
  rw[e l o q] at h
  cases h
theorem Same.seq {K:PySem.W.Frag}{H H':Hp}{a:Addr}{xs:List V}(e:Same H H')(h:SqL K H a xs):SqL K H' a xs:=by
 rcases h with (h | ⟨o,h⟩) | h
 ·exact .inl (.inl (e _ _ h))
 ·exact .inl (.inr ⟨o,e _ _ h⟩)
 ·exact .inr h
end L2
namespace L3
open PySem PySem.Spec L2
open PyProof.Rows hiding St
section
variable {X:Cx}{pins:List (Addr×Obj)}{σ:St}{H H':Hp}{s:Shared}{h':Heap}
theorem jP {ch:List Addr}{t':Nat}(I:Inv X pins σ H s)(k:∀b o,b∉ch->s.heap.get? b=some o->h'.get? b=some o)(hf:∀b∈ch,FpOk X pins H b):Inv X pins σ H { s with heap:=h',toks:=t' }:=by
 have nit:∀b u,H b=some u->b∉ch:=λb u e z=>by rw[(hf b z).1] at e;cases e
 refine I.step (g':=s.gens) (d':=s.drawn) (ch:=ch) (λb hb=>?_) (λb o _ _ hc e _=>k b o hc e) (λb o _ _ hc e _=>⟨o.slots,k b o hc e⟩) (λ_ _ _ _ n=>n)
  (λb o hc e=>⟨o,k b o hc e⟩) (λ_ _ e=>e) (λ_ _ _ e=>e) (λb ps e=>⟨#[],by rw[e];simp⟩) (λm hm=>?_) (λb u e=>?_) I.bare
 ·obtain⟨_,f1,_,f3,f4,f5⟩:=hf b hb
  exact⟨f3,f1,f4,f5⟩
 ·obtain⟨o,es,ep,ho,r⟩:=hm
  exact⟨o,es,ep,k _ o (λz=>(hf _ z).2.1 rfl) ho,r⟩
 ·refine (I.hok b u e).stay (λc v hc q=>k c v ?_ q) (λ_ q=>q) λ_ _ q=>q
  rcases hc with z | z
  ·rw[z];exact nit b u e
  ·exact nit c _ z
theorem stepN {ch:List Addr}{t':Nat}{T:Addr}{o:HO}(I:Inv X pins σ H s)(k:∀b o,b∉ch->s.heap.get? b=some o->h'.get? b=some o)(hf:∀b∈ch,FpOk X pins H b)(hT:s.heap.objs.size<=T)
  (new:ObjOk X.prog X.w (upd H T o) h' T o):Inv X pins σ (upd H T o) { s with heap:=h',toks:=t' }:=by
 have nit:∀b u,H b=some u->b∉ch:=λb u e z=>by rw[(hf b z).1] at e;cases e
 have nT:H T=none:=I.hok.fresh hT
 refine I.step (g':=s.gens) (d':=s.drawn) (ch:=ch) (λb hb=>?_) (λb o _ _ hc e _=>k b o hc e) (λb o _ _ hc e _=>⟨o.slots,k b o hc e⟩) (λb u _ e n=>?_)
  (λb o hc e=>⟨o,k b o hc e⟩) (λb xs e=>by rw[zg (zu e nT)];exact e) (λb ob u e=>by rw[zg (zu e nT)];exact e) (λb ps e=>⟨#[],by rw[zg (zu e nT),e];simp⟩) (λm hm=>?_) (λb u e=>?_) I.bare
 ·obtain⟨_,f1,_,f3,f4,f5⟩:=hf b hb
  exact⟨f3,f1,f4,f5⟩
 ·rw[zg (Nat.ne_of_lt (Nat.lt_of_lt_of_le (Heap.lt_size e) hT))];exact n
 ·obtain⟨o,es,ep,ho,r⟩:=hm
  exact⟨o,es,ep,k _ o (λz=>(hf _ z).2.1 rfl) ho,r⟩
 ·by_cases hb:b=T
  ·subst hb;rw[zk] at e;cases e;exact new
  ·rw[zg hb] at e
   refine (I.hok b u e).stay (λc v hc q=>k c v ?_ q) (λc q=>by rw[zg (zu q nT)];exact q) λc xs q=>by rw[zg (zu q nT)];exact q
   rcases hc with z | z
   ·rw[z];exact nit b u e
   ·exact nit c _ z
end
def Ite (K:PySem.W.Frag)(a:Addr):It :=
 ⟨λi H=>∃xs x,SqL K H a xs/\xs[i]?=some x,λi H x H'=>∃T v,H T=none/\x=.ref T/\H'=upd H T (.tup [.int i,v])/\∀xs,SqL K H a xs->xs[i]?=some v,λi H=>∃xs,SqL K H a xs/\xs.length<=i⟩
theorem JA {P:Program}{w:World}{K:PySem.W.Frag}{elts:List Expr}{k:Nat}{pos:Pos}(a e it:Addr)(hne:e≠it) :
  Turn P w K (.Tuple elts k pos) (Ite K a) [e,it] e (λi h=>(∃old,IsEnum h e it i old)/\h.IsListIter it a i) where
 mem:=by simp
 obj:=λi h st b hb=>by
  obtain⟨⟨old,he⟩,o,e1,c,d⟩:=st
  rcases List.mem_cons.mp hb with rfl | hb
  ·exact⟨_,he,λv z=>by cases z⟩
  ·rw[List.mem_singleton.mp hb]
   exact⟨o,e1,λv z=>by rw[d] at z;cases z⟩
 keep:=λi h h' st k=>⟨let ⟨old,he⟩:=st.1;⟨old,k e (by simp) _ he⟩,st.2.at λo e=>k it (by simp) o e⟩
 item:=by
  intro X hP hw hK hc i pins s σ H E I hf st hg
  subst hP hw hK
  obtain⟨⟨old,he⟩,hit⟩:=st
  obtain⟨xs,x,hq,hx⟩:=hg
  obtain⟨its,rv,p,hz⟩:=I.list hq
  obtain⟨u,hu,ru⟩:=rv.get hx
  refine wpAny_pyNext_enum_item he hit p.isList (x:=u) (by simpa using hu) hne λh' ho hit' hT hsz hk=>⟨_,rfl,?_⟩
  refine wpAny_letOwnedTupleGo_enum ho λh'' he'' hs''=>?_
  have nT:H s.heap.objs.size=none:=I.hok.fresh (Nat.le_refl _)
  have hTe:s.heap.objs.size≠e:=Nat.ne_of_gt (Heap.lt_size he)
  refine⟨.ref s.heap.objs.size,upd H s.heap.objs.size (.tup [.int i,x]),stepN (s:=s) (t':=s.toks+1) (ch:=[e,it]) I (λb o hb q=>?_) hf (Nat.le_refl _) ?_,rfl,⟨_,x,nT,rfl,rfl,λys hy=>by rw[I.list_inj hy hq];exact hx⟩,⟨⟨_,by simpa using he''⟩,hit'.extBut hs''.extBut (Ne.symm hne)⟩,λb hb=>?_⟩
  ·have h1:b≠e:=λz=>hb (by simp[z])
   have h2:b≠it:=λz=>hb (by simp[z])
   exact hs''.extBut b o h1 (hk b o h1 h2 q)
  ·exact⟨(show 2<=sizeLine by decide),[.int i s.toks,u],.cons ⟨_,rfl⟩ (.cons ru .nil),⟨_,hs''.extBut _ _ hTe hT,rfl,_,rfl⟩⟩
  ·have hb':b≠s.heap.objs.size:=by
    rcases List.mem_cons.mp hb with rfl | hb
    ·exact Ne.symm hTe
    ·rw[List.mem_singleton.mp hb]
     obtain⟨o,e1,_⟩:=hit
     exact Nat.ne_of_lt (Heap.lt_size e1)
   rw[zg hb']
   exact (hf b hb).1
 done:=by
  intro X hP hw hK hc i pins s σ H E I hf st hg
  subst hP hw hK
  obtain⟨⟨old,he⟩,hit⟩:=st
  obtain⟨xs,hq,hx⟩:=hg
  obtain⟨its,rv,p,hz⟩:=I.list hq
  have hl:=rv.length
  refine wpAny_pyNext_enum_end (I.ok.hd hc) he hit p.isList (by simp;omega) λh' eb=>⟨rfl,jP (t':=s.toks) (ch:=[e,it]) I (λb o hb q=>eb b o (λz=>hb (by simp[z])) q) hf⟩
 self:=λ_ _ _ _ _ st h=>let ⟨_,he⟩:=st.1;wpAny_pyIter_enum he h
section
variable {X:Cx}{elts:List Expr}{tk:Nat}{tpos:Pos}
def iEnum (K:PySem.W.Frag)(ta:TA):TI:=λσ H R=>ta σ H λvs H1=>∃a,vs=[.ref a]/\(∃xs,SqL K H1 a xs)/\R (Ite K a) H1
theorem Rs {a:Expr}{ta:TA}{p pos:Pos}(hg:Gl X "enumerate") (hm:X.mg "enumerate" = none) (ha:PA X [a] ta) (hs:starEach [a] X.env=[(false,eval a X.env)]:=by rfl) :
  PI X (.Tuple elts tk tpos) (.Call (.Name "enumerate" p) [a] [] pos) (iEnum X.K ta):=by
 intro pins s σ H R I h
 refine Call_ (wX I hg hm (u:=.type "enumerate") (by decide +kernel) (PyProof.Rows.callWith_type1 (thn (ha pos pins s σ H _ I h) λus s1 ⟨vs,H1,I1,r1,q1⟩=>?_) hs rfl))
 obtain⟨a,e,⟨xs,hq⟩,q⟩:=q1
 subst e
 obtain⟨u,rfl,ru⟩:=vals1 r1
 cases ru
 obtain⟨its,rv,pl,hz⟩:=I1.list hq
 refine call_enumerate_list pl.isList λh' he hit hsz hk=>wpAny_pyIter_enum he ?_
 have I2:Inv X pins σ H1 { s1 with heap:=h' }:=I1.kept (t':=s1.toks) hk
 refine⟨s1.heap.objs.size+1,[s1.heap.objs.size+1,s1.heap.objs.size],_,_,H1,rfl,I2,JA a _ _ (show ((s1.heap.objs.size+1:Nat)≠s1.heap.objs.size) by omega),⟨⟨_,he⟩,hit⟩,λb hb=>?_,q⟩
 have hb':s1.heap.objs.size<=b:=by
  rcases List.mem_cons.mp hb with rfl | hb
  ·exact Nat.le_succ _
  ·rw[List.mem_singleton.mp hb];exact Nat.le_refl _
 exact I1.fpOk hb' (I1.hok.fresh hb')
end
theorem Z9 {prog:Program}{w:World}{A:Around}{R:Result->Shared->Prop}{s:Shared}{elt target iter:Expr}{ifs:List Expr}{scope:Scope}{pos:Pos}{it acc:Value}{env:Env}(I:Nat->Shared->Prop)
  (turn:∀n s,I n s->wpAny (model prog w) A (pyNext it) (λr s₁=>match r with
   |none=>R (.ok .next) s₁
   |some v=>wpAny (model prog w) A (letOwnedTupleGo target it v) (λ_ s₁'=>wpAny (model prog w) A (assign target env v) (λ_ s₂=>
     wpAny (model prog w) A (forIn ifs true λc r=>if r=true then do let ok <-isTrue c env (eval c env);pure (ForInStep.yield ok) else pure (ForInStep.yield r)) (λok s₃=>
      if ok=true then wpAny (model prog w) A (eval elt env) (λx s₄=>
       wpAny (model prog w) A (call (.builtin "list.append") [acc,x]) (λ_ s₅=>∃m,m < n/\I m s₅) (λ_ _=>False) s₄) (λ_ _=>False) s₃
      else ∃m,m < n/\I m s₃) (λ_ _=>False) s₂) (λ_ _=>False) s₁') (λ_ _=>False) s₁) (λ_ _=>False) s)
  (n:Nat) (h:I n s):codeAny (model prog w) A (.compLoop (.ListComp elt [⟨target,iter,ifs,0⟩] scope pos) 0 it acc env) R s:=by
 refine codeAny_loop rfl I (λn s hI=>?_) n h
 show wpAny _ A ((compTurn (.ListComp elt [⟨target,iter,ifs,0⟩] scope pos) 0 it acc env).onRaise (λx=>do noteFrame x env;theTreesLotGoes x)) _ _ s
 refine wpAny_noted ?_
 rw[compTurn_list]
 refine wpAny_bind (wpAny_standAt (wpAny_bind (wpAny_mono (turn n s hI) (λr s₁ h₁=>?_) λ_ _ h'=>h'.elim)))
 cases r with
 |none=>exact wpAny_pure h₁
 |some v=>
  refine wpAny_bind (wpAny_mono h₁ (λ_ s₁' h₁'=>?_) λ_ _ h'=>h'.elim)
  refine wpAny_bind (wpAny_mono h₁' (λ_ s₂ h₂=>wpAny_bind (wpAny_mono h₂ (λok s₃ h₃=>?_) λ_ _ h'=>h'.elim)) λ_ _ h'=>h'.elim)
  cases ok with
  |false=>exact wpAny_pure ⟨rfl,h₃⟩
  |true=>
   exact wpAny_bind (wpAny_bind (wpAny_mono h₃ (λx s₄ h₄=>wpAny_bind (wpAny_mono h₄ (λ_ s₅ h₅=>wpAny_pure (wpAny_pure ⟨rfl,h₅⟩)) λ_ _ h'=>h'.elim)) λ_ _ h'=>h'.elim))
def clGo (cells:List (Str×Addr)):List (Str×NameKind)->List (Str×Addr)->List (Str×Addr)
 | [],cs=>cs
 | (n,k)::r,cs=>clGo cells r (if k==.free then (n,(cells.lookup n).getD 0)::cs else cs)
theorem Yz {scope:Scope}{env:Env}(h:∀x∈scope.names,x.2=.free->∃c,env.cells.lookup x.1=some c):closureFor scope env=pure (clGo env.cells scope.names []):=by
 simp only[closureFor]
 have go:∀(l:List (Str×NameKind)) (cs:List (Str×Addr)),(∀x∈l,x.2=.free->∃c,env.cells.lookup x.1=some c) ->
   (forIn l cs λ(x:Str×NameKind) (r:List (Str×Addr))=>(if (x.2==NameKind.free)=true then do let a <-cellOf env x.1;pure (ForInStep.yield ((x.1,a)::r)) else pure (ForInStep.yield r):Sem (ForInStep (List (Str×Addr)))))=pure (clGo env.cells l cs):=by
  intro l
  induction l with
  |nil=>intro cs _;rfl
  |cons x r ih=>
   intro cs hx
   obtain⟨n,k⟩:=x
   rw[List.forIn_cons]
   by_cases hk:(k==NameKind.free)=true
   ·obtain⟨c,e⟩:=hx (n,k) List.mem_cons_self (by simpa using hk)
    have e':env.cells.lookup n=some c:=e
    have ec:cellOf env n=pure c:=by unfold cellOf;rw[e']
    simp only[hk,if_true,ec,pure_bind]
    rw[ih _ λy hy=>hx y (List.mem_cons_of_mem _ hy)]
    simp only[clGo,hk,if_true,e',Option.getD_some]
   ·simp only[hk,Bool.false_eq_true,if_false,pure_bind]
    rw[ih _ λy hy=>hx y (List.mem_cons_of_mem _ hy)]
    simp only[clGo,hk,Bool.false_eq_true,if_false]
 have:=go scope.names [] h
 simpa using this
theorem j9 {cells:List (Str×Addr)}:∀(l:List (Str×NameKind))(cs:List (Str×Addr))(x:Str)(c:Addr),(∀y∈l,y.2=.free->∃c,cells.lookup y.1=some c)->(∀x c,cs.lookup x=some c->cells.lookup x=some c) ->
  (clGo cells l cs).lookup x=some c->cells.lookup x=some c
 | [],cs,x,c,_,h,e=>h x c e
 | (n,k)::r,cs,x,c,hl,h,e=>by
  refine j9 r _ x c (λy hy=>hl y (List.mem_cons_of_mem _ hy)) (λy d=>?_) e
  by_cases hk:(k==NameKind.free)=true
  ·rw[if_pos hk]
   obtain⟨c',e'⟩:=hl (n,k) List.mem_cons_self (by simpa using hk)
   have e':cells.lookup n=some c':=e'
   intro q
   by_cases hy:y=n
   ·subst hy
    rw[List.lookup_cons_self] at q
    rw[<-q,e'];rfl
   ·rw[List.lookup_cons,beq_eq_false_iff_ne.mpr hy] at q
    exact h y d q
  ·rw[if_neg hk];exact h y d
theorem V1 {cells:List (Str×Addr)}:∀(l:List (Str×NameKind))(cs:List (Str×Addr))(x:Str),(cs.lookup x).isSome=true->((clGo cells l cs).lookup x).isSome=true
 | [],cs,x,h=>h
 | (n,k)::r,cs,x,h=>by
  refine V1 r _ x ?_
  by_cases hk:(k==NameKind.free)=true
  ·rw[if_pos hk]
   by_cases hy:x=n
   ·subst hy;rw[List.lookup_cons_self];rfl
   ·rw[List.lookup_cons,beq_eq_false_iff_ne.mpr hy];exact h
  ·rw[if_neg hk];exact h
theorem jr {cells:List (Str×Addr)}:∀(l:List (Str×NameKind))(cs:List (Str×Addr))(x:Str),(x,NameKind.free)∈l->((clGo cells l cs).lookup x).isSome=true
 | [],cs,x,h=>by simp at h
 | (n,k)::r,cs,x,h=>by
  rcases List.mem_cons.mp h with e | h
  ·cases e
   exact V1 r _ _ (by rw[if_pos (show (NameKind.free==NameKind.free)=true from rfl),List.lookup_cons_self];rfl)
  ·exact jr r _ x h
def cxc (X:Cx)(scope:Scope)(C:Addr)(N:List Str)(s₀:Shared)(H₀:Hp)(fp:List Addr)(pn:List (Addr×Obj)):Cx :=
 { X with N:=N,s₀:=s₀,H₀:=H₀,env:=compEnvC scope (clGo X.env.cells scope.names []) C X.env,outer:=X.stack,stack:=X.stack,ex:=fp,fn:=λ_=>false,pn:=pn,xe:=λ_ _=>False }
structure CompScope (X:Cx)(scope:Scope)(own:List Str)(cap:List (Str×Nat)):Prop where
 kind:scope.kind=.function
 nocell:∀y∈scope.names,y.2≠.cell
 names:∀y∈scope.names,y.2=.local->scope.names.lookup y.1=some .local
 frees:∀y∈scope.names,y.2=.free->X.env.kindOf y.1=some .cell∨X.env.kindOf y.1=some .free
 caps:∀p∈cap,scope.names.lookup p.1=some .free/\X.N[p.2]?=some p.1
theorem uu {env:Env}:∀ {names:List (Str×NameKind)}{x:Str}{k':NameKind},
  (names.map λ(n,k)=>if (k==NameKind.free&&env.scope.kind==.function&&env.kindOf n==some .cell) then (n,NameKind.cell) else (n,k)).lookup x=some k'->(k'=.cell∨k'=.free)->(∀y∈names,y.2≠.cell)->(x,NameKind.free)∈names
 | [],x,k',h,_,_=>by simp at h
 | (n,k)::r,x,k',h,hk,hc=>by
  have ih:=@uu env r x k'
  rw[List.map_cons] at h
  by_cases hq:(k==NameKind.free&&env.scope.kind==.function&&env.kindOf n==some .cell)=true
  ·simp only[hq,if_true] at h
   have kf:k=NameKind.free:=by
    simp only[Bool.and_eq_true,beq_iff_eq] at hq
    exact hq.1.1
   by_cases hx:x=n
   ·subst hx;subst kf;exact List.mem_cons_self
   ·rw[List.lookup_cons,beq_eq_false_iff_ne.mpr hx] at h
    exact List.mem_cons_of_mem _ (ih h hk λy hy=>hc y (List.mem_cons_of_mem _ hy))
  ·simp only[hq,if_false] at h
   by_cases hx:x=n
   ·subst hx
    have h':some k=some k':=by
     have:=h
     simp at this
     rw[this]
    cases h'
    rcases hk with z | z
    ·exact absurd z (hc (x,k) List.mem_cons_self)
    ·subst z;exact List.mem_cons_self
   ·have h2:List.lookup x (List.map (λ(n,k)=>if (k==NameKind.free&&env.scope.kind==.function&&env.kindOf n==some .cell) then (n,NameKind.cell) else (n,k)) r)=some k':=by
     simpa[List.lookup_cons,beq_eq_false_iff_ne.mpr hx] using h
    exact List.mem_cons_of_mem _ (ih h2 hk λy hy=>hc y (List.mem_cons_of_mem _ hy))
theorem uP {env:Env}:∀ {names:List (Str×NameKind)}{x:Str},names.lookup x=some .free ->
  (names.map λ(n,k)=>if (k==NameKind.free&&env.scope.kind==.function&&env.kindOf n==some .cell) then (n,NameKind.cell) else (n,k)).lookup x=some .cell ∨
  (names.map λ(n,k)=>if (k==NameKind.free&&env.scope.kind==.function&&env.kindOf n==some .cell) then (n,NameKind.cell) else (n,k)).lookup x=some .free
 | [],x,h=>by simp at h
 | (n,k)::r,x,h=>by
  have ih:=@uP env r x
  rw[List.map_cons]
  by_cases hx:x=n
  ·subst hx
   rw[List.lookup_cons_self] at h
   cases h
   by_cases hq:(NameKind.free==NameKind.free&&env.scope.kind==.function&&env.kindOf x==some .cell)=true
   ·left;simp only[hq,if_true,List.lookup_cons_self]
   ·right;simp only[hq,if_false];simp
  ·rw[List.lookup_cons,beq_eq_false_iff_ne.mpr hx] at h
   by_cases hq:(k==NameKind.free&&env.scope.kind==.function&&env.kindOf n==some .cell)=true
   ·simp only[hq,if_true,List.lookup_cons,beq_eq_false_iff_ne.mpr hx];exact ih h
   ·have e:(if (k==NameKind.free&&env.scope.kind==.function&&env.kindOf n==some .cell)=true then (n,NameKind.cell) else (n,k))=(n,k):=if_neg hq
    simp only[e,List.lookup_cons,beq_eq_false_iff_ne.mpr hx];exact ih h
theorem vY {names:List (Str×NameKind)}{x:Str}{k:NameKind}(h:names.lookup x=some k):(x,k)∈names:=PySem.mem_of_lookup h
theorem WZ {X:Cx}{scope:Scope}{own:List Str}{cap:List (Str×Nat)}(S:CompScope X scope own cap){pins:List (Addr×Obj)}{σ:St}{H:Hp}{s:Shared}{C:Addr}{fp:List Addr}(I:Inv X pins σ H s)(hC:s.heap.objs.size<=C)(hf:∀b∈fp,FpOk X pins H b)(hlt:∀b∈fp,b < s.heap.objs.size){N:List Str}{pn:List (Addr×Obj)} :
  (cxc X scope C N s H fp pn).Ok:=by
 have hfr:∀y∈scope.names,y.2=.free->∃c,X.env.cells.lookup y.1=some c:=λy hy hk=>I.ok.has y.1 (S.frees y hy hk)
 have sub:∀x c,(clGo X.env.cells scope.names []).lookup x=some c->X.env.cells.lookup x=some c:=λx c=>j9 _ _ x c hfr (λx c e=>by simp at e)
 refine⟨I.ok.mod,S.kind,I.ok.glob,I.ok.blt,hC,λx y c h1 h2=>I.ok.inj x y c (sub _ _ h1) (sub _ _ h2),λx hx=>?_,λx c h=>(by cases h),I.ok.hd,I.ok.frames,.inl rfl,λb hb=>⟨Nat.ne_of_lt (Nat.lt_of_lt_of_le (hlt b hb) hC),λx c e=>(hf b hb).2.2.2.2.1 x c (sub x c e)⟩,I.bs,Nat.le_trans I.ok.bsz I.sz,λb o e hb=>?_,λb hb z=>?_,I.stack,I.stkFree⟩
 ·have hx':(x,NameKind.free)∈scope.names:=by
   rcases hx with z | z
   ·exact uu (env:=X.env) z (.inl rfl) S.nocell
   ·exact uu (env:=X.env) z (.inr rfl) S.nocell
  exact Option.isSome_iff_exists.mp (jr scope.names [] x hx')
 ·rcases (hf b hb).2.2.2.1 with z | z
  ·exact I.ok.noex b o e z
  ·exact absurd (Nat.lt_of_lt_of_le (Heap.lt_size (I.ok.bs b o e).1) z) (Nat.lt_irrefl _)
 ·rcases List.mem_cons.mp (I.stkSub b z) with q | q
  ·exact (hf b hb).2.1 q
  ·exact (hf b hb).2.2.1 q
def tComp (wi:TI)(own:List Str)(cap:List (Str×Nat))(g:TG)(tc:TT)(te:TE):TE:=λσ H Q=>wi σ H λJ H1=>∃W:Nat->Nat->List V->Hp->Prop,(∃m,W 0 m [] H1)/\∀i m ys H,W i m ys H ->
 ys.length<=sizeLine/\((J.stop i H/\∀D,H D=none->Q (.ref D) (upd H D (.lst ys)))∨(J.go i H/\∃N:List V->Hp->Prop,(∀ys' H',N ys' H'->∃m',m' < m/\W (i+1) m' ys' H') /\
  ∀x H',J.yld i H x H'->∀σ1:St,σ1.length=own.length->g x (σ1++cap.map λp=>(σ[p.2]?).getD none) H' λσ2 H2=>(∃σ1':St,σ1'.length=own.length/\σ2=σ1'++cap.map λp=>(σ[p.2]?).getD none) /\
   tc σ2 H2 λb H3=>if b=true then te σ2 H3 λy H4=>N (ys++[y]) H4 else N ys H3))
def PIfs (X:Cx)(ifs:List Expr)(tc:TT):Prop :=
 ∀(pins:List (Addr×Obj)) (s:Shared) (σ:St) (H:Hp) (Q:Bool->Hp->Prop),Inv X pins σ H s->tc σ H Q ->
  wpAny (model X.prog X.w) X.A (forIn ifs true λc r=>if r=true then do let ok <-isTrue c X.env (eval c X.env);pure (ForInStep.yield ok) else pure (ForInStep.yield r)) (TP X pins σ Q) X.xe s
def tTrue:TT:=λ_ H Q=>Q true H
theorem UM {X:Cx}:PIfs X [] tTrue:=λpins s σ H Q I h=>wpAny_tests_nil ⟨H,I,h⟩
theorem QC {X:Cx}{c:Expr}{tc:TT}(h:PT X c tc):PIfs X [c] tc:=λpins s σ H Q I hq=>wpAny_tests_one (h pins s σ H Q I hq)
theorem Zn {fs ex:List Addr}{H0 H:Hp}{h0 h h':Heap}{D C:Addr}{o:HO}(u:Un fs ex H0 H h0 h)(hD:h0.objs.size<=D)(hC:h0.objs.size<=C)(sb:Heap.SameBut C h h')(n:H D=none):Un fs ex H0 (upd H D o) h0 h':=by
 have ne:∀b ob,h0.get? b=some ob->b≠C:=λb ob e=>Nat.ne_of_lt (Nat.lt_of_lt_of_le (Heap.lt_size e) hC)
 have nd:∀b ob,h0.get? b=some ob->b≠D:=λb ob e=>Nat.ne_of_lt (Nat.lt_of_lt_of_le (Heap.lt_size e) hD)
 refine⟨λb ob e q hb hx=>(sb.2 b (ne b ob e)).trans (u.keep b ob e q hb hx),λb ob e q hb hx=>?_,λb ob e q hx=>?_,λb ob e hx=>?_,λb xs e=>?_,λb ob xs e=>?_,λb ps e=>?_⟩
 ·obtain⟨sl,z⟩:=u.slot b ob e q hb hx
  exact⟨sl,(sb.2 b (ne b ob e)).trans z⟩
 ·rw[zg (nd b ob e)];exact u.free b ob e q hx
 ·obtain⟨o',z⟩:=u.there b ob e hx
  exact⟨o',(sb.2 b (ne b ob e)).trans z⟩
 ·have z:=u.tups b xs e
  rw[zg (zu z n)];exact z
 ·have z:=u.frzs b ob xs e
  rw[zg (zu z n)];exact z
 ·obtain⟨m,z⟩:=u.tbls b ps e
  exact⟨m,by rw[zg (zu z n)];exact z⟩
theorem Wu {X:Cx}{elt tg iter:Expr}{ifs:List Expr}{scope:Scope}{pos:Pos}{own:List Str}{cap:List (Str×Nat)}{wi:TI}{g:TG}{tc:TT}{te:TE}(hc:X.calm=true)(S:CompScope X scope own cap)(hi:PI X tg iter wi)
  (hin:∀C s₀ H₀ fp pn,PG (cxc X scope C (own++cap.map (·.1)) s₀ H₀ fp pn) tg g/\PIfs (cxc X scope C (own++cap.map (·.1)) s₀ H₀ fp pn) ifs tc/\PE (cxc X scope C (own++cap.map (·.1)) s₀ H₀ fp pn) elt te)
  (hs:∀x,foldedSetIterable iter X.env x=pure x:=by intro _;rfl) :
  PE X (.ListComp elt [⟨tg,iter,ifs,0⟩] scope pos) (tComp wi own cap g tc te):=by
 intro pins s σ H Q I h
 rw[eval_ListComp]
 have hfr:∀y∈scope.names,y.2=.free->∃c,X.env.cells.lookup y.1=some c:=λy hy hk=>I.ok.has y.1 (S.frees y hy hk)
 refine wpAny_comprehension_free (use:=none) rfl hs (Yz hfr) S.kind S.names (thn (hi pins s σ H _ I h) λxv s₁ h₁=>thn h₁ λit s₂ h₂=>?_)
 obtain⟨it,fp,tn,J,H2,rfl,I2,T,st2,f2,W,⟨m0,w0⟩,turn⟩:=h₂
 refine wpAny_newObj_type (wpAny_newFunctionEnv S.nocell (by intro y hy;simp at hy) (λh₁ hns₁ hsb₁=>?_) S.kind)
 dsimp only at hns₁ hsb₁ ⊢
 generalize hH3:s₂.heap.push { cls:=.type "list",dict:=none,data:=.seq ([]:List Value).toArray }=h3 at hns₁ hsb₁ ⊢
 have hC:h3.objs.size=s₂.heap.objs.size+1:=by rw[<-hH3,Heap.size_push]
 have flt:∀b∈fp,b < s₂.heap.objs.size:=λb hb=>let ⟨o,e,_⟩:=T.obj _ _ st2 b hb;Heap.lt_size e
 have old:∀b o,s₂.heap.get? b=some o->h₁.get? b=some o:=λb o e=>hsb₁.extBut b o (by rw[hC];exact Nat.ne_of_lt (Nat.lt_succ_of_lt (Heap.lt_size e))) (Heap.get?_push_of_some _ (hH3 ▸ Heap.get?_push_of_some _ e))
 have hDC:s₂.heap.objs.size≠h3.objs.size:=by rw[hC];exact Nat.ne_of_lt (Nat.lt_succ_self _)
 have hacc:h₁.get? s₂.heap.objs.size=some { cls:=.type "list",data:=.seq ([]:List Value).toArray }:=hsb₁.extBut _ _ hDC (Heap.get?_push_of_some _ (hH3 ▸ Heap.get?_push_size _ rfl))
 generalize hD:s₂.heap.objs.size=D at hacc hDC
 have hCle:s₂.heap.objs.size<=h3.objs.size:=by rw[hC];exact Nat.le_succ _
 generalize hCC:h3.objs.size=C at *
 have ok:(cxc X scope C (own++cap.map (·.1)) s₂ H2 fp (X.pn++pins)).Ok:=WZ S I2 hCle f2 flt
 have sub:∀x c,(clGo X.env.cells scope.names []).lookup x=some c->X.env.cells.lookup x=some c:=λx c=>j9 _ _ x c hfr (λx c e=>by simp at e)
 obtain⟨hG,hT,hE⟩:=hin C s₂ H2 fp (X.pn++pins)
 have fl:∀ {α:Type} {t:Sem α} {Q:α->Shared->Prop} {E:Value->Shared->Prop} {s:Shared},wpAny (model X.prog X.w) X.A t Q (λ_ _=>False) s->wpAny (model X.prog X.w) X.A t Q E s:=λh=>wpAny_mono h (λ_ _ q=>q) λ_ _ f=>f.elim
 have dn:D∉frs X.stack:=λz=>by
  rcases List.mem_cons.mp (I2.stkSub D z) with q | q
  ·exact absurd I2.lt (by rw[<-q,hD];exact Nat.lt_irrefl _)
  ·exact I2.nofs (Nat.le_of_eq hD) q
 have pnl:∀p∈X.pn++pins,p.1 < s₂.heap.objs.size:=λp hp=>Heap.lt_size (I2.pin p hp).1
 have celt:∀x c,(clGo X.env.cells scope.names []).lookup x=some c->c < s₂.heap.objs.size:=λx c e=>let ⟨v,q⟩:=I2.cell x c (sub x c e);q.lt
 have hDle:s₂.heap.objs.size<=D:=Nat.le_of_eq hD
 have I0:Inv (cxc X scope C (own++cap.map (·.1)) s₂ H2 fp (X.pn++pins)) [(D,{ cls:=.type "list",data:=.seq ([]:List Value).toArray })] (List.replicate own.length none++cap.map λp=>(σ[p.2]?).getD none) H2 { s₂ with heap:=h₁,toks:=s₂.toks+([]:List (Str×Value)).length }:=by
  refine⟨ok,rfl,I2.bare,Un.kept old,⟨_,hns₁,λi x v e1 e2 e3=>?_⟩,λx c e=>?_,I2.hok.fresh hCle,λx c e=>I2.freeC x c (sub x c e),λp hp=>?_,I2.hok.kept old,?_⟩
  ·by_cases hi:i < own.length
   ·rw[List.getElem?_append_left (by simpa using hi),List.getElem?_replicate] at e2
    rw[if_pos hi] at e2
    cases e2
   ·have e1:(own++cap.map (·.1))[i]?=some x:=e1
    rw[List.getElem?_append_right (by omega),List.getElem?_map] at e1
    rw[List.getElem?_append_right (by simpa using hi),List.length_replicate,List.getElem?_map] at e2
    cases q:cap[i - own.length]? with
    |none=>rw[q] at e1;cases e1
    |some p=>
     rw[q] at e1 e2
     have e1:p.1=x:=Option.some.inj e1
     have e2:(σ[p.2]?).getD none=some v:=Option.some.inj e2
     obtain⟨c1,c2⟩:=S.caps p (List.mem_of_getElem? q)
     have e2':σ[p.2]?=some (some v):=by
      cases q2:σ[p.2]? with
      |none=>rw[q2] at e2;cases e2
      |some w=>rw[q2] at e2;rw[show w=some v from e2]
     have hk:=S.frees (p.1,.free) (vY c1) rfl
     obtain⟨m,hn,hl⟩:=I2.loc
     obtain⟨u,ru,lk⟩:=hl p.2 p.1 v c2 e2' (.inr hk)
     refine⟨u,ru,.inr ?_⟩
     rcases lk with⟨k1,_⟩ | ⟨_,c,ec,hcell⟩
     ·rcases hk with z | z
      ·rw[k1] at z;cases z
      ·rw[k1] at z;cases z
     ·subst e1
      refine⟨uP (env:=X.env) c1,?_⟩
      obtain⟨c',ec'⟩:=Option.isSome_iff_exists.mp (jr (cells:=X.env.cells) scope.names [] p.1 (vY c1))
      have z:=sub _ _ ec'
      rw[ec] at z;cases z
      obtain⟨o,ho,hd⟩:=hcell
      exact⟨c,ec',o,old c o ho,hd⟩
  ·obtain⟨v,o,ho,hd⟩:=I2.cell x c (sub x c e)
   exact⟨v,o,old c o ho,hd⟩
  ·rcases List.mem_append.mp (show p∈(X.pn++pins)++[(D,_)] from hp) with hp | hp
   ·obtain⟨q1,q2,q3,q4,q5⟩:=I2.pin p hp
    refine⟨old _ _ q1,q2,Nat.ne_of_lt (Nat.lt_of_lt_of_le (Heap.lt_size q1) hCle),λz=>?_,q5⟩
    rcases List.mem_cons.mp (I2.stkSub p.1 z) with q | q
    ·exact q3 q
    ·exact q4 q
   ·rw[List.mem_singleton.mp hp]
    exact⟨hacc,I2.hok.fresh hDle,hDC,dn,λv z=>by cases z⟩
  ·show (List.replicate own.length none++cap.map _).length=(own++cap.map _).length
   simp
 have stat:∀ {H':Hp} {pl:List (Addr×Obj)},(∀p∈pl,p.1=D∨p.1∈fp->p.1=D)->(∀b∈fp,H' b=none)->∀b∈fp,FpOk (cxc X scope C (own++cap.map (·.1)) s₂ H2 fp (X.pn++pins)) pl H' b:=by
  intro H' pl hpl hn b hb
  refine⟨hn b hb,Nat.ne_of_lt (Nat.lt_of_lt_of_le (flt b hb) hCle),λz=>?_,.inl hb,λx c e=>(f2 b hb).2.2.2.2.1 x c (sub x c e),λp hp=>?_⟩
  ·rcases List.mem_cons.mp (I2.stkSub b z) with q | q
   ·exact (f2 b hb).2.1 q
   ·exact (f2 b hb).2.2.1 q
  ·rcases List.mem_append.mp (show p∈(X.pn++pins)++pl from hp) with hp | hp
   ·exact (f2 b hb).2.2.2.2.2 p hp
   ·intro z
    have:=hpl p hp (.inr (z ▸ hb))
    rw[z] at this
    exact absurd (flt b hb) (by rw[this,hD];exact Nat.lt_irrefl _)
 have loop:∀s₃:Shared,s₃={ s₂ with heap:=h₁,toks:=s₂.toks+([]:List (Str×Value)).length } ->
   codeAny (model X.prog X.w) X.A (.compLoop (.ListComp elt [⟨tg,iter,ifs,0⟩] scope pos) 0 (.ref it) (.ref D) (compEnvC scope (clGo X.env.cells scope.names []) C X.env)) (compPost (model X.prog X.w) X.A X.xe none (EP X pins σ Q) (.ref D) C) s₃:=by
  rintro s₃ rfl
  refine Z9 (λn s'=>∃i ys its k σ1 H',Inv (cxc X scope C (own++cap.map (·.1)) s₂ H2 fp (X.pn++pins)) [(D,{ cls:=.type "list",data:=.seq (List.toArray its) k })] (σ1++cap.map λp=>(σ[p.2]?).getD none) H' s'/\σ1.length=own.length/\Vals ys its/\tn i s'.heap/\(∀b∈fp,H' b=none)/\W i n ys H') ?_ m0
   ⟨0,[],[],0,_,H2,I0,by simp,.nil,T.keep _ _ _ st2 λb hb o e=>old b o e,λb hb=>(f2 b hb).1,w0⟩
  rintro n s' ⟨i,ys,its,k,σ1,H',J1,hσ,rv,st1,fr1,w1⟩
  obtain⟨hsz,⟨stop,qn⟩ | ⟨go,N,hN,step⟩⟩:=turn i n ys H' w1
  ·refine thn (T.done (cxc X scope C (own++cap.map (·.1)) s₂ H2 fp (X.pn++pins)) rfl rfl rfl hc i _ s' _ H' (λ_ _=>False) J1 (stat (by intro p hp _;rw[List.mem_singleton.mp hp]) fr1) st1 stop) λr s4 ⟨hr,I4⟩=>?_
   subst hr
   obtain⟨m4,hn4,_⟩:=I4.loc
   refine⟨m4,hn4,λh' sb=>?_⟩
   obtain⟨pD1,pD2,pD3,pD4,pD5⟩:=I4.pin (D,_) (List.mem_append_right _ List.mem_cons_self)
   have u:=Zn (o:=.lst ys) I4.base hDle hCle sb pD2
   refine⟨.ref D,upd H' D (.lst ys),I2.call' (s':={ s4 with heap:=h' }) (ch:=fp) I4.os u ?_ I4.bare λb hb=>?_,rfl,qn D pD2⟩
   ·intro b ob e
    by_cases hb:b=D
    ·subst hb
     rw[zk] at e;cases e
     exact⟨hsz,its,k,rv,(sb.2 _ pD3).trans pD1⟩
    ·rw[zg hb] at e
     refine (I4.hok b ob e).stay (λc v hc' q=>(sb.2 c ?_).trans q) (λc q=>by rw[zg (zu q pD2)];exact q) λc xs q=>by rw[zg (zu q pD2)];exact q
     have hCn:H' C=none:=I4.free
     rcases hc' with z | z
     ·rw[z];exact zu e hCn
     ·exact zu z hCn
   ·obtain⟨q1,q2,q3,q4,q5,q6⟩:=f2 b hb
    exact⟨q4,q2,q5,q6⟩
  ·refine thn (T.item (cxc X scope C (own++cap.map (·.1)) s₂ H2 fp (X.pn++pins)) rfl rfl rfl hc i _ s' _ H' (λ_ _=>False) J1 (stat (by intro p hp _;rw[List.mem_singleton.mp hp]) fr1) st1 go) λr s4 ⟨u,hr,h4⟩=>?_
   subst hr
   refine thn h4 λ_ s5 ⟨x,H5,I5,r5,y5,st5,fr5⟩=>?_
   have I5':=I5.pinned (stat (by intro p hp _;rw[List.mem_singleton.mp hp]) fr5) (T.obj _ _ st5)
   refine thn (hG _ s5 _ H5 x u _ I5' r5 (step x H5 y5 σ1 hσ)) λ_ s6 ⟨σ6,H6,I6,⟨σ1',l6,e6⟩,q6⟩=>?_
   subst e6
   refine thn (hT _ s6 _ H6 _ I6 q6) λok s7 ⟨H7,I7,q7⟩=>?_
   have again:∀ {s8:Shared} {H8:Hp} {ys8:List V} {its8:List Value} {k8:Nat},Inv (cxc X scope C (own++cap.map (·.1)) s₂ H2 fp (X.pn++pins)) ([(D,{ cls:=.type "list",data:=.seq (List.toArray its8) k8 })]++pinsAt fp s5.heap) (σ1'++cap.map λp=>(σ[p.2]?).getD none) H8 s8->Vals ys8 its8->N ys8 H8 ->
     ∃m,m < n/\∃i ys its k σ1 H',Inv (cxc X scope C (own++cap.map (·.1)) s₂ H2 fp (X.pn++pins)) [(D,{ cls:=.type "list",data:=.seq (List.toArray its) k })] (σ1++cap.map λp=>(σ[p.2]?).getD none) H' s8/\σ1.length=own.length/\Vals ys its/\tn i s8.heap/\(∀b∈fp,H' b=none)/\W i m ys H':=by
    intro s8 H8 ys8 its8 k8 I8 rv8 n8
    obtain⟨m',hm,w8⟩:=hN ys8 H8 n8
    refine⟨m',hm,i+1,ys8,its8,k8,σ1',H8,I8.unpinned,l6,rv8,T.keep _ _ _ st5 λb hb o e=>(I8.pin (b,o) (List.mem_append_right _ (List.mem_append_right _ (wb hb e)))).1,λb hb=>?_,w8⟩
    obtain⟨o,e,d⟩:=T.obj _ _ st5 b hb
    exact (I8.pin (b,o) (List.mem_append_right _ (List.mem_append_right _ (wb hb e)))).2.1
   cases ok with
   |false=>exact again I7 rv q7
   |true=>
    refine thn (hE _ s7 _ H7 _ I7 q7) λy s8 ⟨v8,H8,I8,r8,q8⟩=>?_
    obtain⟨pD1,pD2,pD3,pD4,pD5⟩:=I8.pin (D,_) (List.mem_append_right _ List.mem_cons_self)
    have hsz':its.toArray.size<=sizeLine:=by rw[List.size_toArray,<-rv.length];exact hsz
    refine wpAny_list_append_plain (hsz:=hsz') (items:=its.toArray) ⟨k,pD1⟩ λh9 pl9 sb9=>?_
    obtain⟨k9,e9⟩:=pl9
    have ea:its.toArray.push y=(its++[y]).toArray:=by simp
    rw[ea] at e9
    have I8':Inv (cxc X scope C (own++cap.map (·.1)) s₂ H2 fp (X.pn++pins)) (pinsAt fp s5.heap) (σ1'++cap.map λp=>(σ[p.2]?).getD none) H8 s8:=I8.pins_of λp hp=>I8.pin p (List.mem_append_right _ (List.mem_append_right _ hp))
    have fD:FpOk (cxc X scope C (own++cap.map (·.1)) s₂ H2 fp (X.pn++pins)) (pinsAt fp s5.heap) H8 D:=by
     refine⟨pD2,pD3,pD4,.inr hDle,λx c e z=>?_,λp hp z=>?_⟩
     ·exact absurd (celt x c e) (by rw[z,hD];exact Nat.lt_irrefl _)
     ·rcases List.mem_append.mp (show p∈(X.pn++pins)++_ from hp) with hp | hp
      ·exact absurd (pnl p hp) (by rw[z,hD];exact Nat.lt_irrefl _)
      ·exact absurd (flt p.1 (kC hp).1) (by rw[z,hD];exact Nat.lt_irrefl _)
    have I9:Inv (cxc X scope C (own++cap.map (·.1)) s₂ H2 fp (X.pn++pins)) (pinsAt fp s5.heap) (σ1'++cap.map λp=>(σ[p.2]?).getD none) H8 { s8 with heap:=h9 }:=jP (t':=s8.toks) (ch:=[D]) I8' (λb o hb e=>(sb9.2 b λz=>hb (by simp[z])).trans e) λb hb=>by rw[List.mem_singleton.mp hb];exact fD
    have I10:Inv (cxc X scope C (own++cap.map (·.1)) s₂ H2 fp (X.pn++pins)) ([(D,{ cls:=.type "list",data:=.seq (its++[y]).toArray k9 })]++pinsAt fp s5.heap) (σ1'++cap.map λp=>(σ[p.2]?).getD none) H8 { s8 with heap:=h9 }:=I9.pins_of λp hp=>by
     rcases List.mem_append.mp hp with hp | hp
     ·rw[List.mem_singleton.mp hp]
      exact⟨e9,pD2,pD3,pD4,λv z=>by cases z⟩
     ·exact I9.pin p (List.mem_append_right _ hp)
    exact again (s8:={ s8 with heap:=h9 }) I10 (rv.append (.cons r8 .nil)) q8
 subst hD
 exact codeAny_compStart_list (loop _ rfl) (T.self _ 0 _ _ _ (T.keep _ _ _ st2 λb hb o e=>old b o e) (loop _ rfl))
theorem JR {X:Cx}{i:Nat}{y:Str}{py spos:Pos}{elt tg iter:Expr}{ifs:List Expr}{scope:Scope}{pos:Pos}{own:List Str}{cap:List (Str×Nat)}{wi:TI}{g:TG}{tc:TT}{te:TE}(hc:X.calm=true)(S:CompScope X scope own cap)(hi:PI X tg iter wi)
  (hin:∀C s₀ H₀ fp pn,PG (cxc X scope C (own++cap.map (·.1)) s₀ H₀ fp pn) tg g/\PIfs (cxc X scope C (own++cap.map (·.1)) s₀ H₀ fp pn) ifs tc/\PE (cxc X scope C (own++cap.map (·.1)) s₀ H₀ fp pn) elt te)
  (hN:X.N.Nodup) (hiy:X.N[i]?=some y) (hy:Loc X.env.scope y) (hsw:swapsWith (.ListComp elt [⟨tg,iter,ifs,0⟩] scope pos) (some (.Name y py)) spos.line X.env=pure true)
  (hs:∀x,foldedSetIterable iter X.env x=pure x:=by intro _;rfl) (hfn:X.fn y=true∨X.env.scope.names.lookup y=some .local:=by first | exact .inl rfl | exact .inr rfl | assumption) :
  PS X (.Assign [.Name y py] (.ListComp elt [⟨tg,iter,ifs,0⟩] scope pos) spos) (tAsg (tComp wi own cap g tc te) (gName i)):=by
 intro pins s σ H Dn I h
 rw[exec_Assign_Name_used _ _ _ _ hsw]
 refine wpAny_bind (wpAny_standAt (wpAny_bind ?_))
 show wpAny _ X.A (do let _ <-comprehension (.ListComp elt [⟨tg,iter,ifs,0⟩] scope pos) scope X.env _ (newList []) false (eval iter X.env) (some (assign (.Name y py) X.env))) _ _ s
 have hfr:∀y∈scope.names,y.2=.free->∃c,X.env.cells.lookup y.1=some c:=λy hy hk=>I.ok.has y.1 (S.frees y hy hk)
 refine wpAny_bind (wpAny_mono (wpAny_comprehension_free (use:=some (assign (.Name y py) X.env)) (Q:=λ_ s'=>SP X pins Dn .next s') rfl hs (Yz hfr) S.kind S.names (thn (hi pins s σ H _ I h) λxv s₁ h₁=>thn h₁ λit s₂ h₂=>?_)) (λ_ s' hq=>wpAny_pure (wpAny_pure hq)) λ_ _ e=>e)
 obtain⟨it,fp,tn,J,H2,rfl,I2,T,st2,f2,W,⟨m0,w0⟩,turn⟩:=h₂
 refine wpAny_newObj_type (wpAny_newFunctionEnv S.nocell (by intro y hy;simp at hy) (λh₁ hns₁ hsb₁=>?_) S.kind)
 dsimp only at hns₁ hsb₁ ⊢
 generalize hH3:s₂.heap.push { cls:=.type "list",dict:=none,data:=.seq ([]:List Value).toArray }=h3 at hns₁ hsb₁ ⊢
 have hC:h3.objs.size=s₂.heap.objs.size+1:=by rw[<-hH3,Heap.size_push]
 have flt:∀b∈fp,b < s₂.heap.objs.size:=λb hb=>let ⟨o,e,_⟩:=T.obj _ _ st2 b hb;Heap.lt_size e
 have old:∀b o,s₂.heap.get? b=some o->h₁.get? b=some o:=λb o e=>hsb₁.extBut b o (by rw[hC];exact Nat.ne_of_lt (Nat.lt_succ_of_lt (Heap.lt_size e))) (Heap.get?_push_of_some _ (hH3 ▸ Heap.get?_push_of_some _ e))
 have hDC:s₂.heap.objs.size≠h3.objs.size:=by rw[hC];exact Nat.ne_of_lt (Nat.lt_succ_self _)
 have hacc:h₁.get? s₂.heap.objs.size=some { cls:=.type "list",data:=.seq ([]:List Value).toArray }:=hsb₁.extBut _ _ hDC (Heap.get?_push_of_some _ (hH3 ▸ Heap.get?_push_size _ rfl))
 generalize hD:s₂.heap.objs.size=D at hacc hDC
 have hCle:s₂.heap.objs.size<=h3.objs.size:=by rw[hC];exact Nat.le_succ _
 generalize hCC:h3.objs.size=C at *
 have ok:(cxc X scope C (own++cap.map (·.1)) s₂ H2 fp (X.pn++pins)).Ok:=WZ S I2 hCle f2 flt
 have sub:∀x c,(clGo X.env.cells scope.names []).lookup x=some c->X.env.cells.lookup x=some c:=λx c=>j9 _ _ x c hfr (λx c e=>by simp at e)
 obtain⟨hG,hT,hE⟩:=hin C s₂ H2 fp (X.pn++pins)
 have fl:∀ {α:Type} {t:Sem α} {Q:α->Shared->Prop} {E:Value->Shared->Prop} {s:Shared},wpAny (model X.prog X.w) X.A t Q (λ_ _=>False) s->wpAny (model X.prog X.w) X.A t Q E s:=λh=>wpAny_mono h (λ_ _ q=>q) λ_ _ f=>f.elim
 have dn:D∉frs X.stack:=λz=>by
  rcases List.mem_cons.mp (I2.stkSub D z) with q | q
  ·exact absurd I2.lt (by rw[<-q,hD];exact Nat.lt_irrefl _)
  ·exact I2.nofs (Nat.le_of_eq hD) q
 have pnl:∀p∈X.pn++pins,p.1 < s₂.heap.objs.size:=λp hp=>Heap.lt_size (I2.pin p hp).1
 have celt:∀x c,(clGo X.env.cells scope.names []).lookup x=some c->c < s₂.heap.objs.size:=λx c e=>let ⟨v,q⟩:=I2.cell x c (sub x c e);q.lt
 have hDle:s₂.heap.objs.size<=D:=Nat.le_of_eq hD
 have I0:Inv (cxc X scope C (own++cap.map (·.1)) s₂ H2 fp (X.pn++pins)) [(D,{ cls:=.type "list",data:=.seq ([]:List Value).toArray })] (List.replicate own.length none++cap.map λp=>(σ[p.2]?).getD none) H2 { s₂ with heap:=h₁,toks:=s₂.toks+([]:List (Str×Value)).length }:=by
  refine⟨ok,rfl,I2.bare,Un.kept old,⟨_,hns₁,λi x v e1 e2 e3=>?_⟩,λx c e=>?_,I2.hok.fresh hCle,λx c e=>I2.freeC x c (sub x c e),λp hp=>?_,I2.hok.kept old,?_⟩
  ·by_cases hi:i < own.length
   ·rw[List.getElem?_append_left (by simpa using hi),List.getElem?_replicate] at e2
    rw[if_pos hi] at e2
    cases e2
   ·have e1:(own++cap.map (·.1))[i]?=some x:=e1
    rw[List.getElem?_append_right (by omega),List.getElem?_map] at e1
    rw[List.getElem?_append_right (by simpa using hi),List.length_replicate,List.getElem?_map] at e2
    cases q:cap[i - own.length]? with
    |none=>rw[q] at e1;cases e1
    |some p=>
     rw[q] at e1 e2
     have e1:p.1=x:=Option.some.inj e1
     have e2:(σ[p.2]?).getD none=some v:=Option.some.inj e2
     obtain⟨c1,c2⟩:=S.caps p (List.mem_of_getElem? q)
     have e2':σ[p.2]?=some (some v):=by
      cases q2:σ[p.2]? with
      |none=>rw[q2] at e2;cases e2
      |some w=>rw[q2] at e2;rw[show w=some v from e2]
     have hk:=S.frees (p.1,.free) (vY c1) rfl
     obtain⟨m,hn,hl⟩:=I2.loc
     obtain⟨u,ru,lk⟩:=hl p.2 p.1 v c2 e2' (.inr hk)
     refine⟨u,ru,.inr ?_⟩
     rcases lk with⟨k1,_⟩ | ⟨_,c,ec,hcell⟩
     ·rcases hk with z | z
      ·rw[k1] at z;cases z
      ·rw[k1] at z;cases z
     ·subst e1
      refine⟨uP (env:=X.env) c1,?_⟩
      obtain⟨c',ec'⟩:=Option.isSome_iff_exists.mp (jr (cells:=X.env.cells) scope.names [] p.1 (vY c1))
      have z:=sub _ _ ec'
      rw[ec] at z;cases z
      obtain⟨o,ho,hd⟩:=hcell
      exact⟨c,ec',o,old c o ho,hd⟩
  ·obtain⟨v,o,ho,hd⟩:=I2.cell x c (sub x c e)
   exact⟨v,o,old c o ho,hd⟩
  ·rcases List.mem_append.mp (show p∈(X.pn++pins)++[(D,_)] from hp) with hp | hp
   ·obtain⟨q1,q2,q3,q4,q5⟩:=I2.pin p hp
    refine⟨old _ _ q1,q2,Nat.ne_of_lt (Nat.lt_of_lt_of_le (Heap.lt_size q1) hCle),λz=>?_,q5⟩
    rcases List.mem_cons.mp (I2.stkSub p.1 z) with q | q
    ·exact q3 q
    ·exact q4 q
   ·rw[List.mem_singleton.mp hp]
    exact⟨hacc,I2.hok.fresh hDle,hDC,dn,λv z=>by cases z⟩
  ·show (List.replicate own.length none++cap.map _).length=(own++cap.map _).length
   simp
 have stat:∀ {H':Hp} {pl:List (Addr×Obj)},(∀p∈pl,p.1=D∨p.1∈fp->p.1=D)->(∀b∈fp,H' b=none)->∀b∈fp,FpOk (cxc X scope C (own++cap.map (·.1)) s₂ H2 fp (X.pn++pins)) pl H' b:=by
  intro H' pl hpl hn b hb
  refine⟨hn b hb,Nat.ne_of_lt (Nat.lt_of_lt_of_le (flt b hb) hCle),λz=>?_,.inl hb,λx c e=>(f2 b hb).2.2.2.2.1 x c (sub x c e),λp hp=>?_⟩
  ·rcases List.mem_cons.mp (I2.stkSub b z) with q | q
   ·exact (f2 b hb).2.1 q
   ·exact (f2 b hb).2.2.1 q
  ·rcases List.mem_append.mp (show p∈(X.pn++pins)++pl from hp) with hp | hp
   ·exact (f2 b hb).2.2.2.2.2 p hp
   ·intro z
    have:=hpl p hp (.inr (z ▸ hb))
    rw[z] at this
    exact absurd (flt b hb) (by rw[this,hD];exact Nat.lt_irrefl _)
 have loop:∀s₃:Shared,s₃={ s₂ with heap:=h₁,toks:=s₂.toks+([]:List (Str×Value)).length } ->
   codeAny (model X.prog X.w) X.A (.compLoop (.ListComp elt [⟨tg,iter,ifs,0⟩] scope pos) 0 (.ref it) (.ref D) (compEnvC scope (clGo X.env.cells scope.names []) C X.env)) (compPost (model X.prog X.w) X.A X.xe (some (assign (.Name y py) X.env)) (λ_ s'=>SP X pins Dn .next s') (.ref D) C) s₃:=by
  rintro s₃ rfl
  refine Z9 (λn s'=>∃i ys its k σ1 H',Inv (cxc X scope C (own++cap.map (·.1)) s₂ H2 fp (X.pn++pins)) [(D,{ cls:=.type "list",data:=.seq (List.toArray its) k })] (σ1++cap.map λp=>(σ[p.2]?).getD none) H' s'/\σ1.length=own.length/\Vals ys its/\tn i s'.heap/\(∀b∈fp,H' b=none)/\W i n ys H') ?_ m0
   ⟨0,[],[],0,_,H2,I0,by simp,.nil,T.keep _ _ _ st2 λb hb o e=>old b o e,λb hb=>(f2 b hb).1,w0⟩
  rintro n s' ⟨i,ys,its,k,σ1,H',J1,hσ,rv,st1,fr1,w1⟩
  obtain⟨hsz,⟨stop,qn⟩ | ⟨go,N,hN,step⟩⟩:=turn i n ys H' w1
  ·refine thn (T.done (cxc X scope C (own++cap.map (·.1)) s₂ H2 fp (X.pn++pins)) rfl rfl rfl hc i _ s' _ H' (λ_ _=>False) J1 (stat (by intro p hp _;rw[List.mem_singleton.mp hp]) fr1) st1 stop) λr s4 ⟨hr,I4⟩=>?_
   subst hr
   obtain⟨m4,hn4,_⟩:=I4.loc
   obtain⟨pD1,pD2,pD3,pD4,pD5⟩:=I4.pin (D,_) (List.mem_append_right _ List.mem_cons_self)
   have u:=Zn (o:=.lst ys) I4.base hDle hCle (show Heap.SameBut C s4.heap s4.heap from⟨rfl,λ_ _=>rfl⟩) pD2
   have hCn:H' C=none:=I4.free
   have I5:Inv X pins σ (upd H' D (.lst ys)) s4:=by
    refine I2.call' (s':=s4) (ch:=fp) I4.os u ?_ I4.bare λb hb=>?_
    ·intro b ob e
     by_cases hb:b=D
     ·subst hb
      rw[zk] at e;cases e
      exact⟨hsz,its,k,rv,pD1⟩
     ·rw[zg hb] at e
      exact (I4.hok b ob e).stay (λc v hc' q=>q) (λc q=>by rw[zg (zu q pD2)];exact q) λc xs q=>by rw[zg (zu q pD2)];exact q
    ·obtain⟨q1,q2,q3,q4,q5,q6⟩:=f2 b hb
     exact⟨q4,q2,q5,q6⟩
   show wpAny _ X.A (assign (.Name y py) X.env (.ref D)) _ _ _
   refine wpAny_assign_Name (ua I5 hN hiy hy (v:=.ref D) rfl (λs5 I6 ⟨a5,sb5,ha5⟩=>?_) hfn)
   have hCa:C≠a5:=by
    rcases ha5 with z | z
    ·rw[z];exact Nat.ne_of_gt (Nat.lt_of_lt_of_le I2.lt hCle)
    ·intro e
     obtain⟨v,q⟩:=I2.cell _ _ z
     exact absurd (Nat.lt_of_lt_of_le q.lt (by rw[<-e];exact hCle)) (Nat.lt_irrefl _)
   refine⟨m4,hn4.sameBut sb5 hCa,λh3 sb3=>?_⟩
   have hC0:(upd H' D (.lst ys)) C=none:=by rw[zg (Ne.symm hDC)];exact hCn
   exact⟨_,_,jP (t':=s5.toks) (ch:=[C]) I6 (λb o hb q=>(sb3.2 b (λz=>hb (by simp[z]))).trans q) (λb hb=>by rw[List.mem_singleton.mp hb];exact I2.fpOk hCle hC0),qn D pD2⟩
  ·refine thn (T.item (cxc X scope C (own++cap.map (·.1)) s₂ H2 fp (X.pn++pins)) rfl rfl rfl hc i _ s' _ H' (λ_ _=>False) J1 (stat (by intro p hp _;rw[List.mem_singleton.mp hp]) fr1) st1 go) λr s4 ⟨u,hr,h4⟩=>?_
   subst hr
   refine thn h4 λ_ s5 ⟨x,H5,I5,r5,y5,st5,fr5⟩=>?_
   have I5':=I5.pinned (stat (by intro p hp _;rw[List.mem_singleton.mp hp]) fr5) (T.obj _ _ st5)
   refine thn (hG _ s5 _ H5 x u _ I5' r5 (step x H5 y5 σ1 hσ)) λ_ s6 ⟨σ6,H6,I6,⟨σ1',l6,e6⟩,q6⟩=>?_
   subst e6
   refine thn (hT _ s6 _ H6 _ I6 q6) λok s7 ⟨H7,I7,q7⟩=>?_
   have again:∀ {s8:Shared} {H8:Hp} {ys8:List V} {its8:List Value} {k8:Nat},Inv (cxc X scope C (own++cap.map (·.1)) s₂ H2 fp (X.pn++pins)) ([(D,{ cls:=.type "list",data:=.seq (List.toArray its8) k8 })]++pinsAt fp s5.heap) (σ1'++cap.map λp=>(σ[p.2]?).getD none) H8 s8->Vals ys8 its8->N ys8 H8 ->
     ∃m,m < n/\∃i ys its k σ1 H',Inv (cxc X scope C (own++cap.map (·.1)) s₂ H2 fp (X.pn++pins)) [(D,{ cls:=.type "list",data:=.seq (List.toArray its) k })] (σ1++cap.map λp=>(σ[p.2]?).getD none) H' s8/\σ1.length=own.length/\Vals ys its/\tn i s8.heap/\(∀b∈fp,H' b=none)/\W i m ys H':=by
    intro s8 H8 ys8 its8 k8 I8 rv8 n8
    obtain⟨m',hm,w8⟩:=hN ys8 H8 n8
    refine⟨m',hm,i+1,ys8,its8,k8,σ1',H8,I8.unpinned,l6,rv8,T.keep _ _ _ st5 λb hb o e=>(I8.pin (b,o) (List.mem_append_right _ (List.mem_append_right _ (wb hb e)))).1,λb hb=>?_,w8⟩
    obtain⟨o,e,d⟩:=T.obj _ _ st5 b hb
    exact (I8.pin (b,o) (List.mem_append_right _ (List.mem_append_right _ (wb hb e)))).2.1
   cases ok with
   |false=>exact again I7 rv q7
   |true=>
    refine thn (hE _ s7 _ H7 _ I7 q7) λy s8 ⟨v8,H8,I8,r8,q8⟩=>?_
    obtain⟨pD1,pD2,pD3,pD4,pD5⟩:=I8.pin (D,_) (List.mem_append_right _ List.mem_cons_self)
    have hsz':its.toArray.size<=sizeLine:=by rw[List.size_toArray,<-rv.length];exact hsz
    refine wpAny_list_append_plain (hsz:=hsz') (items:=its.toArray) ⟨k,pD1⟩ λh9 pl9 sb9=>?_
    obtain⟨k9,e9⟩:=pl9
    have ea:its.toArray.push y=(its++[y]).toArray:=by simp
    rw[ea] at e9
    have I8':Inv (cxc X scope C (own++cap.map (·.1)) s₂ H2 fp (X.pn++pins)) (pinsAt fp s5.heap) (σ1'++cap.map λp=>(σ[p.2]?).getD none) H8 s8:=I8.pins_of λp hp=>I8.pin p (List.mem_append_right _ (List.mem_append_right _ hp))
    have fD:FpOk (cxc X scope C (own++cap.map (·.1)) s₂ H2 fp (X.pn++pins)) (pinsAt fp s5.heap) H8 D:=by
     refine⟨pD2,pD3,pD4,.inr hDle,λx c e z=>?_,λp hp z=>?_⟩
     ·exact absurd (celt x c e) (by rw[z,hD];exact Nat.lt_irrefl _)
     ·rcases List.mem_append.mp (show p∈(X.pn++pins)++_ from hp) with hp | hp
      ·exact absurd (pnl p hp) (by rw[z,hD];exact Nat.lt_irrefl _)
      ·exact absurd (flt p.1 (kC hp).1) (by rw[z,hD];exact Nat.lt_irrefl _)
    have I9:Inv (cxc X scope C (own++cap.map (·.1)) s₂ H2 fp (X.pn++pins)) (pinsAt fp s5.heap) (σ1'++cap.map λp=>(σ[p.2]?).getD none) H8 { s8 with heap:=h9 }:=jP (t':=s8.toks) (ch:=[D]) I8' (λb o hb e=>(sb9.2 b λz=>hb (by simp[z])).trans e) λb hb=>by rw[List.mem_singleton.mp hb];exact fD
    have I10:Inv (cxc X scope C (own++cap.map (·.1)) s₂ H2 fp (X.pn++pins)) ([(D,{ cls:=.type "list",data:=.seq (its++[y]).toArray k9 })]++pinsAt fp s5.heap) (σ1'++cap.map λp=>(σ[p.2]?).getD none) H8 { s8 with heap:=h9 }:=I9.pins_of λp hp=>by
     rcases List.mem_append.mp hp with hp | hp
     ·rw[List.mem_singleton.mp hp]
      exact⟨e9,pD2,pD3,pD4,λv z=>by cases z⟩
     ·exact I9.pin p (List.mem_append_right _ hp)
    exact again (s8:={ s8 with heap:=h9 }) I10 (rv.append (.cons r8 .nil)) q8
 subst hD
 exact codeAny_compStart_list (loop _ rfl) (T.self _ 0 _ _ _ (T.keep _ _ _ st2 λb hb o e=>old b o e) (loop _ rfl))
end L3
namespace L2
open PySem PySem.Spec PyProof.Rows
section
variable {κ:Type} [DecidableEq κ]
def valV (kvs:List (κ×V))(k:κ):Option V:=(kvs.find? λkv=>decide (kv.1=k)).map (·.2)
def putK (kvs:List (κ×V))(k:κ)(v:V):List (κ×V) :=
 if (kvs.any λkv=>decide (kv.1=k))=true then kvs.map (λkv=>if kv.1=k then (kv.1,v) else kv) else kvs++[(k,v)]
theorem kR {p:κ×V}{r:List (κ×V)}{k:κ}(e:p.1=k):valV (p::r) k=some p.2:=by simp[valV,List.find?_cons,e]
theorem kz {p:κ×V}{r:List (κ×V)}{k:κ}(e:¬p.1=k):valV (p::r) k=valV r k:=by simp[valV,List.find?_cons,e]
theorem U6 (kvs:List (κ×V))(k:κ)(v:V):(putK kvs k v).length<=kvs.length+1:=by
 unfold putK
 split
 ·rw[List.length_map];omega
 ·rw[List.length_append,List.length_cons,List.length_nil];omega
theorem RelO.isSome_eq {o:Option V}{u:Option Value}(r:RelO o u):o.isSome=u.isSome:=by
 cases o with
 |none=>cases u with
  |none=>rfl
  |some _=>exact (show False from r).elim
 |some _=>cases u with
  |none=>exact (show False from r).elim
  |some _=>rfl
theorem KV.val {kvs:List (κ×V)}{vs:List (κ×Value)}(r:KV kvs vs)(k:κ):RelO (valV kvs k) (valueAt vs k):=by
 unfold KV at r
 induction r with
 |nil=>exact True.intro
 | @cons p q ps qs h t ih=>
  obtain⟨h1,h2⟩:=h
  by_cases e:p.1=k
  ·have e':q.1=k:=h1.symm.trans e
   have b:valueAt (q::qs) k=some q.2:=by simp[valueAt,List.find?_cons,e']
   rw[kR e,b];exact h2
  ·have e':¬q.1=k:=λz=>e (h1.trans z)
   have b:valueAt (q::qs) k=valueAt qs k:=by simp[valueAt,List.find?_cons,e']
   rw[kz e,b];exact ih
theorem KV.any {kvs:List (κ×V)}{vs:List (κ×Value)}(r:KV kvs vs)(k:κ):(kvs.any λkv=>decide (kv.1=k))=vs.any λkv=>decide (kv.1=k):=by
 unfold KV at r
 induction r with
 |nil=>rfl
 |cons h t ih=>rw[List.any_cons,List.any_cons,ih,h.1]
theorem KV.repl {kvs:List (κ×V)}{vs:List (κ×Value)}(r:KV kvs vs)(k:κ){y:V}{u:Value}(ry:RelV y u) :
  KV (kvs.map λkv=>if kv.1=k then (kv.1,y) else kv) (vs.map λkv=>if kv.1=k then (kv.1,u) else kv):=by
 unfold KV at r ⊢
 induction r with
 |nil=>exact .nil
 | @cons p q ps qs h t ih=>
  rw[List.map_cons,List.map_cons]
  refine .cons ?_ ih
  obtain⟨h1,h2⟩:=h
  by_cases e:p.1=k
  ·rw[if_pos e,if_pos (h1.symm.trans e)];exact⟨h1,ry⟩
  ·rw[if_neg e,if_neg (λz=>e (h1.trans z))];exact⟨h1,h2⟩
theorem KV.put {kvs:List (κ×V)}{vs:List (κ×Value)}(r:KV kvs vs)(k:κ){y:V}{u:Value}(ry:RelV y u):KV (putK kvs k y) (stored vs k u):=by
 unfold putK stored
 rw[r.any k]
 by_cases e:(vs.any λkv=>decide (kv.1=k))=true
 ·rw[if_pos e,if_pos e];exact r.repl k ry
 ·rw[if_neg e,if_neg e];exact Paired.snoc r ⟨rfl,ry⟩
theorem KV.length {kvs:List (κ×V)}{vs:List (κ×Value)}(r:KV kvs vs):kvs.length=vs.length:=Paired.length r
end
theorem ux {P:Program}{w:World}{k:Key}{u:Value}(r:RelV (kV k) u):(zR P w).is k u=true:=by
 cases k with
 |inl i=>obtain⟨t,e⟩:=(show ∃t,u=Value.int i t from r);subst e;exact UL P w i t
 |inr x=>obtain⟨t,e⟩:=(show ∃t,u=Value.str x t from r);subst e;exact KI P w x t
section
variable {P:Program}{w:World}{H:Hp}{h:Heap}{a:Addr}
end
section
variable {X:Cx}{pins:List (Addr×Obj)}{σ:St}{H:Hp}{s:Shared}{a:Addr}{y v:V}{u r:Value}{o:Option V}{A:Around}{E:Value->Shared->Prop}
theorem Inv.big (I:Inv X pins σ H s):sysModules < s.heap.objs.size:=by
 have h:mainGlobals < s.heap.objs.size:=(I.mod.glob.keeps I.bk).lt
 exact Nat.lt_trans (by decide) h
theorem Yn {h':Heap}{t':Nat}{ob:HO}(I:Inv X pins σ H s)(mu:Mut (H a))(hs:Heap.SameBut a s.heap h')(he:∃q,h'.get? a=some q)(new:ObjOk X.prog X.w (upd H a ob) h' a ob) :
  Inv X pins σ (upd H a ob) { s with heap:=h',toks:=t' } :=
 I.write (x:=a) (e:=a) mu (.inl rfl) (λb q hb z=>(hs.2 b hb).trans z) he new
end
section
variable {X:Cx}{pins:List (Addr×Obj)}{σ:St}{H:Hp}{s:Shared}{a:Addr}{kvs:List (Key×V)}{k:Key}{u:Value}{A:Around}{E:Value->Shared->Prop}
end
def NoSl (i:Expr):Prop:=∀ov iv,subscripted i false ov iv=operate [ov,iv] (getItem ov iv)
theorem Jy {prog:Program}{w:World}{A:Around}{E:Value->Shared->Prop}{s:Shared}{env:Env}{value slice:Expr}{pos:Pos}{T id:String}{Q:Value->Shared->Prop}
  (hl:typeLookup (.type T) "__getitem__" = pure (some (.builtin id))) (hs:NoSl slice)
  (h:wpAny (model prog w) A (eval value env) (λo s₁=>wpAny (model prog w) A (eval slice env) (λi s₂=>s₂.TypeIs o T/\wpAny (model prog w) A (getItem o i) Q E s₂) E s₁) E s) :
  wpAny (model prog w) A (eval (.Subscript value slice pos) env) Q E s:=by
 refine Subscript_ (wpAny_mono h (λo s₁ h₁=>wpAny_mono h₁ (λi s₂ h₂=>?_) λ_ _ x=>x) λ_ _ x=>x)
 obtain⟨hT,h₂⟩:=h₂
 unfold subscriptTail
 refine wpAny_bind ?_
 rw[getitemInPython_of_ne hT.not_modules]
 refine wpAny_bind (wpAny_specialOf hT hl ?_)
 have fin:wpAny (model prog w) A (subscripted slice false o i) (λr s₃=>wpAny (model prog w) A (letTemporaryGo value o r >>= λ_=>pure r) Q E s₃) E s₂:=by
  rw[hs o i]
  exact wpAny_operating (wpAny_mono h₂ (λr s₃ h₃=>wpAny_bind (wpAny_letTemporaryGo (wpAny_pure h₃))) λ_ _ x=>x)
 first
  |exact wpAny_pure (wpAny_bind fin)
  |exact wpAny_bind (wpAny_pure (wpAny_bind fin))
  |exact wpAny_bind fin
section
variable {X:Cx}{o i e value:Expr}{pos pos' tpos:Pos}{td ty tv:TE}
end
section
variable {X:Cx}{pos:Pos}
end
structure M1 (X:Cx)(o:Expr)(m:Str)(apos:Pos)(e:Expr)(cpos:Pos):Prop where
 base:attributeBase o m X.env (eval o X.env)=eval o X.env
 few:((backTo cpos (starEach [e] X.env)).all (λx=>!x.1)&&(backToKw cpos (keywordEach [] X.env)).all (λx=>x.1.isSome)
  && decide (([e]:List Expr).length+([]:List Keyword).length+(if ([]:List Keyword).isEmpty then 0 else 1) < 30))=true
 line:(apos.endLine==cpos.line)=true
 trees:backTo cpos (starEach [e] X.env)=[(false,eval e X.env)]
structure M2 (X:Cx)(o:Expr)(m:Str)(apos:Pos)(e f:Expr)(cpos:Pos):Prop where
 base:attributeBase o m X.env (eval o X.env)=eval o X.env
 few:((backTo cpos (starEach [e,f] X.env)).all (λx=>!x.1)&&(backToKw cpos (keywordEach [] X.env)).all (λx=>x.1.isSome)
  && decide (([e,f]:List Expr).length+([]:List Keyword).length+(if ([]:List Keyword).isEmpty then 0 else 1) < 30))=true
 line:(apos.endLine==cpos.line)=true
 trees:backTo cpos (starEach [e,f] X.env)=[(false,eval e X.env),(false,eval f X.env)]
section
variable {X:Cx}{pins:List (Addr×Obj)}{σ:St}{H:Hp}{s:Shared}{a:Addr}{y d:V}{u r:Value}{o:Option V}{A:Around}{E:Value->Shared->Prop}
end
section
variable {X:Cx}{o e f:Expr}{apos cpos:Pos}{td ty tx:TE}
end
section
variable {X:Cx}{pins:List (Addr×Obj)}{σ:St}{H:Hp}{s:Shared}{a:Addr}{kvs:List (Key×V)}{A:Around}{E:Value->Shared->Prop}
end
section
variable {X:Cx}{pins:List (Addr×Obj)}{σ:St}{H:Hp}{s:Shared}{a:Addr}{y:V}{u:Value}{A:Around}{E:Value->Shared->Prop}
end
end L2
namespace L4
open PySem PySem.Spec L2 L3
open PyProof.Rows hiding St
def dxp (w:World)(a:Addr)(o:Obj)(kvs:List (Key×V)):Heap->Prop:=λh=>h.get? a=some o/\kvs.length<=sizeLine/\(a==sysModules)=false/\∃vs,KV kvs vs/\∀P,o.IsDictOf (zR P w) vs
def DX (w:World)(a:Addr)(o:Obj)(kvs:List (Key×V)):HO:=.ext (dxp w a o kvs)
theorem pairsP {P P':Program}{w:World}:∀ {es:List DictEntry}{vs:List (Key×Value)},Pairs (zR P w) es vs->Pairs (zR P' w) es vs:=by
 intro es vs h
 induction h with
 |nil=>exact .nil
 |cons=>first | exact .cons ‹_› ‹_› | exact .cons ‹_› ‹_› ‹_› | (constructor<;>assumption)
theorem anyP {o:Obj}{P P':Program}{w:World}{vs:List (Key×Value)}(h:o.IsDictOf (zR P w) vs):o.IsDictOf (zR P' w) vs :=
 let ⟨es,ep,h1,h2,h3,h4,h5⟩:=h;⟨es,ep,h1,h2,h3,pairsP h4,h5⟩
theorem kY {P:Program}{w:World}{h:Heap}{a:Addr}{kvs:List (Key×V)}{vs:List (Key×Value)}(z:kvs.length<=sizeLine)(hd:(a==sysModules)=false)(rel:KV kvs vs)(dd:h.DictOf (zR P w) a vs) :
  ∃o,h.get? a=some o/\∀H,ObjOk P w H h a (DX w a o kvs):=by
 obtain⟨o,ho,hi⟩:=Heap.dictOf_iff.mp dd
 exact⟨o,ho,λH=>⟨⟨ho,z,hd,vs,rel,λP=>anyP hi⟩,⟨o,ho⟩,λh1 h2 ⟨e,r⟩ k=>⟨k _ e,r⟩⟩⟩
section
variable {X:Cx}{pins:List (Addr×Obj)}{σ:St}{H:Hp}{s:Shared}{a:Addr}{ob:Obj}{kvs:List (Key×V)}{k:Key}{y v:V}{u r:Value}{A:Around}{E:Value->Shared->Prop}
theorem yC (I:Inv X pins σ H s)(e:H a=some (DX X.w a ob kvs)):s.heap.get? a=some ob/\kvs.length<=sizeLine/\(a==sysModules)=false/\∃vs,KV kvs vs/\ob.IsDictOf (zR X.prog X.w) vs/\s.heap.DictOf (zR X.prog X.w) a vs:=by
 obtain⟨⟨h1,h2,h3,vs,h4,h5⟩,_⟩:=(show ObjOk X.prog X.w H s.heap a (DX X.w a ob kvs) from I.hok a _ e)
 exact⟨h1,h2,h3,vs,h4,h5 _,Heap.dictOf_iff.mpr ⟨ob,h1,h5 _⟩⟩
theorem Wh (I:Inv X pins σ H s)(e:H a=some (DX X.w a ob kvs)):s.TypeIs (.ref a) "dict" := by
 obtain⟨_,_,_,vs,_,_,dd⟩:=yC I e
 exact dd.typeIs
theorem VY (I:Inv X pins σ H s)(e:H a=some (DX X.w a ob kvs)):∀b,Value.ref a=.ref b->∃ob,s.heap.get? b=some ob/\ob.dict=none:=λb q=>by
 cases q
 obtain⟨h1,_,_,vs,_,⟨_,_,h2,_⟩,_⟩:=yC I e
 exact⟨ob,h1,h2.2.1⟩
theorem JJ {Q:Value->Shared->Prop}(I:Inv X pins σ H s)(e:H a=some (DX X.w a ob kvs))(l:valV kvs k=some v)(ry:RelV (kV k) u)(h:∀w' s',Inv X pins σ H s'->RelV v w'->Q w' s') :
  wpAny (model X.prog X.w) A (getItem (.ref a) u) Q E s:=by
 obtain⟨_,z,hd,vs,rel,_,dd⟩:=yC I e
 obtain⟨w',hw,rw'⟩:=RelO.some_of (v:=v) (o:=valueAt vs k) (by rw[<-l];exact rel.val k)
 exact wpAny_getItem_of (ux ry) dd.mapOf hw (h w' _ (I.tok _) rw')
theorem Q7 {Q:Value->Shared->Prop}(I:Inv X pins σ H s)(e:H a=some (DX X.w a ob kvs))(ry:RelV (kV k) u)(h:∀s',Inv X pins σ H s'->Q (.bool (!(valV kvs k).isSome)) s') :
  wpAny (model X.prog X.w) A (compareOp .NotIn u (.ref a)) Q E s:=by
 obtain⟨_,z,hd,vs,rel,_,dd⟩:=yC I e
 refine wpAny_notIn_of (ux ry) hd dd.mapOf ?_
 rw[<-(rel.val k).isSome_eq]
 exact h _ (I.tok _)
theorem Rt {Q:Unit->Shared->Prop}(I:Inv X pins σ H s)(e:H a=some (DX X.w a ob kvs))(l:kvs.length < sizeLine)(ry:RelV (kV k) u)(rv:RelV v r)
  (h:∀s' ob',Inv X pins σ (upd H a (DX X.w a ob' (putK kvs k v))) s'->Q () s'):wpAny (model X.prog X.w) A (setItem (.ref a) u r) Q E s:=by
 obtain⟨_,z,hd,vs,rel,_,dd⟩:=yC I e
 have hz:vs.length<=sizeLine:=by rw[<-rel.length];exact z
 have hl:(putK kvs k v).length<=sizeLine:=by have:=U6 kvs k v;omega
 refine wpAny_setItem_pairs (hsz:=hz) (ux ry) dd λh' dd' hs=>?_
 have he:∃q,h'.get? a=some q:=let ⟨q,_,_,hq,_⟩:=dd';⟨q,hq⟩
 obtain⟨o',ho',new⟩:=kY (P:=X.prog) (w:=X.w) (a:=a) (kvs:=putK kvs k v) hl hd (rel.put k rv) dd'
 exact h _ o' (Yn I (by rw[e];exact True.intro) hs he (new _))
end
def tXNew (P:Program)(w:World):TE:=λ_ H Q=>∀p ob,H p=none->Q (.ref p) (upd H p (DX w p ob []))
def tXGet (P:Program)(w:World)(td ty:TE):TE:=λσ H Q=>td σ H λx H1=>ty σ H1 λy H2=>∃a ob kvs k v,x=.ref a/\H2 a=some (DX w a ob kvs)/\y=kV k/\valV kvs k=some v/\Q v H2
def Va (P:Program)(w:World)(ty td:TE):TE:=λσ H Q=>ty σ H λy H1=>td σ H1 λx H2=>∃a ob kvs k,x=.ref a/\H2 a=some (DX w a ob kvs)/\y=kV k/\Q (.bl (!(valV kvs k).isSome)) H2
def sXPut (P:Program)(w:World)(td ty tv:TE):TS:=λD σ H=>tv σ H λv H1=>td σ H1 λx H2=>ty σ H2 λy H3=>∃a ob kvs k,x=.ref a/\H3 a=some (DX w a ob kvs)/\y=kV k/\kvs.length < sizeLine/\∀ob',D.nx σ (upd H3 a (DX w a ob' (putK kvs k v)))
section
variable {X:Cx}{o i e f value:Expr}{pos pos' tpos apos cpos:Pos}{td ty tv tx:TE}
theorem U3:PE X (.Dict [] [] pos) (tXNew X.prog X.w):=λpins s σ H Q I h=>by
 obtain⟨ob,ho,new⟩:=kY (P:=X.prog) (w:=X.w) (a:=s.heap.objs.size) (kvs:=[]) (Nat.zero_le _) (beq_eq_false_iff_ne.mpr (Ne.symm (Nat.ne_of_lt I.big))) .nil (Heap.DictOf.new (knd:=zR X.prog X.w) s.heap)
 exact wpAny_Dict_empty ⟨.ref s.heap.objs.size,_,I.laid (a:=s.heap.objs.size) (o:=DX X.w s.heap.objs.size ob []) (t':=s.toks) (λ_ _ q=>Heap.get?_push_of_some _ q) (Nat.le_refl _) (new _),rfl,h _ ob (I.hok.fresh (Nat.le_refl _))⟩
theorem zao (ho:PE X o td)(hi:PE X i ty)(hs:NoSl i):PE X (.Subscript o i pos) (tXGet X.prog X.w td ty):=by
 intro pins s σ H Q I h
 refine Jy PySem.F.slot_dict_getitem.lookup hs (thn (ho pins s σ H _ I h) λu s1 ⟨x,H1,I1,rx,q1⟩=>thn (hi pins s1 σ H1 _ I1 q1) λiv s2 ⟨y,H2,I2,ry,a,ob,kvs,k,v,ex,g,ey,l,q2⟩=>?_)
 subst ex ey
 obtain rfl:u=Value.ref a:=rx
 exact⟨Wh I2 g,JJ I2 g l ry λw' s3 I3 rw'=>⟨v,H2,I3,rw',q2⟩⟩
theorem UQ (hi:PE X i ty)(ho:PE X o td):PC X .NotIn i o (Va X.prog X.w ty td):=by
 intro pins s σ H Q I h
 refine thn (hi pins s σ H _ I h) λiv s1 ⟨y,H1,I1,ry,q1⟩=>thn (ho pins s1 σ H1 _ I1 q1) λu s2 ⟨x,H2,I2,rx,a,ob,kvs,k,ex,g,ey,q2⟩=>?_
 subst ex ey
 obtain rfl:u=Value.ref a:=rx
 exact Q7 I2 g ry λs3 I3=>⟨.bl _,H2,I3,rfl,q2⟩
theorem R3 (ho:PE X o td)(hi:PE X i ty)(hv:PE X value tv)(hs:swapsWith value (some (.Subscript o i pos')) pos.line X.env=pure false) :
  PS X (.Assign [.Subscript o i pos'] value pos) (sXPut X.prog X.w td ty tv):=by
 intro pins s σ H D I h
 refine wpAny_Assign_Subscript (thn (hv pins s σ H _ I h) λr s1 ⟨v,H1,I1,rv,q1⟩=>thn (ho pins s1 σ H1 _ I1 q1) λu s2 ⟨x,H2,I2,rx,q2⟩=>thn (hi pins s2 σ H2 _ I2 q2) λiv s3 ⟨y,H3,I3,ry,a,ob,kvs,k,ex,g,ey,l,q3⟩=>?_) hs
 subst ex ey
 obtain rfl:u=Value.ref a:=rx
 exact Rt I3 g l ry rv λs4 ob' I4=>⟨σ,_,I4,q3 ob'⟩
end
section
variable {X:Cx}{pins:List (Addr×Obj)}{σ:St}{H:Hp}{s:Shared}{a:Addr}{ob:Obj}{kvs:List (Key×V)}
end
inductive PairsAt (P:Program) (w:World) (h:Heap):List Value->List (Key×Value)->Prop
 |nil:PairsAt P w h [] []
 |cons {a:Addr} {r:List Value} {k:Key} {kv v:Value} {kvs:List (Key×Value)}:h.IsTuple a #[kv,v]->(zR P w).is k kv=true->PairsAt P w h r kvs->PairsAt P w h (.ref a::r) ((k,v)::kvs)
section
variable {prog:Program}{w:World}{A:Around}{s:Shared}{R:Result->Shared->Prop}
end
section
variable {prog:Program}{w:World}{A:Around}{E:Value->Shared->Prop}{s:Shared}
end
inductive PairsV (K:PySem.W.Frag) (H:Hp):List V->List (Key×V)->Prop
 |nil:PairsV K H [] []
 |cons {a:Addr} {r:List V} {k:Key} {v:V} {kvs:List (Key×V)}:SqT K H a [kV k,v]->PairsV K H r kvs->PairsV K H (.ref a::r) ((k,v)::kvs)
section
variable {X:Cx}{pins:List (Addr×Obj)}{σ:St}{H:Hp}{s:Shared}
end
section
variable {X:Cx}
end
section
variable {X:Cx}{pins:List (Addr×Obj)}{σ:St}{H:Hp}{s:Shared}{a v:Addr}{ob:Obj}{kvs:List (Key×V)}{cls:String}
end
structure M0 (X:Cx)(o:Expr)(m:Str)(apos cpos:Pos):Prop where
 base:attributeBase o m X.env (eval o X.env)=eval o X.env
 line:(apos.endLine==cpos.line)=true
section
variable {X:Cx}{o:Expr}{apos cpos:Pos}{td:TE}
end
def intsV (kis:List (Key×Int)):List (Key×V):=kis.map λp=>(p.1,.int p.2)
def lookI (kis:List (Key×Int))(k:Key):Option Int:=(kis.find? λp=>decide (p.1=k)).map (·.2)
def hitsI (kb:List (Key×Int)):List (Key×Int)->Bool
 | []=>true
 |p::r=>match lookI kb p.1 with
  |none=>false
  |some j=>decide (p.2=j)&&hitsI kb r
def eqI (ka kb:List (Key×Int)):Bool:=ka.length==kb.length&&hitsI kb ka
theorem Yf (k:Key):∀kis:List (Key×Int),valV (intsV kis) k=(lookI kis k).map V.int
 | []=>rfl
 |p::r=>by
  have ih:=Yf k r
  by_cases e:p.1=k
  ·rw[show intsV (p::r)=(p.1,V.int p.2)::intsV r from rfl,kR e];simp[lookI,e]
  ·rw[show intsV (p::r)=(p.1,V.int p.2)::intsV r from rfl,kz e,ih];simp[lookI,e]
theorem W5 {A:Around}{s:Shared}{kb:List (Key×Int)}{vb:List (Key×Value)}(rb:KV (intsV kb) vb):∀ {ka:List (Key×Int)}{va:List (Key×Value)},KV (intsV ka) va->PySem.W.KeqHits A s vb va (hitsI kb ka)
 | [],_,r=>by cases r;exact .nil
 |p::ka,_,r=>by
  cases r with
  | @cons _ q _ qs h t=>
   obtain⟨k',u⟩:=q
   obtain⟨h1,h2⟩:=h
   have h1:p.1=k':=h1
   obtain⟨tk,h2⟩:∃tk,u=Value.int p.2 tk:=h2
   subst h1 h2
   have rv:=rb.val p.1
   rw[Yf] at rv
   have ih:=W5 (A:=A) (s:=s) rb t
   unfold hitsI
   cases hl:lookI kb p.1 with
   |none=>
    rw[hl] at rv
    exact .miss (RelO.none_of rv)
   |some j=>
    rw[hl] at rv
    obtain⟨w',hw,rw'⟩:=RelO.some_of (v:=.int j) (o:=valueAt vb p.1) rv
    obtain⟨tk',rfl⟩:=rw'
    have:=PySem.W.keq_flat (A:=A) (s:=s) (.int p.2 tk) (.int j tk')
    have e:PyData.eqv (.int p.2) (.int j)=decide (p.2=j):=by
     rw[PyData.eqv]
     by_cases h:p.2=j<;>simp[h]
    rw[e] at this
    exact .hit hw this ih
section
variable {X:Cx}{pins:List (Addr×Obj)}{σ:St}{H:Hp}{s:Shared}{a b:Addr}{oa ob:Obj}{ka kb:List (Key×Int)}{A:Around}{E:Value->Shared->Prop}
theorem VW {Q:Value->Shared->Prop}(hu:A.units < cLine)(I:Inv X pins σ H s)(ea:H a=some (DX X.w a oa (intsV ka)))(eb:H b=some (DX X.w b ob (intsV kb)))(h:Q (.bool (!eqI ka kb)) s) :
  wpAny (model X.prog X.w) A (compareOp .NotEq (.ref a) (.ref b)) Q E s:=by
 obtain⟨_,_,ha,va,ra,_,da⟩:=yC I ea
 obtain⟨_,_,hb,vb,rb,_,db⟩:=yC I eb
 refine PySem.W.keq_ne ha hb da db hu (λ_=>W5 rb ra) ?_
 have h1:va.length=ka.length:=by rw[<-ra.length];simp[intsV]
 have h2:vb.length=kb.length:=by rw[<-rb.length];simp[intsV]
 rw[h1,h2]
 exact h
end
def tXEq (P:Program)(w:World)(neg:Bool)(ta tb:TE):TE:=λσ H Q=>ta σ H λx H1=>tb σ H1 λy H2=>∃a b oa ob ka kb,x=.ref a/\y=.ref b/\H2 a=some (DX w a oa (intsV ka))/\H2 b=some (DX w b ob (intsV kb))/\Q (.bl (neg ^^ eqI ka kb)) H2
section
variable {X:Cx}{i o:Expr}{ta tb:TE}
theorem Uf (hu:X.A.units < cLine)(hi:PE X i ta)(ho:PE X o tb):PC X .NotEq i o (tXEq X.prog X.w true ta tb):=by
 intro pins s σ H Q I h
 refine thn (hi pins s σ H _ I h) λiv s1 ⟨y,H1,I1,ry,q1⟩=>thn (ho pins s1 σ H1 _ I1 q1) λu s2 ⟨x,H2,I2,rx,a,b,oa,ob,ka,kb,ex,ey,ea,eb,q2⟩=>?_
 subst ex ey
 obtain rfl:iv=Value.ref a:=ry
 obtain rfl:u=Value.ref b:=rx
 refine VW hu I2 ea eb ⟨.bl _,H2,I2,rfl,?_⟩
 simpa using q2
end
section
variable {X:Cx}{pins:List (Addr×Obj)}{σ:St}{H:Hp}{s:Shared}{a:Addr}{ob:Obj}{kvs:List (Key×V)}
theorem VV {T:String}{b:Bool}(hk:PySem.W.kitOne X.K (.type "dict") (.type T)=some b) :
  CallR X (.builtin "isinstance") (λxs H Q=>∃a ob kvs,xs=[V.ref a,.ty T]/\H a=some (DX X.w a ob kvs)/\Q (.bl b) H):=by
 intro pins s σ H vs us Q I r h
 obtain⟨a,ob,kvs,rfl,e,q⟩:=h
 obtain⟨u,w,rfl,ru,rw'⟩:=vals2 r
 cases rw'
 cases ru
 obtain⟨h1,_,_,ws,_,⟨_,_,h2,_⟩,_⟩:=yC I e
 exact PySem.W.kia_one PySem.W.kitx_dict I.kIn ⟨ob,h1,h2.1⟩ hk (λz=>nomatch z) λtk=>⟨.bl b,H,I.tok tk,rfl,q⟩
end
section
variable {X:Cx}{pins:List (Addr×Obj)}{σ:St}{H H':Hp}{s:Shared}{h':Heap}
end
end L4
namespace Dv
open PySem PySem.Spec L2 L3 L4
open PyProof.Rows hiding St
structure KW where
 fr:PySem.W.Frag
 w:World
instance:Coe KW PySem.W.Frag:=⟨KW.fr⟩
abbrev _root_.L2.Cx.kw (X:Cx):KW:=⟨X.K,X.w⟩
inductive D where
 |non | bl (b:Bool) | int (i:Int) | str (x:Str) | lst (xs:List D) | tup (xs:List D) | scr (ns:List Int) | obj (C:Addr) (fs:List Str) (ds:List D)
mutual
def Rp (K:KW)(F:Hp):D->V->Prop
 |.non,v=>v=.non
 |.bl b,v=>v=.bl b
 |.int i,v=>v=.int i
 |.str x,v=>v=.str x
 |.lst ds,v=>∃a vs,v=.ref a/\F a=some (.lst vs)/\Rps K F ds vs
 |.tup ds,v=>∃a vs,v=.ref a/\F a=some (.tup vs)/\Rps K F ds vs
 |.scr ns,v=>∃a,v=.ref a/\SqL K F a (ns.map V.int)
 |.obj C fs ds,v=>∃a dx vs,v=.ref a/\F a=some (.ins C dx (fs.zip vs))/\fs.length=vs.length/\Rps K F ds vs
def Rps (K:KW)(F:Hp):List D->List V->Prop
 | [],vs=>vs=[]
 |d::ds,vs=>∃v r,vs=v::r/\Rp K F d v/\Rps K F ds r
end
mutual
theorem Rp.mono {K:KW}{F F':Hp}(s:Same F F'):∀ {d:D}{v:V},Rp K F d v->Rp K F' d v
 |.non,_,h=>h
 |.bl _,_,h=>h
 |.int _,_,h=>h
 |.str _,_,h=>h
 |.lst _,_,⟨a,vs,e,q,r⟩=>⟨a,vs,e,s _ _ q,Rps.mono s r⟩
 |.tup _,_,⟨a,vs,e,q,r⟩=>⟨a,vs,e,s _ _ q,Rps.mono s r⟩
 |.scr _,_,⟨a,e,q⟩=>⟨a,e,s.seq q⟩
 |.obj _ _ _,_,⟨a,dx,vs,e,q,l,r⟩=>⟨a,dx,vs,e,s _ _ q,l,Rps.mono s r⟩
theorem Rps.mono {K:KW}{F F':Hp}(s:Same F F'):∀ {ds:List D}{vs:List V},Rps K F ds vs->Rps K F' ds vs
 | [],_,h=>h
 |_::_,_,⟨v,r,e,h,t⟩=>⟨v,r,e,Rp.mono s h,Rps.mono s t⟩
end
section
variable {K:KW}{F F' H H':Hp}
theorem Rps.length:∀ {ds:List D}{vs:List V},Rps K F ds vs->ds.length=vs.length
 | [],_,h=>by cases h;rfl
 |_::_,_,⟨_,_,e,_,t⟩=>by subst e;simp[Rps.length t]
theorem Rps.append:∀ {ds es:List D}{vs ws:List V},Rps K F ds vs->Rps K F es ws->Rps K F (ds++es) (vs++ws)
 | [],_,_,_,h,t=>by cases h;exact t
 |_::_,_,_,_,⟨v,r,e,h,t⟩,q=>by subst e;exact⟨v,_,rfl,h,Rps.append t q⟩
theorem Rps.get:∀ {ds:List D}{vs:List V}{i:Nat}{d:D},Rps K F ds vs->ds[i]?=some d->∃v,vs[i]?=some v/\Rp K F d v
 | [],_,_,_,_,e=>by simp at e
 |_::_,_,0,_,⟨v,r,e,h,t⟩,q=>by subst e;simp at q;subst q;exact⟨v,rfl,h⟩
 |_::_,_,i+1,_,⟨v,r,e,h,t⟩,q=>by
  subst e
  obtain⟨w,h1,h2⟩:=Rps.get (i:=i) t (by simpa using q)
  exact⟨w,by simpa using h1,h2⟩
theorem Rps.get':∀ {ds:List D}{vs:List V}{i:Nat}{v:V},Rps K F ds vs->vs[i]?=some v->∃d,ds[i]?=some d/\Rp K F d v:=fun {ds vs i v} r e=>by
 have hl:=r.length
 have hi:i < vs.length:=(List.getElem?_eq_some_iff.mp e).1
 have hd:ds[i]?=some ds[i]:=List.getElem?_eq_getElem (by omega)
 obtain⟨w,h1,h2⟩:=r.get hd
 rw[e] at h1;cases h1
 exact⟨_,hd,h2⟩
theorem Rps.take:∀ {ds:List D}{vs:List V}(n:Nat),Rps K F ds vs->Rps K F (ds.take n) (vs.take n)
 |_,_,0,_=>rfl
 | [],_,_+1,h=>by cases h;rfl
 |_::_,_,n+1,⟨v,r,e,h,t⟩=>by subst e;exact⟨v,_,rfl,h,Rps.take n t⟩
theorem Rps.drop:∀ {ds:List D}{vs:List V}(n:Nat),Rps K F ds vs->Rps K F (ds.drop n) (vs.drop n)
 |_,_,0,r=>r
 | [],_,_+1,h=>by cases h;rfl
 |_::_,_,n+1,⟨v,r,e,h,t⟩=>by subst e;exact Rps.drop n t
theorem Rps.set {d:D}{v:V}(hd:Rp K F d v):∀ {ds:List D}{vs:List V}(n:Nat),Rps K F ds vs->Rps K F (ds.set n d) (vs.set n v)
 | [],_,_,h=>by cases h;rfl
 |_::_,_,0,⟨w,r,e,h,t⟩=>by subst e;exact⟨v,r,rfl,hd,t⟩
 |_::_,_,n+1,⟨w,r,e,h,t⟩=>by subst e;exact⟨w,_,rfl,h,Rps.set hd n t⟩
theorem Rps.snoc {ds:List D}{vs:List V}{d:D}{v:V}(r:Rps K F ds vs)(h:Rp K F d v):Rps K F (ds++[d]) (vs++[v]):=r.append ⟨v,[],rfl,h,rfl⟩
theorem Rps.ints:∀(ns:List Int),Rps K F (ns.map D.int) (ns.map V.int)
 | []=>rfl
 |_::ns=>⟨_,_,rfl,rfl,Rps.ints ns⟩
theorem yc {a:Addr}{o:HO}(n:H a=none):Same H (upd H a o):=λb u e=>by rw[zg (zu e n)];exact e
theorem Rb {a:Addr}{o:HO}(s:Same F H)(n:H a=none):Same F (upd H a o):=s.trans (yc n)
structure Ext (F H F' H':Hp):Prop where
 ff:Same F F'
 hh:Same H H'
 fh:Same F' H'
 nw:∀a,F' a≠none->F a≠none∨H a=none
theorem Ext.refl (s:Same F H):Ext F H F H:=⟨Same.refl _,Same.refl _,s,λ_ h=>.inl h⟩
theorem Ext.trans {F1 H1 F2 H2:Hp}(x:Ext F H F1 H1)(y:Ext F1 H1 F2 H2):Ext F H F2 H2 :=
 ⟨x.ff.trans y.ff,x.hh.trans y.hh,y.fh,λa h=>(y.nw a h).elim (x.nw a) λz=>.inr (x.hh.free z)⟩
theorem Ext.new {a:Addr}{o:HO}(s:Same F H)(n:H a=none):Ext F H F (upd H a o):=⟨Same.refl _,yc n,Rb s n,λ_ h=>.inl h⟩
theorem Ext.newF {a:Addr}{o:HO}(s:Same F H)(n:H a=none):Ext F H (upd F a o) (upd H a o):=by
 refine⟨yc (s.free n),yc n,λb u e=>?_,λb h=>?_⟩
 ·by_cases hb:b=a
  ·subst hb;rw[zk] at e ⊢;exact e
  ·rw[zg hb] at e ⊢;exact s b u e
 ·by_cases hb:b=a
  ·subst hb;exact .inr n
  ·rw[zg hb] at h;exact .inl h
theorem Ext.freeze {a:Addr}{o:HO}(x:Ext F H F' H')(n:H a=none)(n':F' a=none)(e:H' a=some o):Ext F H (upd F' a o) H':=by
 refine⟨x.ff.trans (yc n'),x.hh,λb u q=>?_,λb h=>?_⟩
 ·by_cases hb:b=a
  ·subst hb;rw[zk] at q;cases q;exact e
  ·rw[zg hb] at q;exact x.fh b u q
 ·by_cases hb:b=a
  ·subst hb;exact .inr n
  ·rw[zg hb] at h;exact x.nw b h
def Rq (K:KW)(F H:Hp)(d:D)(v:V):Prop:=Rp K F d v∨∃a vs ds,d=.lst ds/\v=.ref a/\H a=some (.lst vs)/\Rps K F ds vs
theorem Rq.mono (f:Same F F')(h:Same H H'){d:D}{v:V}(r:Rq K F H d v):Rq K F' H' d v:=by
 rcases r with r | ⟨a,vs,ds,e1,e2,e3,e4⟩
 ·exact .inl (r.mono f)
 ·exact .inr ⟨a,vs,ds,e1,e2,h _ _ e3,e4.mono f⟩
theorem Rq.lst (s:Same F H){ds:List D}{v:V}(r:Rq K F H (.lst ds) v):∃a vs,v=.ref a/\H a=some (.lst vs)/\Rps K F ds vs:=by
 rcases r with⟨a,vs,e,q,r⟩ | ⟨a,vs,ds',e1,e2,e3,e4⟩
 ·exact⟨a,vs,e,s _ _ q,r⟩
 ·cases e1;exact⟨a,vs,e2,e3,e4⟩
theorem Rq.one {d:D}{v:V}(r:Rq K F H d v)(h:∀ds,d≠.lst ds):Rp K F d v:=by
 rcases r with r | ⟨a,vs,ds,e1,_⟩
 ·exact r
 ·exact (h ds e1).elim
theorem Rq.int {i:Int}{v:V}(r:Rq K F H (.int i) v):v=.int i:=r.one λ_ h=>by cases h
theorem Rq.bl {i:Bool}{v:V}(r:Rq K F H (.bl i) v):v=.bl i:=r.one λ_ h=>by cases h
theorem Rq.str {i:Str}{v:V}(r:Rq K F H (.str i) v):v=.str i:=r.one λ_ h=>by cases h
theorem Rq.non {v:V}(r:Rq K F H .non v):v=.non:=r.one λ_ h=>by cases h
theorem Rq.tup (s:Same F H){ds:List D}{v:V}(r:Rq K F H (.tup ds) v):∃a vs,v=.ref a/\H a=some (.tup vs)/\Rps K F ds vs:=by
 obtain⟨a,vs,e,q,r⟩:=r.one λ_ h=>by cases h
 exact⟨a,vs,e,s _ _ q,r⟩
theorem Rq.scr (s:Same F H){ns:List Int}{v:V}(r:Rq K F H (.scr ns) v):∃a,v=.ref a/\SqL K H a (ns.map V.int):=by
 obtain⟨a,e,q⟩:=r.one λ_ h=>by cases h
 exact⟨a,e,s.seq q⟩
end
inductive OT where
 |frz (d:D) | lst (ts:List OT) | tup (ts:List OT)
mutual
def RepO (K:KW)(F H:Hp):OT->V->Prop
 |.frz d,v=>Rp K F d v
 |.lst ts,v=>∃a vs,v=.ref a/\H a=some (.lst vs)/\RepOs K F H ts vs
 |.tup ts,v=>∃a vs,v=.ref a/\H a=some (.tup vs)/\RepOs K F H ts vs
def RepOs (K:KW)(F H:Hp):List OT->List V->Prop
 | [],vs=>vs=[]
 |t::ts,vs=>∃v r,vs=v::r/\RepO K F H t v/\RepOs K F H ts r
end
def itemsH (H:Hp)(a:Addr):List V:=match H a with
 |some (.lst vs)=>vs
 |some (.tup vs)=>vs
 |_=>[]
mutual
def feetO (H:Hp):OT->V->List Addr
 |.frz _,_=>[]
 |.lst ts,v=>match v with
  |.ref a=>a::feetOs H ts (itemsH H a)
  |_=>[]
 |.tup ts,v=>match v with
  |.ref a=>a::feetOs H ts (itemsH H a)
  |_=>[]
def feetOs (H:Hp):List OT->List V->List Addr
 | [],_=>[]
 |t::ts,vs=>match vs with
  |v::r=>feetO H t v++feetOs H ts r
  | []=>[]
end
mutual
def OT.erase:OT->D
 |.frz d=>d
 |.lst ts=>.lst (erases ts)
 |.tup ts=>.tup (erases ts)
def erases:List OT->List D
 | []=>[]
 |t::ts=>t.erase::erases ts
end
theorem zD {H:Hp}{a:Addr}{vs:List V}(h:H a=some (.lst vs)):itemsH H a=vs:=by unfold itemsH;rw[h]
theorem zN {H:Hp}{a:Addr}{vs:List V}(h:H a=some (.tup vs)):itemsH H a=vs:=by unfold itemsH;rw[h]
section
variable {K:KW}{F F' H H':Hp}
mutual
theorem RepO.ext (f:Same F F')(h:Same H H'):∀ {t:OT}{v:V},RepO K F H t v->RepO K F' H' t v/\feetO H' t v=feetO H t v
 |.frz _,_,r=>⟨Rp.mono f r,rfl⟩
 |.lst ts,_,⟨a,vs,e,q,r⟩=>by
  subst e
  obtain⟨r1,r2⟩:=RepOs.ext f h r
  exact⟨⟨a,vs,rfl,h _ _ q,r1⟩,by simp only[feetO,zD q,zD (h _ _ q),r2]⟩
 |.tup ts,_,⟨a,vs,e,q,r⟩=>by
  subst e
  obtain⟨r1,r2⟩:=RepOs.ext f h r
  exact⟨⟨a,vs,rfl,h _ _ q,r1⟩,by simp only[feetO,zN q,zN (h _ _ q),r2]⟩
theorem RepOs.ext (f:Same F F')(h:Same H H'):∀ {ts:List OT}{vs:List V},RepOs K F H ts vs->RepOs K F' H' ts vs/\feetOs H' ts vs=feetOs H ts vs
 | [],_,r=>⟨r,rfl⟩
 |t::ts,_,⟨v,r,e,h1,h2⟩=>by
  subst e
  obtain⟨a1,a2⟩:=RepO.ext f h h1
  obtain⟨b1,b2⟩:=RepOs.ext f h h2
  exact⟨⟨v,r,rfl,a1,b1⟩,by simp only[feetOs,a2,b2]⟩
end
mutual
theorem RepO.other {a:Addr}{o:HO}:∀ {t:OT}{v:V},RepO K F H t v->a∉feetO H t v->RepO K F (upd H a o) t v/\feetO (upd H a o) t v=feetO H t v
 |.frz _,_,r,_=>⟨r,rfl⟩
 |.lst ts,_,⟨b,vs,e,q,r⟩,hn=>by
  subst e
  simp only[feetO,zD q,List.mem_cons,not_or] at hn
  obtain⟨r1,r2⟩:=RepOs.other (o:=o) r hn.2
  have q':upd H a o b=some (.lst vs):=by rw[zg (Ne.symm hn.1)];exact q
  exact⟨⟨b,vs,rfl,q',r1⟩,by simp only[feetO,zD q,zD q',r2]⟩
 |.tup ts,_,⟨b,vs,e,q,r⟩,hn=>by
  subst e
  simp only[feetO,zN q,List.mem_cons,not_or] at hn
  obtain⟨r1,r2⟩:=RepOs.other (o:=o) r hn.2
  have q':upd H a o b=some (.tup vs):=by rw[zg (Ne.symm hn.1)];exact q
  exact⟨⟨b,vs,rfl,q',r1⟩,by simp only[feetO,zN q,zN q',r2]⟩
theorem RepOs.other {a:Addr}{o:HO}:∀ {ts:List OT}{vs:List V},RepOs K F H ts vs->a∉feetOs H ts vs->RepOs K F (upd H a o) ts vs/\feetOs (upd H a o) ts vs=feetOs H ts vs
 | [],_,r,_=>⟨r,rfl⟩
 |t::ts,_,⟨v,r,e,h1,h2⟩,hn=>by
  subst e
  simp only[feetOs,List.mem_append,not_or] at hn
  obtain⟨a1,a2⟩:=RepO.other (o:=o) h1 hn.1
  obtain⟨b1,b2⟩:=RepOs.other (o:=o) h2 hn.2
  exact⟨⟨v,r,rfl,a1,b1⟩,by simp only[feetOs,a2,b2]⟩
end
mutual
theorem RepO.feet {a:Addr}:∀ {t:OT}{v:V},RepO K F H t v->a∈feetO H t v->H a≠none
 |.frz _,_,_,h=>by simp[feetO] at h
 |.lst ts,_,⟨b,vs,e,q,r⟩,h=>by
  subst e
  simp only[feetO,zD q,List.mem_cons] at h
  rcases h with rfl | h
  ·rw[q];simp
  ·exact RepOs.feet r h
 |.tup ts,_,⟨b,vs,e,q,r⟩,h=>by
  subst e
  simp only[feetO,zN q,List.mem_cons] at h
  rcases h with rfl | h
  ·rw[q];simp
  ·exact RepOs.feet r h
theorem RepOs.feet {a:Addr}:∀ {ts:List OT}{vs:List V},RepOs K F H ts vs->a∈feetOs H ts vs->H a≠none
 | [],_,_,h=>by simp[feetOs] at h
 |t::ts,_,⟨v,r,e,h1,h2⟩,h=>by
  subst e
  simp only[feetOs,List.mem_append] at h
  rcases h with h | h
  ·exact RepO.feet h1 h
  ·exact RepOs.feet h2 h
end
mutual
theorem RepO.read (s:Same F H):∀ {t:OT}{v:V},RepO K F H t v->Rp K H t.erase v
 |.frz _,_,r=>Rp.mono s r
 |.lst ts,_,⟨b,vs,e,q,r⟩=>⟨b,vs,e,q,RepOs.read s r⟩
 |.tup ts,_,⟨b,vs,e,q,r⟩=>⟨b,vs,e,q,RepOs.read s r⟩
theorem RepOs.read (s:Same F H):∀ {ts:List OT}{vs:List V},RepOs K F H ts vs->Rps K H (erases ts) vs
 | [],_,r=>r
 |t::ts,_,⟨v,r,e,h1,h2⟩=>⟨v,r,e,RepO.read s h1,RepOs.read s h2⟩
end
def addF (F H:Hp)(as:List Addr):Hp:=λb=>if b∈as then H b else F b
mutual
theorem RepO.fz {as:List Addr}(f:Same F (addF F H as)):∀ {t:OT}{v:V},RepO K F H t v->(∀a∈feetO H t v,a∈as)->Rp K (addF F H as) t.erase v
 |.frz _,_,r,_=>Rp.mono f r
 |.lst ts,_,⟨b,vs,e,q,r⟩,h=>by
  subst e
  simp only[feetO,zD q] at h
  exact⟨b,vs,rfl,by unfold addF;rw[if_pos (h b (by simp))];exact q,RepOs.fz f r λa ha=>h a (by simp[ha])⟩
 |.tup ts,_,⟨b,vs,e,q,r⟩,h=>by
  subst e
  simp only[feetO,zN q] at h
  exact⟨b,vs,rfl,by unfold addF;rw[if_pos (h b (by simp))];exact q,RepOs.fz f r λa ha=>h a (by simp[ha])⟩
theorem RepOs.fz {as:List Addr}(f:Same F (addF F H as)):∀ {ts:List OT}{vs:List V},RepOs K F H ts vs->(∀a∈feetOs H ts vs,a∈as)->Rps K (addF F H as) (erases ts) vs
 | [],_,r,_=>r
 |t::ts,_,⟨v,r,e,h1,h2⟩,h=>by
  subst e
  simp only[feetOs] at h
  exact⟨v,r,rfl,RepO.fz f h1 λa ha=>h a (by simp[ha]),RepOs.fz f h2 λa ha=>h a (by simp[ha])⟩
end
theorem xZ {as:List Addr}(h:∀a∈as,F a=none):Same F (addF F H as):=λb u e=>by
 unfold addF
 rw[if_neg λz=>by rw[h b z] at e;cases e]
 exact e
end
def Rkv (K:KW)(F:Hp)(kvs:List (Key×D))(vs:List (Key×V)):Prop:=Paired (λp q=>p.1=q.1/\Rp K F p.2 q.2) kvs vs
theorem Rkv.mono {K:KW}{F F':Hp}(s:Same F F'){kvs:List (Key×D)}{vs:List (Key×V)}(r:Rkv K F kvs vs):Rkv K F' kvs vs:=Paired.mapP r λ_ _ h=>⟨h.1,h.2.mono s⟩
inductive En where
 |val (d:D) | acc (ds:List D) | bor (ds:List D) | oac (a dx C:Addr) (fs:List Str) (ds:List D) | tre (t:OT)
  |dct (oa:Option Addr) (kvs:List (Key×D)) | dbo (kvs:List (Key×D))
abbrev EnvD:=List (Option En)
structure Bs where
 F0:Hp
 H0:Hp
def RepE (K:KW)(B:Bs)(F H:Hp):En->V->Prop
 |.val d,v=>Rp K F d v
 |.acc ds,v=>∃a vs,v=.ref a/\H a=some (.lst vs)/\F a=none/\B.H0 a=none/\Rps K F ds vs
 |.bor ds,v=>∃a vs,v=.ref a/\B.H0 a=some (.lst vs)/\Rps K F ds vs
 |.oac a dx C fs ds,v=>∃vs,v=.ref a/\H a=some (.ins C dx (fs.zip vs))/\fs.length=vs.length/\F a=none/\B.H0 a=none/\Rps K F ds vs
 |.tre t,v=>RepO K F H t v/\(feetO H t v).Nodup/\∀a∈feetO H t v,F a=none/\B.H0 a=none
 |.dct oa kvs,v=>∃a ob vs,v=.ref a/\H a=some (DX K.w a ob vs)/\F a=none/\B.H0 a=none/\Rkv K F kvs vs/\∀b,oa=some b->b=a
 |.dbo kvs,v=>∃a ob vs,v=.ref a/\B.H0 a=some (DX K.w a ob vs)/\Rkv K F kvs vs
def En.own:En->Bool
 |.acc _=>true
 |.dct _ _=>true
 |.oac _ _ _ _ _=>true
 |_=>false
def feetE (H:Hp):En->V->List Addr
 |.acc _,v=>match v with
  |.ref a=>[a]
  |_=>[]
 |.oac _ _ _ _ _,v=>match v with
  |.ref a=>[a]
  |_=>[]
 |.tre t,v=>feetO H t v
 |.dct _ _,v=>match v with
  |.ref a=>[a]
  |_=>[]
 |_,_=>[]
theorem uA {H:Hp}{x:En}{a:Addr}(o:x.own=true):feetE H x (.ref a)=[a]:=by cases x<;>first | rfl | cases o
structure Rep (K:KW)(B:Bs)(F:Hp)(σ:St)(H:Hp)(ρ:EnvD):Prop where
 ex:Ext B.F0 B.H0 F H
 len:σ.length=ρ.length
 ents:∀(i:Nat) x,ρ[i]?=some (some x)->∃v,σ[i]?=some (some v)/\RepE K B F H x v
 dj:∀(i j:Nat) x y v w,ρ[i]?=some (some x)->ρ[j]?=some (some y)->σ[i]?=some (some v)->σ[j]?=some (some w)->i≠j->∀a∈feetE H x v,a∉feetE H y w
section
variable {K:KW}{B:Bs}{F F' H H':Hp}{σ:St}{ρ:EnvD}
theorem wR {a:Addr}(e:Ext F H F' H')(h:F a=none)(hh:H a≠none):F' a=none:=by
 cases q:F' a with
 |none=>rfl
 |some o=>exact ((e.nw a (by rw[q];simp)).elim (λz=>(z h).elim) λz=>(hh z).elim)
theorem RepE.ext {x:En}{v:V}(r:RepE K B F H x v)(e:Ext F H F' H'):RepE K B F' H' x v:=by
 cases x with
 |val d=>exact Rp.mono e.ff r
 |acc ds=>
  obtain⟨a,vs,e1,e2,e3,e4,e5⟩:=r
  exact⟨a,vs,e1,e.hh _ _ e2,wR e e3 (by rw[e2];simp),e4,e5.mono e.ff⟩
 |bor ds=>
  obtain⟨a,vs,e1,e2,e5⟩:=r
  exact⟨a,vs,e1,e2,e5.mono e.ff⟩
 |oac a dx C fs ds=>
  obtain⟨vs,e1,e2,el,e3,e4,e5⟩:=r
  exact⟨vs,e1,e.hh _ _ e2,el,wR e e3 (by rw[e2];simp),e4,e5.mono e.ff⟩
 |tre t=>
  obtain⟨r1,r2,r3⟩:=r
  obtain⟨s1,s2⟩:=RepO.ext e.ff e.hh r1
  refine⟨s1,by rw[s2];exact r2,λa ha=>?_⟩
  rw[s2] at ha
  exact⟨wR e (r3 a ha).1 (RepO.feet r1 ha),(r3 a ha).2⟩
 |dct oa kvs=>
  obtain⟨a,ob,vs,e1,e2,e3,e4,e5,e6⟩:=r
  exact⟨a,ob,vs,e1,e.hh _ _ e2,wR e e3 (by rw[e2];simp),e4,e5.mono e.ff,e6⟩
 |dbo kvs=>
  obtain⟨a,ob,vs,e1,e2,e5⟩:=r
  exact⟨a,ob,vs,e1,e2,e5.mono e.ff⟩
theorem RepE.feet_ext {x:En}{v:V}(r:RepE K B F H x v)(e:Same H H'):feetE H' x v=feetE H x v:=by
 cases x with
 |tre t=>exact (RepO.ext (Same.refl F) e r.1).2
 |_=>rfl
theorem RepE.feet_at {x:En}{v:V}{a:Addr}(r:RepE K B F H x v)(h:a∈feetE H x v):H a≠none/\F a=none/\B.H0 a=none:=by
 cases x with
 |val d=>cases h
 |bor ds=>cases h
 |acc ds=>
  obtain⟨b,vs,rfl,e2,e3,e4,e5⟩:=r
  simp only[feetE,List.mem_singleton] at h
  subst h
  exact⟨by rw[e2];simp,e3,e4⟩
 |oac b dx C fs ds=>
  obtain⟨vs,rfl,e2,el,e3,e4,e5⟩:=r
  simp only[feetE,List.mem_singleton] at h
  subst h
  exact⟨by rw[e2];simp,e3,e4⟩
 |tre t=>exact⟨RepO.feet r.1 h,r.2.2 a h⟩
 |dct oa kvs=>
  obtain⟨b,ob,vs,rfl,e2,e3,e4,e5⟩:=r
  simp only[feetE,List.mem_singleton] at h
  subst h
  exact⟨by rw[e2];simp,e3,e4⟩
 |dbo kvs=>cases h
theorem Rep.ext (r:Rep K B F σ H ρ)(e:Ext F H F' H'):Rep K B F' σ H' ρ:=by
 refine⟨r.ex.trans e,r.len,λi x h=>let ⟨v,h1,h2⟩:=r.ents i x h;⟨v,h1,h2.ext e⟩,λi j x y v w e1 e2 s1 s2 hne a ha hb=>?_⟩
 obtain⟨v',q1,p1⟩:=r.ents i x e1
 rw[s1] at q1;cases q1
 obtain⟨w',q2,p2⟩:=r.ents j y e2
 rw[s2] at q2;cases q2
 rw[p1.feet_ext e.hh] at ha
 rw[p2.feet_ext e.hh] at hb
 exact r.dj i j x y v w e1 e2 s1 s2 hne a ha hb
theorem Rep.fh (r:Rep K B F σ H ρ):Same F H:=r.ex.fh
theorem zV {α:Type}{l:List α}{i j:Nat}{x y:α}(h:(l.set i x)[j]?=some y):(j=i/\x=y/\i < l.length)∨(j≠i/\l[j]?=some y):=by
 by_cases hj:j=i
 ·subst hj
  have hl:j < l.length:=by
   have:=(List.getElem?_eq_some_iff.mp h).1
   simpa using this
  rw[List.getElem?_set_self hl] at h
  cases h
  exact .inl ⟨rfl,rfl,hl⟩
 ·rw[List.getElem?_set_ne (Ne.symm hj)] at h
  exact .inr ⟨hj,h⟩
theorem Rep.seto (r:Rep K B F σ H ρ){i:Nat}{x:En}{v:V}(h:RepE K B F H x v)(hn:∀(j:Nat) y w,ρ[j]?=some (some y)->σ[j]?=some (some w)->j≠i->∀a∈feetE H x v,a∉feetE H y w):Rep K B F (σ.set i (some v)) H (ρ.set i (some x)):=by
 refine⟨r.ex,by simp[r.len],λj y e=>?_,λj k y z u w e1 e2 s1 s2 hne a ha hb=>?_⟩
 ·rcases zV e with⟨rfl,q,hl⟩ | ⟨hj,e⟩
  ·cases q
   exact⟨v,List.getElem?_set_self (by rw[r.len];exact hl),h⟩
  ·obtain⟨w,h1,h2⟩:=r.ents j y e
   exact⟨w,by rw[List.getElem?_set_ne (Ne.symm hj)];exact h1,h2⟩
 ·rcases zV e1 with⟨rfl,q1,_⟩ | ⟨hj,f1⟩<;>rcases zV e2 with⟨rfl,q2,_⟩ | ⟨hk,f2⟩
  ·exact hne rfl
  ·cases q1
   rcases zV s1 with⟨_,p1,_⟩ | ⟨z,_⟩
   ·cases p1
    rw[List.getElem?_set_ne (Ne.symm hk)] at s2
    exact hn k z w f2 s2 hk a ha hb
   ·exact (z rfl).elim
  ·cases q2
   rcases zV s2 with⟨_,p2,_⟩ | ⟨z,_⟩
   ·cases p2
    rw[List.getElem?_set_ne (Ne.symm hj)] at s1
    exact hn j y u f1 s1 hj a hb ha
   ·exact (z rfl).elim
  ·rw[List.getElem?_set_ne (Ne.symm hj)] at s1
   rw[List.getElem?_set_ne (Ne.symm hk)] at s2
   exact r.dj j k y z u w f1 f2 s1 s2 hne a ha hb
theorem Rep.setv (r:Rep K B F σ H ρ){i:Nat}{d:D}{v:V}(h:Rp K F d v):Rep K B F (σ.set i (some v)) H (ρ.set i (some (.val d))) :=
 r.seto (x:=.val d) h λ_ _ _ _ _ _ a ha=>by cases ha
theorem RepE.other {x:En}{v:V}{a:Addr}{o:HO}(r:RepE K B F H x v)(hn:a∉feetE H x v)(h0:B.H0 a=none):RepE K B F (upd H a o) x v/\feetE (upd H a o) x v=feetE H x v:=by
 cases x with
 |val d=>exact⟨r,rfl⟩
 |bor ds=>exact⟨r,rfl⟩
 |acc ds=>
  obtain⟨b,vs,rfl,q2,q3,q4,q5⟩:=r
  have hb:b≠a:=λz=>hn (by simp[feetE,z])
  exact⟨⟨b,vs,rfl,by rw[zg hb];exact q2,q3,q4,q5⟩,rfl⟩
 |oac b dx C fs ds=>
  obtain⟨vs,rfl,q2,ql,q3,q4,q5⟩:=r
  have hb:b≠a:=λz=>hn (by simp[feetE,z])
  exact⟨⟨vs,rfl,by rw[zg hb];exact q2,ql,q3,q4,q5⟩,rfl⟩
 |tre t=>
  obtain⟨r1,r2,r3⟩:=r
  obtain⟨s1,s2⟩:=RepO.other (o:=o) r1 hn
  exact⟨⟨s1,by rw[s2];exact r2,λb hb=>r3 b (by rw[s2] at hb;exact hb)⟩,s2⟩
 |dct oa kvs=>
  obtain⟨b,ob,vs,rfl,q2,q3,q4,q5⟩:=r
  have hb:b≠a:=λz=>hn (by simp[feetE,z])
  exact⟨⟨b,ob,vs,rfl,by rw[zg hb];exact q2,q3,q4,q5⟩,rfl⟩
 |dbo kvs=>exact⟨r,rfl⟩
theorem Rep.writeG (r:Rep K B F σ H ρ){i:Nat}{x y:En}{v:V}{a:Addr}{o:HO}(hi:ρ[i]?=some (some x))(hs:σ[i]?=some (some v))(ha:a∈feetE H x v)(hy:RepE K B F (upd H a o) y v)(hsub:∀b∈feetE (upd H a o) y v,b∈feetE H x v) :
  Rep K B F σ (upd H a o) (ρ.set i (some y)):=by
 have hl:i < ρ.length:=(List.getElem?_eq_some_iff.mp hi).1
 obtain⟨v',hv',rx⟩:=r.ents i x hi
 rw[hs] at hv';cases hv'
 obtain⟨_,hf,h0⟩:=rx.feet_at ha
 have oth:∀ {j:Nat} {z:En} {w:V},ρ[j]?=some (some z)->σ[j]?=some (some w)->j≠i->RepE K B F (upd H a o) z w/\feetE (upd H a o) z w=feetE H z w:=fun {j z w} e s hj=>by
  obtain⟨w',hw',rz⟩:=r.ents j z e
  rw[s] at hw';cases hw'
  exact rz.other (λhz=>r.dj i j x z v w hi e hs s (Ne.symm hj) a ha hz) h0
 refine⟨⟨r.ex.ff,λb u e=>?_,λb u e=>?_,r.ex.nw⟩,by simp[r.len],λj z e=>?_,λj k z w u t e1 e2 s1 s2 hne b hb hc=>?_⟩
 ·rw[zg (zu e h0)];exact r.ex.hh b u e
 ·rw[zg (zu e hf)];exact r.ex.fh b u e
 ·rcases zV e with⟨rfl,q,_⟩ | ⟨hj,e⟩
  ·cases q;exact⟨v,hs,hy⟩
  ·obtain⟨w,h1,_⟩:=r.ents j z e
   exact⟨w,h1,(oth e h1 hj).1⟩
 ·rcases zV e1 with⟨rfl,q1,_⟩ | ⟨hj,f1⟩<;>rcases zV e2 with⟨rfl,q2,_⟩ | ⟨hk,f2⟩
  ·exact hne rfl
  ·cases q1
   rw[hs] at s1;cases s1
   rw[(oth f2 s2 hk).2] at hc
   exact r.dj _ k x w v t hi f2 hs s2 hne b (hsub b hb) hc
  ·cases q2
   rw[hs] at s2;cases s2
   rw[(oth f1 s1 hj).2] at hb
   exact r.dj j _ z x u v f1 hi s1 hs hne b hb (hsub b hc)
  ·rw[(oth f1 s1 hj).2] at hb
   rw[(oth f2 s2 hk).2] at hc
   exact r.dj j k z w u t f1 f2 s1 s2 hne b hb hc
theorem Rep.write (r:Rep K B F σ H ρ){i:Nat}{x y:En}{a:Addr}{o:HO}(hi:ρ[i]?=some (some x))(ho:x.own=true)(hs:σ[i]?=some (some (.ref a)))(hf:F a=none)(h0:B.H0 a=none)(hy:RepE K B F (upd H a o) y (.ref a))(hyo:y.own=true) :
  Rep K B F σ (upd H a o) (ρ.set i (some y)) :=
 r.writeG hi hs (by rw[uA ho];simp) hy λb hb=>by rw[uA hyo] at hb;rw[uA ho];exact hb
theorem Rep.frzG (r:Rep K B F σ H ρ){i:Nat}{x:En}{v:V}{d:D}(hi:ρ[i]?=some (some x))(hs:σ[i]?=some (some v))(hd:Rp K (addF F H (feetE H x v)) d v):Rep K B (addF F H (feetE H x v)) σ H (ρ.set i (some (.val d))):=by
 obtain⟨v',hv',rx⟩:=r.ents i x hi
 rw[hs] at hv';cases hv'
 have sf:Same F (addF F H (feetE H x v)):=xZ λa ha=>(rx.feet_at ha).2.1
 have non:∀ {b:Addr},F b=none->b∉feetE H x v->addF F H (feetE H x v) b=none:=fun {b} h hn=>by unfold addF;rw[if_neg hn];exact h
 refine⟨⟨r.ex.ff.trans sf,r.ex.hh,λb u e=>?_,λb e=>?_⟩,by simp[r.len],λj z e=>?_,λj k z w u t e1 e2 s1 s2 hne b hb hc=>?_⟩
 ·unfold addF at e
  split at e
  ·exact e
  ·exact r.ex.fh b u e
 ·unfold addF at e
  split at e
  ·rename_i hb;exact .inr (rx.feet_at hb).2.2
  ·exact r.ex.nw b e
 ·rcases zV e with⟨rfl,q,_⟩ | ⟨hj,e⟩
  ·cases q;exact⟨v,hs,hd⟩
  ·obtain⟨w,h1,h2⟩:=r.ents j z e
   refine⟨w,h1,?_⟩
   have hx:∀b∈feetE H z w,b∉feetE H x v:=λb hb hc=>r.dj j i z x w v e hi h1 hs hj b hb hc
   cases z with
   |val d=>exact Rp.mono sf h2
   |bor ds=>obtain⟨b,vs,q1,q2,q3⟩:=h2;exact⟨b,vs,q1,q2,q3.mono sf⟩
   |acc ds=>
    obtain⟨b,vs,rfl,q2,q3,q4,q5⟩:=h2
    exact⟨b,vs,rfl,q2,non q3 (hx b (by simp[feetE])),q4,q5.mono sf⟩
   |oac b dx C fs ds=>
    obtain⟨vs,rfl,q2,ql,q3,q4,q5⟩:=h2
    exact⟨vs,rfl,q2,ql,non q3 (hx b (by simp[feetE])),q4,q5.mono sf⟩
   |tre t=>
    obtain⟨r1,r2,r3⟩:=h2
    exact⟨(RepO.ext sf (Same.refl H) r1).1,r2,λb hb=>⟨non (r3 b hb).1 (hx b hb),(r3 b hb).2⟩⟩
   |dct oa kvs=>
    obtain⟨b,ob,vs,rfl,q2,q3,q4,q5,q6⟩:=h2
    exact⟨b,ob,vs,rfl,q2,non q3 (hx b (by simp[feetE])),q4,q5.mono sf,q6⟩
   |dbo kvs=>obtain⟨b,ob,vs,q1,q2,q3⟩:=h2;exact⟨b,ob,vs,q1,q2,q3.mono sf⟩
 ·rcases zV e1 with⟨rfl,q1,_⟩ | ⟨hj,f1⟩
  ·cases q1;cases hb
  ·rcases zV e2 with⟨rfl,q2,_⟩ | ⟨hk,f2⟩
   ·cases q2;cases hc
   ·exact r.dj j k z w u t f1 f2 s1 s2 hne b hb hc
def frzE (i:Nat)(ρ:EnvD):EnvD:=match ρ[i]? with
 |some (some (.acc ds))=>ρ.set i (some (.val (.lst ds)))
 |some (some (.oac _ _ C fs ds))=>ρ.set i (some (.val (.obj C fs ds)))
 |some (some (.tre t))=>ρ.set i (some (.val t.erase))
 |_=>ρ
theorem Rep.frz (r:Rep K B F σ H ρ)(i:Nat):∃F',Same F F'/\Rep K B F' σ H (frzE i ρ):=by
 unfold frzE
 split
 ·rename_i ds hi
  obtain⟨v,hs,rx⟩:=r.ents i _ hi
  have sf:Same F (addF F H (feetE H (.acc ds) v)):=xZ λa ha=>(rx.feet_at ha).2.1
  refine⟨_,sf,r.frzG hi hs ?_⟩
  obtain⟨a,vs,rfl,e2,e3,e4,e5⟩:=rx
  exact⟨a,vs,rfl,by unfold addF;rw[if_pos (by simp[feetE])];exact e2,e5.mono sf⟩
 ·rename_i a dx C fs ds hi
  obtain⟨v,hs,rx⟩:=r.ents i _ hi
  have sf:Same F (addF F H (feetE H (.oac a dx C fs ds) v)):=xZ λb hb=>(rx.feet_at hb).2.1
  refine⟨_,sf,r.frzG hi hs ?_⟩
  obtain⟨vs,rfl,e2,el,e3,e4,e5⟩:=rx
  exact⟨a,dx,vs,rfl,by unfold addF;rw[if_pos (by simp[feetE])];exact e2,el,e5.mono sf⟩
 ·rename_i t hi
  obtain⟨v,hs,rx⟩:=r.ents i _ hi
  have sf:Same F (addF F H (feetE H (.tre t) v)):=xZ λb hb=>(rx.feet_at hb).2.1
  exact⟨_,sf,r.frzG hi hs (RepO.fz sf rx.1 λa ha=>ha)⟩
 ·exact⟨F,Same.refl _,r⟩
end
abbrev Post (α:Type):=Hp->Hp->Hp->Hp->α->V->Prop
def lG {α:Type}(K:KW)(B:Bs)(post:Post α)(g:EnvD->Option α):TE:=λσ H Q=>
 ∃F ρ x,Rep K B F σ H ρ/\g ρ=some x/\∀v F' H',Ext F H F' H'->post F H F' H' x v->Q v H'
def pE (K:KW):Post D:=λ_ _ F' _ d v=>Rp K F' d v
def pR (K:KW):Post D:=λ_ _ F' H' d v=>Rq K F' H' d v
def pA (K:KW):Post (List D):=λ_ H F' H' ds v=>∃a vs,v=.ref a/\H a=none/\H' a=some (.lst vs)/\F' a=none/\Rps K F' ds vs
def DE (X:Cx)(B:Bs)(e:Expr)(g:EnvD->Option D):Prop:=PE X e (lG X.kw B (pE X.kw) g)
def DR (X:Cx)(B:Bs)(e:Expr)(g:EnvD->Option D):Prop:=PE X e (lG X.kw B (pR X.kw) g)
def DA (X:Cx)(B:Bs)(e:Expr)(g:EnvD->Option (List D)):Prop:=PE X e (lG X.kw B (pA X.kw) g)
def lT (K:KW)(B:Bs)(g:EnvD->Option Bool):TT:=λσ H Q=>∃F ρ b,Rep K B F σ H ρ/\g ρ=some b/\∀F' H',Ext F H F' H'->Q b H'
def DT (X:Cx)(B:Bs)(e:Expr)(g:EnvD->Option Bool):Prop:=PT X e (lT X.kw B g)
def DW (X:Cx)(B:Bs)(e:Expr)(g:EnvD->Option Bool):Prop:=PW X e (lT X.kw B g)
def lAs (K:KW)(B:Bs)(post:Post D)(g:EnvD->Option (List D)):TA:=λσ H Q=>
 ∃F ρ ds,Rep K B F σ H ρ/\g ρ=some ds/\∀vs F' H',Ext F H F' H'->Paired (λd v=>post F H F' H' d v) ds vs->Q vs H'
def DAs (X:Cx)(B:Bs)(es:List Expr)(g:EnvD->Option (List D)):Prop:=PA X es (lAs X.kw B (pE X.kw) g)
def DRs (X:Cx)(B:Bs)(es:List Expr)(g:EnvD->Option (List D)):Prop:=PA X es (lAs X.kw B (pR X.kw) g)
section
variable {X:Cx}{B:Bs}{e a b c:Expr}{es:List Expr}{pos:Pos}
theorem pe_imp {t t':TE}(h:PE X e t)(k:∀σ H Q,t' σ H Q->t σ H Q):PE X e t':=λpins s σ H Q I q=>h pins s σ H Q I (k σ H Q q)
theorem wB {t t':TT}(h:PT X e t)(k:∀σ H Q,t' σ H Q->t σ H Q):PT X e t':=λpins s σ H Q I q=>h pins s σ H Q I (k σ H Q q)
theorem ZK {t t':TT}(h:PW X e t)(k:∀σ H Q,t' σ H Q->t σ H Q):PW X e t':=λwh pins s σ H Q I q=>h wh pins s σ H Q I (k σ H Q q)
theorem yk {t t':TA}(h:PA X es t)(k:∀σ H Q,t' σ H Q->t σ H Q):PA X es t':=λpo pins s σ H Q I q=>h po pins s σ H Q I (k σ H Q q)
theorem zC {st:Stmt}{t t':TS}(h:PS X st t)(k:∀E σ H,t' E σ H->t E σ H):PS X st t':=λpins s σ H E I q=>h pins s σ H E I (k E σ H q)
theorem xD {st:List Stmt}{t t':TS}(h:PSs X st t)(k:∀E σ H,t' E σ H->t E σ H):PSs X st t':=λpins s σ H E I q=>h pins s σ H E I (k E σ H q)
theorem jx {tg:Expr}{t t':TI}(h:PI X tg e t)(k:∀σ H Q,t' σ H Q->t σ H Q):PI X tg e t':=λpins s σ H Q I q=>h pins s σ H Q I (k σ H Q q)
theorem DE.read {g:EnvD->Option D}(h:DE X B e g):DR X B e g :=
 pe_imp h λσ H Q ⟨F,ρ,x,r,hg,k⟩=>⟨F,ρ,x,r,hg,λv F' H' e p=>k v F' H' e (.inl p)⟩
def gFz (g:EnvD->Option (List D)):EnvD->Option D:=λρ=>(g ρ).map D.lst
theorem DA.frz {g:EnvD->Option (List D)}(h:DA X B e g):DE X B e (gFz g) :=
 pe_imp h λσ H Q ⟨F,ρ,x,r,hg,k⟩=>by
  unfold gFz at hg
  cases q:g ρ with
  |none=>rw[q] at hg;cases hg
  |some ds=>
   rw[q] at hg;cases hg
   refine⟨F,ρ,ds,r,q,λv F' H' e p=>?_⟩
   obtain⟨a,vs,rfl,p1,p2,p3,p4⟩:=p
   exact k _ (upd F' a (.lst vs)) H' (e.freeze p1 p3 p2) ⟨a,vs,rfl,zk,p4.mono (yc p3)⟩
theorem DA.read {g:EnvD->Option (List D)}(h:DA X B e g):DR X B e (gFz g):=h.frz.read
def gv (i:Nat):EnvD->Option D:=λρ=>match ρ[i]? with
 |some (some (.val d))=>some d
 |_=>none
def gr (i:Nat):EnvD->Option D:=λρ=>match ρ[i]? with
 |some (some (.val d))=>some d
 |some (some (.acc ds))=>some (.lst ds)
 |some (some (.bor ds))=>some (.lst ds)
 |_=>none
theorem zx (i:Nat){x:Str}(h:PE X (.Name x pos) (tVar i)):DE X B (.Name x pos) (gv i) :=
 pe_imp h λσ H Q ⟨F,ρ,d,r,hg,k⟩=>by
  unfold gv at hg
  split at hg
  ·rename_i d' e
   cases hg
   obtain⟨v,h1,h2⟩:=r.ents i _ e
   exact⟨v,h1,k v F H (.refl r.fh) h2⟩
  ·cases hg
theorem za (i:Nat){x:Str}(h:PE X (.Name x pos) (tVar i)):DR X B (.Name x pos) (gr i) :=
 pe_imp h λσ H Q ⟨F,ρ,d,r,hg,k⟩=>by
  unfold gr at hg
  split at hg
  ·rename_i d' e
   cases hg
   obtain⟨v,h1,h2⟩:=r.ents i _ e
   exact⟨v,h1,k v F H (.refl r.fh) (.inl h2)⟩
  ·rename_i ds e
   cases hg
   obtain⟨v,h1,a,vs,e1,e2,e3,e4,e5⟩:=r.ents i _ e
   exact⟨v,h1,k v F H (.refl r.fh) (.inr ⟨a,vs,ds,rfl,e1,e2,e5⟩)⟩
  ·rename_i ds e
   cases hg
   obtain⟨v,h1,a,vs,e1,e2,e5⟩:=r.ents i _ e
   exact⟨v,h1,k v F H (.refl r.fh) (.inr ⟨a,vs,ds,rfl,e1,r.ex.hh _ _ e2,e5⟩)⟩
  ·cases hg
def gc (d:D):EnvD->Option D:=λ_=>some d
theorem jW {v:V}{d:D}(h:PE X e (tC v))(r:∀F,Rp X.kw F d v):DE X B e (gc d) :=
 pe_imp h λσ H Q ⟨F,ρ,d',rr,hg,k⟩=>by cases hg;exact k v F H (.refl rr.fh) (r F)
theorem de_int {i:Int} {j}:DE X B (.Constant (.int i) j pos) (gc (.int i)):=jW vT λ_=>rfl
theorem zU {i:Bool} {j}:DE X B (.Constant (.bool i) j pos) (gc (.bl i)):=jW Qn λ_=>rfl
theorem u7 {j}:DE X B (.Constant .none j pos) (gc .non):=jW zak λ_=>rfl
theorem uZ {x:Str} {j}:DE X B (.Constant (.str x) j pos) (gc (.str x)):=jW zal λ_=>rfl
theorem yT {x:Str}{v:V}{u:Value}{d:D}(hg:Gl X x)(hm:X.mg x=some u)(r:RelV v u)(rd:∀F,Rp X.kw F d v)(hd:(x==("__debug__" : Str))=false:=by decide):DE X B (.Name x pos) (gc d) :=
 pe_imp (Vm hg hm r hd) λσ H Q ⟨F,ρ,d',rr,hg,k⟩=>by cases hg;exact k v F H (.refl rr.fh) (rd F)
def g2 {γ:Type}(f:D->D->Option γ)(ga gb:EnvD->Option D):EnvD->Option γ:=λρ=>(ga ρ).bind λx=>(gb ρ).bind λy=>f x y
def OkR {γ:Type}(K:KW)(r:R2)(pc:Post γ)(f:D->D->Option γ):Prop :=
 ∀F H x y dx dy d Q,Same F H->Rq K F H dx x->Rq K F H dy y->f dx dy=some d->(∀v F' H',Ext F H F' H'->pc F H F' H' d v->Q v H')->r x y H Q
def Back {γ:Type}(pc:Post γ):Prop:=∀F H F1 H1 F' H' d v,Ext F H F1 H1->pc F1 H1 F' H' d v->pc F H F' H' d v
theorem xU {K:KW}:Back (pE K):=λ_ _ _ _ _ _ _ _ _ h=>h
theorem Yk {K:KW}:Back (pA K):=λ_ _ _ _ _ _ _ _ e ⟨a,vs,h1,h2,h⟩=>⟨a,vs,h1,e.hh.free h2,h⟩
theorem op2 {γ:Type}{r:R2}{pc:Post γ}{f:D->D->Option γ}(hb:Back pc)(hr:OkR X.kw r pc f){ga gb:EnvD->Option D}{σ:St}{H:Hp}{Q:VK}(h:lG X.kw B pc (g2 f ga gb) σ H Q) :
  tOp r (lG X.kw B (pR X.kw) ga) (lG X.kw B (pR X.kw) gb) σ H Q:=by
 obtain⟨F,ρ,d,rr,hg,k⟩:=h
 unfold g2 at hg
 cases qa:ga ρ with
 |none=>rw[qa] at hg;cases hg
 |some dx=>
  cases qb:gb ρ with
  |none=>rw[qa,qb] at hg;cases hg
  |some dy=>
   rw[qa,qb] at hg
   refine⟨F,ρ,dx,rr,qa,λx F1 H1 e1 p1=>⟨F1,ρ,dy,rr.ext e1,qb,λy F2 H2 e2 p2=>?_⟩⟩
   exact hr F2 H2 x y dx dy d Q e2.fh (p1.mono e2.ff e2.hh) p2 hg λv F' H' e p=>k v F' H' (e1.trans (e2.trans e)) (hb _ _ _ _ _ _ _ _ (e1.trans e2) p)
theorem yV {op:Operator}{r:R2}{f:D->D->Option D}{ga gb:EnvD->Option D}(ho:OpR X (binaryOp op) r)(hr:OkR X.kw r (pE X.kw) f)(ha:DR X B a ga)(hb:DR X B b gb):DE X B (.BinOp a op b pos) (g2 f ga gb) :=
 pe_imp (Wv ho ha hb) λσ H Q h=>op2 xU hr h
theorem QV {op:Operator}{r:R2}{f:D->D->Option (List D)}{ga gb:EnvD->Option D}(ho:OpR X (binaryOp op) r)(hr:OkR X.kw r (pA X.kw) f)(ha:DR X B a ga)(hb:DR X B b gb):DA X B (.BinOp a op b pos) (g2 f ga gb) :=
 pe_imp (Wv ho ha hb) λσ H Q h=>op2 Yk hr h
theorem xL {op:CmpOp}{r:R2}{f:D->D->Option D}{ga gb:EnvD->Option D}(ho:OpR X (compareOp op) r)(hr:OkR X.kw r (pE X.kw) f)(ha:DR X B a ga)(hb:DR X B b gb)(hm:behindInMarks op b=false):DE X B (.Compare a [op] [b] pos) (g2 f ga gb) :=
 pe_imp (Vq ho ha hb hm) λσ H Q h=>op2 xU hr h
theorem Up {r:R2}{f:D->D->Option D}{ga gb:EnvD->Option D}(ho:IxR X r)(hr:OkR X.kw r (pE X.kw) f)(ha:DR X B a ga)(hb:DR X B b gb)(hs:yK b):DE X B (.Subscript a b pos) (g2 f ga gb) :=
 pe_imp (wN ho ha hb hs) λσ H Q h=>op2 xU hr h
def fI (C:Int->Int->Bool)(f:Int->Int->D):D->D->Option D
 |.int i,.int j=>if C i j then some (f i j) else none
 |_,_=>none
theorem okI {K:KW}{C:Int->Int->Prop}{p:Int->Int->Bool}{f:Int->Int->D}{g:Int->Int->V}(hp:∀i j,p i j=true->C i j)(hf:∀i j F,Rp K F (f i j) (g i j)):OkR K (rI C g) (pE K) (fI p f):=by
 intro F H x y dx dy d Q s rx ry e k
 unfold fI at e
 split at e
 ·rename_i i j
  split at e
  ·rename_i hc
   cases e
   exact⟨i,j,rx.int,ry.int,hp i j hc,k _ F H (.refl s) (hf i j F)⟩
  ·cases e
 ·cases e
theorem okI0 {K:KW}{f:Int->Int->D}{g:Int->Int->V}(hf:∀i j F,Rp K F (f i j) (g i j)):OkR K (rI0 g) (pE K) (fI (λ_ _=>true) f):=by
 intro F H x y dx dy d Q s rx ry e k
 unfold fI at e
 split at e
 ·rename_i i j
  rw[if_pos rfl] at e
  cases e
  exact⟨i,j,rx.int,ry.int,k _ F H (.refl s) (hf i j F)⟩
 ·cases e
def fSub:=fI (λ_ _=>true) λi j=>.int (i - j)
def LIM:Int:=18446744073709551616
def fMul:=fI (λi j=>(decide (-LIM < i)&&decide (i < LIM))||(decide (-LIM < j)&&decide (j < LIM))) λi j=>.int (i * j)
def fDiv:=fI (λ_ j=>decide (0 < j)&&decide (j < 1073741824)) λi j=>.int (i / j)
def fMod:=fI (λ_ j=>decide (0 < j)) λi j=>.int (i % j)
def fShr:=fI (λ_ j=>decide (0<=j)) λi j=>.int (i / 2 ^ j.toNat)
def fAnd:=fI (λ_ _=>true) λi j=>.int (Builtin.bitAnd i j)
def fPow:=fI (λi j=>decide (0<=j)&&decide (j<=1000000)&&decide (i.natAbs < 18446744073709551616)) λi j=>.int (i ^ j.toNat)
variable {ga gb:EnvD->Option D}
theorem xV (ha:DR X B a ga)(hb:DR X B b gb):DE X B (.BinOp a .Sub b pos) (g2 fSub ga gb):=yV Kr (okI0 λ_ _ _=>rfl) ha hb
theorem xb (ha:DR X B a ga)(hb:DR X B b gb):DE X B (.BinOp a .Mult b pos) (g2 fMul ga gb):=yV zag (okI (λi j h=>by
 simp only[Bool.or_eq_true,Bool.and_eq_true,decide_eq_true_eq] at h
 unfold LIM at h
 rcases h with⟨h1,h2⟩ | ⟨h1,h2⟩
 ·exact .inl ⟨by omega,by omega⟩
 ·exact .inr ⟨by omega,by omega⟩) λ_ _ _=>rfl) ha hb
theorem yb (ha:DR X B a ga)(hb:DR X B b gb):DE X B (.BinOp a .FloorDiv b pos) (g2 fDiv ga gb):=yV G0 (okI (λi j h=>by
 simp only[Bool.and_eq_true,decide_eq_true_eq] at h
 exact h) λ_ _ _=>rfl) ha hb
theorem zF (ha:DR X B a ga)(hb:DR X B b gb):DE X B (.BinOp a .Mod b pos) (g2 fMod ga gb):=yV Gy (okI (λi j h=>by
 simp only[decide_eq_true_eq] at h
 exact h) λ_ _ _=>rfl) ha hb
theorem Km (ha:DR X B a ga)(hb:DR X B b gb):DE X B (.BinOp a .RShift b pos) (g2 fShr ga gb):=yV GO (okI (λi j h=>by
 simp only[decide_eq_true_eq] at h
 exact h) λ_ _ _=>rfl) ha hb
theorem KC (ha:DR X B a ga)(hb:DR X B b gb):DE X B (.BinOp a .BitAnd b pos) (g2 fAnd ga gb):=yV R4 (okI0 λ_ _ _=>rfl) ha hb
theorem Gc (ha:DR X B a ga)(hb:DR X B b gb):DE X B (.BinOp a .Pow b pos) (g2 fPow ga gb):=yV QX (okI (λi j h=>by
 simp only[Bool.and_eq_true,decide_eq_true_eq] at h
 exact⟨h.1.1,h.1.2,by have:=h.2;omega⟩) λ_ _ _=>rfl) ha hb
def fLt:=fI (λ_ _=>true) λi j=>.bl (decide (i < j))
def fLe:=fI (λ_ _=>true) λi j=>.bl (decide (i<=j))
def fGt:=fI (λ_ _=>true) λi j=>.bl (decide (j < i))
theorem xO {K:KW}:OkR K (rI0 λi j=>.bl (decide (i < j))) (pE K) fLt:=okI0 λ_ _ _=>rfl
theorem w5 {K:KW}:OkR K (rI0 λi j=>.bl (decide (i<=j))) (pE K) fLe:=okI0 λ_ _ _=>rfl
theorem vm {K:KW}:OkR K (rI0 λi j=>.bl (decide (j < i))) (pE K) fGt:=okI0 λ_ _ _=>rfl
def TOP:Nat:=1000000
theorem ym {n:Nat}(h:n<=TOP):n<=sizeLine:=Nat.le_trans h (by decide)
theorem ZI {n:Nat}(h:n<=TOP):n < sizeLine:=Nat.lt_of_le_of_lt h (by decide)
def fIx:D->D->Option D
 |.lst xs,.int i=>atI xs i
 |.tup xs,.int i=>atI xs i
 |.scr ns,.int i=>(atI ns i).map D.int
 |_,_=>none
theorem YF {K:KW}{F:Hp}{ds:List D}{vs:List V}{i:Int}{d:D}(r:Rps K F ds vs)(h:atI ds i=some d):∃v,atI vs i=some v/\Rp K F d v:=by
 unfold atI at h ⊢
 rw[<-r.length]
 cases q:ixN ds.length i with
 |none=>rw[q] at h;cases h
 |some j=>rw[q] at h;exact r.get h
theorem qU {K:KW}:OkR K (rIx K) (pE K) fIx:=by
 intro F H x y dx dy d Q s rx ry e k
 unfold fIx at e
 split at e
 ·rename_i xs i
  obtain⟨p,vs,rfl,h1,h2⟩:=rx.lst s
  obtain⟨v,h3,h4⟩:=YF h2 e
  exact .inl ⟨p,vs,i,v,rfl,ry.int,.of h1,h3,k _ F H (.refl s) h4⟩
 ·rename_i xs i
  obtain⟨p,vs,rfl,h1,h2⟩:=rx.tup s
  obtain⟨v,h3,h4⟩:=YF h2 e
  exact .inr (.inl ⟨p,vs,i,v,rfl,ry.int,.of h1,h3,k _ F H (.refl s) h4⟩)
 ·rename_i ns i
  obtain⟨p,rfl,h1⟩:=rx.scr s
  cases q:atI ns i with
  |none=>rw[q] at e;cases e
  |some n=>
   rw[q] at e
   cases e
   refine .inl ⟨p,_,i,.int n,rfl,ry.int,h1,?_,k _ F H (.refl s) rfl⟩
   unfold atI at q ⊢
   rw[List.length_map]
   cases q':ixN ns.length i with
   |none=>rw[q'] at q;cases q
   |some j=>
    rw[q'] at q
    have q:ns[j]?=some n:=q
    show (ns.map V.int)[j]?=some (.int n)
    rw[List.getElem?_map,q];rfl
 ·cases e
end
mutual
def toP:D->PyData
 |.non=>.none
 |.bl b=>.bool b
 |.int i=>.int i
 |.str x=>.str x
 |.lst ds=>.list (toPs ds)
 |.tup ds=>.tuple (toPs ds)
 |.scr ns=>.list (ns.map PyData.int)
 |.obj _ _ _=>.dict []
def toPs:List D->List PyData
 | []=>[]
 |d::ds=>toP d::toPs ds
end
section
variable {X:Cx}{pins:List (Addr×Obj)}{σ:St}{F H:Hp}{s:Shared}
theorem YO {h:Heap}:∀(ns:List Int){us:List Value},Vals (ns.map V.int) us->∃as,ReadsAll h us (ns.map PyData.int) as
 | [],_,.nil=>⟨_,.nil⟩
 |n::ns,_,.cons r t=>by
  obtain⟨t',rfl⟩:=r
  obtain⟨as,q⟩:=YO ns t
  exact⟨_,.cons (.int n t') q⟩
mutual
theorem Rp.reads (I:Inv X pins σ H s)(fh:Same F H):∀(d:D){v:V}{u:Value},(toP d).canLay0=true->Rp X.kw F d v->RelV v u->∃as,Reads s.heap u (toP d) as
 |.non,_,_,_,h,r=>by subst h;cases r;exact⟨_,.none⟩
 |.bl b,_,_,_,h,r=>by subst h;cases r;exact⟨_,.bool b⟩
 |.int i,_,_,_,h,r=>by subst h;obtain⟨t,rfl⟩:=r;exact⟨_,.int i t⟩
 |.str x,_,_,_,h,r=>by subst h;obtain⟨t,rfl⟩:=r;exact⟨_,.str x t⟩
 |.lst ds,_,_,c,⟨a,vs,e,q,h⟩,r=>by
  subst e;cases r
  obtain⟨z,its,n,rv,e⟩:=(show ObjOk X.prog X.w H s.heap a (.lst vs) from I.hok a _ (fh _ _ q))
  obtain⟨as,t⟩:=Rps.reads I fh ds (show PyData.canLayAll0 (toPs ds)=true from c) h rv
  exact⟨_,.list e rfl rfl (by simpa using t)⟩
 |.tup ds,_,_,c,⟨a,vs,e,q,h⟩,r=>by
  subst e;cases r
  obtain⟨z,its,rv,o,e,hc,n,hd⟩:=(show ObjOk X.prog X.w H s.heap a (.tup vs) from I.hok a _ (fh _ _ q))
  obtain⟨as,t⟩:=Rps.reads I fh ds (show PyData.canLayAll0 (toPs ds)=true from c) h rv
  exact⟨_,.tuple e hc hd (by simpa using t)⟩
 |.scr ns,_,_,c,⟨a,e,q⟩,r=>by
  subst e;cases r
  obtain⟨its,rv,⟨o,n,e,hc,_,hd⟩,_⟩:=I.list (fh.seq q)
  obtain⟨as,t⟩:=YO (h:=s.heap) ns rv
  exact⟨_,.list e hc hd (by simpa using t)⟩
 |.obj _ _ _,_,_,c,_,_=>by cases c
theorem Rps.reads (I:Inv X pins σ H s)(fh:Same F H):∀(ds:List D){vs:List V}{us:List Value},PyData.canLayAll0 (toPs ds)=true->Rps X.kw F ds vs->Vals vs us->∃as,ReadsAll s.heap us (toPs ds) as
 | [],_,_,_,h,r=>by subst h;cases r;exact⟨_,.nil⟩
 |d::ds,_,_,c,⟨v,w,e,h,t⟩,r=>by
  subst e
  cases r with
  |cons r rr=>
   have c':((toP d).canLay0&&PyData.canLayAll0 (toPs ds))=true:=c
   obtain⟨c1,c2⟩:=Bool.and_eq_true_iff.mp c'
   obtain⟨as,q⟩:=Rp.reads I fh d c1 h r
   obtain⟨bs,p⟩:=Rps.reads I fh ds c2 t rr
   exact⟨_,.cons q p⟩
end
theorem Rq.reads (I:Inv X pins σ H s)(fh:Same F H){d:D}{v:V}{u:Value}(c:(toP d).canLay0=true)(h:Rq X.kw F H d v)(r:RelV v u):∃as,Reads s.heap u (toP d) as:=by
 rcases h with h | ⟨a,vs,ds,rfl,rfl,e,h⟩
 ·exact h.reads I fh d c r
 ·cases r
  obtain⟨z,its,n,rv,e⟩:=(show ObjOk X.prog X.w H s.heap a (.lst vs) from I.hok a _ e)
  obtain⟨as,t⟩:=Rps.reads I fh ds (show PyData.canLayAll0 (toPs ds)=true from c) h rv
  exact⟨_,.list e rfl rfl (by simpa using t)⟩
end
def eqOk (d:D):Bool:=SeqAt.shaped (toP d)
def eqD (d d':D):Bool:=PyData.eqv (toP d) (toP d')
def rEqD (K:KW)(neg:Bool):R2:=λx y H Q=>∃F d d',Same F H/\Rq K F H d x/\Rq K F H d' y/\eqOk d=true/\eqOk d'=true/\Q (.bl (if neg then !eqD d d' else eqD d d')) H
section
variable {X:Cx}{B:Bs}{e a b c:Expr}{es:List Expr}{pos:Pos}{ga gb:EnvD->Option D}
theorem yi (hu:X.A.units+64 < cLine):OpR X (compareOp .Eq) (rEqD X.kw false):=by
 intro pins s σ H x y v u Q I rx ry ⟨F,d,d',fh,h1,h2,o1,o2,q⟩
 obtain⟨as,ra⟩:=h1.reads I fh (SeqAt.canLay_of_shaped o1) rx
 obtain⟨bs,rb⟩:=h2.reads I fh (SeqAt.canLay_of_shaped o2) ry
 exact SeqAt.compareEq_shaped ra rb o1 o2 hu ⟨.bl (eqD d d'),H,I,rfl,q⟩
theorem yo (hu:X.A.units+64 < cLine):OpR X (compareOp .NotEq) (rEqD X.kw true):=by
 intro pins s σ H x y v u Q I rx ry ⟨F,d,d',fh,h1,h2,o1,o2,q⟩
 obtain⟨as,ra⟩:=h1.reads I fh (SeqAt.canLay_of_shaped o1) rx
 obtain⟨bs,rb⟩:=h2.reads I fh (SeqAt.canLay_of_shaped o2) ry
 exact SeqAt.compareNe_shaped ra rb o1 o2 hu ⟨.bl (!eqD d d'),H,I,rfl,q⟩
def fEq (neg:Bool):D->D->Option D:=λx y=>if eqOk x&&eqOk y then some (.bl (if neg then !eqD x y else eqD x y)) else none
theorem zH {K:KW}{neg:Bool}:OkR K (rEqD K neg) (pE K) (fEq neg):=by
 intro F H x y dx dy d Q s rx ry e k
 unfold fEq at e
 split at e
 ·rename_i hc
  cases e
  obtain⟨h1,h2⟩:=Bool.and_eq_true_iff.mp hc
  exact⟨F,dx,dy,s,rx,ry,h1,h2,k _ F H (.refl s) rfl⟩
 ·cases e
def isNon:D->Bool
 |.non=>true
 |_=>false
theorem Jp {K:KW}{F H:Hp}{d:D}{v:V}(r:Rq K F H d v):decide (v=.non)=isNon d:=by
 rcases r with r | ⟨a,vs,ds,rfl,rfl,_⟩
 ·cases d with
  |non=>cases r;rfl
  |bl b=>cases r;rfl
  |int b=>cases r;rfl
  |str b=>cases r;rfl
  |lst ds=>obtain⟨a,vs,rfl,_⟩:=r;rfl
  |tup ds=>obtain⟨a,vs,rfl,_⟩:=r;rfl
  |scr ds=>obtain⟨a,rfl,_⟩:=r;rfl
  |obj C f ds=>obtain⟨a,dx,vs,rfl,_⟩:=r;rfl
 ·rfl
def fIs (neg:Bool):D->D->Option D
 |d,.non=>some (.bl (if neg then !isNon d else isNon d))
 |_,_=>none
theorem ZW {K:KW}:OkR K (λx y H Q=>y=.non/\Q (.bl (decide (x=.non))) H) (pE K) (fIs false):=by
 intro F H x y dx dy d Q s rx ry e k
 unfold fIs at e
 split at e
 ·cases e
  refine⟨ry.non,?_⟩
  rw[Jp rx]
  exact k _ F H (.refl s) rfl
 ·cases e
def asB:D->Option Bool
 |.bl b=>some b
 |_=>none
def truD:D->Option Bool
 |.non=>some false
 |.bl b=>some b
 |.int i=>some (i != 0)
 |.str x=>if x.length<=TOP then some ((x.length:Int) != 0) else none
 |.lst ds=>some (!ds.isEmpty)
 |.tup ds=>some (!ds.isEmpty)
 |.scr ns=>some (!ns.isEmpty)
 |.obj _ _ _=>none
theorem W0 {K:KW}{F:Hp}{ds:List D}{vs:List V}(r:Rps K F ds vs):ds.isEmpty=vs.isEmpty:=by
 have:=r.length
 cases ds<;>cases vs<;>simp_all
theorem Rw {K:KW}{F H:Hp}(s:Same F H){d:D}{v:V}{b:Bool}(r:Rq K F H d v)(h:truD d=some b):TruV K v H b:=by
 cases d with
 |non=>cases r.non;cases h;rfl
 |bl x=>cases r.bl;cases h;rfl
 |int x=>cases r.int;cases h;rfl
 |str x=>
  cases r.str
  have h:(if x.length<=TOP then some ((x.length:Int) != 0) else none)=some b:=h
  split at h
  ·rename_i hc;cases h;exact⟨ym hc,rfl⟩
  ·cases h
 |lst ds=>obtain⟨a,vs,rfl,q,t⟩:=r.lst s;cases h;exact .inl ⟨vs,.of q,by rw[W0 t]⟩
 |tup ds=>obtain⟨a,vs,rfl,q,t⟩:=r.tup s;cases h;exact .inr (.inl ⟨vs,.of q,by rw[W0 t]⟩)
 |scr ns=>obtain⟨a,rfl,q⟩:=r.scr s;cases h;exact .inl ⟨_,q,by simp⟩
 |obj C f ds=>cases h
def gt (g:EnvD->Option D):EnvD->Option Bool:=λρ=>(g ρ).bind truD
def gb' (g:EnvD->Option D):EnvD->Option Bool:=λρ=>(g ρ).bind asB
theorem zK {g:EnvD->Option D}(ha:DR X B a g)(he:∀whole,isTrue a X.env whole=(do let v <-whole;standAt a.pos;holding [v] (truthy v))):DT X B a (gt g) :=
 wB (Uv ha he) λσ H Q ⟨F,ρ,b,r,hg,k⟩=>by
  unfold gt at hg
  cases q:g ρ with
  |none=>rw[q] at hg;cases hg
  |some d=>
   rw[q] at hg
   exact⟨F,ρ,d,r,q,λv F' H' e p=>⟨b,Rw e.fh p hg,k F' H' e⟩⟩
theorem zq {op:CmpOp}{r:R2}{f:D->D->Option D}(ho:OpR X (compareOp op) r)(hr:OkR X.kw r (pE X.kw) f)(ha:DR X B a ga)(hb:DR X B b gb)(hm:behindInMarks op b=false):DT X B (.Compare a [op] [b] pos) (gb' (g2 f ga gb)) :=
 wB (ZG ho ha hb hm) λσ H Q ⟨F,ρ,c,rr,hg,k⟩=>by
  unfold gb' at hg
  cases q:g2 f ga gb ρ with
  |none=>rw[q] at hg;cases hg
  |some d=>
   rw[q] at hg
   refine op2 xU hr ⟨F,ρ,d,rr,q,λv F' H' e p=>?_⟩
   cases d with
   |bl y=>cases hg;exact⟨c,p,k F' H' e⟩
   |_=>cases hg
def gAnd (ga gb:EnvD->Option Bool):EnvD->Option Bool:=λρ=>(ga ρ).bind λx=>if x then gb ρ else some false
def gOr (ga gb:EnvD->Option Bool):EnvD->Option Bool:=λρ=>(ga ρ).bind λx=>if x then some true else gb ρ
def gNot (ga:EnvD->Option Bool):EnvD->Option Bool:=λρ=>(ga ρ).map λx=>!x
variable {ta tb:EnvD->Option Bool}{rest:List Expr}
theorem uN (ha:DT X B a ta):DW X B (.BoolOp .And [a] pos) ta:=U2 ha
theorem yq (ha:DT X B a ta):DW X B (.BoolOp .Or [a] pos) ta:=QJ ha
theorem kq (ha:DT X B a ta)(hb:DW X B (.BoolOp .And (b::rest) pos) tb):DW X B (.BoolOp .And (a::b::rest) pos) (gAnd ta tb) :=
 ZK (UW ha hb) λσ H Q ⟨F,ρ,c,r,hg,k⟩=>by
  unfold gAnd at hg
  cases q:ta ρ with
  |none=>rw[q] at hg;cases hg
  |some x=>
   rw[q] at hg
   refine⟨F,ρ,x,r,q,λF1 H1 e1=>?_⟩
   cases x with
   |true=>exact iteT ⟨F1,ρ,c,r.ext e1,hg,λF2 H2 e2=>k F2 H2 (e1.trans e2)⟩
   |false=>cases hg;exact iteF (k F1 H1 e1)
theorem zZ (ha:DT X B a ta)(hb:DW X B (.BoolOp .Or (b::rest) pos) tb):DW X B (.BoolOp .Or (a::b::rest) pos) (gOr ta tb) :=
 ZK (Ug ha hb) λσ H Q ⟨F,ρ,c,r,hg,k⟩=>by
  unfold gOr at hg
  cases q:ta ρ with
  |none=>rw[q] at hg;cases hg
  |some x=>
   rw[q] at hg
   refine⟨F,ρ,x,r,q,λF1 H1 e1=>?_⟩
   cases x with
   |true=>cases hg;exact iteT (k F1 H1 e1)
   |false=>exact iteF ⟨F1,ρ,c,r.ext e1,hg,λF2 H2 e2=>k F2 H2 (e1.trans e2)⟩
theorem ye (h:DW X B a ta):DT X B a ta:=PW.pt h
theorem zX (ha:DT X B a ta):DT X B (.UnaryOp .Not a pos) (gNot ta) :=
 wB (US ha) λσ H Q ⟨F,ρ,c,r,hg,k⟩=>by
  unfold gNot at hg
  cases q:ta ρ with
  |none=>rw[q] at hg;cases hg
  |some x=>rw[q] at hg;cases hg;exact⟨F,ρ,x,r,q,λF1 H1 e1=>k F1 H1 e1⟩
def gAndV (ga gb:EnvD->Option D):EnvD->Option D:=λρ=>((ga ρ).bind asB).bind λx=>if x then gb ρ else some (.bl false)
def gNotV (ga:EnvD->Option D):EnvD->Option D:=λρ=>((ga ρ).bind asB).map λx=>.bl (!x)
theorem jf {d:D}{b:Bool}(h:asB d=some b):d=.bl b:=by cases d<;>cases h;rfl
theorem bindB {g:EnvD->Option D}{ρ:EnvD}{α:Type}{f:Bool->Option α}{y:α}(h:((g ρ).bind asB).bind f=some y):∃b,g ρ=some (.bl b)/\f b=some y:=by
 cases q:g ρ with
 |none=>rw[q] at h;cases h
 |some d=>
  rw[q] at h
  cases q2:asB d with
  |none=>rw[show (some d).bind asB=asB d from rfl,q2] at h;cases h
  |some b=>rw[show (some d).bind asB=asB d from rfl,q2] at h;exact⟨b,by rw[jf q2],h⟩
theorem ww {op}(h:DE X B a ga):DE X B (.BoolOp op [a] pos) ga:=Zj h
theorem xE (ha:DE X B a ga)(hb:DE X B (.BoolOp .And (b::rest) pos) gb):DE X B (.BoolOp .And (a::b::rest) pos) (gAndV ga gb) :=
 pe_imp (ZM ha hb) λσ H Q ⟨F,ρ,d,r,hg,k⟩=>by
  obtain⟨x,q,hg⟩:=bindB hg
  refine⟨F,ρ,_,r,q,λv F1 H1 e1 p1=>⟨x,p1,?_⟩⟩
  cases x with
  |true=>exact iteT ⟨F1,ρ,d,r.ext e1,hg,λv F2 H2 e2 p2=>k v F2 H2 (e1.trans e2) p2⟩
  |false=>cases hg;exact iteF (k _ F1 H1 e1 rfl)
theorem WE (ha:DE X B a ga):DE X B (.UnaryOp .Not a pos) (gNotV ga) :=
 pe_imp (RJ ha) λσ H Q ⟨F,ρ,d,r,hg,k⟩=>by
  unfold gNotV at hg
  rw[Option.map_eq_bind] at hg
  obtain⟨x,q,hg⟩:=bindB hg
  cases hg
  exact⟨F,ρ,_,r,q,λv F1 H1 e1 p1=>⟨x,p1,k _ F1 H1 e1 rfl⟩⟩
def gIf (t:EnvD->Option Bool)(ga gb:EnvD->Option D):EnvD->Option D:=λρ=>(t ρ).bind λx=>if x then ga ρ else gb ρ
theorem Vw (ht:DT X B c ta)(ha:DE X B a ga)(hb:DE X B b gb):DE X B (.IfExp c a b pos) (gIf ta ga gb) :=
 pe_imp (Qp ht ha hb) λσ H Q ⟨F,ρ,d,r,hg,k⟩=>by
  unfold gIf at hg
  cases q:ta ρ with
  |none=>rw[q] at hg;cases hg
  |some x=>
   rw[q] at hg
   refine⟨F,ρ,x,r,q,λF1 H1 e1=>?_⟩
   cases x with
   |true=>exact iteT ⟨F1,ρ,d,r.ext e1,hg,λv F2 H2 e2 p2=>k v F2 H2 (e1.trans e2) p2⟩
   |false=>exact iteF ⟨F1,ρ,d,r.ext e1,hg,λv F2 H2 e2 p2=>k v F2 H2 (e1.trans e2) p2⟩
end
section
variable {X:Cx}{B:Bs}{e a b c:Expr}{es:List Expr}{pos:Pos}{ga gb gc':EnvD->Option D}
def g3 (f f':D->D->Option D)(ga gb gc:EnvD->Option D):EnvD->Option D:=λρ=>
 (ga ρ).bind λx=>(gb ρ).bind λy=>((f x y).bind asB).bind λk=>if k then (gc ρ).bind λz=>f' y z else some (.bl false)
theorem YG {r r':R2}{f f':D->D->Option D}(hr:OkR X.kw r (pE X.kw) f)(hr':OkR X.kw r' (pE X.kw) f'){σ:St}{H:Hp}{Q:VK}(h:lG X.kw B (pE X.kw) (g3 f f' ga gb gc') σ H Q) :
  tChain r r' (lG X.kw B (pR X.kw) ga) (lG X.kw B (pR X.kw) gb) (lG X.kw B (pR X.kw) gc') σ H Q:=by
 obtain⟨F,ρ,d,rr,hg,k⟩:=h
 unfold g3 at hg
 cases qa:ga ρ with
 |none=>rw[qa] at hg;cases hg
 |some dx=>
  cases qb:gb ρ with
  |none=>rw[qa,qb] at hg;cases hg
  |some dy=>
   rw[qa,qb] at hg
   have hg:((f dx dy).bind asB).bind (λk=>if k then (gc' ρ).bind λz=>f' dy z else some (.bl false))=some d:=hg
   cases qf:f dx dy with
   |none=>rw[qf] at hg;cases hg
   |some z=>
    rw[qf] at hg
    cases qz:asB z with
    |none=>rw[show (some z).bind asB=asB z from rfl,qz] at hg;cases hg
    |some kk=>
     rw[show (some z).bind asB=asB z from rfl,qz] at hg
     rw[jf qz] at qf
     refine⟨F,ρ,dx,rr,qa,λx F1 H1 e1 p1=>⟨F1,ρ,dy,rr.ext e1,qb,λy F2 H2 e2 p2=>?_⟩⟩
     refine hr F2 H2 x y dx dy _ _ e2.fh (p1.mono e2.ff e2.hh) p2 qf λv F3 H3 e3 p3=>⟨kk,p3,?_⟩
     have hg:(if kk=true then (gc' ρ).bind λz=>f' dy z else some (.bl false))=some d:=hg
     cases kk with
     |false=>rw[if_neg (by decide)] at hg;cases hg;exact iteF (k _ F3 H3 (e1.trans (e2.trans e3)) rfl)
     |true=>
      rw[if_pos rfl] at hg
      refine iteT ?_
      cases qc:gc' ρ with
      |none=>rw[qc] at hg;cases hg
      |some dz=>
       rw[qc] at hg
       refine⟨F3,ρ,dz,rr.ext (e1.trans (e2.trans e3)),qc,λw F4 H4 e4 p4=>?_⟩
       exact hr' F4 H4 y w dy dz d Q e4.fh ((p2.mono e3.ff e3.hh).mono e4.ff e4.hh) p4 hg λv F5 H5 e5 p5=>k v F5 H5 (e1.trans (e2.trans (e3.trans (e4.trans e5)))) p5
theorem Jf {op op':CmpOp}{r r':R2}{f f':D->D->Option D}(ho:OpR X (compareOp op) r)(ho':OpR X (compareOp op') r')(hr:OkR X.kw r (pE X.kw) f)(hr':OkR X.kw r' (pE X.kw) f')(ha:DR X B a ga)(hb:DR X B b gb)(hc:DR X B c gc')
  (hm:lastMarks [op,op'] [b,c]=false:=by with_unfolding_all rfl):DE X B (.Compare a [op,op'] [b,c] pos) (g3 f f' ga gb gc') :=
 pe_imp (UI ho ho' ha hb hc hm) λσ H Q h=>YG hr hr' h
theorem QI {op op':CmpOp}{r r':R2}{f f':D->D->Option D}(ho:OpR X (compareOp op) r)(ho':OpR X (compareOp op') r')(hr:OkR X.kw r (pE X.kw) f)(hr':OkR X.kw r' (pE X.kw) f')(ha:DR X B a ga)(hb:DR X B b gb)(hc:DR X B c gc')
  (hm:lastMarks [op,op'] [b,c]=false:=by with_unfolding_all rfl):DT X B (.Compare a [op,op'] [b,c] pos) (gb' (g3 f f' ga gb gc')) :=
 wB (JB ho ho' ha hb hc hm) λσ H Q ⟨F,ρ,c,rr,hg,k⟩=>by
  unfold gb' at hg
  cases q:g3 f f' ga gb gc' ρ with
  |none=>rw[q] at hg;cases hg
  |some d=>
   rw[q] at hg
   rw[jf (show asB d=some c from hg)] at q
   exact YG hr hr' ⟨F,ρ,_,rr,q,λv F' H' e p=>⟨c,p,k F' H' e⟩⟩
def gNil:EnvD->Option (List D):=λ_=>some []
def gCons' (g:EnvD->Option D)(gs:EnvD->Option (List D)):EnvD->Option (List D):=λρ=>(g ρ).bind λd=>(gs ρ).bind λds=>some (d::ds)
variable {g:EnvD->Option D}{gs:EnvD->Option (List D)}
theorem zG:DAs X B [] gNil:=yk zS λσ H Q ⟨F,ρ,ds,r,hg,k⟩=>by cases hg;exact k [] F H (.refl r.fh) .nil
theorem zy:DRs X B [] gNil:=yk zS λσ H Q ⟨F,ρ,ds,r,hg,k⟩=>by cases hg;exact k [] F H (.refl r.fh) .nil
theorem bind2 {α β γ:Type}{o:Option α}{p:Option β}{f:α->β->Option γ}{z:γ}(h:(o.bind λx=>p.bind λy=>f x y)=some z):∃x y,o=some x/\p=some y/\f x y=some z:=by
 cases o with
 |none=>cases h
 |some x=>
  cases p with
  |none=>cases h
  |some y=>exact⟨x,y,rfl,rfl,h⟩
theorem zt (ha:DE X B e g)(hr:DAs X B es gs)(hs:starEach (e::es) X.env=(false,eval e X.env)::starEach es X.env:=by rfl):DAs X B (e::es) (gCons' g gs) :=
 yk (zJ ha hr hs) λσ H Q ⟨F,ρ,ds,r,hg,k⟩=>by
  obtain⟨d,dr,q1,q2,q3⟩:=bind2 hg
  cases q3
  exact⟨F,ρ,d,r,q1,λv F1 H1 e1 p1=>⟨F1,ρ,dr,r.ext e1,q2,λvs F2 H2 e2 p2=>k _ F2 H2 (e1.trans e2) (.cons (Rp.mono e2.ff p1) p2)⟩⟩
theorem z7 (ha:DR X B e g)(hr:DRs X B es gs)(hs:starEach (e::es) X.env=(false,eval e X.env)::starEach es X.env:=by rfl):DRs X B (e::es) (gCons' g gs) :=
 yk (zJ ha hr hs) λσ H Q ⟨F,ρ,ds,r,hg,k⟩=>by
  obtain⟨d,dr,q1,q2,q3⟩:=bind2 hg
  cases q3
  exact⟨F,ρ,d,r,q1,λv F1 H1 e1 p1=>⟨F1,ρ,dr,r.ext e1,q2,λvs F2 H2 e2 p2=>k _ F2 H2 (e1.trans e2) (.cons (p1.mono e2.ff e2.hh) p2)⟩⟩
theorem vo {K:KW}{F:Hp}:∀ {ds:List D}{vs:List V},Paired (λd v=>Rp K F d v) ds vs->Rps K F ds vs
 |_,_,.nil=>rfl
 |_,_,.cons r t=>⟨_,_,rfl,r,vo t⟩
def gTup' (gs:EnvD->Option (List D)):EnvD->Option D:=λρ=>(gs ρ).bind λds=>if ds.length<=TOP then some (.tup ds) else none
def gLst (gs:EnvD->Option (List D)):EnvD->Option (List D):=λρ=>(gs ρ).bind λds=>if ds.length<=TOP then some ds else none
theorem yu {x1}(h:DAs X B es gs):DE X B (.Tuple es x1 pos) (gTup' gs) :=
 pe_imp (kh h) λσ H Q ⟨F,ρ,d,r,hg,k⟩=>by
  unfold gTup' at hg
  cases q:gs ρ with
  |none=>rw[q] at hg;cases hg
  |some ds=>
   rw[q] at hg
   have hg:(if ds.length<=TOP then some (D.tup ds) else none)=some d:=hg
   split at hg
   ·rename_i hc
    cases hg
    refine⟨F,ρ,ds,r,q,λvs F1 H1 e1 p1=>⟨ym (by rw[<-(vo p1).length];exact hc),λp hp=>?_⟩⟩
    exact k _ (upd F1 p (.tup vs)) _ (e1.trans (.newF e1.fh hp)) ⟨p,vs,rfl,zk,(vo p1).mono (yc (e1.fh.free hp))⟩
   ·cases hg
theorem ya (h:DAs X B es gs):DA X B (.List es pos) (gLst gs) :=
 pe_imp (Ke h) λσ H Q ⟨F,ρ,d,r,hg,k⟩=>by
  unfold gLst at hg
  cases q:gs ρ with
  |none=>rw[q] at hg;cases hg
  |some ds=>
   rw[q] at hg
   have hg:(if ds.length<=TOP then some ds else none)=some d:=hg
   split at hg
   ·rename_i hc
    cases hg
    refine⟨F,ρ,_,r,q,λvs F1 H1 e1 p1=>⟨ym (by rw[<-(vo p1).length];exact hc),λp hp=>?_⟩⟩
    exact k _ F1 _ (e1.trans (.new e1.fh hp)) ⟨p,vs,rfl,e1.hh.free hp,zk,e1.fh.free hp,vo p1⟩
   ·cases hg
def lO (K:KW)(B:Bs)(g:EnvD->Option (Option Int)):TO:=λσ H Q=>∃F ρ i,Rep K B F σ H ρ/\g ρ=some i/\∀F' H',Ext F H F' H'->Q i H'
def DO (X:Cx)(B:Bs)(e:Option Expr)(g:EnvD->Option (Option Int)):Prop:=PO X e (lO X.kw B g)
theorem V3 {e:Option Expr}{t t':TO}(h:PO X e t)(k:∀σ H Q,t' σ H Q->t σ H Q):PO X e t':=λpins s σ H Q I q=>h pins s σ H Q I (k σ H Q q)
def gNone:EnvD->Option (Option Int):=λ_=>some none
theorem x5:DO X B none gNone:=V3 RW λσ H Q ⟨F,ρ,i,r,hg,k⟩=>by cases hg;exact k F H (.refl r.fh)
def asI:D->Option Int
 |.int i=>some i
 |_=>none
theorem uz {d:D}{i:Int}(h:asI d=some i):d=.int i:=by cases d<;>cases h;rfl
def gSome (g:EnvD->Option D):EnvD->Option (Option Int):=λρ=>(g ρ).bind λd=>(asI d).map some
theorem yD (h:DR X B e g):DO X B (some e) (gSome g):=V3 (UO h) λσ H Q ⟨F,ρ,i,r,hg,k⟩=>by
 unfold gSome at hg
 cases q:g ρ with
 |none=>rw[q] at hg;cases hg
 |some d=>
  rw[q] at hg
  cases q2:asI d with
  |none=>rw[show (some d).bind (λd=>(asI d).map some)=(asI d).map some from rfl,q2] at hg;cases hg
  |some j=>
   rw[show (some d).bind (λd=>(asI d).map some)=(asI d).map some from rfl,q2] at hg
   cases hg
   rw[uz q2] at q
   exact⟨F,ρ,_,r,q,λv F1 H1 e1 p1=>⟨j,p1.int,k F1 H1 e1⟩⟩
def cutD {α:Type}(xs:List α)(lo hi:Option Int):List α:=(xs.drop (HT.sIx xs.length 0 lo)).take (HT.sIx xs.length xs.length hi - HT.sIx xs.length 0 lo)
def gSl (g:EnvD->Option D)(gl gh:EnvD->Option (Option Int)):EnvD->Option (List D):=λρ=>(g ρ).bind λd=>(gl ρ).bind λl=>(gh ρ).bind λh=>match d with
 |.lst ds=>some (cutD ds l h)
 |_=>none
theorem wW {lo hi:Option Expr}{gl gh:EnvD->Option (Option Int)}{p2:Pos}(he:DR X B e g)(hl:DO X B lo gl)(hh:DO X B hi gh):DA X B (.Subscript e (.Slice lo hi none p2) pos) (gSl g gl gh) :=
 pe_imp (qT ZQ he hl hh) λσ H Q ⟨F,ρ,d,r,hg,k⟩=>by
  unfold gSl at hg
  cases q:g ρ with
  |none=>rw[q] at hg;cases hg
  |some x=>
   cases ql:gl ρ with
   |none=>rw[q,ql] at hg;cases hg
   |some l=>
    cases qh:gh ρ with
    |none=>rw[q,ql,qh] at hg;cases hg
    |some h=>
     rw[q,ql,qh] at hg
     cases x with
     |lst ds=>
      cases hg
      refine⟨F,ρ,_,r,q,λv F1 H1 e1 p1=>⟨F1,ρ,l,r.ext e1,ql,λF2 H2 e2=>⟨F2,ρ,h,r.ext (e1.trans e2),qh,λF3 H3 e3=>?_⟩⟩⟩
      have e:=e1.trans (e2.trans e3)
      obtain⟨a,vs,rfl,h1,h2⟩:=((p1.mono e2.ff e2.hh).mono e3.ff e3.hh).lst e3.fh
      refine⟨a,vs,rfl,.of h1,λp hp=>k _ F3 _ (e.trans (.new e.fh hp)) ⟨p,_,rfl,e.hh.free hp,zk,e.fh.free hp,?_⟩⟩
      unfold cutD cutV
      rw[<-h2.length]
      exact (h2.drop _).take _
     |_=>cases hg
def CallOk {γ:Type}(K:KW)(r:List V->Hp->VK->Prop)(pc:Post γ)(f:List D->Option γ):Prop :=
 ∀F H vs ds d Q,Same F H->Paired (λd v=>Rq K F H d v) ds vs->f ds=some d->(∀v F' H',Ext F H F' H'->pc F H F' H' d v->Q v H')->r vs H Q
def gB {γ:Type}(f:List D->Option γ)(gs:EnvD->Option (List D)):EnvD->Option γ:=λρ=>(gs ρ).bind f
theorem callB {γ:Type}{r:List V->Hp->VK->Prop}{pc:Post γ}{f:List D->Option γ}(hb:Back pc)(hr:CallOk X.kw r pc f){σ:St}{H:Hp}{Q:VK}(h:lG X.kw B pc (gB f gs) σ H Q):tCB r (lAs X.kw B (pR X.kw) gs) σ H Q:=by
 obtain⟨F,ρ,d,rr,hg,k⟩:=h
 unfold gB at hg
 cases q:gs ρ with
 |none=>rw[q] at hg;cases hg
 |some ds=>
  rw[q] at hg
  exact⟨F,ρ,ds,rr,q,λvs F1 H1 e1 p1=>hr F1 H1 vs ds d Q e1.fh p1 hg λv F' H' e p=>k v F' H' (e1.trans e) (hb _ _ _ _ _ _ _ _ e1 p)⟩
variable {x:Str}{p:Pos}{id T:String}
theorem u4 {r:List V->Hp->VK->Prop}{f:List D->Option D}(hc:CallR X (.builtin id) r)(hr:CallOk X.kw r (pE X.kw) f)(hg:Gl X x)(hm:X.mg x=none)(hv:bootBuiltins x=some (.builtin id))(ha:DRs X B (e::es) gs)(hn:x ≠ "__name__" := by decide) (hdb:(x==("__debug__" : Str))=false:=by decide)
  (he:starEach (e::es) X.env=(false,eval e X.env)::starEach es X.env:=by rfl) (hpl:(backTo pos (starEach es X.env)).any (·.1)=false:=by rfl):DE X B (.Call (.Name x p) (e::es) [] pos) (gB f gs) :=
 pe_imp (xS hc hg hm hv ha hn hdb he hpl) λσ H Q h=>callB xU hr h
theorem zam {r:List V->Hp->VK->Prop}{f:List D->Option (List D)}(hc:CallR X (.type T) r)(hr:CallOk X.kw r (pA X.kw) f)(hg:Gl X x)(hm:X.mg x=none)(hv:bootBuiltins x=some (.type T))(ha:DRs X B (e::es) gs)(hn:x ≠ "__name__" := by decide) (hdb:(x==("__debug__" : Str))=false:=by decide)
  (he:starEach (e::es) X.env=(false,eval e X.env)::starEach es X.env:=by rfl) (hpl:(backTo pos (starEach es X.env)).any (·.1)=false:=by rfl):DA X B (.Call (.Name x p) (e::es) [] pos) (gB f gs) :=
 pe_imp (Zl hc hg hm hv ha hn hdb he hpl) λσ H Q h=>callB Yk hr h
theorem RO {r:List V->Hp->VK->Prop}{f:List D->Option D}(hc:CallR X (.type T) r)(hr:CallOk X.kw r (pE X.kw) f)(hg:Gl X x)(hm:X.mg x=none)(hv:bootBuiltins x=some (.type T))(ha:DRs X B (e::es) gs)(hn:x ≠ "__name__" := by decide) (hdb:(x==("__debug__" : Str))=false:=by decide)
  (he:starEach (e::es) X.env=(false,eval e X.env)::starEach es X.env:=by rfl) (hpl:(backTo pos (starEach es X.env)).any (·.1)=false:=by rfl):DE X B (.Call (.Name x p) (e::es) [] pos) (gB f gs) :=
 pe_imp (Zl hc hg hm hv ha hn hdb he hpl) λσ H Q h=>callB xU hr h
def fLen:List D->Option D
 | [.lst ds]=>some (.int ds.length)
 | [.tup ds]=>some (.int ds.length)
 | [.scr ns]=>some (.int ns.length)
 | [.str x]=>if x.length<=TOP then some (.int x.length) else none
 |_=>none
theorem pair1 {R:D->V->Prop}{d:D}{vs:List V}(h:Paired R [d] vs):∃v,vs=[v]/\R d v:=by
 cases h with
 |cons r t=>cases t;exact⟨_,rfl,r⟩
theorem Yd {K:KW}:CallOk K (λxs H Q=>∃x n,xs=[x]/\LenV K x H n/\Q (.int n) H) (pE K) fLen:=by
 intro F H vs ds d Q s hp e k
 unfold fLen at e
 split at e
 ·cases e
  obtain⟨v,rfl,r⟩:=pair1 hp
  obtain⟨a,ws,rfl,h1,h2⟩:=r.lst s
  exact⟨_,_,rfl,.inl ⟨ws,.of h1,h2.length⟩,k _ F H (.refl s) rfl⟩
 ·cases e
  obtain⟨v,rfl,r⟩:=pair1 hp
  obtain⟨a,ws,rfl,h1,h2⟩:=r.tup s
  exact⟨_,_,rfl,.inr ⟨ws,.of h1,h2.length⟩,k _ F H (.refl s) rfl⟩
 ·cases e
  obtain⟨v,rfl,r⟩:=pair1 hp
  obtain⟨a,rfl,h1⟩:=r.scr s
  exact⟨_,_,rfl,.inl ⟨_,h1,by simp⟩,k _ F H (.refl s) rfl⟩
 ·split at e
  ·rename_i hc
   cases e
   obtain⟨v,rfl,r⟩:=pair1 hp
   cases r.str
   exact⟨_,_,rfl,⟨ym hc,rfl⟩,k _ F H (.refl s) rfl⟩
  ·cases e
 ·cases e
end
section
variable {X:Cx}{B:Bs}{e a b c:Expr}{es:List Expr}{pos p p2:Pos}{g ga gb:EnvD->Option D}{gs:EnvD->Option (List D)}
def tyD:D->Option String
 |.non=>some "NoneType"
 |.bl _=>some "bool"
 |.int _=>some "int"
 |.str _=>some "str"
 |.lst _=>some "list"
 |.tup _=>some "tuple"
 |.scr _=>none
 |.obj _ _ _=>none
def subT (t T:String):Option Bool:=if t=T then some true else if t = "bool" /\ T = "int" then some true else if (t∈["NoneType","bool","int","str","list","tuple"])/\(T∈["bool","int","str","list","tuple","dict"]) then some false else none
theorem Yo {K:KW}{F H:Hp}(s:Same F H){d:D}{v:V}{t:String}(r:Rq K F H d v)(h:tyD d=some t):TyOf K H v (.type t):=by
 cases d with
 |non=>cases r.non;cases h;exact .non
 |bl x=>cases r.bl;cases h;exact .bl x
 |int x=>cases r.int;cases h;exact .int x
 |str x=>cases r.str;cases h;exact .str x
 |lst ds=>obtain⟨a,vs,rfl,q,_⟩:=r.lst s;cases h;exact .lst q
 |tup ds=>obtain⟨a,vs,rfl,q,_⟩:=r.tup s;cases h;exact .tup q
 |scr ns=>cases h
 |obj C f ds=>cases h
def gIs (T:String)(g:EnvD->Option D):EnvD->Option D:=λρ=>(g ρ).bind λd=>(tyD d).bind λt=>(subT t T).map D.bl
theorem WO {T:String}(hk:∀t b,subT t T=some b->PySem.W.kitOne X.kw (.type t) (.type T)=some b) :
  CallR X (.builtin "isinstance") (λxs H Q=>∃x t b,xs=[x,.ty T]/\TyOf X.kw H x (.type t)/\subT t T=some b/\Q (.bl b) H):=by
 intro pins s σ H vs us Q I r h
 obtain⟨x,t,b,rfl,ty,hb,q⟩:=h
 obtain⟨u,w,rfl,ru,rw'⟩:=vals2 r
 cases rw'
 exact Qu I ru ty (hk t b hb) λtk=>⟨.bl b,H,I.tok tk,rfl,q⟩
theorem yU {T:String}{x:Str}(hk:∀t b,subT t T=some b->PySem.W.kitOne X.kw (.type t) (.type T)=some b)(hg:Gl X "isinstance") (hm:X.mg "isinstance" = none) (hgT:Gl X x) (hmT:X.mg x=none) (hvT:bootBuiltins x=some (.type T)) (ha:DR X B a g)
  (hnT:x ≠ "__name__" := by decide) (hdT:(x==("__debug__" : Str))=false:=by decide)
  (he:starEach [a,.Name x p2] X.env=(false,eval a X.env)::starEach [.Name x p2] X.env:=by rfl) (he2:starEach [.Name x p2] X.env=(false,eval (.Name x p2) X.env)::starEach [] X.env:=by rfl) (hpl:(backTo pos (starEach [.Name x p2] X.env)).any (·.1)=false:=by rfl) :
  DE X B (.Call (.Name "isinstance" p) [a,.Name x p2] [] pos) (gIs T g) :=
 pe_imp (xS (WO (T:=T) hk) hg hm (by decide +kernel) (zJ ha (zJ (qC hgT hmT hvT (v:=.ty T) rfl hnT hdT) zS he2) he) (by decide) (by decide) he hpl) λσ H Q ⟨F,ρ,d,r,hg,k⟩=>by
  unfold gIs at hg
  cases q:g ρ with
  |none=>rw[q] at hg;cases hg
  |some x=>
   rw[q] at hg
   have hg:((tyD x).bind λt=>(subT t T).map D.bl)=some d:=hg
   cases q2:tyD x with
   |none=>rw[q2] at hg;cases hg
   |some t=>
    rw[q2] at hg
    have hg:(subT t T).map D.bl=some d:=hg
    cases q3:subT t T with
    |none=>rw[q3] at hg;cases hg
    |some y=>
     rw[q3] at hg
     cases hg
     exact⟨F,ρ,x,r,q,λv F1 H1 e1 p1=>⟨v,t,y,rfl,Yo e1.fh p1 q2,q3,k _ F1 H1 e1 rfl⟩⟩
theorem Q3 (hc:X.calm=true):CallR X (.builtin "all") (λxs H Q=>∃(a:Addr) (bs:List Bool),xs=[.ref a]/\SqL X.kw H a (bs.map V.bl)/\Q (.bl (bs.all λx=>x)) H):=by
 intro pins s σ H vs us Q I r h
 obtain⟨a,bs,rfl,hq,q⟩:=h
 obtain⟨u,rfl,ru⟩:=vals1 r
 cases ru
 obtain⟨its,rv,pl,hz⟩:=I.list hq
 have hlt:a < s.heap.objs.size:=let ⟨o,n,e,_⟩:=pl;Heap.lt_size e
 have hl:bs.length=its.length:=by have:=rv.length;simpa using this
 refine call_all_walk (wpAny_pyIter_list pl.isList ⟨s.heap.objs.size,_,_,_,_,_,λi=>bs.getD i false,rfl,Walks.list (A:=X.A.in1) (I.ok.hd hc) s.heap.objs.size a (Nat.ne_of_lt hlt) its.toArray,⟨⟨_,Heap.get?_push_size _ rfl,rfl,rfl⟩,?_⟩,?_,λh' tk hk=>?_⟩)
 ·obtain⟨o,n,e,c1,c2,c3⟩:=pl
  exact⟨o,Heap.get?_push_of_some _ e,c1,n,c3⟩
 ·intro i v s' Q' E' hv hq'
  have hv:its[i]?=some v:=by simpa using hv
  have hi:i < bs.length:=by rw[hl];exact (List.getElem?_eq_some_iff.mp hv).1
  have hb:(bs.map V.bl)[i]?=some (.bl bs[i]):=by simp[hi]
  obtain⟨u,hu,ru⟩:=rv.get hb
  rw[hv] at hu;cases hu
  cases ru
  have e:bs.getD i false=bs[i]:=by simp[List.getD,hi]
  have hq':Q' (bs.getD i false) s':=hq'
  rw[e] at hq'
  exact wpAny_truthy_bool hq'
 ·have e:((List.range its.toArray.size).all λi=>bs.getD i false)=bs.all λx=>x:=by
   rw[List.size_toArray,<-hl,Bool.eq_iff_iff]
   simp only[List.all_eq_true,List.mem_range]
   constructor
   ·intro h x hx
    obtain⟨i,hi,e⟩:=List.mem_iff_getElem.mp hx
    have:=h i hi
    simpa[List.getD,hi,e] using this
   ·intro h i hi
    have:=h bs[i] (List.getElem_mem hi)
    simpa[List.getD,hi] using this
  rw[e]
  refine⟨.bl (bs.all λx=>x),H,I.kept (t':=tk) λb o e=>hk b o (λz=>?_) (Heap.get?_push_of_some _ e),rfl,q⟩
  have:b=s.heap.objs.size:=by simpa using z
  exact absurd (Heap.lt_size e) (by rw[this];exact Nat.lt_irrefl _)
def asBs:List D->Option (List Bool)
 | []=>some []
 |.bl b::r=>(asBs r).map (b::·)
 |_=>none
theorem YC {K:KW}{F:Hp}:∀ {ds:List D}{vs:List V}{bs:List Bool},asBs ds=some bs->Rps K F ds vs->vs=bs.map V.bl
 | [],_,_,e,h=>by cases e;cases h;rfl
 |.bl b::r,_,_,e,⟨v,w,e1,h,t⟩=>by
  subst e1;cases h
  cases q:asBs r with
  |none=>rw[show asBs (.bl b::r)=(asBs r).map (b::·) from rfl,q] at e;cases e
  |some bs=>
   rw[show asBs (.bl b::r)=(asBs r).map (b::·) from rfl,q] at e
   cases e
   rw[YC q t];rfl
 |.non::_,_,_,e,_=>by cases e
 |.int _::_,_,_,e,_=>by cases e
 |.str _::_,_,_,e,_=>by cases e
 |.lst _::_,_,_,e,_=>by cases e
 |.tup _::_,_,_,e,_=>by cases e
 |.scr _::_,_,_,e,_=>by cases e
 |.obj _ _ _::_,_,_,e,_=>by cases e
def fAll:List D->Option D
 | [.lst ds]=>(asBs ds).map λbs=>.bl (bs.all λx=>x)
 |_=>none
theorem RM {K:KW}:CallOk K (λxs H Q=>∃(a:Addr)(bs:List Bool),xs=[.ref a]/\SqL K H a (bs.map V.bl)/\Q (.bl (bs.all λx=>x)) H) (pE K) fAll:=by
 intro F H vs ds d Q s hp e k
 unfold fAll at e
 split at e
 ·rename_i ds
  obtain⟨v,rfl,r⟩:=pair1 hp
  obtain⟨a,ws,rfl,h1,h2⟩:=r.lst s
  cases q:asBs ds with
  |none=>rw[q] at e;cases e
  |some bs=>
   rw[q] at e
   cases e
   have:=YC q h2
   subst this
   exact⟨a,bs,rfl,.of h1,k _ F H (.refl s) rfl⟩
 ·cases e
theorem Rn:CallR X (.type "list") (λxs H Q=>∃a vs,xs=[.ref a]/\(SqL X.kw H a vs∨SqT X.kw H a vs)/\∀p,H p=none->Q (.ref p) (upd H p (.lst vs))):=by
 intro pins s σ H vs us Q I r h
 obtain⟨a,ws,rfl,hq,q⟩:=h
 obtain⟨u,rfl,ru⟩:=vals1 r
 cases ru
 have fin:∀ {T:String} {o:Obj} {its:List Value} {n:Nat},(T = "list" ∨ T = "tuple")->s.heap.get? a=some o->o.cls=.type T->o.data=.seq its.toArray n->Vals ws its->ws.length<=sizeLine->wpAny (model X.prog X.w) X.A (call (.type "list") [.ref a]) (EP X pins σ Q) X.xe s:=by
  intro T o its n hT ho hc hd rv hz
  have hl:=rv.length
  refine call_list_seq a hT ho hc hd (λh' c' hk hn=>?_) (by rw[List.size_toArray,<-hl];exact hz)
  exact⟨.ref s.heap.objs.size,upd H s.heap.objs.size (.lst ws),I.laid (t':=s.toks) hk (Nat.le_refl _) ⟨hz,its,c',rv,hn⟩,rfl,q _ (I.hok.fresh (Nat.le_refl _))⟩
 rcases hq with hq | hq
 ·obtain⟨its,rv,⟨o,n,e,c1,c2,c3⟩,hz⟩:=I.list hq
  exact fin (.inl rfl) e c1 c3 rv hz
 ·obtain⟨its,rv,⟨o,e,c1,n,c3⟩,hz⟩:=I.tuple hq
  exact fin (.inr rfl) e c1 c3 rv hz
def fList:List D->Option (List D)
 | [.lst ds]=>some ds
 | [.tup ds]=>some ds
 | [.scr ns]=>some (ns.map D.int)
 |_=>none
theorem zaa {K:KW}:CallOk K (λxs H Q=>∃a vs,xs=[.ref a]/\(SqL K H a vs∨SqT K H a vs)/\∀p,H p=none->Q (.ref p) (upd H p (.lst vs))) (pA K) fList:=by
 intro F H vs ds d Q s hp e k
 unfold fList at e
 split at e
 ·cases e
  obtain⟨v,rfl,r⟩:=pair1 hp
  obtain⟨a,ws,rfl,h1,h2⟩:=r.lst s
  exact⟨a,ws,rfl,.inl (.of h1),λp hp=>k _ F _ (.new s hp) ⟨p,ws,rfl,hp,zk,s.free hp,h2⟩⟩
 ·cases e
  obtain⟨v,rfl,r⟩:=pair1 hp
  obtain⟨a,ws,rfl,h1,h2⟩:=r.tup s
  exact⟨a,ws,rfl,.inr (.of h1),λp hp=>k _ F _ (.new s hp) ⟨p,ws,rfl,hp,zk,s.free hp,h2⟩⟩
 ·cases e
  obtain⟨v,rfl,r⟩:=pair1 hp
  obtain⟨a,rfl,h1⟩:=r.scr s
  exact⟨a,_,rfl,.inl h1,λp hp=>k _ F _ (.new s hp) ⟨p,_,rfl,hp,zk,s.free hp,Rps.ints _⟩⟩
 ·cases e
def ArgE (K:KW)(F H:Hp):En->V->Prop
 |.val d,v=>Rp K F d v
 |.bor ds,v=>∃a vs,v=.ref a/\H a=some (.lst vs)/\Rps K F ds vs
 |.dbo kvs,v=>∃a ob vs,v=.ref a/\H a=some (DX K.w a ob vs)/\Rkv K F kvs vs
 |_,_=>False
theorem ArgE.ext {K:KW}{F H F' H':Hp}(e:Ext F H F' H'):∀ {x:En}{v:V},ArgE K F H x v->ArgE K F' H' x v
 |.val _,_,h=>Rp.mono e.ff h
 |.bor _,_,⟨a,vs,e1,e2,e3⟩=>⟨a,vs,e1,e.hh _ _ e2,e3.mono e.ff⟩
 |.acc _,_,h=>h
 |.oac _ _ _ _ _,_,h=>h
 |.tre _,_,h=>h
 |.dct _ _,_,h=>h
 |.dbo _,_,⟨a,ob,vs,e1,e2,e3⟩=>⟨a,ob,vs,e1,e.hh _ _ e2,e3.mono e.ff⟩
def pN (K:KW):Post En:=λ_ _ F' H' x v=>ArgE K F' H' x v
def DN (X:Cx)(B:Bs)(e:Expr)(g:EnvD->Option En):Prop:=PE X e (lG X.kw B (pN X.kw) g)
def lNs (K:KW)(B:Bs)(g:EnvD->Option (List En)):TA:=λσ H Q=>
 ∃F ρ xs,Rep K B F σ H ρ/\g ρ=some xs/\∀vs F' H',Ext F H F' H'->Paired (λx v=>ArgE K F' H' x v) xs vs->Q vs H'
def DNs (X:Cx)(B:Bs)(es:List Expr)(g:EnvD->Option (List En)):Prop:=PA X es (lNs X.kw B g)
def gVal (g:EnvD->Option D):EnvD->Option En:=λρ=>(g ρ).map En.val
theorem zp (h:DE X B e g):DN X B e (gVal g):=pe_imp h λσ H Q ⟨F,ρ,x,r,hg,k⟩=>by
 unfold gVal at hg
 cases q:g ρ with
 |none=>rw[q] at hg;cases hg
 |some d=>rw[q] at hg;cases hg;exact⟨F,ρ,d,r,q,λv F' H' e p=>k v F' H' e p⟩
def gn (i:Nat):EnvD->Option En:=λρ=>match ρ[i]? with
 |some (some (.val d))=>some (.val d)
 |some (some (.acc ds))=>some (.bor ds)
 |some (some (.bor ds))=>some (.bor ds)
 |some (some (.dct _ kvs))=>some (.dbo kvs)
 |some (some (.dbo kvs))=>some (.dbo kvs)
 |_=>none
theorem zc (i:Nat){x:Str}(h:PE X (.Name x pos) (tVar i)):DN X B (.Name x pos) (gn i) :=
 pe_imp h λσ H Q ⟨F,ρ,d,r,hg,k⟩=>by
  unfold gn at hg
  split at hg
  ·rename_i d' e
   cases hg
   obtain⟨v,h1,h2⟩:=r.ents i _ e
   exact⟨v,h1,k v F H (.refl r.fh) h2⟩
  ·rename_i ds e
   cases hg
   obtain⟨v,h1,a,vs,e1,e2,e3,e4,e5⟩:=r.ents i _ e
   exact⟨v,h1,k v F H (.refl r.fh) ⟨a,vs,e1,e2,e5⟩⟩
  ·rename_i ds e
   cases hg
   obtain⟨v,h1,a,vs,e1,e2,e5⟩:=r.ents i _ e
   exact⟨v,h1,k v F H (.refl r.fh) ⟨a,vs,e1,r.ex.hh _ _ e2,e5⟩⟩
  ·rename_i oa kvs e
   cases hg
   obtain⟨v,h1,a,ob,vs,e1,e2,e3,e4,e5,e6⟩:=r.ents i _ e
   exact⟨v,h1,k v F H (.refl r.fh) ⟨a,ob,vs,e1,e2,e5⟩⟩
  ·rename_i kvs e
   cases hg
   obtain⟨v,h1,a,ob,vs,e1,e2,e5⟩:=r.ents i _ e
   exact⟨v,h1,k v F H (.refl r.fh) ⟨a,ob,vs,e1,r.ex.hh _ _ e2,e5⟩⟩
  ·cases hg
def nNil:EnvD->Option (List En):=λ_=>some []
def nCons (g:EnvD->Option En)(gs:EnvD->Option (List En)):EnvD->Option (List En):=λρ=>(g ρ).bind λd=>(gs ρ).bind λds=>some (d::ds)
variable {gx:EnvD->Option En}{gxs:EnvD->Option (List En)}
theorem zh:DNs X B [] nNil:=yk zS λσ H Q ⟨F,ρ,ds,r,hg,k⟩=>by cases hg;exact k [] F H (.refl r.fh) .nil
theorem zb (ha:DN X B e gx)(hr:DNs X B es gxs)(hs:starEach (e::es) X.env=(false,eval e X.env)::starEach es X.env:=by rfl):DNs X B (e::es) (nCons gx gxs) :=
 yk (zJ ha hr hs) λσ H Q ⟨F,ρ,ds,r,hg,k⟩=>by
  obtain⟨d,dr,q1,q2,q3⟩:=bind2 hg
  cases q3
  exact⟨F,ρ,d,r,q1,λv F1 H1 e1 p1=>⟨F1,ρ,dr,r.ext e1,q2,λvs F2 H2 e2 p2=>k _ F2 H2 (e1.trans e2) (.cons (ArgE.ext e2 p1) p2)⟩⟩
def pSp (K:KW)(n:Nat)(m:List En->Option En):Sp:=λvs H Q _=>
 ∃F xs o,Same F H/\xs.length=n/\Paired (λx v=>ArgE K F H x v) xs vs/\m xs=some o/\∀v F' H',Ext F H F' H'->RepE K ⟨F,H⟩ F' H' o v->Q v H'
def frzO:En->Option D
 |.val d=>some d
 |.acc ds=>some (.lst ds)
 |.tre t=>some t.erase
 |_=>none
def accO:En->Option (List D)
 |.acc ds=>some ds
 |_=>none
theorem qS {K:KW}{F H F' H':Hp}{o:En}{d:D}{v:V}(hd:frzO o=some d)(e:Ext F H F' H')(r:RepE K ⟨F,H⟩ F' H' o v):∃F2,Ext F H F2 H'/\Rp K F2 d v:=by
 cases o with
 |val x=>cases hd;exact⟨F',e,r⟩
 |acc ds=>
  cases hd
  obtain⟨a,vs,rfl,h1,h2,h3,h4⟩:=r
  exact⟨upd F' a (.lst vs),e.freeze h3 h2 h1,⟨a,vs,rfl,zk,h4.mono (yc h2)⟩⟩
 |tre t=>
  cases hd
  obtain⟨r1,r2,r3⟩:=r
  have sf:Same F' (addF F' H' (feetO H' t v)):=xZ λa ha=>(r3 a ha).1
  refine⟨addF F' H' (feetO H' t v),⟨e.ff.trans sf,e.hh,λb u q=>?_,λb q=>?_⟩,RepO.fz sf r1 λa ha=>ha⟩
  ·unfold addF at q
   split at q
   ·exact q
   ·exact e.fh b u q
  ·unfold addF at q
   split at q
   ·rename_i hb;exact .inr (r3 b hb).2
   ·exact e.nw b q
 |_=>cases hd
def gCall {α:Type}(m:List En->Option En)(f:En->Option α)(gs:EnvD->Option (List En)):EnvD->Option α:=λρ=>((gs ρ).bind m).bind f
theorem bindC {α:Type}{m:List En->Option En}{f:En->Option α}{gs:EnvD->Option (List En)}{ρ:EnvD}{y:α}(h:gCall m f gs ρ=some y):∃xs o,gs ρ=some xs/\m xs=some o/\f o=some y:=by
 unfold gCall at h
 cases q:gs ρ with
 |none=>rw[q] at h;cases h
 |some xs=>
  rw[q] at h
  cases q2:m xs with
  |none=>rw[show (some xs).bind m=m xs from rfl,q2] at h;cases h
  |some o=>rw[show (some xs).bind m=m xs from rfl,q2] at h;exact⟨xs,o,rfl,q2,h⟩
theorem wc {α β:Type}{R:α->β->Prop}{l:List α}{r:List β}(h:Paired R l r):l.length=r.length:=Paired.length h
theorem Q5 {n:Nat}{m:List En->Option En}(hm:∀xs o,m xs=some o->xs.length=n){E:XK}{σ:St}{H:Hp}{Q:VK}(h:lG X.kw B (pE X.kw) (gCall m frzO gxs) σ H Q):tCall (pSp X.kw n m) [] E (lNs X.kw B gxs) σ H Q:=by
 obtain⟨F,ρ,d,r,hg,k⟩:=h
 obtain⟨xs,o,q1,q2,q3⟩:=bindC hg
 refine⟨F,ρ,xs,r,q1,λvs F1 H1 e1 p1=>?_⟩
 show pSp X.kw n m (vs++[]) H1 Q E
 rw[List.append_nil]
 refine⟨F1,xs,o,e1.fh,hm xs o q2,p1,q2,λv F2 H2 e2 p2=>?_⟩
 obtain⟨F3,e3,p3⟩:=qS q3 e2 p2
 exact k v F3 H2 (e1.trans e3) p3
theorem G5 {n:Nat}{m:List En->Option En}(hm:∀xs o,m xs=some o->xs.length=n){E:XK}{σ:St}{H:Hp}{Q:VK}(h:lG X.kw B (pA X.kw) (gCall m accO gxs) σ H Q):tCall (pSp X.kw n m) [] E (lNs X.kw B gxs) σ H Q:=by
 obtain⟨F,ρ,d,r,hg,k⟩:=h
 obtain⟨xs,o,q1,q2,q3⟩:=bindC hg
 refine⟨F,ρ,xs,r,q1,λvs F1 H1 e1 p1=>?_⟩
 show pSp X.kw n m (vs++[]) H1 Q E
 rw[List.append_nil]
 refine⟨F1,xs,o,e1.fh,hm xs o q2,p1,q2,λv F2 H2 e2 p2=>?_⟩
 cases o with
 |acc ds=>
  cases q3
  obtain⟨a,ws,h1,h2,h3,h4,h5⟩:=p2
  exact k v F2 H2 (e1.trans e2) ⟨a,ws,h1,e1.hh.free h4,h2,h3,h5⟩
 |_=>cases q3
def len? (n:Nat)(m:List En->Option En):List En->Option En:=λxs=>if xs.length=n then m xs else none
theorem x6 {n:Nat}{m:List En->Option En}:∀xs o,len? n m xs=some o->xs.length=n:=λxs o h=>by
 unfold len? at h
 split at h
 ·assumption
 ·cases h
variable {x mm:Str}{f C:Addr}{fd:FuncData}{ps:List Str}{n k:Nat}{m:List En->Option En}{apos:Pos}{o:Expr}
theorem zac (F:FnOk X.prog X.w X.kw X.mg X.base CX0 k f fd ps (pSp X.kw n (len? n m)))(hr:Room k X.A)(hg:Gl X x)(hm:X.mg x=some (.ref f))(hk:PySem.W.keepIn X.kw (.ref f)=true)(hb:Binds X.kw fd ps [])
  (ha:DNs X B (e::es) gxs) (hdb:(x==("__debug__" : Str))=false:=by decide) (he:starEach (e::es) X.env=(false,eval e X.env)::starEach es X.env:=by rfl) (hpl:(backTo pos (starEach es X.env)).any (·.1)=false:=by rfl) :
  DE X B (.Call (.Name x p) (e::es) [] pos) (gCall (len? n m) frzO gxs) :=
 pe_imp (yX F hr hg hm hk hb .nil pass0 ha hdb he hpl) λσ H Q h=>Q5 x6 h
theorem KO (F:FnOk X.prog X.w X.kw X.mg X.base CX0 k f fd ps (pSp X.kw n (len? n m)))(hr:Room k X.A)(hg:Gl X x)(hm:X.mg x=some (.ref f))(hk:PySem.W.keepIn X.kw (.ref f)=true)(hb:Binds X.kw fd ps [])
  (ha:DNs X B (e::es) gxs) (hdb:(x==("__debug__" : Str))=false:=by decide) (he:starEach (e::es) X.env=(false,eval e X.env)::starEach es X.env:=by rfl) (hpl:(backTo pos (starEach es X.env)).any (·.1)=false:=by rfl) :
  DA X B (.Call (.Name x p) (e::es) [] pos) (gCall (len? n m) accO gxs) :=
 pe_imp (yX F hr hg hm hk hb .nil pass0 ha hdb he hpl) λσ H Q h=>G5 x6 h
end
def lookZ {α:Type}(f:Str):List Str->List α->Option α
 |k::ks,x::xs=>if f=k then some x else lookZ f ks xs
 |_,_=>none
def putZ {α:Type}(f:Str)(a:α):List Str->List α->List Str×List α
 |k::ks,x::xs=>if k=f then (k::ks,a::xs) else (k::(putZ f a ks xs).1,x::(putZ f a ks xs).2)
 |_,_=>([f],[a])
theorem uO {α:Type}{f:Str}:∀ {fs:List Str}{vs:List α},(fs.zip vs).lookup f=lookZ f fs vs
 | [],_=>by simp[lookZ]
 |_::_,[]=>by simp[lookZ]
 |k::ks,x::xs=>by
  rw[List.zip_cons_cons,List.lookup_cons]
  by_cases h:f=k
  ·subst h;simp[lookZ]
  ·rw[beq_eq_false_iff_ne.mpr h]
   simp only[lookZ,if_neg h]
   exact uO
theorem WH {K:KW}{F:Hp}{f:Str}:∀ {fs:List Str}{ds:List D}{vs:List V}{d:D},Rps K F ds vs->lookZ f fs ds=some d->∃v,lookZ f fs vs=some v/\Rp K F d v
 | [],_,_,_,_,e=>by simp[lookZ] at e
 |_::_,[],_,_,_,e=>by simp[lookZ] at e
 |k::ks,x::xs,_,d,⟨v,r,e1,h,t⟩,e=>by
  subst e1
  simp only[lookZ] at e ⊢
  by_cases hk:f=k
  ·rw[if_pos hk] at e ⊢;cases e;exact⟨v,rfl,h⟩
  ·rw[if_neg hk] at e ⊢;exact WH t e
theorem Vz {f:Str}{v:V}:∀ {fs:List Str}{vs:List V},fs.length=vs.length->putF f v (fs.zip vs)=(putZ f v fs vs).1.zip (putZ f v fs vs).2/\(putZ f v fs vs).1.length=(putZ f v fs vs).2.length
 | [],[],_=>⟨rfl,rfl⟩
 | [],_::_,h=>by simp at h
 |_::_,[],h=>by simp at h
 |k::ks,x::xs,h=>by
  obtain⟨i1,i2⟩:=Vz (f:=f) (v:=v) (fs:=ks) (vs:=xs) (by simpa using h)
  rw[List.zip_cons_cons]
  simp only[putF,putZ]
  by_cases hk:k=f
  ·rw[if_pos hk,if_pos hk]
   exact⟨rfl,by simpa using h⟩
  ·rw[if_neg hk,if_neg hk]
   exact⟨by rw[i1];rfl,by simpa using i2⟩
theorem ZV {K:KW}{F:Hp}{f:Str}{d:D}{v:V}(hd:Rp K F d v):∀ {fs:List Str}{ds:List D}{vs:List V},fs.length=vs.length->Rps K F ds vs->(putZ f d fs ds).1=(putZ f v fs vs).1/\Rps K F (putZ f d fs ds).2 (putZ f v fs vs).2
 | [],ds,vs,_,r=>by
  cases ds<;>cases vs<;>exact⟨rfl,_,_,rfl,hd,rfl⟩
 |k::ks,[],_,h,r=>by cases r;simp at h
 |k::ks,x::xs,_,h,⟨w,r,e,hx,t⟩=>by
  subst e
  obtain⟨i1,i2⟩:=ZV hd (fs:=ks) (by simpa using h) t
  simp only[putZ]
  by_cases hk:k=f
  ·rw[if_pos hk,if_pos hk];exact⟨rfl,_,_,rfl,hd,t⟩
  ·rw[if_neg hk,if_neg hk];exact⟨by rw[i1],_,_,rfl,hx,i2⟩
section
variable {X:Cx}{B:Bs}{e a b c o:Expr}{es:List Expr}{pos p apos:Pos}{g ga gb:EnvD->Option D}{gx:EnvD->Option En}{gxs:EnvD->Option (List En)}{C f:Addr}{fl mm x:Str}{fd:FuncData}{ps:List Str}{n k:Nat}{m:List En->Option En}
def gFld (C:Addr)(fl:Str)(g:EnvD->Option D):EnvD->Option D:=λρ=>(g ρ).bind λd=>match d with
 |.obj C' fs ds=>if C'=C then lookZ fl fs ds else none
 |_=>none
theorem GY {ρ:EnvD}{d:D}(h:gFld C fl g ρ=some d):∃fs ds,g ρ=some (.obj C fs ds)/\lookZ fl fs ds=some d:=by
 unfold gFld at h
 cases q:g ρ with
 |none=>rw[q] at h;cases h
 |some x=>
  rw[q] at h
  cases x with
  |obj C' fs ds=>
   replace h:(if C'=C then lookZ fl fs ds else none)=some d:=h
   by_cases e:C'=C
   ·rw[if_pos e] at h;subst e;exact⟨fs,ds,rfl,h⟩
   ·rw[if_neg e] at h;cases h
  |_=>cases h
theorem vK (cl:Cls X.kw C)(na:NoAttr X.kw C fl)(he:DE X B e g)(hb:attributeBase e fl X.env (eval e X.env)=eval e X.env:=by rfl):DE X B (.Attribute e fl pos) (gFld C fl g) :=
 pe_imp (RT he hb) λσ H Q ⟨F,ρ,d,r,hg,k⟩=>by
  obtain⟨fs,ds,q,hl⟩:=GY hg
  refine⟨F,ρ,_,r,q,λv F1 H1 e1 p1=>?_⟩
  obtain⟨a,dx,vs,rfl,h1,h2,h3⟩:=p1
  obtain⟨w,h4,h5⟩:=WH h3 hl
  exact⟨a,C,dx,_,w,rfl,e1.fh _ _ h1,cl,na,by rw[uO];exact h4,k w F1 H1 e1 h5⟩
def gMeth {α:Type}(C:Addr)(mm:Str)(m:List En->Option En)(f:En->Option α)(go:EnvD->Option D)(gs:EnvD->Option (List En)):EnvD->Option α:=λρ=>(go ρ).bind λd=>match d with
 |.obj C' fs ds=>if C'=C/\lookZ mm fs ds=none then ((gs ρ).bind λxs=>m (.val d::xs)).bind f else none
 |_=>none
theorem Kk {α:Type}{f:En->Option α}{go:EnvD->Option D}{gs:EnvD->Option (List En)}{ρ:EnvD}{y:α}(h:gMeth C mm m f go gs ρ=some y) :
  ∃fs ds xs o,go ρ=some (.obj C fs ds)/\lookZ mm fs ds=none/\gs ρ=some xs/\m (.val (.obj C fs ds)::xs)=some o/\f o=some y:=by
 unfold gMeth at h
 cases q:go ρ with
 |none=>rw[q] at h;cases h
 |some x=>
  rw[q] at h
  cases x with
  |obj C' fs ds=>
   replace h:(if C'=C/\lookZ mm fs ds=none then ((gs ρ).bind λxs=>m (.val (.obj C' fs ds)::xs)).bind f else none)=some y:=h
   by_cases e:C'=C/\lookZ mm fs ds=none
   ·rw[if_pos e] at h
    obtain⟨e,hl⟩:=e
    subst e
    cases q2:gs ρ with
    |none=>rw[q2] at h;cases h
    |some xs=>
     rw[q2] at h
     replace h:(m (.val (.obj C' fs ds)::xs)).bind f=some y:=h
     cases q3:m (.val (.obj C' fs ds)::xs) with
     |none=>rw[q3] at h;cases h
     |some o=>rw[q3] at h;exact⟨fs,ds,xs,o,rfl,hl,rfl,q3,h⟩
   ·rw[if_neg e] at h;cases h
  |_=>cases h
theorem W7 {α β:Type}{f:Str}:∀ {fs:List Str}{ds:List α}{vs:List β},ds.length=vs.length->lookZ f fs ds=none->lookZ f fs vs=none
 | [],_,_,_,_=>by simp[lookZ]
 |_::_,[],vs,h,_=>by
  cases vs with
  |nil=>simp[lookZ]
  |cons=>simp at h
 |_::_,_::_,[],h,_=>by simp at h
 |k::ks,x::xs,v::vs,h,e=>by
  simp only[lookZ] at e ⊢
  by_cases hk:f=k
  ·rw[if_pos hk] at e;cases e
  ·rw[if_neg hk] at e ⊢;exact W7 (by simpa using h) e
theorem Uc {E:XK}{σ:St}{H:Hp}{Q:VK}(h:lG X.kw B (pE X.kw) (gMeth C mm (len? n m) frzO g gxs) σ H Q):tMeth C mm (pSp X.kw n (len? n m)) [] E (lG X.kw B (pE X.kw) g) (lNs X.kw B gxs) σ H Q:=by
 obtain⟨F,ρ,d,r,hg,k⟩:=h
 obtain⟨fs,ds,xs,o,q1,q2,q3,q4,q5⟩:=Kk hg
 refine⟨F,ρ,_,r,q1,λv F1 H1 e1 p1=>?_⟩
 obtain⟨a,dx,vs,rfl,h1,h2,h3⟩:=id p1
 refine⟨a,dx,_,rfl,e1.fh _ _ h1,by rw[uO];exact W7 h3.length q2,F1,ρ,xs,r.ext e1,q3,λws F2 H2 e2 p2=>?_⟩
 show pSp X.kw n (len? n m) (.ref a::(ws++[])) H2 Q E
 rw[List.append_nil]
 refine⟨F2,_,o,e2.fh,x6 _ _ q4,.cons (Rp.mono e2.ff p1) p2,q4,λw F3 H3 e3 p3=>?_⟩
 obtain⟨F4,e4,p4⟩:=qS q5 e3 p3
 exact k w F4 H3 (e1.trans (e2.trans e4)) p4
theorem Jz {pl:Sem Bool}(ho:DE X B o g)(c:Cls X.kw C)(hm:Meth X.kw C mm f)(F:FnOk X.prog X.w X.kw X.mg X.base CX0 k f fd ps (pSp X.kw n (len? n m)))(hr:Room k X.A)(hb:Binds X.kw fd ps [])(ha:DNs X B (e::es) gxs)
  (hst:starEach (e::es) X.env=(false,eval e X.env)::starEach es X.env:=by rfl) (hpl:(backTo pos (starEach es X.env)).any (·.1)=false:=by rfl)
  (ht:eval (.Call (.Attribute o mm apos) (e::es) [] pos) X.env=(do
   let ov <-eval o X.env
   standAt apos.atName
   let (f,first) <-holding [ov] (getMethod ov mm pl)
   callWith pos f first (backTo pos (starEach (e::es) X.env)) (backToKw pos (keywordEach [] X.env))):=by rfl) :
  DE X B (.Call (.Attribute o mm apos) (e::es) [] pos) (gMeth C mm (len? n m) frzO g gxs) :=
 pe_imp (J6 ho c hm F hr hb .nil pass0 ha hst hpl ht) λσ H Q h=>Uc h
def iSp (K:KW)(C:Addr)(n:Nat)(mi:Addr->Addr->List En->Option (List Str×List D)):Sp:=λvs H Q _=>
 ∃F H1 xs x dx vs' fs ds,vs=.ref x::vs'/\H1 x=none/\H1 dx=none/\dx≠x/\H=upd (upd H1 dx (.own x)) x (.ins C dx [])/\Same F H1/\xs.length=n/\Paired (λy v=>ArgE K F H1 y v) xs vs'/\mi x dx xs=some (fs,ds) /\
  ∀F' H' us,Ext F H1 F' H'->F' x=none->H' x=some (.ins C dx (fs.zip us))->fs.length=us.length->Rps K F' ds us->Q .non H'
def gMake (C:Addr)(n:Nat)(mi:List En->Option (List Str×List D))(gs:EnvD->Option (List En)):EnvD->Option D:=λρ=>(gs ρ).bind λxs=>if xs.length=n then (mi xs).map λr=>.obj C r.1 r.2 else none
theorem Jb {mi:List En->Option (List Str×List D)}{mi':Addr->Addr->List En->Option (List Str×List D)}(hmi:∀x dx xs,mi' x dx xs=mi xs)(M:Mk X.kw C f)(F:FnOk X.prog X.w X.kw X.mg X.base CX0 k f fd ps (iSp X.kw C n mi'))(hr:Room (k+1) X.A)(hg:Gl X x)(hm:X.mg x=some (.ref C))(hb:Binds X.kw fd ps [])
  (ha:DNs X B (e::es) gxs) (hdb:(x==("__debug__" : Str))=false:=by decide) (he:starEach (e::es) X.env=(false,eval e X.env)::starEach es X.env:=by rfl) (hpl:(backTo pos (starEach es X.env)).any (·.1)=false:=by rfl) :
  DE X B (.Call (.Name x p) (e::es) [] pos) (gMake C n mi gxs) :=
 pe_imp (GM M F hr hg hm hb .nil pass0 ha hdb he hpl) λσ H Q ⟨F,ρ,d,r,hg,k⟩=>by
  unfold gMake at hg
  cases q:gxs ρ with
  |none=>rw[q] at hg;cases hg
  |some xs=>
   rw[q] at hg
   have hg:(if xs.length=n then (mi xs).map (λr=>D.obj C r.1 r.2) else none)=some d:=hg
   split at hg
   ·rename_i hl
    cases q2:mi xs with
    |none=>rw[q2] at hg;cases hg
    |some fr=>
     rw[q2] at hg
     cases hg
     refine⟨F,ρ,xs,r,q,λvs F1 H1 e1 p1 x dx nx ndx nex=>?_⟩
     show iSp X.kw C n mi' (.ref x::(vs++[])) _ _ _
     rw[List.append_nil]
     refine⟨F1,H1,xs,x,dx,vs,fr.1,fr.2,rfl,nx,ndx,nex,rfl,e1.fh,hl,p1,by rw[hmi];exact q2,λF2 H2 us e2 h1 h2 h3 h4=>⟨rfl,?_⟩⟩
     exact k _ (upd F2 x (.ins C dx (fr.1.zip us))) H2 (e1.trans (e2.freeze nx h1 h2)) ⟨x,dx,us,rfl,zk,h3,h4.mono (yc h1)⟩
   ·cases hg
end
inductive Fl where
 |next (ρ:EnvD) | ret (o:En) | brk (ρ:EnvD) | cont (ρ:EnvD)
def Fl.ok (K:KW)(B:Bs)(F:Hp)(E:Ends):Fl->Prop
 |.next ρ=>∀σ' F' H',Rep K B F' σ' H' ρ->Same F F'->E.nx σ' H'
 |.brk ρ=>∀σ' F' H',Rep K B F' σ' H' ρ->Same F F'->E.bk σ' H'
 |.cont ρ=>∀σ' F' H',Rep K B F' σ' H' ρ->Same F F'->E.ct σ' H'
 |.ret o=>∀v F' H',Ext B.F0 B.H0 F' H'->RepE K B F' H' o v->E.rt v H'
abbrev SD:=EnvD->Option Fl
def lS (K:KW)(B:Bs)(g:SD):TS:=λE σ H=>∃F ρ fl,Rep K B F σ H ρ/\g ρ=some fl/\fl.ok K B F E
def DS (X:Cx)(B:Bs)(st:Stmt)(g:SD):Prop:=PS X st (lS X.kw B g)
def DSs (X:Cx)(B:Bs)(sts:List Stmt)(g:SD):Prop:=PSs X sts (lS X.kw B g)
theorem Fl.ok.mono {K:KW}{B:Bs}{F F':Hp}{E:Ends}{fl:Fl}(s:Same F F')(h:fl.ok K B F E):fl.ok K B F' E:=by
 cases fl with
 |next ρ=>exact λσ' F2 H' r s2=>h σ' F2 H' r (s.trans s2)
 |brk ρ=>exact λσ' F2 H' r s2=>h σ' F2 H' r (s.trans s2)
 |cont ρ=>exact λσ' F2 H' r s2=>h σ' F2 H' r (s.trans s2)
 |ret o=>exact h
section
variable {X:Cx}{B:Bs}{e a b c o:Expr}{es:List Expr}{st:Stmt}{rest:List Stmt}{pos p apos:Pos}{g ga gb:EnvD->Option D}{gl:EnvD->Option (List D)}{gs1 gs2:SD}{x:Str}
def sSeq (g1 g2:SD):SD:=λρ=>(g1 ρ).bind λfl=>match fl with
 |.next ρ'=>g2 ρ'
 |fl=>some fl
def sNext:SD:=λρ=>some (.next ρ)
theorem zA:DSs X B [] sNext:=xD Qx λE σ H ⟨F,ρ,fl,r,hg,k⟩=>by cases hg;exact k σ F H r (Same.refl _)
theorem zf (h:DS X B st gs1):DSs X B [st] gs1:=ji h
theorem ze (h1:DS X B st gs1)(h2:DSs X B rest gs2):DSs X B (st::rest) (sSeq gs1 gs2) :=
 xD (xR h1 h2) λE σ H ⟨F,ρ,fl,r,hg,k⟩=>by
  unfold sSeq at hg
  cases q:gs1 ρ with
  |none=>rw[q] at hg;cases hg
  |some f1=>
   rw[q] at hg
   refine⟨F,ρ,f1,r,q,?_⟩
   cases f1 with
   |next ρ'=>exact λσ' F' H' r' s'=>⟨F',ρ',fl,r',hg,k.mono s'⟩
   |brk ρ'=>cases hg;exact k
   |cont ρ'=>cases hg;exact k
   |ret o'=>cases hg;exact k
def sFrz (i:Nat)(g:SD):SD:=λρ=>g (frzE i ρ)
theorem Q4 (i:Nat)(h:DS X B st gs1):DS X B st (sFrz i gs1):=zC h λE σ H ⟨F,ρ,fl,r,hg,k⟩=>by
 obtain⟨F',s',r'⟩:=r.frz i
 exact⟨F',_,fl,r',hg,k.mono s'⟩
def sSet (i:Nat)(g:EnvD->Option D):SD:=λρ=>(g ρ).map λd=>.next (ρ.set i (some (.val d)))
def sSetA (i:Nat)(g:EnvD->Option (List D)):SD:=λρ=>(g ρ).map λds=>.next (ρ.set i (some (.acc ds)))
theorem YN {i:Nat}{E:Ends}{σ:St}{H:Hp}(h:lS X.kw B (sSet i g) E σ H):tAsg (lG X.kw B (pE X.kw) g) (gName i) E σ H:=by
 obtain⟨F,ρ,fl,r,hg,k⟩:=h
 unfold sSet at hg
 cases q:g ρ with
 |none=>rw[q] at hg;cases hg
 |some d=>
  rw[q] at hg
  cases hg
  exact⟨F,ρ,d,r,q,λv F1 H1 e1 p1=>k _ F1 H1 ((r.ext e1).setv p1) e1.ff⟩
theorem Jo {i:Nat}{E:Ends}{σ:St}{H:Hp}(h:lS X.kw B (sSetA i gl) E σ H):tAsg (lG X.kw B (pA X.kw) gl) (gName i) E σ H:=by
 obtain⟨F,ρ,fl,r,hg,k⟩:=h
 unfold sSetA at hg
 cases q:gl ρ with
 |none=>rw[q] at hg;cases hg
 |some ds=>
  rw[q] at hg
  cases hg
  refine⟨F,ρ,ds,r,q,λv F1 H1 e1 p1=>k _ F1 H1 ((r.ext e1).seto ?_ ?_) e1.ff⟩
  ·obtain⟨a,vs,h1,h2,h3,h4,h5⟩:=p1
   exact⟨a,vs,h1,h3,h4,r.ex.hh.free h2,h5⟩
  ·intro j y w hj hs _ b hb hc
   obtain⟨a,vs,h1,h2,h3,h4,h5⟩:=p1
   subst h1
   simp only[feetE,List.mem_singleton] at hb
   subst hb
   obtain⟨w',hw,hr⟩:=r.ents j y hj
   rw[hs] at hw;cases hw
   rw[hr.feet_ext e1.hh] at hc
   exact (hr.feet_at hc).1 h2
theorem zl {i:Nat}{x:Str}{pos':Pos}(hN:X.N.Nodup)(hi:X.N[i]?=some x)(hx:Loc X.env.scope x)(he:DE X B e g)(hs:swapsWith e (some (.Name x pos')) pos.line X.env=pure false:=by rfl)(hf:X.fn x=true∨X.env.scope.names.lookup x=some .local:=by first | exact .inl rfl | exact .inr rfl | assumption) :
  DS X B (.Assign [.Name x pos'] e pos) (sSet i g):=zC (wp hN hi hx he hs hf) λE σ H h=>YN h
theorem xf {i:Nat}{x:Str}{pos':Pos}(hN:X.N.Nodup)(hi:X.N[i]?=some x)(hx:Loc X.env.scope x)(he:DA X B e gl)(hs:swapsWith e (some (.Name x pos')) pos.line X.env=pure false:=by rfl)(hf:X.fn x=true∨X.env.scope.names.lookup x=some .local:=by first | exact .inl rfl | exact .inr rfl | assumption) :
  DS X B (.Assign [.Name x pos'] e pos) (sSetA i gl):=zC (wp hN hi hx he hs hf) λE σ H h=>Jo h
def sRet (g:EnvD->Option D):SD:=λρ=>(g ρ).map λd=>.ret (.val d)
def sRetA (g:EnvD->Option (List D)):SD:=λρ=>(g ρ).map λd=>.ret (.acc d)
theorem zz (he:DE X B e g):DS X B (.Return (some e) pos) (sRet g):=zC (xF he) λE σ H ⟨F,ρ,fl,r,hg,k⟩=>by
 unfold sRet at hg
 cases q:g ρ with
 |none=>rw[q] at hg;cases hg
 |some d=>rw[q] at hg;cases hg;exact⟨F,ρ,d,r,q,λv F1 H1 e1 p1=>k v F1 H1 (r.ex.trans e1) p1⟩
theorem qQ (he:DA X B e gl):DS X B (.Return (some e) pos) (sRetA gl):=zC (xF he) λE σ H ⟨F,ρ,fl,r,hg,k⟩=>by
 unfold sRetA at hg
 cases q:gl ρ with
 |none=>rw[q] at hg;cases hg
 |some d=>
  rw[q] at hg;cases hg
  refine⟨F,ρ,d,r,q,λv F1 H1 e1 p1=>k v F1 H1 (r.ex.trans e1) ?_⟩
  obtain⟨a,vs,h1,h2,h3,h4,h5⟩:=p1
  exact⟨a,vs,h1,h3,h4,r.ex.hh.free h2,h5⟩
def sRetV (i:Nat):SD:=λρ=>match ρ[i]? with
 |some (some (.acc ds))=>some (.ret (.acc ds))
 |some (some (.val d))=>some (.ret (.val d))
 |_=>none
theorem yx (i:Nat)(h:PE X (.Name x p) (tVar i)):DS X B (.Return (some (.Name x p)) pos) (sRetV i):=zC (xF h) λE σ H ⟨F,ρ,fl,r,hg,k⟩=>by
 unfold sRetV at hg
 split at hg
 ·rename_i ds q
  cases hg
  obtain⟨v,h1,h2⟩:=r.ents i _ q
  exact⟨v,h1,k v F H r.ex h2⟩
 ·rename_i d q
  cases hg
  obtain⟨v,h1,h2⟩:=r.ents i _ q
  exact⟨v,h1,k v F H r.ex h2⟩
 ·cases hg
def sIf (t:EnvD->Option Bool)(g1 g2:SD):SD:=λρ=>(t ρ).bind λb=>if b then g1 ρ else g2 ρ
theorem zv {t:EnvD->Option Bool}{as bs:List Stmt}(hc:DT X B c t)(ha:DSs X B as gs1)(hb:DSs X B bs gs2):DS X B (.If c as bs pos) (sIf t gs1 gs2):=zC (Jd hc ha hb) λE σ H ⟨F,ρ,fl,r,hg,k⟩=>by
 unfold sIf at hg
 cases q:t ρ with
 |none=>rw[q] at hg;cases hg
 |some b=>
  rw[q] at hg
  refine⟨F,ρ,b,r,q,λF1 H1 e1=>?_⟩
  cases b with
  |true=>exact iteT ⟨F1,ρ,fl,r.ext e1,hg,k.mono e1.ff⟩
  |false=>exact iteF ⟨F1,ρ,fl,r.ext e1,hg,k.mono e1.ff⟩
def sNever:SD:=λ_=>none
theorem js:DS X B st sNever:=zC UT λE σ H ⟨F,ρ,fl,r,hg,k⟩=>by cases hg
def sExpr (g:EnvD->Option D):SD:=λρ=>(g ρ).map λ_=>.next ρ
theorem W6 (he:DE X B e g)(hs:swapsWith e none pos.line X.env=pure false:=by rfl):DS X B (.Expr e pos) (sExpr g):=zC (y4 he hs) λE σ H ⟨F,ρ,fl,r,hg,k⟩=>by
 unfold sExpr at hg
 cases q:g ρ with
 |none=>rw[q] at hg;cases hg
 |some d=>rw[q] at hg;cases hg;exact⟨F,ρ,d,r,q,λv F1 H1 e1 p1=>k σ F1 H1 (r.ext e1) e1.ff⟩
def sApp (i:Nat)(g:EnvD->Option D):SD:=λρ=>match ρ[i]? with
 |some (some (.acc ds))=>(g ρ).bind λd=>if ds.length<=TOP then some (.next (ρ.set i (some (.acc (ds++[d]))))) else none
 |_=>none
theorem xw (i:Nat){cpos:Pos}(hx:PE X (.Name x p) (tVar i))(he:DE X B e g)
  (hbase:attributeBase (.Name x p) "append" X.env (eval (.Name x p) X.env)=eval (.Name x p) X.env:=by rfl)
  (hfew:((backTo cpos (starEach [e] X.env)).all (λx=>!x.1)&&(backToKw cpos (keywordEach [] X.env)).all (λx=>x.1.isSome)
   && decide (([e]:List Expr).length+([]:List Keyword).length+(if ([]:List Keyword).isEmpty then 0 else 1) < 30))=true:=by rfl)
  (hline:(apos.endLine==cpos.line)=true:=by rfl) (hs:starEach [e] X.env=(false,eval e X.env)::starEach [] X.env:=by rfl) (hplain:(backTo cpos (starEach [] X.env)).any (·.1)=false:=by rfl)
  (hsw:swapsWith (.Call (.Attribute (.Name x p) "append" apos) [e] [] cpos) none pos.line X.env=pure false:=by rfl) :
  DS X B (.Expr (.Call (.Attribute (.Name x p) "append" apos) [e] [] cpos) pos) (sApp i g) :=
 zC (y4 (jb PySem.F.plainAttrs_list PySem.F.slot_list_append PySem.F.type_list_append kr hx (zJ he zS hs) hbase hfew hline hs hplain) hsw) λE σ H ⟨F,ρ,fl,r,hg,k⟩=>by
  unfold sApp at hg
  split at hg
  ·rename_i ds q
   cases q2:g ρ with
   |none=>rw[q2] at hg;cases hg
   |some d=>
    rw[q2] at hg
    have hg:(if ds.length<=TOP then some (Fl.next (ρ.set i (some (.acc (ds++[d]))))) else none)=some fl:=hg
    split at hg
    ·rename_i hl
     cases hg
     obtain⟨v,hv,a,vs,rfl,h1,h2,h3,h4⟩:=r.ents i _ q
     refine⟨.ref a,hv,.inl ⟨rfl,_,.of h1⟩,F,ρ,d,r,q2,λw F1 H1 e1 p1=>?_⟩
     have r1:=r.ext e1
     obtain⟨v',hv',a',vs',e',g1,g2,g3,g4⟩:=r1.ents i _ q
     rw[hv] at hv';cases hv';cases e'
     refine⟨a,vs',w,rfl,rfl,g1,ZI (by rw[<-g4.length];exact hl),k σ F1 _ (r1.write q rfl hv g2 g3 ⟨a,_,rfl,zk,g2,g3,g4.snoc p1⟩ rfl) e1.ff⟩
    ·cases hg
  ·cases hg
def sPop (i:Nat):SD:=λρ=>match ρ[i]? with
 |some (some (.acc ds))=>if ds.isEmpty then none else some (.next (ρ.set i (some (.acc ds.dropLast))))
 |_=>none
theorem R0 {K:KW}{F:Hp}:∀ {ds:List D}{vs:List V},Rps K F ds vs->Rps K F ds.dropLast vs.dropLast:=fun {ds vs} r=>by
 rw[List.dropLast_eq_take,List.dropLast_eq_take,<-r.length]
 exact r.take _
theorem Ks (i:Nat){cpos:Pos}(hm:MtR X "list.pop" rPop) (hx:PE X (.Name x p) (tVar i))
  (hbase:attributeBase (.Name x p) "pop" X.env (eval (.Name x p) X.env)=eval (.Name x p) X.env:=by rfl) (hline:(apos.endLine==cpos.line)=true:=by rfl)
  (hsw:swapsWith (.Call (.Attribute (.Name x p) "pop" apos) [] [] cpos) none pos.line X.env=pure false:=by rfl) :
  DS X B (.Expr (.Call (.Attribute (.Name x p) "pop" apos) [] [] cpos) pos) (sPop i) :=
 zC (y4 (qI PySem.F.plainAttrs_list PySem.F.slot_list_pop PySem.F.type_list_pop hm hx hbase hline) hsw) λE σ H ⟨F,ρ,fl,r,hg,k⟩=>by
  unfold sPop at hg
  split at hg
  ·rename_i ds q
   split at hg
   ·cases hg
   ·rename_i hl
    cases hg
    obtain⟨v,hv,a,vs,rfl,h1,h2,h3,h4⟩:=r.ents i _ q
    have hlen:0 < vs.length:=by
     rw[<-h4.length]
     cases ds with
     |nil=>simp at hl
     |cons=>simp
    have hy:vs[vs.length - 1]?=some vs[vs.length - 1]:=List.getElem?_eq_getElem (by omega)
    exact⟨.ref a,hv,.inl ⟨rfl,_,.of h1⟩,a,vs,_,rfl,rfl,h1,hy,k σ F _ (r.write q rfl hv h2 h3 ⟨a,_,rfl,zk,h2,h3,R0 h4⟩ rfl) (Same.refl _)⟩
  ·cases hg
def sPut (i:Nat)(gi g:EnvD->Option D):SD:=λρ=>match ρ[i]? with
 |some (some (.acc ds))=>(g ρ).bind λd=>((gi ρ).bind asI).bind λj=>(ixN ds.length j).map λn=>.next (ρ.set i (some (.acc (ds.set n d))))
 |_=>none
theorem Kh (i:Nat){gi:EnvD->Option D}{ie:Expr}(hx:PE X (.Name x p) (tVar i))(hi:DE X B ie gi)(he:DE X B e g){tpos:Pos}
  (ha:∀v,assign (.Subscript (.Name x p) ie tpos) X.env v=(do
   let ov <-holding [v] (eval (.Name x p) X.env)
   let iv <-holding [v,ov] (eval ie X.env)
   standAt tpos
   holding [v,ov,iv] (setItem ov iv v)
   release [v,ov,iv] []):=by intro _;rfl)
  (hs:swapsWithSole [.Subscript (.Name x p) ie tpos] e pos.line X.env=pure false:=by rfl) (hw:swappedStores [.Subscript (.Name x p) ie tpos] e X.env=pure none:=by rfl)
  (h1:(assignEach [.Subscript (.Name x p) ie tpos] X.env).map (·.2)=[assign (.Subscript (.Name x p) ie tpos) X.env]:=by rfl) :
  DS X B (.Assign [.Subscript (.Name x p) ie tpos] e pos) (sPut i gi g) :=
 zC (qM he (UG hx hi Gp ha) hs hw h1) λE σ H ⟨F,ρ,fl,r,hg,k⟩=>by
  unfold sPut at hg
  split at hg
  ·rename_i ds q
   cases q2:g ρ with
   |none=>rw[q2] at hg;cases hg
   |some d=>
    cases q3:gi ρ with
    |none=>rw[q2,q3] at hg;cases hg
    |some di=>
     rw[q2,q3] at hg
     have hg:((asI di).bind λj=>(ixN ds.length j).map λn=>Fl.next (ρ.set i (some (.acc (ds.set n d)))))=some fl:=hg
     cases q4:asI di with
     |none=>rw[q4] at hg;cases hg
     |some j=>
      rw[q4] at hg
      have hg:((ixN ds.length j).map λn=>Fl.next (ρ.set i (some (.acc (ds.set n d)))))=some fl:=hg
      cases q5:ixN ds.length j with
      |none=>rw[q5] at hg;cases hg
      |some n=>
       rw[q5] at hg
       cases hg
       rw[uz q4] at q3
       refine⟨F,ρ,d,r,q2,λw F1 H1 e1 p1=>?_⟩
       have r1:=r.ext e1
       obtain⟨v,hv,a,vs,rfl,g1,g2,g3,g4⟩:=r1.ents i _ q
       refine⟨.ref a,hv,F1,ρ,_,r1,q3,λu F2 H2 e2 p2=>?_⟩
       have r2:=r1.ext e2
       obtain⟨v',hv',a',vs',e',f1,f2,f3,f4⟩:=r2.ents i _ q
       rw[hv] at hv';cases hv';cases e'
       exact⟨a,vs',j,n,rfl,p2,f1,by rw[<-f4.length];exact q5,k σ F2 _ (r2.write q rfl hv f2 f3 ⟨a,_,rfl,zk,f2,f3,Rps.set (Rp.mono e2.ff p1) n f4⟩ rfl) (e1.ff.trans e2.ff)⟩
  ·cases hg
def sFldD (i:Nat)(C:Addr)(fl:Str)(g:EnvD->Option D):SD:=λρ=>match ρ[i]? with
 |some (some (.oac a dx C' fs ds))=>if C'=C/\fs.length < 900 then (g ρ).map λd=>.next (ρ.set i (some (.oac a dx C (putZ fl d fs ds).1 (putZ fl d fs ds).2))) else none
 |_=>none
theorem Vr (i:Nat){C:Addr}{fl:Str}{pos':Pos}(cl:Cls X.kw C)(na:NoAttr X.kw C fl)(hx:PE X (.Name x p) (tVar i))(he:DE X B e g)(hs:swapsWith e (some (.Attribute (.Name x p) fl pos')) pos.line X.env=pure false:=by rfl) :
  DS X B (.Assign [.Attribute (.Name x p) fl pos'] e pos) (sFldD i C fl g) :=
 zC (Uu hx he hs) λE σ H ⟨F,ρ,f,r,hg,k⟩=>by
  unfold sFldD at hg
  split at hg
  ·rename_i a dx C' fs ds q
   split at hg
   ·rename_i hc
    obtain⟨rfl,hlen⟩:=hc
    cases q2:g ρ with
    |none=>rw[q2] at hg;cases hg
    |some d=>
     rw[q2] at hg
     cases hg
     refine⟨F,ρ,d,r,q2,λw F1 H1 e1 p1=>?_⟩
     have r1:=r.ext e1
     obtain⟨v,hv,vs,rfl,g1,g2,g3,g4,g5⟩:=r1.ents i _ q
     obtain⟨z1,z2⟩:=Vz (f:=fl) (v:=w) g2
     obtain⟨z3,z4⟩:=ZV (f:=fl) p1 g2 g5
     refine⟨.ref a,hv,a,C',dx,_,rfl,g1,cl,na,?_,k σ F1 _ (r1.write q rfl hv g3 g4 ⟨_,rfl,?_,?_,g3,g4,z4⟩ rfl) e1.ff⟩
     ·have:(fs.zip vs).length<=fs.length:=by rw[List.length_zip];exact Nat.min_le_left _ _
      omega
     ·rw[zk,z1,z3]
     ·rw[z3,z2]
   ·cases hg
  ·cases hg
end
inductive Tgt where
 |name (i:Nat) | tup (is:List Nat)
def gNames:List Nat->TGs
 | []=>L2.gNil
 |i::is=>gCons (gName i) (gNames is)
def tgT (K:KW):Tgt->TG
 |.name i=>gName i
 |.tup is=>gTup K is.length (gNames is)
def yh:List Nat->List D->EnvD->EnvD
 |i::is,d::ds,ρ=>yh is ds (ρ.set i (some (.val d)))
 |_,_,ρ=>ρ
def asgD:Tgt->D->EnvD->Option EnvD
 |.name i,d,ρ=>some (ρ.set i (some (.val d)))
 |.tup is,.tup ds,ρ=>if ds.length=is.length then some (yh is ds ρ) else none
 |_,_,_=>none
inductive SetOf:List Nat->St->St->Prop
 |refl {is σ}:SetOf is σ σ
 |step {is σ σ' i v}:i∈is->SetOf is (σ.set i v) σ'->SetOf is σ σ'
def Tgt.slots:Tgt->List Nat
 |.name i=>[i]
 |.tup is=>is
theorem SetOf.pre {is:List Nat}{σ σ':St}(h:SetOf is σ σ'):∀ {σ1 cv:St},σ=σ1++cv->(∀i∈is,i < σ1.length)->∃σ1',σ1'.length=σ1.length/\σ'=σ1'++cv:=by
 induction h with
 |refl=>intro σ1 cv e _;exact⟨σ1,rfl,e⟩
 | @step σ σ' i v hi _ ih=>
  intro σ1 cv e hl
  obtain⟨s,h1,h2⟩:=ih (σ1:=σ1.set i v) (cv:=cv) (by rw[e,List.set_append_left _ _ (hl i hi)]) (λj hj=>by rw[List.length_set];exact hl j hj)
  exact⟨s,by rw[h1,List.length_set],h2⟩
theorem YK {K:KW}{B:Bs}{F H:Hp}{all:List Nat}:∀ {is:List Nat}{ds:List D}{vs:List V}{σ:St}{ρ:EnvD}{Q:St->Hp->Prop},Rep K B F σ H ρ->Rps K F ds vs->ds.length=is.length->(∀i∈is,i∈all) ->
  (∀σ',Rep K B F σ' H (yh is ds ρ)->SetOf all σ σ'->Q σ' H)->gNames is vs σ H Q
 | [],[],_,σ,ρ,Q,r,h,_,_,k=>by cases h;exact⟨rfl,k σ r .refl⟩
 | [],_::_,_,_,_,_,_,_,hl,_,_=>by simp at hl
 |_::_,[],_,_,_,_,_,_,hl,_,_=>by simp at hl
 |i::is,d::ds,_,σ,ρ,Q,r,⟨v,w,e,h,t⟩,hl,ha,k=>by
  subst e
  refine⟨v,w,rfl,?_⟩
  exact YK (r.setv h) t (by simpa using hl) (λj hj=>ha j (List.mem_cons_of_mem _ hj)) λσ' r' s'=>k σ' r' (.step (ha i List.mem_cons_self) s')
theorem jF {K:KW}{B:Bs}{F H:Hp}{t:Tgt}{d:D}{v:V}{σ:St}{ρ ρ':EnvD}{Q:St->Hp->Prop}(r:Rep K B F σ H ρ)(h:Rp K F d v)(e:asgD t d ρ=some ρ')(k:∀σ',Rep K B F σ' H ρ'->SetOf t.slots σ σ'->Q σ' H):tgT K t v σ H Q:=by
 cases t with
 |name i=>cases e;exact k _ (r.setv h) (.step (List.mem_singleton.mpr rfl) .refl)
 |tup is=>
  cases d with
  |tup ds=>
   have e:(if ds.length=is.length then some (yh is ds ρ) else none)=some ρ':=e
   split at e
   ·rename_i hl
    cases e
    obtain⟨a,vs,rfl,h1,h2⟩:=h
    exact⟨a,vs,rfl,.of (r.fh _ _ h1),by rw[<-h2.length];exact hl,YK r h2 hl (λi hi=>hi) k⟩
   ·cases e
  |_=>cases e
def Jok (K:KW)(Hb:Hp)(J:It)(F:Hp)(ds:List D):Prop:=∀F2 H2,Same F F2->Same F2 H2->Same Hb H2->∀i,
 (i < ds.length->J.go i H2/\∀x H3,J.yld i H2 x H3->∃F3 d,Ext F2 H2 F3 H3/\ds[i]?=some d/\Rp K F3 d x)/\(i=ds.length->J.stop i H2)
def lI (K:KW)(B:Bs)(hb:Hp->Hp)(g:EnvD->Option (List D)):TI:=λσ H R=>∃F ρ ds,Rep K B F σ H ρ/\g ρ=some ds/\∀J F' H',Ext F H F' H'->Jok K (hb H') J F' ds->R J H'
def DI (X:Cx)(B:Bs)(hb:Hp->Hp)(tg iter:Expr)(g:EnvD->Option (List D)):Prop:=PI X tg iter (lI X.kw B hb g)
def pQ (K:KW)(hb:Hp->Hp):Post D:=λ_ _ F' H' d v=>Rq K F' (hb H') d v
def DQ (X:Cx)(B:Bs)(hb:Hp->Hp)(e:Expr)(g:EnvD->Option D):Prop:=PE X e (lG X.kw B (pQ X.kw hb) g)
def HbOk (B:Bs)(hb:Hp->Hp):Prop:=(∀H,Same B.H0 H->Same (hb H) H)/\∀H H',Same H H'->Same (hb H) (hb H')
theorem hb0 {B:Bs}:HbOk B (λ_=>B.H0):=⟨λ_ h=>h,λ_ _ _=>Same.refl _⟩
theorem hb1 {B:Bs}:HbOk B (λH=>H):=⟨λ_ _=>Same.refl _,λ_ _ h=>h⟩
section
variable {X:Cx}{B:Bs}{hb:Hp->Hp}{e a b c tg iter:Expr}{es:List Expr}{pos p:Pos}{g ga gb:EnvD->Option D}{gi:EnvD->Option (List D)}{gs gbd:SD}{x:Str}
theorem DE.fix (h:DE X B e g):DQ X B hb e g:=pe_imp h λσ H Q ⟨F,ρ,x,r,hg,k⟩=>⟨F,ρ,x,r,hg,λv F' H' e p=>k v F' H' e (.inl p)⟩
theorem DR.cur (h:DR X B e g):DQ X B (λH=>H) e g:=h
def gf (i:Nat):EnvD->Option D:=λρ=>match ρ[i]? with
 |some (some (.val d))=>some d
 |some (some (.bor ds))=>some (.lst ds)
 |_=>none
theorem yv (i:Nat)(h:PE X (.Name x pos) (tVar i)):DQ X B (λ_=>B.H0) (.Name x pos) (gf i) :=
 pe_imp h λσ H Q ⟨F,ρ,d,r,hg,k⟩=>by
  unfold gf at hg
  split at hg
  ·rename_i d' e
   cases hg
   obtain⟨v,h1,h2⟩:=r.ents i _ e
   exact⟨v,h1,k v F H (.refl r.fh) (.inl h2)⟩
  ·rename_i ds e
   cases hg
   obtain⟨v,h1,a,vs,e1,e2,e5⟩:=r.ents i _ e
   exact⟨v,h1,k v F H (.refl r.fh) (.inr ⟨a,vs,ds,rfl,e1,e2,e5⟩)⟩
  ·cases hg
def itL:D->Option (List D)
 |.lst ds=>some ds
 |.scr ns=>some (ns.map D.int)
 |_=>none
theorem vg {K:KW}{F Hb:Hp}{d:D}{v:V}{ds:List D}(r:Rq K F Hb d v)(h:itL d=some ds):∃a vs,v=.ref a/\Rps K F ds vs/\∀F2 H2,Same F F2->Same F2 H2->Same Hb H2->SqL K H2 a vs:=by
 cases d with
 |lst es=>
  cases h
  rcases r with⟨a,vs,rfl,q,t⟩ | ⟨a,vs,ds',e1,rfl,q,t⟩
  ·exact⟨a,vs,rfl,t,λF2 H2 s1 s2 _=>.of (s2 _ _ (s1 _ _ q))⟩
  ·cases e1;exact⟨a,vs,rfl,t,λF2 H2 _ _ s3=>.of (s3 _ _ q)⟩
 |scr ns=>
  cases h
  obtain⟨a,rfl,q⟩:=r.one λ_ h=>by cases h
  exact⟨a,_,rfl,Rps.ints ns,λF2 H2 s1 s2 _=>s2.seq (s1.seq q)⟩
 |_=>cases h
def gIt (g:EnvD->Option D):EnvD->Option (List D):=λρ=>(g ρ).bind itL
theorem zM (hbk:HbOk B hb)(h:DQ X B hb e g):DI X B hb tg e (gIt g) :=
 jx (V7 h) λσ H R ⟨F,ρ,ds,r,hg,k⟩=>by
  unfold gIt at hg
  cases q:g ρ with
  |none=>rw[q] at hg;cases hg
  |some d=>
   rw[q] at hg
   refine⟨F,ρ,d,r,q,λv F1 H1 e1 p1=>?_⟩
   obtain⟨a,vs,rfl,t,sq⟩:=vg p1 hg
   have r1:=r.ext e1
   refine⟨a,rfl,⟨vs,sq F1 H1 (Same.refl _) e1.fh (hbk.1 H1 r1.ex.hh)⟩,k _ F1 H1 e1 λF2 H2 s1 s2 s3 i=>⟨λhi=>?_,λhi=>?_⟩⟩
   ·have hq:=sq F2 H2 s1 s2 s3
    have hiv:i < vs.length:=by rw[<-t.length];exact hi
    have hv:vs[i]?=some vs[i]:=List.getElem?_eq_getElem hiv
    refine⟨⟨vs,_,hq,hv⟩,λx H3 hy=>?_⟩
    obtain⟨rfl,hy⟩:=hy
    obtain⟨d',hd,rd⟩:=t.get' (hy vs hq)
    exact⟨F2,d',.refl s2,hd,rd.mono s1⟩
   ·exact⟨vs,sq F2 H2 s1 s2 s3,by rw[hi,t.length];exact Nat.le_refl _⟩
def lQs (K:KW)(B:Bs)(hb:Hp->Hp)(g:EnvD->Option (List D)):TA:=λσ H Q=>
 ∃F ρ ds,Rep K B F σ H ρ/\g ρ=some ds/\∀vs F' H',Ext F H F' H'->Paired (λd v=>Rq K F' (hb H') d v) ds vs->Q vs H'
def DQs (X:Cx)(B:Bs)(hb:Hp->Hp)(es:List Expr)(g:EnvD->Option (List D)):Prop:=PA X es (lQs X.kw B hb g)
theorem qv:DQs X B hb [] gNil:=yk zS λσ H Q ⟨F,ρ,ds,r,hg,k⟩=>by cases hg;exact k [] F H (.refl r.fh) .nil
theorem kj (hbk:HbOk B hb)(ha:DQ X B hb e g)(hr:DQs X B hb es gi)(hs:starEach (e::es) X.env=(false,eval e X.env)::starEach es X.env:=by rfl):DQs X B hb (e::es) (gCons' g gi) :=
 yk (zJ ha hr hs) λσ H Q ⟨F,ρ,ds,r,hg,k⟩=>by
  obtain⟨d,dr,q1,q2,q3⟩:=bind2 hg
  cases q3
  exact⟨F,ρ,d,r,q1,λv F1 H1 e1 p1=>⟨F1,ρ,dr,r.ext e1,q2,λvs F2 H2 e2 p2=>k _ F2 H2 (e1.trans e2) (.cons (p1.mono e2.ff (hbk.2 _ _ e2.hh)) p2)⟩⟩
def enumD:Nat->List D->List D
 |_,[]=>[]
 |n,d::ds=>.tup [.int n,d]::enumD (n+1) ds
theorem uG:∀(n:Nat)(ds:List D),(enumD n ds).length=ds.length
 |_,[]=>rfl
 |n,_::ds=>by simp[enumD,uG (n+1) ds]
theorem Y3:∀(n:Nat)(ds:List D)(i:Nat)(d:D),ds[i]?=some d->(enumD n ds)[i]?=some (.tup [.int ((n+i:Nat):Int),d])
 |_,[],_,_,h=>by simp at h
 |n,x::ds,0,d,h=>by simp at h;subst h;simp[enumD]
 |n,x::ds,i+1,d,h=>by
  have:=Y3 (n+1) ds i d (by simpa using h)
  simp only[enumD,List.getElem?_cons_succ,this]
  congr 5
  omega
def gEn (gs:EnvD->Option (List D)):EnvD->Option (List D):=λρ=>(gs ρ).bind λxs=>match xs with
 | [d]=>(itL d).map (enumD 0)
 |_=>none
variable {elts:List Expr}{tk:Nat}{tpos:Pos}
theorem um (hbk:HbOk B hb)(hg:Gl X "enumerate") (hm:X.mg "enumerate" = none) (ha:DQs X B hb [a] gi) (hs:starEach [a] X.env=[(false,eval a X.env)]:=by rfl) :
  DI X B hb (.Tuple elts tk tpos) (.Call (.Name "enumerate" p) [a] [] pos) (gEn gi) :=
 jx (Rs hg hm ha hs) λσ H R ⟨F,ρ,ds,r,hg,k⟩=>by
  unfold gEn at hg
  cases q:gi ρ with
  |none=>rw[q] at hg;cases hg
  |some xs=>
   rw[q] at hg
   refine⟨F,ρ,xs,r,q,λvs F1 H1 e1 p1=>?_⟩
   match xs,hg,p1 with
   | [d],hg,p1=>
    obtain⟨v,rfl,rv⟩:=pair1 p1
    have hg:(itL d).map (enumD 0)=some ds:=hg
    cases q2:itL d with
    |none=>rw[q2] at hg;cases hg
    |some es=>
     rw[q2] at hg
     cases hg
     obtain⟨a,us,rfl,t,sq⟩:=vg rv q2
     have r1:=r.ext e1
     refine⟨a,rfl,⟨us,sq F1 H1 (Same.refl _) e1.fh (hbk.1 H1 r1.ex.hh)⟩,k _ F1 H1 e1 λF2 H2 s1 s2 s3 i=>⟨λhi=>?_,λhi=>?_⟩⟩
     ·rw[uG] at hi
      have hq:=sq F2 H2 s1 s2 s3
      have hiv:i < us.length:=by rw[<-t.length];exact hi
      have hv:us[i]?=some us[i]:=List.getElem?_eq_getElem hiv
      refine⟨⟨us,_,hq,hv⟩,λx H3 hy=>?_⟩
      obtain⟨T,w,nT,rfl,rfl,hy⟩:=hy
      obtain⟨d',hd,rd⟩:=t.get' (hy us hq)
      refine⟨upd F2 T (.tup [.int i,w]),_,.newF s2 nT,Y3 0 es i d' hd,⟨T,_,rfl,zk,_,_,rfl,?_,_,_,rfl,(rd.mono s1).mono (yc (s2.free nT)),rfl⟩⟩
      show V.int i=V.int ((0+i:Nat):Int)
      rw[Nat.zero_add]
     ·exact⟨us,sq F2 H2 s1 s2 s3,by rw[hi,uG,t.length];exact Nat.le_refl _⟩
def rngD (lo:Int):Nat->List D
 |0=>[]
 |n+1=>.int lo::rngD (lo+1) n
theorem yP:∀(lo:Int)(n:Nat),(rngD lo n).length=n
 |_,0=>rfl
 |lo,n+1=>by simp[rngD,yP (lo+1) n]
theorem VR:∀(lo:Int)(n i:Nat),i < n->(rngD lo n)[i]?=some (.int (lo+i))
 |_,0,_,h=>by omega
 |lo,n+1,0,_=>by simp[rngD]
 |lo,n+1,i+1,h=>by
  have:=VR (lo+1) n i (by omega)
  simp only[rngD,List.getElem?_cons_succ,this]
  congr 2
  omega
def BIG:Int:=1000000000000
def gR1 (gs:EnvD->Option (List D)):EnvD->Option (List D):=λρ=>(gs ρ).bind λxs=>match xs with
 | [.int j]=>if -BIG<=j/\j<=BIG then some (rngD 0 j.toNat) else none
 |_=>none
theorem KU {K:KW}{Hb F:Hp}(lo:Int)(n:Nat):Jok K Hb (Itr lo n) F (rngD lo n):=λF2 H2 s1 s2 s3 i=>⟨λhi=>by
 rw[yP] at hi
 refine⟨hi,λx H3 hy=>?_⟩
 obtain⟨rfl,rfl⟩:=hy
 exact⟨F2,_,.refl s2,VR lo n i hi,rfl⟩,λhi=>by rw[yP] at hi;exact Nat.le_of_eq hi.symm⟩
theorem yL (hg:Gl X "range") (hm:X.mg "range" = none) (ha:DRs X B [a] gi) (hs:starEach [a] X.env=[(false,eval a X.env)]:=by rfl):DI X B hb tg (.Call (.Name "range" p) [a] [] pos) (gR1 gi) :=
 jx (GG hg hm ha hs) λσ H R ⟨F,ρ,ds,r,hg,k⟩=>by
  unfold gR1 at hg
  cases q:gi ρ with
  |none=>rw[q] at hg;cases hg
  |some xs=>
   rw[q] at hg
   refine⟨F,ρ,xs,r,q,λvs F1 H1 e1 p1=>?_⟩
   match xs,hg,p1 with
   | [.int j],hg,p1=>
    obtain⟨v,rfl,rv⟩:=pair1 p1
    cases rv.int
    have hg:(if -BIG<=j/\j<=BIG then some (rngD 0 j.toNat) else none)=some ds:=hg
    split at hg
    ·rename_i hc
     cases hg
     unfold BIG at hc
     exact⟨j,rfl,by omega,by omega,k _ F1 H1 e1 (KU 0 _)⟩
    ·cases hg
def forD (t:Tgt)(gb:SD):List D->EnvD->Option Fl
 | [],ρ=>some (.next ρ)
 |d::ds,ρ=>(asgD t d ρ).bind λρ1=>(gb ρ1).bind λfl=>match fl with
  |.next ρ2=>forD t gb ds ρ2
  |.cont ρ2=>forD t gb ds ρ2
  |.brk ρ2=>some (.next ρ2)
  |.ret o=>some (.ret o)
def sFor (t:Tgt)(gi:EnvD->Option (List D))(gb:SD):SD:=λρ=>(gi ρ).bind λds=>forD t gb ds ρ
theorem zO {body:List Stmt}{t:Tgt}(hp:PassesOwn (model X.prog X.w) X.A X.env X.xe)(hc:X.calm=true)(hi:DI X B (λ_=>B.H0) tg iter gi)(hg:PG X tg (tgT X.kw t))(hb:DSs X B body gbd)
  (hs:∀x,foldedSetIterable iter X.env x=pure x:=by intro _;rfl):DS X B (.For tg iter body [] pos) (sFor t gi gbd) :=
 zC (Gs hp hc hi hg hb hs) λE σ H ⟨F,ρ,fl,r,hg,k⟩=>by
  unfold sFor at hg
  cases q:gi ρ with
  |none=>rw[q] at hg;cases hg
  |some ds=>
   rw[q] at hg
   have hg:forD t gbd ds ρ=some fl:=hg
   refine⟨F,ρ,ds,r,q,λJ F1 H1 e1 jok=>?_⟩
   refine⟨λi m σ H=>m=ds.length - i/\i<=ds.length/\∃F2 ρ2,Rep X.kw B F2 σ H ρ2/\Same F1 F2/\forD t gbd (ds.drop i) ρ2=some fl,⟨ds.length,rfl,Nat.zero_le _,F1,ρ,r.ext e1,Same.refl _,hg⟩,?_⟩
   rintro i m σ2 H2 ⟨rfl,hi,F2,ρ2,r2,s2,h2⟩
   obtain⟨j1,j2⟩:=jok F2 H2 s2 r2.fh r2.ex.hh i
   by_cases hlt:i < ds.length
   ·obtain⟨go,yl⟩:=j1 hlt
    refine .inr ⟨go,λσ' H'=>∃F3 ρ3,Rep X.kw B F3 σ' H' ρ3/\Same F1 F3/\forD t gbd (ds.drop (i+1)) ρ3=some fl,λσ' H' ⟨F3,ρ3,r3,s3,h3⟩=>⟨ds.length - (i+1),by omega,rfl,hlt,F3,ρ3,r3,s3,h3⟩,λx H3 hy=>?_⟩
    obtain⟨F3,d,e3,hd,rd⟩:=yl x H3 hy
    have hdd:ds.drop i=d::ds.drop (i+1):=by
     rw[List.drop_eq_getElem_cons hlt]
     congr 1
     rw[List.getElem?_eq_getElem hlt] at hd
     exact Option.some.inj hd
    rw[hdd] at h2
    have h2:((asgD t d ρ2).bind λρ1=>(gbd ρ1).bind λfl=>match fl with
     |.next ρ2=>forD t gbd (ds.drop (i+1)) ρ2
     |.cont ρ2=>forD t gbd (ds.drop (i+1)) ρ2
     |.brk ρ2=>some (.next ρ2)
     |.ret o=>some (.ret o))=some fl:=h2
    cases q1:asgD t d ρ2 with
    |none=>rw[q1] at h2;cases h2
    |some ρ3=>
     rw[q1] at h2
     refine jF (r2.ext e3) rd q1 λσ' r4 _=>?_
     cases q4:gbd ρ3 with
     |none=>rw[show (some ρ3).bind _=(gbd ρ3).bind _ from rfl,q4] at h2;cases h2
     |some f1=>
      rw[show (some ρ3).bind _=(gbd ρ3).bind _ from rfl,q4] at h2
      refine⟨F3,ρ3,f1,r4,q4,?_⟩
      cases f1 with
      |next ρ5=>exact λσ5 F5 H5 r5 s5=>⟨F5,ρ5,r5,(s2.trans e3.ff).trans s5,h2⟩
      |cont ρ5=>exact λσ5 F5 H5 r5 s5=>⟨F5,ρ5,r5,(s2.trans e3.ff).trans s5,h2⟩
      |brk ρ5=>cases h2;exact λσ5 F5 H5 r5 s5=>k σ5 F5 H5 r5 (e1.ff.trans ((s2.trans e3.ff).trans s5))
      |ret o=>cases h2;exact k
   ·have hi':i=ds.length:=by omega
    have hdd:ds.drop i=[]:=by rw[hi',List.drop_length]
    rw[hdd] at h2
    cases h2
    exact .inl ⟨j2 hi',k σ2 F2 H2 r2 (e1.ff.trans s2)⟩
def capO:Option (Option En)->Option En
 |some (some (.val d))=>some (.val d)
 |some (some (.acc ds))=>some (.bor ds)
 |some (some (.bor ds))=>some (.bor ds)
 |some (some (.dct _ kvs))=>some (.dbo kvs)
 |some (some (.dbo kvs))=>some (.dbo kvs)
 |_=>none
def capE (ρ:EnvD)(cap:List (Str×Nat)):EnvD:=cap.map λp=>capO ρ[p.2]?
def compD (t:Tgt)(tc:EnvD->Option Bool)(ge:EnvD->Option D)(ρ0:EnvD):List D->Option (List D)
 | []=>some []
 |d::ds=>(asgD t d ρ0).bind λρ1=>(tc ρ1).bind λb=>if b then (ge ρ1).bind λy=>(compD t tc ge ρ0 ds).map (y::·) else compD t tc ge ρ0 ds
def gComp (own:List Str)(cap:List (Str×Nat))(t:Tgt)(tc:EnvD->Option Bool)(ge:EnvD->Option D)(gi:EnvD->Option (List D)):EnvD->Option (List D):=λρ=>
 (gi ρ).bind λds=>if ds.length<=TOP then compD t tc ge (List.replicate own.length none++capE ρ cap) ds else none
def tYes:EnvD->Option Bool:=λ_=>some true
theorem UK {K:KW}{B:Bs}{σ:St}{H:Hp}{Q:Bool->Hp->Prop}(h:lT K B tYes σ H Q):tTrue σ H Q:=by
 obtain⟨F,ρ,b,r,hg,k⟩:=h
 cases hg
 exact k F H (.refl r.fh)
theorem Q9 {X:Cx}{ifs:List Expr}{t t':TT}(h:PIfs X ifs t)(k:∀σ H Q,t' σ H Q->t σ H Q):PIfs X ifs t':=λpins s σ H Q I q=>h pins s σ H Q I (k σ H Q q)
def DIfs (X:Cx)(B:Bs)(ifs:List Expr)(g:EnvD->Option Bool):Prop:=PIfs X ifs (lT X.kw B g)
theorem yI:DIfs X B [] tYes:=Q9 UM λσ H Q h=>UK h
theorem jH {tc:EnvD->Option Bool}(h:DT X B c tc):DIfs X B [c] tc:=QC h
theorem kx {K:KW}{B:Bs}{F F1 H H1:Hp}{σ σ1:St}{ρ:EnvD}{own:List Str}{cap:List (Str×Nat)}(r:Rep K B F σ H ρ)(e:Ext F H F1 H1){F2 H2:Hp}(e2:Ext F1 H1 F2 H2)(hl:σ1.length=own.length) :
  Rep K ⟨F1,H1⟩ F2 (σ1++cap.map λp=>(σ[p.2]?).getD none) H2 (List.replicate own.length none++capE ρ cap):=by
 have noown:∀i y,(List.replicate own.length none++capE ρ cap)[i]?=some (some y)->∃p,cap[i - own.length]?=some p/\own.length<=i/\((∃d,y=.val d/\ρ[p.2]?=some (some (.val d)))∨(∃ds,y=.bor ds/\ρ[p.2]?=some (some (.acc ds)))∨(∃ds,y=.bor ds/\ρ[p.2]?=some (some (.bor ds)))∨(∃kvs,y=.dbo kvs/\∃oa,ρ[p.2]?=some (some (.dct oa kvs)))∨∃kvs,y=.dbo kvs/\ρ[p.2]?=some (some (.dbo kvs))):=by
  intro i y h
  by_cases hi:i < own.length
  ·rw[List.getElem?_append_left (by simpa using hi),List.getElem?_replicate,if_pos hi] at h
   cases h
  ·rw[List.getElem?_append_right (by simpa using hi),List.length_replicate] at h
   unfold capE at h
   rw[List.getElem?_map] at h
   cases q:cap[i - own.length]? with
   |none=>rw[q] at h;cases h
   |some p=>
    rw[q] at h
    replace h:capO ρ[p.2]?=some y:=Option.some.inj h
    refine⟨p,rfl,by omega,?_⟩
    unfold capO at h
    split at h
    ·rename_i d q2;cases h;exact .inl ⟨d,rfl,q2⟩
    ·rename_i ds q2;cases h;exact .inr (.inl ⟨ds,rfl,q2⟩)
    ·rename_i ds q2;cases h;exact .inr (.inr (.inl ⟨ds,rfl,q2⟩))
    ·rename_i oa ds q2;cases h;exact .inr (.inr (.inr (.inl ⟨ds,rfl,oa,q2⟩)))
    ·rename_i ds q2;cases h;exact .inr (.inr (.inr (.inr ⟨ds,rfl,q2⟩)))
    ·cases h
 refine⟨e2,by simp[capE,hl],λi y h=>?_,λi j y z v w h1 h2 _ _ _ a ha _=>?_⟩
 ·obtain⟨p,hp,hi,hy⟩:=noown i y h
  have slot:∀v,σ[p.2]?=some (some v)->(σ1++cap.map λp=>(σ[p.2]?).getD none)[i]?=some (some v):=λv hv=>by
   rw[List.getElem?_append_right (by rw[hl];exact hi),hl,List.getElem?_map,hp]
   show some ((σ[p.2]?).getD none)=_
   rw[hv];rfl
  rcases hy with⟨d,rfl,q⟩ | ⟨ds,rfl,q⟩ | ⟨ds,rfl,q⟩ | ⟨ds,rfl,oa,q⟩ | ⟨ds,rfl,q⟩
  ·obtain⟨v,hv,h2⟩:=r.ents _ _ q
   exact⟨v,slot v hv,Rp.mono (e.ff.trans e2.ff) h2⟩
  ·obtain⟨v,hv,a,vs,e1,g1,g2,g3,g4⟩:=r.ents _ _ q
   exact⟨v,slot v hv,a,vs,e1,e.hh _ _ g1,g4.mono (e.ff.trans e2.ff)⟩
  ·obtain⟨v,hv,a,vs,e1,g1,g4⟩:=r.ents _ _ q
   exact⟨v,slot v hv,a,vs,e1,e.hh _ _ (r.ex.hh _ _ g1),g4.mono (e.ff.trans e2.ff)⟩
  ·obtain⟨v,hv,a,ob,vs,e1,g1,g2,g3,g4,g5⟩:=r.ents _ _ q
   exact⟨v,slot v hv,a,ob,vs,e1,e.hh _ _ g1,g4.mono (e.ff.trans e2.ff)⟩
  ·obtain⟨v,hv,a,ob,vs,e1,g1,g4⟩:=r.ents _ _ q
   exact⟨v,slot v hv,a,ob,vs,e1,e.hh _ _ (r.ex.hh _ _ g1),g4.mono (e.ff.trans e2.ff)⟩
 ·obtain⟨p,_,_,hy⟩:=noown i y h1
  rcases hy with⟨d,rfl,q⟩ | ⟨ds,rfl,q⟩ | ⟨ds,rfl,q⟩ | ⟨ds,rfl,oa,q⟩ | ⟨ds,rfl,q⟩<;>cases ha
theorem yW {elt:Expr}{ifs:List Expr}{scope:Scope}{own:List Str}{cap:List (Str×Nat)}{t:Tgt}{tc:EnvD->Option Bool}{ge:EnvD->Option D}(hc:X.calm=true)(S:CompScope X scope own cap)(hi:DI X B (λH=>H) tg iter gi)(ht:∀i∈t.slots,i < own.length)
  (hin:∀(B':Bs) C s₀ H₀ fp pn,PG (cxc X scope C (own++cap.map (·.1)) s₀ H₀ fp pn) tg (tgT X.kw t)/\DIfs (cxc X scope C (own++cap.map (·.1)) s₀ H₀ fp pn) B' ifs tc/\DE (cxc X scope C (own++cap.map (·.1)) s₀ H₀ fp pn) B' elt ge)
  (hs:∀x,foldedSetIterable iter X.env x=pure x:=by intro _;rfl) :
  DA X B (.ListComp elt [⟨tg,iter,ifs,0⟩] scope pos) (gComp own cap t tc ge gi):=by
 refine pe_imp (Wu (tc:=λσ H Q=>∃B',lT X.kw B' tc σ H Q) (te:=λσ H Q=>∃B',lG X.kw B' (pE X.kw) ge σ H Q) hc S hi (λC s₀ H₀ fp pn=>⟨(hin ⟨H₀,H₀⟩ C s₀ H₀ fp pn).1,λpins s σ H Q I ⟨B',q⟩=>(hin B' C s₀ H₀ fp pn).2.1 pins s σ H Q I q,λpins s σ H Q I ⟨B',q⟩=>(hin B' C s₀ H₀ fp pn).2.2 pins s σ H Q I q⟩) hs) ?_
 intro σ H Q ⟨F,ρ,out,r,hg,k⟩
 unfold gComp at hg
 cases q:gi ρ with
 |none=>rw[q] at hg;cases hg
 |some ds=>
  rw[q] at hg
  have hg:(if ds.length<=TOP then compD t tc ge (List.replicate own.length none++capE ρ cap) ds else none)=some out:=hg
  split at hg
  ·rename_i htop
   refine⟨F,ρ,ds,r,q,λJ F1 H1 e1 jok=>?_⟩
   refine⟨λi m ys H2=>m=ds.length - i/\i<=ds.length/\∃F2 o1 o2,Ext F1 H1 F2 H2/\Rps X.kw F2 o1 ys/\o1.length<=i/\compD t tc ge (List.replicate own.length none++capE ρ cap) (ds.drop i)=some o2/\out=o1++o2,
    ⟨ds.length,rfl,Nat.zero_le _,F1,[],out,.refl e1.fh,rfl,Nat.le_refl _,hg,rfl⟩,?_⟩
   rintro i m ys H2 ⟨rfl,hi,F2,o1,o2,e2,ry,hl1,h2,rfl⟩
   refine⟨ym (by rw[<-ry.length];omega),?_⟩
   obtain⟨j1,j2⟩:=jok F2 H2 e2.ff e2.fh e2.hh i
   by_cases hlt:i < ds.length
   ·obtain⟨go,yl⟩:=j1 hlt
    refine .inr ⟨go,λys' H'=>∃F3 p1 p2,Ext F1 H1 F3 H'/\Rps X.kw F3 p1 ys'/\p1.length<=i+1/\compD t tc ge (List.replicate own.length none++capE ρ cap) (ds.drop (i+1))=some p2/\o1++o2=p1++p2,λys' H' ⟨F3,p1,p2,e3,r3,l3,h3,eo⟩=>⟨ds.length - (i+1),by omega,rfl,hlt,F3,p1,p2,e3,r3,l3,h3,eo⟩,λx H3 hy σ1 hσ=>?_⟩
    obtain⟨F3,d,e3,hd,rd⟩:=yl x H3 hy
    have hdd:ds.drop i=d::ds.drop (i+1):=by
     rw[List.drop_eq_getElem_cons hlt]
     congr 1
     rw[List.getElem?_eq_getElem hlt] at hd
     exact Option.some.inj hd
    rw[hdd] at h2
    simp only[compD] at h2
    cases q1:asgD t d (List.replicate own.length none++capE ρ cap) with
    |none=>rw[q1] at h2;cases h2
    |some ρ1=>
     rw[q1] at h2
     have e13:=e2.trans e3
     refine jF (kx (own:=own) (cap:=cap) r e1 e13 hσ) rd q1 λσ' r4 so=>⟨?_,?_⟩
     ·obtain⟨σ1',l1,e4⟩:=so.pre (σ1:=σ1) rfl (λj hj=>by rw[hσ];exact ht j hj)
      exact⟨σ1',by rw[l1,hσ],e4⟩
     ·have h2:((tc ρ1).bind λb=>if b then (ge ρ1).bind λy=>(compD t tc ge (List.replicate own.length none++capE ρ cap) (ds.drop (i+1))).map (y::·) else compD t tc ge (List.replicate own.length none++capE ρ cap) (ds.drop (i+1)))=some o2:=h2
      cases q2:tc ρ1 with
      |none=>rw[q2] at h2;cases h2
      |some bb=>
       rw[q2] at h2
       refine⟨⟨F1,H1⟩,F3,ρ1,bb,r4,q2,λF5 H5 e5=>?_⟩
       cases bb with
       |false=>exact iteF ⟨F5,o1,o2,e13.trans e5,ry.mono (e3.ff.trans e5.ff),by omega,h2,rfl⟩
       |true=>
        have h2:((ge ρ1).bind λy=>(compD t tc ge (List.replicate own.length none++capE ρ cap) (ds.drop (i+1))).map (y::·))=some o2:=h2
        cases q3:ge ρ1 with
        |none=>rw[q3] at h2;cases h2
        |some y=>
         rw[q3] at h2
         have h2:(compD t tc ge (List.replicate own.length none++capE ρ cap) (ds.drop (i+1))).map (y::·)=some o2:=h2
         cases q4:compD t tc ge (List.replicate own.length none++capE ρ cap) (ds.drop (i+1)) with
         |none=>rw[q4] at h2;cases h2
         |some p2=>
          rw[q4] at h2
          cases h2
          refine iteT ⟨⟨F1,H1⟩,F5,ρ1,y,r4.ext e5,q3,λv F6 H6 e6 p6=>?_⟩
          exact⟨F6,o1++[y],p2,e13.trans (e5.trans e6),(ry.mono (e3.ff.trans (e5.ff.trans e6.ff))).snoc p6,by simp;omega,rfl,by simp⟩
   ·have hi':i=ds.length:=by omega
    have hdd:ds.drop i=[]:=by rw[hi',List.drop_length]
    rw[hdd] at h2
    cases h2
    refine .inl ⟨j2 hi',λD hD=>?_⟩
    have e:=e1.trans e2
    exact k _ F2 _ (e.trans (.new e.fh hD)) ⟨D,ys,rfl,e.hh.free hD,zk,e.fh.free hD,by simpa using ry⟩
  ·cases hg
end
def stE (N:List Str)(xs:List (Option En)):EnvD:=xs++List.replicate (N.length - xs.length) none
def outO:Option Fl->Option En
 |some (.next _)=>some (.val .non)
 |some (.ret o)=>some o
 |_=>none
def mir (N:List Str)(g:SD):List En->Option En:=λxs=>outO (g (stE N (xs.map some)))
section
variable {P:Program}{w:World}{K:PySem.W.Frag}{mg:Str->Option Value}{base:Heap}
theorem vJ {α β:Type}{R:α->β->Prop}:∀ {l:List α}{r:List β}{i:Nat}{x:α},Paired R l r->l[i]?=some x->∃y,r[i]?=some y/\R x y
 |_,_,_,_,.nil,e=>by simp at e
 |_,_,0,_,.cons r _,e=>by simp at e;subst e;exact⟨_,rfl,r⟩
 |_,_,i+1,x,.cons _ t,e=>by
  obtain⟨u,h1,h2⟩:=vJ (i:=i) t (by simpa using e)
  exact⟨u,by simpa using h1,h2⟩
theorem jR {F H:Hp}{N ps:List Str}{xs:List En}{vs:List V}(fh:Same F H)(hp:Paired (λx v=>ArgE ⟨K,w⟩ F H x v) xs vs):Rep ⟨K,w⟩ ⟨F,H⟩ F (L2.start N vs) H (stE N (xs.map some)):=by
 have hl:=wc hp
 have at':∀(i:Nat) y,(stE N (xs.map some))[i]?=some (some y)->xs[i]?=some y:=λi y h=>by
  unfold stE at h
  by_cases hi:i < xs.length
  ·rw[List.getElem?_append_left (by simpa using hi),List.getElem?_map] at h
   cases q:xs[i]? with
   |none=>rw[q] at h;cases h
   |some z=>rw[q] at h;cases h;rfl
  ·rw[List.getElem?_append_right (by simpa using hi),List.getElem?_replicate] at h
   split at h<;>cases h
 refine⟨.refl fh,?_,λi y h=>?_,λi j y z v w h1 h2 _ _ _ a ha _=>?_⟩
 ·unfold L2.start stE
  simp[hl]
 ·have hx:=at' i y h
  obtain⟨v,hv,r⟩:=vJ hp hx
  refine⟨v,?_,?_⟩
  ·unfold L2.start
   rw[List.getElem?_append_left (by simpa using (List.getElem?_eq_some_iff.mp hv).1),List.getElem?_map,hv];rfl
  ·cases y with
   |val d=>exact r
   |bor ds=>exact r
   |acc ds=>exact r.elim
   |oac a dx C fs ds=>exact r.elim
   |tre t=>exact r.elim
   |dct oa kvs=>exact r.elim
   |dbo kvs=>exact r
 ·have hx:=at' i y h1
  obtain⟨u,_,r⟩:=vJ hp hx
  cases y with
  |val d=>cases ha
  |bor ds=>cases ha
  |acc ds=>exact r.elim
  |oac a dx C fs ds=>exact r.elim
  |tre t=>exact r.elim
  |dct oa kvs=>exact r.elim
  |dbo kvs=>cases ha
theorem zw {x qual:Str}{st:Stmt}{f:Addr}{fd:FuncData}{N ps:List Str}{k:Nat}{g:SD}(F:Fun K x qual st f fd)(S:FnScope N ps (zd st))
  (hb:∀(cdv:Value) (A:Around) (outer:List Env) (s:Shared) (H:Hp) (E:XK) (B:Bs),Room k (A.deeper (envOfC qual (zd st) s.heap.objs.size f cdv)) ->
   DSs (cxOf CX0 P w K mg base N qual (zd st) f cdv A outer s H E).nox B (zi st) g) :
  FnOk P w K mg base CX0 (k+1) f fd ps (pSp ⟨K,w⟩ ps.length (len? ps.length (mir N g))):=by
 refine F.ok S (λvs H Q E h=>?_) (λcdv A outer s H vs Q E hr h=>?_)
 ·obtain⟨F,xs,o,_,hl,hp,_⟩:=h
  rw[<-wc hp];exact hl
 ·obtain⟨F0,xs,o,fh,hl,hp,hm,k⟩:=h
  refine⟨_,hb cdv A outer s H E ⟨F0,H⟩ hr,?_⟩
  have hm:mir N g xs=some o:=by
   unfold len? at hm
   rw[if_pos hl] at hm
   exact hm
  unfold mir at hm
  cases q:g (stE N (xs.map some)) with
  |none=>rw[q] at hm;cases hm
  |some fl=>
   rw[q] at hm
   refine⟨F0,_,fl,jR (ps:=ps) fh hp,q,?_⟩
   cases fl with
   |next ρ=>cases hm;exact λσ' F' H' r s=>k .non F' H' r.ex rfl
   |ret o'=>cases hm;exact λv F' H' e p=>k v F' H' e p
   |brk ρ=>cases hm
   |cont ρ=>cases hm
def outJ (x dx C:Addr):Option (Option En)->Option (List Str×List D)
 |some (some (.oac a d C' fs ds))=>if a=x/\d=dx/\C'=C then some (fs,ds) else none
 |_=>none
def outI (x dx C:Addr):Option Fl->Option (List Str×List D)
 |some (.next ρ)=>outJ x dx C ρ[0]?
 |_=>none
def mirI (C:Addr)(N:List Str)(g:SD)(x dx:Addr):List En->Option (List Str×List D):=λxs=>outI x dx C (g (stE N (some (.oac x dx C [] [])::xs.map some)))
theorem Ki {x qual:Str}{st:Stmt}{f C:Addr}{fd:FuncData}{N ps:List Str}{k n:Nat}{g:SD}(F:Fun K x qual st f fd)(S:FnScope N ps (zd st))(hn:ps.length=n+1)
  (hb:∀(cdv:Value) (A:Around) (outer:List Env) (s:Shared) (H:Hp) (E:XK) (B:Bs),Room k (A.deeper (envOfC qual (zd st) s.heap.objs.size f cdv)) ->
   DSs (cxOf CX0 P w K mg base N qual (zd st) f cdv A outer s H E).nox B (zi st) g) :
  FnOk P w K mg base CX0 (k+1) f fd ps (iSp ⟨K,w⟩ C n (mirI C N g)):=by
 refine F.ok S (λvs H Q E h=>?_) (λcdv A outer s H vs Q E hr h=>?_)
 ·obtain⟨F,H1,xs,a,dx,vs',fs,ds,rfl,_,_,_,_,_,hl,hp,_⟩:=h
  rw[List.length_cons,<-wc hp,hl,hn]
 ·obtain⟨F0,H1,xs,a,dx,vs',fs,ds,rfl,nx,ndx,nex,rfl,fh,hl,hp,hm,k⟩:=h
  refine⟨_,hb cdv A outer s _ E ⟨F0,H1⟩ hr,?_⟩
  have hx1:(upd H1 dx (.own a)) a=none:=by rw[zg (Ne.symm nex)];exact nx
  have sH:Same H1 (upd (upd H1 dx (.own a)) a (.ins C dx [])):=(yc ndx).trans (yc hx1)
  have r0:=jR (N:=N) (ps:=ps) fh hp
  have hla:=wc hp
  have R:Rep ⟨K,w⟩ ⟨F0,H1⟩ F0 (L2.start N (.ref a::vs')) (upd (upd H1 dx (.own a)) a (.ins C dx [])) (stE N (some (.oac a dx C [] [])::xs.map some)):=by
   have sl:∀i:Nat,(L2.start N (.ref a::vs'))[i+1]?=none∨∀v,(L2.start N (.ref a::vs'))[i+1]?=some (some v)->vs'[i]?=some v:=λi=>.inr λv h=>by
    unfold L2.start at h
    by_cases hi:i < vs'.length
    ·rw[List.getElem?_append_left (by simpa using hi),List.getElem?_map,List.getElem?_cons_succ] at h
     cases q:vs'[i]? with
     |none=>rw[q] at h;cases h
     |some z=>rw[q] at h;cases h;rfl
    ·rw[List.getElem?_append_right (by simpa using hi),List.getElem?_replicate] at h
     split at h<;>cases h
   have at':∀(i:Nat) y,(stE N (some (.oac a dx C [] [])::xs.map some))[i]?=some (some y)->(i=0/\y=.oac a dx C [] [])∨∃j,i=j+1/\xs[j]?=some y:=λi y h=>by
    unfold stE at h
    cases i with
    |zero=>simp at h;exact .inl ⟨rfl,h.symm⟩
    |succ j=>
     refine .inr ⟨j,rfl,?_⟩
     by_cases hi:j < xs.length
     ·rw[List.getElem?_append_left (by simpa using hi),List.getElem?_cons_succ,List.getElem?_map] at h
      cases q:xs[j]? with
      |none=>rw[q] at h;cases h
      |some z=>rw[q] at h;cases h;rfl
     ·rw[List.getElem?_append_right (by simpa using hi),List.getElem?_replicate] at h
      split at h<;>cases h
   refine⟨⟨Same.refl _,sH,fh.trans sH,λ_ h=>.inl h⟩,?_,λi y h=>?_,λi j y z v w h1 h2 _ _ hne b hb hc=>?_⟩
   ·unfold L2.start stE
    simp[hla]
   ·rcases at' i y h with⟨rfl,rfl⟩ | ⟨j,rfl,hx⟩
    ·exact⟨.ref a,by simp[L2.start],[],rfl,zk,rfl,fh.free nx,nx,rfl⟩
    ·obtain⟨v,hv,r⟩:=vJ hp hx
     refine⟨v,?_,?_⟩
     ·unfold L2.start
      rw[List.getElem?_append_left (by simpa using (List.getElem?_eq_some_iff.mp hv).1),List.getElem?_map,List.getElem?_cons_succ,hv];rfl
     ·cases y with
      |val d=>exact r
      |bor ds=>exact r
      |acc ds=>exact r.elim
      |oac a dx C fs ds=>exact r.elim
      |tre t=>exact r.elim
      |dct oa kvs=>exact r.elim
      |dbo kvs=>exact r
   ·have own0:∀(i:Nat) y v b,(stE N (some (.oac a dx C [] [])::xs.map some))[i]?=some (some y)->b∈feetE (upd (upd H1 dx (.own a)) a (.ins C dx [])) y v->i=0:=λi y v b h o=>by
     rcases at' i y h with⟨rfl,_⟩ | ⟨j,rfl,hx⟩
     ·rfl
     ·obtain⟨u,_,r⟩:=vJ hp hx
      cases y with
      |val d=>cases o
      |bor ds=>cases o
      |acc ds=>exact r.elim
      |oac a dx C fs ds=>exact r.elim
      |tre t=>exact r.elim
      |dct oa kvs=>exact r.elim
      |dbo kvs=>cases o
    exact hne (by rw[own0 i y v b h1 hb,own0 j z w b h2 hc])
  unfold mirI at hm
  cases q:g (stE N (some (.oac a dx C [] [])::xs.map some)) with
  |none=>rw[q] at hm;cases hm
  |some fl=>
   rw[q] at hm
   refine⟨F0,_,fl,R,q,?_⟩
   cases fl with
   |next ρ=>
    refine λσ' F' H' r s=>?_
    replace hm:outJ a dx C ρ[0]?=some (fs,ds):=hm
    unfold outJ at hm
    split at hm
    ·rename_i a' d' C' fs' ds' q0
     split at hm
     ·rename_i hc
      obtain⟨rfl,rfl,rfl⟩:=hc
      cases hm
      obtain⟨v,_,vs,rfl,h1,h2,h3,_,h5⟩:=r.ents 0 _ q0
      exact k F' H' vs r.ex h3 h1 h2 h5
     ·cases hm
    ·cases hm
   |ret o'=>cases hm
   |brk ρ=>cases hm
   |cont ρ=>cases hm
end
section
variable {X:Cx}{B:Bs}{e a b c o:Expr}{es:List Expr}{pos p apos:Pos}{g:EnvD->Option D}{gxs:EnvD->Option (List En)}{x mm:Str}{C:Addr}{n k:Nat}{m:List En->Option En}
def fNeg:D->Option D
 |.int i=>some (.int (-i))
 |_=>none
def gNeg (g:EnvD->Option D):EnvD->Option D:=λρ=>(g ρ).bind fNeg
theorem y8 (ha:DR X B a g):DE X B (.UnaryOp .USub a pos) (gNeg g) :=
 pe_imp (KK Gk ha) λσ H Q ⟨F,ρ,d,r,hg,k⟩=>by
  unfold gNeg at hg
  cases q:g ρ with
  |none=>rw[q] at hg;cases hg
  |some y=>
   rw[q] at hg
   cases y with
   |int i=>cases hg;exact⟨F,ρ,_,r,q,λv F1 H1 e1 p1=>⟨i,p1.int,k _ F1 H1 e1 rfl⟩⟩
   |_=>cases hg
structure Fx (P:Program)(w:World)(K:PySem.W.Frag)(mg:Str->Option Value)(base:Heap)(x:Str)(k n:Nat)(m:List En->Option En):Prop where
 ex:∃f fd ps,FnOk P w K mg base CX0 k f fd ps (pSp ⟨K,w⟩ n (len? n m))/\mg x=some (.ref f)/\PySem.W.keepIn K (.ref f)=true/\Binds K fd ps []
structure Mx (P:Program)(w:World)(K:PySem.W.Frag)(mg:Str->Option Value)(base:Heap)(C:Addr)(x:Str)(k n:Nat)(m:List En->Option En):Prop where
 ex:∃f fd ps,FnOk P w K mg base CX0 k f fd ps (pSp ⟨K,w⟩ n (len? n m))/\Meth K C x f/\Binds K fd ps []
structure Kx (P:Program)(w:World)(K:PySem.W.Frag)(mg:Str->Option Value)(base:Heap)(C:Addr)(x:Str)(k n:Nat)(mi:List En->Option (List Str×List D)):Prop where
 ex:∃f fd ps mi',FnOk P w K mg base CX0 k f fd ps (iSp ⟨K,w⟩ C n mi')/\Mk K C f/\mg x=some (.ref C)/\Binds K fd ps []/\∀a dx xs,mi' a dx xs=mi xs
theorem zo (h:Fx X.prog X.w X.kw X.mg X.base x k n m)(hr:Room k X.A)(hg:Gl X x)(ha:DNs X B (e::es) gxs)(hdb:(x==("__debug__" : Str))=false:=by decide +kernel)
  (he:starEach (e::es) X.env=(false,eval e X.env)::starEach es X.env:=by rfl) (hpl:(backTo pos (starEach es X.env)).any (·.1)=false:=by rfl):DE X B (.Call (.Name x p) (e::es) [] pos) (gCall (len? n m) frzO gxs):=by
 obtain⟨f,fd,ps,F,hm,hk,hb⟩:=h.ex
 exact zac F hr hg hm hk hb ha hdb he hpl
theorem xk (h:Fx X.prog X.w X.kw X.mg X.base x k n m)(hr:Room k X.A)(hg:Gl X x)(ha:DNs X B (e::es) gxs)(hdb:(x==("__debug__" : Str))=false:=by decide +kernel)
  (he:starEach (e::es) X.env=(false,eval e X.env)::starEach es X.env:=by rfl) (hpl:(backTo pos (starEach es X.env)).any (·.1)=false:=by rfl):DA X B (.Call (.Name x p) (e::es) [] pos) (gCall (len? n m) accO gxs):=by
 obtain⟨f,fd,ps,F,hm,hk,hb⟩:=h.ex
 exact KO F hr hg hm hk hb ha hdb he hpl
theorem WF {pl:Sem Bool}(ho:DE X B o g)(cl:Cls X.kw C)(h:Mx X.prog X.w X.kw X.mg X.base C mm k n m)(hr:Room k X.A)(ha:DNs X B (e::es) gxs)
  (hst:starEach (e::es) X.env=(false,eval e X.env)::starEach es X.env:=by rfl) (hpl:(backTo pos (starEach es X.env)).any (·.1)=false:=by rfl)
  (ht:eval (.Call (.Attribute o mm apos) (e::es) [] pos) X.env=(do
   let ov <-eval o X.env
   standAt apos.atName
   let (f,first) <-holding [ov] (getMethod ov mm pl)
   callWith pos f first (backTo pos (starEach (e::es) X.env)) (backToKw pos (keywordEach [] X.env))):=by rfl) :
  DE X B (.Call (.Attribute o mm apos) (e::es) [] pos) (gMeth C mm (len? n m) frzO g gxs):=by
 obtain⟨f,fd,ps,F,hm,hb⟩:=h.ex
 exact Jz ho cl hm F hr hb ha hst hpl ht
theorem Qb {mi:List En->Option (List Str×List D)}(h:Kx X.prog X.w X.kw X.mg X.base C x k n mi)(hr:Room (k+1) X.A)(hg:Gl X x)(ha:DNs X B (e::es) gxs)(hdb:(x==("__debug__" : Str))=false:=by decide +kernel)
  (he:starEach (e::es) X.env=(false,eval e X.env)::starEach es X.env:=by rfl) (hpl:(backTo pos (starEach es X.env)).any (·.1)=false:=by rfl):DE X B (.Call (.Name x p) (e::es) [] pos) (gMake C n mi gxs):=by
 obtain⟨f,fd,ps,mi',F,M,hm,hb,hmi⟩:=h.ex
 exact Jb hmi M F hr hg hm hb ha hdb he hpl
theorem yJ {gs:EnvD->Option (List D)}(hg:Gl X "len") (hm:X.mg "len" = none) (ha:DRs X B [a] gs) (he:starEach [a] X.env=(false,eval a X.env)::starEach [] X.env:=by rfl) (hpl:(backTo pos (starEach [] X.env)).any (·.1)=false:=by rfl) :
  DE X B (.Call (.Name "len" p) [a] [] pos) (gB fLen gs):=u4 ZY Yd hg hm (by decide +kernel) ha (by decide) (by decide) he hpl
theorem Wd {gs:EnvD->Option (List D)}(hc:X.calm=true)(hg:Gl X "all") (hm:X.mg "all" = none) (ha:DRs X B [a] gs) (he:starEach [a] X.env=(false,eval a X.env)::starEach [] X.env:=by rfl) (hpl:(backTo pos (starEach [] X.env)).any (·.1)=false:=by rfl) :
  DE X B (.Call (.Name "all" p) [a] [] pos) (gB fAll gs):=u4 (Q3 hc) RM hg hm (by decide +kernel) ha (by decide) (by decide) he hpl
theorem y7 {gs:EnvD->Option (List D)}(hg:Gl X "list") (hm:X.mg "list" = none) (ha:DRs X B [a] gs) (he:starEach [a] X.env=(false,eval a X.env)::starEach [] X.env:=by rfl) (hpl:(backTo pos (starEach [] X.env)).any (·.1)=false:=by rfl) :
  DA X B (.Call (.Name "list" p) [a] [] pos) (gB fList gs):=zam Rn zaa hg hm (by decide +kernel) ha (by decide) (by decide) he hpl
theorem kitT {K:PySem.W.Frag}(T:String)(hT:T∈["bool","int","str","list","tuple","dict"]):∀t b,subT t T=some b->PySem.W.kitOne K (.type t) (.type T)=some b:=by
 intro t b h
 unfold subT at h
 by_cases h1:t=T
 ·rw[if_pos h1] at h
  cases h
  subst h1
  unfold PySem.W.kitOne
  rw[if_pos (beq_self_eq_true _)]
 ·rw[if_neg h1] at h
  by_cases h2:t = "bool" /\ T = "int"
  ·rw[if_pos h2] at h
   cases h
   obtain⟨rfl,rfl⟩:=h2
   rfl
  ·rw[if_neg h2] at h
   by_cases h3:(t∈["NoneType","bool","int","str","list","tuple"])/\(T∈["bool","int","str","list","tuple","dict"])
   ·rw[if_pos h3] at h
    cases h
    obtain⟨m1,m2⟩:=h3
    simp only[List.mem_cons,List.not_mem_nil,or_false] at m1 m2
    rcases m1 with rfl | rfl | rfl | rfl | rfl | rfl<;>rcases m2 with rfl | rfl | rfl | rfl | rfl | rfl<;>first | rfl | exact absurd rfl h1 | exact absurd ⟨rfl,rfl⟩ h2
   ·rw[if_neg h3] at h;cases h
def ckFree (sc:List (Str×NameKind))(y:Str×NameKind):Bool:=y.2 != .free||sc.lookup y.1==some .cell||sc.lookup y.1==some .free
def ckComp (names sc:List (Str×NameKind))(N:List Str)(cap:List (Str×Nat)):Bool :=
 names.all (λy=>y.2 != .cell)&&names.all (λy=>y.2 != .local||names.lookup y.1==some .local)&&names.all (ckFree sc)&&cap.all (λp=>names.lookup p.1==some .free&&N[p.2]?==some p.1)
theorem yg {scope:Scope}{own:List Str}{cap:List (Str×Nat)}{sc:List (Str×NameKind)}{N:List Str}(hk:scope.kind=.function)(h1:X.env.scope.names=sc)(h2:X.N=N)(h:ckComp scope.names sc N cap=true):CompScope X scope own cap:=by
 subst h1 h2
 unfold ckComp at h
 simp only[Bool.and_eq_true,List.all_eq_true] at h
 obtain⟨⟨⟨a1,a2⟩,a3⟩,a4⟩:=h
 refine⟨hk,λy hy e=>?_,λy hy e=>?_,λy hy e=>?_,λp hp=>?_⟩
 ·have:=a1 y hy;rw[e] at this;cases this
 ·have:=a2 y hy;rw[e] at this;simpa using this
 ·have:=a3 y hy
  unfold ckFree at this
  rw[e] at this
  have q:List.lookup y.fst X.env.scope.names=some NameKind.cell∨List.lookup y.fst X.env.scope.names=some NameKind.free:=by simpa using this
  exact q
 ·have:=a4 p hp
  simpa using this
end
def thenB (o:Option Fl)(g:SD):Option Fl:=o.bind λfl=>match fl with | .next ρ'=>g ρ' | fl=>some fl
def loopB (o:Option Fl)(k:EnvD->Option Fl):Option Fl:=o.bind λfl=>match fl with | .next ρ2=>k ρ2 | .cont ρ2=>k ρ2 | .brk ρ2=>some (.next ρ2) | .ret o=>some (.ret o)
section
variable {ρ:EnvD}{i k n:Nat}{d x y:D}{ds es:List D}{a b j:Int}{α γ:Type}{ga gb gc' g:EnvD->Option D}{ta tb:EnvD->Option Bool}{gs:EnvD->Option (List D)}{s1 s2:SD}
@[simp]theorem za4:gc d ρ=some d:=rfl
@[simp]theorem zdt:gv i ρ=match ρ[i]? with | some (some (.val d))=>some d | _=>none:=rfl
@[simp]theorem zds:gr i ρ=match ρ[i]? with | some (some (.val d))=>some d | some (some (.acc ds))=>some (.lst ds) | some (some (.bor ds))=>some (.lst ds) | _=>none:=rfl
@[simp]theorem zci:gn i ρ=match ρ[i]? with | some (some (.val d))=>some (.val d) | some (some (.acc ds))=>some (.bor ds) | some (some (.bor ds))=>some (.bor ds) | some (some (.dct _ kvs))=>some (.dbo kvs) | some (some (.dbo kvs))=>some (.dbo kvs) | _=>none:=rfl
@[simp]theorem zcx:gf i ρ=match ρ[i]? with | some (some (.val d))=>some d | some (some (.bor ds))=>some (.lst ds) | _=>none:=rfl
@[simp]theorem zdl:gFz gs ρ=(gs ρ).map D.lst:=rfl
@[simp]theorem zd1 {f:D->D->Option γ}:g2 f ga gb ρ=(ga ρ).bind λx=>(gb ρ).bind λy=>f x y:=rfl
@[simp]theorem zc5 {f f':D->D->Option D}:g3 f f' ga gb gc' ρ=(ga ρ).bind λx=>(gb ρ).bind λy=>((f x y).bind asB).bind λk=>if k then (gc' ρ).bind λz=>f' y z else some (.bl false):=rfl
@[simp]theorem zed:gt g ρ=(g ρ).bind truD:=rfl
@[simp]theorem zbg:gb' g ρ=(g ρ).bind asB:=rfl
@[simp]theorem zeq:gAnd ta tb ρ=(ta ρ).bind λx=>if x then tb ρ else some false:=rfl
@[simp]theorem zdv:gOr ta tb ρ=(ta ρ).bind λx=>if x then some true else tb ρ:=rfl
@[simp]theorem zcj:gNot ta ρ=(ta ρ).map λx=>!x:=rfl
@[simp]theorem zfl:gAndV ga gb ρ=((ga ρ).bind asB).bind λx=>if x then gb ρ else some (.bl false):=rfl
@[simp]theorem zat:gNotV ga ρ=((ga ρ).bind asB).map λx=>.bl (!x):=rfl
@[simp]theorem zbs:gIf ta ga gb ρ=(ta ρ).bind λx=>if x then ga ρ else gb ρ:=rfl
@[simp]theorem zc4:gNil ρ=some []:=rfl
@[simp]theorem zex:gCons' g gs ρ=(g ρ).bind λd=>(gs ρ).bind λds=>some (d::ds):=rfl
@[simp]theorem zcw:gTup' gs ρ=(gs ρ).bind λds=>if ds.length<=TOP then some (.tup ds) else none:=rfl
@[simp]theorem zcq:gLst gs ρ=(gs ρ).bind λds=>if ds.length<=TOP then some ds else none:=rfl
@[simp]theorem zd6 {f:List D->Option γ}:gB f gs ρ=(gs ρ).bind f:=rfl
@[simp]theorem zdu:nNil ρ=some []:=rfl
@[simp]theorem zfd {g:EnvD->Option En}{gs:EnvD->Option (List En)}:nCons g gs ρ=(g ρ).bind λd=>(gs ρ).bind λds=>some (d::ds):=rfl
@[simp]theorem zev:gVal g ρ=(g ρ).map En.val:=rfl
@[simp]theorem zcb {T:String}:gIs T g ρ=(g ρ).bind λd=>(tyD d).bind λt=>(subT t T).map D.bl:=rfl
@[simp]theorem zbo:gNone ρ=some none:=rfl
@[simp]theorem za6:gSome g ρ=(g ρ).bind λd=>(asI d).map some:=rfl
@[simp]theorem zfg:gNeg g ρ=(g ρ).bind fNeg:=rfl
@[simp]theorem zdh:gIt g ρ=(g ρ).bind itL:=rfl
@[simp]theorem zer {gl gh:EnvD->Option (Option Int)}:gSl g gl gh ρ=(g ρ).bind λd=>(gl ρ).bind λl=>(gh ρ).bind λh=>match d with | .lst ds=>some (cutD ds l h) | _=>none:=rfl
@[simp]theorem zay:fNeg (.int a)=some (.int (-a)):=rfl
@[simp]theorem zck:itL (.lst ds)=some ds:=rfl
@[simp]theorem zfb:asI (.int a)=some a:=rfl
@[simp]theorem zeh {b:Bool}:asB (.bl b)=some b:=rfl
@[simp]theorem zeb {m:List En->Option En}{f:En->Option α}{gs:EnvD->Option (List En)}:gCall m f gs ρ=((gs ρ).bind m).bind f:=rfl
@[simp]theorem zbq {m:List En->Option En}{xs:List En}:len? n m xs=if xs.length=n then m xs else none:=rfl
@[simp]theorem zby:frzO (.val d)=some d:=rfl
@[simp]theorem zdy:frzO (.acc ds)=some (.lst ds):=rfl
@[simp]theorem zbe:frzO (.bor ds)=none:=rfl
@[simp]theorem zfq {p q C:Addr}{fs:List Str}:frzO (.oac p q C fs ds)=none:=rfl
@[simp]theorem zaq {t:OT}:frzO (.tre t)=some t.erase:=rfl
@[simp]theorem zc9 {t:OT}:accO (.tre t)=none:=rfl
@[simp]theorem zbp:accO (.val d)=none:=rfl
@[simp]theorem zbz:accO (.bor ds)=none:=rfl
@[simp]theorem zea:accO (.acc ds)=some ds:=rfl
@[simp]theorem zdn:gR1 gs ρ=(gs ρ).bind λxs=>match xs with | [.int j]=>if -BIG<=j/\j<=BIG then some (rngD 0 j.toNat) else none | _=>none:=rfl
@[simp]theorem zba:gEn gs ρ=(gs ρ).bind λxs=>match xs with | [d]=>(itL d).map (enumD 0) | _=>none:=rfl
@[simp]theorem zb2 {C:Addr}{fl:Str}:gFld C fl g ρ=(g ρ).bind λd=>match d with | .obj C' fs ds=>if C'=C then lookZ fl fs ds else none | _=>none:=rfl
@[simp]theorem zbk {C:Addr}{mm:Str}{m:List En->Option En}{f:En->Option α}{go:EnvD->Option D}{gs:EnvD->Option (List En)}:gMeth C mm m f go gs ρ=(go ρ).bind λd=>match d with
 |.obj C' fs ds=>if C'=C/\lookZ mm fs ds=none then ((gs ρ).bind λxs=>m (.val d::xs)).bind f else none
 |_=>none:=rfl
@[simp]theorem zd0 {C:Addr}{mi:List En->Option (List Str×List D)}{gs:EnvD->Option (List En)}:gMake C n mi gs ρ=(gs ρ).bind λxs=>if xs.length=n then (mi xs).map λr=>.obj C r.1 r.2 else none:=rfl
@[simp]theorem ze6 {own:List Str}{cap:List (Str×Nat)}{t:Tgt}{tc:EnvD->Option Bool}{ge:EnvD->Option D}{gi:EnvD->Option (List D)}:gComp own cap t tc ge gi ρ=(gi ρ).bind λds=>if ds.length<=TOP then compD t tc ge (List.replicate own.length none++capE ρ cap) ds else none:=rfl
@[simp]theorem ze0 {cap:List (Str×Nat)}:capE ρ cap=cap.map λp=>capO ρ[p.2]?:=rfl
@[simp]theorem G7:tYes ρ=some true:=rfl
@[simp]theorem za0:fSub (.int a) (.int b)=some (.int (a - b)):=rfl
theorem Yw:fMul (.int a) (.int b)=if (decide (-LIM < a)&&decide (a < LIM))||(decide (-LIM < b)&&decide (b < LIM)) then some (.int (a * b)) else none:=rfl
theorem j0 (h1:-LIM < a)(h2:a < LIM):fMul (.int a) (.int b)=some (.int (a * b)):=by rw[Yw,if_pos (by simp[h1,h2])]
theorem zdw (h1:-LIM < b)(h2:b < LIM):fMul (.int a) (.int b)=some (.int (a * b)):=by rw[Yw,if_pos (by simp[h1,h2])]
theorem Gg:fDiv (.int a) (.int b)=if decide (0 < b)&&decide (b < 1073741824) then some (.int (a / b)) else none:=rfl
theorem Uk:fMod (.int a) (.int b)=if decide (0 < b) then some (.int (a % b)) else none:=rfl
theorem yn (h1:0 < b)(h2:b < 1073741824):fDiv (.int a) (.int b)=some (.int (a / b)):=by rw[Gg,if_pos (by simp[h1,h2])]
theorem zL (h1:0 < b):fMod (.int a) (.int b)=some (.int (a % b)):=by rw[Uk,if_pos (by simp[h1])]
theorem Vy (h1:0<=b):fShr (.int a) (.int b)=some (.int (a / 2 ^ b.toNat)):=by show (if _ then _ else _)=_;rw[if_pos (by simp[h1])]
@[simp]theorem zeg:fAnd (.int a) (.int b)=some (.int (Builtin.bitAnd a b)):=rfl
theorem JE:fPow (.int a) (.int b)=if decide (0<=b)&&decide (b<=1000000)&&decide (a.natAbs < 18446744073709551616) then some (.int (a ^ b.toNat)) else none:=rfl
@[simp]theorem za9:fLt (.int a) (.int b)=some (.bl (decide (a < b))):=rfl
@[simp]theorem zek:fLe (.int a) (.int b)=some (.bl (decide (a<=b))):=rfl
@[simp]theorem zce:fGt (.int a) (.int b)=some (.bl (decide (b < a))):=rfl
@[simp]theorem zb7:fIx (.lst ds) (.int a)=atI ds a:=rfl
@[simp]theorem zbn:fIx (.tup ds) (.int a)=atI ds a:=rfl
@[simp]theorem zc7 {ns:List Int}:fIx (.scr ns) (.int a)=(atI ns a).map D.int:=rfl
theorem V8:eqOk (.int a)=true:=by simp[eqOk,SeqAt.shaped,toP,PyData.canLay0,PyData.depth]
@[simp]theorem ze9 {neg:Bool}:fEq neg (.int a) (.int b)=some (.bl (if neg then !decide (a=b) else decide (a=b))):=by
 unfold fEq
 rw[V8,V8]
 have:eqD (.int a) (.int b)=decide (a=b):=by
  by_cases h:a=b
  ·subst h;simp[eqD,toP,PyData.eqv]
  ·simp[eqD,toP,PyData.eqv,h]
 rw[this];rfl
@[simp]theorem zdx {neg:Bool}:fIs neg d .non=some (.bl (if neg then !isNon d else isNon d)):=by cases d<;>rfl
@[simp]theorem zdf:isNon .non=true:=rfl
@[simp]theorem zcm:isNon (.int a)=false:=rfl
@[simp]theorem zb9 {b:Bool}:truD (.bl b)=some b:=rfl
@[simp]theorem zcv:truD (.lst ds)=some (!ds.isEmpty):=rfl
@[simp]theorem zc0:truD (.tup ds)=some (!ds.isEmpty):=rfl
@[simp]theorem zef:fLen [.lst ds]=some (.int ds.length):=rfl
@[simp]theorem zav:fLen [.tup ds]=some (.int ds.length):=rfl
@[simp]theorem zfh {ns:List Int}:fLen [.scr ns]=some (.int ns.length):=rfl
@[simp]theorem zd2:fAll [.lst ds]=(asBs ds).map λbs=>.bl (bs.all λx=>x):=rfl
@[simp]theorem za1:fList [.lst ds]=some ds:=rfl
@[simp]theorem zc8:fList [.tup ds]=some ds:=rfl
@[simp]theorem ze2:tyD (.int a)=some "int" := rfl
@[simp]theorem zcd {b:Bool}:tyD (.bl b)=some "bool" := rfl
@[simp]theorem za2:tyD .non=some "NoneType" := rfl
@[simp]theorem zbx:tyD (.lst ds)=some "list" := rfl
@[simp]theorem zes:tyD (.tup ds)=some "tuple" := rfl
@[simp]theorem zd9 {x:Str}:tyD (.str x)=some "str" := rfl
@[simp]theorem zbh:subT "int" "int" = some true:=by decide
@[simp]theorem zfe:subT "int" "bool" = some false:=by decide
@[simp]theorem zct:subT "NoneType" "int" = some false:=by decide
@[simp]theorem zbc:subT "list" "list" = some true:=by decide
@[simp]theorem zd8:subT "tuple" "tuple" = some true:=by decide
@[simp]theorem zbl:sSeq s1 s2 ρ=thenB (s1 ρ) s2:=rfl
@[simp]theorem zey:thenB (some (.next ρ)) s2=s2 ρ:=rfl
@[simp]theorem zcf {o:En}:thenB (some (.ret o)) s2=some (.ret o):=rfl
@[simp]theorem zfr:thenB none s2=none:=rfl
@[simp]theorem za5 {k:EnvD->Option Fl}:loopB (some (.next ρ)) k=k ρ:=rfl
@[simp]theorem zbf {k:EnvD->Option Fl}{o:En}:loopB (some (.ret o)) k=some (.ret o):=rfl
@[simp]theorem za8 {k:EnvD->Option Fl}:loopB none k=none:=rfl
@[simp]theorem zej:sNext ρ=some (.next ρ):=rfl
@[simp]theorem zbi:sNever ρ=none:=rfl
@[simp]theorem zde:sFrz i s1 ρ=s1 (frzE i ρ):=rfl
@[simp]theorem zb5:frzE i ρ=match ρ[i]? with | some (some (.acc ds))=>ρ.set i (some (.val (.lst ds))) | some (some (.oac _ _ C fs ds))=>ρ.set i (some (.val (.obj C fs ds))) | some (some (.tre t))=>ρ.set i (some (.val t.erase)) | _=>ρ:=rfl
@[simp]theorem zdj:sSet i g ρ=(g ρ).map λd=>.next (ρ.set i (some (.val d))):=rfl
@[simp]theorem zd7:sSetA i gs ρ=(gs ρ).map λds=>.next (ρ.set i (some (.acc ds))):=rfl
@[simp]theorem zcr:sRet g ρ=(g ρ).map λd=>.ret (.val d):=rfl
@[simp]theorem ze1:sRetA gs ρ=(gs ρ).map λd=>.ret (.acc d):=rfl
@[simp]theorem zdc:sRetV i ρ=match ρ[i]? with | some (some (.acc ds))=>some (.ret (.acc ds)) | some (some (.val d))=>some (.ret (.val d)) | _=>none:=rfl
@[simp]theorem zcs:sIf ta s1 s2 ρ=(ta ρ).bind λb=>if b then s1 ρ else s2 ρ:=rfl
@[simp]theorem zff:sExpr g ρ=(g ρ).map λ_=>.next ρ:=rfl
@[simp]theorem zfp:sApp i g ρ=match ρ[i]? with | some (some (.acc ds))=>(g ρ).bind λd=>if ds.length<=TOP then some (.next (ρ.set i (some (.acc (ds++[d]))))) else none | _=>none:=rfl
@[simp]theorem zb0:sPop i ρ=match ρ[i]? with | some (some (.acc ds))=>if ds.isEmpty then none else some (.next (ρ.set i (some (.acc ds.dropLast)))) | _=>none:=rfl
@[simp]theorem zb8 {gi:EnvD->Option D}:sPut i gi g ρ=match ρ[i]? with | some (some (.acc ds))=>(g ρ).bind λd=>((gi ρ).bind asI).bind λj=>(ixN ds.length j).map λn=>.next (ρ.set i (some (.acc (ds.set n d)))) | _=>none:=rfl
@[simp]theorem ze3 {C:Addr}{fl:Str}:sFldD i C fl g ρ=match ρ[i]? with | some (some (.oac a dx C' fs ds))=>if C'=C/\fs.length < 900 then (g ρ).map λd=>.next (ρ.set i (some (.oac a dx C (putZ fl d fs ds).1 (putZ fl d fs ds).2))) else none | _=>none:=rfl
@[simp]theorem zbt {t:Tgt}{gi:EnvD->Option (List D)}:sFor t gi s1 ρ=(gi ρ).bind λds=>forD t s1 ds ρ:=rfl
@[simp]theorem GZ:asgD (.name i) d ρ=some (ρ.set i (some (.val d))):=rfl
@[simp]theorem zd3 {is:List Nat}:asgD (.tup is) (.tup ds) ρ=if ds.length=is.length then some (yh is ds ρ) else none:=rfl
@[simp]theorem zdr {is:List Nat}:yh (i::is) (d::ds) ρ=yh is ds (ρ.set i (some (.val d))):=rfl
@[simp]theorem zb3:yh [] [] ρ=ρ:=rfl
@[simp]theorem ze8 {o:En}:outO (some (.ret o))=some o:=rfl
@[simp]theorem zfo:outO (some (.next ρ))=some (.val .non):=rfl
@[simp]theorem zem {t:Tgt}:forD t s1 [] ρ=some (.next ρ):=rfl
@[simp]theorem zew {t:Tgt}:forD t s1 (d::ds) ρ=loopB ((asgD t d ρ).bind s1) (forD t s1 ds):=by
 show ((asgD t d ρ).bind λρ1=>(s1 ρ1).bind λfl=>_)=_
 cases asgD t d ρ with
 |none=>rfl
 |some ρ1=>rfl
@[simp]theorem zee {t:Tgt}:compD t ta g ρ []=some []:=rfl
@[simp]theorem yw {t:Tgt}:compD t ta g ρ (d::ds)=(asgD t d ρ).bind λρ1=>(ta ρ1).bind λb=>if b then (g ρ1).bind λy=>(compD t ta g ρ ds).map (y::·) else compD t ta g ρ ds:=rfl
@[simp]theorem zcp:capO (some (some (.val d)))=some (.val d):=rfl
@[simp]theorem zcn:capO (some (some (.acc ds)))=some (.bor ds):=rfl
@[simp]theorem zda:capO (some (some (.bor ds)))=some (.bor ds):=rfl
@[simp]theorem zbv {oa:Option Addr}{kvs:List (Key×D)}:capO (some (some (.dct oa kvs)))=some (.dbo kvs):=rfl
@[simp]theorem zen {kvs:List (Key×D)}:capO (some (some (.dbo kvs)))=some (.dbo kvs):=rfl
theorem yr {xs:List α}{v:α}(n:Nat)(h:xs[n]?=some v):atI xs (n:Int)=some v:=by
 have hl:n < xs.length:=(List.getElem?_eq_some_iff.mp h).1
 unfold atI ixN
 rw[if_pos (by omega),if_pos (by omega)]
 simpa using h
@[simp]theorem zc3 {xs:List α}{v:α}:atI (v::xs) 0=some v:=yr 0 rfl
@[simp]theorem zfc {xs:List α}{v w:α}:atI (w::v::xs) 1=some v:=yr 1 rfl
@[simp]theorem zdz {xs:List α}{v w u:α}:atI (u::w::v::xs) 2=some v:=yr 2 rfl
@[simp]theorem vn {xs:List α}{v:α}:atI (xs++[v]) (-1)=some v:=by
 unfold atI ixN
 rw[if_neg (by omega),if_pos (by simp;omega)]
 simp
 have:(-1+((xs.length:Int)+1)).toNat=xs.length:=by omega
 rw[this];simp
theorem Kg (n:Nat):ixN (n+1) (-1)=some n:=by
 unfold ixN
 rw[if_neg (by omega),if_pos (by omega)]
 congr 1;omega
theorem wF:∀(lo:Int)(n:Nat),rngD lo n=(List.range n).map λ(k:Nat)=>D.int (lo+k)
 |lo,0=>rfl
 |lo,n+1=>by
  rw[rngD,wF (lo+1) n,List.range_succ_eq_map]
  simp only[List.map_cons,List.map_map]
  congr 1
  ·simp
  ·apply List.map_congr_left
   intro a _
   show D.int _=D.int _
   congr 1
   show lo+1+(a:Int)=lo+((a+1:Nat):Int)
   omega
end
section
variable {X:Cx}{B:Bs}{e a b c o:Expr}{es:List Expr}{pos p apos cpos p2:Pos}{g ga gb go:EnvD->Option D}{gs:EnvD->Option (List D)}{x:Str}
def fPlus:D->D->Option D
 |.int i,.int j=>some (.int (i+j))
 |.str x,.str y=>if x.length+y.length<=TOP then some (.str (x++y)) else none
 |_,_=>none
theorem GV {K:KW}:OkR K (λx y H Q=>rI0 (λi j=>.int (i+j)) x y H Q∨∃i j,x=.str i/\y=.str j/\i.length+j.length<=sizeLine/\Q (.str (i++j)) H) (pE K) fPlus:=by
 intro F H x y dx dy d Q s rx ry e k
 unfold fPlus at e
 split at e
 ·cases e;exact .inl ⟨_,_,rx.int,ry.int,k _ F H (.refl s) rfl⟩
 ·split at e
  ·rename_i hc
   cases e;exact .inr ⟨_,_,rx.str,ry.str,ym hc,k _ F H (.refl s) rfl⟩
  ·cases e
 ·cases e
theorem zE (ha:DR X B a ga)(hb:DR X B b gb):DE X B (.BinOp a .Add b pos) (g2 fPlus ga gb):=yV (op_add.or Ko) GV ha hb
def fItem:D->D->Option D
 |.str z,.int i=>if z.length<=TOP then (atI z.cps.toList i).map λc=>.str ⟨#[c]⟩ else none
 |.lst xs,.int i=>atI xs i
 |.tup xs,.int i=>atI xs i
 |.scr ns,.int i=>(atI ns i).map D.int
 |_,_=>none
theorem WM {K:KW}:OkR K (rIx K) (pE K) fItem:=by
 intro F H x y dx dy d Q s rx ry e k
 cases dx with
 |str z=>
  cases dy with
  |int i=>
   replace e:(if z.length<=TOP then (atI z.cps.toList i).map (λc=>D.str ⟨#[c]⟩) else none)=some d:=e
   split at e
   ·rename_i hc
    cases q:atI z.cps.toList i with
    |none=>rw[q] at e;cases e
    |some c=>
     rw[q] at e
     cases e
     exact .inr (.inr ⟨z,i,c,rx.str,ry.int,ym hc,q,k _ F H (.refl s) rfl⟩)
   ·cases e
  |_=>cases e
 |lst xs=>exact qU F H x y _ dy d Q s rx ry (by cases dy<;>first | exact e | cases e) k
 |tup xs=>exact qU F H x y _ dy d Q s rx ry (by cases dy<;>first | exact e | cases e) k
 |scr xs=>exact qU F H x y _ dy d Q s rx ry (by cases dy<;>first | exact e | cases e) k
 |_=>cases dy<;>cases e
theorem zn (ha:DR X B a ga)(hb:DR X B b gb)(hs:yK b):DE X B (.Subscript a b pos) (g2 fItem ga gb):=Up wl WM ha hb hs
def rSlS:V->Option Int->Option Int->Hp->VK->Prop:=λx lo hi H Q=>∃z,x=.str z/\z.length<=sizeLine/\Q (.str (Txt.slice z lo hi)) H
theorem K0:SlR X rSlS:=by
 intro pins s σ H x v vl vu lo hi sl Q I rx hs pl pu h
 obtain⟨z,rfl,hz,q⟩:=h
 obtain⟨t,rfl⟩:=rx
 refine⟨"str",_,PySem.F.slot_str_getitem.lookup,typeIs_str _ _ _,?_⟩
 cases pl with
 |none=>
  cases pu with
  |none=>exact wpAny_getItem_str_slice (l:=none) (u:=none) (st:=none) hs rfl (post_val_or_str ⟨Nat.le_trans (Txt.slice_le z none none) hz,λt' k=>⟨.str _,H,I.tok _,⟨_,rfl⟩,q⟩⟩)
  |int j tj=>exact wpAny_getItem_str_slice (l:=none) (u:=some (j,tj)) (st:=none) hs rfl (post_val_or_str ⟨Nat.le_trans (Txt.slice_le z none (some j)) hz,λt' k=>⟨.str _,H,I.tok _,⟨_,rfl⟩,q⟩⟩)
 |int i ti=>
  cases pu with
  |none=>exact wpAny_getItem_str_slice (l:=some (i,ti)) (u:=none) (st:=none) hs rfl (post_val_or_str ⟨Nat.le_trans (Txt.slice_le z (some i) none) hz,λt' k=>⟨.str _,H,I.tok _,⟨_,rfl⟩,q⟩⟩)
  |int j tj=>exact wpAny_getItem_str_slice (l:=some (i,ti)) (u:=some (j,tj)) (st:=none) hs rfl (post_val_or_str ⟨Nat.le_trans (Txt.slice_le z (some i) (some j)) hz,λt' k=>⟨.str _,H,I.tok _,⟨_,rfl⟩,q⟩⟩)
def gSlS (g:EnvD->Option D)(gl gh:EnvD->Option (Option Int)):EnvD->Option D:=λρ=>(g ρ).bind λd=>(gl ρ).bind λl=>(gh ρ).bind λh=>match d with
 |.str z=>if z.length<=TOP then some (.str (Txt.slice z l h)) else none
 |_=>none
theorem Yb {lo hi:Option Expr}{gl gh:EnvD->Option (Option Int)}(he:DR X B e g)(hl:DO X B lo gl)(hh:DO X B hi gh):DE X B (.Subscript e (.Slice lo hi none p2) pos) (gSlS g gl gh) :=
 pe_imp (qT K0 he hl hh) λσ H Q ⟨F,ρ,d,r,hg,k⟩=>by
  unfold gSlS at hg
  cases q:g ρ with
  |none=>rw[q] at hg;cases hg
  |some x=>
   cases ql:gl ρ with
   |none=>rw[q,ql] at hg;cases hg
   |some l=>
    cases qh:gh ρ with
    |none=>rw[q,ql,qh] at hg;cases hg
    |some h=>
     rw[q,ql,qh] at hg
     cases x with
     |str z=>
      replace hg:(if z.length<=TOP then some (D.str (Txt.slice z l h)) else none)=some d:=hg
      split at hg
      ·rename_i hc
       cases hg
       refine⟨F,ρ,_,r,q,λv F1 H1 e1 p1=>⟨F1,ρ,l,r.ext e1,ql,λF2 H2 e2=>⟨F2,ρ,h,r.ext (e1.trans e2),qh,λF3 H3 e3=>?_⟩⟩⟩
       exact⟨z,p1.str,ym hc,k _ F3 H3 (e1.trans (e2.trans e3)) rfl⟩
      ·cases hg
     |_=>cases hg
theorem ZZ:∀ {ys:List Str}{us:List Value},Vals (ys.map V.str) us->StrsAre us ys
 | [],_,.nil=>.nil
 |y::ys,_,.cons r t=>by
  obtain⟨k,rfl⟩:=r
  exact .cons y k (ZZ t)
def rJoin (K:KW):V->List V->Hp->VK->Prop:=λx vs H Q=>∃z a ys,x=.str z/\vs=[.ref a]/\SqL K H a (ys.map V.str)/\(ys.map (·.length)).sum+ys.length * z.length<=16777216/\Q (.str (Txt.join z ys)) H
theorem Go:MtR X "str.join" (rJoin X.kw):=by
 intro pins s σ H x vs v us Q I rx rv h
 obtain⟨z,a,ys,rfl,rfl,hq,hz,q⟩:=h
 obtain⟨t,rfl⟩:=rx
 obtain⟨u,rfl,ru⟩:=rv.one
 cases ru
 obtain⟨its,r,pl,_⟩:=I.list hq
 exact join_list pl.isList (by simpa using ZZ r) hz λt' k=>⟨.str _,H,I.tok _,⟨_,rfl⟩,q⟩
def asSs:List D->Option (List Str)
 | []=>some []
 |.str x::r=>(asSs r).map (x::·)
 |_=>none
theorem Yt {K:KW}{F:Hp}:∀ {ds:List D}{vs:List V}{bs:List Str},asSs ds=some bs->Rps K F ds vs->vs=bs.map V.str
 | [],_,_,e,h=>by cases e;cases h;rfl
 |.str b::r,_,_,e,⟨v,w,e1,h,t⟩=>by
  subst e1;cases h
  cases q:asSs r with
  |none=>rw[show asSs (.str b::r)=(asSs r).map (b::·) from rfl,q] at e;cases e
  |some bs=>
   rw[show asSs (.str b::r)=(asSs r).map (b::·) from rfl,q] at e
   cases e
   rw[Yt q t];rfl
 |.non::_,_,_,e,_=>by cases e
 |.int _::_,_,_,e,_=>by cases e
 |.bl _::_,_,_,e,_=>by cases e
 |.lst _::_,_,_,e,_=>by cases e
 |.tup _::_,_,_,e,_=>by cases e
 |.scr _::_,_,_,e,_=>by cases e
 |.obj _ _ _::_,_,_,e,_=>by cases e
def fJoin:D->List D->Option D
 |.str z,[.lst ds]=>(asSs ds).bind λys=>if (ys.map (·.length)).sum+ys.length * z.length<=TOP then some (.str (Txt.join z ys)) else none
 |_,_=>none
def gSM (f:D->List D->Option D)(go:EnvD->Option D)(gs:EnvD->Option (List D)):EnvD->Option D:=λρ=>(go ρ).bind λd=>(gs ρ).bind λds=>f d ds
theorem UA (ho:DR X B o go)(ha:DRs X B [e] gs)
  (hbase:attributeBase o "join" X.env (eval o X.env)=eval o X.env:=by rfl)
  (hfew:((backTo cpos (starEach [e] X.env)).all (λx=>!x.1)&&(backToKw cpos (keywordEach [] X.env)).all (λx=>x.1.isSome)
   && decide (([e]:List Expr).length+([]:List Keyword).length+(if ([]:List Keyword).isEmpty then 0 else 1) < 30))=true:=by rfl)
  (hline:(apos.endLine==cpos.line)=true:=by rfl) (hs:starEach [e] X.env=(false,eval e X.env)::starEach [] X.env:=by rfl) (hplain:(backTo cpos (starEach [] X.env)).any (·.1)=false:=by rfl) :
  DE X B (.Call (.Attribute o "join" apos) [e] [] cpos) (gSM fJoin go gs) :=
 pe_imp (jb PySem.F.plainAttrs_str PySem.F.slot_str_join PySem.F.type_str_join Go ho ha hbase hfew hline hs hplain) λσ H Q ⟨F,ρ,d,r,hg,k⟩=>by
  obtain⟨d1,ds,q1,q2,q3⟩:=bind2 hg
  unfold fJoin at q3
  split at q3
  ·rename_i z xs
   cases q4:asSs xs with
   |none=>rw[q4] at q3;cases q3
   |some ys=>
    rw[q4] at q3
    replace q3:(if (ys.map (·.length)).sum+ys.length * z.length<=TOP then some (D.str (Txt.join z ys)) else none)=some d:=q3
    split at q3
    ·rename_i hc
     cases q3
     refine⟨F,ρ,_,r,q1,λv F1 H1 e1 p1=>?_⟩
     cases p1.str
     refine⟨rfl,F1,ρ,_,r.ext e1,q2,λvs F2 H2 e2 p2=>?_⟩
     obtain⟨w,rfl,rw'⟩:=pair1 p2
     obtain⟨a,us,rfl,h1,h2⟩:=rw'.lst e2.fh
     have:=Yt q4 h2
     subst this
     exact⟨z,a,ys,rfl,rfl,.of h1,Nat.le_trans hc (by decide),k _ F2 H2 (e1.trans e2) rfl⟩
    ·cases q3
  ·cases q3
def rCatS (K:KW):R2:=λx y H Q=>∃l b xs zs,x=.ref l/\y=.ref b/\SqL K H l xs/\SqL K H b zs/\xs.length+zs.length<=sizeLine/\∀p,H p=none->Q (.ref p) (upd H p (.lst (xs++zs)))
theorem KB:OpR X (binaryOp .Add) (rCatS X.kw):=by
 intro pins s σ H x y v u Q I rx ry h
 obtain⟨l,b,xs,zs,rfl,rfl,hH,hB,hz,q⟩:=h
 cases rx
 cases ry
 obtain⟨its,r,pl,z⟩:=I.list hH
 obtain⟨its2,r2,pl2,z2⟩:=I.list hB
 obtain⟨⟨cls,dd,data,sl⟩,n,ho,hc,hd',hd⟩:=pl
 obtain⟨⟨cls2,dd2,data2,sl2⟩,n2,ho2,hc2,hd2',hd2⟩:=pl2
 simp only at hc hd hc2 hd2
 subst hc hd hc2 hd2
 have e:its.toArray++its2.toArray=(its++its2).toArray:=by simp
 have l1:=r.length
 have l2:=r2.length
 refine concat_meets ⟨_,ho,rfl⟩ ⟨_,ho2,rfl⟩ noFill_list_add seq_list_add PySem.F.slot_list_add PySem.F.entry_list_add (PySem.F.args_list_add_2 _ _) (list_addW l b its.toArray its2.toArray n n2 dd dd2 sl sl2 (by simp;omega)) ⟨ho,ho2,?_⟩
 rw[e]
 exact⟨.ref _,_,I.lnew (t':=s.toks) (r.append r2) (by rw[List.length_append];omega),rfl,q _ I.fresh⟩
def fCatS:D->D->Option (List D):=λx y=>(itL x).bind λxs=>(itL y).bind λys=>if xs.length+ys.length<=TOP then some (xs++ys) else none
theorem Jq {K:KW}:OkR K (rCatS K) (pA K) fCatS:=by
 intro F H x y dx dy d Q s rx ry e k
 unfold fCatS at e
 obtain⟨xs,ys,q1,q2,q3⟩:=bind2 e
 split at q3
 ·rename_i hc
  cases q3
  obtain⟨l,vs,rfl,h2,h1⟩:=vg rx q1
  obtain⟨b,ws,rfl,h4,h3⟩:=vg ry q2
  refine⟨l,b,vs,ws,rfl,rfl,h1 F H (Same.refl _) s (Same.refl _),h3 F H (Same.refl _) s (Same.refl _),ym (by rw[<-h2.length,<-h4.length];exact hc),λp hp=>k _ F _ (.new s hp) ⟨p,_,rfl,hp,zk,s.free hp,h2.append h4⟩⟩
 ·cases q3
theorem qm (ha:DR X B a ga)(hb:DR X B b gb):DA X B (.BinOp a .Add b pos) (g2 fCatS ga gb):=QV KB Jq ha hb
def fInt:List D->Option D
 | [.int i]=>some (.int i)
 | [.bl b]=>some (.int (if b then 1 else 0))
 |_=>none
theorem Qv {K:KW}:CallOk K (λxs H Q=>(∃i,xs=[.int i]/\Q (.int i) H)∨∃k,xs=[.bl k]/\Q (.int (if k then 1 else 0)) H) (pE K) fInt:=by
 intro F H vs ds d Q s hp e k
 unfold fInt at e
 split at e
 ·cases e
  obtain⟨v,rfl,r⟩:=pair1 hp
  cases r.int
  exact .inl ⟨_,rfl,k _ F H (.refl s) rfl⟩
 ·cases e
  obtain⟨v,rfl,r⟩:=pair1 hp
  cases r.bl
  exact .inr ⟨_,rfl,k _ F H (.refl s) rfl⟩
 ·cases e
theorem GW (hg:Gl X "int") (hm:X.mg "int" = none) (ha:DRs X B [a] gs) (he:starEach [a] X.env=(false,eval a X.env)::starEach [] X.env:=by rfl) (hpl:(backTo pos (starEach [] X.env)).any (·.1)=false:=by rfl) :
  DE X B (.Call (.Name "int" p) [a] [] pos) (gB fInt gs):=RO Kt Qv hg hm (by decide +kernel) ha (by decide) (by decide) he hpl
def sAsg (t:Tgt)(g:EnvD->Option D):SD:=λρ=>(g ρ).bind λd=>(asgD t d ρ).map Fl.next
theorem Yr {tg:Expr}{t:Tgt}(he:DE X B e g)(hg:PG X tg (tgT X.kw t))(hs:swapsWithSole [tg] e pos.line X.env=pure false:=by rfl)(hw:swappedStores [tg] e X.env=pure none:=by rfl)
  (h1:(assignEach [tg] X.env).map (·.2)=[assign tg X.env]:=by rfl):DS X B (.Assign [tg] e pos) (sAsg t g) :=
 zC (qM he hg hs hw h1) λE σ H ⟨F,ρ,fl,r,hg,k⟩=>by
  unfold sAsg at hg
  cases q:g ρ with
  |none=>rw[q] at hg;cases hg
  |some d=>
   rw[q] at hg
   replace hg:(asgD t d ρ).map Fl.next=some fl:=hg
   cases q2:asgD t d ρ with
   |none=>rw[q2] at hg;cases hg
   |some ρ'=>
    rw[q2] at hg
    cases hg
    exact⟨F,ρ,d,r,q,λv F1 H1 e1 p1=>jF (r.ext e1) p1 q2 λσ' r' _=>k σ' F1 H1 r' e1.ff⟩
def whileD (t:EnvD->Option Bool)(gb:SD):Nat->EnvD->Option Fl
 |0,_=>none
 |n+1,ρ=>(t ρ).bind λb=>if b then (gb ρ).bind λfl=>match fl with
  |.next ρ2=>whileD t gb n ρ2
  |.cont ρ2=>whileD t gb n ρ2
  |.brk ρ2=>some (.next ρ2)
  |.ret o=>some (.ret o)
  else some (.next ρ)
theorem uy {t:EnvD->Option Bool}{gb:SD}:∀ {n:Nat}{ρ:EnvD}{fl:Fl},whileD t gb n ρ=some fl->whileD t gb (n+1) ρ=some fl
 |0,_,_,h=>by cases h
 |n+1,ρ,fl,h=>by
  rw[whileD] at h ⊢
  cases q:t ρ with
  |none=>rw[q] at h;cases h
  |some b=>
   rw[q] at h
   cases b with
   |false=>exact h
   |true=>
    replace h:((gb ρ).bind λfl=>match fl with
     |.next ρ2=>whileD t gb n ρ2
     |.cont ρ2=>whileD t gb n ρ2
     |.brk ρ2=>some (.next ρ2)
     |.ret o=>some (.ret o))=some fl:=h
    show ((gb ρ).bind λfl=>match fl with
     |.next ρ2=>whileD t gb (n+1) ρ2
     |.cont ρ2=>whileD t gb (n+1) ρ2
     |.brk ρ2=>some (.next ρ2)
     |.ret o=>some (.ret o))=some fl
    cases q2:gb ρ with
    |none=>rw[q2] at h;cases h
    |some f=>
     rw[q2] at h
     cases f with
     |next ρ2=>exact uy h
     |cont ρ2=>exact uy h
     |brk ρ2=>exact h
     |ret o=>exact h
theorem Wm {t:EnvD->Option Bool}{gb:SD}{n m:Nat}{ρ:EnvD}{fl:Fl}(hm:n<=m)(h:whileD t gb n ρ=some fl):whileD t gb m ρ=some fl:=by
 induction hm with
 |refl=>exact h
 |step _ ih=>exact uy ih
open Classical in
def sWhile (t:EnvD->Option Bool)(gb:SD):SD:=λρ=>if h:∃n fl,whileD t gb n ρ=some fl then some (Classical.choose (Classical.choose_spec h)) else none
theorem qK {t:EnvD->Option Bool}{gb:SD}{n:Nat}{ρ:EnvD}{fl:Fl}(h:whileD t gb n ρ=some fl):sWhile t gb ρ=some fl:=by
 unfold sWhile
 have hx:∃n fl,whileD t gb n ρ=some fl:=⟨n,fl,h⟩
 rw[dif_pos hx]
 have q:=Classical.choose_spec (Classical.choose_spec hx)
 generalize Classical.choose (Classical.choose_spec hx)=f at q
 generalize Classical.choose hx=k at q
 have a1:=Wm (Nat.le_max_left n k) h
 have a2:=Wm (Nat.le_max_right n k) q
 rw[a1] at a2
 exact a2.symm
theorem JV {t:EnvD->Option Bool}{gb:SD}{ρ:EnvD}{fl:Fl}(h:sWhile t gb ρ=some fl):∃n,whileD t gb n ρ=some fl:=by
 unfold sWhile at h
 split at h
 ·rename_i hx
  cases h
  exact⟨_,Classical.choose_spec (Classical.choose_spec hx)⟩
 ·cases h
theorem ki {body:List Stmt}{t:EnvD->Option Bool}{gbd:SD}(hp:PassesOwn (model X.prog X.w) X.A X.env X.xe)(hc:DT X B c t)(hb:DSs X B body gbd):DS X B (.While c body [] pos) (sWhile t gbd) :=
 zC (Jr hp hc hb) λE σ H ⟨F,ρ,fl,r,hg,k⟩=>by
  obtain⟨n,hn⟩:=JV hg
  refine⟨λm σ H=>∃F2 ρ2,Rep X.kw B F2 σ H ρ2/\Same F F2/\whileD t gbd m ρ2=some fl,⟨n,F,ρ,r,Same.refl _,hn⟩,?_⟩
  rintro m σ2 H2 ⟨F2,ρ2,r2,s2,h2⟩
  cases m with
  |zero=>cases h2
  |succ m=>
   rw[whileD] at h2
   cases q:t ρ2 with
   |none=>rw[q] at h2;cases h2
   |some bb=>
    rw[q] at h2
    refine⟨F2,ρ2,bb,r2,q,λF3 H3 e3=>?_⟩
    cases bb with
    |false=>
     cases h2
     exact iteF (k σ2 F3 H3 (r2.ext e3) (s2.trans e3.ff))
    |true=>
     refine iteT ⟨λσ' H'=>∃F4 ρ4,Rep X.kw B F4 σ' H' ρ4/\Same F F4/\whileD t gbd m ρ4=some fl,λσ' H' h=>⟨m,Nat.lt_succ_self _,h⟩,?_⟩
     replace h2:((gbd ρ2).bind λfl=>match fl with
      |.next ρ2=>whileD t gbd m ρ2
      |.cont ρ2=>whileD t gbd m ρ2
      |.brk ρ2=>some (.next ρ2)
      |.ret o=>some (.ret o))=some fl:=h2
     cases q2:gbd ρ2 with
     |none=>rw[q2] at h2;cases h2
     |some f1=>
      rw[q2] at h2
      refine⟨F3,ρ2,f1,r2.ext e3,q2,?_⟩
      cases f1 with
      |next ρ5=>exact λσ5 F5 H5 r5 s5=>⟨F5,ρ5,r5,(s2.trans e3.ff).trans s5,h2⟩
      |cont ρ5=>exact λσ5 F5 H5 r5 s5=>⟨F5,ρ5,r5,(s2.trans e3.ff).trans s5,h2⟩
      |brk ρ5=>cases h2;exact λσ5 F5 H5 r5 s5=>k σ5 F5 H5 r5 ((s2.trans e3.ff).trans s5)
      |ret o=>cases h2;exact k
def MutOk (K:KW)(r:V->List V->Hp->VK->Prop)(f:List D->List D->Option (List D)):Prop :=
 ∀F H a vs ds us es ds' Q,H a=some (.lst vs)->Rps K F ds vs->Paired (λd v=>Rp K F d v) es us->f ds es=some ds'->(∀v vs',Rps K F ds' vs'->Q v (upd H a (.lst vs')))->r (.ref a) us H Q
variable {nm:Str}{id:String}{r:V->List V->Hp->VK->Prop}{f:List D->List D->Option (List D)}
def mClear:List D->List D->Option (List D):=λ_ es=>if es.isEmpty then some [] else none
theorem UH {K:KW}:MutOk K rClear mClear:=by
 intro F H a vs ds us es ds' Q h1 h2 hp e k
 unfold mClear at e
 cases es with
 |cons=>cases e
 |nil=>
  cases hp
  cases e
  exact⟨a,vs,rfl,rfl,h1,k _ [] rfl⟩
theorem GF {own:List Str}{cap:List (Str×Nat)}{t:Tgt}{tc:EnvD->Option Bool}{ge:EnvD->Option D}{gi:EnvD->Option (List D)}(ht:∀i∈t.slots,i < own.length) :
  ∀σ H Q,lG X.kw B (pA X.kw) (gComp own cap t tc ge gi) σ H Q->tComp (lI X.kw B (λH=>H) gi) own cap (tgT X.kw t) (λσ H Q=>∃B',lT X.kw B' tc σ H Q) (λσ H Q=>∃B',lG X.kw B' (pE X.kw) ge σ H Q) σ H Q:=by
 intro σ H Q ⟨F,ρ,out,r,hg,k⟩
 unfold gComp at hg
 cases q:gi ρ with
 |none=>rw[q] at hg;cases hg
 |some ds=>
  rw[q] at hg
  have hg:(if ds.length<=TOP then compD t tc ge (List.replicate own.length none++capE ρ cap) ds else none)=some out:=hg
  split at hg
  ·rename_i htop
   refine⟨F,ρ,ds,r,q,λJ F1 H1 e1 jok=>?_⟩
   refine⟨λi m ys H2=>m=ds.length - i/\i<=ds.length/\∃F2 o1 o2,Ext F1 H1 F2 H2/\Rps X.kw F2 o1 ys/\o1.length<=i/\compD t tc ge (List.replicate own.length none++capE ρ cap) (ds.drop i)=some o2/\out=o1++o2,
    ⟨ds.length,rfl,Nat.zero_le _,F1,[],out,.refl e1.fh,rfl,Nat.le_refl _,hg,rfl⟩,?_⟩
   rintro i m ys H2 ⟨rfl,hi,F2,o1,o2,e2,ry,hl1,h2,rfl⟩
   refine⟨ym (by rw[<-ry.length];omega),?_⟩
   obtain⟨j1,j2⟩:=jok F2 H2 e2.ff e2.fh e2.hh i
   by_cases hlt:i < ds.length
   ·obtain⟨go,yl⟩:=j1 hlt
    refine .inr ⟨go,λys' H'=>∃F3 p1 p2,Ext F1 H1 F3 H'/\Rps X.kw F3 p1 ys'/\p1.length<=i+1/\compD t tc ge (List.replicate own.length none++capE ρ cap) (ds.drop (i+1))=some p2/\o1++o2=p1++p2,λys' H' ⟨F3,p1,p2,e3,r3,l3,h3,eo⟩=>⟨ds.length - (i+1),by omega,rfl,hlt,F3,p1,p2,e3,r3,l3,h3,eo⟩,λx H3 hy σ1 hσ=>?_⟩
    obtain⟨F3,d,e3,hd,rd⟩:=yl x H3 hy
    have hdd:ds.drop i=d::ds.drop (i+1):=by
     rw[List.drop_eq_getElem_cons hlt]
     congr 1
     rw[List.getElem?_eq_getElem hlt] at hd
     exact Option.some.inj hd
    rw[hdd] at h2
    simp only[compD] at h2
    cases q1:asgD t d (List.replicate own.length none++capE ρ cap) with
    |none=>rw[q1] at h2;cases h2
    |some ρ1=>
     rw[q1] at h2
     have e13:=e2.trans e3
     refine jF (kx (own:=own) (cap:=cap) r e1 e13 hσ) rd q1 λσ' r4 so=>⟨?_,?_⟩
     ·obtain⟨σ1',l1,e4⟩:=so.pre (σ1:=σ1) rfl (λj hj=>by rw[hσ];exact ht j hj)
      exact⟨σ1',by rw[l1,hσ],e4⟩
     ·have h2:((tc ρ1).bind λb=>if b then (ge ρ1).bind λy=>(compD t tc ge (List.replicate own.length none++capE ρ cap) (ds.drop (i+1))).map (y::·) else compD t tc ge (List.replicate own.length none++capE ρ cap) (ds.drop (i+1)))=some o2:=h2
      cases q2:tc ρ1 with
      |none=>rw[q2] at h2;cases h2
      |some bb=>
       rw[q2] at h2
       refine⟨⟨F1,H1⟩,F3,ρ1,bb,r4,q2,λF5 H5 e5=>?_⟩
       cases bb with
       |false=>exact iteF ⟨F5,o1,o2,e13.trans e5,ry.mono (e3.ff.trans e5.ff),by omega,h2,rfl⟩
       |true=>
        have h2:((ge ρ1).bind λy=>(compD t tc ge (List.replicate own.length none++capE ρ cap) (ds.drop (i+1))).map (y::·))=some o2:=h2
        cases q3:ge ρ1 with
        |none=>rw[q3] at h2;cases h2
        |some y=>
         rw[q3] at h2
         have h2:(compD t tc ge (List.replicate own.length none++capE ρ cap) (ds.drop (i+1))).map (y::·)=some o2:=h2
         cases q4:compD t tc ge (List.replicate own.length none++capE ρ cap) (ds.drop (i+1)) with
         |none=>rw[q4] at h2;cases h2
         |some p2=>
          rw[q4] at h2
          cases h2
          refine iteT ⟨⟨F1,H1⟩,F5,ρ1,y,r4.ext e5,q3,λv F6 H6 e6 p6=>?_⟩
          exact⟨F6,o1++[y],p2,e13.trans (e5.trans e6),(ry.mono (e3.ff.trans (e5.ff.trans e6.ff))).snoc p6,by simp;omega,rfl,by simp⟩
   ·have hi':i=ds.length:=by omega
    have hdd:ds.drop i=[]:=by rw[hi',List.drop_length]
    rw[hdd] at h2
    cases h2
    refine .inl ⟨j2 hi',λD hD=>?_⟩
    have e:=e1.trans e2
    exact k _ F2 _ (e.trans (.new e.fh hD)) ⟨D,ys,rfl,e.hh.free hD,zk,e.fh.free hD,by simpa using ry⟩
  ·cases hg
theorem KL {gl:EnvD->Option (List D)}{σ:St}{H:Hp}{Q:VK}(h:lG X.kw B (pE X.kw) (gFz gl) σ H Q):lG X.kw B (pA X.kw) gl σ H Q:=by
 obtain⟨F,ρ,x,r,hg,k⟩:=h
 unfold gFz at hg
 cases q:gl ρ with
 |none=>rw[q] at hg;cases hg
 |some ds=>
  rw[q] at hg;cases hg
  refine⟨F,ρ,ds,r,q,λv F' H' e p=>?_⟩
  obtain⟨a,vs,rfl,p1,p2,p3,p4⟩:=p
  exact k _ (upd F' a (.lst vs)) H' (e.freeze p1 p3 p2) ⟨a,vs,rfl,zk,p4.mono (yc p3)⟩
section
variable {i:Nat}{y:Str}{py spos:Pos}{elt tg iter:Expr}{ifs:List Expr}{scope:Scope}{own:List Str}{cap:List (Str×Nat)}{t:Tgt}{tc:EnvD->Option Bool}{ge:EnvD->Option D}{gi:EnvD->Option (List D)}
theorem Rr (hc:X.calm=true)(S:CompScope X scope own cap)(hi:DI X B (λH=>H) tg iter gi)
  (hin:∀(B':Bs) C s₀ H₀ fp pn,PG (cxc X scope C (own++cap.map (·.1)) s₀ H₀ fp pn) tg (tgT X.kw t)/\DIfs (cxc X scope C (own++cap.map (·.1)) s₀ H₀ fp pn) B' ifs tc/\DE (cxc X scope C (own++cap.map (·.1)) s₀ H₀ fp pn) B' elt ge)
  (hN:X.N.Nodup) (hiy:X.N[i]?=some y) (hy:Loc X.env.scope y) (hsw:swapsWith (.ListComp elt [⟨tg,iter,ifs,0⟩] scope pos) (some (.Name y py)) spos.line X.env=pure true)
  (hs:∀x,foldedSetIterable iter X.env x=pure x) (hfn:X.fn y=true∨X.env.scope.names.lookup y=some .local) :
  PS X (.Assign [.Name y py] (.ListComp elt [⟨tg,iter,ifs,0⟩] scope pos) spos) (tAsg (tComp (lI X.kw B (λH=>H) gi) own cap (tgT X.kw t) (λσ H Q=>∃B',lT X.kw B' tc σ H Q) (λσ H Q=>∃B',lG X.kw B' (pE X.kw) ge σ H Q)) (gName i)) :=
 JR (tc:=λσ H Q=>∃B',lT X.kw B' tc σ H Q) (te:=λσ H Q=>∃B',lG X.kw B' (pE X.kw) ge σ H Q) hc S hi (λC s₀ H₀ fp pn=>⟨(hin ⟨H₀,H₀⟩ C s₀ H₀ fp pn).1,λpins s σ H Q I ⟨B',q⟩=>(hin B' C s₀ H₀ fp pn).2.1 pins s σ H Q I q,λpins s σ H Q I ⟨B',q⟩=>(hin B' C s₀ H₀ fp pn).2.2 pins s σ H Q I q⟩) hN hiy hy hsw hs hfn
theorem j5 (hc:X.calm=true)(S:CompScope X scope own cap)(hi:DI X B (λH=>H) tg iter gi)(ht:∀i∈t.slots,i < own.length)
  (hin:∀(B':Bs) C s₀ H₀ fp pn,PG (cxc X scope C (own++cap.map (·.1)) s₀ H₀ fp pn) tg (tgT X.kw t)/\DIfs (cxc X scope C (own++cap.map (·.1)) s₀ H₀ fp pn) B' ifs tc/\DE (cxc X scope C (own++cap.map (·.1)) s₀ H₀ fp pn) B' elt ge)
  (hN:X.N.Nodup) (hiy:X.N[i]?=some y) (hy:Loc X.env.scope y) (hsw:swapsWith (.ListComp elt [⟨tg,iter,ifs,0⟩] scope pos) (some (.Name y py)) spos.line X.env=pure true:=by rfl)
  (hs:∀x,foldedSetIterable iter X.env x=pure x:=by intro _;rfl) (hfn:X.fn y=true∨X.env.scope.names.lookup y=some .local:=by first | exact .inl rfl | exact .inr rfl | assumption) :
  DS X B (.Assign [.Name y py] (.ListComp elt [⟨tg,iter,ifs,0⟩] scope pos) spos) (sSet i (gFz (gComp own cap t tc ge gi))) :=
 zC (Rr hc S hi hin hN hiy hy hsw hs hfn) λE σ H h=>GF ht σ H _ (KL (YN h))
end
end
def pH (K:KW):Post D:=λ_ _ _ H' d v=>Rp K H' d v
def DH (X:Cx)(B:Bs)(e:Expr)(g:EnvD->Option D):Prop:=PE X e (lG X.kw B (pH X.kw) g)
def DHs (X:Cx)(B:Bs)(es:List Expr)(g:EnvD->Option (List D)):Prop:=PA X es (lAs X.kw B (pH X.kw) g)
section
variable {X:Cx}{B:Bs}{e a b c o:Expr}{es:List Expr}{pos p p2 apos cpos:Pos}{g ga gb go:EnvD->Option D}{gs:EnvD->Option (List D)}{x:Str}
theorem Rq.heap {K:KW}{F H:Hp}(s:Same F H){d:D}{v:V}(r:Rq K F H d v):Rp K H d v:=by
 rcases r with r | ⟨a,vs,ds,rfl,rfl,e3,e4⟩
 ·exact r.mono s
 ·exact⟨a,vs,rfl,e3,e4.mono s⟩
theorem DR.heap (h:DR X B e g):DH X B e g:=pe_imp h λσ H Q ⟨F,ρ,x,r,hg,k⟩=>⟨F,ρ,x,r,hg,λv F' H' e p=>k v F' H' e (p.heap e.fh)⟩
def gh (i:Nat):EnvD->Option D:=λρ=>match ρ[i]? with
 |some (some (.val d))=>some d
 |some (some (.acc ds))=>some (.lst ds)
 |some (some (.bor ds))=>some (.lst ds)
 |some (some (.tre t))=>some t.erase
 |_=>none
theorem qg (i:Nat)(h:PE X (.Name x pos) (tVar i)):DH X B (.Name x pos) (gh i) :=
 pe_imp h λσ H Q ⟨F,ρ,d,r,hg,k⟩=>by
  unfold gh at hg
  split at hg
  ·rename_i d' e
   cases hg
   obtain⟨v,h1,h2⟩:=r.ents i _ e
   exact⟨v,h1,k v F H (.refl r.fh) (Rp.mono r.fh h2)⟩
  ·rename_i ds e
   cases hg
   obtain⟨v,h1,a,vs,e1,e2,e3,e4,e5⟩:=r.ents i _ e
   exact⟨v,h1,k v F H (.refl r.fh) ⟨a,vs,e1,e2,e5.mono r.fh⟩⟩
  ·rename_i ds e
   cases hg
   obtain⟨v,h1,a,vs,e1,e2,e5⟩:=r.ents i _ e
   exact⟨v,h1,k v F H (.refl r.fh) ⟨a,vs,e1,r.ex.hh _ _ e2,e5.mono r.fh⟩⟩
  ·rename_i t e
   cases hg
   obtain⟨v,h1,h2,_⟩:=r.ents i _ e
   exact⟨v,h1,k v F H (.refl r.fh) (RepO.read r.fh h2)⟩
  ·cases hg
theorem OkR.heap {K:KW}{r:R2}{f:D->D->Option D}(hr:OkR K r (pE K) f){H:Hp}{x y:V}{dx dy d:D}{Q:VK}(rx:Rp K H dx x)(ry:Rp K H dy y)(e:f dx dy=some d)(k:∀v H',Same H H'->Rp K H' d v->Q v H'):r x y H Q :=
 hr H H x y dx dy d Q (Same.refl H) (.inl rx) (.inl ry) e λv F' H' ex p=>k v H' ex.hh (Rp.mono ex.fh p)
theorem We {F H H':Hp}(s:Same F H)(h:Same H H'):Ext F H F H':=⟨Same.refl _,h,s.trans h,λ_ q=>.inl q⟩
theorem opH {r:R2}{f:D->D->Option D}(hr:OkR X.kw r (pE X.kw) f){σ:St}{H:Hp}{Q:VK}(h:lG X.kw B (pH X.kw) (g2 f ga gb) σ H Q):tOp r (lG X.kw B (pH X.kw) ga) (lG X.kw B (pH X.kw) gb) σ H Q:=by
 obtain⟨F,ρ,d,rr,hg,k⟩:=h
 obtain⟨dx,dy,qa,qb,qf⟩:=bind2 hg
 refine⟨F,ρ,dx,rr,qa,λx F1 H1 e1 p1=>⟨F1,ρ,dy,rr.ext e1,qb,λy F2 H2 e2 p2=>?_⟩⟩
 exact hr.heap (Rp.mono e2.hh p1) p2 qf λv H' s p=>k v F2 H' (e1.trans (e2.trans (We e2.fh s))) p
def isAtom:D->Bool
 |.non=>true
 |.bl _=>true
 |.int _=>true
 |.str _=>true
 |_=>false
theorem Rp.atom {K:KW}{F H:Hp}{d:D}{v:V}(h:isAtom d=true)(r:Rp K H d v):Rp K F d v:=by
 cases d<;>first | exact r | cases h
theorem Um (ha:DH X B a ga)(hb:DH X B b gb)(hs:yK b):DH X B (.Subscript a b pos) (g2 fItem ga gb):=pe_imp (wN wl ha hb hs) λσ H Q h=>opH WM h
theorem Yq {op:CmpOp}{r:R2}{neg:Bool}(ho:OpR X (compareOp op) r)(hr:OkR X.kw r (pE X.kw) (fEq neg))(ha:DH X B a ga)(hb:DH X B b gb)(hm:behindInMarks op b=false):DT X B (.Compare a [op] [b] pos) (gb' (g2 (fEq neg) ga gb)) :=
 wB (ZG ho ha hb hm) λσ H Q ⟨F,ρ,c,rr,hg,k⟩=>by
  unfold gb' at hg
  cases q:g2 (fEq neg) ga gb ρ with
  |none=>rw[q] at hg;cases hg
  |some d=>
   rw[q] at hg
   have hd:d=.bl c:=jf hg
   subst hd
   exact opH hr ⟨F,ρ,_,rr,q,λv F' H' e p=>⟨c,p,k F' H' e⟩⟩
theorem GA {T:String}{y:Str}(hk:∀t b,subT t T=some b->PySem.W.kitOne X.kw (.type t) (.type T)=some b)(hg:Gl X "isinstance") (hm:X.mg "isinstance" = none) (hgT:Gl X y) (hmT:X.mg y=none) (hvT:bootBuiltins y=some (.type T)) (ha:DH X B a g)
  (hnT:y ≠ "__name__" := by decide) (hdT:(y==("__debug__" : Str))=false:=by decide)
  (he:starEach [a,.Name y p2] X.env=(false,eval a X.env)::starEach [.Name y p2] X.env:=by rfl) (he2:starEach [.Name y p2] X.env=(false,eval (.Name y p2) X.env)::starEach [] X.env:=by rfl) (hpl:(backTo pos (starEach [.Name y p2] X.env)).any (·.1)=false:=by rfl) :
  DE X B (.Call (.Name "isinstance" p) [a,.Name y p2] [] pos) (gIs T g) :=
 pe_imp (xS (WO (T:=T) hk) hg hm (by decide +kernel) (zJ ha (zJ (qC hgT hmT hvT (v:=.ty T) rfl hnT hdT) zS he2) he) (by decide) (by decide) he hpl) λσ H Q ⟨F,ρ,d,r,hg,k⟩=>by
  unfold gIs at hg
  cases q:g ρ with
  |none=>rw[q] at hg;cases hg
  |some x=>
   rw[q] at hg
   have hg:((tyD x).bind λt=>(subT t T).map D.bl)=some d:=hg
   cases q2:tyD x with
   |none=>rw[q2] at hg;cases hg
   |some t=>
    rw[q2] at hg
    have hg:(subT t T).map D.bl=some d:=hg
    cases q3:subT t T with
    |none=>rw[q3] at hg;cases hg
    |some y=>
     rw[q3] at hg
     cases hg
     exact⟨F,ρ,x,r,q,λv F1 H1 e1 p1=>⟨v,t,y,rfl,Yo (Same.refl H1) (.inl p1) q2,q3,k _ F1 H1 e1 rfl⟩⟩
theorem Ut:DHs X B [] gNil:=yk zS λσ H Q ⟨F,ρ,ds,r,hg,k⟩=>by cases hg;exact k [] F H (.refl r.fh) .nil
theorem Rl (ha:DH X B e g)(hr:DHs X B es gs)(hs:starEach (e::es) X.env=(false,eval e X.env)::starEach es X.env:=by rfl):DHs X B (e::es) (gCons' g gs) :=
 yk (zJ ha hr hs) λσ H Q ⟨F,ρ,ds,r,hg,k⟩=>by
  obtain⟨d,dr,q1,q2,q3⟩:=bind2 hg
  cases q3
  exact⟨F,ρ,d,r,q1,λv F1 H1 e1 p1=>⟨F1,ρ,dr,r.ext e1,q2,λvs F2 H2 e2 p2=>k _ F2 H2 (e1.trans e2) (.cons (Rp.mono e2.hh p1) p2)⟩⟩
theorem QT {ds:List D}{d:D}(h:fLen ds=some d):isAtom d=true:=by
 unfold fLen at h
 split at h
 ·cases h;rfl
 ·cases h;rfl
 ·cases h;rfl
 ·split at h
  ·cases h;rfl
  ·cases h
 ·cases h
theorem JK (hg:Gl X "len") (hm:X.mg "len" = none) (ha:DHs X B [a] gs) (he:starEach [a] X.env=(false,eval a X.env)::starEach [] X.env:=by rfl) (hpl:(backTo pos (starEach [] X.env)).any (·.1)=false:=by rfl) :
  DE X B (.Call (.Name "len" p) [a] [] pos) (gB fLen gs) :=
 pe_imp (xS ZY hg hm (by decide +kernel) ha (by decide) (by decide) he hpl) λσ H Q ⟨F,ρ,d,rr,hg,k⟩=>by
  unfold gB at hg
  cases q:gs ρ with
  |none=>rw[q] at hg;cases hg
  |some ds=>
   rw[q] at hg
   refine⟨F,ρ,ds,rr,q,λvs F1 H1 e1 p1=>?_⟩
   refine Yd H1 H1 vs ds d Q (Same.refl H1) (Paired.imp' (λ_ _ r=>.inl r) p1) hg λv F' H' ex p=>?_
   exact k v F1 H' (e1.trans (We e1.fh ex.hh)) (p.atom (QT hg))
def pT (K:KW):Post OT:=λ_ H F' H' t v=>RepO K F' H' t v/\(feetO H' t v).Nodup/\∀a∈feetO H' t v,H a=none/\F' a=none
def DTr (X:Cx)(B:Bs)(e:Expr)(g:EnvD->Option OT):Prop:=PE X e (lG X.kw B (pT X.kw) g)
def lTs (K:KW)(B:Bs)(g:EnvD->Option (List OT)):TA:=λσ H Q=>
 ∃F ρ ts,Rep K B F σ H ρ/\g ρ=some ts/\∀vs F' H',Ext F H F' H'->RepOs K F' H' ts vs->(feetOs H' ts vs).Nodup->(∀a∈feetOs H' ts vs,H a=none/\F' a=none)->Q vs H'
def DTrs (X:Cx)(B:Bs)(es:List Expr)(g:EnvD->Option (List OT)):Prop:=PA X es (lTs X.kw B g)
def lfs (ds:List D):List OT:=ds.map OT.frz
theorem lfs_rep {K:KW}{F H:Hp}:∀ {ds:List D}{vs:List V},RepOs K F H (lfs ds) vs↔Rps K F ds vs
 | [],_=>Iff.rfl
 |d::ds,vs=>by
  constructor
  ·rintro ⟨v,r,e,h,t⟩;exact⟨v,r,e,h,lfs_rep.mp t⟩
  ·rintro ⟨v,r,e,h,t⟩;exact⟨v,r,e,h,lfs_rep.mpr t⟩
theorem ul {H:Hp}:∀ {ds:List D}{vs:List V},feetOs H (lfs ds) vs=[]
 | [],_=>rfl
 |d::ds,vs=>by
  cases vs with
  |nil=>rfl
  |cons v r=>show feetO H (.frz d) v++feetOs H (lfs ds) r=[];rw[ul];rfl
def gLs (g:EnvD->Option (List D)):EnvD->Option OT:=λρ=>(g ρ).map λds=>OT.lst (lfs ds)
theorem DA.tree {gl:EnvD->Option (List D)}(h:DA X B e gl):DTr X B e (gLs gl):=pe_imp h λσ H Q ⟨F,ρ,t,r,hg,k⟩=>by
 unfold gLs at hg
 cases q:gl ρ with
 |none=>rw[q] at hg;cases hg
 |some ds=>
  rw[q] at hg;cases hg
  refine⟨F,ρ,ds,r,q,λv F' H' e p=>k v F' H' e ?_⟩
  obtain⟨a,vs,rfl,p1,p2,p3,p4⟩:=p
  have hf:feetO H' (.lst (lfs ds)) (.ref a)=[a]:=by simp only[feetO,zD p2,ul]
  refine⟨⟨a,vs,rfl,p2,lfs_rep.mpr p4⟩,by rw[hf];simp,λb hb=>?_⟩
  rw[hf,List.mem_singleton] at hb
  subst hb
  exact⟨p1,p3⟩
def tNl:EnvD->Option (List OT):=λ_=>some []
def tCn (g:EnvD->Option OT)(gs:EnvD->Option (List OT)):EnvD->Option (List OT):=λρ=>(g ρ).bind λd=>(gs ρ).bind λds=>some (d::ds)
variable {gt':EnvD->Option OT}{gts:EnvD->Option (List OT)}
theorem KD:DTrs X B [] tNl:=yk zS λσ H Q ⟨F,ρ,ds,r,hg,k⟩=>by cases hg;exact k [] F H (.refl r.fh) rfl List.nodup_nil (λa ha=>by cases ha)
theorem WJ (ha:DTr X B e gt')(hr:DTrs X B es gts)(hs:starEach (e::es) X.env=(false,eval e X.env)::starEach es X.env:=by rfl):DTrs X B (e::es) (tCn gt' gts) :=
 yk (zJ ha hr hs) λσ H Q ⟨F,ρ,ds,r,hg,k⟩=>by
  obtain⟨t,ts,q1,q2,q3⟩:=bind2 hg
  cases q3
  refine⟨F,ρ,t,r,q1,λv F1 H1 e1 ⟨p1,p2,p3⟩=>⟨F1,ρ,ts,r.ext e1,q2,λvs F2 H2 e2 s1 s2 s3=>?_⟩⟩
  obtain⟨u1,u2⟩:=RepO.ext e2.ff e2.hh p1
  have hfe:feetOs H2 (t::ts) (v::vs)=feetO H1 t v++feetOs H2 ts vs:=by rw[<-u2];rfl
  refine k _ F2 H2 (e1.trans e2) ⟨v,vs,rfl,u1,s1⟩ ?_ λa ha=>?_
  ·rw[hfe,List.nodup_append]
   refine⟨p2,s2,λa ha b hb hab=>?_⟩
   subst hab
   exact RepO.feet p1 ha (s3 a hb).1
  ·rw[hfe,List.mem_append] at ha
   rcases ha with ha | ha
   ·exact⟨(p3 a ha).1,wR e2 (p3 a ha).2 (RepO.feet p1 ha)⟩
   ·exact⟨e1.hh.free (s3 a ha).1,(s3 a ha).2⟩
def gTupT (gs:EnvD->Option (List OT)):EnvD->Option OT:=λρ=>(gs ρ).bind λts=>if ts.length<=TOP then some (.tup ts) else none
theorem RepOs.length {K:KW}{F H:Hp}:∀ {ts:List OT}{vs:List V},RepOs K F H ts vs->ts.length=vs.length
 | [],_,h=>by cases h;rfl
 |_::_,_,⟨_,_,e,_,t⟩=>by subst e;simp[RepOs.length t]
theorem R6 {x1}(h:DTrs X B es gts):DTr X B (.Tuple es x1 pos) (gTupT gts) :=
 pe_imp (kh h) λσ H Q ⟨F,ρ,t,r,hg,k⟩=>by
  unfold gTupT at hg
  cases q:gts ρ with
  |none=>rw[q] at hg;cases hg
  |some ts=>
   rw[q] at hg
   have hg:(if ts.length<=TOP then some (OT.tup ts) else none)=some t:=hg
   split at hg
   ·rename_i hc
    cases hg
    refine⟨F,ρ,ts,r,q,λvs F1 H1 e1 p1 p2 p3=>⟨ym (by rw[<-p1.length];exact hc),λp hp=>?_⟩⟩
    have hn:p∉feetOs H1 ts vs:=λz=>RepOs.feet p1 z hp
    obtain⟨u1,u2⟩:=RepOs.other (o:=.tup vs) p1 hn
    have hf:feetO (upd H1 p (.tup vs)) (.tup ts) (.ref p)=p::feetOs H1 ts vs:=by simp only[feetO,zN zk,u2]
    refine k _ F1 _ (e1.trans (.new e1.fh hp)) ⟨⟨p,vs,rfl,zk,u1⟩,by rw[hf];exact List.nodup_cons.mpr ⟨hn,p2⟩,λa ha=>?_⟩
    rw[hf,List.mem_cons] at ha
    rcases ha with rfl | ha
    ·exact⟨e1.hh.free hp,e1.fh.free hp⟩
    ·exact p3 a ha
   ·cases hg
def treO:En->Option OT
 |.tre t=>some t
 |_=>none
variable {gxs:EnvD->Option (List En)}{n k:Nat}{m:List En->Option En}
theorem Ur {n:Nat}{m:List En->Option En}(hm:∀xs o,m xs=some o->xs.length=n){E:XK}{σ:St}{H:Hp}{Q:VK}(h:lG X.kw B (pT X.kw) (gCall m treO gxs) σ H Q):tCall (pSp X.kw n m) [] E (lNs X.kw B gxs) σ H Q:=by
 obtain⟨F,ρ,d,r,hg,k⟩:=h
 obtain⟨xs,o,q1,q2,q3⟩:=bindC hg
 refine⟨F,ρ,xs,r,q1,λvs F1 H1 e1 p1=>?_⟩
 show pSp X.kw n m (vs++[]) H1 Q E
 rw[List.append_nil]
 refine⟨F1,xs,o,e1.fh,hm xs o q2,p1,q2,λv F2 H2 e2 p2=>?_⟩
 cases o with
 |tre t=>
  cases q3
  obtain⟨h1,h2,h3⟩:=p2
  exact k v F2 H2 (e1.trans e2) ⟨h1,h2,λa ha=>⟨e1.hh.free (h3 a ha).2,(h3 a ha).1⟩⟩
 |_=>cases q3
theorem qW (h:Fx X.prog X.w X.kw X.mg X.base x k n m)(hr:Room k X.A)(hg:Gl X x)(ha:DNs X B (e::es) gxs)(hdb:(x==("__debug__" : Str))=false:=by decide +kernel)
  (he:starEach (e::es) X.env=(false,eval e X.env)::starEach es X.env:=by rfl) (hpl:(backTo pos (starEach es X.env)).any (·.1)=false:=by rfl):DTr X B (.Call (.Name x p) (e::es) [] pos) (gCall (len? n m) treO gxs):=by
 obtain⟨f,fd,ps,F,hm,hk,hb⟩:=h.ex
 exact pe_imp (yX F hr hg hm hk hb .nil pass0 ha hdb he hpl) λσ H Q h=>Ur x6 h
def sRetT (g:EnvD->Option OT):SD:=λρ=>(g ρ).map λt=>.ret (.tre t)
theorem WA (he:DTr X B e gt'):DS X B (.Return (some e) pos) (sRetT gt'):=zC (xF he) λE σ H ⟨F,ρ,fl,r,hg,k⟩=>by
 unfold sRetT at hg
 cases q:gt' ρ with
 |none=>rw[q] at hg;cases hg
 |some t=>
  rw[q] at hg;cases hg
  exact⟨F,ρ,t,r,q,λv F1 H1 e1 ⟨p1,p2,p3⟩=>k v F1 H1 (r.ex.trans e1) ⟨p1,p2,λa ha=>⟨(p3 a ha).2,r.ex.hh.free (p3 a ha).1⟩⟩⟩
def sSetT (i:Nat)(g:EnvD->Option OT):SD:=λρ=>(g ρ).map λt=>.next (ρ.set i (some (.tre t)))
theorem jM {i:Nat}{y:Str}{pos':Pos}(hN:X.N.Nodup)(hi:X.N[i]?=some y)(hx:Loc X.env.scope y)(he:DTr X B e gt')(hs:swapsWith e (some (.Name y pos')) pos.line X.env=pure false:=by rfl)(hf:X.fn y=true∨X.env.scope.names.lookup y=some .local:=by first | exact .inl rfl | exact .inr rfl | assumption) :
  DS X B (.Assign [.Name y pos'] e pos) (sSetT i gt'):=zC (wp hN hi hx he hs hf) λE σ H ⟨F,ρ,fl,r,hg,k⟩=>by
 unfold sSetT at hg
 cases q:gt' ρ with
 |none=>rw[q] at hg;cases hg
 |some t=>
  rw[q] at hg;cases hg
  refine⟨F,ρ,t,r,q,λv F1 H1 e1 ⟨p1,p2,p3⟩=>k _ F1 H1 ((r.ext e1).seto (x:=.tre t) ⟨p1,p2,λa ha=>⟨(p3 a ha).2,r.ex.hh.free (p3 a ha).1⟩⟩ ?_) e1.ff⟩
  intro j z w hj hs _ a ha hc
  obtain⟨w',hw,hr⟩:=r.ents j z hj
  rw[hs] at hw;cases hw
  rw[hr.feet_ext e1.hh] at hc
  exact (hr.feet_at hc).1 (p3 a ha).1
mutual
def OT.get:OT->List Nat->Option OT
 |t,[]=>some t
 |.lst ts,k::p=>gets ts k p
 |.tup ts,k::p=>gets ts k p
 |.frz _,_::_=>none
def gets:List OT->Nat->List Nat->Option OT
 | [],_,_=>none
 |t::_,0,p=>t.get p
 |_::ts,k+1,p=>gets ts k p
end
mutual
def OT.put:OT->List Nat->OT->OT
 |_,[],u=>u
 |.lst ts,k::p,u=>.lst (puts ts k p u)
 |.tup ts,k::p,u=>.tup (puts ts k p u)
 |.frz d,_::_,_=>.frz d
def puts:List OT->Nat->List Nat->OT->List OT
 | [],_,_,_=>[]
 |t::ts,0,p,u=>t.put p u::ts
 |t::ts,k+1,p,u=>t::puts ts k p u
end
def valAt (H:Hp):V->List Nat->Option V
 |v,[]=>some v
 |.ref a,k::p=>((itemsH H a)[k]?).bind λw=>valAt H w p
 |_,_::_=>none
def valsAt (H:Hp)(vs:List V)(k:Nat)(p:List Nat):Option V:=(vs[k]?).bind λw=>valAt H w p
structure At (K:KW)(F H:Hp)(ft:List Addr)(ds:List D)(b:Addr)(vs:List V):Prop where
 hb:H b=some (.lst vs)
 rp:Rps K F ds vs
 mem:b∈ft
mutual
theorem RepO.path {K:KW}{F H:Hp}{ds:List D}:∀ {t:OT}{v:V}{p:List Nat},RepO K F H t v->(feetO H t v).Nodup->t.get p=some (.lst (lfs ds)) ->
  ∃b vs,valAt H v p=some (.ref b)/\At K F H (feetO H t v) ds b vs/\∀ds' vs',Rps K F ds' vs'->RepO K F (upd H b (.lst vs')) (t.put p (.lst (lfs ds'))) v/\feetO (upd H b (.lst vs')) (t.put p (.lst (lfs ds'))) v=feetO H t v
 |t,v,[],r,hn,e=>by
  have e:t=.lst (lfs ds):=by cases t<;>(simp[OT.get] at e;first | exact e | simp[e] | skip)<;>first | rfl | cases e
  subst e
  obtain⟨b,vs,rfl,q,r⟩:=r
  refine⟨b,vs,rfl,⟨q,lfs_rep.mp r,by simp[feetO]⟩,λds' vs' h=>?_⟩
  have ep:(OT.lst (lfs ds)).put [] (.lst (lfs ds'))=.lst (lfs ds'):=by simp[OT.put]
  rw[ep]
  exact⟨⟨b,vs',rfl,zk,lfs_rep.mpr h⟩,by simp only[feetO,zD q,zD zk,ul]⟩
 |.frz _,v,_::_,r,hn,e=>by simp[OT.get] at e
 |.lst ts,_,k::p,⟨a,us,e1,q,r⟩,hn,e=>by
  subst e1
  simp only[feetO,zD q,List.nodup_cons] at hn
  simp only[OT.get] at e
  obtain⟨b,vs,h1,⟨h2,h3,h4⟩,h5⟩:=RepOs.path r hn.2 e
  have hne:a≠b:=λz=>hn.1 (z ▸ h4)
  refine⟨b,vs,by simp only[valAt,zD q];exact h1,⟨h2,h3,by simp only[feetO,zD q,List.mem_cons];exact .inr h4⟩,λds' vs' h=>?_⟩
  obtain⟨k1,k2⟩:=h5 ds' vs' h
  have q':upd H b (.lst vs') a=some (.lst us):=by rw[zg hne];exact q
  simp only[OT.put]
  exact⟨⟨a,us,rfl,q',k1⟩,by simp only[feetO,zD q,zD q',k2]⟩
 |.tup ts,_,k::p,⟨a,us,e1,q,r⟩,hn,e=>by
  subst e1
  simp only[feetO,zN q,List.nodup_cons] at hn
  simp only[OT.get] at e
  obtain⟨b,vs,h1,⟨h2,h3,h4⟩,h5⟩:=RepOs.path r hn.2 e
  have hne:a≠b:=λz=>hn.1 (z ▸ h4)
  refine⟨b,vs,by simp only[valAt,zN q];exact h1,⟨h2,h3,by simp only[feetO,zN q,List.mem_cons];exact .inr h4⟩,λds' vs' h=>?_⟩
  obtain⟨k1,k2⟩:=h5 ds' vs' h
  have q':upd H b (.lst vs') a=some (.tup us):=by rw[zg hne];exact q
  simp only[OT.put]
  exact⟨⟨a,us,rfl,q',k1⟩,by simp only[feetO,zN q,zN q',k2]⟩
theorem RepOs.path {K:KW}{F H:Hp}{ds:List D}:∀ {ts:List OT}{us:List V}{k:Nat}{p:List Nat},RepOs K F H ts us->(feetOs H ts us).Nodup->gets ts k p=some (.lst (lfs ds)) ->
  ∃b vs,valsAt H us k p=some (.ref b)/\At K F H (feetOs H ts us) ds b vs/\∀ds' vs',Rps K F ds' vs'->RepOs K F (upd H b (.lst vs')) (puts ts k p (.lst (lfs ds'))) us/\feetOs (upd H b (.lst vs')) (puts ts k p (.lst (lfs ds'))) us=feetOs H ts us
 | [],_,_,_,_,_,e=>by simp[gets] at e
 |t::ts,_,0,p,⟨v,r,e1,h1,h2⟩,hn,e=>by
  subst e1
  simp only[feetOs,List.nodup_append] at hn
  simp only[gets] at e
  obtain⟨b,vs,g1,⟨g2,g3,g4⟩,g5⟩:=RepO.path h1 hn.1 e
  refine⟨b,vs,by simpa[valsAt] using g1,⟨g2,g3,by simp only[feetOs,List.mem_append];exact .inl g4⟩,λds' vs' h=>?_⟩
  obtain⟨k1,k2⟩:=g5 ds' vs' h
  obtain⟨o1,o2⟩:=RepOs.other (o:=.lst vs') h2 (λz=>hn.2.2 b g4 b z rfl)
  simp only[puts]
  exact⟨⟨v,r,rfl,k1,o1⟩,by simp only[feetOs,k2,o2]⟩
 |t::ts,_,k+1,p,⟨v,r,e1,h1,h2⟩,hn,e=>by
  subst e1
  simp only[feetOs,List.nodup_append] at hn
  simp only[gets] at e
  obtain⟨b,vs,g1,⟨g2,g3,g4⟩,g5⟩:=RepOs.path h2 hn.2.1 e
  refine⟨b,vs,by simpa[valsAt] using g1,⟨g2,g3,by simp only[feetOs,List.mem_append];exact .inr g4⟩,λds' vs' h=>?_⟩
  obtain⟨k1,k2⟩:=g5 ds' vs' h
  obtain⟨o1,o2⟩:=RepO.other (o:=.lst vs') h1 (λz=>hn.2.2 b z b g4 rfl)
  simp only[puts]
  exact⟨⟨v,r,rfl,o1,k1⟩,by simp only[feetOs,k2,o2]⟩
end
end
mutual
theorem RepO.getp {K:KW}{F H:Hp}:∀ {t:OT}{v:V}{p:List Nat}{u:OT},RepO K F H t v->t.get p=some u->∃w,valAt H v p=some w/\RepO K F H u w
 |t,v,[],u,r,e=>by
  have e:t=u:=by cases t<;>(simp[OT.get] at e;exact e)
  subst e
  exact⟨v,rfl,r⟩
 |.frz _,v,_::_,u,r,e=>by simp[OT.get] at e
 |.lst ts,_,k::p,u,⟨a,us,e1,q,r⟩,e=>by
  subst e1
  simp only[OT.get] at e
  obtain⟨w,h1,h2⟩:=RepOs.getp r e
  exact⟨w,by simp only[valAt,zD q];exact h1,h2⟩
 |.tup ts,_,k::p,u,⟨a,us,e1,q,r⟩,e=>by
  subst e1
  simp only[OT.get] at e
  obtain⟨w,h1,h2⟩:=RepOs.getp r e
  exact⟨w,by simp only[valAt,zN q];exact h1,h2⟩
theorem RepOs.getp {K:KW}{F H:Hp}:∀ {ts:List OT}{us:List V}{k:Nat}{p:List Nat}{u:OT},RepOs K F H ts us->gets ts k p=some u->∃w,valsAt H us k p=some w/\RepO K F H u w
 | [],_,_,_,_,_,e=>by simp[gets] at e
 |t::ts,_,0,p,u,⟨v,r,e1,h1,h2⟩,e=>by
  subst e1
  simp only[gets] at e
  obtain⟨w,g1,g2⟩:=RepO.getp h1 e
  exact⟨w,by simpa[valsAt] using g1,g2⟩
 |t::ts,_,k+1,p,u,⟨v,r,e1,h1,h2⟩,e=>by
  subst e1
  simp only[gets] at e
  obtain⟨w,g1,g2⟩:=RepOs.getp h2 e
  exact⟨w,by simpa[valsAt] using g1,g2⟩
end
theorem kt {H:Hp}{n:Nat}{c:Addr}:∀ {p:List Nat}{v:V},valAt H v p=some (.ref c)->valAt H v (p++[n])=(itemsH H c)[n]?
 | [],v,e=>by
  cases e
  simp only[List.nil_append,valAt]
  cases (itemsH H c)[n]?<;>rfl
 |k::p,v,e=>by
  cases v with
  |ref a=>
   simp only[valAt,List.cons_append] at e ⊢
   cases q:(itemsH H a)[k]? with
   |none=>rw[q] at e;cases e
   |some w=>rw[q] at e;exact kt e
  |_=>simp[valAt] at e
def OT.size:OT->Option Nat
 |.lst ts=>some ts.length
 |.tup ts=>some ts.length
 |.frz _=>none
def unLfs:List OT->Option (List D)
 | []=>some []
 |.frz d::ts=>(unLfs ts).map (d::·)
 |_::_=>none
theorem Y1:∀ {ts:List OT}{ds:List D},unLfs ts=some ds->ts=lfs ds
 | [],_,e=>by cases e;rfl
 |.frz d::ts,ds,e=>by
  cases q:unLfs ts with
  |none=>rw[show unLfs (.frz d::ts)=(unLfs ts).map (d::·) from rfl,q] at e;cases e
  |some ds'=>
   rw[show unLfs (.frz d::ts)=(unLfs ts).map (d::·) from rfl,q] at e
   cases e
   rw[Y1 q];rfl
 |.lst _::_,_,e=>by cases e
 |.tup _::_,_,e=>by cases e
theorem YX:∀(ds:List D),unLfs (lfs ds)=some ds
 | []=>rfl
 |d::ds=>by show (unLfs (lfs ds)).map (d::·)=_;rw[YX ds];rfl
def OT.leaf:OT->Option (List D)
 |.lst ts=>unLfs ts
 |_=>none
theorem vO {u:OT}{ds:List D}(h:u.leaf=some ds):u=.lst (lfs ds):=by
 cases u with
 |lst ts=>rw[Y1 (show unLfs ts=some ds from h)]
 |_=>cases h
def lP (K:KW)(B:Bs)(i:Nat)(gp:EnvD->Option (List Nat)):TE:=λσ H Q=>
 ∃F ρ t p,Rep K B F σ H ρ/\ρ[i]?=some (some (.tre t))/\gp ρ=some p/\∀v0 v F' H',Ext F H F' H'->σ[i]?=some (some v0)->valAt H' v0 p=some v->Q v H'
def DP (X:Cx)(B:Bs)(e:Expr)(i:Nat)(gp:EnvD->Option (List Nat)):Prop:=PE X e (lP X.kw B i gp)
section
variable {X:Cx}{B:Bs}{e a b c o:Expr}{es:List Expr}{pos p p2 apos cpos:Pos}{g ga gb go:EnvD->Option D}{gs:EnvD->Option (List D)}{x nm:Str}{gp:EnvD->Option (List Nat)}
def pRoot:EnvD->Option (List Nat):=λ_=>some []
theorem G1 (i:Nat)(h:PE X (.Name x pos) (tVar i)):DP X B (.Name x pos) i pRoot:=pe_imp h λσ H Q ⟨F,ρ,t,p,r,hi,hg,k⟩=>by
 cases hg
 obtain⟨v,h1,_⟩:=r.ents i _ hi
 exact⟨v,h1,k v v F H (.refl r.fh) h1 rfl⟩
def pIx (i:Nat)(gp:EnvD->Option (List Nat))(gb:EnvD->Option D):EnvD->Option (List Nat):=λρ=>match ρ[i]? with
 |some (some (.tre t))=>(gp ρ).bind λp=>((t.get p).bind OT.size).bind λL=>((gb ρ).bind asI).bind λj=>(ixN L j).map λn=>p++[n]
 |_=>none
theorem YR (i:Nat)(ha:DP X B a i gp)(hb:DR X B b gb)(hs:yK b):DP X B (.Subscript a b pos) i (pIx i gp gb) :=
 pe_imp (wN wl ha hb hs) λσ H Q ⟨F,ρ,t,pp,r,hi,hg,k⟩=>by
  unfold pIx at hg
  rw[hi] at hg
  replace hg:((gp ρ).bind λp=>((t.get p).bind OT.size).bind λL=>((gb ρ).bind asI).bind λj=>(ixN L j).map λn=>p++[n])=some pp:=hg
  cases q1:gp ρ with
  |none=>rw[q1] at hg;cases hg
  |some p=>
   rw[q1] at hg
   replace hg:(((t.get p).bind OT.size).bind λL=>((gb ρ).bind asI).bind λj=>(ixN L j).map λn=>p++[n])=some pp:=hg
   cases q2:t.get p with
   |none=>rw[q2] at hg;cases hg
   |some u=>
    rw[q2] at hg
    replace hg:((OT.size u).bind λL=>((gb ρ).bind asI).bind λj=>(ixN L j).map λn=>p++[n])=some pp:=hg
    cases q3:OT.size u with
    |none=>rw[q3] at hg;cases hg
    |some L=>
     rw[q3] at hg
     replace hg:(((gb ρ).bind asI).bind λj=>(ixN L j).map λn=>p++[n])=some pp:=hg
     cases q4:gb ρ with
     |none=>rw[q4] at hg;cases hg
     |some dj=>
      rw[q4] at hg
      replace hg:((asI dj).bind λj=>(ixN L j).map λn=>p++[n])=some pp:=hg
      cases q5:asI dj with
      |none=>rw[q5] at hg;cases hg
      |some j=>
       rw[q5] at hg
       replace hg:((ixN L j).map λn=>p++[n])=some pp:=hg
       cases q6:ixN L j with
       |none=>rw[q6] at hg;cases hg
       |some n=>
        rw[q6] at hg
        cases hg
        rw[uz q5] at q4
        refine⟨F,ρ,t,p,r,hi,q1,λv0 v F1 H1 e1 h0 hv=>⟨F1,ρ,_,r.ext e1,q4,λy F2 H2 e2 p2=>?_⟩⟩
        have r2:=r.ext (e1.trans e2)
        obtain⟨v0',h0',ro,_⟩:=r2.ents i _ hi
        rw[h0] at h0';cases h0'
        have r1:=r.ext e1
        obtain⟨v0',h0',ro1,_⟩:=r1.ents i _ hi
        rw[h0] at h0';cases h0'
        obtain⟨w,hw1,hw2⟩:=RepO.getp ro q2
        obtain⟨w',hw1',hw2'⟩:=RepO.getp ro1 q2
        rw[hv] at hw1';cases hw1'
        cases u with
        |frz d=>cases q3
        |lst ts=>
         cases q3
         obtain⟨a1,us1,rfl,s1,s2⟩:=hw2'
         obtain⟨a2,us2,rfl,t1,t2⟩:=hw2
         have hsame:valAt H2 v0 p=some (.ref a1):=by
          have:∀ {q:List Nat} {v:V} {z:V},valAt H1 v q=some z->valAt H2 v q=some z:=by
           intro q
           induction q with
           |nil=>intro v z h;exact h
           |cons k q ih=>
            intro v z h
            cases v with
            |ref c=>
             simp only[valAt] at h ⊢
             have hc:itemsH H1 c≠[]->itemsH H2 c=itemsH H1 c:=by
              intro hne
              unfold itemsH at hne ⊢
              cases qq:H1 c with
              |none=>rw[qq] at hne;exact (hne rfl).elim
              |some o=>
               rw[e2.hh _ _ qq]
             cases q7:(itemsH H1 c)[k]? with
             |none=>rw[q7] at h;cases h
             |some y=>
              rw[q7] at h
              rw[hc (by intro z;rw[z] at q7;simp at q7),q7]
              exact ih h
            |_=>simp[valAt] at h
          exact this hv
         rw[hsame] at hw1
         cases hw1
         have hl:n < us2.length:=by
          rw[<-RepOs.length t2]
          exact (jB q6).2.1
         refine .inl ⟨a1,us2,j,us2[n],rfl,p2.int,.of t1,?_,k v0 _ F2 H2 (e1.trans e2) h0 ?_⟩
         ·unfold atI
          rw[<-RepOs.length t2,q6]
          exact List.getElem?_eq_getElem hl
         ·rw[kt hsame,zD t1]
          exact List.getElem?_eq_getElem hl
        |tup ts=>
         cases q3
         obtain⟨a1,us1,rfl,s1,s2⟩:=hw2'
         obtain⟨a2,us2,rfl,t1,t2⟩:=hw2
         have hsame:valAt H2 v0 p=some (.ref a1):=by
          have:∀ {q:List Nat} {v:V} {z:V},valAt H1 v q=some z->valAt H2 v q=some z:=by
           intro q
           induction q with
           |nil=>intro v z h;exact h
           |cons k q ih=>
            intro v z h
            cases v with
            |ref c=>
             simp only[valAt] at h ⊢
             have hc:itemsH H1 c≠[]->itemsH H2 c=itemsH H1 c:=by
              intro hne
              unfold itemsH at hne ⊢
              cases qq:H1 c with
              |none=>rw[qq] at hne;exact (hne rfl).elim
              |some o=>
               rw[e2.hh _ _ qq]
             cases q7:(itemsH H1 c)[k]? with
             |none=>rw[q7] at h;cases h
             |some y=>
              rw[q7] at h
              rw[hc (by intro z;rw[z] at q7;simp at q7),q7]
              exact ih h
            |_=>simp[valAt] at h
          exact this hv
         rw[hsame] at hw1
         cases hw1
         have hl:n < us2.length:=by
          rw[<-RepOs.length t2]
          exact (jB q6).2.1
         refine .inr (.inl ⟨a1,us2,j,us2[n],rfl,p2.int,.of t1,?_,k v0 _ F2 H2 (e1.trans e2) h0 ?_⟩)
         ·unfold atI
          rw[<-RepOs.length t2,q6]
          exact List.getElem?_eq_getElem hl
         ·rw[kt hsame,zN t1]
          exact List.getElem?_eq_getElem hl
def sMutT (i:Nat)(gp:EnvD->Option (List Nat))(f:List D->List D->Option (List D))(gs:EnvD->Option (List D)):SD:=λρ=>match ρ[i]? with
 |some (some (.tre t))=>(gp ρ).bind λp=>((t.get p).bind OT.leaf).bind λds=>(gs ρ).bind λes=>(f ds es).map λds'=>.next (ρ.set i (some (.tre (t.put p (.lst (lfs ds'))))))
 |_=>none
variable {id:String}{r:V->List V->Hp->VK->Prop}{f:List D->List D->Option (List D)}
theorem Gw {i:Nat}{ρ:EnvD}{fl:Fl}(h:sMutT i gp f gs ρ=some fl):∃t p ds es ds',ρ[i]?=some (some (.tre t))/\gp ρ=some p/\t.get p=some (.lst (lfs ds))/\gs ρ=some es/\f ds es=some ds'/\fl=.next (ρ.set i (some (.tre (t.put p (.lst (lfs ds')))))):=by
 unfold sMutT at h
 split at h
 ·rename_i t hi
  cases q1:gp ρ with
  |none=>rw[q1] at h;cases h
  |some p=>
   rw[q1] at h
   replace h:(((t.get p).bind OT.leaf).bind λds=>(gs ρ).bind λes=>(f ds es).map λds'=>Fl.next (ρ.set i (some (.tre (t.put p (.lst (lfs ds')))))))=some fl:=h
   cases q2:t.get p with
   |none=>rw[q2] at h;cases h
   |some u=>
    rw[q2] at h
    replace h:((OT.leaf u).bind λds=>(gs ρ).bind λes=>(f ds es).map λds'=>Fl.next (ρ.set i (some (.tre (t.put p (.lst (lfs ds')))))))=some fl:=h
    cases q3:OT.leaf u with
    |none=>rw[q3] at h;cases h
    |some ds=>
     rw[q3] at h
     replace h:((gs ρ).bind λes=>(f ds es).map λds'=>Fl.next (ρ.set i (some (.tre (t.put p (.lst (lfs ds')))))))=some fl:=h
     cases q4:gs ρ with
     |none=>rw[q4] at h;cases h
     |some es=>
      rw[q4] at h
      replace h:((f ds es).map λds'=>Fl.next (ρ.set i (some (.tre (t.put p (.lst (lfs ds')))))))=some fl:=h
      cases q5:f ds es with
      |none=>rw[q5] at h;cases h
      |some ds'=>
       rw[q5] at h
       cases h
       exact⟨t,p,ds,es,ds',hi,rfl,by rw[q2,vO q3],rfl,q5,rfl⟩
 ·cases h
theorem JO (i:Nat)(slot:Slot "list" nm id) (hty:typeOf (.builtin id)=pure (.type "method_descriptor")) (hm:MtR X id r) (ok:MutOk X.kw r f) (ho:DP X B o i gp)
  (hbase:attributeBase o nm X.env (eval o X.env)=eval o X.env:=by rfl) (hline:(apos.endLine==cpos.line)=true:=by rfl)
  (hsw:swapsWith (.Call (.Attribute o nm apos) [] [] cpos) none pos.line X.env=pure false:=by rfl) :
  DS X B (.Expr (.Call (.Attribute o nm apos) [] [] cpos) pos) (sMutT i gp f gNil) :=
 zC (y4 (qI PySem.F.plainAttrs_list slot hty hm ho hbase hline) hsw) λE σ H ⟨F,ρ,fl,rr,hg,k⟩=>by
  obtain⟨t,p,ds,es,ds',hi,hp,ht,he,hf,rfl⟩:=Gw hg
  cases he
  refine⟨F,ρ,t,p,rr,hi,hp,λv0 v F1 H1 e1 h0 hv=>?_⟩
  have r1:=rr.ext e1
  obtain⟨v0',h0',ro,rn,rf⟩:=r1.ents i _ hi
  rw[h0] at h0';cases h0'
  obtain⟨b,vs,g1,⟨g2,g3,g4⟩,g5⟩:=RepO.path ro rn ht
  rw[hv] at g1;cases g1
  refine⟨.inl ⟨rfl,_,.of g2⟩,ok F1 H1 b vs ds [] [] ds' _ g2 g3 .nil hf λu vs' h=>?_⟩
  obtain⟨k1,k2⟩:=g5 ds' vs' h
  exact k σ F1 _ (r1.writeG hi h0 g4 ⟨k1,by rw[k2];exact rn,λa ha=>rf a (by rw[k2] at ha;exact ha)⟩ (λa ha=>by rw[show feetE _ (En.tre _) v0=_ from k2] at ha;exact ha)) e1.ff
end
section
variable {ρ:EnvD}{i:Nat}{t:OT}{ga gb:EnvD->Option D}{gs:EnvD->Option (List D)}{gp:EnvD->Option (List Nat)}{ds:List D}{gt':EnvD->Option OT}{gts:EnvD->Option (List OT)}{gl:EnvD->Option (List D)}{α:Type}
@[simp]theorem zdq:gh i ρ=match ρ[i]? with | some (some (.val d))=>some d | some (some (.acc ds))=>some (.lst ds) | some (some (.bor ds))=>some (.lst ds) | some (some (.tre t))=>some t.erase | _=>none:=rfl
@[simp]theorem zaw:gLs gl ρ=(gl ρ).map λds=>OT.lst (lfs ds):=rfl
@[simp]theorem zfa:tNl ρ=some []:=rfl
@[simp]theorem zeu:tCn gt' gts ρ=(gt' ρ).bind λd=>(gts ρ).bind λds=>some (d::ds):=rfl
@[simp]theorem zbr:gTupT gts ρ=(gts ρ).bind λts=>if ts.length<=TOP then some (.tup ts) else none:=rfl
@[simp]theorem zep:treO (.tre t)=some t:=rfl
@[simp]theorem zdd {d:D}:treO (.val d)=none:=rfl
@[simp]theorem zdm:treO (.acc ds)=none:=rfl
@[simp]theorem zdo:sRetT gt' ρ=(gt' ρ).map λt=>.ret (.tre t):=rfl
@[simp]theorem Rk:sSetT i gt' ρ=(gt' ρ).map λt=>.next (ρ.set i (some (.tre t))):=rfl
@[simp]theorem zc6:pRoot ρ=some []:=rfl
@[simp]theorem zdp:pIx i gp gb ρ=match ρ[i]? with | some (some (.tre t))=>(gp ρ).bind λp=>((t.get p).bind OT.size).bind λL=>((gb ρ).bind asI).bind λj=>(ixN L j).map λn=>p++[n] | _=>none:=rfl
@[simp]theorem zcu {f:List D->List D->Option (List D)}:sMutT i gp f gs ρ=match ρ[i]? with | some (some (.tre t))=>(gp ρ).bind λp=>((t.get p).bind OT.leaf).bind λds=>(gs ρ).bind λes=>(f ds es).map λds'=>.next (ρ.set i (some (.tre (t.put p (.lst (lfs ds')))))) | _=>none:=rfl
@[simp]theorem zfn:OT.leaf (.lst (lfs ds))=some ds:=YX ds
@[simp]theorem zdi {d:D}:(OT.frz d).erase=d:=by simp[OT.erase]
@[simp]theorem zcy {ts:List OT}:(OT.tup ts).erase=.tup (erases ts):=by simp[OT.erase]
@[simp]theorem zbj:erases []=[]:=by simp[erases]
@[simp]theorem zca {ts:List OT}:erases (t::ts)=t.erase::erases ts:=by simp[erases]
end
section
variable {ρ:EnvD}{i k n m:Nat}{d x y:D}{ds es:List D}{a b j:Int}{α γ:Type}{ga gb gc' g:EnvD->Option D}{ta tb:EnvD->Option Bool}{gs:EnvD->Option (List D)}{s1 s2:SD}{p q:Str}{ns:List Int}
@[simp]theorem zdk:fPlus (.int a) (.int b)=some (.int (a+b)):=rfl
@[simp]theorem zcc:fPlus (.str p) (.str q)=if p.length+q.length<=TOP then some (.str (p++q)) else none:=rfl
@[simp]theorem zco:fItem (.lst ds) (.int a)=atI ds a:=rfl
@[simp]theorem ze4:fItem (.tup ds) (.int a)=atI ds a:=rfl
@[simp]theorem zfk:fItem (.scr ns) (.int a)=(atI ns a).map D.int:=rfl
theorem Vk:fItem (.str p) (.int a)=if p.length<=TOP then (atI p.cps.toList a).map λc=>.str ⟨#[c]⟩ else none:=rfl
@[simp]theorem zeo {gl gh:EnvD->Option (Option Int)}:gSlS g gl gh ρ=(g ρ).bind λd=>(gl ρ).bind λl=>(gh ρ).bind λh=>match d with | .str z=>if z.length<=TOP then some (.str (Txt.slice z l h)) else none | _=>none:=rfl
@[simp]theorem za3 {f:D->List D->Option D}:gSM f ga gs ρ=(ga ρ).bind λd=>(gs ρ).bind λds=>f d ds:=rfl
@[simp]theorem zaz:fJoin (.str p) [.lst ds]=(asSs ds).bind λys=>if (ys.map (·.length)).sum+ys.length * p.length<=TOP then some (.str (Txt.join p ys)) else none:=rfl
@[simp]theorem zar:itL (.scr ns)=some (ns.map D.int):=rfl
@[simp]theorem zbd:fCatS x y=(itL x).bind λxs=>(itL y).bind λys=>if xs.length+ys.length<=TOP then some (xs++ys) else none:=rfl
@[simp]theorem zbu:fInt [.int a]=some (.int a):=rfl
@[simp]theorem zb1 {b:Bool}:fInt [.bl b]=some (.int (if b then 1 else 0)):=rfl
@[simp]theorem zc1 {t:Tgt}:sAsg t g ρ=(g ρ).bind λd=>(asgD t d ρ).map Fl.next:=rfl
@[simp]theorem zc2:tyD (.str p)=some "str" := rfl
@[simp]theorem zas:isNon (.lst ds)=false:=rfl
@[simp]theorem zb6:fList [.scr ns]=some (ns.map D.int):=rfl
theorem fEqB {neg u v:Bool}:fEq neg (.bl u) (.bl v)=some (.bl (if neg then !(u==v) else (u==v))):=by
 cases neg<;>cases u<;>cases v<;>rfl
theorem wP {t:EnvD->Option Bool}(h:t ρ=some false):whileD t s1 (n+1) ρ=some (.next ρ):=by
 rw[whileD,h];rfl
theorem jZ {t:EnvD->Option Bool}{ρ2:EnvD}(h:t ρ=some true)(h2:s1 ρ=some (.next ρ2)):whileD t s1 (n+1) ρ=whileD t s1 n ρ2:=by
 rw[whileD,h]
 show ((s1 ρ).bind _)=_
 rw[h2];rfl
theorem Yx {xs:List α}(h:0<=a):cutD xs none (some a)=xs.take a.toNat:=by
 simp only[cutD,HT.sIx]
 rw[if_neg (show ¬a < 0 by omega)]
 simp only[Nat.sub_zero,List.drop_zero]
 by_cases h2:a.toNat<=xs.length
 ·rw[Nat.min_eq_left h2]
 ·rw[Nat.min_eq_right (by omega),List.take_of_length_le (Nat.le_refl _),List.take_of_length_le (by omega)]
theorem Uo {xs:List α}(h:0<=a):cutD xs (some a) none=xs.drop a.toNat:=by
 simp only[cutD,HT.sIx]
 rw[if_neg (show ¬a < 0 by omega)]
 by_cases h2:a.toNat<=xs.length
 ·rw[Nat.min_eq_left h2]
  exact List.take_of_length_le (by simp)
 ·rw[Nat.min_eq_right (by omega),List.drop_of_length_le (Nat.le_refl _),List.drop_of_length_le (by omega)];simp
theorem Zh {β:Type}{f:α->β}{xs:List α}{l h:Option Int}:cutD (xs.map f) l h=(cutD xs l h).map f:=by
 unfold cutD;simp[List.map_drop,List.map_take]
theorem Vx {xs:List α}(h1:0<=a)(h2:a < xs.length):∃v,atI xs a=some v/\xs[a.toNat]?=some v:=by
 obtain⟨n,rfl⟩:∃n:Nat,a=(n:Int):=⟨a.toNat,by omega⟩
 have hl:n < xs.length:=by omega
 exact⟨xs[n],yr n (List.getElem?_eq_getElem hl),by simp[hl]⟩
theorem zel {β:Type}{f:α->β}{xs:List α}:atI (xs.map f) a=(atI xs a).map f:=by
 unfold atI
 rw[List.length_map]
 cases ixN xs.length a with
 |none=>rfl
 |some j=>simp
theorem zax {xs:List α}{v:α}(h:atI xs a=some v):v∈xs:=by
 unfold atI at h
 cases q:ixN xs.length a with
 |none=>rw[q] at h;cases h
 |some j=>rw[q] at h;exact List.mem_of_getElem? h
def Tx (n:Nat)(x:Str):Prop:=PyData.strOk x=true/\x.length<=n
theorem Tx.mono {x:Str}(h:Tx n x)(e:n<=m):Tx m x:=⟨h.1,Nat.le_trans h.2 e⟩
theorem Tx.app {x y:Str}(h:Tx n x)(h':Tx m y):Tx (n+m) (x++y):=by
 refine⟨?_,?_⟩
 ·show (x.cps++y.cps).all _=true
  rw[Array.all_append]
  exact Bool.and_eq_true_iff.mpr ⟨h.1,h'.1⟩
 ·show (x.cps++y.cps).size<=n+m
  rw[Array.size_append]
  have h1:=h.2
  have h2:=h'.2
  unfold Str.length at h1 h2
  omega
theorem Tx.slice {x:Str}{l u:Option Int}(h:Tx n x):Tx n (Txt.slice x l u):=by
 refine⟨?_,Nat.le_trans (Txt.slice_le x l u) h.2⟩
 unfold Txt.slice
 split
 ·exact h.1
 ·have h1:=h.1
  unfold PyData.strOk at h1 ⊢
  rw[Array.all_eq_true'] at h1
  rw[Array.all_eq_true']
  intro c hc
  simp only[List.mem_toArray,List.mem_filterMap] at hc
  obtain⟨i,_,e⟩:=hc
  exact h1 c (Array.mem_of_getElem? e)
theorem Tx.item {z:Str}(h:Tx n z)(hn:n<=TOP)(h1:0<=a)(h2:a < z.length):∃c,fItem (.str z) (.int a)=some (.str c)/\Tx 1 c:=by
 have hl:(z.cps.toList.length:Int)=z.length:=by simp[Str.length]
 obtain⟨c,e1,e2⟩:=Vx (xs:=z.cps.toList) h1 (by omega)
 refine⟨⟨#[c]⟩,?_,?_,Nat.le_refl _⟩
 ·rw[Vk,if_pos (Nat.le_trans h.2 hn),e1];rfl
 ·have h1:=h.1
  unfold PyData.strOk at h1
  rw[Array.all_eq_true'] at h1
  have:=h1 c (by simpa using List.mem_of_getElem? e2)
  unfold PyData.strOk
  simpa using this
theorem ZE (sep:Str)(hs:PyData.strOk sep=true):∀(rest:List Str)(acc:Array Nat),acc.all (· < 0x110000)=true->(∀y∈rest,PyData.strOk y=true)->(rest.foldl (λacc p=>acc++sep.cps++p.cps) acc).all (· < 0x110000)=true
 | [],_,h,_=>h
 |y::rest,acc,h,hy=>by
  rw[List.foldl_cons]
  refine ZE sep hs rest _ ?_ λz hz=>hy z (by simp[hz])
  rw[Array.all_append,Array.all_append]
  have h2:y.cps.all (· < 0x110000)=true:=hy y (by simp)
  have h3:sep.cps.all (· < 0x110000)=true:=hs
  rw[h,h2,h3];rfl
theorem Tx.join0 {ys:List Str}(h:∀y∈ys,Tx 1 y):Tx ys.length (Txt.join "" ys):=by
 have e0:PyData.strOk ("" : Str)=true:=by decide +kernel
 refine⟨?_,?_⟩
 ·show ((ys.drop 1).foldl (λacc p=>acc++("" : Str).cps++p.cps) (ys.headD Str.empty).cps).all (· < 0x110000)=true
  refine ZE "" e0 (ys.drop 1) _ ?_ λy hy=>(h y (List.mem_of_mem_drop hy)).1
  cases ys with
  |nil=>simp[Str.empty]
  |cons y r=>exact (h y (by simp)).1
 ·show (Builtin.Str.glued "" ys).length<=ys.length
  rw[PySem.size_glued]
  have e1:("" : Str).length=0:=by decide +kernel
  rw[e1,Nat.mul_zero,Nat.add_zero]
  have:∀l:List Str,(∀y∈l,Tx 1 y)->(l.map (·.length)).sum<=l.length:=by
   intro l
   induction l with
   |nil=>intro _;exact Nat.le_refl _
   |cons y r ih=>
    intro hh
    have h1:=(hh y (by simp)).2
    have h2:=ih λz hz=>hh z (by simp[hz])
    simp only[List.map_cons,List.sum_cons,List.length_cons]
    omega
  exact this ys h
theorem Ra:∀ {l:List Str},(∀y∈l,Tx 1 y)->(l.map (·.length)).sum<=l.length
 | [],_=>Nat.le_refl _
 |y::r,hh=>by
  have h1:=(hh y (by simp)).2
  have h2:=Ra λz hz=>hh z (List.mem_cons_of_mem _ hz)
  simp only[List.map_cons,List.sum_cons,List.length_cons]
  omega
theorem Zu:∀(ys:List Str),asSs (ys.map D.str)=some ys
 | []=>rfl
 |y::ys=>by simp[asSs,Zu ys]
end
def Its (z:Str):It:=⟨λi _=>i < z.cps.size,λi H x H'=>H'=H/\∃c,z.cps[i]?=some c/\x=.str ⟨#[c]⟩,λi _=>i=z.cps.size⟩
theorem Zm {P:Program}{w:World}{K:PySem.W.Frag}{z:Str}{t:Tok}{it:Addr}{n:String}
  (W:∀A':Around,A'.handled=none->Walks P w A' it [it] [it] z.cps.size (SignAt z) (λi h=>h.IsStrIter it n z t i))
  (sf:∀(A:Around) (i:Nat) (s:Shared) (Q:Value->Shared->Prop) (E:Value->Shared->Prop),s.heap.IsStrIter it n z t i->Q (.ref it) s->wpAny (model P w) A (pyIter (.ref it)) Q E s)
  (hn:["enumerate","zip","dict_itemiterator","dict_reverseitemiterator","odict_iterator","itertools.zip_longest","itertools.pairwise"].contains n=false) {tg:Expr} :
  Turn P w K tg (Its z) [it] it (λi h=>h.IsStrIter it n z t i) where
 mem:=by simp
 obj:=λi h st b hb=>by
  have e:b=it:=by simpa using hb
  subst e
  obtain⟨o,e,c,d⟩:=st
  exact⟨o,e,λv z=>by rw[d] at z;cases z⟩
 keep:=λi h h' st k=>let ⟨o,e,r⟩:=st;⟨o,k it (by simp) o e,r⟩
 item:=by
  intro X hP hw hK hc i pins s σ H E I hf st hg
  subst hP hw hK
  obtain⟨f0,f1,f2,f3,f4,f5⟩:=hf it (by simp)
  refine (W X.A (I.ok.hd hc)).item i s _ _ hg st λv h' tk hv st' kk=>?_
  obtain⟨c,u,e,rfl⟩:=hv
  have I1:Inv X pins σ H { s with heap:=h',toks:=tk }:=I.turned (λb o hb e=>kk b o (by simpa using hb) e) f0 f1 f3 f4 f5
  obtain⟨o,e1,e2,e3⟩:=id st'
  exact⟨_,rfl,qo (s:={ s with heap:=h',toks:=tk }) e1 e2 e3 hn ⟨.str ⟨#[c]⟩,H,I1,⟨u,rfl⟩,⟨rfl,c,e,rfl⟩,st',λb hb=>(hf b hb).1⟩⟩
 done:=by
  intro X hP hw hK hc i pins s σ H E I hf st hg
  subst hP hw hK
  obtain⟨f0,f1,f2,f3,f4,f5⟩:=hf it (by simp)
  have hg:i=z.cps.size:=hg
  subst hg
  exact (W X.A (I.ok.hd hc)).done s _ _ st λh' tk kk=>⟨rfl,I.turned (t':=tk) (λb o hb e=>kk b o (by simpa using hb) e) f0 f1 f3 f4 f5⟩
 self:=sf
def iStr (tl:TE):TI:=λσ H R=>tl σ H λx H1=>∃z,x=.str z/\R (Its z) H1
theorem Gx {X:Cx}{tg l:Expr}{tl:TE}(hl:PE X l tl):PI X tg l (iStr tl):=by
 intro pins s σ H R I h
 refine thn (hl pins s σ H _ I h) λv s1 ⟨x,H1,I1,r1,q1⟩=>?_
 obtain⟨z,rfl,q⟩:=q1
 obtain⟨t,rfl⟩:=r1
 have fin:∀ {n:String} (o:Obj),o={ cls:=.type n,data:=.fields #[.str z t,.int 0 0] }->Turn X.prog X.w X.kw tg (Its z) [s1.heap.objs.size] s1.heap.objs.size (λi h=>h.IsStrIter s1.heap.objs.size n z t i)->PIE X pins σ tg R (.ref s1.heap.objs.size) { s1 with heap:=s1.heap.push o }:=by
  intro n o ho T
  subst ho
  refine⟨s1.heap.objs.size,[s1.heap.objs.size],_,_,H1,rfl,I1.kept (t':=s1.toks) λb o e=>Heap.get?_push_of_some _ e,T,⟨_,Heap.get?_push_size _ rfl,rfl,rfl⟩,λb hb=>?_,q⟩
  have e:b=s1.heap.objs.size:=by simpa using hb
  subst e
  exact I1.fpOk (Nat.le_refl _) (I1.hok.fresh (Nat.le_refl _))
 cases ha:z.cps.all (· < 128)
 ·exact wpAny_pyIter_wide ha (fin _ rfl (Zm (λA' hA=>Walks.strWide hA _ z t) (λA i s Q E st h=>wpAny_pyIter_striter_wide st h) (by decide)))
 ·exact wpAny_pyIter_ascii ha (fin _ rfl (Zm (λA' hA=>Walks.strAscii hA _ z t) (λA i s Q E st h=>wpAny_pyIter_striter_ascii st h) (by decide)))
section
variable {X:Cx}{B:Bs}{hb:Hp->Hp}{e a b c o tg:Expr}{es:List Expr}{pos p p2 apos cpos:Pos}{g ga gb go:EnvD->Option D}{gs:EnvD->Option (List D)}{x:Str}
def chD (z:Str):List D:=z.cps.toList.map λc=>D.str ⟨#[c]⟩
def gItS (g:EnvD->Option D):EnvD->Option (List D):=λρ=>(g ρ).bind λd=>match d with
 |.str z=>some (chD z)
 |_=>none
theorem Rc (h:DR X B e g):DI X B hb tg e (gItS g) :=
 jx (Gx h) λσ H R ⟨F,ρ,ds,r,hg,k⟩=>by
  unfold gItS at hg
  cases q:g ρ with
  |none=>rw[q] at hg;cases hg
  |some d=>
   rw[q] at hg
   cases d with
   |str z=>
    cases hg
    refine⟨F,ρ,_,r,q,λv F1 H1 e1 p1=>⟨z,p1.str,k _ F1 H1 e1 λF2 H2 s1 s2 s3 i=>⟨λhi=>?_,λhi=>?_⟩⟩⟩
    ·have hl:i < z.cps.size:=by simpa[chD] using hi
     refine⟨hl,λy H3 hy=>?_⟩
     obtain⟨rfl,c,hc,rfl⟩:=hy
     refine⟨F2,.str ⟨#[c]⟩,.refl s2,?_,rfl⟩
     unfold chD
     rw[List.getElem?_map]
     have:z.cps.toList[i]?=some c:=by simpa using hc
     rw[this];rfl
    ·show i=z.cps.size
     simpa[chD] using hi
   |_=>cases hg
def toV:D->Option V
 |.non=>some .non
 |.bl b=>some (.bl b)
 |.int i=>some (.int i)
 |.str x=>some (.str x)
 |_=>none
def toVs:List D->Option (List V)
 | []=>some []
 |d::ds=>(toV d).bind λv=>(toVs ds).map (v::·)
theorem UJ {K:KW}{F:Hp}{d:D}{v w:V}(h:toV d=some v)(r:Rp K F d w):w=v/\flatV v=true:=by
 cases d<;>first | (cases h;exact⟨r,rfl⟩) | cases h
theorem Y9 {K:KW}{F:Hp}:∀ {ds:List D}{vs ws:List V},toVs ds=some vs->Rps K F ds ws->ws=vs/\vs.all flatV=true
 | [],_,_,h,r=>by cases h;cases r;exact⟨rfl,rfl⟩
 |d::ds,vs,ws,h,⟨w,r,e,h1,h2⟩=>by
  subst e
  cases q1:toV d with
  |none=>rw[show toVs (d::ds)=(toV d).bind λv=>(toVs ds).map (v::·) from rfl,q1] at h;cases h
  |some v=>
   cases q2:toVs ds with
   |none=>rw[show toVs (d::ds)=(toV d).bind λv=>(toVs ds).map (v::·) from rfl,q1,q2] at h;cases h
   |some us=>
    rw[show toVs (d::ds)=(toV d).bind λv=>(toVs ds).map (v::·) from rfl,q1,q2] at h
    cases h
    obtain⟨e1,f1⟩:=UJ q1 h1
    obtain⟨e2,f2⟩:=Y9 q2 h2
    subst e1;subst e2
    exact⟨rfl,by rw[List.all_cons,f1,f2];rfl⟩
def fIn (neg:Bool):D->D->Option D
 |.str i,.str j=>some (.bl (if neg then !(!(Builtin.Str.occurrences j i 0 j.length 1).isEmpty) else !(Builtin.Str.occurrences j i 0 j.length 1).isEmpty))
 |x,.lst ds=>(toV x).bind λv=>(toVs ds).map λvs=>.bl (if neg then !inV v vs else inV v vs)
 |x,.tup ds=>(toV x).bind λv=>(toVs ds).map λvs=>.bl (if neg then !inV v vs else inV v vs)
 |_,_=>none
def rInA (K:KW)(neg:Bool):R2:=λx y H Q=>rIn K neg x y H Q∨∃i j,x=.str i/\y=.str j/\Q (.bl (if neg then !(!(Builtin.Str.occurrences j i 0 j.length 1).isEmpty) else !(Builtin.Str.occurrences j i 0 j.length 1).isEmpty)) H
theorem jQ:OpR X (compareOp .In) (rInA X.kw false):=op_in_seq.or J3
theorem GN:OpR X (compareOp .NotIn) (rInA X.kw true):=op_notIn_seq.or Qj
theorem ok_in {K:KW}{neg:Bool}:OkR K (rInA K neg) (pE K) (fIn neg):=by
 intro F H x y dx dy d Q s rx ry e k
 have seq:∀ {v:V} {ds:List D} {vs ws:List V} {a:Addr},toV dx=some v->toVs ds=some vs->Rps K F ds ws->y=.ref a->(SqL K H a ws∨SqT K H a ws)->d=.bl (if neg then !inV v vs else inV v vs)->rInA K neg x y H Q:=by
  intro v ds vs ws a h1 h2 h3 h4 h5 h6
  obtain⟨e2,f2⟩:=Y9 h2 h3
  have hx:x=v/\flatV v=true:=by
   cases dx with
   |non=>cases h1;exact⟨rx.non,rfl⟩
   |bl b=>cases h1;exact⟨rx.bl,rfl⟩
   |int b=>cases h1;exact⟨rx.int,rfl⟩
   |str b=>cases h1;exact⟨rx.str,rfl⟩
   |_=>cases h1
  subst e2
  subst h6
  exact .inl ⟨a,ws,h4,h5,by rw[hx.1];exact hx.2,f2,by rw[hx.1];exact k _ F H (.refl s) rfl⟩
 have two:∀ {ds:List D},((toV dx).bind λv=>(toVs ds).map λvs=>D.bl (if neg then !inV v vs else inV v vs))=some d->∃v vs,toV dx=some v/\toVs ds=some vs/\d=.bl (if neg then !inV v vs else inV v vs):=by
  intro ds h
  cases q1:toV dx with
  |none=>rw[q1] at h;cases h
  |some v=>
   cases q2:toVs ds with
   |none=>rw[q1,q2] at h;cases h
   |some vs=>rw[q1,q2] at h;cases h;exact⟨v,vs,rfl,rfl,rfl⟩
 cases dy with
 |lst ds=>
  obtain⟨v,vs,q1,q2,q3⟩:=two (ds:=ds) (by cases dx<;>exact e)
  obtain⟨a,ws,h1,h2,h3⟩:=ry.lst s
  exact seq q1 q2 h3 h1 (.inl (.of h2)) q3
 |tup ds=>
  obtain⟨v,vs,q1,q2,q3⟩:=two (ds:=ds) (by cases dx<;>exact e)
  obtain⟨a,ws,h1,h2,h3⟩:=ry.tup s
  exact seq q1 q2 h3 h1 (.inr (.of h2)) q3
 |str j=>
  cases dx with
  |str i=>cases e;exact .inr ⟨_,_,rx.str,ry.str,k _ F H (.refl s) rfl⟩
  |_=>cases e
 |_=>cases dx<;>cases e
theorem Ry:OpR X (compareOp .IsNot) (λx y H Q=>∃u v,x=.bl u/\y=.bl v/\Q (.bl (!(u==v))) H):=by
 intro pins s σ H x y v u Q I rx ry h
 obtain⟨b,c,rfl,rfl,q⟩:=h
 cases rx
 cases ry
 exact wpAny_pure ⟨.bl (!(b==c)),H,I,by cases b<;>cases c<;>rfl,q⟩
def fIsB (neg:Bool):D->D->Option D
 |.bl u,.bl v=>some (.bl (if neg then !(u==v) else u==v))
 |_,_=>none
theorem U1 {K:KW}:OkR K (λx y H Q=>∃u v,x=.bl u/\y=.bl v/\Q (.bl (!(u==v))) H) (pE K) (fIsB true):=by
 intro F H x y dx dy d Q s rx ry e k
 unfold fIsB at e
 split at e
 ·cases e;exact⟨_,_,rx.bl,ry.bl,k _ F H (.refl s) rfl⟩
 ·cases e
def maxI:List Int->Int
 | []=>0
 | [n]=>n
 |n::ns=>max n (maxI ns)
theorem wV:∀ {ns:List Int},ns≠[]->maxI ns∈ns/\∀a∈ns,a<=maxI ns
 | [],h=>(h rfl).elim
 | [n],_=>by simp[maxI]
 |n::m::ns,_=>by
  obtain⟨h1,h2⟩:=wV (ns:=m::ns) (by simp)
  have e:maxI (n::m::ns)=max n (maxI (m::ns)):=rfl
  rw[e]
  refine⟨?_,λa ha=>?_⟩
  ·by_cases h:n<=maxI (m::ns)
   ·rw[Int.max_eq_right h];exact List.mem_cons_of_mem _ h1
   ·rw[Int.max_eq_left (by omega)];simp
  ·rcases List.mem_cons.mp ha with rfl | ha
   ·omega
   ·have:=h2 a ha;omega
theorem ZO:∀ {ns:List Int}{us:List Value},Vals (ns.map V.int) us->IntsAre us ns
 | [],_,.nil=>.nil
 |n::ns,_,.cons r t=>by
  obtain⟨k,rfl⟩:=r
  exact .cons n k (ZO t)
theorem Ui (hc:X.calm=true):CallR X (.builtin "max") (λxs H Q=>∃(a:Addr) (ns:List Int),xs=[.ref a]/\SqL X.kw H a (ns.map V.int)/\ns≠[]/\Q (.int (maxI ns)) H):=by
 intro pins s σ H vs us Q I r h
 obtain⟨a,ns,rfl,hq,hne,q⟩:=h
 obtain⟨u,rfl,ru⟩:=vals1 r
 cases ru
 obtain⟨its,rv,pl,hz⟩:=I.list hq
 have hi:=ZO rv
 obtain⟨xs,e⟩:=hi.allInts.items
 have hns:ns=xs.toList.map (·.1):=by rw[<-hi.numsOf,<-nums_intItems,<-e]
 have hsz:0 < xs.size:=by
  have h3:0 < ns.length:=List.length_pos_iff.mpr hne
  rw[hns,List.length_map,Array.length_toList] at h3;exact h3
 have hl:=pl.isList
 rw[e] at hl
 refine max_intList (I.ok.hd hc) hl hsz λv h' tk hv hk=>?_
 obtain⟨t,rfl⟩:=intItems_at hv
 obtain⟨h1,h2⟩:=argBest_gt (numAt xs) (xs.size - 1)
 have hM:numAt xs (argBest (λi j=>decide (numAt xs i > numAt xs j)) (xs.size - 1))=maxI ns:=by
  obtain⟨m1,m2⟩:=wV hne
  have g1:numAt xs (argBest (λi j=>decide (numAt xs i > numAt xs j)) (xs.size - 1))∈ns:=by
   rw[hns,numAt_eq];exact getD_mem (by rw[List.length_map,Array.length_toList];omega)
  have g2:maxI ns<=numAt xs (argBest (λi j=>decide (numAt xs i > numAt xs j)) (xs.size - 1)):=by
   have m1':=m1
   rw[hns] at m1'
   obtain⟨j,hj,ej⟩:=mem_getD m1'
   rw[List.length_map,Array.length_toList] at hj
   have:=h2 j (by omega)
   rw[numAt_eq,ej] at this
   rw[hns]
   exact this
  have:=m2 _ g1
  omega
 rw[hM]
 exact⟨.int (maxI ns),H,I.kept (t':=tk) hk,⟨t,rfl⟩,q⟩
def asIs:List D->Option (List Int)
 | []=>some []
 |.int i::r=>(asIs r).map (i::·)
 |_=>none
theorem YM:∀(ns:List Int),asIs (ns.map D.int)=some ns
 | []=>rfl
 |n::ns=>by simp[asIs,YM ns]
theorem YY:∀ {ds:List D}{ns:List Int},asIs ds=some ns->ds=ns.map D.int
 | [],_,e=>by cases e;rfl
 |.int i::r,_,e=>by
  cases q:asIs r with
  |none=>rw[show asIs (.int i::r)=(asIs r).map (i::·) from rfl,q] at e;cases e
  |some ns=>rw[show asIs (.int i::r)=(asIs r).map (i::·) from rfl,q] at e;cases e;rw[YY q];rfl
 |.non::_,_,e=>by cases e
 |.bl _::_,_,e=>by cases e
 |.str _::_,_,e=>by cases e
 |.lst _::_,_,e=>by cases e
 |.tup _::_,_,e=>by cases e
 |.scr _::_,_,e=>by cases e
 |.obj _ _ _::_,_,e=>by cases e
theorem WI {K:KW}{F:Hp}:∀ {ns:List Int}{vs:List V},Rps K F (ns.map D.int) vs->vs=ns.map V.int
 | [],_,h=>h
 |n::ns,_,⟨v,r,e,h,t⟩=>by subst e;cases h;rw[WI t];rfl
def fMaxL:List D->Option D
 | [.lst ds]=>(asIs ds).bind λns=>if ns.isEmpty then none else some (.int (maxI ns))
 |_=>none
theorem K7 {K:KW}:CallOk K (λxs H Q=>∃(a:Addr)(ns:List Int),xs=[.ref a]/\SqL K H a (ns.map V.int)/\ns≠[]/\Q (.int (maxI ns)) H) (pE K) fMaxL:=by
 intro F H vs ds d Q s hp e k
 unfold fMaxL at e
 split at e
 ·rename_i ds
  cases q:asIs ds with
  |none=>rw[q] at e;cases e
  |some ns=>
   rw[q] at e
   replace e:(if ns.isEmpty then none else some (D.int (maxI ns)))=some d:=e
   split at e
   ·cases e
   ·rename_i hne
    cases e
    obtain⟨v,rfl,r⟩:=pair1 hp
    obtain⟨a,ws,rfl,h1,h2⟩:=r.lst s
    rw[YY q] at h2
    rw[WI h2] at h1
    exact⟨a,ns,rfl,.of h1,by intro z;subst z;exact hne rfl,k _ F H (.refl s) rfl⟩
 ·cases e
theorem K6 (hc:X.calm=true)(hg:Gl X "max") (hm:X.mg "max" = none) (ha:DRs X B [a] gs) (he:starEach [a] X.env=(false,eval a X.env)::starEach [] X.env:=by rfl) (hpl:(backTo pos (starEach [] X.env)).any (·.1)=false:=by rfl) :
  DE X B (.Call (.Name "max" p) [a] [] pos) (gB fMaxL gs):=u4 (Ui hc) K7 hg hm (by decide +kernel) ha (by decide) (by decide) he hpl
end
section
variable {ρ:EnvD}{g:EnvD->Option D}{ds:List D}{a:Int}{u v:Bool}{p q:Str}{neg:Bool}
@[simp]theorem zch:gItS g ρ=(g ρ).bind λd=>match d with | .str z=>some (chD z) | _=>none:=rfl
@[simp]theorem zbw:fIsB neg (.bl u) (.bl v)=some (.bl (if neg then !(u==v) else u==v)):=rfl
@[simp]theorem zd4:fMaxL [.lst ds]=(asIs ds).bind λns=>if ns.isEmpty then none else some (.int (maxI ns)):=rfl
@[simp]theorem zdb:fIn neg (.str p) (.str q)=some (.bl (if neg then !(!(Builtin.Str.occurrences q p 0 q.length 1).isEmpty) else !(Builtin.Str.occurrences q p 0 q.length 1).isEmpty)):=rfl
end
theorem ZN:∀(ys:List Str),toVs (ys.map D.str)=some (ys.map V.str)
 | []=>rfl
 |y::ys=>by simp[toVs,toV,ZN ys]
theorem Wy (x:Str):∀(ys:List Str),inV (.str x) (ys.map V.str)=decide (x∈ys)
 | []=>rfl
 |y::ys=>by
  have ih:=Wy x ys
  unfold inV at ih ⊢
  rw[List.map_cons,List.any_cons,ih]
  show ((y==x)||decide (x∈ys))=_
  by_cases h:x=y
  ·subst h;simp
  ·have h':¬y=x:=λz=>h z.symm
   simp[h,h']
theorem qN {neg:Bool}{x:Str}{ys:List Str}:fIn neg (.str x) (.lst (ys.map D.str))=some (.bl (if neg then !decide (x∈ys) else decide (x∈ys))):=by
 show ((toV (.str x)).bind λv=>(toVs (ys.map D.str)).map λvs=>D.bl (if neg then !inV v vs else inV v vs))=_
 rw[ZN]
 show some (D.bl (if neg then !inV (.str x) (ys.map V.str) else inV (.str x) (ys.map V.str)))=_
 rw[Wy]
def dKey:D->Option Key
 |.int i=>some (.inl i)
 |.str x=>some (.inr x)
 |_=>none
def kD:Key->D
 |.inl i=>.int i
 |.inr x=>.str x
theorem qR {d:D}{k:Key}(h:dKey d=some k):d=kD k:=by
 cases d<;>cases h<;>rfl
theorem U4 {K:KW}{F:Hp}{k:Key}{v:V}(r:Rp K F (kD k) v):v=kV k:=by cases k<;>exact r
theorem kZ {K:KW}{F H:Hp}{k:Key}{v:V}(r:Rq K F H (kD k) v):v=kV k:=by
 refine U4 (r.one λds h=>?_)
 cases k<;>cases h
def lookD (kvs:List (Key×D))(k:Key):Option D:=(kvs.find? λp=>decide (p.1=k)).map (·.2)
def putD (kvs:List (Key×D))(k:Key)(d:D):List (Key×D) :=
 if (kvs.any λp=>decide (p.1=k))=true then kvs.map (λp=>if p.1=k then (p.1,d) else p) else kvs++[(k,d)]
section
variable {K:KW}{F:Hp}
theorem Rkv.length {kvs:List (Key×D)}{vs:List (Key×V)}(r:Rkv K F kvs vs):kvs.length=vs.length:=Paired.length r
theorem Rkv.look {kvs:List (Key×D)}{vs:List (Key×V)}(r:Rkv K F kvs vs)(k:Key):(lookD kvs k=none/\valV vs k=none)∨∃d v,lookD kvs k=some d/\valV vs k=some v/\Rp K F d v:=by
 unfold Rkv at r
 induction r with
 |nil=>exact .inl ⟨rfl,rfl⟩
 | @cons p q ps qs h t ih=>
  by_cases e:p.1=k
  ·refine .inr ⟨p.2,q.2,by simp[lookD,e],kR (h.1 ▸ e),h.2⟩
  ·rw[show lookD (p::ps) k=lookD ps k by simp[lookD,e],kz (λz=>e (h.1.trans z))]
   exact ih
theorem Rkv.any {kvs:List (Key×D)}{vs:List (Key×V)}(r:Rkv K F kvs vs)(k:Key):(kvs.any λp=>decide (p.1=k))=(vs.any λp=>decide (p.1=k)):=by
 unfold Rkv at r
 induction r with
 |nil=>rfl
 | @cons p q ps qs h t ih=>simp only[List.any_cons,ih,h.1]
theorem Rkv.repl {k:Key}{d:D}{v:V}(rd:Rp K F d v):∀ {kvs:List (Key×D)}{vs:List (Key×V)},Rkv K F kvs vs->Rkv K F (kvs.map λp=>if p.1=k then (p.1,d) else p) (vs.map λp=>if p.1=k then (p.1,v) else p):=by
 intro kvs vs r
 unfold Rkv at r ⊢
 induction r with
 |nil=>exact .nil
 | @cons p q ps qs h t ih=>
  refine .cons ?_ ih
  show (if p.1=k then (p.1,d) else p).1=(if q.1=k then (q.1,v) else q).1/\Rp K F (if p.1=k then (p.1,d) else p).2 (if q.1=k then (q.1,v) else q).2
  by_cases e:p.1=k
  ·rw[if_pos e,if_pos (h.1.symm.trans e)];exact⟨h.1,rd⟩
  ·rw[if_neg e,if_neg (λz=>e (h.1.trans z))];exact h
theorem Rkv.put {kvs:List (Key×D)}{vs:List (Key×V)}(r:Rkv K F kvs vs)(k:Key){d:D}{v:V}(rd:Rp K F d v):Rkv K F (putD kvs k d) (putK vs k v):=by
 unfold putD putK
 rw[r.any k]
 by_cases q:(vs.any λp=>decide (p.1=k))=true
 ·rw[if_pos q,if_pos q];exact r.repl rd
 ·rw[if_neg q,if_neg q];exact Paired.snoc r ⟨rfl,rd⟩
end
def pD (K:KW):Post (List (Key×D)):=λ_ H F' H' kvs v=>∃a ob vs,v=.ref a/\H a=none/\H' a=some (DX K.w a ob vs)/\F' a=none/\Rkv K F' kvs vs
def pK (K:KW):Post (List (Key×D)):=λ_ _ F' H' kvs v=>∃a ob vs,v=.ref a/\H' a=some (DX K.w a ob vs)/\Rkv K F' kvs vs
def DD (X:Cx)(B:Bs)(e:Expr)(g:EnvD->Option (List (Key×D))):Prop:=PE X e (lG X.kw B (pD X.kw) g)
def DK (X:Cx)(B:Bs)(e:Expr)(g:EnvD->Option (List (Key×D))):Prop:=PE X e (lG X.kw B (pK X.kw) g)
section
variable {X:Cx}{B:Bs}{e a b c o i:Expr}{es:List Expr}{pos p apos cpos pos':Pos}{g ga gi gv':EnvD->Option D}{gk gk2:EnvD->Option (List (Key×D))}{gs gxs:EnvD->Option (List D)}{x:Str}
theorem DD.read (h:DD X B e gk):DK X B e gk:=pe_imp h λσ H Q ⟨F,ρ,kvs,r,hg,k⟩=>⟨F,ρ,kvs,r,hg,λv F' H' e ⟨a,ob,vs,h1,h2,h3,h4,h5⟩=>k v F' H' e ⟨a,ob,vs,h1,h3,h5⟩⟩
def gk' (i:Nat):EnvD->Option (List (Key×D)):=λρ=>match ρ[i]? with
 |some (some (.dct _ kvs))=>some kvs
 |some (some (.dbo kvs))=>some kvs
 |_=>none
theorem vD (i:Nat)(h:PE X (.Name x pos) (tVar i)):DK X B (.Name x pos) (gk' i) :=
 pe_imp h λσ H Q ⟨F,ρ,d,r,hg,k⟩=>by
  unfold gk' at hg
  split at hg
  ·rename_i oa kvs e
   cases hg
   obtain⟨v,h1,a,ob,vs,e1,e2,e3,e4,e5,e6⟩:=r.ents i _ e
   exact⟨v,h1,k v F H (.refl r.fh) ⟨a,ob,vs,e1,e2,e5⟩⟩
  ·rename_i kvs e
   cases hg
   obtain⟨v,h1,a,ob,vs,e1,e2,e5⟩:=r.ents i _ e
   exact⟨v,h1,k v F H (.refl r.fh) ⟨a,ob,vs,e1,r.ex.hh _ _ e2,e5⟩⟩
  ·cases hg
def gNewD:EnvD->Option (List (Key×D)):=λ_=>some []
theorem W3:DD X B (.Dict [] [] pos) gNewD:=pe_imp U3 λσ H Q ⟨F,ρ,d,r,hg,k⟩=>by
 cases hg
 exact λq ob hn=>k _ F _ (.new r.fh hn) ⟨q,ob,[],rfl,hn,zk,r.fh.free hn,.nil⟩
def gGetD (gk:EnvD->Option (List (Key×D)))(gi:EnvD->Option D):EnvD->Option D:=λρ=>(gk ρ).bind λkvs=>((gi ρ).bind dKey).bind λk=>lookD kvs k
theorem UY (ho:DK X B o gk)(hi:DR X B i gi)(hs:NoSl i:=by intro _ _;rfl):DE X B (.Subscript o i pos) (gGetD gk gi) :=
 pe_imp (zao ho hi hs) λσ H Q ⟨F,ρ,d,r,hg,k⟩=>by
  unfold gGetD at hg
  cases q1:gk ρ with
  |none=>rw[q1] at hg;cases hg
  |some kvs=>
   cases q2:gi ρ with
   |none=>rw[q1,q2] at hg;cases hg
   |some di=>
    rw[q1,q2] at hg
    have hg:((dKey di).bind λk=>lookD kvs k)=some d:=hg
    cases q3:dKey di with
    |none=>rw[q3] at hg;cases hg
    |some ky=>
     rw[q3] at hg
     have hL:lookD kvs ky=some d:=hg
     clear hg
     have hd:=qR q3
     subst hd
     refine⟨F,ρ,kvs,r,q1,λv F1 H1 e1 ⟨a,ob,vs,h1,h2,h3⟩=>⟨F1,ρ,_,r.ext e1,q2,λu F2 H2 e2 p2=>?_⟩⟩
     have h3':=h3.mono e2.ff
     rcases h3'.look ky with⟨z,_⟩ | ⟨d',w,z1,z2,z3⟩
     ·rw[z] at hL;cases hL
     ·rw[z1] at hL;cases hL
      exact⟨a,ob,vs,ky,w,h1,e2.hh _ _ h2,kZ p2,z2,k w F2 H2 (e1.trans e2) z3⟩
def gInD (neg:Bool)(gi:EnvD->Option D)(gk:EnvD->Option (List (Key×D))):EnvD->Option D:=λρ=>((gi ρ).bind dKey).bind λk=>(gk ρ).map λkvs=>.bl (neg ^^ (lookD kvs k).isSome)
theorem UV {neg:Bool}{ρ:EnvD}{d:D}(hg:gInD neg gi gk ρ=some d):∃ky kvs,gi ρ=some (kD ky)/\gk ρ=some kvs/\d=.bl (neg ^^ (lookD kvs ky).isSome):=by
 unfold gInD at hg
 cases q2:gi ρ with
 |none=>rw[q2] at hg;cases hg
 |some di=>
  rw[q2] at hg
  have hg:((dKey di).bind λk=>(gk ρ).map λkvs=>D.bl (neg ^^ (lookD kvs k).isSome))=some d:=hg
  cases q3:dKey di with
  |none=>rw[q3] at hg;cases hg
  |some ky=>
   rw[q3] at hg
   cases q1:gk ρ with
   |none=>rw[q1] at hg;cases hg
   |some kvs=>
    rw[q1] at hg
    cases hg
    exact⟨ky,kvs,by rw[qR q3],rfl,rfl⟩
theorem QR {K:KW}{F:Hp}{kvs:List (Key×D)}{vs:List (Key×V)}(r:Rkv K F kvs vs)(k:Key):(valV vs k).isSome=(lookD kvs k).isSome:=by
 rcases r.look k with⟨z1,z2⟩ | ⟨d,w,z1,z2,_⟩<;>rw[z1,z2]<;>rfl
def sPutD (j:Nat)(gi g:EnvD->Option D):SD:=λρ=>match ρ[j]? with
 |some (some (.dct oa kvs))=>(g ρ).bind λd=>((gi ρ).bind dKey).bind λk=>if kvs.length < sizeLine then some (.next (ρ.set j (some (.dct oa (putD kvs k d))))) else none
 |_=>none
theorem WQ (j:Nat)(hx:PE X (.Name x p) (tVar j))(hi:DR X B i gi)(he:DE X B e g)(hs:swapsWith e (some (.Subscript (.Name x p) i pos')) pos.line X.env=pure false:=by rfl) :
  DS X B (.Assign [.Subscript (.Name x p) i pos'] e pos) (sPutD j gi g) :=
 zC (R3 hx hi he hs) λE σ H ⟨F,ρ,fl,r,hg,k⟩=>by
  unfold sPutD at hg
  split at hg
  ·rename_i oa kvs q
   cases q2:g ρ with
   |none=>rw[q2] at hg;cases hg
   |some d=>
    cases q3:gi ρ with
    |none=>rw[q2,q3] at hg;cases hg
    |some di=>
     rw[q2,q3] at hg
     have hg:((dKey di).bind λk=>if kvs.length < sizeLine then some (Fl.next (ρ.set j (some (.dct oa (putD kvs k d))))) else none)=some fl:=hg
     cases q4:dKey di with
     |none=>rw[q4] at hg;cases hg
     |some ky=>
      rw[q4] at hg
      have hg:(if kvs.length < sizeLine then some (Fl.next (ρ.set j (some (.dct oa (putD kvs ky d))))) else none)=some fl:=hg
      split at hg
      ·rename_i hz
       cases hg
       have hd:=qR q4
       subst hd
       refine⟨F,ρ,d,r,q2,λw F1 H1 e1 p1=>?_⟩
       have r1:=r.ext e1
       obtain⟨v,hv,_⟩:=r1.ents j _ q
       refine⟨v,hv,F1,ρ,_,r1,q3,λu F2 H2 e2 p2=>?_⟩
       have r2:=r1.ext e2
       obtain⟨v',hv',a,ob,vs,e',f1,f2,f3,f4,f5⟩:=r2.ents j _ q
       rw[hv] at hv';cases hv';subst e'
       refine⟨a,ob,vs,ky,rfl,f1,kZ p2,by rw[<-f4.length];exact hz,λob'=>k σ F2 _ ?_ (e1.ff.trans e2.ff)⟩
       exact r2.write q rfl hv f2 f3 ⟨a,ob',_,rfl,zk,f2,f3,f4.put ky (Rp.mono e2.ff p1),f5⟩ rfl
      ·cases hg
  ·cases hg
end
section
variable {X:Cx}{B:Bs}{e a b c o i:Expr}{es:List Expr}{pos p apos cpos pos':Pos}{g ga gi gv':EnvD->Option D}{gk gk2:EnvD->Option (List (Key×D))}{gs:EnvD->Option (List D)}{gxs:EnvD->Option (List En)}{x:Str}
def sSetD (j:Nat)(g:EnvD->Option (List (Key×D))):SD:=λρ=>(g ρ).map λkvs=>.next (ρ.set j (some (.dct none kvs)))
theorem UP {K:KW}{F H:Hp}{σ:St}{ρ:EnvD}{F1 H1:Hp}(r:Rep K B F σ H ρ)(e:Ext F H F1 H1){a:Addr}(n:H a=none):∀(j:Nat) y w,ρ[j]?=some (some y)->σ[j]?=some (some w)->a∉feetE H1 y w:=λj y w h1 h2 ha=>by
 obtain⟨w',q,ry⟩:=r.ents j y h1
 rw[h2] at q;cases q
 rw[ry.feet_ext e.hh] at ha
 exact (ry.feet_at ha).1 n
theorem kE {j:Nat}{y:Str}{pos':Pos}(hN:X.N.Nodup)(hi:X.N[j]?=some y)(hx:Loc X.env.scope y)(he:DD X B e gk)(hs:swapsWith e (some (.Name y pos')) pos.line X.env=pure false:=by rfl)(hf:X.fn y=true∨X.env.scope.names.lookup y=some .local:=by first | exact .inl rfl | exact .inr rfl) :
  DS X B (.Assign [.Name y pos'] e pos) (sSetD j gk):=zC (wp hN hi hx he hs hf) λE σ H ⟨F,ρ,fl,r,hg,k⟩=>by
 unfold sSetD at hg
 cases q:gk ρ with
 |none=>rw[q] at hg;cases hg
 |some kvs=>
  rw[q] at hg
  cases hg
  refine⟨F,ρ,kvs,r,q,λv F1 H1 e1 ⟨a,ob,vs,h1,h2,h3,h4,h5⟩=>k _ F1 H1 ((r.ext e1).seto (x:=.dct none kvs) ⟨a,ob,vs,h1,h3,h4,r.ex.hh.free h2,h5,λ_ z=>nomatch z⟩ λj' y w q1 q2 _ b hb=>?_) e1.ff⟩
  subst h1
  simp only[feetE,List.mem_singleton] at hb
  subst hb
  exact UP r e1 h2 j' y w q1 q2
def sRetD (g:EnvD->Option (List (Key×D))):SD:=λρ=>(g ρ).map λkvs=>.ret (.dct none kvs)
theorem GQ (he:DD X B e gk):DS X B (.Return (some e) pos) (sRetD gk):=zC (xF he) λE σ H ⟨F,ρ,fl,r,hg,k⟩=>by
 unfold sRetD at hg
 cases q:gk ρ with
 |none=>rw[q] at hg;cases hg
 |some d=>
  rw[q] at hg;cases hg
  exact⟨F,ρ,d,r,q,λv F1 H1 e1 ⟨a,ob,vs,h1,h2,h3,h4,h5⟩=>k v F1 H1 (r.ex.trans e1) ⟨a,ob,vs,h1,h3,h4,r.ex.hh.free h2,h5,λ_ z=>nomatch z⟩⟩
def sRetVD (j:Nat):SD:=λρ=>match ρ[j]? with
 |some (some (.dct none kvs))=>some (.ret (.dct none kvs))
 |_=>none
theorem QD (j:Nat)(h:PE X (.Name x p) (tVar j)):DS X B (.Return (some (.Name x p)) pos) (sRetVD j):=zC (xF h) λE σ H ⟨F,ρ,fl,r,hg,k⟩=>by
 unfold sRetVD at hg
 split at hg
 ·rename_i ds q
  cases hg
  obtain⟨v,h1,h2⟩:=r.ents j _ q
  exact⟨v,h1,k v F H r.ex h2⟩
 ·cases hg
def dctO:En->Option (List (Key×D))
 |.dct _ kvs=>some kvs
 |_=>none
theorem Qy {n:Nat}{m:List En->Option En}(hm:∀xs o,m xs=some o->xs.length=n){E:XK}{σ:St}{H:Hp}{Q:VK}(h:lG X.kw B (pD X.kw) (gCall m dctO gxs) σ H Q):tCall (pSp X.kw n m) [] E (lNs X.kw B gxs) σ H Q:=by
 obtain⟨F,ρ,d,r,hg,k⟩:=h
 obtain⟨xs,o,q1,q2,q3⟩:=bindC hg
 refine⟨F,ρ,xs,r,q1,λvs F1 H1 e1 p1=>?_⟩
 show pSp X.kw n m (vs++[]) H1 Q E
 rw[List.append_nil]
 refine⟨F1,xs,o,e1.fh,hm xs o q2,p1,q2,λv F2 H2 e2 p2=>?_⟩
 cases o with
 |dct oa kvs=>
  cases q3
  obtain⟨a,ob,ws,h1,h2,h3,h4,h5,h6⟩:=p2
  exact k v F2 H2 (e1.trans e2) ⟨a,ob,ws,h1,e1.hh.free h4,h2,h3,h5⟩
 |_=>cases q3
variable {k n:Nat}{m:List En->Option En}
theorem jg (h:Fx X.prog X.w X.kw X.mg X.base x k n m)(hr:Room k X.A)(hg:Gl X x)(ha:DNs X B (e::es) gxs)(hdb:(x==("__debug__" : Str))=false:=by decide +kernel)
  (he:starEach (e::es) X.env=(false,eval e X.env)::starEach es X.env:=by rfl) (hpl:(backTo pos (starEach es X.env)).any (·.1)=false:=by rfl):DD X B (.Call (.Name x p) (e::es) [] pos) (gCall (len? n m) dctO gxs):=by
 obtain⟨f,fd,ps,F,hm,hk,hb⟩:=h.ex
 exact pe_imp (yX F hr hg hm hk hb .nil pass0 ha hdb he hpl) λσ H Q h=>Qy x6 h
end
section
variable {K:KW}{F:Hp}
end
section
variable {X:Cx}{B:Bs}{e a b c o i tg:Expr}{es:List Expr}{pos p apos cpos pos':Pos}{g ga gi gv':EnvD->Option D}{gk gk2:EnvD->Option (List (Key×D))}{gs:EnvD->Option (List D)}{x:Str}
end
section
variable {X:Cx}{B:Bs}{e a b c o i tg:Expr}{es:List Expr}{pos p apos cpos pos':Pos}{g ga gi gv':EnvD->Option D}{gk gk2:EnvD->Option (List (Key×D))}{gs:EnvD->Option (List D)}{x:Str}
theorem ZF {op:CmpOp}{t:TE}(h:PC X op a b t)(k:∀σ H Q,lG X.kw B (pE X.kw) g σ H Q->t σ H Q)(hm:behindInMarks op b=false):DT X B (.Compare a [op] [b] pos) (gb' g) :=
 wB (JP h hm) λσ H Q ⟨F,ρ,y,r,hg,k'⟩=>by
  unfold gb' at hg
  cases q:g ρ with
  |none=>rw[q] at hg;cases hg
  |some d=>
   rw[q] at hg
   have hd:d=.bl y:=by
    cases d<;>cases hg
    rfl
   subst hd
   exact k σ H _ ⟨F,ρ,_,r,q,λv F' H' e p=>⟨y,p,k' F' H' e⟩⟩
theorem U9 {σ:St}{H:Hp}{Q:VK}(h:lG X.kw B (pE X.kw) (gInD true gi gk) σ H Q):Va X.prog X.w (lG X.kw B (pR X.kw) gi) (lG X.kw B (pK X.kw) gk) σ H Q:=by
 obtain⟨F,ρ,d,r,hg,k⟩:=h
 obtain⟨ky,kvs,q1,q2,rfl⟩:=UV hg
 refine⟨F,ρ,_,r,q1,λu F1 H1 e1 p1=>⟨F1,ρ,kvs,r.ext e1,q2,λv F2 H2 e2 ⟨a,ob,vs,h1,h2,h3⟩=>⟨a,ob,vs,ky,h1,h2,kZ p1,?_⟩⟩⟩
 rw[QR h3]
 exact k _ F2 H2 (e1.trans e2) (by simp;rfl)
theorem JY (hi:DR X B i gi)(ho:DK X B o gk)(hm:behindInMarks .NotIn o=false:=by rfl):DT X B (.Compare i [.NotIn] [o] pos) (gb' (gInD true gi gk)):=ZF (UQ hi ho) (λ_ _ _ h=>U9 h) hm
def asKI:List (Key×D)->Option (List (Key×Int))
 | []=>some []
 | (k,.int j)::r=>(asKI r).map ((k,j)::·)
 |_=>none
theorem qH {K:KW}{F:Hp}:∀ {kvs:List (Key×D)}{vs:List (Key×V)}{kis:List (Key×Int)},Rkv K F kvs vs->asKI kvs=some kis->vs=intsV kis
 | [],_,_,r,e=>by cases e;cases r;rfl
 |p::kvs,_,kis,r,e=>by
  cases r with
  | @cons _ q _ qs h t=>
   obtain⟨k,d⟩:=p
   obtain⟨k',v⟩:=q
   unfold asKI at e
   split at e
   ·rename_i heq;cases heq
   ·rename_i k2 j r2 heq
    cases heq
    cases q2:asKI kvs with
    |none=>rw[q2] at e;cases e
    |some ks=>
     rw[q2] at e
     cases e
     have h1:k=k':=h.1
     have h2:v=.int j:=h.2
     subst h1 h2
     rw[qH t q2]
     rfl
   ·cases e
def gEqD (neg:Bool)(ga gb:EnvD->Option (List (Key×D))):EnvD->Option D:=λρ=>(ga ρ).bind λx=>(gb ρ).bind λy=>(asKI x).bind λka=>(asKI y).map λkb=>.bl (neg ^^ eqI ka kb)
theorem GX {neg:Bool}{ga gb:EnvD->Option (List (Key×D))}{ρ:EnvD}{d:D}(h:gEqD neg ga gb ρ=some d):∃x y ka kb,ga ρ=some x/\gb ρ=some y/\asKI x=some ka/\asKI y=some kb/\d=.bl (neg ^^ eqI ka kb):=by
 unfold gEqD at h
 cases q1:ga ρ with
 |none=>rw[q1] at h;cases h
 |some x=>
  cases q2:gb ρ with
  |none=>rw[q1,q2] at h;cases h
  |some y=>
   rw[q1,q2] at h
   have h:((asKI x).bind λka=>(asKI y).map λkb=>D.bl (neg ^^ eqI ka kb))=some d:=h
   cases q3:asKI x with
   |none=>rw[q3] at h;cases h
   |some ka=>
    rw[q3] at h
    have h:((asKI y).map λkb=>D.bl (neg ^^ eqI ka kb))=some d:=h
    cases q4:asKI y with
    |none=>rw[q4] at h;cases h
    |some kb=>
     rw[q4] at h
     cases h
     exact⟨x,y,ka,kb,rfl,rfl,q3,q4,rfl⟩
theorem Js {neg:Bool}{σ:St}{H:Hp}{Q:VK}(h:lG X.kw B (pE X.kw) (gEqD neg gk gk2) σ H Q):tXEq X.prog X.w neg (lG X.kw B (pK X.kw) gk) (lG X.kw B (pK X.kw) gk2) σ H Q:=by
 obtain⟨F,ρ,d,r,hg,k⟩:=h
 obtain⟨x,y,ka,kb,q1,q2,q3,q4,rfl⟩:=GX hg
 refine⟨F,ρ,_,r,q1,λu F1 H1 e1 ⟨a,oa,va,h1,h2,h3⟩=>⟨F1,ρ,_,r.ext e1,q2,λv F2 H2 e2 ⟨b,ob,vb,g1,g2,g3⟩=>?_⟩⟩
 have ea:=qH h3 q3
 have eb:=qH g3 q4
 subst ea eb
 exact⟨a,b,oa,ob,ka,kb,h1,g1,e2.hh _ _ h2,g2,k _ F2 H2 (e1.trans e2) rfl⟩
theorem YU (hu:X.A.units < cLine)(ha:DK X B a gk)(hb:DK X B b gk2)(hm:behindInMarks .NotEq b=false:=by rfl):DT X B (.Compare a [.NotEq] [b] pos) (gb' (gEqD true gk gk2)):=ZF (Uf hu ha hb) (λ_ _ _ h=>Js h) hm
def gIsD (b:Bool)(gk:EnvD->Option (List (Key×D))):EnvD->Option D:=λρ=>(gk ρ).map λ_=>.bl b
theorem Jl {T:String}{y:Str}{b:Bool}{p2:Pos}(hk:PySem.W.kitOne X.K (.type "dict") (.type T)=some b) (hg:Gl X "isinstance") (hm:X.mg "isinstance" = none) (hgT:Gl X y) (hmT:X.mg y=none) (hvT:bootBuiltins y=some (.type T)) (ha:DK X B a gk)
  (hnT:y ≠ "__name__" := by decide) (hdT:(y==("__debug__" : Str))=false:=by decide)
  (he:starEach [a,.Name y p2] X.env=(false,eval a X.env)::starEach [.Name y p2] X.env:=by rfl) (he2:starEach [.Name y p2] X.env=(false,eval (.Name y p2) X.env)::starEach [] X.env:=by rfl) (hpl:(backTo pos (starEach [.Name y p2] X.env)).any (·.1)=false:=by rfl) :
  DE X B (.Call (.Name "isinstance" p) [a,.Name y p2] [] pos) (gIsD b gk) :=
 pe_imp (xS (VV (T:=T) hk) hg hm (by decide +kernel) (zJ ha (zJ (qC hgT hmT hvT (v:=.ty T) rfl hnT hdT) zS he2) he) (by decide) (by decide) he hpl) λσ H Q ⟨F,ρ,d,r,hg,k⟩=>by
  unfold gIsD at hg
  cases q:gk ρ with
  |none=>rw[q] at hg;cases hg
  |some kvs=>
   rw[q] at hg;cases hg
   exact⟨F,ρ,kvs,r,q,λv F1 H1 e1 ⟨a,ob,vs,h1,h2,h3⟩=>⟨a,ob,vs,by rw[h1],h2,k _ F1 H1 e1 rfl⟩⟩
end
def VG (H:Hp)(a:Addr):Hp:=λb=>if b=a then none else H b
def lSp (K:KW)(n:Nat)(m:Addr->List (Key×D)->List En->Option (List (Key×D))):Sp:=λvs H Q _=>
 ∃F kvs xs kvs' a ob ws us,vs=.ref a::us/\Same F H/\F a=none/\H a=some (DX K.w a ob ws)/\Rkv K F kvs ws/\xs.length+1=n/\Paired (λx v=>ArgE K F (VG H a) x v) xs us/\m a kvs xs=some kvs' /\
  ∀F' H' ob' ws',Ext F (VG H a) F' H'->H' a=some (DX K.w a ob' ws')->F' a=none->Rkv K F' kvs' ws'->Q .non H'
section
variable {P:Program}{w:World}{K:PySem.W.Frag}{mg:Str->Option Value}{base:Heap}
structure Lx (P:Program)(w:World)(K:PySem.W.Frag)(mg:Str->Option Value)(base:Heap)(x:Str)(k n:Nat)(m:List (Key×D)->List En->Option (List (Key×D))):Prop where
 ex:∃f fd ps m',FnOk P w K mg base CX0 k f fd ps (lSp ⟨K,w⟩ n m')/\mg x=some (.ref f)/\PySem.W.keepIn K (.ref f)=true/\Binds K fd ps []/\∀a kvs xs,xs.length+1=n->m' a kvs xs=m kvs xs
end
section
variable {X:Cx}{B:Bs}{es:List Expr}{pos p p1 cpos:Pos}{gxs:EnvD->Option (List En)}{x y:Str}{k n:Nat}{m:List (Key×D)->List En->Option (List (Key×D))}
end
section
variable {X:Cx}{B:Bs}{a b:Expr}{pos:Pos}{ga gb:EnvD->Option D}
end
section
variable {ρ:EnvD}{i j n:Nat}{d:D}{ds:List D}{kvs:List (Key×D)}{oa:Option Addr}{gi g:EnvD->Option D}{gk gk2:EnvD->Option (List (Key×D))}{gs:EnvD->Option (List D)}
@[simp]theorem zbm:gk' i ρ=match ρ[i]? with | some (some (.dct _ kvs))=>some kvs | some (some (.dbo kvs))=>some kvs | _=>none:=rfl
@[simp]theorem zfm:gNewD ρ=some []:=rfl
@[simp]theorem zcl:gGetD gk gi ρ=(gk ρ).bind λkvs=>((gi ρ).bind dKey).bind λk=>lookD kvs k:=rfl
@[simp]theorem zcg {neg:Bool}:gInD neg gi gk ρ=((gi ρ).bind dKey).bind λk=>(gk ρ).map λkvs=>.bl (neg ^^ (lookD kvs k).isSome):=rfl
@[simp]theorem zec {neg:Bool}:gEqD neg gk gk2 ρ=(gk ρ).bind λx=>(gk2 ρ).bind λy=>(asKI x).bind λka=>(asKI y).map λkb=>.bl (neg ^^ eqI ka kb):=rfl
@[simp]theorem zet {b:Bool}:gIsD b gk ρ=(gk ρ).map λ_=>.bl b:=rfl
@[simp]theorem zfj:sSetD j gk ρ=(gk ρ).map λkvs=>.next (ρ.set j (some (.dct none kvs))):=rfl
@[simp]theorem zcz:sRetD gk ρ=(gk ρ).map λkvs=>.ret (.dct none kvs):=rfl
@[simp]theorem zez:sRetVD j ρ=match ρ[j]? with | some (some (.dct none kvs))=>some (.ret (.dct none kvs)) | _=>none:=rfl
@[simp]theorem zb4:sPutD j gi g ρ=match ρ[j]? with | some (some (.dct oa kvs))=>(g ρ).bind λd=>((gi ρ).bind dKey).bind λk=>if kvs.length < sizeLine then some (.next (ρ.set j (some (.dct oa (putD kvs k d))))) else none | _=>none:=rfl
@[simp]theorem za7:dctO (.dct oa kvs)=some kvs:=rfl
@[simp]theorem zfi {x:Str}:dKey (.str x)=some (.inr x):=rfl
@[simp]theorem zd5 {k:Int}:dKey (.int k)=some (.inl k):=rfl
end
end Dv
namespace L4
open PySem PySem.Spec L2 L3
open PyProof.Rows hiding St
end L4
namespace Dv
open PySem PySem.Spec L2 L3 L4
open PyProof.Rows hiding St
def gNev:EnvD->Option D:=λ_=>none
section
variable {X:Cx}{B:Bs}{e a b c o i tg st:Expr}{es elts:List Expr}{pos p p2 apos cpos pos' tpos:Pos}{tk:Nat}{g ga gi gv':EnvD->Option D}{gk gk2:EnvD->Option (List (Key×D))}{gs:EnvD->Option (List D)}{gxs:EnvD->Option (List En)}{x:Str}
theorem Je:DE X B e gNev:=λpins s σ H Q I ⟨F,ρ,d,r,hg,k⟩=>by cases hg
def mN (m:List En->Option En):List En->Option En:=λxs=>m (xs++[.val .non])
end
structure FunD (K:PySem.W.Frag)(x qual:Str)(st:Stmt)(f:Addr)(fd:FuncData):Prop where
 ex:∃(oc dV:Value) (od:Option Addr) (kV doc pm:Value) (an:Option Addr) (cdv ct:Value) (osl:Array (Option Value)),
  fd=PySem.W.fnOf x qual (zm st) (zi st) (zd st) dV kV doc pm an cdv ct/\K.lookup f=some ⟨oc,od,.func fd,osl⟩/\PySem.W.codeIn K cdv qual=true
 kp:PySem.W.keepIn K (.ref f)=true
section
variable {P:Program}{w:World}{K:PySem.W.Frag}{mg:Str->Option Value}{base:Heap}
theorem FunD.ok {x qual:Str}{st:Stmt}{f:Addr}{fd:FuncData}{N ps:List Str}{k:Nat}{sp:Sp}(F:FunD K x qual st f fd)(S:FnScope N ps (zd st))(len:∀vs H Q E,sp vs H Q E->vs.length=ps.length)
  (hbody:∀(cdv:Value) (A:Around) (outer:List Env) (s:Shared) (H:Hp) (vs:List V) (Q:VK) (E:XK),Room k (A.deeper (envOfC qual (zd st) s.heap.objs.size f cdv))->sp vs H Q E ->
   ∃t,PSs (cxOf CX0 P w K mg base N qual (zd st) f cdv A outer s H E).nox (zi st) t/\t { nx:=λ_ H'=>Q .non H',rt:=Q } (L2.start N vs) H):FnOk P w K mg base CX0 (k+1) f fd ps sp:=by
 obtain⟨oc,dV,od,kV,doc,pm,an,cdv,ct,osl,rfl,lk,hcd⟩:=F.ex
 refine qA lk hcd S len λA outer s H vs Q E hr hsp=>?_
 obtain⟨t,h,q⟩:=hbody cdv A outer s H vs Q E hr hsp
 exact⟨t,h.nox,q⟩
theorem GT {x qual:Str}{st:Stmt}{f:Addr}{oc dV:Value}{od an:Option Addr}{osl:Array (Option Value)}{kV doc pm cdv ct:Value}(l:K.lookup f=some ⟨oc,od,.func (PySem.W.fnOf x qual (zm st) (zi st) (zd st) dV kV doc pm an cdv ct),osl⟩)
  (c:PySem.W.codeIn K cdv qual=true) (k:PySem.W.keepIn K (.ref f)=true):FunD K x qual st f (PySem.W.fnOf x qual (zm st) (zi st) (zd st) dV kV doc pm an cdv ct):=⟨⟨oc,dV,od,kV,doc,pm,an,cdv,ct,osl,rfl,l,c⟩,k⟩
theorem UX {x qual:Str}{st:Stmt}{f:Addr}{fd:FuncData}{N ps:List Str}{k:Nat}{g:SD}(F:FunD K x qual st f fd)(S:FnScope N ps (zd st))
  (hb:∀(cdv:Value) (A:Around) (outer:List Env) (s:Shared) (H:Hp) (E:XK) (B:Bs),Room k (A.deeper (envOfC qual (zd st) s.heap.objs.size f cdv)) ->
   DSs (cxOf CX0 P w K mg base N qual (zd st) f cdv A outer s H E).nox B (zi st) g) :
  FnOk P w K mg base CX0 (k+1) f fd ps (pSp ⟨K,w⟩ ps.length (len? ps.length (mir N g))):=by
 refine F.ok S (λvs H Q E h=>?_) (λcdv A outer s H vs Q E hr h=>?_)
 ·obtain⟨F,xs,o,_,hl,hp,_⟩:=h
  rw[<-wc hp];exact hl
 ·obtain⟨F0,xs,o,fh,hl,hp,hm,k⟩:=h
  refine⟨_,hb cdv A outer s H E ⟨F0,H⟩ hr,?_⟩
  have hm:mir N g xs=some o:=by
   unfold len? at hm
   rw[if_pos hl] at hm
   exact hm
  unfold mir at hm
  cases q:g (stE N (xs.map some)) with
  |none=>rw[q] at hm;cases hm
  |some fl=>
   rw[q] at hm
   refine⟨F0,_,fl,jR (ps:=ps) fh hp,q,?_⟩
   cases fl with
   |next ρ=>cases hm;exact λσ' F' H' r s=>k .non F' H' r.ex rfl
   |ret o'=>cases hm;exact λv F' H' e p=>k v F' H' e p
   |brk ρ=>cases hm
   |cont ρ=>cases hm
structure FxN (P:Program)(w:World)(K:PySem.W.Frag)(mg:Str->Option Value)(base:Heap)(x:Str)(k n:Nat)(m:List En->Option En):Prop where
 ex:∃f fd ps,FnOk P w K mg base CX0 k f fd ps (pSp ⟨K,w⟩ n (len? n m))/\mg x=some (.ref f)/\PySem.W.keepIn K (.ref f)=true/\Binds K fd ps [.none]
end
section
variable {X:Cx}{B:Bs}{e:Expr}{es:List Expr}{pos p:Pos}{gxs:EnvD->Option (List En)}{x:Str}{k n:Nat}{m:List En->Option En}
theorem V2 {K:KW}{F H:Hp}{xs:List En}{vs:List V}(h:Paired (λx v=>ArgE K F H x v) xs vs):Paired (λx v=>ArgE K F H x v) (xs++[.val .non]) (vs++[.non]):=Paired.snoc h rfl
theorem WU (h:FxN X.prog X.w X.kw X.mg X.base x k (n+1) m)(hr:Room k X.A)(hg:Gl X x)(ha:DNs X B (e::es) gxs)(hdb:(x==("__debug__" : Str))=false:=by decide +kernel)
  (he:starEach (e::es) X.env=(false,eval e X.env)::starEach es X.env:=by rfl) (hpl:(backTo pos (starEach es X.env)).any (·.1)=false:=by rfl):DE X B (.Call (.Name x p) (e::es) [] pos) (gCall (len? n (mN m)) frzO gxs):=by
 obtain⟨f,fd,ps,F,hm,hk,hb⟩:=h.ex
 refine pe_imp (yX F hr hg hm hk hb (dvs:=[.non]) (.cons rfl .nil) pass0 ha hdb he hpl) λσ H Q ⟨F,ρ,d,r,hg,k⟩=>?_
 obtain⟨xs,o,q1,q2,q3⟩:=bindC hg
 refine⟨F,ρ,xs,r,q1,λvs F1 H1 e1 p1=>?_⟩
 have hl:xs.length=n:=x6 xs o q2
 have hm:m (xs++[.val .non])=some o:=by
  unfold len? at q2
  rw[if_pos hl] at q2
  exact q2
 refine⟨F1,xs++[.val .non],o,e1.fh,by simp[hl],V2 p1,by unfold len?;rw[if_pos (by simp[hl])];exact hm,λv F2 H2 e2 p2=>?_⟩
 obtain⟨F3,e3,p3⟩:=qS q3 e2 p2
 exact k v F3 H2 (e1.trans e3) p3
end
section
variable {ρ:EnvD}{g gi:EnvD->Option D}{m:List En->Option En}{xs:List En}
@[simp]theorem ze5:gNev ρ=none:=rfl
@[simp]theorem ze7:mN m xs=m (xs++[.val .non]):=rfl
end
section
variable {X:Cx}{B:Bs}{e c tg iter:Expr}{pos p1 p2:Pos}{ge:EnvD->Option D}{t:EnvD->Option Bool}{gi:EnvD->Option (List D)}{gbd:SD}
end
end Dv
namespace L4
open PySem PySem.Spec L2 L3
open PyProof.Rows hiding St
section
variable {prog:Program}{w:World}{A:Around}{E:Value->Shared->Prop}{s:Shared}
end
section
variable {X:Cx}{o a b:Expr}{pos p2:Pos}{to ta tb:TE}
end
end L4
namespace Dv
open PySem PySem.Spec L2 L3 L4
open PyProof.Rows hiding St
section
variable {X:Cx}{B:Bs}{e ae be:Expr}{p p2 tpos pos:Pos}{ga gb:EnvD->Option D}{gl:EnvD->Option (List D)}{x:Str}
end
section
variable {X:Cx}{B:Bs}{hb:Hp->Hp}{e a b c o tg:Expr}{es:List Expr}{pos p p2 apos cpos:Pos}{g ga gb go:EnvD->Option D}{gs:EnvD->Option (List D)}{x:Str}
end
section
variable {X:Cx}{B:Bs}{hb:Hp->Hp}{e a b c o tg:Expr}{es:List Expr}{pos p p2 apos cpos:Pos}{g ga gb go:EnvD->Option D}{gs:EnvD->Option (List D)}{x:Str}
end
end Dv
namespace L4
open PySem PySem.Spec L2 L3
open PyProof.Rows hiding St
section
variable {prog:Program}{w:World}{A:Around}{E:Value->Shared->Prop}{s:Shared}{T:String}{r d:Addr}{n:Nat}{P:Nat->Value->Prop}{OK:Heap->Prop}
end
end L4
namespace Dv
open PySem PySem.Spec L2 L3 L4
open PyProof.Rows hiding St
section
variable {X:Cx}{B:Bs}{o:Expr}{pos p:Pos}{gk:EnvD->Option (List (Key×D))}{x:Str}
end
section
variable {K:KW}{B:Bs}{F H:Hp}{σ:St}{ρ:EnvD}
theorem vx {j i:Nat}{x:En}(h:(ρ.set j none)[i]?=some (some x)):i≠j/\ρ[i]?=some (some x):=by
 rcases zV h with⟨rfl,q,_⟩ | ⟨hj,f⟩
 ·cases q
 ·exact⟨hj,f⟩
theorem Rep.forget (r:Rep K B F σ H ρ)(j:Nat):Rep K B F σ H (ρ.set j none) where
 ex:=r.ex
 len:=by simp[r.len]
 ents:=λi x h=>r.ents i x (vx h).2
 dj:=λi k x y v w h1 h2 s1 s2 hne=>r.dj i k x y v w (vx h1).2 (vx h2).2 s1 s2 hne
end
section
variable {X:Cx}{B:Bs}{tg e ck:Expr}{es:List Expr}{x y nm:Str}{pos p2 p3 p4 p5 apos cpos:Pos}{id:String}{r:V->List V->Hp->VK->Prop}{f:List D->List D->Option (List D)}{gs:EnvD->Option (List D)}{dd:List D}
end
end Dv
namespace L4
open PySem PySem.Spec L2 L3
open PyProof.Rows hiding St
section
variable {prog:Program}{w:World}{A:Around}{E:Value->Shared->Prop}{s:Shared}
end
section
variable {X:Cx}{a:Expr}{ta:TA}{p p2 pos pos2:Pos}
end
end L4
namespace Dv
open PySem PySem.Spec L2 L3 L4
open PyProof.Rows hiding St
section
variable {X:Cx}{B:Bs}{a:Expr}{p p2 pos pos2:Pos}{gs:EnvD->Option (List D)}
end
section
variable {X:Cx}{B:Bs}{e:Expr}{es:List Expr}{pos p:Pos}{g:EnvD->Option En}{gxs:EnvD->Option (List En)}{x:Str}
def scal:D->Bool
 |.int _=>true
 |.bl _=>true
 |.non=>true
 |.str _=>true
 |_=>false
variable {k n:Nat}{m:List En->Option En}
end
section
variable {K:KW}{B:Bs}{F H:Hp}{σ:St}{ρ:EnvD}
theorem Rep.writeH (r:Rep K B F σ H ρ){i:Nat}{x y:En}{v:V}{a:Addr}{o:HO}(hi:ρ[i]?=some (some x))(hs:σ[i]?=some (some v))(ha:a∈feetE H x v)(hy:RepE K B F (upd H a o) y v)
  (hsub:∀b∈feetE (upd H a o) y v,b∈feetE H x v∨∀(j:Nat) z w,ρ[j]?=some (some z)->σ[j]?=some (some w)->j≠i->b∉feetE H z w) :
  Rep K B F σ (upd H a o) (ρ.set i (some y)):=by
 have hl:i < ρ.length:=(List.getElem?_eq_some_iff.mp hi).1
 obtain⟨v',hv',rx⟩:=r.ents i x hi
 rw[hs] at hv';cases hv'
 obtain⟨_,hf,h0⟩:=rx.feet_at ha
 have oth:∀ {j:Nat} {z:En} {w:V},ρ[j]?=some (some z)->σ[j]?=some (some w)->j≠i->RepE K B F (upd H a o) z w/\feetE (upd H a o) z w=feetE H z w:=fun {j z w} e s hj=>by
  obtain⟨w',hw',rz⟩:=r.ents j z e
  rw[s] at hw';cases hw'
  exact rz.other (λhz=>r.dj i j x z v w hi e hs s (Ne.symm hj) a ha hz) h0
 have no:∀ {b:Addr} {j:Nat} {z:En} {w:V},b∈feetE (upd H a o) y v->ρ[j]?=some (some z)->σ[j]?=some (some w)->j≠i->b∉feetE H z w:=fun {b j z w} hb e s hj=>by
  rcases hsub b hb with h | h
  ·exact r.dj i j x z v w hi e hs s (Ne.symm hj) b h
  ·exact h j z w e s hj
 refine⟨⟨r.ex.ff,λb u e=>?_,λb u e=>?_,r.ex.nw⟩,by simp[r.len],λj z e=>?_,λj k z w u t e1 e2 s1 s2 hne b hb hc=>?_⟩
 ·rw[zg (zu e h0)];exact r.ex.hh b u e
 ·rw[zg (zu e hf)];exact r.ex.fh b u e
 ·rcases zV e with⟨rfl,q,_⟩ | ⟨hj,e⟩
  ·cases q;exact⟨v,hs,hy⟩
  ·obtain⟨w,h1,_⟩:=r.ents j z e
   exact⟨w,h1,(oth e h1 hj).1⟩
 ·rcases zV e1 with⟨rfl,q1,_⟩ | ⟨hj,f1⟩<;>rcases zV e2 with⟨rfl,q2,_⟩ | ⟨hk,f2⟩
  ·exact hne rfl
  ·cases q1
   rw[hs] at s1;cases s1
   rw[(oth f2 s2 hk).2] at hc
   exact no hb f2 s2 hk hc
  ·cases q2
   rw[hs] at s2;cases s2
   rw[(oth f1 s1 hj).2] at hb
   exact no hc f1 s1 hj hb
  ·rw[(oth f1 s1 hj).2] at hb
   rw[(oth f2 s2 hk).2] at hc
   exact r.dj j k z w u t f1 f2 s1 s2 hne b hb hc
theorem vG {t:OT}{v:V}{k:Nat}{ds:List D}(ro:RepO K F H t v)(hn:(feetO H t v).Nodup)(hg:t.get [k]=some (.lst (lfs ds))) :
  ∃b vs c ws,v=.ref c/\(H c=some (.lst ws)∨H c=some (.tup ws))/\ws[k]?=some (.ref b)/\At K F H (feetO H t v) ds b vs:=by
 obtain⟨b,vs,g1,g2,g3⟩:=RepO.path ro hn hg
 cases t with
 |frz d=>simp[OT.get] at hg
 |lst cs=>
  obtain⟨c,ws,rfl,q,_⟩:=ro
  refine⟨b,vs,c,ws,rfl,.inl q,?_,g2⟩
  simp only[valAt,zD q] at g1
  cases q2:ws[k]? with
  |none=>rw[q2] at g1;cases g1
  |some v=>rw[q2] at g1;cases g1;rfl
 |tup cs=>
  obtain⟨c,ws,rfl,q,_⟩:=ro
  refine⟨b,vs,c,ws,rfl,.inr q,?_,g2⟩
  simp only[valAt,zN q] at g1
  cases q2:ws[k]? with
  |none=>rw[q2] at g1;cases g1
  |some v=>rw[q2] at g1;cases g1;rfl
theorem qP {K':PySem.W.Frag}{H:Hp}{c b:Addr}{ws:List V}{k:Nat}{Q:VK}(hcw:H c=some (.lst ws)∨H c=some (.tup ws))(hwk:ws[k]?=some (.ref b))(hQ:Q (.ref b) H):rIx K' (.ref c) (.int (k:Int)) H Q:=by
 rcases hcw with q | q
 ·exact .inl ⟨c,ws,(k:Int),.ref b,rfl,rfl,.of q,yr k hwk,hQ⟩
 ·exact .inr (.inl ⟨c,ws,(k:Int),.ref b,rfl,rfl,.of q,yr k hwk,hQ⟩)
theorem Rep.take (r:Rep K B F σ H ρ){i j:Nat}{t:OT}{c b:Addr}{vs:List V}{ds:List D}(hi:ρ[i]?=some (some (.tre t)))(hs:σ[i]?=some (some (.ref c)))(h:At K F H (feetO H t (.ref c)) ds b vs):Rep K B F (σ.set j (some (.ref b))) H ((ρ.set i none).set j (some (.acc ds))):=by
 obtain⟨v',hv',ro,rn,rf⟩:=r.ents i _ hi
 rw[hs] at hv';cases hv'
 refine (r.forget i).seto (x:=.acc ds) ⟨b,vs,rfl,h.hb,(rf b h.mem).1,(rf b h.mem).2,h.rp⟩ λk y w e1 e2 hk a ha=>?_
 have:a=b:=by simpa[feetE] using ha
 subst this
 obtain⟨hne,e1⟩:=vx e1
 exact r.dj i k _ y _ w hi e1 hs e2 (Ne.symm hne) a h.mem
theorem YW:∀ {ts:List OT}{vs:List V}{t:OT}{v:V},RepOs K F H ts vs->RepO K F H t v->RepOs K F H (ts++[t]) (vs++[v])
 | [],_,t,v,h,h2=>by cases h;exact⟨v,[],rfl,h2,rfl⟩
 |a::ts,_,t,v,⟨w,r,e,h1,h2⟩,h3=>by subst e;exact⟨w,r++[v],rfl,h1,YW h2 h3⟩
theorem Wx:∀ {ts:List OT}{vs:List V}{t:OT}{v:V},RepOs K F H ts vs->feetOs H (ts++[t]) (vs++[v])=feetOs H ts vs++feetO H t v
 | [],_,t,v,h=>by cases h;simp[feetOs]
 |a::ts,_,t,v,⟨w,r,e,h1,h2⟩=>by subst e;simp only[List.cons_append,feetOs,Wx h2,List.append_assoc]
theorem YV {b:Addr}{ds:List D}:feetO H (.lst (lfs ds)) (.ref b)=[b]:=by
 simp only[feetO]
 have:∀(ds:List D) (vs:List V),feetOs H (lfs ds) vs=[]:=by
  intro ds
  induction ds with
  |nil=>intro vs;rfl
  |cons d ds ih=>intro vs;cases vs with
   |nil=>rfl
   |cons v vs=>show feetO H (.frz d) v++feetOs H (lfs ds) vs=[];rw[ih];rfl
 rw[this]
end
theorem zah {K:KW}{F H:Hp}{t:OT}{c:Addr}{ws:List V}{b0 b1:Addr}{ns qs:List D}(ro:RepO K F H t (.ref c))(hn:(feetO H t (.ref c)).Nodup)(hcw:H c=some (.lst ws)∨H c=some (.tup ws))(g0:t.get [0]=some (.lst (lfs ns)))(g1:t.get [1]=some (.lst (lfs qs)))(h0:ws[0]?=some (.ref b0))(h1:ws[1]?=some (.ref b1)):b0≠b1:=by
 have key:∀(ts:List OT) (us:List V),RepOs K F H ts us->gets ts 0 []=some (.lst (lfs ns))->gets ts 1 []=some (.lst (lfs qs))->us[0]?=some (.ref b0)->us[1]?=some (.ref b1)->(feetOs H ts us).Nodup->b0≠b1:=by
  intro ts us r e0 e1 u0 u1 nd
  match ts,r,e0,e1,nd with
  | [],_,e0,_,_=>simp[gets] at e0
  | [_],_,_,e1,_=>simp[gets] at e1
  |a::b::ts,r,e0,e1,nd=>
   obtain⟨v,r',e,ra,v2,r'',e',rb,rr⟩:=r
   subst e e'
   have self:∀u:OT,u.get []=some u:=λu=>by cases u<;>simp[OT.get]
   have ea:a=.lst (lfs ns):=by
    have e:a.get []=some (.lst (lfs ns)):=by simpa only[gets] using e0
    rw[self] at e;exact Option.some.inj e
   have eb:b=.lst (lfs qs):=by
    have e:b.get []=some (.lst (lfs qs)):=by simpa only[gets] using e1
    rw[self] at e;exact Option.some.inj e
   subst ea eb
   simp at u0 u1
   subst u0 u1
   simp only[feetOs,YV] at nd
   intro z
   subst z
   simp at nd
 cases t with
 |frz d=>simp[OT.get] at g0
 |lst ts=>
  obtain⟨c',us,e,q,r⟩:=ro
  cases e
  have:us=ws:=by rcases hcw with z | z<;>rw[q] at z<;>cases z;rfl
  subst this
  simp only[feetO,zD q,List.nodup_cons] at hn
  simp only[OT.get] at g0 g1
  exact key ts us r g0 g1 h0 h1 hn.2
 |tup ts=>
  obtain⟨c',us,e,q,r⟩:=ro
  cases e
  have:us=ws:=by rcases hcw with z | z<;>rw[q] at z<;>cases z;rfl
  subst this
  simp only[feetO,zN q,List.nodup_cons] at hn
  simp only[OT.get] at g0 g1
  exact key ts us r g0 g1 h0 h1 hn.2
def sTk (i j k:Nat):SD:=λρ=>match ρ[i]? with
 |some (some (.tre t))=>((t.get [k]).bind OT.leaf).map λds=>.next ((ρ.set i none).set j (some (.acc ds)))
 |_=>none
theorem UR {i j k:Nat}{ρ:EnvD}{fl:Fl}(h:sTk i j k ρ=some fl):∃t ds,ρ[i]?=some (some (.tre t))/\t.get [k]=some (.lst (lfs ds))/\fl=.next ((ρ.set i none).set j (some (.acc ds))):=by
 unfold sTk at h
 split at h
 ·rename_i t hi
  cases q1:t.get [k] with
  |none=>rw[q1] at h;cases h
  |some u=>
   rw[q1] at h
   cases q2:OT.leaf u with
   |none=>rw[show (some u).bind OT.leaf=OT.leaf u from rfl,q2] at h;cases h
   |some ds=>
    rw[show (some u).bind OT.leaf=OT.leaf u from rfl,q2] at h
    cases h
    exact⟨t,ds,hi,by rw[q1,vO q2],rfl⟩
 ·cases h
section
variable {X:Cx}{B:Bs}{e ck ck0 ck1:Expr}{x y z:Str}{pos pos1 pos2 p p1 p2 p3 p4 p5 p6 p7 pos' apos cpos:Pos}{g:EnvD->Option D}
theorem Kl (i j k:Nat)(hN:X.N.Nodup)(hj:X.N[j]?=some y)(hy:Loc X.env.scope y)(hx:PE X (.Name x p) (tVar i))(hk:PE X ck (tC (.int (k:Int))))(hsx:yK ck)
  (hs:swapsWith (.Subscript (.Name x p) ck p2) (some (.Name y pos')) pos.line X.env=pure false:=by rfl) (hf:X.fn y=true∨X.env.scope.names.lookup y=some .local:=by first | exact .inl rfl | exact .inr rfl | assumption) :
  DS X B (.Assign [.Name y pos'] (.Subscript (.Name x p) ck p2) pos) (sTk i j k):=zC (wp hN hj hy (wN wl hx hk hsx) hs hf) λE σ H ⟨F,ρ,fl,r,hg,kk⟩=>by
 obtain⟨t,ds,hi,hgt,rfl⟩:=UR hg
 obtain⟨v,hv,ro,rn,rf⟩:=r.ents i _ hi
 obtain⟨b,vs,c,ws,rfl,hcw,hwk,hat⟩:=vG ro rn hgt
 exact⟨.ref c,hv,qP hcw hwk (kk _ F H (r.take hi hv hat) (Same.refl _))⟩
def sMv (i s j:Nat)(g:EnvD->Option D):SD:=λρ=>match ρ[i]?,ρ[s]? with
 |some (some (.tre (.lst ts))),some (some (.tre t))=>(g ρ).bind λd=>((t.get [0]).bind OT.leaf).bind λns=>((t.get [1]).bind OT.leaf).bind λqs=>if ts.length<=TOP then some (.next (((ρ.set s none).set j (some (.acc qs))).set i (some (.tre (.lst (ts++[.tup [.frz d,.lst (lfs ns)]])))))) else none
 |_,_=>none
theorem bind_some {α β:Type}{o:Option α}{f:α->Option β}{b:β}(h:o.bind f=some b):∃a,o=some a/\f a=some b:=by
 cases o with
 |none=>cases h
 |some a=>exact⟨a,rfl,h⟩
theorem Gn {i s j:Nat}{ρ:EnvD}{fl:Fl}(h:sMv i s j g ρ=some fl):∃ts t d ns qs,ρ[i]?=some (some (.tre (.lst ts)))/\ρ[s]?=some (some (.tre t))/\g ρ=some d/\t.get [0]=some (.lst (lfs ns))/\t.get [1]=some (.lst (lfs qs))/\ts.length<=TOP/\fl=.next (((ρ.set s none).set j (some (.acc qs))).set i (some (.tre (.lst (ts++[.tup [.frz d,.lst (lfs ns)]]))))):=by
 unfold sMv at h
 split at h
 ·rename_i ts t h1 h2
  obtain⟨d,e1,h⟩:=bind_some h
  obtain⟨ns,e2,h⟩:=bind_some h
  obtain⟨qs,e3,h⟩:=bind_some h
  obtain⟨u0,f0,g0⟩:=bind_some e2
  obtain⟨u1,f1,g1⟩:=bind_some e3
  split at h
  ·rename_i hl
   cases h
   exact⟨ts,t,d,ns,qs,h1,h2,e1,by rw[f0,vO g0],by rw[f1,vO g1],hl,rfl⟩
  ·cases h
 ·cases h
theorem Rf (i s j:Nat)(his:i≠s)(hij:i≠j)(hsj:s≠j)(hN:X.N.Nodup)(hj:X.N[j]?=some y)(hy:Loc X.env.scope y)(hi:PE X (.Name z p1) (tVar i))(hx:PE X (.Name x p2) (tVar s))(hx':PE X (.Name x p6) (tVar s))(he:DE X B e g)
  (hk0:PE X ck0 (tC (.int ((0:Nat):Int)))) (hs0:yK ck0) (hk1:PE X ck1 (tC (.int ((1:Nat):Int)))) (hs1:yK ck1) {x1:Nat}
  (hbase:attributeBase (.Name z p1) "append" X.env (eval (.Name z p1) X.env)=eval (.Name z p1) X.env:=by rfl)
  (hfew:((backTo cpos (starEach [.Tuple [e,.Subscript (.Name x p2) ck0 p3] x1 p4] X.env)).all (λx=>!x.1)&&(backToKw cpos (keywordEach [] X.env)).all (λx=>x.1.isSome)
   && decide (([.Tuple [e,.Subscript (.Name x p2) ck0 p3] x1 p4]:List Expr).length+([]:List Keyword).length+(if ([]:List Keyword).isEmpty then 0 else 1) < 30))=true:=by rfl)
  (hline:(apos.endLine==cpos.line)=true:=by rfl) (hse:starEach [.Tuple [e,.Subscript (.Name x p2) ck0 p3] x1 p4] X.env=(false,eval (.Tuple [e,.Subscript (.Name x p2) ck0 p3] x1 p4) X.env)::starEach [] X.env:=by rfl) (hplain:(backTo cpos (starEach [] X.env)).any (·.1)=false:=by rfl)
  (hse2:starEach [e,.Subscript (.Name x p2) ck0 p3] X.env=(false,eval e X.env)::starEach [.Subscript (.Name x p2) ck0 p3] X.env:=by rfl) (hse3:starEach [.Subscript (.Name x p2) ck0 p3] X.env=(false,eval (.Subscript (.Name x p2) ck0 p3) X.env)::starEach [] X.env:=by rfl)
  (hsw1:swapsWith (.Call (.Attribute (.Name z p1) "append" apos) [.Tuple [e,.Subscript (.Name x p2) ck0 p3] x1 p4] [] cpos) none pos1.line X.env=pure false:=by rfl)
  (hs:swapsWith (.Subscript (.Name x p6) ck1 p7) (some (.Name y pos')) pos2.line X.env=pure false:=by rfl) (hf:X.fn y=true∨X.env.scope.names.lookup y=some .local:=by first | exact .inl rfl | exact .inr rfl | assumption) :
  DSs X B [.Expr (.Call (.Attribute (.Name z p1) "append" apos) [.Tuple [e,.Subscript (.Name x p2) ck0 p3] x1 p4] [] cpos) pos1,.Assign [.Name y pos'] (.Subscript (.Name x p6) ck1 p7) pos2] (sMv i s j g) :=
 xD (xR (y4 (jb PySem.F.plainAttrs_list PySem.F.slot_list_append PySem.F.type_list_append kr hi (zJ (kh (zJ he (zJ (wN wl hx hk0 hs0) zS hse3) hse2)) zS hse) hbase hfew hline hse hplain) hsw1) (ji (wp hN hj hy (wN wl hx' hk1 hs1) hs hf))) λE σ H ⟨F,ρ,fl,r,hg,kk⟩=>by
  obtain⟨ts,t,d,ns,qs,qi,qs',qd,qn,qq,hl,rfl⟩:=Gn hg
  obtain⟨v0,hv0,⟨a,us,rfl,qa,ro⟩,rn,rf⟩:=r.ents i _ qi
  refine⟨.ref a,hv0,.inl ⟨rfl,_,.of qa⟩,F,ρ,d,r,qd,λv F1 H1 e1 pv=>?_⟩
  have r1:=r.ext e1
  obtain⟨v1,hv1,ro1,rn1,rf1⟩:=r1.ents s _ qs'
  obtain⟨b0,vs0,c,ws,rfl,hcw,hw0,at0⟩:=vG ro1 rn1 qn
  obtain⟨b1,vs1,c',ws',ec,hcw',hw1,at1⟩:=vG ro1 rn1 qq
  cases ec
  have ew:ws'=ws:=by
   rcases hcw with q | q<;>rcases hcw' with q' | q'<;>rw[q] at q'<;>cases q'<;>rfl
  rw[ew] at hw1
  have hb01:b0≠b1:=zah ro1 rn1 hcw qn qq hw0 hw1
  refine⟨.ref c,hv1,qP hcw hw0 ?_⟩
  have hz2:(2:Nat)<=sizeLine:=by rw[sizeLine_eq];omega
  refine⟨hz2,λp hp=>?_⟩
  have q1:H1 a=some (.lst us):=e1.hh _ _ qa
  have hap:a≠p:=zu q1 hp
  have q2:upd H1 p (.tup [v,.ref b0]) a=some (.lst us):=by rw[zg hap];exact q1
  have hlu:us.length=ts.length:=(RepOs.length ro).symm
  refine⟨a,us,.ref p,rfl,rfl,q2,by rw[hlu];exact Nat.lt_of_le_of_lt hl (by rw[sizeLine_eq];decide),?_⟩
  have e2:Ext F1 H1 F1 (upd H1 p (.tup [v,.ref b0])):=.new e1.fh hp
  have r2:=r1.ext e2
  obtain⟨v0',hv0',⟨a',us',ea,qa',ro2⟩,rn2,rf2⟩:=r2.ents i _ qi
  rw[hv0] at hv0';cases hv0';cases ea
  rw[q2] at qa';cases qa'
  obtain⟨v1',hv1',ro3,rn3,rf3⟩:=r2.ents s _ qs'
  rw[hv1] at hv1';cases hv1'
  have hcp:c≠p:=by rcases hcw with q | q<;>exact zu q hp
  obtain⟨b0',vs0',c2,ws2,ec,hcw2,hw0',at0'⟩:=vG ro3 rn3 qn
  cases ec
  have ew:ws2=ws:=by
   rcases hcw with q | q<;>rcases hcw2 with q' | q'<;>rw[zg hcp,q] at q'<;>cases q'<;>rfl
  rw[ew,hw0] at hw0';cases hw0'
  obtain⟨b1',vs1',c3,ws3,ec,hcw3,hw1',at1'⟩:=vG ro3 rn3 qq
  cases ec
  have ew:ws3=ws:=by
   rcases hcw with q | q<;>rcases hcw3 with q' | q'<;>rw[zg hcp,q] at q'<;>cases q'<;>rfl
  rw[ew,hw1] at hw1';cases hw1'
  have hca:c∈feetO (upd H1 p (.tup [v,.ref b0])) t (.ref c):=by
   cases t with
   |frz d=>simp[OT.get] at qn
   |lst _=>simp[feetO]
   |tup _=>simp[feetO]
  have haf:a∈feetO (upd H1 p (.tup [v,.ref b0])) (.lst ts) (.ref a):=by simp[feetO]
  have dis:∀b∈feetO (upd H1 p (.tup [v,.ref b0])) (.lst ts) (.ref a),b∉feetO (upd H1 p (.tup [v,.ref b0])) t (.ref c):=λb hb=>r2.dj i s _ _ _ _ qi qs' hv0 hv1 his b hb
  have hac:c≠a:=λz=>dis a haf (z ▸ hca)
  have hab0:a≠b0:=λz=>dis a haf (z ▸ at0'.mem)
  have hb0p:b0≠p:=zu at0.hb hp
  have hb1p:b1≠p:=zu at1.hb hp
  have hcw4:upd (upd H1 p (.tup [v,.ref b0])) a (.lst (us++[.ref p])) c=some (.lst ws)∨upd (upd H1 p (.tup [v,.ref b0])) a (.lst (us++[.ref p])) c=some (.tup ws):=by
   rw[zg hac,zg hcp];exact hcw
  refine⟨.ref c,hv1,qP hcw4 hw1 ?_⟩
  have r3:=r2.take (j:=j) qs' hv1 at1'
  have hi':((ρ.set s none).set j (some (.acc qs)))[i]?=some (some (.tre (.lst ts))):=by rw[List.getElem?_set_ne (Ne.symm hij),List.getElem?_set_ne (Ne.symm his)];exact qi
  have hs':(σ.set j (some (.ref b1)))[i]?=some (some (.ref a)):=by rw[List.getElem?_set_ne (Ne.symm hij)];exact hv0
  have rn2':=rn2
  simp only[feetO,zD q2,List.nodup_cons] at rn2'
  obtain⟨w1,w2⟩:=RepOs.other (o:=.lst (us++[.ref p])) ro2 rn2'.1
  obtain⟨v00,hv00,⟨a0,us0,ea0,qa0,ro0⟩,rn0,rf0⟩:=r1.ents i _ qi
  rw[hv0] at hv00;cases hv00;cases ea0
  rw[q1] at qa0;cases qa0
  have fe2:feetOs (upd H1 p (.tup [v,.ref b0])) ts us=feetOs H1 ts us:=(RepOs.ext (Same.refl F1) e2.hh ro0).2
  have hpf:p∉feetOs (upd H1 p (.tup [v,.ref b0])) ts us:=λz=>by rw[fe2] at z;exact RepOs.feet ro0 z hp
  have hb0f:b0∉feetOs (upd H1 p (.tup [v,.ref b0])) ts us:=λz=>dis b0 (by simp only[feetO,zD q2,List.mem_cons];exact .inr z) at0'.mem
  have q3:upd (upd H1 p (.tup [v,.ref b0])) a (.lst (us++[.ref p])) a=some (.lst (us++[.ref p])):=zk
  have q3p:upd (upd H1 p (.tup [v,.ref b0])) a (.lst (us++[.ref p])) p=some (.tup [v,.ref b0]):=by rw[zg (Ne.symm hap),zk]
  have q3b:upd (upd H1 p (.tup [v,.ref b0])) a (.lst (us++[.ref p])) b0=some (.lst vs0'):=by rw[zg (Ne.symm hab0)];exact at0'.hb
  have rT:RepO X.kw F1 (upd (upd H1 p (.tup [v,.ref b0])) a (.lst (us++[.ref p]))) (.tup [.frz d,.lst (lfs ns)]) (.ref p):=⟨p,[v,.ref b0],rfl,q3p,v,[.ref b0],rfl,pv,.ref b0,[],rfl,⟨b0,vs0',rfl,q3b,lfs_rep.mpr at0'.rp⟩,rfl⟩
  have fT:feetO (upd (upd H1 p (.tup [v,.ref b0])) a (.lst (us++[.ref p]))) (.tup [.frz d,.lst (lfs ns)]) (.ref p)=[p,b0]:=by
   have e1:feetO (upd (upd H1 p (.tup [v,.ref b0])) a (.lst (us++[.ref p]))) (.lst (lfs ns)) (.ref b0)=[b0]:=YV
   simp only[feetO,zN q3p,feetOs] at e1 ⊢
   simp[e1]
  have hfe:feetO (upd (upd H1 p (.tup [v,.ref b0])) a (.lst (us++[.ref p]))) (.lst (ts++[.tup [.frz d,.lst (lfs ns)]])) (.ref a)=a::(feetOs (upd H1 p (.tup [v,.ref b0])) ts us++[p,b0]):=by
   have e1:=Wx (t:=.tup [.frz d,.lst (lfs ns)]) (v:=.ref p) w1
   rw[fT,w2] at e1
   simp only[feetO,zD q3,e1]
  have hE:RepE X.kw B F1 (upd (upd H1 p (.tup [v,.ref b0])) a (.lst (us++[.ref p]))) (.tre (.lst (ts++[.tup [.frz d,.lst (lfs ns)]]))) (.ref a):=by
   refine⟨⟨a,us++[.ref p],rfl,q3,YW w1 rT⟩,?_,λb hb=>?_⟩
   ·rw[hfe,List.nodup_cons]
    refine⟨λz=>?_,?_⟩
    ·rcases List.mem_append.mp z with z | z
     ·exact rn2'.1 z
     ·simp only[List.mem_cons,List.not_mem_nil,or_false] at z
      rcases z with z | z
      ·exact hap z
      ·exact hab0 z
    ·rw[List.nodup_append]
     refine⟨rn2'.2,by simp[Ne.symm hb0p],λy hy w hw z=>?_⟩
     subst z
     simp only[List.mem_cons,List.not_mem_nil,or_false] at hw
     rcases hw with rfl | rfl
     ·exact hpf hy
     ·exact hb0f hy
   ·rw[hfe] at hb
    rcases List.mem_cons.mp hb with rfl | hb
    ·exact rf2 _ haf
    ·rcases List.mem_append.mp hb with hb | hb
     ·exact rf2 b (by simp only[feetO,zD q2,List.mem_cons];exact .inr hb)
     ·simp only[List.mem_cons,List.not_mem_nil,or_false] at hb
      rcases hb with rfl | rfl
      ·exact⟨e1.fh.free hp,r1.ex.hh.free hp⟩
      ·exact rf3 _ at0'.mem
  refine kk _ F1 _ (r3.writeH hi' hs' haf hE λb hb=>?_) e1.ff
  have hb:b∈feetO (upd (upd H1 p (.tup [v,.ref b0])) a (.lst (us++[.ref p]))) (.lst (ts++[.tup [.frz d,.lst (lfs ns)]])) (.ref a):=hb
  rw[hfe] at hb
  rcases List.mem_cons.mp hb with rfl | hb
  ·exact .inl haf
  ·rcases List.mem_append.mp hb with hb | hb
   ·exact .inl (by show b∈feetO _ _ _;simp only[feetO,zD q2,List.mem_cons];exact .inr hb)
   ·refine .inr λk z w ek ew hk hz=>?_
    simp only[List.mem_cons,List.not_mem_nil,or_false] at hb
    rcases zV ek with⟨rfl,qk,_⟩ | ⟨hkj,ek⟩
    ·cases qk
     rw[List.getElem?_set_self (by rw[r.len];exact (by have:=(List.getElem?_eq_some_iff.mp ek).1;simpa using this))] at ew
     cases ew
     have:b=b1:=by simpa[feetE] using hz
     rcases hb with rfl | rfl
     ·exact hb1p this.symm
     ·exact hb01 this
    ·obtain⟨hks,ek⟩:=vx ek
     rw[List.getElem?_set_ne (Ne.symm hkj)] at ew
     rcases hb with rfl | rfl
     ·obtain⟨w',hw',rz⟩:=r1.ents k z ek
      rw[ew] at hw';cases hw'
      rw[rz.feet_ext e2.hh] at hz
      exact (rz.feet_at hz).1 hp
     ·exact r2.dj s k _ z _ w qs' ek hv1 ew (Ne.symm hks) b at0'.mem hz
end
section
variable {X:Cx}{B:Bs}{e:Expr}{es:List Expr}{pos p:Pos}{gxs:EnvD->Option (List En)}{x:Str}{k n:Nat}{m:List En->Option En}
theorem JT (h:FxN X.prog X.w X.kw X.mg X.base x k (n+1) m)(hr:Room k X.A)(hg:Gl X x)(ha:DNs X B (e::es) gxs)(hdb:(x==("__debug__" : Str))=false:=by decide +kernel)
  (he:starEach (e::es) X.env=(false,eval e X.env)::starEach es X.env:=by rfl) (hpl:(backTo pos (starEach es X.env)).any (·.1)=false:=by rfl):DTr X B (.Call (.Name x p) (e::es) [] pos) (gCall (len? n (mN m)) treO gxs):=by
 obtain⟨f,fd,ps,F,hm,hk,hb⟩:=h.ex
 refine pe_imp (yX F hr hg hm hk hb (dvs:=[.non]) (.cons rfl .nil) pass0 ha hdb he hpl) λσ H Q ⟨F,ρ,d,r,hg,k⟩=>?_
 obtain⟨xs,o,q1,q2,q3⟩:=bindC hg
 refine⟨F,ρ,xs,r,q1,λvs F1 H1 e1 p1=>?_⟩
 have hl:xs.length=n:=x6 xs o q2
 have hm:m (xs++[.val .non])=some o:=by
  unfold len? at q2
  rw[if_pos hl] at q2
  exact q2
 refine⟨F1,xs++[.val .non],o,e1.fh,by simp[hl],V2 p1,by unfold len?;rw[if_pos (by simp[hl])];exact hm,λv F2 H2 e2 p2=>?_⟩
 cases o with
 |tre t=>
  cases q3
  obtain⟨h1,h2,h3⟩:=p2
  exact k v F2 H2 (e1.trans e2) ⟨h1,h2,λa ha=>⟨e1.hh.free (h3 a ha).2,(h3 a ha).1⟩⟩
 |_=>cases q3
end
def gSlI (g:EnvD->Option D)(gl gh:EnvD->Option (Option Int)):EnvD->Option (List D):=λρ=>(g ρ).bind λd=>(gl ρ).bind λl=>(gh ρ).bind λh=>match d with
 |.scr ns=>some ((cutD ns l h).map D.int)
 |_=>none
section
variable {X:Cx}{B:Bs}{e:Expr}{pos:Pos}{g:EnvD->Option D}
theorem Qd {lo hi:Option Expr}{gl gh:EnvD->Option (Option Int)}{p2:Pos}(he:DR X B e g)(hl:DO X B lo gl)(hh:DO X B hi gh):DA X B (.Subscript e (.Slice lo hi none p2) pos) (gSlI g gl gh) :=
 pe_imp (qT ZQ he hl hh) λσ H Q ⟨F,ρ,d,r,hg,k⟩=>by
  unfold gSlI at hg
  cases q:g ρ with
  |none=>rw[q] at hg;cases hg
  |some x=>
   cases ql:gl ρ with
   |none=>rw[q,ql] at hg;cases hg
   |some l=>
    cases qh:gh ρ with
    |none=>rw[q,ql,qh] at hg;cases hg
    |some h=>
     rw[q,ql,qh] at hg
     cases x with
     |scr ns=>
      cases hg
      refine⟨F,ρ,_,r,q,λv F1 H1 e1 p1=>⟨F1,ρ,l,r.ext e1,ql,λF2 H2 e2=>⟨F2,ρ,h,r.ext (e1.trans e2),qh,λF3 H3 e3=>?_⟩⟩⟩
      have e:=e1.trans (e2.trans e3)
      obtain⟨a,vs,rfl,h2,sq⟩:=vg ((p1.mono e2.ff e2.hh).mono e3.ff e3.hh) (ds:=ns.map D.int) rfl
      refine⟨a,vs,rfl,sq F3 H3 (Same.refl _) e3.fh (Same.refl _),λp hp=>k _ F3 _ (e.trans (.new e.fh hp)) ⟨p,_,rfl,e.hh.free hp,zk,e.fh.free hp,?_⟩⟩
      rw[<-Zh]
      unfold Dv.cutD cutV
      rw[<-h2.length]
      exact (h2.drop _).take _
     |_=>cases hg
end
@[simp]theorem zbb {g:EnvD->Option D}{gl gh:EnvD->Option (Option Int)}{ρ:EnvD}:gSlI g gl gh ρ=(g ρ).bind λd=>(gl ρ).bind λl=>(gh ρ).bind λh=>match d with
 |.scr ns=>some ((cutD ns l h).map D.int)
 |_=>none:=rfl
def sRetVT (j:Nat):SD:=λρ=>match ρ[j]? with
 |some (some (.tre t))=>some (.ret (.tre t))
 |_=>none
theorem Kd {X:Cx}{B:Bs}{x:Str}{p pos:Pos}(j:Nat)(h:PE X (.Name x p) (tVar j)):DS X B (.Return (some (.Name x p)) pos) (sRetVT j):=zC (xF h) λE σ H ⟨F,ρ,fl,r,hg,k⟩=>by
 unfold sRetVT at hg
 split at hg
 ·rename_i ds q
  cases hg
  obtain⟨v,h1,h2⟩:=r.ents j _ q
  exact⟨v,h1,k v F H r.ex h2⟩
 ·cases hg
@[simp]theorem zdg {j:Nat}{ρ:EnvD}:sRetVT j ρ=match ρ[j]? with | some (some (.tre t))=>some (.ret (.tre t)) | _=>none:=rfl
@[simp]theorem zau {i j k:Nat}{ρ:EnvD}:sTk i j k ρ=match ρ[i]? with | some (some (.tre t))=>((t.get [k]).bind OT.leaf).map λds=>.next ((ρ.set i none).set j (some (.acc ds))) | _=>none:=rfl
@[simp]theorem zei {i s j:Nat}{g:EnvD->Option D}{ρ:EnvD}:sMv i s j g ρ=match ρ[i]?,ρ[s]? with
 |some (some (.tre (.lst ts))),some (some (.tre t))=>(g ρ).bind λd=>((t.get [0]).bind OT.leaf).bind λns=>((t.get [1]).bind OT.leaf).bind λqs=>if ts.length<=TOP then some (.next (((ρ.set s none).set j (some (.acc qs))).set i (some (.tre (.lst (ts++[.tup [.frz d,.lst (lfs ns)]])))))) else none
 |_,_=>none:=rfl
theorem kl {H:Hp}{t:OT}{v:V}:∀ {ts:List OT}{vs:List V},ts.length=vs.length->feetOs H (ts++[t]) (vs++[v])=feetOs H ts vs++feetO H t v
 | [],[],_=>by simp[feetOs]
 |_::_,_::_,h=>by
  simp only[List.cons_append,feetOs]
  rw[kl (by simpa using h),List.append_assoc]
theorem RepOs.snoc {K:KW}{F H:Hp}{t:OT}{v:V}(h:RepO K F H t v):∀ {ts:List OT}{vs:List V},RepOs K F H ts vs->RepOs K F H (ts++[t]) (vs++[v])
 | [],vs,r=>by have r:vs=[]:=r;subst r;exact⟨v,[],rfl,h,rfl⟩
 |_::_,_,⟨w,r,e,h1,h2⟩=>by subst e;exact⟨w,r++[v],rfl,h1,RepOs.snoc h h2⟩
theorem RepOs.at {K:KW}{F H:Hp}:∀ {ts:List OT}{vs:List V}{i:Nat}{v:V},RepOs K F H ts vs->vs[i]?=some v->∃t,ts[i]?=some t/\RepO K F H t v/\∀a∈feetO H t v,a∈feetOs H ts vs
 | [],vs,i,v,r,e=>by have r:vs=[]:=r;subst r;simp at e
 |t::ts,_,0,v,⟨w,r,e,h1,h2⟩,q=>by subst e;simp at q;subst q;exact⟨t,rfl,h1,λa ha=>by simp[feetOs,ha]⟩
 |t::ts,_,i+1,v,⟨w,r,e,h1,h2⟩,q=>by
  subst e
  obtain⟨u,e1,e2,e3⟩:=RepOs.at h2 (by simpa using q)
  exact⟨u,by simpa using e1,e2,λa ha=>by simp[feetOs,e3 a ha]⟩
def filtO (tc:EnvD->Option Bool)(ρ0:EnvD):List OT->Option (List OT)
 | []=>some []
 |t::ts=>(tc (ρ0.set 0 (some (.val t.erase)))).bind λb=>(filtO tc ρ0 ts).map λr=>if b then t::r else r
def gFilt (own:List Str)(cap:List (Str×Nat))(tc:EnvD->Option Bool)(gi:EnvD->Option OT):EnvD->Option OT:=λρ=>match gi ρ with
 |some (.lst ts)=>if ts.length<=TOP then (filtO tc (List.replicate own.length none++capE ρ cap) ts).map OT.lst else none
 |_=>none
section
variable {X:Cx}{B:Bs}{tg iter elt:Expr}{ifs:List Expr}{pos:Pos}{gi:EnvD->Option OT}
theorem VT {scope:Scope}{own:List Str}{cap:List (Str×Nat)}{tc:EnvD->Option Bool}(hc:X.calm=true)(S:CompScope X scope own cap)(hi:DTr X B iter gi)(h0:0 < own.length)
  (hin:∀(B':Bs) C s₀ H₀ fp pn,PG (cxc X scope C (own++cap.map (·.1)) s₀ H₀ fp pn) tg (gName 0)/\DIfs (cxc X scope C (own++cap.map (·.1)) s₀ H₀ fp pn) B' ifs tc/\PE (cxc X scope C (own++cap.map (·.1)) s₀ H₀ fp pn) elt (tVar 0))
  (hs:∀x,foldedSetIterable iter X.env x=pure x:=by intro _;rfl) :
  DTr X B (.ListComp elt [⟨tg,iter,ifs,0⟩] scope pos) (gFilt own cap tc gi):=by
 refine pe_imp (Wu (tc:=λσ H Q=>∃B',lT X.kw B' tc σ H Q) (te:=tVar 0) (g:=gName 0) hc S (V7 hi) (λC s₀ H₀ fp pn=>⟨(hin ⟨H₀,H₀⟩ C s₀ H₀ fp pn).1,λpins s σ H Q I ⟨B',q⟩=>(hin B' C s₀ H₀ fp pn).2.1 pins s σ H Q I q,(hin ⟨H₀,H₀⟩ C s₀ H₀ fp pn).2.2⟩) hs) ?_
 intro σ H Q ⟨F,ρ,out,r,hg,k⟩
 unfold gFilt at hg
 split at hg
 ·rename_i ts q
  split at hg
  ·rename_i htop
   cases q9:filtO tc (List.replicate own.length none++capE ρ cap) ts with
   |none=>rw[q9] at hg;cases hg
   |some outs=>
   rw[q9] at hg
   cases hg
   refine⟨F,ρ,.lst ts,r,q,λv F1 H1 e1 p1=>?_⟩
   obtain⟨⟨a,vs,rfl,ha,rts⟩,nd,fresh⟩:=p1
   have hfe:feetO H1 (.lst ts) (.ref a)=a::feetOs H1 ts vs:=by simp only[feetO,zD ha]
   rw[hfe] at nd fresh
   have lv:ts.length=vs.length:=rts.length
   have sf:Same F1 (addF F1 H1 (a::feetOs H1 ts vs)):=xZ λb hb=>(fresh b hb).2
   have eF:Ext F H (addF F1 H1 (a::feetOs H1 ts vs)) H1:=by
    refine⟨e1.ff.trans sf,e1.hh,λb u z=>?_,λb z=>?_⟩
    ·unfold addF at z
     split at z
     ·exact z
     ·exact e1.fh b u z
    ·unfold addF at z
     split at z
     ·rename_i hb;exact .inr (fresh b hb).1
     ·exact e1.nw b z
   refine⟨a,rfl,⟨vs,.of ha⟩,λi m ys H2=>m=ts.length - i/\i<=ts.length/\Same H1 H2/\∃o1 o2,RepOs X.kw F1 H1 o1 ys/\(feetOs H1 o1 ys).Sublist (feetOs H1 (ts.take i) (vs.take i))/\o1.length<=i/\filtO tc (List.replicate own.length none++capE ρ cap) (ts.drop i)=some o2/\outs=o1++o2,
    ⟨ts.length,rfl,Nat.zero_le _,Same.refl _,[],outs,rfl,List.Sublist.refl _,Nat.le_refl _,q9,rfl⟩,?_⟩
   rintro i m ys H2 ⟨rfl,hi,s2,o1,o2,ry,fy,hl1,h2,rfl⟩
   refine⟨ym (by rw[<-ry.length];omega),?_⟩
   have ha2:H2 a=some (.lst vs):=s2 _ _ ha
   by_cases hlt:i < ts.length
   ·have hiv:i < vs.length:=by rw[<-lv];exact hlt
    have hv:vs[i]?=some vs[i]:=List.getElem?_eq_getElem hiv
    obtain⟨t,et,rt,ft⟩:=rts.at hv
    have hdd:ts.drop i=t::ts.drop (i+1):=by
     rw[List.drop_eq_getElem_cons hlt]
     rw[List.getElem?_eq_getElem hlt] at et
     rw[Option.some.inj et]
    rw[hdd] at h2
    have tk:feetOs H1 (ts.take (i+1)) (vs.take (i+1))=feetOs H1 (ts.take i) (vs.take i)++feetO H1 t vs[i]:=by
     have e1':ts.take (i+1)=ts.take i++[t]:=by rw[List.take_add_one,et];rfl
     have e2':vs.take (i+1)=vs.take i++[vs[i]]:=by rw[List.take_add_one,hv];rfl
     rw[e1',e2',kl (by simp[List.length_take,lv])]
    refine .inr ⟨⟨vs,_,.of ha2,hv⟩,λys' H'=>Same H1 H'/\∃p1 p2,RepOs X.kw F1 H1 p1 ys'/\(feetOs H1 p1 ys').Sublist (feetOs H1 (ts.take (i+1)) (vs.take (i+1)))/\p1.length<=i+1/\filtO tc (List.replicate own.length none++capE ρ cap) (ts.drop (i+1))=some p2/\o1++o2=p1++p2,
     λys' H' ⟨z1,p1,p2,z2,z3,z4,z5,z6⟩=>⟨ts.length - (i+1),by omega,rfl,hlt,z1,p1,p2,z2,z3,z4,z5,z6⟩,λx H3 hy σ1 hσ=>?_⟩
    obtain⟨rfl,hy⟩:=hy
    have hx:=hy vs (.of ha2)
    rw[hv] at hx
    cases hx
    have h2:((tc ((List.replicate own.length none++capE ρ cap).set 0 (some (.val t.erase)))).bind λb=>(filtO tc (List.replicate own.length none++capE ρ cap) (ts.drop (i+1))).map λr=>if b then t::r else r)=some o2:=h2
    have e2:Ext (addF F1 H1 (a::feetOs H1 ts vs)) H1 (addF F1 H1 (a::feetOs H1 ts vs)) H3:=⟨Same.refl _,s2,eF.fh.trans s2,λ_ z=>.inl z⟩
    have rc:=kx (own:=own) (cap:=cap) r eF e2 hσ
    have rx:Rp X.kw (addF F1 H1 (a::feetOs H1 ts vs)) t.erase vs[i]:=RepO.fz sf rt λb hb=>.tail _ (ft b hb)
    have r4:=rc.setv (i:=0) rx
    have pre:(σ1++cap.map λp=>(σ[p.2]?).getD none).set 0 (some vs[i])=σ1.set 0 (some vs[i])++cap.map λp=>(σ[p.2]?).getD none:=by
     rw[List.set_append_left _ _ (by rw[hσ];exact h0)]
    refine⟨⟨σ1.set 0 (some vs[i]),by simpa using hσ,pre⟩,?_⟩
    cases q2:tc ((List.replicate own.length none++capE ρ cap).set 0 (some (.val t.erase))) with
    |none=>rw[q2] at h2;cases h2
    |some bb=>
     rw[q2] at h2
     refine⟨⟨addF F1 H1 (a::feetOs H1 ts vs),H1⟩,_,_,bb,r4,q2,λF5 H5 e5=>?_⟩
     have h2:((filtO tc (List.replicate own.length none++capE ρ cap) (ts.drop (i+1))).map λr=>if bb then t::r else r)=some o2:=h2
     cases q4:filtO tc (List.replicate own.length none++capE ρ cap) (ts.drop (i+1)) with
     |none=>rw[q4] at h2;cases h2
     |some p2=>
      rw[q4] at h2
      cases bb with
      |false=>
       cases h2
       refine iteF ⟨s2.trans e5.hh,o1,p2,ry,?_,by omega,rfl,rfl⟩
       rw[tk];exact fy.trans (List.sublist_append_left _ _)
      |true=>
       cases h2
       refine iteT ⟨vs[i],?_,s2.trans e5.hh,o1++[t],p2,ry.snoc rt,?_,by simp;omega,rfl,by simp⟩
       ·exact List.getElem?_set_self (by rw[List.length_append,hσ];omega)
       ·rw[tk,kl ry.length]
        exact List.Sublist.append fy (List.Sublist.refl _)
   ·have hi':i=ts.length:=by omega
    have hdd:ts.drop i=[]:=by rw[hi',List.drop_length]
    rw[hdd] at h2
    cases h2
    refine .inl ⟨⟨vs,.of ha2,by rw[hi',lv];exact Nat.le_refl _⟩,λD hD=>?_⟩
    have e2:Ext F1 H1 F1 H2:=⟨Same.refl _,s2,e1.fh.trans s2,λ_ z=>.inl z⟩
    have fy2:(feetOs H1 o1 ys).Sublist (feetOs H1 ts vs):=by
     have:ts.take i=ts:=by rw[hi',List.take_length]
     have:vs.take i=vs:=by rw[hi',lv,List.take_length]
     simp_all
    have sD:Same H1 (upd H2 D (.lst ys)):=s2.trans (yc hD)
    obtain⟨x1,x2⟩:=RepOs.ext (Same.refl F1) sD ry
    have hfD:feetO (upd H2 D (.lst ys)) (.lst o1) (.ref D)=D::feetOs H1 o1 ys:=by
     simp only[feetO,zD (zk (H:=H2) (a:=D) (o:=.lst ys)),x2]
    rw[List.append_nil] at *
    refine k _ F1 _ ((e1.trans e2).trans (.new e2.fh hD)) ⟨⟨D,ys,rfl,zk,x1⟩,?_,?_⟩
    ·rw[hfD]
     refine List.nodup_cons.mpr ⟨λz=>?_,(List.nodup_cons.mp nd).2.sublist fy2⟩
     have:=RepOs.feet ry z
     exact this (s2.free hD)
    ·rw[hfD]
     intro b hb
     rcases List.mem_cons.mp hb with rfl | hb
     ·exact⟨e1.hh.free (s2.free hD),e1.fh.free (s2.free hD)⟩
     ·exact fresh b (.tail _ (fy2.subset hb))
  ·cases hg
 ·cases hg
end
section
variable {X:Cx}{B:Bs}{o:Expr}{apos cpos pos p:Pos}{x:Str}{td:TE}
def sClrT (i:Nat):SD:=λρ=>match ρ[i]? with
 |some (some (.tre (.lst _)))=>some (.next (ρ.set i (some (.tre (.lst [])))))
 |_=>none
theorem Jc (i:Nat)(hx:PE X (.Name x p) (tVar i))
  (hbase:attributeBase (.Name x p) "clear" X.env (eval (.Name x p) X.env)=eval (.Name x p) X.env:=by rfl) (hline:(apos.endLine==cpos.line)=true:=by rfl)
  (hsw:swapsWith (.Call (.Attribute (.Name x p) "clear" apos) [] [] cpos) none pos.line X.env=pure false:=by rfl) :
  DS X B (.Expr (.Call (.Attribute (.Name x p) "clear" apos) [] [] cpos) pos) (sClrT i) :=
 zC (y4 (qI PySem.F.plainAttrs_list PySem.F.slot_list_clear PySem.F.type_list_clear Wz hx hbase hline) hsw) λE σ H ⟨F,ρ,fl,r,hg,k⟩=>by
  unfold sClrT at hg
  split at hg
  ·rename_i ts q
   cases hg
   obtain⟨v,hv,⟨a,vs,rfl,h1,h2⟩,nd,fr⟩:=r.ents i _ q
   refine⟨.ref a,hv,.inl ⟨rfl,_,.of h1⟩,a,vs,rfl,rfl,h1,?_⟩
   have hf:feetO H (.lst ts) (.ref a)=a::feetOs H ts vs:=by simp only[feetO,zD h1]
   have hf2:feetO (upd H a (.lst [])) (.lst []) (.ref a)=[a]:=by simp[feetO,feetOs]
   have ha:a∈feetE H (.tre (.lst ts)) (.ref a):=by show a∈feetO H (.lst ts) (.ref a);rw[hf];exact .head _
   refine k σ F _ (r.writeG q hv ha ⟨⟨a,[],rfl,zk,rfl⟩,by rw[hf2];simp,λb hb=>?_⟩ λb hb=>?_) (Same.refl _)
   ·rw[hf2] at hb
    have:b=a:=by simpa using hb
    subst this
    exact fr b ha
   ·have hb:b∈feetO (upd H a (.lst [])) (.lst []) (.ref a):=hb
    rw[hf2] at hb
    have:b=a:=by simpa using hb
    subst this
    exact ha
  ·cases hg
def tXClr (w:World)(td:TE):TE:=λσ H Q=>td σ H λx H1=>∃a ob kvs,x=.ref a/\H1 a=some (DX w a ob kvs)/\∀ob',Q .non (upd H1 a (DX w a ob' []))
theorem Uj (ho:PE X o td)(m:M0 X o "clear" apos cpos):PE X (.Call (.Attribute o "clear" apos) [] [] cpos) (tXClr X.w td):=by
 intro pins s σ H Q I h
 refine wpAny_Call_method (T := "dict") (id := "dict.clear") m.base rfl m.line PySem.F.plainAttrs_dict PySem.F.slot_dict_clear PySem.F.type_dict_clear (thn (ho pins s σ H _ I h) λu s1 ⟨x,H1,I1,rx,a,ob,kvs,ex,d,q1⟩=>?_)
 subst ex
 obtain rfl:u=Value.ref a:=rx
 obtain⟨_,z,hd,vs,rel,_,dd⟩:=yC I1 d
 have hz:vs.length<=sizeLine:=by rw[<-rel.length];exact z
 refine⟨Wh I1 d,VY I1 d,?_⟩
 refine method_meetsIn PySem.F.slot_dict_clear PySem.F.entry_dict_clear rfl (PySem.evalArgs_none ⟨rfl,dd.typeIs,PySem.F.args_dict_clear_1 _,_,meets_dict_clear (zR X.prog X.w) a,⟨vs,dd,hz,λh' dd' hs=>?_⟩⟩)
 have he:∃q,h'.get? a=some q:=let ⟨q,_,_,hq,_⟩:=dd';⟨q,hq⟩
 obtain⟨o',ho',new⟩:=kY (P:=X.prog) (w:=X.w) (a:=a) (kvs:=[]) (Nat.zero_le _) hd .nil dd'
 exact⟨.non,_,Yn I1 (by rw[d];exact True.intro) hs he (new _),rfl,q1 o'⟩
def sClrD (i:Nat):SD:=λρ=>match ρ[i]? with
 |some (some (.dct oa _))=>some (.next (ρ.set i (some (.dct oa []))))
 |_=>none
theorem Uy (i:Nat)(hx:PE X (.Name x p) (tVar i))(m:M0 X (.Name x p) "clear" apos cpos)
  (hsw:swapsWith (.Call (.Attribute (.Name x p) "clear" apos) [] [] cpos) none pos.line X.env=pure false:=by rfl) :
  DS X B (.Expr (.Call (.Attribute (.Name x p) "clear" apos) [] [] cpos) pos) (sClrD i) :=
 zC (y4 (Uj hx m) hsw) λE σ H ⟨F,ρ,fl,r,hg,k⟩=>by
  unfold sClrD at hg
  split at hg
  ·rename_i oa kvs q
   cases hg
   obtain⟨v,hv,a,ob,vs,rfl,h1,h2,h3,h4,h5⟩:=r.ents i _ q
   refine⟨.ref a,hv,a,ob,vs,rfl,h1,λob'=>?_⟩
   exact k σ F _ (r.write q rfl hv h2 h3 ⟨a,ob',[],rfl,zk,h2,h3,.nil,h5⟩ rfl) (Same.refl _)
  ·cases hg
end
end Dv
namespace L6
open PySem PySem.Spec L2 L3 L4
open PyProof.Rows hiding St
def tupO (vs:List Value):Obj:={ cls:=.type "tuple",data:=.seq vs.toArray }
def excO (C t:Addr):Obj:={ cls:=.ref C,data:=.fields #[.ref t,.none,.none,.none,.bool false,.none] }
def made (H:Heap)(C:Addr)(vs:List Value):Heap:=(H.push (tupO vs)).push (excO C H.objs.size)
section
variable {H:Heap}{C M:Addr}{vs:List Value}
theorem wY {a:Addr}{o:Obj}(q:H.get? a=some o):(made H C vs).get? a=some o:=Heap.get?_push_of_some _ (Heap.get?_push_of_some _ q)
theorem Wo:(made H C vs).get? (H.objs.size+1)=some { cls:=.ref C,data:=.fields #[.ref H.objs.size,.none,.none,.none,.bool false,.none] }:=by unfold made excO tupO;heap_get
theorem Rv {m:Str->Option Value}(q:H.Ns M m):(made H C vs).Ns M m:=by
 obtain⟨o,x,y,z,r⟩:=q
 exact⟨o,x,y,wY z,r⟩
theorem QS:Heap.MadeExcOf H (made H C vs) (H.objs.size+1) (.ref C) vs :=
 ⟨λ_ _ q=>wY q,Heap.get?_none_of_le (Nat.le_succ _),H.objs.size,Wo,Heap.get?_none_of_le (Nat.le_refl _),Heap.get?_push_of_some _ (Heap.get?_push_at rfl rfl)⟩
end
section
variable {P:Program}{w:World}{A:Around}{E:Value->Shared->Prop}{H:Heap}{g:Array GenState}{dr:Drawn}{t:Nat}{os:OsState}{C N fI:Addr}{oI:Obj}{vs:List Value}{mN:Str->Option Value}
variable {nm q:Str}{bs bm bb:List Value}{hd:Bool}{sn:List Str}{sb:List Value}{ab:Bool}{col:Option Bool}{dl:Option Addr}{k0 k1 k2 k3 k5:Option Value}{b0 nid iid:String}
theorem Qf (F:ExcBaseFacts b0 nid iid bb)(T:OwnTail H bb bm){Q:Fin->Shared->Prop}(c:H.get? C=some (excClassObj nm q C N bs bm hd sn sb ab col dl k0 k1 k2 k3 k5 nid))(n:H.Ns N mN)(i:mN "__init__" = some (.ref fI)) (a:H.get? fI=some oI) (ac:oI.cls=.type "function")
  (k:∀h' e,H.objs.size<=e->Heap.MadeExcOf H h' e (.ref C) vs->wpAny (model P w) A (call (.ref fI) (.ref e::vs)) (λr s=>r=.none/\Q (.done (.ret (.ref e))) s) E ⟨h',g,dr,t,os⟩) (few:vs.length<=sizeLine) :
  wpAny (model P w) A (Builtin.«type.__call__» ⟨.ref C::vs,[]⟩) Q E ⟨H,g,dr,t,os⟩:=by
 have me:(Value.ref C::bm).contains (.ref C)=true:=List.contains_iff_mem.mpr (.head _)
 have c':=wY (C:=C) (vs:=vs) c
 have T':=T.keeps (h':=made H C vs) λ_ _ z=>wY z
 repeat
  first
   |with_reducible refine wpAny_loadPart_at c ?_
   |with_reducible refine wpAny_madeBy_exc c ?_
   |wp_step
 apply codeAny_call_builtin_code (Code.quiet_builtin _ F.quiet)
 apply wpAny_check_new_subT F T c
 refine codeAny_exc_new_subT F T c ?_ few
 show wpAny (model P w) A _ _ _ ⟨made H C vs,g,dr,t,os⟩
 unfold isInstance
 repeat
  first
   |with_reducible refine wpAny_loadPart_at Wo ?_
   | (with_reducible refine wpAny_isSubtype_exc c' ?_;rw[me])
   |wp_step
 show wpAny (model P w) A (typeLookup (.ref C) "__init__") _ _ _
 apply wpAny_typeLookup_tail c' (Rv n) T' F.mroIs F.init.lookup
 rw[i]
 apply wpAny_holding
 apply wpAny_bind
 unfold bindSpecial
 refine wpAny_bind (wpAny_typeOf (T := "function") ⟨oI,wY a,ac⟩ ?_)
 rw[if_pos (by decide)]
 refine wpAny_pure (wpAny_bind (wpAny_mono (k _ _ (Nat.le_succ _) QS) (λr s z=>?_) λ_ _ z=>z))
 obtain⟨rfl,z⟩:=z
 wp_walk
 exact z
theorem Ul (F:ExcBaseFacts b0 nid iid bb)(T:OwnTail H bb bm){Q:Value->Shared->Prop}(c:H.get? C=some (excClassObj nm q C N bs bm hd sn sb ab col dl k0 k1 k2 k3 k5 nid))(n:H.Ns N mN)(i:mN "__init__" = some (.ref fI)) (a:H.get? fI=some oI) (ac:oI.cls=.type "function")
  (k:∀h' e,H.objs.size<=e->Heap.MadeExcOf H h' e (.ref C) vs->wpAny (model P w) (A.under (.builtin "type.__call__" ⟨.ref C::vs,[]⟩)) (call (.ref fI) (.ref e::vs)) (λr s=>r=.none/\Q (.ref e) s) E ⟨h',g,dr,t,os⟩) (few:vs.length<=sizeLine) :
  wpAny (model P w) A (call (.ref C) vs) Q E ⟨H,g,dr,t,os⟩:=by
 have ty:(⟨H,g,dr,t,os⟩:Shared).TypeIs (.ref C) "type" := ⟨_,c,rfl⟩
 have l1:=tc_lookup
 have l2:=tc_bind (.ref C)
 apply wpAny_call
 apply codeAny_of_tree
 show wpAny (model P w) _ (callAny (.ref C) ⟨vs,[]⟩) _ _ _
 repeat
  any_goals first
   |assumption
   |with_reducible refine wpAny_loadPart_at c ?_
   |wp_step
 refine⟨rfl,codeAny_call_builtin_at (Code.quiet_builtin _ (by decide +kernel)) entry_typeCall (wpAny_check_type_call_sub c ?_)⟩
 exact Qf (few:=few) F T c n i a ac λh' e l m=>k h' e l m
end
def Trc (h:Heap)(e:Addr)(c:Value)(dd:Option Addr)(a0:Value)(T:Option Addr):Prop :=
 ∃oe vs,h.get? e=some oe/\oe.cls=c/\oe.dict=dd/\oe.data=.fields vs/\vs[0]?=some a0/\(T=none->vs[1]?=some .none) /\
  ∀t,T=some t->vs[1]?=some (.ref t)/\t≠e/\∃oT ts,h.get? t=some oT/\oT.data=.fields ts/\ts[3]?=some .none
def Kpt (S:List Addr)(e:Addr)(T:Option Addr)(h h':Heap):Prop :=
 ∀b o,b≠e->T≠some b->h.get? b=some o->(b∉S->h'.get? b=some o)/\∃sl,h'.get? b=some { o with slots:=sl }
theorem Qq (f:Array Value->Array Value)(o:Obj):(Obj.mapFields f o).dict=o.dict:=by
 obtain⟨c,d,dt,sl⟩:=o
 cases dt<;>rfl
section
variable {M:Model}{A:Around}{E:Value->Shared->Prop}{s:Shared}
theorem VB {base:Heap}{env:Env}{outer:List Env}{L e:Addr}{oe:Obj}{vs:Array Value}{head a0:Value}{hadNext:Bool}{Q:Unit->Shared->Prop}
  (hfr:A.frames=some (env::outer)) (hl:s.heap.FunFrames base (env::outer)) (hf:env.frame=some L)
  (he:s.heap.get? e=some oe) (hd:oe.data=.fields vs) (hsz:1 < vs.size) (h0:vs[0]?=some a0)
  (h:∀h' T,Trc h' e oe.cls oe.dict a0 (some T)->s.heap.objs.size<=T->Kpt (frs (env::outer)) e none s.heap h'->Q () { s with heap:=h' }) :
  wpAny M A (do let a <-frameOf env;let pl <-entryPlaceOf L hadNext;let b <-EntryCells.newEntry head a .none (rawInt L) .none pl;setField (.ref e) 1 b) (λ_ s'=>wpAny M A (setFlight (.ref e) none) Q E s') E s:=by
 have hene:e∉(env::outer).filterMap (·.frame):=λhm=>by
  obtain⟨_,o,ho,hnf⟩:=hl.mem hm
  rw[he] at ho;cases ho;exact hnf vs hd
 refine wpAny_bind (wpAny_frameOf_fun hfr hl hf λh1 hs1=>?_)
 refine wpAny_bind (wpAny_entryPlaceOf λpl hpl=>?_)
 unfold EntryCells.newEntry newFields
 refine wpAny_bind (wpAny_newObj_type ?_ (hpl.sizeOk5 _ _ _ _ _))
 generalize hoT:({ cls:=.type "traceback",dict:=none,data:=.fields ([head,.ref L,.none,rawInt L,.none]++(if pl.isEmpty then List.replicate 6 Value.none else pl)).toArray }:Obj)=oT
 have dT:oT.data=.fields ([head,.ref L,.none,rawInt L,.none]++(if pl.isEmpty then List.replicate 6 Value.none else pl)).toArray:=by rw[<-hoT]
 have nfT:oT.isFreed=false:=by rw[<-hoT];rfl
 have he1:h1.get? e=some oe:=(hs1.2.1 e hene).trans he
 have he2:=Heap.get?_push_of_some (h:=h1) oT he1
 have hTe:h1.objs.size≠e:=Nat.ne_of_gt (Heap.lt_size he1)
 refine wpAny_setField he2 hd hsz ?_
 have hd3:=Obj.data_mapFields hd (·.setIfInBounds 1 (Value.ref h1.objs.size))
 have he3:=Heap.get?_update_self (Obj.mapFields (·.setIfInBounds 1 (Value.ref h1.objs.size))) he2 (Obj.isFreed_of_fields hd3)
 have hT3:=(Heap.get?_update_other (h1.push oT) (Obj.mapFields (·.setIfInBounds 1 (Value.ref h1.objs.size))) (Ne.symm hTe)).trans (Heap.get?_push_size h1 nfT)
 unfold setFlight
 refine wpAny_bind (wpAny_field he3 hd3 (x:=.ref h1.objs.size) (by simp[hsz]) ?_)
 rw[if_pos (show (Value.ref h1.objs.size != Value.none)=true from by simp)]
 have sz3:3 < ([head,.ref L,.none,rawInt L,.none]++(if pl.isEmpty then List.replicate 6 Value.none else pl)).toArray.size:=by
  simp only[List.size_toArray,List.length_append,List.length_cons,List.length_nil];omega
 refine wpAny_setField hT3 dT sz3 (h _ h1.objs.size ?_ (Nat.le_of_eq hs1.1.symm) ?_)
 ·refine⟨_,_,(Heap.get?_update_other _ _ hTe).trans he3,Obj.cls_mapFields _ _,Qq _ _,hd3,?_,λq=>(nomatch q),λt q=>?_⟩
  ·rw[Array.getElem?_setIfInBounds_ne (by decide)];exact h0
  ·cases q
   refine⟨by simp[hsz],hTe,_,_,Heap.get?_update_self _ hT3 (Obj.isFreed_of_fields (Obj.data_mapFields dT _)),Obj.data_mapFields dT _,?_⟩
   rw[Array.getElem?_setIfInBounds_self_of_lt sz3];rfl
 ·intro b o hbe _ hb
  have keep:∀u,h1.get? b=some u->(((h1.push oT).update e (Obj.mapFields (·.setIfInBounds 1 (Value.ref h1.objs.size)))).update h1.objs.size (Obj.mapFields (·.setIfInBounds 3 ((none:Option Addr).elim Value.none λf=>rawInt f)))).get? b=some u:=λu hu=>by
   rw[Heap.get?_update_other _ _ (Nat.ne_of_gt (Heap.lt_size hu)),Heap.get?_update_other _ _ (Ne.symm hbe)]
   exact Heap.get?_push_of_some _ hu
  refine⟨λhS=>keep o ((hs1.2.1 b hS).trans hb),?_⟩
  obtain⟨sl,q⟩:=hs1.2.2 b o hb
  exact⟨sl,keep _ q⟩
theorem Wk {base:Heap}{env:Env}{outer:List Env}{L e:Addr}{c a0:Value}{dd T:Option Addr}{Q:Unit->Shared->Prop}
  (hfr:A.frames=some (env::outer)) (hl:s.heap.FunFrames base (env::outer)) (hf:env.frame=some L) (ht:Trc s.heap e c dd a0 T)
  (h:∀h' T',Trc h' e c dd a0 (some T')->s.heap.objs.size<=T'->Kpt (frs (env::outer)) e T s.heap h'->Q () { s with heap:=h' }):wpAny M A (noteFrame (.ref e) env) (λ_ s'=>wpAny M A (setFlight (.ref e) none) Q E s') E s:=by
 obtain⟨oe,vs,he,rfl,rfl,hd,h0,hn,hs⟩:=ht
 unfold noteFrame
 simp only[hf]
 cases T with
 |none=>
  have h1:=hn rfl
  refine wpAny_bind (wpAny_field he hd h1 ?_)
  rw[if_neg (by decide)]
  exact VB hfr hl hf he hd (Array.getElem?_eq_some_iff.mp h1).1 h0 h
 |some t=>
  obtain⟨h1,hte,oT,ts,hT,hdT,h3⟩:=hs t rfl
  refine wpAny_bind (wpAny_field he hd h1 ?_)
  rw[if_pos (show (Value.ref t != Value.none)=true from by simp)]
  refine wpAny_bind (wpAny_field hT hdT h3 ?_)
  rw[if_neg (show ¬((Value.none==rawInt L)=true) from by simp[rawInt])]
  refine wpAny_bind (wpAny_setField hT hdT (Array.getElem?_eq_some_iff.mp h3).1 ?_)
  have other:∀b,b≠t->(s.heap.update t (Obj.mapFields (·.setIfInBounds 3 Value.none))).get? b=s.heap.get? b:=λb hb=>Heap.get?_update_other _ _ (Ne.symm hb)
  have ne:∀b o,s.heap.get? b=some o->(∀ws,o.data≠.fields ws)->b≠t:=λb o hb hnf q=>by
   subst q;rw[hT] at hb;cases hb;exact hnf ts hdT
  refine VB hfr (hl.of_keeps λb o hb hnf=>⟨o,(other b (ne b o hb hnf)).trans hb,rfl⟩) hf ((other e (Ne.symm hte)).trans he) hd (Array.getElem?_eq_some_iff.mp h1).1 h0 λh' T' k1 k2 k3=>h h' T' k1 ?_ ?_
  ·have:(s.heap.update t (Obj.mapFields (·.setIfInBounds 3 Value.none))).objs.size=s.heap.objs.size:=by simp[Heap.update]
   rw[<-this];exact k2
  ·exact λb o hbe hbt hb=>k3 b o hbe (by simp) ((other b λq=>hbt (by rw[q])).trans hb)
theorem Gm {base:Heap}{env:Env}{outer:List Env}{L e:Addr}{c a0:Value}{dd T:Option Addr}{Q:Unit->Shared->Prop}
  (hfr:A.frames=some (env::outer)) (hl:s.heap.FunFrames base (env::outer)) (hf:env.frame=some L) (ht:Trc s.heap e c dd a0 T)
  (h:∀h' T',Trc h' e c dd a0 (some T')->s.heap.objs.size<=T'->Kpt (frs (env::outer)) e T s.heap h'->Q () { s with heap:=h' }):wpAny M A (leaving env (.ref e)) Q E s:=by
 unfold leaving
 exact wpAny_bind (Wk hfr hl hf ht h)
end
def CX1 (P:Program)(w:World):CXT:=λouter H s E e s'=>∃ea C dd a0 T H',e=.ref ea/\s'.os=s.os/\AllBare s'.gens/\Un (frs outer) [] H H' s.heap s'.heap/\HOk P w H' s'.heap /\
 Trc s'.heap ea C dd a0 (some T)/\s.heap.objs.size<=ea/\s.heap.objs.size<=T/\H' ea=none/\H' T=none/\E C dd H'
section
variable {P:Program}{w:World}{K:PySem.W.Frag}{mg:Str->Option Value}{base:Heap}{N:List Str}{qual:Str}{scope:Scope}{f:Addr}{cd:Value}{A:Around}{outer:List Env}{s:Shared}{H:Hp}{E:XK}
theorem VH {X:Cx}(hX:X=cxOf (CX1 P w) P w K mg base N qual scope f cd A outer s H E){pins:List (Addr×Obj)}{σ:St}{H':Hp}{s':Shared}{ea:Addr}{C a0:Value}{dd T:Option Addr}(I:Inv X pins σ H' s')(ht:Trc s'.heap ea C dd a0 T)
  (h1:s.heap.objs.size<=ea) (h2:∀t,T=some t->s.heap.objs.size<=t/\H' t=none) (h3:H' ea=none) (hE:E C dd H'):X.xe (.ref ea) s':=by
 subst hX
 show wpAny _ _ (leaving _ _) _ _ _
 have hl:=I.stack
 have hfree:=I.stkFree
 have hb0:=I.base
 have hok:=I.hok
 refine Gm I.ok.frames hl rfl ht λh' T' k1 k2 k3=>?_
 have kT:H' T'=none:=hok.fresh k2
 have sz:s.heap.objs.size<=s'.heap.objs.size:=I.sz
 have fr:∀b,b < s.heap.objs.size->b∉frs outer->b∉frs ((envOfC qual scope s.heap.objs.size f cd)::outer):=λb hb hn hm=>by
  unfold frs at hm
  rw[List.filterMap_cons] at hm
  have q:(envOfC qual scope s.heap.objs.size f cd).frame=some s.heap.objs.size:=rfl
  rw[q] at hm
  rcases List.mem_cons.mp hm with z | z
  ·omega
  ·exact hn z
 have lo:∀b o,s.heap.get? b=some o->b≠ea/\T≠some b/\b < s.heap.objs.size:=λb o e=>by
  have l:=Heap.lt_size e
  refine⟨Nat.ne_of_lt (Nat.lt_of_lt_of_le l h1),λz=>?_,l⟩
  exact absurd (Nat.lt_of_lt_of_le l (h2 b z).1) (Nat.lt_irrefl _)
 refine⟨ea,C,dd,a0,T',H',rfl,I.os,I.bare,⟨λb o e n hb hx=>?_,λb o e n hb hx=>?_,λb o e n hx=>hb0.free b o e n hx,λb o e hx=>?_,hb0.tups,hb0.frzs,hb0.tbls⟩,λa u e=>?_,k1,h1,Nat.le_trans sz k2,h3,kT,hE⟩
 ·obtain⟨l1,l2,l3⟩:=lo b o e
  exact (k3 b o l1 l2 (hb0.keep b o e n hb hx)).1 (fr b l3 hb)
 ·obtain⟨l1,l2,l3⟩:=lo b o e
  obtain⟨sl,q⟩:=hb0.slot b o e n hb hx
  obtain⟨sl',q'⟩:=(k3 b _ l1 l2 q).2
  exact⟨sl',q'⟩
 ·obtain⟨l1,l2,l3⟩:=lo b o e
  obtain⟨o',q⟩:=hb0.there b o e hx
  obtain⟨sl',q'⟩:=(k3 b _ l1 l2 q).2
  exact⟨_,q'⟩
 ·refine (hok a u e).stay (λb v hb q=>?_) (λ_ z=>z) λ_ _ z=>z
  have ht:H' b≠none:=by
   rcases hb with rfl | z
   ·rw[e];simp
   ·rw[z];simp
  exact (k3 b v (λz=>ht (by rw[z];exact h3)) (λz=>ht (h2 b z).2) q).1 λz=>ht (hfree b z)
theorem Wn {X:Cx}(hX:X=cxOf (CX1 P w) P w K mg base N qual scope f cd A outer s H E):Passes (CX1 P w) X E:=by
 intro pins σ H1 s1 e s' I hx
 obtain⟨ea,C,dd,a0,T,H',rfl,hos,bare,un,hok,ht,h1,h2,h3,h4,hE⟩:=hx
 have hp:X.prog=P/\X.w=w/\X.s₀=s:=by subst hX;exact⟨rfl,rfl,rfl⟩
 have hok':HOk X.prog X.w H' s'.heap:=by rw[hp.1,hp.2.1];exact hok
 have I':Inv X pins σ H' s':=I.call' hos un hok' bare λb z=>absurd z (by simp)
 have sz:s.heap.objs.size<=s1.heap.objs.size:=by have:=I.sz;rw[hp.2.2] at this;exact this
 exact VH hX I' ht (Nat.le_trans sz h1) (λt q=>by cases q;exact⟨Nat.le_trans sz h2,h4⟩) h3 hE
end
section
variable {prog:Program}{w:World}{A:Around}{E:Value->Shared->Prop}{s:Shared}{K:PySem.W.Frag}{x dx C f:Addr}{mA:Str->Option Value}{name:Str}{v:Value}
abbrev vB:List Value:=[.type "ValueError",.type "Exception",.type "BaseException",.type "object"]
theorem K1 {h:Heap}{tl:List Value}(self:Value)(T:OwnTail h vB tl):refuseLoop self "__setattr__" tl=pure ():=by
 induction T with
 |base=>exact PySem.F.store_ValueError.passes self
 |own _ _ _ _ ih=>rw[refuseLoop_ref];exact ih
theorem G3 {R:Result->Shared->Prop}{ox:Obj}{od:Option Obj}{tk:Tok}{cd:ClassData}{bm:List Value}(X:K.In s.heap)(I:PySem.W.InstAt s.heap x ox C od)(hc:PySem.W.clsIn K C=some cd)(hmr:cd.mro=.ref C::bm)(T:OwnTail s.heap vB bm)(ht:PySem.W.takerIn K C name=some none)
  (h:∀b,wpAny (model prog w) A.in1 (Builtin.ObjectAttr.storeInOwnDict (.ref x) (.ref C) (.str name tk) name v b)
   (λfin s'=>match fin with | .done f=>R (.ok f) s' | .again c'=>c'.quiet=true/\codeAny (model prog w) A c' R s') (λe s'=>R (.error e) s') s) :
  codeAny (model prog w) A (.call (.builtin "object.__setattr__") ⟨[.ref x,.str name tk,v],[]⟩) R s:=by
 have SF:=PySem.F.store_object
 have cn:cd.mro.contains (.type "object")=true:=by rw[hmr,List.contains_cons,T.hasType (b:=true) (by decide),Bool.or_true]
 have sub:PySem.W.Looks (model prog w) s.heap (isInstance (.ref x) (.type "object")) true:=I.type.andThen (PySem.W.looks_mroIn X (by unfold PySem.W.mroIn;rw[hc,Option.bind_some,if_neg (by rw[hmr];simp),cn]))
 refine codeAny_call_builtin SF.slot.plain SF.entry (@PySem.W.check_slot (model prog w) _ _ s "object.__setattr__" "object" "__setattr__" (.ref x) [.str name tk,v] [] _ SF.kind SF.split sub (SF.args (.ref x) (.str name tk) v) ?_)
 obtain⟨attr,ha,hr⟩:=Option.bind_eq_some_iff.mp ht
 have hm:PySem.W.Looks (model prog w) s.heap (mroOf (.ref C)) cd.mro:=(PySem.W.looks_clsIn X hc).andThen .now
 have L3:PySem.W.Looks (model prog w) s.heap (Builtin.ObjectAttr.storeTaker? attr) none:=by
  cases attr with
  |none=>exact .now
  |some a=>
   obtain⟨b,hb,hb2⟩:=Option.map_eq_some_iff.mp hr
   refine (PySem.W.looks_takesIn X hb).andThen ?_
   cases b
   ·exact .now
   ·cases hb2
 rw[PySem.W.osa_eq,refuse_eq]
 refine wpAny_bind (wpAny_bind (I.type.here (wpAny_bind (hm.here ?_))))
 rw[hmr,refuseLoop_ref,K1 _ T]
 refine wpAny_pure (wpAny_bind (I.type.here (wpAny_bind ((PySem.W.looks_findIn X ha).here (wpAny_bind (L3.here ?_))))))
 exact h _
theorem Uw {cd0:ClassData}{bm:List Value}(hc0:PySem.W.clsIn K C=some cd0)(hmr:cd0.mro=.ref C::bm){ox:Obj}{fs:Array Value}{Q:Unit->Shared->Prop}(X:K.In s.heap)(ho:s.heap.get? x=some ox)(hc:ox.cls=.ref C)(hd:ox.dict=none)(hf:ox.data=.fields fs)
  (hs:PySem.W.findIn K (.ref C) "__setattr__" = some (some (.builtin "object.__setattr__"))) (T:OwnTail s.heap vB bm) (ht:PySem.W.takerIn K C name=some none) (hh:PySem.W.hasDictIn K C=true)
  (h:∀h',h'.get? x=some { ox with dict:=some s.heap.objs.size }->h'.Ns1 s.heap.objs.size (λy=>if y=name then some v else none)->(∀b o,b≠x->s.heap.get? b=some o->h'.get? b=some o)->Q () { s with heap:=h',toks:=s.toks+2 }) :
  wpAny (model prog w) A (setAttr (.ref x) name v) Q E s:=by
 have J:PySem.W.InstAt s.heap x ox C none:=⟨ho,hc,by unfold PySem.W.notCls;rw[hf],by rw[hd];trivial⟩
 refine PySem.W.set_plain X J hs (G3 (s:={ s with toks:=s.toks+1 }) X J hc0 hmr T ht λb=>?_)
 obtain⟨cd,hcd,hd'⟩:=PySem.W.any_some hh
 obtain⟨oc,odi,oda,osl⟩:=ox
 dsimp only at hc hd hf
 subst hc hd hf
 refine wpAny_bind (wpAny_pure (wpAny_bind (wpAny_bind (wpAny_loadPart ho (wpAny_bind (PySem.W.Looks.here (s:={ s with toks:=s.toks+1 }) (PySem.W.looks_clsIn X hcd) ?_))))))
 rw[hd']
 have hx1:(s.heap.push { cls:=.type "dict",data:=.dict #[] }).get? x=some ⟨.ref C,none,.fields fs,osl⟩:=Heap.get?_push_of_some _ ho
 have hxs:x≠s.heap.objs.size:=Nat.ne_of_lt (Heap.lt_size ho)
 rw[if_neg (by decide)]
 dsimp only
 rw[if_neg (by simp[typeHasDict])]
 refine wpAny_bind (wpAny_alloc' ?_)
 refine wpAny_bind (wpAny_update' hx1 ?_)
 refine wpAny_pure ?_
 have hgd:((s.heap.push { cls:=.type "dict",data:=.dict #[] }).update x λo=>{ cls:=o.cls,dict:=some s.heap.objs.size,data:=o.data,slots:=o.slots }).get? s.heap.objs.size
   = some { cls:=.type "dict",data:=.dict #[] }:=(Heap.get?_update_ne _ _ _ _ hxs.symm).trans (Heap.get?_push_at rfl rfl)
 have hnd:((s.heap.push { cls:=.type "dict",data:=.dict #[] }).update x λo=>{ cls:=o.cls,dict:=some s.heap.objs.size,data:=o.data,slots:=o.slots }).Ns s.heap.objs.size (λ_=>none) :=
  ⟨_,#[],_,hgd,rfl,λe he=>absurd he (by simp),λ_=>rfl⟩
 show wpAny _ _ (Builtin.ObjectAttr.storeInDict s.heap.objs.size (.str name s.toks) name v) _ _ _
 unfold Builtin.ObjectAttr.storeInDict Builtin.ObjectAttr.newKeyGuard
 refine wpAny_bind (wpAny_pure (wpAny_bind (wpAny_nsSet1 (Heap.Ns1.of_empty hnd) λh' hn' hs=>?_)))
 obtain⟨oD,esD,epD,hoD,hdD,hcD⟩:=hn'.count (Within.cons name v Within.nil)
 refine wpAny_bind (wpAny_lookBehind hoD (by rw[hdD];exact pastItsLine_dict (Nat.le_trans hcD (by rw[List.length_cons,List.length_nil,sizeLine_eq];omega))) ?_)
 refine wpAny_pure (h h' ?_ hn' λb o hbx hb=>?_)
 ·refine (hs.2 x hxs).trans (Heap.get?_update_self _ hx1 ?_)
  rfl
 ·exact (hs.2 b (Nat.ne_of_lt (Heap.lt_size hb))).trans ((Heap.get?_update_ne _ _ _ _ hbx).trans (Heap.get?_push_of_some _ hb))
theorem Gv {ox:Obj}{fs:Array Value}{tk:Tok}{Q:Fin->Shared->Prop}{h:Heap}{g:Array GenState}{d:Drawn}{t:Nat}{os:OsState}(X:K.In h)(ho:h.get? x=some ox)(hc:ox.cls=.ref C)(hd:ox.dict=some dx)(hf:ox.data=.fields fs)(hn:h.Ns1 dx mA)
  (ha:PySem.W.findIn K (.ref C) name=some none) (hh:PySem.W.hasDictIn K C=true) (hv:mA name=some v) (hv':PySem.W.handedIn v=true) (hq:Q (.done (.ret v)) ⟨h,g,d,t,os⟩) :
  wpAny (model prog w) A (Builtin.«object.__getattribute__» ⟨[.ref x,.str name tk],[]⟩) Q E ⟨h,g,d,t,os⟩:=by
 obtain⟨cd,hcd,hd'⟩:=PySem.W.any_some hh
 have L1:=PySem.W.looks_findIn (M:=model prog w) X ha
 have L2:=PySem.W.looks_clsIn (M:=model prog w) X hcd
 have hv2:handedOut v=pure v:=PySem.W.handedOut_of hv'
 obtain⟨oc,odi,oda,osl⟩:=ox
 dsimp only at hc hd hf
 subst hc hd hf
 unfold Builtin.«object.__getattribute__»
 repeat (any_goals (first | assumption | with_reducible refine wpAny_loadPart_at ho ?_ | with_reducible refine L1.at ?_ | with_reducible refine L2.at ?_ | (with_reducible refine wpAny_nsGet hn.ns ?_;rw[hv]) | rw[hv2] | wp_step))
theorem GB {ox:Obj}{fs:Array Value}{tk:Tok}{R:Result->Shared->Prop}{h:Heap}{g:Array GenState}{d:Drawn}{t:Nat}{os:OsState}(X:K.In h)(ho:h.get? x=some ox)(hc:ox.cls=.ref C)(hd:ox.dict=some dx)(hf:ox.data=.fields fs)(hn:h.Ns1 dx mA)
  (hsub:PySem.W.subIn K (.ref C) (.type "BaseException")=some true)
  (ha:PySem.W.findIn K (.ref C) name=some none) (hh:PySem.W.hasDictIn K C=true) (hv:mA name=some v) (hv':PySem.W.handedIn v=true) (hq:R (.ok (.ret v)) ⟨h,g,d,t,os⟩) :
  codeAny (model prog w) A (.call (.builtin "BaseException.__getattribute__") ⟨[.ref x,.str name tk],[]⟩) R ⟨h,g,d,t,os⟩:=by
 refine codeAny_call_builtin PySem.F.attrBase_ValueError.ga.plain PySem.F.entry_bexc_ga ?_
 have J:PySem.W.Looks (model prog w) h (typeOf (.ref x)) (.ref C):=by
  intro A' Q' E' s' k q
  unfold typeOf
  refine wpAny_bind (wpAny_loadPart (k _ _ ho) ?_)
  rw[hc]
  exact wpAny_pure q
 refine @PySem.W.check_slot (model prog w) _ _ ⟨h,g,d,t,os⟩ "BaseException.__getattribute__" "BaseException" "__getattribute__" (.ref x) [.str name tk] [] _ (by decide +kernel) (by decide +kernel) (J.andThen (PySem.W.looks_subIn X hsub)) (PySem.F.args_bexc_ga (.ref x) (.str name tk)) ?_
 exact Gv X ho hc hd hf hn ha hh hv hv' hq
theorem Kj {ox:Obj}{fs:Array Value}{expr:Bool}{Q:Value->Shared->Prop}(X:K.In s.heap)(ho:s.heap.get? x=some ox)(hc:ox.cls=.ref C)(hd:ox.dict=some dx)(hf:ox.data=.fields fs)(hn:s.heap.Ns1 dx mA)
  (hsub:PySem.W.subIn K (.ref C) (.type "BaseException")=some true) (hga:PySem.W.findIn K (.ref C) "__getattribute__" = some (some (.builtin "BaseException.__getattribute__"))) (hgt:PySem.W.findIn K (.ref C) "__getattr__" = some none)
  (ha:PySem.W.findIn K (.ref C) name=some none) (hh:PySem.W.hasDictIn K C=true) (hv:mA name=some v) (hv':PySem.W.handedIn v=true) (hq:Q v { s with toks:=s.toks+1 }) :
  wpAny (model prog w) A (getAttr (.ref x) name expr) Q E s:=by
 obtain⟨h,g,d,t,os⟩:=s
 have L1:=PySem.W.looks_findIn (M:=model prog w) X hga
 have L2:=PySem.W.looks_findIn (M:=model prog w) X hgt
 have f3:=PySem.F.attrBase_ValueError.ga.bind (.ref x)
 have hv2:handedOut v=pure v:=PySem.W.handedOut_of hv'
 have hx0:(expr&&onTheHeap (Value.builtin "BaseException.__getattribute__"))=false:=by cases expr<;>rfl
 have hx2:(Value.builtin "BaseException.__getattribute__" == Value.builtin "object.__getattribute__")=false:=by decide +kernel
 have hx1:(onTheHeap (Value.ref C)&&Value.builtin "BaseException.__getattribute__" == Value.builtin "object.__getattribute__")=false:=by rw[hx2];rfl
 unfold getAttr getAttrBy
 repeat (any_goals (first | assumption | (with_reducible refine wpAny_loadPart_at ho ?_;rw[hc]) | with_reducible refine L1.at ?_ | with_reducible refine L2.at ?_ | rw[hv2] | wp_step))
 refine GB X ho hc hd hf hn hsub ha hh hv hv' ?_
 repeat (any_goals (first | assumption | rw[hv2] | wp_step))
end
structure XC (K:PySem.W.Frag)(C HE fI:Addr)(fd:Str):Prop where
 cls:∃dd cd k0 k1 k2 k3 k5 bm,K.lookup C=some ⟨.type "type",dd,.cls cd,#[k0,k1,k2,k3,some (.builtin "ValueError.__new__"),k5]⟩/\cd.mro=.ref C::bm/\cd.hasDel=false /\
  PySem.W.tailIn K vB bm=true/\PySem.W.nsOkIn K cd.ns=true/\PySem.W.nsIn K cd.ns "__init__" = some (some (.ref fI))
 fn:∃o,K.lookup fI=some o/\o.cls=.type "function"
 kp:PySem.W.keepIn K (.ref C)=true
 sa:PySem.W.findIn K (.ref C) "__setattr__" = some (some (.builtin "object.__setattr__"))
 tk:PySem.W.takerIn K C fd=some none
 hd:PySem.W.hasDictIn K C=true
 sub:PySem.W.subIn K (.ref C) (.type "BaseException")=some true
 subH:PySem.W.subIn K (.ref C) (.ref HE)=some true
 ga:PySem.W.findIn K (.ref C) "__getattribute__" = some (some (.builtin "BaseException.__getattribute__"))
 gt:PySem.W.findIn K (.ref C) "__getattr__" = some none
 na:PySem.W.findIn K (.ref C) fd=some none
 rd:PySem.W.readsIn K HE (.type "type")=true
 fc:PySem.W.findCls K (.ref HE) (.type "type") "__init__" = some (.val (.builtin "ValueError.__init__"))
 sp:PySem.W.specialIn K (.ref HE) "__getattribute__" = some (some (.builtin "type.__getattribute__"))
section
variable {K:PySem.W.Frag}{C HE fI:Addr}{fd:Str}{h:Heap}
theorem JN {N:Addr}{mg:Str->Option Value}{n:Str}{v:Value}(X:K.In h)(G:h.Ns N mg)(e:PySem.W.nsIn K N n=some (some v)):mg n=some v:=by
 obtain⟨o,es,ep,ho,hd,_,hf⟩:=G
 unfold PySem.W.nsIn at e
 split at e
 ·rename_i q
  have:=X _ _ q
  rw[ho] at this
  cases this
  cases hd
  split at e
  ·rename_i en he
   cases e
   rw[<-hf]
   unfold nsFind findBy
   rw[<-Array.find?_toList,he]
   rfl
  ·split at e<;>cases e
 ·cases e
theorem XC.at (x:XC K C HE fI fd)(X:K.In h):∃nm q N bs bm hdct sn sub ab col dd k0 k1 k2 k3 k5 mN,h.get? C=some (excClassObj nm q C N bs bm hdct sn sub ab col dd k0 k1 k2 k3 k5 "ValueError.__new__")/\h.Ns N mN/\mN "__init__" = some (.ref fI)/\OwnTail h vB bm:=by
 obtain⟨dd,cd,k0,k1,k2,k3,k5,bm,e,m,hdel,ht,hok,hi⟩:=x.cls
 obtain⟨nm,bs,mro,ns,qn,hd,sn,sub,ab,col,del⟩:=cd
 dsimp only at m hdel hok hi
 subst m hdel
 have G:h.Ns ns (h.nsMap ns):=.of_isNs (PySem.W.isNs_of_in X hok)
 refine⟨nm,qn,ns,bs,bm,hd,sn,sub,ab,col,dd,k0,k1,k2,k3,k5,_,X _ _ e,G,?_,PySem.W.tail_of_in X ht⟩
 exact JN X G hi
end
section
variable {prog:Program}{w:World}{A:Around}{E:Value->Shared->Prop}{h:Heap}{g:Array GenState}{d:Drawn}{t:Nat}{os:OsState}
variable {nm q:Str}{C N:Addr}{bs bm bmB:List Value}{hdct:Bool}{sn:List Str}{sub:List Value}{ab:Bool}{col:Option Bool}{dd:Option Addr}{k0 k1 k2 k3 k5:Option Value}{B newId initId:String}
theorem Gr (F:ExcBaseFacts B newId initId bmB)(T:OwnTail h bmB bm){e ta:Addr}{rest:List Value}{Q:Value->Shared->Prop}
  (hC:h.get? C=some (excClassObj nm q C N bs bm hdct sn sub ab col dd k0 k1 k2 k3 k5 newId)) (he:h.get? e=some { cls:=.ref C,data:=.fields #[.ref ta,.none,.none,.none,.bool false,.none] }) (hrest:rest.length<=sizeLine)
  (hq:∀h',h'.get? e=some { cls:=.ref C,data:=.fields #[.ref h.objs.size,.none,.none,.none,.bool false,.none] }->(∀b o,b≠e->h.get? b=some o->h'.get? b=some o)->Q .none ⟨h',g,d,t,os⟩) :
  wpAny (model prog w) A (call (.builtin initId) (.ref e::rest)) Q E ⟨h,g,d,t,os⟩:=by
 refine wpAny_call (codeAny_call_builtin F.init.plain F.initEntry (wpAny_check_init_subT F T hC he rfl ?_))
 wp_walk
 refine hq _ ?_ λb o hb q=>?_
 ·exact Heap.get?_update_self _ (Heap.get?_push_of_some _ he) rfl
 ·rw[Heap.get?_update_other _ _ (Ne.symm hb)]
  exact Heap.get?_push_of_some _ q
end
def ExO (e C t:Addr)(dd:Option Addr):HO:=.ext λh=>h.get? e=some { cls:=.ref C,dict:=dd,data:=.fields #[.ref t,.none,.none,.none,.bool false,.none] }
theorem uW {P:Program}{w:World}{H:Hp}{h:Heap}{e C t:Addr}{dd:Option Addr}(q:h.get? e=some { cls:=.ref C,dict:=dd,data:=.fields #[.ref t,.none,.none,.none,.bool false,.none] }):ObjOk P w H h e (ExO e C t dd) :=
 ⟨q,⟨_,q⟩,λ_ _ p k=>k _ p⟩
def xiSp (C:Addr)(fd:Str):Sp:=λvs H Q _=>∃e v t,vs=[.ref e,v]/\H e=some (ExO e C t none)/\∀t' dx,H dx=none->dx≠e->Q .non (upd (upd H e (ExO e C t' (some dx))) dx (.xd [(fd,v)]))
section
variable {X:Cx}{C HE fI:Addr}{fd x:Str}{pos p apos pa pb pos':Pos}{a b:Expr}{ta tb:TE}
def tBase (C:Addr)(t:TA):TE:=λσ H Q=>t σ H λvs H2=>∃e v t,vs=[.ref e,v]/\H2 e=some (ExO e C t none)/\∀t',Q .non (upd H2 e (ExO e C t' none))
theorem QZ {pl:Sem Bool}{t:TA}(xc:XC X.K C HE fI fd)(hg:Gl X x)(hm:X.mg x=some (.ref HE))(ha:PA X [a,b] t)
  (hdb:(x==("__debug__" : Str))=false:=by decide)
  (hst:starEach [a,b] X.env=(false,eval a X.env)::starEach [b] X.env:=by rfl) (hpl:(backTo pos (starEach [b] X.env)).any (·.1)=false:=by rfl)
  (ht:eval (.Call (.Attribute (.Name x p) "__init__" apos) [a,b] [] pos) X.env=(do
   let ov <-eval (.Name x p) X.env
   standAt apos.atName
   let (f,first) <-holding [ov] (getMethod ov "__init__" pl)
   callWith pos f first (backTo pos (starEach [a,b] X.env)) (backToKw pos (keywordEach [] X.env))):=by rfl) :
  PE X (.Call (.Attribute (.Name x p) "__init__" apos) [a,b] [] pos) (tBase C t):=by
 intro pins s σ H Q I h
 refine PySem.W.methodCall_KW (pl:=pl) (xG I hg hm ?_ hdb) ht
 refine PySem.W.method_cls I.kIn xc.sp (PySem.W.cls_value I.kIn xc.rd xc.fc rfl ?_)
 have I0:=I.tok (s.toks+1)
 refine callWith_method1 (first:=[]) (thn (ha pos pins _ σ H _ I0 h) λus s1 ⟨vs,H1,I1,r1,q1⟩=>?_) hst hpl
 obtain⟨e,v,t0,rfl,he,q⟩:=q1
 cases r1 with
 | @cons _ u1 _ _ ru r2=>
 cases r2 with
 | @cons _ u2 _ _ rv r3=>
 cases r3
 obtain rfl:u1=Value.ref e:=ru
 obtain⟨nm,qq,N,bs,bm,hdct,sn,sub,ab,col,dd,k0,k1,k2,k3,k5,mN,hC,hN,hi,T⟩:=xc.at I1.kIn
 have he':=(I1.hok e _ he).1
 obtain⟨hh,g,d,tk,os⟩:=s1
 refine Gr PySem.F.excBase_ValueError T hC he' (by rw[List.length_cons,List.length_nil,sizeLine_eq];omega) λh' k1' k2'=>?_
 refine⟨.non,_,I1.write (x:=e) (e:=e) (o:=ExO e C hh.objs.size none) (h':=h') (t':=tk) (by rw[he];exact True.intro) (.inl rfl) (λb u hb z=>k2' b u hb z) ⟨_,k1'⟩ (uW k1'),rfl,q _⟩
def sFirst (C:Addr)(fd:Str)(ta tv:TE):TS:=λD σ H=>tv σ H λy H1=>ta σ H1 λx H2=>∃e t,x=.ref e/\H2 e=some (ExO e C t none)/\∀dx,H2 dx=none->dx≠e->D.nx σ (upd (upd H2 e (ExO e C t (some dx))) dx (.xd [(fd,y)]))
theorem XC.clsOf {K:PySem.W.Frag}{C HE fI:Addr}{fd:Str}{h:Heap}(x:XC K C HE fI fd)(X:K.In h):∃cd bm,PySem.W.clsIn K C=some cd/\cd.mro=.ref C::bm/\OwnTail h vB bm:=by
 obtain⟨dd,cd,k0,k1,k2,k3,k5,bm,e,m,hdel,ht,hok,hi⟩:=x.cls
 exact⟨cd,bm,by unfold PySem.W.clsIn;rw[e],m,PySem.W.tail_of_in X ht⟩
theorem Gi {o value:Expr}{tv:TE}(xc:XC X.K C HE fI fd)(ha:PE X o ta)(hv:PE X value tv)(hs:swapsWith value (some (.Attribute o fd pos')) pos.line X.env=pure false):PS X (.Assign [.Attribute o fd pos'] value pos) (sFirst C fd ta tv):=by
 intro pins s σ H D I h
 refine plainObj_wpAny_Assign_Attribute (thn (hv pins s σ H _ I h) λu s1 ⟨y,H1,I1,ry,q⟩=>thn (ha pins s1 σ H1 _ I1 q) λov s2 ⟨x,H2,I2,rx,e,t,ex,ee,q2⟩=>?_) hs
 subst ex
 obtain rfl:ov=Value.ref e:=rx
 have he:=(I2.hok e _ ee).1
 have hn:H2 s2.heap.objs.size=none:=I2.hok.fresh (Nat.le_refl _)
 have hne:s2.heap.objs.size≠e:=λz=>by rw[z,ee] at hn;cases hn
 obtain⟨cd0,bm0,hc0,hm0,T0⟩:=xc.clsOf I2.kIn
 refine Uw hc0 hm0 I2.kIn he rfl rfl rfl xc.sa T0 xc.tk xc.hd λh' h1 h2 h3=>⟨σ,_,?_,q2 s2.heap.objs.size hn hne⟩
 have hm:Mut (H2 e):=by rw[ee];exact True.intro
 have U:Un X.fs [] H2 (upd H2 e (ExO e C t (some s2.heap.objs.size))) s2.heap h':=Un.write hm (.inl rfl) (λb u hb q=>h3 b u hb q) ⟨_,h1⟩
 have O:HOk X.prog X.w (upd H2 e (ExO e C t (some s2.heap.objs.size))) h':=I2.hok.write hm (.inl rfl) (λb u hb q=>h3 b u hb q) ⟨_,h1⟩ (uW h1)
 have hn':upd H2 e (ExO e C t (some s2.heap.objs.size)) s2.heap.objs.size=none:=by rw[zg hne];exact hn
 refine I2.un (h':=h') (t':=s2.toks+2) ⟨U.keep,U.slot,λb o q n hx=>?_,U.there,λb xs q=>?_,λb o xs q=>?_,λb ps q=>?_⟩ λa o q=>?_
 ·rw[zg (Nat.ne_of_lt (Heap.lt_size q))];exact U.free b o q n hx
 ·rw[zg (zu q hn)];exact U.tups b xs q
 ·rw[zg (zu q hn)];exact U.frzs b o xs q
 ·rw[zg (zu q hn)];exact U.tbls b ps q
 ·by_cases ha:a=s2.heap.objs.size
  ·subst ha
   rw[zk] at q
   cases q
   refine⟨_,h2,λf=>?_⟩
   by_cases hf:f=fd
   ·subst hf
    rw[if_pos rfl]
    simp only[List.lookup,beq_self_eq_true]
    exact ry
   ·rw[if_neg hf]
    have:(f==fd)=false:=by simpa using hf
    simp only[List.lookup,this]
    exact True.intro
  ·rw[zg ha] at q
   exact (O a o q).stay (λb u _ z=>z) (λb z=>by rw[zg (zu z hn')];exact z) λb xs z=>by rw[zg (zu z hn')];exact z
end
def del (H:Hp)(e:Addr):Hp:=λb=>if b=e then none else H b
theorem jK {H:Hp}{e b:Addr}(h:b≠e):del H e b=H b:=by unfold del;rw[if_neg h]
theorem uH {H:Hp}{e:Addr}:del H e e=none:=by unfold del;rw[if_pos rfl]
theorem Jg {X:Cx}{pins:List (Addr×Obj)}{σ:St}{H:Hp}{s:Shared}{e:Addr}{φ:Heap->Prop}(I:Inv X pins σ H s)(he:H e=some (.ext φ)):Inv X pins σ (del H e) s:=by
 have no:∀ {b:Addr},H b=none->del H e b=none:=fun {b} n=>by
  by_cases q:b=e
  ·rw[q];exact uH
  ·rw[jK q];exact n
 have ke:∀ {b:Addr} {u:HO},H b=some u->(∀φ,u≠.ext φ)->del H e b=some u:=fun {b u} n d=>by
  have:b≠e:=λz=>by rw[z,he] at n;cases n;exact d _ rfl
  rw[jK this];exact n
 have u:=I.base
 refine⟨I.ok,I.os,I.bare,⟨u.keep,u.slot,λb o q n hx=>no (u.free b o q n hx),u.there,λb xs q=>ke (u.tups b xs q) (λ_ z=>nomatch z),λb o xs q=>ke (u.frzs b o xs q) (λ_ z=>nomatch z),λb ps q=>?_⟩,I.loc,I.cell,no I.free,λx c q=>no (I.freeC x c q),λp hp=>?_,λa o q=>?_,I.len⟩
 ·obtain⟨m,z⟩:=u.tbls b ps q
  exact⟨m,ke z λ_ z=>nomatch z⟩
 ·obtain⟨a1,a2,a3⟩:=I.pin p hp
  exact⟨a1,no a2,a3⟩
 ·have hne:a≠e:=λz=>by rw[z,uH] at q;cases q
  rw[jK hne] at q
  exact (I.hok a o q).stay (λb u _ z=>z) (λb z=>ke z λ_ z=>nomatch z) λb xs z=>ke z λ_ z=>nomatch z
section
variable {M:Model}{A:Around}{E:Value->Shared->Prop}{s:Shared}{env:Env}
variable {nm q:Str}{C N:Addr}{bs bm:List Value}{hdct:Bool}{sn:List Str}{sub:List Value}{ab:Bool}{col:Option Bool}{dd:Option Addr}{k0 k1 k2 k3 k5:Option Value}{newId:String}
theorem G6 {x:Sem Value}{Q:Flow->Shared->Prop}(hbase:bm.contains (.type "BaseException")=true) (hh:A.handled=none)
  (h:wpAny M A x (λv s₁=>∃e t ed,v=.ref e/\s₁.heap.get? C=some (excClassObj nm q C N bs bm hdct sn sub ab col dd k0 k1 k2 k3 k5 newId) /\
   s₁.heap.get? e=some { cls:=.ref C,dict:=ed,data:=.fields #[.ref t,.none,.none,.none,.bool false,.none] }/\E (.ref e) s₁) E s) :
  wpAny M A (raiseStmt env (some x) none) Q E s:=by
 have hcB:(Value.ref C::bm).contains (.type "BaseException")=true:=by rw[List.contains_cons,hbase,Bool.or_true]
 unfold raiseStmt
 refine wpAny_bind (wpAny_mono h (λv s₁ h₁=>?_) λ_ _ x=>x)
 obtain⟨e,t,ed,rfl,hC,he,hE⟩:=h₁
 obtain⟨hp,g,d,tk,os⟩:=s₁
 repeat (first | with_reducible refine wpAny_loadPart_at he ?_ | with_reducible refine wpAny_loadPart_at hC ?_ | (with_reducible refine wpAny_isSubtype_exc hC ?_;rw[hcB]) | wp_step)
 exact wpAny_raiseNew_none hh hE
end
section
variable {X:Cx}{C HE fI:Addr}{fd x:Str}{pos p cpos:Pos}{a:Expr}{t:TA}{k:Nat}{f0:FuncData}{ps:List Str}
theorem K4 {pins:List (Addr×Obj)}{σ:St}{H:Hp}{s:Shared}{u:Value}{v:V}{Q:Value->Shared->Prop}(xc:XC X.K C HE fI fd)(F:FnOk X.prog X.w X.K X.mg X.base CX0 k fI f0 ps (xiSp C fd))(hr:Room (k+1) X.A)(hb:Binds X.K f0 ps [])
  (I:Inv X pins σ H s) (r:RelV v u)
  (h:∀e t dx s',Inv X pins σ (upd (upd (upd H e (ExO e C t none)) e (ExO e C t (some dx))) dx (.xd [(fd,v)])) s'->H e=none->H dx=none->dx≠e->s.heap.objs.size<=e->Q (.ref e) s') :
  wpAny (model X.prog X.w) X.A (call (.ref C) [u]) Q X.xe s:=by
 obtain⟨nm,qq,N,bs,bm,hdct,sn,sub,ab,col,dd,k0,k1,k2,k3,k5,mN,hC,hN,hi,T⟩:=xc.at I.kIn
 obtain⟨oI,hfI,hfc⟩:=xc.fn
 obtain⟨hh,g,d,tk,os⟩:=s
 refine Ul PySem.F.excBase_ValueError T hC hN hi (I.kIn _ _ hfI) hfc (λh' e hl hm=>?_) (by rw[List.length_cons,List.length_nil,sizeLine_eq];omega)
 obtain⟨t,he,htn,ht⟩:=hm.there
 have I2:Inv X pins σ (upd H e (ExO e C t none)) ⟨h',g,d,tk,os⟩:=I.laid (a:=e) (o:=ExO e C t none) (h':=h') (t':=tk) (λb o q=>hm.keeps b o q) hl (uW he)
 have hne:H e=none:=I.hok.fresh hl
 have r2:Vals [V.ref e,v] [Value.ref e,u]:=.cons rfl (.cons r .nil)
 have hsp:xiSp C fd [V.ref e,v] (upd H e (ExO e C t none)) (λv' H2=>v'=.non/\∃t' dx,H dx=none/\dx≠e/\H2=upd (upd (upd H e (ExO e C t none)) e (ExO e C t' (some dx))) dx (.xd [(fd,v)])) E0 :=
  ⟨e,v,t,rfl,zk,λt' dx hdx hde=>⟨rfl,t',dx,by rw[zg hde] at hdx;exact hdx,hde,rfl⟩⟩
 have hl2:([Value.ref e,u]++([]:List Value)).length=ps.length:=by
  have:=F.len _ _ _ _ hsp
  simpa using this
 refine wpAny_call (codeAny_mono (F.run _ X.stack _ _ ⟨[Value.ref e,u],[]⟩ [Value.ref e,u] _ _ E0 (hr.make C [u] []) (I2.env0.make C [u] []) (by have:=hb ⟨h',g,d,tk,os⟩ [Value.ref e,u] I2.kIn hl2;simpa using this) r2 hsp) λr s' hq'=>?_)
 cases r with
 |error e=>exact False.elim hq'
 |ok fl=>
  cases fl with
  |ret u'=>
   obtain⟨v',H',I3,rv,ev,t',dx,e1,e2,e3⟩:=I2.after hq'
   subst ev e3
   refine⟨rv,h e t' dx s' ?_ hne e1 e2 hl⟩
   have:upd (upd H e (ExO e C t none)) e (ExO e C t' (some dx))=upd (upd H e (ExO e C t' none)) e (ExO e C t' (some dx)):=by rw[uF,uF]
   rw[<-this];exact I3
  |next=>exact False.elim hq'
  |brk=>exact False.elim hq'
  |cont=>exact False.elim hq'
end
section
variable {P:Program}{w:World}{K:PySem.W.Frag}{mg:Str->Option Value}{base:Heap}{N:List Str}{qual:Str}{scope:Scope}{f:Addr}{cd:Value}{A:Around}{outer:List Env}{s0:Shared}{H0:Hp}{E:XK}
variable {X:Cx}{C HE fI:Addr}{fd x:Str}{pos p cpos:Pos}{a:Expr}{t:TA}{k:Nat}{f0:FuncData}{ps:List Str}
def sRaise (C:Addr)(fd:Str)(E:XK)(t:TA):TS:=λ_ σ H=>t σ H λvs H1=>∃v,vs=[v]/\∀dx,H1 dx=none->E (.ref C) (some dx) (upd H1 dx (.xd [(fd,v)]))
theorem zab (hX:X=cxOf (CX1 P w) P w K mg base N qual scope f cd A outer s0 H0 E)(xc:XC X.K C HE fI fd)(F:FnOk X.prog X.w X.K X.mg X.base CX0 k fI f0 ps (xiSp C fd))(hr:Room (k+1) X.A)(hb:Binds X.K f0 ps [])
  (hg:Gl X x) (hm:X.mg x=some (.ref C)) (ha:PA X [a] t) (hdb:(x==("__debug__" : Str))=false:=by decide)
  (he:starEach [a] X.env=(false,eval a X.env)::starEach [] X.env:=by rfl) (hpl:(backTo cpos (starEach [] X.env)).any (·.1)=false:=by rfl) :
  PS X (.Raise (some (.Call (.Name x p) [a] [] cpos)) none pos) (sRaise C fd E t):=by
 intro pins s σ H D I h
 have hh:X.A.handled=none:=I.ok.hd (by subst hX;rfl)
 obtain⟨nm,qq,N',bs,bm,hdct,sn,sub,ab,col,dd,k0,k1,k2,k3,k5,mN,hC,hN,hi,T⟩:=xc.at I.ok.mod.kin
 have hbase:bm.contains (.type "BaseException")=true:=T.hasType (by decide)
 rw[arm_exec_Raise]
 refine wpAny_bind (wpAny_standAt ?_)
 show wpAny _ _ (raiseStmt X.env (some (do let v <-eval (.Call (.Name x p) [a] [] cpos) X.env;standAt pos;pure v)) none) _ _ _
 refine G6 (nm:=nm) (q:=qq) (C:=C) (N:=N') (bs:=bs) (bm:=bm) (hdct:=hdct) (sn:=sn) (sub:=sub) (ab:=ab) (col:=col) (dd:=dd) (k0:=k0) (k1:=k1) (k2:=k2) (k3:=k3) (k5:=k5) (newId := "ValueError.__new__") hbase hh (wpAny_bind ?_)
 refine wpAny_Call_Name_kw (xG I hg hm ?_ hdb)
 refine PySem.W.callWith_K (h₀:=X.base) I.ok.mod.kin xc.kp (thn (ha cpos pins s σ H _ I h) λus s1 ⟨vs,H1,I1,r1,v,ev,q⟩=>⟨I1.kIn,?_⟩) he hpl
 subst ev
 cases r1 with
 | @cons _ u _ _ ru r2=>
 cases r2
 refine K4 xc F hr hb I1 ru λe t' dx s' I2 he hdx hde hl=>wpAny_bind (wpAny_standAt (wpAny_pure ?_))
 have hee:upd (upd (upd H1 e (ExO e C t' none)) e (ExO e C t' (some dx))) dx (.xd [(fd,v)]) e=some (ExO e C t' (some dx)):=by rw[zg (Ne.symm hde),zk]
 have ho:=(I2.hok e _ hee).1
 refine⟨e,t',some dx,rfl,I2.bk _ _ hC,ho,?_⟩
 have I3:=Jg I2 hee
 have eq:del (upd (upd (upd H1 e (ExO e C t' none)) e (ExO e C t' (some dx))) dx (.xd [(fd,v)])) e=upd H1 dx (.xd [(fd,v)]):=by
  funext b
  by_cases h1:b=e
  ·subst h1
   rw[uH,zg (Ne.symm hde),he]
  ·rw[jK h1]
   by_cases h2:b=dx
   ·subst h2;rw[zk,zk]
   ·rw[zg h2,zg h2,zg h1,zg h1]
 rw[eq] at I3
 have hs0:X.s₀=s0:=by subst hX;rfl
 have sz:s0.heap.objs.size<=s1.heap.objs.size:=by have:=I1.sz;rw[hs0] at this;exact this
 refine VH hX (C:=.ref C) (a0:=.ref t') (dd:=some dx) (T:=none) I3 ⟨_,_,ho,rfl,rfl,rfl,rfl,λ_=>rfl,λ_ z=>nomatch z⟩ (Nat.le_trans sz hl) (λ_ z=>nomatch z) ?_ (q dx hdx)
 rw[zg (Ne.symm hde)];exact he
end
theorem ZR {M:Model}{h:Heap}{e C:Addr}{oe:Obj}(he:h.get? e=some oe)(hc:oe.cls=.ref C):PySem.W.Looks M h (typeOf (.ref e)) (.ref C):=by
 intro A' Q' E' s' k q
 unfold typeOf
 refine wpAny_bind (wpAny_loadPart (k _ _ he) ?_)
 rw[hc]
 exact wpAny_pure q
section
variable {K:PySem.W.Frag}{e C M:Addr}
theorem JF {oe:Obj}{c:Value}(hc:oe.cls=.ref C)(z:PySem.W.kitOne K (.ref C) c=some true):Answers (λs=>K.In s.heap/\s.heap.get? e=some oe) (.ref e) c true:=by
 intro dep tk prog w A R s hs
 obtain⟨h0,g,d,tt,os⟩:=s
 obtain⟨⟨X,p⟩,hq⟩:=hs
 have LT:=ZR (M:=model prog w) p hc
 unfold PySem.W.kitOne at z
 unfold Builtin.«isinstance.nested»
 refine wpAny_bind (LT.at ?_)
 by_cases q:((Value.ref C)==c)=true
 ·rw[if_pos q]
  first
   |exact wpAny_bind (wpAny_rule (hq tt))
   |exact wpAny_bind (wpAny_rule (wpAny_pure (hq tt)))
 ·rw[if_neg q] at z
  rw[if_neg q]
  obtain⟨hty,his,hsub⟩:=PySem.W.kit_cls (M:=model prog w) X z
  have LI:PySem.W.Looks (model prog w) h0 (isInstance (.ref e) c) true:=LT.andThen hsub
  refine wpAny_bind (hty.at ?_)
  rw[if_pos (by decide)]
  k_delta "plainIsInstance"
  refine wpAny_bind (wpAny_bind (his.at ?_))
  simp only[Bool.not_true,Bool.false_eq_true,if_false]
  refine wpAny_bind (LI.at ?_)
  first
   |exact wpAny_pure (wpAny_pure (hq tt))
   | (simp only[if_true];first | exact wpAny_pure (wpAny_pure (hq tt)) | exact wpAny_pure (hq tt) | exact wpAny_bind (wpAny_pure (wpAny_pure (hq tt))))
theorem KH {prog:Program}{w:World}{A:Around}{E:Value->Shared->Prop}{s:Shared}{Q:Value->Shared->Prop}{oe:Obj}{c:Value}(X:K.In s.heap)(he:s.heap.get? e=some oe)(hc:oe.cls=.ref C)(z:PySem.W.kitOne K (.ref C) c=some true)
  (h:∀tk,Q (.bool true) { s with toks:=tk }):wpAny (model prog w) A (call (.builtin "isinstance") [.ref e,c]) Q E s :=
 call_isinstance (S:=λ_ R s=>(K.In s.heap/\s.heap.get? e=some oe)/\∀tk,R (.ok (.ret (.bool true))) { s with toks:=tk })
  (λprog w A R s hs=>isinstance_outer (JF hc z 0 _ prog w A R s hs) (λz=>nomatch z)) ⟨⟨X,he⟩,h⟩
structure XM (K:PySem.W.Frag)(C M:Addr):Prop where
 sub:PySem.W.subIn K (.ref C) (.ref M)=some true
 nt:PySem.W.instIn K (.ref M) (.type "tuple")=some false
 cls:(PySem.W.clsIn K M).isSome=true
 exc:PySem.W.subIn K (.ref M) (.type "BaseException")=some true
theorem KY {prog:Program}{w:World}{A:Around}{E:Value->Shared->Prop}{s:Shared}{Q:Bool->Shared->Prop}{oe:Obj}(xm:XM K C M)(X:K.In s.heap)(he:s.heap.get? e=some oe)(hc:oe.cls=.ref C)(h:Q true s) :
  wpAny (model prog w) A (excMatches (.ref e) (.ref M)) Q E s:=by
 obtain⟨hh,g,d,t,os⟩:=s
 have L0:=PySem.W.looks_instIn (M:=model prog w) X xm.nt
 have L1:=ZR (M:=model prog w) he hc
 have L2:=PySem.W.looks_subIn (M:=model prog w) X xm.sub
 have L3:=PySem.W.looks_subIn (M:=model prog w) X xm.exc
 have L4:PySem.W.Looks (model prog w) hh (isType (.ref M)) true:=by
  have z0:=xm.cls
  unfold PySem.W.clsIn at z0
  split at z0
  ·rename_i c' d' cd' sl' ho
   intro A' Q' E' s' k q
   unfold isType loadHead
   exact wpAny_bind (wpAny_loadPart (k _ _ (X _ _ ho)) (wpAny_pure q))
  ·cases z0
 unfold excMatches isExcClass
 repeat (first | with_reducible refine L0.at ?_ | with_reducible refine L1.at ?_ | with_reducible refine L2.at ?_ | with_reducible refine L3.at ?_ | with_reducible refine L4.at ?_ | wp_step)
 all_goals first | exact h | skip
end
section
variable {X:Cx}{pins:List (Addr×Obj)}{σ:St}{H:Hp}{s:Shared}{h':Heap}{e:Addr}{T:Option Addr}
def Own (X:Cx)(pins:List (Addr×Obj))(H:Hp)(b:Addr):Prop:=X.s₀.heap.objs.size<=b/\b≠X.env.locals/\(∀x c,X.env.cells.lookup x=some c->c≠b)/\(∀p∈X.pn++pins,p.1≠b)/\H b=none/\b∉X.fs
theorem uU {s1:Shared}{H1:Hp}(I:Inv X pins σ H1 s1){b:Addr}(h:s1.heap.objs.size<=b)(n:H b=none):Own X pins H b:=by
 refine⟨Nat.le_trans I.sz h,Nat.ne_of_gt (Nat.lt_of_lt_of_le I.lt h),λx c q=>?_,λp hp=>?_,n,I.nofs h⟩
 ·obtain⟨v,o,ho,_⟩:=I.cell x c q
  exact Nat.ne_of_lt (Nat.lt_of_lt_of_le (Heap.lt_size ho) h)
 ·exact Nat.ne_of_lt (Nat.lt_of_lt_of_le (Heap.lt_size (I.pin p hp).1) h)
theorem ZX (I:Inv X pins σ H s)(K:Kpt (frs X.stack) e T s.heap h')(h1:Own X pins H e)(h2:∀t,T=some t->Own X pins H t):Inv X pins σ H { s with heap:=h' }:=by
 have sub:∀b,b∈frs X.stack->b=X.env.locals∨b∈X.fs:=λb hb=>List.mem_cons.mp (I.stkSub b hb)
 have ne:∀b,b∉(e::T.toList)->b≠e/\T≠some b:=λb hb=>by
  refine⟨λz=>hb (by rw[z];exact .head _),λz=>hb ?_⟩
  rw[z];exact .tail _ (.head _)
 have tr:∀b u,H b=some u->b≠e/\T≠some b:=λb u q=>by
  constructor
  ·intro z
   rw[z,h1.2.2.2.2.1] at q
   cases q
  ·intro z
   have:=(h2 b z).2.2.2.2.1
   rw[this] at q
   cases q
 refine I.step (g':=s.gens) (t':=s.toks) (d':=s.drawn) (ch:=e::T.toList) (λb hb=>?_) (λb o hL hf hc q n=>?_) (λb o hL hf hc q n=>?_) (λb o hc q n=>n) (λb o hc q=>?_) (λ_ _ q=>q) (λ_ _ _ q=>q) (λb ps q=>⟨#[],by rw[q];simp⟩) (λm hm=>?_) (λb u q=>?_) I.bare
 ·have:Own X pins H b:=by
   rcases List.mem_cons.mp hb with rfl | z
   ·exact h1
   ·exact h2 b (by cases T with | none=>cases z | some t=>simp at z;rw[z])
  exact⟨.inr this.1,this.2.1,this.2.2.1,this.2.2.2.1⟩
 ·obtain⟨n1,n2⟩:=ne b hc
  exact (K b o n1 n2 q).1 λz=>(sub b z).elim hL hf
 ·obtain⟨n1,n2⟩:=ne b hc
  exact (K b o n1 n2 q).2
 ·obtain⟨n1,n2⟩:=ne b hc
  obtain⟨sl,z⟩:=(K b o n1 n2 q).2
  exact⟨_,z⟩
 ·obtain⟨o,es,ep,ho,r⟩:=hm
  obtain⟨sl,z⟩:=(K _ o (Ne.symm h1.2.1) (λz=>(h2 _ z).2.1 rfl) ho).2
  exact⟨_,es,ep,z,r⟩
 ·refine (I.hok b u q).stay (λc v hc z=>?_) (λ_ z=>z) λ_ _ z=>z
  have hn:∃u',H c=some u':=by
   rcases hc with rfl | z
   ·exact⟨u,q⟩
   ·exact⟨_,z⟩
  obtain⟨u',hu⟩:=hn
  obtain⟨n1,n2⟩:=tr c u' hu
  refine (K c v n1 n2 z).1 λhf=>?_
  rw[I.stkFree c hf] at hu;cases hu
theorem Qs {M:Model}{A:Around}{E:Value->Shared->Prop}{c a0:Value}{dd:Option Addr}{t:Addr}{Q:Unit->Shared->Prop}(ht:Trc s.heap e c dd a0 (some t))
  (h:∀h',Trc h' e c dd a0 (some t)->Kpt [] e (some t) s.heap h'->Q () { s with heap:=h' }):wpAny M A (setFlight (.ref e) none) Q E s:=by
 obtain⟨oe,vs,he,rfl,rfl,hd,h0,hn,hs⟩:=ht
 obtain⟨h1,hte,oT,ts,hT,hdT,h3⟩:=hs t rfl
 have sz:3 < ts.size:=(Array.getElem?_eq_some_iff.mp h3).1
 unfold setFlight
 refine wpAny_bind (wpAny_field he hd h1 ?_)
 rw[if_pos (show (Value.ref t != Value.none)=true from by simp)]
 refine wpAny_setField hT hdT sz (h _ ⟨oe,vs,?_,rfl,rfl,hd,h0,hn,λt' q=>?_⟩ λb o hb hbt q=>?_)
 ·rw[Heap.get?_update_other _ _ hte];exact he
 ·cases q
  refine⟨h1,hte,_,_,Heap.get?_update_self _ hT (Obj.isFreed_of_fields (Obj.data_mapFields hdT _)),Obj.data_mapFields hdT _,?_⟩
  rw[Array.getElem?_setIfInBounds_self_of_lt sz];rfl
 ·have:(s.heap.update t (Obj.mapFields (·.setIfInBounds 3 ((none:Option Addr).elim Value.none λf=>rawInt f)))).get? b=some o:=by
   rw[Heap.get?_update_other _ _ (λz=>hbt (by rw[z]))];exact q
  exact⟨λ_=>this,o.slots,this⟩
theorem Kpt.wide {S S':List Addr}{h h':Heap}(K:Kpt S e T h h')(hs:∀b∈S,b∈S'):Kpt S' e T h h':=λb o n1 n2 q=>⟨λhb=>(K b o n1 n2 q).1 λz=>hb (hs b z),(K b o n1 n2 q).2⟩
theorem Ji {M:Model}{A:Around}{E:Value->Shared->Prop}{i:Nat}{n:Str}{pos:Pos}{Q:Unit->Shared->Prop}(I:Inv X pins σ H s)(hN:X.N.Nodup)(hi:X.N[i]?=some n)(hl:X.env.scope.names.lookup n=some .local)
  (h:∀s',Inv X pins (σ.set i none) H s'->Q () s'):wpAny M A (do bindName X.env n .none;unbindBehindTheSuite X.env n pos) Q E s:=by
 refine wpAny_bind (wpAny_bindName (qG (v:=.non) I hN hi (.inl hl) rfl (λs1 I1=>?_) (.inr hl)))
 have hiσ:i < σ.length:=by rw[I.len];exact (List.getElem?_eq_some_iff.mp hi).1
 obtain⟨m,hn,hlk⟩:=id I1.loc
 have hcls:(X.env.scope.kind==.class||(X.env.scope.kind==.module&&X.env.locals != X.env.globals))=false:=by rw[I.ok.kind];rfl
 obtain⟨u,ru,look⟩:=hlk i n .non hi (List.getElem?_set_self hiσ) (.inl hl)
 have hm:m n=some u:=by
  rcases look with⟨_,z⟩ | ⟨z,_⟩
  ·exact z
  ·have z':X.env.scope.names.lookup n=some .cell∨X.env.scope.names.lookup n=some .free:=z
   rw[hl] at z'
   rcases z' with z' | z'<;>cases z'
 unfold unbindBehindTheSuite
 refine wpAny_onRaise (wpAny_unbindName_local hl hn hm hcls λh' w hn' hs=>h _ ?_)
 obtain⟨oL,_,_,hoL,_⟩:=id hn
 have cne:=I1.cne
 refine⟨I1.ok,I1.os,I1.bare,⟨λb o e n hb hx=>?_,λb o e n hb hx=>?_,I1.base.free,λb o e hx=>?_,I1.base.tups,I1.base.frzs,I1.base.tbls⟩,⟨_,hn',λj y v' e1 e2 e3=>?_⟩,λy c e=>?_,I1.free,I1.freeC,λp hp=>?_,λb ob e=>?_,by simpa using I.len⟩
 ·exact (hs.2 b (Nat.ne_of_lt (Nat.lt_of_lt_of_le (Heap.lt_size e) I1.ok.above))).trans (I1.base.keep b o e n hb hx)
 ·obtain⟨sl,e1⟩:=I1.base.slot b o e n hb hx
  exact⟨sl,(hs.2 b (Nat.ne_of_lt (Nat.lt_of_lt_of_le (Heap.lt_size e) I1.ok.above))).trans e1⟩
 ·obtain⟨o',e1⟩:=I1.base.there b o e hx
  exact⟨o',(hs.2 b (Nat.ne_of_lt (Nat.lt_of_lt_of_le (Heap.lt_size e) I1.ok.above))).trans e1⟩
 ·by_cases hj:j=i
  ·subst hj
   rw[List.getElem?_set_self hiσ] at e2
   cases e2
  ·rw[List.getElem?_set_ne (Ne.symm hj)] at e2
   obtain⟨u',r',q⟩:=hlk j y v' e1 (by rw[List.getElem?_set_ne (Ne.symm hj)];exact e2) e3
   refine⟨u',r',?_⟩
   rcases q with⟨k,e⟩ | ⟨k,c,e,z⟩
   ·refine .inl ⟨k,?_⟩
    have:y≠n:=λe=>hj (qF hN e1 (e ▸ hi))
    simp[this,e]
   ·exact .inr ⟨k,c,e,z.sameBut hs (cne y c e)⟩
 ·obtain⟨w',z⟩:=I1.cell y c e
  exact⟨w',z.sameBut hs (cne y c e)⟩
 ·obtain⟨e,n,ne,nf,d⟩:=I1.pin p hp
  exact⟨(hs.2 p.1 ne).trans e,n,ne,nf,d⟩
 ·refine (I1.hok b ob e).stay (λc w' hc q=>(hs.2 c ?_).trans q) (λ_ q=>q) λ_ _ q=>q
  rintro rfl
  have hf:=I1.free
  rcases hc with rfl | hc
  ·rw[hf] at e;cases e
  ·rw[hf] at hc;cases hc
end
def RX (X:Cx)(e:Expr)(r:St->Hp->XK->Prop):Prop:=∀(pins:List (Addr×Obj))(s:Shared)(σ:St)(H:Hp)(E:XK)(Ew:Value->Shared->Prop),Inv X pins σ H s->r σ H E ->
 (∀H1 s1 ex s',Inv X pins σ H1 s1->CX1 X.prog X.w X.stack H1 s1 E ex s'->Ew ex s')->wpAny (model X.prog X.w) X.A (eval e X.env) (λ_ _=>False) Ew s
def RSs (X:Cx)(sts:List Stmt)(r:St->Hp->(St->XK)->Prop):Prop:=∀(pins:List (Addr×Obj))(s:Shared)(σ:St)(H:Hp)(E:St->XK)(Ew:Value->Shared->Prop),Inv X pins σ H s->r σ H E ->
 (∀σ' H1 s1 ex s',Inv X pins σ' H1 s1->CX1 X.prog X.w X.stack H1 s1 (E σ') ex s'->Ew ex s')->wpAny (model X.prog X.w) X.A (execs sts X.env) (λ_ _=>False) Ew s
def cxE (X:Cx)(ea:Addr)(pn:List (Addr×Obj)):Cx:={ X with A:=X.A.mark (some (.ref ea)),calm:=false,pn:=pn++X.pn,xe:=λ_ _=>False }
section
variable {X:Cx}{pins:List (Addr×Obj)}{σ:St}{H:Hp}{s:Shared}{ea:Addr}{pn:List (Addr×Obj)}
theorem ok_in (ok:X.Ok):(cxE X ea pn).Ok :=
 ⟨ok.mod,ok.kind,ok.glob,ok.blt,ok.above,ok.inj,ok.has,ok.cab,λz=>(nomatch z),ok.frames,ok.stk,ok.exf,ok.bs,ok.bsz,ok.noex,ok.exfs,ok.funs,ok.frf⟩
theorem WR (I:Inv X pins σ H s)(h:∀p∈pn,s.heap.get? p.1=some p.2/\H p.1=none/\p.1≠X.env.locals/\p.1∉X.fs/\∀v,p.2.data≠.cell v):Inv (cxE X ea pn) pins σ H s :=
 ⟨ok_in I.ok,I.os,I.bare,I.base,I.loc,I.cell,I.free,I.freeC,λp hp=>by
  have hp':p∈(pn++X.pn)++pins:=hp
  rw[List.append_assoc] at hp'
  rcases List.mem_append.mp hp' with z | z
  ·exact h p z
  ·exact I.pin p z,I.hok,I.len⟩
theorem RD (ok:X.Ok)(I:Inv (cxE X ea pn) pins σ H s):Inv X pins σ H s :=
 ⟨ok,I.os,I.bare,I.base,I.loc,I.cell,I.free,I.freeC,λp hp=>I.pin p (by
  show p∈(pn++X.pn)++pins
  rw[List.append_assoc];exact List.mem_append_right _ hp),I.hok,I.len⟩
end
def tTry (C:Addr)(ie:Nat)(r:St->Hp->(St->XK)->Prop)(ts:Addr->Addr->TS):TS:=λD σ H=>r σ H λσ' C' dd H'=>C'=.ref C/\∃dx,dd=some dx /\
 ∀ea,H' ea=none->ts ea dx { nx:=λσ2 H2=>D.nx (σ2.set ie none) H2,rt:=λ_ _=>False } (σ'.set ie (some (.ref ea))) H'
section
variable {X:Cx}{C MC:Addr}{ie:Nat}{r:St->Hp->(St->XK)->Prop}{ts:Addr->Addr->TS}{body suite:List Stmt}{b0:Stmt}{xM n:Str}{pM hpos pos:Pos}
theorem R7 (rb:RSs X body r)(hg:Gl X xM)(hm:X.mg xM=some (.ref MC))(xm:XM X.K C MC)(hN:X.N.Nodup)(hi:X.N[ie]?=some n)(hl:X.env.scope.names.lookup n=some .local)
  (hstk:X.stack=X.env::X.outer/\X.env.frame=some X.env.locals)
  (hs:∀ea oe dx,oe.cls=.ref C->oe.dict=some dx->(∃fs,oe.data=.fields fs)->PSs (cxE X ea [(ea,oe)]) (b0::suite) (ts ea dx)) (hdb:(xM==("__debug__" : Str))=false:=by decide) :
  PS X (.Try body [.ExceptHandler (some (.Name xM pM)) (some n) (b0::suite) hpos] [] [] pos) (tTry C ie r ts):=by
 intro pins s σ H D I h
 refine wpAny_Try_except (wpAny_mono (rb pins s σ H _ _ I h (λσ' H1 s1 ex s' I1 hx=>?_)) (λ_ _ z=>z.elim) λ_ _ z=>z)
 obtain⟨ea,C',dd,a0,T,H',rfl,hos,bare,un,hok,ht,h1,h2,h3,h4,rfl,dx,rfl,q⟩:=hx
 have I2:Inv X pins σ' H' s':=I1.call' hos un hok bare λb z=>absurd z (by simp)
 have o1:Own X pins H' ea:=uU I1 h1 h3
 have o2:Own X pins H' T:=uU I1 h2 h4
 have hfr:X.A.frames=some (X.env::X.outer):=by rw[I.ok.frames,hstk.1]
 have hff:s'.heap.FunFrames X.base (X.env::X.outer):=by have:=I2.stack;rw[hstk.1] at this;exact this
 refine Wk hfr hff hstk.2 ht λh5 T5 t5 l5 k5=>?_
 rw[<-hstk.1] at k5
 have I5:=ZX I2 k5 o1 λt z=>by cases z;exact o2
 have o5:Own X pins H' T5:=uU I2 l5 (I2.hok.fresh l5)
 have I5':Inv (cxE X ea []) pins σ' H' { s' with heap:=h5 }:=WR I5 λp hp=>nomatch hp
 obtain⟨oe5,vs5,he5,hc5,hd5,hf5,_⟩:=id t5
 refine wpAny_handleBy_cons (codeAny_handlers_test (xG (X:=cxE X ea []) I5' hg hm ?_ hdb)) (by intro z;cases z)
 refine KY xm I5.kIn he5 hc5 ?_
 refine codeAny_handlers_suite_as ?_
 refine Qs (s:={ s' with heap:=h5 }) t5 λh6 t6 k6=>?_
 have I6:=ZX (s:={ s' with heap:=h5 }) I5 (k6.wide (S':=frs X.stack) λb z=>nomatch z) o1 λt z=>by cases z;exact o5
 refine ua (X:=X) (v:=.ref ea) I6 hN hi (.inl hl) rfl (λs7 I7 sb=>?_) (.inr hl)
 obtain⟨oe,vs,he,hc,hd,hf,_⟩:=id t6
 have he7:s7.heap.get? ea=some oe:=by
  obtain⟨a,sb1,sb2⟩:=sb
  refine (sb1.2 ea ?_).trans he
  rintro rfl
  rcases sb2 with z | z
  ·exact o1.2.1 z
  ·exact o1.2.2.1 n ea z rfl
 have I7':Inv (cxE X ea [(ea,oe)]) pins (σ'.set ie (some (.ref ea))) H' s7:=WR I7 λp hp=>by
  cases hp with
  |head=>exact⟨he7,h3,o1.2.1,o1.2.2.2.2.2,λv z=>by rw[hf] at z;cases z⟩
  |tail _ z=>cases z
 refine wpAny_mono (hs ea oe dx hc hd ⟨vs,hf⟩ pins s7 _ H' _ I7' (q ea h3)) (λf s8 z=>?_) λ_ _ z=>False.elim z
 cases f with
 |next=>
  obtain⟨σ8,H8,I8,q8⟩:=z
  exact Ji (RD I.ok I8) hN hi hl λs9 I9=>⟨_,_,I9,q8⟩
 |ret v=>obtain⟨_,_,_,_,_,z⟩:=z;exact z.elim
 |brk=>obtain⟨_,_,_,z⟩:=z;exact z.elim
 |cont=>obtain⟨_,_,_,z⟩:=z;exact z.elim
end
section
variable {X:Cx}{C HE fI ea dx M2:Addr}{oe:Obj}{fd n x y:Str}{ie iy:Nat}{pos p p2 p3 pos2 pos3:Pos}{ta tb:TE}
def rIsE (ea M2:Addr):List V->Hp->VK->Prop:=λxs H Q=>xs=[.ref ea,.ref M2]/\Q (.bl true) H
theorem JQ (hpn:(ea,oe)∈X.pn)(hc:oe.cls=.ref C)(z:PySem.W.kitOne X.K (.ref C) (.ref M2)=some true):CallR X (.builtin "isinstance") (rIsE ea M2):=by
 intro pins s σ H xs us Q I r h
 obtain⟨rfl,q⟩:=h
 cases r with
 | @cons _ u1 _ _ r1 r2=>
 cases r2 with
 | @cons _ u2 _ _ r3 r4=>
 cases r4
 obtain rfl:u1=Value.ref ea:=r1
 obtain rfl:u2=Value.ref M2:=r3
 exact KH I.kIn (I.pin (ea,oe) (List.mem_append_left _ hpn)).1 hc z λtk=>⟨.bl true,H,I.tok tk,rfl,q⟩
def tAtE (ie:Nat)(ea dx:Addr)(fd:Str):TE:=λσ H Q=>σ[ie]?=some (some (.ref ea))/\∃v,H dx=some (.xd [(fd,v)])/\Q v H
theorem Kz (xc:XC X.K C HE fI fd)(hpn:(ea,oe)∈X.pn)(hc:oe.cls=.ref C)(hd:oe.dict=some dx)(hf:∃fs,oe.data=.fields fs)(hv:PE X (.Name n p) (tVar ie))
  (hb:attributeBase (.Name n p) fd X.env (eval (.Name n p) X.env)=eval (.Name n p) X.env:=by rfl):PE X (.Attribute (.Name n p) fd pos) (tAtE ie ea dx fd):=by
 intro pins s σ H Q I h
 obtain⟨e1,v,e2,q⟩:=h
 obtain⟨fs,hf⟩:=hf
 refine Z4 hb (thn (hv pins s σ H (λv H1=>v=.ref ea/\H1=H) I ⟨_,e1,rfl,rfl⟩) λu s1 ⟨x,H1,I1,rx,ex,eH⟩=>?_)
 subst ex eH
 obtain rfl:u=Value.ref ea:=rx
 obtain⟨mA,hn,hr⟩:=(I1.hok dx _ e2)
 have:=hr fd
 simp only[List.lookup,beq_self_eq_true] at this
 obtain⟨w,hw,rw'⟩:=RelO.some_of this
 exact Kj I1.kIn (I1.pin (ea,oe) (List.mem_append_left _ hpn)).1 hc hd hf hn xc.sub xc.ga xc.gt xc.na xc.hd hw (Zr rw') ⟨v,_,I1.tok _,rw',q⟩
def tArg (ie iy:Nat)(ea dx:Addr)(fd:Str):TE:=λσ H Q=>σ[ie]?=some (some (.ref ea))/\∃x,H dx=some (.xd [(fd,.str x)])/\σ[iy]?=some (some (.str x))/\Q (.bl true) H
theorem Gq {pI pN pM pC pA pE' pY pK pB:Pos}(xc:XC X.K C HE fI fd)(hpn:(ea,oe)∈X.pn)(hc:oe.cls=.ref C)(hd:oe.dict=some dx)(hf:∃fs,oe.data=.fields fs)(z:PySem.W.kitOne X.K (.ref C) (.ref M2)=some true)
  (hgI:Gl X "isinstance") (hmI:X.mg "isinstance" = none) (hg:Gl X x) (hm:X.mg x=some (.ref M2)) (hv:∀p,PE X (.Name n p) (tVar ie)) (hy:PE X (.Name y pY) (tVar iy)) (hdb:(x==("__debug__" : Str))=false:=by decide)
  (he:starEach [.Name n pN,.Name x pM] X.env=(false,eval (.Name n pN) X.env)::starEach [.Name x pM] X.env:=by rfl) (he2:starEach [.Name x pM] X.env=(false,eval (.Name x pM) X.env)::starEach [] X.env:=by rfl) (hpl:(backTo pC (starEach [.Name x pM] X.env)).any (·.1)=false:=by rfl)
  (hb:attributeBase (.Name n pE') fd X.env (eval (.Name n pE') X.env)=eval (.Name n pE') X.env:=by rfl) :
  PE X (.BoolOp .And [.Call (.Name "isinstance" pI) [.Name n pN,.Name x pM] [] pC,.Compare (.Attribute (.Name n pE') fd pA) [.Eq] [.Name y pY] pK] pB) (tArg ie iy ea dx fd):=by
 have h1:PE X (.Call (.Name "isinstance" pI) [.Name n pN,.Name x pM] [] pC) (tCB (rIsE ea M2) (tCons (tVar ie) (tCons (tC (.ref M2)) tNil))) :=
  xS (JQ hpn hc z) hgI hmI (by decide +kernel) (zJ (hv _) (zJ (Vm hg hm (v:=.ref M2) rfl hdb) zS he2) he) (by decide) (by decide) he hpl
 have h2:PE X (.Compare (.Attribute (.Name n pE') fd pA) [.Eq] [.Name y pY] pK) (tOp rEq (tAtE ie ea dx fd) (tVar iy)):=Vq Ge (Kz xc hpn hc hd hf (hv _) hb) hy (Vs _ (by decide) (by decide))
 refine Dv.pe_imp (ZM h1 (Zj h2)) λσ H Q h=>?_
 obtain⟨e1,w,e2,e3,q⟩:=h
 refine⟨_,e1,rfl,true,rfl,?_⟩
 rw[if_pos rfl]
 refine⟨e1,_,e2,_,e3,rfl,?_⟩
 simpa using q
end
section
variable {X:Cx}{k:Nat}{f:Addr}{f0:FuncData}{ps:List Str}{sp:Sp}{x:Str}{pos p:Pos}{e:Expr}{es:List Expr}{t:TA}{st:Stmt}{rest:List Stmt}{E:XK}
theorem PA.nox {es:List Expr}{t:TA}(h:PA X.nox es t):PA X es t:=λpos pins s σ H Q I hw=>
 wpAny_mono (h pos pins s σ H Q (I.wish _) hw) (λ_ _ ⟨v,H',I',r,q⟩=>⟨v,H',I'.unwish,r,q⟩) λ_ _ z=>False.elim z
theorem PS.nox {st:Stmt}{t:TS}(h:PS X.nox st t):PS X st t:=λpins s σ H D I hw=>
 wpAny_mono (h pins s σ H D (I.wish _) hw) (λ_ _ q=>q.unwish) λ_ _ z=>False.elim z
theorem JD (F:FnOk X.prog X.w X.K X.mg X.base (CX1 X.prog X.w) k f f0 ps sp)(hr:Room k X.A)(hg:Gl X x)(hm:X.mg x=some (.ref f))(hk:PySem.W.keepIn X.K (.ref f)=true)(hb:Binds X.K f0 ps [])
  (ha:PA X.nox (e::es) t) (hdb:(x==("__debug__" : Str))=false:=by decide) (he:starEach (e::es) X.env=(false,eval e X.env)::starEach es X.env:=by rfl) (hpl:(backTo pos (starEach es X.env)).any (·.1)=false:=by rfl) :
  RX X (.Call (.Name x p) (e::es) [] pos) (λσ H E=>t σ H λvs H1=>sp vs H1 (λ_ _=>False) E):=by
 intro pins s σ H E Ew I h hE
 refine wpAny_Call_Name_kw (xG I hg hm ?_ hdb)
 refine PySem.W.callWith_K (h₀:=X.base) I.ok.mod.kin hk (wpAny_mono (ha pos pins s σ H _ (I.wish _) h) (λus s1 ⟨vs,H1,I1,r,q⟩=>⟨I1.kIn,?_⟩) λ_ _ z=>False.elim z) he hpl
 have I1:=I1.unwish
 have hl:(us++([]:List Value)).length=ps.length:=by rw[List.append_nil,<-r.length];exact F.len _ _ _ _ q
 refine wpAny_call (codeAny_mono (F.run X.A X.stack s1 H1 ⟨us,[]⟩ us vs _ E hr I1.env0 (by have:=hb s1 us I1.kIn hl;rw[List.append_nil] at this;exact this) r q) λr s' hq=>?_)
 cases r with
 |error e=>exact hE H1 s1 e s' I1 hq
 |ok fl=>
  cases fl with
  |ret u=>obtain⟨_,_,_,_,_,_,_,z⟩:=hq;exact z
  |next=>exact False.elim hq
  |brk=>exact False.elim hq
  |cont=>exact False.elim hq
theorem Jk {r:St->Hp->XK->Prop}(h:RX X e r)(hs:swapsWith e none pos.line X.env=pure false:=by rfl):RSs X (.Expr e pos::rest) (λσ H E=>r σ H (E σ)):=by
 intro pins s σ H E Ew I hr hE
 refine wpAny_execs_cons (wpAny_Expr_any (wpAny_mono (h pins s σ H (E σ) Ew I hr λH1 s1 ex s' I1 hx=>hE σ H1 s1 ex s' I1 hx) (λ_ _ z=>z.elim) λ_ _ z=>z) I.quiet hs)
theorem Jn {c:Expr}{a b:List Stmt}{tc:TT}{ra rb:St->Hp->(St->XK)->Prop}(hc:PT X.nox c tc)(ha:RSs X a ra)(hb:RSs X b rb):RSs X (.If c a b pos::rest) (λσ H E=>tc σ H λz H1=>if z=true then ra σ H1 E else rb σ H1 E):=by
 intro pins s σ H E Ew I hr hE
 refine wpAny_execs_cons (wpAny_If (wpAny_mono (hc pins s σ H _ (I.wish _) hr) (λz s1 hz=>?_) λ_ _ z=>False.elim z))
 obtain⟨H1,I1,q⟩:=hz
 have I1:=I1.unwish
 cases z with
 |true=>exact wpAny_mono (ha pins s1 σ H1 E Ew I1 q hE) (λ_ _ z=>z.elim) λ_ _ z=>z
 |false=>exact wpAny_mono (hb pins s1 σ H1 E Ew I1 q hE) (λ_ _ z=>z.elim) λ_ _ z=>z
end
end L6
namespace Dv
open PySem PySem.Spec L2 L3 L4 L6
open PyProof.Rows hiding St
def rSp (K:KW)(C:Addr)(fd:Str)(n:Nat)(m:List En->Option D):Sp:=λvs H _ E=>
 ∃F xs d,Same F H/\xs.length=n/\Paired (λx v=>ArgE K F H x v) xs vs/\m xs=some d/\∀dx v F' H',Ext F H F' H'->H' dx=some (.xd [(fd,v)])->Rp K F' d v->E (.ref C) (some dx) H'
structure Rx (P:Program)(w:World)(K:PySem.W.Frag)(mg:Str->Option Value)(base:Heap)(x:Str)(C:Addr)(fd:Str)(k n:Nat)(m:List En->Option D):Prop where
 ex:∃f f0 ps,FnOk P w K mg base (CX1 P w) k f f0 ps (rSp ⟨K,w⟩ C fd n m)/\mg x=some (.ref f)/\PySem.W.keepIn K (.ref f)=true/\Binds K f0 ps []
def lB (K:KW)(B:Bs)(C:Addr)(fd:Str)(E:XK)(g:EnvD->Option D):TS:=λ_ σ H=>
 ∃F ρ d,Rep K B F σ H ρ/\g ρ=some d/\∀dx v F' H',Ext B.F0 B.H0 F' H'->H' dx=some (.xd [(fd,v)])->Rp K F' d v->E (.ref C) (some dx) H'
def DBs (X:Cx)(B:Bs)(C:Addr)(fd:Str)(E:XK)(sts:List Stmt)(g:EnvD->Option D):Prop:=PSs X sts (lB X.kw B C fd E g)
section
variable {P:Program}{w:World}{K:PySem.W.Frag}{mg:Str->Option Value}{base:Heap}{N:List Str}{qual:Str}{scope:Scope}{f:Addr}{cd:Value}{A:Around}{outer:List Env}{s0:Shared}{H0:Hp}{E:XK}
variable {X:Cx}{B:Bs}{C HE fI:Addr}{fd x:Str}{pos p cpos:Pos}{a e:Expr}{es:List Expr}{st:Stmt}{rest:List Stmt}{k n:Nat}{g:EnvD->Option D}{gs:SD}{gxs:EnvD->Option (List En)}{m:List En->Option D}{f0:FuncData}{ps:List Str}
def bSeq (gs:SD)(g:EnvD->Option D):EnvD->Option D:=λρ=>match gs ρ with
 |some (.next ρ')=>g ρ'
 |_=>none
theorem RB (h1:DS X.nox B st gs)(h2:DBs X B C fd E rest g):DBs X B C fd E (st::rest) (bSeq gs g) :=
 xD (xR (PS.nox h1) h2) λD σ H ⟨F,ρ,d,r,hg,k⟩=>by
  unfold bSeq at hg
  split at hg
  ·rename_i ρ' q
   exact⟨F,ρ,_,r,q,λσ' F' H' r' s'=>⟨F',ρ',d,r',hg,k⟩⟩
  ·cases hg
theorem R1 (hX:X=cxOf (CX1 P w) P w K mg base N qual scope f cd A outer s0 H0 E)(xc:XC X.K C HE fI fd)(F:FnOk X.prog X.w X.K X.mg X.base CX0 k fI f0 ps (xiSp C fd))(hr:Room (k+1) X.A)(hb:Binds X.K f0 ps [])
  (hg:Gl X x) (hm:X.mg x=some (.ref C)) (ha:DE X.nox B a g) (hdb:(x==("__debug__" : Str))=false:=by decide)
  (he:starEach [a] X.env=(false,eval a X.env)::starEach [] X.env:=by rfl) (hpl:(backTo cpos (starEach [] X.env)).any (·.1)=false:=by rfl) :
  DBs X B C fd E (.Raise (some (.Call (.Name x p) [a] [] cpos)) none pos::rest) g :=
 xD (xR (zab hX xc F hr hb hg hm (PA.nox (zJ ha zS he)) hdb he hpl) (u:=λ_ _ _=>False) λ_ _ _ _ _ _ z=>z.elim) λD σ H ⟨F,ρ,d,r,hg,k⟩=>by
  refine⟨F,ρ,d,r,hg,λv F' H' e1 p1=>⟨v,rfl,λdx hdx=>?_⟩⟩
  have e2:Ext F' H' F' (upd H' dx (.xd [(fd,v)])):=Ext.new e1.fh hdx
  exact k dx v F' _ ((r.ex.trans e1).trans e2) zk p1
def bCall (m:List En->Option D)(gxs:EnvD->Option (List En)):EnvD->Option D:=λρ=>(gxs ρ).bind m
theorem Z5 {K:KW}{E':XK}{σ:St}{H:Hp}{D:Ends}{Q:VK}(h:lB K B C fd E' (bCall m gxs) D σ H)(hm:∀xs o,m xs=some o->xs.length=n):lNs K B gxs σ H λvs H1=>rSp K C fd n m (vs++[]) H1 Q E':=by
 obtain⟨F,ρ,d,r,hg,k⟩:=h
 unfold bCall at hg
 cases q:gxs ρ with
 |none=>rw[q] at hg;cases hg
 |some xs=>
  rw[q] at hg
  refine⟨F,ρ,xs,r,q,λvs F1 H1 e1 p1=>?_⟩
  show rSp K C fd n m (vs++[]) H1 Q E'
  rw[List.append_nil]
  exact⟨F1,xs,d,e1.fh,hm xs d hg,p1,hg,λdx v F' H' e2 h2 h3=>k dx v F' H' ((r.ex.trans e1).trans e2) h2 h3⟩
theorem Ue (hX:X=cxOf (CX1 P w) P w K mg base N qual scope f cd A outer s0 H0 E)(h:Rx X.prog X.w X.kw X.mg X.base x C fd k n m)(hn:∀xs o,m xs=some o->xs.length=n)(hr:Room k X.A)(hg:Gl X x)(ha:DNs X.nox B (e::es) gxs)
  (hdb:(x==("__debug__" : Str))=false:=by decide +kernel) (he:starEach (e::es) X.env=(false,eval e X.env)::starEach es X.env:=by rfl) (hpl:(backTo cpos (starEach es X.env)).any (·.1)=false:=by rfl)
  (hs:swapsWith (.Call (.Name x p) (e::es) [] cpos) none pos.line X.env=pure false:=by rfl) :
  DBs X B C fd E (.Expr (.Call (.Name x p) (e::es) [] cpos) pos::rest) (bCall m gxs):=by
 obtain⟨f',f0,ps,F,hm,hk,hb⟩:=h.ex
 have F':FnOk X.prog X.w X.K X.mg X.base (CX1 P w) k f' f0 ps (rSp X.kw C fd n m):=by subst hX;exact F
 exact xD (xR (y4 (yX F' hr hg hm hk hb .nil (Wn hX) (PA.nox ha) hdb he hpl) hs) (u:=λ_ _ _=>False) λ_ _ _ _ _ _ z=>z.elim) λD σ H h=>Z5 (D:=D) h hn
theorem VU {y:Str}{yp:Pos}{i:Nat}(hX:X=cxOf (CX1 P w) P w K mg base N qual scope f cd A outer s0 H0 E)(h:Rx X.prog X.w X.kw X.mg X.base x C fd k n m)(hn:∀xs o,m xs=some o->xs.length=n)(hr:Room k X.A)(hg:Gl X x)(ha:DNs X.nox B (e::es) gxs)
  (hy:PG X (.Name y yp) (gName i))
  (hdb:(x==("__debug__" : Str))=false:=by decide +kernel) (he:starEach (e::es) X.env=(false,eval e X.env)::starEach es X.env:=by rfl) (hpl:(backTo cpos (starEach es X.env)).any (·.1)=false:=by rfl)
  (hs:swapsWithSole [.Name y yp] (.Call (.Name x p) (e::es) [] cpos) pos.line X.env=pure false:=by rfl) (hw:swappedStores [.Name y yp] (.Call (.Name x p) (e::es) [] cpos) X.env=pure none:=by rfl)
  (h1:(assignEach [.Name y yp] X.env).map (·.2)=[assign (.Name y yp) X.env]:=by rfl) :
  DBs X B C fd E (.Assign [.Name y yp] (.Call (.Name x p) (e::es) [] cpos) pos::rest) (bCall m gxs):=by
 obtain⟨f',f0,ps,F,hm,hk,hb⟩:=h.ex
 have F':FnOk X.prog X.w X.K X.mg X.base (CX1 P w) k f' f0 ps (rSp X.kw C fd n m):=by subst hX;exact F
 exact xD (xR (qM (yX F' hr hg hm hk hb .nil (Wn hX) (PA.nox ha) hdb he hpl) hy hs hw h1) (u:=λ_ _ _=>False) λ_ _ _ _ _ _ z=>z.elim) λD σ H h=>Z5 (D:=D) h hn
def mirX (N:List Str)(n:Nat)(g:EnvD->Option D):List En->Option D:=λxs=>if xs.length=n then g (stE N (xs.map some)) else none
theorem j7 {g:EnvD->Option D}:∀xs o,mirX N n g xs=some o->xs.length=n:=λxs o h=>by
 unfold mirX at h
 split at h
 ·assumption
 ·cases h
theorem uq {st:Stmt}(F:Fun K x qual st f f0)(S:FnScope N ps (zd st))
  (hb:∀(cdv:Value) (A:Around) (outer:List Env) (s:Shared) (H:Hp) (E:XK) (B:Bs),Room k (A.deeper (envOfC qual (zd st) s.heap.objs.size f cdv)) ->
   DBs (cxOf (CX1 P w) P w K mg base N qual (zd st) f cdv A outer s H E) B C fd E (zi st) g) :
  FnOk P w K mg base (CX1 P w) (k+1) f f0 ps (rSp ⟨K,w⟩ C fd ps.length (mirX N ps.length g)):=by
 obtain⟨oc,od,kV,doc,pm,an,cdv,ct,osl,rfl,lk,hcd⟩:=F.ex
 refine qA lk hcd S (λvs H Q E h=>?_) λA outer s H vs Q E hr h=>?_
 ·obtain⟨F,xs,o,_,hl,hp,_⟩:=h
  rw[<-wc hp];exact hl
 ·obtain⟨F0,xs,d,fh,hl,hp,hm,k⟩:=h
  refine⟨_,hb cdv A outer s H E ⟨F0,H⟩ hr,F0,_,d,jR (ps:=ps) fh hp,?_,k⟩
  unfold mirX at hm
  rw[if_pos hl] at hm
  exact hm
end
def lX (K:KW)(B:Bs)(C:Addr)(fd:Str)(g:EnvD->Option D):St->Hp->(St->XK)->Prop:=λσ H E=>
 ∃F ρ d,Rep K B F σ H ρ/\g ρ=some d/\∀dx v F' H',Rep K B F' σ H' ρ->Same F F'->H' dx=some (.xd [(fd,v)])->Rp K F' d v->E σ (.ref C) (some dx) H'
def DXs (X:Cx)(B:Bs)(C:Addr)(fd:Str)(sts:List Stmt)(g:EnvD->Option D):Prop:=RSs X sts (lX X.kw B C fd g)
theorem Zi {X:Cx}{sts:List Stmt}{r r':St->Hp->(St->XK)->Prop}(h:RSs X sts r)(k:∀σ H E,r' σ H E->r σ H E):RSs X sts r':=λpins s σ H E Ew I q=>h pins s σ H E Ew I (k σ H E q)
section
variable {X:Cx}{B:Bs}{C HE fI MC M2:Addr}{fd x:Str}{pos p cpos:Pos}{a e c:Expr}{es:List Expr}{rest sa sb:List Stmt}{k n:Nat}{g ga gb:EnvD->Option D}{gt:EnvD->Option Bool}{gxs:EnvD->Option (List En)}{m:List En->Option D}
theorem VP (h:Rx X.prog X.w X.kw X.mg X.base x C fd k n m)(hn:∀xs o,m xs=some o->xs.length=n)(hr:Room k X.A)(hg:Gl X x)(ha:DNs X.nox B (e::es) gxs)
  (hdb:(x==("__debug__" : Str))=false:=by decide +kernel) (he:starEach (e::es) X.env=(false,eval e X.env)::starEach es X.env:=by rfl) (hpl:(backTo cpos (starEach es X.env)).any (·.1)=false:=by rfl)
  (hs:swapsWith (.Call (.Name x p) (e::es) [] cpos) none pos.line X.env=pure false:=by rfl) :
  DXs X B C fd (.Expr (.Call (.Name x p) (e::es) [] cpos) pos::rest) (bCall m gxs):=by
 obtain⟨f',f0,ps,F,hm,hk,hb⟩:=h.ex
 refine Zi (Jk (JD F hr hg hm hk hb ha hdb he hpl) hs) λσ H E h=>?_
 obtain⟨F,ρ,d,r,hg,k⟩:=h
 unfold bCall at hg
 cases q:gxs ρ with
 |none=>rw[q] at hg;cases hg
 |some xs=>
  rw[q] at hg
  exact⟨F,ρ,xs,r,q,λvs F1 H1 e1 p1=>⟨F1,xs,d,e1.fh,hn xs d hg,p1,hg,λdx v F' H' e2 h2 h3=>k dx v F' H' (r.ext (e1.trans e2)) (e1.trans e2).ff h2 h3⟩⟩
def bIf (gt:EnvD->Option Bool)(ga gb:EnvD->Option D):EnvD->Option D:=λρ=>(gt ρ).bind λb=>if b=true then ga ρ else gb ρ
theorem G4 (hc:DT X.nox B c gt)(ha:DXs X B C fd sa ga)(hb:DXs X B C fd sb gb):DXs X B C fd (.If c sa sb pos::rest) (bIf gt ga gb) :=
 Zi (Jn hc ha hb) λσ H E ⟨F,ρ,d,r,hg,k⟩=>by
  unfold bIf at hg
  cases q:gt ρ with
  |none=>rw[q] at hg;cases hg
  |some b=>
   rw[q] at hg
   refine⟨F,ρ,b,r,q,λF1 H1 e1=>?_⟩
   have hg:(if b=true then ga ρ else gb ρ)=some d:=hg
   show if b=true then lX X.kw B C fd ga σ H1 E else lX X.kw B C fd gb σ H1 E
   cases b with
   |true=>rw[if_pos rfl] at hg ⊢;exact⟨F1,ρ,d,r.ext e1,hg,λdx v F' H' r' s'=>k dx v F' H' r' (e1.ff.trans s')⟩
   |false=>rw[if_neg (by decide)] at hg ⊢;exact⟨F1,ρ,d,r.ext e1,hg,λdx v F' H' r' s'=>k dx v F' H' r' (e1.ff.trans s')⟩
theorem JU {K:KW}{F:Hp}{σ:St}{H:Hp}{ρ:EnvD}{i:Nat}(r:Rep K B F σ H ρ)(h:∀x,ρ[i]?≠some (some x)):Rep K B F (σ.set i none) H ρ:=by
 have ne:∀ {j:Nat} {x:En},ρ[j]?=some (some x)->j≠i:=fun {j x} e z=>by subst z;exact h x e
 refine⟨r.ex,by simp[r.len],λj x e=>?_,λj l y z v w e1 e2 s1 s2 hne=>?_⟩
 ·obtain⟨v,h1,h2⟩:=r.ents j x e
  exact⟨v,by rw[List.getElem?_set_ne (Ne.symm (ne e))];exact h1,h2⟩
 ·rw[List.getElem?_set_ne (Ne.symm (ne e1))] at s1
  rw[List.getElem?_set_ne (Ne.symm (ne e2))] at s2
  exact r.dj j l y z v w e1 e2 s1 s2 hne
def sTryA (i iy ie:Nat)(gb:EnvD->Option D):SD:=λρ=>match ρ[i]? with
 |some (some (.acc ds))=>match gb ρ with
  |some (.str x)=>match gv iy ρ with
   |some (.str y)=>match ρ[ie]? with
    |some none=>if x=y/\ie≠i/\ie≠iy/\ds.length<=TOP then some (.next (ρ.set i (some (.acc (ds++[.bl true]))))) else none
    |_=>none
   |_=>none
  |_=>none
 |_=>none
variable {xM y n2 xI fx:Str}{ie iy i:Nat}{pM hpos pI pN pC pA pE' pY pK pB pF apos epos:Pos}{body:List Stmt}{nm:Str}
theorem Uh (hb:DXs X B C fd body gb)(hgM:Gl X xM)(hmM:X.mg xM=some (.ref MC))(xm:XM X.K C MC)(xc:XC X.K C HE fI fd)(z:PySem.W.kitOne X.K (.ref C) (.ref M2)=some true)
  (hN:X.N.Nodup) (hie:X.N[ie]?=some nm) (hl:X.env.scope.names.lookup nm=some .local) (hstk:X.stack=X.env::X.outer/\X.env.frame=some X.env.locals)
  (hgI:Gl X "isinstance") (hmI:X.mg "isinstance" = none) (hg2:Gl X xI) (hm2:X.mg xI=some (.ref M2)) (hi:X.N[i]?=some fx) (hiV:Vis X.env.scope fx) (hiy:X.N[iy]?=some y) (hiyV:Vis X.env.scope y)
  (d1:(xM==("__debug__" : Str))=false:=by decide +kernel) (d2:(xI==("__debug__" : Str))=false:=by decide +kernel) (d3:(nm==("__debug__" : Str))=false:=by decide +kernel) (d4:(nm==("__classdict__" : Str))=false:=by decide +kernel)
  (d5:(y==("__debug__" : Str))=false:=by decide +kernel) (d6:(y==("__classdict__" : Str))=false:=by decide +kernel) (d7:(fx==("__debug__" : Str))=false:=by decide +kernel) (d8:(fx==("__classdict__" : Str))=false:=by decide +kernel)
  (he:starEach [.Name nm pN,.Name xI pM] X.env=(false,eval (.Name nm pN) X.env)::starEach [.Name xI pM] X.env:=by rfl) (he2:starEach [.Name xI pM] X.env=(false,eval (.Name xI pM) X.env)::starEach [] X.env:=by rfl) (hpl:(backTo pC (starEach [.Name xI pM] X.env)).any (·.1)=false:=by rfl)
  (hba:attributeBase (.Name nm pE') fd X.env (eval (.Name nm pE') X.env)=eval (.Name nm pE') X.env:=by rfl)
  (hbase:attributeBase (.Name fx pF) "append" X.env (eval (.Name fx pF) X.env)=eval (.Name fx pF) X.env:=by rfl)
  (hfew:((backTo cpos (starEach [.BoolOp .And [.Call (.Name "isinstance" pI) [.Name nm pN,.Name xI pM] [] pC,.Compare (.Attribute (.Name nm pE') fd pA) [.Eq] [.Name y pY] pK] pB] X.env)).all (λx=>!x.1)&&(backToKw cpos (keywordEach [] X.env)).all (λx=>x.1.isSome)
   && decide (([.BoolOp .And [.Call (.Name "isinstance" pI) [.Name nm pN,.Name xI pM] [] pC,.Compare (.Attribute (.Name nm pE') fd pA) [.Eq] [.Name y pY] pK] pB]:List Expr).length+([]:List Keyword).length+(if ([]:List Keyword).isEmpty then 0 else 1) < 30))=true:=by rfl)
  (hline:(apos.endLine==cpos.line)=true:=by rfl)
  (hs:starEach [.BoolOp .And [.Call (.Name "isinstance" pI) [.Name nm pN,.Name xI pM] [] pC,.Compare (.Attribute (.Name nm pE') fd pA) [.Eq] [.Name y pY] pK] pB] X.env=(false,eval (.BoolOp .And [.Call (.Name "isinstance" pI) [.Name nm pN,.Name xI pM] [] pC,.Compare (.Attribute (.Name nm pE') fd pA) [.Eq] [.Name y pY] pK] pB) X.env)::starEach [] X.env:=by rfl)
  (hplain:(backTo cpos (starEach [] X.env)).any (·.1)=false:=by rfl)
  (hsw:swapsWith (.Call (.Attribute (.Name fx pF) "append" apos) [.BoolOp .And [.Call (.Name "isinstance" pI) [.Name nm pN,.Name xI pM] [] pC,.Compare (.Attribute (.Name nm pE') fd pA) [.Eq] [.Name y pY] pK] pB] [] cpos) none epos.line X.env=pure false:=by rfl) :
  DS X B (.Try body [.ExceptHandler (some (.Name xM p)) (some nm) [.Expr (.Call (.Attribute (.Name fx pF) "append" apos) [.BoolOp .And [.Call (.Name "isinstance" pI) [.Name nm pN,.Name xI pM] [] pC,.Compare (.Attribute (.Name nm pE') fd pA) [.Eq] [.Name y pY] pK] pB] [] cpos) epos] hpos] [] [] pos)
   (sTryA i iy ie gb):=by
 refine zC (R7 (ts:=λea dx=>tDrop (tBM X.K "list" WN (tVar i) (tCons (tArg ie iy ea dx fd) tNil))) hb hgM hmM xm hN hie hl hstk (λea oe dx hc hd hf=>ji ?_) d1) λD σ H h=>?_
 ·exact y4 (jb (X:=cxE X ea [(ea,oe)]) PySem.F.plainAttrs_list PySem.F.slot_list_append PySem.F.type_list_append kr (jD hi hiV d7 d8) (zJ (Gq (X:=cxE X ea [(ea,oe)]) xc (List.mem_append_left _ (.head _)) hc hd hf z hgI hmI hg2 hm2 (λ_=>jD hie (.inl hl) d3 d4) (jD hiy hiyV d5 d6) d2 he he2 hpl hba) zS hs) hbase hfew hline hs hplain) hsw
 ·obtain⟨F,ρ,fl,r,hg,k⟩:=h
  unfold sTryA at hg
  split at hg
  ·rename_i ds q
   split at hg
   ·rename_i x0 q1
    split at hg
    ·rename_i y0 q2
     split at hg
     ·rename_i q3
      split at hg
      ·rename_i hh
       obtain⟨rfl,n1,n2,hl⟩:=hh
       cases hg
       refine⟨F,ρ,_,r,q1,λdx v F' H' r' s' hdx hv=>⟨rfl,dx,rfl,λea hea=>?_⟩⟩
       have hv:v=.str x0:=hv
       subst hv
       have len:ie < σ.length:=by rw[r.len];exact (List.getElem?_eq_some_iff.mp q3).1
       obtain⟨v1,hv1,a1,vs1,rfl,h1,h2,h3,h4⟩:=r'.ents i _ q
       have q2':ρ[iy]?=some (some (.val (.str x0))):=by
        unfold gv at q2
        split at q2
        ·rename_i z;cases q2;exact z
        ·cases q2
       obtain⟨v2,hv2,e2⟩:=r'.ents iy _ q2'
       have e2:v2=.str x0:=e2
       subst e2
       have nx:∀x,(ρ.set i (some (.acc (ds++[.bl true]))))[ie]?≠some (some x):=λx z=>by
        rw[List.getElem?_set_ne (Ne.symm n1),q3] at z
        cases z
       refine⟨.ref a1,by rw[List.getElem?_set_ne n1];exact hv1,.inl ⟨rfl,_,.of h1⟩,?_⟩
       refine⟨List.getElem?_set_self len,x0,hdx,by rw[List.getElem?_set_ne n2];exact hv2,a1,vs1,_,rfl,rfl,h1,ZI (by rw[<-h4.length];exact hl),?_⟩
       show D.nx _ _
       rw[List.set_set]
       exact k _ F' _ (JU (r'.write q rfl hv1 h2 h3 ⟨a1,_,rfl,zk,h2,h3,h4.snoc rfl⟩ rfl) nx) s'
      ·cases hg
     ·cases hg
    ·cases hg
   ·cases hg
  ·cases hg
end
structure Exc (P:Program)(w:World)(K:PySem.W.Frag)(mg:Str->Option Value)(base:Heap)(CT HE fI:Addr)(fd xT xH:Str):Prop where
 xc:XC K CT HE fI fd
 xm:XM K CT CT
 xmH:XM K CT HE
 z:PySem.W.kitOne K (.ref CT) (.ref HE)=some true
 zT:PySem.W.kitOne K (.ref CT) (.ref CT)=some true
 mT:mg xT=some (.ref CT)
 mH:mg xH=some (.ref HE)
 ini:∃f0 ps,FnOk P w K mg base CX0 1 fI f0 ps (xiSp CT fd)/\Binds K f0 ps []
section
variable {P:Program}{w:World}{K:PySem.W.Frag}{mg:Str->Option Value}{base:Heap}{N:List Str}{qual:Str}{scope:Scope}{f:Addr}{cd:Value}{A:Around}{outer:List Env}{s0:Shared}{H0:Hp}{E:XK}
variable {B:Bs}{CT HE fI:Addr}{fd xT xH:Str}{pos p cpos:Pos}{a:Expr}{rest:List Stmt}{g:EnvD->Option D}
theorem Re (U:Exc P w K mg base CT HE fI fd xT xH)(hr:Room 2 (cxOf (CX1 P w) P w K mg base N qual scope f cd A outer s0 H0 E).A)(hg:Gl (cxOf (CX1 P w) P w K mg base N qual scope f cd A outer s0 H0 E) xT)
  (ha:DE (cxOf (CX1 P w) P w K mg base N qual scope f cd A outer s0 H0 E).nox B a g) (hdb:(xT==("__debug__" : Str))=false:=by decide +kernel)
  (he:starEach [a] (cxOf (CX1 P w) P w K mg base N qual scope f cd A outer s0 H0 E).env=(false,eval a (cxOf (CX1 P w) P w K mg base N qual scope f cd A outer s0 H0 E).env)::starEach [] (cxOf (CX1 P w) P w K mg base N qual scope f cd A outer s0 H0 E).env:=by rfl)
  (hpl:(backTo cpos (starEach [] (cxOf (CX1 P w) P w K mg base N qual scope f cd A outer s0 H0 E).env)).any (·.1)=false:=by rfl) :
  DBs (cxOf (CX1 P w) P w K mg base N qual scope f cd A outer s0 H0 E) B CT fd E (.Raise (some (.Call (.Name xT p) [a] [] cpos)) none pos::rest) g:=by
 obtain⟨f0,ps,F,hb⟩:=U.ini
 exact R1 rfl U.xc F hr hb hg U.mT ha hdb he hpl
theorem G8 {K:PySem.W.Frag}{v:Value}:PySem.W.kitOne K v v=some true:=by unfold PySem.W.kitOne;rw[if_pos (beq_self_eq_true _)]
theorem J2 {K:PySem.W.Frag}{C M:Addr}(h1:PySem.W.isClsIn K M=true)(h2:PySem.W.typeIn K (.ref M)=some (.type "type")) (h3:PySem.W.subIn K (.ref C) (.ref M)=some true):PySem.W.kitOne K (.ref C) (.ref M)=some true:=by
 unfold PySem.W.kitOne
 split
 ·rfl
 ·show (if ((PySem.W.clsIn K M).isSome&&PySem.W.typeIn K (.ref M)==some (.type "type"))=true then PySem.W.subIn K (.ref C) (.ref M) else none)=some true
  have h1:(PySem.W.clsIn K M).isSome=true:=h1
  rw[h1,h2,if_pos (by decide)]
  exact h3
theorem Rz {C e t:Addr}{fd:Str}{v:V}{H:Hp}{Q:VK}(q:∀t' dx,H dx=none->dx≠e->Q .non (upd (upd H e (ExO e C t' (some dx))) dx (.xd [(fd,v)])))(t' dx:Addr)(h1:upd H e (ExO e C t' none) dx=none)(h2:dx≠e) :
  Q .non (upd (upd (upd H e (ExO e C t' none)) e (ExO e C t' (some dx))) dx (.xd [(fd,v)])):=by
 rw[uF]
 rw[zg h2] at h1
 exact q t' dx h1 h2
end
end Dv
namespace QM
variable {α:Type} [DecidableEq α]
abbrev Tk (α:Type):=α×Int
def PosQ (q:List (Tk α)):Prop:=∀t∈q,1<=t.2
def srv (m:Nat)(q:List (Tk α)):List α:=(q.take m).map (·.1)
def beh (m:Nat)(q:List (Tk α)):List (Tk α):=((q.take m).filter λt=>decide (1 < t.2)).map (λt=>(t.1,t.2 - 1))++q.drop m
def behL (m:Int):Nat->List (Tk α)->List (Tk α)
 |_,[]=>[]
 |k,t::ts=>(if 0 < (if (k:Int) < m then t.2 - 1 else t.2) then [(t.1,if (k:Int) < m then t.2 - 1 else t.2)] else [])++behL m (k+1) ts
theorem Yp {m:Int}:∀(q:List (Tk α))(k:Nat),PosQ q->m<=k->behL m k q=q
 | [],_,_,_=>rfl
 |t::ts,k,h,hk=>by
  have h1:1<=t.2:=h t (by simp)
  have e:¬(k:Int) < m:=by omega
  simp only[behL,if_neg e]
  rw[if_pos (by omega),Yp ts (k+1) (λu hu=>h u (by simp[hu])) (by omega)]
  rfl
theorem VO {m:Int}:∀(q:List (Tk α))(k:Nat),PosQ q->(k:Int)<=m->behL m k q=beh (m.toNat - k) q
 | [],k,_,_=>by simp[behL,beh]
 |t::ts,k,h,hk=>by
  have ht:PosQ ts:=λu hu=>h u (by simp[hu])
  have h1:1<=t.2:=h t (by simp)
  by_cases e:(k:Int) < m
  ·have e2:m.toNat - k=(m.toNat - (k+1))+1:=by omega
   have ih:=VO (m:=m) ts (k+1) ht (by omega)
   simp only[behL,if_pos e]
   rw[ih,e2]
   unfold beh
   simp only[List.take_succ_cons,List.drop_succ_cons,List.filter_cons]
   by_cases h2:1 < t.2
   ·rw[if_pos (by omega),if_pos (by simpa using h2)];rfl
   ·rw[if_neg (by omega),if_neg (by simpa using h2)];rfl
  ·have e2:m.toNat - k=0:=by omega
   rw[Yp (t::ts) k h (by omega),e2]
   simp[beh]
theorem V6 {m:Nat}{q:List (Tk α)}(h:PosQ q):PosQ (beh m q):=by
 intro t ht
 unfold beh at ht
 rcases List.mem_append.mp ht with ht | ht
 ·obtain⟨u,hu,rfl⟩:=List.mem_map.mp ht
  have:=(List.mem_filter.mp hu).2
  simp at this
  show 1<=u.2 - 1
  omega
 ·exact h t (List.mem_of_mem_drop ht)
theorem jz {m:Nat}{q:List (Tk α)}:(beh m q).length<=q.length:=by
 unfold beh
 rw[List.length_append,List.length_map,List.length_drop]
 have:=List.length_filter_le (λt:Tk α=>decide (1 < t.2)) (q.take m)
 rw[List.length_take] at this
 omega
theorem ku {m:Nat}{q:List (Tk α)}(P:α->Prop)(h:∀t∈q,P t.1):∀t∈beh m q,P t.1:=by
 intro t ht
 unfold beh at ht
 rcases List.mem_append.mp ht with ht | ht
 ·obtain⟨u,hu,rfl⟩:=List.mem_map.mp ht
  exact h u (List.mem_of_mem_take (List.mem_filter.mp hu).1)
 ·exact h t (List.mem_of_mem_drop ht)
def sumQ:List (Tk α)->Nat
 | []=>0
 |t::ts=>t.2.toNat+sumQ ts
theorem Vu (p q:List (Tk α)):sumQ (p++q)=sumQ p+sumQ q:=by
 induction p with
 |nil=>simp[sumQ]
 |cons t ts ih=>simp only[List.cons_append,sumQ,ih];omega
theorem ZL:∀(p:List (Tk α)),PosQ p->sumQ ((p.filter λt=>decide (1 < t.2)).map λt=>(t.1,t.2 - 1))+p.length=sumQ p
 | [],_=>rfl
 |t::ts,h=>by
  have ih:=ZL ts λu hu=>h u (by simp[hu])
  have h1:1<=t.2:=h t (by simp)
  rw[List.filter_cons]
  by_cases h2:1 < t.2
  ·rw[if_pos (by simpa using h2)]
   simp only[List.map_cons,sumQ,List.length_cons]
   omega
  ·rw[if_neg (by simpa using h2)]
   simp only[sumQ,List.length_cons]
   omega
theorem Zy {m:Nat}{q:List (Tk α)}(h:PosQ q):sumQ (beh m q)+min m q.length=sumQ q:=by
 have e:sumQ q=sumQ (q.take m)+sumQ (q.drop m):=by rw[<-Vu,List.take_append_drop]
 have h1:=ZL (q.take m) λt ht=>h t (List.mem_of_mem_take ht)
 rw[List.length_take] at h1
 unfold beh
 rw[Vu]
 omega
theorem JL {n:Nat}{b:Int}(q:List (Tk α))(hl:q.length<=n)(h:∀t∈q,t.2<=b):sumQ q<=n * b.toNat:=by
 have:∀q:List (Tk α),(∀t∈q,t.2<=b)->sumQ q<=q.length * b.toNat:=by
  intro q
  induction q with
  |nil=>intro _;simp[sumQ]
  |cons t ts ih=>
   intro hh
   have h1:=hh t (by simp)
   have h2:=ih λu hu=>hh u (by simp[hu])
   simp only[sumQ,List.length_cons,Nat.succ_mul]
   omega
 exact Nat.le_trans (this q h) (Nat.mul_le_mul_right _ hl)
def walk (f:Int->Int):Int->List (Tk α)->List (Int×List α)->Option (List (Tk α))
 |_,q,[]=>some q
 |due,q,r::rs=>if q=[]∨r.1≠due∨r.2≠srv (f due).toNat q then none else walk f (due+1) (beh (f due).toNat q) rs
end QM
namespace Dv
open PySem PySem.Spec L2 L3 L4 QM
open PyProof.Rows hiding St
def tkD (t:Str×Int):D:=.tup [.str t.1,.int t.2]
def rnD (r:Int×List Str):D:=.tup [.int r.1,.lst (r.2.map D.str)]
abbrev Ok (x:Str):Prop:=PyData.strOk x=true
theorem y6 {α:Type}{f:α->D}:∀(l:List α),toPs (l.map f)=l.map λx=>toP (f x)
 | []=>rfl
 |x::l=>by simp[toPs,y6 l]
theorem vL {α:Type} [DecidableEq α]{f:α->PyData}(hf:∀x y,PyData.eqv (f x) (f y)=decide (x=y)):∀(xs ys:List α),PyData.eqvAll (xs.map f) (ys.map f)=decide (xs=ys)
 | [],[]=>rfl
 | [],_::_=>rfl
 |_::_,[]=>rfl
 |x::xs,y::ys=>by
  show (PyData.eqv (f x) (f y)&&PyData.eqvAll (xs.map f) (ys.map f))=_
  rw[hf,vL hf xs ys]
  by_cases h1:x=y<;>by_cases h2:xs=ys<;>simp[h1,h2]
theorem kU (x y:Str):PyData.eqv (.str x) (.str y)=decide (x=y):=by
 show (x==y)=_
 by_cases h:x=y
 ·subst h;simp
 ·simp[h]
theorem ja (x y:Int):PyData.eqv (.int x) (.int y)=decide (x=y):=by
 show (x==y)=_
 by_cases h:x=y
 ·subst h;simp
 ·simp[h]
theorem Z1 (xs ys:List Str):PyData.eqv (toP (.lst (xs.map D.str))) (toP (.lst (ys.map D.str)))=decide (xs=ys):=by
 show PyData.eqvAll (toPs (xs.map D.str)) (toPs (ys.map D.str))=_
 rw[y6,y6]
 exact vL (f:=PyData.str) kU xs ys
theorem QW (x y:Str×Int):PyData.eqv (toP (tkD x)) (toP (tkD y))=decide (x=y):=by
 show (PyData.eqv (.str x.1) (.str y.1)&&(PyData.eqv (.int x.2) (.int y.2)&&true))=_
 rw[kU,ja]
 obtain⟨a,b⟩:=x
 obtain⟨c,d⟩:=y
 by_cases h1:a=c<;>by_cases h2:b=d<;>simp[h1,h2]
theorem Ru (xs ys:List (Str×Int)):PyData.eqv (toP (.lst (xs.map tkD))) (toP (.lst (ys.map tkD)))=decide (xs=ys):=by
 show PyData.eqvAll (toPs (xs.map tkD)) (toPs (ys.map tkD))=_
 rw[y6,y6]
 exact vL (f:=λx=>toP (tkD x)) QW xs ys
theorem R9 (x y:Int×List Str):PyData.eqv (toP (rnD x)) (toP (rnD y))=decide (x=y):=by
 show (PyData.eqv (.int x.1) (.int y.1)&&(PyData.eqv (toP (.lst (x.2.map D.str))) (toP (.lst (y.2.map D.str)))&&true))=_
 rw[Z1,ja]
 obtain⟨a,b⟩:=x
 obtain⟨c,d⟩:=y
 by_cases h1:a=c<;>by_cases h2:b=d<;>simp[h1,h2]
theorem Ux (xs ys:List (Int×List Str)):PyData.eqv (toP (.lst (xs.map rnD))) (toP (.lst (ys.map rnD)))=decide (xs=ys):=by
 show PyData.eqvAll (toPs (xs.map rnD)) (toPs (ys.map rnD))=_
 rw[y6,y6]
 exact vL (f:=λx=>toP (rnD x)) R9 xs ys
theorem WL {α:Type}{f:α->PyData}:∀(xs:List α),(∀x∈xs,PyData.canLay0 (f x)=true)->PyData.canLayAll0 (xs.map f)=true
 | [],_=>rfl
 |x::xs,h=>by
  show (PyData.canLay0 (f x)&&PyData.canLayAll0 (xs.map f))=true
  rw[h x (by simp),WL xs λy hy=>h y (by simp[hy])];rfl
theorem Y6 {α:Type}{f:α->PyData}{n:Nat}:∀(xs:List α),(∀x∈xs,PyData.depth (f x)<=n)->PyData.depthAll (xs.map f)<=n
 | [],_=>Nat.zero_le _
 |x::xs,h=>by
  have h1:=h x (by simp)
  have h2:=Y6 xs λy hy=>h y (by simp[hy])
  show max (PyData.depth (f x)) (PyData.depthAll (xs.map f))<=n
  omega
def Lay (n:Nat)(d:D):Prop:=(toP d).canLay0=true/\(toP d).depth<=n
theorem Lay.ok {n:Nat}{d:D}(h:Lay n d)(hn:n<=64):eqOk d=true:=by
 unfold eqOk SeqAt.shaped
 rw[h.1]
 simpa using Nat.le_trans h.2 hn
theorem jm {i:Int}:Lay 0 (.int i):=⟨rfl,Nat.le_refl _⟩
theorem uB {x:Str}(h:Ok x):Lay 0 (.str x):=⟨h,Nat.le_refl _⟩
theorem uf {α:Type}{f:α->D}{n:Nat}{xs:List α}(h:∀x∈xs,Lay n (f x)):Lay (n+1) (.lst (xs.map f)):=by
 refine⟨?_,?_⟩
 ·show PyData.canLayAll0 (toPs (xs.map f))=true
  rw[y6];exact WL xs λx hx=>(h x hx).1
 ·show PyData.depthAll (toPs (xs.map f))+1<=n+1
  rw[y6]
  exact Nat.succ_le_succ (Y6 xs λx hx=>(h x hx).2)
theorem QP {t:Str×Int}(h:Ok t.1):Lay 1 (tkD t):=by
 refine⟨?_,?_⟩
 ·show (PyData.canLay0 (.str t.1)&&(PyData.canLay0 (.int t.2)&&true))=true
  rw[show PyData.canLay0 (.str t.1)=true from h];rfl
 ·show max 0 (max 0 0)+1<=1;omega
theorem ui {xs:List Str}(h:∀x∈xs,Ok x):Lay 1 (.lst (xs.map D.str)):=uf λx hx=>uB (h x hx)
theorem Zx {q:List (Str×Int)}(h:∀t∈q,Ok t.1):Lay 2 (.lst (q.map tkD)):=uf λt ht=>QP (h t ht)
theorem RL {r:Int×List Str}(h:∀x∈r.2,Ok x):Lay 2 (rnD r):=by
 obtain⟨h1,h2⟩:=ui h
 refine⟨?_,?_⟩
 ·show (PyData.canLay0 (.int r.1)&&((toP (.lst (r.2.map D.str))).canLay0&&true))=true
  rw[h1];rfl
 ·show max 0 (max ((toP (.lst (r.2.map D.str))).depth) 0)+1<=2;omega
theorem Ya {rs:List (Int×List Str)}(h:∀r∈rs,∀x∈r.2,Ok x):Lay 3 (.lst (rs.map rnD)):=uf λr hr=>RL (h r hr)
theorem wI {neg:Bool}{x y:D}{n m:Nat}{b:Bool}(hx:Lay n x)(hy:Lay m y)(hn:n<=64)(hm:m<=64)(e:PyData.eqv (toP x) (toP y)=b):fEq neg x y=some (.bl (if neg then !b else b)):=by
 unfold fEq eqD
 rw[hx.ok hn,hy.ok hm,e];rfl
theorem Us {neg:Bool}{xs ys:List Str}(hx:∀x∈xs,Ok x)(hy:∀x∈ys,Ok x):fEq neg (.lst (xs.map D.str)) (.lst (ys.map D.str))=some (.bl (if neg then !decide (xs=ys) else decide (xs=ys))) :=
 wI (ui hx) (ui hy) (by decide) (by decide) (Z1 xs ys)
theorem Vn {neg:Bool}{xs ys:List (Str×Int)}(hx:∀x∈xs,Ok x.1)(hy:∀x∈ys,Ok x.1):fEq neg (.lst (xs.map tkD)) (.lst (ys.map tkD))=some (.bl (if neg then !decide (xs=ys) else decide (xs=ys))) :=
 wI (Zx hx) (Zx hy) (by decide) (by decide) (Ru xs ys)
theorem kM {neg:Bool}{xs:List (Str×Int)}(hx:∀x∈xs,Ok x.1):fEq neg (.lst (xs.map tkD)) (.lst [])=some (.bl (if neg then !decide (xs=[]) else decide (xs=[]))):=Vn (ys:=[]) hx (by simp)
theorem GU {neg:Bool}{xs ys:List (Int×List Str)}(hx:∀r∈xs,∀x∈r.2,Ok x)(hy:∀r∈ys,∀x∈r.2,Ok x):fEq neg (.lst (xs.map rnD)) (.lst (ys.map rnD))=some (.bl (if neg then !decide (xs=ys) else decide (xs=ys))) :=
 wI (Ya hx) (Ya hy) (by decide) (by decide) (Ux xs ys)
end Dv
namespace QM
variable {α:Type} [DecidableEq α]
inductive Run (f:Int->Int):Int->List (Tk α)->List (Int×List α)->Prop
 |nil (x:Int):Run f x [] []
 |cons {x:Int} {q:List (Tk α)} {rs:List (Int×List α)}:q≠[]->Run f (x+1) (beh (f x).toNat q) rs->Run f x q ((x,srv (f x).toNat q)::rs)
variable {f:Int->Int}{x:Int}{q q':List (Tk α)}{rows rows' tl:List (Int×List α)}{v:α}
def nms (q:List (Tk α)):List α:=q.map (·.1)
theorem Wc:∀ {rows' rows:List (Int×List α)}{x:Int}{q q':List (Tk α)},Run f x q rows->walk f x q rows'=some q'->∃tl,rows=rows'++tl/\Run f (x+rows'.length) q' tl
 | [],rows,x,q,q',h,e=>by
  cases e
  exact⟨rows,rfl,by simpa using h⟩
 |r::rows',rows,x,q,q',h,e=>by
  simp only[walk] at e
  split at e
  ·cases e
  ·rename_i hc
   simp only[not_or,Decidable.not_not] at hc
   obtain⟨h1,h2,h3⟩:=hc
   cases h with
   |nil=>exact (h1 rfl).elim
   |cons hq hr=>
    obtain⟨tl,e1,e2⟩:=Wc hr e
    refine⟨tl,?_,?_⟩
    ·rw[e1,List.cons_append]
     congr 1
     exact Prod.ext h2.symm h3.symm
    ·have:x+1+(rows'.length:Int)=x+((r::rows').length:Int):=by simp;omega
     rw[<-this];exact e2
theorem vZ:∀ {a tl:List (Int×List α)}{x:Int}{q:List (Tk α)},Run f x q (a++tl)->∃q',walk f x q a=some q'/\Run f (x+a.length) q' tl
 | [],tl,x,q,h=>⟨q,rfl,by simpa using h⟩
 |r::a,tl,x,q,h=>by
  rw[List.cons_append] at h
  cases h with
  |cons hq hr=>
   obtain⟨q',e1,e2⟩:=vZ hr
   refine⟨q',?_,?_⟩
   ·simp only[walk]
    rw[if_neg (by simp[hq])]
    exact e1
   ·have:x+1+(a.length:Int)=x+((((x,srv (f x).toNat q)::a).length:Nat):Int):=by simp;omega
    rw[<-this];exact e2
theorem kS:∀ {rows:List (Int×List α)}{x:Int}{q:List (Tk α)},Run f x q rows->∀r∈rows,x<=r.1/\r.1 < x+rows.length
 |_,x,_,.nil _,r,hr=>by cases hr
 |_,x,_,.cons (rs:=rs) hq h,r,hr=>by
  rcases List.mem_cons.mp hr with rfl | hr
  ·simp;omega
  ·have:=kS h r hr
   simp;omega
theorem jV {a b:List (Int×List α)}(h:Run f x q (a++b)):(∀r∈a,r.1 < x+a.length)/\∀r∈b,x+a.length<=r.1:=by
 constructor
 ·have:∀(a b:List (Int×List α)) (x:Int) (q:List (Tk α)),Run f x q (a++b)->∀r∈a,r.1 < x+a.length:=by
   intro a
   induction a with
   |nil=>intro b x q _ r hr;cases hr
   |cons c a ih=>
    intro b x q h r hr
    rw[List.cons_append] at h
    cases h with
    |cons hq hs=>
     rcases List.mem_cons.mp hr with rfl | hr
     ·simp;omega
     ·have:=ih b _ _ hs r hr
      simp;omega
  exact this a b x q h
 ·obtain⟨q',_,e⟩:=vZ h
  exact λr hr=>(kS e r hr).1
theorem beh_sub {m:Nat}{q:List (Tk α)}:List.Sublist (nms (beh m q)) (nms q):=by
 unfold nms beh
 rw[List.map_append,List.map_map]
 have e:q.map (·.1)=(q.take m).map (·.1)++(q.drop m).map (·.1):=by rw[<-List.map_append,List.take_append_drop]
 rw[e]
 refine List.Sublist.append ?_ (List.Sublist.refl _)
 exact (List.filter_sublist (l:=q.take m) (p:=λt=>decide (1 < t.2))).map (·.1)
theorem UN {m:Nat}{q:List (Tk α)}(h:v∈srv m q):v∈nms q:=by
 obtain⟨t,ht,rfl⟩:=List.mem_map.mp h
 exact List.mem_map.mpr ⟨t,List.mem_of_mem_take ht,rfl⟩
theorem uI:∀ {rows:List (Int×List α)}{x:Int}{q:List (Tk α)},Run f x q rows->v∉nms q->∀r∈rows,v∉r.2
 |_,_,_,.nil _,_,r,hr=>by cases hr
 |_,_,_,.cons hq h,hv,r,hr=>by
  rcases List.mem_cons.mp hr with rfl | hr
  ·exact λz=>hv (UN z)
  ·exact uI h (λz=>hv (beh_sub.subset z)) r hr
theorem leave {m:Nat}{q:List (Tk α)}(hv:v∈nms q)(hn:v∉nms (beh m q)):v∈srv m q:=by
 obtain⟨t,ht,rfl⟩:=List.mem_map.mp hv
 rw[<-List.take_append_drop m q] at ht
 rcases List.mem_append.mp ht with ht | ht
 ·exact List.mem_map.mpr ⟨t,ht,rfl⟩
 ·exfalso
  apply hn
  unfold nms beh
  rw[List.map_append]
  exact List.mem_append.mpr (.inr (List.mem_map.mpr ⟨t,ht,rfl⟩))
theorem qL:∀ {rows:List (Int×List α)}{x:Int}{q:List (Tk α)},Run f x q rows->v∈nms q->∃r∈rows,v∈r.2
 |_,_,_,.nil _,hv=>by cases hv
 |_,_,_,.cons (x:=x) (q:=q) hq h,hv=>by
  by_cases hn:v∈nms (beh (f x).toNat q)
  ·obtain⟨r,h1,h2⟩:=qL h hn
   exact⟨r,List.mem_cons_of_mem _ h1,h2⟩
  ·exact⟨_,List.mem_cons_self,leave hv hn⟩
def zI (v:α)(rows:List (Int×List α)):List Int:=(rows.filter λr=>decide (v∈r.2)).map (·.1)
def rowsTo (L:Int)(rows:List (Int×List α)):List (Int×List α):=rows.filter λr=>decide (r.1<=L)
theorem mem_served {a:Int}:a∈zI v rows↔∃r∈rows,v∈r.2/\r.1=a:=by
 unfold zI
 rw[List.mem_map]
 constructor
 ·rintro ⟨r,h1,h2⟩
  obtain⟨h3,h4⟩:=List.mem_filter.mp h1
  exact⟨r,h3,by simpa using h4,h2⟩
 ·rintro ⟨r,h1,h2,h3⟩
  exact⟨r,List.mem_filter.mpr ⟨h1,by simpa using h2⟩,h3⟩
theorem Wa {a b:List (Int×List α)}{L:Int}(h1:∀r∈a,r.1<=L)(h2:∀r∈b,L < r.1):rowsTo L (a++b)=a:=by
 unfold rowsTo
 rw[List.filter_append,List.filter_eq_self.mpr (λr hr=>by simpa using h1 r hr),List.filter_eq_nil_iff.mpr (λr hr=>by have:=h2 r hr;simp;omega),List.append_nil]
theorem Q1 {M:Int}(h:Run f x q rows)(hv:v∈nms q)(hM:M∈zI v rows)(hM2:∀a∈zI v rows,a<=M)(turn:Int) :
  (∃q' pre r,walk f x q rows'=some q'/\rows'=pre++[r]/\r.1=turn/\v∈r.2/\v∉nms q')↔rows'≠[]/\turn=M/\rows'=rowsTo M rows:=by
 constructor
 ·rintro ⟨q',pre,r,e1,rfl,rfl,h2,h3⟩
  obtain⟨tl,e2,e3⟩:=Wc h e1
  subst e2
  obtain⟨p1,p2⟩:=jV h
  have hr:r.1=x+pre.length:=by
   have h4:Run f x q (pre++([r]++tl)):=by simpa using h
   have a1:=(jV h4).2 r (by simp)
   have a2:=p1 r (by simp)
   simp at a2;omega
  have hno:=uI e3 h3
  have hMr:M=r.1:=by
   obtain⟨r0,g1,g2,g3⟩:=mem_served.mp hM
   have g4:r.1<=M:=hM2 _ (mem_served.mpr ⟨r,by simp,h2,rfl⟩)
   rcases List.mem_append.mp g1 with g1 | g1
   ·have:=p1 r0 g1
    simp at this
    omega
   ·exact (hno r0 g1 g2).elim
  refine⟨by simp,hMr.symm,?_⟩
  rw[Wa]
  ·intro s hs
   have:=p1 s hs
   simp at this
   omega
  ·intro s hs
   have:=p2 s hs
   simp at this
   omega
 ·rintro ⟨hne,rfl,e⟩
  obtain⟨r0,g1,g2,g3⟩:=mem_served.mp hM
  obtain⟨a,b,rfl⟩:=List.append_of_mem g1
  have h4:Run f x q ((a++[r0])++b):=by simpa using h
  obtain⟨p1,p2⟩:=jV h4
  have h5:Run f x q (a++([r0]++b)):=by simpa using h
  obtain⟨p3,p4⟩:=jV h5
  have hr:r0.1=x+a.length:=by
   have a1:=p4 r0 (by simp)
   have a2:=p1 r0 (by simp)
   simp at a2;omega
  have hup:rowsTo turn (a++r0::b)=a++[r0]:=by
   have:a++r0::b=(a++[r0])++b:=by simp
   rw[this]
   apply Wa
   ·intro s hs
    have:=p1 s hs
    simp at this
    omega
   ·intro s hs
    have:=p2 s hs
    simp at this
    omega
  rw[hup] at e
  obtain⟨q',e1,e2⟩:=vZ h4
  refine⟨q',a,r0,by rw[e];exact e1,e,g3,g2,λhz=>?_⟩
  obtain⟨s,s1,s2⟩:=qL e2 hz
  have t1:=hM2 _ (mem_served.mpr ⟨s,by simp[s1],s2,rfl⟩)
  have t2:=p2 s s1
  simp at t2
  omega
end QM
namespace Dv
open PySem PySem.Spec L2 L3 L4 QM
open PyProof.Rows hiding St
def mk (l:List Nat):Str:=⟨l.toArray⟩
theorem uY {a b:List Nat}(h:mk a=mk b):a=b:=by
 have:a.toArray=b.toArray:=congrArg Str.cps h
 simpa using this
theorem qr (a b:List Nat):mk a++mk b=mk (a++b):=by
 show (⟨a.toArray++b.toArray⟩:Str)=⟨(a++b).toArray⟩
 simp
theorem wU (l:List Nat):(mk l).length=l.length:=by simp[mk,Str.length]
theorem WX {l:List Nat}{a:Int}(h:l.length<=TOP)(h1:0<=a)(h2:a < l.length):fItem (.str (mk l)) (.int a)=some (.str (mk [l.getD a.toNat 0])):=by
 rw[Vk,if_pos (by rw[wU];exact h)]
 obtain⟨v,e1,e2⟩:=Vx (xs:=l) h1 h2
 have e3:l.getD a.toNat 0=v:=by rw[List.getD_eq_getElem?_getD,e2];rfl
 rw[e3,show (mk l).cps.toList=l by simp[mk],e1]
 rfl
theorem YL {l:List Nat}{k:Int}(h1:0<=k)(h2:k<=l.length):Txt.slice (mk l) none (some k)=mk (l.take k.toNat):=by
 have e:=slice_closes_to (x:=mk l) (j:=k) ⟨h1,by simp[mk];exact h2⟩
 have e:=eq_of_beq e
 rw[e]
 simp[mk]
theorem WC:∀(rest:List (List Nat))(acc:List Nat),((rest.map mk).foldl (λacc p=>acc++("" : Str).cps++p.cps) acc.toArray)=(acc++rest.flatten).toArray
 | [],acc=>by simp
 |l::rest,acc=>by
  have e:("" : Str).cps=#[]:=by decide +kernel
  rw[List.map_cons,List.foldl_cons,e]
  have e2:acc.toArray++#[]++(mk l).cps=(acc++l).toArray:=by simp[mk]
  rw[e2]
  have ih:=WC rest (acc++l)
  rw[e] at ih
  rw[ih];simp
theorem R8:∀(ls:List (List Nat)),Txt.join "" (ls.map mk)=mk ls.flatten
 | []=>by
  show (Builtin.Str.glued "" []:Str)=mk []
  decide +kernel
 |l::ls=>by
  show (⟨((ls.map mk)).foldl (λacc p=>acc++("" : Str).cps++p.cps) (mk l).cps⟩:Str)=mk (l::ls).flatten
  have:=WC ls l
  rw[show (mk l).cps=l.toArray from rfl,this]
  rfl
def SIGNS:Str := "abcdefghijklmnopqrstuvwxyz0123456789"
def S36:List Nat:=[97,98,99,100,101,102,103,104,105,106,107,108,109,110,111,112,113,114,115,116,117,118,119,120,121,122,48,49,50,51,52,53,54,55,56,57]
theorem RA:SIGNS=mk S36:=by decide +kernel
def sg (a:Int):Nat:=S36.getD a.toNat 0
theorem ju {a:Int}(h1:0<=a)(h2:a < 36):fItem (.str SIGNS) (.int a)=some (.str (mk [sg a])):=by
 rw[RA]
 have hl:(S36.length:Int)=36:=by decide
 exact WX (by decide) h1 (by omega)
theorem Yi {a:Int}(h1:0<=a)(h2:a < 36):sg a∈S36:=by
 unfold sg
 have hl:S36.length=36:=by decide
 have:a.toNat < S36.length:=by omega
 rw[List.getD_eq_getElem?_getD,List.getElem?_eq_getElem this]
 exact List.getElem_mem _
theorem Yj {a:Int}(h1:0<=a)(h2:a < 26):sg a∈S36.take 26:=by
 unfold sg
 have hl:(S36.take 26).length=26:=by decide
 have h3:a.toNat < (S36.take 26).length:=by omega
 have e:S36.getD a.toNat 0=(S36.take 26)[a.toNat]:=by
  rw[List.getD_eq_getElem?_getD]
  have:S36[a.toNat]?=(S36.take 26)[a.toNat]?:=by rw[List.getElem?_take];rw[if_pos (by omega)]
  rw[this,List.getElem?_eq_getElem h3];rfl
 rw[e]
 exact List.getElem_mem _
theorem YE {a b:Int}(h1:0<=a)(h2:a < 36)(h3:0<=b)(h4:b < 36)(e:sg a=sg b):a=b:=by
 unfold sg at e
 have hl:S36.length=36:=by decide
 have ha:a.toNat < S36.length:=by omega
 have hb:b.toNat < S36.length:=by omega
 rw[List.getD_eq_getElem?_getD,List.getD_eq_getElem?_getD,List.getElem?_eq_getElem ha,List.getElem?_eq_getElem hb] at e
 have nd:S36.Nodup:=by decide +kernel
 have:=(List.getElem_inj nd).mp e
 omega
def NameOk (x:Str):Prop:=∃c cs,x=mk (c::cs)/\c∈S36.take 26/\(∀d∈cs,d∈S36)/\cs.length<=7
theorem Ql {l:List Nat}(h:∀d∈l,d∈S36):Ok (mk l):=by
 show (mk l).cps.all (· < 0x110000)=true
 rw[Array.all_eq_true']
 intro c hc
 have hc:c∈l:=by simpa[mk] using hc
 have:=h c hc
 have all:S36.all (λc=>decide (c < 0x110000))=true:=by decide
 exact List.all_eq_true.mp all c this
theorem NameOk.ok {x:Str}(h:NameOk x):Ok x:=by
 obtain⟨c,cs,rfl,h1,h2,_⟩:=h
 exact Ql λd hd=>by
  rcases List.mem_cons.mp hd with rfl | hd
  ·exact List.mem_of_mem_take h1
  ·exact h2 d hd
theorem GD {c:Nat}(h:c∈S36.take 26):(Builtin.Str.occurrences ("abcdefghijklmnopqrstuvwxyz" : Str) (mk [c]) 0 ("abcdefghijklmnopqrstuvwxyz" : Str).length 1).isEmpty=false:=by
 have all:(S36.take 26).all (λc=>!(Builtin.Str.occurrences ("abcdefghijklmnopqrstuvwxyz" : Str) (mk [c]) 0 ("abcdefghijklmnopqrstuvwxyz" : Str).length 1).isEmpty)=true:=by decide +kernel
 simpa using List.all_eq_true.mp all c h
theorem Jx {c:Nat}(h:c∈S36):(Builtin.Str.occurrences (("abcdefghijklmnopqrstuvwxyz" : Str)++("0123456789" : Str)) (mk [c]) 0 (("abcdefghijklmnopqrstuvwxyz" : Str)++("0123456789" : Str)).length 1).isEmpty=false:=by
 have all:S36.all (λc=>!(Builtin.Str.occurrences (("abcdefghijklmnopqrstuvwxyz" : Str)++("0123456789" : Str)) (mk [c]) 0 (("abcdefghijklmnopqrstuvwxyz" : Str)++("0123456789" : Str)).length 1).isEmpty)=true:=by decide +kernel
 simpa using List.all_eq_true.mp all c h
theorem VC (l:List Nat):chD (mk l)=l.map λc=>D.str (mk [c]):=by simp[chD,mk]
end Dv
namespace HM
abbrev Row:=Int×Int
def Pos (l:List Row):Prop:=∀r∈l,0 < r.1/\0<=r.2
def atR (rest:Int):List Row->Int->Int
 | [],_=>rest
 |r::rs,x=>if x < r.1 then r.2 else atR rest rs (x - r.1)
def total:List Row->Int
 | []=>0
 |r::rs=>r.1+total rs
def nextC (rest:Int):List Row->Int
 | []=>rest
 |r::_=>r.2
def kstep (acc:List Row)(r:Row):List Row:=match acc.getLast? with
 |some q=>if q.2=r.2 then acc.dropLast++[(q.1+r.1,r.2)] else acc++[r]
 |none=>acc++[r]
def kend (rest:Int)(k:List Row):List Row:=match k.getLast? with
 |some q=>if q.2=rest then k.dropLast else k
 |none=>k
def krows (rest:Int)(rs:List Row):List Row:=kend rest (rs.foldl kstep [])
def Norm (rest:Int):List Row->Prop
 | []=>True
 |r::rs=>nextC rest rs≠r.2/\Norm rest rs
theorem Pos.app {l m:List Row}:Pos (l++m)↔Pos l/\Pos m:=by
 constructor
 ·intro h;exact⟨λr hr=>h r (by simp[hr]),λr hr=>h r (by simp[hr])⟩
 ·intro ⟨h1,h2⟩ r hr
  rcases List.mem_append.mp hr with h | h
  ·exact h1 r h
  ·exact h2 r h
theorem Pos.cons {r:Row}{m:List Row}:Pos (r::m)↔(0 < r.1/\0<=r.2)/\Pos m:=by
 constructor
 ·intro h;exact⟨h r (by simp),λq hq=>h q (by simp[hq])⟩
 ·intro ⟨h1,h2⟩ q hq
  rcases List.mem_cons.mp hq with rfl | h
  ·exact h1
  ·exact h2 q h
theorem Pos.nil:Pos []:=λ_ h=>by cases h
def Inv (acc:List Row):Prop:=acc=[]∨∃pre a c,acc=pre++[(a,c)]/\Norm c pre
structure Same {α:Type}(rest:Int)(Φ:List Row->α):Prop where
 merge:∀pre a b c tl,Pos pre->Pos tl->0 < a->0 < b->Φ (pre++(a,c)::(b,c)::tl)=Φ (pre++(a+b,c)::tl)
 drop:∀pre a,Pos pre->0 < a->Φ (pre++[(a,rest)])=Φ pre
theorem xW {α:Type}{rest:Int}{Φ:List Row->α}(S:Same rest Φ):∀(rs acc:List Row),Pos acc->Pos rs->Φ (rs.foldl kstep acc)=Φ (acc++rs)/\Pos (rs.foldl kstep acc)
 | [],acc,h,_=>by simp[h]
 |r::rs,acc,h,hr=>by
  obtain⟨h1,h2⟩:=Pos.cons.mp hr
  rcases List.eq_nil_or_concat acc with rfl | ⟨pre,q,rfl⟩
  ·obtain⟨e,p⟩:=xW S rs [r] (Pos.cons.mpr ⟨h1,Pos.nil⟩) h2
   exact⟨by simpa[kstep] using e,by simpa[kstep] using p⟩
  ·rw[List.concat_eq_append] at h ⊢
   obtain⟨hp,hq⟩:=Pos.app.mp h
   have hq:=(Pos.cons.mp hq).1
   have hk:kstep (pre++[q]) r=if q.2=r.2 then pre++[(q.1+r.1,r.2)] else pre++[q]++[r]:=by
    unfold kstep;rw[List.getLast?_concat];simp only[List.dropLast_concat]
   rw[List.foldl_cons,hk]
   by_cases e:q.2=r.2
   ·rw[if_pos e]
    obtain⟨e1,p⟩:=xW S rs (pre++[(q.1+r.1,r.2)]) (Pos.app.mpr ⟨hp,Pos.cons.mpr ⟨⟨by show 0 < q.1+r.1;omega,h1.2⟩,Pos.nil⟩⟩) h2
    refine⟨?_,p⟩
    rw[e1]
    have:=S.merge pre q.1 r.1 r.2 rs hp h2 hq.1 h1.1
    have hq':q=(q.1,r.2):=by rw[<-e]
    rw[hq']
    simpa using this.symm
   ·rw[if_neg e]
    obtain⟨e1,p⟩:=xW S rs (pre++[q]++[r]) (Pos.app.mpr ⟨h,Pos.cons.mpr ⟨h1,Pos.nil⟩⟩) h2
    exact⟨by rw[e1];simp,p⟩
theorem Ua {α:Type}{rest:Int}{Φ:List Row->α}(S:Same rest Φ)(rs:List Row)(h:Pos rs):Φ (krows rest rs)=Φ rs:=by
 obtain⟨e,p⟩:=xW S rs [] Pos.nil h
 rw[List.nil_append] at e
 rw[<-e]
 unfold krows kend
 rcases List.eq_nil_or_concat (rs.foldl kstep []) with h0 | ⟨pre,q,h0⟩
 ·rw[h0];rfl
 ·rw[List.concat_eq_append] at h0
  rw[h0] at p ⊢
  rw[List.getLast?_concat]
  simp only[List.dropLast_concat]
  by_cases c:q.2=rest
  ·rw[if_pos c]
   obtain⟨hp,hq⟩:=Pos.app.mp p
   have hq':q=(q.1,rest):=by rw[<-c]
   rw[hq']
   exact (S.drop pre q.1 hp (Pos.cons.mp hq).1.1).symm
  ·rw[if_neg c]
theorem GJ (rest:Int)(rs:List Row)(h:Pos rs):Pos (krows rest rs):=by
 obtain⟨_,p⟩:=xW (rest:=rest) (Φ:=λ_=>()) ⟨λ_ _ _ _ _ _ _ _ _=>rfl,λ_ _ _ _=>rfl⟩ rs [] Pos.nil h
 unfold krows kend
 rcases List.eq_nil_or_concat (rs.foldl kstep []) with h0 | ⟨pre,q,h0⟩
 ·rw[h0];exact Pos.nil
 ·rw[List.concat_eq_append] at h0
  rw[h0] at p ⊢
  rw[List.getLast?_concat]
  simp only[List.dropLast_concat]
  by_cases c:q.2=rest
  ·rw[if_pos c];exact (Pos.app.mp p).1
  ·rw[if_neg c];exact p
theorem Vo (acc:List Row)(r:Row):(kstep acc r).length<=acc.length+1:=by
 unfold kstep
 split
 ·split
  ·simp
  ·simp
 ·simp
theorem ZD:∀(rs acc:List Row),(rs.foldl kstep acc).length<=acc.length+rs.length
 | [],acc=>by simp
 |r::rs,acc=>by
  have h1:=ZD rs (kstep acc r)
  have h2:=Vo acc r
  rw[List.foldl_cons];simp only[List.length_cons];omega
theorem Kc (rest:Int)(rs:List Row):(krows rest rs).length<=rs.length:=by
 have:=ZD rs []
 simp only[List.length_nil,Nat.zero_add] at this
 unfold krows kend
 split
 ·split
  ·simp;omega
  ·exact this
 ·exact this
theorem RN (rest x:Int):Same rest λl=>atR rest l x:=by
 refine⟨λpre a b c tl hp ht ha hb=>?_,λpre a hp ha=>?_⟩
 ·show atR rest _ x=atR rest _ x
  induction pre generalizing x with
  |nil=>
   simp only[List.nil_append,atR]
   by_cases h:x < a
   ·rw[if_pos h,if_pos (by omega)]
   ·rw[if_neg h]
    by_cases h2:x - a < b
    ·rw[if_pos h2,if_pos (by omega)]
    ·rw[if_neg h2,if_neg (by omega)];congr 1;omega
  |cons r rs ih=>simp only[List.cons_append,atR];rw[ih _ (Pos.cons.mp hp).2]
 ·show atR rest _ x=atR rest _ x
  induction pre generalizing x with
  |nil=>simp only[List.nil_append,atR];split<;>rfl
  |cons r rs ih=>simp only[List.cons_append,atR];rw[ih _ (Pos.cons.mp hp).2]
theorem Zs:∀ {l:List Row},Pos l->0<=total l
 | [],_=>Int.le_refl _
 |q::qs,hq=>by have:=Zs (Pos.cons.mp hq).2;have:=(Pos.cons.mp hq).1.1;simp only[total];omega
theorem j6:∀(l m:List Row),total (l++m)=total l+total m
 | [],m=>by simp[total]
 |r::rs,m=>by simp only[List.cons_append,total,j6 rs m];omega
end HM
namespace Dv
open PySem PySem.Spec L2 L3 L4 QM
open PyProof.Rows hiding St
abbrev SI:=List (Str×Int)
def kv (q:SI):List (Key×D):=q.map λt=>(.inr t.1,.int t.2)
def lookS (q:SI)(x:Str):Option Int:=(q.find? λt=>decide (t.1=x)).map (·.2)
def putS (q:SI)(x:Str)(v:Int):SI:=if (q.any λt=>decide (t.1=x))=true then q.map (λt=>if t.1=x then (t.1,v) else t) else q++[(x,v)]
theorem VJ (q:SI):(kv q).length=q.length:=by simp[kv]
theorem qJ (x:Str):∀q:SI,lookD (kv q) (.inr x)=(lookS q x).map D.int
 | []=>rfl
 |t::q=>by
  have ih:=qJ x q
  unfold lookD lookS kv at ih ⊢
  by_cases h:t.1=x
  ·simp[h]
  ·simp[h] at ih ⊢;exact ih
theorem RI (x:Str)(q:SI):((kv q).any λp=>decide (p.1=.inr x))=(q.any λt=>decide (t.1=x)):=by
 induction q with
 |nil=>rfl
 |cons t q ih=>
  show (decide ((Sum.inr t.1:Key)=.inr x)||_)=_
  rw[List.any_cons]
  unfold kv at ih
  rw[ih]
  congr 1
  by_cases h:t.1=x<;>simp[h]
theorem Vb (x:Str)(v:Int)(q:SI):putD (kv q) (.inr x) (.int v)=kv (putS q x v):=by
 unfold putD putS
 rw[RI]
 split
 ·unfold kv
  rw[List.map_map,List.map_map]
  refine List.map_congr_left λt _=>?_
  by_cases h:t.1=x<;>simp[h]
 ·simp[kv]
def kiS (q:SI):List (Key×Int):=q.map λt=>(.inr t.1,t.2)
theorem Za:∀q:SI,asKI (kv q)=some (kiS q)
 | []=>rfl
 |t::q=>by
  show (asKI (kv q)).map _=_
  rw[Za q];rfl
def keysS (q:SI):List Str:=q.map (·.1)
theorem Jj (x:Str)(v:Int)(q:SI):keysS (putS q x v)=if x∈keysS q then keysS q else keysS q++[x]:=by
 have ha:(q.any λt=>decide (t.1=x))=true↔x∈keysS q:=by
  simp[keysS,List.any_eq_true]
 unfold putS
 by_cases h:x∈keysS q
 ·rw[if_pos (ha.mpr h),if_pos h]
  unfold keysS
  rw[List.map_map]
  refine List.map_congr_left λt _=>?_
  by_cases e:t.1=x<;>simp[e]
 ·rw[if_neg (λz=>h (ha.mp z)),if_neg h]
  simp[keysS]
theorem RK {x:Str}{v:Int}{q:SI}(h:(keysS q).Nodup):(keysS (putS q x v)).Nodup:=by
 rw[Jj]
 split
 ·exact h
 ·rename_i hx
  rw[List.nodup_append]
  exact⟨h,by simp,λa ha b hb=>by rw[List.mem_singleton.mp hb];exact λz=>hx (z ▸ ha)⟩
theorem qY (x:Str)(v:Int)(q:SI):(putS q x v).length<=q.length+1:=by
 unfold putS
 split<;>simp
theorem K2 {q:SI}{x:Str}{v:Int}(nd:(keysS q).Nodup)(h:(x,v)∈q):lookS q x=some v:=by
 induction q with
 |nil=>cases h
 |cons t q ih=>
  have nd':=List.nodup_cons.mp nd
  rcases List.mem_cons.mp h with e | h
  ·subst e;simp[lookS]
  ·have hne:t.1≠x:=λz=>nd'.1 (List.mem_map.mpr ⟨(x,v),h,z.symm⟩)
   have:=ih nd'.2 h
   unfold lookS at this ⊢
   rw[List.find?_cons]
   simp[hne]
   simpa using this
theorem Z2 (x:Str):∀q:SI,lookI (kiS q) (.inr x)=lookS q x
 | []=>rfl
 |t::q=>by
  have ih:=Z2 x q
  unfold lookI lookS kiS at ih ⊢
  by_cases h:t.1=x
  ·simp[h]
  ·simp[h] at ih ⊢;exact ih
theorem Zt {q:SI}(nd:(keysS q).Nodup):∀r:SI,(∀t∈r,t∈q)->hitsI (kiS q) (kiS r)=true
 | [],_=>rfl
 |t::r,h=>by
  show (match lookI (kiS q) (.inr t.1) with | none=>false | some j=>decide (t.2=j)&&hitsI (kiS q) (kiS r))=true
  rw[Z2,K2 nd (h t List.mem_cons_self)]
  simp[Zt nd r λu hu=>h u (List.mem_cons_of_mem _ hu)]
theorem Gb {q:SI}(nd:(keysS q).Nodup):eqI (kiS q) (kiS q)=true:=by
 unfold eqI
 simp[Zt nd q λt h=>h]
theorem vq (t:Str×Int)(d:SI)(x:Str):lookS (t::d) x=if t.1=x then some t.2 else lookS d x:=by
 unfold lookS
 by_cases h:t.1=x<;>simp[h]
theorem Qt {d:SI}{x:Str}{v:Int}(h:x∈keysS d):putS d x v=d.map λt=>if t.1=x then (t.1,v) else t:=by
 unfold putS
 rw[if_pos]
 simpa[keysS,List.any_eq_true] using h
theorem KF {d:SI}{x:Str}{v:Int}(h:x∉keysS d):(d.map λt=>if t.1=x then (t.1,v) else t)=d:=by
 induction d with
 |nil=>rfl
 |cons t d ih=>
  simp[keysS] at h
  have:t.1≠x:=λz=>h.1 z.symm
  simp[this]
  have:=ih (by simpa[keysS] using h.2)
  simpa using this
end Dv
namespace QM
variable {α:Type} [DecidableEq α]
inductive Eas:List (Tk α)->List (Tk α)->Prop
 |nil:Eas [] []
 |skip {t:Tk α} {p q:List (Tk α)}:Eas p q->Eas p (t::q)
 |keep {n:α} {a b:Int} {p q:List (Tk α)}:b<=a->Eas p q->Eas ((n,b)::p) ((n,a)::q)
def val (q:List (Tk α))(n:α):Int:=((q.find? λt=>decide (t.1=n)).map (·.2)).getD 0
def adv (f:Int->Int):Int->List (Tk α)->Nat->List (Tk α)
 |_,q,0=>q
 |x,q,n+1=>adv f (x+1) (beh (f x).toNat q) n
variable {f g:Int->Int}
theorem VI:∀ {rows:List (Int×List α)}{x:Int}{q:List (Tk α)},Run f x q rows->adv f x q rows.length=[]/\∀k < rows.length,adv f x q k≠[]
 |_,_,_,.nil _=>⟨rfl,λk h=>by simp at h⟩
 |_,_,_,.cons hq h=>by
  obtain⟨h1,h2⟩:=VI h
  refine⟨h1,λk hk=>?_⟩
  cases k with
  |zero=>exact hq
  |succ k=>exact h2 k (by simp at hk;omega)
end QM
namespace Dv
open PySem PySem.Spec L2 L3 L4 QM
open PyProof.Rows hiding St
theorem JX {d:SI}{x:Str}{v:Int}(h:x∉keysS d):putS d x v=d++[(x,v)]:=by
 unfold putS
 rw[if_neg]
 intro z
 apply h
 simpa[keysS,List.any_eq_true] using z
def endsS (d:SI)(rows:List (Int×List Str)):SI:=rows.foldl (λd r=>r.2.foldl (λd n=>putS d n r.1) d) d
theorem KG (d:SI)(x y:Str)(v:Int):lookS (putS d x v) y=if x=y then some v else lookS d y:=by
 by_cases hx:x∈keysS d
 ·rw[Qt hx]
  induction d with
  |nil=>cases hx
  |cons t d ih=>
   rw[List.map_cons,vq,vq]
   by_cases e:t.1=x
   ·rw[if_pos e]
    by_cases e2:x=y
    ·simp[e,e2]
    ·have:¬t.1=y:=λz=>e2 (e.symm.trans z)
     simp only[if_neg e2,if_neg this]
     by_cases hx':x∈keysS d
     ·rw[ih hx',if_neg e2]
     ·rw[KF hx']
   ·rw[if_neg e]
    have hx':x∈keysS d:=by simpa[keysS,Ne.symm e] using hx
    rw[ih hx']
    by_cases e2:x=y
    ·have:¬t.1=y:=λz=>e (z.trans e2.symm)
     simp[e2,this]
    ·simp[e2]
 ·rw[JX hx]
  have:∀d:SI,x∉keysS d->lookS (d++[(x,v)]) y=if x=y then some v else lookS d y:=by
   intro d
   induction d with
   |nil=>intro _;simp[vq]
   |cons t d ih=>
    intro h
    have h1:¬x=t.1/\x∉keysS d:=by simpa[keysS] using h
    rw[List.cons_append,vq,vq,ih h1.2]
    by_cases e2:x=y
    ·have:¬t.1=y:=λz=>h1.1 (e2.trans z.symm)
     simp[e2,this]
    ·simp[e2]
  exact this d hx
theorem jt (v:Int)(y:Str):∀(xs:List Str)(d:SI),lookS (xs.foldl (λd n=>putS d n v) d) y=if y∈xs then some v else lookS d y
 | [],d=>by simp
 |x::xs,d=>by
  show lookS (xs.foldl (λd n=>putS d n v) (putS d x v)) y=_
  rw[jt v y xs,KG]
  by_cases h1:y∈xs
  ·simp[h1]
  ·by_cases h2:x=y
   ·simp[h1,h2]
   ·have:¬y=x:=λz=>h2 z.symm
    simp[h1,h2,this]
theorem uD:∀(rows:List (Int×List Str))(d:SI)(n:Str)(L:Int),lookS (endsS d rows) n=some L->lookS d n=some L∨∃r∈rows,n∈r.2/\r.1=L
 | [],d,n,L,h=>.inl h
 |r::rows,d,n,L,h=>by
  rcases uD rows _ n L h with h | ⟨u,h1,h2⟩
  ·rw[jt] at h
   split at h
   ·rename_i hn
    exact .inr ⟨r,List.mem_cons_self,hn,Option.some.inj h⟩
   ·exact .inl h
  ·exact .inr ⟨u,List.mem_cons_of_mem _ h1,h2⟩
theorem Vt:∀(rows:List (Int×List Str))(d:SI)(n:Str),(∃v,lookS d n=some v)->∃L,lookS (endsS d rows) n=some L
 | [],d,n,h=>h
 |r::rows,d,n,⟨v,h⟩=>by
  refine Vt rows _ n ?_
  rw[jt]
  split
  ·exact⟨_,rfl⟩
  ·exact⟨v,h⟩
theorem UB (a b:List (Int×List Str))(d:SI):endsS d (a++b)=endsS (endsS d a) b:=by unfold endsS;rw[List.foldl_append]
theorem Y2 {f:Int->Int}{x:Int}{q:SI}{rows:List (Int×List Str)}(h:Run f x q rows){r:Int×List Str}(hr:r∈rows){n:Str}(hn:n∈r.2)(d:SI):∃L,lookS (endsS d rows) n=some L/\r.1<=L:=by
 obtain⟨a,b,rfl⟩:=List.append_of_mem hr
 obtain⟨q',_,h2⟩:=vZ h
 have hb:∀u∈b,r.1<=u.1:=by
  intro u hu
  cases h2 with
  |cons hq h3=>
   have:=(kS h3 u hu).1
   show x+a.length<=u.1
   omega
 rw[UB]
 show ∃L,lookS (endsS (r.2.foldl (λd n=>putS d n r.1) (endsS d a)) b) n=some L/\r.1<=L
 have h0:lookS (r.2.foldl (λd n=>putS d n r.1) (endsS d a)) n=some r.1:=by rw[jt,if_pos hn]
 obtain⟨L,hL⟩:=Vt b _ n ⟨_,h0⟩
 refine⟨L,hL,?_⟩
 rcases uD b _ n L hL with z | ⟨u,u1,_,u3⟩
 ·rw[h0] at z;cases z;exact Int.le_refl _
 ·have:=hb u u1;omega
theorem W9 (v:Int):∀(xs:List Str)(d:SI),(keysS d).Nodup->(keysS (xs.foldl (λd n=>putS d n v) d)).Nodup
 | [],_,h=>h
 |x::xs,d,h=>W9 v xs (putS d x v) (RK h)
theorem Ys:∀(rows:List (Int×List Str))(d:SI),(keysS d).Nodup->(keysS (endsS d rows)).Nodup
 | [],_,h=>h
 |r::rows,d,h=>Ys rows _ (W9 r.1 r.2 d h)
variable {f:Int->Int}
def ra (f:Int->Int):Int->SI->Nat->List (Int×List Str)
 |_,_,0=>[]
 |x,A,k+1=>(x,srv (f x).toNat A)::ra f (x+1) (beh (f x).toNat A) k
def hb (rows:List (Int×List Str))(n:Str)(t:Int):Nat:=(rows.filter λr=>decide (r.1<=t)&&decide (n∈r.2)).length
end Dv
namespace Dv
open PySem PySem.Spec L2 L3 L4
open PyProof.Rows hiding St
section
variable {i:Nat}{g:EnvD->Option D}{gl gi:EnvD->Option (List D)}{gk:EnvD->Option (List (Key×D))}{gb:EnvD->Option Bool}{b s1 s2:SD}{ρ ρ':EnvD}{d:D}{ds:List D}{kvs:List (Key×D)}{r:Option Fl}{t:Tgt}
theorem yj (h:g ρ=some d)(k:b (ρ.set i (some (.val d)))=r):sSeq (sSet i g) b ρ=r:=by
 rw[<-k]
 show thenB ((g ρ).map λd=>Fl.next (ρ.set i (some (.val d)))) b=_
 rw[h];rfl
theorem Z3 (h:gk ρ=some kvs)(k:b (ρ.set i (some (.dct none kvs)))=r):sSeq (sSetD i gk) b ρ=r:=by
 rw[<-k]
 show thenB ((gk ρ).map λd=>Fl.next (ρ.set i (some (.dct none d)))) b=_
 rw[h];rfl
theorem vC (h:gi ρ=some ds)(h2:forD t s1 ds ρ=some (.next ρ'))(k:b ρ'=r):sSeq (sFor t gi s1) b ρ=r:=by
 rw[<-k]
 show thenB ((gi ρ).bind λds=>forD t s1 ds ρ) b=_
 rw[h]
 show thenB (forD t s1 ds ρ) b=_
 rw[h2];rfl
theorem jq (h:gb ρ=some false)(k:b ρ=r):sSeq (sIf gb s1 sNext) b ρ=r:=by
 rw[<-k]
 show thenB ((gb ρ).bind λc=>if c then s1 ρ else sNext ρ) b=_
 rw[h];rfl
end
end Dv
namespace My
open PySem PySem.Spec L2 L3 L4 L6 Dv
open PyProof.Rows hiding St
def top (i:Nat):Stmt:=PySem.Challenge.pw_latestturn_k31_latest_turns.main.body.getD i (.Pass ⟨0,0,0,0⟩)
abbrev wm:Stmt:=top 13
abbrev wy:Stmt:=top 14
abbrev xN:Stmt:=top 15
abbrev wd:Stmt:=top 16
abbrev xj:Stmt:=top 17
abbrev wx:Stmt:=top 18
abbrev wn:Stmt:=top 19
abbrev xY:Stmt:=kH (top 20) 0
abbrev wj:Stmt:=kH (top 20) 4
abbrev xA:Stmt:=top 22
abbrev xh:Stmt:=top 23
abbrev xu:Stmt:=top 25
abbrev yH:Stmt:=top 27
abbrev wD:Stmt:=top 28
abbrev wu:Stmt:=top 29
abbrev wG:Stmt:=top 31
abbrev xo:Stmt:=top 32
abbrev yS:Stmt:=top 33
abbrev wa:Stmt:=top 34
abbrev wo:Stmt:=top 35
abbrev wC:Stmt:=top 37
abbrev we:Stmt:=top 38
abbrev wK:Stmt:=top 39
abbrev wf:Stmt:=top 40
abbrev yN:Stmt:=top 41
abbrev yY:Stmt:=top 42
abbrev xt:Stmt:=top 43
abbrev xX:Stmt:=top 44
abbrev wA:Stmt:=top 45
abbrev xi:Stmt:=top 46
abbrev wL:Stmt:=top 47
abbrev yM:Stmt:=top 48
abbrev wH:Stmt:=top 49
abbrev yB:Stmt:=top 50
def W2:List Str:=["thing"]
def qE:SD:=(sRet (gAndV (gIs "int" (gr 0)) (gNotV (gIs "bool" (gr 0)))))
def vi:List En->Option En:=mir W2 (qE)
def jG:List Str:=["thing","low","high"]
def qD:SD:=(sRet (gAndV (gCall (len? 1 vi) frzO (nCons (gn 0) nNil)) (g3 fLe fLe (gr 1) (gr 0) (gr 2))))
def xa:List En->Option En:=mir jG (qD)
def W4:List Str:=["thing"]
def kP:EnvD->Option D:=(g2 (fIn false) (gr 0) (g2 fPlus (gc (.str "abcdefghijklmnopqrstuvwxyz")) (gc (.str "0123456789"))))
def qV:SD:=(sSeq (sIf (gOr (gNot (gt (gIs "str" (gr 0)))) (gNot (gb' (g3 fLe fLe (gc (.int 1)) (gB fLen (gCons' (gr 0) gNil)) (gc (.int 8)))))) (sRet (gc (.bl false))) sNext) (sRet (gAndV (g2 (fIn false) (g2 fItem (gr 0) (gc (.int 0))) (gc (.str "abcdefghijklmnopqrstuvwxyz"))) (gB fAll (gCons' (gFz (gComp ["sign"] [] (.name 0) tYes kP (gItS (gr 0)))) gNil)))))
def yG:List En->Option En:=mir W4 (qV)
def VD:List Str:=["thing"]
def kQ:SD:=(sSeq (sIf (gOr (gNot (gt (gIs "tuple" (gr 0)))) (gb' (g2 (fEq true) (gB fLen (gCons' (gr 0) gNil)) (gc (.int 2))))) (sRet (gc (.bl false))) sNext) (sRet (gAndV (gCall (len? 3 xa) frzO (nCons (gVal (g2 fItem (gr 0) (gc (.int 0)))) (nCons (gVal (gc (.int 1))) (nCons (gVal (gc (.int 100))) nNil)))) (gCall (len? 3 xa) frzO (nCons (gVal (g2 fItem (gr 0) (gc (.int 1)))) (nCons (gVal (gc (.int 0))) (nCons (gVal (gc (.int 8))) nNil)))))))
def vj:List En->Option En:=mir VD (kQ)
def vv:List Str:=["rows","rest"]
def kN:EnvD->Option D:=(gCall (len? 1 vj) frzO (nCons (gn 0) nNil))
def ud:SD:=(sSeq (sIf (gOr (gNot (gt (gIs "list" (gr 0)))) (gb' (g2 fGt (gB fLen (gCons' (gr 0) gNil)) (gc (.int 16))))) sNever sNext) (sSeq (sIf (gNot (gt (gB fAll (gCons' (gFz (gComp ["row"] [] (.name 0) tYes kN (gIt (gr 0)))) gNil)))) sNever sNext) (sIf (gNot (gt (gCall (len? 3 xa) frzO (nCons (gn 1) (nCons (gVal (gc (.int 1))) (nCons (gVal (gc (.int 8))) nNil)))))) sNever sNext)))
def vF:List En->Option En:=mir vv (ud)
def vQ:List Str:=["rows","rest","kept","turns","counters"]
def wO:SD:=(sIf (gAnd (gt (gr 2)) (gb' (g2 (fEq false) (g2 fItem (g2 fItem (gr 2) (gNeg (gc (.int 1)))) (gc (.int 1))) (gr 4)))) (sPut 2 (gNeg (gc (.int 1))) (gTup' (gCons' (g2 fPlus (g2 fItem (g2 fItem (gr 2) (gNeg (gc (.int 1)))) (gc (.int 0))) (gr 3)) (gCons' (gv 4) gNil)))) (sIf (gb' (g2 fGt (gr 3) (gc (.int 0)))) (sApp 2 (gTup' (gCons' (gv 3) (gCons' (gv 4) gNil)))) sNext))
def uk:SD:=(sSeq (sSetA 2 (gLst gNil)) (sSeq (sFor (.tup [3,4]) (gIt (gf 0)) wO) (sSeq (sIf (gAnd (gt (gr 2)) (gb' (g2 (fEq false) (g2 fItem (g2 fItem (gr 2) (gNeg (gc (.int 1)))) (gc (.int 1))) (gr 1)))) (sPop 2) sNext) (sRetV 2))))
def vf:List En->Option En:=mir vQ (uk)
def jC:List Str:=["rows","spans","start","turns","counters"]
def kL:SD:=(sSeq (sApp 1 (gTup' (gCons' (gv 2) (gCons' (g2 fPlus (gr 2) (gr 3)) (gCons' (gv 4) gNil))))) (sSet 2 (g2 fPlus (gr 2) (gr 3))))
def uC:SD:=(sSeq (sSetA 1 (gLst gNil)) (sSeq (sSet 2 (gc (.int 0))) (sSeq (sFor (.tup [3,4]) (gIt (gf 0)) kL) (sRetV 1))))
def vA:List En->Option En:=mir jC (uC)
def v9:List Str:=["self","rows","rest"]
def wZ (C:Addr):SD:=(sSeq (sExpr (gCall (len? 2 vF) frzO (nCons (gn 1) (nCons (gn 2) nNil)))) (sSeq (sFldD 0 C "kept_rest" (gv 2)) (sFldD 0 C "spans" (gCall (len? 1 vA) frzO (nCons (gVal (gCall (len? 2 vf) frzO (nCons (gn 1) (nCons (gn 2) nNil)))) nNil)))))
def wM (C:Addr):List En->Option (List Str×List D):=mirI C v9 (wZ C) 0 0
def j8:List Str:=["self","turn","low","high","middle"]
def jc (C:Addr):SD:=(sSeq (sSet 4 (g2 fDiv (g2 fPlus (gr 2) (gr 3)) (gc (.int 2)))) (sIf (gb' (g2 fLt (gr 1) (g2 fItem (g2 fItem (gFld C "spans" (gv 0)) (gr 4)) (gc (.int 1))))) (sSet 3 (gv 4)) (sSet 2 (g2 fPlus (gr 4) (gc (.int 1))))))
def uR (C:Addr):SD:=(sSeq (sSet 2 (gc (.int 0))) (sSeq (sSet 3 (gB fLen (gCons' (gFld C "spans" (gv 0)) gNil))) (sSeq (sWhile (gb' (g2 fLt (gr 2) (gr 3))) (jc C)) (sRet (gIf (gb' (g2 fLt (gr 2) (gB fLen (gCons' (gFld C "spans" (gv 0)) gNil)))) (g2 fItem (g2 fItem (gFld C "spans" (gv 0)) (gr 2)) (gc (.int 2))) (gFld C "kept_rest" (gv 0)))))))
def xy (C:Addr):List En->Option En:=mir j8 (uR C)
def Zb:List Str:=["queue"]
def up:EnvD->Option D:=(gv 0)
def kg:SD:=(sRetA (gComp ["name","left"] [] (.tup [0,1]) tYes up (gIt (gr 0))))
def xQ:List En->Option En:=mir Zb (kg)
def xB:List Str:=["queue","name","place","ticket"]
def jI:SD:=(sIf (gb' (g2 (fEq false) (g2 fItem (gr 3) (gc (.int 0))) (gr 1))) (sRetV 2) sNext)
def ko:SD:=(sSeq (sIf (gt (gCall (len? 1 yG) frzO (nCons (gn 1) nNil))) (sFor (.tup [2,3]) (gEn (gCons' (gf 0) gNil)) jI) sNext) sNever)
def vd:List En->Option En:=mir xB (ko)
def qx:SD:=(sIf (gb' (g2 (fEq false) (g2 fItem (gr 3) (gc (.int 0))) (gr 1))) (sRetV 2) sNext)
def kK:EnvD->Option D:=(bSeq (sIf (gt (gCall (len? 1 yG) frzO (nCons (gn 1) nNil))) (sFor (.tup [2,3]) (gEn (gCons' (gf 0) gNil)) qx) sNext) (gv 1))
def wT:List En->Option D:=mirX xB 2 kK
def wE:List Str:=["queue","many","served","begun"]
def vV:EnvD->Option D:=(gTup' (gCons' (gv 0) (gCons' (g2 fSub (gr 1) (gc (.int 1))) gNil)))
def jT:SD:=(sSeq (sSet 2 (gFz (gSl (gr 0) gNone (gSome (gr 1))))) (sSeq (sSet 3 (gFz (gComp ["name","left"] [] (.tup [0,1]) (gb' (g2 fGt (gr 1) (gc (.int 1)))) vV (gIt (gr 2))))) (sRetT (gTupT (tCn (gLs (gCall (len? 1 xQ) accO (nCons (gn 2) nNil))) (tCn (gLs (g2 fCatS (gr 3) (gFz (gSl (gr 0) (gSome (gr 1)) gNone)))) tNl))))))
def yy:List En->Option En:=mir wE (jT)
def jp:List Str:=["queue","hours","begin","real","waiting","rows","turn","served"]
def j4 (C:Addr):SD:=(sSeq (sSet 6 (g2 fPlus (gr 2) (gB fLen (gCons' (gh 5) gNil)))) (sSeq (sSetT 7 (gCall (len? 2 yy) treO (nCons (gn 4) (nCons (gVal (gMeth C "at" (len? 2 (xy C)) frzO (gv 1) (nCons (gn 6) nNil))) nNil)))) (sMv 5 7 4 (gv 6))))
def ug (C:Addr):SD:=(sSeq (sSet 4 (gIf (gb' (g2 (fIs false) (gr 3) (gc .non))) (gv 0) gNev)) (sSeq (sSetT 5 (gLs (gLst gNil))) (sSeq (sWhile (gt (gr 4)) (j4 C)) (sRetVT 5))))
def yf (C:Addr):List En->Option En:=mir jp (ug C)
def qe:List Str:=["rows","ends","turn","names","name"]
def uh:SD:=(sPutD 1 (gr 4) (gv 2))
def uw:SD:=(sFor (.name 4) (gIt (gf 3)) uh)
def qZ:SD:=(sSeq (sSetD 1 gNewD) (sSeq (sFor (.tup [2,3]) (gIt (gf 0)) uw) (sRetVD 1)))
def vw:List En->Option En:=mir qe (qZ)
def vP:List Str:=["queue","hours","begin","rows","waiting","place","row","due","served"]
def uM (C:Addr):SD:=(sSeq (sSet 7 (g2 fPlus (gr 2) (gr 5))) (sSeq (sSetT 8 (gCall (len? 2 yy) treO (nCons (gn 4) (nCons (gVal (gMeth C "at" (len? 2 (xy C)) frzO (gv 1) (nCons (gn 7) nNil))) nNil)))) (sSeq (sIf (gOr (gNot (gt (gr 4))) (gOr (gb' (g2 (fEq true) (g2 fItem (gr 6) (gc (.int 0))) (gr 7))) (gb' (g2 (fEq true) (g2 fItem (gr 6) (gc (.int 1))) (g2 fItem (gh 8) (gc (.int 0))))))) (sRet (gc .non)) sNext) (sTk 8 4 1))))
def qO (C:Addr):SD:=(sSeq (sSetA 4 (gB fList (gCons' (gr 0) gNil))) (sSeq (sFor (.tup [5,6]) (gEn (gCons' (gf 3) gNil)) (uM C)) (sRetV 4)))
def vc (C:Addr):List En->Option En:=mir vP (qO C)
def w6:List Str:=["queue","hours","begin"]
def u5 (C:Addr):SD:=(sRetD (gCall (len? 1 vw) dctO (nCons (gVal (gCall (len? 3 (mN (yf C))) frzO (nCons (gn 0) (nCons (gn 1) (nCons (gn 2) nNil))))) nNil)))
def yF (C:Addr):List En->Option En:=mir w6 (u5 C)
def xr:List Str:=["queue","hours","begin","name"]
def uQ (C:Addr):SD:=(sSeq (sExpr (gCall (len? 2 vd) frzO (nCons (gn 0) (nCons (gn 3) nNil)))) (sRet (gGetD (gCall (len? 3 (yF C)) dctO (nCons (gn 0) (nCons (gn 1) (nCons (gn 2) nNil)))) (gr 3))))
def yA (C:Addr):List En->Option En:=mir xr (uQ C)
def u6:EnvD->Option D:=(bCall wT (nCons (gn 0) (nCons (gn 3) nNil)))
def xg:List En->Option D:=mirX xr 4 u6
def yZ:List Str:=["queue","hours","begin","name","latest"]
def ut (C:Addr):SD:=(sSeq (sSet 4 (gCall (len? 4 (yA C)) frzO (nCons (gn 0) (nCons (gn 1) (nCons (gn 2) (nCons (gn 3) nNil)))))) (sRetT (gFilt ["row"] [("latest",4)] (gb' (g2 fLe (g2 fItem (gr 0) (gc (.int 0))) (gr 1))) (gCall (len? 3 (mN (yf C))) treO (nCons (gn 0) (nCons (gn 1) (nCons (gn 2) nNil)))))))
def xx (C:Addr):List En->Option En:=mir yZ (ut C)
def kA:EnvD->Option D:=(bCall xg (nCons (gn 0) (nCons (gn 1) (nCons (gn 2) (nCons (gn 3) nNil)))))
def vp:List En->Option D:=mirX yZ 4 kA
def xJ:List Str:=["queue","hours","begin","name","turn","rows","behind"]
def wt (C:Addr):SD:=(sSeq (sSet 6 (gFz (gCall (len? 4 (vc C)) accO (nCons (gn 0) (nCons (gn 1) (nCons (gn 2) (nCons (gn 5) nNil))))))) (sSeq (sIf (gOr (gb' (g2 (fIs false) (gr 6) (gc .non))) (gOr (gNot (gt (gr 5))) (gb' (g2 (fEq true) (g2 fItem (g2 fItem (gr 5) (gNeg (gc (.int 1)))) (gc (.int 0))) (gr 4))))) (sRet (gc (.bl false))) sNext) (sRet (gAndV (gCall (len? 1 yG) frzO (nCons (gn 3) nNil)) (gAndV (g2 (fIn false) (gr 3) (g2 fItem (g2 fItem (gr 5) (gNeg (gc (.int 1)))) (gc (.int 1)))) (g2 (fIn true) (gr 3) (gFz (gCall (len? 1 xQ) accO (nCons (gn 6) nNil)))))))))
def yd (C:Addr):List En->Option En:=mir xJ (wt C)
def Vh:List Str:=["queue","hours","begin"]
def kd (C:Addr):SD:=(sRet (g2 fSub (g2 fPlus (gr 2) (gB fLen (gCons' (gCall (len? 3 (mN (yf C))) frzO (nCons (gn 0) (nCons (gn 1) (nCons (gn 2) nNil)))) gNil))) (gc (.int 1))))
def vh (C:Addr):List En->Option En:=mir Vh (kd C)
def vE:List Str:=["_law_script","_law_k"]
def jo:SD:=(sSeq (sIf (gb' (g2 fLt (gr 1) (gB fLen (gCons' (gr 0) gNil)))) (sRet (g2 fItem (gr 0) (gr 1))) sNext) (sRet (gc (.int 0))))
def zQ:List En->Option En:=mir vE (jo)
def jX:List Str:=["_law_found"]
def uK:SD:=(sRet (gAndV (gIs "int" (gr 0)) (gNotV (gIs "bool" (gr 0)))))
def xP:List En->Option En:=mir jX (uK)
def j3:List Str:=["_law_cell_here","_law_k","_law_number"]
def kO:SD:=(sSeq (sSet 2 (g2 fMod (g2 fPlus (g2 fPlus (g2 fMul (g2 fMod (gr 0) (gc (.int 2147483647))) (gc (.int 48271))) (g2 fMul (gc (.int 69621)) (gr 1))) (gc (.int 7))) (gc (.int 2147483647)))) (sSeq (sSet 2 (g2 fMod (g2 fMul (gr 2) (gr 2)) (gc (.int 2147483629)))) (sRet (g2 fMod (g2 fPlus (g2 fPlus (g2 fMul (gr 2) (gr 2)) (g2 fMul (gc (.int 16807)) (gr 2))) (gc (.int 11))) (gc (.int 2147483587))))))
def yO:List En->Option En:=mir j3 (kO)
def jy:List Str:=["_law_script","_law_at_here","_law_base","_law_count","_law_cell_here","_law_found","_law_k"]
def jk:SD:=(sIf (gb' (g2 (fEq false) (g2 fAnd (g2 fShr (gCall (len? 2 zQ) frzO (nCons (gn 0) (nCons (gVal (gc (.int 0))) nNil))) (g2 fMod (gr 1) (gc (.int 8)))) (gc (.int 1))) (gc (.int 0)))) (sSeq (sApp 5 (g2 fMod (gr 4) (gr 2))) (sSet 4 (g2 fDiv (gr 4) (gr 2)))) (sApp 5 (g2 fMod (g2 fDiv (gCall (len? 2 yO) frzO (nCons (gn 4) (nCons (gn 6) nNil))) (gc (.int 8))) (gr 2))))
def uV:SD:=(sSeq (sSet 4 (gCall (len? 2 zQ) frzO (nCons (gn 0) (nCons (gn 1) nNil)))) (sSeq (sSetA 5 (gLst gNil)) (sSeq (sFor (.name 6) (gR1 (gCons' (gr 3) gNil)) jk) (sRetV 5))))
def yR:List En->Option En:=mir jy (uV)
def xC:List Str:=["_law_cell_here","_law_many","_law_signs","_law_base","_law_first","_law_names_here","_law_k","_law_name"]
def u9:SD:=(sSeq (sSet 7 (g2 fItem (gr 2) (g2 fMod (g2 fPlus (gr 4) (g2 fDiv (gr 6) (gc (.int 36)))) (gc (.int 26))))) (sSeq (sSet 7 (g2 fPlus (gr 7) (g2 fItem (gr 2) (g2 fMod (g2 fPlus (g2 fDiv (gr 0) (gc (.int 3))) (g2 fMul (gc (.int 7)) (gr 6))) (gc (.int 36)))))) (sApp 5 (g2 fPlus (gr 7) (gSlS (gr 3) gNone (gSome (g2 fMod (g2 fDiv (gr 0) (gc (.int 108))) (gc (.int 7)))))))))
def kB:EnvD->Option D:=(g2 fPlus (g2 fItem (gr 1) (gr 2)) (gSlS (gr 3) gNone (gSome (gr 0))))
def jL:EnvD->Option D:=(g2 fItem (gr 1) (g2 fMod (gCall (len? 2 yO) frzO (nCons (gn 2) (nCons (gn 0) nNil))) (gc (.int 36))))
def jO:SD:=(sSeq (sSet 2 (gc (.str "abcdefghijklmnopqrstuvwxyz0123456789"))) (sSeq (sSet 3 (gSM fJoin (gc (.str "")) (gCons' (gFz (gComp ["_law_j"] [("_law_signs",2),("_law_cell_here",0)] (.name 0) tYes jL (gR1 (gCons' (gc (.int 7)) gNil)))) gNil))) (sSeq (sSet 4 (g2 fMod (gCall (len? 2 yO) frzO (nCons (gn 0) (nCons (gVal (gc (.int 8))) nNil))) (gc (.int 26)))) (sSeq (sIf (gAnd (gb' (g2 (fEq false) (g2 fMod (gr 0) (gc (.int 3))) (gc (.int 0)))) (gb' (g2 fLt (gr 1) (gc (.int 9))))) (sRetA (gComp ["_law_k"] [("_law_signs",2),("_law_first",4),("_law_base",3)] (.name 0) tYes kB (gR1 (gCons' (gr 1) gNil)))) sNext) (sSeq (sSetA 5 (gLst gNil)) (sSeq (sFor (.name 6) (gR1 (gCons' (gr 1) gNil)) u9) (sRetV 5)))))))
def yz:List En->Option En:=mir xC (jO)
def xp:List Str:=["_law_script","_law_rows"]
def uT:EnvD->Option D:=(gTup' (gCons' (g2 fMul (gc (.int 11)) (gr 0)) (gCons' (g2 fPlus (gr 1) (g2 fMul (gc (.int 4)) (gB fInt (gCons' (g2 fGt (gr 1) (gc (.int 0))) gNil)))) gNil)))
def uo:EnvD->Option D:=(gTup' (gCons' (g2 fPlus (gc (.int 1)) (g2 fMod (gr 0) (gc (.int 9)))) (gCons' (g2 fDiv (gr 0) (gc (.int 9))) gNil)))
def vM:SD:=(sSeq (sSet 1 (gFz (gComp ["_law_n"] [] (.name 0) tYes uo (gIt (gFz (gCall (len? 4 yR) accO (nCons (gn 0) (nCons (gVal (gc (.int 1))) (nCons (gVal (gc (.int 45))) (nCons (gVal (g2 fMod (gCall (len? 2 zQ) frzO (nCons (gn 0) (nCons (gVal (gc (.int 2))) nNil))) (gc (.int 7)))) nNil)))))))))) (sSeq (sIf (gb' (g2 (fEq false) (g2 fMod (g2 fDiv (gCall (len? 2 zQ) frzO (nCons (gn 0) (nCons (gVal (gc (.int 2))) nNil))) (gc (.int 7))) (gc (.int 8))) (gc (.int 1)))) (sSet 1 (gFz (gComp ["_law_many","_law_counters"] [] (.tup [0,1]) tYes uT (gIt (gr 1))))) sNext) (sRet (gTup' (gCons' (gv 1) (gCons' (g2 fPlus (gc (.int 1)) (g2 fMod (g2 fDiv (gCall (len? 2 zQ) frzO (nCons (gn 0) (nCons (gVal (gc (.int 2))) nNil))) (gc (.int 56))) (g2 fItem (gFz (gLst (gCons' (gc (.int 3)) (gCons' (gc (.int 8)) gNil)))) (g2 fMod (g2 fDiv (gCall (len? 2 zQ) frzO (nCons (gn 0) (nCons (gVal (gc (.int 2))) nNil))) (gc (.int 1344))) (gc (.int 2)))))) gNil))))))
def wz:List En->Option En:=mir xp (vM)
def wq:List Str:=["_law_script","_law_cell_here","_law_many","_law_size","_law_lefts","_law_names_here"]
def vS:EnvD->Option D:=(gTup' (gCons' (g2 fItem (gr 1) (gr 0)) (gCons' (g2 fPlus (gc (.int 1)) (g2 fItem (gr 2) (gr 0))) gNil)))
def jN:SD:=(sSeq (sSet 1 (gCall (len? 2 zQ) frzO (nCons (gn 0) (nCons (gVal (gc (.int 3))) nNil)))) (sSeq (sSet 2 (g2 fMod (gr 1) (gc (.int 9)))) (sSeq (sSet 3 (g2 fItem (gFz (gLst (gCons' (gc (.int 6)) (gCons' (gc (.int 20)) gNil)))) (g2 fMod (g2 fDiv (gr 1) (gc (.int 144))) (gc (.int 2))))) (sSeq (sIf (gb' (g2 (fEq false) (g2 fMod (g2 fDiv (gr 1) (gc (.int 9))) (gc (.int 16))) (gc (.int 1)))) (sSeq (sSet 2 (gc (.int 60))) (sSet 3 (gc (.int 3)))) sNext) (sSeq (sSet 4 (gFz (gCall (len? 4 yR) accO (nCons (gn 0) (nCons (gVal (gc (.int 4))) (nCons (gn 3) (nCons (gn 2) nNil))))))) (sSeq (sSet 5 (gCall (len? 2 yz) frzO (nCons (gVal (gCall (len? 2 zQ) frzO (nCons (gn 0) (nCons (gVal (gc (.int 5))) nNil)))) (nCons (gn 2) nNil)))) (sRetA (gComp ["_law_k"] [("_law_names_here",5),("_law_lefts",4)] (.name 0) tYes vS (gR1 (gCons' (gr 2) gNil))))))))))
def wg:List En->Option En:=mir wq (jN)
def wS:List Str:=["_law_script","_law_cell_here"]
def vU:SD:=(sSeq (sSet 1 (gCall (len? 2 zQ) frzO (nCons (gn 0) (nCons (gVal (gc (.int 6))) nNil)))) (sSeq (sIf (gb' (g2 (fEq false) (g2 fMod (gr 1) (gc (.int 8))) (gc (.int 1)))) (sRet (g2 fMod (g2 fDiv (gr 1) (gc (.int 8))) (g2 fPlus (g2 fPow (gc (.int 10)) (gc (.int 5))) (gc (.int 1))))) sNext) (sRet (g2 fMod (g2 fDiv (gr 1) (gc (.int 8))) (gc (.int 30))))))
def wr:List En->Option En:=mir wS (vU)
def jw:List Str:=["_law_rows","_law_rest","_law_turn_here","_law_many","_law_counters"]
def jY:SD:=(sSeq (sIf (gb' (g2 fLt (gr 2) (gr 3))) (sRetV 4) sNext) (sSet 2 (g2 fSub (gr 2) (gr 3))))
def qy:SD:=(sSeq (sFor (.tup [3,4]) (gIt (gf 0)) jY) (sRetV 1))
def ve:List En->Option En:=mir jw (qy)
def vH:List Str:=["_law_queue_here","_law_many","_law_behind","_law_k","_law_name","_law_left"]
def qt:EnvD->Option D:=(gv 0)
def wk:SD:=(sSeq (sAsg (.tup [4,5]) (g2 fItem (gr 0) (gr 3))) (sSeq (sIf (gb' (g2 fLt (gr 3) (gr 1))) (sSet 5 (g2 fSub (gr 5) (gc (.int 1)))) sNext) (sIf (gb' (g2 fGt (gr 5) (gc (.int 0)))) (sApp 2 (gTup' (gCons' (gv 4) (gCons' (gv 5) gNil)))) sNext)))
def qX:SD:=(sSeq (sSetA 2 (gLst gNil)) (sSeq (sFor (.name 3) (gR1 (gCons' (gB fLen (gCons' (gr 0) gNil)) gNil)) wk) (sFrz 2 (sRet (gTup' (gCons' (gFz (gComp ["_law_name","_law_left"] [] (.tup [0,1]) tYes qt (gIt (gFz (gSl (gr 0) gNone (gSome (gr 1))))))) (gCons' (gv 2) gNil)))))))
def vy:List En->Option En:=mir vH (qX)
def jE:List Str:=["_law_queue_here","_law_hours_here","_law_begin_here","_law_found","_law_some","_law_turn_here","_law_names_here"]
def u8:SD:=(sSeq (sAsg (.tup [6,4]) (gCall (len? 2 vy) frzO (nCons (gn 4) (nCons (gVal (gCall (len? 3 ve) frzO (nCons (gVal (g2 fItem (gr 1) (gc (.int 0)))) (nCons (gVal (g2 fItem (gr 1) (gc (.int 1)))) (nCons (gn 5) nNil))))) nNil)))) (sSeq (sApp 3 (gTup' (gCons' (gv 5) (gCons' (gv 6) gNil)))) (sSet 5 (g2 fPlus (gr 5) (gc (.int 1))))))
def km:SD:=(sSeq (sSetA 3 (gLst gNil)) (sSeq (sSet 4 (gFz (gB fList (gCons' (gr 0) gNil)))) (sSeq (sSet 5 (gv 2)) (sSeq (sWhile (gb' (g2 (fEq true) (gr 4) (gFz (gLst gNil)))) u8) (sRetV 3)))))
def vt:List En->Option En:=mir jE (km)
def wv:List Str:=["_law_queue_here","_law_room","_law_begin_here","_law_name","_law_rows","_law_turn_here","_law_due","_law_found","_law_k","_law_told","_law_other","_law_truth"]
def jn (C:Addr):SD:=(sSeq (sSet 11 (gCall (len? 6 (yd C)) frzO (nCons (gn 0) (nCons (gn 1) (nCons (gn 2) (nCons (gn 3) (nCons (gn 10) (nCons (gn 6) nNil)))))))) (sIf (gOr (gNot (gt (gIs "bool" (gr 11)))) (gb' (g2 (fEq true) (gr 11) (g2 (fEq false) (gr 10) (gr 5))))) (sRet (gc (.bl false))) sNext))
def jh (C:Addr):SD:=(sSeq (sSetT 9 (gCall (len? 4 (xx C)) treO (nCons (gn 0) (nCons (gn 1) (nCons (gn 2) (nCons (gn 3) nNil)))))) (sSeq (sIf (gOr (gNot (gt (gIs "list" (gh 9)))) (gb' (g2 (fEq true) (gh 9) (gr 6)))) (sRet (gc (.bl false))) sNext) (sSeq (sMutT 9 (pIx 9 (pIx 9 pRoot (gNeg (gc (.int 1)))) (gc (.int 1))) mClear gNil) (sClrT 9))))
def uS:EnvD->Option D:=(gv 0)
def kI:EnvD->Option D:=(g2 fItem (gr 0) (gc (.int 0)))
def vR (C:Addr):SD:=(sSeq (sSet 5 (gB fMaxL (gCons' (gFz (gComp ["_law_row_here"] [("_law_name",3)] (.name 0) (gb' (g2 (fIn false) (gr 1) (g2 fItem (gr 0) (gc (.int 1))))) kI (gIt (gr 4)))) gNil))) (sSeq (sSet 6 (gFz (gComp ["_law_row_here"] [("_law_turn_here",5)] (.name 0) (gb' (g2 fLe (g2 fItem (gr 0) (gc (.int 0))) (gr 1))) uS (gIt (gr 4))))) (sSeq (sSet 7 (gCall (len? 4 (yA C)) frzO (nCons (gn 0) (nCons (gn 1) (nCons (gn 2) (nCons (gn 3) nNil)))))) (sSeq (sIf (gOr (gNot (gt (gCall (len? 1 xP) frzO (nCons (gn 7) nNil)))) (gb' (g2 (fEq true) (gr 7) (gr 5)))) (sRet (gc (.bl false))) sNext) (sSeq (sFor (.name 8) (gR1 (gCons' (gc (.int 2)) gNil)) (jh C)) (sSeq (sFor (.name 10) (gIt (gFz (gLst (gCons' (g2 fSub (gr 5) (gc (.int 1))) (gCons' (gv 5) (gCons' (g2 fPlus (gr 5) (gc (.int 1))) (gCons' (gv 2) gNil))))))) (jn C)) (sRet (gc (.bl true)))))))))
def yQ (C:Addr):List En->Option En:=mir wv (vR C)
def vN:List Str:=["_law_queue_here","_law_room","_law_begin_here","_law_name","_law_found","_law_k","e"]
def WK:SD:=(sTryA 4 3 6 (bIf (gb' (g2 (fEq false) (gr 5) (gc (.int 0)))) (bCall xg (nCons (gVal (gFz (gB fList (gCons' (gr 0) gNil)))) (nCons (gn 1) (nCons (gn 2) (nCons (gn 3) nNil))))) (bCall vp (nCons (gVal (gFz (gB fList (gCons' (gr 0) gNil)))) (nCons (gn 1) (nCons (gn 2) (nCons (gn 3) nNil)))))))
def qp:SD:=(sSeq (sSetA 4 (gLst gNil)) (sSeq (sFor (.name 5) (gR1 (gCons' (gc (.int 2)) gNil)) WK) (sRet (g2 (fEq false) (gr 4) (gFz (gLst (gCons' (gc (.bl true)) (gCons' (gc (.bl true)) gNil))))))))
def xq:List En->Option En:=mir vN (qp)
def jj:List Str:=["_law_script","_law_hours_here","_law_queue_here","_law_begin_here","_law_room","_law_rows","_law_due","_law_turn_here","_law_names_here","_law_name","_law_handed","_law_found","_law_last","_law_left","_law_cell_here"]
def vX (C:Addr):SD:=(sSeq (sSet 9 (g2 fItem (gCall (len? 2 yz) frzO (nCons (gn 14) (nCons (gVal (g2 fPlus (gc (.int 1)) (g2 fMod (gr 14) (gc (.int 8))))) nNil))) (gNeg (gc (.int 1))))) (sIf (gb' (gInD true (gr 9) (gk' 6))) (sSeq (sIf (gNot (gt (gCall (len? 4 xq) frzO (nCons (gn 2) (nCons (gn 4) (nCons (gn 3) (nCons (gn 9) nNil))))))) (sRet (gc (.bl false))) sNext) (sIf (gb' (g2 (fIsB true) (gCall (len? 6 (yd C)) frzO (nCons (gVal (gFz (gB fList (gCons' (gr 2) gNil)))) (nCons (gn 4) (nCons (gn 3) (nCons (gn 9) (nCons (gn 12) (nCons (gn 5) nNil))))))) (gc (.bl false)))) (sRet (gc (.bl false))) sNext)) sNext))
def je (C:Addr):SD:=(sIf (gOr (gNot (gt (gCall (len? 5 (yQ C)) frzO (nCons (gn 10) (nCons (gn 4) (nCons (gn 3) (nCons (gn 9) (nCons (gn 5) nNil)))))))) (gb' (g2 (fEq true) (gr 10) (gr 2)))) (sRet (gc (.bl false))) sNext)
def kG:SD:=(sPutD 6 (gr 9) (gv 7))
def kJ:SD:=(sFor (.name 9) (gIt (gf 8)) kG)
def jS (C:Addr):SD:=(sSeq (sSet 1 (gCall (len? 1 wz) frzO (nCons (gn 0) nNil))) (sSeq (sSet 2 (gFz (gCall (len? 1 wg) accO (nCons (gn 0) nNil)))) (sSeq (sSet 3 (gCall (len? 1 wr) frzO (nCons (gn 0) nNil))) (sSeq (sSet 4 (gMake C 2 (wM C) (nCons (gVal (gFz (gB fList (gCons' (g2 fItem (gr 1) (gc (.int 0))) gNil)))) (nCons (gVal (g2 fItem (gr 1) (gc (.int 1)))) nNil)))) (sSeq (sSet 5 (gFz (gCall (len? 3 vt) accO (nCons (gn 2) (nCons (gn 1) (nCons (gn 3) nNil)))))) (sSeq (sSetD 6 gNewD) (sSeq (sFor (.tup [7,8]) (gIt (gf 5)) kJ) (sSeq (sSet 10 (gFz (gB fList (gCons' (gr 2) gNil)))) (sSeq (sSetD 11 (gCall (len? 3 (yF C)) dctO (nCons (gn 10) (nCons (gn 4) (nCons (gn 3) nNil))))) (sSeq (sIf (gOr (gNot (gt (gIsD true (gk' 11)))) (gOr (gb' (gEqD true (gk' 11) (gk' 6))) (gb' (g2 (fEq true) (gr 10) (gr 2))))) (sRet (gc (.bl false))) sNext) (sSeq (sClrD 11) (sSeq (sSet 12 (gCall (len? 3 (vh C)) frzO (nCons (gVal (gFz (gB fList (gCons' (gr 2) gNil)))) (nCons (gn 4) (nCons (gn 3) nNil))))) (sSeq (sIf (gOr (gb' (gEqD true (gCall (len? 3 (yF C)) dctO (nCons (gVal (gFz (gB fList (gCons' (gr 2) gNil)))) (nCons (gn 4) (nCons (gn 3) nNil)))) (gk' 6))) (gOr (gNot (gt (gCall (len? 1 xP) frzO (nCons (gn 12) nNil)))) (gb' (g2 (fEq true) (gr 12) (g2 fSub (g2 fPlus (gr 3) (gB fLen (gCons' (gr 5) gNil))) (gc (.int 1))))))) (sRet (gc (.bl false))) sNext) (sSeq (sFor (.tup [9,13]) (gIt (gFz (g2 fCatS (gFz (gSl (gr 2) gNone (gSome (gc (.int 2))))) (gFz (gSl (gr 2) (gSome (gNeg (gc (.int 2)))) gNone))))) (je C)) (sSeq (sFor (.name 14) (gIt (gFz (g2 fCatS (gFz (gSlI (gr 0) (gSome (gc (.int 7))) (gSome (gc (.int 10))))) (gFz (gLst (gCons' (gc (.int 4)) gNil)))))) (vX C)) (sRet (gc (.bl true))))))))))))))))))
def ZS (C:Addr):List En->Option En:=mir jj (jS C)
structure Txt (K:PySem.W.Frag)(mg:Str->Option Value)(C:Addr):Prop where
 cl:Cls K C
 n_kept_rest:NoAttr K C "kept_rest"
 n_spans:NoAttr K C "spans"
 b_all:mg "all" = none
 b_bool:mg "bool" = none
 b_dict:mg "dict" = none
 b_enumerate:mg "enumerate" = none
 b_int:mg "int" = none
 b_isinstance:mg "isinstance" = none
 b_len:mg "len" = none
 b_list:mg "list" = none
 b_max:mg "max" = none
 b_range:mg "range" = none
 b_str:mg "str" = none
 b_tuple:mg "tuple" = none
 c_FIGURES':∃t,mg "FIGURES" = some (.str "0123456789" t)
 c_LETTERS':∃t,mg "LETTERS" = some (.str "abcdefghijklmnopqrstuvwxyz" t)
 c_MOST_COUNTERS':∃t,mg "MOST_COUNTERS" = some (.int 8 t)
 c_MOST_ROWS':∃t,mg "MOST_ROWS" = some (.int 16 t)
 c_MOST_SIGNS':∃t,mg "MOST_SIGNS" = some (.int 8 t)
 c_MOST_TURNS':∃t,mg "MOST_TURNS" = some (.int 100 t)
section
variable {P:Program}{w:World}{K:PySem.W.Frag}{mg:Str->Option Value}{base:Heap}{C:Addr}
theorem VL:FnScope ["thing"] ["thing"] (zd wm):=⟨rfl,rfl,rfl,by decide +kernel,rfl,by decide +kernel,by decide +kernel⟩
theorem QF {f:Addr}{fd:FuncData}(T:Txt K mg C)(F:Fun K "is_whole" "is_whole" wm f fd):FnOk P w K mg base CX0 1 f fd ["thing"] (pSp ⟨K,w⟩ 1 (len? 1 (mir ["thing"] qE))):=by
 have sc:=VL
 refine zw (k:=0) F VL (λcdv A outer s H E B hr=>?_)
 exact (zf (zz (xE (yU (kitT "int" (by decide)) (by rfl) T.b_isinstance (by rfl) T.b_int (by decide +kernel) (za 0 (pv 0))) (ww (WE (yU (kitT "bool" (by decide)) (by rfl) T.b_isinstance (by rfl) T.b_bool (by decide +kernel) (za 0 (pv 0))))))))
theorem Zg:FnScope jG ["thing","low","high"] (zd wy):=⟨rfl,rfl,rfl,by decide +kernel,rfl,by decide +kernel,by decide +kernel⟩
theorem QL {f:Addr}{fd:FuncData}(T:Txt K mg C)(F:Fun K "is_number" "is_number" wy f fd) (Hai:Fx P w K mg base "is_whole" 1 1 vi):FnOk P w K mg base CX0 2 f fd ["thing","low","high"] (pSp ⟨K,w⟩ 3 (len? 3 (mir jG qD))):=by
 have sc:=Zg
 refine zw (k:=1) F Zg (λcdv A outer s H E B hr=>?_)
 exact (zf (zz (xE (zo Hai (hr.mono (by decide)) (by rfl) (zb (zc 0 (pv 0)) zh)) (ww (Jf wJ wJ w5 w5 (za 1 (pv 1)) (za 0 (pv 0)) (za 2 (pv 2)))))))
theorem Vc:FnScope ["thing"] ["thing"] (zd xN):=⟨rfl,rfl,rfl,by decide +kernel,rfl,by decide +kernel,by decide +kernel⟩
theorem Ub {f:Addr}{fd:FuncData}(T:Txt K mg C)(F:Fun K "is_name" "is_name" xN f fd):FnOk P w K mg base CX0 1 f fd ["thing"] (pSp ⟨K,w⟩ 1 (len? 1 (mir ["thing"] qV))):=by
 obtain⟨tok_FIGURES,t_FIGURES⟩:=T.c_FIGURES'
 obtain⟨tok_LETTERS,t_LETTERS⟩:=T.c_LETTERS'
 obtain⟨tok_MOST_SIGNS,t_MOST_SIGNS⟩:=T.c_MOST_SIGNS'
 have sc:=Vc
 refine zw (k:=0) F Vc (λcdv A outer s H E B hr=>?_)
 exact (ze (zv (ye (zZ (zX (zK (DE.read (yU (kitT "str" (by decide)) (by rfl) T.b_isinstance (by rfl) T.b_str (by decide +kernel) (za 0 (pv 0)))) (by intro _;rfl))) (yq (zX (QI wJ wJ w5 w5 de_int.read (DE.read (yJ (by rfl) T.b_len (z7 (za 0 (pv 0)) zy))) (DE.read (yT (v:=.int 8) (by rfl) t_MOST_SIGNS (by exact⟨_,rfl⟩) (by intro _;rfl)))))))) (zf (zz zU)) zA) (zf (zz (xE (xL jQ ok_in (DE.read (zn (za 0 (pv 0)) de_int.read (by intro _ _;rfl))) (DE.read (yT (v:=.str "abcdefghijklmnopqrstuvwxyz") (by rfl) t_LETTERS (by exact⟨_,rfl⟩) (by intro _;rfl))) (by rfl)) (ww (Wd (by rfl) (by rfl) T.b_all (z7 (DA.read (yW (own:=["sign"]) (cap:=[]) (t:=(.name 0)) (by rfl) (yg (sc:=(zd xN).names) (N:=["thing"]) (by rfl) (by rfl) (by rfl) (by decide +kernel)) (Rc (za 0 (pv 0))) (by decide) (λB' C' s₀ H₀ fp pn=>⟨(zj (i:=0) (show List.Nodup (["sign"]:List Str) from by decide +kernel) (by rfl) (by first|exact .inl rfl|exact .inr rfl)),yI,(xL jQ ok_in (za 0 (pv 0)) (DE.read (zE (DE.read (yT (v:=.str "abcdefghijklmnopqrstuvwxyz") (by rfl) t_LETTERS (by exact⟨_,rfl⟩) (by intro _;rfl))) (DE.read (yT (v:=.str "0123456789") (by rfl) t_FIGURES (by exact⟨_,rfl⟩) (by intro _;rfl))))) (by rfl))⟩))) zy)))))))
theorem Wl:FnScope ["thing"] ["thing"] (zd wd):=⟨rfl,rfl,rfl,by decide +kernel,rfl,by decide +kernel,by decide +kernel⟩
theorem Ky {f:Addr}{fd:FuncData}(T:Txt K mg C)(F:Fun K "is_row" "is_row" wd f fd) (Hag:Fx P w K mg base "is_number" 2 3 xa):FnOk P w K mg base CX0 3 f fd ["thing"] (pSp ⟨K,w⟩ 1 (len? 1 (mir ["thing"] kQ))):=by
 obtain⟨tok_MOST_COUNTERS,t_MOST_COUNTERS⟩:=T.c_MOST_COUNTERS'
 obtain⟨tok_MOST_TURNS,t_MOST_TURNS⟩:=T.c_MOST_TURNS'
 have sc:=Wl
 refine zw (k:=2) F Wl (λcdv A outer s H E B hr=>?_)
 exact (ze (zv (ye (zZ (zX (zK (DE.read (yU (kitT "tuple" (by decide)) (by rfl) T.b_isinstance (by rfl) T.b_tuple (by decide +kernel) (za 0 (pv 0)))) (by intro _;rfl))) (yq (zq (yo hr.units) zH (DE.read (yJ (by rfl) T.b_len (z7 (za 0 (pv 0)) zy))) de_int.read (nomark _))))) (zf (zz zU)) zA) (zf (zz (xE (zo Hag (hr.mono (by decide)) (by rfl) (zb (zp (zn (za 0 (pv 0)) de_int.read (by intro _ _;rfl))) (zb (zp de_int) (zb (zp (yT (v:=.int 100) (by rfl) t_MOST_TURNS (by exact⟨_,rfl⟩) (by intro _;rfl))) zh)))) (ww (zo Hag (hr.mono (by decide)) (by rfl) (zb (zp (zn (za 0 (pv 0)) de_int.read (by intro _ _;rfl))) (zb (zp de_int) (zb (zp (yT (v:=.int 8) (by rfl) t_MOST_COUNTERS (by exact⟨_,rfl⟩) (by intro _;rfl))) zh)))))))))
theorem Zd:FnScope vv ["rows","rest"] (zd xj):=⟨rfl,rfl,rfl,by decide +kernel,rfl,by decide +kernel,by decide +kernel⟩
theorem K8 {f:Addr}{fd:FuncData}(T:Txt K mg C)(F:Fun K "check_hours" "check_hours" xj f fd) (Hag:Fx P w K mg base "is_number" 2 3 xa) (Hah:Fx P w K mg base "is_row" 3 1 vj):FnOk P w K mg base CX0 4 f fd ["rows","rest"] (pSp ⟨K,w⟩ 2 (len? 2 (mir vv ud))):=by
 obtain⟨tok_MOST_COUNTERS,t_MOST_COUNTERS⟩:=T.c_MOST_COUNTERS'
 obtain⟨tok_MOST_ROWS,t_MOST_ROWS⟩:=T.c_MOST_ROWS'
 have sc:=Zd
 refine zw (k:=3) F Zd (λcdv A outer s H E B hr=>?_)
 exact (ze (zv (ye (zZ (zX (zK (DE.read (yU (kitT "list" (by decide)) (by rfl) T.b_isinstance (by rfl) T.b_list (by decide +kernel) (za 0 (pv 0)))) (by intro _;rfl))) (yq (zq vz vm (DE.read (yJ (by rfl) T.b_len (z7 (za 0 (pv 0)) zy))) (DE.read (yT (v:=.int 16) (by rfl) t_MOST_ROWS (by exact⟨_,rfl⟩) (by intro _;rfl))) (nomark _))))) (zf js) zA) (ze (zv (zX (zK (DE.read (Wd (by rfl) (by rfl) T.b_all (z7 (DA.read (yW (own:=["row"]) (cap:=[]) (t:=(.name 0)) (by rfl) (yg (sc:=(zd xj).names) (N:=vv) (by rfl) (by rfl) (by rfl) (by decide +kernel)) (zM hb1 (DR.cur (za 0 (pv 0)))) (by decide) (λB' C' s₀ H₀ fp pn=>⟨(zj (i:=0) (show List.Nodup (["row"]:List Str) from by decide +kernel) (by rfl) (by first|exact .inl rfl|exact .inr rfl)),yI,(zo Hah (hr.mono (by decide)) (by rfl) (zb (zc 0 (pv 0)) zh))⟩))) zy))) (by intro _;rfl))) (zf js) zA) (zf (zv (zX (zK (DE.read (zo Hag (hr.mono (by decide)) (by rfl) (zb (zc 1 (pv 1)) (zb (zp de_int) (zb (zp (yT (v:=.int 8) (by rfl) t_MOST_COUNTERS (by exact⟨_,rfl⟩) (by intro _;rfl))) zh))))) (by intro _;rfl))) (zf js) zA))))
theorem Zk:FnScope vQ ["rows","rest"] (zd wx):=⟨rfl,rfl,rfl,by decide +kernel,rfl,by decide +kernel,by decide +kernel⟩
theorem Qe {f:Addr}{fd:FuncData}(T:Txt K mg C)(F:Fun K "kept_rows" "kept_rows" wx f fd):FnOk P w K mg base CX0 1 f fd ["rows","rest"] (pSp ⟨K,w⟩ 2 (len? 2 (mir vQ uk))):=by
 have sc:=Zk
 refine zw (k:=0) F Zk (λcdv A outer s H E B hr=>?_)
 exact (ze (xf (i:=2) sc.nd (by rfl) (by first|exact .inl rfl|exact .inr rfl) (ya zG)) (ze (zO (t:=(.tup [3,4])) PassesOwn.never (by rfl) (zM hb0 (yv 0 (pv 0))) (zW (by rfl) (zB (zj (i:=3) sc.nd (by rfl) (by first|exact .inl rfl|exact .inr rfl)) (zB (zj (i:=4) sc.nd (by rfl) (by first|exact .inl rfl|exact .inr rfl)) zY))) (zf (zv (ye (kq (zK (za 2 (pv 2)) (by intro _;rfl)) (uN (zq (yi hr.units) zH (DE.read (zn (DE.read (zn (za 2 (pv 2)) (DE.read (y8 de_int.read)) (by intro _ _;rfl))) de_int.read (by intro _ _;rfl))) (za 4 (pv 4)) (nomark _))))) (zf (Kh 2 (pv 2) (y8 de_int.read) (yu (zt (zE (DE.read (zn (DE.read (zn (za 2 (pv 2)) (DE.read (y8 de_int.read)) (by intro _ _;rfl))) de_int.read (by intro _ _;rfl))) (za 3 (pv 3))) (zt (zx 4 (pv 4)) zG))))) (zf (zv (zq vz vm (za 3 (pv 3)) de_int.read (nomark _)) (zf (xw 2 (pv 2) (yu (zt (zx 3 (pv 3)) (zt (zx 4 (pv 4)) zG))))) zA))))) (ze (zv (ye (kq (zK (za 2 (pv 2)) (by intro _;rfl)) (uN (zq (yi hr.units) zH (DE.read (zn (DE.read (zn (za 2 (pv 2)) (DE.read (y8 de_int.read)) (by intro _ _;rfl))) de_int.read (by intro _ _;rfl))) (za 1 (pv 1)) (nomark _))))) (zf (Ks 2 RC (pv 2))) zA) (zf (yx 2 (pv 2))))))
theorem YA:FnScope jC ["rows"] (zd wn):=⟨rfl,rfl,rfl,by decide +kernel,rfl,by decide +kernel,by decide +kernel⟩
theorem U0 {f:Addr}{fd:FuncData}(T:Txt K mg C)(F:Fun K "spans_of" "spans_of" wn f fd):FnOk P w K mg base CX0 1 f fd ["rows"] (pSp ⟨K,w⟩ 1 (len? 1 (mir jC uC))):=by
 have sc:=YA
 refine zw (k:=0) F YA (λcdv A outer s H E B hr=>?_)
 exact (ze (xf (i:=1) sc.nd (by rfl) (by first|exact .inl rfl|exact .inr rfl) (ya zG)) (ze (zl (i:=2) sc.nd (by rfl) (by first|exact .inl rfl|exact .inr rfl) de_int) (ze (zO (t:=(.tup [3,4])) PassesOwn.never (by rfl) (zM hb0 (yv 0 (pv 0))) (zW (by rfl) (zB (zj (i:=3) sc.nd (by rfl) (by first|exact .inl rfl|exact .inr rfl)) (zB (zj (i:=4) sc.nd (by rfl) (by first|exact .inl rfl|exact .inr rfl)) zY))) (ze (xw 1 (pv 1) (yu (zt (zx 2 (pv 2)) (zt (zE (za 2 (pv 2)) (za 3 (pv 3))) (zt (zx 4 (pv 4)) zG))))) (zf (zl (i:=2) sc.nd (by rfl) (by first|exact .inl rfl|exact .inr rfl) (zE (za 2 (pv 2)) (za 3 (pv 3))))))) (zf (yx 1 (pv 1))))))
theorem ZC:FnScope v9 ["self","rows","rest"] (zd xY):=⟨rfl,rfl,rfl,by decide +kernel,rfl,by decide +kernel,by decide +kernel⟩
theorem Ud {f:Addr}{fd:FuncData}(T:Txt K mg C)(F:Fun K "__init__" "Hours.__init__" xY f fd) (Ha3:Fx P w K mg base "spans_of" 1 1 vA) (Haj:Fx P w K mg base "kept_rows" 1 2 vf) (Had:Fx P w K mg base "check_hours" 4 2 vF):FnOk P w K mg base CX0 5 f fd ["self","rows","rest"] (iSp ⟨K,w⟩ C 2 (mirI C ["self","rows","rest"] (wZ C))):=by
 have sc:=ZC
 refine Ki (k:=4) F ZC rfl (λcdv A outer s H E B hr=>?_)
 exact (ze (W6 (zo Had (hr.mono (by decide)) (by rfl) (zb (zc 1 (pv 1)) (zb (zc 2 (pv 2)) zh)))) (ze (Vr 0 T.cl T.n_kept_rest (pv 0) (zx 2 (pv 2))) (zf (Vr 0 T.cl T.n_spans (pv 0) (zo Ha3 (hr.mono (by decide)) (by rfl) (zb (zp (zo Haj (hr.mono (by decide)) (by rfl) (zb (zc 1 (pv 1)) (zb (zc 2 (pv 2)) zh)))) zh))))))
theorem WS:FnScope j8 ["self","turn"] (zd wj):=⟨rfl,rfl,rfl,by decide +kernel,rfl,by decide +kernel,by decide +kernel⟩
theorem RV {f:Addr}{fd:FuncData}(T:Txt K mg C)(F:Fun K "at" "Hours.at" wj f fd):FnOk P w K mg base CX0 1 f fd ["self","turn"] (pSp ⟨K,w⟩ 2 (len? 2 (mir j8 (uR C)))):=by
 have sc:=WS
 refine zw (k:=0) F WS (λcdv A outer s H E B hr=>?_)
 exact (ze (zl (i:=2) sc.nd (by rfl) (by first|exact .inl rfl|exact .inr rfl) de_int) (ze (zl (i:=3) sc.nd (by rfl) (by first|exact .inl rfl|exact .inr rfl) (yJ (by rfl) T.b_len (z7 (DE.read (vK T.cl T.n_spans (zx 0 (pv 0)))) zy))) (ze (ki PassesOwn.never (zq xK xO (za 2 (pv 2)) (za 3 (pv 3)) (nomark _)) (ze (zl (i:=4) sc.nd (by rfl) (by first|exact .inl rfl|exact .inr rfl) (yb (DE.read (zE (za 2 (pv 2)) (za 3 (pv 3)))) de_int.read)) (zf (zv (zq xK xO (za 1 (pv 1)) (DE.read (zn (DE.read (zn (DE.read (vK T.cl T.n_spans (zx 0 (pv 0)))) (za 4 (pv 4)) (by intro _ _;rfl))) de_int.read (by intro _ _;rfl))) (nomark _)) (zf (zl (i:=3) sc.nd (by rfl) (by first|exact .inl rfl|exact .inr rfl) (zx 4 (pv 4)))) (zf (zl (i:=2) sc.nd (by rfl) (by first|exact .inl rfl|exact .inr rfl) (zE (za 4 (pv 4)) de_int.read))))))) (zf (zz (Vw (zq xK xO (za 2 (pv 2)) (DE.read (yJ (by rfl) T.b_len (z7 (DE.read (vK T.cl T.n_spans (zx 0 (pv 0)))) zy))) (nomark _)) (zn (DE.read (zn (DE.read (vK T.cl T.n_spans (zx 0 (pv 0)))) (za 2 (pv 2)) (by intro _ _;rfl))) de_int.read (by intro _ _;rfl)) (vK T.cl T.n_kept_rest (zx 0 (pv 0)))))))))
theorem Wb:FnScope ["queue"] ["queue"] (zd xA):=⟨rfl,rfl,rfl,by decide +kernel,rfl,by decide +kernel,by decide +kernel⟩
theorem JS {f:Addr}{fd:FuncData}(T:Txt K mg C)(F:Fun K "names_of" "names_of" xA f fd):FnOk P w K mg base CX0 1 f fd ["queue"] (pSp ⟨K,w⟩ 1 (len? 1 (mir ["queue"] kg))):=by
 have sc:=Wb
 refine zw (k:=0) F Wb (λcdv A outer s H E B hr=>?_)
 exact (zf (qQ (yW (own:=["name","left"]) (cap:=[]) (t:=(.tup [0,1])) (by rfl) (yg (sc:=(zd xA).names) (N:=["queue"]) (by rfl) (by rfl) (by rfl) (by decide +kernel)) (zM hb1 (DR.cur (za 0 (pv 0)))) (by decide) (λB' C' s₀ H₀ fp pn=>⟨(zW (by rfl) (zB (zj (i:=0) (show List.Nodup (["name","left"]:List Str) from by decide +kernel) (by rfl) (by first|exact .inl rfl|exact .inr rfl)) (zB (zj (i:=1) (show List.Nodup (["name","left"]:List Str) from by decide +kernel) (by rfl) (by first|exact .inl rfl|exact .inr rfl)) zY))),yI,(zx 0 (pv 0))⟩))))
theorem jv:FnScope xB ["queue","name"] (zd xh):=⟨rfl,rfl,rfl,by decide +kernel,rfl,by decide +kernel,by decide +kernel⟩
theorem QK {f:Addr}{fd:FuncData}(T:Txt K mg C)(F:Fun K "place_of" "place_of" xh f fd) (Haf:Fx P w K mg base "is_name" 1 1 yG):FnOk P w K mg base CX0 2 f fd ["queue","name"] (pSp ⟨K,w⟩ 2 (len? 2 (mir xB ko))):=by
 have sc:=jv
 refine zw (k:=1) F jv (λcdv A outer s H E B hr=>?_)
 exact (ze (zv (zK (DE.read (zo Haf (hr.mono (by decide)) (by rfl) (zb (zc 1 (pv 1)) zh))) (by intro _;rfl)) (zf (zO (t:=(.tup [2,3])) PassesOwn.never (by rfl) (um hb0 (by rfl) T.b_enumerate (kj hb0 (yv 0 (pv 0)) qv)) (zW (by rfl) (zB (zj (i:=2) sc.nd (by rfl) (by first|exact .inl rfl|exact .inr rfl)) (zB (zj (i:=3) sc.nd (by rfl) (by first|exact .inl rfl|exact .inr rfl)) zY))) (zf (zv (zq (yi hr.units) zH (DE.read (zn (za 3 (pv 3)) de_int.read (by intro _ _;rfl))) (za 1 (pv 1)) (nomark _)) (zf (yx 2 (pv 2))) zA)))) zA) (zf js))
theorem GK {f:Addr}{fd:FuncData}(T:Txt K mg C)(F:Fun K "place_of" "place_of" xh f fd) {CT HE fI:Addr} (U:Exc P w K mg base CT HE fI "name" "NoTicket" "HallError") (Haf:Fx P w K mg base "is_name" 1 1 yG):FnOk P w K mg base (CX1 P w) 3 f fd ["queue","name"] (rSp ⟨K,w⟩ CT "name" 2 (mirX xB 2 kK)):=by
 have sc:=jv
 refine uq (k:=2) F jv (λcdv A outer s H E B hr=>?_)
 exact (RB (zv (zK (DE.read (zo Haf (hr.mono (by decide)) (by rfl) (zb (zc 1 (pv 1)) zh))) (by intro _;rfl)) (zf (zO (t:=(.tup [2,3])) PassesOwn.never (by rfl) (um hb0 (by rfl) T.b_enumerate (kj hb0 (yv 0 (pv 0)) qv)) (zW (by rfl) (zB (zj (i:=2) sc.nd (by rfl) (by first|exact .inl rfl|exact .inr rfl)) (zB (zj (i:=3) sc.nd (by rfl) (by first|exact .inl rfl|exact .inr rfl)) zY))) (zf (zv (zq (yi hr.units) zH (DE.read (zn (za 3 (pv 3)) de_int.read (by intro _ _;rfl))) (za 1 (pv 1)) (nomark _)) (zf (yx 2 (pv 2))) zA)))) zA) (Re U (hr.mono (by decide)) (by rfl) (zx 1 (pv 1))))
theorem Zp:FnScope wE ["queue","many"] (zd xu):=⟨rfl,rfl,rfl,by decide +kernel,rfl,by decide +kernel,by decide +kernel⟩
theorem Gf {f:Addr}{fd:FuncData}(T:Txt K mg C)(F:Fun K "turn_served" "turn_served" xu f fd) (Haz:Fx P w K mg base "names_of" 1 1 xQ):FnOk P w K mg base CX0 2 f fd ["queue","many"] (pSp ⟨K,w⟩ 2 (len? 2 (mir wE jT))):=by
 have sc:=Zp
 refine zw (k:=1) F Zp (λcdv A outer s H E B hr=>?_)
 exact (ze (zl (i:=2) sc.nd (by rfl) (by first|exact .inl rfl|exact .inr rfl) (DA.frz (wW (za 0 (pv 0)) x5 (yD (za 1 (pv 1)))))) (ze (j5 (i:=3) (own:=["name","left"]) (cap:=[]) (t:=(.tup [0,1])) (by rfl) (yg (sc:=(zd xu).names) (N:=wE) (by rfl) (by rfl) (by rfl) (by decide +kernel)) (zM hb1 (DR.cur (za 2 (pv 2)))) (by decide) (λB' C' s₀ H₀ fp pn=>⟨(zW (by rfl) (zB (zj (i:=0) (show List.Nodup (["name","left"]:List Str) from by decide +kernel) (by rfl) (by first|exact .inl rfl|exact .inr rfl)) (zB (zj (i:=1) (show List.Nodup (["name","left"]:List Str) from by decide +kernel) (by rfl) (by first|exact .inl rfl|exact .inr rfl)) zY))),(jH (zq vz vm (za 1 (pv 1)) de_int.read (nomark _))),(yu (zt (zx 0 (pv 0)) (zt (xV (za 1 (pv 1)) de_int.read) zG)))⟩) sc.nd (by rfl) (by first|exact .inl rfl|exact .inr rfl)) (zf (WA (R6 (WJ (DA.tree (xk Haz (hr.mono (by decide)) (by rfl) (zb (zc 2 (pv 2)) zh))) (WJ (DA.tree (qm (za 3 (pv 3)) (DA.read (wW (za 0 (pv 0)) (yD (za 1 (pv 1))) x5)))) KD)))))))
theorem Yy:FnScope jp ["queue","hours","begin","real"] (zd yH):=⟨rfl,rfl,rfl,by decide +kernel,rfl,by decide +kernel,by decide +kernel⟩
theorem RF {f:Addr}{fd:FuncData}(T:Txt K mg C)(F:FunD K "run_of" "run_of" yH f fd) (Ha4:Fx P w K mg base "turn_served" 2 2 yy) (Hab:Mx P w K mg base C "at" 1 2 (xy C)):FnOk P w K mg base CX0 3 f fd ["queue","hours","begin","real"] (pSp ⟨K,w⟩ 4 (len? 4 (mir jp (ug C)))):=by
 have sc:=Yy
 refine UX (k:=2) F Yy (λcdv A outer s H E B hr=>?_)
 exact (ze (zl (i:=4) sc.nd (by rfl) (by first|exact .inl rfl|exact .inr rfl) (Vw (zq Yu ZW (za 3 (pv 3)) (DE.read u7) (nomark _)) (zx 0 (pv 0)) Je)) (ze (jM (i:=5) sc.nd (by rfl) (by first|exact .inl rfl|exact .inr rfl) (DA.tree (ya zG))) (ze (ki PassesOwn.never (zK (za 4 (pv 4)) (by intro _;rfl)) (ze (zl (i:=6) sc.nd (by rfl) (by first|exact .inl rfl|exact .inr rfl) (zE (za 2 (pv 2)) (DE.read (JK (by rfl) T.b_len (Rl (qg 5 (pv 5)) Ut))))) (ze (jM (i:=7) sc.nd (by rfl) (by first|exact .inl rfl|exact .inr rfl) (qW Ha4 (hr.mono (by decide)) (by rfl) (zb (zc 4 (pv 4)) (zb (zp (WF (zx 1 (pv 1)) T.cl Hab (hr.mono (by decide)) (zb (zc 6 (pv 6)) zh))) zh)))) (Rf 5 7 4 (by decide) (by decide) (by decide) sc.nd (by rfl) (by first|exact .inl rfl|exact .inr rfl) (pv 5) (pv 7) (pv 7) (zx 6 (pv 6)) vT (by intro _ _;rfl) vT (by intro _ _;rfl))))) (zf (Kd 5 (pv 5))))))
theorem WG:FnScope qe ["rows"] (zd wD):=⟨rfl,rfl,rfl,by decide +kernel,rfl,by decide +kernel,by decide +kernel⟩
theorem RZ {f:Addr}{fd:FuncData}(T:Txt K mg C)(F:Fun K "ends_of" "ends_of" wD f fd):FnOk P w K mg base CX0 1 f fd ["rows"] (pSp ⟨K,w⟩ 1 (len? 1 (mir qe qZ))):=by
 have sc:=WG
 refine zw (k:=0) F WG (λcdv A outer s H E B hr=>?_)
 exact (ze (kE (j:=1) sc.nd (by rfl) (by first|exact .inl rfl|exact .inr rfl) W3) (ze (zO (t:=(.tup [2,3])) PassesOwn.never (by rfl) (zM hb0 (yv 0 (pv 0))) (zW (by rfl) (zB (zj (i:=2) sc.nd (by rfl) (by first|exact .inl rfl|exact .inr rfl)) (zB (zj (i:=3) sc.nd (by rfl) (by first|exact .inl rfl|exact .inr rfl)) zY))) (zf (zO (t:=(.name 4)) PassesOwn.never (by rfl) (zM hb0 (yv 3 (pv 3))) (zj (i:=4) sc.nd (by rfl) (by first|exact .inl rfl|exact .inr rfl)) (zf (WQ 1 (pv 1) (za 4 (pv 4)) (zx 2 (pv 2))))))) (zf (QD 1 (pv 1)))))
theorem VF:FnScope vP ["queue","hours","begin","rows"] (zd wu):=⟨rfl,rfl,rfl,by decide +kernel,rfl,by decide +kernel,by decide +kernel⟩
theorem Gu {f:Addr}{fd:FuncData}(T:Txt K mg C)(F:Fun K "walk_run" "walk_run" wu f fd) (Ha4:Fx P w K mg base "turn_served" 2 2 yy) (Hab:Mx P w K mg base C "at" 1 2 (xy C)):FnOk P w K mg base CX0 3 f fd ["queue","hours","begin","rows"] (pSp ⟨K,w⟩ 4 (len? 4 (mir vP (qO C)))):=by
 have sc:=VF
 refine zw (k:=2) F VF (λcdv A outer s H E B hr=>?_)
 exact (ze (xf (i:=4) sc.nd (by rfl) (by first|exact .inl rfl|exact .inr rfl) (y7 (by rfl) T.b_list (z7 (za 0 (pv 0)) zy))) (ze (zO (t:=(.tup [5,6])) PassesOwn.never (by rfl) (um hb0 (by rfl) T.b_enumerate (kj hb0 (yv 3 (pv 3)) qv)) (zW (by rfl) (zB (zj (i:=5) sc.nd (by rfl) (by first|exact .inl rfl|exact .inr rfl)) (zB (zj (i:=6) sc.nd (by rfl) (by first|exact .inl rfl|exact .inr rfl)) zY))) (ze (zl (i:=7) sc.nd (by rfl) (by first|exact .inl rfl|exact .inr rfl) (zE (za 2 (pv 2)) (za 5 (pv 5)))) (ze (jM (i:=8) sc.nd (by rfl) (by first|exact .inl rfl|exact .inr rfl) (qW Ha4 (hr.mono (by decide)) (by rfl) (zb (zc 4 (pv 4)) (zb (zp (WF (zx 1 (pv 1)) T.cl Hab (hr.mono (by decide)) (zb (zc 7 (pv 7)) zh))) zh)))) (ze (zv (ye (zZ (zX (zK (za 4 (pv 4)) (by intro _;rfl))) (zZ (zq (yo hr.units) zH (DE.read (zn (za 6 (pv 6)) de_int.read (by intro _ _;rfl))) (za 7 (pv 7)) (nomark _)) (yq (Yq (yo hr.units) zH (DR.heap (DE.read (zn (za 6 (pv 6)) de_int.read (by intro _ _;rfl)))) (Um (qg 8 (pv 8)) (DR.heap de_int.read) (by intro _ _;rfl)) (nomark _)))))) (zf (zz u7)) zA) (zf (Kl 8 4 1 sc.nd (by rfl) (by first|exact .inl rfl|exact .inr rfl) (pv 8) vT (by intro _ _;rfl))))))) (zf (yx 4 (pv 4)))))
theorem ZT:FnScope w6 ["queue","hours","begin"] (zd wG):=⟨rfl,rfl,rfl,by decide +kernel,rfl,by decide +kernel,by decide +kernel⟩
theorem Q8 {f:Addr}{fd:FuncData}(T:Txt K mg C)(F:Fun K "latest_all" "latest_all" wG f fd) (Hae:Fx P w K mg base "ends_of" 1 1 vw) (Ha1:FxN P w K mg base "run_of" 3 4 (yf C)):FnOk P w K mg base CX0 4 f fd ["queue","hours","begin"] (pSp ⟨K,w⟩ 3 (len? 3 (mir w6 (u5 C)))):=by
 have sc:=ZT
 refine zw (k:=3) F ZT (λcdv A outer s H E B hr=>?_)
 exact (zf (GQ (jg Hae (hr.mono (by decide)) (by rfl) (zb (zp (WU Ha1 (hr.mono (by decide)) (by rfl) (zb (zc 0 (pv 0)) (zb (zc 1 (pv 1)) (zb (zc 2 (pv 2)) zh))))) zh))))
theorem qj:FnScope xr ["queue","hours","begin","name"] (zd xo):=⟨rfl,rfl,rfl,by decide +kernel,rfl,by decide +kernel,by decide +kernel⟩
theorem Gh {f:Addr}{fd:FuncData}(T:Txt K mg C)(F:Fun K "latest_of" "latest_of" xo f fd) (Hax:Fx P w K mg base "latest_all" 4 3 (yF C)) (Ha0:Fx P w K mg base "place_of" 2 2 vd):FnOk P w K mg base CX0 5 f fd ["queue","hours","begin","name"] (pSp ⟨K,w⟩ 4 (len? 4 (mir xr (uQ C)))):=by
 have sc:=qj
 refine zw (k:=4) F qj (λcdv A outer s H E B hr=>?_)
 exact (ze (W6 (zo Ha0 (hr.mono (by decide)) (by rfl) (zb (zc 0 (pv 0)) (zb (zc 3 (pv 3)) zh)))) (zf (zz (UY (DD.read (jg Hax (hr.mono (by decide)) (by rfl) (zb (zc 0 (pv 0)) (zb (zc 1 (pv 1)) (zb (zc 2 (pv 2)) zh))))) (za 3 (pv 3))))))
theorem Qr {f:Addr}{fd:FuncData}(T:Txt K mg C)(F:Fun K "latest_of" "latest_of" xo f fd) {CT HE fI:Addr} (U:Exc P w K mg base CT HE fI "name" "NoTicket" "HallError") (Ha8:Rx P w K mg base "place_of" CT "name" 3 2 wT):FnOk P w K mg base (CX1 P w) 4 f fd ["queue","hours","begin","name"] (rSp ⟨K,w⟩ CT "name" 4 (mirX xr 4 u6)):=by
 have sc:=qj
 refine uq (k:=3) F qj (λcdv A outer s H E B hr=>?_)
 exact (Ue rfl Ha8 j7 (hr.mono (by decide)) (by rfl) (zb (zc 0 (pv 0)) (zb (zc 3 (pv 3)) zh)))
theorem jd:FnScope yZ ["queue","hours","begin","name"] (zd yS):=⟨rfl,rfl,rfl,by decide +kernel,rfl,by decide +kernel,by decide +kernel⟩
theorem J4 {f:Addr}{fd:FuncData}(T:Txt K mg C)(F:Fun K "witness_run" "witness_run" yS f fd) (Ha1:FxN P w K mg base "run_of" 3 4 (yf C)) (Hay:Fx P w K mg base "latest_of" 5 4 (yA C)):FnOk P w K mg base CX0 6 f fd ["queue","hours","begin","name"] (pSp ⟨K,w⟩ 4 (len? 4 (mir yZ (ut C)))):=by
 have sc:=jd
 refine zw (k:=5) F jd (λcdv A outer s H E B hr=>?_)
 exact (ze (zl (i:=4) sc.nd (by rfl) (by first|exact .inl rfl|exact .inr rfl) (zo Hay (hr.mono (by decide)) (by rfl) (zb (zc 0 (pv 0)) (zb (zc 1 (pv 1)) (zb (zc 2 (pv 2)) (zb (zc 3 (pv 3)) zh)))))) (zf (WA (VT (own:=["row"]) (cap:=[("latest",4)]) (by rfl) (yg (sc:=(zd yS).names) (N:=yZ) (by rfl) (by rfl) (by rfl) (by decide +kernel)) (JT Ha1 (hr.mono (by decide)) (by rfl) (zb (zc 0 (pv 0)) (zb (zc 1 (pv 1)) (zb (zc 2 (pv 2)) zh)))) (by decide) (λB' C' s₀ H₀ fp pn=>⟨(zj (i:=0) (show List.Nodup (["row","latest"]:List Str) from by decide +kernel) (by rfl) (by first|exact .inl rfl|exact .inr rfl)),(jH (zq wJ w5 (DE.read (zn (za 0 (pv 0)) de_int.read (by intro _ _;rfl))) (za 1 (pv 1)) (nomark _))),pv 0⟩)))))
theorem Rh {f:Addr}{fd:FuncData}(T:Txt K mg C)(F:Fun K "witness_run" "witness_run" yS f fd) {CT HE fI:Addr} (U:Exc P w K mg base CT HE fI "name" "NoTicket" "HallError") (Ha7:Rx P w K mg base "latest_of" CT "name" 4 4 xg):FnOk P w K mg base (CX1 P w) 5 f fd ["queue","hours","begin","name"] (rSp ⟨K,w⟩ CT "name" 4 (mirX yZ 4 kA)):=by
 have sc:=jd
 refine uq (k:=4) F jd (λcdv A outer s H E B hr=>?_)
 exact (VU (i:=4) rfl Ha7 j7 (hr.mono (by decide)) (by rfl) (zb (zc 0 (pv 0)) (zb (zc 1 (pv 1)) (zb (zc 2 (pv 2)) (zb (zc 3 (pv 3)) zh)))) (zj (i:=4) sc.nd (by rfl) (by first|exact .inl rfl|exact .inr rfl)))
theorem Vv:FnScope xJ ["queue","hours","begin","name","turn","rows"] (zd wa):=⟨rfl,rfl,rfl,by decide +kernel,rfl,by decide +kernel,by decide +kernel⟩
theorem RG {f:Addr}{fd:FuncData}(T:Txt K mg C)(F:Fun K "shows_latest" "shows_latest" wa f fd) (Haz:Fx P w K mg base "names_of" 1 1 xQ) (Haf:Fx P w K mg base "is_name" 1 1 yG) (Ha5:Fx P w K mg base "walk_run" 3 4 (vc C)):FnOk P w K mg base CX0 4 f fd ["queue","hours","begin","name","turn","rows"] (pSp ⟨K,w⟩ 6 (len? 6 (mir xJ (wt C)))):=by
 have sc:=Vv
 refine zw (k:=3) F Vv (λcdv A outer s H E B hr=>?_)
 exact (ze (zl (i:=6) sc.nd (by rfl) (by first|exact .inl rfl|exact .inr rfl) (DA.frz (xk Ha5 (hr.mono (by decide)) (by rfl) (zb (zc 0 (pv 0)) (zb (zc 1 (pv 1)) (zb (zc 2 (pv 2)) (zb (zc 5 (pv 5)) zh))))))) (ze (zv (ye (zZ (zq Yu ZW (za 6 (pv 6)) (DE.read u7) (nomark _)) (zZ (zX (zK (za 5 (pv 5)) (by intro _;rfl))) (yq (zq (yo hr.units) zH (DE.read (zn (DE.read (zn (za 5 (pv 5)) (DE.read (y8 de_int.read)) (by intro _ _;rfl))) de_int.read (by intro _ _;rfl))) (za 4 (pv 4)) (nomark _)))))) (zf (zz zU)) zA) (zf (zz (xE (zo Haf (hr.mono (by decide)) (by rfl) (zb (zc 3 (pv 3)) zh)) (xE (xL jQ ok_in (za 3 (pv 3)) (DE.read (zn (DE.read (zn (za 5 (pv 5)) (DE.read (y8 de_int.read)) (by intro _ _;rfl))) de_int.read (by intro _ _;rfl))) (by rfl)) (ww (xL GN ok_in (za 3 (pv 3)) (DA.read (xk Haz (hr.mono (by decide)) (by rfl) (zb (zc 6 (pv 6)) zh))) (by rfl)))))))))
theorem Vd:FnScope w6 ["queue","hours","begin"] (zd wo):=⟨rfl,rfl,rfl,by decide +kernel,rfl,by decide +kernel,by decide +kernel⟩
theorem QO {f:Addr}{fd:FuncData}(T:Txt K mg C)(F:Fun K "all_done" "all_done" wo f fd) (Ha1:FxN P w K mg base "run_of" 3 4 (yf C)):FnOk P w K mg base CX0 4 f fd ["queue","hours","begin"] (pSp ⟨K,w⟩ 3 (len? 3 (mir w6 (kd C)))):=by
 have sc:=Vd
 refine zw (k:=3) F Vd (λcdv A outer s H E B hr=>?_)
 exact (zf (zz (xV (DE.read (zE (za 2 (pv 2)) (DE.read (yJ (by rfl) T.b_len (z7 (DE.read (WU Ha1 (hr.mono (by decide)) (by rfl) (zb (zc 0 (pv 0)) (zb (zc 1 (pv 1)) (zb (zc 2 (pv 2)) zh))))) zy))))) de_int.read)))
theorem Wp:FnScope vE ["_law_script","_law_k"] (zd wC):=⟨rfl,rfl,rfl,by decide +kernel,rfl,by decide +kernel,by decide +kernel⟩
theorem K5 {f:Addr}{fd:FuncData}(T:Txt K mg C)(F:Fun K "_law_cell" "_law_cell" wC f fd):FnOk P w K mg base CX0 1 f fd ["_law_script","_law_k"] (pSp ⟨K,w⟩ 2 (len? 2 (mir vE jo))):=by
 have sc:=Wp
 refine zw (k:=0) F Wp (λcdv A outer s H E B hr=>?_)
 exact (ze (zv (zq xK xO (za 1 (pv 1)) (DE.read (yJ (by rfl) T.b_len (z7 (za 0 (pv 0)) zy))) (nomark _)) (zf (zz (zn (za 0 (pv 0)) (za 1 (pv 1)) (by intro _ _;rfl)))) zA) (zf (zz de_int)))
theorem VQ:FnScope jX ["_law_found"] (zd we):=⟨rfl,rfl,rfl,by decide +kernel,rfl,by decide +kernel,by decide +kernel⟩
theorem Uz {f:Addr}{fd:FuncData}(T:Txt K mg C)(F:Fun K "_law_whole" "_law_whole" we f fd):FnOk P w K mg base CX0 1 f fd ["_law_found"] (pSp ⟨K,w⟩ 1 (len? 1 (mir jX uK))):=by
 have sc:=VQ
 refine zw (k:=0) F VQ (λcdv A outer s H E B hr=>?_)
 exact (zf (zz (xE (yU (kitT "int" (by decide)) (by rfl) T.b_isinstance (by rfl) T.b_int (by decide +kernel) (za 0 (pv 0))) (ww (WE (yU (kitT "bool" (by decide)) (by rfl) T.b_isinstance (by rfl) T.b_bool (by decide +kernel) (za 0 (pv 0))))))))
theorem Y8:FnScope j3 ["_law_cell_here","_law_k"] (zd wK):=⟨rfl,rfl,rfl,by decide +kernel,rfl,by decide +kernel,by decide +kernel⟩
theorem U5 {f:Addr}{fd:FuncData}(T:Txt K mg C)(F:Fun K "_law_stir" "_law_stir" wK f fd):FnOk P w K mg base CX0 1 f fd ["_law_cell_here","_law_k"] (pSp ⟨K,w⟩ 2 (len? 2 (mir j3 kO))):=by
 have sc:=Y8
 refine zw (k:=0) F Y8 (λcdv A outer s H E B hr=>?_)
 exact (ze (zl (i:=2) sc.nd (by rfl) (by first|exact .inl rfl|exact .inr rfl) (zF (DE.read (zE (DE.read (zE (DE.read (xb (DE.read (zF (za 0 (pv 0)) de_int.read)) de_int.read)) (DE.read (xb de_int.read (za 1 (pv 1)))))) de_int.read)) de_int.read)) (ze (zl (i:=2) sc.nd (by rfl) (by first|exact .inl rfl|exact .inr rfl) (zF (DE.read (xb (za 2 (pv 2)) (za 2 (pv 2)))) de_int.read)) (zf (zz (zF (DE.read (zE (DE.read (zE (DE.read (xb (za 2 (pv 2)) (za 2 (pv 2)))) (DE.read (xb de_int.read (za 2 (pv 2)))))) de_int.read)) de_int.read)))))
theorem Ve:FnScope jy ["_law_script","_law_at_here","_law_base","_law_count"] (zd wf):=⟨rfl,rfl,rfl,by decide +kernel,rfl,by decide +kernel,by decide +kernel⟩
theorem Uq {f:Addr}{fd:FuncData}(T:Txt K mg C)(F:Fun K "_law_row" "_law_row" wf f fd) (Ham:Fx P w K mg base "_law_cell" 1 2 zQ) (Hau:Fx P w K mg base "_law_stir" 1 2 yO):FnOk P w K mg base CX0 2 f fd ["_law_script","_law_at_here","_law_base","_law_count"] (pSp ⟨K,w⟩ 4 (len? 4 (mir jy uV))):=by
 have sc:=Ve
 refine zw (k:=1) F Ve (λcdv A outer s H E B hr=>?_)
 exact (ze (zl (i:=4) sc.nd (by rfl) (by first|exact .inl rfl|exact .inr rfl) (zo Ham (hr.mono (by decide)) (by rfl) (zb (zc 0 (pv 0)) (zb (zc 1 (pv 1)) zh)))) (ze (xf (i:=5) sc.nd (by rfl) (by first|exact .inl rfl|exact .inr rfl) (ya zG)) (ze (zO (t:=(.name 6)) PassesOwn.never (by rfl) (yL (by rfl) T.b_range (z7 (za 3 (pv 3)) zy)) (zj (i:=6) sc.nd (by rfl) (by first|exact .inl rfl|exact .inr rfl)) (zf (zv (zq (yi hr.units) zH (DE.read (KC (DE.read (Km (DE.read (zo Ham (hr.mono (by decide)) (by rfl) (zb (zc 0 (pv 0)) (zb (zp de_int) zh)))) (DE.read (zF (za 1 (pv 1)) de_int.read)))) de_int.read)) de_int.read (nomark _)) (ze (xw 5 (pv 5) (zF (za 4 (pv 4)) (za 2 (pv 2)))) (zf (zl (i:=4) sc.nd (by rfl) (by first|exact .inl rfl|exact .inr rfl) (yb (za 4 (pv 4)) (za 2 (pv 2)))))) (zf (xw 5 (pv 5) (zF (DE.read (yb (DE.read (zo Hau (hr.mono (by decide)) (by rfl) (zb (zc 4 (pv 4)) (zb (zc 6 (pv 6)) zh)))) de_int.read)) (za 2 (pv 2)))))))) (zf (yx 5 (pv 5))))))
theorem V0:FnScope xC ["_law_cell_here","_law_many"] (zd yN):=⟨rfl,rfl,rfl,by decide +kernel,rfl,by decide +kernel,by decide +kernel⟩
theorem KP {f:Addr}{fd:FuncData}(T:Txt K mg C)(F:Fun K "_law_names" "_law_names" yN f fd) (Hau:Fx P w K mg base "_law_stir" 1 2 yO):FnOk P w K mg base CX0 2 f fd ["_law_cell_here","_law_many"] (pSp ⟨K,w⟩ 2 (len? 2 (mir xC jO))):=by
 have sc:=V0
 refine zw (k:=1) F V0 (λcdv A outer s H E B hr=>?_)
 exact (ze (zl (i:=2) sc.nd (by rfl) (by first|exact .inl rfl|exact .inr rfl) uZ) (ze (zl (i:=3) sc.nd (by rfl) (by first|exact .inl rfl|exact .inr rfl) (UA (DE.read uZ) (z7 (DA.read (yW (own:=["_law_j"]) (cap:=[("_law_signs",2),("_law_cell_here",0)]) (t:=(.name 0)) (by rfl) (yg (sc:=(zd yN).names) (N:=xC) (by rfl) (by rfl) (by rfl) (by decide +kernel)) (yL (by rfl) T.b_range (z7 de_int.read zy)) (by decide) (λB' C' s₀ H₀ fp pn=>⟨(zj (i:=0) (show List.Nodup (["_law_j","_law_signs","_law_cell_here"]:List Str) from by decide +kernel) (by rfl) (by first|exact .inl rfl|exact .inr rfl)),yI,(zn (za 1 (pv 1)) (DE.read (zF (DE.read (zo Hau (hr.mono (by decide)) (by rfl) (zb (zc 2 (pv 2)) (zb (zc 0 (pv 0)) zh)))) de_int.read)) (by intro _ _;rfl))⟩))) zy))) (ze (zl (i:=4) sc.nd (by rfl) (by first|exact .inl rfl|exact .inr rfl) (zF (DE.read (zo Hau (hr.mono (by decide)) (by rfl) (zb (zc 0 (pv 0)) (zb (zp de_int) zh)))) de_int.read)) (ze (zv (ye (kq (zq (yi hr.units) zH (DE.read (zF (za 0 (pv 0)) de_int.read)) de_int.read (nomark _)) (uN (zq xK xO (za 1 (pv 1)) de_int.read (nomark _))))) (zf (qQ (yW (own:=["_law_k"]) (cap:=[("_law_signs",2),("_law_first",4),("_law_base",3)]) (t:=(.name 0)) (by rfl) (yg (sc:=(zd yN).names) (N:=xC) (by rfl) (by rfl) (by rfl) (by decide +kernel)) (yL (by rfl) T.b_range (z7 (za 1 (pv 1)) zy)) (by decide) (λB' C' s₀ H₀ fp pn=>⟨(zj (i:=0) (show List.Nodup (["_law_k","_law_signs","_law_first","_law_base"]:List Str) from by decide +kernel) (by rfl) (by first|exact .inl rfl|exact .inr rfl)),yI,(zE (DE.read (zn (za 1 (pv 1)) (za 2 (pv 2)) (by intro _ _;rfl))) (DE.read (Yb (za 3 (pv 3)) x5 (yD (za 0 (pv 0))))))⟩)))) zA) (ze (xf (i:=5) sc.nd (by rfl) (by first|exact .inl rfl|exact .inr rfl) (ya zG)) (ze (zO (t:=(.name 6)) PassesOwn.never (by rfl) (yL (by rfl) T.b_range (z7 (za 1 (pv 1)) zy)) (zj (i:=6) sc.nd (by rfl) (by first|exact .inl rfl|exact .inr rfl)) (ze (zl (i:=7) sc.nd (by rfl) (by first|exact .inl rfl|exact .inr rfl) (zn (za 2 (pv 2)) (DE.read (zF (DE.read (zE (za 4 (pv 4)) (DE.read (yb (za 6 (pv 6)) de_int.read)))) de_int.read)) (by intro _ _;rfl))) (ze (zl (i:=7) sc.nd (by rfl) (by first|exact .inl rfl|exact .inr rfl) (zE (za 7 (pv 7)) (DE.read (zn (za 2 (pv 2)) (DE.read (zF (DE.read (zE (DE.read (yb (za 0 (pv 0)) de_int.read)) (DE.read (xb de_int.read (za 6 (pv 6)))))) de_int.read)) (by intro _ _;rfl))))) (zf (xw 5 (pv 5) (zE (za 7 (pv 7)) (DE.read (Yb (za 3 (pv 3)) x5 (yD (DE.read (zF (DE.read (yb (za 0 (pv 0)) de_int.read)) de_int.read))))))))))) (zf (yx 5 (pv 5)))))))))
theorem VE:FnScope xp ["_law_script"] (zd yY):=⟨rfl,rfl,rfl,by decide +kernel,rfl,by decide +kernel,by decide +kernel⟩
theorem JH {f:Addr}{fd:FuncData}(T:Txt K mg C)(F:Fun K "_law_hours" "_law_hours" yY f fd) (Ham:Fx P w K mg base "_law_cell" 1 2 zQ) (Has:Fx P w K mg base "_law_row" 2 4 yR):FnOk P w K mg base CX0 3 f fd ["_law_script"] (pSp ⟨K,w⟩ 1 (len? 1 (mir xp vM))):=by
 have sc:=VE
 refine zw (k:=2) F VE (λcdv A outer s H E B hr=>?_)
 exact (ze (j5 (i:=1) (own:=["_law_n"]) (cap:=[]) (t:=(.name 0)) (by rfl) (yg (sc:=(zd yY).names) (N:=xp) (by rfl) (by rfl) (by rfl) (by decide +kernel)) (zM hb1 (DR.cur (DA.read (xk Has (hr.mono (by decide)) (by rfl) (zb (zc 0 (pv 0)) (zb (zp de_int) (zb (zp de_int) (zb (zp (zF (DE.read (zo Ham (hr.mono (by decide)) (by rfl) (zb (zc 0 (pv 0)) (zb (zp de_int) zh)))) de_int.read)) zh)))))))) (by decide) (λB' C' s₀ H₀ fp pn=>⟨(zj (i:=0) (show List.Nodup (["_law_n"]:List Str) from by decide +kernel) (by rfl) (by first|exact .inl rfl|exact .inr rfl)),yI,(yu (zt (zE de_int.read (DE.read (zF (za 0 (pv 0)) de_int.read))) (zt (yb (za 0 (pv 0)) de_int.read) zG)))⟩) sc.nd (by rfl) (by first|exact .inl rfl|exact .inr rfl)) (ze (zv (zq (yi hr.units) zH (DE.read (zF (DE.read (yb (DE.read (zo Ham (hr.mono (by decide)) (by rfl) (zb (zc 0 (pv 0)) (zb (zp de_int) zh)))) de_int.read)) de_int.read)) de_int.read (nomark _)) (zf (j5 (i:=1) (own:=["_law_many","_law_counters"]) (cap:=[]) (t:=(.tup [0,1])) (by rfl) (yg (sc:=(zd yY).names) (N:=xp) (by rfl) (by rfl) (by rfl) (by decide +kernel)) (zM hb1 (DR.cur (za 1 (pv 1)))) (by decide) (λB' C' s₀ H₀ fp pn=>⟨(zW (by rfl) (zB (zj (i:=0) (show List.Nodup (["_law_many","_law_counters"]:List Str) from by decide +kernel) (by rfl) (by first|exact .inl rfl|exact .inr rfl)) (zB (zj (i:=1) (show List.Nodup (["_law_many","_law_counters"]:List Str) from by decide +kernel) (by rfl) (by first|exact .inl rfl|exact .inr rfl)) zY))),yI,(yu (zt (xb de_int.read (za 0 (pv 0))) (zt (zE (za 1 (pv 1)) (DE.read (xb de_int.read (DE.read (GW (by rfl) T.b_int (z7 (DE.read (xL vz vm (za 1 (pv 1)) de_int.read (nomark _))) zy)))))) zG)))⟩) sc.nd (by rfl) (by first|exact .inl rfl|exact .inr rfl))) zA) (zf (zz (yu (zt (zx 1 (pv 1)) (zt (zE de_int.read (DE.read (zF (DE.read (yb (DE.read (zo Ham (hr.mono (by decide)) (by rfl) (zb (zc 0 (pv 0)) (zb (zp de_int) zh)))) de_int.read)) (DE.read (zn (DA.read (ya (zt de_int (zt de_int zG)))) (DE.read (zF (DE.read (yb (DE.read (zo Ham (hr.mono (by decide)) (by rfl) (zb (zc 0 (pv 0)) (zb (zp de_int) zh)))) de_int.read)) de_int.read)) (by intro _ _;rfl)))))) zG)))))))
theorem Zc:FnScope wq ["_law_script"] (zd xt):=⟨rfl,rfl,rfl,by decide +kernel,rfl,by decide +kernel,by decide +kernel⟩
theorem UD {f:Addr}{fd:FuncData}(T:Txt K mg C)(F:Fun K "_law_queue" "_law_queue" xt f fd) (Hao:Fx P w K mg base "_law_names" 2 2 yz) (Ham:Fx P w K mg base "_law_cell" 1 2 zQ) (Has:Fx P w K mg base "_law_row" 2 4 yR):FnOk P w K mg base CX0 3 f fd ["_law_script"] (pSp ⟨K,w⟩ 1 (len? 1 (mir wq jN))):=by
 have sc:=Zc
 refine zw (k:=2) F Zc (λcdv A outer s H E B hr=>?_)
 exact (ze (zl (i:=1) sc.nd (by rfl) (by first|exact .inl rfl|exact .inr rfl) (zo Ham (hr.mono (by decide)) (by rfl) (zb (zc 0 (pv 0)) (zb (zp de_int) zh)))) (ze (zl (i:=2) sc.nd (by rfl) (by first|exact .inl rfl|exact .inr rfl) (zF (za 1 (pv 1)) de_int.read)) (ze (zl (i:=3) sc.nd (by rfl) (by first|exact .inl rfl|exact .inr rfl) (zn (DA.read (ya (zt de_int (zt de_int zG)))) (DE.read (zF (DE.read (yb (za 1 (pv 1)) de_int.read)) de_int.read)) (by intro _ _;rfl))) (ze (zv (zq (yi hr.units) zH (DE.read (zF (DE.read (yb (za 1 (pv 1)) de_int.read)) de_int.read)) de_int.read (nomark _)) (ze (zl (i:=2) sc.nd (by rfl) (by first|exact .inl rfl|exact .inr rfl) de_int) (zf (zl (i:=3) sc.nd (by rfl) (by first|exact .inl rfl|exact .inr rfl) de_int))) zA) (ze (zl (i:=4) sc.nd (by rfl) (by first|exact .inl rfl|exact .inr rfl) (DA.frz (xk Has (hr.mono (by decide)) (by rfl) (zb (zc 0 (pv 0)) (zb (zp de_int) (zb (zc 3 (pv 3)) (zb (zc 2 (pv 2)) zh))))))) (ze (zl (i:=5) sc.nd (by rfl) (by first|exact .inl rfl|exact .inr rfl) (zo Hao (hr.mono (by decide)) (by rfl) (zb (zp (zo Ham (hr.mono (by decide)) (by rfl) (zb (zc 0 (pv 0)) (zb (zp de_int) zh)))) (zb (zc 2 (pv 2)) zh)))) (zf (qQ (yW (own:=["_law_k"]) (cap:=[("_law_names_here",5),("_law_lefts",4)]) (t:=(.name 0)) (by rfl) (yg (sc:=(zd xt).names) (N:=wq) (by rfl) (by rfl) (by rfl) (by decide +kernel)) (yL (by rfl) T.b_range (z7 (za 2 (pv 2)) zy)) (by decide) (λB' C' s₀ H₀ fp pn=>⟨(zj (i:=0) (show List.Nodup (["_law_k","_law_names_here","_law_lefts"]:List Str) from by decide +kernel) (by rfl) (by first|exact .inl rfl|exact .inr rfl)),yI,(yu (zt (zn (za 1 (pv 1)) (za 0 (pv 0)) (by intro _ _;rfl)) (zt (zE de_int.read (DE.read (zn (za 2 (pv 2)) (za 0 (pv 0)) (by intro _ _;rfl)))) zG)))⟩))))))))))
theorem Wj:FnScope wS ["_law_script"] (zd xX):=⟨rfl,rfl,rfl,by decide +kernel,rfl,by decide +kernel,by decide +kernel⟩
theorem GR {f:Addr}{fd:FuncData}(T:Txt K mg C)(F:Fun K "_law_begin" "_law_begin" xX f fd) (Ham:Fx P w K mg base "_law_cell" 1 2 zQ):FnOk P w K mg base CX0 2 f fd ["_law_script"] (pSp ⟨K,w⟩ 1 (len? 1 (mir wS vU))):=by
 have sc:=Wj
 refine zw (k:=1) F Wj (λcdv A outer s H E B hr=>?_)
 exact (ze (zl (i:=1) sc.nd (by rfl) (by first|exact .inl rfl|exact .inr rfl) (zo Ham (hr.mono (by decide)) (by rfl) (zb (zc 0 (pv 0)) (zb (zp de_int) zh)))) (ze (zv (zq (yi hr.units) zH (DE.read (zF (za 1 (pv 1)) de_int.read)) de_int.read (nomark _)) (zf (zz (zF (DE.read (yb (za 1 (pv 1)) de_int.read)) (DE.read (zE (DE.read (Gc de_int.read de_int.read)) de_int.read))))) zA) (zf (zz (zF (DE.read (yb (za 1 (pv 1)) de_int.read)) de_int.read)))))
theorem YS:FnScope jw ["_law_rows","_law_rest","_law_turn_here"] (zd wA):=⟨rfl,rfl,rfl,by decide +kernel,rfl,by decide +kernel,by decide +kernel⟩
theorem GS {f:Addr}{fd:FuncData}(T:Txt K mg C)(F:Fun K "_law_at" "_law_at" wA f fd):FnOk P w K mg base CX0 1 f fd ["_law_rows","_law_rest","_law_turn_here"] (pSp ⟨K,w⟩ 3 (len? 3 (mir jw qy))):=by
 have sc:=YS
 refine zw (k:=0) F YS (λcdv A outer s H E B hr=>?_)
 exact (ze (zO (t:=(.tup [3,4])) PassesOwn.never (by rfl) (zM hb0 (yv 0 (pv 0))) (zW (by rfl) (zB (zj (i:=3) sc.nd (by rfl) (by first|exact .inl rfl|exact .inr rfl)) (zB (zj (i:=4) sc.nd (by rfl) (by first|exact .inl rfl|exact .inr rfl)) zY))) (ze (zv (zq xK xO (za 2 (pv 2)) (za 3 (pv 3)) (nomark _)) (zf (yx 4 (pv 4))) zA) (zf (zl (i:=2) sc.nd (by rfl) (by first|exact .inl rfl|exact .inr rfl) (xV (za 2 (pv 2)) (za 3 (pv 3))))))) (zf (yx 1 (pv 1))))
theorem YQ:FnScope vH ["_law_queue_here","_law_many"] (zd xi):=⟨rfl,rfl,rfl,by decide +kernel,rfl,by decide +kernel,by decide +kernel⟩
theorem KM {f:Addr}{fd:FuncData}(T:Txt K mg C)(F:Fun K "_law_turn" "_law_turn" xi f fd):FnOk P w K mg base CX0 1 f fd ["_law_queue_here","_law_many"] (pSp ⟨K,w⟩ 2 (len? 2 (mir vH qX))):=by
 have sc:=YQ
 refine zw (k:=0) F YQ (λcdv A outer s H E B hr=>?_)
 exact (ze (xf (i:=2) sc.nd (by rfl) (by first|exact .inl rfl|exact .inr rfl) (ya zG)) (ze (zO (t:=(.name 3)) PassesOwn.never (by rfl) (yL (by rfl) T.b_range (z7 (DE.read (yJ (by rfl) T.b_len (z7 (za 0 (pv 0)) zy))) zy)) (zj (i:=3) sc.nd (by rfl) (by first|exact .inl rfl|exact .inr rfl)) (ze (Yr (t:=(.tup [4,5])) (zn (za 0 (pv 0)) (za 3 (pv 3)) (by intro _ _;rfl)) (zW (by rfl) (zB (zj (i:=4) sc.nd (by rfl) (by first|exact .inl rfl|exact .inr rfl)) (zB (zj (i:=5) sc.nd (by rfl) (by first|exact .inl rfl|exact .inr rfl)) zY)))) (ze (zv (zq xK xO (za 3 (pv 3)) (za 1 (pv 1)) (nomark _)) (zf (zl (i:=5) sc.nd (by rfl) (by first|exact .inl rfl|exact .inr rfl) (xV (za 5 (pv 5)) de_int.read))) zA) (zf (zv (zq vz vm (za 5 (pv 5)) de_int.read (nomark _)) (zf (xw 2 (pv 2) (yu (zt (zx 4 (pv 4)) (zt (zx 5 (pv 5)) zG))))) zA))))) (zf (Q4 2 (zz (yu (zt (DA.frz (yW (own:=["_law_name","_law_left"]) (cap:=[]) (t:=(.tup [0,1])) (by rfl) (yg (sc:=(zd xi).names) (N:=vH) (by rfl) (by rfl) (by rfl) (by decide +kernel)) (zM hb1 (DR.cur (DA.read (wW (za 0 (pv 0)) x5 (yD (za 1 (pv 1))))))) (by decide) (λB' C' s₀ H₀ fp pn=>⟨(zW (by rfl) (zB (zj (i:=0) (show List.Nodup (["_law_name","_law_left"]:List Str) from by decide +kernel) (by rfl) (by first|exact .inl rfl|exact .inr rfl)) (zB (zj (i:=1) (show List.Nodup (["_law_name","_law_left"]:List Str) from by decide +kernel) (by rfl) (by first|exact .inl rfl|exact .inr rfl)) zY))),yI,(zx 0 (pv 0))⟩))) (zt (zx 2 (pv 2)) zG))))))))
theorem Wt:FnScope jE ["_law_queue_here","_law_hours_here","_law_begin_here"] (zd wL):=⟨rfl,rfl,rfl,by decide +kernel,rfl,by decide +kernel,by decide +kernel⟩
theorem VZ {f:Addr}{fd:FuncData}(T:Txt K mg C)(F:Fun K "_law_run" "_law_run" wL f fd) (Hav:Fx P w K mg base "_law_turn" 1 2 vy) (Hak:Fx P w K mg base "_law_at" 1 3 ve):FnOk P w K mg base CX0 2 f fd ["_law_queue_here","_law_hours_here","_law_begin_here"] (pSp ⟨K,w⟩ 3 (len? 3 (mir jE km))):=by
 have sc:=Wt
 refine zw (k:=1) F Wt (λcdv A outer s H E B hr=>?_)
 exact (ze (xf (i:=3) sc.nd (by rfl) (by first|exact .inl rfl|exact .inr rfl) (ya zG)) (ze (zl (i:=4) sc.nd (by rfl) (by first|exact .inl rfl|exact .inr rfl) (DA.frz (y7 (by rfl) T.b_list (z7 (za 0 (pv 0)) zy)))) (ze (zl (i:=5) sc.nd (by rfl) (by first|exact .inl rfl|exact .inr rfl) (zx 2 (pv 2))) (ze (ki PassesOwn.never (zq (yo hr.units) zH (za 4 (pv 4)) (DA.read (ya zG)) (nomark _)) (ze (Yr (t:=(.tup [6,4])) (zo Hav (hr.mono (by decide)) (by rfl) (zb (zc 4 (pv 4)) (zb (zp (zo Hak (hr.mono (by decide)) (by rfl) (zb (zp (zn (za 1 (pv 1)) de_int.read (by intro _ _;rfl))) (zb (zp (zn (za 1 (pv 1)) de_int.read (by intro _ _;rfl))) (zb (zc 5 (pv 5)) zh))))) zh))) (zW (by rfl) (zB (zj (i:=6) sc.nd (by rfl) (by first|exact .inl rfl|exact .inr rfl)) (zB (zj (i:=4) sc.nd (by rfl) (by first|exact .inl rfl|exact .inr rfl)) zY)))) (ze (xw 3 (pv 3) (yu (zt (zx 5 (pv 5)) (zt (zx 6 (pv 6)) zG)))) (zf (zl (i:=5) sc.nd (by rfl) (by first|exact .inl rfl|exact .inr rfl) (zE (za 5 (pv 5)) de_int.read)))))) (zf (yx 3 (pv 3)))))))
theorem ZH:FnScope wv ["_law_queue_here","_law_room","_law_begin_here","_law_name","_law_rows"] (zd yM):=⟨rfl,rfl,rfl,by decide +kernel,rfl,by decide +kernel,by decide +kernel⟩
theorem zaf {f:Addr}{fd:FuncData}(T:Txt K mg C)(F:Fun K "_law_one_right" "_law_one_right" yM f fd) (Ha2:Fx P w K mg base "shows_latest" 4 6 (yd C)) (Ha6:Fx P w K mg base "witness_run" 6 4 (xx C)) (Haw:Fx P w K mg base "_law_whole" 1 1 xP) (Hay:Fx P w K mg base "latest_of" 5 4 (yA C)):FnOk P w K mg base CX0 7 f fd ["_law_queue_here","_law_room","_law_begin_here","_law_name","_law_rows"] (pSp ⟨K,w⟩ 5 (len? 5 (mir wv (vR C)))):=by
 have sc:=ZH
 refine zw (k:=6) F ZH (λcdv A outer s H E B hr=>?_)
 exact (ze (zl (i:=5) sc.nd (by rfl) (by first|exact .inl rfl|exact .inr rfl) (K6 (by rfl) (by rfl) T.b_max (z7 (DA.read (yW (own:=["_law_row_here"]) (cap:=[("_law_name",3)]) (t:=(.name 0)) (by rfl) (yg (sc:=(zd yM).names) (N:=wv) (by rfl) (by rfl) (by rfl) (by decide +kernel)) (zM hb1 (DR.cur (za 4 (pv 4)))) (by decide) (λB' C' s₀ H₀ fp pn=>⟨(zj (i:=0) (show List.Nodup (["_law_row_here","_law_name"]:List Str) from by decide +kernel) (by rfl) (by first|exact .inl rfl|exact .inr rfl)),(jH (zq jQ ok_in (za 1 (pv 1)) (DE.read (zn (za 0 (pv 0)) de_int.read (by intro _ _;rfl))) (by rfl))),(zn (za 0 (pv 0)) de_int.read (by intro _ _;rfl))⟩))) zy))) (ze (j5 (i:=6) (own:=["_law_row_here"]) (cap:=[("_law_turn_here",5)]) (t:=(.name 0)) (by rfl) (yg (sc:=(zd yM).names) (N:=wv) (by rfl) (by rfl) (by rfl) (by decide +kernel)) (zM hb1 (DR.cur (za 4 (pv 4)))) (by decide) (λB' C' s₀ H₀ fp pn=>⟨(zj (i:=0) (show List.Nodup (["_law_row_here","_law_turn_here"]:List Str) from by decide +kernel) (by rfl) (by first|exact .inl rfl|exact .inr rfl)),(jH (zq wJ w5 (DE.read (zn (za 0 (pv 0)) de_int.read (by intro _ _;rfl))) (za 1 (pv 1)) (nomark _))),(zx 0 (pv 0))⟩) sc.nd (by rfl) (by first|exact .inl rfl|exact .inr rfl)) (ze (zl (i:=7) sc.nd (by rfl) (by first|exact .inl rfl|exact .inr rfl) (zo Hay (hr.mono (by decide)) (by rfl) (zb (zc 0 (pv 0)) (zb (zc 1 (pv 1)) (zb (zc 2 (pv 2)) (zb (zc 3 (pv 3)) zh)))))) (ze (zv (ye (zZ (zX (zK (DE.read (zo Haw (hr.mono (by decide)) (by rfl) (zb (zc 7 (pv 7)) zh))) (by intro _;rfl))) (yq (zq (yo hr.units) zH (za 7 (pv 7)) (za 5 (pv 5)) (nomark _))))) (zf (zz zU)) zA) (ze (zO (t:=(.name 8)) PassesOwn.never (by rfl) (yL (by rfl) T.b_range (z7 de_int.read zy)) (zj (i:=8) sc.nd (by rfl) (by first|exact .inl rfl|exact .inr rfl)) (ze (jM (i:=9) sc.nd (by rfl) (by first|exact .inl rfl|exact .inr rfl) (qW Ha6 (hr.mono (by decide)) (by rfl) (zb (zc 0 (pv 0)) (zb (zc 1 (pv 1)) (zb (zc 2 (pv 2)) (zb (zc 3 (pv 3)) zh)))))) (ze (zv (ye (zZ (zX (zK (DE.read (GA (kitT "list" (by decide)) (by rfl) T.b_isinstance (by rfl) T.b_list (by decide +kernel) (qg 9 (pv 9)))) (by intro _;rfl))) (yq (Yq (yo hr.units) zH (qg 9 (pv 9)) (DR.heap (za 6 (pv 6))) (nomark _))))) (zf (zz zU)) zA) (ze (JO 9 PySem.F.slot_list_clear PySem.F.type_list_clear Wz UH (YR 9 (YR 9 (G1 9 (pv 9)) (DE.read (y8 de_int.read)) (by intro _ _;rfl)) de_int.read (by intro _ _;rfl))) (zf (Jc 9 (pv 9))))))) (ze (zO (t:=(.name 10)) PassesOwn.never (by rfl) (zM hb0 (DE.fix (DA.frz (ya (zt (xV (za 5 (pv 5)) de_int.read) (zt (zx 5 (pv 5)) (zt (zE (za 5 (pv 5)) de_int.read) (zt (zx 2 (pv 2)) zG)))))))) (zj (i:=10) sc.nd (by rfl) (by first|exact .inl rfl|exact .inr rfl)) (ze (zl (i:=11) sc.nd (by rfl) (by first|exact .inl rfl|exact .inr rfl) (zo Ha2 (hr.mono (by decide)) (by rfl) (zb (zc 0 (pv 0)) (zb (zc 1 (pv 1)) (zb (zc 2 (pv 2)) (zb (zc 3 (pv 3)) (zb (zc 10 (pv 10)) (zb (zc 6 (pv 6)) zh)))))))) (zf (zv (ye (zZ (zX (zK (DE.read (yU (kitT "bool" (by decide)) (by rfl) T.b_isinstance (by rfl) T.b_bool (by decide +kernel) (za 11 (pv 11)))) (by intro _;rfl))) (yq (zq (yo hr.units) zH (za 11 (pv 11)) (DE.read (xL (yi hr.units) zH (za 10 (pv 10)) (za 5 (pv 5)) (nomark _))) (nomark _))))) (zf (zz zU)) zA)))) (zf (zz zU))))))))
theorem Wf:FnScope vN ["_law_queue_here","_law_room","_law_begin_here","_law_name"] (zd wH):=⟨rfl,rfl,rfl,by decide +kernel,rfl,by decide +kernel,by decide +kernel⟩
theorem Gz {f:Addr}{fd:FuncData}(T:Txt K mg C)(F:Fun K "_law_refused" "_law_refused" wH f fd) {CT HE fI:Addr} (U:Exc P w K mg base CT HE fI "name" "NoTicket" "HallError") (Ha7:Rx P w K mg base "latest_of" CT "name" 4 4 xg) (Ha9:Rx P w K mg base "witness_run" CT "name" 5 4 vp):FnOk P w K mg base CX0 6 f fd ["_law_queue_here","_law_room","_law_begin_here","_law_name"] (pSp ⟨K,w⟩ 4 (len? 4 (mir vN qp))):=by
 have sc:=Wf
 refine zw (k:=5) F Wf (λcdv A outer s H E B hr=>?_)
 exact (ze (xf (i:=4) sc.nd (by rfl) (by first|exact .inl rfl|exact .inr rfl) (ya zG)) (ze (zO (t:=(.name 5)) PassesOwn.never (by rfl) (yL (by rfl) T.b_range (z7 de_int.read zy)) (zj (i:=5) sc.nd (by rfl) (by first|exact .inl rfl|exact .inr rfl)) (zf (Uh (G4 (zq (yi hr.units) zH (za 5 (pv 5)) de_int.read (nomark _)) (VP Ha7 j7 (hr.mono (by decide)) (by rfl) (zb (zp (DA.frz (y7 (by rfl) T.b_list (z7 (za 0 (pv 0)) zy)))) (zb (zc 1 (pv 1)) (zb (zc 2 (pv 2)) (zb (zc 3 (pv 3)) zh))))) (VP Ha9 j7 (hr.mono (by decide)) (by rfl) (zb (zp (DA.frz (y7 (by rfl) T.b_list (z7 (za 0 (pv 0)) zy)))) (zb (zc 1 (pv 1)) (zb (zc 2 (pv 2)) (zb (zc 3 (pv 3)) zh)))))) (by rfl) U.mT U.xm U.xc U.z sc.nd (by rfl) (by rfl) ⟨rfl,rfl⟩ (by rfl) T.b_isinstance (by rfl) U.mH (by rfl) (by first | exact Or.inl rfl | exact Or.inr (Or.inl rfl) | exact Or.inr (Or.inr rfl)) (by rfl) (by first | exact Or.inl rfl | exact Or.inr (Or.inl rfl) | exact Or.inr (Or.inr rfl))))) (zf (zz (xL (yi hr.units) zH (za 4 (pv 4)) (DA.read (ya (zt zU (zt zU zG)))) (nomark _))))))
theorem YZ:FnScope jj ["_law_script"] (zd yB):=⟨rfl,rfl,rfl,by decide +kernel,rfl,by decide +kernel,by decide +kernel⟩
theorem J8 {f:Addr}{fd:FuncData}(T:Txt K mg C)(F:Fun K "law" "law" yB f fd) (Ha2:Fx P w K mg base "shows_latest" 4 6 (yd C)) (Har:Fx P w K mg base "_law_refused" 6 4 xq) (Hao:Fx P w K mg base "_law_names" 2 2 yz) (Hap:Fx P w K mg base "_law_one_right" 7 5 (yQ C)) (Haw:Fx P w K mg base "_law_whole" 1 1 xP) (Hax:Fx P w K mg base "latest_all" 4 3 (yF C)) (Hac:Fx P w K mg base "all_done" 4 3 (vh C)) (Hat:Fx P w K mg base "_law_run" 2 3 vt) (Hal:Fx P w K mg base "_law_begin" 2 1 wr) (Haq:Fx P w K mg base "_law_queue" 3 1 wg) (Han:Fx P w K mg base "_law_hours" 3 1 wz) (Haa:Kx P w K mg base C "Hours" 5 2 (wM C)):FnOk P w K mg base CX0 8 f fd ["_law_script"] (pSp ⟨K,w⟩ 1 (len? 1 (mir jj (jS C)))):=by
 have sc:=YZ
 refine zw (k:=7) F YZ (λcdv A outer s H E B hr=>?_)
 exact (ze (zl (i:=1) sc.nd (by rfl) (by first|exact .inl rfl|exact .inr rfl) (zo Han (hr.mono (by decide)) (by rfl) (zb (zc 0 (pv 0)) zh))) (ze (zl (i:=2) sc.nd (by rfl) (by first|exact .inl rfl|exact .inr rfl) (DA.frz (xk Haq (hr.mono (by decide)) (by rfl) (zb (zc 0 (pv 0)) zh)))) (ze (zl (i:=3) sc.nd (by rfl) (by first|exact .inl rfl|exact .inr rfl) (zo Hal (hr.mono (by decide)) (by rfl) (zb (zc 0 (pv 0)) zh))) (ze (zl (i:=4) sc.nd (by rfl) (by first|exact .inl rfl|exact .inr rfl) (Qb Haa (hr.mono (by decide)) (by rfl) (zb (zp (DA.frz (y7 (by rfl) T.b_list (z7 (DE.read (zn (za 1 (pv 1)) de_int.read (by intro _ _;rfl))) zy)))) (zb (zp (zn (za 1 (pv 1)) de_int.read (by intro _ _;rfl))) zh)))) (ze (zl (i:=5) sc.nd (by rfl) (by first|exact .inl rfl|exact .inr rfl) (DA.frz (xk Hat (hr.mono (by decide)) (by rfl) (zb (zc 2 (pv 2)) (zb (zc 1 (pv 1)) (zb (zc 3 (pv 3)) zh)))))) (ze (kE (j:=6) sc.nd (by rfl) (by first|exact .inl rfl|exact .inr rfl) W3) (ze (zO (t:=(.tup [7,8])) PassesOwn.never (by rfl) (zM hb0 (yv 5 (pv 5))) (zW (by rfl) (zB (zj (i:=7) sc.nd (by rfl) (by first|exact .inl rfl|exact .inr rfl)) (zB (zj (i:=8) sc.nd (by rfl) (by first|exact .inl rfl|exact .inr rfl)) zY))) (zf (zO (t:=(.name 9)) PassesOwn.never (by rfl) (zM hb0 (yv 8 (pv 8))) (zj (i:=9) sc.nd (by rfl) (by first|exact .inl rfl|exact .inr rfl)) (zf (WQ 6 (pv 6) (za 9 (pv 9)) (zx 7 (pv 7))))))) (ze (zl (i:=10) sc.nd (by rfl) (by first|exact .inl rfl|exact .inr rfl) (DA.frz (y7 (by rfl) T.b_list (z7 (za 2 (pv 2)) zy)))) (ze (kE (j:=11) sc.nd (by rfl) (by first|exact .inl rfl|exact .inr rfl) (jg Hax (hr.mono (by decide)) (by rfl) (zb (zc 10 (pv 10)) (zb (zc 4 (pv 4)) (zb (zc 3 (pv 3)) zh))))) (ze (zv (ye (zZ (zX (zK (DE.read (Jl (kitT "dict" (by decide) "dict" true (by decide)) (by rfl) T.b_isinstance (by rfl) T.b_dict (by decide +kernel) (vD 11 (pv 11)))) (by intro _;rfl))) (zZ (YU (Nat.lt_of_le_of_lt (Nat.le_add_right _ _) hr.units) (vD 11 (pv 11)) (vD 6 (pv 6))) (yq (zq (yo hr.units) zH (za 10 (pv 10)) (za 2 (pv 2)) (nomark _)))))) (zf (zz zU)) zA) (ze (Uy 11 (pv 11) ⟨rfl,rfl⟩) (ze (zl (i:=12) sc.nd (by rfl) (by first|exact .inl rfl|exact .inr rfl) (zo Hac (hr.mono (by decide)) (by rfl) (zb (zp (DA.frz (y7 (by rfl) T.b_list (z7 (za 2 (pv 2)) zy)))) (zb (zc 4 (pv 4)) (zb (zc 3 (pv 3)) zh))))) (ze (zv (ye (zZ (YU (Nat.lt_of_le_of_lt (Nat.le_add_right _ _) hr.units) (DD.read (jg Hax (hr.mono (by decide)) (by rfl) (zb (zp (DA.frz (y7 (by rfl) T.b_list (z7 (za 2 (pv 2)) zy)))) (zb (zc 4 (pv 4)) (zb (zc 3 (pv 3)) zh))))) (vD 6 (pv 6))) (zZ (zX (zK (DE.read (zo Haw (hr.mono (by decide)) (by rfl) (zb (zc 12 (pv 12)) zh))) (by intro _;rfl))) (yq (zq (yo hr.units) zH (za 12 (pv 12)) (DE.read (xV (DE.read (zE (za 3 (pv 3)) (DE.read (yJ (by rfl) T.b_len (z7 (za 5 (pv 5)) zy))))) de_int.read)) (nomark _)))))) (zf (zz zU)) zA) (ze (zO (t:=(.tup [9,13])) PassesOwn.never (by rfl) (zM hb0 (DE.fix (DA.frz (qm (DA.read (wW (za 2 (pv 2)) x5 (yD de_int.read))) (DA.read (wW (za 2 (pv 2)) (yD (DE.read (y8 de_int.read))) x5)))))) (zW (by rfl) (zB (zj (i:=9) sc.nd (by rfl) (by first|exact .inl rfl|exact .inr rfl)) (zB (zj (i:=13) sc.nd (by rfl) (by first|exact .inl rfl|exact .inr rfl)) zY))) (zf (zv (ye (zZ (zX (zK (DE.read (zo Hap (hr.mono (by decide)) (by rfl) (zb (zc 10 (pv 10)) (zb (zc 4 (pv 4)) (zb (zc 3 (pv 3)) (zb (zc 9 (pv 9)) (zb (zc 5 (pv 5)) zh))))))) (by intro _;rfl))) (yq (zq (yo hr.units) zH (za 10 (pv 10)) (za 2 (pv 2)) (nomark _))))) (zf (zz zU)) zA))) (ze (zO (t:=(.name 14)) PassesOwn.never (by rfl) (zM hb0 (DE.fix (DA.frz (qm (DA.read (Qd (za 0 (pv 0)) (yD de_int.read) (yD de_int.read))) (DA.read (ya (zt de_int zG))))))) (zj (i:=14) sc.nd (by rfl) (by first|exact .inl rfl|exact .inr rfl)) (ze (zl (i:=9) sc.nd (by rfl) (by first|exact .inl rfl|exact .inr rfl) (zn (DE.read (zo Hao (hr.mono (by decide)) (by rfl) (zb (zc 14 (pv 14)) (zb (zp (zE de_int.read (DE.read (zF (za 14 (pv 14)) de_int.read)))) zh)))) (DE.read (y8 de_int.read)) (by intro _ _;rfl))) (zf (zv (JY (za 9 (pv 9)) (vD 6 (pv 6))) (ze (zv (zX (zK (DE.read (zo Har (hr.mono (by decide)) (by rfl) (zb (zc 2 (pv 2)) (zb (zc 4 (pv 4)) (zb (zc 3 (pv 3)) (zb (zc 9 (pv 9)) zh)))))) (by intro _;rfl))) (zf (zz zU)) zA) (zf (zv (zq Ry U1 (DE.read (zo Ha2 (hr.mono (by decide)) (by rfl) (zb (zp (DA.frz (y7 (by rfl) T.b_list (z7 (za 2 (pv 2)) zy)))) (zb (zc 4 (pv 4)) (zb (zc 3 (pv 3)) (zb (zc 9 (pv 9)) (zb (zc 12 (pv 12)) (zb (zc 5 (pv 5)) zh)))))))) (DE.read zU) (nomark _)) (zf (zz zU)) zA))) zA)))) (zf (zz zU)))))))))))))))))
abbrev w9:Stmt:=kH (top 5) 0
theorem Zw:FnScope ["self","name"] ["self","name"] (zd w9):=⟨rfl,rfl,rfl,by decide +kernel,rfl,by decide +kernel,by decide +kernel⟩
theorem RU {f CT HE:Addr}{fd:FuncData}(F:Fun K "__init__" "NoTicket.__init__" w9 f fd) (xc:XC K CT HE f "name") (mH:mg "HallError" = some (.ref HE)):FnOk P w K mg base CX0 1 f fd ["self","name"] (xiSp CT "name"):=by
 have sc:=Zw
 refine F.ok (k:=0) Zw (λvs H Q E h=>?_) (λcdv A outer s H vs Q E hr h=>?_)
 ·obtain⟨e,v,t,rfl,_⟩:=h;rfl
 ·refine⟨_,xR (y4 (QZ xc (by rfl) mH (zJ (pv 0) (zJ (pv 1) zS)))) (ji (Gi xc (pv 0) (pv 1) (by rfl))),?_⟩
  obtain⟨e,v,t,rfl,he,q⟩:=h
  exact⟨_,rfl,_,rfl,e,v,t,rfl,he,λt'=>⟨_,rfl,_,rfl,e,t',rfl,zk,λdx h1 h2=>Rz (t:=t) q t' dx h1 h2⟩⟩
end
end My
namespace My
open PySem PySem.Spec L2 L3 L4 Dv HM
open PyProof.Rows hiding St
def rowD (r:HM.Row):D:=.tup [.int r.1,.int r.2]
def Good (r:HM.Row):Prop:=(1<=r.1/\r.1<=100)/\0<=r.2/\r.2<=8
theorem Rg (a:Int):vi [.val (.int a)]=some (.val (.bl true)):=by
 simp[vi,mir,stE,W2,qE]
theorem ur {a lo hi:Int}(h1:lo<=a)(h2:a<=hi):xa [.val (.int a),.val (.int lo),.val (.int hi)]=some (.val (.bl true)):=by
 simp[xa,mir,stE,jG,qD,Rg,h1,h2]
theorem Kn {r:HM.Row}(h:Good r):vj [.val (rowD r)]=some (.val (.bl true)):=by
 simp[vj,mir,stE,VD,kQ,rowD,ur h.1.1 h.1.2,ur h.2.1 h.2.2]
theorem w4 (ns:List Int)(k:Nat):zQ [.val (.scr ns),.val (.int k)]=some (.val (.int (ns.getD k 0))):=by
 by_cases h:k < ns.length
 ·have e:atI ns (k:Int)=some ns[k]:=yr k (List.getElem?_eq_getElem h)
  simp[zQ,mir,stE,vE,jo,h,e]
 ·simp[zQ,mir,stE,vE,jo,h]
theorem V9 (a:Int)(k:Int):∃z,yO [.val (.int a),.val (.int k)]=some (.val (.int z)):=by
 have h1:∀x:Int,-LIM < x % 2147483647:=λx=>by unfold LIM;omega
 have h1':∀x:Int,x % 2147483647 < LIM:=λx=>by unfold LIM;omega
 have h2:∀x:Int,-LIM < x % 2147483629:=λx=>by unfold LIM;omega
 have h2':∀x:Int,x % 2147483629 < LIM:=λx=>by unfold LIM;omega
 have l1:-LIM < 69621:=by decide
 have l2:69621 < LIM:=by decide
 have l3:-LIM < 16807:=by decide
 have l4:16807 < LIM:=by decide
 simp[yO,mir,stE,j3,kO,zL,j0,h1,h2,h1',h2',l1,l2,l3,l4]
theorem VA (ns:List Int)(b:Int)(at0:Nat)(cnt:D)(hb:0 < b)(hb2:b < 1073741824):∀(ks:List Nat)(c:Int)(k0:Option En)(vs:List Int),vs.length+ks.length<=1000->(∀v∈vs,0<=v/\v < b) ->
  ∃(c':Int) (k':Option En) (vs':List Int),(∀v∈vs',0<=v/\v < b)/\vs'.length=vs.length+ks.length /\
   forD (.name 6) jk (ks.map λ(k:Nat)=>D.int (0+(k:Int))) [some (.val (.scr ns)),some (.val (.int (at0:Int))),some (.val (.int b)),some (.val cnt),some (.val (.int c)),some (.acc (vs.map D.int)),k0]
   = some (.next [some (.val (.scr ns)),some (.val (.int (at0:Int))),some (.val (.int b)),some (.val cnt),some (.val (.int c')),some (.acc (vs'.map D.int)),k'])
 | [],c,k0,vs,hl,hv=>⟨c,k0,vs,hv,by simp,by simp⟩
 |k::ks,c,k0,vs,hl,hv=>by
  simp only[List.length_cons] at hl
  obtain⟨z,hz⟩:=V9 c (0+(k:Int))
  have e0:=w4 ns 0
  have hs:(0:Int)<=(at0:Int) % 8:=by omega
  have ht:(vs.map D.int).length<=TOP:=by simp[TOP];omega
  have ht':vs.length<=TOP:=by simp[TOP];omega
  have ih:=λ(v:Int) (c2:Int) (h1:0<=v) (h2:v < b)=>VA ns b at0 cnt hb hb2 ks c2 (some (.val (.int (0+(k:Int))))) (vs++[v]) (by simp;omega) (by
   intro w hw
   rcases List.mem_append.mp hw with h | h
   ·exact hv w h
   ·rw[List.mem_singleton.mp h];exact⟨h1,h2⟩)
  by_cases q:Builtin.bitAnd (ns.getD 0 0 / 2 ^ ((at0:Int) % 8).toNat) 1=0
  ·obtain⟨c',k',vs',p1,p2,p3⟩:=ih (c % b) (c / b) (Int.emod_nonneg _ (by omega)) (Int.emod_lt_of_pos _ hb)
   refine⟨c',k',vs',p1,by rw[p2];simp;omega,?_⟩
   rw[<-p3]
   simp at e0 q
   simp[jk,e0,zL,Vy hs,q,zL hb,yn hb hb2,ht,ht']
  ·obtain⟨c',k',vs',p1,p2,p3⟩:=ih (z / 8 % b) c (Int.emod_nonneg _ (by omega)) (Int.emod_lt_of_pos _ hb)
   refine⟨c',k',vs',p1,by rw[p2];simp;omega,?_⟩
   rw[<-p3]
   simp at e0 q hz
   simp[jk,e0,zL,Vy hs,q,zL hb,yn,ht,ht',hz]
theorem Vl (ns:List Int)(at0:Nat)(b:Int)(n:Nat)(hb:0 < b)(hb2:b < 1073741824)(hn:n<=900):∃vs:List Int,(∀v∈vs,0<=v/\v < b)/\vs.length=n /\
  yR [.val (.scr ns),.val (.int at0),.val (.int b),.val (.int n)]=some (.acc (vs.map D.int)):=by
 obtain⟨c',k',vs',p1,p2,p3⟩:=VA ns b at0 (.int n) hb hb2 (List.range n) (ns.getD at0 0) none [] (by simp;omega) (by simp)
 refine⟨vs',p1,by simpa using p2,?_⟩
 have e0:=w4 ns at0
 have hB:-BIG<=(n:Int)/\(n:Int)<=BIG:=by unfold BIG;omega
 simp only[yR,mir,stE,jy,uV]
 simp[e0,hB,wF,TOP] at p3 ⊢
 simp[p3]
theorem zai {α:Type}{xs:List α}{n:Nat}(h:xs.length<=n)(hn:n<=TOP):xs.length<=TOP:=Nat.le_trans h hn
theorem t16:16<=TOP:=by decide
theorem YT:∀(rs:List HM.Row),(∀r∈rs,Good r)->compD (.name 0) tYes kN [none] (rs.map rowD)=some (rs.map λ_=>D.bl true)
 | [],_=>by simp
 |r::rs,h=>by
  have h1:=Kn (h r (by simp))
  have ih:=YT rs λq hq=>h q (by simp[hq])
  simp only[List.map_cons,yw,GZ,Option.bind_some,G7,if_true,ih,Option.map_some]
  simp[kN,h1]
theorem uc {α:Type}:∀(rs:List α),asBs (rs.map λ_=>D.bl true)=some (rs.map λ_=>true)
 | []=>rfl
 |r::rs=>by simp[asBs,uc rs]
theorem K9 {rs:List HM.Row}{rest:Int}(h:∀r∈rs,Good r)(hl:rs.length<=16)(h1:1<=rest)(h2:rest<=8):vF [.val (.lst (rs.map rowD)),.val (.int rest)]=some (.val .non):=by
 have e:=YT rs h
 have e2:=uc rs
 have e3:=ur h1 h2
 have ht:rs.length<=TOP:=zai hl t16
 simp only[vF,mir,stE,vv,ud]
 have hl':¬((16:Int) < (rs.length:Int)):=by omega
 simp[e,e2,e3,ht,hl,hl']
theorem Z7 (R:Option En)(rest:D):∀(rs acc:List HM.Row)(x y:Option En),Pos rs->acc.length+rs.length<=1000 ->
  ∃(x' y':Option En),forD (.tup [3,4]) wO (rs.map rowD) [R,some (.val rest),some (.acc (acc.map rowD)),x,y]=some (.next [R,some (.val rest),some (.acc ((rs.foldl kstep acc).map rowD)),x',y'])
 | [],acc,x,y,_,_=>⟨x,y,by simp⟩
 |r::rs,acc,x,y,hp,hl=>by
  simp only[List.length_cons] at hl
  obtain⟨h1,h2⟩:=Pos.cons.mp hp
  have hk:=Vo acc r
  obtain⟨x',y',e⟩:=Z7 R rest rs (kstep acc r) (some (.val (.int r.1))) (some (.val (.int r.2))) h2 (by omega)
  refine⟨x',y',?_⟩
  rw[List.foldl_cons,<-e]
  have ht:acc.length<=TOP:=by simp[TOP];omega
  rcases List.eq_nil_or_concat acc with rfl | ⟨pre,q,rfl⟩
  ·simp[wO,rowD,kstep,h1.1,TOP]
  ·rw[List.concat_eq_append] at ht ⊢
   have hk:kstep (pre++[q]) r=if q.2=r.2 then pre++[(q.1+r.1,r.2)] else pre++[q]++[r]:=by
    unfold kstep;rw[List.getLast?_concat];simp only[List.dropLast_concat]
   rw[hk]
   have ea:atI ((pre++[q]).map rowD) (-1)=some (rowD q):=by rw[List.map_append];exact vn
   have en:ixN (pre.length+1) (-1)=some pre.length:=Kg _
   have es:∀d:D,(pre.map rowD++[rowD q]).set pre.length d=pre.map rowD++[d]:=λd=>by
    rw[List.set_append_right _ _ (by simp)];simp
   have ea':atI (pre.map rowD++[rowD q]) (-1)=some (rowD q):=vn
   by_cases c:q.2=r.2
   ·rw[if_pos c]
    simp[wO,ea',en,es,rowD,c,TOP] at ht ⊢
    try simp[rowD] at ea' es
   ·rw[if_neg c]
    simp[wO,ea',rowD,c,TOP,h1.1] at ht ⊢
    simp[rowD] at ea'
    simp[ea',c,ht]
theorem JW {rs:List HM.Row}{rest:Int}(h:Pos rs)(hl:rs.length<=500):vf [.val (.lst (rs.map rowD)),.val (.int rest)]=some (.acc ((krows rest rs).map rowD)):=by
 obtain⟨x',y',e⟩:=Z7 (some (.val (.lst (rs.map rowD)))) (.int rest) rs [] none none h (by simp;omega)
 simp only[vf,mir,stE,vQ,uk]
 simp at e
 simp[e,TOP]
 unfold krows kend
 rcases List.eq_nil_or_concat (rs.foldl kstep []) with h0 | ⟨pre,q,h0⟩
 ·rw[h0];simp
 ·rw[List.concat_eq_append] at h0
  rw[h0]
  have ea':atI (pre.map rowD++[rowD q]) (-1)=some (rowD q):=vn
  by_cases c:q.2=rest
  ·simp[ea',rowD,c]
   try simp[rowD] at ea'
  ·simp[ea',rowD,c]
   try simp[rowD] at ea'
def spanD (p:Int×HM.Row):D:=.tup [.int p.1,.int (p.1+p.2.1),.int p.2.2]
def spans:Int->List HM.Row->List (Int×HM.Row)
 |_,[]=>[]
 |s,r::rs=>(s,r)::spans (s+r.1) rs
theorem Yc (R:D):∀(rs:List HM.Row)(s:Int)(acc:List D)(x y:Option En),acc.length+rs.length<=1000 ->
  ∃(s':Int) (x' y':Option En),forD (.tup [3,4]) kL (rs.map rowD) [some (.val R),some (.acc acc),some (.val (.int s)),x,y]=some (.next [some (.val R),some (.acc (acc++(spans s rs).map spanD)),some (.val (.int s')),x',y'])
 | [],s,acc,x,y,_=>⟨s,x,y,by simp[spans]⟩
 |r::rs,s,acc,x,y,hl=>by
  simp only[List.length_cons] at hl
  obtain⟨s',x',y',e⟩:=Yc R rs (s+r.1) (acc++[spanD (s,r)]) (some (.val (.int r.1))) (some (.val (.int r.2))) (by simp;omega)
  refine⟨s',x',y',?_⟩
  have ht:acc.length<=TOP:=by simp[TOP];omega
  rw[List.append_assoc] at e
  simp only[spans,List.map_cons]
  rw[show acc++spanD (s,r)::(spans (s+r.1) rs).map spanD=acc++([spanD (s,r)]++(spans (s+r.1) rs).map spanD) from rfl,<-e]
  have t3:3<=TOP:=by decide
  simp[kL,rowD,spanD,ht,t3]
theorem Jm {rs:List HM.Row}(hl:rs.length<=500):vA [.val (.lst (rs.map rowD))]=some (.acc ((spans 0 rs).map spanD)):=by
 obtain⟨s',x',y',e⟩:=Yc (.lst (rs.map rowD)) rs 0 [] none none (by simp;omega)
 simp only[vA,mir,stE,jC,uC]
 simp at e
 simp[e]
theorem QN:¬(("spans" : Str) = "kept_rest"):=by decide +kernel
theorem KA:¬(("kept_rest" : Str) = "spans"):=by decide +kernel
def FS:List Str:=["kept_rest","spans"]
def hoursD (C:Addr)(rest:Int)(ks:List HM.Row):D:=.obj C FS [.int rest,.lst ((spans 0 ks).map spanD)]
theorem JM {a b:D}:lookZ "kept_rest" FS [a,b]=some a:=by simp[lookZ,FS]
theorem kF {a b:D}:lookZ "spans" FS [a,b]=some b:=by simp[lookZ,FS,QN]
theorem UC (C a dx:Addr){rs:List HM.Row}{rest:Int}(h:∀r∈rs,Good r)(hl:rs.length<=16)(h1:1<=rest)(h2:rest<=8)(hp:Pos rs) :
  mirI C v9 (wZ C) a dx [.val (.lst (rs.map rowD)),.val (.int rest)]=some (FS,[.int rest,.lst ((spans 0 (krows rest rs)).map spanD)]):=by
 have e1:=K9 h hl h1 h2
 have e2:=JW (rest:=rest) hp (by omega)
 have e3:=Jm (rs:=krows rest rs) (Nat.le_trans (Kc rest rs) (by omega))
 simp only[mirI,stE,v9,wZ]
 simp[e1,e2,e3,putZ,KA,outI,outJ,FS]
theorem QE (C:Addr){rs:List HM.Row}{rest:Int}(h:∀r∈rs,Good r)(hl:rs.length<=16)(h1:1<=rest)(h2:rest<=8)(hp:Pos rs) :
  wM C [.val (.lst (rs.map rowD)),.val (.int rest)]=some (FS,[.int rest,.lst ((spans 0 (krows rest rs)).map spanD)]):=UC C 0 0 h hl h1 h2 hp
theorem Qo {g1 g2 g3:EnvD->Option D}{n1 n2:Str}(h1:∀o o' l,g1 (o::l)=g1 (o'::l))(h2:∀o o' l,g2 (o::l)=g2 (o'::l))(h3:∀o o' l,g3 (o::l)=g3 (o'::l))(C a dx:Addr)(l:EnvD) :
  outI a dx C (sSeq (sExpr g1) (sSeq (sFldD 0 C n1 g2) (sFldD 0 C n2 g3)) (some (.oac a dx C [] [])::l))=outI 0 0 C (sSeq (sExpr g1) (sSeq (sFldD 0 C n1 g2) (sFldD 0 C n2 g3)) (some (.oac 0 0 C [] [])::l)):=by
 have e1:=h1 (some (.oac a dx C [] [])) (some (.oac 0 0 C [] [])) l
 have e2:=h2 (some (.oac a dx C [] [])) (some (.oac 0 0 C [] [])) l
 cases q1:g1 (some (.oac 0 0 C [] [])::l) with
 |none=>rw[q1] at e1;simp[e1,q1,outI]
 |some d1=>
  rw[q1] at e1
  cases q2:g2 (some (.oac 0 0 C [] [])::l) with
  |none=>rw[q2] at e2;simp[e1,q1,e2,q2,outI]
  |some d2=>
   rw[q2] at e2
   simp[e1,q1,e2,q2]
   have e3:=h3 (some (.oac a dx C (putZ n1 d2 [] []).1 (putZ n1 d2 [] []).2)) (some (.oac 0 0 C (putZ n1 d2 [] []).1 (putZ n1 d2 [] []).2)) l
   cases q3:g3 (some (.oac 0 0 C (putZ n1 d2 [] []).1 (putZ n1 d2 [] []).2)::l) with
   |none=>rw[q3] at e3;simp[putZ] at e3 q3;simp[e3,q3,outI,putZ]
   |some d3=>rw[q3] at e3;simp[putZ] at e3 q3;simp[e3,q3,outI,outJ,putZ]
theorem Ri (C a dx:Addr)(xs:List En):mirI C v9 (wZ C) a dx xs=wM C xs:=by
 unfold wM mirI stE
 exact Qo (λo o' l=>by simp) (λo o' l=>by simp) (λo o' l=>by simp) C a dx _
theorem t2:2<=TOP:=by decide
theorem qB:∀(s:Int)(ks:List HM.Row),(spans s ks).length=ks.length
 |_,[]=>rfl
 |s,r::rs=>by simp[spans,qB (s+r.1) rs]
def stp (s:Int):List HM.Row->Nat->Int
 | [],_=>s
 |r::_,0=>s+r.1
 |r::rs,i+1=>stp (s+r.1) rs i
def cntK (rest:Int):List HM.Row->Nat->Int
 | [],_=>rest
 |r::_,0=>r.2
 |_::rs,i+1=>cntK rest rs i
theorem uJ (rest:Int):∀(ks:List HM.Row)(s:Int)(i:Nat),i < ks.length->∃(a:Int)(r:HM.Row),(spans s ks)[i]?=some (a,r)/\a+r.1=stp s ks i/\r.2=cntK rest ks i
 |r::rs,s,0,_=>⟨s,r,by simp[spans],rfl,rfl⟩
 |r::rs,s,i+1,h=>by
  obtain⟨a,q,h1,h2,h3⟩:=uJ rest rs (s+r.1) i (by simpa using h)
  exact⟨a,q,by simpa[spans] using h1,h2,h3⟩
theorem Y7:∀(ks:List HM.Row)(s:Int)(i:Nat),Pos ks->s<=stp s ks i
 | [],_,_,_=>Int.le_refl _
 |r::rs,s,0,h=>by have:=(Pos.cons.mp h).1.1;simp only[stp];omega
 |r::rs,s,i+1,h=>by have:=(Pos.cons.mp h).1.1;have:=Y7 rs (s+r.1) i (Pos.cons.mp h).2;simp only[stp];omega
theorem W8:∀(ks:List HM.Row)(s:Int)(i j:Nat),Pos ks->i<=j->stp s ks i<=stp s ks j
 | [],_,_,_,_,_=>Int.le_refl _
 |r::rs,s,0,0,_,_=>Int.le_refl _
 |r::rs,s,0,j+1,h,_=>Y7 rs (s+r.1) j (Pos.cons.mp h).2
 |r::rs,s,i+1,0,_,h=>by omega
 |r::rs,s,i+1,j+1,h,hj=>W8 rs (s+r.1) i j (Pos.cons.mp h).2 (by omega)
theorem ZJ (rest x:Int):∀(ks:List HM.Row)(s:Int)(lo:Nat),(∀i,i < lo->stp s ks i<=x)->(lo < ks.length->x < stp s ks lo)->lo<=ks.length->atR rest ks (x - s)=cntK rest ks lo
 | [],_,_,_,_,_=>rfl
 |r::rs,s,0,_,h2,_=>by
  have h:=h2 (by simp)
  simp only[stp] at h
  have h':x - s < r.1:=by omega
  simp[atR,h',cntK]
 |r::rs,s,lo+1,h1,h2,h3=>by
  have h:=h1 0 (by omega)
  simp only[stp] at h
  have h':¬(x - s < r.1):=by omega
  have e:x - s - r.1=x - (s+r.1):=by omega
  simp only[atR,if_neg h',e,cntK]
  exact ZJ rest x rs (s+r.1) lo (λi hi=>h1 (i+1) (by omega)) (λhl=>h2 (by simpa using hl)) (by simpa using h3)
theorem WB {α:Type}{xs:List α}{i:Nat}{v:α}(h:xs[i]?=some v):atI xs (i:Int)=some v:=yr i h
theorem qu (C:Addr)(fs:List Str)(ds:List D)(rest x:Int)(ks:List HM.Row)(hp:Pos ks)(hs:lookZ "spans" fs ds=some (.lst ((spans 0 ks).map spanD))):∀(k lo hi:Nat) (m:Option En),hi - lo<=k->lo<=hi->hi<=ks.length->(∀i,i < lo->stp 0 ks i<=x)->(hi < ks.length->x < stp 0 ks hi) ->
  ∃(lo':Nat) (m':Option En),(lo'<=ks.length/\(∀i,i < lo'->stp 0 ks i<=x)/\(lo' < ks.length->x < stp 0 ks lo')) /\
   whileD (gb' (g2 fLt (gr 2) (gr 3))) (jc C) (k+1) [some (.val (.obj C fs ds)),some (.val (.int x)),some (.val (.int (lo:Int))),some (.val (.int (hi:Int))),m]
    = some (.next [some (.val (.obj C fs ds)),some (.val (.int x)),some (.val (.int (lo':Int))),some (.val (.int (lo':Int))),m'])
 |0,lo,hi,m,hk,hle,hn,h1,h2=>by
  have:lo=hi:=by omega
  subst this
  refine⟨lo,m,⟨hn,h1,h2⟩,?_⟩
  rw[wP]
  simp
 |k+1,lo,hi,m,hk,hle,hn,h1,h2=>by
  by_cases hlt:lo < hi
  ·obtain⟨mid,hm⟩:∃mid:Nat,mid=(lo+hi) / 2:=⟨_,rfl⟩
   have em:((lo:Int)+(hi:Int)) / 2=(mid:Int):=by omega
   have m1:lo<=mid:=by omega
   have m2:mid < hi:=by omega
   clear hm
   obtain⟨a,r,g1,g2',g3⟩:=uJ rest ks 0 mid (by omega)
   have ei:atI ((spans 0 ks).map spanD) (mid:Int)=some (spanD (a,r)):=WB (by simp[g1])
   have t1:atI (α:=D) [.int a,.int (a+r.1),.int r.2] 1=some (.int (a+r.1)):=rfl
   have hl2:(lo:Int) < (hi:Int):=by omega
   by_cases hx:x < stp 0 ks mid
   ·obtain⟨lo',m',p,e⟩:=qu C fs ds rest x ks hp hs k lo mid (some (.val (.int (mid:Int)))) (by omega) (by omega) (by omega) h1 (λ_=>hx)
    refine⟨lo',m',p,?_⟩
    have hx':x < a+r.1:=by rw[g2'];exact hx
    rw[jZ (ρ2:=[some (.val (.obj C fs ds)),some (.val (.int x)),some (.val (.int (lo:Int))),some (.val (.int (mid:Int))),some (.val (.int (mid:Int)))]) (by simp[hl2]) (by
     simp[jc,yn,em,hs,ei,spanD,t1,hx']),e]
   ·obtain⟨lo',m',p,e⟩:=qu C fs ds rest x ks hp hs k (mid+1) hi (some (.val (.int (mid:Int)))) (by omega) (by omega) (by omega) (λi hi'=>Int.le_trans (W8 ks 0 i mid hp (by omega)) (by omega)) h2
    refine⟨lo',m',p,?_⟩
    have hx':¬(x < a+r.1):=by rw[g2'];exact hx
    rw[jZ (ρ2:=[some (.val (.obj C fs ds)),some (.val (.int x)),some (.val (.int ((mid+1:Nat):Int))),some (.val (.int (hi:Int))),some (.val (.int (mid:Int)))]) (by simp[hl2]) (by
     simp[jc,yn,em,hs,ei,spanD,t1,hx']),e]
  ·have:lo=hi:=by omega
   subst this
   refine⟨lo,m,⟨hn,h1,h2⟩,?_⟩
   rw[wP]
   simp
theorem VM (C:Addr){rest x:Int}{ks:List HM.Row}(hp:Pos ks):xy C [.val (hoursD C rest ks),.val (.int x)]=some (.val (.int (atR rest ks x))):=by
 obtain⟨lo,m,⟨p1,p2,p3⟩,e⟩:=qu C FS [.int rest,.lst ((spans 0 ks).map spanD)] rest x ks hp kF ks.length 0 ks.length none (by omega) (by omega) (by omega) (λi hi=>by omega) (λh=>by omega)
 have ea:=ZJ rest x ks 0 lo p2 p3 p1
 rw[Int.sub_zero] at ea
 have ew:=qK e
 simp only[xy,mir,stE,j8,uR,hoursD]
 simp only[Int.natCast_zero] at ew
 by_cases hlt:lo < ks.length
 ·obtain⟨a,r,g1,g2',g3⟩:=uJ rest ks 0 lo hlt
  have ei:atI ((spans 0 ks).map spanD) (lo:Int)=some (spanD (a,r)):=WB (by simp[g1])
  have t1:atI (α:=D) [.int a,.int (a+r.1),.int r.2] 2=some (.int r.2):=rfl
  have h':(lo:Int) < (ks.length:Int):=by omega
  simp[kF,qB,ew,ei,spanD,t1,h',ea,g3]
 ·have h':¬((lo:Int) < (ks.length:Int)):=by omega
  have e0:cntK rest ks lo=rest:=by
   have:∀(l:List HM.Row) (i:Nat),l.length<=i->cntK rest l i=rest:=by
    intro l
    induction l with
    |nil=>intro i _;rfl
    |cons q qs ih=>intro i hi;match i,hi with | i+1,hi=>exact ih i (by simpa using hi)
   exact this ks lo (by omega)
  simp[kF,qB,ew,h',JM,ea,e0]
section
variable (C:Addr){rs:List HM.Row}{rest:Int}
theorem Kw {m:Str}(h1:¬(m = "kept_rest")) (h2:¬(m = "spans")) {r:Int} {x:List D}:lookZ m FS [D.int r,D.lst x]=none:=by simp[lookZ,FS,h1,h2]
theorem kW {r:Int}{x:List D}:lookZ "at" FS [D.int r,D.lst x]=none:=Kw (by decide +kernel) (by decide +kernel)
structure Fit (rs:List HM.Row)(rest:Int):Prop where
 good:∀r∈rs,Good r
 len:rs.length<=16
 lo:1<=rest
 hi:rest<=8
theorem Fit.pos (F:Fit rs rest):Pos rs:=λr hr=>⟨by have:=(F.good r hr).1.1;omega,(F.good r hr).2.1⟩
end
end My
namespace My
open PySem PySem.Spec L2 L3 L4 Dv HM QM
open PyProof.Rows hiding St
theorem uv {e:EnvD->Option D}(he:∀a b,e [some (.val a),some (.val b)]=some a):∀(q:List (Str×Int)),compD (.tup [0,1]) tYes e [none,none] (q.map tkD)=some ((q.map (·.1)).map D.str)
 | []=>by simp
 |t::q=>by
  have ih:=uv he q
  simp only[List.map_cons,yw,ih]
  simp[tkD,he]
theorem Vp {q:List (Str×Int)}(hl:q.length<=1000):xQ [.val (.lst (q.map tkD))]=some (.acc ((q.map (·.1)).map D.str)):=by
 have e:=uv (e:=up) (λa b=>by simp[up]) q
 have ht:q.length<=TOP:=by simp[TOP];omega
 simp at e
 simp[xQ,mir,stE,Zb,kg,ht,e]
theorem YJ:∀(q:List (Str×Int)),compD (.tup [0,1]) (gb' (g2 fGt (gr 1) (gc (.int 1)))) vV [none,none] (q.map tkD)=some (((q.filter λt=>decide (1 < t.2)).map λt=>(t.1,t.2 - 1)).map tkD)
 | []=>by simp
 |t::q=>by
  have ih:=YJ q
  simp only[List.map_cons,yw,ih]
  by_cases h:1 < t.2
  ·rw[List.filter_cons,if_pos (by simpa using h)]
   simp[tkD,vV,h,t2]
  ·rw[List.filter_cons,if_neg (by simpa using h)]
   simp[tkD,vV,h]
def rnT (r:Int×List Str):OT:=.tup [.frz (.int r.1),.lst (lfs (r.2.map D.str))]
def rowsT (rows:List (Int×List Str)):OT:=.lst (rows.map rnT)
theorem jA:∀ds:List D,erases (lfs ds)=ds
 | []=>rfl
 |d::ds=>by show (OT.frz d).erase::erases (lfs ds)=_;rw[jA ds];rfl
theorem YH (r:Int×List Str):(rnT r).erase=rnD r:=by
 show D.tup [.int r.1,.lst (erases (lfs (r.2.map D.str)))]=_
 rw[jA];rfl
theorem VN:∀rows:List (Int×List Str),erases (rows.map rnT)=rows.map rnD
 | []=>rfl
 |r::rows=>by show (rnT r).erase::erases (rows.map rnT)=_;rw[VN rows,YH];rfl
theorem jU (rows:List (Int×List Str)):(rowsT rows).erase=.lst (rows.map rnD):=by
 show D.lst (erases (rows.map rnT))=_
 rw[VN]
def srvT (ns:List Str)(q:List (Str×Int)):OT:=.tup [.lst (lfs (ns.map D.str)),.lst (lfs (q.map tkD))]
theorem GE {W:En}{q A Bq:List (Str×Int)}{m:Int}(hW:W=.val (.lst (q.map tkD))∨W=.bor (q.map tkD))(c1:cutD (q.map tkD) none (some m)=A.map tkD)(c2:cutD (q.map tkD) (some m) none=Bq.map tkD)(hA:A.length<=1000)(hB:Bq.length<=1000) :
  yy [W,.val (.int m)]=some (.tre (.tup [.lst (lfs ((A.map (·.1)).map D.str)),.lst (lfs (((A.filter λt=>decide (1 < t.2)).map λt=>(t.1,t.2 - 1)).map tkD++Bq.map tkD))])):=by
 have e1:=YJ A
 have e2:=Vp hA
 have hf:=List.length_filter_le (λt:Str×Int=>decide (1 < t.2)) A
 have ht:A.length<=TOP:=by simp[TOP];omega
 have ht3:(A.filter λt=>decide (1 < t.2)).length+Bq.length<=TOP:=by simp only[TOP];omega
 simp at e1 e2
 rcases hW with rfl | rfl
 ·simp[yy,mir,stE,wE,jT,c1,c2,ht,e1,e2,ht3,t2]
 ·simp[yy,mir,stE,wE,jT,c1,c2,ht,e1,e2,ht3,t2]
theorem uE {W:En}{q:List (Str×Int)}{m:Int}(hW:W=.val (.lst (q.map tkD))∨W=.bor (q.map tkD))(hl:q.length<=1000)(hm:0<=m) :
  yy [W,.val (.int m)]=some (.tre (srvT (srv m.toNat q) (beh m.toNat q))):=by
 have c1:cutD (q.map tkD) none (some m)=(q.take m.toNat).map tkD:=by rw[Yx hm,List.map_take]
 have c2:cutD (q.map tkD) (some m) none=(q.drop m.toNat).map tkD:=by rw[Uo hm,List.map_drop]
 rw[GE hW c1 c2 (by rw[List.length_take];omega) (by rw[List.length_drop];omega)]
 unfold srvT beh
 rw[List.map_append]
 rfl
theorem Wq {ns:List Str}{q:List (Str×Int)}:(srvT ns q).get [0]=some (.lst (lfs (ns.map D.str))):=by simp[srvT,OT.get,gets]
theorem Y4 {ns:List Str}{q:List (Str×Int)}:(srvT ns q).get [1]=some (.lst (lfs (q.map tkD))):=by simp[srvT,OT.get,gets]
theorem Qc {ns:List Str}{q:List (Str×Int)}:(srvT ns q).erase=.tup [.lst (ns.map D.str),.lst (q.map tkD)]:=by
 show D.tup [.lst (erases (lfs (ns.map D.str))),.lst (erases (lfs (q.map tkD)))]=_
 rw[jA,jA]
theorem ZB (q:List (Str×Int))(m:Int):∀(ts pre acc:List (Str×Int))(a b c:Option En),q=pre++ts->acc.length+ts.length<=1000->∃a' b' c',
  forD (.name 3) wk (rngD (pre.length:Int) ts.length) [some (.val (.lst (q.map tkD))),some (.val (.int m)),some (.acc (acc.map tkD)),a,b,c]
   = some (.next [some (.val (.lst (q.map tkD))),some (.val (.int m)),some (.acc ((acc++behL m pre.length ts).map tkD)),a',b',c'])
 | [],pre,acc,a,b,c,_,_=>⟨a,b,c,by simp[rngD,behL]⟩
 |t::ts,pre,acc,a,b,c,hq,hl=>by
  simp only[List.length_cons] at hl
  have ei:atI (q.map tkD) (pre.length:Int)=some (tkD t):=yr _ (by rw[hq];simp)
  have ih:=λ(acc':List (Str×Int)) (l:Int) (h:acc'.length+ts.length<=1000)=>ZB q m ts (pre++[t]) acc' (some (.val (.int (pre.length:Int)))) (some (.val (.str t.1))) (some (.val (.int l))) (by rw[hq];simp) h
  have ec:((pre++[t]).length:Int)=(pre.length:Int)+1:=by simp
  have hT:acc.length<=TOP:=by simp[TOP];omega
  simp only[rngD,List.length_cons]
  by_cases h1:(pre.length:Int) < m
  ·by_cases h2:0 < t.2 - 1
   ·have h3:1 < t.2:=by omega
    obtain⟨a',b',c',e⟩:=ih (acc++[(t.1,t.2 - 1)]) (t.2 - 1) (by simp;omega)
    refine⟨a',b',c',?_⟩
    simp only[behL,if_pos h1,if_pos h2]
    rw[ec] at e
    rw[show (pre++[t]).length=pre.length+1 by simp,List.append_assoc] at e
    rw[<-e]
    simp[wk,ei,tkD,h1,h3,hT,t2]
   ·have h3:¬1 < t.2:=by omega
    obtain⟨a',b',c',e⟩:=ih acc (t.2 - 1) (by omega)
    refine⟨a',b',c',?_⟩
    simp only[behL,if_pos h1,if_neg h2]
    rw[ec] at e
    rw[show (pre++[t]).length=pre.length+1 by simp] at e
    rw[List.nil_append,<-e]
    simp[wk,ei,tkD,h1,h3,hT,t2]
  ·by_cases h2:0 < t.2
   ·obtain⟨a',b',c',e⟩:=ih (acc++[(t.1,t.2)]) t.2 (by simp;omega)
    refine⟨a',b',c',?_⟩
    simp only[behL,if_neg h1,if_pos h2]
    rw[ec] at e
    rw[show (pre++[t]).length=pre.length+1 by simp,List.append_assoc] at e
    rw[<-e]
    simp[wk,ei,tkD,h1,h2,hT,t2]
   ·obtain⟨a',b',c',e⟩:=ih acc t.2 (by omega)
    refine⟨a',b',c',?_⟩
    simp only[behL,if_neg h1,if_neg h2]
    rw[ec] at e
    rw[show (pre++[t]).length=pre.length+1 by simp] at e
    rw[List.nil_append,<-e]
    simp[wk,ei,tkD,h1,h2,hT,t2]
theorem G9 {q:List (Str×Int)}{m:Int}(hp:PosQ q)(hl:q.length<=900)(hm:0<=m) :
  vy [.val (.lst (q.map tkD)),.val (.int m)]=some (.val (.tup [.lst ((srv m.toNat q).map D.str),.lst ((beh m.toNat q).map tkD)])):=by
 obtain⟨a',b',c',e⟩:=ZB q m q [] [] none none none rfl (by simp;omega)
 have e1:=uv (e:=qt) (λa b=>by simp[qt]) (q.take m.toNat)
 have c1:cutD (q.map tkD) none (some m)=(q.take m.toNat).map tkD:=by rw[Yx hm,List.map_take]
 have ht:(q.take m.toNat).length<=TOP:=by rw[List.length_take];simp[TOP];omega
 rw[List.nil_append,show behL m ([]:List (Str×Int)).length q=beh m.toNat q from VO q 0 hp hm] at e
 rw[List.length_take] at ht
 have hB:-BIG<=(q.length:Int)/\(q.length:Int)<=BIG:=by unfold BIG;omega
 simp at e e1
 simp[vy,mir,stE,vH,qX,hB,e,c1,ht,e1,t2]
 simp[e1,srv]
theorem Yh (R:Option En)(rest:Int):∀(rs:List HM.Row)(x:Int)(a b:Option En),
  thenB (forD (.tup [3,4]) jY (rs.map rowD) [R,some (.val (.int rest)),some (.val (.int x)),a,b]) (sRetV 1)=some (.ret (.val (.int (atR rest rs x))))
 | [],x,a,b=>by simp[atR]
 |r::rs,x,a,b=>by
  have ih:=Yh R rest rs (x - r.1) (some (.val (.int r.1))) (some (.val (.int r.2)))
  by_cases h:x < r.1
  ·simp[rowD,jY,h,atR]
  ·simp only[atR,if_neg h]
   rw[<-ih]
   simp[rowD,jY,h]
theorem JI (rs:List HM.Row)(rest x:Int):ve [.val (.lst (rs.map rowD)),.val (.int rest),.val (.int x)]=some (.val (.int (atR rest rs x))):=by
 have e:=Yh (some (.val (.lst (rs.map rowD)))) rest rs x none none
 simp only[ve,mir,stE,jw,qy]
 simp[e]
theorem jJ {rest:Int}:∀(rs:List HM.Row)(x:Int),(∀r∈rs,0<=r.2)->0<=rest->0<=atR rest rs x
 | [],_,_,h=>h
 |r::rs,x,h,hr=>by
  simp only[atR]
  split
  ·exact h r (by simp)
  ·exact jJ rs _ (λq hq=>h q (by simp[hq])) hr
theorem ub {rest:Int}:∀(rs:List HM.Row)(x:Int),total rs<=x->Pos rs->atR rest rs x=rest
 | [],_,_,_=>rfl
 |r::rs,x,h,hp=>by
  have h1:=Zs (Pos.cons.mp hp).2
  simp only[total] at h
  simp only[atR]
  rw[if_neg (by omega)]
  exact ub rs _ (by omega) (Pos.cons.mp hp).2
def hrD (rs:List HM.Row)(rest:Int):D:=.tup [.lst (rs.map rowD),.int rest]
theorem sum0 {q:List (Str×Int)}(h:PosQ q)(hs:sumQ q=0):q=[]:=by
 cases q with
 |nil=>rfl
 |cons t ts=>
  have h1:1<=t.2:=h t (by simp)
  simp only[sumQ] at hs
  omega
theorem Ye (rs:List HM.Row)(rest:Int)(F:Fit rs rest)(X0 X2:Option En):∀(n:Nat)(q:List (Str×Int))(x:Int)(acc:List (Int×List Str))(nm:Option En),PosQ q->(∀t∈q,Ok t.1)->q.length<=100->sumQ q+(total rs - x).toNat<=n->acc.length+n<=5000 ->
  ∃(out:List (Int×List Str)) (v4 v5 v6:Option En),((∀r∈out,(∀y∈r.2,Ok y)/\r.2.length<=100)/\Run (atR rest rs) x q out/\out.length<=n) /\
   whileD (gb' (g2 (fEq true) (gr 4) (gFz (gLst gNil)))) u8 (n+1) [X0,some (.val (hrD rs rest)),X2,some (.acc (acc.map rnD)),some (.val (.lst (q.map tkD))),some (.val (.int x)),nm]
    = some (.next [X0,some (.val (hrD rs rest)),X2,some (.acc ((acc++out).map rnD)),v4,v5,v6])
 |0,q,x,acc,nm,hp,ho,hl,hs,ha=>by
  have hq:q=[]:=sum0 hp (by omega)
  subst hq
  refine⟨[],some (.val (.lst [])),some (.val (.int x)),nm,⟨by simp,.nil x,by simp⟩,?_⟩
  rw[wP]
  ·simp
  ·have:=kM (neg:=true) (xs:=[]) (by simp)
   simp at this
   simp[this]
 |n+1,q,x,acc,nm,hp,ho,hl,hs,ha=>by
  by_cases hq:q=[]
  ·subst hq
   refine⟨[],some (.val (.lst [])),some (.val (.int x)),nm,⟨by simp,.nil x,by simp⟩,?_⟩
   rw[wP]
   ·simp
   ·have:=kM (neg:=true) (xs:=[]) (by simp)
    simp at this
    simp[this]
  ·have hn:0<=atR rest rs x:=jJ rs x (λr hr=>(F.good r hr).2.1) (by have:=F.lo;omega)
   have e1:=JI rs rest x
   have e2:=G9 (m:=atR rest rs x) hp (by omega) hn
   have hsum:=Zy (m:=(atR rest rs x).toNat) hp
   have hql:1<=q.length:=by cases q with | nil=>exact (hq rfl).elim | cons=>simp
   have hdec:sumQ (beh (atR rest rs x).toNat q)+(total rs - (x+1)).toNat<=n:=by
    by_cases hx:x < total rs
    ·omega
    ·have:=ub (rest:=rest) rs x (by omega) F.pos
     have h1:=F.lo
     rw[this] at hsum ⊢
     omega
   have hb:=jz (m:=(atR rest rs x).toNat) (q:=q)
   obtain⟨out,v4,v5,v6,⟨o1,o1r,o1l⟩,o2⟩:=Ye rs rest F X0 X2 n (beh (atR rest rs x).toNat q) (x+1) (acc++[(x,srv (atR rest rs x).toNat q)]) (some (.val (.lst ((srv (atR rest rs x).toNat q).map D.str)))) (V6 hp) (ku Ok ho) (by omega) hdec (by simp;omega)
   refine⟨(x,srv (atR rest rs x).toNat q)::out,v4,v5,v6,⟨?_,.cons hq o1r,by simp;omega⟩,?_⟩
   ·intro r hr
    rcases List.mem_cons.mp hr with rfl | hr
    ·refine⟨λy hy=>?_,?_⟩
     ·obtain⟨t,ht,rfl⟩:=List.mem_map.mp hy
      exact ho t (List.mem_of_mem_take ht)
     ·show (srv (atR rest rs x).toNat q).length<=100
      unfold srv
      rw[List.length_map,List.length_take];omega
    ·exact o1 r hr
   ·have tst:=kM (neg:=true) ho
    simp[hq] at tst
    have hT:acc.length<=TOP:=by simp[TOP];omega
    rw[jZ (ρ2:=[X0,some (.val (hrD rs rest)),X2,some (.acc ((acc++[(x,srv (atR rest rs x).toNat q)]).map rnD)),some (.val (.lst ((beh (atR rest rs x).toNat q).map tkD))),some (.val (.int (x+1))),some (.val (.lst ((srv (atR rest rs x).toNat q).map D.str)))]),o2]
    ·simp
    ·simp[tst]
    ·simp[u8,hrD,e1,e2,hT,t2,rnD]
theorem JG {rs:List HM.Row}{rest x:Int}{q:List (Str×Int)}(F:Fit rs rest)(hx:0<=x)(hp:PosQ q)(ho:∀t∈q,Ok t.1)(hl:q.length<=60)(hs:sumQ q<=1200)(ht:total rs<=2000) :
  ∃out:List (Int×List Str),(∀r∈out,(∀y∈r.2,Ok y)/\r.2.length<=100)/\Run (atR rest rs) x q out/\out.length<=5000/\vt [.val (.lst (q.map tkD)),.val (hrD rs rest),.val (.int x)]=some (.acc (out.map rnD)):=by
 obtain⟨out,v4,v5,v6,⟨o1,o1r,o1l⟩,o2⟩:=Ye rs rest F (some (.val (.lst (q.map tkD)))) (some (.val (.int x))) (sumQ q+(total rs - x).toNat) q x [] none hp ho (by omega) (Nat.le_refl _) (by simp;omega)
 refine⟨out,o1,o1r,by omega,?_⟩
 have o3:=qK o2
 simp at o3
 simp[vt,mir,stE,jE,km,o3]
theorem YI (C:Addr){rest:Int}{ks:List HM.Row}(hP:Pos ks)(hk:∀r∈ks,0<=r.2)(hr:0<=rest)(X0 X3:Option En)(b0:Int):∀(rows:List (Int×List Str))(k:Nat)(q q':List (Str×Int))(a b c d:Option En),(∀t∈q,Ok t.1)->(∀r∈rows,∀y∈r.2,Ok y)->q.length<=500->walk (atR rest ks) (b0+k) q rows=some q' ->
  thenB (forD (.tup [5,6]) (uM C) (enumD k (rows.map rnD)) [X0,some (.val (hoursD C rest ks)),some (.val (.int b0)),X3,some (.acc (q.map tkD)),a,b,c,d]) (sRetV 4)
   = some (.ret (.acc (q'.map tkD)))
 | [],k,q,q',a,b,c,d,_,_,_,h=>by cases h;simp[enumD]
 |r::rows,k,q,q',a,b,c,d,ho,hn,hl,h=>by
  have hm:0<=atR rest ks (b0+k):=jJ ks _ hk hr
  have e1:=VM C (rest:=rest) (x:=b0+k) (ks:=ks) hP
  have e2:=uE (q:=q) (m:=atR rest ks (b0+k)) (.inr rfl) (by omega) hm
  have hsv:∀y∈srv (atR rest ks (b0+k)).toNat q,Ok y:=λy hy=>by
   obtain⟨t,ht,rfl⟩:=List.mem_map.mp hy
   exact ho t (List.mem_of_mem_take ht)
  have e3:=Us (neg:=true) (hn r (by simp)) hsv
  have hb:=jz (m:=(atR rest ks (b0+k)).toNat) (q:=q)
  simp only[walk] at h
  split at h
  ·cases h
  ·rename_i hc
   simp only[not_or,Decidable.not_not] at hc
   obtain⟨h1,h2,h3⟩:=hc
   have ih:=YI C hP hk hr X0 X3 b0 rows (k+1) (beh (atR rest ks (b0+k)).toNat q) q' (some (.val (.int k))) (some (.val (rnD r))) (some (.val (.int (b0+k)))) none (ku Ok ho) (λr' hr'=>hn r' (by simp[hr'])) (by omega) (by
    have ek:b0+((k+1:Nat):Int)=b0+k+1:=by omega
    rw[ek];exact h)
   simp[hoursD] at e1 ih
   rw[<-ih]
   rw[h3] at e3
   simp at e3
   have hne:¬q=[]:=h1
   have g0:=Wq (ns:=srv (atR rest ks (b0+k)).toNat q) (q:=beh (atR rest ks (b0+k)).toNat q)
   have g1:=Y4 (ns:=srv (atR rest ks (b0+k)).toNat q) (q:=beh (atR rest ks (b0+k)).toNat q)
   have ge:=Qc (ns:=srv (atR rest ks (b0+k)).toNat q) (q:=beh (atR rest ks (b0+k)).toNat q)
   generalize srvT (srv (atR rest ks (b0+k)).toNat q) (beh (atR rest ks (b0+k)).toNat q)=T at e2 g0 g1 ge
   try simp at e2
   simp[enumD,uM,hoursD,kW,e1,e2,hne,h2,h3,e3,rnD,g1,ge]
theorem Qk (C:Addr){rest b0:Int}{ks:List HM.Row}{q q':List (Str×Int)}{rows:List (Int×List Str)}(hP:Pos ks)(hk:∀r∈ks,0<=r.2)(hr:0<=rest)(ho:∀t∈q,Ok t.1)(hn:∀r∈rows,∀y∈r.2,Ok y)(hl:q.length<=500)(h:walk (atR rest ks) b0 q rows=some q') :
  vc C [.val (.lst (q.map tkD)),.val (hoursD C rest ks),.val (.int b0),.val (.lst (rows.map rnD))]=some (.acc (q'.map tkD)):=by
 have e:=YI C hP hk hr (some (.val (.lst (q.map tkD)))) (some (.val (.lst (rows.map rnD)))) b0 rows 0 q q' none none none none ho hn hl (by simpa using h)
 have hT:q.length<=TOP:=by simp[TOP];omega
 simp[hoursD] at e
 simp[vc,mir,stE,vP,qO,hoursD,e,hT]
theorem Y5 {α:Type}{f:α->D}{e:EnvD->Option D}{ρ0:EnvD}(P:α->Prop):∀(ks:List D),(∀k∈ks,∃y,P y/\e (ρ0.set 0 (some (.val k)))=some (f y)) ->
  ∃ys:List α,ys.length=ks.length/\(∀y∈ys,P y)/\compD (.name 0) tYes e ρ0 ks=some (ys.map f)
 | [],_=>⟨[],rfl,by simp,by simp⟩
 |k::ks,h=>by
  obtain⟨y,hy,e1⟩:=h k (by simp)
  obtain⟨ys,l,hp,e2⟩:=Y5 P ks λk' hk'=>h k' (by simp[hk'])
  refine⟨y::ys,by simp[l],λz hz=>?_,?_⟩
  ·rcases List.mem_cons.mp hz with rfl | hz
   ·exact hy
   ·exact hp z hz
  ·simp[e1,e2]
theorem Q0 {lo:Int}:∀ {n:Nat}{d:D},d∈rngD lo n->∃i:Nat,i < n/\d=.int (lo+i):=by
 intro n d h
 rw[wF] at h
 obtain⟨i,hi,rfl⟩:=List.mem_map.mp h
 exact⟨i,List.mem_range.mp hi,rfl⟩
theorem str0:("" : Str).length=0:=by decide +kernel
theorem mod2 (c:Int):c % 2=0∨c % 2=1:=by omega
theorem pick2 (a b c:Int):∃v,atI [D.int a,D.int b] (c % 2)=some (.int v)/\(v=a∨v=b):=by
 rcases mod2 c with h | h<;>rw[h]
 ·exact⟨a,by simp,.inl rfl⟩
 ·exact⟨b,by simp,.inr rfl⟩
theorem jl:∀(rs:List HM.Row),(∀r∈rs,Good r)->total rs<=100 * rs.length
 | [],_=>by simp[total]
 |r::rs,h=>by
  have h1:=(h r (by simp)).1.2
  have ih:=jl rs λq hq=>h q (by simp[hq])
  simp only[total,List.length_cons]
  omega
theorem Z6:∀(vs:List Int),compD (.name 0) tYes uo [none] (vs.map D.int)=some ((vs.map λv=>((1+v % 9,v / 9):Int×Int)).map rowD)
 | []=>by simp
 |v::vs=>by
  have ih:=Z6 vs
  simp only[List.map_cons,yw,ih]
  simp[uo,zL,yn,rowD,t2]
theorem Vg:∀(rs:List HM.Row),compD (.tup [0,1]) tYes uT [none,none] (rs.map rowD)=some ((rs.map λr=>((11 * r.1,r.2+4 * (if 0 < r.2 then 1 else 0)):Int×Int)).map rowD)
 | []=>by simp
 |r::rs=>by
  have ih:=Vg rs
  have m1:∀x,fMul (.int 11) (.int x)=some (.int (11 * x)):=λx=>j0 (by decide) (by decide)
  have m2:∀x,fMul (.int 4) (.int x)=some (.int (4 * x)):=λx=>j0 (by decide) (by decide)
  simp only[List.map_cons,yw,ih]
  by_cases h:0 < r.2<;>simp[uT,rowD,t2,m1,m2,h]
theorem Qi (ns:List Int):∃(rs:List HM.Row)(rest:Int),Fit rs rest/\total rs<=2000/\wz [.val (.scr ns)]=some (.val (hrD rs rest)):=by
 have c2:=w4 ns 2
 have hm:0<=ns.getD 2 0 % 7:=Int.emod_nonneg _ (by omega)
 have hm2:ns.getD 2 0 % 7 < 7:=Int.emod_lt_of_pos _ (by omega)
 obtain⟨mn,hmn⟩:∃mn:Nat,ns.getD 2 0 % 7=(mn:Int):=⟨(ns.getD 2 0 % 7).toNat,by omega⟩
 obtain⟨vs,v1,v2,v3⟩:=Vl ns 1 45 mn (by omega) (by omega) (by omega)
 have e1:=Z6 vs
 obtain⟨rv,r1,r2⟩:=pick2 3 8 (ns.getD 2 0 / 1344)
 have hr:1<=1+ns.getD 2 0 / 56 % rv/\1+ns.getD 2 0 / 56 % rv<=8:=by rcases r2 with rfl | rfl<;>omega
 have hrv:0 < rv:=by rcases r2 with rfl | rfl<;>omega
 have hT:vs.length<=TOP:=by simp[TOP];omega
 have g0:∀r∈vs.map (λv=>((1+v % 9,v / 9):Int×Int)),(1<=r.1/\r.1<=9)/\0<=r.2/\r.2<=4:=by
  intro r hr
  obtain⟨v,hv,rfl⟩:=List.mem_map.mp hr
  have:=v1 v hv
  show (1<=1+v % 9/\1+v % 9<=9)/\0<=v / 9/\v / 9<=4
  omega
 simp at c2 hmn v3 r1
 by_cases hc:ns.getD 2 0 / 7 % 8=1
 ·have e2:=Vg (vs.map λv=>((1+v % 9,v / 9):Int×Int))
  have gd:∀r∈(vs.map λv=>((1+v % 9,v / 9):Int×Int)).map (λr=>((11 * r.1,r.2+4 * (if 0 < r.2 then 1 else 0)):Int×Int)),Good r:=by
   intro r hr
   obtain⟨u,hu,rfl⟩:=List.mem_map.mp hr
   have:=g0 u hu
   unfold Good
   show (1<=11 * u.1/\11 * u.1<=100)/\0<=u.2+4 * (if 0 < u.2 then 1 else 0)/\u.2+4 * (if 0 < u.2 then 1 else 0)<=8
   split<;>omega
  have tl:=jl _ gd
  refine⟨_,1+ns.getD 2 0 / 56 % rv,⟨gd,by simp;omega,hr.1,hr.2⟩,by simp at tl ⊢;omega,?_⟩
  generalize hA:vs.map (λv=>((1+v % 9,v / 9):Int×Int))=A at e1 e2 gd tl g0 ⊢
  generalize hA':A.map (λr=>((11 * r.1,r.2+4 * (if 0 < r.2 then 1 else 0)):Int×Int))=A' at e2 gd tl ⊢
  have hl:A.length<=TOP:=by rw[<-hA];simpa using hT
  simp at hc
  simp[wz,mir,stE,xp,vM,c2,zL,yn,hmn,v3,hT,e1,hc,hl,e2,r1,zL hrv,t2,hrD]
 ·have gd:∀r∈vs.map (λv=>((1+v % 9,v / 9):Int×Int)),Good r:=λr hr=>by
   have:=g0 r hr
   unfold Good
   omega
  have tl:=jl _ gd
  refine⟨_,1+ns.getD 2 0 / 56 % rv,⟨gd,by simp;omega,hr.1,hr.2⟩,by simp at tl ⊢;omega,?_⟩
  generalize hA:vs.map (λv=>((1+v % 9,v / 9):Int×Int))=A at e1 gd tl g0 ⊢
  simp at hc
  simp[wz,mir,stE,xp,vM,c2,zL,yn,hmn,v3,hT,e1,hc,r1,zL hrv,t2,hrD]
theorem QH (ns:List Int):∃b:Int,0<=b/\wr [.val (.scr ns)]=some (.val (.int b)):=by
 have c6:=w4 ns 6
 have pw:fPow (.int 10) (.int 5)=some (.int 100000):=by rw[JE];simp
 simp at c6
 by_cases hc:ns.getD 6 0 % 8=1
 ·refine⟨ns.getD 6 0 / 8 % 100001,Int.emod_nonneg _ (by omega),?_⟩
  simp at hc
  simp[wr,mir,stE,wS,vU,c6,zL,yn,hc,pw]
 ·refine⟨ns.getD 6 0 / 8 % 30,Int.emod_nonneg _ (by omega),?_⟩
  simp at hc
  simp[wr,mir,stE,wS,vU,c6,zL,yn,hc]
def nameK (c first:Int)(base:List Nat)(k:Nat):List Nat:=[sg ((first+(k:Int) / 36) % 26),sg ((c / 3+7 * (k:Int)) % 36)]++base.take (c / 108 % 7).toNat
theorem yt {n:Nat}(h:n<=1000):n<=TOP:=Nat.le_trans h (by decide)
theorem YB (c first:Int)(mv:Option En)(base:List Nat)(hb:base.length=7):∀(ks:List Nat)(acc:List Str)(a b:Option En),acc.length+ks.length<=900->∃(a' b':Option En),
  forD (.name 6) u9 (ks.map λ(k:Nat)=>D.int (0+(k:Int))) [some (.val (.int c)),mv,some (.val (.str SIGNS)),some (.val (.str (mk base))),some (.val (.int first)),some (.acc (acc.map D.str)),a,b]
   = some (.next [some (.val (.int c)),mv,some (.val (.str SIGNS)),some (.val (.str (mk base))),some (.val (.int first)),some (.acc ((acc++ks.map λk=>mk (nameK c first base k)).map D.str)),a',b'])
 | [],acc,a,b,_=>⟨a,b,by simp⟩
 |k::ks,acc,a,b,hl=>by
  simp only[List.length_cons] at hl
  have e1:=ju (a:=(first+(k:Int) / 36) % 26) (Int.emod_nonneg _ (by omega)) (by have:=Int.emod_lt_of_pos (first+(k:Int) / 36) (show (0:Int) < 26 by omega);omega)
  have e2:=ju (a:=(c / 3+7 * (k:Int)) % 36) (Int.emod_nonneg _ (by omega)) (Int.emod_lt_of_pos _ (by omega))
  have e3:Txt.slice (mk base) none (some (c / 108 % 7))=mk (base.take (c / 108 % 7).toNat):=YL (Int.emod_nonneg _ (by omega)) (by have:=Int.emod_lt_of_pos (c / 108) (show (0:Int) < 7 by omega);omega)
  obtain⟨a',b',o3⟩:=YB c first mv base hb ks (acc++[mk (nameK c first base k)]) (some (.val (.int (0+(k:Int))))) (some (.val (.str (mk [sg ((first+(k:Int) / 36) % 26),sg ((c / 3+7 * (k:Int)) % 36)])))) (by simp;omega)
  refine⟨a',b',?_⟩
  simp only[List.map_cons]
  rw[List.append_assoc] at o3
  simp only[List.cons_append,List.nil_append] at o3
  rw[<-o3]
  have hT:acc.length<=TOP:=yt (by omega)
  have hmk1:mk [sg ((first+(k:Int) / 36) % 26)]++mk [sg ((c / 3+7 * (k:Int)) % 36)]=mk [sg ((first+(k:Int) / 36) % 26),sg ((c / 3+7 * (k:Int)) % 36)]:=qr _ _
  have hmk2:mk [sg ((first+(k:Int) / 36) % 26),sg ((c / 3+7 * (k:Int)) % 36)]++mk (base.take (c / 108 % 7).toNat)=mk (nameK c first base k):=qr _ _
  have l1:1+1<=TOP:=by decide
  have l2:2+(base.take (c / 108 % 7).toNat).length<=TOP:=yt (by rw[List.length_take];omega)
  have l2':2+min (c / 108 % 7).toNat 7<=TOP:=yt (by omega)
  have l3:base.length<=TOP:=yt (by omega)
  have l4:7<=TOP:=by decide
  have m7:fMul (.int 7) (.int (k:Int))=some (.int (7 * (k:Int))):=j0 (by decide) (by decide)
  simp[u9,zL,yn,m7,e1,e2,e3,wU,hb,l1,l2,l2',l4,t2,hmk1,hmk2,hT]
theorem GL {c first:Int}{base:List Nat}{k:Nat}(hb:base.length=7)(hs:∀d∈base,d∈S36):NameOk (mk (nameK c first base k)):=by
 refine⟨_,_,rfl,Yj (Int.emod_nonneg _ (by omega)) (Int.emod_lt_of_pos _ (by omega)),λd hd=>?_,?_⟩
 ·rcases List.mem_cons.mp hd with rfl | hd
  ·exact Yi (Int.emod_nonneg _ (by omega)) (Int.emod_lt_of_pos _ (by omega))
  ·exact hs d (List.mem_of_mem_take hd)
 ·show (sg _::base.take _).length<=7
  rw[List.length_cons,List.length_take]
  have:=Int.emod_lt_of_pos (c / 108) (show (0:Int) < 7 by omega)
  omega
theorem RE {c first:Int}{base:List Nat}{k k':Nat}(hk:k < 60)(hk':k' < 60)(e:mk (nameK c first base k)=mk (nameK c first base k')):k=k':=by
 have e:=uY e
 unfold nameK at e
 simp only[List.cons_append,List.nil_append,List.cons.injEq] at e
 have h1:=YE (Int.emod_nonneg _ (by omega)) (by have:=Int.emod_lt_of_pos (first+(k:Int) / 36) (show (0:Int) < 26 by omega);omega) (Int.emod_nonneg _ (by omega)) (by have:=Int.emod_lt_of_pos (first+(k':Int) / 36) (show (0:Int) < 26 by omega);omega) e.1
 have h2:=YE (Int.emod_nonneg _ (by omega)) (Int.emod_lt_of_pos _ (by omega)) (Int.emod_nonneg _ (by omega)) (Int.emod_lt_of_pos _ (by omega)) e.2.1
 omega
theorem uL {α:Type}{g:Nat->α}{n:Nat}(h:∀a b,a < n->b < n->g a=g b->a=b):((List.range n).map g).Nodup:=by
 unfold List.Nodup
 rw[List.pairwise_map]
 refine List.Pairwise.imp_of_mem (R:=(· < ·)) (fun {a b} ha hb hab e=>?_) List.pairwise_lt_range
 have:=h a b (List.mem_range.mp ha) (List.mem_range.mp hb) e
 omega
theorem Ws (c:Int)(many:Nat)(hm:many<=60):∃xs:List Str,(∀x∈xs,NameOk x)/\xs.Nodup/\xs.length=many/\yz [.val (.int c),.val (.int many)]=some (.acc (xs.map D.str)):=by
 have hst:=V9 c
 obtain⟨z8,h8⟩:=hst 8
 obtain⟨base,y1,y2,y3⟩:=Y5 (f:=λn=>D.str (mk [n])) (e:=jL) (ρ0:=[none,some (.val (.str SIGNS)),some (.val (.int c))]) (λn=>n∈S36) (rngD 0 7) (by
  intro k hk
  obtain⟨i,hi,rfl⟩:=Q0 hk
  obtain⟨z,hz⟩:=hst (0+(i:Int))
  have ec:=ju (a:=z % 36) (Int.emod_nonneg _ (by omega)) (Int.emod_lt_of_pos _ (by omega))
  refine⟨sg (z % 36),Yi (Int.emod_nonneg _ (by omega)) (Int.emod_lt_of_pos _ (by omega)),?_⟩
  simp at hz
  simp[jL,hz,zL,ec])
 rw[yP] at y1
 have ej:asSs (base.map λn=>D.str (mk [n]))=some (base.map λn=>mk [n]):=by
  have:=Zu (base.map λn=>mk [n])
  rw[List.map_map] at this
  exact this
 have ejj:Txt.join "" (base.map λn=>mk [n])=mk base:=by
  have:=R8 (base.map λn=>[n])
  rw[List.map_map] at this
  have e2:(base.map λn=>[n]).flatten=base:=by
   have:∀l:List Nat,(l.map λn=>[n]).flatten=l:=by
    intro l
    induction l with
    |nil=>rfl
    |cons a l ih=>simpa using ih
   exact this base
  rw[e2] at this
  exact this
 have hsum:((base.map λn=>mk [n]).map (·.length)).sum+(base.map λn=>mk [n]).length * ("" : Str).length<=TOP:=by
  have:∀l:List Nat,((l.map λn=>mk [n]).map (·.length)).sum=l.length:=by
   intro l
   induction l with
   |nil=>rfl
   |cons a l ih=>simp only[List.map_cons,List.sum_cons,ih,wU,List.length_cons,List.length_nil];omega
  rw[this,str0];exact yt (by omega)
 have hsum':=hsum
 simp only[List.map_map,List.length_map] at hsum'
 have hB:-BIG<=(many:Int)/\(many:Int)<=BIG:=by unfold BIG;omega
 have b7:-BIG<=(7:Int)/\(7:Int)<=BIG:=by unfold BIG;omega
 have t7:7<=TOP:=by decide
 have hpre:∀g:SD,thenB (some (Fl.next [some (.val (.int c)),some (.val (.int (many:Int))),some (.val (.str SIGNS)),some (.val (.str (mk base))),some (.val (.int (z8 % 26))),none,none,none])) g=g [some (.val (.int c)),some (.val (.int (many:Int))),some (.val (.str SIGNS)),some (.val (.str (mk base))),some (.val (.int (z8 % 26))),none,none,none]:=λg=>rfl
 have hcomp:compD (.name 0) tYes jL [none,some (.val (.str SIGNS)),some (.val (.int c))] (rngD 0 7)=some (base.map λn=>D.str (mk [n])):=y3
 by_cases hc:c % 3=0/\(many:Int) < 9
 ·refine⟨(List.range many).map λk=>mk (sg (z8 % 26)::base.take k),λx hx=>?_,?_,by simp,?_⟩
  ·obtain⟨k,hk,rfl⟩:=List.mem_map.mp hx
   refine⟨_,_,rfl,Yj (Int.emod_nonneg _ (by omega)) (Int.emod_lt_of_pos _ (by omega)),λd hd=>y2 d (List.mem_of_mem_take hd),by rw[List.length_take];omega⟩
  ·apply uL
   intro a b ha hb e
   have e:=uY e
   have e:=congrArg List.length e
   simp only[List.length_cons,List.length_take] at e
   omega
  ·have ec:=ju (a:=z8 % 26) (Int.emod_nonneg _ (by omega)) (by have:=Int.emod_lt_of_pos z8 (show (0:Int) < 26 by omega);omega)
   have hcp:∀ks:List Nat,(∀k∈ks,k < 8)->compD (.name 0) tYes kB [none,some (.val (.str SIGNS)),some (.val (.int (z8 % 26))),some (.val (.str (mk base)))] (ks.map λ(k:Nat)=>D.int (0+(k:Int)))=some ((ks.map λk=>mk (sg (z8 % 26)::base.take k)).map D.str):=by
    intro ks
    induction ks with
    |nil=>intro _;simp
    |cons k ks ih=>
     intro h
     have ih:=ih λk' hk'=>h k' (by simp[hk'])
     have hk:=h k (by simp)
     have e3:Txt.slice (mk base) none (some ((k:Nat):Int))=mk (base.take k):=by
      have:=YL (l:=base) (k:=(k:Int)) (by omega) (by omega)
      simpa using this
     have hmk:mk [sg (z8 % 26)]++mk (base.take k)=mk (sg (z8 % 26)::base.take k):=qr _ _
     have l2:1+(base.take k).length<=TOP:=yt (by rw[List.length_take];omega)
     have l2':1+min k 7<=TOP:=yt (by omega)
     simp only[List.map_cons,yw,ih]
     simp[kB,ec,e3,wU,y1,t7,l2,l2',hmk]
   have hcp:=hcp (List.range many) (λk hk=>by have:=List.mem_range.mp hk;omega)
   rw[<-wF 0 many] at hcp
   have ht:many<=TOP:=yt (by omega)
   generalize (List.range many).map (λk=>mk (sg (z8 % 26)::base.take k))=xs at hcp ⊢
   simp only[SIGNS] at hcomp hcp
   simp[yz,mir,stE,xC,jO,hcomp,ej,ejj,hsum',h8,zL,hc,hB,b7,hcp,yP,t7,ht]
 ·refine⟨(List.range many).map λk=>mk (nameK c (z8 % 26) base k),λx hx=>?_,?_,by simp,?_⟩
  ·obtain⟨k,hk,rfl⟩:=List.mem_map.mp hx
   exact GL y1 y2
  ·apply uL
   intro a b ha hb e
   exact RE (by omega) (by omega) e
  ·obtain⟨a',b',o3⟩:=YB c (z8 % 26) (some (.val (.int (many:Int)))) base y1 (List.range many) [] none none (by simp;omega)
   rw[<-wF 0 many,List.nil_append] at o3
   generalize (List.range many).map (λk=>mk (nameK c (z8 % 26) base k))=xs at o3 ⊢
   simp only[SIGNS] at hcomp o3
   simp only[List.map_nil] at o3
   simp[yz,mir,stE,xC,jO,hcomp,ej,ejj,hsum',h8,zL,hB,b7,t7,yP]
   by_cases h0:c % 3=0
   ·have h9:¬(many:Int) < 9:=λz=>hc ⟨h0,z⟩
    simp[h0,h9,hB,o3]
   ·simp[h0,hB,o3]
structure Q2 (q:List (Str×Int)):Prop where
 pos:PosQ q
 le:∀t∈q,t.2<=20
 nam:∀t∈q,NameOk t.1
 nd:(nms q).Nodup
 len:q.length<=60
theorem Q2.ok {q:List (Str×Int)}(h:Q2 q):∀t∈q,Ok t.1:=λt ht=>(h.nam t ht).ok
theorem Q2.sum {q:List (Str×Int)}(h:Q2 q):sumQ q<=1200:=JL q h.len h.le
theorem VS (ns:List Int)(size:Int)(many:Nat)(h1:0 < size)(h2:size<=20)(hm:many<=60):∃(q:List (Str×Int))(vs:List Int)(xs:List Str),Q2 q/\q.length=many /\
  yR [.val (.scr ns),.val (.int 4),.val (.int size),.val (.int many)]=some (.acc (vs.map D.int))/\yz [.val (.int (ns.getD 5 0)),.val (.int many)]=some (.acc (xs.map D.str)) /\
  compD (.name 0) tYes vS [none,some (.val (.lst (xs.map D.str))),some (.val (.lst (vs.map D.int)))] (rngD 0 many)=some (q.map tkD):=by
 obtain⟨vs,v1,v2,v3⟩:=Vl ns 4 size many h1 (by omega) (by omega)
 obtain⟨xs,x1,xn,x2,x3⟩:=Ws (ns.getD 5 0) many hm
 have hcp:∀ks:List Nat,(∀k∈ks,k < many)->compD (.name 0) tYes vS [none,some (.val (.lst (xs.map D.str))),some (.val (.lst (vs.map D.int)))] (ks.map λ(k:Nat)=>D.int (0+(k:Int)))=some ((ks.map λk=>(xs.getD k Str.empty,1+vs.getD k 0)).map tkD):=by
  intro ks
  induction ks with
  |nil=>intro _;simp
  |cons k ks ih=>
   intro h
   have ih:=ih λk' hk'=>h k' (by simp[hk'])
   have hk:=h k (by simp)
   have hx:xs[k]?=some (xs.getD k Str.empty):=by rw[List.getD_eq_getElem?_getD,List.getElem?_eq_getElem (by omega)];rfl
   have hv:vs[k]?=some (vs.getD k 0):=by rw[List.getD_eq_getElem?_getD,List.getElem?_eq_getElem (by omega)];rfl
   have ax:atI (xs.map D.str) (k:Int)=some (.str (xs.getD k Str.empty)):=yr k (by rw[List.getElem?_map,hx];rfl)
   have av:atI (vs.map D.int) (k:Int)=some (.int (vs.getD k 0)):=yr k (by rw[List.getElem?_map,hv];rfl)
   simp only[List.map_cons,yw,ih]
   generalize xs.getD k Str.empty=X at ax ⊢
   generalize vs.getD k 0=Y at av ⊢
   simp[vS,ax,av,tkD,t2]
 have hcp:=hcp (List.range many) (λk hk=>List.mem_range.mp hk)
 rw[<-wF 0 many] at hcp
 have gx:∀k,k < many->xs.getD k Str.empty∈xs:=λk hk=>by
  rw[List.getD_eq_getElem?_getD,List.getElem?_eq_getElem (by omega)];exact List.getElem_mem _
 have gv:∀k,k < many->vs.getD k 0∈vs:=λk hk=>by
  rw[List.getD_eq_getElem?_getD,List.getElem?_eq_getElem (by omega)];exact List.getElem_mem _
 refine⟨_,vs,xs,⟨?_,?_,?_,?_,by simp;omega⟩,by simp,by simpa using v3,x3,hcp⟩
 ·intro t ht
  obtain⟨k,hk,rfl⟩:=List.mem_map.mp ht
  have:=v1 _ (gv k (List.mem_range.mp hk))
  show 1<=1+vs.getD k 0
  omega
 ·intro t ht
  obtain⟨k,hk,rfl⟩:=List.mem_map.mp ht
  have:=v1 _ (gv k (List.mem_range.mp hk))
  show 1+vs.getD k 0<=20
  omega
 ·intro t ht
  obtain⟨k,hk,rfl⟩:=List.mem_map.mp ht
  exact x1 _ (gx k (List.mem_range.mp hk))
 ·unfold nms
  rw[List.map_map]
  apply uL
  intro a b ha hb e
  have e:xs.getD a Str.empty=xs.getD b Str.empty:=e
  rw[List.getD_eq_getElem?_getD,List.getD_eq_getElem?_getD,List.getElem?_eq_getElem (show a < xs.length by omega),List.getElem?_eq_getElem (show b < xs.length by omega)] at e
  exact (List.getElem_inj xn).mp e
theorem Ku (ns:List Int):∃q:List (Str×Int),Q2 q/\wg [.val (.scr ns)]=some (.acc (q.map tkD)):=by
 have c3:=w4 ns 3
 have c5:=w4 ns 5
 obtain⟨sz,s1,s2⟩:=pick2 6 20 (ns.getD 3 0 / 144)
 have hs1:0 < sz:=by rcases s2 with rfl | rfl<;>omega
 have hs2:sz<=20:=by rcases s2 with rfl | rfl<;>omega
 simp at c3 c5
 by_cases hc:ns.getD 3 0 / 9 % 16=1
 ·obtain⟨q,vs,xs,g,ql,r1,r2,r3⟩:=VS ns 3 60 (by omega) (by omega) (by omega)
  refine⟨q,g,?_⟩
  have hB:-BIG<=(60:Int)/\(60:Int)<=BIG:=by unfold BIG;omega
  have ht:60<=TOP:=by decide
  simp at r1 r2 r3 s1 hc
  simp[wg,mir,stE,wq,jN,c3,c5,zL,yn,s1,hc,r1,r2,r3,hB,yP,ht,t2]
 ·have hm:0<=ns.getD 3 0 % 9:=Int.emod_nonneg _ (by omega)
  have hm2:ns.getD 3 0 % 9 < 9:=Int.emod_lt_of_pos _ (by omega)
  obtain⟨mn,hmn⟩:∃mn:Nat,ns.getD 3 0 % 9=(mn:Int):=⟨(ns.getD 3 0 % 9).toNat,by omega⟩
  obtain⟨q,vs,xs,g,ql,r1,r2,r3⟩:=VS ns sz mn hs1 hs2 (by omega)
  refine⟨q,g,?_⟩
  have hB:-BIG<=(mn:Int)/\(mn:Int)<=BIG:=by unfold BIG;omega
  have ht:mn<=TOP:=by simp[TOP];omega
  simp at r1 r2 r3 s1 hc hmn
  simp[wg,mir,stE,wq,jN,c3,c5,zL,yn,s1,hc,hmn,r1,r2,r3,hB,yP,ht,t2]
structure HOk (rest:Int)(ks:List HM.Row):Prop where
 pos:Pos ks
 lo:1<=rest
 tot:total ks<=2000
theorem HOk.nn {rest:Int}{ks:List HM.Row}(h:HOk rest ks)(x:Int):0<=atR rest ks x:=jJ ks x (λr hr=>(h.pos r hr).2) (by have:=h.lo;omega)
theorem ZP (C:Addr){rest:Int}{ks:List HM.Row}(F:HOk rest ks)(b0:Int)(X0 X3:Option En):∀(n:Nat)(q:List (Str×Int))(W:En)(acc:List (Int×List Str))(a b:Option En),(W=.val (.lst (q.map tkD))∨W=.acc (q.map tkD))->PosQ q->(∀t∈q,Ok t.1)->q.length<=100->sumQ q+(total ks - (b0+acc.length)).toNat<=n->acc.length+n<=5000 ->
  ∃(out:List (Int×List Str)) (v4 v6 v7:Option En),((∀r∈out,(∀y∈r.2,Ok y)/\r.2.length<=100)/\Run (atR rest ks) (b0+acc.length) q out/\out.length<=n) /\
   whileD (gt (gr 4)) (j4 C) (n+1) [X0,some (.val (hoursD C rest ks)),some (.val (.int b0)),X3,some W,some (.tre (rowsT acc)),a,b]
    = some (.next [X0,some (.val (hoursD C rest ks)),some (.val (.int b0)),X3,v4,some (.tre (rowsT (acc++out))),v6,v7])
 |n,q,W,acc,a,b,hW,hp,ho,hl,hs,ha=>by
  by_cases hq:q=[]
  ·subst hq
   refine⟨[],some W,a,b,⟨by simp,.nil _,by simp⟩,?_⟩
   rw[wP]
   ·simp
   ·rcases hW with rfl | rfl<;>simp
  ·have hql:1<=q.length:=by cases q with | nil=>exact (hq rfl).elim | cons=>simp
   have hn:=F.nn (b0+acc.length)
   have e1:=VM C (rest:=rest) (x:=b0+(acc.length:Int)) (ks:=ks) F.pos
   have hsum:=Zy (m:=(atR rest ks (b0+acc.length)).toNat) hp
   have hdec:sumQ (beh (atR rest ks (b0+acc.length)).toNat q)+(total ks - (b0+acc.length+1)).toNat+1<=n:=by
    by_cases hx:b0+acc.length < total ks
    ·omega
    ·have:=ub (rest:=rest) ks (b0+acc.length) (by omega) F.pos
     have h1:=F.lo
     rw[this] at hsum ⊢
     omega
   have hb:=jz (m:=(atR rest ks (b0+acc.length)).toNat) (q:=q)
   match n,hs,ha,hdec with
   |n+1,hs,ha,hdec=>
    have el:b0+(((acc++[(b0+(acc.length:Int),srv (atR rest ks (b0+acc.length)).toNat q)]).length:Nat):Int)=b0+acc.length+1:=by simp;omega
    obtain⟨out,v4,v6,v7,⟨o1,o1r,o1l⟩,o2⟩:=ZP C F b0 X0 X3 n (beh (atR rest ks (b0+acc.length)).toNat q) (.acc ((beh (atR rest ks (b0+acc.length)).toNat q).map tkD)) (acc++[(b0+acc.length,srv (atR rest ks (b0+acc.length)).toNat q)]) (some (.val (.int (b0+acc.length)))) none (.inr rfl) (V6 hp) (ku Ok ho) (by omega) (by rw[el];omega) (by simp;omega)
    rw[el] at o1r
    refine⟨(b0+acc.length,srv (atR rest ks (b0+acc.length)).toNat q)::out,v4,v6,v7,⟨?_,.cons hq o1r,by simp;omega⟩,?_⟩
    ·intro r hr
     rcases List.mem_cons.mp hr with rfl | hr
     ·refine⟨λy hy=>?_,?_⟩
      ·obtain⟨t,ht,rfl⟩:=List.mem_map.mp hy
       exact ho t (List.mem_of_mem_take ht)
      ·show (srv (atR rest ks (b0+acc.length)).toNat q).length<=100
       unfold srv
       rw[List.length_map,List.length_take];omega
     ·exact o1 r hr
    ·have hT:acc.length<=TOP:=by simp[TOP];omega
     have er:(OT.lst (acc.map rnT)).erase=.lst (acc.map rnD):=jU acc
     have g0:=Wq (ns:=srv (atR rest ks (b0+acc.length)).toNat q) (q:=beh (atR rest ks (b0+acc.length)).toNat q)
     have g1:=Y4 (ns:=srv (atR rest ks (b0+acc.length)).toNat q) (q:=beh (atR rest ks (b0+acc.length)).toNat q)
     have ets:yy [(match W with | .acc ds=>.bor ds | w=>w),.val (.int (atR rest ks (b0+acc.length)))]=some (.tre (srvT (srv (atR rest ks (b0+acc.length)).toNat q) (beh (atR rest ks (b0+acc.length)).toNat q))):=by
      rcases hW with rfl | rfl
      ·exact uE (.inl rfl) (by omega) hn
      ·exact uE (.inr rfl) (by omega) hn
     have eo:rowsT (acc++(b0+acc.length,srv (atR rest ks (b0+acc.length)).toNat q)::out)=rowsT ((acc++[(b0+acc.length,srv (atR rest ks (b0+acc.length)).toNat q)])++out):=by simp
     rw[eo,<-o2]
     generalize srvT (srv (atR rest ks (b0+acc.length)).toNat q) (beh (atR rest ks (b0+acc.length)).toNat q)=T at ets g0 g1
     refine jZ ?_ ?_
     ·rcases hW with rfl | rfl<;>simp[hq]
     ·simp[hoursD] at e1
      rcases hW with rfl | rfl
      ·simp at ets
       simp[j4,hoursD,kW,e1,ets,er,g0,g1,rowsT,hT,rnT]
      ·simp at ets
       simp[j4,hoursD,kW,e1,ets,er,g0,g1,rowsT,hT,rnT]
theorem Jv (C:Addr){rest:Int}{ks:List HM.Row}(F:HOk rest ks){b0:Int}(hb:0<=b0){q:SI}(hp:PosQ q)(ho:∀t∈q,Ok t.1)(hl:q.length<=60)(hs:sumQ q<=1200) :
  ∃out:List (Int×List Str),(∀r∈out,(∀y∈r.2,Ok y)/\r.2.length<=100)/\Run (atR rest ks) b0 q out/\out.length<=5000 /\
   yf C [.val (.lst (q.map tkD)),.val (hoursD C rest ks),.val (.int b0),.val .non]=some (.tre (rowsT out)):=by
 have ht:=F.tot
 obtain⟨out,v4,v6,v7,⟨o1,o1r,o1l⟩,o2⟩:=ZP C F b0 (some (.val (.lst (q.map tkD)))) (some (.val .non)) (sumQ q+(total ks - b0).toNat) q (.val (.lst (q.map tkD))) [] none none (.inl rfl) hp ho (by omega) (by simp) (by simp;omega)
 refine⟨out,o1,by simpa using o1r,by omega,?_⟩
 have o3:=qK o2
 simp[rowsT] at o3
 have l0:(lfs []:List OT)=[]:=rfl
 simp[yf,mir,stE,jp,ug,l0,o3,rowsT]
theorem Wi (X0 X3:Option En)(v:Int):∀(xs:List Str)(d:SI)(a:Option En),d.length+xs.length<=1000000->∃a':Option En,
  forD (.name 4) uh (xs.map D.str) [X0,some (.dct none (kv d)),some (.val (.int v)),X3,a]=some (.next [X0,some (.dct none (kv (xs.foldl (λd n=>putS d n v) d))),some (.val (.int v)),X3,a'])
 | [],d,a,_=>⟨a,by simp⟩
 |x::xs,d,a,hl=>by
  simp only[List.length_cons] at hl
  have hz:(kv d).length < sizeLine:=by rw[VJ,sizeLine_eq];omega
  have hp:=Vb x v d
  have h2:=qY x v d
  obtain⟨a',p⟩:=Wi X0 X3 v xs (putS d x v) (some (.val (.str x))) (by omega)
  refine⟨a',?_⟩
  rw[List.foldl_cons,<-p]
  simp[uh,hz,hp]
theorem uX (v:Int):∀(xs:List Str)(d:SI),(xs.foldl (λd n=>putS d n v) d).length<=d.length+xs.length
 | [],d=>by simp
 |x::xs,d=>by
  have h1:=uX v xs (putS d x v)
  have h2:=qY x v d
  simp only[List.foldl_cons,List.length_cons]
  omega
theorem Z0 (X0:Option En):∀(rows:List (Int×List Str))(d:SI)(a b c:Option En),(∀r∈rows,r.2.length<=100)->d.length+100 * rows.length<=1000000->∃a' b' c':Option En,
  forD (.tup [2,3]) uw (rows.map rnD) [X0,some (.dct none (kv d)),a,b,c]=some (.next [X0,some (.dct none (kv (endsS d rows))),a',b',c'])
 | [],d,a,b,c,_,_=>⟨a,b,c,by simp[endsS]⟩
 |r::rows,d,a,b,c,h,hl=>by
  simp only[List.length_cons] at hl
  have hr:=h r List.mem_cons_self
  obtain⟨c1,p1⟩:=Wi X0 (some (.val (.lst (r.2.map D.str)))) r.1 r.2 d c (by omega)
  have h2:=uX r.1 r.2 d
  obtain⟨a',b',c',p⟩:=Z0 X0 rows (r.2.foldl (λd n=>putS d n r.1) d) (some (.val (.int r.1))) (some (.val (.lst (r.2.map D.str)))) c1 (λu hu=>h u (List.mem_cons_of_mem _ hu)) (by omega)
  refine⟨a',b',c',?_⟩
  rw[show endsS d (r::rows)=endsS (r.2.foldl (λd n=>putS d n r.1) d) rows from rfl,<-p]
  simp[uw,rnD,asgD,yh,p1]
theorem Gd {rows:List (Int×List Str)}(h:∀r∈rows,r.2.length<=100)(hl:rows.length<=5000):vw [.val (.lst (rows.map rnD))]=some (.dct none (kv (endsS [] rows))):=by
 obtain⟨a',b',c',p⟩:=Z0 (some (.val (.lst (rows.map rnD)))) rows [] none none none h (by simp;omega)
 simp[kv] at p
 simp[vw,mir,stE,qe,qZ,p]
 rfl
theorem Ja (acc:List HM.Row)(r:HM.Row):total (kstep acc r)=total acc+r.1:=by
 rcases List.eq_nil_or_concat acc with rfl | ⟨pre,q,rfl⟩
 ·simp[kstep,total]
 ·rw[List.concat_eq_append]
  unfold kstep
  rw[List.getLast?_concat]
  simp only[List.dropLast_concat]
  split<;>simp[j6,total]<;>omega
theorem Zo:∀(rs acc:List HM.Row),total (rs.foldl kstep acc)=total acc+total rs
 | [],acc=>by simp[total]
 |r::rs,acc=>by rw[List.foldl_cons,Zo rs,Ja];simp only[total];omega
theorem QA {rest:Int}{rs:List HM.Row}(h:Pos rs):total (krows rest rs)<=total rs:=by
 have h1:=Zo rs []
 obtain⟨_,hp⟩:=xW (rest:=rest) (Φ:=λ_=>()) ⟨λ_ _ _ _ _ _ _ _ _=>rfl,λ_ _ _ _=>rfl⟩ rs [] Pos.nil h
 simp only[total,Int.zero_add] at h1
 unfold krows kend
 rcases List.eq_nil_or_concat (rs.foldl kstep []) with h0 | ⟨pre,q,h0⟩
 ·rw[h0] at h1 ⊢;simp[total] at h1 ⊢;omega
 ·rw[List.concat_eq_append] at h0
  rw[h0] at h1 hp ⊢
  rw[List.getLast?_concat]
  have hq:=(Pos.cons.mp (Pos.app.mp hp).2).1
  rw[j6] at h1
  simp only[total] at h1
  simp only[List.dropLast_concat]
  split
  ·omega
  ·rw[j6];simp only[total];omega
theorem Fit.hok {rs:List HM.Row}{rest:Int}(F:Fit rs rest):HOk rest (krows rest rs):=by
 refine⟨GJ rest rs F.pos,F.lo,?_⟩
 have h1:=QA (rest:=rest) F.pos
 have h2:=jl rs F.good
 have h3:=F.len
 omega
theorem Fit.at {rs:List HM.Row}{rest:Int}(F:Fit rs rest)(x:Int):atR rest (krows rest rs) x=atR rest rs x:=Ua (RN rest x) rs F.pos
end My
namespace My
open PySem PySem.Spec L2 L3 L4 L6 Dv HM QM
open PyProof.Rows hiding St
theorem GP:("abcdefghijklmnopqrstuvwxyz" : Str).length+("0123456789" : Str).length<=TOP:=by decide +kernel
theorem Y0:∀(l:List Nat),(∀d∈l,d∈S36)->compD (.name 0) tYes kP [none] (l.map λc=>D.str (mk [c]))=some (l.map λ_=>D.bl true)
 | [],_=>by simp
 |c::l,h=>by
  have ih:=Y0 l λd hd=>h d (by simp[hd])
  have e:=Jx (h c (by simp))
  simp only[List.map_cons,yw,ih]
  simp[kP,GP,e]
theorem uj {x:Str}(h:NameOk x):yG [.val (.str x)]=some (.val (.bl true)):=by
 obtain⟨c,cs,rfl,h1,h2,h3⟩:=h
 have e1:=Y0 (c::cs) (λd hd=>by
  rcases List.mem_cons.mp hd with rfl | hd
  ·exact List.mem_of_mem_take h1
  ·exact h2 d hd)
 have e2:=uc (c::cs)
 have e3:=WX (l:=c::cs) (a:=0) (yt (by simp only[List.length_cons];omega)) (by omega) (by simp only[List.length_cons];omega)
 have e3:fItem (.str (mk (c::cs))) (.int 0)=some (.str (mk [c])):=by simpa using e3
 have e4:=GD h1
 have l1:fLen [.str (mk (c::cs))]=some (.int ((cs.length+1:Nat):Int)):=by
  show (if (mk (c::cs)).length<=TOP then some (D.int (mk (c::cs)).length) else none)=_
  rw[wU,if_pos (yt (by simp;omega))];rfl
 have l2:(1:Int)<=((cs.length+1:Nat):Int):=by omega
 have l3:((cs.length+1:Nat):Int)<=8:=by omega
 have l4:cs.length+1<=TOP:=yt (by omega)
 have ss:subT "str" "str" = some true:=by decide
 rw[<-VC] at e1
 generalize hz:mk (c::cs)=z at *
 have lch:(chD z).length=cs.length+1:=by rw[<-hz,VC];simp
 simp only[List.map_cons] at e1 e2
 have ha:asBs (D.bl true::cs.map λ_=>D.bl true)=some (true::cs.map λ_=>true):=e2
 have l5:(1:Int)<=(cs.length:Int)+1:=by omega
 have l6:(cs.length:Int)+1<=8:=by omega
 simp[yG,mir,stE,W4,qV,ss,l1,e3,e4,lch,l4,l5,l6,e1,ha]
theorem eq_str {neg:Bool}{x y:Str}(hx:Ok x)(hy:Ok y):fEq neg (.str x) (.str y)=some (.bl (if neg then !decide (x=y) else decide (x=y))) :=
 wI (uB hx) (uB hy) (by decide) (by decide) (kU x y)
theorem Vi {n:Str}(hn:Ok n)(X0:Option En):∀(q:SI)(k:Nat)(a b:Option En),(∀t∈q,Ok t.1)->n∈nms q->∃j:Int,
  forD (.tup [2,3]) jI (enumD k (q.map tkD)) [X0,some (.val (.str n)),a,b]=some (.ret (.val (.int j)))
 | [],_,_,_,_,h=>by simp[nms] at h
 |t::q,k,a,b,ho,h=>by
  have i0:fItem (tkD t) (.int 0)=some (.str t.1):=by simp[tkD]
  have e:=eq_str (neg:=false) (ho t (by simp)) hn
  by_cases c:t.1=n
  ·refine⟨k,?_⟩
   simp[c] at e
   simp[enumD,jI,asgD,yh,i0,e,c]
  ·obtain⟨j,p⟩:=Vi hn X0 q (k+1) (some (.val (.int k))) (some (.val (tkD t))) (λu hu=>ho u (by simp[hu])) (by
    have:=h
    simp[nms] at this ⊢
    rcases this with z | z
    ·exact (c z.symm).elim
    ·exact z)
   refine⟨j,?_⟩
   rw[<-p]
   simp[c] at e
   simp[enumD,jI,asgD,yh,i0,e]
theorem J9 {q:SI}{n:Str}(ho:∀t∈q,Ok t.1)(hn:NameOk n)(h:n∈nms q):∃j:Int,vd [.val (.lst (q.map tkD)),.val (.str n)]=some (.val (.int j)):=by
 obtain⟨j,p⟩:=Vi hn.ok (some (.val (.lst (q.map tkD)))) q 0 none none ho h
 have e:=uj hn
 refine⟨j,?_⟩
 try simp at p
 simp[vd,mir,stE,xB,ko,e,p]
theorem sT:subT "tuple" "tuple" = some true:=by decide
theorem sL:subT "list" "list" = some true:=by decide
theorem sI:subT "int" "int" = some true:=by decide
theorem sIB:subT "int" "bool" = some false:=by decide
theorem WP (a:Int):xP [.val (.int a)]=some (.val (.bl true)):=by
 simp[xP,mir,stE,jX,uK,sI,sIB]
def showsL (v:Str)(turn:Int)(q':List (Str×Int))(rows:List (Int×List Str)):Bool:=match rows.getLast? with
 |none=>false
 |some r=>decide (r.1=turn)&&(decide (v∈r.2)&&!decide (v∈nms q'))
theorem Yg {f:Int->Int}:∀(rows:List (Int×List Str))(b:Int)(q q':List (Str×Int)),walk f b q rows=some q'->q'.length<=q.length
 | [],b,q,q',e=>by cases e;exact Nat.le_refl _
 |r::rows,b,q,q',e=>by
  simp only[walk] at e
  split at e
  ·cases e
  ·exact Nat.le_trans (Yg rows _ _ q' e) jz
theorem V5 (C:Addr){rest b0 turn:Int}{ks:List HM.Row}{q q':List (Str×Int)}{rows:List (Int×List Str)}{v:Str}(hP:Pos ks)(hk:∀r∈ks,0<=r.2)(hr:0<=rest)(ho:∀t∈q,Ok t.1)(hn:∀r∈rows,∀y∈r.2,Ok y)(hl:q.length<=500)(hv:NameOk v)(qw:walk (atR rest ks) b0 q rows=some q') :
  yd C [.val (.lst (q.map tkD)),.val (hoursD C rest ks),.val (.int b0),.val (.str v),.val (.int turn),.val (.lst (rows.map rnD))]=some (.val (.bl (showsL v turn q' rows))):=by
 have e1:=Qk C (rest:=rest) (b0:=b0) (ks:=ks) (q:=q) (rows:=rows) hP hk hr ho hn hl qw
 have e2:=uj hv
 unfold showsL
 have hl':=Yg rows b0 q q' qw
 have e3:=Vp (q:=q') (by omega)
 rcases List.eq_nil_or_concat rows with rfl | ⟨pre,r,rfl⟩
 ·simp at e1
  simp[yd,mir,stE,xJ,wt,e1]
 ·rw[List.concat_eq_append] at e1 ⊢
  rw[List.getLast?_concat]
  have ea:atI ((pre++[r]).map rnD) (-1)=some (.tup [.int r.1,.lst (r.2.map D.str)]):=by rw[List.map_append];exact vn
  have e4:fIn false (.str v) (.lst (r.2.map D.str))=some (.bl (decide (v∈r.2))):=qN
  have e5:fIn true (.str v) (.lst ((q'.map (·.1)).map D.str))=some (.bl (!decide (v∈q'.map (·.1)))):=qN
  have hne:(pre++[r]).map rnD≠[]:=by simp
  have hne2:((pre++[r]).map rnD).isEmpty=false:=by simp
  generalize (pre++[r]).map rnD=RS at e1 ea hne hne2 ⊢
  generalize (q'.map (·.1)).map D.str=NS at e3 e5
  show _=some (En.val (.bl (decide (r.1=turn)&&(decide (v∈r.2)&&!decide (v∈q'.map (·.1))))))
  generalize decide (v∈q'.map (·.1))=B2 at e5 ⊢
  by_cases h1:r.1=turn
  ·by_cases h2:v∈r.2
   ·simp[h2] at e4
    simp[yd,mir,stE,xJ,wt,e1,e2,e3,ea,e4,e5,h1,h2,hne]
   ·simp[h2] at e4
    simp[yd,mir,stE,xJ,wt,e1,e2,e3,ea,e4,e5,h1,h2,hne]
  ·simp[yd,mir,stE,xJ,wt,e1,ea,h1,hne]
theorem Zv {n:Str}(hn:Ok n)(X0:Option En):∀(q:SI)(k:Nat)(a b:Option En),(∀t∈q,Ok t.1)->n∉nms q->∃a' b':Option En,
  forD (.tup [2,3]) qx (enumD k (q.map tkD)) [X0,some (.val (.str n)),a,b]=some (.next [X0,some (.val (.str n)),a',b'])
 | [],_,a,b,_,_=>⟨a,b,by simp[enumD]⟩
 |t::q,k,a,b,ho,h=>by
  have i0:fItem (tkD t) (.int 0)=some (.str t.1):=by simp[tkD]
  have e:=eq_str (neg:=false) (ho t (by simp)) hn
  have c:¬t.1=n:=λz=>h (by simp[nms,z])
  obtain⟨a',b',p⟩:=Zv hn X0 q (k+1) (some (.val (.int k))) (some (.val (tkD t))) (λu hu=>ho u (by simp[hu])) (λz=>h (by
   simp[nms] at z ⊢
   exact .inr z))
  refine⟨a',b',?_⟩
  rw[<-p]
  simp[c] at e
  simp[enumD,qx,asgD,yh,i0,e]
theorem Qh {q:SI}{n:Str}(ho:∀t∈q,Ok t.1)(hn:NameOk n)(h:n∉nms q):wT [.val (.lst (q.map tkD)),.val (.str n)]=some (.str n):=by
 obtain⟨a',b',p⟩:=Zv hn.ok (some (.val (.lst (q.map tkD)))) q 0 none none ho h
 have e:=uj hn
 try simp at p
 simp[wT,mirX,stE,xB,kK,bSeq,e,p]
section
variable (C:Addr){rest:Int}{ks:List HM.Row}{b0 L:Int}{q:SI}{out:List (Int×List Str)}{n:Str}{H:D}
theorem WT (ho:∀t∈q,Ok t.1)(hn:NameOk n)(h:n∉nms q):xg [.val (.lst (q.map tkD)),.val H,.val (.int b0),.val (.str n)]=some (.str n):=by
 have p:=Qh ho hn h
 simp[xg,mirX,stE,xr,u6,bCall,p]
theorem JC (ho:∀t∈q,Ok t.1)(hn:NameOk n)(h:n∉nms q):vp [.val (.lst (q.map tkD)),.val H,.val (.int b0),.val (.str n)]=some (.str n):=by
 have p:=WT (b0:=b0) (H:=H) ho hn h
 simp[vp,mirX,stE,yZ,kA,bCall,p]
theorem WV (o1:∀r∈out,(∀y∈r.2,Ok y)/\r.2.length<=100)(o2:out.length<=5000)(o3:yf C [.val (.lst (q.map tkD)),.val (hoursD C rest ks),.val (.int b0),.val .non]=some (.tre (rowsT out))) :
  yF C [.val (.lst (q.map tkD)),.val (hoursD C rest ks),.val (.int b0)]=some (.dct none (kv (endsS [] out))):=by
 have e:=Gd (rows:=out) (λr hr=>(o1 r hr).2) o2
 simp[yF,mir,stE,w6,u5,o3,jU,e]
theorem Qz (o2:out.length<=5000)(o3:yf C [.val (.lst (q.map tkD)),.val (hoursD C rest ks),.val (.int b0),.val .non]=some (.tre (rowsT out))) :
  vh C [.val (.lst (q.map tkD)),.val (hoursD C rest ks),.val (.int b0)]=some (.val (.int (b0+out.length - 1))):=by
 have hT:out.length<=TOP:=by simp[TOP];omega
 simp[vh,mir,stE,Vh,kd,o3,jU,hT]
theorem Jt (ho:∀t∈q,Ok t.1)(hn:NameOk n)(h:n∈nms q)(e:yF C [.val (.lst (q.map tkD)),.val (hoursD C rest ks),.val (.int b0)]=some (.dct none (kv (endsS [] out))))(hL:lookS (endsS [] out) n=some L) :
  yA C [.val (.lst (q.map tkD)),.val (hoursD C rest ks),.val (.int b0),.val (.str n)]=some (.val (.int L)):=by
 obtain⟨j,p⟩:=J9 ho hn h
 have hk:=qJ n (endsS [] out)
 rw[hL] at hk
 simp at hk
 simp[yA,mir,stE,xr,uQ,p,e,hk]
theorem Ze (L:Int):∀(rows:List (Int×List Str)),filtO (gb' (g2 fLe (g2 fItem (gr 0) (gc (.int 0))) (gr 1))) [none,some (.val (.int L))] (rows.map rnT)=some ((rowsTo L rows).map rnT)
 | []=>by simp[rowsTo,filtO]
 |r::rows=>by
  have ih:=Ze L rows
  have i0:fItem (rnD r) (.int 0)=some (.int r.1):=by simp[rnD]
  simp only[List.map_cons,filtO,ih,YH]
  by_cases h:r.1<=L
  ·have:rowsTo L (r::rows)=r::rowsTo L rows:=by simp[rowsTo,h]
   rw[this]
   simp[i0,h]
  ·have:rowsTo L (r::rows)=rowsTo L rows:=by simp[rowsTo,h]
   rw[this]
   simp[i0,h]
theorem Kq (o2:out.length<=5000)(e:yA C [.val (.lst (q.map tkD)),.val (hoursD C rest ks),.val (.int b0),.val (.str n)]=some (.val (.int L)))
  (o3:yf C [.val (.lst (q.map tkD)),.val (hoursD C rest ks),.val (.int b0),.val .non]=some (.tre (rowsT out))) :
  xx C [.val (.lst (q.map tkD)),.val (hoursD C rest ks),.val (.int b0),.val (.str n)]=some (.tre (rowsT (rowsTo L out))):=by
 have c:=Ze L out
 have hT:out.length<=TOP:=by simp[TOP];omega
 simp[xx,mir,stE,yZ,ut,e,o3,gFilt,rowsT,hT,capE,capO,c]
theorem Qm (ho:∀t∈q,Ok t.1)(hn:NameOk n)(hl:q.length<=60)(h:n∉nms q):xq [.val (.lst (q.map tkD)),.val H,.val (.int b0),.val (.str n)]=some (.val (.bl true)):=by
 have x1:=WT (b0:=b0) (H:=H) ho hn h
 have x2:=JC (b0:=b0) (H:=H) ho hn h
 have hT:q.length<=TOP:=by simp[TOP];omega
 have hB:-BIG<=(2:Int)/\(2:Int)<=BIG:=by unfold BIG;omega
 have h1:1<=TOP:=by decide
 have hE:fEq false (.lst [.bl true,.bl true]) (.lst [.bl true,.bl true])=some (.bl true):=by first | rfl | decide +kernel
 simp[xq,mir,stE,vN,qp,rngD,WK,hB,forD,sTryA,bIf,bCall,x1,x2,hT,gv,asgD,h1,hE,t2]
end
theorem WY {α β:Type}(f:α->β)(xs:List α)(l h:Option Int):∃A:List α,cutD (xs.map f) l h=A.map f/\A.length<=xs.length/\∀a∈A,a∈xs:=by
 refine⟨cutD xs l h,Zh,?_,λa ha=>?_⟩
 ·unfold Dv.cutD;simp;omega
 ·unfold Dv.cutD at ha
  exact List.mem_of_mem_drop (List.mem_of_mem_take ha)
theorem vk {t:Tgt}{s:SD}{I:EnvD->Prop}:∀(ds:List D),(∀d∈ds,∀ρ,I ρ->∃ρ1 ρ2,asgD t d ρ=some ρ1/\s ρ1=some (.next ρ2)/\I ρ2)->∀ρ,I ρ->∃ρ',forD t s ds ρ=some (.next ρ')/\I ρ'
 | [],_,ρ,h=>⟨ρ,rfl,h⟩
 |d::ds,hs,ρ,h=>by
  obtain⟨ρ1,ρ2,h1,h2,h3⟩:=hs d List.mem_cons_self ρ h
  obtain⟨ρ',h4,h5⟩:=vk ds (λe he=>hs e (List.mem_cons_of_mem _ he)) ρ2 h3
  refine⟨ρ',?_,h5⟩
  show ((asgD t d ρ).bind λρ1=>(s ρ1).bind λfl=>_)=_
  rw[h1]
  show ((s ρ1).bind λfl=>_)=_
  rw[h2]
  exact h4
theorem kn {p:List Nat}{t:OT}:∀(pre tl:List OT),gets (pre++t::tl) pre.length p=t.get p
 | [],tl=>by simp[gets]
 |a::pre,tl=>by simp only[List.cons_append,List.length_cons,gets];exact kn pre tl
theorem Ww {f:Int->Int}{x:Int}{q:SI}{rows:List (Int×List Str)}(h:Run f x q rows){n:Str}(hn:n∈nms q):∃L,lookS (endsS [] rows) n=some L/\zI n rows≠[]/\maxI (zI n rows)=L:=by
 obtain⟨r0,hr0,hn0⟩:=qL h hn
 obtain⟨L,hL,_⟩:=Y2 h hr0 hn0 []
 have hA:∃r∈rows,n∈r.2/\r.1=L:=by
  rcases uD rows [] n L hL with z | z
  ·simp[lookS] at z
  ·exact z
 have hB:∀r∈rows,n∈r.2->r.1<=L:=λr hr h'=>by
  obtain⟨L',h1,h2⟩:=Y2 h hr h' []
  rw[hL] at h1;cases h1
  exact h2
 have hm:L∈zI n rows:=mem_served.mpr hA
 have hne:zI n rows≠[]:=λz=>by rw[z] at hm;cases hm
 obtain⟨m1,m2⟩:=wV hne
 refine⟨L,hL,hne,?_⟩
 have g1:=m2 L hm
 obtain⟨r,hr,hy,e⟩:=mem_served.mp m1
 have g2:=hB r hr hy
 omega
theorem YD {s1 b:SD}{ρ ρ':EnvD}{r:Option Fl}(h:s1 ρ=some (.next ρ'))(k:b ρ'=r):sSeq s1 b ρ=r:=by
 unfold sSeq;rw[h];exact k
theorem eq_int (v:Int)(neg:Bool):fEq neg (.int v) (.int v)=some (.bl (if neg then false else true)):=by
 have:=wI (neg:=neg) (x:=.int v) (y:=.int v) jm jm (by decide) (by decide) (ja v v)
 cases neg<;>simpa using this
theorem QB {g:EnvD->Option OT}{t:OT}{i:Nat}{b:SD}{ρ:EnvD}{r:Option Fl}(h:g ρ=some t)(k:b (ρ.set i (some (.tre t)))=r):sSeq (sSetT i g) b ρ=r:=by
 refine YD (ρ':=ρ.set i (some (.tre t))) ?_ k
 rw[Rk,h];rfl
theorem Zq (v:Str):∀(rows:List (Int×List Str)),compD (.name 0) (gb' (g2 (fIn false) (gr 1) (g2 fItem (gr 0) (gc (.int 1))))) kI [none,some (.val (.str v))] (rows.map rnD)=some ((zI v rows).map D.int)
 | []=>by simp[zI]
 |r::rows=>by
  have ih:=Zq v rows
  have i0:fItem (rnD r) (.int 0)=some (.int r.1):=by simp[rnD]
  have i1:fItem (rnD r) (.int 1)=some (.lst (r.2.map D.str)):=by simp[rnD]
  have e4:fIn false (.str v) (.lst (r.2.map D.str))=some (.bl (decide (v∈r.2))):=qN
  simp only[List.map_cons,yw,ih]
  by_cases h:v∈r.2
  ·have:zI v (r::rows)=r.1::zI v rows:=by simp[zI,h]
   rw[this]
   simp[h] at e4
   simp[i0,i1,e4,kI]
  ·have:zI v (r::rows)=zI v rows:=by simp[zI,h]
   rw[this]
   simp[h] at e4
   simp[i1,e4]
theorem W1 (L:Int):∀(rows:List (Int×List Str)),compD (.name 0) (gb' (g2 fLe (g2 fItem (gr 0) (gc (.int 0))) (gr 1))) uS [none,some (.val (.int L))] (rows.map rnD)=some ((rowsTo L rows).map rnD)
 | []=>by simp[rowsTo]
 |r::rows=>by
  have ih:=W1 L rows
  have i0:fItem (rnD r) (.int 0)=some (.int r.1):=by simp[rnD]
  simp only[List.map_cons,yw,ih]
  by_cases h:r.1<=L
  ·have:rowsTo L (r::rows)=r::rowsTo L rows:=by simp[rowsTo,h]
   rw[this]
   simp[i0,h,uS]
  ·have:rowsTo L (r::rows)=rowsTo L rows:=by simp[rowsTo,h]
   rw[this]
   simp[i0,h]
def oE (Q H:D)(b:Int)(n:Str)(O:List D)(L:Int)(U:List D)(a8 a9 a10 a11:Option En):EnvD :=
 [some (.val Q),some (.val H),some (.val (.int b)),some (.val (.str n)),some (.val (.lst O)),some (.val (.int L)),some (.val (.lst U)),some (.val (.int L)),a8,a9,a10,a11]
theorem Ro (C:Addr){Q H:D}{b L k:Int}{n:Str}{O:List D}{pre:List (Int×List Str)}{r:Int×List Str}(hok:∀w∈pre++[r],∀y∈w.2,Ok y)(hl:(pre++[r]).length<=5000)
  (ew:xx C [.val Q,.val H,.val (.int b),.val (.str n)]=some (.tre (rowsT (pre++[r])))) (a9 a10 a11:Option En) :
  jh C (oE Q H b n O L ((pre++[r]).map rnD) (some (.val (.int k))) a9 a10 a11)=some (.next (oE Q H b n O L ((pre++[r]).map rnD) (some (.val (.int k))) (some (.tre (.lst []))) a10 a11)):=by
 have e1:=jU (pre++[r])
 have e2:=GU (neg:=true) (xs:=pre++[r]) (ys:=pre++[r]) hok hok
 simp only[decide_true,Bool.not_true,if_true] at e2
 have hT:(pre++[r]).length<=TOP:=by simp[TOP];simp at hl;omega
 unfold jh
 refine QB (t:=rowsT (pre++[r])) (by simp[oE,ew]) ?_
 refine jq (by rw[show (List.map rnD (pre++[r]))=List.map rnD pre++[rnD r] from by simp] at e1 e2;simp[oE,e1,e2,sL]) ?_
 have g1:(rowsT (pre++[r])).get [pre.length,1]=some (.lst (lfs (r.2.map D.str))):=by
  show gets ((pre++[r]).map rnT) pre.length [1]=_
  have:(pre++[r]).map rnT=pre.map rnT++rnT r::[]:=by simp
  rw[this]
  have:=kn (p:=[1]) (t:=rnT r) (pre.map rnT) []
  rw[List.length_map] at this
  rw[this]
  simp[rnT,OT.get,gets]
 have g0:(rowsT (pre++[r])).get []=some (rowsT (pre++[r])):=rfl
 have s0:OT.size (rowsT (pre++[r]))=some (pre.length+1):=by simp[rowsT,OT.size]
 have g2:(rowsT (pre++[r])).get [pre.length]=some (rnT r):=by
  show gets ((pre++[r]).map rnT) pre.length []=_
  have:(pre++[r]).map rnT=pre.map rnT++rnT r::[]:=by simp
  rw[this]
  have:=kn (p:=[]) (t:=rnT r) (pre.map rnT) []
  rw[List.length_map] at this
  rw[this]
  simp[OT.get]
 have s2:OT.size (rnT r)=some 2:=by simp[rnT,OT.size]
 have x1:ixN (pre.length+1) (-1)=some pre.length:=by unfold ixN;simp;omega
 have x2:ixN 2 1=some 1:=by decide
 generalize hZ:rowsT (pre++[r])=Z at *
 have hz2:∃ts,Z.put [pre.length,1] (.lst (lfs []))=.lst ts:=by rw[<-hZ];exact⟨_,rfl⟩
 obtain⟨ts,hts⟩:=hz2
 simp[oE,sSeq,g0,s0,x1,g2,s2,x2,g1,mClear,hts,sClrT]
theorem U7 (C:Addr){Q H:D}{b L t:Int}{n:Str}{O U:List D}(es:yd C [.val Q,.val H,.val (.int b),.val (.str n),.val (.int t),.val (.lst U)]=some (.val (.bl (decide (L=t)))))(a8 a9 a11:Option En) :
  ∃b11:Option En,jn C (oE Q H b n O L U a8 a9 (some (.val (.int t))) a11)=some (.next (oE Q H b n O L U a8 a9 (some (.val (.int t))) b11)):=by
 have sB:subT "bool" "bool" = some true:=by decide
 have e1:fEq false (.int t) (.int L)=some (.bl (decide (L=t))):=by
  have:=wI (neg:=false) (x:=.int t) (y:=.int L) jm jm (by decide) (by decide) (ja t L)
  have h2:decide (t=L)=decide (L=t):=by
   by_cases h:t=L
   ·simp[h]
   ·have h':¬L=t:=λz=>h z.symm
    simp[h,h']
  simpa[h2] using this
 refine⟨some (.val (.bl (decide (L=t)))),?_⟩
 unfold jn
 refine yj (d:=.bl (decide (L=t))) (by simp[oE,es]) ?_
 have e2:∀B:Bool,fEq true (.bl B) (.bl B)=some (.bl false):=λB=>by cases B<;>rfl
 have e3:=e2 (decide (L=t))
 generalize decide (L=t)=B at *
 simp[oE,sB,e1,e3]
theorem Ga (C:Addr){Q H:D}{b L:Int}{n:Str}{out:List (Int×List Str)}{pre:List (Int×List Str)}{r:Int×List Str}(hO:out.length<=5000)(hU:rowsTo L out=pre++[r])(hok:∀w∈pre++[r],∀y∈w.2,Ok y)(hS:zI n out≠[])(hM:maxI (zI n out)=L)
  (el:yA C [.val Q,.val H,.val (.int b),.val (.str n)]=some (.val (.int L))) (ew:xx C [.val Q,.val H,.val (.int b),.val (.str n)]=some (.tre (rowsT (pre++[r]))))
  (es:∀t:Int,yd C [.val Q,.val H,.val (.int b),.val (.str n),.val (.int t),.val (.lst ((pre++[r]).map rnD))]=some (.val (.bl (decide (L=t))))) :
  yQ C [.val Q,.val H,.val (.int b),.val (.str n),.val (.lst (out.map rnD))]=some (.val (.bl true)):=by
 have hT:(out.map rnD).length<=TOP:=by simp[TOP];omega
 have hUl:(pre++[r]).length<=5000:=by rw[<-hU];exact Nat.le_trans (List.length_filter_le _ _) hO
 have c1:=Zq n out
 have c2:=W1 L out
 rw[hU] at c2
 have ei:=YM (zI n out)
 have hSe:(zI n out).isEmpty=false:=by cases h:zI n out with | nil=>exact (hS h).elim | cons=>rfl
 have ewh:=WP L
 have e3:=eq_int L true
 simp at e3
 have hB:-BIG<=(2:Int)/\(2:Int)<=BIG:=by unfold BIG;omega
 have t4:4<=TOP:=by decide
 have key:vR C [some (.val Q),some (.val H),some (.val (.int b)),some (.val (.str n)),some (.val (.lst (out.map rnD))),none,none,none,none,none,none,none]=some (.ret (.val (.bl true))):=by
  generalize hOd:out.map rnD=O at *
  generalize hUd:(pre++[r]).map rnD=U at *
  obtain⟨ρ',f1,x8,x9,i1⟩:=vk (t:=.name 8) (s:=jh C) (I:=λρ=>∃x8 x9:Option En,ρ=oE Q H b n O L U x8 x9 none none) [.int 0,.int 1] (λd hd ρ hi=>by
   obtain⟨x8,x9,rfl⟩:=hi
   have:∃k:Int,d=.int k:=by
    rcases List.mem_cons.mp hd with rfl | hd
    ·exact⟨_,rfl⟩
    ·rcases List.mem_cons.mp hd with rfl | hd
     ·exact⟨_,rfl⟩
     ·cases hd
   obtain⟨k,rfl⟩:=this
   have p:=Ro C (O:=O) (L:=L) (k:=k) hok hUl ew x9 none none
   rw[hUd] at p
   exact⟨_,_,rfl,p,_,_,rfl⟩) (oE Q H b n O L U none none none none) ⟨_,_,rfl⟩
  subst i1
  obtain⟨ρ',f2,x10,x11,i2⟩:=vk (t:=.name 10) (s:=jn C) (I:=λρ=>∃x10 x11:Option En,ρ=oE Q H b n O L U x8 x9 x10 x11) [.int (L - 1),.int L,.int (L+1),.int b] (λd hd ρ hi=>by
   obtain⟨x10,x11,rfl⟩:=hi
   have:∃k:Int,d=.int k:=by
    simp only[List.mem_cons,List.not_mem_nil,or_false] at hd
    rcases hd with rfl | rfl | rfl | rfl<;>exact⟨_,rfl⟩
   obtain⟨k,rfl⟩:=this
   obtain⟨b11,p⟩:=U7 C (O:=O) (L:=L) (es k) x8 x9 x11
   exact⟨_,_,rfl,p,_,_,rfl⟩) (oE Q H b n O L U x8 x9 none none) ⟨_,_,rfl⟩
  subst i2
  unfold vR
  refine yj (d:=.int L) (by simp[hT,capE,capO,c1,ei,hSe,hS,hM]) ?_
  refine yj (d:=.lst U) (by simp[hT,capE,capO,c2]) ?_
  refine yj (d:=.int L) (by simp[el]) ?_
  refine jq (by simp[ewh,e3]) ?_
  refine vC (ds:=[.int 0,.int 1]) (by simp[hB,rngD]) (ρ':=oE Q H b n O L U x8 x9 none none) f1 ?_
  refine vC (ds:=[.int (L - 1),.int L,.int (L+1),.int b]) (by simp[oE,t4]) (ρ':=oE Q H b n O L U x8 x9 x10 x11) f2 ?_
  simp[oE]
 simp[yQ,mir,stE,wv,key]
section
variable (C:Addr){rest:Int}{ks:List HM.Row}{b0:Int}{q:SI}{out:List (Int×List Str)}{n:Str}
theorem Jw (F:HOk rest ks)(hR:Run (atR rest ks) b0 q out)(o1:∀r∈out,(∀y∈r.2,Ok y)/\r.2.length<=100)(o2:out.length<=5000)(ho:∀t∈q,Ok t.1)(hl:q.length<=60)(hn:NameOk n)(hin:n∈nms q)
  (o3:yf C [.val (.lst (q.map tkD)),.val (hoursD C rest ks),.val (.int b0),.val .non]=some (.tre (rowsT out))) :
  yQ C [.val (.lst (q.map tkD)),.val (hoursD C rest ks),.val (.int b0),.val (.str n),.val (.lst (out.map rnD))]=some (.val (.bl true)):=by
 obtain⟨L,hL,hS,hM⟩:=Ww hR hin
 have hm:L∈zI n out:=by rw[<-hM];exact (wV hS).1
 have hm2:∀a∈zI n out,a<=L:=by rw[<-hM];exact (wV hS).2
 have hne:rowsTo L out≠[]:=by
  obtain⟨r0,g1,g2,g3⟩:=mem_served.mp hm
  intro z
  have:r0∈rowsTo L out:=by simp[rowsTo,g1,g3]
  rw[z] at this;cases this
 obtain⟨q',pre,r,hw,hdue,hr,hnr,hnq⟩:=(Q1 (rows':=rowsTo L out) hR hin hm hm2 L).mpr ⟨hne,rfl,rfl⟩
 have hok:∀w∈pre++[r],∀y∈w.2,Ok y:=λw hw y hy=>by
  rw[<-hdue] at hw
  exact (o1 w (List.mem_filter.mp (show w∈List.filter _ out from hw)).1).1 y hy
 have ea:=WV C o1 o2 o3
 have el:=Jt C ho hn hin ea hL
 have ew:=Kq C o2 el o3
 rw[hdue] at ew hw
 refine Ga C o2 hdue hok hS hM el ew λt=>?_
 have es:=V5 C (turn:=t) F.pos (λr hr=>(F.pos r hr).2) (by have:=F.lo;omega) ho hok (by omega) hn hw
 rw[es]
 unfold showsL
 rw[List.getLast?_concat]
 simp[hr,hnr,hnq]
end
section
variable (X0 X1 X2 X3 X4 X5 X8 X10 X11 X12 X13 X14:Option En)
theorem Zf (v:Int):∀(xs:List Str)(d:SI)(a:Option En),d.length+xs.length<=1000000->∃a':Option En,
  forD (.name 9) kG (xs.map D.str) [X0,X1,X2,X3,X4,X5,some (.dct none (kv d)),some (.val (.int v)),X8,a,X10,X11,X12,X13,X14]=some (.next [X0,X1,X2,X3,X4,X5,some (.dct none (kv (xs.foldl (λd n=>putS d n v) d))),some (.val (.int v)),X8,a',X10,X11,X12,X13,X14])
 | [],d,a,_=>⟨a,by simp⟩
 |x::xs,d,a,hl=>by
  simp only[List.length_cons] at hl
  have hz:(kv d).length < sizeLine:=by rw[VJ,sizeLine_eq];omega
  have hp:=Vb x v d
  have h2:=qY x v d
  obtain⟨a',p⟩:=Zf v xs (putS d x v) (some (.val (.str x))) (by omega)
  refine⟨a',?_⟩
  rw[List.foldl_cons,<-p]
  simp[kG,hz,hp]
end
section
variable (X0 X1 X2 X3 X4 X5 X10 X11 X12 X13 X14:Option En)
theorem Ym:∀(rows:List (Int×List Str))(d:SI)(a b c:Option En),(∀r∈rows,r.2.length<=100)->d.length+100 * rows.length<=1000000->∃a' b' c':Option En,
  forD (.tup [7,8]) kJ (rows.map rnD) [X0,X1,X2,X3,X4,X5,some (.dct none (kv d)),a,b,c,X10,X11,X12,X13,X14]=some (.next [X0,X1,X2,X3,X4,X5,some (.dct none (kv (endsS d rows))),a',b',c',X10,X11,X12,X13,X14])
 | [],d,a,b,c,_,_=>⟨a,b,c,by simp[endsS]⟩
 |r::rows,d,a,b,c,h,hl=>by
  simp only[List.length_cons] at hl
  have hr:=h r List.mem_cons_self
  obtain⟨c1,p1⟩:=Zf X0 X1 X2 X3 X4 X5 (some (.val (.lst (r.2.map D.str)))) X10 X11 X12 X13 X14 r.1 r.2 d c (by omega)
  have h2:=uX r.1 r.2 d
  obtain⟨a',b',c',p⟩:=Ym rows (r.2.foldl (λd n=>putS d n r.1) d) (some (.val (.int r.1))) (some (.val (.lst (r.2.map D.str)))) c1 (λu hu=>h u (List.mem_cons_of_mem _ hu)) (by omega)
  refine⟨a',b',c',?_⟩
  rw[show endsS d (r::rows)=endsS (r.2.foldl (λd n=>putS d n r.1) d) rows from rfl,<-p]
  simp[kJ,rnD,asgD,yh,p1]
end
def lJ (ns:List Int)(HR Q:D)(b:Int)(H:D)(O:List D)(E:List (Key×D))(z:Int)(a7 a8 a9 a13 a14:Option En):EnvD :=
 [some (.val (.scr ns)),some (.val HR),some (.val Q),some (.val (.int b)),some (.val H),some (.val (.lst O)),some (.dct none E),a7,a8,a9,some (.val Q),some (.dct none []),some (.val (.int z)),a13,a14]
section
variable {ns:List Int}{HR Q H:D}{b z:Int}{O:List D}{E:List (Key×D)}
theorem zad (C:Addr){n:Str}{v:D}(e1:yQ C [.val Q,.val H,.val (.int b),.val (.str n),.val (.lst O)]=some (.val (.bl true)))(e2:fEq true Q Q=some (.bl false))(a7 a8 a14:Option En) :
  je C (lJ ns HR Q b H O E z a7 a8 (some (.val (.str n))) (some (.val v)) a14)=some (.next (lJ ns HR Q b H O E z a7 a8 (some (.val (.str n))) (some (.val v)) a14)):=by
 simp[je,lJ,e1,e2]
theorem Qa (C:Addr){L:List D}(hQ:Q=.lst L)(hT:L.length<=TOP){c:Int}{xs:List D}{n:Str}(ex:yz [.val (.int c),.val (.int (1+c % 8))]=some (.acc xs))(hx:atI xs (-1)=some (.str n))
  (hh:lookD E (.inr n)=none->xq [.val Q,.val H,.val (.int b),.val (.str n)]=some (.val (.bl true))/\yd C [.val Q,.val H,.val (.int b),.val (.str n),.val (.int z),.val (.lst O)]=some (.val (.bl false))) (a7 a8 a9 a13:Option En) :
  vX C (lJ ns HR Q b H O E z a7 a8 a9 a13 (some (.val (.int c))))=some (.next (lJ ns HR Q b H O E z a7 a8 (some (.val (.str n))) a13 (some (.val (.int c))))):=by
 have h8:0 < (8:Int):=by omega
 have hi:fItem (.lst xs) (.int (-1))=some (.str n):=by simp[hx]
 unfold vX
 refine yj (d:=.str n) (by simp[lJ,zL h8,ex,hx]) ?_
 cases hE:lookD E (.inr n) with
 |some d=>simp[lJ,hE]
 |none=>
  obtain⟨h1,h2⟩:=hh hE
  subst hQ
  simp[lJ,hE,h1,h2,hT]
end
theorem WW {f:Int->Int}:∀(k:Nat){rows:List (Int×List Str)}{x:Int}{q:SI},Run f x q rows->k<=rows.length->walk f x q (rows.take k)=some (adv f x q k)
 |0,rows,x,q,h,hk=>by simp[walk,adv]
 |k+1,rows,x,q,h,hk=>by
  cases h with
  |nil=>simp at hk
  |cons hq hr=>
   have ih:=WW k hr (by simpa using hk)
   simp only[List.take_succ_cons,walk]
   rw[if_neg (by simp[hq])]
   exact ih
theorem GH {f:Int->Int}{rows:List (Int×List Str)}{x:Int}{q:SI}(h:Run f x q rows):walk f x q rows=some []:=by
 have e:=WW rows.length h (Nat.le_refl _)
 rw[List.take_length,(VI h).1] at e
 exact e
theorem Rj (C:Addr)(ns:List Int)(hl:ns.length<=63):ZS C [.val (.scr ns)]=some (.val (.bl true)):=by
 obtain⟨rs,rest,F,tot,eh⟩:=Qi ns
 obtain⟨q,hq,eq⟩:=Ku ns
 obtain⟨b,hb,eb⟩:=QH ns
 obtain⟨out,o1,o2,o3,o4⟩:=JG F hb hq.pos hq.ok hq.len hq.sum tot
 have hfun:atR rest (krows rest rs)=atR rest rs:=funext F.at
 obtain⟨out',p1,p2,p3,p4⟩:=Jv C F.hok hb hq.pos hq.ok hq.len hq.sum
 have ed:out'=out:=by
  rw[hfun] at p2
  have:∀ {r1 r2:List (Int×List Str)} {x:Int} {q:SI},Run (atR rest rs) x q r1->Run (atR rest rs) x q r2->r1=r2:=by
   intro r1
   induction r1 with
   |nil=>intro r2 x q h1 h2;cases h1;cases h2 with | nil=>rfl | cons hq _=>exact (hq rfl).elim
   |cons a r1 ih=>intro r2 x q h1 h2;cases h1 with | cons hq h1=>cases h2 with | nil=>exact (hq rfl).elim | cons _ h2=>rw[ih h1 h2]
  exact this p2 o2
 subst ed
 have hok:∀x∈nms q,Ok x:=λx hx=>by obtain⟨t,ht,rfl⟩:=List.mem_map.mp hx;exact hq.ok t ht
 have oo:∀r∈out',∀y∈r.2,Ok y:=λr hr=>(p1 r hr).1
 have eqq:=Vn (neg:=true) hq.ok hq.ok
 simp only[decide_true,if_true,Bool.not_true] at eqq
 have ei:=QE C F.good F.len F.lo F.hi F.pos
 have hQ:(q.map tkD).length<=TOP:=by have:=hq.len;simp[TOP];omega
 have hO:(out'.map rnD).length<=TOP:=by simp[TOP];omega
 have hrl:(rs.map rowD).length<=TOP:=by have:=F.len;simp[TOP];omega
 have ela:=WV C p1 p3 p4
 have ead:=Qz C p3 p4
 have nde:=Ys out' [] (by simp[keysS])
 have ak:=Za (endsS [] out')
 have es:=Gb nde
 have ewh:=WP (b+out'.length - 1)
 have ez:=eq_int (b+out'.length - 1) true
 simp at ez
 obtain⟨a7,a8,a9,f1⟩:=Ym (some (.val (.scr ns))) (some (.val (hrD rs rest))) (some (.val (.lst (q.map tkD)))) (some (.val (.int b))) (some (.val (hoursD C rest (krows rest rs)))) (some (.val (.lst (out'.map rnD)))) none none none none none out' [] none none none (λr hr=>(p1 r hr).2) (by simp;omega)
 obtain⟨A,cA,lA,mA⟩:=WY tkD q none (some 2)
 obtain⟨A2,cA2,lA2,mA2⟩:=WY tkD q (some (-2)) none
 obtain⟨cs,hcs⟩:∃cs:List Int,cutD ns (some 7) (some 10)=cs:=⟨_,rfl⟩
 have hcl:cs.length<=ns.length:=by rw[<-hcs];unfold Dv.cutD;simp;omega
 have tA:(A.map tkD).length+(A2.map tkD).length<=TOP:=by have:=hq.len;simp[TOP];omega
 have tA1:(A.map tkD).length<=TOP:=by omega
 have tA2:(A2.map tkD).length<=TOP:=by omega
 have w1:1<=TOP:=by decide
 have w2:cs.length+1<=TOP:=by simp[TOP];omega
 have hright:∀t∈q,yQ C [.val (.lst (q.map tkD)),.val (hoursD C rest (krows rest rs)),.val (.int b),.val (.str t.1),.val (.lst (out'.map rnD))]=some (.val (.bl true)):=λt ht=>
  Jw C F.hok p2 p1 p3 hq.ok hq.len (hq.nam t ht) (List.mem_map.mpr ⟨t,ht,rfl⟩) p4
 have hmiss:∀n:Str,NameOk n->lookD (kv (endsS [] out')) (.inr n)=none->xq [.val (.lst (q.map tkD)),.val (hoursD C rest (krows rest rs)),.val (.int b),.val (.str n)]=some (.val (.bl true)) /\
   yd C [.val (.lst (q.map tkD)),.val (hoursD C rest (krows rest rs)),.val (.int b),.val (.str n),.val (.int (b+out'.length - 1)),.val (.lst (out'.map rnD))]=some (.val (.bl false)):=λn hn hE=>by
  have hnq:n∉nms q:=λz=>by
   obtain⟨L,hL,_⟩:=Ww p2 z
   have hk:=qJ n (endsS [] out')
   rw[hL,hE] at hk
   cases hk
  refine⟨Qm hq.ok hn hq.len hnq,?_⟩
  have es:=V5 C (turn:=b+out'.length - 1) F.hok.pos (λr hr=>(F.hok.pos r hr).2) (by have:=F.hok.lo;omega) hq.ok oo (by have:=hq.len;omega) hn (GH p2)
  rw[es]
  unfold showsL
  rcases List.eq_nil_or_concat out' with h | ⟨pre,r,h⟩
  ·rw[h];rfl
  ·rw[List.concat_eq_append] at h
   have hr:n∉r.2:=uI p2 hnq r (by rw[h];simp)
   rw[h,List.getLast?_concat]
   simp[hr]
 obtain⟨ρ1,f2,y9,y13,i1⟩:=vk (t:=.tup [9,13]) (s:=je C) (I:=λρ=>∃y9 y13:Option En,ρ=lJ ns (hrD rs rest) (.lst (q.map tkD)) b (hoursD C rest (krows rest rs)) (out'.map rnD) (kv (endsS [] out')) (b+out'.length - 1) a7 a8 y9 y13 none) ((A++A2).map tkD) (λd hd ρ hi=>by
  obtain⟨t,ht,rfl⟩:=List.mem_map.mp hd
  obtain⟨y9,y13,rfl⟩:=hi
  have htq:t∈q:=by
   rcases List.mem_append.mp ht with z | z
   ·exact mA t z
   ·exact mA2 t z
  exact⟨_,_,rfl,zad C (v:=.int t.2) (hright t htq) eqq a7 a8 none,_,_,rfl⟩) (lJ ns (hrD rs rest) (.lst (q.map tkD)) b (hoursD C rest (krows rest rs)) (out'.map rnD) (kv (endsS [] out')) (b+out'.length - 1) a7 a8 a9 none none) ⟨_,_,rfl⟩
 subst i1
 obtain⟨ρ2,f3,z9,z14,i2⟩:=vk (t:=.name 14) (s:=vX C) (I:=λρ=>∃z9 z14:Option En,ρ=lJ ns (hrD rs rest) (.lst (q.map tkD)) b (hoursD C rest (krows rest rs)) (out'.map rnD) (kv (endsS [] out')) (b+out'.length - 1) a7 a8 z9 y13 z14) ((cs++[4]).map D.int) (λd hd ρ hi=>by
  obtain⟨c,_,rfl⟩:=List.mem_map.mp hd
  obtain⟨z9,z14,rfl⟩:=hi
  have hc0:0<=c % 8:=Int.emod_nonneg _ (by omega)
  have hc1:c % 8 < 8:=Int.emod_lt_of_pos _ (by omega)
  obtain⟨mn,hmn⟩:∃mn:Nat,1+c % 8=(mn:Int):=⟨(1+c % 8).toNat,by omega⟩
  obtain⟨xs,x1,x2,x3,x4⟩:=Ws c mn (by omega)
  rcases List.eq_nil_or_concat xs with h | ⟨pre,n,h⟩
  ·rw[h] at x3;simp at x3;omega
  ·rw[List.concat_eq_append] at h
   have hx:atI (xs.map D.str) (-1)=some (.str n):=by rw[h,List.map_append];exact vn
   rw[<-hmn] at x4
   exact⟨_,_,rfl,Qa C rfl hQ x4 hx (hmiss n (x1 n (by rw[h];simp))) a7 a8 z9 y13,_,_,rfl⟩) (lJ ns (hrD rs rest) (.lst (q.map tkD)) b (hoursD C rest (krows rest rs)) (out'.map rnD) (kv (endsS [] out')) (b+out'.length - 1) a7 a8 y9 y13 none) ⟨_,_,rfl⟩
 subst i2
 have g:jS C [some (.val (.scr ns)),none,none,none,none,none,none,none,none,none,none,none,none,none,none]=some (.ret (.val (.bl true))):=by
  unfold jS
  refine yj (d:=hrD rs rest) (by simp[eh]) ?_
  refine yj (d:=.lst (q.map tkD)) (by generalize q.map tkD=QQ at *;simp[eq]) ?_
  refine yj (d:=.int b) (by simp[eb]) ?_
  refine yj (d:=hoursD C rest (krows rest rs)) (by
   unfold hrD hoursD
   generalize rs.map rowD=RR at *
   generalize (spans 0 (krows rest rs)).map spanD=SS at *
   simp[hrl,ei]) ?_
  refine yj (d:=.lst (out'.map rnD)) (by
   generalize q.map tkD=QQ at *
   generalize out'.map rnD=OO at *
   simp[o4]) ?_
  refine Z3 (kvs:=[]) (by rfl) ?_
  refine vC (ds:=out'.map rnD) (by simp) f1 ?_
  generalize hoursD C rest (krows rest rs)=HH at *
  generalize hrD rs rest=HR at *
  generalize hEd:kv (endsS [] out')=EE at *
  refine yj (d:=.lst (q.map tkD)) (by generalize q.map tkD=QQ at *;simp[hQ]) ?_
  refine Z3 (kvs:=EE) (by generalize q.map tkD=QQ at *;simp[ela]) ?_
  refine jq (by generalize q.map tkD=QQ at *;simp[ak,es,eqq]) ?_
  refine YD (ρ':=[some (.val (.scr ns)),some (.val HR),some (.val (.lst (q.map tkD))),some (.val (.int b)),some (.val HH),some (.val (.lst (out'.map rnD))),some (.dct none EE),a7,a8,a9,some (.val (.lst (q.map tkD))),some (.dct none []),none,none,none]) (by simp[sClrD]) ?_
  refine yj (d:=.int (b+out'.length - 1)) (by generalize q.map tkD=QQ at *;simp[hQ,ead]) ?_
  refine jq (by
   generalize q.map tkD=QQ at *
   have hO':out'.length<=TOP:=by simpa using hO
   simp[hQ,ela,ak,es,ewh,hO',ez]) ?_
  refine vC (ds:=(A++A2).map tkD) (by
   generalize q.map tkD=QQ at *
   rw[List.map_append]
   generalize A.map tkD=AA at *
   generalize A2.map tkD=BB at *
   simp[cA,cA2,tA1,tA2,tA]) f2 ?_
  refine vC (ds:=(cs++[4]).map D.int) (by simp[lJ,hcs,w1,w2]) f3 ?_
  simp[lJ]
 simp[ZS,mir,stE,jj,g]
end My
namespace My
open PySem PySem.Spec L2 L3 L4 L6 Dv
open PyProof.Rows hiding St
def spOut (K:PySem.W.Frag):Sp:=λvs H Q _=>∃(a:Addr)(ns:List Int),vs=[.ref a]/\SqL K H a (ns.map V.int)/\ns.length<=63/\∀H',Q (.bl true) H'
theorem UF {P:Program}{w:World}{K:PySem.W.Frag}{mg:Str->Option Value}{base:Heap}{k:Nat}{f:Addr}{fd:FuncData}{ps:List Str}{m:List En->Option En}(h:FnOk P w K mg base CX0 k f fd ps (pSp ⟨K,w⟩ 1 (len? 1 m)))
  (hm:∀ns:List Int,ns.length<=63->m [.val (.scr ns)]=some (.val (.bl true))):FnOk P w K mg base CX0 k f fd ps (spOut K) :=
 h.imp λvs H Q E ⟨a,ns,e,hs,hl,q⟩=>⟨H,[.val (.scr ns)],.val (.bl true),Same.refl _,rfl,by subst e;exact .cons ⟨a,rfl,hs⟩ .nil,hm ns hl,λv F' H' _ r=>by cases r;exact q H'⟩
set_option maxHeartbeats 0 in
theorem all_mk {l:PySem.W.OpenLaw}{w:World}{K:PySem.W.Frag}{h:Heap}{mg:Str->Option Value}{fa C:Addr}(X:K.In h)(G:h.Ns mainGlobals mg)(hfa:mg "law" = some (.ref fa))
  {f0:Addr} {od0 an0:Option Addr} {sl0:Array (Option Value)} {oc0 kV0 dc0 pm0 cd0 ct0:Value}
  {f1:Addr} {od1 an1:Option Addr} {sl1:Array (Option Value)} {oc1 kV1 dc1 pm1 cd1 ct1:Value}
  {f2:Addr} {od2 an2:Option Addr} {sl2:Array (Option Value)} {oc2 kV2 dc2 pm2 cd2 ct2:Value}
  {f3:Addr} {od3 an3:Option Addr} {sl3:Array (Option Value)} {oc3 kV3 dc3 pm3 cd3 ct3:Value}
  {f4:Addr} {od4 an4:Option Addr} {sl4:Array (Option Value)} {oc4 kV4 dc4 pm4 cd4 ct4:Value}
  {f5:Addr} {od5 an5:Option Addr} {sl5:Array (Option Value)} {oc5 kV5 dc5 pm5 cd5 ct5:Value}
  {f6:Addr} {od6 an6:Option Addr} {sl6:Array (Option Value)} {oc6 kV6 dc6 pm6 cd6 ct6:Value}
  {f7:Addr} {od7 an7:Option Addr} {sl7:Array (Option Value)} {oc7 kV7 dc7 pm7 cd7 ct7:Value}
  {f8:Addr} {od8 an8:Option Addr} {sl8:Array (Option Value)} {oc8 kV8 dc8 pm8 cd8 ct8:Value}
  {f9:Addr} {od9 an9:Option Addr} {sl9:Array (Option Value)} {oc9 kV9 dc9 pm9 cd9 ct9:Value}
  {f10:Addr} {od10 an10:Option Addr} {sl10:Array (Option Value)} {oc10 kV10 dc10 pm10 cd10 ct10:Value}
  {f11:Addr} {od11 an11:Option Addr} {sl11:Array (Option Value)} {oc11 kV11 dc11 pm11 cd11 ct11:Value}
  {f12:Addr} {od12 an12:Option Addr} {sl12:Array (Option Value)} {oc12 kV12 dc12 pm12 cd12 ct12:Value}
  {td12:Addr} {ot12:Value} {ou12:Option Addr} {ow12:Array (Option Value)} {on12:Nat}
  {f13:Addr} {od13 an13:Option Addr} {sl13:Array (Option Value)} {oc13 kV13 dc13 pm13 cd13 ct13:Value}
  {f14:Addr} {od14 an14:Option Addr} {sl14:Array (Option Value)} {oc14 kV14 dc14 pm14 cd14 ct14:Value}
  {f15:Addr} {od15 an15:Option Addr} {sl15:Array (Option Value)} {oc15 kV15 dc15 pm15 cd15 ct15:Value}
  {f16:Addr} {od16 an16:Option Addr} {sl16:Array (Option Value)} {oc16 kV16 dc16 pm16 cd16 ct16:Value}
  {f17:Addr} {od17 an17:Option Addr} {sl17:Array (Option Value)} {oc17 kV17 dc17 pm17 cd17 ct17:Value}
  {f18:Addr} {od18 an18:Option Addr} {sl18:Array (Option Value)} {oc18 kV18 dc18 pm18 cd18 ct18:Value}
  {f19:Addr} {od19 an19:Option Addr} {sl19:Array (Option Value)} {oc19 kV19 dc19 pm19 cd19 ct19:Value}
  {f20:Addr} {od20 an20:Option Addr} {sl20:Array (Option Value)} {oc20 kV20 dc20 pm20 cd20 ct20:Value}
  {f21:Addr} {od21 an21:Option Addr} {sl21:Array (Option Value)} {oc21 kV21 dc21 pm21 cd21 ct21:Value}
  {f22:Addr} {od22 an22:Option Addr} {sl22:Array (Option Value)} {oc22 kV22 dc22 pm22 cd22 ct22:Value}
  {f23:Addr} {od23 an23:Option Addr} {sl23:Array (Option Value)} {oc23 kV23 dc23 pm23 cd23 ct23:Value}
  {f24:Addr} {od24 an24:Option Addr} {sl24:Array (Option Value)} {oc24 kV24 dc24 pm24 cd24 ct24:Value}
  {f25:Addr} {od25 an25:Option Addr} {sl25:Array (Option Value)} {oc25 kV25 dc25 pm25 cd25 ct25:Value}
  {f26:Addr} {od26 an26:Option Addr} {sl26:Array (Option Value)} {oc26 kV26 dc26 pm26 cd26 ct26:Value}
  {f27:Addr} {od27 an27:Option Addr} {sl27:Array (Option Value)} {oc27 kV27 dc27 pm27 cd27 ct27:Value}
  {f28:Addr} {od28 an28:Option Addr} {sl28:Array (Option Value)} {oc28 kV28 dc28 pm28 cd28 ct28:Value}
  {f29:Addr} {od29 an29:Option Addr} {sl29:Array (Option Value)} {oc29 kV29 dc29 pm29 cd29 ct29:Value}
  {f30:Addr} {od30 an30:Option Addr} {sl30:Array (Option Value)} {oc30 kV30 dc30 pm30 cd30 ct30:Value}
  {f31:Addr} {od31 an31:Option Addr} {sl31:Array (Option Value)} {oc31 kV31 dc31 pm31 cd31 ct31:Value}
  {f32:Addr} {od32 an32:Option Addr} {sl32:Array (Option Value)} {oc32 kV32 dc32 pm32 cd32 ct32:Value}
  {f33:Addr} {od33 an33:Option Addr} {sl33:Array (Option Value)} {oc33 kV33 dc33 pm33 cd33 ct33:Value}
  {CT HE fI:Addr} {ddT:Option Addr} {cdT:ClassData} {k0T k1T k2T k3T k5T:Option Value} {bmT:List Value} {odI anI:Option Addr} {slI:Array (Option Value)} {kVI dcI pmI cdI ctI:Value}
  {t_FIGURES:Tok}
  {t_LETTERS:Tok}
  {t_MOST_COUNTERS:Tok}
  {t_MOST_ROWS:Tok}
  {t_MOST_SIGNS:Tok}
  {t_MOST_TURNS:Tok}
  (aC:PySem.W.nsIn K mainGlobals "Hours" = some (some (.ref C)))
  (a0:PySem.W.nsIn K mainGlobals "is_whole" = some (some (.ref f0)))
  (l0:K.lookup f0=some ⟨oc0,od0,.func (PySem.W.fnOf "is_whole" "is_whole" (zm wm) (zi wm) (zd wm) .none kV0 dc0 pm0 an0 cd0 ct0),sl0⟩)
  (c0:PySem.W.codeIn K cd0 "is_whole" = true)
  (k0:PySem.W.keepIn K (.ref f0)=true)
  (a1:PySem.W.nsIn K mainGlobals "is_number" = some (some (.ref f1)))
  (l1:K.lookup f1=some ⟨oc1,od1,.func (PySem.W.fnOf "is_number" "is_number" (zm wy) (zi wy) (zd wy) .none kV1 dc1 pm1 an1 cd1 ct1),sl1⟩)
  (c1:PySem.W.codeIn K cd1 "is_number" = true)
  (k1:PySem.W.keepIn K (.ref f1)=true)
  (a2:PySem.W.nsIn K mainGlobals "is_name" = some (some (.ref f2)))
  (l2:K.lookup f2=some ⟨oc2,od2,.func (PySem.W.fnOf "is_name" "is_name" (zm xN) (zi xN) (zd xN) .none kV2 dc2 pm2 an2 cd2 ct2),sl2⟩)
  (c2:PySem.W.codeIn K cd2 "is_name" = true)
  (k2:PySem.W.keepIn K (.ref f2)=true)
  (a3:PySem.W.nsIn K mainGlobals "is_row" = some (some (.ref f3)))
  (l3:K.lookup f3=some ⟨oc3,od3,.func (PySem.W.fnOf "is_row" "is_row" (zm wd) (zi wd) (zd wd) .none kV3 dc3 pm3 an3 cd3 ct3),sl3⟩)
  (c3:PySem.W.codeIn K cd3 "is_row" = true)
  (k3:PySem.W.keepIn K (.ref f3)=true)
  (a4:PySem.W.nsIn K mainGlobals "check_hours" = some (some (.ref f4)))
  (l4:K.lookup f4=some ⟨oc4,od4,.func (PySem.W.fnOf "check_hours" "check_hours" (zm xj) (zi xj) (zd xj) .none kV4 dc4 pm4 an4 cd4 ct4),sl4⟩)
  (c4:PySem.W.codeIn K cd4 "check_hours" = true)
  (k4:PySem.W.keepIn K (.ref f4)=true)
  (a5:PySem.W.nsIn K mainGlobals "kept_rows" = some (some (.ref f5)))
  (l5:K.lookup f5=some ⟨oc5,od5,.func (PySem.W.fnOf "kept_rows" "kept_rows" (zm wx) (zi wx) (zd wx) .none kV5 dc5 pm5 an5 cd5 ct5),sl5⟩)
  (c5:PySem.W.codeIn K cd5 "kept_rows" = true)
  (k5:PySem.W.keepIn K (.ref f5)=true)
  (a6:PySem.W.nsIn K mainGlobals "spans_of" = some (some (.ref f6)))
  (l6:K.lookup f6=some ⟨oc6,od6,.func (PySem.W.fnOf "spans_of" "spans_of" (zm wn) (zi wn) (zd wn) .none kV6 dc6 pm6 an6 cd6 ct6),sl6⟩)
  (c6:PySem.W.codeIn K cd6 "spans_of" = true)
  (k6:PySem.W.keepIn K (.ref f6)=true)
  (a7:PySem.W.findIn K (.ref C) "__init__" = some (some (.ref f7)))
  (i7:PySem.W.isFn K (.ref f7)=true)
  (l7:K.lookup f7=some ⟨oc7,od7,.func (PySem.W.fnOf "__init__" "Hours.__init__" (zm xY) (zi xY) (zd xY) .none kV7 dc7 pm7 an7 cd7 ct7),sl7⟩)
  (c7:PySem.W.codeIn K cd7 "Hours.__init__" = true)
  (k7:PySem.W.keepIn K (.ref f7)=true)
  (a8:PySem.W.findIn K (.ref C) "at" = some (some (.ref f8)))
  (i8:PySem.W.isFn K (.ref f8)=true)
  (l8:K.lookup f8=some ⟨oc8,od8,.func (PySem.W.fnOf "at" "Hours.at" (zm wj) (zi wj) (zd wj) .none kV8 dc8 pm8 an8 cd8 ct8),sl8⟩)
  (c8:PySem.W.codeIn K cd8 "Hours.at" = true)
  (k8:PySem.W.keepIn K (.ref f8)=true)
  (a9:PySem.W.nsIn K mainGlobals "names_of" = some (some (.ref f9)))
  (l9:K.lookup f9=some ⟨oc9,od9,.func (PySem.W.fnOf "names_of" "names_of" (zm xA) (zi xA) (zd xA) .none kV9 dc9 pm9 an9 cd9 ct9),sl9⟩)
  (c9:PySem.W.codeIn K cd9 "names_of" = true)
  (k9:PySem.W.keepIn K (.ref f9)=true)
  (a10:PySem.W.nsIn K mainGlobals "place_of" = some (some (.ref f10)))
  (l10:K.lookup f10=some ⟨oc10,od10,.func (PySem.W.fnOf "place_of" "place_of" (zm xh) (zi xh) (zd xh) .none kV10 dc10 pm10 an10 cd10 ct10),sl10⟩)
  (c10:PySem.W.codeIn K cd10 "place_of" = true)
  (k10:PySem.W.keepIn K (.ref f10)=true)
  (a11:PySem.W.nsIn K mainGlobals "turn_served" = some (some (.ref f11)))
  (l11:K.lookup f11=some ⟨oc11,od11,.func (PySem.W.fnOf "turn_served" "turn_served" (zm xu) (zi xu) (zd xu) .none kV11 dc11 pm11 an11 cd11 ct11),sl11⟩)
  (c11:PySem.W.codeIn K cd11 "turn_served" = true)
  (k11:PySem.W.keepIn K (.ref f11)=true)
  (a12:PySem.W.nsIn K mainGlobals "run_of" = some (some (.ref f12)))
  (l12:K.lookup f12=some ⟨oc12,od12,.func (PySem.W.fnOf "run_of" "run_of" (zm yH) (zi yH) (zd yH) (.ref td12) kV12 dc12 pm12 an12 cd12 ct12),sl12⟩)
  (t12:K.lookup td12=some ⟨ot12,ou12,.seq #[.none] on12,ow12⟩)
  (c12:PySem.W.codeIn K cd12 "run_of" = true)
  (k12:PySem.W.keepIn K (.ref f12)=true)
  (a13:PySem.W.nsIn K mainGlobals "ends_of" = some (some (.ref f13)))
  (l13:K.lookup f13=some ⟨oc13,od13,.func (PySem.W.fnOf "ends_of" "ends_of" (zm wD) (zi wD) (zd wD) .none kV13 dc13 pm13 an13 cd13 ct13),sl13⟩)
  (c13:PySem.W.codeIn K cd13 "ends_of" = true)
  (k13:PySem.W.keepIn K (.ref f13)=true)
  (a14:PySem.W.nsIn K mainGlobals "walk_run" = some (some (.ref f14)))
  (l14:K.lookup f14=some ⟨oc14,od14,.func (PySem.W.fnOf "walk_run" "walk_run" (zm wu) (zi wu) (zd wu) .none kV14 dc14 pm14 an14 cd14 ct14),sl14⟩)
  (c14:PySem.W.codeIn K cd14 "walk_run" = true)
  (k14:PySem.W.keepIn K (.ref f14)=true)
  (a15:PySem.W.nsIn K mainGlobals "latest_all" = some (some (.ref f15)))
  (l15:K.lookup f15=some ⟨oc15,od15,.func (PySem.W.fnOf "latest_all" "latest_all" (zm wG) (zi wG) (zd wG) .none kV15 dc15 pm15 an15 cd15 ct15),sl15⟩)
  (c15:PySem.W.codeIn K cd15 "latest_all" = true)
  (k15:PySem.W.keepIn K (.ref f15)=true)
  (a16:PySem.W.nsIn K mainGlobals "latest_of" = some (some (.ref f16)))
  (l16:K.lookup f16=some ⟨oc16,od16,.func (PySem.W.fnOf "latest_of" "latest_of" (zm xo) (zi xo) (zd xo) .none kV16 dc16 pm16 an16 cd16 ct16),sl16⟩)
  (c16:PySem.W.codeIn K cd16 "latest_of" = true)
  (k16:PySem.W.keepIn K (.ref f16)=true)
  (a17:PySem.W.nsIn K mainGlobals "witness_run" = some (some (.ref f17)))
  (l17:K.lookup f17=some ⟨oc17,od17,.func (PySem.W.fnOf "witness_run" "witness_run" (zm yS) (zi yS) (zd yS) .none kV17 dc17 pm17 an17 cd17 ct17),sl17⟩)
  (c17:PySem.W.codeIn K cd17 "witness_run" = true)
  (k17:PySem.W.keepIn K (.ref f17)=true)
  (a18:PySem.W.nsIn K mainGlobals "shows_latest" = some (some (.ref f18)))
  (l18:K.lookup f18=some ⟨oc18,od18,.func (PySem.W.fnOf "shows_latest" "shows_latest" (zm wa) (zi wa) (zd wa) .none kV18 dc18 pm18 an18 cd18 ct18),sl18⟩)
  (c18:PySem.W.codeIn K cd18 "shows_latest" = true)
  (k18:PySem.W.keepIn K (.ref f18)=true)
  (a19:PySem.W.nsIn K mainGlobals "all_done" = some (some (.ref f19)))
  (l19:K.lookup f19=some ⟨oc19,od19,.func (PySem.W.fnOf "all_done" "all_done" (zm wo) (zi wo) (zd wo) .none kV19 dc19 pm19 an19 cd19 ct19),sl19⟩)
  (c19:PySem.W.codeIn K cd19 "all_done" = true)
  (k19:PySem.W.keepIn K (.ref f19)=true)
  (a20:PySem.W.nsIn K mainGlobals "_law_cell" = some (some (.ref f20)))
  (l20:K.lookup f20=some ⟨oc20,od20,.func (PySem.W.fnOf "_law_cell" "_law_cell" (zm wC) (zi wC) (zd wC) .none kV20 dc20 pm20 an20 cd20 ct20),sl20⟩)
  (c20:PySem.W.codeIn K cd20 "_law_cell" = true)
  (k20:PySem.W.keepIn K (.ref f20)=true)
  (a21:PySem.W.nsIn K mainGlobals "_law_whole" = some (some (.ref f21)))
  (l21:K.lookup f21=some ⟨oc21,od21,.func (PySem.W.fnOf "_law_whole" "_law_whole" (zm we) (zi we) (zd we) .none kV21 dc21 pm21 an21 cd21 ct21),sl21⟩)
  (c21:PySem.W.codeIn K cd21 "_law_whole" = true)
  (k21:PySem.W.keepIn K (.ref f21)=true)
  (a22:PySem.W.nsIn K mainGlobals "_law_stir" = some (some (.ref f22)))
  (l22:K.lookup f22=some ⟨oc22,od22,.func (PySem.W.fnOf "_law_stir" "_law_stir" (zm wK) (zi wK) (zd wK) .none kV22 dc22 pm22 an22 cd22 ct22),sl22⟩)
  (c22:PySem.W.codeIn K cd22 "_law_stir" = true)
  (k22:PySem.W.keepIn K (.ref f22)=true)
  (a23:PySem.W.nsIn K mainGlobals "_law_row" = some (some (.ref f23)))
  (l23:K.lookup f23=some ⟨oc23,od23,.func (PySem.W.fnOf "_law_row" "_law_row" (zm wf) (zi wf) (zd wf) .none kV23 dc23 pm23 an23 cd23 ct23),sl23⟩)
  (c23:PySem.W.codeIn K cd23 "_law_row" = true)
  (k23:PySem.W.keepIn K (.ref f23)=true)
  (a24:PySem.W.nsIn K mainGlobals "_law_names" = some (some (.ref f24)))
  (l24:K.lookup f24=some ⟨oc24,od24,.func (PySem.W.fnOf "_law_names" "_law_names" (zm yN) (zi yN) (zd yN) .none kV24 dc24 pm24 an24 cd24 ct24),sl24⟩)
  (c24:PySem.W.codeIn K cd24 "_law_names" = true)
  (k24:PySem.W.keepIn K (.ref f24)=true)
  (a25:PySem.W.nsIn K mainGlobals "_law_hours" = some (some (.ref f25)))
  (l25:K.lookup f25=some ⟨oc25,od25,.func (PySem.W.fnOf "_law_hours" "_law_hours" (zm yY) (zi yY) (zd yY) .none kV25 dc25 pm25 an25 cd25 ct25),sl25⟩)
  (c25:PySem.W.codeIn K cd25 "_law_hours" = true)
  (k25:PySem.W.keepIn K (.ref f25)=true)
  (a26:PySem.W.nsIn K mainGlobals "_law_queue" = some (some (.ref f26)))
  (l26:K.lookup f26=some ⟨oc26,od26,.func (PySem.W.fnOf "_law_queue" "_law_queue" (zm xt) (zi xt) (zd xt) .none kV26 dc26 pm26 an26 cd26 ct26),sl26⟩)
  (c26:PySem.W.codeIn K cd26 "_law_queue" = true)
  (k26:PySem.W.keepIn K (.ref f26)=true)
  (a27:PySem.W.nsIn K mainGlobals "_law_begin" = some (some (.ref f27)))
  (l27:K.lookup f27=some ⟨oc27,od27,.func (PySem.W.fnOf "_law_begin" "_law_begin" (zm xX) (zi xX) (zd xX) .none kV27 dc27 pm27 an27 cd27 ct27),sl27⟩)
  (c27:PySem.W.codeIn K cd27 "_law_begin" = true)
  (k27:PySem.W.keepIn K (.ref f27)=true)
  (a28:PySem.W.nsIn K mainGlobals "_law_at" = some (some (.ref f28)))
  (l28:K.lookup f28=some ⟨oc28,od28,.func (PySem.W.fnOf "_law_at" "_law_at" (zm wA) (zi wA) (zd wA) .none kV28 dc28 pm28 an28 cd28 ct28),sl28⟩)
  (c28:PySem.W.codeIn K cd28 "_law_at" = true)
  (k28:PySem.W.keepIn K (.ref f28)=true)
  (a29:PySem.W.nsIn K mainGlobals "_law_turn" = some (some (.ref f29)))
  (l29:K.lookup f29=some ⟨oc29,od29,.func (PySem.W.fnOf "_law_turn" "_law_turn" (zm xi) (zi xi) (zd xi) .none kV29 dc29 pm29 an29 cd29 ct29),sl29⟩)
  (c29:PySem.W.codeIn K cd29 "_law_turn" = true)
  (k29:PySem.W.keepIn K (.ref f29)=true)
  (a30:PySem.W.nsIn K mainGlobals "_law_run" = some (some (.ref f30)))
  (l30:K.lookup f30=some ⟨oc30,od30,.func (PySem.W.fnOf "_law_run" "_law_run" (zm wL) (zi wL) (zd wL) .none kV30 dc30 pm30 an30 cd30 ct30),sl30⟩)
  (c30:PySem.W.codeIn K cd30 "_law_run" = true)
  (k30:PySem.W.keepIn K (.ref f30)=true)
  (a31:PySem.W.nsIn K mainGlobals "_law_one_right" = some (some (.ref f31)))
  (l31:K.lookup f31=some ⟨oc31,od31,.func (PySem.W.fnOf "_law_one_right" "_law_one_right" (zm yM) (zi yM) (zd yM) .none kV31 dc31 pm31 an31 cd31 ct31),sl31⟩)
  (c31:PySem.W.codeIn K cd31 "_law_one_right" = true)
  (k31:PySem.W.keepIn K (.ref f31)=true)
  (a32:PySem.W.nsIn K mainGlobals "_law_refused" = some (some (.ref f32)))
  (l32:K.lookup f32=some ⟨oc32,od32,.func (PySem.W.fnOf "_law_refused" "_law_refused" (zm wH) (zi wH) (zd wH) .none kV32 dc32 pm32 an32 cd32 ct32),sl32⟩)
  (c32:PySem.W.codeIn K cd32 "_law_refused" = true)
  (k32:PySem.W.keepIn K (.ref f32)=true)
  (a33:PySem.W.nsIn K mainGlobals "law" = some (some (.ref f33)))
  (l33:K.lookup f33=some ⟨oc33,od33,.func (PySem.W.fnOf "law" "law" (zm yB) (zi yB) (zd yB) .none kV33 dc33 pm33 an33 cd33 ct33),sl33⟩)
  (c33:PySem.W.codeIn K cd33 "law" = true)
  (k33:PySem.W.keepIn K (.ref f33)=true)
  (pg:PySem.W.plainGet K C Str.empty=true)
  (hd:PySem.W.hasDictIn K C=true)
  (po:PySem.W.plainOver K C=true)
  (sa:PySem.W.findIn K (.ref C) "__setattr__" = some (some (.builtin "object.__setattr__")))
  (mk:PySem.W.makesIn K C=true)
  (kc:PySem.W.keepIn K (.ref C)=true)
  (n_kept_rest:PySem.W.findIn K (.ref C) "kept_rest" = some none)
  (n_spans:PySem.W.findIn K (.ref C) "spans" = some none)
  (xT:PySem.W.nsIn K mainGlobals "NoTicket" = some (some (.ref CT)))
  (xH:PySem.W.nsIn K mainGlobals "HallError" = some (some (.ref HE)))
  (xl:K.lookup CT=some ⟨.type "type",ddT,.cls cdT,#[k0T,k1T,k2T,k3T,some (.builtin "ValueError.__new__"),k5T]⟩)
  (xmr:cdT.mro=.ref CT::bmT)
  (xdl:cdT.hasDel=false)
  (xtl:PySem.W.tailIn K vB bmT=true)
  (xok:PySem.W.nsOkIn K cdT.ns=true)
  (xin:PySem.W.nsIn K cdT.ns "__init__" = some (some (.ref fI)))
  (xli:K.lookup fI=some ⟨.type "function",odI,.func (PySem.W.fnOf "__init__" "NoTicket.__init__" (zm w9) (zi w9) (zd w9) .none kVI dcI pmI anI cdI ctI),slI⟩)
  (xci:PySem.W.codeIn K cdI "NoTicket.__init__" = true)
  (xki:PySem.W.keepIn K (.ref fI)=true)
  (xkp:PySem.W.keepIn K (.ref CT)=true)
  (xsa:PySem.W.findIn K (.ref CT) "__setattr__" = some (some (.builtin "object.__setattr__")))
  (xtk:PySem.W.takerIn K CT "name" = some none)
  (xhd:PySem.W.hasDictIn K CT=true)
  (xsub:PySem.W.subIn K (.ref CT) (.type "BaseException")=some true)
  (xsubH:PySem.W.subIn K (.ref CT) (.ref HE)=some true)
  (xga:PySem.W.findIn K (.ref CT) "__getattribute__" = some (some (.builtin "BaseException.__getattribute__")))
  (xgt:PySem.W.findIn K (.ref CT) "__getattr__" = some none)
  (xna:PySem.W.findIn K (.ref CT) "name" = some none)
  (xrd:PySem.W.readsIn K HE (.type "type")=true)
  (xfc:PySem.W.findCls K (.ref HE) (.type "type") "__init__" = some (.val (.builtin "ValueError.__init__")))
  (xsp:PySem.W.specialIn K (.ref HE) "__getattribute__" = some (some (.builtin "type.__getattribute__")))
  (xse:PySem.W.subIn K (.ref CT) (.ref CT)=some true)
  (xnt:PySem.W.instIn K (.ref CT) (.type "tuple")=some false)
  (xcl:PySem.W.isClsIn K CT=true)
  (xntH:PySem.W.instIn K (.ref HE) (.type "tuple")=some false)
  (xclH:PySem.W.isClsIn K HE=true)
  (xexH:PySem.W.subIn K (.ref HE) (.type "BaseException")=some true)
  (xtyH:PySem.W.typeIn K (.ref HE)=some (.type "type"))
  (b_all:PySem.W.nsIn K mainGlobals "all" = some none)
  (b_bool:PySem.W.nsIn K mainGlobals "bool" = some none)
  (b_dict:PySem.W.nsIn K mainGlobals "dict" = some none)
  (b_enumerate:PySem.W.nsIn K mainGlobals "enumerate" = some none)
  (b_int:PySem.W.nsIn K mainGlobals "int" = some none)
  (b_isinstance:PySem.W.nsIn K mainGlobals "isinstance" = some none)
  (b_len:PySem.W.nsIn K mainGlobals "len" = some none)
  (b_list:PySem.W.nsIn K mainGlobals "list" = some none)
  (b_max:PySem.W.nsIn K mainGlobals "max" = some none)
  (b_range:PySem.W.nsIn K mainGlobals "range" = some none)
  (b_str:PySem.W.nsIn K mainGlobals "str" = some none)
  (b_tuple:PySem.W.nsIn K mainGlobals "tuple" = some none)
  (c_FIGURES:PySem.W.nsIn K mainGlobals "FIGURES" = some (some (.str "0123456789" t_FIGURES)))
  (c_LETTERS:PySem.W.nsIn K mainGlobals "LETTERS" = some (some (.str "abcdefghijklmnopqrstuvwxyz" t_LETTERS)))
  (c_MOST_COUNTERS:PySem.W.nsIn K mainGlobals "MOST_COUNTERS" = some (some (.int 8 t_MOST_COUNTERS)))
  (c_MOST_ROWS:PySem.W.nsIn K mainGlobals "MOST_ROWS" = some (some (.int 16 t_MOST_ROWS)))
  (c_MOST_SIGNS:PySem.W.nsIn K mainGlobals "MOST_SIGNS" = some (some (.int 8 t_MOST_SIGNS)))
  (c_MOST_TURNS:PySem.W.nsIn K mainGlobals "MOST_TURNS" = some (some (.int 100 t_MOST_TURNS)))
  : ∃fd:FuncData,(∀(s:Shared) (v:Value),BindsTo s fd ⟨[v],[]⟩ [("_law_script",v)])/\∀base:Heap,K.In base->base.Ns mainGlobals mg->FnOk l.prog w K mg base CX0 8 fa fd ["_law_script"] (spOut K):=by
 have e:=hfa.symm.trans (PySem.W.mg_of X G a33)
 cases e
 have T:Txt K mg C:=⟨⟨pg,hd,po,sa⟩,n_kept_rest,n_spans,PySem.W.mg_none_of X G b_all,PySem.W.mg_none_of X G b_bool,PySem.W.mg_none_of X G b_dict,PySem.W.mg_none_of X G b_enumerate,PySem.W.mg_none_of X G b_int,PySem.W.mg_none_of X G b_isinstance,PySem.W.mg_none_of X G b_len,PySem.W.mg_none_of X G b_list,PySem.W.mg_none_of X G b_max,PySem.W.mg_none_of X G b_range,PySem.W.mg_none_of X G b_str,PySem.W.mg_none_of X G b_tuple,⟨_,PySem.W.mg_of X G c_FIGURES⟩,⟨_,PySem.W.mg_of X G c_LETTERS⟩,⟨_,PySem.W.mg_of X G c_MOST_COUNTERS⟩,⟨_,PySem.W.mg_of X G c_MOST_ROWS⟩,⟨_,PySem.W.mg_of X G c_MOST_SIGNS⟩,⟨_,PySem.W.mg_of X G c_MOST_TURNS⟩⟩
 have F0:=zr (st:=wm) l0 c0 k0
 have bb0:=F0.binds (ps:=["thing"]) λ_ _ _ _ _ _ us hl=>match us,hl with | [_],_=>rfl
 have F1:=zr (st:=wy) l1 c1 k1
 have bb1:=F1.binds (ps:=["thing","low","high"]) λ_ _ _ _ _ _ us hl=>match us,hl with | [_,_,_],_=>rfl
 have F2:=zr (st:=xN) l2 c2 k2
 have bb2:=F2.binds (ps:=["thing"]) λ_ _ _ _ _ _ us hl=>match us,hl with | [_],_=>rfl
 have F3:=zr (st:=wd) l3 c3 k3
 have bb3:=F3.binds (ps:=["thing"]) λ_ _ _ _ _ _ us hl=>match us,hl with | [_],_=>rfl
 have F4:=zr (st:=xj) l4 c4 k4
 have bb4:=F4.binds (ps:=["rows","rest"]) λ_ _ _ _ _ _ us hl=>match us,hl with | [_,_],_=>rfl
 have F5:=zr (st:=wx) l5 c5 k5
 have bb5:=F5.binds (ps:=["rows","rest"]) λ_ _ _ _ _ _ us hl=>match us,hl with | [_,_],_=>rfl
 have F6:=zr (st:=wn) l6 c6 k6
 have bb6:=F6.binds (ps:=["rows"]) λ_ _ _ _ _ _ us hl=>match us,hl with | [_],_=>rfl
 have F7:=zr (st:=xY) l7 c7 k7
 have bb7:=F7.binds (ps:=["self","rows","rest"]) λ_ _ _ _ _ _ us hl=>match us,hl with | [_,_,_],_=>rfl
 have F8:=zr (st:=wj) l8 c8 k8
 have bb8:=F8.binds (ps:=["self","turn"]) λ_ _ _ _ _ _ us hl=>match us,hl with | [_,_],_=>rfl
 have F9:=zr (st:=xA) l9 c9 k9
 have bb9:=F9.binds (ps:=["queue"]) λ_ _ _ _ _ _ us hl=>match us,hl with | [_],_=>rfl
 have F10:=zr (st:=xh) l10 c10 k10
 have bb10:=F10.binds (ps:=["queue","name"]) λ_ _ _ _ _ _ us hl=>match us,hl with | [_,_],_=>rfl
 have F11:=zr (st:=xu) l11 c11 k11
 have bb11:=F11.binds (ps:=["queue","many"]) λ_ _ _ _ _ _ us hl=>match us,hl with | [_,_],_=>rfl
 have F12:=GT (st:=yH) l12 c12 k12
 have bb12:Binds K (PySem.W.fnOf "run_of" "run_of" (zm yH) (zi yH) (zd yH) (.ref td12) kV12 dc12 pm12 an12 cd12 ct12) ["queue","hours","begin","real"] [.none]:=λs us hK hl=>have hl':us.length=3:=(by simpa using hl);match us,hl' with | [_,_,_],_=>BindsTo.of_defaults rfl (hK _ _ t12) rfl rfl rfl
 have F13:=zr (st:=wD) l13 c13 k13
 have bb13:=F13.binds (ps:=["rows"]) λ_ _ _ _ _ _ us hl=>match us,hl with | [_],_=>rfl
 have F14:=zr (st:=wu) l14 c14 k14
 have bb14:=F14.binds (ps:=["queue","hours","begin","rows"]) λ_ _ _ _ _ _ us hl=>match us,hl with | [_,_,_,_],_=>rfl
 have F15:=zr (st:=wG) l15 c15 k15
 have bb15:=F15.binds (ps:=["queue","hours","begin"]) λ_ _ _ _ _ _ us hl=>match us,hl with | [_,_,_],_=>rfl
 have F16:=zr (st:=xo) l16 c16 k16
 have bb16:=F16.binds (ps:=["queue","hours","begin","name"]) λ_ _ _ _ _ _ us hl=>match us,hl with | [_,_,_,_],_=>rfl
 have F17:=zr (st:=yS) l17 c17 k17
 have bb17:=F17.binds (ps:=["queue","hours","begin","name"]) λ_ _ _ _ _ _ us hl=>match us,hl with | [_,_,_,_],_=>rfl
 have F18:=zr (st:=wa) l18 c18 k18
 have bb18:=F18.binds (ps:=["queue","hours","begin","name","turn","rows"]) λ_ _ _ _ _ _ us hl=>match us,hl with | [_,_,_,_,_,_],_=>rfl
 have F19:=zr (st:=wo) l19 c19 k19
 have bb19:=F19.binds (ps:=["queue","hours","begin"]) λ_ _ _ _ _ _ us hl=>match us,hl with | [_,_,_],_=>rfl
 have F20:=zr (st:=wC) l20 c20 k20
 have bb20:=F20.binds (ps:=["_law_script","_law_k"]) λ_ _ _ _ _ _ us hl=>match us,hl with | [_,_],_=>rfl
 have F21:=zr (st:=we) l21 c21 k21
 have bb21:=F21.binds (ps:=["_law_found"]) λ_ _ _ _ _ _ us hl=>match us,hl with | [_],_=>rfl
 have F22:=zr (st:=wK) l22 c22 k22
 have bb22:=F22.binds (ps:=["_law_cell_here","_law_k"]) λ_ _ _ _ _ _ us hl=>match us,hl with | [_,_],_=>rfl
 have F23:=zr (st:=wf) l23 c23 k23
 have bb23:=F23.binds (ps:=["_law_script","_law_at_here","_law_base","_law_count"]) λ_ _ _ _ _ _ us hl=>match us,hl with | [_,_,_,_],_=>rfl
 have F24:=zr (st:=yN) l24 c24 k24
 have bb24:=F24.binds (ps:=["_law_cell_here","_law_many"]) λ_ _ _ _ _ _ us hl=>match us,hl with | [_,_],_=>rfl
 have F25:=zr (st:=yY) l25 c25 k25
 have bb25:=F25.binds (ps:=["_law_script"]) λ_ _ _ _ _ _ us hl=>match us,hl with | [_],_=>rfl
 have F26:=zr (st:=xt) l26 c26 k26
 have bb26:=F26.binds (ps:=["_law_script"]) λ_ _ _ _ _ _ us hl=>match us,hl with | [_],_=>rfl
 have F27:=zr (st:=xX) l27 c27 k27
 have bb27:=F27.binds (ps:=["_law_script"]) λ_ _ _ _ _ _ us hl=>match us,hl with | [_],_=>rfl
 have F28:=zr (st:=wA) l28 c28 k28
 have bb28:=F28.binds (ps:=["_law_rows","_law_rest","_law_turn_here"]) λ_ _ _ _ _ _ us hl=>match us,hl with | [_,_,_],_=>rfl
 have F29:=zr (st:=xi) l29 c29 k29
 have bb29:=F29.binds (ps:=["_law_queue_here","_law_many"]) λ_ _ _ _ _ _ us hl=>match us,hl with | [_,_],_=>rfl
 have F30:=zr (st:=wL) l30 c30 k30
 have bb30:=F30.binds (ps:=["_law_queue_here","_law_hours_here","_law_begin_here"]) λ_ _ _ _ _ _ us hl=>match us,hl with | [_,_,_],_=>rfl
 have F31:=zr (st:=yM) l31 c31 k31
 have bb31:=F31.binds (ps:=["_law_queue_here","_law_room","_law_begin_here","_law_name","_law_rows"]) λ_ _ _ _ _ _ us hl=>match us,hl with | [_,_,_,_,_],_=>rfl
 have F32:=zr (st:=wH) l32 c32 k32
 have bb32:=F32.binds (ps:=["_law_queue_here","_law_room","_law_begin_here","_law_name"]) λ_ _ _ _ _ _ us hl=>match us,hl with | [_,_,_,_],_=>rfl
 have F33:=zr (st:=yB) l33 c33 k33
 have FI:=zr (st:=w9) xli xci xki
 have bbI:=FI.binds (ps:=["self","name"]) λ_ _ _ _ _ _ us hl=>match us,hl with | [_,_],_=>rfl
 have xc:XC K CT HE fI "name" := ⟨⟨ddT,cdT,k0T,k1T,k2T,k3T,k5T,bmT,xl,xmr,xdl,xtl,xok,xin⟩,⟨_,xli,rfl⟩,xkp,xsa,xtk,xhd,xsub,xsubH,xga,xgt,xna,xrd,xfc,xsp⟩
 have xz:PySem.W.kitOne K (.ref CT) (.ref HE)=some true:=J2 xclH xtyH xsubH
 have xzT:PySem.W.kitOne K (.ref CT) (.ref CT)=some true:=G8
 refine⟨PySem.W.fnOf "law" "law" (zm yB) (zi yB) (zd yB) .none kV33 dc33 pm33 an33 cd33 ct33,λs v=>.of_eq rfl,λbase _ _=>?_⟩
 have U:Exc l.prog w K mg base CT HE fI "name" "NoTicket" "HallError" := ⟨xc,⟨xse,xnt,xcl,xsub⟩,⟨xsubH,xntH,xclH,xexH⟩,xz,xzT,PySem.W.mg_of X G xT,PySem.W.mg_of X G xH,⟨_,_,RU (P:=l.prog) (w:=w) (base:=base) FI xc (PySem.W.mg_of X G xH),bbI⟩⟩
 have Hai:Fx l.prog w K mg base "is_whole" 1 1 vi:=⟨f0,_,_,QF (P:=l.prog) (w:=w) (base:=base) T F0,PySem.W.mg_of X G a0,k0,bb0⟩
 have Hag:Fx l.prog w K mg base "is_number" 2 3 xa:=⟨f1,_,_,QL (P:=l.prog) (w:=w) (base:=base) T F1 Hai,PySem.W.mg_of X G a1,k1,bb1⟩
 have Haf:Fx l.prog w K mg base "is_name" 1 1 yG:=⟨f2,_,_,Ub (P:=l.prog) (w:=w) (base:=base) T F2,PySem.W.mg_of X G a2,k2,bb2⟩
 have Hah:Fx l.prog w K mg base "is_row" 3 1 vj:=⟨f3,_,_,Ky (P:=l.prog) (w:=w) (base:=base) T F3 Hag,PySem.W.mg_of X G a3,k3,bb3⟩
 have Had:Fx l.prog w K mg base "check_hours" 4 2 vF:=⟨f4,_,_,K8 (P:=l.prog) (w:=w) (base:=base) T F4 Hag Hah,PySem.W.mg_of X G a4,k4,bb4⟩
 have Haj:Fx l.prog w K mg base "kept_rows" 1 2 vf:=⟨f5,_,_,Qe (P:=l.prog) (w:=w) (base:=base) T F5,PySem.W.mg_of X G a5,k5,bb5⟩
 have Ha3:Fx l.prog w K mg base "spans_of" 1 1 vA:=⟨f6,_,_,U0 (P:=l.prog) (w:=w) (base:=base) T F6,PySem.W.mg_of X G a6,k6,bb6⟩
 have Haa:Kx l.prog w K mg base C "Hours" 5 2 (wM C):=⟨f7,_,_,_,Ud (P:=l.prog) (w:=w) (base:=base) T F7 Ha3 Haj Had,⟨mk,a7,i7,kc⟩,PySem.W.mg_of X G aC,bb7,λa dx xs=>Ri C a dx xs⟩
 have Hab:Mx l.prog w K mg base C "at" 1 2 (xy C):=⟨f8,_,_,RV (P:=l.prog) (w:=w) (base:=base) T F8,⟨a8,i8,k8⟩,bb8⟩
 have Haz:Fx l.prog w K mg base "names_of" 1 1 xQ:=⟨f9,_,_,JS (P:=l.prog) (w:=w) (base:=base) T F9,PySem.W.mg_of X G a9,k9,bb9⟩
 have Ha8:Rx l.prog w K mg base "place_of" CT "name" 3 2 wT:=⟨f10,_,_,GK (P:=l.prog) (w:=w) (base:=base) T F10 U Haf,PySem.W.mg_of X G a10,k10,bb10⟩
 have Ha0:Fx l.prog w K mg base "place_of" 2 2 vd:=⟨f10,_,_,QK (P:=l.prog) (w:=w) (base:=base) T F10 Haf,PySem.W.mg_of X G a10,k10,bb10⟩
 have Ha4:Fx l.prog w K mg base "turn_served" 2 2 yy:=⟨f11,_,_,Gf (P:=l.prog) (w:=w) (base:=base) T F11 Haz,PySem.W.mg_of X G a11,k11,bb11⟩
 have Ha1:FxN l.prog w K mg base "run_of" 3 4 (yf C):=⟨f12,_,_,RF (P:=l.prog) (w:=w) (base:=base) T F12 Ha4 Hab,PySem.W.mg_of X G a12,k12,bb12⟩
 have Hae:Fx l.prog w K mg base "ends_of" 1 1 vw:=⟨f13,_,_,RZ (P:=l.prog) (w:=w) (base:=base) T F13,PySem.W.mg_of X G a13,k13,bb13⟩
 have Ha5:Fx l.prog w K mg base "walk_run" 3 4 (vc C):=⟨f14,_,_,Gu (P:=l.prog) (w:=w) (base:=base) T F14 Ha4 Hab,PySem.W.mg_of X G a14,k14,bb14⟩
 have Hax:Fx l.prog w K mg base "latest_all" 4 3 (yF C):=⟨f15,_,_,Q8 (P:=l.prog) (w:=w) (base:=base) T F15 Hae Ha1,PySem.W.mg_of X G a15,k15,bb15⟩
 have Ha7:Rx l.prog w K mg base "latest_of" CT "name" 4 4 xg:=⟨f16,_,_,Qr (P:=l.prog) (w:=w) (base:=base) T F16 U Ha8,PySem.W.mg_of X G a16,k16,bb16⟩
 have Hay:Fx l.prog w K mg base "latest_of" 5 4 (yA C):=⟨f16,_,_,Gh (P:=l.prog) (w:=w) (base:=base) T F16 Hax Ha0,PySem.W.mg_of X G a16,k16,bb16⟩
 have Ha9:Rx l.prog w K mg base "witness_run" CT "name" 5 4 vp:=⟨f17,_,_,Rh (P:=l.prog) (w:=w) (base:=base) T F17 U Ha7,PySem.W.mg_of X G a17,k17,bb17⟩
 have Ha6:Fx l.prog w K mg base "witness_run" 6 4 (xx C):=⟨f17,_,_,J4 (P:=l.prog) (w:=w) (base:=base) T F17 Ha1 Hay,PySem.W.mg_of X G a17,k17,bb17⟩
 have Ha2:Fx l.prog w K mg base "shows_latest" 4 6 (yd C):=⟨f18,_,_,RG (P:=l.prog) (w:=w) (base:=base) T F18 Haz Haf Ha5,PySem.W.mg_of X G a18,k18,bb18⟩
 have Hac:Fx l.prog w K mg base "all_done" 4 3 (vh C):=⟨f19,_,_,QO (P:=l.prog) (w:=w) (base:=base) T F19 Ha1,PySem.W.mg_of X G a19,k19,bb19⟩
 have Ham:Fx l.prog w K mg base "_law_cell" 1 2 zQ:=⟨f20,_,_,K5 (P:=l.prog) (w:=w) (base:=base) T F20,PySem.W.mg_of X G a20,k20,bb20⟩
 have Haw:Fx l.prog w K mg base "_law_whole" 1 1 xP:=⟨f21,_,_,Uz (P:=l.prog) (w:=w) (base:=base) T F21,PySem.W.mg_of X G a21,k21,bb21⟩
 have Hau:Fx l.prog w K mg base "_law_stir" 1 2 yO:=⟨f22,_,_,U5 (P:=l.prog) (w:=w) (base:=base) T F22,PySem.W.mg_of X G a22,k22,bb22⟩
 have Has:Fx l.prog w K mg base "_law_row" 2 4 yR:=⟨f23,_,_,Uq (P:=l.prog) (w:=w) (base:=base) T F23 Ham Hau,PySem.W.mg_of X G a23,k23,bb23⟩
 have Hao:Fx l.prog w K mg base "_law_names" 2 2 yz:=⟨f24,_,_,KP (P:=l.prog) (w:=w) (base:=base) T F24 Hau,PySem.W.mg_of X G a24,k24,bb24⟩
 have Han:Fx l.prog w K mg base "_law_hours" 3 1 wz:=⟨f25,_,_,JH (P:=l.prog) (w:=w) (base:=base) T F25 Ham Has,PySem.W.mg_of X G a25,k25,bb25⟩
 have Haq:Fx l.prog w K mg base "_law_queue" 3 1 wg:=⟨f26,_,_,UD (P:=l.prog) (w:=w) (base:=base) T F26 Hao Ham Has,PySem.W.mg_of X G a26,k26,bb26⟩
 have Hal:Fx l.prog w K mg base "_law_begin" 2 1 wr:=⟨f27,_,_,GR (P:=l.prog) (w:=w) (base:=base) T F27 Ham,PySem.W.mg_of X G a27,k27,bb27⟩
 have Hak:Fx l.prog w K mg base "_law_at" 1 3 ve:=⟨f28,_,_,GS (P:=l.prog) (w:=w) (base:=base) T F28,PySem.W.mg_of X G a28,k28,bb28⟩
 have Hav:Fx l.prog w K mg base "_law_turn" 1 2 vy:=⟨f29,_,_,KM (P:=l.prog) (w:=w) (base:=base) T F29,PySem.W.mg_of X G a29,k29,bb29⟩
 have Hat:Fx l.prog w K mg base "_law_run" 2 3 vt:=⟨f30,_,_,VZ (P:=l.prog) (w:=w) (base:=base) T F30 Hav Hak,PySem.W.mg_of X G a30,k30,bb30⟩
 have Hap:Fx l.prog w K mg base "_law_one_right" 7 5 (yQ C):=⟨f31,_,_,zaf (P:=l.prog) (w:=w) (base:=base) T F31 Ha2 Ha6 Haw Hay,PySem.W.mg_of X G a31,k31,bb31⟩
 have Har:Fx l.prog w K mg base "_law_refused" 6 4 xq:=⟨f32,_,_,Gz (P:=l.prog) (w:=w) (base:=base) T F32 U Ha7 Ha9,PySem.W.mg_of X G a32,k32,bb32⟩
 exact UF (J8 (P:=l.prog) (w:=w) (base:=base) T F33 Ha2 Har Hao Hap Haw Hax Hac Hat Hal Haq Han Haa) (λns hl=>Rj C ns hl)
theorem walk {l:PySem.W.OpenLaw}{q:Program}{loose:List Str}{XP:(Str->Option Value)->Heap->Prop}{YP:World->Heap->Prop}{d:DefRec}{K:Params->PySem.W.Frag}(hn:l.most=some 63)(hdf:d.params.defaults=[])
  (hY:∀(w:World) (h:Heap),YP w h->(K w.params).In h)
  (F:∀(w:World) (mg:Str->Option Value) (fa:Addr) (h:Heap),(K w.params).In h->h.Ns mainGlobals mg->mg d.name=some (.ref fa) ->
   ∃fd:FuncData,(∀(s:Shared) (u:Value),BindsTo s fd ⟨[u],[]⟩ [("_law_script",u)])/\∀base:Heap,(K w.params).In base->base.Ns mainGlobals mg->FnOk l.prog w (K w.params) mg base CX0 8 fa fd ["_law_script"] (spOut (K w.params))) :
  PySem.W.WalkO q loose XP YP l.row.toRowW d [] (λf vs=>PySem.call f vs) :=
 L2.walk_of (n:=63) (k:=8) (x := "_law_script") (CX:=λ_=>CX0) (sp:=λw=>spOut (K w.params)) hn (by decide) hdf ⟨rfl,by decide,by decide⟩ hY F (λ_ _ a ns hl _ hS=>⟨a,ns,rfl,hS,hl,λ_=>rfl⟩) λ_ _ _ _ _ z=>z
end My
def PySem.W.Fast.tw4256179234378746502:Unit:=()
def PySem.W.Fast.tw16445413332042427708:Unit:=()
def PySem.W.Fast.tw9200865470529694657:Unit:=()
def PySem.W.Fast.tw15209449755916581317:Unit:=()
def PySem.W.Fast.tw10738275866415427080:Unit:=()
def PySem.W.Fast.tw11720186831534885513:Unit:=()
def PySem.W.Fast.tw11849467293952281995:Unit:=()
def PySem.W.Fast.tw8039603748950605004:Unit:=()
def PySem.W.Fast.tw10996010033817275341:Unit:=()
def PySem.W.Fast.tw12750785494293808910:Unit:=()
def PySem.W.Fast.tw5474755364850208115:Unit:=()
def PySem.W.Fast.tw16427544185490929430:Unit:=()
def PySem.W.Fast.tw8572730903311828376:Unit:=()
def PySem.W.Fast.tw15146440041086508505:Unit:=()
def PySem.W.Fast.tw5602156481148510811:Unit:=()
open PySem PySem.W PyProof.Rows
set_option maxRecDepth 100000 in
set_option maxHeartbeats 0 in
theorem PySem.Challenge.cw_latestturn_k31_latest_turns_holds : PySem.Challenge.rw_latestturn_k31_latest_turns.Holds := by
 w_on;o_law;k_head;(case hw=>w_witness2)
 k_fill
 refine My.walk (l:=PySem.Challenge.rw_latestturn_k31_latest_turns) rfl rfl (λw h Y=>PySem.W.kIn_of Y) ?F
 case F=>
  intro w mg fa h KX G hmg
  refine' My.all_mk KX G hmg ?aC ?a0 ?l0 ?c0 ?k0 ?a1 ?l1 ?c1 ?k1 ?a2 ?l2 ?c2 ?k2 ?a3 ?l3 ?c3 ?k3 ?a4 ?l4 ?c4 ?k4 ?a5 ?l5 ?c5 ?k5 ?a6 ?l6 ?c6 ?k6 ?a7 ?i7 ?l7 ?c7 ?k7 ?a8 ?i8 ?l8 ?c8 ?k8 ?a9 ?l9 ?c9 ?k9 ?a10 ?l10 ?c10 ?k10 ?a11 ?l11 ?c11 ?k11 ?a12 ?l12 ?t12 ?c12 ?k12 ?a13 ?l13 ?c13 ?k13 ?a14 ?l14 ?c14 ?k14 ?a15 ?l15 ?c15 ?k15 ?a16 ?l16 ?c16 ?k16 ?a17 ?l17 ?c17 ?k17 ?a18 ?l18 ?c18 ?k18 ?a19 ?l19 ?c19 ?k19 ?a20 ?l20 ?c20 ?k20 ?a21 ?l21 ?c21 ?k21 ?a22 ?l22 ?c22 ?k22 ?a23 ?l23 ?c23 ?k23 ?a24 ?l24 ?c24 ?k24 ?a25 ?l25 ?c25 ?k25 ?a26 ?l26 ?c26 ?k26 ?a27 ?l27 ?c27 ?k27 ?a28 ?l28 ?c28 ?k28 ?a29 ?l29 ?c29 ?k29 ?a30 ?l30 ?c30 ?k30 ?a31 ?l31 ?c31 ?k31 ?a32 ?l32 ?c32 ?k32 ?a33 ?l33 ?c33 ?k33 ?pg ?hd ?po ?sa ?mk ?kc ?n_kept_rest ?n_spans ?xT ?xH ?xl ?xmr ?xdl ?xtl ?xok ?xin ?xli ?xci ?xki ?xkp ?xsa ?xtk ?xhd ?xsub ?xsubH ?xga ?xgt ?xna ?xrd ?xfc ?xsp ?xse ?xnt ?xcl ?xntH ?xclH ?xexH ?xtyH ?b_all ?b_bool ?b_dict ?b_enumerate ?b_int ?b_isinstance ?b_len ?b_list ?b_max ?b_range ?b_str ?b_tuple ?c_FIGURES ?c_LETTERS ?c_MOST_COUNTERS ?c_MOST_ROWS ?c_MOST_SIGNS ?c_MOST_TURNS
  (case aC=>k_is)
  (case a0=>k_is)
  (case l0=>k_is)
  (case c0=>k_is)
  (case k0=>k_is)
  (case a1=>k_is)
  (case l1=>k_is)
  (case c1=>k_is)
  (case k1=>k_is)
  (case a2=>k_is)
  (case l2=>k_is)
  (case c2=>k_is)
  (case k2=>k_is)
  (case a3=>k_is)
  (case l3=>k_is)
  (case c3=>k_is)
  (case k3=>k_is)
  (case a4=>k_is)
  (case l4=>k_is)
  (case c4=>k_is)
  (case k4=>k_is)
  (case a5=>k_is)
  (case l5=>k_is)
  (case c5=>k_is)
  (case k5=>k_is)
  (case a6=>k_is)
  (case l6=>k_is)
  (case c6=>k_is)
  (case k6=>k_is)
  (case a7=>k_is)
  (case i7=>k_is)
  (case l7=>k_is)
  (case c7=>k_is)
  (case k7=>k_is)
  (case a8=>k_is)
  (case i8=>k_is)
  (case l8=>k_is)
  (case c8=>k_is)
  (case k8=>k_is)
  (case a9=>k_is)
  (case l9=>k_is)
  (case c9=>k_is)
  (case k9=>k_is)
  (case a10=>k_is)
  (case l10=>k_is)
  (case c10=>k_is)
  (case k10=>k_is)
  (case a11=>k_is)
  (case l11=>k_is)
  (case c11=>k_is)
  (case k11=>k_is)
  (case a12=>k_is)
  (case l12=>k_is)
  (case t12=>k_is)
  (case c12=>k_is)
  (case k12=>k_is)
  (case a13=>k_is)
  (case l13=>k_is)
  (case c13=>k_is)
  (case k13=>k_is)
  (case a14=>k_is)
  (case l14=>k_is)
  (case c14=>k_is)
  (case k14=>k_is)
  (case a15=>k_is)
  (case l15=>k_is)
  (case c15=>k_is)
  (case k15=>k_is)
  (case a16=>k_is)
  (case l16=>k_is)
  (case c16=>k_is)
  (case k16=>k_is)
  (case a17=>k_is)
  (case l17=>k_is)
  (case c17=>k_is)
  (case k17=>k_is)
  (case a18=>k_is)
  (case l18=>k_is)
  (case c18=>k_is)
  (case k18=>k_is)
  (case a19=>k_is)
  (case l19=>k_is)
  (case c19=>k_is)
  (case k19=>k_is)
  (case a20=>k_is)
  (case l20=>k_is)
  (case c20=>k_is)
  (case k20=>k_is)
  (case a21=>k_is)
  (case l21=>k_is)
  (case c21=>k_is)
  (case k21=>k_is)
  (case a22=>k_is)
  (case l22=>k_is)
  (case c22=>k_is)
  (case k22=>k_is)
  (case a23=>k_is)
  (case l23=>k_is)
  (case c23=>k_is)
  (case k23=>k_is)
  (case a24=>k_is)
  (case l24=>k_is)
  (case c24=>k_is)
  (case k24=>k_is)
  (case a25=>k_is)
  (case l25=>k_is)
  (case c25=>k_is)
  (case k25=>k_is)
  (case a26=>k_is)
  (case l26=>k_is)
  (case c26=>k_is)
  (case k26=>k_is)
  (case a27=>k_is)
  (case l27=>k_is)
  (case c27=>k_is)
  (case k27=>k_is)
  (case a28=>k_is)
  (case l28=>k_is)
  (case c28=>k_is)
  (case k28=>k_is)
  (case a29=>k_is)
  (case l29=>k_is)
  (case c29=>k_is)
  (case k29=>k_is)
  (case a30=>k_is)
  (case l30=>k_is)
  (case c30=>k_is)
  (case k30=>k_is)
  (case a31=>k_is)
  (case l31=>k_is)
  (case c31=>k_is)
  (case k31=>k_is)
  (case a32=>k_is)
  (case l32=>k_is)
  (case c32=>k_is)
  (case k32=>k_is)
  (case a33=>k_is)
  (case l33=>k_is)
  (case c33=>k_is)
  (case k33=>k_is)
  (case pg=>k_is)
  (case hd=>k_is)
  (case po=>k_is)
  (case sa=>k_is)
  (case mk=>k_is)
  (case kc=>k_is)
  (case n_kept_rest=>k_is)
  (case n_spans=>k_is)
  (case xT=>k_is)
  (case xH=>k_is)
  (case xl=>k_is)
  (case xmr=>rfl)
  (case xdl=>rfl)
  (case xtl=>kernel_rfl)
  (case xok=>kernel_rfl)
  (case xin=>k_is)
  (case xli=>k_is)
  (case xci=>k_is)
  (case xki=>k_is)
  (case xkp=>k_is)
  (case xsa=>k_is)
  (case xtk=>k_is)
  (case xhd=>k_is)
  (case xsub=>k_is)
  (case xsubH=>k_is)
  (case xga=>k_is)
  (case xgt=>k_is)
  (case xna=>k_is)
  (case xrd=>k_is)
  (case xfc=>k_is)
  (case xsp=>k_is)
  (case xse=>k_is)
  (case xnt=>k_is)
  (case xcl=>k_is)
  (case xntH=>k_is)
  (case xclH=>k_is)
  (case xexH=>k_is)
  (case xtyH=>k_is)
  (case b_all=>k_is)
  (case b_bool=>k_is)
  (case b_dict=>k_is)
  (case b_enumerate=>k_is)
  (case b_int=>k_is)
  (case b_isinstance=>k_is)
  (case b_len=>k_is)
  (case b_list=>k_is)
  (case b_max=>k_is)
  (case b_range=>k_is)
  (case b_str=>k_is)
  (case b_tuple=>k_is)
  (case c_FIGURES=>k_is)
  (case c_LETTERS=>k_is)
  (case c_MOST_COUNTERS=>k_is)
  (case c_MOST_ROWS=>k_is)
  (case c_MOST_SIGNS=>k_is)
  (case c_MOST_TURNS=>k_is)
#print axioms PySem.Challenge.cw_latestturn_k31_latest_turns_holds
end
